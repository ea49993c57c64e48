/- The document's functions of layer 4, ninth part: Append. -/
import Derived.Test.YtejbelbfmchadaaE10
namespace Go.Proofs.Ytejbelbfmchadaa
open Go.RowKit

theorem app_list (d : List UInt8) (t : ByteArray) : (ByteArray.append ⟨d.toArray⟩ t).data.toList = d ++ t.data.toList := by
  show ((⟨d.toArray⟩ : ByteArray) ++ t).data.toList = _
  simp
theorem app_nil (t : ByteArray) : (ByteArray.append ⟨#[]⟩ t).data.toList = t.data.toList := by
  show ((⟨#[]⟩ : ByteArray) ++ t).data.toList = _
  simp
set_option maxHeartbeats 8000000 in
set_option maxRecDepth 100000 in
theorem rappend_any (w : World) (Z : Nat → Prop) (a : Nat) (st : St) (v : Value) (s t : ByteArray) (hs : s.size ≤ 9223372036854775807) (ht : t.size ≤ 2147483647) (hst : st.steps < 4611686018427387904) (hlo : -1 ≤ st.armed) (hhi : st.armed ≤ 9223372036854775807) (hok : OKf st.size st.fs) (h : RefAt w Z a st v) (hZ : ∀ k, w.heap.size ≤ k → Z k) :
    Calls Try.prog 33 #[.pointer (some ⟨a, 0, none⟩), .string s, .string t] w fun e w' => e = .returned (.int .i64 (appR st s.data.toList t.data.toList).1) ∧ (∃ v', RefAt w' Z a (appR st s.data.toList t.data.toList).2 v') ∧ Only Z w w' := by
  have HD : Hid (RefAt w Z a st v) := h
  have HZ : Hid (∀ k, w.heap.size ≤ k → Z k) := hZ
  have htl : t.data.toList.length = t.size := by simp
  have hfew := hok.few
  have hroom := hok.room
  have hsmall := hok.small
  have hF : freeR st = ((st.size - tot szF st.fs : Nat) : Int) := by unfold freeR; omega
  obtain ⟨F, hFF⟩ : ∃ F, st.size - tot szF st.fs = F := ⟨_, rfl⟩
  have HRM : Hid (∀ x, x = roomE st s.data.toList t.data.toList.length → roomE st s.data.toList t.data.toList.length = x) := fun x h => h.symm
  have hFE : st.size = tot szF st.fs + F := by omega
  have HFE0 : Hid (st.size = tot szF st.fs + F) := hFE
  rw [hFF] at hF
  obtain ⟨p0, cap0, hv⟩ := own_form h.row
  obtain ⟨_, e1, _⟩ := rcell5 h.cells
  rw [hv] at e1
  clear h hZ hFF
  go_enter Try.func33, Try.ntmps33
  go_wp2_with fail
  refine (name_any s w hs).mono ?_
  rintro e w1 ⟨rfl, he⟩
  have he' := he.symm
  subst he'
  go_wp2_with fail
  refine (there_any w Z a st v s HD.out).mono ?_
  rintro e w1 ⟨rfl, he2⟩
  have he2' := he2.symm
  subst he2'
  go_wp2_with fail
  refine (rfree_any w Z a st v HD.out hok).mono ?_
  rintro e w1 ⟨rfl, he3⟩
  have he3' := he3.symm
  subst he3'
  rw [hF]
  cases hn : nmOk s.data.toList with
  | false =>
    have HRE : Hid (roomE st s.data.toList t.data.toList.length = 40) := by show _ = _; simp [roomE, hn]
    go_wp2_with fail
    refine (rstep_any w Z a st v 40 hst hlo hhi HD.out).mono ?_
    rintro e w2 ⟨rfl, hr2, ho2⟩
    have HNE : Hid ((stepR st 40 id).1 ≠ 0) := fun h0 => absurd (step_done (f := id) h0).1 (by decide)
    have HY : Hid (appR st s.data.toList t.data.toList = stepR st 40 id) := by
      show _ = _
      have : appR st s.data.toList t.data.toList = stepR st 40 (appF s.data.toList t.data.toList) := by rw [← HRE.out]; rfl
      rw [this]
      exact step_not HNE.out
    have HRR : Hid (RefAt w2 Z a (stepR st 40 id).2 v) := hr2
    have HO2 : Hid (Only Z w w2) := ho2
    obtain ⟨G, hG⟩ : ∃ G, (stepR st 40 id).1 = G := ⟨_, rfl⟩
    have HG : Hid ((stepR st 40 id).1 = G) := hG
    have hb : (G != 0) = true := by have := HNE.out; rw [hG] at this; simpa using this
    rw [hG]
    clear hG hr2 ho2
    go_wp2
    go_ret
    rw [HY.out, HG.out]
    exact ⟨rfl, ⟨v, HRR.out⟩, HO2.out⟩
  | true =>
    by_cases hfit : F < t.size
    · have hfi : (F : Int) < (t.size : Int) := by omega
      have hfd : decide ((F : Int) < (t.size : Int)) = true := decide_eq_true hfi
      have HRE : Hid (roomE st s.data.toList t.data.toList.length = 42) := by
        have : st.size < tot szF st.fs + t.data.toList.length := by omega
        show _ = _
        unfold roomE
        rw [if_pos hn, if_pos (Or.inl this)]
      go_wp2_with fail
      refine (rstep_any w Z a st v 42 hst hlo hhi HD.out).mono ?_
      rintro e w2 ⟨rfl, hr2, ho2⟩
      have HNE : Hid ((stepR st 42 id).1 ≠ 0) := fun h0 => absurd (step_done (f := id) h0).1 (by decide)
      have HY : Hid (appR st s.data.toList t.data.toList = stepR st 42 id) := by
        show _ = _
        have : appR st s.data.toList t.data.toList = stepR st 42 (appF s.data.toList t.data.toList) := by rw [← HRE.out]; rfl
        rw [this]
        exact step_not HNE.out
      have HRR : Hid (RefAt w2 Z a (stepR st 42 id).2 v) := hr2
      have HO2 : Hid (Only Z w w2) := ho2
      obtain ⟨G, hG⟩ : ∃ G, (stepR st 42 id).1 = G := ⟨_, rfl⟩
      have HG : Hid ((stepR st 42 id).1 = G) := hG
      have hb : (G != 0) = true := by have := HNE.out; rw [hG] at this; simpa using this
      rw [hG]
      clear hG hr2 ho2
      go_wp2
      go_ret
      rw [HY.out, HG.out]
      exact ⟨rfl, ⟨v, HRR.out⟩, HO2.out⟩
    · have hfi : ¬ (F : Int) < (t.size : Int) := by omega
      have hfd : decide ((F : Int) < (t.size : Int)) = false := decide_eq_false hfi
      have hnr : ¬ st.size < tot szF st.fs + t.data.toList.length := by omega
      cases hg : (getL st.fs s.data.toList).isSome with
      | true =>
        have HRE : Hid (roomE st s.data.toList t.data.toList.length = 0) := by
          show _ = _
          unfold roomE
          rw [if_pos hn, if_neg (by rw [hg]; rintro (h | ⟨h, _⟩); exact hnr h; cases h)]
        have HFE : Hid (findE st.fs s.data.toList = 0) := by show _ = _; simp [findE, hn, hg]
        clear hn hg hnr
        go_wp2_with fail
        refine (rstep_any w Z a st v 0 hst hlo hhi HD.out).mono ?_
        rintro e w2 ⟨rfl, hr2, ho2⟩
        have HS0 : Hid ((stepR st 0 id).1 = 0 → (stepR st 0 id).2.fs = st.fs ∧ appR st s.data.toList t.data.toList = (0, { (stepR st 0 id).2 with fs := appF s.data.toList t.data.toList st.fs })) := fun h => by
          have h1 := (step_done (f := appF s.data.toList t.data.toList) h).2
          refine ⟨h1.1, ?_⟩
          rw [← h1.2, ← HRE.out]
          rfl
        have HS1 : Hid ((stepR st 0 id).1 ≠ 0 → appR st s.data.toList t.data.toList = stepR st 0 id) := fun h => by
          rw [← step_not (f := appF s.data.toList t.data.toList) h, ← HRE.out]
          rfl
        obtain ⟨r, hr⟩ : ∃ r, stepR st 0 id = r := ⟨_, rfl⟩
        rw [hr] at hr2 HS0 HS1 ⊢
        obtain ⟨G, st2⟩ := r
        have HR2 : Hid (RefAt w2 Z a st2 v) := hr2
        have HO2 : Hid (Only Z w w2) := ho2
        clear hr hr2 ho2
        by_cases hG : G = 0
        · obtain ⟨hf2', hs2⟩ := HS0.out hG
          have hf2 : st2.fs = st.fs := hf2'
          have hb : (G != 0) = false := by simp [hG]
          rw [← hf2] at hs2
          have HZ2 : Hid (∀ k, w2.heap.size ≤ k → Z k) := fun k hk => HZ.out k (Nat.le_trans HO2.out.size hk)
          obtain ⟨j, hj, hjn, hjf⟩ := found (HFE.out)
          simp only [← hf2] at hj hjn hjf
          obtain ⟨nm, dt, sf, hx⟩ : ∃ nm dt sf, st2.fs[j] = (nm, (dt, sf)) := ⟨_, _, _, rfl⟩
          rw [hx] at hjf hjn
          simp only at hjn
          have HX : Hid (appR st s.data.toList t.data.toList = (0, { st2 with fs := putL st2.fs s.data.toList (dt ++ t.data.toList, sf) })) := by
            show _ = _
            rw [hs2]
            simp only [appF, hjf]
          have HFL : Hid (st2.fs.length < 1000) := by show _ < _; rw [hf2]; omega
          have hdl : dt.length ≤ 1048576 := by
            have := hok.len (p := (nm, (dt, sf))) (by rw [← hf2, ← hx]; exact List.getElem_mem hj)
            have := hok.small
            simp only at *
            omega
          have HPK : Hid (∀ w', Below w2.heap.size w2 w' → Calls Try.prog 53 #[.pointer (some ⟨a, 0, none⟩), .string s] w' fun e w'' => e = .returned (.int .i64 (j : Int)) ∧ w'' = w') := fun w' hb => place_known _ Z a st2 v s (HR2.out.later hb) hj (by rw [hx]; exact hjn)
          have hrow := HR2.out.row
          obtain ⟨p, cap, rfl⟩ := own_form hrow
          obtain ⟨c0, c1, c2, c3, c4, cf⟩ := rcell5 HR2.out.cells
          obtain ⟨g, rfl, d0, d1, d2⟩ := row_at hrow hj
          rw [hx] at d0 d1 d2
          simp only at d0 d1 d2
          rw [hjn, str_arr] at d0
          obtain ⟨L, hL⟩ : ∃ L, st2.fs.length = L := ⟨_, rfl⟩
          rw [hL] at c1 hj
          have hji : (j : Int) < (L : Int) := by omega
          have la2 := World.block_lt_of_cell? _ _ c1
          have lg2 := World.block_lt_of_cell? _ _ d0
          have hys : (⟨dt.toArray⟩ : ByteArray).size = dt.length := by simp [ByteArray.size]
          have hsum : (⟨dt.toArray⟩ : ByteArray).size + t.size ≤ 9223372036854775807 := by omega
          clear hx hjn hjf hf2 hf2' hs2 hrow hL c0 c2 c3 c4
          go_wp2
          go_region_with (first | (go_at_call 53; refine (HPK.out _ (by (repeat (first | exact Below.refl _ _ | assumption | refine Below.drew ?_ | refine below_drewN ?_ _ | refine Below.alloc ?_ (by first | omega | (simp; done) | (simp; omega)) _ | refine Below.setCell ?_ (by first | omega | (simp; done) | (simp; omega)) _ | refine Below.trans ?_ (Below.mono (by assumption) (by first | omega | (simp; done) | (simp; omega))))))).mono ?_; rintro e w3 ⟨rfl, he3⟩; have he3' := he3.symm; subst he3'))
          all_goals go_wp2_with fail
          all_goals
            obtain ⟨w3, hw3⟩ : ∃ w3, w3 = (w2.alloc (.cells #[.string s, .string (ByteArray.append ⟨dt.toArray⟩ t), .int .i64 (sf : Int)] 27)).drew := ⟨_, rfl⟩
            have hb3 : Below w2.heap.size w2 w3 := by rw [hw3]; exact ((Below.refl _ _).alloc (Nat.le_refl _) _).drew
            change Calls _ _ #[_, .agg #[.string s, .string (ByteArray.append ⟨dt.toArray⟩ t), .int .i64 (sf : Int)]] (w2.alloc (.cells #[.string s, .string (ByteArray.append ⟨dt.toArray⟩ t), .int .i64 (sf : Int)] 27)).drew _
            rw [← hw3]
            clear hw3
            refine (puts_any w3 Z a st2 _ s (ByteArray.append ⟨dt.toArray⟩ t) sf (HR2.out.later hb3) (fun k hk => HZ2.out k (Nat.le_trans hb3.size hk)) HFL.out).mono ?_
            rintro e w6 ⟨rfl, ⟨v6, hr6⟩, ho6⟩
            rw [app_list dt t] at hr6
            have HR6 : Hid (RefAt w6 Z a _ v6) := hr6
            have HO6 : Hid (Only Z w w6) := (HO2.out.later hb3).trans ho6
            clear hr6 ho6 hb3
            go_wp2
            go_ret
            rw [HX.out]
            exact ⟨rfl, ⟨v6, HR6.out⟩, HO6.out⟩
        · have hb : (G != 0) = true := by simpa using hG
          have HX : Hid (appR st s.data.toList t.data.toList = (G, st2)) := HS1.out hG
          go_wp2
          go_ret
          rw [HX.out]
          exact ⟨rfl, ⟨v, HR2.out⟩, HO2.out⟩
      | false =>
        by_cases h64 : 64 ≤ st.fs.length
        · have h64i : (64 : Int) ≤ (st.fs.length : Int) := by omega
          have HRE : Hid (roomE st s.data.toList t.data.toList.length = 42) := by
            show _ = _
            unfold roomE
            rw [if_pos hn, if_pos (Or.inr ⟨hg, h64⟩)]
          clear hn hg hnr
          go_wp2_with fail
          refine (rstep_any w Z a st v 42 hst hlo hhi HD.out).mono ?_
          rintro e w2 ⟨rfl, hr2, ho2⟩
          have HNE : Hid ((stepR st 42 id).1 ≠ 0) := fun h0 => absurd (step_done (f := id) h0).1 (by decide)
          have HY : Hid (appR st s.data.toList t.data.toList = stepR st 42 id) := by
            show _ = _
            have : appR st s.data.toList t.data.toList = stepR st 42 (appF s.data.toList t.data.toList) := by rw [← HRE.out]; rfl
            rw [this]
            exact step_not HNE.out
          have HRR : Hid (RefAt w2 Z a (stepR st 42 id).2 v) := hr2
          have HO2 : Hid (Only Z w w2) := ho2
          obtain ⟨G, hG⟩ : ∃ G, (stepR st 42 id).1 = G := ⟨_, rfl⟩
          have HG : Hid ((stepR st 42 id).1 = G) := hG
          have hb : (G != 0) = true := by have := HNE.out; rw [hG] at this; simpa using this
          rw [hG]
          clear hG hr2 ho2
          go_wp2
          go_ret
          rw [HY.out, HG.out]
          exact ⟨rfl, ⟨v, HRR.out⟩, HO2.out⟩
        · have h64i : ¬ (64 : Int) ≤ (st.fs.length : Int) := by omega
          have HRE : Hid (roomE st s.data.toList t.data.toList.length = 0) := by
            show _ = _
            unfold roomE
            rw [if_pos hn, if_neg (by rintro (h | ⟨_, h⟩); exact hnr h; exact h64 h)]
          have HGN : Hid (getL st.fs s.data.toList = none) := by
            cases e : getL st.fs s.data.toList with
            | none => rfl
            | some y => rw [e] at hg; cases hg
          clear hn hg hnr
          go_wp2_with fail
          refine (rstep_any w Z a st v 0 hst hlo hhi HD.out).mono ?_
          rintro e w2 ⟨rfl, hr2, ho2⟩
          have HS0 : Hid ((stepR st 0 id).1 = 0 → (stepR st 0 id).2.fs = st.fs ∧ appR st s.data.toList t.data.toList = (0, { (stepR st 0 id).2 with fs := appF s.data.toList t.data.toList st.fs })) := fun h => by
            have h1 := (step_done (f := appF s.data.toList t.data.toList) h).2
            refine ⟨h1.1, ?_⟩
            rw [← h1.2, ← HRE.out]
            rfl
          have HS1 : Hid ((stepR st 0 id).1 ≠ 0 → appR st s.data.toList t.data.toList = stepR st 0 id) := fun h => by
            rw [← step_not (f := appF s.data.toList t.data.toList) h, ← HRE.out]
            rfl
          obtain ⟨r, hr⟩ : ∃ r, stepR st 0 id = r := ⟨_, rfl⟩
          rw [hr] at hr2 HS0 HS1 ⊢
          obtain ⟨G, st2⟩ := r
          have HR2 : Hid (RefAt w2 Z a st2 v) := hr2
          have HO2 : Hid (Only Z w w2) := ho2
          clear hr hr2 ho2
          by_cases hG : G = 0
          · obtain ⟨hf2', hs2⟩ := HS0.out hG
            have hf2 : st2.fs = st.fs := hf2'
            have hb : (G != 0) = false := by simp [hG]
            rw [← hf2] at hs2
            have HZ2 : Hid (∀ k, w2.heap.size ≤ k → Z k) := fun k hk => HZ.out k (Nat.le_trans HO2.out.size hk)
            have hgn : getL st2.fs s.data.toList = none := by rw [hf2]; exact HGN.out
            have HX : Hid (appR st s.data.toList t.data.toList = (0, { st2 with fs := putL st2.fs s.data.toList (t.data.toList, 0) })) := by
              show _ = _
              rw [hs2]
              simp only [appF, fileOf, hgn, Option.getD_none, List.nil_append]
            have HFL : Hid (st2.fs.length < 1000) := by show _ < _; rw [hf2]; omega
            clear hf2 hf2' hs2 hgn
            go_wp2_with fail
            obtain ⟨w3, hw3⟩ : ∃ w3, w3 = w2.alloc (.cells #[.string s, .string (ByteArray.append ⟨#[]⟩ t), .int .i64 0] 27) := ⟨_, rfl⟩
            have hb3 : Below w2.heap.size w2 w3 := by rw [hw3]; exact (Below.refl _ _).alloc (Nat.le_refl _) _
            change Calls _ _ #[_, .agg #[.string s, .string (ByteArray.append ⟨#[]⟩ t), .int .i64 0]] (w2.alloc (.cells #[.string s, .string (ByteArray.append ⟨#[]⟩ t), .int .i64 0] 27)) _
            rw [← hw3]
            clear hw3
            refine (puts_any w3 Z a st2 _ s (ByteArray.append ⟨#[]⟩ t) 0 (HR2.out.later hb3) (fun k hk => HZ2.out k (Nat.le_trans hb3.size hk)) HFL.out).mono ?_
            rintro e w6 ⟨rfl, ⟨v6, hr6⟩, ho6⟩
            rw [app_nil t] at hr6
            have HR6 : Hid (RefAt w6 Z a _ v6) := hr6
            have HO6 : Hid (Only Z w w6) := (HO2.out.later hb3).trans ho6
            clear hr6 ho6 hb3
            go_wp2
            go_ret
            rw [HX.out]
            exact ⟨rfl, ⟨v6, HR6.out⟩, HO6.out⟩
          · have hb : (G != 0) = true := by simpa using hG
            have HX : Hid (appR st s.data.toList t.data.toList = (G, st2)) := HS1.out hG
            go_wp2
            go_ret
            rw [HX.out]
            exact ⟨rfl, ⟨v, HR2.out⟩, HO2.out⟩
end Go.Proofs.Ytejbelbfmchadaa
