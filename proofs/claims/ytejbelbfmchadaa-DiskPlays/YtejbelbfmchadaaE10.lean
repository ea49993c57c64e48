/- The document's functions of layer 4, eighth part: Read, Rename. -/
import Derived.Test.YtejbelbfmchadaaE9
namespace Go.Proofs.Ytejbelbfmchadaa
open Go.RowKit

theorem RefAt.mono {w : World} {Z Z' : Nat → Prop} {a : Nat} {st : St} {v : Value} (h : RefAt w Z a st v) (hz : ∀ k, k < w.heap.size → Z k → Z' k) : RefAt w Z' a st v :=
  ⟨h.cells, hz a h.lt h.za, h.row, fun g e => hz g (h.row.lt g e).2 (h.zone g e), h.sorted, h.few⟩
theorem RefAt.apart {w w' : World} {Z : Nat → Prop} {a : Nat} {st : St} {v : Value} (h : RefAt w Z a st v) (hb : Below w.heap.size w w') : RefAt w' (fun k => (Z k ∧ k < w.heap.size) ∨ w'.heap.size ≤ k) a st v :=
  ((h.mono (Z' := fun k => Z k ∧ k < w.heap.size) fun _ hk hz => ⟨hz, hk⟩).later hb).mono fun _ _ hz => Or.inl hz
theorem RefAt.kept {w w' : World} {Z : Nat → Prop} {a : Nat} {st : St} {v : Value} (h : RefAt w Z a st v) (hk : ∀ k, k < w.heap.size → Z k → w'.heap[k]? = w.heap[k]?) : RefAt w' Z a st v :=
  ⟨(hk a h.lt h.za).trans h.cells, h.za, own_kept h.row fun g e => hk g (h.row.lt g e).2 (h.zone g e), h.zone, h.sorted, h.few⟩

set_option maxHeartbeats 4000000 in
set_option maxRecDepth 100000 in
theorem rread_any (w : World) (Z : Nat → Prop) (a : Nat) (st : St) (v : Value) (s : ByteArray) (hs : s.size ≤ 9223372036854775807) (h : RefAt w Z a st v) :
    Calls Try.prog 38 #[.pointer (some ⟨a, 0, none⟩), .string s] w fun e w' => e = .returned (.tuple #[.string ⟨(readR st s.data.toList).1.toArray⟩, .int .i64 (readR st s.data.toList).2]) ∧ Below w.heap.size w w' := by
  obtain ⟨c0, c1, c2, c3, c4, cf⟩ := rcell5 h.cells
  have HD : Hid (RefAt w Z a st v) := h
  clear h c0 c2 c4
  cases hd : st.down with
  | true =>
    rw [hd] at c3
    have HR : Hid (readR st s.data.toList = ([], 3)) := by show _ = _; simp [readR, hd]
    go_enter Try.func38, Try.ntmps38
    go_wp2
    rw [HR.out]
    exact bodyPost_ret (v := .tuple #[.string ⟨#[]⟩, .int .i64 3]) (by simp [results, Try.results38, go_sem]) rfl ⟨rfl, Below.refl _ _⟩
  | false =>
    rw [hd] at c3
    obtain ⟨E, hE⟩ : ∃ E, findE st.fs s.data.toList = E := ⟨_, rfl⟩
    have HK : Hid (Calls Try.prog 56 #[.pointer (some ⟨a, 0, none⟩), .string s] w fun e w' => e = .returned (.int .i64 E) ∧ w' = w) := by
      have := known_any w Z a st v s hs HD.out
      rw [hE] at this
      exact this
    by_cases h0 : E = 0
    · subst h0
      obtain ⟨j, hj, hjn, hjf⟩ := found hE
      obtain ⟨nm, dt, sf, hx⟩ : ∃ nm dt sf, st.fs[j] = (nm, (dt, sf)) := ⟨_, _, _, rfl⟩
      rw [hx] at hjf
      have HR : Hid (readR st s.data.toList = (dt, 0)) := by show _ = _; simp [readR, hd, hE, hjf]
      have HPK : Hid (∀ n, Calls Try.prog 53 #[.pointer (some ⟨a, 0, none⟩), .string s] (w.drewN n) fun e w' => e = .returned (.int .i64 (j : Int)) ∧ w' = w.drewN n) := fun n => place_known _ Z a st v s (HD.out.later (below_drewN (Below.refl _ _) n)) hj hjn
      have hrow := HD.out.row
      obtain ⟨p, cap, rfl⟩ := own_form hrow
      obtain ⟨g, rfl, d0, d1, d2⟩ := row_at hrow hj
      rw [hx] at d1
      simp only at d1
      obtain ⟨L, hL⟩ : ∃ L, st.fs.length = L := ⟨_, rfl⟩
      rw [hL] at c1 hj
      have hji : (j : Int) < (L : Int) := by omega
      clear hx hjn hjf hE hd d0 d2 hrow hL
      go_enter Try.func38, Try.ntmps38
      go_wp2_with fail
      refine HK.out.mono ?_
      rintro e w1 ⟨rfl, he⟩
      have he' := he.symm
      subst he'
      go_wp2
      go_quiet ((go_at_call 53; exact Calls.quiet_of_same (HPK.out _)))
      go_wp2
      rw [HR.out]
      exact bodyPost_ret (v := .tuple #[.string ⟨dt.toArray⟩, .int .i64 0]) (by simp [results, Try.results38, go_sem]) rfl ⟨rfl, below_drewN (Below.refl _ _) _⟩
    · have HR : Hid (readR st s.data.toList = ([], E)) := by show _ = _; simp [readR, hd, hE, h0]
      have hb : (E != 0) = true := by simpa using h0
      clear hE hd
      go_enter Try.func38, Try.ntmps38
      go_wp2_with fail
      refine HK.out.mono ?_
      rintro e w1 ⟨rfl, he⟩
      have he' := he.symm
      subst he'
      go_wp2
      rw [HR.out]
      exact bodyPost_ret (v := .tuple #[.string ⟨#[]⟩, .int .i64 E]) (by simp [results, Try.results38, go_sem]) rfl ⟨rfl, Below.refl _ _⟩

set_option maxHeartbeats 8000000 in
set_option maxRecDepth 100000 in
theorem rrename_any (w : World) (Z : Nat → Prop) (a : Nat) (st : St) (v : Value) (s t : ByteArray) (hs : s.size ≤ 9223372036854775807) (ht : t.size ≤ 9223372036854775807) (hst : st.steps < 4611686018427387904) (hlo : -1 ≤ st.armed) (hhi : st.armed ≤ 9223372036854775807) (hfl : st.fs.length ≤ 64) (h : RefAt w Z a st v) (hZ : ∀ k, w.heap.size ≤ k → Z k) :
    Calls Try.prog 35 #[.pointer (some ⟨a, 0, none⟩), .string s, .string t] w fun e w' => e = .returned (.int .i64 (renR st s.data.toList t.data.toList).1) ∧ (∃ v', RefAt w' Z a (renR st s.data.toList t.data.toList).2 v') ∧ Only Z w w' := by
  have HD : Hid (RefAt w Z a st v) := h
  have HZ : Hid (∀ k, w.heap.size ≤ k → Z k) := hZ
  clear h hZ
  obtain ⟨K, hK⟩ : ∃ K, findE st.fs s.data.toList = K := ⟨_, rfl⟩
  have HK : Hid (Calls Try.prog 56 #[.pointer (some ⟨a, 0, none⟩), .string s] w fun e w' => e = .returned (.int .i64 K) ∧ w' = w) := by
    have := known_any w Z a st v s hs HD.out
    rw [hK] at this
    exact this
  have HKE : Hid (findE st.fs s.data.toList = K) := hK
  clear hK
  cases hn : nmOk t.data.toList with
  | false =>
    have HR : Hid (renR st s.data.toList t.data.toList = stepR st 40 id) := by
      show _ = _
      have : renR st s.data.toList t.data.toList = stepR st 40 (renF s.data.toList t.data.toList) := by simp [renR, renE, hn]
      rw [this]
      apply step_not
      intro h0
      exact absurd (step_done (f := id) h0).1 (by decide)
    have HNE : Hid ((stepR st 40 id).1 ≠ 0) := fun h0 => absurd (step_done (f := id) h0).1 (by decide)
    go_enter Try.func35, Try.ntmps35
    go_wp2_with fail
    refine HK.out.mono ?_
    rintro e w1 ⟨rfl, he⟩
    have he' := he.symm
    subst he'
    go_wp2_with fail
    refine (name_any t w ht).mono ?_
    rintro e w1 ⟨rfl, he2⟩
    have he2' := he2.symm
    subst he2'
    rw [hn]
    go_wp2_with fail
    refine (rstep_any w Z a st v 40 hst hlo hhi HD.out).mono ?_
    rintro e w2 ⟨rfl, hr2, ho2⟩
    have HRR : Hid (RefAt w2 Z a (stepR st 40 id).2 v) := hr2
    have HO2 : Hid (Only Z w w2) := ho2
    obtain ⟨G, hG⟩ : ∃ G, (stepR st 40 id).1 = G := ⟨_, rfl⟩
    have HG : Hid ((stepR st 40 id).1 = G) := hG
    have hb : (G != 0) = true := by have := HNE.out; rw [hG] at this; simpa using this
    rw [hG]
    clear hG hr2 ho2
    go_wp2
    go_ret
    rw [HR.out, HG.out]
    exact ⟨rfl, ⟨v, HRR.out⟩, HO2.out⟩
  | true =>
    have HR : Hid (renR st s.data.toList t.data.toList = stepR st K (renF s.data.toList t.data.toList)) := by
      show _ = _
      rw [← HKE.out]
      simp [renR, renE, hn]
    go_enter Try.func35, Try.ntmps35
    go_wp2_with fail
    refine HK.out.mono ?_
    rintro e w1 ⟨rfl, he⟩
    have he' := he.symm
    subst he'
    go_wp2_with fail
    refine (name_any t w ht).mono ?_
    rintro e w1 ⟨rfl, he2⟩
    have he2' := he2.symm
    subst he2'
    rw [hn]
    go_wp2_with fail
    refine (rstep_any w Z a st v K hst hlo hhi HD.out).mono ?_
    rintro e w2 ⟨rfl, hr2, ho2⟩
    have HS0 : Hid ((stepR st K id).1 = 0 → K = 0 ∧ (stepR st K id).2.fs = st.fs ∧ stepR st K (renF s.data.toList t.data.toList) = (0, { (stepR st K id).2 with fs := renF s.data.toList t.data.toList st.fs })) := fun h => step_done h
    have HS1 : Hid ((stepR st K id).1 ≠ 0 → stepR st K (renF s.data.toList t.data.toList) = stepR st K id) := fun h => step_not h
    obtain ⟨r, hr⟩ : ∃ r, stepR st K id = r := ⟨_, rfl⟩
    rw [hr] at hr2 HS0 HS1 ⊢
    obtain ⟨G, st2⟩ := r
    have HR2 : Hid (RefAt w2 Z a st2 v) := hr2
    have HO2 : Hid (Only Z w w2) := ho2
    clear hr hr2 ho2 he he2
    by_cases hG : G = 0
    · obtain ⟨hK0, hf2', hs2⟩ := HS0.out hG
      have hf2 : st2.fs = st.fs := hf2'
      have hb : (G != 0) = false := by simp [hG]
      obtain ⟨j, hj, hjn, hjf⟩ := found (by rw [HKE.out, hK0] : findE st.fs s.data.toList = 0)
      rw [← hf2] at hs2
      simp only [← hf2] at hj hjn hjf
      obtain ⟨nm, dt, sf, hx⟩ : ∃ nm dt sf, st2.fs[j] = (nm, (dt, sf)) := ⟨_, _, _, rfl⟩
      rw [hx] at hjf
      have HX : Hid (renR st s.data.toList t.data.toList = (0, { st2 with fs := putL (delL st2.fs s.data.toList) t.data.toList (dt, sf) })) := by
        show _ = _
        rw [HR.out, hs2]
        simp only [renF, hjf]
      have HPK : Hid (∀ w', Below w2.heap.size w2 w' → Calls Try.prog 53 #[.pointer (some ⟨a, 0, none⟩), .string s] w' fun e w'' => e = .returned (.int .i64 (j : Int)) ∧ w'' = w') := fun w' hb => place_known _ Z a st2 v s (HR2.out.later hb) hj hjn
      have HFL : Hid ((delL st2.fs s.data.toList).length < 1000) := by
        have := delL_length st2.fs s.data.toList
        rw [hf2] at this
        show _ < _
        rw [hf2]
        omega
      have hrow := HR2.out.row
      obtain ⟨p, cap, rfl⟩ := own_form hrow
      obtain ⟨c0, c1, c2, c3, c4, cf⟩ := rcell5 HR2.out.cells
      obtain ⟨g, rfl, d0, d1, d2⟩ := row_at hrow hj
      rw [hx] at d0 d1 d2
      simp only at d0 d1 d2
      obtain ⟨L, hL⟩ : ∃ L, st2.fs.length = L := ⟨_, rfl⟩
      rw [hL] at c1 hj
      have hji : (j : Int) < (L : Int) := by omega
      have la2 := World.block_lt_of_cell? _ _ c1
      have lg2 := World.block_lt_of_cell? _ _ d0
      have HZ2 : Hid (∀ k, w2.heap.size ≤ k → Z k) := fun k hk => HZ.out k (Nat.le_trans HO2.out.size hk)
      clear hx hjn hjf hf2 hf2' hs2 hrow hL hK0 c0 c2 c3 c4
      go_wp2
      go_region_with (first | (go_at_call 53; refine (HPK.out _ (by (repeat (first | exact Below.refl _ _ | assumption | refine Below.drew ?_ | refine below_drewN ?_ _ | refine Below.alloc ?_ (by first | omega | (simp; done) | (simp; omega)) _ | refine Below.setCell ?_ (by first | omega | (simp; done) | (simp; omega)) _ | refine Below.trans ?_ (Below.mono (by assumption) (by first | omega | (simp; done) | (simp; omega))))))).mono ?_; rintro e w3 ⟨rfl, he3⟩; have he3' := he3.symm; subst he3'))
      all_goals
        obtain ⟨w3, hw3⟩ : ∃ w3, w3 = (w2.alloc (.cells #[.string ⟨nm.toArray⟩, .string ⟨dt.toArray⟩, .int .i64 (sf : Int)] 27)).drew := ⟨_, rfl⟩
        rw [← hw3]
        have hb3 : Below w2.heap.size w2 w3 := by rw [hw3]; exact ((Below.refl _ _).alloc (Nat.le_refl _) _).drew
        have hc3 : w3.heap[w2.heap.size]? = some (.cells #[.string ⟨nm.toArray⟩, .string ⟨dt.toArray⟩, .int .i64 (sf : Int)] 27 (0, 0)) := by rw [hw3]; exact heap_alloc_new w2 _
        have hs3 : w3.heap.size = w2.heap.size + 1 := by rw [hw3]; show (w2.alloc _).heap.size = _; simp
        have HR3 : Hid (RefAt w3 (fun k => (Z k ∧ k < w2.heap.size) ∨ w3.heap.size ≤ k) a st2 (.slice (some ⟨g, 0, none⟩) st2.fs.length cap)) := HR2.out.apart hb3
        have HB3 : Hid (Below w2.heap.size w2 w3) := hb3
        have HC3 : Hid (w3.heap[w2.heap.size]? = some (.cells #[.string ⟨nm.toArray⟩, .string ⟨dt.toArray⟩, .int .i64 (sf : Int)] 27 (0, 0))) := hc3
        have HS3 : Hid (w3.heap.size = w2.heap.size + 1) := hs3
        clear hw3 hb3 hc3 hs3 c1 d0 d1 d2 cf
        go_wp2_with fail
        refine (takes_any w3 _ a st2 _ s HR3.out (fun k hk => Or.inr hk)).mono ?_
        rintro e w4 ⟨rfl, ⟨v4, hr4⟩, ho4⟩
        have hc4 : w4.heap[w2.heap.size]? = some (.cells #[.string ⟨nm.toArray⟩, .string ⟨dt.toArray⟩, .int .i64 (sf : Int)] 27 (0, 0)) := (ho4.block _ (by have := HS3.out; omega) (fun h => by have := HS3.out; rcases h with ⟨_, h2⟩ | h2 <;> omega)).trans HC3.out
        have b0 : w4.cell? ⟨w2.heap.size, 0, none⟩ = some (.string ⟨nm.toArray⟩) := by simp [World.cell?, hc4]
        have b1 : w4.cell? ⟨w2.heap.size, 1, none⟩ = some (.string ⟨dt.toArray⟩) := by simp [World.cell?, hc4]
        have b2 : w4.cell? ⟨w2.heap.size, 2, none⟩ = some (.int .i64 (sf : Int)) := by simp [World.cell?, hc4]
        have bf : ∀ o, w4.frozen? ⟨w2.heap.size, o, none⟩ = false := fun o => by simp [World.frozen?, hc4]
        have HR4 : Hid (RefAt (w4.setCell ⟨w2.heap.size, 0, none⟩ (.string t)) (fun k => (Z k ∧ k < w2.heap.size) ∨ w3.heap.size ≤ k) a { st2 with fs := delL st2.fs s.data.toList } v4) := hr4.kept (fun k _ hz => Below.heap_setCell _ _ _ _ (fun e => by have := HS3.out; simp only at e; rcases hz with ⟨_, h2⟩ | h2 <;> omega))
        have HO4 : Hid (Only Z w (w4.setCell ⟨w2.heap.size, 0, none⟩ (.string t))) := ((HO2.out.later HB3.out).trans (ho4.mono (fun k h => by rcases h with ⟨h1, _⟩ | h2; exact h1; exact HZ2.out k (Nat.le_trans HB3.out.size h2)))).setCell (p := ⟨w2.heap.size, 0, none⟩) (HZ2.out _ (Nat.le_refl _)) _
        have HS4 : Hid (w3.heap.size ≤ (w4.setCell ⟨w2.heap.size, 0, none⟩ (.string t)).heap.size) := by
          have := ho4.size
          show _ ≤ _
          simpa using this
        clear hr4 ho4 hc4
        go_wp2_with fail
        refine (puts_any _ _ a _ v4 t ⟨dt.toArray⟩ sf HR4.out (fun k hk => Or.inr (Nat.le_trans HS4.out hk)) HFL.out).mono ?_
        rintro e w6 ⟨rfl, ⟨v6, hr6⟩, ho6⟩
        have HR6 : Hid (RefAt w6 Z a { st2 with fs := putL (delL st2.fs s.data.toList) t.data.toList (dt, sf) } v6) := RefAt.mono hr6 (fun k _ h => by rcases h with ⟨h1, _⟩ | h2; exact h1; exact HZ2.out k (Nat.le_trans HB3.out.size h2))
        have HO6 : Hid (Only Z w w6) := HO4.out.trans (ho6.mono (fun k h => by rcases h with ⟨h1, _⟩ | h2; exact h1; exact HZ2.out k (Nat.le_trans HB3.out.size h2)))
        clear hr6 ho6
        go_wp2
        go_ret
        rw [HX.out]
        exact ⟨rfl, ⟨v6, HR6.out⟩, HO6.out⟩
    · have hb : (G != 0) = true := by simpa using hG
      have HX : Hid (renR st s.data.toList t.data.toList = (G, st2)) := by
        show _ = _
        rw [HR.out, HS1.out hG]
      go_wp2
      go_ret
      rw [HX.out]
      exact ⟨rfl, ⟨v, HR2.out⟩, HO2.out⟩
end Go.Proofs.Ytejbelbfmchadaa
