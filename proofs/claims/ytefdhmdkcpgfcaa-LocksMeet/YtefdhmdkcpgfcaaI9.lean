/- Walks of layer 19: the document's Free. -/
import Derived.Test.YtefdhmdkcpgfcaaI8
import Derived.Test.YtefdhmdkcpgfcaaID
namespace Go.Proofs.Ytefdhmdkcpgfcaa
open Go.RowKit
theorem freeE_no {T : Tb9} {pos : Int} (h : isGr T pos = false) : freeE T pos = 1 := by unfold freeE; rw [h]; rfl
theorem freeE_yes {T : Tb9} {pos : Int} (h : isGr T pos = true) : freeE T pos = 0 := by unfold freeE; rw [h]; rfl
theorem freeT_none {T : Tb9} {pos : Int} (h : atI T pos = none) : freeT T pos = T := by unfold freeT; rw [h]
theorem freeT_no {T : Tb9} {pos : Int} {i : Nat} (h : atI T pos = some i) (g : grntI T i = false) : freeT T pos = T := by unfold freeT; rw [h]; simp [g]
theorem freeT_yes {T : Tb9} {pos : Int} {i : Nat} (h : atI T pos = some i) (g : grntI T i = true) : freeT T pos = ⟨T.ps.take i ++ T.ps.drop (i + 1), T.last⟩ := by unfold freeT; rw [h]; simp [g]
theorem plC_one {w : World} {Z : Nat → Prop} {p : Pl9} {vs : List Value} (h : PlO w Z p vs) : ∀ u ∈ vs, u.oneCell' = true := by
  obtain ⟨v, rfl, h1, _⟩ := h
  obtain ⟨q, cap, rfl, _⟩ := h1.form
  intro u hu
  simp only [List.mem_cons, List.not_mem_nil, or_false] at hu
  rcases hu with rfl | rfl <;> rfl
theorem flat_len2 {qs : List (Pl9 × List Value)} (h : ∀ p ∈ qs, p.2.length = 2) : (qs.flatMap (·.2)).length = qs.length * 2 := by
  induction qs with
  | nil => rfl
  | cons p qs ih =>
    rw [List.flatMap_cons, List.length_append, ih fun q hq => h q (List.mem_cons_of_mem _ hq), h p List.mem_cons_self, List.length_cons]
    omega
theorem flat_take2 {qs : List (Pl9 × List Value)} (h : ∀ p ∈ qs, p.2.length = 2) (i : Nat) : (qs.take i).flatMap (·.2) = (qs.flatMap (·.2)).take (i * 2) := by
  induction qs generalizing i with
  | nil => simp
  | cons p qs ih =>
    cases i with
    | zero => simp
    | succ i =>
      have hp := h p List.mem_cons_self
      rw [List.take_succ_cons, List.flatMap_cons, List.flatMap_cons, ih (fun q hq => h q (List.mem_cons_of_mem _ hq)), List.take_append, hp, List.take_of_length_le (l := p.2) (by omega)]
      congr 2
      omega
theorem flat_drop2 {qs : List (Pl9 × List Value)} (h : ∀ p ∈ qs, p.2.length = 2) (i : Nat) : (qs.drop i).flatMap (·.2) = (qs.flatMap (·.2)).drop (i * 2) := by
  induction qs generalizing i with
  | nil => simp
  | cons p qs ih =>
    cases i with
    | zero => simp
    | succ i =>
      have hp := h p List.mem_cons_self
      rw [List.drop_succ_cons, List.flatMap_cons, ih (fun q hq => h q (List.mem_cons_of_mem _ hq)), List.drop_append, hp, List.drop_eq_nil_of_le (show p.2.length ≤ (i + 1) * 2 by omega), List.nil_append]
      congr 1
      omega

/-- The table behind one of whose places the others are left. -/
theorem DT.moved {w w3 : World} {B : Nat} {Z : Nat → Prop} {t : Nat} {T : Tb9} (h : DT w B Z t T) {v0 v3 : Value} (hbox : w.heap[t]? = some (.cells #[v0, .int .i64 T.last] 61 (0, 0))) (hb : Below w.heap.size w w3) {qs : List (Pl9 × List Value)} (q2 : ∀ p ∈ qs, PlO w Z p.1 p.2 ∧ p.2.length = 2) (ho : w3.ownsRow w.heap.size 71 2 v3 qs.length (qs.flatMap (·.2))) : DP9 w B Z t ⟨qs.map (·.1), T.last⟩ (w3.setCell ⟨t, 0, none⟩ v3) := by
  have hs := hb.size
  have htl := (h.lies t h.tz).2
  have ht3 : w3.heap[t]? = some (.cells #[v0, .int .i64 T.last] 61 (0, 0)) := (hb.block t htl).trans hbox
  obtain ⟨W, hW⟩ : ∃ W, w3.setCell ⟨t, 0, none⟩ v3 = W := ⟨_, rfl⟩
  have hWo : ∀ k, k ≠ t → W.heap[k]? = w3.heap[k]? := fun k hk => by
    rw [← hW]
    exact Below.heap_setCell _ _ _ _ fun e => hk e
  have hWt : W.heap[t]? = some (.cells #[v3, .int .i64 T.last] 61 (0, 0)) := by
    rw [← hW]
    have := heap_setCell_at ht3 v3 (i := 0)
    simpa using this
  have hWs : W.heap.size = w3.heap.size := by rw [← hW]; simp [World.setCell]
  have hWos : W.os = w.os ∧ W.tape = w.tape ∧ W.output = w.output := by
    rw [← hW]
    exact ⟨hb.os, hb.tape, hb.output⟩
  rw [hW]
  have hlock : ∀ (k : Nat) (cur : Array Value), w.heap[k]? = some (.cells cur 23 (0, 0)) → W.heap[k]? = w.heap[k]? := fun k cur hc => by
    have hk := (Array.getElem?_eq_some_iff.1 hc).1
    refine (hWo k fun e => ?_).trans (hb.block k hk)
    rw [e, hbox] at hc
    simp only [Option.some.injEq, Obj.cells.injEq] at hc
    exact absurd hc.2.1 (by decide)
  refine ⟨⟨hWos.1, hWos.2.1, hWos.2.2, by omega, fun k hk hz => (hWo k fun e => hz (e ▸ h.tz)).trans (hb.block k hk)⟩, fun k => Z k ∨ (w.heap.size ≤ k ∧ k < W.heap.size), ⟨⟨_, hWt, ⟨qs, rfl, fun p hp => ⟨(q2 p hp).1.elim fun v hv => PlO.keepL hlock (fun _ hk => Or.inl hk) _ _ ⟨v, hv⟩, (q2 p hp).2⟩, ?_⟩, fun k hk => Or.inr ⟨(ho.lt k hk).1, by have := (ho.lt k hk).2; omega⟩⟩, fun k hk => ?_, Or.inl h.tz⟩, fun _ hk => hk⟩
  · have := own_mono (own_kept ho (w' := W) fun k hk => hWo k (by have := (ho.lt k hk).1; omega)) (Nat.zero_le _)
    simpa using this
  · rcases hk with hk | hk
    · exact ⟨(h.lies k hk).1, by have := (h.lies k hk).2; omega⟩
    · exact ⟨by have := (h.lies t h.tz).1; omega, hk.2⟩
theorem row_form {w : World} {B : Nat} {e : TypeId} {size n : Nat} {v : Value} {xs : List Value} (h : w.ownsRow B e size v n xs) : ∃ p c, v = .slice p n c ∧ n ≤ c := by
  obtain ⟨_, ⟨rfl, rfl⟩ | ⟨g, cap, cur, rfl, _, _, hn, _⟩⟩ := h
  · exact ⟨none, 0, rfl, Nat.le_refl _⟩
  · exact ⟨_, cap, rfl, hn⟩

set_option maxHeartbeats 16000000 in
set_option maxRecDepth 100000 in
theorem rfree_any (T : Tb9) (t B : Nat) (Z : Nat → Prop) (pos : Int) (w : World) (h : DT w B Z t T) (hs : Sm9 T) : Calls Try.prog 33 #[.pointer (some ⟨t, 0, none⟩), .int .i64 pos] w fun e w' => e = .returned (.int .i64 (freeE T pos)) ∧ DP9 w B Z t (freeT T pos) w' := by
  obtain ⟨i2, hi2, hx0, hx1, hx2⟩ := info_parts Try.infoPl
  have HD := Lib.hid h
  have HS := Lib.hid hs
  have HA := Lib.hid (fun W (h : DT W B Z t T) => rat_any T t B Z pos W h hs)
  have hps := hs.ps
  clear hs
  cases hat : atI T pos with
  | none =>
    have HE : Hid (freeE T pos = 1) := Lib.hid (freeE_no (by unfold isGr; rw [hat]))
    have HT : Hid (freeT T pos = T) := Lib.hid (freeT_none hat)
    unfold atN at HA
    rw [hat] at HA
    rw [HE.out, HT.out]
    clear hat h
    go_enter Try.func33, Try.ntmps33
    go_wp2_with fail
    refine (HA.out _ HD.out).mono ?_
    rintro e w1 ⟨rfl, hw1⟩
    rw [hw1]
    clear hw1
    go_wp2
    go_ret
    exact ⟨rfl, HD.out.same9 (Below.refl _ _)⟩
  | some i =>
    obtain ⟨hi, _⟩ := atI_lt hat
    have hn : ¬ (i : Int) < 0 := by omega
    have hwl := waitI_len T i hi
    have HGR : Hid (grntI T i = decide ((waitI T i).length = 0)) := Lib.hid (by
      unfold grntI
      cases waitI T i <;> simp)
    have HAT := Lib.hid hat
    unfold atN at HA
    rw [hat] at HA
    obtain ⟨v0, hbox, ⟨qs, q1, q2, q3⟩, q4⟩ := h.tb
    have HBX := Lib.hid hbox
    have HQ := Lib.hid (And.intro q1 (And.intro q2 (And.intro q3 q4)))
    have hzt : t < w.heap.size := (Array.getElem?_eq_some_iff.1 hbox).1
    have hql : qs.length = T.ps.length := by rw [← q1, List.length_map]
    clear hat h hbox q1 q2 q4
    go_enter Try.func33, Try.ntmps33
    go_wp2_with fail
    refine (HA.out _ HD.out).mono ?_
    rintro e w0 ⟨rfl, hw0⟩
    rw [hw0]
    clear hw0
    simp only
    go_wp2_with fail
    refine (rwaits_any T t B Z i _ HD.out HS.out hi).mono ?_
    rintro e w1 ⟨vw, rfl, how, hb1⟩
    obtain ⟨pw, cw, rfl, _⟩ := how.form
    have HB1 := Lib.hid hb1
    have hsz := hb1.size
    obtain ⟨n, hn⟩ : ∃ n, (waitI T i).length = n := ⟨_, rfl⟩
    rw [hn] at HGR hwl ⊢
    clear how hn
    by_cases h0 : n = 0
    · subst h0
      have HG : Hid (grntI T i = true) := Lib.hid (by rw [HGR.out]; rfl)
      have HE : Hid (freeE T pos = 0) := Lib.hid (freeE_yes (by unfold isGr; rw [HAT.out]; exact HG.out))
      have HT : Hid (freeT T pos = ⟨T.ps.take i ++ T.ps.drop (i + 1), T.last⟩) := Lib.hid (freeT_yes HAT.out HG.out)
      have hb1t : w1.heap[t]? = some (.cells #[v0, .int .i64 T.last] 61 (0, 0)) := (hb1.block t hzt).trans HBX.out
      have HT1 := Lib.hid hb1t
      have hq1 := own_later q3 hb1
      obtain ⟨g, cap, rfl, hB, hgl⟩ := q3.form (by omega)
      have HQ1 := Lib.hid hq1
      have hcap : T.ps.length ≤ cap := by
        obtain ⟨_, ⟨h1, _⟩ | ⟨_, _, _, h1, _, _, h2, _⟩⟩ := q3
        · cases h1
        · simp only [Value.slice.injEq] at h1
          omega
      have hcm : cap ≤ maxLen := by
        obtain ⟨_, ⟨h1, _⟩ | ⟨_, _, _, h1, _, _, _, h2, _⟩⟩ := q3
        · cases h1
        · simp only [Value.slice.injEq] at h1
          omega
      have z1 := two_of hb1t
      have HL := Lib.hid (fun p hp => (HQ.out.2.1 p hp).2)
      have hic : (i : Int) ≤ (cap : Int) := by omega
      have hi0 : (0 : Int) ≤ (i : Int) := by omega
      have hil : (i : Int) + 1 ≤ (T.ps.length : Int) := by omega
      have hi1 : (0 : Int) ≤ (i : Int) + 1 := by omega
      have e1 : IntKind.i64.wrap ((i : Int) + 1) = (i : Int) + 1 := by rw [IntKind.wrap_i64]; omega
      unfold maxLen at hcm
      clear hb1 hb1t hq1 q3
      have HN1 : Hid (((qs.take i).flatMap (·.2)).length = i * 2 ∧ ∀ j u, ((qs.take i).flatMap (·.2))[j]? = some u → w1.cell? ((⟨g, 0, none⟩ : Addr).add j) = some u) := by
        refine Lib.hid ⟨?_, fun j u hj => ?_⟩
        · rw [flat_len2 fun p hp => HL.out p (List.mem_of_mem_take hp), List.length_take]
          omega
        · rw [flat_take2 HL.out, List.getElem?_take] at hj
          split at hj
          · exact HQ1.out.cells rfl j u hj
          · cases hj
      have HN3 : Hid (∀ u ∈ (qs.take i).flatMap (·.2), u.oneCell' = true) := Lib.hid fun u hu => by
        obtain ⟨p, hp, hu⟩ := List.mem_flatMap.1 hu
        exact plC_one (HQ.out.2.1 p (List.mem_of_mem_take hp)).1 u hu
      have HM1 : Hid (((qs.drop (i + 1)).flatMap (·.2)).length = (T.ps.length - (i + 1)) * 2) := Lib.hid (by
        rw [flat_len2 fun p hp => HL.out p (List.mem_of_mem_drop hp), List.length_drop, hql])
      have HM3 : Hid (∀ u ∈ (qs.drop (i + 1)).flatMap (·.2), u.oneCell' = true) := Lib.hid fun u hu => by
        obtain ⟨p, hp, hu⟩ := List.mem_flatMap.1 hu
        exact plC_one (HQ.out.2.1 p (List.mem_of_mem_drop hp)).1 u hu
      by_cases hci : cap = i + 1
      · have hni : T.ps.length = i + 1 := by omega
        subst hci
        have HM4 : Hid ((qs.drop (i + 1)).flatMap (·.2) = []) := Lib.hid (List.eq_nil_of_length_eq_zero (by rw [HM1.out]; omega))
        have HNI := Lib.hid hni
        go_wp2_with (first
          | (at_builtin; refine wpList_append_whole _ rfl _ _ 59 rfl w1.heap.size 71 i2 _ 2 32 Try.underlying59 hi2 hx0 hx1 hx2 rfl (by decide) (.slice none 0 0) 0 [] rfl (World.ownsRow_nil _ _ _ _) (some ⟨g, 0, none⟩) i _ ((qs.take i).flatMap (·.2)) rfl HN1.out.1 (fun _ => ⟨_, rfl, HN1.out.2⟩) HN3.out (by unfold maxLen; omega) (by omega) (Nat.le_refl _) ?_; intro v2 w2 hown2 hgrow2; (rw [Nat.zero_add, List.nil_append] at hown2); (obtain ⟨p2, c2, rfl, hc2⟩ := row_form hown2); (have HB2 : Hid (Below w1.heap.size w1 w2) := Lib.hid ((Below.refl _ _).grown hgrow2 (Nat.le_refl _) (fun k h => by cases h))); (have HO2 := Lib.hid hown2); (have z2 := two_of ((HB2.out.block t (by omega)).trans HT1.out)); (have hs2 := HB2.out.size); clear hown2 hgrow2)
          | (at_builtin; refine wpList_append_whole _ rfl _ _ 59 rfl w1.heap.size 71 i2 _ 2 32 Try.underlying59 hi2 hx0 hx1 hx2 rfl (by decide) (.slice p2 i c2) i ((qs.take i).flatMap (·.2)) rfl HO2.out _ 0 _ [] rfl rfl (fun h => absurd h (by simp)) (fun _ h => absurd h (by simp)) (by unfold maxLen; omega) (by omega) (by omega) ?_; intro v3 w3 hown3 hgrow3; (obtain ⟨p3, c3, rfl, _⟩ := row_form hown3); (have HO3 := Lib.hid hown3); (have HB3 : Hid (Below w1.heap.size w1 w3) := Lib.hid (HB2.out.grown hgrow3 (by omega) (fun k hk => (HO2.out.lt k hk).1))); (have z3 := two_of ((HB3.out.block t (by omega)).trans HT1.out)); clear hown3 hgrow3))
        go_ret
        refine ⟨ret_int HE.out.symm, ?_⟩
        rw [HT.out, show T.ps.take i ++ T.ps.drop (i + 1) = (qs.take i ++ qs.drop (i + 1)).map (·.1) by rw [List.map_append, List.map_take, List.map_drop, HQ.out.1]]
        refine HD.out.moved HBX.out (HB1.out.trans (HB3.out.mono hsz)) (fun p hp => HQ.out.2.1 p ?_) ?_
        · rcases List.mem_append.1 hp with hp | hp
          · exact List.mem_of_mem_take hp
          · exact List.mem_of_mem_drop hp
        · have := own_mono HO3.out hsz
          rw [List.flatMap_append, show (qs.take i ++ qs.drop (i + 1)).length = i + (T.ps.length - (i + 1)) by rw [List.length_append, List.length_take, List.length_drop, hql, Nat.min_eq_left (by omega)]]
          rw [HM4.out, HNI.out, Nat.sub_self]
          exact this
      · have HM2 : Hid (∀ W, Below w1.heap.size w1 W → 0 < ((qs.drop (i + 1)).flatMap (·.2)).length → ∃ ad, some (⟨g, (i + 1) * 2, none⟩ : Addr) = some ad ∧ ∀ j u, ((qs.drop (i + 1)).flatMap (·.2))[j]? = some u → W.cell? (ad.add j) = some u) := by
          refine Lib.hid fun W hW _ => ⟨_, rfl, fun j u hj => ?_⟩
          rw [flat_drop2 HL.out, List.getElem?_drop] at hj
          have := (own_later HQ1.out hW).cells (g := g) rfl _ u hj
          rw [Addr.add_lit] at this ⊢
          rw [Nat.zero_add] at this
          exact this
        go_wp2_with (first
          | (at_builtin; refine wpList_append_whole _ rfl _ _ 59 rfl w1.heap.size 71 i2 _ 2 32 Try.underlying59 hi2 hx0 hx1 hx2 rfl (by decide) (.slice none 0 0) 0 [] rfl (World.ownsRow_nil _ _ _ _) (some ⟨g, 0, none⟩) i _ ((qs.take i).flatMap (·.2)) rfl HN1.out.1 (fun _ => ⟨_, rfl, HN1.out.2⟩) HN3.out (by unfold maxLen; omega) (by omega) (Nat.le_refl _) ?_; intro v2 w2 hown2 hgrow2; (rw [Nat.zero_add, List.nil_append] at hown2); (obtain ⟨p2, c2, rfl, hc2⟩ := row_form hown2); (have HB2 : Hid (Below w1.heap.size w1 w2) := Lib.hid ((Below.refl _ _).grown hgrow2 (Nat.le_refl _) (fun k h => by cases h))); (have HO2 := Lib.hid hown2); (have z2 := two_of ((HB2.out.block t (by omega)).trans HT1.out)); (have hs2 := HB2.out.size); clear hown2 hgrow2)
          | (at_builtin; refine wpList_append_whole _ rfl _ _ 59 rfl w1.heap.size 71 i2 _ 2 32 Try.underlying59 hi2 hx0 hx1 hx2 rfl (by decide) (.slice p2 i c2) i ((qs.take i).flatMap (·.2)) rfl HO2.out _ (T.ps.length - (i + 1)) _ ((qs.drop (i + 1)).flatMap (·.2)) rfl HM1.out (HM2.out _ HB2.out) HM3.out (by unfold maxLen; omega) (by omega) (by omega) ?_; intro v3 w3 hown3 hgrow3; (obtain ⟨p3, c3, rfl, _⟩ := row_form hown3); (have HO3 := Lib.hid hown3); (have HB3 : Hid (Below w1.heap.size w1 w3) := Lib.hid (HB2.out.grown hgrow3 (by omega) (fun k hk => (HO2.out.lt k hk).1))); (have z3 := two_of ((HB3.out.block t (by omega)).trans HT1.out)); clear hown3 hgrow3))
        go_ret
        refine ⟨ret_int HE.out.symm, ?_⟩
        rw [HT.out, show T.ps.take i ++ T.ps.drop (i + 1) = (qs.take i ++ qs.drop (i + 1)).map (·.1) by rw [List.map_append, List.map_take, List.map_drop, HQ.out.1]]
        refine HD.out.moved HBX.out (HB1.out.trans (HB3.out.mono hsz)) (fun p hp => HQ.out.2.1 p ?_) ?_
        · rcases List.mem_append.1 hp with hp | hp
          · exact List.mem_of_mem_take hp
          · exact List.mem_of_mem_drop hp
        · have := own_mono HO3.out hsz
          rw [List.flatMap_append, show (qs.take i ++ qs.drop (i + 1)).length = i + (T.ps.length - (i + 1)) by rw [List.length_append, List.length_take, List.length_drop, hql, Nat.min_eq_left (by omega)]]
          exact this
    · have HG : Hid (grntI T i = false) := Lib.hid (by rw [HGR.out]; simpa using h0)
      have HE : Hid (freeE T pos = 1) := Lib.hid (freeE_no (by unfold isGr; rw [HAT.out]; exact HG.out))
      have HT : Hid (freeT T pos = T) := Lib.hid (freeT_no HAT.out HG.out)
      have hn0 : (0 : Int) < (n : Int) := by omega
      clear h0 hb1 q3
      go_wp2
      go_ret
      refine ⟨ret_int HE.out.symm, ?_⟩
      rw [HT.out]
      exact HD.out.same9 HB1.out
end Go.Proofs.Ytefdhmdkcpgfcaa
