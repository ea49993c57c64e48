/- Walks of layer 19: LocksMeet. -/
import Derived.Test.YtefdhmdkcpgfcaaI11
namespace Go.Proofs.Ytefdhmdkcpgfcaa
open Go.RowKit
set_option maxHeartbeats 16000000 in
set_option maxRecDepth 100000 in
theorem locksMeet_any {PT : Tm9} (hL : LocksIs PT) (a b : Lk) (w : World) : Calls Try.prog 3 #[.agg (lkC a).toArray, .agg (lkC b).toArray] w fun e w' => e = .returned (.bool true) ∧ Below w.heap.size w w' := by
  obtain ⟨t1, l1, h1, x1⟩ := a
  obtain ⟨t2, l2, h2, x2⟩ := b
  have H := Lib.hid hL
  simp only [lkC]
  clear hL
  obtain ⟨W1, hW1⟩ : ∃ W, w.alloc (.cells #[.int .i64 t1, .string l1, .string h1, .bool x1] 23) = W := ⟨_, rfl⟩
  obtain ⟨W2, hW2⟩ : ∃ W, W1.alloc (.cells #[.int .i64 t2, .string l2, .string h2, .bool x2] 23) = W := ⟨_, rfl⟩
  have s1 : W1.heap.size = w.heap.size + 1 := hW1 ▸ World.size_alloc _ _
  have RA0 : Hid (W2.heap[w.heap.size]? = some (.cells #[.int .i64 t1, .string l1, .string h1, .bool x1] 23 (0, 0))) := Lib.hid (by rw [← hW2, alloc_low (by omega), ← hW1]; exact heap_alloc_new _ _)
  have RB0 : Hid (W2.heap[w.heap.size + 1]? = some (.cells #[.int .i64 t2, .string l2, .string h2, .bool x2] 23 (0, 0))) := Lib.hid (by rw [← hW2, ← s1]; exact heap_alloc_new _ _)
  have HB0 : Hid (Below w.heap.size w W2) := Lib.hid (by rw [← hW2, ← hW1]; exact ((Below.refl _ _).alloc (Nat.le_refl _) _).alloc (by simp) _)
  clear s1
  obtain ⟨m, hm⟩ : ∃ m, lkM ⟨t1, l1, h1, x1⟩ ⟨t2, l2, h2, x2⟩ = m := ⟨_, rfl⟩
  obtain ⟨q, hq⟩ : ∃ q, lkR ⟨t1, l1, h1, x1⟩ = q := ⟨_, rfl⟩
  obtain ⟨o, ho⟩ : ∃ o, lkM ⟨t1, l1, h1, x1⟩ ⟨t1, l1, h1, x1⟩ = o := ⟨_, rfl⟩
  have hqo : Hid (q = true → o = x1) := Lib.hid (fun h => by rw [← ho]; exact lkM_self (hq.trans h))
  have HM := Lib.hid hm
  have HN : Hid (lkM ⟨t2, l2, h2, x2⟩ ⟨t1, l1, h1, x1⟩ = m) := Lib.hid (by rw [lkM_comm]; exact hm)
  have HQ := Lib.hid hq
  have HO := Lib.hid ho
  clear hm hq ho
  go_enter Try.func3, Try.ntmps3
  have h1W := Lib.hid hW1
  have h2W := Lib.hid hW2
  clear hW1 hW2
  by_cases hbig : (l1.size ≤ 2147483647 ∧ h1.size ≤ 2147483647) ∧ l2.size ≤ 2147483647 ∧ h2.size ≤ 2147483647
  rotate_left
  · clear H HM HN HQ HO hqo
    by_cases c1 : (l1.size : Int) > 2147483647 <;> by_cases c2 : (h1.size : Int) > 2147483647 <;> by_cases c3 : (l2.size : Int) > 2147483647 <;> by_cases c4 : (h2.size : Int) > 2147483647
    all_goals first | exact absurd ⟨⟨by omega, by omega⟩, by omega, by omega⟩ hbig | skip
    all_goals (clear hbig; go_wp2; rw [h1W.out, h2W.out]; go_ret; exact ⟨rfl, HB0.out⟩)
  have HS := Lib.hid hbig
  obtain ⟨⟨g1, g2⟩, g3, g4⟩ := hbig
  have g1i : ¬ (l1.size : Int) > 2147483647 := by omega
  have g2i : ¬ (h1.size : Int) > 2147483647 := by omega
  have g3i : ¬ (l2.size : Int) > 2147483647 := by omega
  have g4i : ¬ (h2.size : Int) > 2147483647 := by omega
  go_wp2_with fail
  rw [h1W.out, h2W.out]
  clear h1W h2W g1 g2 g3 g4 g1i g2i g3i g4i
  refine (awake19_any H.out _).mono ?_
  rintro e w3 ⟨rfl, hb⟩
  have HB1 := Lib.hid (HB0.out.trans (hb.mono HB0.out.size))
  have RA1 := Lib.hid ((hb.block _ (Array.getElem?_eq_some_iff.1 RA0.out).1).trans RA0.out)
  have RB1 := Lib.hid ((hb.block _ (Array.getElem?_eq_some_iff.1 RB0.out).1).trans RB0.out)
  clear hb RA0 RB0 HB0
  have z1a := four_of RA1.out
  have z1b := four_of RB1.out
  go_wp2_with fail
  clear z1a z1b
  refine (H.out.right ⟨t1, l1, h1, x1⟩ _ HS.out.1.1 HS.out.1.2).mono ?_
  rw [HQ.out]
  rintro e w4 ⟨rfl, hb⟩
  have HB2 := Lib.hid (HB1.out.trans (hb.mono HB1.out.size))
  have RA2 := Lib.hid ((hb.block _ (Array.getElem?_eq_some_iff.1 RA1.out).1).trans RA1.out)
  have RB2 := Lib.hid ((hb.block _ (Array.getElem?_eq_some_iff.1 RB1.out).1).trans RB1.out)
  clear hb RA1 RB1 HB1
  have z2a := four_of RA2.out
  have z2b := four_of RB2.out
  go_wp2_with fail
  clear z2a z2b
  refine (rright19_any ⟨t1, l1, h1, x1⟩ _).mono ?_
  rw [HQ.out]
  rintro e w5 ⟨rfl, hb⟩
  have HB3 := Lib.hid (HB2.out.trans (hb.mono HB2.out.size))
  have RA3 := Lib.hid ((hb.block _ (Array.getElem?_eq_some_iff.1 RA2.out).1).trans RA2.out)
  have RB3 := Lib.hid ((hb.block _ (Array.getElem?_eq_some_iff.1 RB2.out).1).trans RB2.out)
  clear hb RA2 RB2 HB2
  have z3a := four_of RA3.out
  have z3b := four_of RB3.out
  go_wp2_with fail
  clear z3a z3b
  refine (H.out.conflict ⟨t1, l1, h1, x1⟩ ⟨t2, l2, h2, x2⟩ _ HS.out.1.1 HS.out.1.2 HS.out.2.1 HS.out.2.2).mono ?_
  rw [HM.out]
  rintro e w6 ⟨rfl, hb⟩
  have HB4 := Lib.hid (HB3.out.trans (hb.mono HB3.out.size))
  have RA4 := Lib.hid ((hb.block _ (Array.getElem?_eq_some_iff.1 RA3.out).1).trans RA3.out)
  have RB4 := Lib.hid ((hb.block _ (Array.getElem?_eq_some_iff.1 RB3.out).1).trans RB3.out)
  clear hb RA3 RB3 HB3
  have z4a := four_of RA4.out
  have z4b := four_of RB4.out
  go_wp2_with fail
  clear z4a z4b
  refine (H.out.conflict ⟨t2, l2, h2, x2⟩ ⟨t1, l1, h1, x1⟩ _ HS.out.2.1 HS.out.2.2 HS.out.1.1 HS.out.1.2).mono ?_
  rw [HN.out]
  rintro e w7 ⟨rfl, hb⟩
  have HB5 := Lib.hid (HB4.out.trans (hb.mono HB4.out.size))
  have RA5 := Lib.hid ((hb.block _ (Array.getElem?_eq_some_iff.1 RA4.out).1).trans RA4.out)
  have RB5 := Lib.hid ((hb.block _ (Array.getElem?_eq_some_iff.1 RB4.out).1).trans RB4.out)
  clear hb RA4 RB4 HB4
  have z5a := four_of RA5.out
  have z5b := four_of RB5.out
  go_wp2_with fail
  clear z5a z5b
  refine (rconflict_any ⟨t1, l1, h1, x1⟩ ⟨t2, l2, h2, x2⟩ _).mono ?_
  rw [HM.out]
  rintro e w8 ⟨rfl, hb⟩
  have HB6 := Lib.hid (HB5.out.trans (hb.mono HB5.out.size))
  have RA6 := Lib.hid ((hb.block _ (Array.getElem?_eq_some_iff.1 RA5.out).1).trans RA5.out)
  have RB6 := Lib.hid ((hb.block _ (Array.getElem?_eq_some_iff.1 RB5.out).1).trans RB5.out)
  clear hb RA5 RB5 HB5
  have z6a := four_of RA6.out
  have z6b := four_of RB6.out
  go_wp2_with fail
  clear z6a z6b
  refine (H.out.conflict ⟨t1, l1, h1, x1⟩ ⟨t1, l1, h1, x1⟩ _ HS.out.1.1 HS.out.1.2 HS.out.1.1 HS.out.1.2).mono ?_
  rw [HO.out]
  rintro e w9 ⟨rfl, hb⟩
  have HB7 := Lib.hid (HB6.out.trans (hb.mono HB6.out.size))
  have RA7 := Lib.hid ((hb.block _ (Array.getElem?_eq_some_iff.1 RA6.out).1).trans RA6.out)
  have RB7 := Lib.hid ((hb.block _ (Array.getElem?_eq_some_iff.1 RB6.out).1).trans RB6.out)
  clear hb RA6 RB6 HB6
  have z7a := four_of RA7.out
  have z7b := four_of RB7.out
  cases q with
  | false =>
    go_wp2
    go_ret
    exact ⟨ret_bool (by simp), HB7.out⟩
  | true =>
    have e := hqo.out rfl
    subst e
    go_wp2
    go_ret
    exact ⟨ret_bool (by simp), HB7.out⟩
end Go.Proofs.Ytefdhmdkcpgfcaa
