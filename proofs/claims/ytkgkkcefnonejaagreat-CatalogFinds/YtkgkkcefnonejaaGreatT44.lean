/- Walks of layer 8: CatalogFinds. -/
import Derived.Test.YtkgkkcefnonejaaGreatT40
import Derived.Test.YtkgkkcefnonejaaGreatT41
import Derived.Test.YtkgkkcefnonejaaGreatT43
namespace Go.Proofs.YtkgkkcefnonejaaGreat
open Go.RowKit

set_option maxHeartbeats 32000000 in
set_option maxRecDepth 100000 in
theorem catalogFinds_law (hT : TextSpec) (c : Ct) (vs : List Value) (s : ByteArray) (w : World) (hR : CtR w c vs) (hZ : CtZ 140737488355328 c) (hs : s.size ≤ 140737488355328) :
    Calls Tryz.prog 5 #[.agg vs.toArray, .string s] w fun e w' => e = .returned (.bool true) ∧ Below w.heap.size w w' := by
  have HC : Hid (∀ W, Below w.heap.size w W → CtR W c vs) := fun W h => CtR.later h c vs hR
  obtain ⟨pt, ct, pp, cp, rfl, r1, -⟩ := hR
  have HR1 := Lib.hid r1
  have HZ := Lib.hid hZ
  have z1 := hZ.tbs
  have z2 := hZ.prs
  have HBX : Hid (∀ W, Below (w.heap.size + 1) (w.alloc (.cells #[.slice pt c.tbs.length ct, .slice pp c.prs.length cp] 25)) W → W.heap[w.heap.size]? = some (.cells #[.slice pt c.tbs.length ct, .slice pp c.prs.length cp] 25 (0, 0)) ∧ Below w.heap.size w W) := fun W h => ⟨(h.block _ (by omega)).trans (heap_alloc_new w _), ((Below.refl _ _).alloc (Nat.le_refl _) _).trans (h.mono (by omega))⟩
  clear r1 hZ
  go_enter Tryz.func5, Tryz.ntmps5
  go_wp2_with fail
  refine (weighs_any c _ _ (HC.out _ (by (repeat (first | exact Below.refl _ _ | assumption | refine Below.drew ?_ | refine below_drewN ?_ _ | refine Below.alloc ?_ (by first | omega | (simp; done) | (simp; omega)) _ | refine Below.setCell ?_ (by first | omega | (simp; done) | (simp; omega)) _ | refine Below.trans ?_ (Below.mono (by assumption) (by first | omega | (simp; done) | (simp; omega))))))) HZ.out).mono ?_
  rintro e w1 ⟨N, rfl, hN, hb1⟩
  have B1 := Lib.hid (hb1.mono (B' := w.heap.size + 1) (by simp))
  obtain ⟨e0, e1⟩ := HBX.out w1 B1.out
  obtain ⟨t0, t1⟩ := two_cells e0
  have W1 := Lib.hid e1
  have hz1 : w.heap.size < w1.heap.size := (Array.getElem?_eq_some_iff.1 e0).1
  have HNN := Lib.hid hN
  clear e0 e1 hb1 hN
  by_cases hNb : N ≤ 2147483647
  · have hNi : ¬ (2147483647 : Int) < (N : Int) := by omega
    have HS := Lib.hid (HNN.out hNb)
    have z3 := HS.out.tbs
    have z4 := HS.out.prs
    by_cases hsb : s.size ≤ 2147483647
    · have hsi : ¬ (2147483647 : Int) < (s.size : Int) := by omega
      go_wp2_with fail
      refine (awake8_any hT _).mono ?_
      rintro e w2 ⟨rfl, hb2⟩
      have B2 := Lib.hid (B1.out.trans (hb2.mono (by omega)))
      obtain ⟨e0, e1⟩ := HBX.out w2 B2.out
      clear t0 t1
      obtain ⟨t0, t1⟩ := two_cells e0
      have W2 := Lib.hid e1
      have hz2 : w.heap.size < w2.heap.size := (Array.getElem?_eq_some_iff.1 e0).1
      clear e0 e1 hb2 hz1
      obtain ⟨X, hX⟩ : ∃ X, fndI (c.tbs.map fun x => bs x.nm) (bs s) = X := ⟨_, rfl⟩
      obtain ⟨Y, hY⟩ : ∃ Y, fndI (c.prs.map fun x => bs x.nm) (bs s) = Y := ⟨_, rfl⟩
      have HX := Lib.hid hX
      have HY := Lib.hid hY
      clear hX hY
      go_wp2_with fail
      refine (atTb_any c _ s _ (HC.out _ W2.out) (by omega)).mono ?_
      rintro e w3 ⟨rfl, hb3⟩
      rw [HX.out]
      have B3 := Lib.hid (B2.out.trans (hb3.mono (by omega)))
      obtain ⟨e0, e1⟩ := HBX.out w3 B3.out
      clear t0 t1
      obtain ⟨t0, t1⟩ := two_cells e0
      have W3 := Lib.hid e1
      have hz3 : w.heap.size < w3.heap.size := (Array.getElem?_eq_some_iff.1 e0).1
      clear e0 e1 hb3 hz2
      unfold plV
      go_wp2_with fail
      refine (atPc_any c _ s _ (HC.out _ W3.out) (by omega)).mono ?_
      rintro e w4 ⟨rfl, hb4⟩
      rw [HY.out]
      have B4 := Lib.hid (B3.out.trans (hb4.mono (by omega)))
      obtain ⟨e0, e1⟩ := HBX.out w4 B4.out
      clear t0 t1
      obtain ⟨t0, t1⟩ := two_cells e0
      have W4 := Lib.hid e1
      have hz4 : w.heap.size < w4.heap.size := (Array.getElem?_eq_some_iff.1 e0).1
      clear e0 e1 hb4 hz3
      unfold plV
      go_wp2_with fail
      refine (ratTb_any c _ s _ (HC.out _ W4.out) (by omega)).mono ?_
      rintro e w5 ⟨rfl, hb5⟩
      rw [HX.out]
      have B5 := Lib.hid (B4.out.trans (hb5.mono (by omega)))
      obtain ⟨e0, e1⟩ := HBX.out w5 B5.out
      clear t0 t1
      obtain ⟨t0, t1⟩ := two_cells e0
      have W5 := Lib.hid e1
      have hz5 : w.heap.size < w5.heap.size := (Array.getElem?_eq_some_iff.1 e0).1
      clear e0 e1 hb5 hz4
      go_wp2_with fail
      refine (ratPc_any c _ s _ (HC.out _ W5.out) (by omega)).mono ?_
      rintro e w6 ⟨rfl, hb6⟩
      rw [HY.out]
      have B6 := Lib.hid (B5.out.trans (hb6.mono (by omega)))
      obtain ⟨e0, e1⟩ := HBX.out w6 B6.out
      clear t0 t1
      obtain ⟨t0, t1⟩ := two_cells e0
      clear e0 e1 hb6 hz5
      have hx1 : X < 0 → plI X = 0 ∧ plE X = 82 := fun h => ⟨if_pos h, if_pos h⟩
      have hx2 : ¬ X < 0 → plI X = X ∧ plE X = 0 := fun h => ⟨if_neg h, if_neg h⟩
      have hy1 : Y < 0 → plI Y = 0 ∧ plE Y = 82 := fun h => ⟨if_pos h, if_pos h⟩
      have hy2 : ¬ Y < 0 → plI Y = Y ∧ plE Y = 0 := fun h => ⟨if_neg h, if_neg h⟩
      have HXY : Hid ((X < 0 ∧ plI X = 0 ∧ plE X = 82 ∨ 0 ≤ X ∧ plI X = X ∧ plE X = 0) ∧ (Y < 0 ∧ plI Y = 0 ∧ plE Y = 82 ∨ 0 ≤ Y ∧ plI Y = Y ∧ plE Y = 0)) := by
        refine ⟨?_, ?_⟩
        · by_cases h : X < 0
          · exact Or.inl ⟨h, hx1 h⟩
          · exact Or.inr ⟨by omega, hx2 h⟩
        · by_cases h : Y < 0
          · exact Or.inl ⟨h, hy1 h⟩
          · exact Or.inr ⟨by omega, hy2 h⟩
      clear hx1 hx2 hy1 hy2
      rcases HXY.out with ⟨⟨hX, ha, hb⟩ | ⟨hX, ha, hb⟩, ⟨hY, hc, hd⟩ | ⟨hY, hc, hd⟩⟩
      all_goals
        go_wp2
        clear ha hb hc hd hX hY t0 t1
        go_loopw [13] (fun i wr => ∃ k : Nat, k ≤ c.tbs.length ∧ i = .int .i64 k ∧ Below (w.heap.size + 1) (w.alloc (.cells #[.slice pt c.tbs.length ct, .slice pp c.prs.length cp] 25)) wr) (fun i _ => c.tbs.length - (intOf i).toNat)
        case atStart => exact ⟨0, Nat.zero_le _, rfl, B6.out⟩
        case round =>
          obtain ⟨k, hk, rfl, hbk⟩ := hrel
          have BK := Lib.hid hbk
          obtain ⟨e0, e1⟩ := HBX.out wr hbk
          obtain ⟨t0, t1⟩ := two_cells e0
          have WK := Lib.hid e1
          have hzk : w.heap.size < wr.heap.size := (Array.getElem?_eq_some_iff.1 e0).1
          clear e0 e1 hbk
          by_cases hlt : k < c.tbs.length
          · have hlti : (k : Int) < (c.tbs.length : Int) := by omega
            obtain ⟨b, off, v0, v1, v2, v3, v4, rfl, hR, g0, g1, g2, g3, g4⟩ := HR1.out.at5 hlt
            have HRk : Hid (∀ W, Below w.heap.size w W → TbR W c.tbs[k] [v0, v1, v2, v3, v4]) := fun W h => TbR.later h _ _ hR
            obtain ⟨pc, cc, pk, ck, px, cx, hR, _, _, _⟩ := hR
            simp only [List.cons.injEq, and_true] at hR
            obtain ⟨rfl, rfl, rfl, rfl, rfl⟩ := hR
            have d0 := cell_later WK.out g0
            have d1 := cell_later WK.out g1
            have d2 := cell_later WK.out g2
            have d3 := cell_later WK.out g3
            have d4 := cell_later WK.out g4
            have hcl := (HS.out.tb _ (List.getElem_mem hlt)).cols
            obtain ⟨P, hP⟩ : ∃ P, fndI (c.tbs[k].cols.map fun x => bs x.nm) (bs s) = P := ⟨_, rfl⟩
            have HP := Lib.hid hP
            have HG : Hid (w.cell? ⟨b, off + k * 5, none⟩ = some (.string c.tbs[k].nm) ∧ w.cell? ⟨b, off + k * 5 + 1, none⟩ = some (.slice pc c.tbs[k].cols.length cc) ∧ w.cell? ⟨b, off + k * 5 + 2, none⟩ = some (.slice pk c.tbs[k].key.length ck) ∧ w.cell? ⟨b, off + k * 5 + 3, none⟩ = some (.int .i64 c.tbs[k].part) ∧ w.cell? ⟨b, off + k * 5 + 4, none⟩ = some (.slice px c.tbs[k].ixs.length cx)) := ⟨g0, g1, g2, g3, g4⟩
            clear hP g0 g1 g2 g3 g4
            go_wp2_with fail
            refine (atCol_any c.tbs[k] _ s _ (HRk.out _ WK.out) (by omega)).mono ?_
            rintro e w7 ⟨rfl, hb7⟩
            rw [HP.out]
            have B7 := Lib.hid (BK.out.trans (hb7.mono (by omega)))
            obtain ⟨e0, e1⟩ := HBX.out w7 B7.out
            clear t0 t1 d0 d1 d2 d3 d4
            obtain ⟨t0, t1⟩ := two_cells e0
            have W7 := Lib.hid e1
            have hz7 : w.heap.size < w7.heap.size := (Array.getElem?_eq_some_iff.1 e0).1
            obtain ⟨g0, g1, g2, g3, g4⟩ := HG.out
            have d0 := cell_later e1 g0
            have d1 := cell_later e1 g1
            have d2 := cell_later e1 g2
            have d3 := cell_later e1 g3
            have d4 := cell_later e1 g4
            clear e0 e1 hb7 hzk g0 g1 g2 g3 g4
            unfold plV
            go_wp2_with fail
            refine (ratCol_any c.tbs[k] _ s _ (HRk.out _ W7.out) (by omega)).mono ?_
            rintro e w8 ⟨rfl, hb8⟩
            rw [HP.out]
            have B8 := Lib.hid (B7.out.trans (hb8.mono (by omega)))
            clear t0 t1 d0 d1 d2 d3 d4 hb8
            have HPP : Hid (P < 0 ∧ plI P = 0 ∧ plE P = 82 ∨ 0 ≤ P ∧ plI P = P ∧ plE P = 0) := by
              by_cases h : P < 0
              · exact Or.inl ⟨h, if_pos h, if_pos h⟩
              · exact Or.inr ⟨by omega, if_neg h, if_neg h⟩
            rcases HPP.out with ⟨hP, ha, hb⟩ | ⟨hP, ha, hb⟩
            all_goals
              go_wp2
              go_roundw
              case rel => exact ⟨k + 1, by omega, by go_num, B8.out⟩
              case measure => simp [intOf]; omega
          · have hlti : ¬ (k : Int) < (c.tbs.length : Int) := by omega
            go_wp2
            go_ret
            exact ⟨rfl, WK.out⟩
    · have hsi : (2147483647 : Int) < (s.size : Int) := by omega
      go_wp2
      go_ret
      exact ⟨rfl, W1.out⟩
  · have hNi : (2147483647 : Int) < (N : Int) := by omega
    go_wp2
    go_ret
    exact ⟨rfl, W1.out⟩
end Go.Proofs.YtkgkkcefnonejaaGreat
