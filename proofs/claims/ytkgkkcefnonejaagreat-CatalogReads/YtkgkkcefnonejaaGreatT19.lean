/- Walks of layer 8: AddTable. -/
import Derived.Test.YtkgkkcefnonejaaGreatT18
namespace Go.Proofs.YtkgkkcefnonejaaGreat
open Go.RowKit

set_option maxHeartbeats 16000000 in
set_option maxRecDepth 100000 in
theorem addTb_any (c : Ct) (t : Tb) (vs us : List Value) (w : World) (hC : CtR w c vs) (hT : TbR w t us) (hf : Fits c) (hm : t.cols.length ≤ 1099511627776) :
    Calls Tryz.prog 28 #[.agg vs.toArray, .agg us.toArray] w fun e w' => ∃ rs, e = .returned (.tuple #[.agg rs.toArray, .int .i64 (addTE c t)]) ∧ CtO w' w.heap.size (addTC c t) rs ∧ Below w.heap.size w w' := by
  obtain ⟨i0, hi, hz0, hz1, hz2⟩ := info_parts Tryz.infoTb
  have HC : Hid (∀ W, Below w.heap.size w W → CtR W c vs) := fun W h => CtR.later h c vs hC
  have HT : Hid (∀ W, Below w.heap.size w W → TbR W t us) := fun W h => TbR.later h t us hT
  obtain ⟨pt, ct, pp, cp, rfl, -, -⟩ := hC
  obtain ⟨pc, cc, pk, ck, px, cx, rfl, -, -, -⟩ := hT
  have HF := Lib.hid hf
  have HB3 : Hid (∀ W, Below (w.heap.size + 3) (((w.alloc (.cells #[.slice pt c.tbs.length ct, .slice pp c.prs.length cp] 25)).alloc (.cells #[.string t.nm, .slice pc t.cols.length cc, .slice pk t.key.length ck, .int .i64 t.part, .slice px t.ixs.length cx] 46)).alloc (.cells #[.slice none 0 0, .slice none 0 0] 25)) W → W.heap[w.heap.size]? = some (.cells #[.slice pt c.tbs.length ct, .slice pp c.prs.length cp] 25 (0, 0)) ∧ W.heap[w.heap.size + 1]? = some (.cells #[.string t.nm, .slice pc t.cols.length cc, .slice pk t.key.length ck, .int .i64 t.part, .slice px t.ixs.length cx] 46 (0, 0)) ∧ W.heap[w.heap.size + 2]? = some (.cells #[.slice none 0 0, .slice none 0 0] 25 (0, 0)) ∧ Below w.heap.size w W) := by
    intro W h
    refine ⟨?_, ?_, ?_, ?_⟩
    · rw [h.block _ (by omega), Below.heap_alloc _ _ _ (by simp; omega), Below.heap_alloc _ _ _ (by simp)]
      exact heap_alloc_new w _
    · rw [h.block _ (by omega), Below.heap_alloc _ _ _ (by simp)]
      simpa using heap_alloc_new (w.alloc (.cells #[.slice pt c.tbs.length ct, .slice pp c.prs.length cp] 25)) (.cells #[.string t.nm, .slice pc t.cols.length cc, .slice pk t.key.length ck, .int .i64 t.part, .slice px t.ixs.length cx] 46 (0, 0))
    · rw [h.block _ (by omega)]
      simpa using heap_alloc_new ((w.alloc (.cells #[.slice pt c.tbs.length ct, .slice pp c.prs.length cp] 25)).alloc (.cells #[.string t.nm, .slice pc t.cols.length cc, .slice pk t.key.length ck, .int .i64 t.part, .slice px t.ixs.length cx] 46)) (.cells #[.slice none 0 0, .slice none 0 0] 25 (0, 0))
    · exact ((((Below.refl _ _).alloc (Nat.le_refl _) _).alloc (by simp) _).alloc (by simp; omega) _).trans (h.mono (by omega))
  clear hf
  have HNo : Hid (∀ W : World, CtO W w.heap.size ⟨[], []⟩ [.slice none 0 0, .slice none 0 0]) := fun W => CtO.none W _
  cases h1 : rightC c with
  | false =>
    have HE : Hid (addTE c t = 80) := by
      show addTE c t = 80
      simp [addTE, h1]
    have HE2 : Hid (addTC c t = ⟨[], []⟩) := by
      show addTC c t = _
      simp [addTC, HE.out]
    go_enter Tryz.func28, Tryz.ntmps28
    go_wp2_with fail
    refine (right_any c _ _ (HC.out _ (by (repeat (first | exact Below.refl _ _ | assumption | refine Below.drew ?_ | refine below_drewN ?_ _ | refine Below.alloc ?_ (by first | omega | (simp; done) | (simp; omega)) _ | refine Below.setCell ?_ (by first | omega | (simp; done) | (simp; omega)) _ | refine Below.trans ?_ (Below.mono (by assumption) (by first | omega | (simp; done) | (simp; omega))))))) HF.out).mono ?_
    rintro e w1 ⟨rfl, hb1⟩
    obtain ⟨e0, e1, e2, e3⟩ := HB3.out w1 (hb1.mono (by simp))
    obtain ⟨c0, c1, -, -⟩ := two_of e0
    obtain ⟨r0, r1, f0, f1⟩ := two_of e2
    have HBW := Lib.hid e3
    rw [h1]
    clear e0 e1 e2 e3 hb1
    go_wp2
    refine bodyPost_ret (v := .tuple #[.agg #[.slice none 0 0, .slice none 0 0], .int .i64 80]) (by simp [results, Tryz.results28, go_sem, *]) rfl ?_
    have hbw := HBW.out
    exact ⟨[.slice none 0 0, .slice none 0 0], by rw [HE.out], by rw [HE2.out]; exact HNo.out _, by (repeat (first | with_reducible exact Below.refl _ _ | with_reducible assumption | refine Below.drew ?_ | refine Below.setCell ?_ (by first | omega | (simp; done) | (simp; omega)) _ | refine Below.alloc ?_ (by first | omega | (simp; done) | (simp; omega)) _ | refine Below.trans ?_ (Below.mono (by with_reducible assumption) (by first | omega | (simp; done) | (simp; omega)))))⟩
  | true =>
    have H1 := Lib.hid h1
    cases h2 : mayTb t with
    | false =>
      have HE : Hid (addTE c t = 80) := by
        show addTE c t = 80
        simp [addTE, h2]
      have HE2 : Hid (addTC c t = ⟨[], []⟩) := by
        show addTC c t = _
        simp [addTC, HE.out]
      go_enter Tryz.func28, Tryz.ntmps28
      go_wp2_with fail
      refine (right_any c _ _ (HC.out _ (by (repeat (first | exact Below.refl _ _ | assumption | refine Below.drew ?_ | refine below_drewN ?_ _ | refine Below.alloc ?_ (by first | omega | (simp; done) | (simp; omega)) _ | refine Below.setCell ?_ (by first | omega | (simp; done) | (simp; omega)) _ | refine Below.trans ?_ (Below.mono (by assumption) (by first | omega | (simp; done) | (simp; omega))))))) HF.out).mono ?_
      rintro e w1 ⟨rfl, hb1⟩
      have hw1 := hb1.size
      simp at hw1
      have HW1 := Lib.hid (hb1.mono (B' := w.heap.size + 3) (by simp))
      obtain ⟨e0, e1, e2, e3⟩ := HB3.out w1 HW1.out
      obtain ⟨c0, c1, -, -⟩ := two_of e0
      obtain ⟨t0, t1, t2, t3, t4⟩ := five_of e1
      have HBW1 := Lib.hid e3
      rw [h1]
      clear e0 e1 e2 e3 hb1
      go_wp2_with fail
      refine (table_any t _ _ (HT.out _ HBW1.out) hm).mono ?_
      rintro e w2 ⟨rfl, hb2⟩
      obtain ⟨e0, e1, e2, e3⟩ := HB3.out w2 (HW1.out.trans (hb2.mono (by omega)))
      obtain ⟨c0, c1, -, -⟩ := two_of e0
      obtain ⟨r0, r1, f0, f1⟩ := two_of e2
      have HBW := Lib.hid e3
      rw [h2]
      clear e0 e1 e2 e3 hb2
      go_wp2
      refine bodyPost_ret (v := .tuple #[.agg #[.slice none 0 0, .slice none 0 0], .int .i64 80]) (by simp [results, Tryz.results28, go_sem, *]) rfl ?_
      have hbw := HBW.out
      exact ⟨[.slice none 0 0, .slice none 0 0], by rw [HE.out], by rw [HE2.out]; exact HNo.out _, by (repeat (first | with_reducible exact Below.refl _ _ | with_reducible assumption | refine Below.drew ?_ | refine Below.setCell ?_ (by first | omega | (simp; done) | (simp; omega)) _ | refine Below.alloc ?_ (by first | omega | (simp; done) | (simp; omega)) _ | refine Below.trans ?_ (Below.mono (by with_reducible assumption) (by first | omega | (simp; done) | (simp; omega)))))⟩
    | true =>
      have H2 := Lib.hid h2
      go_enter Tryz.func28, Tryz.ntmps28
      go_wp2_with fail
      refine (right_any c _ _ (HC.out _ (by (repeat (first | exact Below.refl _ _ | assumption | refine Below.drew ?_ | refine below_drewN ?_ _ | refine Below.alloc ?_ (by first | omega | (simp; done) | (simp; omega)) _ | refine Below.setCell ?_ (by first | omega | (simp; done) | (simp; omega)) _ | refine Below.trans ?_ (Below.mono (by assumption) (by first | omega | (simp; done) | (simp; omega))))))) HF.out).mono ?_
      rintro e w1 ⟨rfl, hb1⟩
      have hw1 := hb1.size
      simp at hw1
      have HW1 := Lib.hid (hb1.mono (B' := w.heap.size + 3) (by simp))
      obtain ⟨e0, e1, e2, e3⟩ := HB3.out w1 HW1.out
      obtain ⟨c0, c1, -, -⟩ := two_of e0
      obtain ⟨t0, t1, t2, t3, t4⟩ := five_of e1
      have HBW1 := Lib.hid e3
      rw [h1]
      clear e0 e1 e2 e3 hb1
      go_wp2_with fail
      refine (table_any t _ _ (HT.out _ HBW1.out) hm).mono ?_
      rintro e w2 ⟨rfl, hb2⟩
      have hw2 := hb2.size
      have HW2 := Lib.hid (HW1.out.trans (hb2.mono (B' := w.heap.size + 3) (by omega)))
      obtain ⟨e0, e1, e2, e3⟩ := HB3.out w2 HW2.out
      clear c0 c1 t0 t1 t2 t3 t4
      obtain ⟨c0, c1, -, -⟩ := two_of e0
      obtain ⟨t0, t1, t2, t3, t4⟩ := five_of e1
      have HBW2 := Lib.hid e3
      rw [h2]
      clear e0 e1 e2 e3 hb2 h1 h2
      have hlen : c.tbs.length ≤ 8 := (rightC_parts H1.out).1
      obtain ⟨i, hii⟩ : ∃ i, fndI (c.tbs.map fun x => bs x.nm) (bs t.nm) = i := ⟨_, rfl⟩
      have HI := Lib.hid hii
      clear hii
      go_wp2_with fail
      refine (atTb_any c _ t.nm _ (HC.out _ HBW2.out) (by omega)).mono ?_
      rintro e w3 ⟨rfl, hb3⟩
      rw [HI.out]
      have hw3 := hb3.size
      have HW3 := Lib.hid (HW2.out.trans (hb3.mono (B' := w.heap.size + 3) (by omega)))
      obtain ⟨e0, e1, e2, e3⟩ := HB3.out w3 HW3.out
      clear c0 c1 t0 t1 t2 t3 t4
      obtain ⟨c0, c1, -, -⟩ := two_of e0
      obtain ⟨t0, t1, t2, t3, t4⟩ := five_of e1
      obtain ⟨r0, r1, f0, f1⟩ := two_of e2
      have HBW3 := Lib.hid e3
      clear e0 e1 e2 e3 hb3
      by_cases hi0 : 0 ≤ i
      · have HE : Hid (addTE c t = 81) := by
          show addTE c t = 81
          simp [addTE, H1.out, H2.out, HI.out, hi0]
        have HE2 : Hid (addTC c t = ⟨[], []⟩) := by
          show addTC c t = _
          simp [addTC, HE.out]
        rw [plV_yes hi0]
        go_wp2
        refine bodyPost_ret (v := .tuple #[.agg #[.slice none 0 0, .slice none 0 0], .int .i64 81]) (by simp [results, Tryz.results28, go_sem, *]) rfl ?_
        have hbw := HBW3.out
        exact ⟨[.slice none 0 0, .slice none 0 0], by rw [HE.out], by rw [HE2.out]; exact HNo.out _, by (repeat (first | with_reducible exact Below.refl _ _ | with_reducible assumption | refine Below.drew ?_ | refine Below.setCell ?_ (by first | omega | (simp; done) | (simp; omega)) _ | refine Below.alloc ?_ (by first | omega | (simp; done) | (simp; omega)) _ | refine Below.trans ?_ (Below.mono (by with_reducible assumption) (by first | omega | (simp; done) | (simp; omega)))))⟩
      · rw [plV_no (by omega)]
        by_cases h8 : c.tbs.length = 8
        · have HE : Hid (addTE c t = 2) := by
            show addTE c t = 2
            simp [addTE, H1.out, H2.out, HI.out, hi0, h8]
          have HE2 : Hid (addTC c t = ⟨[], []⟩) := by
            show addTC c t = _
            simp [addTC, HE.out]
          have h8i : ((c.tbs.length : Int) == 8) = true := by simp [h8]
          clear h8
          go_wp2
          refine bodyPost_ret (v := .tuple #[.agg #[.slice none 0 0, .slice none 0 0], .int .i64 2]) (by simp [results, Tryz.results28, go_sem, *]) rfl ?_
          have hbw := HBW3.out
          exact ⟨[.slice none 0 0, .slice none 0 0], by rw [HE.out], by rw [HE2.out]; exact HNo.out _, by (repeat (first | with_reducible exact Below.refl _ _ | with_reducible assumption | refine Below.drew ?_ | refine Below.setCell ?_ (by first | omega | (simp; done) | (simp; omega)) _ | refine Below.alloc ?_ (by first | omega | (simp; done) | (simp; omega)) _ | refine Below.trans ?_ (Below.mono (by with_reducible assumption) (by first | omega | (simp; done) | (simp; omega)))))⟩
        · have HE : Hid (addTE c t = 0) := by
            show addTE c t = 0
            simp [addTE, H1.out, H2.out, HI.out, hi0, h8]
          have HE2 : Hid (addTC c t = ⟨c.tbs ++ [t], c.prs⟩) := by
            show addTC c t = _
            simp [addTC, HE.out]
          have h8i : ((c.tbs.length : Int) == 8) = false := by simp; omega
          clear h8
          go_wp2_with fail
          refine (cpCt_any c _ _ (HC.out _ HBW3.out) (CtF.of H1.out)).mono ?_
          rintro e w4 ⟨rs, rfl, hO4, hb4⟩
          obtain ⟨vt, vp, rfl, o1, o2⟩ := hO4
          obtain ⟨q1, d1, rfl, -⟩ := o1.form
          obtain ⟨q2, d2, rfl, -⟩ := o2.form
          have hw4 := hb4.size
          have HO1 := Lib.hid o1
          have HO2 := Lib.hid o2
          have HW4 := Lib.hid (HW3.out.trans (hb4.mono (B' := w.heap.size + 3) (by omega)))
          obtain ⟨e0, e1, e2, e3⟩ := HB3.out w4 HW4.out
          clear c0 c1 t0 t1 t2 t3 t4 r0 r1 f0 f1
          obtain ⟨t0, t1, t2, t3, t4⟩ := five_of e1
          have hz4 : w.heap.size + 1 < w4.heap.size := by omega
          have hz5 : w.heap.size + 1 < w4.heap.size + 1 := by omega
          have HBR4 := Lib.hid e2
          have HBW4 := Lib.hid e3
          have HM4 : Hid ((w4.alloc (.cells #[.slice q1 c.tbs.length d1, .slice q2 c.prs.length d2] 25)).heap[w4.heap.size]? = some (.cells #[.slice q1 c.tbs.length d1, .slice q2 c.prs.length d2] 25 (0, 0))) := heap_alloc_new w4 _
          obtain ⟨ps, p1, p2, p3⟩ := HO1.out
          have P1 := Lib.hid p1
          have P2 := Lib.hid p2
          have P3 := Lib.hid p3
          clear e0 e1 e2 e3 hb4 o1 o2 p1 p2 p3
          go_wp2
          go_region_law (first
            | (go_simp; go_at_call 68; refine (cpTb_any t _ _ (HT.out _ (by have h4 := HBW4.out; (repeat (first | exact Below.refl _ _ | assumption | refine Below.drew ?_ | refine below_drewN ?_ _ | refine Below.alloc ?_ (by first | omega | (simp; done) | (simp; omega)) _ | refine Below.setCell ?_ (by first | omega | (simp; done) | (simp; omega)) _ | refine Below.trans ?_ (Below.mono (by assumption) (by first | omega | (simp; done) | (simp; omega))))))) (TbF.of H2.out)).mono ?_; rintro e w5 ⟨xs, rfl, hO5, hb5⟩; (have HO5 := Lib.hid hO5); obtain ⟨u1, u2, u3, rfl, y1, y2, y3⟩ := hO5; obtain ⟨a1, b1, rfl, -⟩ := y1.form; obtain ⟨a2, b2, rfl, -⟩ := y2.form; obtain ⟨a3, b3, rfl, -⟩ := y3.form; clear y1 y2 y3; (have hw5 := hb5.size); (try simp at hw5); (have hz6 : w4.heap.size < w5.heap.size := by omega); (have m5 := heap_of (w := (w4.alloc (.cells #[.slice q1 c.tbs.length d1, .slice q2 c.prs.length d2] 25)).drew) HM4.out hb5); (have r5 := heap_of (w := (w4.alloc (.cells #[.slice q1 c.tbs.length d1, .slice q2 c.prs.length d2] 25)).drew) (heap_of HBR4.out (((Below.refl _ _).alloc (Nat.le_refl _) _).drew)) hb5); (have own5 := own_later (own_later P3.out (((Below.refl _ _).alloc (Nat.le_refl _) (.cells #[.slice q1 c.tbs.length d1, .slice q2 c.prs.length d2] 25 (0, 0))).drew)) hb5); (have HM5 := Lib.hid m5); (have HR5 := Lib.hid r5); obtain ⟨m0, m1, n0, n1⟩ := two_of m5; (have HB5 := Lib.hid hb5); clear m5 r5 hb5)
            | (refine step_append_lies _ (by rfl) _ _ 22 (by rfl) w3.heap.size 46 i0 (.agg #[.string ⟨#[]⟩, .slice none 0 0, .slice none 0 0, .int .i64 0, .slice none 0 0]) 5 96 Tryz.underlying22 hi hz0 hz1 hz2 rfl (by decide) _ c.tbs.length (ps.flatMap (·.2)) (by rfl) (own5.alloc _) ⟨w5.heap.size, 0, none⟩ 1 1 [.string t.nm, .slice a1 t.cols.length b1, .slice a2 t.key.length b2, .int .i64 t.part, .slice a3 t.ixs.length b3] (by rfl) rfl (cells_alloc _ _ _) (by intro u hu; simp only [List.mem_cons, List.not_mem_nil, or_false] at hu; rcases hu with rfl | rfl | rfl | rfl | rfl <;> rfl) Nat.one_pos (by unfold maxLen; omega) (by omega) (by simp; omega) _ (by rfl) ?_; intro g6 cap6 w6 hown6 hgrow6 hor6 hlt6; (have HM6 := Lib.hid (grown_other (own5.alloc _) hgrow6 (heap_of HM5.out ((Below.refl _ _).alloc (Nat.le_refl _) _)) (by decide))); (have HR6 := Lib.hid (grown_other (own5.alloc _) hgrow6 (heap_of HR5.out ((Below.refl _ _).alloc (Nat.le_refl _) _)) (by decide))); obtain ⟨x0, x1, y0, y1⟩ := two_of HM6.out; obtain ⟨z0, z1, s0, s1⟩ := two_of HR6.out; (have HW6 := Lib.hid hown6); (have HG6 := Lib.hid hgrow6); clear hown6 hgrow6))
          all_goals
            have hne : ¬ w.heap.size + 2 = w4.heap.size := by omega
            have hne' : ¬ w4.heap.size = w.heap.size + 2 := by omega
            go_wp2
            refine bodyPost_ret (v := .tuple #[.agg #[.slice (some ⟨g6, 0, none⟩) (c.tbs.length + 1) cap6, .slice q2 c.prs.length d2], .int .i64 0]) (by simp [results, Tryz.results28, go_sem, *]) rfl ?_
            have hb5 := HB5.out
            have hb4 := HBW4.out
            have hR1 : (w6.setCell ⟨w4.heap.size, 0, none⟩ (.slice (some ⟨g6, 0, none⟩) (c.tbs.length + 1) cap6)).heap[w.heap.size + 2]? = some (.cells #[.slice none 0 0, .slice none 0 0] 25 (0, 0)) := (Below.heap_setCell _ _ _ _ hne).trans HR6.out
            have hR2 := heap_setCell_at (i := 0) hR1 (.slice (some ⟨g6, 0, none⟩) (c.tbs.length + 1) cap6)
            have K6 : ∀ S : List TypeId, 25 ∉ S → Keeps S w3.heap.size w6 (((w6.setCell ⟨w4.heap.size, 0, none⟩ (.slice (some ⟨g6, 0, none⟩) (c.tbs.length + 1) cap6)).setCell ⟨w.heap.size + 2, 0, none⟩ (.slice (some ⟨g6, 0, none⟩) (c.tbs.length + 1) cap6)).setCell ⟨w.heap.size + 2, 1, none⟩ (.slice q2 c.prs.length d2)) := fun S hS => (((Keeps.of (Below.refl _ _)).typed HM6.out hS _ _).typed hR1 hS _ _).typed hR2 hS _ _
            have K5 : ∀ S : List TypeId, 46 ∉ S → Keeps S w3.heap.size w5 w6 := fun S hS => (Keeps.of ((Below.refl _ _).alloc (Nat.le_refl _) _)).trans (Keeps.grown (own5.alloc _) HG6.out hS)
            have K4 : ∀ S : List TypeId, 46 ∉ S → Keeps S w3.heap.size w4 w6 := fun S hS => ((Keeps.of (((Below.refl _ _).alloc (Nat.le_refl _) _).drew)).trans (Keeps.of hb5)).trans (K5 S hS)
            have hN := OwnR.push (w3 := w6) (R' := TbO w6 w3.heap.size) P1.out P2.out (TbO.keeps (K4 _ (by decide))) (TbO.keeps (K5 _ (by decide)) _ _ (TbO.mono (by simp; omega) _ _ HO5.out)) rfl HW6.out
            have hN2 := (hN.keeps (S := [46]) (K6 _ (by decide)) (by simp) (TbO.keeps (K6 _ (by decide)))).mono (B' := w.heap.size) (by omega) (TbO.mono (B' := w.heap.size) (by omega))
            have hP2 := (HO2.out.keeps (S := [52]) ((K4 _ (by decide)).trans (K6 _ (by decide))) (by simp) (PcO.keeps ((K4 _ (by decide)).trans (K6 _ (by decide))))).mono (B' := w.heap.size) (by omega) (PcO.mono (B' := w.heap.size) (by omega))
            have hbg : Below w.heap.size w w6 := ((by (repeat (first | with_reducible exact Below.refl _ _ | with_reducible assumption | refine Below.drew ?_ | refine Below.setCell ?_ (by first | omega | (simp; done) | (simp; omega)) _ | refine Below.alloc ?_ (by first | omega | (simp; done) | (simp; omega)) _ | refine Below.trans ?_ (Below.mono (by with_reducible assumption) (by first | omega | (simp; done) | (simp; omega))))) : Below w.heap.size w (w5.alloc (.cells #[.string t.nm, .slice a1 t.cols.length b1, .slice a2 t.key.length b2, .int .i64 t.part, .slice a3 t.ixs.length b3] 46)))).grown HG6.out (by simp; omega) (fun k hk => by have := (own5.lt k hk).1; omega)
            refine ⟨[.slice (some ⟨g6, 0, none⟩) (c.tbs.length + 1) cap6, .slice q2 c.prs.length d2], by rw [HE.out], ?_, by (repeat (first | with_reducible exact Below.refl _ _ | with_reducible assumption | refine Below.drew ?_ | refine Below.setCell ?_ (by first | omega | (simp; done) | (simp; omega)) _ | refine Below.alloc ?_ (by first | omega | (simp; done) | (simp; omega)) _ | refine Below.trans ?_ (Below.mono (by with_reducible assumption) (by first | omega | (simp; done) | (simp; omega)))))⟩
            rw [HE2.out]
            exact ⟨_, _, rfl, hN2, hP2⟩
end Go.Proofs.YtkgkkcefnonejaaGreat
