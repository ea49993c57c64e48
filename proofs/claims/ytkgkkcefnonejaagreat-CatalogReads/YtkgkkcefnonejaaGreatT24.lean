/- Walks of layer 8: tables as bytes. -/
import Derived.Test.YtkgkkcefnonejaaGreatT23
namespace Go.Proofs.YtkgkkcefnonejaaGreat
open Go.RowKit

theorem typ_bound {n : Int} (h : typB n = true) : 0 ≤ n ∧ n < 2097152 := by
  simp only [typB, Bool.and_eq_true, decide_eq_true_eq] at h
  omega
theorem pl_bound {l : List Int} {m : Nat} (h : mayPl l m = true) (hm : m ≤ 16) : ∀ p ∈ l, 0 ≤ p ∧ p < 2097152 := by
  intro p hp
  obtain ⟨k, hk, rfl⟩ := mem_at hp
  obtain ⟨q, e, hq⟩ := mayPl_at h hk
  omega

set_option maxHeartbeats 16000000 in
set_option maxRecDepth 100000 in
theorem enTb_any (t : Tb) (vs : List Value) (w0 w : World) (v : Value) (xs : List UInt8) (hR : TbR w0 t vs) (hb0 : Below w0.heap.size w0 w) (hm : mayTb t = true) (h : Ink w w0.heap.size v xs) (hl : (xs ++ encTb t).length ≤ 1099511627776) :
    Calls Tryz.prog 46 #[v, .agg vs.toArray] w fun e w' => ∃ v', e = .returned v' ∧ Ink w' w0.heap.size v' (xs ++ encTb t) ∧ Inks w0.heap.size w w' := by
  obtain ⟨m1, m2, m3, m4⟩ := mayTb_parts hm
  obtain ⟨c1, c2⟩ := mayCols_nm m2
  obtain ⟨k1, k2⟩ := mayKey_parts m3
  obtain ⟨x1, x2⟩ := mayIxs_nm m4
  have kb := pl_bound k1 c1.2
  have hpart := kb _ k2
  have hnm : t.nm.size < 2097152 := by have := nm_le m1; omega
  obtain ⟨pt, hpt⟩ : ∃ pt : Nat, t.part = (pt : Int) := ⟨t.part.toNat, by omega⟩
  have hptb : pt < 2097152 := by omega
  have hkl : t.key.length ≤ 1000 := by have := mayPl_size k1; omega
  have hcl : t.cols.length ≤ 1000 := by omega
  have hxl : t.ixs.length ≤ 1000 := by omega
  have HCc : Hid (∀ k (h : k < t.cols.length) vs u ys w1, ColR t.cols[k] vs → Below w0.heap.size w0 w1 → Ink w1 w0.heap.size u ys → (ys ++ encCol t.cols[k]).length ≤ 1099511627776 → Calls Tryz.prog 86 #[u, .agg vs.toArray] w1 fun e w2 => ∃ u', e = .returned u' ∧ Ink w2 w0.heap.size u' (ys ++ encCol t.cols[k]) ∧ Inks w0.heap.size w1 w2) := fun k h vs u ys w1 hR hb hi hl => enCol_any _ vs w1 w0.heap.size u ys hR hb.size (by have := (c2 _ (List.getElem_mem h)).1; omega) (typ_bound (c2 _ (List.getElem_mem h)).2) hi hl
  have HCx : Hid (∀ k (h : k < t.ixs.length) vs u ys w1, IxR w0 t.ixs[k] vs → Below w0.heap.size w0 w1 → Ink w1 w0.heap.size u ys → (ys ++ encIx t.ixs[k]).length ≤ 1099511627776 → Calls Tryz.prog 89 #[u, .agg vs.toArray] w1 fun e w2 => ∃ u', e = .returned u' ∧ Ink w2 w0.heap.size u' (ys ++ encIx t.ixs[k]) ∧ Inks w0.heap.size w1 w2) := fun k h vs u ys w1 hR hb hi hl => enIx_any _ vs w0 w1 w0.heap.size u ys hR hb.size rfl hb (by have := (x2 _ (List.getElem_mem h)).1; omega) (by have := mayPl_size (x2 _ (List.getElem_mem h)).2; omega) (pl_bound (x2 _ (List.getElem_mem h)).2 c1.2) hi hl
  have HCk := Lib.hid (numC w0 t.key kb)
  have HPT : Hid (numI t.part = num pt) := by
    show numI t.part = num pt
    rw [numI, hpt]
    rfl
  obtain ⟨pc, cc, pk, ck, px, cx, rfl, r1, r2, r3⟩ := hR
  have HR1 := Lib.hid r1
  have HR2 := Lib.hid r2
  have HR3 := Lib.hid r3
  clear m1 m2 m3 m4 c1 c2 k1 k2 x1 x2 kb hpart r1 r2 r3
  rw [hpt]
  have HE : Hid (xs ++ txt t.nm ++ lst encCol t.cols ++ lst numI t.key ++ num pt ++ lst encIx t.ixs = xs ++ encTb t) := by
    show _ = _
    simp [encTb, HPT.out, List.append_assoc]
  rw [← HE.out] at hl ⊢
  have HL := Lib.hid hl
  have HI0 := Lib.hid h
  have HB0 := Lib.hid hb0
  have hs0 := hb0.size
  clear h hl hb0 hm HE
  go_enter Tryz.func46, Tryz.ntmps46
  go_wp2_with fail
  refine (text_any v (xs) t.nm _ w0.heap.size (by have := hs0; first | omega | (simp; omega)) hnm (HI0.out.later (by (repeat (first | exact Below.refl _ _ | assumption | refine Below.drew ?_ | refine below_drewN ?_ _ | refine Below.alloc ?_ (by first | omega | (simp; done) | (simp; omega)) _ | refine Below.setCell ?_ (by first | omega | (simp; done) | (simp; omega)) _ | refine Below.trans ?_ (Below.mono (by assumption) (by first | omega | (simp; done) | (simp; omega))))))) (by have := HL.out; simp only [List.length_append] at this ⊢; omega)).mono ?_
  rintro e w1 ⟨v1, rfl, i1, k1⟩
  have s1 := k1.size
  simp at s1
  have HX1 : Hid (w1.heap[w.heap.size]? = some (.cells #[.string t.nm, .slice pc t.cols.length cc, .slice pk t.key.length ck, .int .i64 (pt : Int), .slice px t.ixs.length cx] 46 (0, 0))) := k1.heap (heap_alloc_new w (.cells #[.string t.nm, .slice pc t.cols.length cc, .slice pk t.key.length ck, .int .i64 (pt : Int), .slice px t.ixs.length cx] 46 (0, 0))) (by decide)
  have HK1 : Hid (Inks w0.heap.size w w1) := (Inks.of ((Below.refl _ _).alloc (Nat.le_refl _) _)).trans k1
  have HBW1 : Hid (Below w0.heap.size w0 w1) := Inks.on HB0.out HK1.out
  have HI1 := Lib.hid i1
  obtain ⟨x0, x1, x2, x3, x4⟩ := five_cells HX1.out
  clear i1 k1
  go_wp2_with fail
  refine (aeCol_any w0 _ v1 (xs ++ txt t.nm) pc cc t.cols encCol HBW1.out HR1.out hcl HI1.out (by have := HL.out; simp only [List.length_append] at this ⊢; omega) HCc.out).mono ?_
  rintro e w2 ⟨v2, rfl, i2, k2⟩
  have s2 := k2.size
  have HX2 : Hid (w2.heap[w.heap.size]? = some (.cells #[.string t.nm, .slice pc t.cols.length cc, .slice pk t.key.length ck, .int .i64 (pt : Int), .slice px t.ixs.length cx] 46 (0, 0))) := k2.heap HX1.out (by decide)
  have HK2 : Hid (Inks w0.heap.size w w2) := HK1.out.trans k2
  have HBW2 : Hid (Below w0.heap.size w0 w2) := Inks.on HB0.out HK2.out
  have HI2 := Lib.hid i2
  clear x0 x1 x2 x3 x4
  obtain ⟨x0, x1, x2, x3, x4⟩ := five_cells HX2.out
  clear i2 k2
  go_wp2_with fail
  refine (aeInt_any w0 _ v2 (xs ++ txt t.nm ++ lst encCol t.cols) pk ck t.key numI HBW2.out HR2.out hkl HI2.out (by have := HL.out; simp only [List.length_append] at this ⊢; omega) HCk.out).mono ?_
  rintro e w3 ⟨v3, rfl, i3, k3⟩
  have s3 := k3.size
  have HX3 : Hid (w3.heap[w.heap.size]? = some (.cells #[.string t.nm, .slice pc t.cols.length cc, .slice pk t.key.length ck, .int .i64 (pt : Int), .slice px t.ixs.length cx] 46 (0, 0))) := k3.heap HX2.out (by decide)
  have HK3 : Hid (Inks w0.heap.size w w3) := HK2.out.trans k3
  have HBW3 : Hid (Below w0.heap.size w0 w3) := Inks.on HB0.out HK3.out
  have HI3 := Lib.hid i3
  clear x0 x1 x2 x3 x4
  obtain ⟨x0, x1, x2, x3, x4⟩ := five_cells HX3.out
  clear i3 k3
  go_wp2_with fail
  refine (num_any v3 (xs ++ txt t.nm ++ lst encCol t.cols ++ lst numI t.key) pt _ w0.heap.size (by have := hs0; first | omega | (simp; omega)) hptb HI3.out (by have := HL.out; simp only [List.length_append] at this ⊢; omega)).mono ?_
  rintro e w4 ⟨v4, rfl, i4, k4⟩
  have s4 := k4.size
  have HX4 : Hid (w4.heap[w.heap.size]? = some (.cells #[.string t.nm, .slice pc t.cols.length cc, .slice pk t.key.length ck, .int .i64 (pt : Int), .slice px t.ixs.length cx] 46 (0, 0))) := k4.heap HX3.out (by decide)
  have HK4 : Hid (Inks w0.heap.size w w4) := HK3.out.trans k4
  have HBW4 : Hid (Below w0.heap.size w0 w4) := Inks.on HB0.out HK4.out
  have HI4 := Lib.hid i4
  clear x0 x1 x2 x3 x4
  obtain ⟨x0, x1, x2, x3, x4⟩ := five_cells HX4.out
  clear i4 k4
  go_wp2_with fail
  refine (aeIx_any w0 _ v4 (xs ++ txt t.nm ++ lst encCol t.cols ++ lst numI t.key ++ num pt) px cx t.ixs encIx HBW4.out HR3.out hxl HI4.out (by have := HL.out; simp only [List.length_append] at this ⊢; omega) HCx.out).mono ?_
  rintro e w5 ⟨v5, rfl, i5, k5⟩
  have s5 := k5.size
  have HX5 : Hid (w5.heap[w.heap.size]? = some (.cells #[.string t.nm, .slice pc t.cols.length cc, .slice pk t.key.length ck, .int .i64 (pt : Int), .slice px t.ixs.length cx] 46 (0, 0))) := k5.heap HX4.out (by decide)
  have HK5 : Hid (Inks w0.heap.size w w5) := HK4.out.trans k5
  have HBW5 : Hid (Below w0.heap.size w0 w5) := Inks.on HB0.out HK5.out
  have HI5 := Lib.hid i5
  clear x0 x1 x2 x3 x4
  obtain ⟨x0, x1, x2, x3, x4⟩ := five_cells HX5.out
  clear i5 k5
  go_wp2
  go_ret
  exact ⟨_, rfl, HI5.out, HK5.out⟩

end Go.Proofs.YtkgkkcefnonejaaGreat
