/- Walks of layer 8: procedures as bytes, and a catalog. -/
import Derived.Test.YtkgkkcefnonejaaGreatT24
namespace Go.Proofs.YtkgkkcefnonejaaGreat
open Go.RowKit

theorem bud_bound {n : Int} (h : budB n = true) : 0 ≤ n ∧ n < 2097152 := by
  simp only [budB, Bool.and_eq_true, decide_eq_true_eq] at h
  omega

set_option maxHeartbeats 16000000 in
set_option maxRecDepth 100000 in
theorem enPc_any (p : Pc) (vs : List Value) (w0 w : World) (v : Value) (xs : List UInt8) (hR : PcR w0 p vs) (hb0 : Below w0.heap.size w0 w) (hm : mayPc p = true) (h : Ink w w0.heap.size v xs) (hl : (xs ++ encPc p).length ≤ 1099511627776) :
    Calls Tryz.prog 48 #[v, .agg vs.toArray] w fun e w' => ∃ v', e = .returned v' ∧ Ink w' w0.heap.size v' (xs ++ encPc p) ∧ Inks w0.heap.size w w' := by
  obtain ⟨m1, m2, m3, m4, m5⟩ := mayPc_parts hm
  obtain ⟨c1, c2⟩ := mayPms_nm m2
  obtain ⟨d1, d2⟩ := mayBody_src m3
  have hnm : p.nm.size < 2097152 := by have := nm_le m1; omega
  obtain ⟨r, hr⟩ : ∃ r : Nat, p.rows = (r : Int) := ⟨p.rows.toNat, by have := bud_bound m4; omega⟩
  obtain ⟨b, hb⟩ : ∃ b : Nat, p.bytes = (b : Int) := ⟨p.bytes.toNat, by have := bud_bound m5; omega⟩
  have hrb : r < 2097152 := by have := bud_bound m4; omega
  have hbb : b < 2097152 := by have := bud_bound m5; omega
  have hpl : p.prms.length ≤ 1000 := by omega
  have hbl : p.body.length ≤ 1000 := by omega
  have HCp : Hid (∀ k (h : k < p.prms.length) vs u ys w1, PmR p.prms[k] vs → Below w0.heap.size w0 w1 → Ink w1 w0.heap.size u ys → (ys ++ encPm p.prms[k]).length ≤ 1099511627776 → Calls Tryz.prog 91 #[u, .agg vs.toArray] w1 fun e w2 => ∃ u', e = .returned u' ∧ Ink w2 w0.heap.size u' (ys ++ encPm p.prms[k]) ∧ Inks w0.heap.size w1 w2) := fun k h vs u ys w1 hR hb hi hl => enPm_any _ vs w1 w0.heap.size u ys hR hb.size (by have := (c2 _ (List.getElem_mem h)).1; omega) (typ_bound (c2 _ (List.getElem_mem h)).2) hi hl
  have HCb : Hid (∀ k (h : k < p.body.length) u ys w1, Below w0.heap.size w0 w1 → Ink w1 w0.heap.size u ys → (ys ++ txt p.body[k]).length ≤ 1099511627776 → Calls Tryz.prog 84 #[u, .string p.body[k]] w1 fun e w2 => ∃ u', e = .returned u' ∧ Ink w2 w0.heap.size u' (ys ++ txt p.body[k]) ∧ Inks w0.heap.size w1 w2) := fun k h u ys w1 hb hi hl => text_any u ys _ w1 w0.heap.size hb.size (by have := (d2 _ (List.getElem_mem h)).2; omega) hi hl
  have HPR : Hid (numI p.rows = num r) := by
    show numI p.rows = num r
    rw [numI, hr]
    rfl
  have HPB : Hid (numI p.bytes = num b) := by
    show numI p.bytes = num b
    rw [numI, hb]
    rfl
  obtain ⟨pp, cp, pb, cb, rfl, r1, r2⟩ := hR
  have HR1 := Lib.hid r1
  have HR2 := Lib.hid r2
  clear m1 m2 m3 m4 m5 c1 c2 d1 d2 r1 r2
  rw [hr, hb]
  have HE : Hid (xs ++ txt p.nm ++ lst encPm p.prms ++ lst txt p.body ++ num r ++ num b = xs ++ encPc p) := by
    show _ = _
    simp [encPc, HPR.out, HPB.out, List.append_assoc]
  rw [← HE.out] at hl ⊢
  have HL := Lib.hid hl
  have HI0 := Lib.hid h
  have HB0 := Lib.hid hb0
  have hs0 := hb0.size
  clear h hl hb0 hm HE
  go_enter Tryz.func48, Tryz.ntmps48
  go_wp2_with fail
  refine (text_any v (xs) p.nm _ w0.heap.size (by have := hs0; first | omega | (simp; omega)) hnm (HI0.out.later (by (repeat (first | exact Below.refl _ _ | assumption | refine Below.drew ?_ | refine below_drewN ?_ _ | refine Below.alloc ?_ (by first | omega | (simp; done) | (simp; omega)) _ | refine Below.setCell ?_ (by first | omega | (simp; done) | (simp; omega)) _ | refine Below.trans ?_ (Below.mono (by assumption) (by first | omega | (simp; done) | (simp; omega))))))) (by have := HL.out; simp only [List.length_append] at this ⊢; omega)).mono ?_
  rintro e w1 ⟨v1, rfl, i1, k1⟩
  have s1 := k1.size
  simp at s1
  have HX1 : Hid (w1.heap[w.heap.size]? = some (.cells #[.string p.nm, .slice pp p.prms.length cp, .slice pb p.body.length cb, .int .i64 (r : Int), .int .i64 (b : Int)] 52 (0, 0))) := k1.heap (heap_alloc_new w (.cells #[.string p.nm, .slice pp p.prms.length cp, .slice pb p.body.length cb, .int .i64 (r : Int), .int .i64 (b : Int)] 52 (0, 0))) (by decide)
  have HK1 : Hid (Inks w0.heap.size w w1) := (Inks.of ((Below.refl _ _).alloc (Nat.le_refl _) _)).trans k1
  have HBW1 : Hid (Below w0.heap.size w0 w1) := Inks.on HB0.out HK1.out
  have HI1 := Lib.hid i1
  obtain ⟨x0, x1, x2, x3, x4⟩ := five_cells HX1.out
  clear i1 k1
  go_wp2_with fail
  refine (aePm_any w0 _ v1 (xs ++ txt p.nm) pp cp p.prms encPm HBW1.out HR1.out hpl HI1.out (by have := HL.out; simp only [List.length_append] at this ⊢; omega) HCp.out).mono ?_
  rintro e w2 ⟨v2, rfl, i2, k2⟩
  have s2 := k2.size
  have HX2 : Hid (w2.heap[w.heap.size]? = some (.cells #[.string p.nm, .slice pp p.prms.length cp, .slice pb p.body.length cb, .int .i64 (r : Int), .int .i64 (b : Int)] 52 (0, 0))) := k2.heap HX1.out (by decide)
  have HK2 : Hid (Inks w0.heap.size w w2) := HK1.out.trans k2
  have HBW2 : Hid (Below w0.heap.size w0 w2) := Inks.on HB0.out HK2.out
  have HI2 := Lib.hid i2
  clear x0 x1 x2 x3 x4
  obtain ⟨x0, x1, x2, x3, x4⟩ := five_cells HX2.out
  clear i2 k2
  go_wp2_with fail
  refine (aeStr_any w0 _ v2 (xs ++ txt p.nm ++ lst encPm p.prms) pb cb p.body txt HBW2.out HR2.out hbl HI2.out (by have := HL.out; simp only [List.length_append] at this ⊢; omega) HCb.out).mono ?_
  rintro e w3 ⟨v3, rfl, i3, k3⟩
  have s3 := k3.size
  have HX3 : Hid (w3.heap[w.heap.size]? = some (.cells #[.string p.nm, .slice pp p.prms.length cp, .slice pb p.body.length cb, .int .i64 (r : Int), .int .i64 (b : Int)] 52 (0, 0))) := k3.heap HX2.out (by decide)
  have HK3 : Hid (Inks w0.heap.size w w3) := HK2.out.trans k3
  have HBW3 : Hid (Below w0.heap.size w0 w3) := Inks.on HB0.out HK3.out
  have HI3 := Lib.hid i3
  clear x0 x1 x2 x3 x4
  obtain ⟨x0, x1, x2, x3, x4⟩ := five_cells HX3.out
  clear i3 k3
  go_wp2
  have HD3 : Hid (Ink w3.drew w0.heap.size v3 (xs ++ txt p.nm ++ lst encPm p.prms ++ lst txt p.body)) := HI3.out.later (Below.refl _ _).drew
  go_region_law (first
    | (go_simp; go_at_call 83; refine (num_any _ _ _ _ w0.heap.size (by have := hs0; first | omega | (simp; omega)) (by first | exact hrb | exact hbb) (by first | exact HD3.out | exact i4) (by have := HL.out; simp only [List.length_append] at this ⊢; omega)).mono ?_; rintro e w4 ⟨v4, rfl, i4, k4⟩; (have s4 := k4.size); (try simp at s4); (have b4 : w4.heap[w.heap.size]? = some (.cells #[.string p.nm, .slice pp p.prms.length cp, .slice pb p.body.length cb, .int .i64 (r : Int), .int .i64 (b : Int)] 52 (0, 0)) := (by first | exact k4.heap b4 (by decide) | exact k4.heap HX3.out (by decide))); obtain ⟨x0, x1, x2, x3, x4⟩ := five_cells b4; (have kk : Inks w0.heap.size w w4 := (by first | exact kk.trans k4 | exact HK3.out.drew.trans k4)); clear k4))
  all_goals
    go_wp2
    go_ret
    exact ⟨_, rfl, i4, kk⟩

theorem txt_len {s : ByteArray} : (txt s).length ≤ s.size + 3 := by
  have := num_len s.size
  rw [txt, List.length_append, bs_len]
  omega
theorem numI_len (n : Int) : (numI n).length ≤ 3 := num_len _
theorem lst_len {α : Type} (f : α → List UInt8) (K n : Nat) (l : List α) (hn : l.length ≤ n) (h : ∀ x ∈ l, (f x).length ≤ K) : (lst f l).length ≤ 3 + n * K := by
  have h1 := num_len l.length
  have h2 := flat_bound f K l h
  have h3 : l.length * K ≤ n * K := Nat.mul_le_mul_right _ hn
  rw [lst, List.length_append]
  omega
theorem encCol_len {c : Col} (h : c.nm.size ≤ 16) : (encCol c).length ≤ 30 := by
  have h1 := txt_len (s := c.nm)
  have h2 := numI_len c.ty
  simp only [encCol, flag, List.length_append, List.length_singleton]
  omega
theorem encPm_len {c : Pm} (h : c.nm.size ≤ 16) : (encPm c).length ≤ 30 := by
  have h1 := txt_len (s := c.nm)
  have h2 := numI_len c.ty
  simp only [encPm, List.length_append]
  omega
theorem encIx_len {c : Ix} (h : c.nm.size ≤ 16) (h2 : c.cols.length ≤ 8) : (encIx c).length ≤ 100 := by
  have h1 := txt_len (s := c.nm)
  have h3 := lst_len numI 3 8 c.cols h2 fun x _ => numI_len x
  simp only [encIx, flag, List.length_append, List.length_singleton]
  omega
theorem encTb_len {t : Tb} (h : mayTb t = true) : (encTb t).length ≤ 10000 := by
  obtain ⟨m1, m2, m3, m4⟩ := mayTb_parts h
  obtain ⟨c1, c2⟩ := mayCols_nm m2
  obtain ⟨k1, k2⟩ := mayKey_parts m3
  obtain ⟨x1, x2⟩ := mayIxs_nm m4
  have e1 := txt_len (s := t.nm)
  have e2 := nm_le m1
  have e3 := lst_len encCol 30 16 t.cols c1.2 fun x hx => encCol_len (c2 x hx).1
  have e4 := lst_len numI 3 8 t.key (mayPl_size k1).2 fun x _ => numI_len x
  have e5 := numI_len t.part
  have e6 := lst_len encIx 100 4 t.ixs x1 fun x hx => encIx_len (x2 x hx).1 (mayPl_size (x2 x hx).2).2
  simp only [encTb, List.length_append]
  omega
theorem encPc_len {p : Pc} (h : mayPc p = true) : (encPc p).length ≤ 100000 := by
  obtain ⟨m1, m2, m3, m4, m5⟩ := mayPc_parts h
  obtain ⟨c1, c2⟩ := mayPms_nm m2
  obtain ⟨d1, d2⟩ := mayBody_src m3
  have e1 := txt_len (s := p.nm)
  have e2 := nm_le m1
  have e3 := lst_len encPm 30 8 p.prms c1 fun x hx => encPm_len (c2 x hx).1
  have e4 := lst_len txt 1003 8 p.body d1.2 fun x hx => by have := txt_len (s := x); have := (d2 x hx).2; omega
  have e5 := numI_len p.rows
  have e6 := numI_len p.bytes
  simp only [encPc, List.length_append]
  omega
theorem encC_len {c : Ct} (h : rightC c = true) : (encC c).length ≤ 10000000 := by
  obtain ⟨h1, h2, h3, h4⟩ := rightC_parts h
  have e1 := lst_len encTb 10000 8 c.tbs h1 fun x hx => encTb_len (h3 x hx)
  have e2 := lst_len encPc 100000 16 c.prs h2 fun x hx => encPc_len (h4 x hx)
  simp only [encC, List.length_append]
  omega
end Go.Proofs.YtkgkkcefnonejaaGreat
