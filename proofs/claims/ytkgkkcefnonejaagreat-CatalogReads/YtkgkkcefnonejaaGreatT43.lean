/- Walks of layer 8: the chapter's examples. -/
import Derived.Test.YtkgkkcefnonejaaGreatT42
namespace Go.Proofs.YtkgkkcefnonejaaGreat
open Go.RowKit

theorem CtR.none (w : World) : CtR w ⟨[], []⟩ [.slice none 0 0, .slice none 0 0] := ⟨Option.none, 0, Option.none, 0, rfl, RowR.nil, RowR.nil⟩
theorem fits_of {c : Ct} (h : rightC c = true) : Fits c := Fits.of h
theorem bs_ext {s t : ByteArray} (h : bs s = bs t) : s = t := bs_inj h
def enc0 : ByteArray := ⟨#[1, 1, 116, 2, 2, 105, 100, 1, 1, 1, 118, 3, 0, 1, 0, 0, 1, 4, 98, 121, 95, 118, 0, 1, 1, 0]⟩
theorem encS_one : encS ⟨[tb0], []⟩ = enc0 := by
  rw [encS_yes one_right, enc_one]
  rfl

set_option maxHeartbeats 16000000 in
set_option maxRecDepth 100000 in
theorem awake8_any (hT : TextSpec) (w : World) : Calls Tryz.prog 10 #[] w fun e w' => e = .returned (.bool true) ∧ Below w.heap.size w w' := by
  go_enter Tryz.func10, Tryz.ntmps10
  go_wp2_with fail
  refine (table8_any _).mono ?_
  rintro e w1 ⟨us, rfl, hR1, hb1⟩
  have HB1 := Lib.hid hb1
  have HR1 := Lib.hid hR1
  obtain ⟨pc, cc, pk, ck, px, cx, rfl, -⟩ := hR1
  clear hb1
  go_wp2_with fail
  refine (addTb_any ⟨[], []⟩ tb0 [.slice none 0 0, .slice none 0 0] _ _ (CtR.none _) HR1.out (fits_of no_right) (by decide)).mono ?_
  rintro e w2 ⟨rs, rfl, hO2, hb2⟩
  rw [add_one]
  rw [add_oneC] at hO2
  have HB2 := Lib.hid (below_two HB1.out hb2)
  have HO2 := Lib.hid hO2
  obtain ⟨vt, vp, rfl, o1, o2⟩ := hO2
  obtain ⟨q1, d1, rfl, -⟩ := o1.form
  obtain ⟨q2, d2, rfl, -⟩ := o2.form
  clear hb2 o1 o2 HR1
  have HC : Hid (∀ W, Below w2.heap.size w2 W → CtR W ⟨[tb0], []⟩ [.slice q1 1 d1, .slice q2 0 d2]) := fun W h => CtR.later h _ _ (CtO.reads _ _ HO2.out)
  have HROW : Hid (∃ b0 o0 : Nat, ∃ pc' pk' px' : Option Addr, ∃ cc' ck' cx' : Nat, q1 = some ⟨b0, o0, none⟩ ∧ w2.cell? ⟨b0, o0, none⟩ = some (.string ⟨#[116]⟩) ∧ w2.cell? ⟨b0, o0 + 1, none⟩ = some (.slice pc' 2 cc') ∧ w2.cell? ⟨b0, o0 + 2, none⟩ = some (.slice pk' 1 ck') ∧ w2.cell? ⟨b0, o0 + 3, none⟩ = some (.int .i64 0) ∧ w2.cell? ⟨b0, o0 + 4, none⟩ = some (.slice px' 1 cx') ∧ TbR w2 tb0 [.string ⟨#[116]⟩, .slice pc' 2 cc', .slice pk' 1 ck', .int .i64 0, .slice px' 1 cx']) := by
    obtain ⟨pt', ct', pp', cp', e, r1, r2⟩ := CtO.reads _ _ HO2.out
    simp only [List.cons.injEq, Value.slice.injEq, and_true] at e
    obtain ⟨⟨rfl, _, rfl⟩, _⟩ := e
    obtain ⟨b0, o0, v0, v1, v2, v3, v4, rfl, hR, e0, e1, e2, e3, e4⟩ := r1.at5 (i := 0) (by decide)
    rw [Nat.zero_mul, Nat.add_zero] at e0 e1 e2 e3 e4
    have hR2 := hR
    obtain ⟨pc', cc', pk', ck', px', cx', hv, -⟩ := hR
    simp only [List.cons.injEq, and_true] at hv
    obtain ⟨rfl, rfl, rfl, rfl, rfl⟩ := hv
    exact ⟨b0, o0, pc', pk', px', cc', ck', cx', rfl, e0, e1, e2, e3, e4, hR2⟩
  obtain ⟨b0, o0, pc', pk', px', cc', ck', cx', rfl, rw0, rw1, rw2, rw3, rw4, hRow⟩ := HROW.out
  have HTR : Hid (∀ W, Below w2.heap.size w2 W → TbR W tb0 [.string ⟨#[116]⟩, .slice pc' 2 cc', .slice pk' 1 ck', .int .i64 0, .slice px' 1 cx']) := fun W h => TbR.later h _ _ hRow
  have HW : Hid (w2.cell? ⟨b0, o0, none⟩ = some (.string ⟨#[116]⟩) ∧ w2.cell? ⟨b0, o0 + 1, none⟩ = some (.slice pc' 2 cc') ∧ w2.cell? ⟨b0, o0 + 2, none⟩ = some (.slice pk' 1 ck') ∧ w2.cell? ⟨b0, o0 + 3, none⟩ = some (.int .i64 0) ∧ w2.cell? ⟨b0, o0 + 4, none⟩ = some (.slice px' 1 cx')) := ⟨rw0, rw1, rw2, rw3, rw4⟩
  clear rw0 rw1 rw2 rw3 rw4 hRow HROW
  have HBX : Hid (∀ W, Below w2.heap.size w2 W → Below w.heap.size w W) := fun W h => below_two HB2.out h
  go_wp2
  go_region_law (first
    | (go_simp; go_at_call 34; refine (table8_any _).mono ?_; rintro e w3 ⟨us3, rfl, hR3, hb3⟩; (have HR3 : Hid (∀ W, Below w3.heap.size w3 W → TbR W tb0 us3) := fun W h => TbR.later h _ _ hR3); obtain ⟨p3, c3, k3, e3, x3, y3, rfl, -⟩ := hR3; (have X3 : Hid (w3.heap[w2.heap.size]? = some (.cells #[.slice (some ⟨b0, o0, none⟩) 1 d1, .slice q2 0 d2] 25 (0, 0))) := (by first | exact heap_of (w := (w2.alloc (.cells #[.slice (some ⟨b0, o0, none⟩) 1 d1, .slice q2 0 d2] 25)).drew) (heap_alloc_new w2 (.cells #[.slice (some ⟨b0, o0, none⟩) 1 d1, .slice q2 0 d2] 25 (0, 0))) hb3 | exact heap_of (w := (w2.alloc (.cells #[.slice (some ⟨b0, o0, none⟩) 1 d1, .slice q2 0 d2] 25)).drew.alloc (.cells #[.slice none 0 0, .slice none 0 0] 25)) (heap_of (w := (w2.alloc (.cells #[.slice (some ⟨b0, o0, none⟩) 1 d1, .slice q2 0 d2] 25)).drew) (heap_alloc_new w2 (.cells #[.slice (some ⟨b0, o0, none⟩) 1 d1, .slice q2 0 d2] 25 (0, 0))) ((Below.refl _ _).alloc (Nat.le_refl _) _)) hb3)); (try (have Y3 : w3.heap[w2.heap.size + 1]? = some (.cells #[.slice none 0 0, .slice none 0 0] 25 (0, 0)) := heap_of (w := (w2.alloc (.cells #[.slice (some ⟨b0, o0, none⟩) 1 d1, .slice q2 0 d2] 25)).drew.alloc (.cells #[.slice none 0 0, .slice none 0 0] 25)) (by simpa using heap_alloc_new (w2.alloc (.cells #[.slice (some ⟨b0, o0, none⟩) 1 d1, .slice q2 0 d2] 25)).drew (.cells #[.slice none 0 0, .slice none 0 0] 25 (0, 0))) hb3)); obtain ⟨t0, t1⟩ := two_cells X3.out; (have z3 : w2.heap.size < w3.heap.size := (Array.getElem?_eq_some_iff.1 X3.out).1); (have s3 := hb3.size); (try simp at s3); (have B3 : Hid (Below w2.heap.size w2 w3) := (by show Below w2.heap.size w2 w3; (repeat (first | exact Below.refl _ _ | assumption | refine Below.drew ?_ | refine below_drewN ?_ _ | refine Below.alloc ?_ (by first | omega | (simp; done) | (simp; omega)) _ | refine Below.setCell ?_ (by first | omega | (simp; done) | (simp; omega)) _ | refine Below.trans ?_ (Below.mono (by assumption) (by first | omega | (simp; done) | (simp; omega))))))); clear hb3)
    | (go_simp; go_at_call 28; refine (addTb_any ⟨[tb0], []⟩ tb0 [.slice (some ⟨b0, o0, none⟩) 1 d1, .slice q2 0 d2] _ _ (HC.out _ (by have hb3 := B3.out; (repeat (first | exact Below.refl _ _ | assumption | refine Below.drew ?_ | refine below_drewN ?_ _ | refine Below.alloc ?_ (by first | omega | (simp; done) | (simp; omega)) _ | refine Below.setCell ?_ (by first | omega | (simp; done) | (simp; omega)) _ | refine Below.trans ?_ (Below.mono (by assumption) (by first | omega | (simp; done) | (simp; omega))))))) (HR3.out _ (by (repeat (first | exact Below.refl _ _ | assumption | refine Below.drew ?_ | refine below_drewN ?_ _ | refine Below.alloc ?_ (by first | omega | (simp; done) | (simp; omega)) _ | refine Below.setCell ?_ (by first | omega | (simp; done) | (simp; omega)) _ | refine Below.trans ?_ (Below.mono (by assumption) (by first | omega | (simp; done) | (simp; omega))))))) (fits_of one_right) (by decide)).mono ?_; rintro e w4 ⟨rs4, rfl, hO4, hb4⟩; rw [add_two]; obtain ⟨vt4, vp4, rfl, o1, o2⟩ := hO4; obtain ⟨a4, b4, rfl, -⟩ := o1.form; obtain ⟨f4, g4, rfl, -⟩ := o2.form; (have s4 := hb4.size); (try simp at s4); (have X4 : Hid (w4.heap[w2.heap.size]? = some (.cells #[.slice (some ⟨b0, o0, none⟩) 1 d1, .slice q2 0 d2] 25 (0, 0))) := (by first | exact heap_of X3.out hb4 | exact heap_of (heap_of X3.out ((Below.refl _ _).alloc (Nat.le_refl _) _)) hb4)); (try (have Y4 : w4.heap[w2.heap.size + 1]? = some (.cells #[.slice none 0 0, .slice none 0 0] 25 (0, 0)) := heap_of Y3 hb4; obtain ⟨y40, y41, y42, y43⟩ := two_of Y4)); (try (have Y4 : w4.heap[w3.heap.size]? = some (.cells #[.slice none 0 0, .slice none 0 0] 25 (0, 0)) := heap_of (heap_alloc_new w3 (.cells #[.slice none 0 0, .slice none 0 0] 25 (0, 0))) hb4; obtain ⟨y40, y41, y42, y43⟩ := two_of Y4)); (have B4 : Hid (Below w2.heap.size w2 w4) := (by have hb3 := B3.out; show Below w2.heap.size w2 w4; (repeat (first | exact Below.refl _ _ | assumption | refine Below.drew ?_ | refine below_drewN ?_ _ | refine Below.alloc ?_ (by first | omega | (simp; done) | (simp; omega)) _ | refine Below.setCell ?_ (by first | omega | (simp; done) | (simp; omega)) _ | refine Below.trans ?_ (Below.mono (by assumption) (by first | omega | (simp; done) | (simp; omega))))))); clear hb4 o1 o2 t0 t1))
  all_goals
    have XW : ∀ W, (W = w4.alloc (.cells #[.slice a4 (addTC ⟨[tb0], []⟩ tb0).tbs.length b4, .slice f4 (addTC ⟨[tb0], []⟩ tb0).prs.length g4] 25) ∨ (∃ g u v, w2.heap.size < g ∧ W = (w4.setCell ⟨g, 0, none⟩ u).setCell ⟨g, 1, none⟩ v)) → W.heap[w2.heap.size]? = some (.cells #[.slice (some ⟨b0, o0, none⟩) 1 d1, .slice q2 0 d2] 25 (0, 0)) ∧ Below w2.heap.size w2 W := by
      intro W hW
      rcases hW with rfl | ⟨g, u, v, hg, rfl⟩
      · exact ⟨heap_of X4.out ((Below.refl _ _).alloc (Nat.le_refl _) _), B4.out.alloc B4.out.size _⟩
      · exact ⟨(Below.heap_setCell _ _ _ _ (by show ¬ w2.heap.size = g; omega)).trans ((Below.heap_setCell _ _ _ _ (by show ¬ w2.heap.size = g; omega)).trans X4.out), (B4.out.setCell (p := ⟨g, 0, none⟩) (by show w2.heap.size ≤ g; omega) _).setCell (p := ⟨g, 1, none⟩) (by show w2.heap.size ≤ g; omega) _⟩
    have HXW := Lib.hid XW
    clear XW
    obtain ⟨t0, t1⟩ := two_cells X4.out
    have z4 : w2.heap.size < w4.heap.size := by have := B4.out.size; have := (Array.getElem?_eq_some_iff.1 X4.out).1; omega
    have z4' : w2.heap.size < w4.heap.size + 1 := by omega
    go_wp2_with fail
    refine (encode_any ⟨[tb0], []⟩ [.slice (some ⟨b0, o0, none⟩) 1 d1, .slice q2 0 d2] _ (HC.out _ (HXW.out _ (by first | exact Or.inl rfl | exact Or.inr ⟨_, _, _, by first | exact z3 | omega, rfl⟩)).2) (fits_of one_right)).mono ?_
    rintro e w5 ⟨rfl, hb5⟩
    rw [encS_one, encE_yes one_right]
    have B5 : Hid (Below w2.heap.size w2 w5) := below_two (HXW.out _ (by first | exact Or.inl rfl | exact Or.inr ⟨_, _, _, by first | exact z3 | omega, rfl⟩)).2 hb5
    have X5 : Hid (w5.heap[w2.heap.size]? = some (.cells #[.slice (some ⟨b0, o0, none⟩) 1 d1, .slice q2 0 d2] 25 (0, 0))) := heap_of (HXW.out _ (by first | exact Or.inl rfl | exact Or.inr ⟨_, _, _, by first | exact z3 | omega, rfl⟩)).1 hb5
    clear t0 t1 hb5 z4 z4'
    obtain ⟨t0, t1⟩ := two_cells X5.out
    go_wp2_with fail
    refine (right_any ⟨[tb0], []⟩ [.slice (some ⟨b0, o0, none⟩) 1 d1, .slice q2 0 d2] _ (HC.out _ B5.out) (fits_of one_right)).mono ?_
    rintro e w6 ⟨rfl, hb6⟩
    rw [one_right]
    have B6 := Lib.hid (below_two B5.out hb6)
    have X6 := Lib.hid (heap_of X5.out hb6)
    clear t0 t1 hb6
    obtain ⟨t0, t1⟩ := two_cells X6.out
    obtain ⟨rw0, rw1, rw2, rw3, rw4⟩ := HW.out
    have rx0 := cell_later B6.out rw0
    have rx1 := cell_later B6.out rw1
    have rx2 := cell_later B6.out rw2
    have rx3 := cell_later B6.out rw3
    have rx4 := cell_later B6.out rw4
    clear rw0 rw1 rw2 rw3 rw4
    go_wp2_with fail
    refine (atCol_any tb0 _ ⟨#[118]⟩ _ (HTR.out _ B6.out) (by decide)).mono ?_
    rintro e w7 ⟨rfl, hb7⟩
    rw [fnd_v, plV_yes (by decide)]
    have B7 := Lib.hid (below_two B6.out hb7)
    have X7 := Lib.hid (heap_of X6.out hb7)
    clear t0 t1 hb7 rx0 rx1 rx2 rx3 rx4
    obtain ⟨t0, t1⟩ := two_cells X7.out
    go_wp2_with fail
    refine (atTb_any ⟨[tb0], []⟩ [.slice (some ⟨b0, o0, none⟩) 1 d1, .slice q2 0 d2] ⟨#[117]⟩ _ (HC.out _ B7.out) (by decide)).mono ?_
    rintro e w8 ⟨rfl, hb8⟩
    rw [fnd_u, plV_no (by decide)]
    have B8 := Lib.hid (below_two B7.out hb8)
    clear t0 t1 hb8
    go_wp2_with fail
    refine (decode_any hT ⟨#[1]⟩ _ (by decide)).mono ?_
    rintro e w9 ⟨c9, rs9, k9, rfl, hO9, hd9, hb9⟩
    obtain rfl := dec_one hd9
    obtain ⟨vt9, vp9, rfl, o1, o2⟩ := hO9
    obtain ⟨a9, b9, rfl, -⟩ := o1.form
    obtain ⟨f9, g9, rfl, -⟩ := o2.form
    have B9 := Lib.hid (below_two B8.out hb9)
    clear o1 o2 hd9 hb9
    go_wp2_with fail
    refine (table8_any _).mono ?_
    rintro e w10 ⟨us10, rfl, hR10, hb10⟩
    have HB10 : Hid (Below w.heap.size w w10) := HBX.out _ (below_two B9.out (by (repeat (first | exact Below.refl _ _ | assumption | refine Below.drew ?_ | refine below_drewN ?_ _ | refine Below.alloc ?_ (by first | omega | (simp; done) | (simp; omega)) _ | refine Below.setCell ?_ (by first | omega | (simp; done) | (simp; omega)) _ | refine Below.trans ?_ (Below.mono (by assumption) (by first | omega | (simp; done) | (simp; omega)))))))
    have HR10 : Hid (∃ pc pk px : Option Addr, ∃ cc ck cx : Nat, us10 = [.string ⟨#[116]⟩, .slice pc 2 cc, .slice pk 1 ck, .int .i64 0, .slice px 1 cx] ∧ ∀ W, Below w10.heap.size w10 W → TbR W tb1 [.string ⟨#[116]⟩, .slice pc 2 cc, .slice pk 1 ck, .int .i64 1, .slice px 1 cx]) := by
      obtain ⟨pc, cc, pk, ck, px, cx, e, r1, r2, r3⟩ := hR10
      exact ⟨pc, pk, px, cc, ck, cx, e, fun W h => ⟨pc, cc, pk, ck, px, cx, rfl, r1.later h fun _ _ h => h, r2.later h fun _ _ h => h, r3.later h (IxR.later h)⟩⟩
    clear hR10 hb10
    obtain ⟨pc0, pk0, px0, cc0, ck0, cx0, rfl, hRR⟩ := HR10.out
    have HRR := Lib.hid hRR
    clear HR10 hRR
    have HCT : Hid (CtR ((w10.alloc (.cells #[.string ⟨#[116]⟩, .slice pc0 2 cc0, .slice pk0 1 ck0, .int .i64 1, .slice px0 1 cx0] 46)).alloc (.cells #[.string ⟨#[116]⟩, .slice pc0 2 cc0, .slice pk0 1 ck0, .int .i64 1, .slice px0 1 cx0] 46)) ⟨[tb1], []⟩ [.slice (some ⟨w10.heap.size + 1, 0, none⟩) 1 1, .slice none 0 0]) := by
      have hh := heap_alloc_new (w10.alloc (.cells #[.string ⟨#[116]⟩, .slice pc0 2 cc0, .slice pk0 1 ck0, .int .i64 1, .slice px0 1 cx0] 46)) (.cells #[.string ⟨#[116]⟩, .slice pc0 2 cc0, .slice pk0 1 ck0, .int .i64 1, .slice px0 1 cx0] 46 (0, 0))
      simp only [World.size_alloc] at hh
      refine ⟨_, _, none, 0, rfl, RowR.ofBlock hh ?_, RowR.nil⟩
      intro i hi
      match i, hi with
      | 0, _ => exact ⟨[.string ⟨#[116]⟩, .slice pc0 2 cc0, .slice pk0 1 ck0, .int .i64 1, .slice px0 1 cx0], HRR.out _ (((Below.refl _ _).alloc (Nat.le_refl _) _).alloc (by simp) _), rfl, fun j hj => match j, hj with | 0, _ => rfl | 1, _ => rfl | 2, _ => rfl | 3, _ => rfl | 4, _ => rfl⟩
    go_wp2_with fail
    refine (right_any ⟨[tb1], []⟩ _ _ HCT.out (fun t ht => by obtain rfl : t = tb1 := by simpa using ht
                                                              decide)).mono ?_
    rintro e w11 ⟨rfl, hb11⟩
    rw [tb1_not]
    have HB11 : Hid (Below w.heap.size w w11) := ((HB10.out.alloc HB10.out.size _).alloc (by have := HB10.out.size; simp; omega) _).trans (hb11.mono (by have := HB10.out.size; simp; omega))
    have hstr : (enc0.toList == [1, 1, 116, 2, 2, 105, 100, 1, 1, 1, 118, 3, 0, 1, 0, 0, 1, 4, 98, 121, 95, 118, 0, 1, 1, 0]) = true := by
      rw [ByteArray.toList_eq]
      decide
    clear hb11
    go_wp2
    go_ret
    exact ⟨rfl, HB11.out⟩
end Go.Proofs.YtkgkkcefnonejaaGreat
