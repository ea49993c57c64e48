/- Walks of layer 8: Decode. -/
import Derived.Test.YtkgkkcefnonejaaGreatT36
namespace Go.Proofs.YtkgkkcefnonejaaGreat
open Go.RowKit

/-- What Decode tells. -/
def DecIs (s : ByteArray) (c : Ct) (k : Int) : Prop :=
  (k = 0 ∧ rightC c = true ∧ encC c = bs s ∧ ∀ c', rightC c' = true → encC c' = bs s → c' = c) ∨ (k = 80 ∧ c = ⟨[], []⟩ ∧ ∀ c', rightC c' = true → encC c' ≠ bs s)
theorem bs_mk (l : List UInt8) : bs ⟨l.toArray⟩ = l := rfl

set_option maxHeartbeats 16000000 in
set_option maxRecDepth 100000 in
theorem decode_any (hT : TextSpec) (s : ByteArray) (w : World) (hs : s.size ≤ 2147483647) :
    Calls Tryz.prog 17 #[.string s] w fun e w' => ∃ (c : Ct) (rs : List Value) (k : Int), e = .returned (.tuple #[.agg rs.toArray, .int .i64 k]) ∧ CtO w' w.heap.size c rs ∧ DecIs s c k ∧ Below w.heap.size w w' := by
  go_enter Tryz.func17, Tryz.ntmps17
  go_wp2_with fail
  refine (reTb_any (w.heap.size + 1) s 8 _ encTb okTb (fun t => t.cols.length ≤ 1000) ?_ (by omega) (by omega) (fun s1 w1 h1 h2 => rdTb_any hT _ s1 w1 h1 h2)).mono ?_
  · have := heap_alloc_new (w.alloc (.cells #[.slice none 0 0, .slice none 0 0] 25)) (.cells #[.string s] 85 (0, 0))
    exact heap_of (by simpa using this) ((Below.refl _ _).alloc (Nat.le_refl _) _)
  rintro e w1 ⟨v1, tbs, s1, rfl, hO1, hl1, hq1, hr1, hs1, hd1, ho1⟩
  obtain ⟨q1, d1, rfl, -⟩ := hO1.form
  have hz1 := ho1.size
  simp at hz1
  have HO1 := Lib.hid hO1
  have HR1 := Lib.hid hr1
  have HD1 := Lib.hid hd1
  have HQ1 := Lib.hid hq1
  have HZ1 : Hid (w1.heap[w.heap.size]? = some (.cells #[.slice none 0 0, .slice none 0 0] 25 (0, 0))) := heap_only (heap_of (heap_alloc_new w _) ((((Below.refl _ _).alloc (Nat.le_refl _) _)).alloc (by simp) _)) ho1 (by omega)
  have HC1 : Hid (w1.heap[w.heap.size + 1 + 1]? = some (.cells #[.slice none 0 0, .slice none 0 0] 25 (0, 0))) := heap_only (by simpa using heap_alloc_new ((w.alloc (.cells #[.slice none 0 0, .slice none 0 0] 25)).alloc (.cells #[.string s] 85)) (.cells #[.slice none 0 0, .slice none 0 0] 25 (0, 0))) ho1 (by omega)
  have HB1 : Hid (Below w.heap.size w w1) := (((((Below.refl _ _).alloc (Nat.le_refl _) _).alloc (by simp) _).alloc (by simp; omega) _)).trans (ho1.below (by simp; omega) fun k hk e => by omega)
  obtain ⟨x0, x1⟩ := two_cells HC1.out
  have f1 := frz_of HC1.out
  clear hO1 hr1 hd1 hq1 ho1
  go_wp2_with fail
  refine (rePc_any (w.heap.size + 1) s1 16 _ encPc okPc (fun _ => True) (Rdr.keep HR1.out (by omega)) (by omega) (by omega) (fun s2 w2 h1 h2 => rdPc_any hT _ s2 w2 h1 h2)).mono ?_
  rintro e w2 ⟨v2, prs, s2, rfl, hO2, hl2, -, hr2, hs2, hd2, ho2⟩
  obtain ⟨q2, d2, rfl, -⟩ := hO2.form
  have hz2 := ho2.size
  simp at hz2
  have HO2 := Lib.hid hO2
  have HD2 := Lib.hid hd2
  have HZ2 : Hid (w2.heap[w.heap.size]? = some (.cells #[.slice none 0 0, .slice none 0 0] 25 (0, 0))) := heap_only ((Below.heap_setCell _ _ _ _ (by show ¬ w.heap.size = w.heap.size + 1 + 1; omega)).trans HZ1.out) ho2 (by omega)
  have HC2 : Hid (w2.heap[w.heap.size + 1 + 1]? = some (.cells #[.slice q1 tbs.length d1, .slice none 0 0] 25 (0, 0))) := heap_only (heap_setCell_at (i := 0) HC1.out _) ho2 (by omega)
  have HB2 : Hid (Below w.heap.size w w2) := (HB1.out.setCell (p := ⟨w.heap.size + 1 + 1, 0, none⟩) (by show w.heap.size ≤ w.heap.size + 1 + 1; omega) _).trans (ho2.below (by simp; omega) fun k hk e => by omega)
  have HK2 : Hid (∀ (S : List TypeId) (B : Nat), 85 ∉ S → Keeps S B (w1.setCell ⟨w.heap.size + 1 + 1, 0, none⟩ (.slice q1 tbs.length d1)) w2) := fun S _ hS => Keeps.only (Rdr.keep HR1.out (by omega)) ho2 hS
  clear x0 x1 f1 hO2 hr2 hd2 ho2
  obtain ⟨x0, x1⟩ := two_cells HC2.out
  have f2 := frz_of HC2.out
  have HWB : Hid (Below w.heap.size w (w2.setCell ⟨w.heap.size + 1 + 1, 1, none⟩ (.slice q2 prs.length d2))) := HB2.out.setCell (p := ⟨w.heap.size + 1 + 1, 1, none⟩) (by show w.heap.size ≤ w.heap.size + 1 + 1; omega) _
  have HCT : Hid (CtO (w2.setCell ⟨w.heap.size + 1 + 1, 1, none⟩ (.slice q2 prs.length d2)) w.heap.size ⟨tbs, prs⟩ [.slice q1 tbs.length d1, .slice q2 prs.length d2]) := by
    have K1 : ∀ S : List TypeId, 85 ∉ S → Keeps S (((w.alloc (.cells #[.slice none 0 0, .slice none 0 0] 25)).alloc (.cells #[.string s] 85)).alloc (.cells #[.slice none 0 0, .slice none 0 0] 25)).heap.size w1 (w2.setCell ⟨w.heap.size + 1 + 1, 1, none⟩ (.slice q2 prs.length d2)) := fun S hS => Keeps.low (Keeps.trans (Keeps.low (Keeps.of (Below.refl _ _)) (by simp) _ _) (HK2.out S _ hS)) (by simp) _ _
    have K2 : ∀ S : List TypeId, Keeps S (w1.setCell ⟨w.heap.size + 1 + 1, 0, none⟩ (.slice q1 tbs.length d1)).heap.size w2 (w2.setCell ⟨w.heap.size + 1 + 1, 1, none⟩ (.slice q2 prs.length d2)) := fun S => Keeps.low (Keeps.of (Below.refl _ _)) (by simp; omega) _ _
    exact ⟨_, _, rfl, (HO1.out.keeps (S := [46]) (K1 _ (by decide)) (by simp) (TbO.keeps (K1 _ (by decide)))).mono (by simp; omega) (TbO.mono (by simp; omega)), (HO2.out.keeps (S := [52]) (K2 _) (by simp) (PcO.keeps (K2 _))).mono (by simp; omega) (PcO.mono (by simp; omega))⟩
  have HZ3 : Hid ((w2.setCell ⟨w.heap.size + 1 + 1, 1, none⟩ (.slice q2 prs.length d2)).heap[w.heap.size]? = some (.cells #[.slice none 0 0, .slice none 0 0] 25 (0, 0))) := (Below.heap_setCell _ _ _ _ (by show ¬ w.heap.size = w.heap.size + 1 + 1; omega)).trans HZ2.out
  have HC3 : Hid ((w2.setCell ⟨w.heap.size + 1 + 1, 1, none⟩ (.slice q2 prs.length d2)).heap[w.heap.size + 1 + 1]? = some (.cells #[.slice q1 tbs.length d1, .slice q2 prs.length d2] 25 (0, 0))) := heap_setCell_at (i := 1) HC2.out _
  go_wp2_with fail
  refine (encode_any ⟨tbs, prs⟩ _ _ (CtO.reads _ _ HCT.out) (fun t ht => by have := HQ1.out t ht; omega)).mono ?_
  rintro e w3 ⟨rfl, hb3⟩
  have hz3 := hb3.size
  simp at hz3
  have HB3 := Lib.hid (below_two HWB.out hb3)
  have HC4 := Lib.hid (heap_of HC3.out hb3)
  have HZ4 := Lib.hid (heap_of HZ3.out hb3)
  have HCT3 := Lib.hid (CtO.later hb3 _ _ HCT.out)
  clear x0 x1 f2 hb3 HCT HC3 HZ3 HWB
  obtain ⟨x0, x1⟩ := two_cells HC4.out
  obtain ⟨z0, z1⟩ := two_cells HZ4.out
  have fz := frz_of HZ4.out
  have HRD : Hid (∀ c', rightC c' = true → encC c' = bs s → c' = ⟨tbs, prs⟩) := fun c' hc e => by
    obtain ⟨g1, g2, g3, g4⟩ := rightC_parts hc
    rw [encC] at e
    obtain ⟨e1, e2⟩ := HD1.out c'.tbs _ ⟨g1, fun t ht => okTb.of (g3 t ht)⟩ e.symm
    have e3 : bs s1 = lst encPc c'.prs ++ [] := by rw [List.append_nil]; exact e2
    obtain ⟨e4, e5⟩ := HD2.out c'.prs _ ⟨g2, fun p hp => okPc.of (g4 p hp)⟩ e3
    rw [e1, e4]
  cases hc : rightC ⟨tbs, prs⟩ with
  | false =>
    have HNO : Hid (∀ c', rightC c' = true → encC c' ≠ bs s) := fun c' h e => by
      rw [HRD.out c' h e, hc] at h
      cases h
    rw [encS_no hc, encE_no hc]
    go_wp2
    refine bodyPost_ret (v := .tuple #[.agg #[.slice none 0 0, .slice none 0 0], .int .i64 80]) (by simp [results, Tryz.results17, go_sem, *]) rfl ?_
    have hb := HB3.out
    exact ⟨⟨[], []⟩, [.slice none 0 0, .slice none 0 0], 80, rfl, CtO.none _ _, Or.inr ⟨rfl, rfl, HNO.out⟩, by (repeat (first | with_reducible exact Below.refl _ _ | with_reducible assumption | refine Below.drew ?_ | refine Below.setCell ?_ (by first | omega | (simp; done) | (simp; omega)) _ | refine Below.alloc ?_ (by first | omega | (simp; done) | (simp; omega)) _ | refine Below.trans ?_ (Below.mono (by with_reducible assumption) (by first | omega | (simp; done) | (simp; omega)))))⟩
  | true =>
    rw [encS_yes hc, encE_yes hc]
    obtain ⟨E, hE⟩ : ∃ E : ByteArray, (⟨(encC ⟨tbs, prs⟩).toArray⟩ : ByteArray) = E := ⟨_, rfl⟩
    have HEB : Hid (encC ⟨tbs, prs⟩ = bs E) := by rw [← hE]; rfl
    rw [hE]
    by_cases he : bs E = bs s
    · have hne : (E.toList == s.toList) = true := by rw [str_eq, decide_eq_true he]
      have HEQ : Hid (DecIs s ⟨tbs, prs⟩ 0) := Or.inl ⟨rfl, hc, by rw [HEB.out, he], HRD.out⟩
      clear he hE
      go_wp2
      refine bodyPost_ret (v := .tuple #[.agg #[.slice q1 tbs.length d1, .slice q2 prs.length d2], .int .i64 0]) (by simp [results, Tryz.results17, go_sem, *]) rfl ?_
      have hb := HB3.out
      have hR1 := heap_setCell_at (i := 0) HZ4.out (.slice q1 tbs.length d1)
      have K : ∀ S : List TypeId, 25 ∉ S → Keeps S w.heap.size w3 ((w3.setCell ⟨w.heap.size, 0, none⟩ (.slice q1 tbs.length d1)).setCell ⟨w.heap.size, 1, none⟩ (.slice q2 prs.length d2)) := fun S hS => ((Keeps.of (Below.refl _ _)).typed HZ4.out hS _ _).typed hR1 hS _ _
      obtain ⟨u1, u2, eu, o1, o2⟩ := HCT3.out
      simp only [List.cons.injEq, and_true] at eu
      obtain ⟨rfl, rfl⟩ := eu
      exact ⟨⟨tbs, prs⟩, [.slice q1 tbs.length d1, .slice q2 prs.length d2], 0, rfl, ⟨_, _, rfl, o1.keeps (S := [46]) (K [46] (by decide)) (by simp) (TbO.keeps (K inTb (by decide))), o2.keeps (S := [52]) (K [52] (by decide)) (by simp) (PcO.keeps (K inPc (by decide)))⟩, HEQ.out, by (repeat (first | with_reducible exact Below.refl _ _ | with_reducible assumption | refine Below.drew ?_ | refine Below.setCell ?_ (by first | omega | (simp; done) | (simp; omega)) _ | refine Below.alloc ?_ (by first | omega | (simp; done) | (simp; omega)) _ | refine Below.trans ?_ (Below.mono (by with_reducible assumption) (by first | omega | (simp; done) | (simp; omega)))))⟩
    · have hne : (E.toList == s.toList) = false := by rw [str_eq, decide_eq_false he]
      have HNO : Hid (∀ c', rightC c' = true → encC c' ≠ bs s) := fun c' h e => by
        rw [HRD.out c' h e, HEB.out] at e
        exact he e
      clear he hE
      go_wp2
      refine bodyPost_ret (v := .tuple #[.agg #[.slice none 0 0, .slice none 0 0], .int .i64 80]) (by simp [results, Tryz.results17, go_sem, *]) rfl ?_
      have hb := HB3.out
      exact ⟨⟨[], []⟩, [.slice none 0 0, .slice none 0 0], 80, rfl, CtO.none _ _, Or.inr ⟨rfl, rfl, HNO.out⟩, by (repeat (first | with_reducible exact Below.refl _ _ | with_reducible assumption | refine Below.drew ?_ | refine Below.setCell ?_ (by first | omega | (simp; done) | (simp; omega)) _ | refine Below.alloc ?_ (by first | omega | (simp; done) | (simp; omega)) _ | refine Below.trans ?_ (Below.mono (by with_reducible assumption) (by first | omega | (simp; done) | (simp; omega)))))⟩
end Go.Proofs.YtkgkkcefnonejaaGreat
