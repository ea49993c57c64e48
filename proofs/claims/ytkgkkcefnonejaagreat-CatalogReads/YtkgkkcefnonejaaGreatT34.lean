/- Walks of layer 8: columns and parameters that are read. -/
import Derived.Test.YtkgkkcefnonejaaGreatT33
namespace Go.Proofs.YtkgkkcefnonejaaGreat
open Go.RowKit

theorem two_cells8 {w : World} {x : Nat} {a b : Value} {t : TypeId} (h : w.heap[x]? = some (.cells #[a, b] t (0, 0))) : w.cell? ⟨x, 0, none⟩ = some a ∧ w.cell? ⟨x, 1, none⟩ = some b := two_cells h
theorem three_cells8 {w : World} {x : Nat} {a b c : Value} {t : TypeId} (h : w.heap[x]? = some (.cells #[a, b, c] t (0, 0))) : w.cell? ⟨x, 0, none⟩ = some a ∧ w.cell? ⟨x, 1, none⟩ = some b ∧ w.cell? ⟨x, 2, none⟩ = some c := three_of h
theorem five_cells8 {w : World} {x : Nat} {a b c d e : Value} {t : TypeId} (h : w.heap[x]? = some (.cells #[a, b, c, d, e] t (0, 0))) : w.cell? ⟨x, 0, none⟩ = some a ∧ w.cell? ⟨x, 1, none⟩ = some b ∧ w.cell? ⟨x, 2, none⟩ = some c ∧ w.cell? ⟨x, 3, none⟩ = some d ∧ w.cell? ⟨x, 4, none⟩ = some e := five_cells h
theorem frz_of {w : World} {x : Nat} {cs : Array Value} {t : TypeId} (h : w.heap[x]? = some (.cells cs t (0, 0))) : ∀ o, w.frozen? ⟨x, o, none⟩ = false := fun o => by simp [World.frozen?, h]
theorem Rdr.keep {w : World} {r g o : Nat} {s : ByteArray} {v : Value} (h : Rdr w r s) (hne : r ≠ g) : Rdr (w.setCell ⟨g, o, none⟩ v) r s := (Below.heap_setCell _ _ _ _ hne).trans h

set_option maxHeartbeats 16000000 in
set_option maxRecDepth 100000 in
theorem rdPm_any (hT : TextSpec) (r : Nat) (s : ByteArray) (w : World) (h : Rdr w r s) (hs : s.size ≤ 2147483648) :
    Calls Tryz.prog 102 #[.pointer (some ⟨r, 0, none⟩)] w fun e w2 => ∃ (x : Pm) (us : List Value) (s2 : ByteArray), e = .returned (.agg us.toArray) ∧ PmR x us ∧ True ∧ Rdr w2 r s2 ∧ s2.size ≤ s.size ∧ Rd encPm (fun c => c.nm.size ≤ 1000 ∧ 0 ≤ c.ty ∧ c.ty ≤ 3) (bs s) x (bs s2) ∧ Only (fun k => k = r) w w2 := by
  have hrl := h.lt
  have HH := Lib.hid h
  clear h
  go_enter Tryz.func102, Tryz.ntmps102
  go_wp2_with fail
  refine (hT r s _ (HH.out.later (by (repeat (first | exact Below.refl _ _ | assumption | refine Below.drew ?_ | refine below_drewN ?_ _ | refine Below.alloc ?_ (by first | omega | (simp; done) | (simp; omega)) _ | refine Below.setCell ?_ (by first | omega | (simp; done) | (simp; omega)) _ | refine Below.trans ?_ (Below.mono (by assumption) (by first | omega | (simp; done) | (simp; omega))))))) hs).mono ?_
  rintro e w1 ⟨nm, s1, rfl, hnm, hr1, hs1, hd1, ho1⟩
  have hz1 := ho1.size
  simp at hz1
  have HR1 := Lib.hid hr1
  have HD1 := Lib.hid hd1
  have HZ1 : Hid (w1.heap[w.heap.size]? = some (.cells #[.string ⟨#[]⟩, .int .i64 0] 66 (0, 0))) := heap_only (heap_alloc_new w _) ho1 (by omega)
  have HO1 : Hid (Only (fun k => k = r) w w1) := ((Only.refl _ _).alloc _).trans ho1
  clear hr1 hd1 ho1
  go_wp2_with fail
  refine (kind_any r s1 _ (HR1.out.later (by (repeat (first | exact Below.refl _ _ | assumption | refine Below.drew ?_ | refine below_drewN ?_ _ | refine Below.alloc ?_ (by first | omega | (simp; done) | (simp; omega)) _ | refine Below.setCell ?_ (by first | omega | (simp; done) | (simp; omega)) _ | refine Below.trans ?_ (Below.mono (by assumption) (by first | omega | (simp; done) | (simp; omega))))))) (by omega)).mono ?_
  rintro e w2 ⟨ty, s2, rfl, hty, hr2, hs2, hd2, ho2⟩
  have hz2 := ho2.size
  simp at hz2
  have HR2 := Lib.hid hr2
  have HD2 := Lib.hid hd2
  have HT2 : Hid (w2.heap[w1.heap.size]? = some (.cells #[.string nm, .int .i64 0] 66 (0, 0))) := heap_only (heap_alloc_new w1 (.cells #[.string nm, .int .i64 0] 66 (0, 0))) ho2 (by omega)
  have HZ2 : Hid (w2.heap[w.heap.size]? = some (.cells #[.string ⟨#[]⟩, .int .i64 0] 66 (0, 0))) := heap_only (heap_of HZ1.out ((Below.refl _ _).alloc (Nat.le_refl _) _)) ho2 (by omega)
  have HO2 : Hid (Only (fun k => k = r ∨ w.heap.size ≤ k) w w2) := (HO1.out.mono (fun k h => Or.inl h)).alloc _ |>.trans (ho2.mono (fun k h => Or.inl h))
  have HK2 : Hid (∀ (S : List TypeId) (B : Nat), 85 ∉ S → Keeps S B (w1.alloc (.cells #[.string nm, .int .i64 0] 66)) w2) := fun S _ hS => Keeps.only (HR1.out.later (by (repeat (first | exact Below.refl _ _ | assumption | refine Below.drew ?_ | refine below_drewN ?_ _ | refine Below.alloc ?_ (by first | omega | (simp; done) | (simp; omega)) _ | refine Below.setCell ?_ (by first | omega | (simp; done) | (simp; omega)) _ | refine Below.trans ?_ (Below.mono (by assumption) (by first | omega | (simp; done) | (simp; omega))))))) ho2 hS
  obtain ⟨x0, x1⟩ := two_cells8 HT2.out
  have fT2 := frz_of HT2.out
  have fZ2 := frz_of HZ2.out
  obtain ⟨z0, z1⟩ := two_cells8 HZ2.out
  clear hr2 hd2 ho2
  have hne1 : ¬ w.heap.size = w1.heap.size := by omega
  have hne2 : ¬ w1.heap.size = w.heap.size := by omega
  go_wp2
  refine bodyPost_ret (v := .agg #[.string nm, .int .i64 ty]) (by simp [results, Tryz.results102, go_sem, *]) rfl ?_
  have hown : PmR ⟨nm, ty⟩ [.string nm, .int .i64 ty] := rfl
  exact ⟨⟨nm, ty⟩, [.string nm, .int .i64 ty], s2, rfl, hown, trivial, (Rdr.keep (Rdr.keep (Rdr.keep HR2.out (g := w1.heap.size) (o := 1) (v := _) (by omega)) (g := w.heap.size) (o := 0) (v := _) (by omega)) (g := w.heap.size) (o := 1) (v := _) (by omega)), by omega, (fun c y hc e => by rw [encPm, List.append_assoc] at e; obtain ⟨e1, e2⟩ := HD1.out _ _ hc.1 e; obtain ⟨e3, e4⟩ := HD2.out _ _ hc.2 e2; exact ⟨by rw [e1, e3], e4⟩), only_base (Only.setCell (Only.setCell (Only.setCell HO2.out (p := ⟨w1.heap.size, 1, none⟩) (Or.inr (by show w.heap.size ≤ w1.heap.size; omega)) _) (p := ⟨w.heap.size, 0, none⟩) (Or.inr (Nat.le_refl _)) _) (p := ⟨w.heap.size, 1, none⟩) (Or.inr (Nat.le_refl _)) _)⟩

set_option maxHeartbeats 16000000 in
set_option maxRecDepth 100000 in
theorem rdCol_any (hT : TextSpec) (r : Nat) (s : ByteArray) (w : World) (h : Rdr w r s) (hs : s.size ≤ 2147483648) :
    Calls Tryz.prog 96 #[.pointer (some ⟨r, 0, none⟩)] w fun e w2 => ∃ (x : Col) (us : List Value) (s2 : ByteArray), e = .returned (.agg us.toArray) ∧ ColR x us ∧ True ∧ Rdr w2 r s2 ∧ s2.size ≤ s.size ∧ Rd encCol (fun c => c.nm.size ≤ 1000 ∧ 0 ≤ c.ty ∧ c.ty ≤ 3) (bs s) x (bs s2) ∧ Only (fun k => k = r) w w2 := by
  have hrl := h.lt
  have HH := Lib.hid h
  clear h
  go_enter Tryz.func96, Tryz.ntmps96
  go_wp2_with fail
  refine (hT r s _ (HH.out.later (by (repeat (first | exact Below.refl _ _ | assumption | refine Below.drew ?_ | refine below_drewN ?_ _ | refine Below.alloc ?_ (by first | omega | (simp; done) | (simp; omega)) _ | refine Below.setCell ?_ (by first | omega | (simp; done) | (simp; omega)) _ | refine Below.trans ?_ (Below.mono (by assumption) (by first | omega | (simp; done) | (simp; omega))))))) hs).mono ?_
  rintro e w1 ⟨nm, s1, rfl, hnm, hr1, hs1, hd1, ho1⟩
  have hz1 := ho1.size
  simp at hz1
  have HR1 := Lib.hid hr1
  have HD1 := Lib.hid hd1
  have HZ1 : Hid (w1.heap[w.heap.size]? = some (.cells #[.string ⟨#[]⟩, .int .i64 0, .bool false] 62 (0, 0))) := heap_only (heap_alloc_new w _) ho1 (by omega)
  have HO1 : Hid (Only (fun k => k = r) w w1) := ((Only.refl _ _).alloc _).trans ho1
  clear hr1 hd1 ho1
  go_wp2_with fail
  refine (kind_any r s1 _ (HR1.out.later (by (repeat (first | exact Below.refl _ _ | assumption | refine Below.drew ?_ | refine below_drewN ?_ _ | refine Below.alloc ?_ (by first | omega | (simp; done) | (simp; omega)) _ | refine Below.setCell ?_ (by first | omega | (simp; done) | (simp; omega)) _ | refine Below.trans ?_ (Below.mono (by assumption) (by first | omega | (simp; done) | (simp; omega))))))) (by omega)).mono ?_
  rintro e w2 ⟨ty, s2, rfl, hty, hr2, hs2, hd2, ho2⟩
  have hz2 := ho2.size
  simp at hz2
  have HR2 := Lib.hid hr2
  have HD2 := Lib.hid hd2
  have HT2 : Hid (w2.heap[w1.heap.size]? = some (.cells #[.string nm, .int .i64 0, .bool false] 62 (0, 0))) := heap_only (heap_alloc_new w1 (.cells #[.string nm, .int .i64 0, .bool false] 62 (0, 0))) ho2 (by omega)
  have HZ2 : Hid (w2.heap[w.heap.size]? = some (.cells #[.string ⟨#[]⟩, .int .i64 0, .bool false] 62 (0, 0))) := heap_only (heap_of HZ1.out ((Below.refl _ _).alloc (Nat.le_refl _) _)) ho2 (by omega)
  have HO2 : Hid (Only (fun k => k = r ∨ w.heap.size ≤ k) w w2) := (HO1.out.mono (fun k h => Or.inl h)).alloc _ |>.trans (ho2.mono (fun k h => Or.inl h))
  have HK2 : Hid (∀ (S : List TypeId) (B : Nat), 85 ∉ S → Keeps S B (w1.alloc (.cells #[.string nm, .int .i64 0, .bool false] 62)) w2) := fun S _ hS => Keeps.only (HR1.out.later (by (repeat (first | exact Below.refl _ _ | assumption | refine Below.drew ?_ | refine below_drewN ?_ _ | refine Below.alloc ?_ (by first | omega | (simp; done) | (simp; omega)) _ | refine Below.setCell ?_ (by first | omega | (simp; done) | (simp; omega)) _ | refine Below.trans ?_ (Below.mono (by assumption) (by first | omega | (simp; done) | (simp; omega))))))) ho2 hS
  obtain ⟨x0, x1, x2⟩ := three_cells8 HT2.out
  have fT2 := frz_of HT2.out
  have fZ2 := frz_of HZ2.out
  obtain ⟨z0, z1, z2⟩ := three_cells8 HZ2.out
  clear hr2 hd2 ho2
  go_wp2_with fail
  refine (truth_any r s2 _ (Rdr.keep HR2.out (by omega)) (by omega)).mono ?_
  rintro e w3 ⟨nn, s3, rfl, hr3, hs3, hd3, ho3⟩
  have hz3 := ho3.size
  simp at hz3
  have HR3 := Lib.hid hr3
  have HD3 := Lib.hid hd3
  have HT3 : Hid (w3.heap[w1.heap.size]? = some (.cells #[.string nm, .int .i64 ty, .bool false] 62 (0, 0))) := heap_only (heap_setCell_at (i := 1) HT2.out (.int .i64 ty)) ho3 (by omega)
  have HZ3 : Hid (w3.heap[w.heap.size]? = some (.cells #[.string ⟨#[]⟩, .int .i64 0, .bool false] 62 (0, 0))) := heap_only ((Below.heap_setCell _ _ _ _ (by show ¬ w.heap.size = w1.heap.size; omega)).trans HZ2.out) ho3 (by omega)
  have HO3 : Hid (Only (fun k => k = r ∨ w.heap.size ≤ k) w w3) := Only.setCell HO2.out (p := ⟨w1.heap.size, 1, none⟩) (Or.inr (by show w.heap.size ≤ w1.heap.size; omega)) _ |>.trans (ho3.mono (fun k h => Or.inl h))
  have HK3 : Hid (∀ (S : List TypeId) (B : Nat), 85 ∉ S → Keeps S B (w2.setCell ⟨w1.heap.size, 1, none⟩ (.int .i64 ty)) w3) := fun S _ hS => Keeps.only (Rdr.keep HR2.out (by omega)) ho3 hS
  obtain ⟨x0, x1, x2⟩ := three_cells8 HT3.out
  have fT3 := frz_of HT3.out
  have fZ3 := frz_of HZ3.out
  obtain ⟨z0, z1, z2⟩ := three_cells8 HZ3.out
  clear hr3 hd3 ho3
  have hne1 : ¬ w.heap.size = w1.heap.size := by omega
  have hne2 : ¬ w1.heap.size = w.heap.size := by omega
  go_wp2
  refine bodyPost_ret (v := .agg #[.string nm, .int .i64 ty, .bool nn]) (by simp [results, Tryz.results96, go_sem, *]) rfl ?_
  have hown : ColR ⟨nm, ty, nn⟩ [.string nm, .int .i64 ty, .bool nn] := rfl
  exact ⟨⟨nm, ty, nn⟩, [.string nm, .int .i64 ty, .bool nn], s3, rfl, hown, trivial, (Rdr.keep (Rdr.keep (Rdr.keep (Rdr.keep HR3.out (g := w1.heap.size) (o := 2) (v := _) (by omega)) (g := w.heap.size) (o := 0) (v := _) (by omega)) (g := w.heap.size) (o := 1) (v := _) (by omega)) (g := w.heap.size) (o := 2) (v := _) (by omega)), by omega, (fun c y hc e => by rw [encCol, List.append_assoc, List.append_assoc] at e; obtain ⟨e1, e2⟩ := HD1.out _ _ hc.1 e; obtain ⟨e3, e4⟩ := HD2.out _ _ hc.2 e2; obtain ⟨e5, e6⟩ := HD3.out _ _ trivial e4; exact ⟨by rw [e1, e3, e5], e6⟩), only_base (Only.setCell (Only.setCell (Only.setCell (Only.setCell HO3.out (p := ⟨w1.heap.size, 2, none⟩) (Or.inr (by show w.heap.size ≤ w1.heap.size; omega)) _) (p := ⟨w.heap.size, 0, none⟩) (Or.inr (Nat.le_refl _)) _) (p := ⟨w.heap.size, 1, none⟩) (Or.inr (Nat.le_refl _)) _) (p := ⟨w.heap.size, 2, none⟩) (Or.inr (Nat.le_refl _)) _)⟩

end Go.Proofs.YtkgkkcefnonejaaGreat
