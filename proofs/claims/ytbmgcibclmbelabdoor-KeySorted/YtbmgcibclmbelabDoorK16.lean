/- Walks of layer 2, sixteenth part: the chapter's examples answer as they should. -/
import Derived.Test.YtbmgcibclmbelabDoorK15
import Derived.Test.YtbmgcibclmbelabDoorK2
import Derived.Test.YtbmgcibclmbelabDoorW3b
namespace Go.Proofs.YtbmgcibclmbelabDoor
open Go.RowKit

theorem ML.alloc {w : World} (h : ML w) (h0 : 0 < w.heap.size) (o : Obj) : ML (w.alloc o) := h.later ((Below.refl w.heap.size w).alloc (Nat.le_refl _) o) h0
theorem enc2 (k n : Int) (s : ByteArray) (k' n' : Int) (s' : ByteArray) (w : World) (b : Nat) (t : TypeId) (hb : b = w.heap.size) (h0 : 0 < w.heap.size) (hm : ML w) :
    Calls Tryd.prog 5 #[.slice (some ⟨b, 0, none⟩) 2 2] (w.alloc (.cells #[.int .i64 k, .int .i64 n, .string s, .int .i64 k', .int .i64 n', .string s'] t)) fun e w' =>
      e = .returned (encV [(k, n, s), (k', n', s')]) ∧ Below (w.alloc (.cells #[.int .i64 k, .int .i64 n, .string s, .int .i64 k', .int .i64 n', .string s'] t)).heap.size (w.alloc (.cells #[.int .i64 k, .int .i64 n, .string s, .int .i64 k', .int .i64 n', .string s'] t)) w' := by
  subst hb
  exact enc_any _ 2 [(k, n, s), (k', n', s')] _ (by simp) (row2 w k n s k' n' s' t) (by simp) (hm.alloc h0 _)
theorem enc1 (k n : Int) (s : ByteArray) (w : World) (b : Nat) (t : TypeId) (hb : b = w.heap.size) (h0 : 0 < w.heap.size) (hm : ML w) :
    Calls Tryd.prog 5 #[.slice (some ⟨b, 0, none⟩) 1 1] (w.alloc (.cells #[.int .i64 k, .int .i64 n, .string s] t)) fun e w' =>
      e = .returned (encV [(k, n, s)]) ∧ Below (w.alloc (.cells #[.int .i64 k, .int .i64 n, .string s] t)).heap.size (w.alloc (.cells #[.int .i64 k, .int .i64 n, .string s] t)) w' := by
  subst hb
  exact enc_any _ 1 [(k, n, s)] _ (by simp) (row1 w k n s t) (by simp) (hm.alloc h0 _)

theorem kx1 : encV [(0, 0, ⟨#[]⟩), (2, 1, ⟨#[]⟩)] = .tuple #[.string ⟨#[1, 3, 1]⟩, .int .i64 0] := by
  have : encR [(0, 0, ⟨#[]⟩), (2, 1, ⟨#[]⟩)] = ([1, 3, 1], 0) := by decide +kernel
  unfold encV; rw [this]
theorem kx2 : encV [(1, 1, ⟨#[]⟩)] = .tuple #[.string ⟨#[2, 128, 0, 0, 0, 0, 0, 0, 1]⟩, .int .i64 0] := by
  have : encR [(1, 1, ⟨#[]⟩)] = ([2, 128, 0, 0, 0, 0, 0, 0, 1], 0) := by decide +kernel
  unfold encV; rw [this]
theorem kx3 : decR (⟨#[4, 0, 255, 0, 0]⟩ : ByteArray).data.toList = ([(3, 0, ⟨#[0]⟩)], 0) := decR_ok ⟨by decide, by intro v hv; rw [List.mem_singleton.1 hv]; decide +kernel, by decide +kernel⟩
theorem kx4 : decR (⟨#[5]⟩ : ByteArray).data.toList = ([], 20) := decR_no (by
  intro vs ⟨_, h, e⟩
  cases vs with
  | nil => exact absurd e (by decide)
  | cons v vs =>
    rw [kbs_cons] at e
    exact head_none (h v (by simp)) ⟨_, e⟩ (by decide) (by decide) (by decide) (by decide))
theorem kx5 : ordL [(1, 1, ⟨#[]⟩), (1, 2, ⟨#[]⟩)] [(1, 1, ⟨#[]⟩)] = 1 := by decide +kernel
theorem kx6 : nxtV ⟨#[4, 255, 255]⟩ = .tuple #[.string ⟨#[5]⟩, .bool true] := by
  have : nxt (⟨#[4, 255, 255]⟩ : ByteArray).data.toList = ([5], true) := by decide +kernel
  unfold nxtV; rw [this]

set_option maxHeartbeats 4000000 in
set_option maxRecDepth 100000 in
theorem kawake_any (w : World) (h0 : 0 < w.heap.size) (hm : ML w) :
    Calls Tryd.prog 4 #[] w fun e w' => e = .returned (.bool true) ∧ Below w.heap.size w w' := by
  go_enter Tryd.func4, Tryd.ntmps4
  go_wp2_with fail
  refine (enc2 _ _ _ _ _ _ _ _ _ (by simp) h0 hm).mono ?_; rintro e w1 ⟨rfl, h1⟩
  rw [kx1]
  have H1 : Below w.heap.size w w1 := by (repeat (first | exact Below.refl _ _ | assumption | refine Below.drew ?_ | refine below_drewN ?_ _ | refine Below.alloc ?_ (by first | omega | (simp; done) | (simp; omega)) _ | refine Below.setCell ?_ (by first | omega | (simp; done) | (simp; omega)) _ | refine Below.trans ?_ (Below.mono (by assumption) (by first | omega | (simp; done) | (simp; omega)))))
  have z1 := H1.size
  have m1 := hm.later H1 h0
  clear h1
  go_wp2_with fail
  refine (knum_any _ _).mono ?_; rintro e w2 ⟨rfl, h2⟩
  have H2 : Below w.heap.size w w2 := by (repeat (first | exact Below.refl _ _ | assumption | refine Below.drew ?_ | refine below_drewN ?_ _ | refine Below.alloc ?_ (by first | omega | (simp; done) | (simp; omega)) _ | refine Below.setCell ?_ (by first | omega | (simp; done) | (simp; omega)) _ | refine Below.trans ?_ (Below.mono (by assumption) (by first | omega | (simp; done) | (simp; omega)))))
  have z2 := H2.size
  have m2 := hm.later H2 h0
  clear h2 H1 z1 m1
  go_wp2_with fail
  refine (enc1 _ _ _ _ _ _ (by simp) (by omega) m2).mono ?_; rintro e w3 ⟨rfl, h3⟩
  rw [kx2]
  have H3 : Below w.heap.size w w3 := by (repeat (first | exact Below.refl _ _ | assumption | refine Below.drew ?_ | refine below_drewN ?_ _ | refine Below.alloc ?_ (by first | omega | (simp; done) | (simp; omega)) _ | refine Below.setCell ?_ (by first | omega | (simp; done) | (simp; omega)) _ | refine Below.trans ?_ (Below.mono (by assumption) (by first | omega | (simp; done) | (simp; omega)))))
  have z3 := H3.size
  clear h3 H2 z2 m2
  go_wp2_with fail
  refine (dec_any _ _ (by decide)).mono ?_; rintro e w4 ⟨v4, rfl, o4, h4⟩
  rw [kx3] at o4 ⊢
  simp only at o4
  have H4 : Below w.heap.size w w4 := by (repeat (first | exact Below.refl _ _ | assumption | refine Below.drew ?_ | refine below_drewN ?_ _ | refine Below.alloc ?_ (by first | omega | (simp; done) | (simp; omega)) _ | refine Below.setCell ?_ (by first | omega | (simp; done) | (simp; omega)) _ | refine Below.trans ?_ (Below.mono (by assumption) (by first | omega | (simp; done) | (simp; omega)))))
  have z4 := H4.size
  obtain ⟨a4, c4, rfl, r4⟩ := Row.of_own o4
  clear h4 H3 z3 o4
  obtain ⟨b, off, rfl, p0, p1, p2⟩ := r4 0 (by decide)
  simp only [List.getElem_cons_zero, Nat.zero_mul, Nat.add_zero, List.length_singleton] at p0 p1 p2 ⊢
  have hbz := cell_lt p0
  clear r4
  go_wp2_with fail
  refine (dec_any _ _ (by decide)).mono ?_; rintro e w5 ⟨v5, rfl, o5, h5⟩
  rw [kx4] at o5 ⊢
  simp only at o5
  have H5 : Below w.heap.size w w5 := by (repeat (first | exact Below.refl _ _ | assumption | refine Below.drew ?_ | refine below_drewN ?_ _ | refine Below.alloc ?_ (by first | omega | (simp; done) | (simp; omega)) _ | refine Below.setCell ?_ (by first | omega | (simp; done) | (simp; omega)) _ | refine Below.trans ?_ (Below.mono (by assumption) (by first | omega | (simp; done) | (simp; omega)))))
  have z5 := H5.size
  have q0 := cell_later h5 p0
  have q1 := cell_later h5 p1
  have q2 := cell_later h5 p2
  have hb5 := cell_lt q0
  clear h5 H4 z4 o5 p0 p1 p2 hbz
  go_wp2_with fail
  refine (knum_any _ _).mono ?_; rintro e w6 ⟨rfl, h6⟩
  have H6 : Below w.heap.size w w6 := by (repeat (first | exact Below.refl _ _ | assumption | refine Below.drew ?_ | refine below_drewN ?_ _ | refine Below.alloc ?_ (by first | omega | (simp; done) | (simp; omega)) _ | refine Below.setCell ?_ (by first | omega | (simp; done) | (simp; omega)) _ | refine Below.trans ?_ (Below.mono (by assumption) (by first | omega | (simp; done) | (simp; omega)))))
  have z6 := H6.size
  have p0 := cell_later h6 q0
  have p1 := cell_later h6 q1
  have p2 := cell_later h6 q2
  have hb6 := cell_lt p0
  clear h6 H5 z5 q0 q1 q2 hb5
  go_wp2_with fail
  refine (knum_any _ _).mono ?_; rintro e w7 ⟨rfl, h7⟩
  have H7 : Below w.heap.size w w7 := by (repeat (first | exact Below.refl _ _ | assumption | refine Below.drew ?_ | refine below_drewN ?_ _ | refine Below.alloc ?_ (by first | omega | (simp; done) | (simp; omega)) _ | refine Below.setCell ?_ (by first | omega | (simp; done) | (simp; omega)) _ | refine Below.trans ?_ (Below.mono (by assumption) (by first | omega | (simp; done) | (simp; omega)))))
  have z7 := H7.size
  have q0 := cell_later h7 p0
  have q1 := cell_later h7 p1
  have q2 := cell_later h7 p2
  have hb7 := cell_lt q0
  clear h7 H6 z6 p0 p1 p2 hb6
  go_wp2_with fail
  refine (knum_any _ _).mono ?_; rintro e w8 ⟨rfl, h8⟩
  have hz8 := h8.size
  simp at hz8
  have R8 : Row w8 (some ⟨w7.heap.size, 0, none⟩) [(1, 1, ⟨#[]⟩), (1, 2, ⟨#[]⟩)] := (row2 w7 1 1 ⟨#[]⟩ 1 2 ⟨#[]⟩ 33).later h8
  have H8 : Below w.heap.size w w8 := by (repeat (first | exact Below.refl _ _ | assumption | refine Below.drew ?_ | refine below_drewN ?_ _ | refine Below.alloc ?_ (by first | omega | (simp; done) | (simp; omega)) _ | refine Below.setCell ?_ (by first | omega | (simp; done) | (simp; omega)) _ | refine Below.trans ?_ (Below.mono (by assumption) (by first | omega | (simp; done) | (simp; omega)))))
  have z8 := H8.size
  have p0 := cell_later h8 (cell_later ((Below.refl w7.heap.size w7).alloc (Nat.le_refl _) _) q0)
  have p1 := cell_later h8 (cell_later ((Below.refl w7.heap.size w7).alloc (Nat.le_refl _) _) q1)
  have p2 := cell_later h8 (cell_later ((Below.refl w7.heap.size w7).alloc (Nat.le_refl _) _) q2)
  have hb8 := cell_lt p0
  clear h8 H7 z7 q0 q1 q2 hb7
  go_wp2_with fail
  refine (kord_any _ _ 2 1 [(1, 1, ⟨#[]⟩), (1, 2, ⟨#[]⟩)] [(1, 1, ⟨#[]⟩)] _ (by decide) (by decide) (R8.alloc _) (row1 w8 1 1 ⟨#[]⟩ 33)).mono ?_; rintro e w9 ⟨rfl, h9⟩
  rw [kx5]
  have H9 : Below w.heap.size w w9 := by (repeat (first | exact Below.refl _ _ | assumption | refine Below.drew ?_ | refine below_drewN ?_ _ | refine Below.alloc ?_ (by first | omega | (simp; done) | (simp; omega)) _ | refine Below.setCell ?_ (by first | omega | (simp; done) | (simp; omega)) _ | refine Below.trans ?_ (Below.mono (by assumption) (by first | omega | (simp; done) | (simp; omega)))))
  have z9 := H9.size
  have q0 := cell_later h9 (cell_later ((Below.refl w8.heap.size w8).alloc (Nat.le_refl _) _) p0)
  have q1 := cell_later h9 (cell_later ((Below.refl w8.heap.size w8).alloc (Nat.le_refl _) _) p1)
  have q2 := cell_later h9 (cell_later ((Below.refl w8.heap.size w8).alloc (Nat.le_refl _) _) p2)
  have hb9 := cell_lt q0
  clear h9 H8 z8 p0 p1 p2 hb8 R8
  go_wp2_with fail
  refine (knext_any _ _ (by decide)).mono ?_; rintro e w10 ⟨rfl, h10⟩
  rw [kx6]
  have H10 : Below w.heap.size w w10 := by (repeat (first | exact Below.refl _ _ | assumption | refine Below.drew ?_ | refine below_drewN ?_ _ | refine Below.alloc ?_ (by first | omega | (simp; done) | (simp; omega)) _ | refine Below.setCell ?_ (by first | omega | (simp; done) | (simp; omega)) _ | refine Below.trans ?_ (Below.mono (by assumption) (by first | omega | (simp; done) | (simp; omega)))))
  have p0 := cell_later h10 q0
  have p1 := cell_later h10 q1
  have p2 := cell_later h10 q2
  have hb10 := cell_lt p0
  clear h10 H9 z9 q0 q1 q2 hb9
  go_wp2
  go_ret
  exact ⟨rfl, by (repeat (first | exact Below.refl _ _ | assumption | refine Below.drew ?_ | refine below_drewN ?_ _ | refine Below.alloc ?_ (by first | omega | (simp; done) | (simp; omega)) _ | refine Below.setCell ?_ (by first | omega | (simp; done) | (simp; omega)) _ | refine Below.trans ?_ (Below.mono (by assumption) (by first | omega | (simp; done) | (simp; omega)))))⟩
end Go.Proofs.YtbmgcibclmbelabDoor
