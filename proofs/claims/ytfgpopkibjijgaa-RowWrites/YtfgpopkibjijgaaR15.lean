/- Walks of layer 3, fifteenth part: the chapter's examples answer as they should; a list's values copied into a longer one. -/
import Derived.Test.YtfgpopkibjijgaaR12
import Derived.Test.YtfgpopkibjijgaaW3b
import Derived.Laws.MakeOwn
namespace Go.Proofs.Ytfgpopkibjijgaa
open Go.RowKit

theorem row4 (w : World) (k1 n1 k2 n2 k3 n3 k4 n4 : Int) (s1 s2 s3 s4 : ByteArray) (t : TypeId) : Row (w.alloc (.cells #[.int .i64 k1, .int .i64 n1, .string s1, .int .i64 k2, .int .i64 n2, .string s2, .int .i64 k3, .int .i64 n3, .string s3, .int .i64 k4, .int .i64 n4, .string s4] t)) (some ⟨w.heap.size, 0, none⟩) [(k1, n1, s1), (k2, n2, s2), (k3, n3, s3), (k4, n4, s4)] := by
  intro i hi
  match i, hi with
  | 0, _ => exact ⟨_, _, rfl, by simp, by simp, by simp⟩
  | 1, _ => exact ⟨_, _, rfl, by simp, by simp, by simp⟩
  | 2, _ => exact ⟨_, _, rfl, by simp, by simp, by simp⟩
  | 3, _ => exact ⟨_, _, rfl, by simp, by simp, by simp⟩

theorem rx1 : wrV [(0, 0, ⟨#[]⟩), (1, 1, ⟨#[]⟩), (2, 1, ⟨#[]⟩), (3, 0, ⟨#[97]⟩)] = .tuple #[.string ⟨#[4, 228, 2, 1, 1, 97]⟩, .int .i64 0] := by
  have h : wrR [(0, 0, ⟨#[]⟩), (1, 1, ⟨#[]⟩), (2, 1, ⟨#[]⟩), (3, 0, ⟨#[97]⟩)] = ([4, 228, 2, 1, 1, 97], 0) := by
    unfold wrR
    rw [if_neg (by decide), if_pos (by decide +kernel)]
    refine Prod.ext ?_ rfl
    have hp : pk 1 [(0, 0, ⟨#[]⟩), (1, 1, ⟨#[]⟩), (2, 1, ⟨#[]⟩), (3, 0, ⟨#[97]⟩)] = [228] := by decide +kernel
    show UInt8.ofNat 4 :: (pk 1 _ ++ rbs _) = _
    rw [hp, rbs_cons, rbs_cons, rbs_cons, rbs_one, rb_null rfl, rb_int rfl, rb_bool rfl, rb_text rfl, dg_small (by decide)]
    decide +kernel
  unfold wrV; rw [h]
theorem rx2 : rdR (⟨#[1, 1, 128, 1]⟩ : ByteArray).data.toList = ([(1, 64, ⟨#[]⟩)], 0) := rdR_ok ⟨by decide, by intro v hv; rw [List.mem_singleton.1 hv]; decide +kernel, by
  have hp : pk 1 [(1, 64, ⟨#[]⟩)] = [1] := by decide +kernel
  show UInt8.ofNat 1 :: (pk 1 _ ++ rbs _) = _
  have hf : fd 64 = 128 := by decide
  rw [hp, rbs_one, rb_int rfl]
  show UInt8.ofNat 1 :: ([1] ++ dg (fd 64)) = _
  rw [hf, dg_big (by decide), dg_small (by decide)]
  decide +kernel⟩
theorem rx3 : rdR (⟨#[]⟩ : ByteArray).data.toList = ([], 30) := rdR_no row_empty
theorem dg_more {m : Nat} (h : ¬ m < 128) : (dg m).length = (dg (m / 128)).length + 1 := by rw [dg_big h, List.length_cons]
theorem rx4 : szV [(1, 4611686018427387904, ⟨#[]⟩)] = .tuple #[.int .i64 12, .int .i64 0] := by
  have h : wrR [(1, 4611686018427387904, ⟨#[]⟩)] = (rowB [(1, 4611686018427387904, ⟨#[]⟩)], 0) := by
    unfold wrR
    rw [if_neg (by decide), if_pos (by decide +kernel)]
  have hl : (rowB [(1, 4611686018427387904, ⟨#[]⟩)]).length = 12 := by
    have hf : fd 4611686018427387904 = 9223372036854775808 := by decide
    have hd : (dg 9223372036854775808).length = 10 := by
      rw [dg_more (by decide), dg_more (by decide), dg_more (by decide), dg_more (by decide), dg_more (by decide), dg_more (by decide), dg_more (by decide), dg_more (by decide), dg_more (by decide), dg_small (by decide)]
      rfl
    unfold rowB
    rw [rbs_one, rb_int rfl]
    show (UInt8.ofNat 1 :: (pk 1 _ ++ dg (fd 4611686018427387904))).length = 12
    rw [hf, List.length_cons, List.length_append, pk_length, hd]
  unfold szV; rw [h]; simp only [hl]; rfl

theorem enc4 (k1 n1 k2 n2 k3 n3 k4 n4 : Int) (s1 s2 s3 s4 : ByteArray) (w : World) (b : Nat) (t : TypeId) (hb : b = w.heap.size) :
    Calls Try.prog 8 #[.slice (some ⟨b, 0, none⟩) 4 4] (w.alloc (.cells #[.int .i64 k1, .int .i64 n1, .string s1, .int .i64 k2, .int .i64 n2, .string s2, .int .i64 k3, .int .i64 n3, .string s3, .int .i64 k4, .int .i64 n4, .string s4] t)) fun e w' =>
      e = .returned (wrV [(k1, n1, s1), (k2, n2, s2), (k3, n3, s3), (k4, n4, s4)]) ∧ Below (w.alloc (.cells #[.int .i64 k1, .int .i64 n1, .string s1, .int .i64 k2, .int .i64 n2, .string s2, .int .i64 k3, .int .i64 n3, .string s3, .int .i64 k4, .int .i64 n4, .string s4] t)).heap.size (w.alloc (.cells #[.int .i64 k1, .int .i64 n1, .string s1, .int .i64 k2, .int .i64 n2, .string s2, .int .i64 k3, .int .i64 n3, .string s3, .int .i64 k4, .int .i64 n4, .string s4] t)) w' := by
  subst hb
  exact enc_any _ 4 [(k1, n1, s1), (k2, n2, s2), (k3, n3, s3), (k4, n4, s4)] _ (by simp) (row4 w k1 n1 k2 n2 k3 n3 k4 n4 s1 s2 s3 s4 t)
theorem siz1 (k n : Int) (s : ByteArray) (w : World) (b : Nat) (t : TypeId) (hb : b = w.heap.size) :
    Calls Try.prog 10 #[.slice (some ⟨b, 0, none⟩) 1 1] (w.alloc (.cells #[.int .i64 k, .int .i64 n, .string s] t)) fun e w' =>
      e = .returned (szV [(k, n, s)]) ∧ Below (w.alloc (.cells #[.int .i64 k, .int .i64 n, .string s] t)).heap.size (w.alloc (.cells #[.int .i64 k, .int .i64 n, .string s] t)) w' := by
  subst hb
  exact size_any _ 1 [(k, n, s)] _ (by simp) (row1 w k n s t)

set_option maxHeartbeats 4000000 in
set_option maxRecDepth 100000 in
theorem awake_any (w : World) :
    Calls Try.prog 6 #[] w fun e w' => e = .returned (.bool true) ∧ Below w.heap.size w w' := by
  go_enter Try.func6, Try.ntmps6
  go_wp2_with fail
  refine (num_any _ _).mono ?_; rintro e w1 ⟨rfl, h1⟩
  have H1 : Below w.heap.size w w1 := by (repeat (first | exact Below.refl _ _ | assumption | refine Below.drew ?_ | refine below_drewN ?_ _ | refine Below.alloc ?_ (by first | omega | (simp; done) | (simp; omega)) _ | refine Below.setCell ?_ (by first | omega | (simp; done) | (simp; omega)) _ | refine Below.trans ?_ (Below.mono (by assumption) (by first | omega | (simp; done) | (simp; omega)))))
  have z1 := H1.size
  clear h1
  go_wp2_with fail
  refine (enc4 _ _ _ _ _ _ _ _ _ _ _ _ _ _ _ (by simp)).mono ?_; rintro e w2 ⟨rfl, h2⟩
  rw [rx1]
  have H2 : Below w.heap.size w w2 := by (repeat (first | exact Below.refl _ _ | assumption | refine Below.drew ?_ | refine below_drewN ?_ _ | refine Below.alloc ?_ (by first | omega | (simp; done) | (simp; omega)) _ | refine Below.setCell ?_ (by first | omega | (simp; done) | (simp; omega)) _ | refine Below.trans ?_ (Below.mono (by assumption) (by first | omega | (simp; done) | (simp; omega)))))
  have z2 := H2.size
  clear h2 H1 z1
  go_wp2_with fail
  refine (dec_any _ _ (by decide)).mono ?_; rintro e w3 ⟨v3, rfl, o3, h3⟩
  rw [rx2] at o3 ⊢
  simp only at o3
  have H3 : Below w.heap.size w w3 := by (repeat (first | exact Below.refl _ _ | assumption | refine Below.drew ?_ | refine below_drewN ?_ _ | refine Below.alloc ?_ (by first | omega | (simp; done) | (simp; omega)) _ | refine Below.setCell ?_ (by first | omega | (simp; done) | (simp; omega)) _ | refine Below.trans ?_ (Below.mono (by assumption) (by first | omega | (simp; done) | (simp; omega)))))
  have z3 := H3.size
  obtain ⟨a3, c3, rfl, r3⟩ := Row.of_own o3
  clear h3 H2 z2 o3
  obtain ⟨b, off, rfl, p0, p1, p2⟩ := r3 0 (by decide)
  simp only [List.getElem_cons_zero, Nat.zero_mul, Nat.add_zero, List.length_singleton] at p0 p1 p2 ⊢
  have hbz := cell_lt p0
  clear r3
  go_wp2_with fail
  refine (dec_any _ _ (by decide)).mono ?_; rintro e w4 ⟨v4, rfl, o4, h4⟩
  rw [rx3] at o4 ⊢
  simp only at o4
  have H4 : Below w.heap.size w w4 := by (repeat (first | exact Below.refl _ _ | assumption | refine Below.drew ?_ | refine below_drewN ?_ _ | refine Below.alloc ?_ (by first | omega | (simp; done) | (simp; omega)) _ | refine Below.setCell ?_ (by first | omega | (simp; done) | (simp; omega)) _ | refine Below.trans ?_ (Below.mono (by assumption) (by first | omega | (simp; done) | (simp; omega)))))
  have z4 := H4.size
  have q0 := cell_later h4 p0
  have q1 := cell_later h4 p1
  have q2 := cell_later h4 p2
  have hb4 := cell_lt q0
  clear h4 H3 z3 o4 p0 p1 p2 hbz
  go_wp2_with fail
  refine (num_any _ _).mono ?_; rintro e w5 ⟨rfl, h5⟩
  have H5 : Below w.heap.size w w5 := by (repeat (first | exact Below.refl _ _ | assumption | refine Below.drew ?_ | refine below_drewN ?_ _ | refine Below.alloc ?_ (by first | omega | (simp; done) | (simp; omega)) _ | refine Below.setCell ?_ (by first | omega | (simp; done) | (simp; omega)) _ | refine Below.trans ?_ (Below.mono (by assumption) (by first | omega | (simp; done) | (simp; omega)))))
  have z5 := H5.size
  have p0 := cell_later h5 q0
  have p1 := cell_later h5 q1
  have p2 := cell_later h5 q2
  have hb5 := cell_lt p0
  clear h5 H4 z4 q0 q1 q2 hb4
  go_wp2_with fail
  refine (siz1 _ _ _ _ _ _ (by simp)).mono ?_; rintro e w6 ⟨rfl, h6⟩
  rw [rx4]
  have H6 : Below w.heap.size w w6 := by (repeat (first | exact Below.refl _ _ | assumption | refine Below.drew ?_ | refine below_drewN ?_ _ | refine Below.alloc ?_ (by first | omega | (simp; done) | (simp; omega)) _ | refine Below.setCell ?_ (by first | omega | (simp; done) | (simp; omega)) _ | refine Below.trans ?_ (Below.mono (by assumption) (by first | omega | (simp; done) | (simp; omega)))))
  have z6 := H6.size
  have q0 := cell_later h6 (cell_later ((Below.refl w5.heap.size w5).alloc (Nat.le_refl _) _) p0)
  have q1 := cell_later h6 (cell_later ((Below.refl w5.heap.size w5).alloc (Nat.le_refl _) _) p1)
  have q2 := cell_later h6 (cell_later ((Below.refl w5.heap.size w5).alloc (Nat.le_refl _) _) p2)
  have hb6 := cell_lt q0
  clear h6 H5 z5 p0 p1 p2 hb5
  go_wp2
  go_region_held3 (fun w' => w'.cell? ⟨b, off, none⟩ = some (.int .i64 1) ∧ w'.cell? ⟨b, off + 1, none⟩ = some (.int .i64 64) ∧ w'.cell? ⟨b, off + 2, none⟩ = some (.string ⟨#[]⟩)) (go_simp)
    (first | (go_at_call 7; refine (num_exact _ _).mono ?_; rintro e w' ⟨rfl, rfl⟩))
  go_wp2
  go_ret
  exact ⟨rfl, by (repeat (first | exact Below.refl _ _ | assumption | refine Below.drew ?_ | refine below_drewN ?_ _ | refine Below.alloc ?_ (by first | omega | (simp; done) | (simp; omega)) _ | refine Below.setCell ?_ (by first | omega | (simp; done) | (simp; omega)) _ | refine Below.trans ?_ (Below.mono (by assumption) (by first | omega | (simp; done) | (simp; omega)))))⟩

theorem made_at {n j : Nat} (h : j < n) (z : Array Value) : (madeCells z n).toList[j]? = some (z[j % z.size]!) := by
  simp [madeCells, h]
theorem bel_setCells {B : Nat} {a : World} (b : Nat) (hb : B ≤ b) : ∀ (vs : List Value) (o : Nat) {w : World}, Below B a w → Below B a (w.setCells b o vs)
  | [], _, _, h => h
  | v :: r, o, _, h => bel_setCells b hb r (o + 1) (h.setCell (p := ⟨b, o, none⟩) hb v)
theorem size_setCells (b : Nat) : ∀ (vs : List Value) (o : Nat) (w : World), (w.setCells b o vs).heap.size = w.heap.size
  | [], _, _ => rfl
  | v :: r, o, w => by rw [World.setCells, size_setCells b r (o + 1)]; simp

/-- The three cells of an empty value. -/
def zero3 (j : Nat) : Value := (#[.int .i64 0, .int .i64 0, .string ⟨#[]⟩] : Array Value)[j % 3]!
/-- What lies in a new list of empty values. -/
def Made (g n : Nat) (w : World) : Prop := (∀ j, j < n * 3 → w.cell? ⟨g, j, none⟩ = some (zero3 j)) ∧ (∀ o, w.frozen? ⟨g, o, none⟩ = false) ∧ g < w.heap.size
theorem made_of {w w1 : World} {n : Nat} (hown : w1.ownsRow w.heap.size 25 3 (.slice (some ⟨w.heap.size, 0, none⟩) n n) n (madeCells #[.int .i64 0, .int .i64 0, .string ⟨#[]⟩] (n * 3)).toList) : Made w.heap.size n w1 := by
  refine ⟨?_, ?_, (hown.lt _ rfl).2⟩
  · intro j hj
    have := hown.cells (g := w.heap.size) rfl j _ (made_at hj _)
    have hadd : (⟨w.heap.size, 0, none⟩ : Addr).add j = ⟨w.heap.size, j, none⟩ := by unfold Addr.add; split <;> simp_all
    rw [hadd] at this
    exact this
  · intro o
    obtain ⟨_, ⟨h, _⟩ | ⟨g, cap', cur, e, _, hh, _⟩⟩ := hown
    · cases h
    · obtain rfl : w.heap.size = g := by simp at e; exact e.1
      simp [World.frozen?, hh]
/-- What lies there when a list's values were copied into it. -/
def Copied (g n : Nat) (vs : List V3) (w : World) : Prop := Row w (some ⟨g, 0, none⟩) vs ∧ (∀ j, vs.length * 3 ≤ j → j < n * 3 → w.cell? ⟨g, j, none⟩ = some (zero3 j)) ∧ (∀ o, w.frozen? ⟨g, o, none⟩ = false) ∧ g < w.heap.size
theorem copied_of {g n : Nat} {vs : List V3} {w1 : World} (hl : vs.length ≤ n) (h : Made g n w1) : Copied g n vs (w1.setCells g 0 (vc vs)) := by
  obtain ⟨h1, h2, h3⟩ := h
  have hlen := vc_length vs
  refine ⟨Row.of_cells ?_, ?_, ?_, by rw [size_setCells]; exact h3⟩
  · intro j u hj
    obtain ⟨hlt, e⟩ := List.getElem?_eq_some_iff.1 hj
    have := World.cell?_setCells_in g (vc vs) 0 w1 (fun j hj => by rw [Nat.zero_add, h1 j (by omega)]; rfl) j hlt
    rw [this, e]
  · intro j a b
    rw [World.cell?_setCells_out _ _ _ _ _ (fun _ _ => Or.inr (by simp only; omega))]
    exact h1 j b
  · intro o
    rw [World.frozen?_setCells]
    exact h2 o
theorem Copied.later {g n : Nat} {vs : List V3} {w w' : World} (h : Copied g n vs w) (hb : Below w.heap.size w w') : Copied g n vs w' := by
  obtain ⟨h1, h2, h3, h4⟩ := h
  have hz := hb.size
  exact ⟨h1.later hb, fun j a b => cell_later hb (h2 j a b), fun o => by rw [hb.frozen (p := ⟨g, o, none⟩) h4]; exact h3 o, by omega⟩
theorem Made.some {g n : Nat} {w : World} (h : Made g n w) {vs : List V3} (hl : vs.length ≤ n) : ∀ j, j < (vc vs).length → (w.cell? ⟨g, 0 + j, none⟩).isSome = true := by
  intro j hj
  rw [vc_length] at hj
  rw [Nat.zero_add, h.1 j (by omega)]
  rfl
end Go.Proofs.Ytfgpopkibjijgaa
