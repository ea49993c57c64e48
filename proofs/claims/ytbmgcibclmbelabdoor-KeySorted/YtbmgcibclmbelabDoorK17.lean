/- Walks of layer 2: a list's values copied into a longer one. -/
import Derived.Test.YtbmgcibclmbelabDoorK16
import Derived.Laws.MakeOwn
namespace Go.Proofs.YtbmgcibclmbelabDoor
open Go.RowKit

theorem knum_exact (n : Int) (w : World) :
    Calls Tryd.prog 8 #[.int .i64 n] w fun e w' => e = .returned (.agg #[.int .i64 1, .int .i64 n, .string ⟨#[]⟩]) ∧ w' = w.alloc (.cells #[.int .i64 1, .int .i64 n, .string ⟨#[]⟩] 33) := by
  go_enter Tryd.func8, Tryd.ntmps8
  go_wp2
  exact bodyPost_ret (v := .agg #[.int .i64 1, .int .i64 n, .string ⟨#[]⟩]) (by simp [results, Tryd.results8, go_sem]) rfl ⟨rfl, rfl⟩

theorem made_at {n j : Nat} (h : j < n) (z : Array Value) : (madeCells z n).toList[j]? = some (z[j % z.size]!) := by
  simp [madeCells, h]
theorem bel_setCells {B : Nat} {a : World} (b : Nat) (hb : B ≤ b) : ∀ (vs : List Value) (o : Nat) {w : World}, Below B a w → Below B a (w.setCells b o vs)
  | [], _, _, h => h
  | v :: r, o, _, h => bel_setCells b hb r (o + 1) (h.setCell (p := ⟨b, o, none⟩) hb v)
theorem size_setCells (b : Nat) : ∀ (vs : List Value) (o : Nat) (w : World), (w.setCells b o vs).heap.size = w.heap.size
  | [], _, _ => rfl
  | v :: r, o, w => by rw [World.setCells, size_setCells b r (o + 1)]; simp

/-- The three cells of an empty value. -/
def zero3 (j : Nat) : Value := (#[.int .i64 0, .int .i64 0, .string ⟨#[]⟩] : Array Value)[j % 3]!
/-- What lies in a new list of empty values. -/
def Made (g n : Nat) (w : World) : Prop := (∀ j, j < n * 3 → w.cell? ⟨g, j, none⟩ = some (zero3 j)) ∧ (∀ o, w.frozen? ⟨g, o, none⟩ = false) ∧ g < w.heap.size
theorem made_of {w w1 : World} {n : Nat} (hown : w1.ownsRow w.heap.size 33 3 (.slice (some ⟨w.heap.size, 0, none⟩) n n) n (madeCells #[.int .i64 0, .int .i64 0, .string ⟨#[]⟩] (n * 3)).toList) : Made w.heap.size n w1 := by
  refine ⟨?_, ?_, (hown.lt _ rfl).2⟩
  · intro j hj
    have := hown.cells (g := w.heap.size) rfl j _ (made_at hj _)
    have hadd : (⟨w.heap.size, 0, none⟩ : Addr).add j = ⟨w.heap.size, j, none⟩ := by unfold Addr.add; split <;> simp_all
    rw [hadd] at this
    exact this
  · intro o
    obtain ⟨_, ⟨h, _⟩ | ⟨g, cap', cur, e, _, hh, _⟩⟩ := hown
    · cases h
    · obtain rfl : w.heap.size = g := by simp at e; exact e.1
      simp [World.frozen?, hh]
/-- What lies there when a list's values were copied into it. -/
def Copied (g n : Nat) (vs : List V3) (w : World) : Prop := Row w (some ⟨g, 0, none⟩) vs ∧ (∀ j, vs.length * 3 ≤ j → j < n * 3 → w.cell? ⟨g, j, none⟩ = some (zero3 j)) ∧ (∀ o, w.frozen? ⟨g, o, none⟩ = false) ∧ g < w.heap.size
theorem copied_of {g n : Nat} {vs : List V3} {w1 : World} (hl : vs.length ≤ n) (h : Made g n w1) : Copied g n vs (w1.setCells g 0 (vc vs)) := by
  obtain ⟨h1, h2, h3⟩ := h
  have hlen := vc_length vs
  refine ⟨Row.of_cells ?_, ?_, ?_, by rw [size_setCells]; exact h3⟩
  · intro j u hj
    obtain ⟨hlt, e⟩ := List.getElem?_eq_some_iff.1 hj
    have := World.cell?_setCells_in g (vc vs) 0 w1 (fun j hj => by rw [Nat.zero_add, h1 j (by omega)]; rfl) j hlt
    rw [this, e]
  · intro j a b
    rw [World.cell?_setCells_out _ _ _ _ _ (fun _ _ => Or.inr (by simp only; omega))]
    exact h1 j b
  · intro o
    rw [World.frozen?_setCells]
    exact h2 o
theorem Copied.later {g n : Nat} {vs : List V3} {w w' : World} (h : Copied g n vs w) (hb : Below w.heap.size w w') : Copied g n vs w' := by
  obtain ⟨h1, h2, h3, h4⟩ := h
  have hz := hb.size
  exact ⟨h1.later hb, fun j a b => cell_later hb (h2 j a b), fun o => by rw [hb.frozen (p := ⟨g, o, none⟩) h4]; exact h3 o, by omega⟩
theorem Made.some {g n : Nat} {w : World} (h : Made g n w) {vs : List V3} (hl : vs.length ≤ n) : ∀ j, j < (vc vs).length → (w.cell? ⟨g, 0 + j, none⟩).isSome = true := by
  intro j hj
  rw [vc_length] at hj
  rw [Nat.zero_add, h.1 j (by omega)]
  rfl
end Go.Proofs.YtbmgcibclmbelabDoor
