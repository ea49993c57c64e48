/- short names -/
import Derived.Test.YtmmmkjhpmlfopaaGreatDoorRows
import Derived.Lib.Hide
import Derived.Below
import Derived.Laws.World
namespace Go.Proofs.YtmmmkjhpmlfopaaGreatDoor
open Go.RowKit
theorem Hd {p : Prop} (h : p) : Hid p := h
theorem Vx {α : Type} (x : α) : ∃ y, x = y := ⟨_, rfl⟩
theorem Bxr (B : Nat) (w : World) : Below B w w := Below.refl B w
theorem Bxd {B : Nat} {a w : World} (h : Below B a w) : Below B a w.drew := h.drew
theorem Bxa {B : Nat} {a w : World} (h : Below B a w) (hB : B ≤ w.heap.size) (o : Obj) : Below B a (w.alloc o) := h.alloc hB o
theorem Bxs {B : Nat} {a w : World} (h : Below B a w) {p : Addr} (hp : B ≤ p.block) (u : Value) : Below B a (w.setCell p u) := h.setCell hp u
theorem Bxt {B C : Nat} {a b c : World} (h : Below B a b) (k : Below C b c) (hB : B ≤ C) : Below B a c := h.trans (k.mono hB)
theorem Bz {B : Nat} {a w : World} (h : Below B a w := by (repeat (first|exact Bxr _ _|assumption|apply Bxd|apply Bxa|apply Bxs|refine Bxt ?_ (by assumption) ?_|omega|simp))) : Below B a w := h
theorem Bw {B : Nat} {a w : World} (h : Below B a w := by (repeat (first | exact Below.refl _ _ | assumption | refine Below.drew ?_ | refine below_drewN ?_ _ | refine Below.alloc ?_ (by first | omega | (simp; done) | (simp; omega)) _ | refine Below.setCell ?_ (by first | omega | (simp; done) | (simp; omega)) _ | refine Below.trans ?_ (Below.mono (by assumption) (by first | omega | (simp; done) | (simp; omega)))))) : Below B a w := h
theorem Kr {α : Type} {x y : α} (h : x = y := by kernel_rfl) : x = y := h
theorem Om {p : Prop} (h : p := by omega) : p := h
theorem Si {p : Prop} (h : p := by simp) : p := h
theorem Gx {α : Type} {a : Array α} {i : Nat} {b : α} (h : a[i]? = some b) : i < a.size := (Array.getElem?_eq_some_iff.1 h).1
theorem Zlr {n : Nat} : n ≤ n := Nat.le_refl n
theorem Zma {α : Type} {a : α} {s t : List α} (h : a ∈ s ++ t) : a ∈ s ∨ a ∈ t := List.mem_append.1 h
theorem Zms {α : Type} {a b : α} (h : a ∈ [b]) : a = b := List.mem_singleton.1 h
theorem Zmc {α : Type} {a b : α} {l : List α} (h : a ∈ b :: l) : a = b ∨ a ∈ l := List.mem_cons.1 h
theorem Zll {a b c : Nat} (h : a < b) (k : b ≤ c) : a < c := Nat.lt_of_lt_of_le h k
theorem Zlt {a b c : Nat} (h : a ≤ b) (k : b ≤ c) : a ≤ c := Nat.le_trans h k
theorem Zla {α : Type} {s t : List α} : (s ++ t).length = s.length + t.length := List.length_append
theorem Zas {α : Type} (a b c : List α) : a ++ b ++ c = a ++ (b ++ c) := List.append_assoc a b c
theorem Zai {p q : Prop} (h : p) (k : q) : p ∧ q := And.intro h k
theorem Hbt {w a b : World} (h : Hid (Below w.heap.size w a)) (k : Below a.heap.size a b) : Hid (Below w.heap.size w b) := Hd (h.out.trans (k.mono h.out.size))
end Go.Proofs.YtmmmkjhpmlfopaaGreatDoor
