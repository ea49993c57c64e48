/- short names -/
import Derived.Test.YtbfjmccpcbhljaaGreatDoorRows
import Derived.Lib.Hide
import Derived.Below
import Derived.Laws.World
namespace Go.Proofs.YtbfjmccpcbhljaaGreatDoor
open Go.RowKit

abbrev Vi (n : Int) : Value := .int .i64 n

abbrev Vz : ByteArray := ⟨#[]⟩

abbrev Vs : Value := .string ⟨#[]⟩

abbrev Vn : Value := .slice none 0 0

abbrev Ve (a b c d : Int) (e f g : ByteArray) (h : Value) (i : Int) : Array Value := #[.int .i64 a, .int .i64 b, .int .i64 c, .int .i64 d, .string e, .string f, .string g, h, .int .i64 i]

abbrev Vt (a : Int) (b c : ByteArray) (d e f : Value) (g : Bool) (h i j k : Value) (l m : Int) : Array Value := #[.int .i64 a, .string b, .string c, d, e, f, .bool g, h, i, j, k, .int .i64 l, .int .i64 m]

abbrev Vk (a b : Int) (c : ByteArray) (d : Int) : Array Value := #[.int .i64 a, .int .i64 b, .string c, .int .i64 d]

abbrev Vo : Array Value := #[.int .i64 0, .int .i64 0, .int .i64 0, .int .i64 0, .string ⟨#[]⟩, .string ⟨#[]⟩, .string ⟨#[]⟩, .slice none 0 0, .int .i64 0]

abbrev Vq : Array Value := #[.int .i64 0, .string ⟨#[]⟩, .string ⟨#[]⟩, .slice none 0 0, .slice none 0 0, .slice none 0 0, .bool false, .slice none 0 0, .slice none 0 0, .slice none 0 0, .slice none 0 0, .int .i64 0, .int .i64 0]

theorem Hd {p : Prop} (h : p) : Hid p := h

theorem Vx {α : Type} (x : α) : ∃ y, x = y := ⟨_, rfl⟩

theorem Bxr (B : Nat) (w : World) : Below B w w := Below.refl B w

theorem Bxd {B : Nat} {a w : World} (h : Below B a w) : Below B a w.drew := h.drew

theorem Bxa {B : Nat} {a w : World} (h : Below B a w) (hB : B ≤ w.heap.size) (o : Obj) : Below B a (w.alloc o) := h.alloc hB o

theorem Bxs {B : Nat} {a w : World} (h : Below B a w) {p : Addr} (hp : B ≤ p.block) (u : Value) : Below B a (w.setCell p u) := h.setCell hp u

theorem Bxt {B C : Nat} {a b c : World} (h : Below B a b) (k : Below C b c) (hB : B ≤ C) : Below B a c := h.trans (k.mono hB)

theorem Cl {w v : World} {a : Addr} {u : Value} (h : Below w.heap.size w v) (hc : w.cell? a = some u) : v.cell? a = some u := (h.cell (World.block_lt_of_cell? _ _ hc)).trans hc

theorem Sa {α : Type} {l : List α} {i : Nat} {a : α} : l.toArray.setIfInBounds i a = (l.set i a).toArray := List.setIfInBounds_toArray _ _ _

theorem Sb {α : Type} {x : α} {l : List α} {a : α} : (x :: l).set 0 a = a :: l := List.set_cons_zero

theorem Sc {α : Type} {x : α} {l : List α} {n : Nat} {a : α} : (x :: l).set (n + 1) a = x :: l.set n a := List.set_cons_succ

theorem Gx {α : Type} {a : Array α} {i : Nat} {b : α} (h : a[i]? = some b) : i < a.size := (Array.getElem?_eq_some_iff.1 h).1

theorem Hbt {w a b : World} (h : Hid (Below w.heap.size w a)) (k : Below a.heap.size a b) : Hid (Below w.heap.size w b) := Hd (h.out.trans (k.mono h.out.size))

theorem Hbk {a b : World} {g : Nat} {o : Obj} (k : Below a.heap.size a b) (h : Hid (a.heap[g]? = some o)) : Hid (b.heap[g]? = some o) := Hd ((k.block _ (Gx h.out)).trans h.out)

end Go.Proofs.YtbfjmccpcbhljaaGreatDoor
