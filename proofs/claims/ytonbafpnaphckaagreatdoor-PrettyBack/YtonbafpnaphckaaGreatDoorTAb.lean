/- what the closers of Below are made of -/
import Derived.Test.YtonbafpnaphckaaGreatDoorRows
import Derived.Below
namespace Go.Proofs.YtonbafpnaphckaaGreatDoor
open Go.RowKit
theorem Bxr (B : Nat) (w : World) : Below B w w := Below.refl B w
theorem Bxd {B : Nat} {a w : World} (h : Below B a w) : Below B a w.drew := h.drew
theorem Bxa {B : Nat} {a w : World} (h : Below B a w) (hB : B ≤ w.heap.size) (o : Obj) : Below B a (w.alloc o) := h.alloc hB o
theorem Bxs {B : Nat} {a w : World} (h : Below B a w) {p : Addr} (hp : B ≤ p.block) (u : Value) : Below B a (w.setCell p u) := h.setCell hp u
theorem Bxt {B C : Nat} {a b c : World} (h : Below B a b) (k : Below C b c) (hB : B ≤ C) : Below B a c := h.trans (k.mono hB)
end Go.Proofs.YtonbafpnaphckaaGreatDoor
