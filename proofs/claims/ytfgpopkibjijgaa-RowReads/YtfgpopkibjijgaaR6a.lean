/- Walks of layer 3: places within the bytes of a row. -/
import Derived.Test.YtfgpopkibjijgaaR5
namespace Go.Proofs.Ytfgpopkibjijgaa
open Go.RowKit

theorem set_mid {n : UInt8} {l r : List UInt8} {q : Nat} {c : UInt8} (h : q < l.length) : ([n] ++ l ++ r).set (1 + q) c = [n] ++ l.set q c ++ r := by
  rw [Nat.add_comm, List.append_assoc, List.singleton_append, List.set_cons_succ, List.set_append_left _ _ h]
  simp
theorem at_mid {n : UInt8} {l r : List UInt8} {q : Nat} (h : q < l.length) : ([n] ++ l ++ r)[1 + q]? = some l[q] := by
  rw [Nat.add_comm, List.append_assoc, List.singleton_append, List.getElem?_cons_succ, List.getElem?_append_left h, List.getElem?_eq_getElem h]
theorem zero_set (N : Nat) (c : UInt8) : (List.replicate (1 + N) (0 : UInt8)).set 0 c = [c] ++ List.replicate N 0 := by
  rw [Nat.add_comm, List.replicate_succ]
  simp
/-- What a round of the document's Encode begins with: the bytes so far, the box of a value. -/
structure RE (B N L g cap k : Nat) (vs : List V3) (u : V3) (bx : Nat) (w0 w : World) : Prop where
  own : w.ownsRow B 5 1 (.slice (some ⟨g, 0, none⟩) L cap) L (bv ([UInt8.ofNat vs.length] ++ pk N (vs.take (k + 1)) ++ rbs (vs.take k)))
  c0 : w.cell? ⟨bx, 0, none⟩ = some (.int .i64 u.1)
  c1 : w.cell? ⟨bx, 1, none⟩ = some (.int .i64 u.2.1)
  c2 : w.cell? ⟨bx, 2, none⟩ = some (.string u.2.2)
  bel : Below B w0 w
  gb : g < bx
  bz : bx < w.heap.size
theorem re_of {B N L g cap k q : Nat} {vs : List V3} {u : V3} {bx : Nat} {w0 w : World} {x : Int} {c : UInt8} (hx : x = (c.toNat : Int))
    (hown : w.ownsRow B 5 1 (.slice (some ⟨g, 0, none⟩) L cap) L (bv ([UInt8.ofNat vs.length] ++ pk N (vs.take k) ++ rbs (vs.take k))))
    (hs : pk N (vs.take (k + 1)) = (pk N (vs.take k)).set q c) (hq : q < N)
    (c0 : w.cell? ⟨bx, 0, none⟩ = some (.int .i64 u.1)) (c1 : w.cell? ⟨bx, 1, none⟩ = some (.int .i64 u.2.1)) (c2 : w.cell? ⟨bx, 2, none⟩ = some (.string u.2.2))
    (bel : Below B w0 w) (hB : B ≤ g) (gb : g < bx) (bz : bx < w.heap.size) : RE B N L g cap k vs u bx w0 (w.setCell ⟨g, 1 + q, none⟩ (.int .u8 x)).drew := by
  have hne : ∀ j, (⟨g, 1 + q, none⟩ : Addr) ≠ ⟨bx, j, none⟩ := fun j h => by have h' : g = bx := congrArg Addr.block h; omega
  refine ⟨?_, ?_, ?_, ?_, (bel.setCell (p := ⟨g, 1 + q, none⟩) hB _).drew, gb, by simpa using bz⟩
  · rw [hs, ← set_mid (by rw [pk_length]; exact hq)]
    exact own_step hown (1 + q) x c hx
  · exact (World.cell?_setCell_other _ _ _ _ (hne 0)).trans c0
  · exact (World.cell?_setCell_other _ _ _ _ (hne 1)).trans c1
  · exact (World.cell?_setCell_other _ _ _ _ (hne 2)).trans c2
end Go.Proofs.Ytfgpopkibjijgaa
