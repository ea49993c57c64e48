/- Walks of layer 1, eleventh part: a byte of a text, quoted. -/
import Derived.Test.YtfgpopkibjijgaaW1
import Derived.Test.YtfgpopkibjijgaaM5
import Derived.Deep.RegionLaw
import Derived.Deep.AppendLies
namespace Go.Proofs.Ytfgpopkibjijgaa
open Go.RowKit

/-- Bytes as cells. -/
def bv (l : List UInt8) : List Value := l.map fun b => .int .u8 (b.toNat : Int)
theorem bv_append (l m : List UInt8) : bv (l ++ m) = bv l ++ bv m := List.map_append
theorem bv_length (l : List UInt8) : (bv l).length = l.length := List.length_map _
theorem bv_one (l : List UInt8) : ∀ u ∈ bv l, u.oneCell' = true := by
  intro u hu
  obtain ⟨b, _, rfl⟩ := List.mem_map.1 hu
  rfl
theorem Try.info5 : (Try.prog.info? 5).map (fun i => (i.zero, i.size, i.bytes)) = some (some (.int .u8 0), 1, 1) := by kernel_rfl

theorem ownsRow_drew {w : World} {base : Nat} {e : TypeId} {size : Nat} {v : Value} {n : Nat} {xs : List Value} (h : w.ownsRow base e size v n xs) : w.drew.ownsRow base e size v n xs := h



theorem hexd_at (n : Nat) (h : n < (⟨#[48, 49, 50, 51, 52, 53, 54, 55, 56, 57, 97, 98, 99, 100, 101, 102]⟩ : ByteArray).size) :
    (⟨#[48, 49, 50, 51, 52, 53, 54, 55, 56, 57, 97, 98, 99, 100, 101, 102]⟩ : ByteArray)[n]'h = hexd n := by
  unfold hexd
  rw [Array.getD_eq_getD_getElem?, Array.getElem?_eq_getElem (by exact h)]
  rfl
theorem and15 : ∀ c : Fin 256, bits BinOp.and IntKind.u8 ((c.val : Nat) : Int) 15 = ((c.val % 16 : Nat) : Int) := by decide +kernel

theorem cells3 (w : World) (y z : UInt8) (t : TypeId) : ∀ j u, (bv [92, y, z])[j]? = some u →
    ((w.alloc (.cells #[.int .u8 92, .int .u8 (y.toNat : Int), .int .u8 (z.toNat : Int)] t)).drew).cell? ((⟨w.heap.size, 0, none⟩ : Addr).add j) = some u := by
  intro j u hj
  match j, hj with
  | 0, hj => simp [bv] at hj; subst hj; simp [Addr.add]
  | 1, hj => simp [bv] at hj; subst hj; simp [Addr.add]
  | 2, hj => simp [bv] at hj; subst hj; simp [Addr.add]





end Go.Proofs.Ytfgpopkibjijgaa
