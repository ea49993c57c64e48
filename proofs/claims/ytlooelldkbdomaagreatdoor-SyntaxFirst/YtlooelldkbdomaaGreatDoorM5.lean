/- Plain mathematics of layer 1: literals. -/
import Derived.Test.YtlooelldkbdomaaGreatDoorM1
namespace Go.Proofs.YtlooelldkbdomaaGreatDoor

/-- A hexadecimal digit. -/
def hexd (i : Nat) : UInt8 := (#[48, 49, 50, 51, 52, 53, 54, 55, 56, 57, 97, 98, 99, 100, 101, 102] : Array UInt8).getD i 0
/-- A byte within a literal. -/
def qb (c : UInt8) : List UInt8 :=
  if c.toNat = 39 then [39, 39] else if c.toNat = 92 ∨ c.toNat < 32 ∨ 126 < c.toNat then [92, hexd (c.toNat / 16), hexd (c.toNat % 16)] else [c]
theorem qb_mark {c : UInt8} (h : c.toNat = 39) : qb c = [39, 39] := by unfold qb; rw [if_pos h]
theorem qb_hex {c : UInt8} (h : ¬ c.toNat = 39) (g : c.toNat = 92 ∨ c.toNat < 32 ∨ 126 < c.toNat) : qb c = [92, hexd (c.toNat / 16), hexd (c.toNat % 16)] := by unfold qb; rw [if_neg h, if_pos g]
theorem qb_plain {c : UInt8} (h : ¬ c.toNat = 39) (g : ¬ (c.toNat = 92 ∨ c.toNat < 32 ∨ 126 < c.toNat)) : qb c = [c] := by unfold qb; rw [if_neg h, if_neg g]
theorem qb_len (c : UInt8) : (qb c).length ≤ 3 := by unfold qb; split; · simp
                                                     · split <;> simp
def qbs (l : List UInt8) : List UInt8 := l.flatMap qb
theorem qbs_len (l : List UInt8) : (qbs l).length ≤ 3 * l.length := by
  unfold qbs
  induction l with
  | nil => simp
  | cons c l ih => have := qb_len c; simp only [List.flatMap_cons, List.length_append, List.length_cons]; omega
theorem qbs_take (s : ByteArray) (k : Nat) (h : k < s.size) : qbs (s.data.toList.take (k + 1)) = qbs (s.data.toList.take k) ++ qb s[k] := by
  unfold qbs
  rw [List.take_succ_eq_append_getElem (by simpa using h), List.flatMap_append]
  simp
  rfl
/-- The literal of a text. -/
def quo (s : ByteArray) : List UInt8 := 39 :: qbs s.data.toList ++ [39]
end Go.Proofs.YtlooelldkbdomaaGreatDoor
