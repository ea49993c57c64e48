/- Plain mathematics of layer 19: locks, and which places wait for which. -/
import Derived.Test.YtefdhmdkcpgfcaaM1
import Derived.Laws.Strings
namespace Go.Proofs.Ytefdhmdkcpgfcaa
open Go
/-- A lock: its table, from where, up to where, whether it is written. -/
structure Lk where
  tb : Int
  lo : ByteArray
  hi : ByteArray
  wr : Bool
theorem lk_ext {a b : Lk} : (a.tb = b.tb ∧ a.lo = b.lo ∧ a.hi = b.hi ∧ a.wr = b.wr) ↔ a = b := by
  cases a; cases b; simp
instance : DecidableEq Lk := fun _ _ => decidable_of_iff _ lk_ext
def ltB (a b : ByteArray) : Bool := Op.bytesLess a.toList b.toList
def noB (a : ByteArray) : Bool := a.toList.isEmpty
/-- Does a range that ends there hold this text, from below? -/
def endB (x hi : ByteArray) : Bool := noB hi || ltB x hi
def lkR (l : Lk) : Bool := decide (0 ≤ l.tb) && decide (l.tb < 8) && (noB l.hi || ltB l.lo l.hi)
/-- The greater one of two texts. -/
def maxB (a b : ByteArray) : ByteArray := if ltB a b = true then b else a
def lkM (a b : Lk) : Bool := decide (a.tb = b.tb) && (a.wr || b.wr) && (endB (maxB a.lo b.lo) a.hi && endB (maxB a.lo b.lo) b.hi)
theorem ltB_ext {a b : ByteArray} (h1 : ltB a b = false) (h2 : ltB b a = false) : a = b := by
  by_cases e : a.toList = b.toList
  · rw [ByteArray.toList_eq, ByteArray.toList_eq] at e
    exact ByteArray.ext (Array.ext' e)
  · have := bl_total _ _ h1 e
    rw [show Op.bytesLess b.toList a.toList = ltB b a from rfl, h2] at this
    cases this
theorem gtL (a b : List UInt8) : (!Op.bytesLess b a && !(b == a)) = Op.bytesLess a b := by
  cases h : Op.bytesLess b a with
  | true => rw [bl_asymm _ _ h]; rfl
  | false =>
    by_cases e : b = a
    · subst e
      rw [bl_irrefl]
      simp
    · rw [bl_total _ _ h e]
      simpa using e
theorem ltB_asymm {a b : ByteArray} (h : ltB a b = true) : ltB b a = false := bl_asymm _ _ h
theorem maxB_comm (a b : ByteArray) : maxB a b = maxB b a := by
  unfold maxB
  cases h1 : ltB a b with
  | true =>
    rw [ltB_asymm h1]
    rfl
  | false =>
    cases h2 : ltB b a with
    | true => rfl
    | false => rw [ltB_ext h1 h2]
theorem lkM_comm (a b : Lk) : lkM a b = lkM b a := by
  unfold lkM
  rw [maxB_comm a.lo b.lo, Bool.or_comm a.wr b.wr, Bool.and_comm (endB _ a.hi) (endB _ b.hi)]
  congr 2
  rw [Bool.eq_iff_iff, decide_eq_true_iff, decide_eq_true_iff]
  exact ⟨fun h => h.symm, fun h => h.symm⟩
theorem maxB_self (a : ByteArray) : maxB a a = a := by unfold maxB; split <;> rfl
/-- A right lock meets itself just if it is written. -/
theorem lkM_self {a : Lk} (h : lkR a = true) : lkM a a = a.wr := by
  unfold lkR at h
  simp only [Bool.and_eq_true] at h
  unfold lkM
  rw [maxB_self]
  unfold endB
  rw [h.2]
  simp
/-- Does one of some meet one of others? -/
def anyM (a b : List Lk) : Bool := a.any fun x => b.any fun y => lkM x y
theorem anyM_iff {a b : List Lk} : anyM a b = true ↔ ∃ x ∈ a, ∃ y ∈ b, lkM x y = true := by simp [anyM]
theorem anyM_comm (a b : List Lk) : anyM a b = anyM b a := by
  rw [Bool.eq_iff_iff, anyM_iff, anyM_iff]
  constructor
  · rintro ⟨x, hx, y, hy, h⟩
    exact ⟨y, hy, x, hx, by rw [lkM_comm]; exact h⟩
  · rintro ⟨x, hx, y, hy, h⟩
    exact ⟨y, hy, x, hx, by rw [lkM_comm]; exact h⟩
/-- An open place. -/
structure Pl9 where
  pos : Int
  ls : List Lk
/-- The open places, and the greatest that was ever asked for. -/
structure Tb9 where
  ps : List Pl9
  last : Int
def t90 : Tb9 := ⟨[], -1⟩
def askE (t : Tb9) (pos : Int) (l : List Lk) : Int := if pos < 0 ∨ pos ≤ t.last then 1 else if l.all lkR = true then 0 else 190
def askT (t : Tb9) (pos : Int) (l : List Lk) : Tb9 := if askE t pos l = 0 then ⟨t.ps ++ [⟨pos, l⟩], pos⟩ else t
def openL (t : Tb9) : List Int := t.ps.map fun p => p.pos
/-- The places among some for which one with these locks waits. -/
def waitL (ls : List Lk) (ps : List Pl9) : List Int := (ps.filter fun q => anyM ls q.ls).map fun q => q.pos
def waitI (t : Tb9) (i : Nat) : List Int := ((t.ps[i]?).map fun p => waitL p.ls (t.ps.take i)).getD []
def grntI (t : Tb9) (i : Nat) : Bool := (waitI t i).isEmpty
def grntL (t : Tb9) : List Int := ((List.range t.ps.length).filter fun i => grntI t i).filterMap fun i => (t.ps[i]?).map fun p => p.pos
/-- Where an open place stands. -/
def atI (t : Tb9) (pos : Int) : Option Nat := t.ps.findIdx? fun p => decide (p.pos = pos)
def waitR (t : Tb9) (pos : Int) : List Int × Int := match atI t pos with
  | none => ([], 1)
  | some i => (waitI t i, 0)
def lockR (t : Tb9) (pos : Int) : List Lk × Int := match atI t pos with
  | none => ([], 1)
  | some i => (((t.ps[i]?).map fun p => p.ls).getD [], 0)
def isGr (t : Tb9) (pos : Int) : Bool := match atI t pos with
  | none => false
  | some i => grntI t i
def freeE (t : Tb9) (pos : Int) : Int := if isGr t pos = true then 0 else 1
def freeT (t : Tb9) (pos : Int) : Tb9 := match atI t pos with
  | none => t
  | some i => if grntI t i = true then ⟨t.ps.take i ++ t.ps.drop (i + 1), t.last⟩ else t
end Go.Proofs.Ytefdhmdkcpgfcaa
