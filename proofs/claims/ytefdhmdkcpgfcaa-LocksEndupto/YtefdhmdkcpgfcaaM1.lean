/- Plain mathematics of layer 1: the order of strings of bytes, of numbers and of values. -/
import GoSem.Op.String
namespace Go.Proofs.Ytefdhmdkcpgfcaa

theorem bl_irrefl : ∀ x : List UInt8, Op.bytesLess x x = false
  | [] => rfl
  | a :: x => by simp [Op.bytesLess, bl_irrefl x]

theorem bl_asymm : ∀ x y : List UInt8, Op.bytesLess x y = true → Op.bytesLess y x = false
  | [], [], _ => rfl
  | [], _ :: _, _ => rfl
  | _ :: _, [], h => by simp [Op.bytesLess] at h
  | a :: x, b :: y, h => by
    have ih := bl_asymm x y
    simp only [Op.bytesLess, Bool.or_eq_true, decide_eq_true_eq, Bool.and_eq_true, beq_iff_eq, UInt8.lt_iff_toNat_lt] at h
    simp only [Op.bytesLess, Bool.or_eq_false_iff, decide_eq_false_iff_not, Bool.and_eq_false_iff, beq_eq_false_iff_ne, UInt8.lt_iff_toNat_lt]
    rcases h with h | ⟨rfl, h⟩
    · refine ⟨by omega, Or.inl ?_⟩
      intro e; rw [e] at h; omega
    · exact ⟨by omega, Or.inr (ih h)⟩

theorem bl_trans : ∀ x y z : List UInt8, Op.bytesLess x y = true → Op.bytesLess y z = true → Op.bytesLess x z = true
  | _, [], _, h, _ => by simp [Op.bytesLess] at h
  | _, _ :: _, [], _, g => by simp [Op.bytesLess] at g
  | [], _ :: _, _ :: _, _, _ => rfl
  | a :: x, b :: y, c :: z, h, g => by
    have ih := bl_trans x y z
    simp only [Op.bytesLess, Bool.or_eq_true, decide_eq_true_eq, Bool.and_eq_true, beq_iff_eq, UInt8.lt_iff_toNat_lt] at h g ⊢
    rcases h with h | ⟨rfl, h⟩
    · rcases g with g | ⟨rfl, g⟩
      · exact Or.inl (by omega)
      · exact Or.inl h
    · rcases g with g | ⟨rfl, g⟩
      · exact Or.inl g
      · exact Or.inr ⟨rfl, ih h g⟩

theorem bl_total : ∀ x y : List UInt8, Op.bytesLess x y = false → x ≠ y → Op.bytesLess y x = true
  | [], [], _, h => absurd rfl h
  | [], _ :: _, h, _ => by simp [Op.bytesLess] at h
  | _ :: _, [], _, _ => rfl
  | a :: x, b :: y, h, g => by
    have ih := bl_total x y
    simp only [Op.bytesLess, Bool.or_eq_true, decide_eq_true_eq, Bool.and_eq_true, beq_iff_eq, UInt8.lt_iff_toNat_lt]
    simp only [Op.bytesLess, Bool.or_eq_false_iff, decide_eq_false_iff_not, Bool.and_eq_false_iff, beq_eq_false_iff_ne, UInt8.lt_iff_toNat_lt] at h
    by_cases e : a = b
    · subst e
      refine Or.inr ⟨rfl, ih ?_ (fun e => g (by rw [e]))⟩
      rcases h.2 with h | h
      · exact absurd rfl h
      · exact h
    · refine Or.inl ?_
      have : a.toNat ≠ b.toNat := fun h => e (UInt8.toNat_inj.1 h)
      omega

/-- Is a value right? -/
def rgt (k n : Int) (s : ByteArray) : Bool :=
  if k = 0 then n == 0 && s.toList.isEmpty
  else if k = 1 then decide (-4611686018427387904 ≤ n) && decide (n ≤ 4611686018427387904) && s.toList.isEmpty
  else if k = 2 then (n == 0 || n == 1) && s.toList.isEmpty
  else if k = 3 then n == 0 && decide ((s.size : Int) ≤ 64)
  else false

def ordI (x y : Int) : Int := if x < y then -1 else if y < x then 1 else 0
def ordS (x y : ByteArray) : Int := if Op.bytesLess x.toList y.toList then -1 else if x.toList == y.toList then 0 else 1
def orI (x y z : Int) : Int := if x = 0 then if y = 0 then z else y else x
def ordV (k n : Int) (s : ByteArray) (k' n' : Int) (s' : ByteArray) : Int := orI (ordI k k') (ordI n n') (ordS s s')

def hold (op o : Int) : Bool :=
  if op = 1 then o == 0 else if op = 2 then o != 0 else if op = 3 then decide (o < 0) else if op = 4 then decide (o ≤ 0) else if op = 5 then decide (0 < o) else decide (0 ≤ o)

def b2i (b : Bool) : Int := if b then 1 else 0

/-- What a comparison answers: a kind, a number, an error. -/
def cmpR (op k n : Int) (s : ByteArray) (k' n' : Int) (s' : ByteArray) : Int × Int × Int :=
  if op < 1 ∨ 6 < op then (0, 0, 1)
  else if rgt k n s = false ∨ rgt k' n' s' = false then (0, 0, 10)
  else if k = 0 ∨ k' = 0 then (0, 0, 0)
  else if k ≠ k' then (0, 0, 11)
  else (2, b2i (hold op (ordV k n s k' n' s')), 0)

theorem cmpR_op {op k n : Int} {s : ByteArray} {k' n' : Int} {s' : ByteArray} (h : op < 1 ∨ 6 < op) : cmpR op k n s k' n' s' = (0, 0, 1) := by
  unfold cmpR; rw [if_pos h]
theorem cmpR_right {op k n : Int} {s : ByteArray} {k' n' : Int} {s' : ByteArray} (h : ¬ (op < 1 ∨ 6 < op)) (g : rgt k n s = false ∨ rgt k' n' s' = false) : cmpR op k n s k' n' s' = (0, 0, 10) := by
  unfold cmpR; rw [if_neg h, if_pos g]
theorem cmpR_null {op k n : Int} {s : ByteArray} {k' n' : Int} {s' : ByteArray} (h : ¬ (op < 1 ∨ 6 < op)) (g : rgt k n s = true) (g' : rgt k' n' s' = true) (j : k = 0 ∨ k' = 0) : cmpR op k n s k' n' s' = (0, 0, 0) := by
  unfold cmpR; rw [if_neg h, if_neg (by simp [g, g']), if_pos j]
theorem cmpR_type {op k n : Int} {s : ByteArray} {k' n' : Int} {s' : ByteArray} (h : ¬ (op < 1 ∨ 6 < op)) (g : rgt k n s = true) (g' : rgt k' n' s' = true) (j : ¬ (k = 0 ∨ k' = 0)) (i : k ≠ k') : cmpR op k n s k' n' s' = (0, 0, 11) := by
  unfold cmpR; rw [if_neg h, if_neg (by simp [g, g']), if_neg j, if_pos i]
theorem cmpR_ok {op k n : Int} {s : ByteArray} {k' n' : Int} {s' : ByteArray} (h : ¬ (op < 1 ∨ 6 < op)) (g : rgt k n s = true) (g' : rgt k' n' s' = true) (j : ¬ (k = 0 ∨ k' = 0)) (i : k = k') : cmpR op k n s k' n' s' = (2, b2i (hold op (ordV k n s k' n' s')), 0) := by
  unfold cmpR; rw [if_neg h, if_neg (by simp [g, g']), if_neg j, if_neg (by simp [i])]
end Go.Proofs.Ytefdhmdkcpgfcaa
