/- Plain mathematics of layer 10: a source's bytes, cut into pieces. -/
import Derived.WalkKit
import Derived.WalkSpells
import Derived.Lib.Bytealg
namespace Go.Proofs.YtlooelldkbdomaaGreatDoor
open Go Go.RowKit

/-- A sign's byte. -/
def sgn (b : UInt8) : Bool := decide ((0 : Int) ≤ Lib.indexByte [59, 44, 40, 41, 46, 42, 43, 45, 47, 37, 61, 60, 62] b)
/-- The class of a byte. -/
def cls (b : UInt8) : Int := if b.toNat = 32 ∨ b.toNat = 9 then 2 else if b.toNat = 10 then 3 else if 48 ≤ b.toNat ∧ b.toNat ≤ 57 then 4 else if 97 ≤ b.toNat ∧ b.toNat ≤ 122 then 5 else if 65 ≤ b.toNat ∧ b.toNat ≤ 90 then 6 else if b.toNat = 95 then 7 else if b.toNat = 58 then 8 else if b.toNat = 39 then 9 else if sgn b = true then 10 else 0
/-- The class of the byte at a place; 1: there is none. -/
def clsAt (s : ByteArray) (k : Nat) : Int := if h : k < s.size then cls s[k] else 1
theorem clsAt_in {s : ByteArray} {k : Nat} (h : k < s.size) : clsAt s k = cls s[k] := dif_pos h
theorem clsAt_out {s : ByteArray} {k : Nat} (h : ¬ k < s.size) : clsAt s k = 1 := dif_neg h
theorem cls_all (P : UInt8 → Prop) [DecidablePred P] (h : ∀ n : Fin 256, P (UInt8.ofNat n.val)) (b : UInt8) : P b := by
  have := h ⟨b.toNat, UInt8.toNat_lt b⟩
  simpa using this
theorem cls_one (b : UInt8) : cls b ≠ 1 := cls_all (fun b => cls b ≠ 1) (by decide +kernel) b
theorem cls_mark (b : UInt8) : cls b = 9 ↔ b = 39 := cls_all (fun b => cls b = 9 ↔ b = 39) (by decide +kernel) b
theorem cls_colon (b : UInt8) : cls b = 8 ↔ b = 58 := cls_all (fun b => cls b = 8 ↔ b = 58) (by decide +kernel) b
theorem cls_line (b : UInt8) : cls b = 3 ↔ b = 10 := cls_all (fun b => cls b = 3 ↔ b = 10) (by decide +kernel) b
theorem cls_blank (b : UInt8) : cls b = 2 ↔ b = 32 ∨ b = 9 := cls_all (fun b => cls b = 2 ↔ b = 32 ∨ b = 9) (by decide +kernel) b

/-- What goes on a run. -/
def runB (b : UInt8) : Prop := cls b = 4 ∨ cls b = 5 ∨ cls b = 6 ∨ cls b = 7
instance (b : UInt8) : Decidable (runB b) := inferInstanceAs (Decidable (_ ∨ _))
/-- How many bytes of blanks and remarks stand in front (true: within a remark). -/
def skp : Bool → List UInt8 → Nat
  | _, [] => 0
  | true, c :: l => if c = 10 then 1 + skp false l else 1 + skp true l
  | false, c :: l => if cls c = 2 ∨ cls c = 3 then 1 + skp false l else if c = 45 ∧ l.head? = some 45 then 1 + skp true l else 0
/-- How many bytes go on a run. -/
def runN : List UInt8 → Nat
  | [] => 0
  | c :: l => if runB c then 1 + runN l else 0
/-- How many bytes go on a text (true: behind a mark). -/
def txtN : Bool → List UInt8 → Nat
  | _, [] => 0
  | false, c :: l => 1 + txtN (decide (c = 39)) l
  | true, c :: l => if c = 39 then 1 + txtN false l else 0
/-- Two bytes that are one sign. -/
def twoS (c d : UInt8) : Prop := (c = 60 ∧ d = 62) ∨ (c = 60 ∧ d = 61) ∨ (c = 62 ∧ d = 61)
instance (c d : UInt8) : Decidable (twoS c d) := inferInstanceAs (Decidable (_ ∨ _))
/-- How many bytes the sign in front has. -/
def sgnN : List UInt8 → Nat
  | c :: d :: _ => if twoS c d then 2 else 1
  | _ => 1
/-- How many bytes the piece in front has. -/
def pieceN : List UInt8 → Nat
  | [] => 0
  | c :: l => if runB c ∨ cls c = 8 then 1 + runN l else if cls c = 9 then 1 + txtN false l else if cls c = 10 then sgnN (c :: l) else 1
theorem skp_le : ∀ (l : List UInt8) (b : Bool), skp b l ≤ l.length
  | [], b => by cases b <;> simp [skp]
  | c :: l, true => by
    have h1 := skp_le l true
    have h2 := skp_le l false
    simp only [skp, List.length_cons]
    split <;> omega
  | c :: l, false => by
    have h1 := skp_le l true
    have h2 := skp_le l false
    simp only [skp, List.length_cons]
    split
    · omega
    · split <;> omega
theorem runN_le : ∀ l : List UInt8, runN l ≤ l.length
  | [] => Nat.le_refl _
  | c :: l => by
    have := runN_le l
    simp only [runN, List.length_cons]
    split <;> omega
theorem txtN_le : ∀ (l : List UInt8) (b : Bool), txtN b l ≤ l.length
  | [], b => by cases b <;> simp [txtN]
  | c :: l, true => by
    have := txtN_le l false
    simp only [txtN, List.length_cons]
    split <;> omega
  | c :: l, false => by
    have := txtN_le l (decide (c = 39))
    simp only [txtN, List.length_cons]
    omega
theorem pieceN_le : ∀ l : List UInt8, pieceN l ≤ l.length
  | [] => Nat.le_refl _
  | c :: l => by
    have h1 := runN_le l
    have h2 := txtN_le l false
    simp only [pieceN, List.length_cons]
    split
    · omega
    · split
      · omega
      · split
        · cases l with
          | nil => simp [sgnN]
          | cons d l =>
            simp only [sgnN, List.length_cons]
            split <;> omega
        · omega
theorem pieceN_pos (c : UInt8) (l : List UInt8) : 0 < pieceN (c :: l) := by
  simp only [pieceN]
  split
  · omega
  · split
    · omega
    · split
      · cases l with
        | nil => simp [sgnN]
        | cons d l =>
          simp only [sgnN]
          split <;> omega
      · omega

/-- The bytes from a place on. -/
def bl (s : ByteArray) (e : Nat) : List UInt8 := s.data.toList.drop e
theorem bl_in {s : ByteArray} {e : Nat} (h : e < s.size) : bl s e = s[e] :: bl s (e + 1) := by
  have h' : e < s.data.toList.length := by simpa using h
  rw [bl, List.drop_eq_getElem_cons h']
  rfl
theorem bl_out {s : ByteArray} {e : Nat} (h : ¬ e < s.size) : bl s e = [] := by
  rw [bl, List.drop_eq_nil_iff]
  have : s.data.toList.length = s.size := by simp
  omega
theorem bl_len (s : ByteArray) (e : Nat) : (bl s e).length = s.size - e := by simp [bl]
theorem bl_drop (s : ByteArray) (e n : Nat) : (bl s e).drop n = bl s (e + n) := by simp [bl, List.drop_drop]
/-- Where the next piece begins and ends. -/
def cutR (s : ByteArray) (b : Bool) (e : Nat) : Nat × Nat := (e + skp b (bl s e), e + skp b (bl s e) + pieceN (bl s (e + skp b (bl s e))))
theorem cutR_blank {s : ByteArray} {e : Nat} (h : e < s.size) (g : cls s[e] = 2 ∨ cls s[e] = 3) : cutR s false e = cutR s false (e + 1) := by
  have : skp false (bl s e) = 1 + skp false (bl s (e + 1)) := by rw [bl_in h]; simp only [skp]; rw [if_pos g]
  unfold cutR
  rw [this, show e + (1 + skp false (bl s (e + 1))) = e + 1 + skp false (bl s (e + 1)) from by omega]
theorem cutR_here {s : ByteArray} {e : Nat} (h : skp false (bl s e) = 0) : cutR s false e = (e, e + pieceN (bl s e)) := by
  unfold cutR
  rw [h]
  rfl

/-! Names and words. -/
def nmB (c : Int) : Bool := decide (c = 5) || decide (c = 4) || decide (c = 7)
/-- Is a text a name? -/
def isName (s : ByteArray) : Bool := decide (clsAt s 0 = 5) && decide (s.size ≤ 16) && (List.range s.size).all fun k => nmB (clsAt s k)
theorem isName_head {s : ByteArray} (h : clsAt s 0 ≠ 5) : isName s = false := by simp [isName, h]
theorem isName_long {s : ByteArray} (h : ¬ s.size ≤ 16) : isName s = false := by simp [isName, h]
theorem isName_at {s : ByteArray} {k : Nat} (hk : k < s.size) (h : nmB (clsAt s k) = false) : isName s = false := by
  have : ((List.range s.size).all fun k => nmB (clsAt s k)) = false := by
    rw [List.all_eq_false]
    exact ⟨k, by simpa using hk, by simp [h]⟩
  rw [isName, this, Bool.and_false]
theorem isName_yes {s : ByteArray} (h1 : clsAt s 0 = 5) (h2 : s.size ≤ 16) (h : ∀ k, k < s.size → nmB (clsAt s k) = true) : isName s = true := by
  simp only [isName, h1, h2, decide_true, Bool.true_and, List.all_eq_true, List.mem_range]
  exact h
/-- The words of the language. -/
def wordsL : List (List UInt8) := [[83, 69, 76, 69, 67, 84],
  [73, 78, 83, 69, 82, 84],
  [73, 78, 84, 79],
  [86, 65, 76, 85, 69, 83],
  [85, 80, 68, 65, 84, 69],
  [83, 69, 84],
  [68, 69, 76, 69, 84, 69],
  [70, 82, 79, 77],
  [74, 79, 73, 78],
  [79, 78],
  [87, 72, 69, 82, 69],
  [71, 82, 79, 85, 80],
  [79, 82, 68, 69, 82],
  [66, 89],
  [68, 69, 83, 67],
  [76, 73, 77, 73, 84],
  [65, 78, 68],
  [79, 82],
  [78, 79, 84],
  [73, 83],
  [78, 85, 76, 76],
  [84, 82, 85, 69],
  [70, 65, 76, 83, 69],
  [67, 79, 85, 78, 84],
  [83, 85, 77],
  [77, 73, 78],
  [77, 65, 88]]
def isWord (s : ByteArray) : Bool := wordsL.any fun x => s.toList == x
theorem isWord_yes {s : ByteArray} (x : List UInt8) (hx : x ∈ wordsL) (h : (s.toList == x) = true) : isWord s = true := by
  rw [isWord, List.any_eq_true]
  exact ⟨x, hx, h⟩
end Go.Proofs.YtlooelldkbdomaaGreatDoor
