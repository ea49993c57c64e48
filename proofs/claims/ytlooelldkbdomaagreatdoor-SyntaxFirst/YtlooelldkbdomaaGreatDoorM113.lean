/- Plain mathematics of layer 10: names and words as lists; the two sources that must be read. -/
import Derived.Test.YtlooelldkbdomaaGreatDoorM112
namespace Go.Proofs.YtlooelldkbdomaaGreatDoor
open Go Go.RowKit

def nameL (l : List UInt8) : Bool := (match l with | [] => false | c :: _ => decide (cls c = 5)) && decide (l.length ≤ 16) && l.all fun c => nmB (cls c)
def wordL (l : List UInt8) : Bool := wordsL.any fun x => l == x
theorem isWord_list (s : ByteArray) : isWord s = wordL s.data.toList := by
  unfold isWord wordL
  rw [ByteArray.toList_eq]
theorem isName_list (s : ByteArray) : isName s = nameL s.data.toList := by
  unfold isName nameL
  have h1 : decide (clsAt s 0 = 5) = (match s.data.toList with | [] => false | c :: _ => decide (cls c = 5)) := by
    by_cases h : 0 < s.size
    · have := bl_in h
      rw [bl, List.drop_zero] at this
      rw [this, clsAt_in h]
    · have := bl_out h
      rw [bl, List.drop_zero] at this
      rw [this, clsAt_out h]
      rfl
  have h2 : ((List.range s.size).all fun k => nmB (clsAt s k)) = s.data.toList.all fun c => nmB (cls c) := by
    have hz : s.data.toList.length = s.size := by simp
    rw [Bool.eq_iff_iff, List.all_eq_true, List.all_eq_true]
    constructor
    · intro h c hc
      obtain ⟨i, hi, rfl⟩ := List.getElem_of_mem hc
      have := h i (by simp; omega)
      rw [clsAt_in (by omega)] at this
      exact this
    · intro h k hk
      have hk' : k < s.size := by simpa using hk
      rw [clsAt_in hk']
      exact h _ (List.getElem_mem (by omega : k < s.data.toList.length))
  rw [h1, h2]
  simp
theorem isWord_ofL (l : List UInt8) : isWord (ofL l) = wordL l := by rw [isWord_list, list_ofL]
theorem isName_ofL (l : List UInt8) : isName (ofL l) = nameL l := by rw [isName_list, list_ofL]
theorem tokR_digit {c : UInt8} {l : List UInt8} (h : cls c = 4) : tokR (c :: l) = if (parR (c :: l)).2 = 0 then ((2, (parR (c :: l)).1.2.1, ⟨#[]⟩), 0) else (tk0, 101) := by
  simp only [tokR]
  rw [if_pos h]
theorem tokR_run {c : UInt8} {l : List UInt8} (h : cls c = 5 ∨ cls c = 6 ∨ cls c = 7) : tokR (c :: l) = if wordL (c :: l) = true then ((4, 0, ofL (c :: l)), 0) else if nameL (c :: l) = true then ((3, 0, ofL (c :: l)), 0) else (tk0, 102) := by
  simp only [tokR, isWord_ofL, isName_ofL]
  rw [if_neg (by omega), if_pos h]
theorem tokR_colon {c : UInt8} {l : List UInt8} (h : cls c = 8) : tokR (c :: l) = if nameL l = true then ((6, 0, ofL l), 0) else (tk0, 102) := by
  simp only [tokR, isName_ofL]
  rw [if_neg (by omega), if_neg (by omega), if_pos h]
theorem tokR_mark {c : UInt8} {l : List UInt8} (h : cls c = 9) : tokR (c :: l) = if (parR (c :: l)).2 = 0 then ((5, 0, (parR (c :: l)).1.2.2), 0) else (tk0, 103) := by
  simp only [tokR]
  rw [if_neg (by omega), if_neg (by omega), if_neg (by omega), if_pos h]
theorem tokR_sign {c : UInt8} {l : List UInt8} (h : cls c = 10) : tokR (c :: l) = ((7, 0, ofL (c :: l)), 0) := by
  simp only [tokR]
  rw [if_neg (by omega), if_neg (by omega), if_neg (by omega), if_neg (by omega), if_pos h]
theorem tokR_byte {c : UInt8} {l : List UInt8} (h : cls c = 0 ∨ cls c = 2 ∨ cls c = 3) : tokR (c :: l) = (tk0, 100) := by
  simp only [tokR]
  rw [if_neg (by omega), if_neg (by omega), if_neg (by omega), if_neg (by omega), if_neg (by omega)]

theorem toks_awake : Toks [97, 60, 61, 58, 112, 32, 45, 45, 32, 120] 0 [((3, 0, ⟨#[97]⟩), 0), ((7, 0, ⟨#[60, 61]⟩), 1), ((6, 0, ⟨#[112]⟩), 3), ((1, 0, ⟨#[]⟩), 10)] := by
  have h1 : tokR (pce [97, 60, 61, 58, 112, 32, 45, 45, 32, 120]) = ((3, 0, ⟨#[97]⟩), 0) := by
    rw [show pce [97, 60, 61, 58, 112, 32, 45, 45, 32, 120] = [97] from by decide +kernel, tokR_run (Or.inl (by decide +kernel)), if_neg (by decide +kernel), if_pos (by decide +kernel)]
    rfl
  have h2 : tokR (pce [60, 61, 58, 112, 32, 45, 45, 32, 120]) = ((7, 0, ⟨#[60, 61]⟩), 0) := by
    rw [show pce [60, 61, 58, 112, 32, 45, 45, 32, 120] = [60, 61] from by decide +kernel, tokR_sign (by decide +kernel)]
    rfl
  have h3 : tokR (pce [58, 112, 32, 45, 45, 32, 120]) = ((6, 0, ⟨#[112]⟩), 0) := by
    rw [show pce [58, 112, 32, 45, 45, 32, 120] = [58, 112] from by decide +kernel, tokR_colon (by decide +kernel), if_pos (by decide +kernel)]
    rfl
  have t1 := Toks.fin (l := [32, 45, 45, 32, 120]) (a := 5) (by decide +kernel)
  have t2 := Toks.more (l := [58, 112, 32, 45, 45, 32, 120]) (a := 3) (by decide +kernel) h3 t1
  have t3 := Toks.more (l := [60, 61, 58, 112, 32, 45, 45, 32, 120]) (a := 1) (by decide +kernel) h2 t2
  exact Toks.more (l := [97, 60, 61, 58, 112, 32, 45, 45, 32, 120]) (a := 0) (by decide +kernel) h1 t3
theorem bad_awake : Bad [97, 32, 33, 32, 98] 0 2 100 := by
  have h1 : tokR (pce [97, 32, 33, 32, 98]) = ((3, 0, ⟨#[97]⟩), 0) := by
    rw [show pce [97, 32, 33, 32, 98] = [97] from by decide +kernel, tokR_run (Or.inl (by decide +kernel)), if_neg (by decide +kernel), if_pos (by decide +kernel)]
    rfl
  have h2 : tokR (pce [32, 33, 32, 98]) = (tk0, 100) := by
    rw [show pce [32, 33, 32, 98] = [33] from by decide +kernel, tokR_byte (Or.inl (by decide +kernel))]
  exact Bad.more (l := [97, 32, 33, 32, 98]) (a := 0) (by decide +kernel) h1 (Bad.here (l := [32, 33, 32, 98]) (a := 1) h2 (by decide))
theorem scan_awake {l : List (Tk × Nat)} {p : Nat} {c : Int} (h : ScanIs ⟨#[97, 60, 61, 58, 112, 32, 45, 45, 32, 120]⟩ l p c) : l = [((3, 0, ⟨#[97]⟩), 0), ((7, 0, ⟨#[60, 61]⟩), 1), ((6, 0, ⟨#[112]⟩), 3), ((1, 0, ⟨#[]⟩), 10)] ∧ p = 0 ∧ c = 0 :=
  h.one (Or.inr ⟨by decide, Or.inl ⟨rfl, rfl, toks_awake⟩⟩)
theorem scan_awake2 {l : List (Tk × Nat)} {p : Nat} {c : Int} (h : ScanIs ⟨#[97, 32, 33, 32, 98]⟩ l p c) : l = [] ∧ p = 2 ∧ c = 100 :=
  h.one (Or.inr ⟨by decide, Or.inr ⟨rfl, bad_awake⟩⟩)
end Go.Proofs.YtlooelldkbdomaaGreatDoor
