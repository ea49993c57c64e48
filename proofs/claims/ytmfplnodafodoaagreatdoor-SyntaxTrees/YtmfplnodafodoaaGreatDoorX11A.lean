/- Plain mathematics of layer 10: a source's bytes, cut into pieces. -/
import Derived.WalkKit
import Derived.WalkSpells
import Derived.Lib.Bytealg
import Derived.Test.YtmfplnodafodoaaGreatDoorX1M
namespace Go.Proofs.YtmfplnodafodoaaGreatDoor
open Go Go.RowKit

/-- A sign's byte. -/
def sgn (b : UInt8) : Bool := decide ((0 : Int) ≤ Lib.indexByte [59, 44, 40, 41, 46, 42, 43, 45, 47, 37, 61, 60, 62] b)
/-- The class of a byte. -/
def cls (b : UInt8) : Int := if b.toNat = 32 ∨ b.toNat = 9 then 2 else if b.toNat = 10 then 3 else if 48 ≤ b.toNat ∧ b.toNat ≤ 57 then 4 else if 97 ≤ b.toNat ∧ b.toNat ≤ 122 then 5 else if 65 ≤ b.toNat ∧ b.toNat ≤ 90 then 6 else if b.toNat = 95 then 7 else if b.toNat = 58 then 8 else if b.toNat = 39 then 9 else if sgn b = true then 10 else 0
/-- The class of the byte at a place; 1: there is none. -/
def clsAt (s : ByteArray) (k : Nat) : Int := if h : k < s.size then cls s[k] else 1
theorem clsAt_in {s : ByteArray} {k : Nat} (h : k < s.size) : clsAt s k = cls s[k] := dif_pos h
theorem clsAt_out {s : ByteArray} {k : Nat} (h : ¬ k < s.size) : clsAt s k = 1 := dif_neg h
theorem cls_all (P : UInt8 → Prop) [DecidablePred P] (h : ∀ n : Fin 256, P (UInt8.ofNat n.val)) (b : UInt8) : P b := by
  have := h ⟨b.toNat, UInt8.toNat_lt b⟩
  simpa using this
theorem cls_one (b : UInt8) : cls b ≠ 1 := cls_all (fun b => cls b ≠ 1) (by decide +kernel) b
theorem cls_mark (b : UInt8) : cls b = 9 ↔ b = 39 := cls_all (fun b => cls b = 9 ↔ b = 39) (by decide +kernel) b
theorem cls_colon (b : UInt8) : cls b = 8 ↔ b = 58 := cls_all (fun b => cls b = 8 ↔ b = 58) (by decide +kernel) b
theorem cls_line (b : UInt8) : cls b = 3 ↔ b = 10 := cls_all (fun b => cls b = 3 ↔ b = 10) (by decide +kernel) b
theorem cls_blank (b : UInt8) : cls b = 2 ↔ b = 32 ∨ b = 9 := cls_all (fun b => cls b = 2 ↔ b = 32 ∨ b = 9) (by decide +kernel) b

/-- What goes on a run. -/
def runB (b : UInt8) : Prop := cls b = 4 ∨ cls b = 5 ∨ cls b = 6 ∨ cls b = 7
instance (b : UInt8) : Decidable (runB b) := inferInstanceAs (Decidable (_ ∨ _))
/-- How many bytes of blanks and remarks stand in front (true: within a remark). -/
def skp : Bool → List UInt8 → Nat
  | _, [] => 0
  | true, c :: l => if c = 10 then 1 + skp false l else 1 + skp true l
  | false, c :: l => if cls c = 2 ∨ cls c = 3 then 1 + skp false l else if c = 45 ∧ l.head? = some 45 then 1 + skp true l else 0
/-- How many bytes go on a run. -/
def runN : List UInt8 → Nat
  | [] => 0
  | c :: l => if runB c then 1 + runN l else 0
/-- How many bytes go on a text (true: behind a mark). -/
def txtN : Bool → List UInt8 → Nat
  | _, [] => 0
  | false, c :: l => 1 + txtN (decide (c = 39)) l
  | true, c :: l => if c = 39 then 1 + txtN false l else 0
/-- Two bytes that are one sign. -/
def twoS (c d : UInt8) : Prop := (c = 60 ∧ d = 62) ∨ (c = 60 ∧ d = 61) ∨ (c = 62 ∧ d = 61)
instance (c d : UInt8) : Decidable (twoS c d) := inferInstanceAs (Decidable (_ ∨ _))
/-- How many bytes the sign in front has. -/
def sgnN : List UInt8 → Nat
  | c :: d :: _ => if twoS c d then 2 else 1
  | _ => 1
/-- How many bytes the piece in front has. -/
def pieceN : List UInt8 → Nat
  | [] => 0
  | c :: l => if runB c ∨ cls c = 8 then 1 + runN l else if cls c = 9 then 1 + txtN false l else if cls c = 10 then sgnN (c :: l) else 1
theorem skp_le : ∀ (l : List UInt8) (b : Bool), skp b l ≤ l.length
  | [], b => by cases b <;> simp [skp]
  | c :: l, true => by
    have h1 := skp_le l true
    have h2 := skp_le l false
    simp only [skp, List.length_cons]
    split <;> omega
  | c :: l, false => by
    have h1 := skp_le l true
    have h2 := skp_le l false
    simp only [skp, List.length_cons]
    split
    · omega
    · split <;> omega
theorem runN_le : ∀ l : List UInt8, runN l ≤ l.length
  | [] => Nat.le_refl _
  | c :: l => by
    have := runN_le l
    simp only [runN, List.length_cons]
    split <;> omega
theorem txtN_le : ∀ (l : List UInt8) (b : Bool), txtN b l ≤ l.length
  | [], b => by cases b <;> simp [txtN]
  | c :: l, true => by
    have := txtN_le l false
    simp only [txtN, List.length_cons]
    split <;> omega
  | c :: l, false => by
    have := txtN_le l (decide (c = 39))
    simp only [txtN, List.length_cons]
    omega
theorem pieceN_le : ∀ l : List UInt8, pieceN l ≤ l.length
  | [] => Nat.le_refl _
  | c :: l => by
    have h1 := runN_le l
    have h2 := txtN_le l false
    simp only [pieceN, List.length_cons]
    split
    · omega
    · split
      · omega
      · split
        · cases l with
          | nil => simp [sgnN]
          | cons d l =>
            simp only [sgnN, List.length_cons]
            split <;> omega
        · omega
theorem pieceN_pos (c : UInt8) (l : List UInt8) : 0 < pieceN (c :: l) := by
  simp only [pieceN]
  split
  · omega
  · split
    · omega
    · split
      · cases l with
        | nil => simp [sgnN]
        | cons d l =>
          simp only [sgnN]
          split <;> omega
      · omega

/-- The bytes from a place on. -/
def bl (s : ByteArray) (e : Nat) : List UInt8 := s.data.toList.drop e
theorem bl_in {s : ByteArray} {e : Nat} (h : e < s.size) : bl s e = s[e] :: bl s (e + 1) := by
  have h' : e < s.data.toList.length := by simpa using h
  rw [bl, List.drop_eq_getElem_cons h']
  rfl
theorem bl_out {s : ByteArray} {e : Nat} (h : ¬ e < s.size) : bl s e = [] := by
  rw [bl, List.drop_eq_nil_iff]
  have : s.data.toList.length = s.size := by simp
  omega
theorem bl_len (s : ByteArray) (e : Nat) : (bl s e).length = s.size - e := by simp [bl]
theorem bl_drop (s : ByteArray) (e n : Nat) : (bl s e).drop n = bl s (e + n) := by simp [bl, List.drop_drop]
/-- Where the next piece begins and ends. -/
def cutR (s : ByteArray) (b : Bool) (e : Nat) : Nat × Nat := (e + skp b (bl s e), e + skp b (bl s e) + pieceN (bl s (e + skp b (bl s e))))
theorem cutR_blank {s : ByteArray} {e : Nat} (h : e < s.size) (g : cls s[e] = 2 ∨ cls s[e] = 3) : cutR s false e = cutR s false (e + 1) := by
  have : skp false (bl s e) = 1 + skp false (bl s (e + 1)) := by rw [bl_in h]; simp only [skp]; rw [if_pos g]
  unfold cutR
  rw [this, show e + (1 + skp false (bl s (e + 1))) = e + 1 + skp false (bl s (e + 1)) from by omega]
theorem cutR_here {s : ByteArray} {e : Nat} (h : skp false (bl s e) = 0) : cutR s false e = (e, e + pieceN (bl s e)) := by
  unfold cutR
  rw [h]
  rfl

/-! Names and words. -/
def nmB (c : Int) : Bool := decide (c = 5) || decide (c = 4) || decide (c = 7)
/-- Is a text a name? -/
def isName (s : ByteArray) : Bool := decide (clsAt s 0 = 5) && decide (s.size ≤ 16) && (List.range s.size).all fun k => nmB (clsAt s k)
theorem isName_head {s : ByteArray} (h : clsAt s 0 ≠ 5) : isName s = false := by simp [isName, h]
theorem isName_long {s : ByteArray} (h : ¬ s.size ≤ 16) : isName s = false := by simp [isName, h]
theorem isName_at {s : ByteArray} {k : Nat} (hk : k < s.size) (h : nmB (clsAt s k) = false) : isName s = false := by
  have : ((List.range s.size).all fun k => nmB (clsAt s k)) = false := by
    rw [List.all_eq_false]
    exact ⟨k, by simpa using hk, by simp [h]⟩
  rw [isName, this, Bool.and_false]
theorem isName_yes {s : ByteArray} (h1 : clsAt s 0 = 5) (h2 : s.size ≤ 16) (h : ∀ k, k < s.size → nmB (clsAt s k) = true) : isName s = true := by
  simp only [isName, h1, h2, decide_true, Bool.true_and, List.all_eq_true, List.mem_range]
  exact h
/-- The words of the language. -/
def wordsL : List (List UInt8) := [[83, 69, 76, 69, 67, 84],
  [73, 78, 83, 69, 82, 84],
  [73, 78, 84, 79],
  [86, 65, 76, 85, 69, 83],
  [85, 80, 68, 65, 84, 69],
  [83, 69, 84],
  [68, 69, 76, 69, 84, 69],
  [70, 82, 79, 77],
  [74, 79, 73, 78],
  [79, 78],
  [87, 72, 69, 82, 69],
  [71, 82, 79, 85, 80],
  [79, 82, 68, 69, 82],
  [66, 89],
  [68, 69, 83, 67],
  [76, 73, 77, 73, 84],
  [65, 78, 68],
  [79, 82],
  [78, 79, 84],
  [73, 83],
  [78, 85, 76, 76],
  [84, 82, 85, 69],
  [70, 65, 76, 83, 69],
  [67, 79, 85, 78, 84],
  [83, 85, 77],
  [77, 73, 78],
  [77, 65, 88]]
def isWord (s : ByteArray) : Bool := wordsL.any fun x => s.toList == x
theorem isWord_yes {s : ByteArray} (x : List UInt8) (hx : x ∈ wordsL) (h : (s.toList == x) = true) : isWord s = true := by
  rw [isWord, List.any_eq_true]
  exact ⟨x, hx, h⟩
end Go.Proofs.YtmfplnodafodoaaGreatDoor
/- Plain mathematics of layer 10: the scanner's labels, and what they come to. -/
namespace Go.Proofs.YtmfplnodafodoaaGreatDoor
open Go Go.RowKit

def runC (c : Int) : Prop := c = 4 ∨ c = 5 ∨ c = 6 ∨ c = 7
/-- The two bytes at a place, or what there is of them. -/
def twoAt (s : ByteArray) (a : Nat) : List UInt8 := (s.extract a (min (a + 2) s.size)).toList
/-- From a label, with where the piece began and the place, to where it begins and ends. -/
inductive Cut (s : ByteArray) : Nat → Nat → Nat → Nat × Nat → Prop
  | stop {a e : Nat} : clsAt s e = 1 → Cut s 0 a e (e, e)
  | blank {a e : Nat} {r : Nat × Nat} : clsAt s e = 2 ∨ clsAt s e = 3 → Cut s 0 e (e + 1) r → Cut s 0 a e r
  | run {a e : Nat} {r : Nat × Nat} : runC (clsAt s e) ∨ clsAt s e = 8 → Cut s 1 e (e + 1) r → Cut s 0 a e r
  | text {a e : Nat} {r : Nat × Nat} : clsAt s e = 9 → Cut s 2 e (e + 1) r → Cut s 0 a e r
  | sign {a e : Nat} {r : Nat × Nat} : clsAt s e = 10 → Cut s 3 e (e + 1) r → Cut s 0 a e r
  | other {a e : Nat} : clsAt s e = 0 → Cut s 0 a e (e, e + 1)
  | runOn {a e : Nat} {r : Nat × Nat} : runC (clsAt s e) → Cut s 1 a (e + 1) r → Cut s 1 a e r
  | runEnd {a e : Nat} : ¬ runC (clsAt s e) → Cut s 1 a e (a, e)
  | textNone {a e : Nat} : clsAt s e = 1 → Cut s 2 a e (a, e)
  | textMark {a e : Nat} {r : Nat × Nat} : clsAt s e = 9 → Cut s 4 a (e + 1) r → Cut s 2 a e r
  | textOn {a e : Nat} {r : Nat × Nat} : clsAt s e ≠ 1 → clsAt s e ≠ 9 → Cut s 2 a (e + 1) r → Cut s 2 a e r
  | markOn {a e : Nat} {r : Nat × Nat} : clsAt s e = 9 → Cut s 2 a (e + 1) r → Cut s 4 a e r
  | markEnd {a e : Nat} : clsAt s e ≠ 9 → Cut s 4 a e (a, e)
  | remark {a e : Nat} {r : Nat × Nat} : twoAt s a = [45, 45] → Cut s 5 a e r → Cut s 3 a e r
  | two {a e : Nat} : twoAt s a = [60, 62] ∨ twoAt s a = [60, 61] ∨ twoAt s a = [62, 61] → Cut s 3 a e (a, e + 1)
  | one {a e : Nat} : twoAt s a ≠ [45, 45] → twoAt s a ≠ [60, 62] → twoAt s a ≠ [60, 61] → twoAt s a ≠ [62, 61] → Cut s 3 a e (a, e)
  | remEnd {a e : Nat} {r : Nat × Nat} : clsAt s e = 1 ∨ clsAt s e = 3 → Cut s 0 a e r → Cut s 5 a e r
  | remOn {a e : Nat} {r : Nat × Nat} : clsAt s e ≠ 1 → clsAt s e ≠ 3 → Cut s 5 a (e + 1) r → Cut s 5 a e r
theorem clsAt_some {s : ByteArray} {e : Nat} (h : clsAt s e ≠ 1) : ∃ g : e < s.size, clsAt s e = cls s[e] := by
  by_cases g : e < s.size
  · exact ⟨g, clsAt_in g⟩
  · exact absurd (clsAt_out g) h
theorem clsAt_none {s : ByteArray} {e : Nat} (h : clsAt s e = 1) : ¬ e < s.size := fun g => by rw [clsAt_in g] at h; exact cls_one _ h
theorem twoAt_bl (s : ByteArray) (a : Nat) : twoAt s a = (bl s a).take 2 := by
  rw [twoAt, ByteArray.toList_eq]
  have : (s.extract a (min (a + 2) s.size)).data.toList = (s.data.toList.take (min (a + 2) s.size)).drop a := by simp [ByteArray.data_extract, List.extract_eq_take_drop, List.drop_take]
  rw [this, bl, List.drop_take, List.take_eq_take_iff]
  simp
  omega
/-- What a label comes to. -/
def meanL (s : ByteArray) : Nat → Nat → Nat → Nat × Nat
  | 0, _, e => cutR s false e
  | 1, a, e => (a, e + runN (bl s e))
  | 2, a, e => (a, e + txtN false (bl s e))
  | 3, a, e => if twoAt s a = [45, 45] then cutR s true e else if twoAt s a = [60, 62] ∨ twoAt s a = [60, 61] ∨ twoAt s a = [62, 61] then (a, e + 1) else (a, e)
  | 4, a, e => (a, e + txtN true (bl s e))
  | _, _, e => cutR s true e
theorem cutR_next {s : ByteArray} {b b' : Bool} {e : Nat} (h : skp b (bl s e) = 1 + skp b' (bl s (e + 1))) : cutR s b e = cutR s b' (e + 1) := by
  unfold cutR
  rw [h, show e + (1 + skp b' (bl s (e + 1))) = e + 1 + skp b' (bl s (e + 1)) from by omega]
theorem skp_here {c : UInt8} {l : List UInt8} (h1 : cls c ≠ 2) (h2 : cls c ≠ 3) (h3 : c ≠ 45 ∨ l.head? ≠ some 45) : skp false (c :: l) = 0 := by
  simp only [skp]
  rw [if_neg (by rintro (g | g); · exact h1 g
                 · exact h2 g), if_neg (by rintro ⟨g1, g2⟩; rcases h3 with h | h; · exact h g1
                                           · exact h g2)]
theorem cls_minus : cls 45 = 10 := by decide
theorem Cut.mean {s : ByteArray} {l a e : Nat} {r : Nat × Nat} (h : Cut s l a e r) : r = meanL s l a e := by
  induction h with
  | @stop a e h => exact (cutR_here (by rw [bl_out (clsAt_none h)]; rfl)).trans (by rw [bl_out (clsAt_none h)]; rfl) |>.symm
  | @blank a e r h _ ih =>
    obtain ⟨g, hg⟩ := clsAt_some (s := s) (e := e) (by omega)
    rw [hg] at h
    rw [ih]
    exact (cutR_blank g h).symm
  | @run a e r h _ ih =>
    obtain ⟨g, hg⟩ := clsAt_some (s := s) (e := e) (by unfold runC at h; omega)
    rw [hg] at h
    rw [ih]
    have hr : runB s[e] ∨ cls s[e] = 8 := h
    have h0 : skp false (bl s e) = 0 := by
      rw [bl_in g]
      refine skp_here ?_ ?_ (Or.inl fun q => ?_)
      · unfold runB at hr; omega
      · unfold runB at hr; omega
      · unfold runB at hr; rw [q] at hr; exact absurd hr (by decide)
    refine Eq.trans ?_ (cutR_here h0).symm
    rw [bl_in g]
    simp only [pieceN, meanL]
    rw [if_pos hr]
    simp
    omega
  | @text a e r h _ ih =>
    obtain ⟨g, hg⟩ := clsAt_some (s := s) (e := e) (by omega)
    rw [hg] at h
    rw [ih]
    have h0 : skp false (bl s e) = 0 := by
      rw [bl_in g]
      refine skp_here (by omega) (by omega) (Or.inl fun q => ?_)
      rw [q, cls_minus] at h; omega
    refine Eq.trans ?_ (cutR_here h0).symm
    rw [bl_in g]
    simp only [pieceN, meanL]
    rw [if_neg (by unfold runB; omega), if_pos h]
    simp
    omega
  | @sign a e r h _ ih =>
    obtain ⟨g, hg⟩ := clsAt_some (s := s) (e := e) (by omega)
    rw [hg] at h
    rw [ih]
    have htw := twoAt_bl s e
    rw [bl_in g] at htw
    simp only [meanL]
    by_cases h45 : twoAt s e = [45, 45]
    · rw [if_pos h45]
      refine (cutR_next ?_).symm
      rw [htw] at h45
      rw [bl_in g]
      cases hb : bl s (e + 1) with
      | nil => rw [hb] at h45; simp at h45
      | cons d l =>
        rw [hb] at h45
        simp at h45
        simp only [skp]
        rw [if_neg (by omega), if_pos ⟨h45.1, by simp [h45.2]⟩]
    · rw [if_neg h45]
      have h0 : skp false (bl s e) = 0 := by
        rw [bl_in g]
        refine skp_here (by omega) (by omega) ?_
        by_cases q : s[e] = 45
        · refine Or.inr fun q2 => h45 ?_
          rw [htw]
          cases hb : bl s (e + 1) with
          | nil => rw [hb] at q2; simp at q2
          | cons d l =>
            rw [hb] at q2
            simp at q2
            simp [q, q2]
        · exact Or.inl q
      refine Eq.trans ?_ (cutR_here h0).symm
      rw [bl_in g]
      simp only [pieceN]
      rw [if_neg (c := runB s[e] ∨ cls s[e] = 8) (by unfold runB; omega), if_neg (c := cls s[e] = 9) (by omega), if_pos h]
      rw [htw]
      cases hb : bl s (e + 1) with
      | nil => simp [sgnN]
      | cons d l =>
        simp only [sgnN, twoS, List.take_succ_cons, List.take_zero, List.cons.injEq, and_true]
        split <;> rename_i q <;> simp [q]
  | @other a e h =>
    obtain ⟨g, hg⟩ := clsAt_some (s := s) (e := e) (by omega)
    rw [hg] at h
    have h0 : skp false (bl s e) = 0 := by
      rw [bl_in g]
      refine skp_here (by omega) (by omega) (Or.inl fun q => ?_)
      rw [q, cls_minus] at h; omega
    refine Eq.trans ?_ (cutR_here h0).symm
    rw [bl_in g]
    simp only [pieceN]
    rw [if_neg (by unfold runB; omega), if_neg (by omega), if_neg (by omega)]
  | @runOn a e r h _ ih =>
    obtain ⟨g, hg⟩ := clsAt_some (s := s) (e := e) (by unfold runC at h; omega)
    rw [hg] at h
    rw [ih]
    simp only [meanL]
    rw [bl_in g]
    simp only [runN]
    rw [if_pos (show runB s[e] from h)]
    simp
    omega
  | @runEnd a e h =>
    simp only [meanL]
    by_cases g : e < s.size
    · rw [clsAt_in g] at h
      rw [bl_in g]
      simp only [runN]
      rw [if_neg (show ¬ runB s[e] from h)]
      rfl
    · rw [bl_out g]; rfl
  | @textNone a e h =>
    simp only [meanL]
    rw [bl_out (clsAt_none h)]; rfl
  | @textMark a e r h _ ih =>
    obtain ⟨g, hg⟩ := clsAt_some (s := s) (e := e) (by omega)
    rw [hg] at h
    rw [ih]
    simp only [meanL]
    rw [bl_in g]
    simp only [txtN]
    rw [decide_eq_true ((cls_mark _).1 h)]
    simp
    omega
  | @textOn a e r h1 h2 _ ih =>
    obtain ⟨g, hg⟩ := clsAt_some (s := s) (e := e) h1
    rw [hg] at h2
    rw [ih]
    simp only [meanL]
    rw [bl_in g]
    simp only [txtN]
    rw [decide_eq_false fun q => h2 ((cls_mark _).2 q)]
    simp
    omega
  | @markOn a e r h _ ih =>
    obtain ⟨g, hg⟩ := clsAt_some (s := s) (e := e) (by omega)
    rw [hg] at h
    rw [ih]
    simp only [meanL]
    rw [bl_in g]
    simp only [txtN]
    rw [if_pos ((cls_mark _).1 h)]
    simp
    omega
  | @markEnd a e h =>
    simp only [meanL]
    by_cases g : e < s.size
    · rw [clsAt_in g] at h
      rw [bl_in g]
      simp only [txtN]
      rw [if_neg fun q => h ((cls_mark _).2 q)]
      rfl
    · rw [bl_out g]; rfl
  | @remark a e r h _ ih =>
    rw [ih]
    simp only [meanL]
    rw [if_pos h]
  | @two a e h =>
    simp only [meanL]
    rw [if_neg, if_pos h]
    intro q
    rw [q] at h
    exact absurd h (by decide)
  | @one a e h1 h2 h3 h4 =>
    simp only [meanL]
    rw [if_neg h1, if_neg (by simp [h2, h3, h4])]
  | @remEnd a e r h _ ih =>
    rw [ih]
    simp only [meanL]
    unfold cutR
    have : skp false (bl s e) = skp true (bl s e) := by
      by_cases g : e < s.size
      · rw [clsAt_in g] at h
        have h3 : cls s[e] = 3 := by have := cls_one s[e]; omega
        rw [bl_in g]
        simp only [skp]
        rw [if_pos (Or.inr h3), if_pos ((cls_line _).1 h3)]
      · rw [bl_out g]; rfl
    rw [this]
  | @remOn a e r h1 h2 _ ih =>
    obtain ⟨g, hg⟩ := clsAt_some (s := s) (e := e) h1
    rw [hg] at h2
    rw [ih]
    refine (cutR_next ?_).symm
    rw [bl_in g]
    simp only [skp]
    rw [if_neg fun q => h2 ((cls_line _).2 q)]
end Go.Proofs.YtmfplnodafodoaaGreatDoor
/- Plain mathematics of layer 10: tokens, and how a source is cut into them. -/
namespace Go.Proofs.YtmfplnodafodoaaGreatDoor
open Go Go.RowKit

/-- A token but for its place: kind, number, text. -/
abbrev Tk := Int × Int × ByteArray
def tk0 : Tk := (0, 0, ⟨#[]⟩)
/-- A list's bytes as a text. -/
def ofL (l : List UInt8) : ByteArray := ⟨l.toArray⟩
theorem ofL_list (s : ByteArray) : ofL s.data.toList = s := by
  cases s
  simp [ofL]
theorem list_ofL (l : List UInt8) : (ofL l).data.toList = l := by simp [ofL]
/-- The token that a piece is, and what is wrong with it. -/
noncomputable def tokR : List UInt8 → Tk × Int
  | [] => ((1, 0, ⟨#[]⟩), 0)
  | c :: l =>
    if cls c = 4 then (if (parR (c :: l)).2 = 0 then ((2, (parR (c :: l)).1.2.1, ⟨#[]⟩), 0) else (tk0, 101))
    else if cls c = 5 ∨ cls c = 6 ∨ cls c = 7 then (if isWord (ofL (c :: l)) = true then ((4, 0, ofL (c :: l)), 0) else if isName (ofL (c :: l)) = true then ((3, 0, ofL (c :: l)), 0) else (tk0, 102))
    else if cls c = 8 then (if isName (ofL l) = true then ((6, 0, ofL l), 0) else (tk0, 102))
    else if cls c = 9 then (if (parR (c :: l)).2 = 0 then ((5, 0, (parR (c :: l)).1.2.2), 0) else (tk0, 103))
    else if cls c = 10 then ((7, 0, ofL (c :: l)), 0) else (tk0, 100)
theorem tokR_kind (c : UInt8) (l : List UInt8) (h : (tokR (c :: l)).2 = 0) : 2 ≤ (tokR (c :: l)).1.1 ∧ (tokR (c :: l)).1.1 ≤ 7 := by
  simp only [tokR] at h ⊢
  repeat' split at h
  all_goals first | (exfalso; revert h; simp; done) | skip
  all_goals (repeat (first | rw [if_pos (by assumption)] | rw [if_neg (by assumption)]))
  all_goals simp

/-- What is left behind blanks and remarks. -/
def skipL (l : List UInt8) : List UInt8 := l.drop (skp false l)
/-- The piece in front. -/
def pce (l : List UInt8) : List UInt8 := (skipL l).take (pieceN (skipL l))
/-- What is left behind it. -/
def rst (l : List UInt8) : List UInt8 := (skipL l).drop (pieceN (skipL l))
/-- A source's tokens from a place on, with their places. -/
inductive Toks : List UInt8 → Nat → List (Tk × Nat) → Prop
  | fin {l : List UInt8} {a : Nat} : skipL l = [] → Toks l a [((1, 0, ⟨#[]⟩), a + skp false l)]
  | more {l : List UInt8} {a : Nat} {t : Tk} {ts : List (Tk × Nat)} : skipL l ≠ [] → tokR (pce l) = (t, 0) → Toks (rst l) (a + skp false l + pieceN (skipL l)) ts → Toks l a ((t, a + skp false l) :: ts)
/-- What is wrong with a source, and where. -/
inductive Bad : List UInt8 → Nat → Nat → Int → Prop
  | here {l : List UInt8} {a : Nat} {t : Tk} {c : Int} : tokR (pce l) = (t, c) → c ≠ 0 → Bad l a (a + skp false l) c
  | more {l : List UInt8} {a p : Nat} {t : Tk} {c : Int} : skipL l ≠ [] → tokR (pce l) = (t, 0) → Bad (rst l) (a + skp false l + pieceN (skipL l)) p c → Bad l a p c
theorem pce_nil {l : List UInt8} (h : skipL l = []) : pce l = [] := by rw [pce, h]; rfl
theorem pce_cons {l : List UInt8} (h : skipL l ≠ []) : ∃ c q, skipL l = c :: q ∧ pce l = c :: q.take (pieceN (c :: q) - 1) := by
  cases hl : skipL l with
  | nil => exact absurd hl h
  | cons c q =>
    refine ⟨c, q, rfl, ?_⟩
    have := pieceN_pos c q
    rw [pce, hl]
    obtain ⟨n, hn⟩ : ∃ n, pieceN (c :: q) = n + 1 := ⟨pieceN (c :: q) - 1, by omega⟩
    rw [hn]
    rfl
theorem Bad.ne {l : List UInt8} {a p : Nat} {c : Int} (h : Bad l a p c) : c ≠ 0 := by
  induction h with
  | here _ h => exact h
  | more _ _ _ ih => exact ih
theorem Toks.one {l : List UInt8} {a : Nat} {ts us : List (Tk × Nat)} (h : Toks l a ts) (g : Toks l a us) : ts = us := by
  induction h generalizing us with
  | fin h =>
    cases g with
    | fin => rfl
    | more g => exact absurd h g
  | more h1 h2 _ ih =>
    cases g with
    | fin g => exact absurd g h1
    | more g1 g2 g3 =>
      rw [h2] at g2
      rw [ih g3, (Prod.mk.inj g2).1]
theorem Toks.good {l : List UInt8} {a p : Nat} {c : Int} {ts : List (Tk × Nat)} (h : Toks l a ts) (g : Bad l a p c) : False := by
  induction h with
  | fin h =>
    cases g with
    | here g1 g2 => rw [pce_nil h] at g1; exact g2 (by have := (Prod.mk.inj g1).2; exact this.symm)
    | more g1 => exact g1 h
  | more h1 h2 _ ih =>
    cases g with
    | here g1 g2 => rw [h2] at g1; exact g2 (Prod.mk.inj g1).2.symm
    | more _ _ g3 => exact ih g3
theorem Bad.one {l : List UInt8} {a p q : Nat} {c d : Int} (h : Bad l a p c) (g : Bad l a q d) : p = q ∧ c = d := by
  induction h with
  | here h1 h2 =>
    cases g with
    | here g1 g2 => rw [h1] at g1; exact ⟨rfl, (Prod.mk.inj g1).2⟩
    | more g1 g2 g3 => rw [h1] at g2; exact absurd (Prod.mk.inj g2).2 h2
  | more h1 h2 _ ih =>
    cases g with
    | here g1 g2 => rw [h2] at g1; exact absurd (Prod.mk.inj g1).2.symm g2
    | more g1 g2 g3 => exact ih g3
/-- What Scan tells: tokens, a place, an error. -/
def ScanIs (s : ByteArray) (l : List (Tk × Nat)) (p : Nat) (c : Int) : Prop :=
  (1000 < s.size ∧ l = [] ∧ p = 0 ∧ c = 2) ∨ (s.size ≤ 1000 ∧ ((c = 0 ∧ p = 0 ∧ Toks s.data.toList 0 l) ∨ (l = [] ∧ Bad s.data.toList 0 p c)))
theorem ScanIs.one {s : ByteArray} {l m : List (Tk × Nat)} {p q : Nat} {c d : Int} (h : ScanIs s l p c) (g : ScanIs s m q d) : l = m ∧ p = q ∧ c = d := by
  rcases h with ⟨h0, rfl, rfl, rfl⟩ | ⟨h0, ⟨rfl, rfl, h⟩ | ⟨rfl, h⟩⟩ <;> rcases g with ⟨g0, rfl, rfl, rfl⟩ | ⟨g0, ⟨rfl, rfl, g⟩ | ⟨rfl, g⟩⟩
  · exact ⟨rfl, rfl, rfl⟩
  · omega
  · omega
  · omega
  · exact ⟨h.one g, rfl, rfl⟩
  · exact (h.good g).elim
  · omega
  · exact (g.good h).elim
  · exact ⟨rfl, h.one g⟩
/-- The tokens ahead, and what follows from a place on. -/
theorem cut_skip (s : ByteArray) (e : Nat) : cutR s false e = (e + skp false (bl s e), e + skp false (bl s e) + pieceN (skipL (bl s e))) := by
  unfold cutR skipL
  rw [bl_drop]
theorem extract_bl (s : ByteArray) (a n : Nat) : (s.extract a (a + n)).data.toList = (bl s a).take n := by
  rw [ByteArray.data_extract]
  simp [bl, List.extract_eq_take_drop]
theorem piece_at (s : ByteArray) (e : Nat) : (s.extract (cutR s false e).1 (cutR s false e).2).data.toList = pce (bl s e) := by
  rw [cut_skip]
  simp only
  rw [extract_bl, pce]
  congr 1
  rw [skipL, bl_drop]
theorem rest_at (s : ByteArray) (e : Nat) : rst (bl s e) = bl s (cutR s false e).2 := by
  rw [cut_skip, rst, skipL, bl_drop, bl_drop]

/-- The cells of tokens. -/
def tc : List (Tk × Nat) → List Value
  | [] => []
  | t :: l => .int .i64 t.1.1 :: .int .i64 t.1.2.1 :: .string t.1.2.2 :: .int .i64 (t.2 : Int) :: tc l
theorem tc_length : ∀ l : List (Tk × Nat), (tc l).length = l.length * 4
  | [] => rfl
  | t :: l => by simp only [tc, List.length_cons, tc_length l]; omega
theorem tc_append : ∀ l m : List (Tk × Nat), tc (l ++ m) = tc l ++ tc m
  | [], _ => rfl
  | t :: l, m => by simp only [tc, List.cons_append, tc_append l m]
theorem tc_one : ∀ (l : List (Tk × Nat)), ∀ u ∈ tc l, u.oneCell' = true
  | [], u, h => by simp [tc] at h
  | t :: l, u, h => by
    simp only [tc, List.mem_cons] at h
    rcases h with rfl | rfl | rfl | rfl | h
    · rfl
    · rfl
    · rfl
    · rfl
    · exact tc_one l u h
theorem tc_at : ∀ (l : List (Tk × Nat)) (i : Nat) (h : i < l.length), (tc l)[i * 4]? = some (.int .i64 l[i].1.1) ∧ (tc l)[i * 4 + 1]? = some (.int .i64 l[i].1.2.1) ∧ (tc l)[i * 4 + 2]? = some (.string l[i].1.2.2) ∧ (tc l)[i * 4 + 3]? = some (.int .i64 (l[i].2 : Int))
  | t :: l, 0, _ => ⟨rfl, rfl, rfl, rfl⟩
  | t :: l, i + 1, h => by
    have := tc_at l i (by simpa using h)
    rw [show (i + 1) * 4 = i * 4 + 1 + 1 + 1 + 1 from by omega]
    simpa [tc] using this
end Go.Proofs.YtmfplnodafodoaaGreatDoor
/- Plain mathematics of layer 10: names and words as lists; the two sources that must be read. -/
namespace Go.Proofs.YtmfplnodafodoaaGreatDoor
open Go Go.RowKit

def nameL (l : List UInt8) : Bool := (match l with | [] => false | c :: _ => decide (cls c = 5)) && decide (l.length ≤ 16) && l.all fun c => nmB (cls c)
def wordL (l : List UInt8) : Bool := wordsL.any fun x => l == x
theorem isWord_list (s : ByteArray) : isWord s = wordL s.data.toList := by
  unfold isWord wordL
  rw [ByteArray.toList_eq]
theorem isName_list (s : ByteArray) : isName s = nameL s.data.toList := by
  unfold isName nameL
  have h1 : decide (clsAt s 0 = 5) = (match s.data.toList with | [] => false | c :: _ => decide (cls c = 5)) := by
    by_cases h : 0 < s.size
    · have := bl_in h
      rw [bl, List.drop_zero] at this
      rw [this, clsAt_in h]
    · have := bl_out h
      rw [bl, List.drop_zero] at this
      rw [this, clsAt_out h]
      rfl
  have h2 : ((List.range s.size).all fun k => nmB (clsAt s k)) = s.data.toList.all fun c => nmB (cls c) := by
    have hz : s.data.toList.length = s.size := by simp
    rw [Bool.eq_iff_iff, List.all_eq_true, List.all_eq_true]
    constructor
    · intro h c hc
      obtain ⟨i, hi, rfl⟩ := List.getElem_of_mem hc
      have := h i (by simp; omega)
      rw [clsAt_in (by omega)] at this
      exact this
    · intro h k hk
      have hk' : k < s.size := by simpa using hk
      rw [clsAt_in hk']
      exact h _ (List.getElem_mem (by omega : k < s.data.toList.length))
  rw [h1, h2]
  simp
theorem isWord_ofL (l : List UInt8) : isWord (ofL l) = wordL l := by rw [isWord_list, list_ofL]
theorem isName_ofL (l : List UInt8) : isName (ofL l) = nameL l := by rw [isName_list, list_ofL]
theorem tokR_digit {c : UInt8} {l : List UInt8} (h : cls c = 4) : tokR (c :: l) = if (parR (c :: l)).2 = 0 then ((2, (parR (c :: l)).1.2.1, ⟨#[]⟩), 0) else (tk0, 101) := by
  simp only [tokR]
  rw [if_pos h]
theorem tokR_run {c : UInt8} {l : List UInt8} (h : cls c = 5 ∨ cls c = 6 ∨ cls c = 7) : tokR (c :: l) = if wordL (c :: l) = true then ((4, 0, ofL (c :: l)), 0) else if nameL (c :: l) = true then ((3, 0, ofL (c :: l)), 0) else (tk0, 102) := by
  simp only [tokR, isWord_ofL, isName_ofL]
  rw [if_neg (by omega), if_pos h]
theorem tokR_colon {c : UInt8} {l : List UInt8} (h : cls c = 8) : tokR (c :: l) = if nameL l = true then ((6, 0, ofL l), 0) else (tk0, 102) := by
  simp only [tokR, isName_ofL]
  rw [if_neg (by omega), if_neg (by omega), if_pos h]
theorem tokR_mark {c : UInt8} {l : List UInt8} (h : cls c = 9) : tokR (c :: l) = if (parR (c :: l)).2 = 0 then ((5, 0, (parR (c :: l)).1.2.2), 0) else (tk0, 103) := by
  simp only [tokR]
  rw [if_neg (by omega), if_neg (by omega), if_neg (by omega), if_pos h]
theorem tokR_sign {c : UInt8} {l : List UInt8} (h : cls c = 10) : tokR (c :: l) = ((7, 0, ofL (c :: l)), 0) := by
  simp only [tokR]
  rw [if_neg (by omega), if_neg (by omega), if_neg (by omega), if_neg (by omega), if_pos h]
theorem tokR_byte {c : UInt8} {l : List UInt8} (h : cls c = 0 ∨ cls c = 2 ∨ cls c = 3) : tokR (c :: l) = (tk0, 100) := by
  simp only [tokR]
  rw [if_neg (by omega), if_neg (by omega), if_neg (by omega), if_neg (by omega), if_neg (by omega)]

theorem toks_awake : Toks [97, 60, 61, 58, 112, 32, 45, 45, 32, 120] 0 [((3, 0, ⟨#[97]⟩), 0), ((7, 0, ⟨#[60, 61]⟩), 1), ((6, 0, ⟨#[112]⟩), 3), ((1, 0, ⟨#[]⟩), 10)] := by
  have h1 : tokR (pce [97, 60, 61, 58, 112, 32, 45, 45, 32, 120]) = ((3, 0, ⟨#[97]⟩), 0) := by
    rw [show pce [97, 60, 61, 58, 112, 32, 45, 45, 32, 120] = [97] from by decide +kernel, tokR_run (Or.inl (by decide +kernel)), if_neg (by decide +kernel), if_pos (by decide +kernel)]
    rfl
  have h2 : tokR (pce [60, 61, 58, 112, 32, 45, 45, 32, 120]) = ((7, 0, ⟨#[60, 61]⟩), 0) := by
    rw [show pce [60, 61, 58, 112, 32, 45, 45, 32, 120] = [60, 61] from by decide +kernel, tokR_sign (by decide +kernel)]
    rfl
  have h3 : tokR (pce [58, 112, 32, 45, 45, 32, 120]) = ((6, 0, ⟨#[112]⟩), 0) := by
    rw [show pce [58, 112, 32, 45, 45, 32, 120] = [58, 112] from by decide +kernel, tokR_colon (by decide +kernel), if_pos (by decide +kernel)]
    rfl
  have t1 := Toks.fin (l := [32, 45, 45, 32, 120]) (a := 5) (by decide +kernel)
  have t2 := Toks.more (l := [58, 112, 32, 45, 45, 32, 120]) (a := 3) (by decide +kernel) h3 t1
  have t3 := Toks.more (l := [60, 61, 58, 112, 32, 45, 45, 32, 120]) (a := 1) (by decide +kernel) h2 t2
  exact Toks.more (l := [97, 60, 61, 58, 112, 32, 45, 45, 32, 120]) (a := 0) (by decide +kernel) h1 t3
theorem bad_awake : Bad [97, 32, 33, 32, 98] 0 2 100 := by
  have h1 : tokR (pce [97, 32, 33, 32, 98]) = ((3, 0, ⟨#[97]⟩), 0) := by
    rw [show pce [97, 32, 33, 32, 98] = [97] from by decide +kernel, tokR_run (Or.inl (by decide +kernel)), if_neg (by decide +kernel), if_pos (by decide +kernel)]
    rfl
  have h2 : tokR (pce [32, 33, 32, 98]) = (tk0, 100) := by
    rw [show pce [32, 33, 32, 98] = [33] from by decide +kernel, tokR_byte (Or.inl (by decide +kernel))]
  exact Bad.more (l := [97, 32, 33, 32, 98]) (a := 0) (by decide +kernel) h1 (Bad.here (l := [32, 33, 32, 98]) (a := 1) h2 (by decide))
theorem scan_awake {l : List (Tk × Nat)} {p : Nat} {c : Int} (h : ScanIs ⟨#[97, 60, 61, 58, 112, 32, 45, 45, 32, 120]⟩ l p c) : l = [((3, 0, ⟨#[97]⟩), 0), ((7, 0, ⟨#[60, 61]⟩), 1), ((6, 0, ⟨#[112]⟩), 3), ((1, 0, ⟨#[]⟩), 10)] ∧ p = 0 ∧ c = 0 :=
  h.one (Or.inr ⟨by decide, Or.inl ⟨rfl, rfl, toks_awake⟩⟩)
theorem scan_awake2 {l : List (Tk × Nat)} {p : Nat} {c : Int} (h : ScanIs ⟨#[97, 32, 33, 32, 98]⟩ l p c) : l = [] ∧ p = 2 ∧ c = 100 :=
  h.one (Or.inr ⟨by decide, Or.inr ⟨rfl, bad_awake⟩⟩)
end Go.Proofs.YtmfplnodafodoaaGreatDoor
/- Plain mathematics of layer 10: where tokens stand. -/
namespace Go.Proofs.YtmfplnodafodoaaGreatDoor
open Go Go.RowKit

/-- A token's text, as its source has it. -/
def txOf (t : Tk) : List UInt8 := if t.1 = 6 then 58 :: t.2.2.data.toList else t.2.2.data.toList
theorem txOf_tok {p : List UInt8} {t : Tk} (h : tokR p = (t, 0)) (h1 : t.1 ≠ 1) (h2 : t.1 ≠ 2) (h5 : t.1 ≠ 5) : txOf t = p := by
  cases p with
  | nil => exact absurd (by rw [← (Prod.mk.inj h).1]) h1
  | cons c l =>
    simp only [tokR] at h
    repeat' split at h
    all_goals obtain ⟨rfl, hz⟩ := Prod.mk.inj h
    all_goals first | (exact absurd hz (by decide)) | skip
    · exact absurd rfl h2
    · simp [txOf, list_ofL]
    · simp [txOf, list_ofL]
    · rename_i h8 _
      simp [txOf, list_ofL, (cls_colon c).1 h8]
    · exact absurd rfl h5
    · simp [txOf, list_ofL]
/-- How tokens stand in a source. -/
def Pl (S : List UInt8) : List (Tk × Nat) → Prop
  | [] => False
  | [t] => t = ((1, 0, ⟨#[]⟩), S.length)
  | t :: u :: ts => t.2 < u.2 ∧ u.2 ≤ S.length ∧ 2 ≤ t.1.1 ∧ t.1.1 ≤ 7 ∧ (t.1.1 ≠ 2 → t.1.1 ≠ 5 → (txOf t.1) <+: S.drop t.2 ∧ t.2 + (txOf t.1).length ≤ u.2) ∧ Pl S (u :: ts)
theorem skipL_len (l : List UInt8) : (skipL l).length = l.length - skp false l := by simp [skipL]
theorem Toks.head {l : List UInt8} {a : Nat} {ts : List (Tk × Nat)} (h : Toks l a ts) : ∃ t us, ts = (t, a + skp false l) :: us := by
  cases h with
  | fin h => exact ⟨_, _, rfl⟩
  | more h1 h2 h3 => exact ⟨_, _, rfl⟩
theorem Toks.places {S l : List UInt8} {a : Nat} {ts : List (Tk × Nat)} (h : Toks l a ts) (hl : l = S.drop a) (ha : a ≤ S.length) : Pl S ts := by
  induction h with
  | @fin l a h =>
    have h1 := skp_le l false
    have h2 := skipL_len l
    rw [h] at h2
    have h3 : l.length = S.length - a := by rw [hl]; simp
    simp at h2
    show ((((1, 0, ⟨#[]⟩) : Tk), a + skp false l) : Tk × Nat) = ((1, 0, ⟨#[]⟩), S.length)
    congr 1
    omega
  | @more l a t ts h1 h2 h3 ih =>
    obtain ⟨c, q, hq, hp⟩ := pce_cons h1
    have hk := tokR_kind c (q.take (pieceN (c :: q) - 1)) (by rw [← hp, h2])
    rw [← hp, h2] at hk
    simp only at hk
    have hpos := pieceN_pos c q
    have hle := pieceN_le (skipL l)
    have hsl := skipL_len l
    have hsk := skp_le l false
    rw [← hq] at hpos
    have hL : l.length = S.length - a := by rw [hl]; simp
    have hr : rst l = S.drop (a + skp false l + pieceN (skipL l)) := by
      rw [rst, skipL, hl, List.drop_drop, List.drop_drop]
      congr 1
      omega
    have hi := ih hr (by omega)
    obtain ⟨u, us, rfl⟩ := h3.head
    have hs2 := skp_le (rst l) false
    have hrl : (rst l).length = S.length - (a + skp false l + pieceN (skipL l)) := by rw [hr]; simp
    refine ⟨by show a + skp false l < _; omega, by show _ ≤ S.length; omega, hk.1, hk.2, fun g2 g5 => ?_, hi⟩
    have ht := txOf_tok h2 (by omega) g2 g5
    show txOf t <+: S.drop (a + skp false l) ∧ a + skp false l + (txOf t).length ≤ _
    rw [ht]
    have hpl : (pce l).length = pieceN (skipL l) := by rw [pce, List.length_take]; omega
    refine ⟨?_, by omega⟩
    have : skipL l = S.drop (a + skp false l) := by rw [skipL, hl, List.drop_drop]
    rw [pce, this]
    exact List.take_prefix _ _
theorem Bad.within {l : List UInt8} {a p : Nat} {c : Int} (h : Bad l a p c) : a ≤ p ∧ p ≤ a + l.length := by
  induction h with
  | @here l a t c h1 h2 => have := skp_le l false; omega
  | @more l a p t c h1 h2 _ ih =>
    have h3 := skp_le l false
    have h4 := pieceN_le (skipL l)
    have h5 := skipL_len l
    have : (rst l).length = (skipL l).length - pieceN (skipL l) := by simp [rst]
    omega
theorem Pl.at {S : List UInt8} : ∀ {ts : List (Tk × Nat)} (_ : Pl S ts) (i : Nat) (h : i + 1 < ts.length), ts[i].2 < ts[i + 1].2 ∧ ts[i + 1].2 ≤ S.length ∧ 2 ≤ ts[i].1.1 ∧ ts[i].1.1 ≤ 7 ∧ (ts[i].1.1 ≠ 2 → ts[i].1.1 ≠ 5 → (txOf ts[i].1) <+: S.drop ts[i].2 ∧ ts[i].2 + (txOf ts[i].1).length ≤ ts[i + 1].2)
  | [], h, _, _ => h.elim
  | [t], _, i, h => by simp at h
  | t :: u :: ts, h, 0, _ => ⟨h.1, h.2.1, h.2.2.1, h.2.2.2.1, h.2.2.2.2.1⟩
  | t :: u :: ts, h, i + 1, hi => by
    have := Pl.at (ts := u :: ts) h.2.2.2.2.2 i (by simpa using hi)
    exact this
theorem Pl.last {S : List UInt8} : ∀ {ts : List (Tk × Nat)} (_ : Pl S ts), ∃ h : 0 < ts.length, ts[ts.length - 1] = ((1, 0, ⟨#[]⟩), S.length)
  | [], h => h.elim
  | [t], h => ⟨by simp, h⟩
  | t :: u :: ts, h => by
    obtain ⟨h1, h2⟩ := Pl.last (ts := u :: ts) h.2.2.2.2.2
    refine ⟨by simp, ?_⟩
    simp only [List.length_cons, Nat.add_sub_cancel] at h2 ⊢
    rw [List.getElem_cons_succ]
    exact h2
end Go.Proofs.YtmfplnodafodoaaGreatDoor
