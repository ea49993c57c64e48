/- Plain mathematics of layer 10: the scanner's labels, and what they come to. -/
import Derived.Test.YtlooelldkbdomaaGreatDoorM110
namespace Go.Proofs.YtlooelldkbdomaaGreatDoor
open Go Go.RowKit

def runC (c : Int) : Prop := c = 4 ∨ c = 5 ∨ c = 6 ∨ c = 7
/-- The two bytes at a place, or what there is of them. -/
def twoAt (s : ByteArray) (a : Nat) : List UInt8 := (s.extract a (min (a + 2) s.size)).toList
/-- From a label, with where the piece began and the place, to where it begins and ends. -/
inductive Cut (s : ByteArray) : Nat → Nat → Nat → Nat × Nat → Prop
  | stop {a e : Nat} : clsAt s e = 1 → Cut s 0 a e (e, e)
  | blank {a e : Nat} {r : Nat × Nat} : clsAt s e = 2 ∨ clsAt s e = 3 → Cut s 0 e (e + 1) r → Cut s 0 a e r
  | run {a e : Nat} {r : Nat × Nat} : runC (clsAt s e) ∨ clsAt s e = 8 → Cut s 1 e (e + 1) r → Cut s 0 a e r
  | text {a e : Nat} {r : Nat × Nat} : clsAt s e = 9 → Cut s 2 e (e + 1) r → Cut s 0 a e r
  | sign {a e : Nat} {r : Nat × Nat} : clsAt s e = 10 → Cut s 3 e (e + 1) r → Cut s 0 a e r
  | other {a e : Nat} : clsAt s e = 0 → Cut s 0 a e (e, e + 1)
  | runOn {a e : Nat} {r : Nat × Nat} : runC (clsAt s e) → Cut s 1 a (e + 1) r → Cut s 1 a e r
  | runEnd {a e : Nat} : ¬ runC (clsAt s e) → Cut s 1 a e (a, e)
  | textNone {a e : Nat} : clsAt s e = 1 → Cut s 2 a e (a, e)
  | textMark {a e : Nat} {r : Nat × Nat} : clsAt s e = 9 → Cut s 4 a (e + 1) r → Cut s 2 a e r
  | textOn {a e : Nat} {r : Nat × Nat} : clsAt s e ≠ 1 → clsAt s e ≠ 9 → Cut s 2 a (e + 1) r → Cut s 2 a e r
  | markOn {a e : Nat} {r : Nat × Nat} : clsAt s e = 9 → Cut s 2 a (e + 1) r → Cut s 4 a e r
  | markEnd {a e : Nat} : clsAt s e ≠ 9 → Cut s 4 a e (a, e)
  | remark {a e : Nat} {r : Nat × Nat} : twoAt s a = [45, 45] → Cut s 5 a e r → Cut s 3 a e r
  | two {a e : Nat} : twoAt s a = [60, 62] ∨ twoAt s a = [60, 61] ∨ twoAt s a = [62, 61] → Cut s 3 a e (a, e + 1)
  | one {a e : Nat} : twoAt s a ≠ [45, 45] → twoAt s a ≠ [60, 62] → twoAt s a ≠ [60, 61] → twoAt s a ≠ [62, 61] → Cut s 3 a e (a, e)
  | remEnd {a e : Nat} {r : Nat × Nat} : clsAt s e = 1 ∨ clsAt s e = 3 → Cut s 0 a e r → Cut s 5 a e r
  | remOn {a e : Nat} {r : Nat × Nat} : clsAt s e ≠ 1 → clsAt s e ≠ 3 → Cut s 5 a (e + 1) r → Cut s 5 a e r
theorem clsAt_some {s : ByteArray} {e : Nat} (h : clsAt s e ≠ 1) : ∃ g : e < s.size, clsAt s e = cls s[e] := by
  by_cases g : e < s.size
  · exact ⟨g, clsAt_in g⟩
  · exact absurd (clsAt_out g) h
theorem clsAt_none {s : ByteArray} {e : Nat} (h : clsAt s e = 1) : ¬ e < s.size := fun g => by rw [clsAt_in g] at h; exact cls_one _ h
theorem twoAt_bl (s : ByteArray) (a : Nat) : twoAt s a = (bl s a).take 2 := by
  rw [twoAt, ByteArray.toList_eq]
  have : (s.extract a (min (a + 2) s.size)).data.toList = (s.data.toList.take (min (a + 2) s.size)).drop a := by simp [ByteArray.data_extract, List.extract_eq_take_drop, List.drop_take]
  rw [this, bl, List.drop_take, List.take_eq_take_iff]
  simp
  omega
/-- What a label comes to. -/
def meanL (s : ByteArray) : Nat → Nat → Nat → Nat × Nat
  | 0, _, e => cutR s false e
  | 1, a, e => (a, e + runN (bl s e))
  | 2, a, e => (a, e + txtN false (bl s e))
  | 3, a, e => if twoAt s a = [45, 45] then cutR s true e else if twoAt s a = [60, 62] ∨ twoAt s a = [60, 61] ∨ twoAt s a = [62, 61] then (a, e + 1) else (a, e)
  | 4, a, e => (a, e + txtN true (bl s e))
  | _, _, e => cutR s true e
theorem cutR_next {s : ByteArray} {b b' : Bool} {e : Nat} (h : skp b (bl s e) = 1 + skp b' (bl s (e + 1))) : cutR s b e = cutR s b' (e + 1) := by
  unfold cutR
  rw [h, show e + (1 + skp b' (bl s (e + 1))) = e + 1 + skp b' (bl s (e + 1)) from by omega]
theorem skp_here {c : UInt8} {l : List UInt8} (h1 : cls c ≠ 2) (h2 : cls c ≠ 3) (h3 : c ≠ 45 ∨ l.head? ≠ some 45) : skp false (c :: l) = 0 := by
  simp only [skp]
  rw [if_neg (by rintro (g | g); · exact h1 g
                 · exact h2 g), if_neg (by rintro ⟨g1, g2⟩; rcases h3 with h | h; · exact h g1
                                           · exact h g2)]
theorem cls_minus : cls 45 = 10 := by decide
theorem Cut.mean {s : ByteArray} {l a e : Nat} {r : Nat × Nat} (h : Cut s l a e r) : r = meanL s l a e := by
  induction h with
  | @stop a e h => exact (cutR_here (by rw [bl_out (clsAt_none h)]; rfl)).trans (by rw [bl_out (clsAt_none h)]; rfl) |>.symm
  | @blank a e r h _ ih =>
    obtain ⟨g, hg⟩ := clsAt_some (s := s) (e := e) (by omega)
    rw [hg] at h
    rw [ih]
    exact (cutR_blank g h).symm
  | @run a e r h _ ih =>
    obtain ⟨g, hg⟩ := clsAt_some (s := s) (e := e) (by unfold runC at h; omega)
    rw [hg] at h
    rw [ih]
    have hr : runB s[e] ∨ cls s[e] = 8 := h
    have h0 : skp false (bl s e) = 0 := by
      rw [bl_in g]
      refine skp_here ?_ ?_ (Or.inl fun q => ?_)
      · unfold runB at hr; omega
      · unfold runB at hr; omega
      · unfold runB at hr; rw [q] at hr; exact absurd hr (by decide)
    refine Eq.trans ?_ (cutR_here h0).symm
    rw [bl_in g]
    simp only [pieceN, meanL]
    rw [if_pos hr]
    simp
    omega
  | @text a e r h _ ih =>
    obtain ⟨g, hg⟩ := clsAt_some (s := s) (e := e) (by omega)
    rw [hg] at h
    rw [ih]
    have h0 : skp false (bl s e) = 0 := by
      rw [bl_in g]
      refine skp_here (by omega) (by omega) (Or.inl fun q => ?_)
      rw [q, cls_minus] at h; omega
    refine Eq.trans ?_ (cutR_here h0).symm
    rw [bl_in g]
    simp only [pieceN, meanL]
    rw [if_neg (by unfold runB; omega), if_pos h]
    simp
    omega
  | @sign a e r h _ ih =>
    obtain ⟨g, hg⟩ := clsAt_some (s := s) (e := e) (by omega)
    rw [hg] at h
    rw [ih]
    have htw := twoAt_bl s e
    rw [bl_in g] at htw
    simp only [meanL]
    by_cases h45 : twoAt s e = [45, 45]
    · rw [if_pos h45]
      refine (cutR_next ?_).symm
      rw [htw] at h45
      rw [bl_in g]
      cases hb : bl s (e + 1) with
      | nil => rw [hb] at h45; simp at h45
      | cons d l =>
        rw [hb] at h45
        simp at h45
        simp only [skp]
        rw [if_neg (by omega), if_pos ⟨h45.1, by simp [h45.2]⟩]
    · rw [if_neg h45]
      have h0 : skp false (bl s e) = 0 := by
        rw [bl_in g]
        refine skp_here (by omega) (by omega) ?_
        by_cases q : s[e] = 45
        · refine Or.inr fun q2 => h45 ?_
          rw [htw]
          cases hb : bl s (e + 1) with
          | nil => rw [hb] at q2; simp at q2
          | cons d l =>
            rw [hb] at q2
            simp at q2
            simp [q, q2]
        · exact Or.inl q
      refine Eq.trans ?_ (cutR_here h0).symm
      rw [bl_in g]
      simp only [pieceN]
      rw [if_neg (c := runB s[e] ∨ cls s[e] = 8) (by unfold runB; omega), if_neg (c := cls s[e] = 9) (by omega), if_pos h]
      rw [htw]
      cases hb : bl s (e + 1) with
      | nil => simp [sgnN]
      | cons d l =>
        simp only [sgnN, twoS, List.take_succ_cons, List.take_zero, List.cons.injEq, and_true]
        split <;> rename_i q <;> simp [q]
  | @other a e h =>
    obtain ⟨g, hg⟩ := clsAt_some (s := s) (e := e) (by omega)
    rw [hg] at h
    have h0 : skp false (bl s e) = 0 := by
      rw [bl_in g]
      refine skp_here (by omega) (by omega) (Or.inl fun q => ?_)
      rw [q, cls_minus] at h; omega
    refine Eq.trans ?_ (cutR_here h0).symm
    rw [bl_in g]
    simp only [pieceN]
    rw [if_neg (by unfold runB; omega), if_neg (by omega), if_neg (by omega)]
  | @runOn a e r h _ ih =>
    obtain ⟨g, hg⟩ := clsAt_some (s := s) (e := e) (by unfold runC at h; omega)
    rw [hg] at h
    rw [ih]
    simp only [meanL]
    rw [bl_in g]
    simp only [runN]
    rw [if_pos (show runB s[e] from h)]
    simp
    omega
  | @runEnd a e h =>
    simp only [meanL]
    by_cases g : e < s.size
    · rw [clsAt_in g] at h
      rw [bl_in g]
      simp only [runN]
      rw [if_neg (show ¬ runB s[e] from h)]
      rfl
    · rw [bl_out g]; rfl
  | @textNone a e h =>
    simp only [meanL]
    rw [bl_out (clsAt_none h)]; rfl
  | @textMark a e r h _ ih =>
    obtain ⟨g, hg⟩ := clsAt_some (s := s) (e := e) (by omega)
    rw [hg] at h
    rw [ih]
    simp only [meanL]
    rw [bl_in g]
    simp only [txtN]
    rw [decide_eq_true ((cls_mark _).1 h)]
    simp
    omega
  | @textOn a e r h1 h2 _ ih =>
    obtain ⟨g, hg⟩ := clsAt_some (s := s) (e := e) h1
    rw [hg] at h2
    rw [ih]
    simp only [meanL]
    rw [bl_in g]
    simp only [txtN]
    rw [decide_eq_false fun q => h2 ((cls_mark _).2 q)]
    simp
    omega
  | @markOn a e r h _ ih =>
    obtain ⟨g, hg⟩ := clsAt_some (s := s) (e := e) (by omega)
    rw [hg] at h
    rw [ih]
    simp only [meanL]
    rw [bl_in g]
    simp only [txtN]
    rw [if_pos ((cls_mark _).1 h)]
    simp
    omega
  | @markEnd a e h =>
    simp only [meanL]
    by_cases g : e < s.size
    · rw [clsAt_in g] at h
      rw [bl_in g]
      simp only [txtN]
      rw [if_neg fun q => h ((cls_mark _).2 q)]
      rfl
    · rw [bl_out g]; rfl
  | @remark a e r h _ ih =>
    rw [ih]
    simp only [meanL]
    rw [if_pos h]
  | @two a e h =>
    simp only [meanL]
    rw [if_neg, if_pos h]
    intro q
    rw [q] at h
    exact absurd h (by decide)
  | @one a e h1 h2 h3 h4 =>
    simp only [meanL]
    rw [if_neg h1, if_neg (by simp [h2, h3, h4])]
  | @remEnd a e r h _ ih =>
    rw [ih]
    simp only [meanL]
    unfold cutR
    have : skp false (bl s e) = skp true (bl s e) := by
      by_cases g : e < s.size
      · rw [clsAt_in g] at h
        have h3 : cls s[e] = 3 := by have := cls_one s[e]; omega
        rw [bl_in g]
        simp only [skp]
        rw [if_pos (Or.inr h3), if_pos ((cls_line _).1 h3)]
      · rw [bl_out g]; rfl
    rw [this]
  | @remOn a e r h1 h2 _ ih =>
    obtain ⟨g, hg⟩ := clsAt_some (s := s) (e := e) h1
    rw [hg] at h2
    rw [ih]
    refine (cutR_next ?_).symm
    rw [bl_in g]
    simp only [skp]
    rw [if_neg fun q => h2 ((cls_line _).2 q)]
end Go.Proofs.YtlooelldkbdomaaGreatDoor
