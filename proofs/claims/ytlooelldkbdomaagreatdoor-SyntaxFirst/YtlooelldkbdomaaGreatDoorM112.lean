/- Plain mathematics of layer 10: tokens, and how a source is cut into them. -/
import Derived.Test.YtlooelldkbdomaaGreatDoorM111
import Derived.Test.YtlooelldkbdomaaGreatDoorM26
namespace Go.Proofs.YtlooelldkbdomaaGreatDoor
open Go Go.RowKit

/-- A token but for its place: kind, number, text. -/
abbrev Tk := Int × Int × ByteArray
def tk0 : Tk := (0, 0, ⟨#[]⟩)
/-- A list's bytes as a text. -/
def ofL (l : List UInt8) : ByteArray := ⟨l.toArray⟩
theorem ofL_list (s : ByteArray) : ofL s.data.toList = s := by
  cases s
  simp [ofL]
theorem list_ofL (l : List UInt8) : (ofL l).data.toList = l := by simp [ofL]
/-- The token that a piece is, and what is wrong with it. -/
noncomputable def tokR : List UInt8 → Tk × Int
  | [] => ((1, 0, ⟨#[]⟩), 0)
  | c :: l =>
    if cls c = 4 then (if (parR (c :: l)).2 = 0 then ((2, (parR (c :: l)).1.2.1, ⟨#[]⟩), 0) else (tk0, 101))
    else if cls c = 5 ∨ cls c = 6 ∨ cls c = 7 then (if isWord (ofL (c :: l)) = true then ((4, 0, ofL (c :: l)), 0) else if isName (ofL (c :: l)) = true then ((3, 0, ofL (c :: l)), 0) else (tk0, 102))
    else if cls c = 8 then (if isName (ofL l) = true then ((6, 0, ofL l), 0) else (tk0, 102))
    else if cls c = 9 then (if (parR (c :: l)).2 = 0 then ((5, 0, (parR (c :: l)).1.2.2), 0) else (tk0, 103))
    else if cls c = 10 then ((7, 0, ofL (c :: l)), 0) else (tk0, 100)
theorem tokR_kind (c : UInt8) (l : List UInt8) (h : (tokR (c :: l)).2 = 0) : 2 ≤ (tokR (c :: l)).1.1 ∧ (tokR (c :: l)).1.1 ≤ 7 := by
  simp only [tokR] at h ⊢
  repeat' split at h
  all_goals first | (exfalso; revert h; simp; done) | skip
  all_goals (repeat (first | rw [if_pos (by assumption)] | rw [if_neg (by assumption)]))
  all_goals simp

/-- What is left behind blanks and remarks. -/
def skipL (l : List UInt8) : List UInt8 := l.drop (skp false l)
/-- The piece in front. -/
def pce (l : List UInt8) : List UInt8 := (skipL l).take (pieceN (skipL l))
/-- What is left behind it. -/
def rst (l : List UInt8) : List UInt8 := (skipL l).drop (pieceN (skipL l))
/-- A source's tokens from a place on, with their places. -/
inductive Toks : List UInt8 → Nat → List (Tk × Nat) → Prop
  | fin {l : List UInt8} {a : Nat} : skipL l = [] → Toks l a [((1, 0, ⟨#[]⟩), a + skp false l)]
  | more {l : List UInt8} {a : Nat} {t : Tk} {ts : List (Tk × Nat)} : skipL l ≠ [] → tokR (pce l) = (t, 0) → Toks (rst l) (a + skp false l + pieceN (skipL l)) ts → Toks l a ((t, a + skp false l) :: ts)
/-- What is wrong with a source, and where. -/
inductive Bad : List UInt8 → Nat → Nat → Int → Prop
  | here {l : List UInt8} {a : Nat} {t : Tk} {c : Int} : tokR (pce l) = (t, c) → c ≠ 0 → Bad l a (a + skp false l) c
  | more {l : List UInt8} {a p : Nat} {t : Tk} {c : Int} : skipL l ≠ [] → tokR (pce l) = (t, 0) → Bad (rst l) (a + skp false l + pieceN (skipL l)) p c → Bad l a p c
theorem pce_nil {l : List UInt8} (h : skipL l = []) : pce l = [] := by rw [pce, h]; rfl
theorem pce_cons {l : List UInt8} (h : skipL l ≠ []) : ∃ c q, skipL l = c :: q ∧ pce l = c :: q.take (pieceN (c :: q) - 1) := by
  cases hl : skipL l with
  | nil => exact absurd hl h
  | cons c q =>
    refine ⟨c, q, rfl, ?_⟩
    have := pieceN_pos c q
    rw [pce, hl]
    obtain ⟨n, hn⟩ : ∃ n, pieceN (c :: q) = n + 1 := ⟨pieceN (c :: q) - 1, by omega⟩
    rw [hn]
    rfl
theorem Bad.ne {l : List UInt8} {a p : Nat} {c : Int} (h : Bad l a p c) : c ≠ 0 := by
  induction h with
  | here _ h => exact h
  | more _ _ _ ih => exact ih
theorem Toks.one {l : List UInt8} {a : Nat} {ts us : List (Tk × Nat)} (h : Toks l a ts) (g : Toks l a us) : ts = us := by
  induction h generalizing us with
  | fin h =>
    cases g with
    | fin => rfl
    | more g => exact absurd h g
  | more h1 h2 _ ih =>
    cases g with
    | fin g => exact absurd g h1
    | more g1 g2 g3 =>
      rw [h2] at g2
      rw [ih g3, (Prod.mk.inj g2).1]
theorem Toks.good {l : List UInt8} {a p : Nat} {c : Int} {ts : List (Tk × Nat)} (h : Toks l a ts) (g : Bad l a p c) : False := by
  induction h with
  | fin h =>
    cases g with
    | here g1 g2 => rw [pce_nil h] at g1; exact g2 (by have := (Prod.mk.inj g1).2; exact this.symm)
    | more g1 => exact g1 h
  | more h1 h2 _ ih =>
    cases g with
    | here g1 g2 => rw [h2] at g1; exact g2 (Prod.mk.inj g1).2.symm
    | more _ _ g3 => exact ih g3
theorem Bad.one {l : List UInt8} {a p q : Nat} {c d : Int} (h : Bad l a p c) (g : Bad l a q d) : p = q ∧ c = d := by
  induction h with
  | here h1 h2 =>
    cases g with
    | here g1 g2 => rw [h1] at g1; exact ⟨rfl, (Prod.mk.inj g1).2⟩
    | more g1 g2 g3 => rw [h1] at g2; exact absurd (Prod.mk.inj g2).2 h2
  | more h1 h2 _ ih =>
    cases g with
    | here g1 g2 => rw [h2] at g1; exact absurd (Prod.mk.inj g1).2.symm g2
    | more g1 g2 g3 => exact ih g3
/-- What Scan tells: tokens, a place, an error. -/
def ScanIs (s : ByteArray) (l : List (Tk × Nat)) (p : Nat) (c : Int) : Prop :=
  (1000 < s.size ∧ l = [] ∧ p = 0 ∧ c = 2) ∨ (s.size ≤ 1000 ∧ ((c = 0 ∧ p = 0 ∧ Toks s.data.toList 0 l) ∨ (l = [] ∧ Bad s.data.toList 0 p c)))
theorem ScanIs.one {s : ByteArray} {l m : List (Tk × Nat)} {p q : Nat} {c d : Int} (h : ScanIs s l p c) (g : ScanIs s m q d) : l = m ∧ p = q ∧ c = d := by
  rcases h with ⟨h0, rfl, rfl, rfl⟩ | ⟨h0, ⟨rfl, rfl, h⟩ | ⟨rfl, h⟩⟩ <;> rcases g with ⟨g0, rfl, rfl, rfl⟩ | ⟨g0, ⟨rfl, rfl, g⟩ | ⟨rfl, g⟩⟩
  · exact ⟨rfl, rfl, rfl⟩
  · omega
  · omega
  · omega
  · exact ⟨h.one g, rfl, rfl⟩
  · exact (h.good g).elim
  · omega
  · exact (g.good h).elim
  · exact ⟨rfl, h.one g⟩
/-- The tokens ahead, and what follows from a place on. -/
theorem cut_skip (s : ByteArray) (e : Nat) : cutR s false e = (e + skp false (bl s e), e + skp false (bl s e) + pieceN (skipL (bl s e))) := by
  unfold cutR skipL
  rw [bl_drop]
theorem extract_bl (s : ByteArray) (a n : Nat) : (s.extract a (a + n)).data.toList = (bl s a).take n := by
  rw [ByteArray.data_extract]
  simp [bl, List.extract_eq_take_drop]
theorem piece_at (s : ByteArray) (e : Nat) : (s.extract (cutR s false e).1 (cutR s false e).2).data.toList = pce (bl s e) := by
  rw [cut_skip]
  simp only
  rw [extract_bl, pce]
  congr 1
  rw [skipL, bl_drop]
theorem rest_at (s : ByteArray) (e : Nat) : rst (bl s e) = bl s (cutR s false e).2 := by
  rw [cut_skip, rst, skipL, bl_drop, bl_drop]

/-- The cells of tokens. -/
def tc : List (Tk × Nat) → List Value
  | [] => []
  | t :: l => .int .i64 t.1.1 :: .int .i64 t.1.2.1 :: .string t.1.2.2 :: .int .i64 (t.2 : Int) :: tc l
theorem tc_length : ∀ l : List (Tk × Nat), (tc l).length = l.length * 4
  | [] => rfl
  | t :: l => by simp only [tc, List.length_cons, tc_length l]; omega
theorem tc_append : ∀ l m : List (Tk × Nat), tc (l ++ m) = tc l ++ tc m
  | [], _ => rfl
  | t :: l, m => by simp only [tc, List.cons_append, tc_append l m]
theorem tc_one : ∀ (l : List (Tk × Nat)), ∀ u ∈ tc l, u.oneCell' = true
  | [], u, h => by simp [tc] at h
  | t :: l, u, h => by
    simp only [tc, List.mem_cons] at h
    rcases h with rfl | rfl | rfl | rfl | h
    · rfl
    · rfl
    · rfl
    · rfl
    · exact tc_one l u h
theorem tc_at : ∀ (l : List (Tk × Nat)) (i : Nat) (h : i < l.length), (tc l)[i * 4]? = some (.int .i64 l[i].1.1) ∧ (tc l)[i * 4 + 1]? = some (.int .i64 l[i].1.2.1) ∧ (tc l)[i * 4 + 2]? = some (.string l[i].1.2.2) ∧ (tc l)[i * 4 + 3]? = some (.int .i64 (l[i].2 : Int))
  | t :: l, 0, _ => ⟨rfl, rfl, rfl, rfl⟩
  | t :: l, i + 1, h => by
    have := tc_at l i (by simpa using h)
    rw [show (i + 1) * 4 = i * 4 + 1 + 1 + 1 + 1 from by omega]
    simpa [tc] using this
end Go.Proofs.YtlooelldkbdomaaGreatDoor
