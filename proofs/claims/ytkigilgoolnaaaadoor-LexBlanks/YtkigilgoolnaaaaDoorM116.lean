/- Plain mathematics of layer 10: two sources, one behind the other. -/
import Derived.Test.YtkigilgoolnaaaaDoorM115
namespace Go.Proofs.YtkigilgoolnaaaaDoor
open Go Go.RowKit

theorem skp_all : ∀ (l m : List UInt8) (b : Bool), skp b l = l.length → skp b (l ++ 10 :: m) = l.length + 1 + skp false m
  | [], m, true, _ => by simp [skp]
  | [], m, false, _ => by
    simp only [List.nil_append, skp]
    rw [if_pos (Or.inr (by decide))]
    simp
  | c :: l, m, true, h => by
    simp only [skp, List.length_cons, List.cons_append] at h ⊢
    by_cases hc : c = 10
    · rw [if_pos hc] at h ⊢
      rw [skp_all l m false (by omega)]
      omega
    · rw [if_neg hc] at h ⊢
      rw [skp_all l m true (by omega)]
      omega
  | c :: l, m, false, h => by
    simp only [skp, List.length_cons, List.cons_append] at h ⊢
    by_cases hc : cls c = 2 ∨ cls c = 3
    · rw [if_pos hc] at h ⊢
      rw [skp_all l m false (by omega)]
      omega
    · rw [if_neg hc] at h ⊢
      by_cases hd : c = 45 ∧ l.head? = some 45
      · rw [if_pos hd] at h
        have hne : (l ++ 10 :: m).head? = some 45 := by
          cases l with
          | nil => simp at hd
          | cons d l => simpa using hd.2
        rw [if_pos ⟨hd.1, hne⟩, skp_all l m true (by omega)]
        omega
      · rw [if_neg hd] at h
        omega
/-- Where a gap ends ahead of something, what stands there does not matter for it. -/
theorem skp_split : ∀ (g r : List UInt8) (b : Bool), r ≠ [] → skp b (g ++ r) = g.length → (b = true → g ≠ []) ∧ ∀ y, skp b (g ++ y) = g.length + skp false y
  | [], c :: r, true, _, h => by
    simp only [List.nil_append, skp, List.length_nil] at h
    split at h <;> omega
  | [], r, false, _, _ => ⟨fun h => by simp at h, fun y => by simp⟩
  | [], [], true, hr, _ => absurd rfl hr
  | c :: g, r, true, hr, h => by
    refine ⟨fun _ => by simp, fun y => ?_⟩
    simp only [skp, List.length_cons, List.cons_append] at h ⊢
    by_cases hc : c = 10
    · rw [if_pos hc] at h ⊢
      rw [(skp_split g r false hr (by omega)).2 y]
      omega
    · rw [if_neg hc] at h ⊢
      rw [(skp_split g r true hr (by omega)).2 y]
      omega
  | c :: g, r, false, hr, h => by
    refine ⟨fun h => by simp at h, fun y => ?_⟩
    simp only [skp, List.length_cons, List.cons_append] at h ⊢
    by_cases hc : cls c = 2 ∨ cls c = 3
    · rw [if_pos hc] at h ⊢
      rw [(skp_split g r false hr (by omega)).2 y]
      omega
    · rw [if_neg hc] at h ⊢
      by_cases hd : c = 45 ∧ (g ++ r).head? = some 45
      · rw [if_pos hd] at h
        obtain ⟨i1, i2⟩ := skp_split g r true hr (by omega)
        have hg := i1 rfl
        have hne : (g ++ y).head? = some 45 := by
          cases g with
          | nil => exact absurd rfl hg
          | cons d g => simpa using hd.2
        rw [if_pos ⟨hd.1, hne⟩, i2 y]
        omega
      · rw [if_neg hd] at h
        omega
theorem skp_zero {c d : UInt8} {r m : List UInt8} (h : skp false (c :: r) = 0) (hd : r = [] → d ≠ 45) : skp false ((c :: r) ++ d :: m) = 0 := by
  simp only [skp, List.cons_append] at h ⊢
  by_cases hc : cls c = 2 ∨ cls c = 3
  · rw [if_pos hc] at h; omega
  · rw [if_neg hc] at h ⊢
    by_cases hq : c = 45 ∧ r.head? = some 45
    · rw [if_pos hq] at h; omega
    · rw [if_neg]
      rintro ⟨h1, h2⟩
      cases r with
      | nil => simp at h2; exact hd rfl h2
      | cons e r => exact hq ⟨h1, by simpa using h2⟩
theorem gap_split (l : List UInt8) : l = l.take (skp false l) ++ skipL l := (List.take_append_drop _ _).symm
theorem gap_len (l : List UInt8) : (l.take (skp false l)).length = skp false l := by
  have := skp_le l false
  rw [List.length_take]
  omega
theorem skip_zero {l : List UInt8} (h : skipL l ≠ []) : (∀ y, skp false (l.take (skp false l) ++ y) = skp false l + skp false y) ∧ skp false (skipL l) = 0 := by
  have hs := skp_split (l.take (skp false l)) (skipL l) false h (by rw [← gap_split, gap_len])
  have h2 : ∀ y, skp false (l.take (skp false l) ++ y) = skp false l + skp false y := fun y => by rw [hs.2 y, gap_len]
  refine ⟨h2, ?_⟩
  have := h2 (skipL l)
  rw [← gap_split] at this
  omega
/-- A source that goes on behind something: with a line's end and more. -/
theorem skip_on {l : List UInt8} (m : List UInt8) (h : skipL l ≠ []) : skp false (l ++ 10 :: m) = skp false l ∧ skipL (l ++ 10 :: m) = skipL l ++ 10 :: m := by
  obtain ⟨h1, h2⟩ := skip_zero h
  have hk : skp false (l ++ 10 :: m) = skp false l := by
    have e : l ++ 10 :: m = l.take (skp false l) ++ (skipL l ++ 10 :: m) := by rw [← List.append_assoc, ← gap_split]
    rw [e, h1]
    cases hs : skipL l with
    | nil => exact absurd hs h
    | cons c r =>
      rw [hs] at h2
      rw [skp_zero h2 (fun _ => by decide)]
      rfl
  refine ⟨hk, ?_⟩
  rw [skipL, hk, skipL, List.drop_append_of_le_length (skp_le l false)]
theorem skip_over {l : List UInt8} (m : List UInt8) (h : skipL l = []) : skp false (l ++ 10 :: m) = l.length + 1 + skp false m ∧ skipL (l ++ 10 :: m) = skipL m := by
  have h0 := skp_le l false
  have h1 := skipL_len l
  rw [h] at h1
  simp at h1
  have hk := skp_all l m false (by omega)
  refine ⟨hk, ?_⟩
  rw [skipL, hk, skipL]
  rw [show l.length + 1 + skp false m = l.length + (1 + skp false m) from by omega, ← List.drop_drop, List.drop_left, Nat.add_comm 1, List.drop_succ_cons]
theorem txtN_over : ∀ (l : List UInt8) (b : Bool) (d : UInt8) (m : List UInt8), txtC b l = false → l.length + 1 ≤ txtN b (l ++ d :: m)
  | [], b, d, m, h => by
    have hb : b = false := h
    subst hb
    simp only [List.nil_append, txtN, List.length_nil]
    omega
  | c :: l, false, d, m, h => by
    simp only [txtC] at h
    have := txtN_over l _ d m h
    simp only [List.cons_append, txtN, List.length_cons]
    omega
  | c :: l, true, d, m, h => by
    simp only [txtC] at h
    split at h
    · rename_i hc
      have := txtN_over l _ d m h
      simp only [List.cons_append, txtN, List.length_cons]
      rw [if_pos hc]
      omega
    · exact absurd h (by simp)
/-- What is told of the piece in front stays, whatever stands behind a line's end. -/
theorem pce_on {l : List UInt8} (m : List UInt8) (h : skipL l ≠ []) : (tokR (pce l)).2 ≠ 0 → (tokR (pce (l ++ 10 :: m))).2 = (tokR (pce l)).2 := by
  intro hz
  have hs := (skip_on m h).2
  cases hl : skipL l with
  | nil => exact absurd hl h
  | cons c q =>
    by_cases ho : c = 39 ∧ txtC false q = false
    · obtain ⟨rfl, ho⟩ := ho
      have h1 : pce l = 39 :: q := by
        rw [pce, hl]
        simp only [pieceN]
        rw [if_neg (by decide), if_pos (by decide), txtN_open q _ ho]
        exact List.take_of_length_le (by simp; omega)
      have h2 : ∃ r, pce (l ++ 10 :: m) = 39 :: r ∧ (10 : UInt8) ∈ r := by
        have hn := txtN_over q false 10 m ho
        rw [pce, hs, hl]
        simp only [List.cons_append, pieceN]
        rw [if_neg (by decide), if_pos (by decide), Nat.add_comm, List.take_succ_cons]
        refine ⟨_, rfl, ?_⟩
        obtain ⟨k, hk⟩ : ∃ k, txtN false (q ++ 10 :: m) = q.length + (k + 1) := ⟨txtN false (q ++ 10 :: m) - q.length - 1, by omega⟩
        rw [hk, List.take_length_add_append, List.take_succ_cons]
        simp
      obtain ⟨r, h2, h3⟩ := h2
      rw [h1, h2, tok_no (lit_open ho), tok_no (lit_line h3)]
    · have ht : c = 39 → txtC false q = true := fun e => by
        cases hq : txtC false q with
        | true => rfl
        | false => exact absurd ⟨e, hq⟩ ho
      have : pce (l ++ 10 :: m) = pce l := by
        rw [pce, hs, pce, hl, pieceN_gap (Or.inr (Or.inr rfl)) ht, List.take_append_of_le_length]
        exact pieceN_le _
      rw [this]
theorem tok_closed {c : UInt8} {q : List UInt8} {t : Tk} (h : tokR ((c :: q).take (pieceN (c :: q))) = (t, 0)) : c = 39 → txtC false q = true := by
  rintro rfl
  cases ho : txtC false q with
  | true => rfl
  | false =>
    have h1 : (39 :: q).take (pieceN (39 :: q)) = 39 :: q := by
      simp only [pieceN]
      rw [if_neg (by decide), if_pos (by decide), txtN_open q _ ho]
      exact List.take_of_length_le (by simp; omega)
    rw [h1, tok_no (lit_open ho)] at h
    exact absurd (Prod.mk.inj h).2 (by decide)
theorem piece_on {l : List UInt8} {t : Tk} (m : List UInt8) (h : skipL l ≠ []) (ht : tokR (pce l) = (t, 0)) : pieceN (skipL (l ++ 10 :: m)) = pieceN (skipL l) ∧ pce (l ++ 10 :: m) = pce l ∧ rst (l ++ 10 :: m) = rst l ++ 10 :: m := by
  have hs := (skip_on m h).2
  cases hl : skipL l with
  | nil => exact absurd hl h
  | cons c q =>
    have hp : pieceN (skipL (l ++ 10 :: m)) = pieceN (skipL l) := by
      rw [hs, hl]
      exact pieceN_gap (Or.inr (Or.inr rfl)) (tok_closed (by rw [pce, hl] at ht; exact ht))
    refine ⟨by rw [hp, hl], ?_, ?_⟩
    · rw [pce, hp, hs, pce, List.take_append_of_le_length (pieceN_le _)]
    · rw [rst, hp, hs, rst, List.drop_append_of_le_length (pieceN_le _)]
theorem Bad.join {l : List UInt8} {a p : Nat} {c : Int} (h : Bad l a p c) (m : List UInt8) : Bad (l ++ 10 :: m) a p c := by
  induction h with
  | @here l a t c h1 h2 =>
    have hne : skipL l ≠ [] := fun g => by
      rw [pce_nil g] at h1
      exact h2 (Prod.mk.inj h1).2.symm
    have hk := (skip_on m hne).1
    have hp := pce_on m hne (by rw [h1]; exact h2)
    rw [h1] at hp
    simp only at hp
    have := Bad.here (l := l ++ 10 :: m) (a := a) (t := (tokR (pce (l ++ 10 :: m))).1) (c := c) (by rw [← hp]) h2
    rw [hk] at this
    exact this
  | @more l a p t c h1 h2 h3 ih =>
    obtain ⟨e1, e2, e3⟩ := piece_on m h1 h2
    have hk := skip_on m h1
    refine Bad.more (t := t) ?_ (by rw [e2]; exact h2) ?_
    · rw [hk.2]
      simp
    · rw [e3, hk.1, e1]
      exact ih
theorem Toks.join_bad {l m : List UInt8} {a p : Nat} {c : Int} {ts : List (Tk × Nat)} (h : Toks l a ts) (g : Bad m (a + l.length + 1) p c) : Bad (l ++ 10 :: m) a p c := by
  induction h with
  | @fin l a h =>
    obtain ⟨e1, e2⟩ := skip_over m h
    have hp : pce (l ++ 10 :: m) = pce m := by rw [pce, e2, pce]
    have hr : rst (l ++ 10 :: m) = rst m := by rw [rst, e2, rst]
    have ha : a + skp false (l ++ 10 :: m) = a + l.length + 1 + skp false m := by omega
    cases g with
    | here g1 g2 =>
      have := Bad.here (l := l ++ 10 :: m) (a := a) (by rw [hp]; exact g1) g2
      rw [ha] at this
      exact this
    | more g1 g2 g3 => exact Bad.more (by rw [e2]; exact g1) (by rw [hp]; exact g2) (by rw [hr, ha, e2]; exact g3)
  | @more l a t ts h1 h2 h3 ih =>
    obtain ⟨e1, e2, e3⟩ := piece_on m h1 h2
    have hk := skip_on m h1
    have h4 := skp_le l false
    have h5 := pieceN_le (skipL l)
    have h6 := skipL_len l
    have hrl : (rst l).length = (skipL l).length - pieceN (skipL l) := by simp [rst]
    refine Bad.more (t := t) (by rw [hk.2]; simp) (by rw [e2]; exact h2) ?_
    rw [e3, hk.1, e1]
    refine ih ?_
    rw [show a + skp false l + pieceN (skipL l) + (rst l).length + 1 = a + l.length + 1 from by omega]
    exact g
theorem Toks.join {l m : List UInt8} {a : Nat} {ts us : List (Tk × Nat)} (h : Toks l a ts) (g : Toks m (a + l.length + 1) us) : Toks (l ++ 10 :: m) a (ts.dropLast ++ us) := by
  induction h with
  | @fin l a h =>
    obtain ⟨e1, e2⟩ := skip_over m h
    have hp : pce (l ++ 10 :: m) = pce m := by rw [pce, e2, pce]
    have hr : rst (l ++ 10 :: m) = rst m := by rw [rst, e2, rst]
    have ha : a + skp false (l ++ 10 :: m) = a + l.length + 1 + skp false m := by omega
    cases g with
    | fin g1 =>
      have := Toks.fin (l := l ++ 10 :: m) (a := a) (by rw [e2]; exact g1)
      rw [ha] at this
      exact this
    | more g1 g2 g3 =>
      have := Toks.more (l := l ++ 10 :: m) (a := a) (by rw [e2]; exact g1) (by rw [hp]; exact g2) (by rw [hr, ha, e2]; exact g3)
      rw [ha] at this
      exact this
  | @more l a t ts h1 h2 h3 ih =>
    obtain ⟨e1, e2, e3⟩ := piece_on m h1 h2
    have hk := skip_on m h1
    have h4 := skp_le l false
    have h5 := pieceN_le (skipL l)
    have h6 := skipL_len l
    have hrl : (rst l).length = (skipL l).length - pieceN (skipL l) := by simp [rst]
    have hih := ih (by rw [show a + skp false l + pieceN (skipL l) + (rst l).length + 1 = a + l.length + 1 from by omega]; exact g)
    have := Toks.more (l := l ++ 10 :: m) (a := a) (t := t) (by rw [hk.2]; simp) (by rw [e2]; exact h2) (by rw [e3, hk.1, e1]; exact hih)
    rw [hk.1] at this
    obtain ⟨u, v, rfl⟩ := h3.head
    exact this
theorem Toks.shift {l : List UInt8} {a : Nat} {ts : List (Tk × Nat)} (h : Toks l a ts) (k : Nat) : Toks l (a + k) (ts.map fun t => (t.1, t.2 + k)) := by
  induction h with
  | @fin l a h =>
    have := Toks.fin (a := a + k) h
    rw [show a + k + skp false l = a + skp false l + k from by omega] at this
    exact this
  | @more l a t ts h1 h2 h3 ih =>
    have := Toks.more (a := a + k) h1 h2 (by rw [show a + k + skp false l + pieceN (skipL l) = a + skp false l + pieceN (skipL l) + k from by omega]; exact ih)
    rw [show a + k + skp false l = a + skp false l + k from by omega] at this
    exact this
theorem Bad.shift {l : List UInt8} {a p : Nat} {c : Int} (h : Bad l a p c) (k : Nat) : Bad l (a + k) (p + k) c := by
  induction h with
  | @here l a t c h1 h2 =>
    have := Bad.here (a := a + k) h1 h2
    rw [show a + k + skp false l = a + skp false l + k from by omega] at this
    exact this
  | @more l a p t c h1 h2 h3 ih =>
    exact Bad.more h1 h2 (by rw [show a + k + skp false l + pieceN (skipL l) = a + skp false l + pieceN (skipL l) + k from by omega]; exact ih)
end Go.Proofs.YtkigilgoolnaaaaDoor
