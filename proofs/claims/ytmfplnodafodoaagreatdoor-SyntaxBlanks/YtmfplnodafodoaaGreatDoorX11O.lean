/- Plain mathematics of layer 10: literals of texts, and two sources one behind the other. -/
import Derived.Test.YtmfplnodafodoaaGreatDoorX11A
namespace Go.Proofs.YtmfplnodafodoaaGreatDoor
open Go Go.RowKit

/-- Does a text end (true: behind a mark)? -/
def txtC : Bool → List UInt8 → Bool
  | b, [] => b
  | false, c :: l => txtC (decide (c = 39)) l
  | true, c :: l => if c = 39 then txtC false l else true
theorem txtN_open : ∀ (l : List UInt8) (b : Bool), txtC b l = false → txtN b l = l.length
  | [], b, _ => by cases b <;> rfl
  | c :: l, false, h => by
    simp only [txtC] at h
    simp only [txtN, List.length_cons, txtN_open l _ h]
    omega
  | c :: l, true, h => by
    simp only [txtC] at h
    simp only [txtN]
    split at h
    · rename_i hc
      rw [if_pos hc, txtN_open l _ h, List.length_cons]
      omega
    · exact absurd h (by simp)
theorem txtN_closed : ∀ (l m : List UInt8) (b : Bool), txtC b l = true → m.head? ≠ some 39 → txtN b (l ++ m) = txtN b l
  | [], m, b, h, hm => by
    have hb : b = true := h
    subst hb
    cases m with
    | nil => rfl
    | cons d m =>
      simp only [List.nil_append, txtN]
      rw [if_neg (by simpa using hm)]
  | c :: l, m, false, h, hm => by
    simp only [txtC] at h
    simp only [List.cons_append, txtN, txtN_closed l m _ h hm]
  | c :: l, m, true, h, hm => by
    simp only [txtC] at h
    simp only [List.cons_append, txtN]
    split at h
    · rename_i hc
      rw [if_pos hc, if_pos hc, txtN_closed l m _ h hm]
    · rename_i hc
      rw [if_neg hc, if_neg hc]
theorem hexd_mark (i : Nat) (h : i < 16) : hexd i ≠ 39 := by
  have : ∀ i : Fin 16, hexd i.val ≠ 39 := by decide +kernel
  exact this ⟨i, h⟩
theorem txt_qbs : ∀ (x r : List UInt8), txtN false (qbs x ++ 39 :: r) = (qbs x).length + 1 + txtN true r ∧ txtC false (qbs x ++ 39 :: r) = txtC true r
  | [], r => by
    constructor
    · show 1 + txtN (decide ((39 : UInt8) = 39)) r = 0 + 1 + txtN true r
      rw [show decide ((39 : UInt8) = 39) = true from rfl]
    · rfl
  | c :: x, r => by
    obtain ⟨h1, h2⟩ := txt_qbs x r
    have hc := UInt8.toNat_lt c
    rw [qbs_cons, List.append_assoc]
    by_cases c1 : c.toNat = 39
    · rw [qb_mark c1]
      simp only [List.cons_append, List.nil_append, txtN, txtC, decide_true, if_true, List.length_cons]
      exact ⟨by omega, h2⟩
    · by_cases c2 : c.toNat = 92 ∨ c.toNat < 32 ∨ 126 < c.toNat
      · rw [qb_hex c1 c2]
        have e0 : decide ((92 : UInt8) = 39) = false := by decide
        have e1 : decide (hexd (c.toNat / 16) = 39) = false := decide_eq_false (hexd_mark _ (by omega))
        have e2 : decide (hexd (c.toNat % 16) = 39) = false := decide_eq_false (hexd_mark _ (by omega))
        simp only [List.cons_append, List.nil_append, txtN, txtC, e0, e1, e2, List.length_cons]
        exact ⟨by omega, h2⟩
      · rw [qb_plain c1 c2]
        have e0 : decide (c = 39) = false := decide_eq_false fun q => c1 (by rw [q]; rfl)
        simp only [List.cons_append, List.nil_append, txtN, txtC, e0, List.length_cons]
        exact ⟨by omega, h2⟩
theorem qb_high (c d : UInt8) (h : d ∈ qb c) : 32 ≤ d.toNat := by
  have hc := UInt8.toNat_lt c
  by_cases c1 : c.toNat = 39
  · rw [qb_mark c1] at h
    simp at h
    rw [h]; decide
  · by_cases c2 : c.toNat = 92 ∨ c.toNat < 32 ∨ 126 < c.toNat
    · rw [qb_hex c1 c2] at h
      simp only [List.mem_cons, List.not_mem_nil, or_false] at h
      rcases h with rfl | rfl | rfl
      · decide
      · have := (hexd_at_list _ (by omega : c.toNat / 16 < 16)).1; omega
      · have := (hexd_at_list _ (by omega : c.toNat % 16 < 16)).1; omega
    · rw [qb_plain c1 c2] at h
      simp at h
      rw [h]
      omega
theorem qbs_high (x : List UInt8) (d : UInt8) (h : d ∈ qbs x) : 32 ≤ d.toNat := by
  unfold qbs at h
  rw [List.mem_flatMap] at h
  obtain ⟨c, _, h⟩ := h
  exact qb_high c d h
/-- A literal that begins with a mark. -/
theorem lit_mark {l : List UInt8} {v : V3} (h : LitOf (39 :: l) v) : v.1 = 3 ∧ l = qbs v.2.2.data.toList ++ [39] := by
  obtain ⟨hr, he⟩ := h
  rcases rt_kind hr with k | k | k | k
  · rw [lit_null k] at he; exact absurd he (by simp)
  · rw [lit_int k] at he
    obtain ⟨c, q, e, g⟩ := itoa_head v.2.1
    rw [e] at he
    rw [(List.cons.inj he).1] at g
    exact absurd g (by decide)
  · rcases (right_bool hr k).1 with g | g
    · rw [lit_false k g] at he; exact absurd he (by simp)
    · rw [lit_true k g] at he; exact absurd he (by simp)
  · rw [lit_text k, quo] at he
    exact ⟨k, (List.cons.inj he).2.symm⟩
theorem lit_line {l : List UInt8} (hl : (10 : UInt8) ∈ l) : ∀ v, ¬ LitOf (39 :: l) v := by
  intro v h
  rw [(lit_mark h).2] at hl
  rcases List.mem_append.1 hl with h | h
  · exact absurd (qbs_high _ _ h) (by decide)
  · exact absurd h (by decide)
theorem lit_open {l : List UInt8} (hl : txtC false l = false) : ∀ v, ¬ LitOf (39 :: l) v := by
  intro v h
  rw [(lit_mark h).2, (txt_qbs _ []).2] at hl
  exact absurd hl (by decide)
theorem tok_no {l : List UInt8} (h : ∀ v, ¬ LitOf (39 :: l) v) : tokR (39 :: l) = (tk0, 103) := by
  rw [tokR_mark (by decide), parR_no h]
  rfl

/-! ### what stands behind does not matter -/
theorem run_line : ¬ runB 10 := by decide
theorem runN_end : ∀ (l m : List UInt8), (∀ c ∈ m.head?, ¬ runB c) → runN (l ++ m) = runN l
  | [], m, h => by
    cases m with
    | nil => rfl
    | cons d m =>
      simp only [List.nil_append, runN]
      rw [if_neg (h d (by simp))]
  | c :: l, m, h => by
    simp only [List.cons_append, runN, runN_end l m h]
/-- A byte behind which a piece ends: a blank or a line's end. -/
def gapB (c : UInt8) : Prop := c = 32 ∨ c = 9 ∨ c = 10
theorem gap_run {c : UInt8} (h : gapB c) : ¬ runB c := by rcases h with rfl | rfl | rfl <;> decide
/-- Of a piece that is whole, or no text that is open, what stands behind it makes no difference. -/
theorem pieceN_gap {c : UInt8} {l : List UInt8} {d : UInt8} {m : List UInt8} (hd : gapB d) (ht : c = 39 → txtC false l = true) : pieceN ((c :: l) ++ d :: m) = pieceN (c :: l) := by
  have hm : (d :: m).head? ≠ some 39 := by rcases hd with rfl | rfl | rfl <;> simp
  simp only [List.cons_append, pieceN]
  rw [runN_end l (d :: m) (fun x hx => by simp at hx; rw [← hx]; exact gap_run hd)]
  by_cases h1 : runB c ∨ cls c = 8
  · rw [if_pos h1, if_pos h1]
  · rw [if_neg h1, if_neg h1]
    by_cases h2 : cls c = 9
    · rw [if_pos h2, if_pos h2, txtN_closed l (d :: m) false (ht ((cls_mark c).1 h2)) hm]
    · rw [if_neg h2, if_neg h2]
      by_cases h3 : cls c = 10
      · rw [if_pos h3, if_pos h3]
        cases l with
        | nil =>
          simp only [List.nil_append, sgnN]
          rw [if_neg]
          unfold twoS
          rcases hd with rfl | rfl | rfl <;> simp
        | cons e l => rfl
      · rw [if_neg h3, if_neg h3]
end Go.Proofs.YtmfplnodafodoaaGreatDoor
/- Plain mathematics of layer 10: two sources, one behind the other. -/
namespace Go.Proofs.YtmfplnodafodoaaGreatDoor
open Go Go.RowKit

theorem skp_all : ∀ (l m : List UInt8) (b : Bool), skp b l = l.length → skp b (l ++ 10 :: m) = l.length + 1 + skp false m
  | [], m, true, _ => by simp [skp]
  | [], m, false, _ => by
    simp only [List.nil_append, skp]
    rw [if_pos (Or.inr (by decide))]
    simp
  | c :: l, m, true, h => by
    simp only [skp, List.length_cons, List.cons_append] at h ⊢
    by_cases hc : c = 10
    · rw [if_pos hc] at h ⊢
      rw [skp_all l m false (by omega)]
      omega
    · rw [if_neg hc] at h ⊢
      rw [skp_all l m true (by omega)]
      omega
  | c :: l, m, false, h => by
    simp only [skp, List.length_cons, List.cons_append] at h ⊢
    by_cases hc : cls c = 2 ∨ cls c = 3
    · rw [if_pos hc] at h ⊢
      rw [skp_all l m false (by omega)]
      omega
    · rw [if_neg hc] at h ⊢
      by_cases hd : c = 45 ∧ l.head? = some 45
      · rw [if_pos hd] at h
        have hne : (l ++ 10 :: m).head? = some 45 := by
          cases l with
          | nil => simp at hd
          | cons d l => simpa using hd.2
        rw [if_pos ⟨hd.1, hne⟩, skp_all l m true (by omega)]
        omega
      · rw [if_neg hd] at h
        omega
/-- Where a gap ends ahead of something, what stands there does not matter for it. -/
theorem skp_split : ∀ (g r : List UInt8) (b : Bool), r ≠ [] → skp b (g ++ r) = g.length → (b = true → g ≠ []) ∧ ∀ y, skp b (g ++ y) = g.length + skp false y
  | [], c :: r, true, _, h => by
    simp only [List.nil_append, skp, List.length_nil] at h
    split at h <;> omega
  | [], r, false, _, _ => ⟨fun h => by simp at h, fun y => by simp⟩
  | [], [], true, hr, _ => absurd rfl hr
  | c :: g, r, true, hr, h => by
    refine ⟨fun _ => by simp, fun y => ?_⟩
    simp only [skp, List.length_cons, List.cons_append] at h ⊢
    by_cases hc : c = 10
    · rw [if_pos hc] at h ⊢
      rw [(skp_split g r false hr (by omega)).2 y]
      omega
    · rw [if_neg hc] at h ⊢
      rw [(skp_split g r true hr (by omega)).2 y]
      omega
  | c :: g, r, false, hr, h => by
    refine ⟨fun h => by simp at h, fun y => ?_⟩
    simp only [skp, List.length_cons, List.cons_append] at h ⊢
    by_cases hc : cls c = 2 ∨ cls c = 3
    · rw [if_pos hc] at h ⊢
      rw [(skp_split g r false hr (by omega)).2 y]
      omega
    · rw [if_neg hc] at h ⊢
      by_cases hd : c = 45 ∧ (g ++ r).head? = some 45
      · rw [if_pos hd] at h
        obtain ⟨i1, i2⟩ := skp_split g r true hr (by omega)
        have hg := i1 rfl
        have hne : (g ++ y).head? = some 45 := by
          cases g with
          | nil => exact absurd rfl hg
          | cons d g => simpa using hd.2
        rw [if_pos ⟨hd.1, hne⟩, i2 y]
        omega
      · rw [if_neg hd] at h
        omega
theorem skp_zero {c d : UInt8} {r m : List UInt8} (h : skp false (c :: r) = 0) (hd : r = [] → d ≠ 45) : skp false ((c :: r) ++ d :: m) = 0 := by
  simp only [skp, List.cons_append] at h ⊢
  by_cases hc : cls c = 2 ∨ cls c = 3
  · rw [if_pos hc] at h; omega
  · rw [if_neg hc] at h ⊢
    by_cases hq : c = 45 ∧ r.head? = some 45
    · rw [if_pos hq] at h; omega
    · rw [if_neg]
      rintro ⟨h1, h2⟩
      cases r with
      | nil => simp at h2; exact hd rfl h2
      | cons e r => exact hq ⟨h1, by simpa using h2⟩
theorem gap_split (l : List UInt8) : l = l.take (skp false l) ++ skipL l := (List.take_append_drop _ _).symm
theorem gap_len (l : List UInt8) : (l.take (skp false l)).length = skp false l := by
  have := skp_le l false
  rw [List.length_take]
  omega
theorem skip_zero {l : List UInt8} (h : skipL l ≠ []) : (∀ y, skp false (l.take (skp false l) ++ y) = skp false l + skp false y) ∧ skp false (skipL l) = 0 := by
  have hs := skp_split (l.take (skp false l)) (skipL l) false h (by rw [← gap_split, gap_len])
  have h2 : ∀ y, skp false (l.take (skp false l) ++ y) = skp false l + skp false y := fun y => by rw [hs.2 y, gap_len]
  refine ⟨h2, ?_⟩
  have := h2 (skipL l)
  rw [← gap_split] at this
  omega
/-- A source that goes on behind something: with a line's end and more. -/
theorem skip_on {l : List UInt8} (m : List UInt8) (h : skipL l ≠ []) : skp false (l ++ 10 :: m) = skp false l ∧ skipL (l ++ 10 :: m) = skipL l ++ 10 :: m := by
  obtain ⟨h1, h2⟩ := skip_zero h
  have hk : skp false (l ++ 10 :: m) = skp false l := by
    have e : l ++ 10 :: m = l.take (skp false l) ++ (skipL l ++ 10 :: m) := by rw [← List.append_assoc, ← gap_split]
    rw [e, h1]
    cases hs : skipL l with
    | nil => exact absurd hs h
    | cons c r =>
      rw [hs] at h2
      rw [skp_zero h2 (fun _ => by decide)]
      rfl
  refine ⟨hk, ?_⟩
  rw [skipL, hk, skipL, List.drop_append_of_le_length (skp_le l false)]
theorem skip_over {l : List UInt8} (m : List UInt8) (h : skipL l = []) : skp false (l ++ 10 :: m) = l.length + 1 + skp false m ∧ skipL (l ++ 10 :: m) = skipL m := by
  have h0 := skp_le l false
  have h1 := skipL_len l
  rw [h] at h1
  simp at h1
  have hk := skp_all l m false (by omega)
  refine ⟨hk, ?_⟩
  rw [skipL, hk, skipL]
  rw [show l.length + 1 + skp false m = l.length + (1 + skp false m) from by omega, ← List.drop_drop, List.drop_left, Nat.add_comm 1, List.drop_succ_cons]
theorem txtN_over : ∀ (l : List UInt8) (b : Bool) (d : UInt8) (m : List UInt8), txtC b l = false → l.length + 1 ≤ txtN b (l ++ d :: m)
  | [], b, d, m, h => by
    have hb : b = false := h
    subst hb
    simp only [List.nil_append, txtN, List.length_nil]
    omega
  | c :: l, false, d, m, h => by
    simp only [txtC] at h
    have := txtN_over l _ d m h
    simp only [List.cons_append, txtN, List.length_cons]
    omega
  | c :: l, true, d, m, h => by
    simp only [txtC] at h
    split at h
    · rename_i hc
      have := txtN_over l _ d m h
      simp only [List.cons_append, txtN, List.length_cons]
      rw [if_pos hc]
      omega
    · exact absurd h (by simp)
/-- What is told of the piece in front stays, whatever stands behind a line's end. -/
theorem pce_on {l : List UInt8} (m : List UInt8) (h : skipL l ≠ []) : (tokR (pce l)).2 ≠ 0 → (tokR (pce (l ++ 10 :: m))).2 = (tokR (pce l)).2 := by
  intro hz
  have hs := (skip_on m h).2
  cases hl : skipL l with
  | nil => exact absurd hl h
  | cons c q =>
    by_cases ho : c = 39 ∧ txtC false q = false
    · obtain ⟨rfl, ho⟩ := ho
      have h1 : pce l = 39 :: q := by
        rw [pce, hl]
        simp only [pieceN]
        rw [if_neg (by decide), if_pos (by decide), txtN_open q _ ho]
        exact List.take_of_length_le (by simp; omega)
      have h2 : ∃ r, pce (l ++ 10 :: m) = 39 :: r ∧ (10 : UInt8) ∈ r := by
        have hn := txtN_over q false 10 m ho
        rw [pce, hs, hl]
        simp only [List.cons_append, pieceN]
        rw [if_neg (by decide), if_pos (by decide), Nat.add_comm, List.take_succ_cons]
        refine ⟨_, rfl, ?_⟩
        obtain ⟨k, hk⟩ : ∃ k, txtN false (q ++ 10 :: m) = q.length + (k + 1) := ⟨txtN false (q ++ 10 :: m) - q.length - 1, by omega⟩
        rw [hk, List.take_length_add_append, List.take_succ_cons]
        simp
      obtain ⟨r, h2, h3⟩ := h2
      rw [h1, h2, tok_no (lit_open ho), tok_no (lit_line h3)]
    · have ht : c = 39 → txtC false q = true := fun e => by
        cases hq : txtC false q with
        | true => rfl
        | false => exact absurd ⟨e, hq⟩ ho
      have : pce (l ++ 10 :: m) = pce l := by
        rw [pce, hs, pce, hl, pieceN_gap (Or.inr (Or.inr rfl)) ht, List.take_append_of_le_length]
        exact pieceN_le _
      rw [this]
theorem tok_closed {c : UInt8} {q : List UInt8} {t : Tk} (h : tokR ((c :: q).take (pieceN (c :: q))) = (t, 0)) : c = 39 → txtC false q = true := by
  rintro rfl
  cases ho : txtC false q with
  | true => rfl
  | false =>
    have h1 : (39 :: q).take (pieceN (39 :: q)) = 39 :: q := by
      simp only [pieceN]
      rw [if_neg (by decide), if_pos (by decide), txtN_open q _ ho]
      exact List.take_of_length_le (by simp; omega)
    rw [h1, tok_no (lit_open ho)] at h
    exact absurd (Prod.mk.inj h).2 (by decide)
theorem piece_on {l : List UInt8} {t : Tk} (m : List UInt8) (h : skipL l ≠ []) (ht : tokR (pce l) = (t, 0)) : pieceN (skipL (l ++ 10 :: m)) = pieceN (skipL l) ∧ pce (l ++ 10 :: m) = pce l ∧ rst (l ++ 10 :: m) = rst l ++ 10 :: m := by
  have hs := (skip_on m h).2
  cases hl : skipL l with
  | nil => exact absurd hl h
  | cons c q =>
    have hp : pieceN (skipL (l ++ 10 :: m)) = pieceN (skipL l) := by
      rw [hs, hl]
      exact pieceN_gap (Or.inr (Or.inr rfl)) (tok_closed (by rw [pce, hl] at ht; exact ht))
    refine ⟨by rw [hp, hl], ?_, ?_⟩
    · rw [pce, hp, hs, pce, List.take_append_of_le_length (pieceN_le _)]
    · rw [rst, hp, hs, rst, List.drop_append_of_le_length (pieceN_le _)]
theorem Bad.join {l : List UInt8} {a p : Nat} {c : Int} (h : Bad l a p c) (m : List UInt8) : Bad (l ++ 10 :: m) a p c := by
  induction h with
  | @here l a t c h1 h2 =>
    have hne : skipL l ≠ [] := fun g => by
      rw [pce_nil g] at h1
      exact h2 (Prod.mk.inj h1).2.symm
    have hk := (skip_on m hne).1
    have hp := pce_on m hne (by rw [h1]; exact h2)
    rw [h1] at hp
    simp only at hp
    have := Bad.here (l := l ++ 10 :: m) (a := a) (t := (tokR (pce (l ++ 10 :: m))).1) (c := c) (by rw [← hp]) h2
    rw [hk] at this
    exact this
  | @more l a p t c h1 h2 h3 ih =>
    obtain ⟨e1, e2, e3⟩ := piece_on m h1 h2
    have hk := skip_on m h1
    refine Bad.more (t := t) ?_ (by rw [e2]; exact h2) ?_
    · rw [hk.2]
      simp
    · rw [e3, hk.1, e1]
      exact ih
theorem Toks.join_bad {l m : List UInt8} {a p : Nat} {c : Int} {ts : List (Tk × Nat)} (h : Toks l a ts) (g : Bad m (a + l.length + 1) p c) : Bad (l ++ 10 :: m) a p c := by
  induction h with
  | @fin l a h =>
    obtain ⟨e1, e2⟩ := skip_over m h
    have hp : pce (l ++ 10 :: m) = pce m := by rw [pce, e2, pce]
    have hr : rst (l ++ 10 :: m) = rst m := by rw [rst, e2, rst]
    have ha : a + skp false (l ++ 10 :: m) = a + l.length + 1 + skp false m := by omega
    cases g with
    | here g1 g2 =>
      have := Bad.here (l := l ++ 10 :: m) (a := a) (by rw [hp]; exact g1) g2
      rw [ha] at this
      exact this
    | more g1 g2 g3 => exact Bad.more (by rw [e2]; exact g1) (by rw [hp]; exact g2) (by rw [hr, ha, e2]; exact g3)
  | @more l a t ts h1 h2 h3 ih =>
    obtain ⟨e1, e2, e3⟩ := piece_on m h1 h2
    have hk := skip_on m h1
    have h4 := skp_le l false
    have h5 := pieceN_le (skipL l)
    have h6 := skipL_len l
    have hrl : (rst l).length = (skipL l).length - pieceN (skipL l) := by simp [rst]
    refine Bad.more (t := t) (by rw [hk.2]; simp) (by rw [e2]; exact h2) ?_
    rw [e3, hk.1, e1]
    refine ih ?_
    rw [show a + skp false l + pieceN (skipL l) + (rst l).length + 1 = a + l.length + 1 from by omega]
    exact g
theorem Toks.join {l m : List UInt8} {a : Nat} {ts us : List (Tk × Nat)} (h : Toks l a ts) (g : Toks m (a + l.length + 1) us) : Toks (l ++ 10 :: m) a (ts.dropLast ++ us) := by
  induction h with
  | @fin l a h =>
    obtain ⟨e1, e2⟩ := skip_over m h
    have hp : pce (l ++ 10 :: m) = pce m := by rw [pce, e2, pce]
    have hr : rst (l ++ 10 :: m) = rst m := by rw [rst, e2, rst]
    have ha : a + skp false (l ++ 10 :: m) = a + l.length + 1 + skp false m := by omega
    cases g with
    | fin g1 =>
      have := Toks.fin (l := l ++ 10 :: m) (a := a) (by rw [e2]; exact g1)
      rw [ha] at this
      exact this
    | more g1 g2 g3 =>
      have := Toks.more (l := l ++ 10 :: m) (a := a) (by rw [e2]; exact g1) (by rw [hp]; exact g2) (by rw [hr, ha, e2]; exact g3)
      rw [ha] at this
      exact this
  | @more l a t ts h1 h2 h3 ih =>
    obtain ⟨e1, e2, e3⟩ := piece_on m h1 h2
    have hk := skip_on m h1
    have h4 := skp_le l false
    have h5 := pieceN_le (skipL l)
    have h6 := skipL_len l
    have hrl : (rst l).length = (skipL l).length - pieceN (skipL l) := by simp [rst]
    have hih := ih (by rw [show a + skp false l + pieceN (skipL l) + (rst l).length + 1 = a + l.length + 1 from by omega]; exact g)
    have := Toks.more (l := l ++ 10 :: m) (a := a) (t := t) (by rw [hk.2]; simp) (by rw [e2]; exact h2) (by rw [e3, hk.1, e1]; exact hih)
    rw [hk.1] at this
    obtain ⟨u, v, rfl⟩ := h3.head
    exact this
theorem Toks.shift {l : List UInt8} {a : Nat} {ts : List (Tk × Nat)} (h : Toks l a ts) (k : Nat) : Toks l (a + k) (ts.map fun t => (t.1, t.2 + k)) := by
  induction h with
  | @fin l a h =>
    have := Toks.fin (a := a + k) h
    rw [show a + k + skp false l = a + skp false l + k from by omega] at this
    exact this
  | @more l a t ts h1 h2 h3 ih =>
    have := Toks.more (a := a + k) h1 h2 (by rw [show a + k + skp false l + pieceN (skipL l) = a + skp false l + pieceN (skipL l) + k from by omega]; exact ih)
    rw [show a + k + skp false l = a + skp false l + k from by omega] at this
    exact this
theorem Bad.shift {l : List UInt8} {a p : Nat} {c : Int} (h : Bad l a p c) (k : Nat) : Bad l (a + k) (p + k) c := by
  induction h with
  | @here l a t c h1 h2 =>
    have := Bad.here (a := a + k) h1 h2
    rw [show a + k + skp false l = a + skp false l + k from by omega] at this
    exact this
  | @more l a p t c h1 h2 h3 ih =>
    exact Bad.more h1 h2 (by rw [show a + k + skp false l + pieceN (skipL l) = a + skp false l + pieceN (skipL l) + k from by omega]; exact ih)
end Go.Proofs.YtmfplnodafodoaaGreatDoor
/- Plain mathematics of layer 10: blanks and remarks between tokens. -/
namespace Go.Proofs.YtmfplnodafodoaaGreatDoor
open Go Go.RowKit

theorem runN_pre : ∀ (q r : List UInt8), runN (q ++ r) = q.length → (∀ y, runN (q ++ y) = q.length + runN y) ∧ runN r = 0
  | [], r, h => ⟨fun y => by simp, by simpa using h⟩
  | c :: q, r, h => by
    simp only [List.cons_append, runN, List.length_cons] at h ⊢
    by_cases hc : runB c
    · rw [if_pos hc] at h
      obtain ⟨h1, h2⟩ := runN_pre q r (by omega)
      refine ⟨fun y => ?_, h2⟩
      rw [if_pos hc, h1 y]
      omega
    · rw [if_neg hc] at h
      omega
theorem runN_head {r y : List UInt8} (h : runN r = 0) (hy : y.head? = r.head?) : runN y = 0 := by
  cases y with
  | nil => rfl
  | cons d y =>
    cases r with
    | nil => simp at hy
    | cons e r =>
      simp at hy
      subst hy
      simp only [runN] at h ⊢
      by_cases hd : runB d
      · rw [if_pos hd] at h; omega
      · rw [if_neg hd]
theorem txtN_next : ∀ (q r y : List UInt8) (b : Bool), txtN b (q ++ r) = q.length → y.head? = r.head? → txtN b (q ++ y) = q.length
  | [], [], y, b, _, hy => by
    have : y = [] := by simpa using hy
    subst this
    cases b <;> rfl
  | [], d :: r, y, false, h, hy => by
    simp only [List.nil_append, txtN, List.length_nil] at h
    omega
  | [], d :: r, y, true, h, hy => by
    simp only [List.nil_append, txtN, List.length_nil] at h ⊢
    cases y with
    | nil => simp at hy
    | cons e y =>
      simp at hy
      subst hy
      simp only [txtN]
      by_cases hc : e = 39
      · rw [if_pos hc] at h; omega
      · rw [if_neg hc]
  | c :: q, r, y, false, h, hy => by
    simp only [List.cons_append, txtN, List.length_cons] at h ⊢
    rw [txtN_next q r y _ (by omega) hy]
    omega
  | c :: q, r, y, true, h, hy => by
    simp only [List.cons_append, txtN, List.length_cons] at h ⊢
    by_cases hc : c = 39
    · rw [if_pos hc] at h ⊢
      rw [txtN_next q r y _ (by omega) hy]
      omega
    · rw [if_neg hc] at h
      omega
theorem txtN_cut : ∀ (q r : List UInt8) (b : Bool), txtN b (q ++ r) = q.length → txtN b q = q.length
  | [], r, b, _ => by cases b <;> rfl
  | c :: q, r, false, h => by
    simp only [List.cons_append, txtN, List.length_cons] at h ⊢
    rw [txtN_cut q r _ (by omega)]
    omega
  | c :: q, r, true, h => by
    simp only [List.cons_append, txtN, List.length_cons] at h ⊢
    by_cases hc : c = 39
    · rw [if_pos hc] at h ⊢
      rw [txtN_cut q r _ (by omega)]
      omega
    · rw [if_neg hc] at h
      omega
theorem sgnN_next {c : UInt8} {q r y : List UInt8} (h : sgnN ((c :: q) ++ r) = (c :: q).length) (hy : y.head? = r.head?) : sgnN ((c :: q) ++ y) = (c :: q).length := by
  cases q with
  | nil =>
    cases y with
    | nil => simp [sgnN]
    | cons d y =>
      cases r with
      | nil => simp at hy
      | cons e r =>
        simp at hy
        subst hy
        exact h
  | cons d q => exact h
theorem sgnN_cut {c : UInt8} {q r : List UInt8} (h : sgnN ((c :: q) ++ r) = (c :: q).length) : sgnN (c :: q) = (c :: q).length := by
  cases q with
  | nil => simp [sgnN]
  | cons d q => exact h
/-- A piece, with what begins alike behind it. -/
theorem pieceN_next {c : UInt8} {q r y : List UInt8} (h : pieceN ((c :: q) ++ r) = (c :: q).length) (hy : y.head? = r.head?) : pieceN ((c :: q) ++ y) = (c :: q).length := by
  have hs := @sgnN_next c q r y
  simp only [List.cons_append, pieceN, List.length_cons] at h hs ⊢
  by_cases h1 : runB c ∨ cls c = 8
  · rw [if_pos h1] at h ⊢
    obtain ⟨e1, e2⟩ := runN_pre q r (by omega)
    rw [e1, runN_head e2 hy]
    omega
  · rw [if_neg h1] at h ⊢
    by_cases h2 : cls c = 9
    · rw [if_pos h2] at h ⊢
      rw [txtN_next q r y false (by omega) hy]
      omega
    · rw [if_neg h2] at h ⊢
      by_cases h3 : cls c = 10
      · rw [if_pos h3] at h ⊢
        exact hs h hy
      · rw [if_neg h3] at h ⊢
        exact h
theorem pieceN_cut {c : UInt8} {q r : List UInt8} (h : pieceN ((c :: q) ++ r) = (c :: q).length) : pieceN (c :: q) = (c :: q).length := by
  have hs := @sgnN_cut c q r
  simp only [List.cons_append, pieceN, List.length_cons] at h hs ⊢
  by_cases h1 : runB c ∨ cls c = 8
  · rw [if_pos h1] at h ⊢
    obtain ⟨e1, e2⟩ := runN_pre q r (by omega)
    have := e1 []
    rw [List.append_nil] at this
    rw [this]
    simp [runN]
    omega
  · rw [if_neg h1] at h ⊢
    by_cases h2 : cls c = 9
    · rw [if_pos h2] at h ⊢
      rw [txtN_cut q r false (by omega)]
      omega
    · rw [if_neg h2] at h ⊢
      by_cases h3 : cls c = 10
      · rw [if_pos h3] at h ⊢
        exact hs h
      · rw [if_neg h3] at h ⊢
        exact h
theorem skp_head {c : UInt8} {q r y : List UInt8} (h : skp false ((c :: q) ++ r) = 0) (hy : y.head? = r.head? ∨ ∃ d m, y = d :: m ∧ gapB d) : skp false ((c :: q) ++ y) = 0 := by
  simp only [List.cons_append, skp] at h ⊢
  by_cases h1 : cls c = 2 ∨ cls c = 3
  · rw [if_pos h1] at h; omega
  · rw [if_neg h1] at h ⊢
    by_cases h2 : c = 45 ∧ (q ++ r).head? = some 45
    · rw [if_pos h2] at h; omega
    · rw [if_neg]
      rintro ⟨g1, g2⟩
      cases q with
      | nil =>
        rcases hy with hy | ⟨d, m, rfl, hd⟩
        · exact h2 ⟨g1, by simpa [hy] using g2⟩
        · simp at g2
          rcases hd with rfl | rfl | rfl <;> exact absurd g2 (by decide)
      | cons e q => exact h2 ⟨g1, by simpa using g2⟩
/-- What may be put between. -/
def putsL : List (List UInt8) := [[32], [10], [9, 32], [32, 45, 45, 32, 120, 33, 10], [32, 45, 45, 10], [10, 32], []]
theorem skp_blank {c : UInt8} {l : List UInt8} (h : cls c = 2 ∨ cls c = 3) : skp false (c :: l) = 1 + skp false l := by simp only [skp]; rw [if_pos h]
theorem put_skp {p : List UInt8} (h : p ∈ putsL) (y : List UInt8) : skp false (p ++ y) = p.length + skp false y := by
  simp only [putsL, List.mem_cons, List.not_mem_nil, or_false] at h
  rcases h with rfl | rfl | rfl | rfl | rfl | rfl | rfl
  · simp only [List.cons_append, List.nil_append]
    rw [skp_blank (by decide)]
    rfl
  · simp only [List.cons_append, List.nil_append]
    rw [skp_blank (by decide)]
    rfl
  · simp only [List.cons_append, List.nil_append]
    rw [skp_blank (by decide), skp_blank (by decide)]
    simp
    omega
  · simp only [List.cons_append, List.nil_append]
    rw [skp_blank (by decide)]
    simp only [skp]
    rw [if_neg (by decide), if_pos (by simp), if_neg (by decide), if_neg (by decide), if_neg (by decide), if_neg (by decide), if_pos trivial]
    simp
    omega
  · simp only [List.cons_append, List.nil_append]
    rw [skp_blank (by decide)]
    simp only [skp]
    rw [if_neg (by decide), if_pos (by simp), if_neg (by decide), if_pos trivial]
    simp
    omega
  · simp only [List.cons_append, List.nil_append]
    rw [skp_blank (by decide), skp_blank (by decide)]
    simp
    omega
  · simp
theorem put_all {p : List UInt8} (h : p ∈ putsL) (b : Bool) : skp b p = p.length := by
  have : ∀ q ∈ putsL, ∀ b, skp b q = q.length := by decide +kernel
  exact this p h b
theorem put_head {p : List UInt8} (h : p ∈ putsL) : p = [] ∨ ∃ d m, p = d :: m ∧ gapB d := by
  simp only [putsL, List.mem_cons, List.not_mem_nil, or_false] at h
  rcases h with rfl | rfl | rfl | rfl | rfl | rfl | rfl
  · exact Or.inr ⟨_, _, rfl, Or.inl rfl⟩
  · exact Or.inr ⟨_, _, rfl, Or.inr (Or.inr rfl)⟩
  · exact Or.inr ⟨_, _, rfl, Or.inr (Or.inl rfl)⟩
  · exact Or.inr ⟨_, _, rfl, Or.inl rfl⟩
  · exact Or.inr ⟨_, _, rfl, Or.inl rfl⟩
  · exact Or.inr ⟨_, _, rfl, Or.inr (Or.inr rfl)⟩
  · exact Or.inl rfl
theorem put_len {p : List UInt8} (h : p ∈ putsL) : p.length ≤ 7 := by
  have : ∀ q ∈ putsL, q.length ≤ 7 := by decide +kernel
  exact this p h
theorem skp_tail {p : List UInt8} (hp : ∀ b, skp b p = p.length) : ∀ (l : List UInt8) (b : Bool), skp b l = l.length → skp b (l ++ p) = l.length + p.length
  | [], b, _ => by rw [List.nil_append, hp b]; simp
  | c :: l, true, h => by
    simp only [skp, List.length_cons, List.cons_append] at h ⊢
    by_cases hc : c = 10
    · rw [if_pos hc] at h ⊢
      rw [skp_tail hp l false (by omega)]
      omega
    · rw [if_neg hc] at h ⊢
      rw [skp_tail hp l true (by omega)]
      omega
  | c :: l, false, h => by
    simp only [skp, List.length_cons, List.cons_append] at h ⊢
    by_cases hc : cls c = 2 ∨ cls c = 3
    · rw [if_pos hc] at h ⊢
      rw [skp_tail hp l false (by omega)]
      omega
    · rw [if_neg hc] at h ⊢
      by_cases hd : c = 45 ∧ l.head? = some 45
      · rw [if_pos hd] at h
        have hne : (l ++ p).head? = some 45 := by
          cases l with
          | nil => simp at hd
          | cons d l => simpa using hd.2
        rw [if_pos ⟨hd.1, hne⟩, skp_tail hp l true (by omega)]
        omega
      · rw [if_neg hd] at h
        omega
/-- A source with something put ahead of each token. -/
def outL (S : List UInt8) : Nat → List (Tk × Nat) → List (List UInt8) → List UInt8
  | f, t :: ts, p :: ps => (S.drop f).take (t.2 - f) ++ (p ++ outL S t.2 ts ps)
  | f, _, _ => S.drop f
theorem outL_split {S : List UInt8} {f n : Nat} {t : Tk × Nat} {ts : List (Tk × Nat)} {p : List UInt8} {ps : List (List UInt8)} (h : f + n ≤ t.2) : outL S f (t :: ts) (p :: ps) = (S.drop f).take n ++ outL S (f + n) (t :: ts) (p :: ps) := by
  simp only [outL]
  rw [← List.append_assoc ((S.drop f).take n)]
  congr 1
  have e : t.2 - f = n + (t.2 - (f + n)) := by omega
  rw [e, List.take_add, List.drop_drop]
theorem Toks.puts {S l : List UInt8} {a : Nat} {ts : List (Tk × Nat)} (h : Toks l a ts) (hl : l = S.drop a) (ha : a ≤ S.length) : ∀ ps : List (List UInt8), ps.length = ts.length → (∀ p ∈ ps, p ∈ putsL) → ∀ a', ∃ us, Toks (outL S a ts ps) a' us ∧ us.map (·.1) = ts.map (·.1) ∧ ((outL S a ts ps).head? = l.head? ∨ ∃ d m, outL S a ts ps = d :: m ∧ gapB d) := by
  induction h with
  | @fin l a h =>
    intro ps hps hall a'
    obtain ⟨p, rfl⟩ : ∃ p, ps = [p] := by
      cases ps with
      | nil => simp at hps
      | cons p ps =>
        cases ps with
        | nil => exact ⟨p, rfl⟩
        | cons q ps => simp at hps
    have hp := hall p (by simp)
    have h1 := skp_le l false
    have h2 := skipL_len l
    rw [h] at h2
    simp at h2
    have hk : skp false l = l.length := by omega
    have hL : l.length = S.length - a := by rw [hl]; simp
    have ho : outL S a [(((1, 0, ⟨#[]⟩) : Tk), a + skp false l)] [p] = l ++ p := by
      simp only [outL]
      rw [show a + skp false l - a = l.length from by omega, ← hl, List.take_length, hk, List.drop_eq_nil_of_le (by omega), List.append_nil]
    rw [ho]
    have hsk := skp_tail (put_all hp) l false hk
    have hs : skipL (l ++ p) = [] := by
      rw [skipL, hsk, List.drop_eq_nil_of_le (by simp)]
    refine ⟨_, Toks.fin hs, rfl, ?_⟩
    cases l with
    | nil =>
      rcases put_head hp with rfl | ⟨d, m, rfl, hd⟩
      · exact Or.inl rfl
      · exact Or.inr ⟨d, m, rfl, hd⟩
    | cons c l => exact Or.inl rfl
  | @more l a t ts h1 h2 h3 ih =>
    intro ps hps hall a'
    cases ps with
    | nil => simp at hps
    | cons p ps =>
      have hp := hall p (by simp)
      have hsk := skp_le l false
      have hsl := skipL_len l
      have hle := pieceN_le (skipL l)
      have hL : l.length = S.length - a := by rw [hl]; simp
      obtain ⟨n, hn⟩ : ∃ n, pieceN (skipL l) = n := ⟨_, rfl⟩
      obtain ⟨g, hg⟩ : ∃ g, skp false l = g := ⟨_, rfl⟩
      have hr : rst l = S.drop (a + g + n) := by
        rw [rst, hn, skipL, hg, hl, List.drop_drop, List.drop_drop, Nat.add_assoc]
      obtain ⟨u, us, rfl⟩ := h3.head
      cases ps with
      | nil => simp at hps
      | cons p2 ps =>
        rw [hg, hn] at ih h3
        rw [hg, hn] at hps ⊢
        obtain ⟨vs, i1, i2, i3⟩ := ih hr (by omega) (p2 :: ps) (by simpa using hps) (fun q hq => hall q (by simp at hq ⊢; right; exact hq)) (a' + g + p.length + n)
        obtain ⟨y, hy⟩ : ∃ y, outL S (a + g + n) ((u, a + g + n + skp false (rst l)) :: us) (p2 :: ps) = y := ⟨_, rfl⟩
        have hsp : outL S (a + g) ((u, a + g + n + skp false (rst l)) :: us) (p2 :: ps) = pce l ++ y := by
          rw [outL_split (n := n) (by show a + g + n ≤ a + g + n + _; omega), hy]
          congr 1
          rw [pce, hn, skipL, hg, hl, List.drop_drop]
        have ho : outL S a ((t, a + g) :: (u, a + g + n + skp false (rst l)) :: us) (p :: p2 :: ps) = l.take g ++ (p ++ (pce l ++ y)) := by
          rw [outL]
          simp only
          rw [hsp, show a + g - a = g from by omega, ← hl]
        rw [hy] at i1 i3
        rw [ho]
        obtain ⟨c, q, hq, hpq⟩ := pce_cons h1
        have hcut : skipL l = pce l ++ rst l := by rw [pce, rst]; exact (List.take_append_drop _ _).symm
        obtain ⟨z1, z2⟩ := skip_zero h1
        rw [hg] at z1
        obtain ⟨q', hq'⟩ : ∃ q', pce l = c :: q' := ⟨_, hpq⟩
        have hlen : (c :: q').length = n := by
          rw [← hq', pce, List.length_take]
          omega
        rw [hcut, hq'] at z2
        have hpn : pieceN ((c :: q') ++ rst l) = (c :: q').length := by rw [← hq', ← hcut, hq', hlen, hn]
        have hz : skp false ((c :: q') ++ y) = 0 := skp_head z2 i3
        have hpy : pieceN ((c :: q') ++ y) = (c :: q').length := by
          rcases i3 with i3 | ⟨d, m, rfl, hd⟩
          · exact pieceN_next hpn i3
          · have hc := pieceN_cut hpn
            rw [pieceN_gap hd (tok_closed (t := t) (by rw [hc, List.take_length, ← hq']; exact h2)), hc]
        have hk : skp false (l.take g ++ (p ++ (pce l ++ y))) = g + p.length := by
          rw [z1, put_skp hp, hq', hz]
          omega
        have hgl : (l.take g).length = g := by rw [List.length_take]; omega
        have hs2 : skipL (l.take g ++ (p ++ (pce l ++ y))) = pce l ++ y := by
          rw [skipL, hk, ← List.append_assoc, List.drop_left' (by rw [List.length_append, hgl])]
        have hp2 : pieceN (skipL (l.take g ++ (p ++ (pce l ++ y)))) = n := by rw [hs2, hq', hpy, hlen]
        have hpc : pce (l.take g ++ (p ++ (pce l ++ y))) = pce l := by
          rw [pce, hp2, hs2, List.take_left' (by rw [hq', hlen])]
        have hrs : rst (l.take g ++ (p ++ (pce l ++ y))) = y := by
          rw [rst, hp2, hs2, List.drop_left' (by rw [hq', hlen])]
        refine ⟨_, Toks.more (t := t) (by rw [hs2, hq']; simp) (by rw [hpc]; exact h2) (by rw [hrs, hp2, hk, show a' + (g + p.length) + n = a' + g + p.length + n from by omega]; exact i1), ?_, ?_⟩
        · simp only [List.map_cons, i2]
        · cases hlt : l.take g with
          | nil =>
            rcases put_head hp with rfl | ⟨d, m, rfl, hd⟩
            · refine Or.inl ?_
              have e : l = pce l ++ rst l := by
                rw [← hcut, skipL, hg]
                have : g = 0 ∨ l = [] := by
                  cases g with
                  | zero => exact Or.inl rfl
                  | succ g =>
                    cases l with
                    | nil => exact Or.inr rfl
                    | cons x l => simp at hlt
                rcases this with e | e
                · rw [e]; rfl
                · rw [e]; simp
              rw [hq'] at e ⊢
              rw [e]
              rfl
            · exact Or.inr ⟨d, _, rfl, hd⟩
          | cons d m =>
            refine Or.inl ?_
            have : l = (d :: m) ++ l.drop g := by rw [← hlt]; exact (List.take_append_drop _ _).symm
            rw [this]
            rfl
def Inc : Nat → List (Tk × Nat) → Prop
  | _, [] => True
  | f, t :: ts => f ≤ t.2 ∧ Inc t.2 ts
theorem Pl.inc {S : List UInt8} : ∀ {t : Tk × Nat} {ts : List (Tk × Nat)}, Pl S (t :: ts) → Inc t.2 ts
  | _, [], _ => trivial
  | _, _ :: _, h => ⟨Nat.le_of_lt h.1, Pl.inc h.2.2.2.2.2⟩
theorem outL_len {S : List UInt8} : ∀ (ts : List (Tk × Nat)) (ps : List (List UInt8)) (f : Nat), Inc f ts → (∀ p ∈ ps, p.length ≤ 7) → (outL S f ts ps).length ≤ (S.drop f).length + 7 * ts.length
  | [], _, f, _, _ => by simp [outL]
  | t :: ts, [], f, _, _ => by simp [outL]
  | t :: ts, p :: ps, f, hi, h => by
    have h1 := outL_len (S := S) ts ps t.2 hi.2 fun q hq => h q (by simp [hq])
    have h2 := h p (by simp)
    have h3 := hi.1
    simp only [outL, List.length_append, List.length_take, List.length_drop, List.length_cons] at h1 ⊢
    omega
end Go.Proofs.YtmfplnodafodoaaGreatDoor
