/- Plain mathematics of layer 10: where tokens stand. -/
import Derived.Test.YtlooelldkbdomaaGreatDoorM113
import Derived.Test.YtlooelldkbdomaaGreatDoorX11M
import Derived.Test.YtlooelldkbdomaaGreatDoorX11E
import Derived.Test.YtlooelldkbdomaaGreatDoorX11K
import Derived.Test.YtlooelldkbdomaaGreatDoorX11N
import Derived.Deep.QuietTactic
namespace Go.Proofs.YtlooelldkbdomaaGreatDoor
open Go Go.RowKit

/-- A token's text, as its source has it. -/
def txOf (t : Tk) : List UInt8 := if t.1 = 6 then 58 :: t.2.2.data.toList else t.2.2.data.toList
theorem txOf_tok {p : List UInt8} {t : Tk} (h : tokR p = (t, 0)) (h1 : t.1 ≠ 1) (h2 : t.1 ≠ 2) (h5 : t.1 ≠ 5) : txOf t = p := by
  cases p with
  | nil => exact absurd (by rw [← (Prod.mk.inj h).1]) h1
  | cons c l =>
    simp only [tokR] at h
    repeat' split at h
    all_goals obtain ⟨rfl, hz⟩ := Prod.mk.inj h
    all_goals first | (exact absurd hz (by decide)) | skip
    · exact absurd rfl h2
    · simp [txOf, list_ofL]
    · simp [txOf, list_ofL]
    · rename_i h8 _
      simp [txOf, list_ofL, (cls_colon c).1 h8]
    · exact absurd rfl h5
    · simp [txOf, list_ofL]
/-- How tokens stand in a source. -/
def Pl (S : List UInt8) : List (Tk × Nat) → Prop
  | [] => False
  | [t] => t = ((1, 0, ⟨#[]⟩), S.length)
  | t :: u :: ts => t.2 < u.2 ∧ u.2 ≤ S.length ∧ 2 ≤ t.1.1 ∧ t.1.1 ≤ 7 ∧ (t.1.1 ≠ 2 → t.1.1 ≠ 5 → (txOf t.1) <+: S.drop t.2 ∧ t.2 + (txOf t.1).length ≤ u.2) ∧ Pl S (u :: ts)
theorem skipL_len (l : List UInt8) : (skipL l).length = l.length - skp false l := by simp [skipL]
theorem Toks.head {l : List UInt8} {a : Nat} {ts : List (Tk × Nat)} (h : Toks l a ts) : ∃ t us, ts = (t, a + skp false l) :: us := by
  cases h with
  | fin h => exact ⟨_, _, rfl⟩
  | more h1 h2 h3 => exact ⟨_, _, rfl⟩
theorem Toks.places {S l : List UInt8} {a : Nat} {ts : List (Tk × Nat)} (h : Toks l a ts) (hl : l = S.drop a) (ha : a ≤ S.length) : Pl S ts := by
  induction h with
  | @fin l a h =>
    have h1 := skp_le l false
    have h2 := skipL_len l
    rw [h] at h2
    have h3 : l.length = S.length - a := by rw [hl]; simp
    simp at h2
    show ((((1, 0, ⟨#[]⟩) : Tk), a + skp false l) : Tk × Nat) = ((1, 0, ⟨#[]⟩), S.length)
    congr 1
    omega
  | @more l a t ts h1 h2 h3 ih =>
    obtain ⟨c, q, hq, hp⟩ := pce_cons h1
    have hk := tokR_kind c (q.take (pieceN (c :: q) - 1)) (by rw [← hp, h2])
    rw [← hp, h2] at hk
    simp only at hk
    have hpos := pieceN_pos c q
    have hle := pieceN_le (skipL l)
    have hsl := skipL_len l
    have hsk := skp_le l false
    rw [← hq] at hpos
    have hL : l.length = S.length - a := by rw [hl]; simp
    have hr : rst l = S.drop (a + skp false l + pieceN (skipL l)) := by
      rw [rst, skipL, hl, List.drop_drop, List.drop_drop]
      congr 1
      omega
    have hi := ih hr (by omega)
    obtain ⟨u, us, rfl⟩ := h3.head
    have hs2 := skp_le (rst l) false
    have hrl : (rst l).length = S.length - (a + skp false l + pieceN (skipL l)) := by rw [hr]; simp
    refine ⟨by show a + skp false l < _; omega, by show _ ≤ S.length; omega, hk.1, hk.2, fun g2 g5 => ?_, hi⟩
    have ht := txOf_tok h2 (by omega) g2 g5
    show txOf t <+: S.drop (a + skp false l) ∧ a + skp false l + (txOf t).length ≤ _
    rw [ht]
    have hpl : (pce l).length = pieceN (skipL l) := by rw [pce, List.length_take]; omega
    refine ⟨?_, by omega⟩
    have : skipL l = S.drop (a + skp false l) := by rw [skipL, hl, List.drop_drop]
    rw [pce, this]
    exact List.take_prefix _ _
theorem Bad.within {l : List UInt8} {a p : Nat} {c : Int} (h : Bad l a p c) : a ≤ p ∧ p ≤ a + l.length := by
  induction h with
  | @here l a t c h1 h2 => have := skp_le l false; omega
  | @more l a p t c h1 h2 _ ih =>
    have h3 := skp_le l false
    have h4 := pieceN_le (skipL l)
    have h5 := skipL_len l
    have : (rst l).length = (skipL l).length - pieceN (skipL l) := by simp [rst]
    omega
theorem Pl.at {S : List UInt8} : ∀ {ts : List (Tk × Nat)} (_ : Pl S ts) (i : Nat) (h : i + 1 < ts.length), ts[i].2 < ts[i + 1].2 ∧ ts[i + 1].2 ≤ S.length ∧ 2 ≤ ts[i].1.1 ∧ ts[i].1.1 ≤ 7 ∧ (ts[i].1.1 ≠ 2 → ts[i].1.1 ≠ 5 → (txOf ts[i].1) <+: S.drop ts[i].2 ∧ ts[i].2 + (txOf ts[i].1).length ≤ ts[i + 1].2)
  | [], h, _, _ => h.elim
  | [t], _, i, h => by simp at h
  | t :: u :: ts, h, 0, _ => ⟨h.1, h.2.1, h.2.2.1, h.2.2.2.1, h.2.2.2.2.1⟩
  | t :: u :: ts, h, i + 1, hi => by
    have := Pl.at (ts := u :: ts) h.2.2.2.2.2 i (by simpa using hi)
    exact this
theorem Pl.last {S : List UInt8} : ∀ {ts : List (Tk × Nat)} (_ : Pl S ts), ∃ h : 0 < ts.length, ts[ts.length - 1] = ((1, 0, ⟨#[]⟩), S.length)
  | [], h => h.elim
  | [t], h => ⟨by simp, h⟩
  | t :: u :: ts, h => by
    obtain ⟨h1, h2⟩ := Pl.last (ts := u :: ts) h.2.2.2.2.2
    refine ⟨by simp, ?_⟩
    simp only [List.length_cons, Nat.add_sub_cancel] at h2 ⊢
    rw [List.getElem_cons_succ]
    exact h2
end Go.Proofs.YtlooelldkbdomaaGreatDoor
/- Plain mathematics of layer 10: literals of texts, and two sources one behind the other. -/
namespace Go.Proofs.YtlooelldkbdomaaGreatDoor
open Go Go.RowKit

/-- Does a text end (true: behind a mark)? -/
def txtC : Bool → List UInt8 → Bool
  | b, [] => b
  | false, c :: l => txtC (decide (c = 39)) l
  | true, c :: l => if c = 39 then txtC false l else true
theorem txtN_open : ∀ (l : List UInt8) (b : Bool), txtC b l = false → txtN b l = l.length
  | [], b, _ => by cases b <;> rfl
  | c :: l, false, h => by
    simp only [txtC] at h
    simp only [txtN, List.length_cons, txtN_open l _ h]
    omega
  | c :: l, true, h => by
    simp only [txtC] at h
    simp only [txtN]
    split at h
    · rename_i hc
      rw [if_pos hc, txtN_open l _ h, List.length_cons]
      omega
    · exact absurd h (by simp)
theorem txtN_closed : ∀ (l m : List UInt8) (b : Bool), txtC b l = true → m.head? ≠ some 39 → txtN b (l ++ m) = txtN b l
  | [], m, b, h, hm => by
    have hb : b = true := h
    subst hb
    cases m with
    | nil => rfl
    | cons d m =>
      simp only [List.nil_append, txtN]
      rw [if_neg (by simpa using hm)]
  | c :: l, m, false, h, hm => by
    simp only [txtC] at h
    simp only [List.cons_append, txtN, txtN_closed l m _ h hm]
  | c :: l, m, true, h, hm => by
    simp only [txtC] at h
    simp only [List.cons_append, txtN]
    split at h
    · rename_i hc
      rw [if_pos hc, if_pos hc, txtN_closed l m _ h hm]
    · rename_i hc
      rw [if_neg hc, if_neg hc]
theorem hexd_mark (i : Nat) (h : i < 16) : hexd i ≠ 39 := by
  have : ∀ i : Fin 16, hexd i.val ≠ 39 := by decide +kernel
  exact this ⟨i, h⟩
theorem txt_qbs : ∀ (x r : List UInt8), txtN false (qbs x ++ 39 :: r) = (qbs x).length + 1 + txtN true r ∧ txtC false (qbs x ++ 39 :: r) = txtC true r
  | [], r => by
    constructor
    · show 1 + txtN (decide ((39 : UInt8) = 39)) r = 0 + 1 + txtN true r
      rw [show decide ((39 : UInt8) = 39) = true from rfl]
    · rfl
  | c :: x, r => by
    obtain ⟨h1, h2⟩ := txt_qbs x r
    have hc := UInt8.toNat_lt c
    rw [qbs_cons, List.append_assoc]
    by_cases c1 : c.toNat = 39
    · rw [qb_mark c1]
      simp only [List.cons_append, List.nil_append, txtN, txtC, decide_true, if_true, List.length_cons]
      exact ⟨by omega, h2⟩
    · by_cases c2 : c.toNat = 92 ∨ c.toNat < 32 ∨ 126 < c.toNat
      · rw [qb_hex c1 c2]
        have e0 : decide ((92 : UInt8) = 39) = false := by decide
        have e1 : decide (hexd (c.toNat / 16) = 39) = false := decide_eq_false (hexd_mark _ (by omega))
        have e2 : decide (hexd (c.toNat % 16) = 39) = false := decide_eq_false (hexd_mark _ (by omega))
        simp only [List.cons_append, List.nil_append, txtN, txtC, e0, e1, e2, List.length_cons]
        exact ⟨by omega, h2⟩
      · rw [qb_plain c1 c2]
        have e0 : decide (c = 39) = false := decide_eq_false fun q => c1 (by rw [q]; rfl)
        simp only [List.cons_append, List.nil_append, txtN, txtC, e0, List.length_cons]
        exact ⟨by omega, h2⟩
theorem qb_high (c d : UInt8) (h : d ∈ qb c) : 32 ≤ d.toNat := by
  have hc := UInt8.toNat_lt c
  by_cases c1 : c.toNat = 39
  · rw [qb_mark c1] at h
    simp at h
    rw [h]; decide
  · by_cases c2 : c.toNat = 92 ∨ c.toNat < 32 ∨ 126 < c.toNat
    · rw [qb_hex c1 c2] at h
      simp only [List.mem_cons, List.not_mem_nil, or_false] at h
      rcases h with rfl | rfl | rfl
      · decide
      · have := (hexd_at_list _ (by omega : c.toNat / 16 < 16)).1; omega
      · have := (hexd_at_list _ (by omega : c.toNat % 16 < 16)).1; omega
    · rw [qb_plain c1 c2] at h
      simp at h
      rw [h]
      omega
theorem qbs_high (x : List UInt8) (d : UInt8) (h : d ∈ qbs x) : 32 ≤ d.toNat := by
  unfold qbs at h
  rw [List.mem_flatMap] at h
  obtain ⟨c, _, h⟩ := h
  exact qb_high c d h
/-- A literal that begins with a mark. -/
theorem lit_mark {l : List UInt8} {v : V3} (h : LitOf (39 :: l) v) : v.1 = 3 ∧ l = qbs v.2.2.data.toList ++ [39] := by
  obtain ⟨hr, he⟩ := h
  rcases rt_kind hr with k | k | k | k
  · rw [lit_null k] at he; exact absurd he (by simp)
  · rw [lit_int k] at he
    obtain ⟨c, q, e, g⟩ := itoa_head v.2.1
    rw [e] at he
    rw [(List.cons.inj he).1] at g
    exact absurd g (by decide)
  · rcases (right_bool hr k).1 with g | g
    · rw [lit_false k g] at he; exact absurd he (by simp)
    · rw [lit_true k g] at he; exact absurd he (by simp)
  · rw [lit_text k, quo] at he
    exact ⟨k, (List.cons.inj he).2.symm⟩
theorem lit_line {l : List UInt8} (hl : (10 : UInt8) ∈ l) : ∀ v, ¬ LitOf (39 :: l) v := by
  intro v h
  rw [(lit_mark h).2] at hl
  rcases List.mem_append.1 hl with h | h
  · exact absurd (qbs_high _ _ h) (by decide)
  · exact absurd h (by decide)
theorem lit_open {l : List UInt8} (hl : txtC false l = false) : ∀ v, ¬ LitOf (39 :: l) v := by
  intro v h
  rw [(lit_mark h).2, (txt_qbs _ []).2] at hl
  exact absurd hl (by decide)
theorem tok_no {l : List UInt8} (h : ∀ v, ¬ LitOf (39 :: l) v) : tokR (39 :: l) = (tk0, 103) := by
  rw [tokR_mark (by decide), parR_no h]
  rfl

/-! ### what stands behind does not matter -/
theorem run_line : ¬ runB 10 := by decide
theorem runN_end : ∀ (l m : List UInt8), (∀ c ∈ m.head?, ¬ runB c) → runN (l ++ m) = runN l
  | [], m, h => by
    cases m with
    | nil => rfl
    | cons d m =>
      simp only [List.nil_append, runN]
      rw [if_neg (h d (by simp))]
  | c :: l, m, h => by
    simp only [List.cons_append, runN, runN_end l m h]
/-- A byte behind which a piece ends: a blank or a line's end. -/
def gapB (c : UInt8) : Prop := c = 32 ∨ c = 9 ∨ c = 10
theorem gap_run {c : UInt8} (h : gapB c) : ¬ runB c := by rcases h with rfl | rfl | rfl <;> decide
/-- Of a piece that is whole, or no text that is open, what stands behind it makes no difference. -/
theorem pieceN_gap {c : UInt8} {l : List UInt8} {d : UInt8} {m : List UInt8} (hd : gapB d) (ht : c = 39 → txtC false l = true) : pieceN ((c :: l) ++ d :: m) = pieceN (c :: l) := by
  have hm : (d :: m).head? ≠ some 39 := by rcases hd with rfl | rfl | rfl <;> simp
  simp only [List.cons_append, pieceN]
  rw [runN_end l (d :: m) (fun x hx => by simp at hx; rw [← hx]; exact gap_run hd)]
  by_cases h1 : runB c ∨ cls c = 8
  · rw [if_pos h1, if_pos h1]
  · rw [if_neg h1, if_neg h1]
    by_cases h2 : cls c = 9
    · rw [if_pos h2, if_pos h2, txtN_closed l (d :: m) false (ht ((cls_mark c).1 h2)) hm]
    · rw [if_neg h2, if_neg h2]
      by_cases h3 : cls c = 10
      · rw [if_pos h3, if_pos h3]
        cases l with
        | nil =>
          simp only [List.nil_append, sgnN]
          rw [if_neg]
          unfold twoS
          rcases hd with rfl | rfl | rfl <;> simp
        | cons e l => rfl
      · rw [if_neg h3, if_neg h3]
end Go.Proofs.YtlooelldkbdomaaGreatDoor
/- Plain mathematics of layer 10: two sources, one behind the other. -/
namespace Go.Proofs.YtlooelldkbdomaaGreatDoor
open Go Go.RowKit

theorem skp_all : ∀ (l m : List UInt8) (b : Bool), skp b l = l.length → skp b (l ++ 10 :: m) = l.length + 1 + skp false m
  | [], m, true, _ => by simp [skp]
  | [], m, false, _ => by
    simp only [List.nil_append, skp]
    rw [if_pos (Or.inr (by decide))]
    simp
  | c :: l, m, true, h => by
    simp only [skp, List.length_cons, List.cons_append] at h ⊢
    by_cases hc : c = 10
    · rw [if_pos hc] at h ⊢
      rw [skp_all l m false (by omega)]
      omega
    · rw [if_neg hc] at h ⊢
      rw [skp_all l m true (by omega)]
      omega
  | c :: l, m, false, h => by
    simp only [skp, List.length_cons, List.cons_append] at h ⊢
    by_cases hc : cls c = 2 ∨ cls c = 3
    · rw [if_pos hc] at h ⊢
      rw [skp_all l m false (by omega)]
      omega
    · rw [if_neg hc] at h ⊢
      by_cases hd : c = 45 ∧ l.head? = some 45
      · rw [if_pos hd] at h
        have hne : (l ++ 10 :: m).head? = some 45 := by
          cases l with
          | nil => simp at hd
          | cons d l => simpa using hd.2
        rw [if_pos ⟨hd.1, hne⟩, skp_all l m true (by omega)]
        omega
      · rw [if_neg hd] at h
        omega
/-- Where a gap ends ahead of something, what stands there does not matter for it. -/
theorem skp_split : ∀ (g r : List UInt8) (b : Bool), r ≠ [] → skp b (g ++ r) = g.length → (b = true → g ≠ []) ∧ ∀ y, skp b (g ++ y) = g.length + skp false y
  | [], c :: r, true, _, h => by
    simp only [List.nil_append, skp, List.length_nil] at h
    split at h <;> omega
  | [], r, false, _, _ => ⟨fun h => by simp at h, fun y => by simp⟩
  | [], [], true, hr, _ => absurd rfl hr
  | c :: g, r, true, hr, h => by
    refine ⟨fun _ => by simp, fun y => ?_⟩
    simp only [skp, List.length_cons, List.cons_append] at h ⊢
    by_cases hc : c = 10
    · rw [if_pos hc] at h ⊢
      rw [(skp_split g r false hr (by omega)).2 y]
      omega
    · rw [if_neg hc] at h ⊢
      rw [(skp_split g r true hr (by omega)).2 y]
      omega
  | c :: g, r, false, hr, h => by
    refine ⟨fun h => by simp at h, fun y => ?_⟩
    simp only [skp, List.length_cons, List.cons_append] at h ⊢
    by_cases hc : cls c = 2 ∨ cls c = 3
    · rw [if_pos hc] at h ⊢
      rw [(skp_split g r false hr (by omega)).2 y]
      omega
    · rw [if_neg hc] at h ⊢
      by_cases hd : c = 45 ∧ (g ++ r).head? = some 45
      · rw [if_pos hd] at h
        obtain ⟨i1, i2⟩ := skp_split g r true hr (by omega)
        have hg := i1 rfl
        have hne : (g ++ y).head? = some 45 := by
          cases g with
          | nil => exact absurd rfl hg
          | cons d g => simpa using hd.2
        rw [if_pos ⟨hd.1, hne⟩, i2 y]
        omega
      · rw [if_neg hd] at h
        omega
theorem skp_zero {c d : UInt8} {r m : List UInt8} (h : skp false (c :: r) = 0) (hd : r = [] → d ≠ 45) : skp false ((c :: r) ++ d :: m) = 0 := by
  simp only [skp, List.cons_append] at h ⊢
  by_cases hc : cls c = 2 ∨ cls c = 3
  · rw [if_pos hc] at h; omega
  · rw [if_neg hc] at h ⊢
    by_cases hq : c = 45 ∧ r.head? = some 45
    · rw [if_pos hq] at h; omega
    · rw [if_neg]
      rintro ⟨h1, h2⟩
      cases r with
      | nil => simp at h2; exact hd rfl h2
      | cons e r => exact hq ⟨h1, by simpa using h2⟩
theorem gap_split (l : List UInt8) : l = l.take (skp false l) ++ skipL l := (List.take_append_drop _ _).symm
theorem gap_len (l : List UInt8) : (l.take (skp false l)).length = skp false l := by
  have := skp_le l false
  rw [List.length_take]
  omega
theorem skip_zero {l : List UInt8} (h : skipL l ≠ []) : (∀ y, skp false (l.take (skp false l) ++ y) = skp false l + skp false y) ∧ skp false (skipL l) = 0 := by
  have hs := skp_split (l.take (skp false l)) (skipL l) false h (by rw [← gap_split, gap_len])
  have h2 : ∀ y, skp false (l.take (skp false l) ++ y) = skp false l + skp false y := fun y => by rw [hs.2 y, gap_len]
  refine ⟨h2, ?_⟩
  have := h2 (skipL l)
  rw [← gap_split] at this
  omega
/-- A source that goes on behind something: with a line's end and more. -/
theorem skip_on {l : List UInt8} (m : List UInt8) (h : skipL l ≠ []) : skp false (l ++ 10 :: m) = skp false l ∧ skipL (l ++ 10 :: m) = skipL l ++ 10 :: m := by
  obtain ⟨h1, h2⟩ := skip_zero h
  have hk : skp false (l ++ 10 :: m) = skp false l := by
    have e : l ++ 10 :: m = l.take (skp false l) ++ (skipL l ++ 10 :: m) := by rw [← List.append_assoc, ← gap_split]
    rw [e, h1]
    cases hs : skipL l with
    | nil => exact absurd hs h
    | cons c r =>
      rw [hs] at h2
      rw [skp_zero h2 (fun _ => by decide)]
      rfl
  refine ⟨hk, ?_⟩
  rw [skipL, hk, skipL, List.drop_append_of_le_length (skp_le l false)]
theorem skip_over {l : List UInt8} (m : List UInt8) (h : skipL l = []) : skp false (l ++ 10 :: m) = l.length + 1 + skp false m ∧ skipL (l ++ 10 :: m) = skipL m := by
  have h0 := skp_le l false
  have h1 := skipL_len l
  rw [h] at h1
  simp at h1
  have hk := skp_all l m false (by omega)
  refine ⟨hk, ?_⟩
  rw [skipL, hk, skipL]
  rw [show l.length + 1 + skp false m = l.length + (1 + skp false m) from by omega, ← List.drop_drop, List.drop_left, Nat.add_comm 1, List.drop_succ_cons]
theorem txtN_over : ∀ (l : List UInt8) (b : Bool) (d : UInt8) (m : List UInt8), txtC b l = false → l.length + 1 ≤ txtN b (l ++ d :: m)
  | [], b, d, m, h => by
    have hb : b = false := h
    subst hb
    simp only [List.nil_append, txtN, List.length_nil]
    omega
  | c :: l, false, d, m, h => by
    simp only [txtC] at h
    have := txtN_over l _ d m h
    simp only [List.cons_append, txtN, List.length_cons]
    omega
  | c :: l, true, d, m, h => by
    simp only [txtC] at h
    split at h
    · rename_i hc
      have := txtN_over l _ d m h
      simp only [List.cons_append, txtN, List.length_cons]
      rw [if_pos hc]
      omega
    · exact absurd h (by simp)
/-- What is told of the piece in front stays, whatever stands behind a line's end. -/
theorem pce_on {l : List UInt8} (m : List UInt8) (h : skipL l ≠ []) : (tokR (pce l)).2 ≠ 0 → (tokR (pce (l ++ 10 :: m))).2 = (tokR (pce l)).2 := by
  intro hz
  have hs := (skip_on m h).2
  cases hl : skipL l with
  | nil => exact absurd hl h
  | cons c q =>
    by_cases ho : c = 39 ∧ txtC false q = false
    · obtain ⟨rfl, ho⟩ := ho
      have h1 : pce l = 39 :: q := by
        rw [pce, hl]
        simp only [pieceN]
        rw [if_neg (by decide), if_pos (by decide), txtN_open q _ ho]
        exact List.take_of_length_le (by simp; omega)
      have h2 : ∃ r, pce (l ++ 10 :: m) = 39 :: r ∧ (10 : UInt8) ∈ r := by
        have hn := txtN_over q false 10 m ho
        rw [pce, hs, hl]
        simp only [List.cons_append, pieceN]
        rw [if_neg (by decide), if_pos (by decide), Nat.add_comm, List.take_succ_cons]
        refine ⟨_, rfl, ?_⟩
        obtain ⟨k, hk⟩ : ∃ k, txtN false (q ++ 10 :: m) = q.length + (k + 1) := ⟨txtN false (q ++ 10 :: m) - q.length - 1, by omega⟩
        rw [hk, List.take_length_add_append, List.take_succ_cons]
        simp
      obtain ⟨r, h2, h3⟩ := h2
      rw [h1, h2, tok_no (lit_open ho), tok_no (lit_line h3)]
    · have ht : c = 39 → txtC false q = true := fun e => by
        cases hq : txtC false q with
        | true => rfl
        | false => exact absurd ⟨e, hq⟩ ho
      have : pce (l ++ 10 :: m) = pce l := by
        rw [pce, hs, pce, hl, pieceN_gap (Or.inr (Or.inr rfl)) ht, List.take_append_of_le_length]
        exact pieceN_le _
      rw [this]
theorem tok_closed {c : UInt8} {q : List UInt8} {t : Tk} (h : tokR ((c :: q).take (pieceN (c :: q))) = (t, 0)) : c = 39 → txtC false q = true := by
  rintro rfl
  cases ho : txtC false q with
  | true => rfl
  | false =>
    have h1 : (39 :: q).take (pieceN (39 :: q)) = 39 :: q := by
      simp only [pieceN]
      rw [if_neg (by decide), if_pos (by decide), txtN_open q _ ho]
      exact List.take_of_length_le (by simp; omega)
    rw [h1, tok_no (lit_open ho)] at h
    exact absurd (Prod.mk.inj h).2 (by decide)
theorem piece_on {l : List UInt8} {t : Tk} (m : List UInt8) (h : skipL l ≠ []) (ht : tokR (pce l) = (t, 0)) : pieceN (skipL (l ++ 10 :: m)) = pieceN (skipL l) ∧ pce (l ++ 10 :: m) = pce l ∧ rst (l ++ 10 :: m) = rst l ++ 10 :: m := by
  have hs := (skip_on m h).2
  cases hl : skipL l with
  | nil => exact absurd hl h
  | cons c q =>
    have hp : pieceN (skipL (l ++ 10 :: m)) = pieceN (skipL l) := by
      rw [hs, hl]
      exact pieceN_gap (Or.inr (Or.inr rfl)) (tok_closed (by rw [pce, hl] at ht; exact ht))
    refine ⟨by rw [hp, hl], ?_, ?_⟩
    · rw [pce, hp, hs, pce, List.take_append_of_le_length (pieceN_le _)]
    · rw [rst, hp, hs, rst, List.drop_append_of_le_length (pieceN_le _)]
theorem Bad.join {l : List UInt8} {a p : Nat} {c : Int} (h : Bad l a p c) (m : List UInt8) : Bad (l ++ 10 :: m) a p c := by
  induction h with
  | @here l a t c h1 h2 =>
    have hne : skipL l ≠ [] := fun g => by
      rw [pce_nil g] at h1
      exact h2 (Prod.mk.inj h1).2.symm
    have hk := (skip_on m hne).1
    have hp := pce_on m hne (by rw [h1]; exact h2)
    rw [h1] at hp
    simp only at hp
    have := Bad.here (l := l ++ 10 :: m) (a := a) (t := (tokR (pce (l ++ 10 :: m))).1) (c := c) (by rw [← hp]) h2
    rw [hk] at this
    exact this
  | @more l a p t c h1 h2 h3 ih =>
    obtain ⟨e1, e2, e3⟩ := piece_on m h1 h2
    have hk := skip_on m h1
    refine Bad.more (t := t) ?_ (by rw [e2]; exact h2) ?_
    · rw [hk.2]
      simp
    · rw [e3, hk.1, e1]
      exact ih
theorem Toks.join_bad {l m : List UInt8} {a p : Nat} {c : Int} {ts : List (Tk × Nat)} (h : Toks l a ts) (g : Bad m (a + l.length + 1) p c) : Bad (l ++ 10 :: m) a p c := by
  induction h with
  | @fin l a h =>
    obtain ⟨e1, e2⟩ := skip_over m h
    have hp : pce (l ++ 10 :: m) = pce m := by rw [pce, e2, pce]
    have hr : rst (l ++ 10 :: m) = rst m := by rw [rst, e2, rst]
    have ha : a + skp false (l ++ 10 :: m) = a + l.length + 1 + skp false m := by omega
    cases g with
    | here g1 g2 =>
      have := Bad.here (l := l ++ 10 :: m) (a := a) (by rw [hp]; exact g1) g2
      rw [ha] at this
      exact this
    | more g1 g2 g3 => exact Bad.more (by rw [e2]; exact g1) (by rw [hp]; exact g2) (by rw [hr, ha, e2]; exact g3)
  | @more l a t ts h1 h2 h3 ih =>
    obtain ⟨e1, e2, e3⟩ := piece_on m h1 h2
    have hk := skip_on m h1
    have h4 := skp_le l false
    have h5 := pieceN_le (skipL l)
    have h6 := skipL_len l
    have hrl : (rst l).length = (skipL l).length - pieceN (skipL l) := by simp [rst]
    refine Bad.more (t := t) (by rw [hk.2]; simp) (by rw [e2]; exact h2) ?_
    rw [e3, hk.1, e1]
    refine ih ?_
    rw [show a + skp false l + pieceN (skipL l) + (rst l).length + 1 = a + l.length + 1 from by omega]
    exact g
theorem Toks.join {l m : List UInt8} {a : Nat} {ts us : List (Tk × Nat)} (h : Toks l a ts) (g : Toks m (a + l.length + 1) us) : Toks (l ++ 10 :: m) a (ts.dropLast ++ us) := by
  induction h with
  | @fin l a h =>
    obtain ⟨e1, e2⟩ := skip_over m h
    have hp : pce (l ++ 10 :: m) = pce m := by rw [pce, e2, pce]
    have hr : rst (l ++ 10 :: m) = rst m := by rw [rst, e2, rst]
    have ha : a + skp false (l ++ 10 :: m) = a + l.length + 1 + skp false m := by omega
    cases g with
    | fin g1 =>
      have := Toks.fin (l := l ++ 10 :: m) (a := a) (by rw [e2]; exact g1)
      rw [ha] at this
      exact this
    | more g1 g2 g3 =>
      have := Toks.more (l := l ++ 10 :: m) (a := a) (by rw [e2]; exact g1) (by rw [hp]; exact g2) (by rw [hr, ha, e2]; exact g3)
      rw [ha] at this
      exact this
  | @more l a t ts h1 h2 h3 ih =>
    obtain ⟨e1, e2, e3⟩ := piece_on m h1 h2
    have hk := skip_on m h1
    have h4 := skp_le l false
    have h5 := pieceN_le (skipL l)
    have h6 := skipL_len l
    have hrl : (rst l).length = (skipL l).length - pieceN (skipL l) := by simp [rst]
    have hih := ih (by rw [show a + skp false l + pieceN (skipL l) + (rst l).length + 1 = a + l.length + 1 from by omega]; exact g)
    have := Toks.more (l := l ++ 10 :: m) (a := a) (t := t) (by rw [hk.2]; simp) (by rw [e2]; exact h2) (by rw [e3, hk.1, e1]; exact hih)
    rw [hk.1] at this
    obtain ⟨u, v, rfl⟩ := h3.head
    exact this
theorem Toks.shift {l : List UInt8} {a : Nat} {ts : List (Tk × Nat)} (h : Toks l a ts) (k : Nat) : Toks l (a + k) (ts.map fun t => (t.1, t.2 + k)) := by
  induction h with
  | @fin l a h =>
    have := Toks.fin (a := a + k) h
    rw [show a + k + skp false l = a + skp false l + k from by omega] at this
    exact this
  | @more l a t ts h1 h2 h3 ih =>
    have := Toks.more (a := a + k) h1 h2 (by rw [show a + k + skp false l + pieceN (skipL l) = a + skp false l + pieceN (skipL l) + k from by omega]; exact ih)
    rw [show a + k + skp false l = a + skp false l + k from by omega] at this
    exact this
theorem Bad.shift {l : List UInt8} {a p : Nat} {c : Int} (h : Bad l a p c) (k : Nat) : Bad l (a + k) (p + k) c := by
  induction h with
  | @here l a t c h1 h2 =>
    have := Bad.here (a := a + k) h1 h2
    rw [show a + k + skp false l = a + skp false l + k from by omega] at this
    exact this
  | @more l a p t c h1 h2 h3 ih =>
    exact Bad.more h1 h2 (by rw [show a + k + skp false l + pieceN (skipL l) = a + skp false l + pieceN (skipL l) + k from by omega]; exact ih)
end Go.Proofs.YtlooelldkbdomaaGreatDoor
/- Plain mathematics of layer 11: the tokens of a source that was cut ahead of one of them. -/
namespace Go.Proofs.YtlooelldkbdomaaGreatDoor
open Go Go.RowKit
theorem skp_take : ∀ (l : List UInt8) (b : Bool) (k : Nat), skp b l < k → skp b (l.take k) = skp b l
  | [], b, k, _ => by simp
  | c :: l, true, 0, h => absurd h (Nat.not_lt_zero _)
  | c :: l, false, 0, h => absurd h (Nat.not_lt_zero _)
  | c :: l, true, k + 1, h => by
    rw [List.take_succ_cons]
    simp only [skp] at h ⊢
    split
    · rename_i e
      rw [if_pos e] at h
      rw [skp_take l false k (by omega)]
    · rename_i e
      rw [if_neg e] at h
      rw [skp_take l true k (by omega)]
  | c :: l, false, k + 1, h => by
    rw [List.take_succ_cons]
    simp only [skp] at h ⊢
    by_cases e : cls c = 2 ∨ cls c = 3
    · rw [if_pos e] at h ⊢
      rw [if_pos e, skp_take l false k (by omega)]
    · rw [if_neg e] at h ⊢
      rw [if_neg e]
      by_cases e2 : c = 45 ∧ l.head? = some 45
      · rw [if_pos e2] at h ⊢
        cases k with
        | zero => omega
        | succ k =>
          have : (l.take (k + 1)).head? = some 45 := by
            cases l with
            | nil => simp at e2
            | cons d l => simpa using e2.2
          rw [if_pos ⟨e2.1, this⟩, skp_take l true (k + 1) (by omega)]
      · rw [if_neg e2] at h ⊢
        have : ¬ (c = 45 ∧ (l.take k).head? = some 45) := by
          rintro ⟨a, b⟩
          apply e2
          refine ⟨a, ?_⟩
          cases k with
          | zero => simp at b
          | succ k =>
            cases l with
            | nil => simp at b
            | cons d l => simpa using b
        rw [if_neg this]
theorem runN_take : ∀ (l : List UInt8) (k : Nat), runN l ≤ k → runN (l.take k) = runN l
  | [], k, _ => by simp
  | c :: l, 0, h => by
    simp only [runN] at h ⊢
    split at h
    · omega
    · rename_i e
      rw [if_neg e]
      rfl
  | c :: l, k + 1, h => by
    rw [List.take_succ_cons]
    simp only [runN] at h ⊢
    split
    · rename_i e
      rw [if_pos e] at h
      rw [runN_take l k (by omega)]
    · rfl
theorem txtN_take : ∀ (l : List UInt8) (b : Bool) (k : Nat), txtN b l ≤ k → txtN b (l.take k) = txtN b l
  | [], b, k, _ => by simp
  | c :: l, false, 0, h => by simp only [txtN] at h; omega
  | c :: l, true, 0, h => by
    simp only [txtN] at h ⊢
    split at h
    · omega
    · rename_i e
      rw [if_neg e]
      rfl
  | c :: l, false, k + 1, h => by
    rw [List.take_succ_cons]
    simp only [txtN] at h ⊢
    rw [txtN_take l _ k (by omega)]
  | c :: l, true, k + 1, h => by
    rw [List.take_succ_cons]
    simp only [txtN] at h ⊢
    split
    · rename_i e
      rw [if_pos e] at h
      rw [txtN_take l false k (by omega)]
    · rfl
theorem pieceN_take {c : UInt8} {l : List UInt8} {k : Nat} (h : pieceN (c :: l) ≤ k) : pieceN ((c :: l).take k) = pieceN (c :: l) := by
  cases k with
  | zero =>
    exfalso
    simp only [pieceN] at h
    split at h
    · omega
    · split at h
      · omega
      · split at h
        · cases l with
          | nil => simp [sgnN] at h
          | cons d l => simp only [sgnN] at h; split at h <;> omega
        · omega
  | succ k =>
    rw [List.take_succ_cons]
    simp only [pieceN] at h ⊢
    split
    · rename_i e
      rw [if_pos e] at h
      rw [runN_take l k (by omega)]
    · rename_i e
      rw [if_neg e] at h
      split
      · rename_i e2
        rw [if_pos e2] at h
        rw [txtN_take l false k (by omega)]
      · rename_i e2
        rw [if_neg e2] at h
        split
        · rename_i e3
          rw [if_pos e3] at h
          cases l with
          | nil => simp
          | cons d l =>
            cases k with
            | zero =>
              simp only [sgnN] at h ⊢
              split at h
              · omega
              · rename_i e4
                rw [if_neg e4]
                rfl
            | succ k => rfl
        · rfl
/-- What stands up to a token's end is cut alike. -/
theorem Toks.front {l : List UInt8} {a : Nat} {ts : List (Tk × Nat)} (h : Toks l a ts) : ∀ (i : Nat) (hi : i + 1 < ts.length) (m : List UInt8) (us : List (Tk × Nat)), Toks (l.take (ts[i + 1].2 - a) ++ 10 :: m) a us → us.take (i + 1) = ts.take (i + 1) := by
  induction h with
  | fin _ => intro i hi; simp at hi
  | @more l a t ts hne ht h2 ih =>
    intro i hi m us g
    obtain ⟨c, q, hs, hq⟩ := pce_cons hne
    have hle : ∀ j (hj : j < ts.length), a + skp false l + pieceN (skipL l) ≤ ts[j].2 := by
      intro j hj
      obtain ⟨t0, us0, e0⟩ := h2.head
      induction j with
      | zero =>
        have : ts[0] = (t0, a + skp false l + pieceN (skipL l) + skp false (rst l)) := by simp [e0]
        rw [this]
        show _ ≤ a + skp false l + pieceN (skipL l) + skp false (rst l)
        omega
      | succ j ihj =>
        have h1 := ihj (by omega)
        have h3 := ((h2.shift 0).places (S := List.replicate (a + skp false l + pieceN (skipL l)) 0 ++ rst l) (by simp) (by simp)).at j (by simpa using hj)
        simp at h3
        omega
    have hi' : i < ts.length := by simpa using hi
    have hE : skp false l + pieceN (skipL l) ≤ ts[i].2 - a := by have := hle i hi'; omega
    have e1 : ((t, a + skp false l) :: ts)[i + 1].2 - a = ts[i].2 - a := rfl
    rw [e1] at g
    obtain ⟨E, hEe⟩ : ∃ E, ts[i].2 - a = E := ⟨_, rfl⟩
    rw [hEe] at g hE
    have hp1 : 1 ≤ pieceN (skipL l) := by
      have : pieceN (skipL l) ≠ 0 := fun e => by
        unfold pce at ht hq
        rw [e] at hq
        simp at hq
      omega
    have k1 : skp false (l.take E) = skp false l := skp_take l false E (by omega)
    have k2 : skipL (l.take E) = (skipL l).take (E - skp false l) := by
      unfold skipL
      rw [k1, List.drop_take]
    have k3 : pieceN (skipL (l.take E)) = pieceN (skipL l) := by
      rw [k2, hs]
      rw [hs] at hE
      exact pieceN_take (by omega)
    have k4 : pce (l.take E) = pce l := by
      unfold pce
      rw [k3, k2, List.take_take, Nat.min_eq_left (by omega)]
    have k5 : rst (l.take E) = (rst l).take (E - skp false l - pieceN (skipL l)) := by
      unfold rst
      rw [k3, k2, List.drop_take]
    have k6 : skipL (l.take E) ≠ [] := by
      rw [k2, hs]
      cases hE2 : E - skp false l with
      | zero => omega
      | succ n => simp
    obtain ⟨j1, j2⟩ := skip_on m k6
    obtain ⟨j3, j4, j5⟩ := piece_on m k6 (by rw [k4]; exact ht)
    cases g with
    | fin g0 => rw [j2] at g0; simp at g0
    | more g0 g1 g2 =>
      rw [j4, k4, ht] at g1
      injection g1 with g1 _
      subst g1
      rw [j5, j1, k1, j3, k3, k5] at g2
      rw [j1, k1]
      rw [List.take_succ_cons, List.take_succ_cons]
      congr 1
      cases i with
      | zero => rfl
      | succ i =>
        refine ih i (by simpa using hi) m _ ?_
        have e3 : E - skp false l - pieceN (skipL l) = ts[i + 1].2 - (a + skp false l + pieceN (skipL l)) := by omega
        rw [← e3]
        exact g2
end Go.Proofs.YtlooelldkbdomaaGreatDoor
/- Plain mathematics of layer 11: what is read hangs on the tokens up to the next one alone. -/
namespace Go.Proofs.YtlooelldkbdomaaGreatDoor
open Go Go.RowKit
/-- Two parsers that agree on the next k tokens. -/
structure Ag (k : Nat) (s s' : PS) : Prop where
  rest : s.rest.take k = s'.rest.take k
  code : s.code = s'.code
  place : s.place = s'.place
def seesT (t : T) (x : List UInt8) : Bool := (decide (t.1.1 = 4) || decide (t.1.1 = 7)) && (t.1.2.2.data.toList == x)
def opT (t : T) : List (List UInt8 × Int) → Int
  | [] => 0
  | x :: l => if seesT t x.1 = true then x.2 else opT t l
theorem opT_eq (s : PS) : ∀ l, opOf s l = opT s.hd l
  | [] => rfl
  | x :: l => by
    show (if _ then _ else opOf s l) = (if _ then _ else opT s.hd l)
    rw [opT_eq s l]
    rfl
theorem opT_end {t : T} (h : t.1.1 = 1) : ∀ l, opT t l = 0
  | [] => rfl
  | x :: l => by
    show (if _ then _ else _) = _
    rw [if_neg (by unfold seesT; rw [h]; simp), opT_end h l]
theorem Ag.hd {k : Nat} {s s' : PS} (h : Ag (k + 1) s s') : s.hd = s'.hd := by
  have := h.rest
  unfold PS.hd
  cases h1 : s.rest with
  | nil =>
    rw [h1] at this
    cases h2 : s'.rest with
    | nil => rfl
    | cons u l => rw [h2] at this; simp at this
  | cons t l =>
    rw [h1] at this
    cases h2 : s'.rest with
    | nil => rw [h2] at this; simp at this
    | cons u l' => rw [h2] at this; simp at this; simp [this.1]
theorem Ag.less {k j : Nat} {s s' : PS} (h : Ag k s s') (hj : j ≤ k) : Ag j s s' := ⟨by have := congrArg (List.take j) h.rest; rwa [List.take_take, List.take_take, Nat.min_eq_left hj] at this, h.code, h.place⟩
theorem Ag.drop {k m : Nat} {s s' s1 s1' : PS} (h : Ag (m + k) s s') (e : s1.rest = s.rest.drop m) (e' : s1'.rest = s'.rest.drop m) (hc : s1'.code = s1.code) (hp : s1'.place = s1.place) : Ag k s1 s1' := by
  refine ⟨?_, hc.symm, hp.symm⟩
  have := congrArg (List.drop m) h.rest
  rw [List.drop_take, List.drop_take, Nat.add_sub_cancel_left] at this
  rw [e, e']
  exact this
theorem Ag.next {k : Nat} {s s' : PS} (h : Ag (k + 1) s s') : Ag k s.next s'.next := Ag.drop (m := 1) (by rw [Nat.add_comm]; exact h) (by simp [PS.next]) (by simp [PS.next]) h.code.symm h.place.symm
/-- A parser as it is, while it reads. -/
def Ok_ (s : PS) : Prop := Wf s.rest ∧ (s.code = 0 ∨ s.code = 112)
/-- Such a reading. -/
structure Local {α : Type} (f : Rd_ α) : Prop where
  ok : ∀ s a s1, f s (.ok a s1) → ∃ m, s1.rest = s.rest.drop m ∧ (Ok_ s → Ok_ s1) ∧ ∀ s', Ag (m + 1) s s' → ∃ s1', f s' (.ok a s1') ∧ s1'.rest = s'.rest.drop m ∧ s1'.code = s1.code ∧ s1'.place = s1.place
  bad : ∀ s p, f s (.bad p) → ∃ m, p = (PS.hd ⟨s.rest.drop m, 0, 0⟩).2 ∧ (Ok_ s → Wf (s.rest.drop m)) ∧ ∀ s', Ag (m + 1) s s' → f s' (.bad p)
theorem Local.ret {α : Type} (a : α) : Local (retR a) := by
  constructor
  · intro s b s1 h
    injection h with h1 h2
    subst h1 h2
    exact ⟨0, rfl, fun h => h, fun s' ha => ⟨s', rfl, rfl, ha.code.symm, ha.place.symm⟩⟩
  · intro s p h
    cases h
theorem Local.none {α : Type} : Local (badR (α := α)) := by
  constructor
  · intro s a s1 h
    cases h
  · intro s p h
    injection h with h
    exact ⟨0, by rw [h]; rfl, fun h => h.1, fun s' ha => by show Res.bad p = _; rw [h, ha.hd]⟩
theorem Local.bind {α β : Type} {f : Rd_ α} {g : α → Rd_ β} (hf : Local f) (hg : ∀ a, Local (g a)) : Local (thenR f g) := by
  constructor
  · rintro s b s2 (⟨p, _, h⟩ | ⟨a, s1, h1, h2⟩)
    · cases h
    · obtain ⟨m, e1, w1, k1⟩ := hf.ok _ _ _ h1
      obtain ⟨j, e2, w2, k2⟩ := (hg a).ok _ _ _ h2
      refine ⟨m + j, by rw [e2, e1, List.drop_drop], fun h => w2 (w1 h), fun s' ha => ?_⟩
      obtain ⟨s1', q1, q2, q3, q4⟩ := k1 s' (ha.less (by omega))
      obtain ⟨s2', r1, r2, r3, r4⟩ := k2 s1' (Ag.drop (m := m) (by rw [← Nat.add_assoc]; exact ha) e1 q2 q3 q4)
      exact ⟨s2', thenR_ok q1 r1, by rw [r2, q2, List.drop_drop], r3, r4⟩
  · rintro s p (⟨q, h, e⟩ | ⟨a, s1, h1, h2⟩)
    · injection e with e
      subst e
      obtain ⟨m, e1, w1, k1⟩ := hf.bad _ _ h
      exact ⟨m, e1, w1, fun s' ha => thenR_bad (k1 s' ha)⟩
    · obtain ⟨m, e1, w1, k1⟩ := hf.ok _ _ _ h1
      obtain ⟨j, e2, w2, k2⟩ := (hg a).bad _ _ h2
      refine ⟨m + j, by rw [e2, e1, List.drop_drop], fun h => by rw [← List.drop_drop, ← e1]; exact w2 (w1 h), fun s' ha => ?_⟩
      obtain ⟨s1', q1, q2, q3, q4⟩ := k1 s' (ha.less (by omega))
      exact thenR_ok q1 (k2 s1' (Ag.drop (m := m) (by rw [← Nat.add_assoc]; exact ha) e1 q2 q3 q4))
/-- The next token may be looked at. -/
theorem Local.look {α : Type} {F : T → Rd_ α} (h : ∀ t, Local (F t)) : Local (fun s r => F s.hd s r) := by
  constructor
  · intro s a s1 h1
    obtain ⟨m, e, w, k⟩ := (h _).ok _ _ _ h1
    refine ⟨m, e, w, fun s' ha => ?_⟩
    rw [← (ha.less (by omega : 1 ≤ m + 1) : Ag (0 + 1) s s').hd]
    exact k s' ha
  · intro s p h1
    obtain ⟨m, e, w, k⟩ := (h _).bad _ _ h1
    refine ⟨m, e, w, fun s' ha => ?_⟩
    rw [← (ha.less (by omega : 1 ≤ m + 1) : Ag (0 + 1) s s').hd]
    exact k s' ha
/-- A token that is not the end may be gone over. -/
theorem Local.over_ {α : Type} {f : Rd_ α} (hf : Local f) (c : T → Prop) [DecidablePred c] (hc : ∀ t, c t → t.1.1 ≠ 1) : Local (fun s r => c s.hd ∧ f s.next r) := by
  have wn : ∀ s : PS, c s.hd → Ok_ s → Ok_ s.next := fun s h hw => by
    have hne := hw.1.ne
    have := hc _ h
    refine ⟨?_, hw.2⟩
    have hw1 := hw.1
    show Wf s.rest.tail
    unfold PS.hd at this
    cases hr : s.rest with
    | nil => exact absurd hr hne
    | cons t l => rw [hr] at this hw1; exact hw1.tail this
  constructor
  · rintro s a s1 ⟨h0, h1⟩
    obtain ⟨m, e, w, k⟩ := hf.ok _ _ _ h1
    refine ⟨1 + m, by rw [e]; show List.drop m s.rest.tail = _; rw [← List.drop_one, List.drop_drop], fun h => w (wn s h0 h), fun s' ha => ?_⟩
    obtain ⟨s1', q1, q2, q3, q4⟩ := k s'.next (ha.next.less (by omega))
    refine ⟨s1', ⟨by rw [← (ha.less (by omega) : Ag (0 + 1) s s').hd]; exact h0, q1⟩, ?_, q3, q4⟩
    rw [q2]
    show List.drop m s'.rest.tail = _
    rw [← List.drop_one, List.drop_drop]
  · rintro s p ⟨h0, h1⟩
    obtain ⟨m, e, w, k⟩ := hf.bad _ _ h1
    have hd : s.next.rest.drop m = s.rest.drop (1 + m) := by show List.drop m s.rest.tail = _; rw [← List.drop_one, List.drop_drop]
    refine ⟨1 + m, by rw [e, hd], fun h => by rw [← hd]; exact w (wn s h0 h), fun s' ha => ⟨by rw [← (ha.less (by omega) : Ag (0 + 1) s s').hd]; exact h0, k s'.next (ha.next.less (by omega))⟩⟩
theorem Local.of {α : Type} {f g : Rd_ α} (h : Local f) (e : ∀ s r, f s r ↔ g s r) : Local g := by
  constructor
  · intro s a s1 k
    obtain ⟨m, e1, w, q⟩ := h.ok _ _ _ ((e _ _).2 k)
    refine ⟨m, e1, w, fun s' ha => ?_⟩
    obtain ⟨s1', q1, q2⟩ := q s' ha
    exact ⟨s1', (e _ _).1 q1, q2⟩
  · intro s p k
    obtain ⟨m, e1, w, q⟩ := h.bad _ _ ((e _ _).2 k)
    exact ⟨m, e1, w, fun s' ha => (e _ _).1 (q s' ha)⟩
theorem Local.or {α : Type} {f g : Rd_ α} (hf : Local f) (hg : Local g) : Local (fun s r => f s r ∨ g s r) := by
  constructor
  · rintro s a s1 (h | h)
    · obtain ⟨m, e, w, k⟩ := hf.ok _ _ _ h
      refine ⟨m, e, w, fun s' ha => ?_⟩
      obtain ⟨s1', q1, q2⟩ := k s' ha
      exact ⟨s1', Or.inl q1, q2⟩
    · obtain ⟨m, e, w, k⟩ := hg.ok _ _ _ h
      refine ⟨m, e, w, fun s' ha => ?_⟩
      obtain ⟨s1', q1, q2⟩ := k s' ha
      exact ⟨s1', Or.inr q1, q2⟩
  · rintro s p (h | h)
    · obtain ⟨m, e, w, k⟩ := hf.bad _ _ h
      exact ⟨m, e, w, fun s' ha => Or.inl (k s' ha)⟩
    · obtain ⟨m, e, w, k⟩ := hg.bad _ _ h
      exact ⟨m, e, w, fun s' ha => Or.inr (k s' ha)⟩
theorem Local.no {α : Type} : Local (fun (_ : PS) (_ : Res α) => False) := ⟨fun _ _ _ h => h.elim, fun _ _ h => h.elim⟩
/-- By the next token: over it, or not. -/
theorem Local.fork {α : Type} (c : T → Prop) [DecidablePred c] (hc : ∀ t, c t → t.1.1 ≠ 1) {F G : T → Rd_ α} (hF : ∀ t, Local (F t)) (hG : ∀ t, Local (G t)) : Local (fun s r => if c s.hd then F s.hd s.next r else G s.hd s r) := by
  have h1 : Local (fun s r => c s.hd ∧ F s.hd s.next r) := by
    have := Local.look (F := fun t s r => c s.hd ∧ F t s.next r) fun t => (hF t).over_ c hc
    exact this
  have h2 : Local (fun s r => (if c s.hd then (fun _ _ => False : Rd_ α) else G s.hd) s r) := Local.look (F := fun t => if c t then (fun _ _ => False : Rd_ α) else G t) fun t => by
    by_cases h : c t
    · simp only [if_pos h]; exact Local.no
    · simp only [if_neg h]; exact hG t
  refine (h1.or h2).of fun s r => ?_
  by_cases h : c s.hd
  · simp [h]
  · simp [h]
theorem seesT_kind {t : T} {x : List UInt8} (h : seesT t x = true) : t.1.1 ≠ 1 := by
  intro e
  unfold seesT at h
  rw [e] at h
  simp at h
theorem Local.sees {α : Type} (x : List UInt8) {F G : T → Rd_ α} (hF : ∀ t, Local (F t)) (hG : ∀ t, Local (G t)) : Local (fun s r => if s.sees x = true then F s.hd s.next r else G s.hd s r) := Local.fork (fun t => seesT t x = true) (fun _ h => seesT_kind h) hF hG
theorem Local.ifR {α : Type} {x : List UInt8} {f g : Rd_ α} (hf : Local f) (hg : Local g) : Local (ifR x f g) := Local.sees x (F := fun _ => f) (G := fun _ => g) (fun _ => hf) fun _ => hg
theorem Local.want : ∀ l, Local (wantR l)
  | [] => (Local.ret ()).of fun s r => Iff.rfl
  | x :: l => (Local.ifR (x := x) (Local.want l) Local.none).of fun s r => by
    unfold Go.Proofs.YtlooelldkbdomaaGreatDoor.ifR wantR badR
    rw [needsR]
    split <;> exact Iff.rfl
theorem Local.nam : Local namR := (Local.fork (fun t => t.1.1 = 3) (fun t h => by omega) (F := fun t => retR t.1.2.2) (G := fun _ => badR) (fun t => Local.ret _) fun _ => Local.none).of fun s r => by
  unfold namR nameR retR badR
  split <;> exact Iff.rfl
theorem Local.num : Local numR := (Local.fork (fun t => t.1.1 = 2) (fun t h => by omega) (F := fun t => retR t) (G := fun _ => badR) (fun t => Local.ret _) fun _ => Local.none).of fun s r => by
  unfold numR retR badR
  split <;> exact Iff.rfl
theorem Local.placeOf : Local placeR := (Local.look (F := fun t => retR t.2) fun _ => Local.ret _).of fun _ _ => Iff.rfl
theorem Ag.cnt {k n most : Nat} {s s' : PS} (h : Ag (k + 1) s s') : Ag (k + 1) (s.cnt n most) (s'.cnt n most) := by
  unfold PS.cnt
  by_cases c : n = most ∧ s.code = 0
  · rw [if_pos c, if_pos ⟨c.1, h.code ▸ c.2⟩]
    exact ⟨h.rest, rfl, by show (_ : Int) = _; rw [h.hd]⟩
  · rw [if_neg c, if_neg (fun q => c ⟨q.1, h.code.trans q.2⟩)]
    exact h
theorem cnt_rest (s : PS) (n most : Nat) : (s.cnt n most).rest = s.rest := by unfold PS.cnt; split <;> rfl
theorem cnt_ok {s : PS} (h : Ok_ s) (n most : Nat) : Ok_ (s.cnt n most) := by
  refine ⟨by rw [cnt_rest]; exact h.1, ?_⟩
  unfold PS.cnt
  split
  · exact Or.inr rfl
  · exact h.2
theorem Local.cnt {α : Type} {f : Rd_ α} (hf : Local f) (n most : Nat) : Local (fun s r => f (s.cnt n most) r) := by
  constructor
  · intro s a s1 h
    obtain ⟨m, e, w, k⟩ := hf.ok _ _ _ h
    rw [cnt_rest] at e
    refine ⟨m, e, fun h => w (cnt_ok h _ _), fun s' ha => ?_⟩
    obtain ⟨s1', q1, q2, q3⟩ := k (s'.cnt n most) ha.cnt
    exact ⟨s1', q1, by rw [q2, cnt_rest], q3⟩
  · intro s p h
    obtain ⟨m, e, w, k⟩ := hf.bad _ _ h
    rw [cnt_rest] at e w
    exact ⟨m, e, fun h => w (cnt_ok h _ _), fun s' ha => k (s'.cnt n most) ha.cnt⟩
end Go.Proofs.YtlooelldkbdomaaGreatDoor
/- Plain mathematics of layer 11: a source's fault hangs on the tokens up to it alone. -/
namespace Go.Proofs.YtlooelldkbdomaaGreatDoor
open Go Go.RowKit
def pXr (n : Nat) (g : Gl) : Rd_ Ex := fun s r => pX n g s = some r
theorem bind_iff {n : Nat} {g : Gl} {f : Ex → PS → Option (Res Ex)} {s : PS} {r : Res Ex} : bindR (pX n g s) f = some r ↔ thenR (pXr n g) (fun e s1 r => f e s1 = some r) s r := by
  constructor
  · intro h
    rcases bindR_some h with ⟨p, e, rfl⟩ | ⟨a, s1, e, h⟩
    · exact thenR_bad e
    · exact thenR_ok e h
  · rintro (⟨p, e, rfl⟩ | ⟨a, s1, e, h⟩)
    · exact bindR_bad e
    · rw [bindR_ok e]; exact h
theorem some_iff {α : Type} {a : α} {s : PS} {r : Res α} : some (Res.ok a s) = some r ↔ retR a s r := ⟨fun h => (Option.some.inj h).symm, fun h => by rw [show r = _ from h]⟩
theorem bad_iff {α : Type} {s : PS} {r : Res α} : some (Res.bad s.hd.2) = some r ↔ badR s r := ⟨fun h => (Option.some.inj h).symm, fun h => by rw [show r = _ from h]⟩
/-- Then, by the next token: one of two. -/
theorem col_local : Local colmR := by
  refine (Local.look (F := fun t => thenR namR fun a => ifR [46] (thenR namR fun b => retR (Ex.mk 3 0 v0 a b [] t.2)) (retR (Ex.mk 3 0 v0 ⟨#[]⟩ a [] t.2))) fun t => Local.nam.bind fun a => Local.ifR (Local.nam.bind fun b => Local.ret _) (Local.ret _)).of fun s r => ?_
  unfold colmR colR
  constructor
  · rintro (⟨p, h, rfl⟩ | ⟨a, s1, h, k⟩)
    · rw [← show _ = nameR s from h]
    · rw [← show _ = nameR s from h]
      unfold ifR at k
      by_cases hs : s1.sees [46] = true
      · rw [if_pos hs] at k
        simp only [if_pos hs]
        rcases k with ⟨p, h2, rfl⟩ | ⟨b, s2, h2, k⟩
        · rw [← show _ = nameR s1.next from h2]
        · rw [← show _ = nameR s1.next from h2]
          exact k
      · rw [if_neg hs] at k
        simp only [if_neg hs]
        exact k
  · intro h
    cases hn : nameR s with
    | bad p => rw [hn] at h; rw [h]; exact thenR_bad hn.symm
    | ok a s1 =>
      rw [hn] at h
      simp only at h
      refine thenR_ok hn.symm ?_
      unfold ifR
      by_cases hs : s1.sees [46] = true
      · rw [if_pos hs] at h ⊢
        cases hm : nameR s1.next with
        | bad p => rw [hm] at h; rw [h]; exact thenR_bad hm.symm
        | ok b s2 => rw [hm] at h; exact thenR_ok hm.symm h
      · rw [if_neg hs] at h ⊢
        exact h
theorem pX_local : ∀ (n : Nat) (g : Gl), Local (pXr n g)
  | 0, g => Local.no.of fun s r => ⟨fun h => h.elim, fun h => by simp [pXr, pX] at h⟩
  | n + 1, g => by
    have ih := pX_local n
    cases g with
    | or =>
      refine ((ih .and).bind (g := fun e s r => if s.sees wOr = true then pXr n (.rowL true s.hd.2 [e]) s r else retR e s r) fun e => ?_).of fun s r => ?_
      · exact Local.look (F := fun t s r => if seesT t wOr = true then pXr n (.rowL true t.2 [e]) s r else retR e s r) fun t => by
          by_cases h : seesT t wOr = true
          · simp only [if_pos h]; exact ih _
          · simp only [if_neg h]; exact Local.ret _
      · unfold pXr
        rw [pX, bind_iff]
        refine iff_of_eq (congrArg (fun g => thenR (pXr n .and) g s r) (funext fun e => funext fun s1 => funext fun r => ?_))
        by_cases h : s1.sees wOr = true
        · simp only [if_pos h]
        · simp only [if_neg h]; exact propext some_iff.symm
    | and =>
      refine ((ih .not).bind (g := fun e s r => if s.sees wAnd = true then pXr n (.rowL false s.hd.2 [e]) s r else retR e s r) fun e => ?_).of fun s r => ?_
      · exact Local.look (F := fun t s r => if seesT t wAnd = true then pXr n (.rowL false t.2 [e]) s r else retR e s r) fun t => by
          by_cases h : seesT t wAnd = true
          · simp only [if_pos h]; exact ih _
          · simp only [if_neg h]; exact Local.ret _
      · unfold pXr
        rw [pX, bind_iff]
        refine iff_of_eq (congrArg (fun g => thenR (pXr n .not) g s r) (funext fun e => funext fun s1 => funext fun r => ?_))
        by_cases h : s1.sees wAnd = true
        · simp only [if_pos h]
        · simp only [if_neg h]; exact propext some_iff.symm
    | rowL b a acc =>
      refine (Local.sees (if b = true then wOr else wAnd) (F := fun _ => thenR (fun s r => pXr n (if b = true then .and else .not) (s.cnt acc.length 8) r) fun e => pXr n (.rowL b a (acc ++ [e]))) (G := fun _ => retR (over (if b = true then 10 else 9) 0 a acc)) (fun _ => ((ih _).cnt _ _).bind fun e => ih _) fun _ => Local.ret _).of fun s r => ?_
      unfold pXr
      rw [pX]
      by_cases h : s.sees (if b = true then wOr else wAnd) = true
      · rw [if_pos h, if_pos h, bind_iff]; exact Iff.rfl
      · rw [if_neg h, if_neg h]; exact some_iff.symm
    | not =>
      refine (Local.sees wNot (F := fun t => thenR (pXr n .not) fun e => retR (over 8 0 t.2 [e])) (G := fun _ => pXr n .test) (fun t => (ih _).bind fun e => Local.ret _) fun _ => ih _).of fun s r => ?_
      unfold pXr
      rw [pX]
      by_cases h : s.sees wNot = true
      · rw [if_pos h, if_pos h, bind_iff]
        exact iff_of_eq (congrArg (fun g => thenR (pXr n .not) g s.next r) (funext fun e => funext fun s1 => funext fun r => propext some_iff.symm))
      · rw [if_neg h, if_neg h]
    | test =>
      refine ((ih .sum).bind (g := fun l s r => if s.sees wIs = true then ifR wNot (ifR wNull (retR (over 7 1 s.hd.2 [l])) badR) (ifR wNull (retR (over 7 0 s.hd.2 [l])) badR) s.next r else (if opT s.hd cmpO ≠ 0 then thenR (pXr n .sum) (fun r' => retR (over 6 (opT s.hd cmpO) s.hd.2 [l, r'])) s.next r else retR l s r)) fun l => ?_).of fun s r => ?_
      · refine Local.sees wIs (F := fun t => ifR wNot (ifR wNull (retR (over 7 1 t.2 [l])) badR) (ifR wNull (retR (over 7 0 t.2 [l])) badR)) (G := fun _ s r => if opT s.hd cmpO ≠ 0 then thenR (pXr n .sum) (fun r' => retR (over 6 (opT s.hd cmpO) s.hd.2 [l, r'])) s.next r else retR l s r) (fun t => Local.ifR (Local.ifR (Local.ret _) Local.none) (Local.ifR (Local.ret _) Local.none)) fun _ => ?_
        exact Local.fork (fun t => opT t cmpO ≠ 0) (fun t h e => h (opT_end e _)) (F := fun t => thenR (pXr n .sum) (fun r' => retR (over 6 (opT t cmpO) t.2 [l, r']))) (G := fun _ => retR l) (fun t => (ih _).bind fun e => Local.ret _) fun _ => Local.ret _
      · unfold pXr
        rw [pX, bind_iff]
        refine iff_of_eq (congrArg (fun g => thenR (pXr n .sum) g s r) (funext fun l => funext fun s1 => funext fun r => ?_))
        by_cases h : s1.sees wIs = true
        · simp only [if_pos h]
          unfold ifR
          by_cases h2 : s1.next.sees wNot = true
          · simp only [if_pos h2]
            by_cases h3 : s1.next.next.sees wNull = true
            · simp only [if_pos h3]; exact propext some_iff.symm
            · simp only [if_neg h3]; exact propext bad_iff.symm
          · simp only [if_neg h2]
            by_cases h3 : s1.next.sees wNull = true
            · simp only [if_pos h3]; exact propext some_iff.symm
            · simp only [if_neg h3]; exact propext bad_iff.symm
        · simp only [if_neg h]
          rw [opT_eq]
          by_cases h2 : opT s1.hd cmpO = 0
          · rw [if_neg (fun k : opT s1.hd cmpO ≠ 0 => k h2), if_pos h2]
            exact propext some_iff.symm
          · rw [if_pos (show opT s1.hd cmpO ≠ 0 from h2), if_neg h2, bind_iff]
            exact congrArg (fun g => thenR (pXr n .sum) g s1.next r) (funext fun e => funext fun s1 => funext fun r => propext some_iff.symm)
    | sum =>
      refine ((ih .prod).bind (g := fun l => pXr n (.sumL l)) fun l => ih _).of fun s r => ?_
      unfold pXr
      rw [pX, bind_iff]
      exact Iff.rfl
    | prod =>
      refine ((ih .fact).bind (g := fun l => pXr n (.prodL l)) fun l => ih _).of fun s r => ?_
      unfold pXr
      rw [pX, bind_iff]
      exact Iff.rfl
    | sumL l =>
      refine (Local.fork (fun t => opT t sumO ≠ 0) (fun t h e => h (opT_end e _)) (F := fun t => thenR (pXr n .prod) fun r' => pXr n (.sumL (over 5 (opT t sumO) t.2 [l, r']))) (G := fun _ => retR l) (fun t => (ih _).bind fun e => ih _) fun _ => Local.ret _).of fun s r => ?_
      unfold pXr
      rw [pX, opT_eq]
      by_cases h2 : opT s.hd sumO = 0
      · rw [if_pos h2, if_neg (fun k => k h2)]; exact some_iff.symm
      · rw [if_neg h2, if_pos h2, bind_iff]; exact Iff.rfl
    | prodL l =>
      refine (Local.fork (fun t => opT t prodO ≠ 0) (fun t h e => h (opT_end e _)) (F := fun t => thenR (pXr n .fact) fun r' => pXr n (.prodL (over 5 (opT t prodO) t.2 [l, r']))) (G := fun _ => retR l) (fun t => (ih _).bind fun e => ih _) fun _ => Local.ret _).of fun s r => ?_
      unfold pXr
      rw [pX, opT_eq]
      by_cases h2 : opT s.hd prodO = 0
      · rw [if_pos h2, if_neg (fun k => k h2)]; exact some_iff.symm
      · rw [if_neg h2, if_pos h2, bind_iff]; exact Iff.rfl
    | fact =>
      refine (Local.sees [45] (F := fun t => thenR (pXr n .fact) fun e => retR (over 4 0 t.2 [e])) (G := fun _ s r => if s.sees [40] = true then thenR (pXr n .or) (fun e => ifR [41] (retR e) badR) s.next r else (if s.hd.1.1 = 3 then colmR s r else (if s.hd.1.1 = 6 then retR (Ex.mk 2 0 v0 ⟨#[]⟩ s.hd.1.2.2 [] s.hd.2) s.next r else (if (seesT s.hd wNull = true ∨ seesT s.hd wFalse = true ∨ seesT s.hd wTrue = true ∨ s.hd.1.1 = 5 ∨ s.hd.1.1 = 2) then retR (Ex.mk 1 0 (if seesT s.hd wNull = true then v0 else if seesT s.hd wFalse = true then (2, 0, ⟨#[]⟩) else if seesT s.hd wTrue = true then (2, 1, ⟨#[]⟩) else if s.hd.1.1 = 5 then (3, 0, s.hd.1.2.2) else (1, s.hd.1.2.1, ⟨#[]⟩)) ⟨#[]⟩ ⟨#[]⟩ [] s.hd.2) s.next r else badR s r)))) (fun t => (ih _).bind fun e => Local.ret _) fun _ => ?_).of fun s r => ?_
      · refine Local.sees [40] (F := fun _ => thenR (pXr n .or) (fun e => ifR [41] (retR e) badR)) (G := fun _ s r => if s.hd.1.1 = 3 then colmR s r else (if s.hd.1.1 = 6 then retR (Ex.mk 2 0 v0 ⟨#[]⟩ s.hd.1.2.2 [] s.hd.2) s.next r else (if (seesT s.hd wNull = true ∨ seesT s.hd wFalse = true ∨ seesT s.hd wTrue = true ∨ s.hd.1.1 = 5 ∨ s.hd.1.1 = 2) then retR (Ex.mk 1 0 (if seesT s.hd wNull = true then v0 else if seesT s.hd wFalse = true then (2, 0, ⟨#[]⟩) else if seesT s.hd wTrue = true then (2, 1, ⟨#[]⟩) else if s.hd.1.1 = 5 then (3, 0, s.hd.1.2.2) else (1, s.hd.1.2.1, ⟨#[]⟩)) ⟨#[]⟩ ⟨#[]⟩ [] s.hd.2) s.next r else badR s r))) (fun _ => (ih _).bind fun e => Local.ifR (Local.ret _) Local.none) fun _ => ?_
        have h6 : Local (fun s r => if s.hd.1.1 = 6 then retR (Ex.mk 2 0 v0 ⟨#[]⟩ s.hd.1.2.2 [] s.hd.2) s.next r else (if (seesT s.hd wNull = true ∨ seesT s.hd wFalse = true ∨ seesT s.hd wTrue = true ∨ s.hd.1.1 = 5 ∨ s.hd.1.1 = 2) then retR (Ex.mk 1 0 (if seesT s.hd wNull = true then v0 else if seesT s.hd wFalse = true then (2, 0, ⟨#[]⟩) else if seesT s.hd wTrue = true then (2, 1, ⟨#[]⟩) else if s.hd.1.1 = 5 then (3, 0, s.hd.1.2.2) else (1, s.hd.1.2.1, ⟨#[]⟩)) ⟨#[]⟩ ⟨#[]⟩ [] s.hd.2) s.next r else badR s r)) := by
          refine Local.fork (fun t => t.1.1 = 6) (fun t h => by omega) (F := fun t => retR (Ex.mk 2 0 v0 ⟨#[]⟩ t.1.2.2 [] t.2)) (G := fun _ s r => if (seesT s.hd wNull = true ∨ seesT s.hd wFalse = true ∨ seesT s.hd wTrue = true ∨ s.hd.1.1 = 5 ∨ s.hd.1.1 = 2) then retR (Ex.mk 1 0 (if seesT s.hd wNull = true then v0 else if seesT s.hd wFalse = true then (2, 0, ⟨#[]⟩) else if seesT s.hd wTrue = true then (2, 1, ⟨#[]⟩) else if s.hd.1.1 = 5 then (3, 0, s.hd.1.2.2) else (1, s.hd.1.2.1, ⟨#[]⟩)) ⟨#[]⟩ ⟨#[]⟩ [] s.hd.2) s.next r else badR s r) (fun t => Local.ret _) fun _ => ?_
          exact Local.fork (fun t => seesT t wNull = true ∨ seesT t wFalse = true ∨ seesT t wTrue = true ∨ t.1.1 = 5 ∨ t.1.1 = 2) (fun t h => by rcases h with h | h | h | h | h <;> first | exact seesT_kind h | omega) (F := fun t => retR (Ex.mk 1 0 (if seesT t wNull = true then v0 else if seesT t wFalse = true then (2, 0, ⟨#[]⟩) else if seesT t wTrue = true then (2, 1, ⟨#[]⟩) else if t.1.1 = 5 then (3, 0, t.1.2.2) else (1, t.1.2.1, ⟨#[]⟩)) ⟨#[]⟩ ⟨#[]⟩ [] t.2)) (G := fun _ => badR) (fun t => Local.ret _) fun _ => Local.none
        exact (Local.look (F := fun t s r => if t.1.1 = 3 then colmR s r else _) fun t => by
          by_cases h : t.1.1 = 3
          · simp only [if_pos h]; exact col_local
          · simp only [if_neg h]; exact h6)
      · unfold pXr
        rw [pX]
        by_cases h : s.sees [45] = true
        · rw [if_pos h, if_pos h, bind_iff]
          exact iff_of_eq (congrArg (fun g => thenR (pXr n .fact) g s.next r) (funext fun e => funext fun s1 => funext fun r => propext some_iff.symm))
        · rw [if_neg h, if_neg h]
          by_cases h2 : s.sees [40] = true
          · rw [if_pos h2, if_pos h2, bind_iff]
            refine iff_of_eq (congrArg (fun g => thenR (pXr n .or) g s.next r) (funext fun e => funext fun s1 => funext fun r => ?_))
            unfold ifR
            by_cases h3 : s1.sees [41] = true
            · simp only [if_pos h3]; exact propext some_iff.symm
            · simp only [if_neg h3]; exact propext bad_iff.symm
          · rw [if_neg h2, if_neg h2]
            by_cases h3 : s.hd.1.1 = 3
            · rw [if_pos h3, if_pos h3]
              exact ⟨fun h => by rw [show r = _ from h], fun h => (Option.some.inj h).symm⟩
            · rw [if_neg h3, if_neg h3]
              by_cases h4 : s.hd.1.1 = 6
              · rw [if_pos h4, if_pos h4]; exact some_iff.symm
              · rw [if_neg h4, if_neg h4]
                have e1 : s.sees wNull = seesT s.hd wNull := rfl
                have e2 : s.sees wFalse = seesT s.hd wFalse := rfl
                have e3 : s.sees wTrue = seesT s.hd wTrue := rfl
                unfold litR
                rw [e1, e2, e3]
                by_cases k1 : seesT s.hd wNull = true
                · simp only [k1, if_true, true_or]; exact some_iff.symm
                · by_cases k2 : seesT s.hd wFalse = true
                  · simp only [k1, k2, if_true, true_or, or_true, if_false, Bool.false_eq_true]; exact some_iff.symm
                  · by_cases k3 : seesT s.hd wTrue = true
                    · simp only [k1, k2, k3, if_true, true_or, if_false, false_or, Bool.false_eq_true]; exact some_iff.symm
                    · by_cases k4 : s.hd.1.1 = 5
                      · simp only [k1, k2, k3, k4, if_true, true_or, if_false, false_or, Bool.false_eq_true]; exact some_iff.symm
                      · by_cases k5 : s.hd.1.1 = 2
                        · simp [k1, k2, k3, k5]; exact ⟨fun h => Eq.symm h, fun h => Eq.symm h⟩
                        · simp only [k1, k2, k3, k4, k5, if_false, or_self, Bool.false_eq_true]; exact bad_iff.symm
end Go.Proofs.YtlooelldkbdomaaGreatDoor
/- Plain mathematics of layer 11: the same fault, whatever stands behind it. -/
namespace Go.Proofs.YtlooelldkbdomaaGreatDoor
open Go Go.RowKit
theorem expr_local : Local exprR := by
  constructor
  · rintro s a s1 ⟨n, h⟩
    obtain ⟨m, e, w, k⟩ := (pX_local n .or).ok _ _ _ h
    refine ⟨m, e, w, fun s' ha => ?_⟩
    obtain ⟨s1', q1, q2⟩ := k s' ha
    exact ⟨s1', ⟨n, q1⟩, q2⟩
  · rintro s p ⟨n, h⟩
    obtain ⟨m, e, w, k⟩ := (pX_local n .or).bad _ _ h
    exact ⟨m, e, w, fun s' ha => ⟨n, k s' ha⟩⟩
/-- Rows of so many parts at most. -/
def LsN {α : Type} (f : Rd_ α) (most : Nat) : Nat → List α → Rd_ (List α)
  | 0, _ => fun _ _ => False
  | n + 1, acc => thenR (fun s r => f (s.cnt acc.length most) r) fun a => ifR [44] (LsN f most n (acc ++ [a])) (retR (acc ++ [a]))
theorem LsN_local {α : Type} {f : Rd_ α} (hf : Local f) (most : Nat) : ∀ n acc, Local (LsN f most n acc)
  | 0, _ => Local.no
  | n + 1, _ => (hf.cnt _ _).bind fun _ => Local.ifR (LsN_local hf most n _) (Local.ret _)
theorem LsN_of {α : Type} {f : Rd_ α} {most : Nat} {acc : List α} {s : PS} {r : Res (List α)} (h : LsR f most acc s r) : ∃ n, LsN f most n acc s r := by
  induction h with
  | bad h => exact ⟨1, thenR_bad h⟩
  | last h hs => exact ⟨1, thenR_ok h (ifR_not hs rfl)⟩
  | more h hs _ ih =>
    obtain ⟨n, ih⟩ := ih
    exact ⟨n + 1, thenR_ok h (ifR_yes hs ih)⟩
theorem LsN_to {α : Type} {f : Rd_ α} {most : Nat} : ∀ (n : Nat) {acc : List α} {s : PS} {r : Res (List α)}, LsN f most n acc s r → LsR f most acc s r
  | n + 1, acc, s, r, h => by
    rcases h with ⟨p, h, rfl⟩ | ⟨a, s1, h, k⟩
    · exact LsR.bad h
    · unfold ifR at k
      cases hs : s1.sees [44] with
      | true => rw [if_pos hs] at k; exact LsR.more h hs (LsN_to n k)
      | false => rw [if_neg (by rw [hs]; simp)] at k; rw [show r = _ from k]; exact LsR.last h hs
theorem list_local {α : Type} {f : Rd_ α} (hf : Local f) (most : Nat) : Local (listR f most) := by
  constructor
  · intro s a s1 h
    obtain ⟨n, h⟩ := LsN_of h
    obtain ⟨m, e, w, k⟩ := (LsN_local hf most n []).ok _ _ _ h
    refine ⟨m, e, w, fun s' ha => ?_⟩
    obtain ⟨s1', q1, q2⟩ := k s' ha
    exact ⟨s1', LsN_to n q1, q2⟩
  · intro s p h
    obtain ⟨n, h⟩ := LsN_of h
    obtain ⟨m, e, w, k⟩ := (LsN_local hf most n []).bad _ _ h
    exact ⟨m, e, w, fun s' ha => LsN_to n (k s' ha)⟩
theorem over_local (kind : Int) (p : Nat) : Local (overR kind p) := (Local.want _).bind fun _ => expr_local.bind fun _ => (Local.want _).bind fun _ => Local.ret _
theorem item_local : Local itemR := Local.look (F := fun t => ifR wCOUNT (thenR (wantR [[40], [42], [41]]) fun _ => retR (Ex.mk 11 0 v0 ⟨#[]⟩ ⟨#[]⟩ [] t.2)) (ifR wSUM (overR 12 t.2) (ifR wMIN (overR 13 t.2) (ifR wMAX (overR 14 t.2) exprR)))) fun _ => Local.ifR ((Local.want _).bind fun _ => Local.ret _) (Local.ifR (over_local _ _) (Local.ifR (over_local _ _) (Local.ifR (over_local _ _) expr_local)))
theorem set_local : Local setR := Local.look (F := fun t => thenR namR fun n => thenR (wantR [[61]]) fun _ => thenR exprR fun e => retR (n, e, (t.2 : Int))) fun _ => Local.nam.bind fun _ => (Local.want _).bind fun _ => expr_local.bind fun _ => Local.ret _
theorem sort_local : Local sortR := Local.num.bind fun _ => Local.ifR (Local.ret _) (Local.ret _)
theorem where_local : Local whereR := Local.ifR (expr_local.bind fun _ => Local.ret _) (Local.ret _)
theorem ins_local : Local insR := (Local.want _).bind fun _ => Local.nam.bind fun _ => (Local.want _).bind fun _ => (list_local expr_local _).bind fun _ => (Local.want _).bind fun _ => Local.ret _
theorem upd_local : Local updR := Local.nam.bind fun _ => (Local.want _).bind fun _ => (list_local set_local _).bind fun _ => where_local.bind fun _ => Local.ret _
theorem del_local : Local delR := (Local.want _).bind fun _ => Local.nam.bind fun _ => where_local.bind fun _ => Local.ret _
theorem star_local : Local starR := Local.ifR (Local.ret _) ((list_local item_local _).bind fun _ => Local.ret _)
theorem join_local : Local joinR := Local.ifR (Local.placeOf.bind fun _ => Local.nam.bind fun _ => (Local.want _).bind fun _ => expr_local.bind fun _ => Local.ret _) (Local.ret _)
theorem group_local : Local groupR := Local.ifR ((Local.want _).bind fun _ => list_local col_local _) (Local.ret _)
theorem order_local : Local orderR := Local.ifR ((Local.want _).bind fun _ => list_local sort_local _) (Local.ret _)
theorem limit_local : Local limitR := Local.ifR (Local.num.bind fun _ => Local.ret _) (Local.ret _)
theorem sel_local : Local selR := star_local.bind fun _ => (Local.want _).bind fun _ => Local.nam.bind fun _ => join_local.bind fun _ => where_local.bind fun _ => group_local.bind fun _ => order_local.bind fun _ => limit_local.bind fun _ => Local.ret _
theorem st_local : Local stR := Local.look (F := fun t => thenR (ifR wINSERT insR (ifR wUPDATE updR (ifR wDELETE delR (ifR wSELECT selR badR)))) fun x => retR { x with place := t.2 }) fun _ => (Local.ifR ins_local (Local.ifR upd_local (Local.ifR del_local (Local.ifR sel_local Local.none)))).bind fun _ => Local.ret _
/-- The end must be next. -/
def endR : Rd_ Unit := fun s r => if s.hd.1.1 = 1 then retR () s r else badR s r
theorem end_local : Local endR := Local.look (F := fun t s r => if t.1.1 = 1 then retR () s r else badR s r) fun t => by
  by_cases h : t.1.1 = 1
  · simp only [if_pos h]; exact Local.ret _
  · simp only [if_neg h]; exact Local.none
def wholeR : Rd_ Unit := thenR stR fun _ => ifR [59] endR endR
theorem whole_local : Local wholeR := st_local.bind fun _ => Local.ifR end_local end_local
theorem whole_end (s1 : PS) : ifR [59] endR endR s1 = endR (semi s1) := by
  unfold ifR semi
  funext r
  split <;> rfl
theorem outOf_ok (t : St) (s1 : PS) : outOf (.ok t s1) = if (semi s1).hd.1.1 = 1 then (if (semi s1).code = 0 then (if deepS t = true then .fault 111 t.place else .st t) else .fault (semi s1).code (semi s1).place) else .fault 110 (semi s1).hd.2 := rfl
theorem out_bad {s : PS} {r : Res St} {p : Int} (hs : Ok_ s) (h : stR s r) (e : outOf r = .fault 110 p) : ∃ q : Nat, p = q ∧ wholeR s (.bad q) := by
  cases r with
  | bad q =>
    injection e with _ e
    exact ⟨q, e.symm, thenR_bad h⟩
  | ok t s1 =>
    obtain ⟨m, _, w, _⟩ := st_local.ok _ _ _ h
    have hc : (semi s1).code = 0 ∨ (semi s1).code = 112 := by
      have := (w hs).2
      unfold semi
      split <;> exact this
    rw [outOf_ok] at e
    by_cases h1 : (semi s1).hd.1.1 = 1
    · rw [if_pos h1] at e
      by_cases h2 : (semi s1).code = 0
      · rw [if_pos h2] at e
        split at e
        · injection e with e _; exact absurd e (by decide)
        · cases e
      · rw [if_neg h2] at e
        injection e with e _
        rcases hc with hc | hc <;> rw [hc] at e <;> exact absurd e (by decide)
    · rw [if_neg h1] at e
      injection e with _ e
      exact ⟨_, e.symm, thenR_ok h (by rw [whole_end]; unfold endR; rw [if_neg h1]; rfl)⟩
theorem bad_out {s : PS} {q : Nat} (h : wholeR s (.bad q)) : ∃ r, stR s r ∧ outOf r = .fault 110 q := by
  rcases h with ⟨p, h, e⟩ | ⟨t, s1, h, k⟩
  · injection e with e
    subst e
    exact ⟨_, h, rfl⟩
  · refine ⟨_, h, ?_⟩
    rw [whole_end] at k
    unfold endR at k
    by_cases h1 : (semi s1).hd.1.1 = 1
    · rw [if_pos h1] at k; cases k
    · rw [if_neg h1] at k
      injection k with k
      rw [outOf_ok, if_neg h1, k]
/-- A fault of a source's tokens stands at one of them; and so it does of all that begins like this. -/
theorem fault_front {l : List T} {r : Res St} {p : Int} (hw : Wf l) (h : stR ⟨l, 0, 0⟩ r) (e : outOf r = .fault 110 p) : ∃ m, ∃ hm : m < l.length, p = (l[m].2 : Int) ∧ ∀ l', l'.take (m + 1) = l.take (m + 1) → ∃ r', stR ⟨l', 0, 0⟩ r' ∧ outOf r' = .fault 110 p := by
  obtain ⟨q, rfl, hb⟩ := out_bad ⟨hw, Or.inl rfl⟩ h e
  obtain ⟨m, e1, w1, k1⟩ := whole_local.bad _ _ hb
  have hne := (w1 ⟨hw, Or.inl rfl⟩).ne
  have hm : m < l.length := by
    apply Nat.lt_of_not_le
    intro hle
    exact hne (List.drop_eq_nil_of_le hle)
  refine ⟨m, hm, ?_, fun l' hl' => bad_out (k1 ⟨l', 0, 0⟩ ⟨hl'.symm, rfl, rfl⟩)⟩
  rw [e1]
  show ((List.headD (l.drop m) _).2 : Int) = _
  rw [List.drop_eq_getElem_cons hm]
  rfl
end Go.Proofs.YtlooelldkbdomaaGreatDoor
/- Plain mathematics of layer 11: what stands behind the first wrong token doesn't matter. -/
namespace Go.Proofs.YtlooelldkbdomaaGreatDoor
open Go Go.RowKit
theorem Pl.rise {S : List UInt8} {l : List T} (h : Pl S l) : ∀ (j i : Nat) (hj : j < l.length) (hi : i < j), l[i].2 < l[j].2
  | 0, _, _, hi => absurd hi (Nat.not_lt_zero _)
  | j + 1, i, hj, hi => by
    have h1 := (h.at j hj).1
    by_cases e : i = j
    · subst e
      exact h1
    · have := Pl.rise h j i (by omega) (by omega)
      omega
theorem first_none {S : List UInt8} {l : List T} {r : Res St} {p : Int} (ht : Toks S 0 l) (h : stR ⟨l, 0, 0⟩ r) (e : outOf r = .fault 110 p) (hn : ∀ i (hi : i + 1 < l.length), (l[i].2 : Int) ≠ p) : p = S.length := by
  obtain ⟨m, hm, hp, _⟩ := fault_front (toks_wf ht) h e
  obtain ⟨h0, hl⟩ := (ht.places (S := S) rfl (Nat.zero_le _)).last
  have : m = l.length - 1 := by
    by_cases hlt : m + 1 < l.length
    · exact absurd hp.symm (hn m hlt)
    · omega
  subst this
  rw [hp, hl]
theorem first_some {S : List UInt8} {l : List T} {r : Res St} {p : Int} (ht : Toks S 0 l) (h : stR ⟨l, 0, 0⟩ r) (e : outOf r = .fault 110 p) (i : Nat) (hi : i + 1 < l.length) (hp : (l[i].2 : Int) = p) : l[i + 1].2 ≤ S.length ∧ ∀ t us, Toks (S.take l[i + 1].2 ++ 10 :: t) 0 us → ∃ r', stR ⟨us, 0, 0⟩ r' ∧ outOf r' = .fault 110 p := by
  obtain ⟨m, hm, hpm, hk⟩ := fault_front (toks_wf ht) h e
  have hPl := ht.places (S := S) rfl (Nat.zero_le _)
  have hmi : m = i := by
    have e1 : l[m].2 = l[i].2 := by omega
    by_cases h1 : m < i
    · have := hPl.rise i m (by omega) h1; omega
    · by_cases h2 : i < m
      · have := hPl.rise m i hm h2; omega
      · omega
  subst hmi
  exact ⟨(hPl.at m hi).2.1, fun t us hu => hk us (ht.front m hi t us (by simpa using hu))⟩
theorem parse_ways {s : ByteArray} {w w' : World} {e : Ending} (h : ParseP s w e w') : ∃ fc fp t v, e = .returned (.tuple #[v, .agg #[.int .i64 fc, .int .i64 fp]]) ∧ StV w' w.heap.size t v ∧ Below w.heap.size w w' ∧ (fc = 110 → ParseIs s (.fault 110 fp)) := by
  obtain ⟨o, ho, hb, hm⟩ := h
  cases o with
  | fault c p =>
    obtain ⟨v, he, hv⟩ := hm
    exact ⟨c, p, st0, v, he, hv, hb, fun h => h ▸ ho⟩
  | st t =>
    obtain ⟨v, he, hv⟩ := hm
    exact ⟨0, 0, t, v, he, hv, hb, fun h => absurd h (by decide)⟩
theorem parse_in {s : ByteArray} {l : List T} {q : Nat} {p : Int} (h : ParseIs s (.fault 110 p)) (hs : ScanIs s l q 0) : Toks s.data.toList 0 l ∧ s.size ≤ 1000 ∧ ∃ r, stR ⟨l, 0, 0⟩ r ∧ outOf r = .fault 110 p := by
  obtain ⟨l', p', c', h1, h2⟩ := h
  obtain ⟨rfl, rfl, rfl⟩ := h1.one hs
  have ht : Toks s.data.toList 0 l' ∧ s.size ≤ 1000 := by
    rcases hs with ⟨_, _, _, h⟩ | ⟨h0, ⟨_, _, h⟩ | ⟨_, h⟩⟩
    · exact absurd h (by decide)
    · exact ⟨h, h0⟩
    · exact absurd rfl h.ne
  rcases h2 with ⟨h, _⟩ | ⟨_, r, hr, e⟩
  · exact absurd rfl h
  · exact ⟨ht.1, ht.2, r, hr, e.symm⟩
theorem parse_other {u : ByteArray} {us : List T} {q : Nat} {r : Res St} {p : Int} (hs : ScanIs u us q 0) (h : stR ⟨us, 0, 0⟩ r) (e : outOf r = .fault 110 p) : ParseIs u (.fault 110 p) := ⟨us, q, 0, hs, Or.inr ⟨rfl, r, h, e.symm⟩⟩
end Go.Proofs.YtlooelldkbdomaaGreatDoor
/- Walks of layer 11: SyntaxFirst. -/
namespace Go.Proofs.YtlooelldkbdomaaGreatDoor
open Go.RowKit

set_option maxHeartbeats 8000000 in
set_option maxRecDepth 100000 in
theorem syntaxFirst_law (s t : ByteArray) (w : World) (hv : SV w) : Calls Tryz.prog 7 #[.string s, .string t] w fun e w' => e = .returned (.bool true) ∧ Below w.heap.size w w' := by
  have HV := Lib.hid hv
  clear hv
  go_enter Tryz.func7, Tryz.ntmps7
  go_wp2_with fail
  refine (synAwake_any w HV.out).mono ?_
  rintro e w1 ⟨rfl, hb⟩
  have HB := Lib.hid hb
  clear hb
  go_wp2_with fail
  refine (scan_any s _ (HV.out.later HB.out)).mono ?_
  rintro e w2 ⟨la, lc, l, p0, c, rfl, hsc, hown, hlen, hb2⟩
  have HSC := Lib.hid hsc
  have HOW := Lib.hid hown
  have HB2 := Lib.hid (HB.out.trans (hb2.mono HB.out.size))
  clear hsc hown hb2 HB
  go_wp2_with fail
  refine (synParse_any s _ (HV.out.later HB2.out)).mono ?_
  intro e w3 hpp
  obtain ⟨fc, fp, x, v, rfl, ⟨a0, a1, a2, a3, a4, a5, a6, c0, c1, c2, c3, c4, c5, c6, rfl, hx⟩, hb3, hpi⟩ := parse_ways hpp
  have HPI := Lib.hid hpi
  have HB3 := Lib.hid hb3
  clear hpp hx hb3 hpi
  simp only [stC]
  go_upto_region 4 with fail
  obtain ⟨W4, hW4⟩ : ∃ W, (w3.alloc (.cells #[.int .i64 x.kind, .string x.table, .string x.join, .slice a0 x.on.length c0, .slice a1 x.whr.length c1, .slice a2 x.items.length c2, .bool x.star, .slice a3 x.sets.length c3, .slice a4 x.groups.length c4, .slice a5 x.sorts.length c5, .slice a6 x.limit.length c6, .int .i64 x.place, .int .i64 x.joinAt] 27)).alloc (.cells #[.int .i64 fc, .int .i64 fp] 30) = W := ⟨_, rfl⟩
  rw [hW4]
  obtain ⟨-, r4, k4⟩ := hW4 ▸ two_new (w := w3) (o := .cells #[.int .i64 x.kind, .string x.table, .string x.join, .slice a0 x.on.length c0, .slice a1 x.whr.length c1, .slice a2 x.items.length c2, .bool x.star, .slice a3 x.sets.length c3, .slice a4 x.groups.length c4, .slice a5 x.sorts.length c5, .slice a6 x.limit.length c6, .int .i64 x.place, .int .i64 x.joinAt] 27) (p := .cells #[.int .i64 fc, .int .i64 fp] 30)
  clear hW4
  have R4 := Lib.hid r4
  have K4 : Hid (Below w2.heap.size w2 W4) := HB3.out.trans (k4.mono HB3.out.size)
  have HB4 := Lib.hid (HB2.out.trans (K4.out.mono HB2.out.size))
  clear k4
  have g0 : W4.cell? ⟨w3.heap.size + 1, 0, none⟩ = some (.int .i64 fc) := by simp [World.cell?, r4]
  have g1 : W4.cell? ⟨w3.heap.size + 1, 1, none⟩ = some (.int .i64 fp) := by simp [World.cell?, r4]
  clear r4
  by_cases hc : c = 0
  · subst hc
    by_cases hf : fc = 110
    · subst hf
      obtain ⟨ht, hsz, r, hr, hor⟩ := parse_in (HPI.out rfl) HSC.out
      have HT := Lib.hid ht
      have HRR := Lib.hid hr
      have HOR := Lib.hid hor
      obtain ⟨g, c9, e9, hBg, hgl, hnc, htr⟩ := tr_own HOW.out (toks_wf ht).ne
      injection e9 with e1 _ e3
      subst e1 e3
      have HTR := Lib.hid htr
      clear ht hr hor htr HPI HSC HOW hBg
      go_wp2
      go_loopw [11, 12] (fun ev iv wr => ∃ (k : Nat) (E : Int), ev = .int .i64 E ∧ iv = .int .i64 (k : Int) ∧ k + 1 ≤ l.length ∧ ((E = -1 ∧ ∀ i (hi : i + 1 < l.length), i < k → (l[i].2 : Int) ≠ fp) ∨ ∃ i, ∃ hi : i + 1 < l.length, (l[i].2 : Int) = fp ∧ E = (l[i + 1].2 : Int)) ∧ Below W4.heap.size W4 wr) (fun _ i _ => l.length - (intOf i).toNat)
      case atStart => exact ⟨0, -1, rfl, rfl, by have := List.length_pos_iff.2 (toks_wf HT.out).ne; omega, Or.inl ⟨rfl, fun _ _ h => absurd h (Nat.not_lt_zero _)⟩, by first | exact Below.refl _ _ | exact (Below.refl _ _).drew⟩
      case round =>
        obtain ⟨k, E, rfl, rfl, hk, hE, hb⟩ := hrel
        have HE := Lib.hid hE
        have HW := Lib.hid hb
        have q0 := (hb.cell (World.block_lt_of_cell? _ _ g0)).trans g0
        have q1 := (hb.cell (World.block_lt_of_cell? _ _ g1)).trans g1
        have HBW := Lib.hid (K4.out.trans (hb.mono K4.out.size))
        clear hE hb
        by_cases hlt : k + 1 < l.length
        · have hlti : (k : Int) + 1 < (l.length : Int) := by omega
          have hlti0 : (k : Int) < (l.length : Int) := by omega
          obtain ⟨b1, o1, e1, -, -, -, t3⟩ := HTR.out k (by omega)
          obtain ⟨b2, o2, e2, -, -, -, u3⟩ := HTR.out (k + 1) (by omega)
          injection e1 with e1
          injection e1 with e1 e11 _
          subst e1 e11
          injection e2 with e2
          injection e2 with e2 e21 _
          subst e2 e21
          have t4 := (HBW.out.cell (World.block_lt_of_cell? _ _ t3)).trans t3
          have u4 := (HBW.out.cell (World.block_lt_of_cell? _ _ u3)).trans u3
          clear t3 u3
          obtain ⟨P, hP⟩ : ∃ P, l[k].2 = P := ⟨_, rfl⟩
          obtain ⟨Q, hQ⟩ : ∃ Q, l[k + 1].2 = Q := ⟨_, rfl⟩
          have HPQ : Hid (l[k].2 = P ∧ l[k + 1].2 = Q) := ⟨hP, hQ⟩
          rw [hP] at t4
          rw [hQ] at u4
          simp only [Nat.zero_add] at t4 u4
          clear hP hQ
          by_cases hpe : (P : Int) = fp
          · have HN : Hid ((∃ i, ∃ hi : i + 1 < l.length, (l[i].2 : Int) = fp ∧ (Q : Int) = (l[i + 1].2 : Int))) := ⟨k, hlt, by rw [HPQ.out.1]; exact hpe, by rw [HPQ.out.2]⟩
            go_wp2
            go_quiet (fail)
            go_wp2
            go_roundw
            case rel => exact ⟨k + 1, Q, rfl, by go_num, by omega, Or.inr HN.out, by have h0 := HW.out; have hz := h0.size; (repeat (first | exact Below.refl _ _ | assumption | refine Below.drew ?_ | refine below_drewN ?_ _ | refine Below.alloc ?_ (by first | omega | (simp; done) | (simp; omega)) _ | refine Below.setCell ?_ (by first | omega | (simp; done) | (simp; omega)) _ | refine Below.trans ?_ (Below.mono (by assumption) (by first | omega | (simp; done) | (simp; omega)))))⟩
            case measure => simp [intOf]; omega
          · have HN : Hid ((E = -1 ∧ ∀ i (hi : i + 1 < l.length), i < k + 1 → (l[i].2 : Int) ≠ fp) ∨ ∃ i, ∃ hi : i + 1 < l.length, (l[i].2 : Int) = fp ∧ E = (l[i + 1].2 : Int)) := by
              rcases HE.out with ⟨h1, h2⟩ | h
              · refine Or.inl ⟨h1, fun i hi hik => ?_⟩
                by_cases e : i = k
                · subst e; rw [HPQ.out.1]; exact hpe
                · exact h2 i hi (by omega)
              · exact Or.inr h
            go_wp2
            go_quiet (fail)
            go_wp2
            go_roundw
            case rel => exact ⟨k + 1, E, rfl, by go_num, by omega, HN.out, by have h0 := HW.out; have hz := h0.size; (repeat (first | exact Below.refl _ _ | assumption | refine Below.drew ?_ | refine below_drewN ?_ _ | refine Below.alloc ?_ (by first | omega | (simp; done) | (simp; omega)) _ | refine Below.setCell ?_ (by first | omega | (simp; done) | (simp; omega)) _ | refine Below.trans ?_ (Below.mono (by assumption) (by first | omega | (simp; done) | (simp; omega)))))⟩
            case measure => simp [intOf]; omega
        · have hnlt : ¬ (k : Int) + 1 < (l.length : Int) := by omega
          have hkk : k + 1 = l.length := by omega
          rcases HE.out with ⟨rfl, hno⟩ | ⟨i, hi, hip, rfl⟩
          · have hfl : fp = (s.size : Int) := by have := first_none HT.out HRR.out HOR.out (fun i hi => hno i hi (by omega)); simpa using this
            have HB5 := Lib.hid (HB4.out.trans (HW.out.mono HB4.out.size))
            rw [hfl] at q1
            clear hno hfl hkk
            go_wp2
            exact bodyPost_ret (v := .bool true) (by simp [results, Tryz.results7, go_sem]) rfl ⟨rfl, HB5.out⟩
          · obtain ⟨hle, hfr⟩ := first_some HT.out HRR.out HOR.out i hi hip
            have HFR := Lib.hid hfr
            have hle2 : l[i + 1].2 ≤ s.size := by simpa using hle
            obtain ⟨F, hF⟩ : ∃ F, l[i + 1].2 = F := ⟨_, rfl⟩
            rw [hF] at HFR hle2 ⊢
            clear hF hle hfr hip HE hi hkk
            have hFi : (F : Int) ≤ (s.size : Int) := by omega
            have hFn : ¬ (s.size : Int) < (F : Int) := by omega
            have hF0 : (0 : Int) ≤ (F : Int) := by omega
            have hF1 : ¬ (F : Int) < 0 := by omega
            have HB5 := Lib.hid (HB4.out.trans (HW.out.mono HB4.out.size))
            by_cases htl : (1000 : Int) < (t.size : Int)
            · go_wp2
              exact bodyPost_ret (v := .bool true) (by simp [results, Tryz.results7, go_sem]) rfl ⟨rfl, HB5.out⟩
            · obtain ⟨X, hX⟩ : ∃ X, s.extract 0 F = X := ⟨_, rfl⟩
              have hXs : X.size ≤ 1000 := by rw [← hX, ByteArray.size_extract]; omega
              have hXl : X.data.toList = s.data.toList.take F := by rw [← hX]; simp
              have HXL := Lib.hid hXl
              have gg1 : ¬ 9223372036854775807 < X.size + 1 := by omega
              have gg2 : ¬ 9223372036854775807 < X.size + 1 + t.size := by omega
              clear hXl
              go_wp2_with fail
              clear hX
              obtain ⟨U, hU⟩ : ∃ U, X ++ ⟨#[10]⟩ ++ t = U := ⟨_, rfl⟩
              rw [hU]
              have HU : Hid (U.data.toList = s.data.toList.take F ++ 10 :: t.data.toList) := Lib.hid (by rw [← hU, ← HXL.out]; simp)
              clear hU
              refine (scan_any U _ (HV.out.later HB5.out)).mono ?_
              rintro e w6 ⟨la6, lc6, us, p6, c6_, rfl, hsc6, -, -, hb6⟩
              have HB6 := Lib.hid (HB5.out.trans (hb6.mono HB5.out.size))
              have q2 := (hb6.cell (World.block_lt_of_cell? _ _ q0)).trans q0
              have q3 := (hb6.cell (World.block_lt_of_cell? _ _ q1)).trans q1
              clear hb6
              by_cases hc6 : c6_ = 0
              · subst hc6
                have htu : Toks U.data.toList 0 us := by
                  rcases hsc6 with ⟨_, _, _, h⟩ | ⟨_, ⟨_, _, h⟩ | ⟨_, h⟩⟩
                  · exact absurd h (by decide)
                  · exact h
                  · exact absurd rfl h.ne
                obtain ⟨r2, hr2, hor2⟩ := HFR.out t.data.toList us (by rw [← HU.out]; exact htu)
                have HP2 := Lib.hid (parse_other hsc6 hr2 hor2)
                clear hsc6 htu hr2 hor2
                go_wp2_with fail
                refine (synParse_any U _ (HV.out.later HB6.out)).mono ?_
                rintro e w7 ⟨o, hp, hb7, hm⟩
                obtain rfl := hp.one HP2.out
                obtain ⟨v, rfl, ⟨b0_, b1_, b2_, b3_, b4_, b5_, b6_, d0_, d1_, d2_, d3_, d4_, d5_, d6_, rfl, hx⟩⟩ := hm
                simp only [stC, st0, List.length_nil]
                have q4 := (hb7.cell (World.block_lt_of_cell? _ _ q2)).trans q2
                have q5 := (hb7.cell (World.block_lt_of_cell? _ _ q3)).trans q3
                have HB7 := Lib.hid (HB6.out.trans (hb7.mono HB6.out.size))
                clear hp hx hb7
                go_upto_region 19 with fail
                obtain ⟨W8, hW8⟩ : ∃ W, (w7.alloc (.cells #[.int .i64 0, .string ⟨#[]⟩, .string ⟨#[]⟩, .slice b0_ 0 d0_, .slice b1_ 0 d1_, .slice b2_ 0 d2_, .bool false, .slice b3_ 0 d3_, .slice b4_ 0 d4_, .slice b5_ 0 d5_, .slice b6_ 0 d6_, .int .i64 0, .int .i64 0] 27)).alloc (.cells #[.int .i64 110, .int .i64 fp] 30) = W := ⟨_, rfl⟩
                rw [hW8]
                obtain ⟨-, r8, k8⟩ := hW8 ▸ two_new (w := w7) (o := .cells #[.int .i64 0, .string ⟨#[]⟩, .string ⟨#[]⟩, .slice b0_ 0 d0_, .slice b1_ 0 d1_, .slice b2_ 0 d2_, .bool false, .slice b3_ 0 d3_, .slice b4_ 0 d4_, .slice b5_ 0 d5_, .slice b6_ 0 d6_, .int .i64 0, .int .i64 0] 27) (p := .cells #[.int .i64 110, .int .i64 fp] 30)
                clear hW8
                have q6 := (k8.cell (World.block_lt_of_cell? _ _ q4)).trans q4
                have q7 := (k8.cell (World.block_lt_of_cell? _ _ q5)).trans q5
                have j0 : W8.cell? ⟨w7.heap.size + 1, 0, none⟩ = some (.int .i64 110) := by simp [World.cell?, r8]
                have j1 : W8.cell? ⟨w7.heap.size + 1, 1, none⟩ = some (.int .i64 fp) := by simp [World.cell?, r8]
                have HB8 := Lib.hid (HB7.out.trans (k8.mono HB7.out.size))
                clear r8 k8
                go_wp2
                exact bodyPost_ret (v := .bool true) (by simp [results, Tryz.results7, go_sem]) rfl ⟨rfl, HB8.out⟩
              · have hce : (c6_ != 0) = true := by simpa using hc6
                clear hc6 hsc6
                go_wp2
                exact bodyPost_ret (v := .bool true) (by simp [results, Tryz.results7, go_sem]) rfl ⟨rfl, HB6.out⟩
    · have hfe : (fc != 110) = true := by simpa using hf
      clear hf
      go_wp2
      exact bodyPost_ret (v := .bool true) (by simp [results, Tryz.results7, go_sem]) rfl ⟨rfl, HB4.out⟩
  · have hce : (c != 0) = true := by simpa using hc
    clear hc
    go_wp2
    exact bodyPost_ret (v := .bool true) (by simp [results, Tryz.results7, go_sem]) rfl ⟨rfl, HB4.out⟩
end Go.Proofs.YtlooelldkbdomaaGreatDoor
