/- Plain mathematics of layer 10: literals of texts, and two sources one behind the other. -/
import Derived.Test.YtkigilgoolnaaaaDoorM114
namespace Go.Proofs.YtkigilgoolnaaaaDoor
open Go Go.RowKit

/-- Does a text end (true: behind a mark)? -/
def txtC : Bool → List UInt8 → Bool
  | b, [] => b
  | false, c :: l => txtC (decide (c = 39)) l
  | true, c :: l => if c = 39 then txtC false l else true
theorem txtN_open : ∀ (l : List UInt8) (b : Bool), txtC b l = false → txtN b l = l.length
  | [], b, _ => by cases b <;> rfl
  | c :: l, false, h => by
    simp only [txtC] at h
    simp only [txtN, List.length_cons, txtN_open l _ h]
    omega
  | c :: l, true, h => by
    simp only [txtC] at h
    simp only [txtN]
    split at h
    · rename_i hc
      rw [if_pos hc, txtN_open l _ h, List.length_cons]
      omega
    · exact absurd h (by simp)
theorem txtN_closed : ∀ (l m : List UInt8) (b : Bool), txtC b l = true → m.head? ≠ some 39 → txtN b (l ++ m) = txtN b l
  | [], m, b, h, hm => by
    have hb : b = true := h
    subst hb
    cases m with
    | nil => rfl
    | cons d m =>
      simp only [List.nil_append, txtN]
      rw [if_neg (by simpa using hm)]
  | c :: l, m, false, h, hm => by
    simp only [txtC] at h
    simp only [List.cons_append, txtN, txtN_closed l m _ h hm]
  | c :: l, m, true, h, hm => by
    simp only [txtC] at h
    simp only [List.cons_append, txtN]
    split at h
    · rename_i hc
      rw [if_pos hc, if_pos hc, txtN_closed l m _ h hm]
    · rename_i hc
      rw [if_neg hc, if_neg hc]
theorem hexd_mark (i : Nat) (h : i < 16) : hexd i ≠ 39 := by
  have : ∀ i : Fin 16, hexd i.val ≠ 39 := by decide +kernel
  exact this ⟨i, h⟩
theorem txt_qbs : ∀ (x r : List UInt8), txtN false (qbs x ++ 39 :: r) = (qbs x).length + 1 + txtN true r ∧ txtC false (qbs x ++ 39 :: r) = txtC true r
  | [], r => by
    constructor
    · show 1 + txtN (decide ((39 : UInt8) = 39)) r = 0 + 1 + txtN true r
      rw [show decide ((39 : UInt8) = 39) = true from rfl]
    · rfl
  | c :: x, r => by
    obtain ⟨h1, h2⟩ := txt_qbs x r
    have hc := UInt8.toNat_lt c
    rw [qbs_cons, List.append_assoc]
    by_cases c1 : c.toNat = 39
    · rw [qb_mark c1]
      simp only [List.cons_append, List.nil_append, txtN, txtC, decide_true, if_true, List.length_cons]
      exact ⟨by omega, h2⟩
    · by_cases c2 : c.toNat = 92 ∨ c.toNat < 32 ∨ 126 < c.toNat
      · rw [qb_hex c1 c2]
        have e0 : decide ((92 : UInt8) = 39) = false := by decide
        have e1 : decide (hexd (c.toNat / 16) = 39) = false := decide_eq_false (hexd_mark _ (by omega))
        have e2 : decide (hexd (c.toNat % 16) = 39) = false := decide_eq_false (hexd_mark _ (by omega))
        simp only [List.cons_append, List.nil_append, txtN, txtC, e0, e1, e2, List.length_cons]
        exact ⟨by omega, h2⟩
      · rw [qb_plain c1 c2]
        have e0 : decide (c = 39) = false := decide_eq_false fun q => c1 (by rw [q]; rfl)
        simp only [List.cons_append, List.nil_append, txtN, txtC, e0, List.length_cons]
        exact ⟨by omega, h2⟩
theorem qb_high (c d : UInt8) (h : d ∈ qb c) : 32 ≤ d.toNat := by
  have hc := UInt8.toNat_lt c
  by_cases c1 : c.toNat = 39
  · rw [qb_mark c1] at h
    simp at h
    rw [h]; decide
  · by_cases c2 : c.toNat = 92 ∨ c.toNat < 32 ∨ 126 < c.toNat
    · rw [qb_hex c1 c2] at h
      simp only [List.mem_cons, List.not_mem_nil, or_false] at h
      rcases h with rfl | rfl | rfl
      · decide
      · have := (hexd_at_list _ (by omega : c.toNat / 16 < 16)).1; omega
      · have := (hexd_at_list _ (by omega : c.toNat % 16 < 16)).1; omega
    · rw [qb_plain c1 c2] at h
      simp at h
      rw [h]
      omega
theorem qbs_high (x : List UInt8) (d : UInt8) (h : d ∈ qbs x) : 32 ≤ d.toNat := by
  unfold qbs at h
  rw [List.mem_flatMap] at h
  obtain ⟨c, _, h⟩ := h
  exact qb_high c d h
/-- A literal that begins with a mark. -/
theorem lit_mark {l : List UInt8} {v : V3} (h : LitOf (39 :: l) v) : v.1 = 3 ∧ l = qbs v.2.2.data.toList ++ [39] := by
  obtain ⟨hr, he⟩ := h
  rcases rt_kind hr with k | k | k | k
  · rw [lit_null k] at he; exact absurd he (by simp)
  · rw [lit_int k] at he
    obtain ⟨c, q, e, g⟩ := itoa_head v.2.1
    rw [e] at he
    rw [(List.cons.inj he).1] at g
    exact absurd g (by decide)
  · rcases (right_bool hr k).1 with g | g
    · rw [lit_false k g] at he; exact absurd he (by simp)
    · rw [lit_true k g] at he; exact absurd he (by simp)
  · rw [lit_text k, quo] at he
    exact ⟨k, (List.cons.inj he).2.symm⟩
theorem lit_line {l : List UInt8} (hl : (10 : UInt8) ∈ l) : ∀ v, ¬ LitOf (39 :: l) v := by
  intro v h
  rw [(lit_mark h).2] at hl
  rcases List.mem_append.1 hl with h | h
  · exact absurd (qbs_high _ _ h) (by decide)
  · exact absurd h (by decide)
theorem lit_open {l : List UInt8} (hl : txtC false l = false) : ∀ v, ¬ LitOf (39 :: l) v := by
  intro v h
  rw [(lit_mark h).2, (txt_qbs _ []).2] at hl
  exact absurd hl (by decide)
theorem tok_no {l : List UInt8} (h : ∀ v, ¬ LitOf (39 :: l) v) : tokR (39 :: l) = (tk0, 103) := by
  rw [tokR_mark (by decide), parR_no h]
  rfl

/-! ### what stands behind does not matter -/
theorem run_line : ¬ runB 10 := by decide
theorem runN_end : ∀ (l m : List UInt8), (∀ c ∈ m.head?, ¬ runB c) → runN (l ++ m) = runN l
  | [], m, h => by
    cases m with
    | nil => rfl
    | cons d m =>
      simp only [List.nil_append, runN]
      rw [if_neg (h d (by simp))]
  | c :: l, m, h => by
    simp only [List.cons_append, runN, runN_end l m h]
/-- A byte behind which a piece ends: a blank or a line's end. -/
def gapB (c : UInt8) : Prop := c = 32 ∨ c = 9 ∨ c = 10
theorem gap_run {c : UInt8} (h : gapB c) : ¬ runB c := by rcases h with rfl | rfl | rfl <;> decide
/-- Of a piece that is whole, or no text that is open, what stands behind it makes no difference. -/
theorem pieceN_gap {c : UInt8} {l : List UInt8} {d : UInt8} {m : List UInt8} (hd : gapB d) (ht : c = 39 → txtC false l = true) : pieceN ((c :: l) ++ d :: m) = pieceN (c :: l) := by
  have hm : (d :: m).head? ≠ some 39 := by rcases hd with rfl | rfl | rfl <;> simp
  simp only [List.cons_append, pieceN]
  rw [runN_end l (d :: m) (fun x hx => by simp at hx; rw [← hx]; exact gap_run hd)]
  by_cases h1 : runB c ∨ cls c = 8
  · rw [if_pos h1, if_pos h1]
  · rw [if_neg h1, if_neg h1]
    by_cases h2 : cls c = 9
    · rw [if_pos h2, if_pos h2, txtN_closed l (d :: m) false (ht ((cls_mark c).1 h2)) hm]
    · rw [if_neg h2, if_neg h2]
      by_cases h3 : cls c = 10
      · rw [if_pos h3, if_pos h3]
        cases l with
        | nil =>
          simp only [List.nil_append, sgnN]
          rw [if_neg]
          unfold twoS
          rcases hd with rfl | rfl | rfl <;> simp
        | cons e l => rfl
      · rw [if_neg h3, if_neg h3]
end Go.Proofs.YtkigilgoolnaaaaDoor
