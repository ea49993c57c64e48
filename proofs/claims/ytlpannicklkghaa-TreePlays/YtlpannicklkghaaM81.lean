/- Plain mathematics of layer 7: where a key stands among sorted items. -/
import Derived.Test.YtlpannicklkghaaM80
import Derived.Lib.Bytealg
namespace Go.Proofs.Ytlpannicklkghaa

theorem cmp_lt : ∀ a b : List UInt8, decide (Lib.compareBytes a b < 0) = Op.bytesLess a b
  | [], [] => by simp [Lib.compareBytes, Op.bytesLess]
  | [], _ :: _ => by simp [Lib.compareBytes, Op.bytesLess]
  | _ :: _, [] => by simp [Lib.compareBytes, Op.bytesLess]
  | a :: x, b :: y => by
    have ih := cmp_lt x y
    simp only [Lib.compareBytes, Op.bytesLess]
    by_cases h1 : a < b
    · simp [h1]
    · by_cases h2 : b < a
      · have : ¬ a = b := fun e => by subst e; exact h1 h2
        simp [h1, h2, this]
      · have e : a = b := by
          apply UInt8.toNat_inj.1
          rw [UInt8.lt_iff_toNat_lt] at h1 h2
          omega
        subst e
        simp only [h1, if_false, ih, decide_false, Bool.false_or, beq_self_eq_true, Bool.true_and]
theorem cmp_eq : ∀ a b : List UInt8, (Lib.compareBytes a b = 0) ↔ a = b
  | [], [] => by simp [Lib.compareBytes]
  | [], _ :: _ => by simp [Lib.compareBytes]
  | _ :: _, [] => by simp [Lib.compareBytes]
  | a :: x, b :: y => by
    have ih := cmp_eq x y
    simp only [Lib.compareBytes, List.cons.injEq]
    by_cases h1 : a < b
    · have : ¬ a = b := fun e => by subst e; rw [UInt8.lt_iff_toNat_lt] at h1; omega
      simp [h1, this]
    · by_cases h2 : b < a
      · have : ¬ a = b := fun e => by subst e; exact h1 h2
        simp [h1, h2, this]
      · have e : a = b := by
          apply UInt8.toNat_inj.1
          rw [UInt8.lt_iff_toNat_lt] at h1 h2
          omega
        subst e
        simp [h1, ih]
/-- How many items at the front have a lesser key. -/
def cntL (key : ByteArray) : List It → Nat
  | [] => 0
  | x :: r => if kl x.key key then cntL key r + 1 else 0
def foundL (key : ByteArray) (l : List It) : Bool := (l[cntL key l]?).any fun x => decide (x.key = key)
theorem cntL_le (key : ByteArray) : ∀ l : List It, cntL key l ≤ l.length
  | [] => Nat.le_refl _
  | x :: r => by
    rw [cntL]
    split
    · have := cntL_le key r
      rw [List.length_cons]
      omega
    · exact Nat.zero_le _
theorem cntL_lt (key : ByteArray) : ∀ (l : List It) (i : Nat) (h : i < l.length), i < cntL key l → kl (l[i]).key key = true
  | x :: r, 0, _, hc => by
    rw [cntL] at hc
    split at hc
    · assumption
    · omega
  | x :: r, i + 1, h, hc => by
    rw [cntL] at hc
    split at hc
    · exact cntL_lt key r i (by simpa using h) (by omega)
    · omega
theorem cntL_at (key : ByteArray) : ∀ (l : List It) (h : cntL key l < l.length), kl (l[cntL key l]).key key = false
  | x :: r, h => by
    by_cases hx : kl x.key key = true
    · have e : cntL key (x :: r) = cntL key r + 1 := by rw [cntL, if_pos hx]
      have := cntL_at key r (by rw [e] at h; simpa using h)
      simp only [e, List.getElem_cons_succ]
      exact this
    · have e : cntL key (x :: r) = 0 := by rw [cntL, if_neg hx]
      simp only [e, List.getElem_cons_zero]
      simpa using hx
theorem cntL_ge {key : ByteArray} {l : List It} (hs : Srt l) {i : Nat} (h : i < l.length) (hc : cntL key l ≤ i) : kl (l[i]).key key = false := by
  have h0 := cntL_at key l (by omega)
  rcases Nat.eq_or_lt_of_le hc with e | e
  · simp only [e] at h0; exact h0
  · have := List.pairwise_iff_getElem.1 hs _ _ (by omega) h e
    cases hk : kl (l[i]).key key with
    | false => rfl
    | true =>
      have := kl_trans this hk
      rw [h0] at this
      cases this
theorem foundL_no {key : ByteArray} {l : List It} (h : cntL key l = l.length) : foundL key l = false := by
  unfold foundL
  rw [List.getElem?_eq_none (by omega)]
  rfl
theorem foundL_at {key : ByteArray} {l : List It} (h : cntL key l < l.length) : foundL key l = decide ((l[cntL key l]).key = key) := by
  unfold foundL
  rw [List.getElem?_eq_getElem h]
  rfl
/-- The place of a key parts the items. -/
theorem cntL_cut {key : ByteArray} {l : List It} (hs : Srt l) : (∀ x ∈ l.take (cntL key l), kl x.key key = true) ∧ (∀ x ∈ l.drop (cntL key l), kl x.key key = false) := by
  refine ⟨fun x hx => ?_, fun x hx => ?_⟩
  · obtain ⟨i, hi, rfl⟩ := List.getElem_of_mem hx
    rw [List.length_take] at hi
    rw [List.getElem_take]
    exact cntL_lt key l i (by omega) (by omega)
  · obtain ⟨i, hi, rfl⟩ := List.getElem_of_mem hx
    rw [List.length_drop] at hi
    rw [List.getElem_drop]
    exact cntL_ge hs (by omega) (by omega)
end Go.Proofs.Ytlpannicklkghaa
