/- Layer 6, without the program: a segment's name, as the library's functions write and read numbers. -/
import Derived.Test.YtckmjmpajbjbkaaGreatDoorM60
import Derived.Lib.AtoiAll
import Derived.Lib.ItoaNum
import Derived.Lib.Strings
namespace Go.Proofs.YtckmjmpajbjbkaaGreatDoor
open Go

theorem dec_one : ∀ (n p : Nat), p < 10 ^ n → Lib.decDigits (10 ^ n + p) = 49 :: digs n p
  | 0, p, h => by
    obtain rfl : p = 0 := by simpa using h
    rw [Lib.decDigits]
    rfl
  | n + 1, p, h => by
    have hp : 0 < 10 ^ n := Nat.pow_pos (by decide)
    rw [Nat.pow_succ] at h ⊢
    rw [Lib.decDigits, dif_neg (by omega), show (10 ^ n * 10 + p) / 10 = 10 ^ n + p / 10 by omega, show (10 ^ n * 10 + p) % 10 = p % 10 by omega, dec_one n (p / 10) (by omega), digs]
    rfl
theorem dec_len : ∀ (k u : Nat), u < 10 ^ (k + 1) → 1 ≤ (Lib.decDigits u).length ∧ (Lib.decDigits u).length ≤ k + 1
  | k, u, h => by
    rw [Lib.decDigits]
    by_cases h10 : u < 10
    · rw [dif_pos h10]
      simp
    · rw [dif_neg h10]
      cases k with
      | zero => simp at h; omega
      | succ k =>
        have := dec_len k (u / 10) (by rw [Nat.pow_succ] at h; omega)
        rw [List.length_append, List.length_singleton]
        omega
theorem itoa_len {n : Int} (h0 : -10000000000000 ≤ n) (h1 : n ≤ 10000000000000) : 1 ≤ (Lib.itoa n).length ∧ (Lib.itoa n).length ≤ 15 := by
  unfold Lib.itoa
  split
  · have := dec_len 13 n.natAbs (by omega)
    rw [List.length_cons]
    omega
  · have := dec_len 13 n.toNat (by omega)
    omega
theorem itoa_name {p : Nat} (h : p < 1000000000000) : Lib.itoa (1000000000000 + (p : Int)) = 49 :: digs 12 p := by
  unfold Lib.itoa
  rw [if_neg (by omega), show (1000000000000 + (p : Int)).toNat = 10 ^ 12 + p by omega]
  exact dec_one 12 p h
theorem parse_val : ∀ (l : List UInt8) (a m : Nat), Lib.parseUint10 a l = .ok m → (∀ c ∈ l, 48 ≤ c.toNat ∧ c.toNat ≤ 57) ∧ m = l.foldl (fun a c => 10 * a + (c.toNat - 48)) a
  | [], a, m, h => by
    simp only [Lib.parseUint10] at h
    injection h with h
    exact ⟨by simp, h.symm⟩
  | c :: l, a, m, h => by
    simp only [Lib.parseUint10] at h
    split at h
    · rename_i hc
      split at h
      · cases h
      · split at h
        · cases h
        · obtain ⟨h1, h2⟩ := parse_val l _ m h
          refine ⟨fun x hx => ?_, ?_⟩
          · rcases List.mem_cons.1 hx with rfl | hx
            · exact hc
            · exact h1 x hx
          · rw [h2, List.foldl_cons, Nat.mul_comm]
    · cases h
theorem fold_lt : ∀ (l : List UInt8) (a : Nat), (∀ c ∈ l, 48 ≤ c.toNat ∧ c.toNat ≤ 57) → l.foldl (fun a c => 10 * a + (c.toNat - 48)) a < (a + 1) * 10 ^ l.length
  | [], a, _ => by simp
  | c :: l, a, h => by
    have h1 := h c (by simp)
    have h2 := fold_lt l (10 * a + (c.toNat - 48)) (fun x hx => h x (List.mem_cons_of_mem _ hx))
    rw [List.foldl_cons, List.length_cons, Nat.pow_succ]
    refine Nat.lt_of_lt_of_le h2 ?_
    rw [Nat.mul_comm (10 ^ l.length) 10, ← Nat.mul_assoc]
    exact Nat.mul_le_mul_right _ (by omega)
theorem parse_digs : ∀ (n p : Nat), n ≤ 12 → p < 10 ^ n → Lib.parseUint10 0 (digs n p) = .ok p
  | 0, p, _, h => by
    obtain rfl : p = 0 := by simpa using h
    rfl
  | n + 1, p, hn, h => by
    have ih := parse_digs n (p / 10) (by omega) (by rw [Nat.pow_succ] at h; omega)
    have hb : p / 10 < 10 ^ 12 := by
      have : p / 10 < 10 ^ n := by rw [Nat.pow_succ] at h; omega
      exact Nat.lt_of_lt_of_le this (Nat.pow_le_pow_right (by decide) (by omega))
    have e := dig_nat (Nat.mod_lt p (show 0 < 10 by decide))
    have key : ∀ (l : List UInt8) (a m : Nat) (c : UInt8), Lib.parseUint10 a l = .ok m → 48 ≤ c.toNat → c.toNat ≤ 57 → m < 1844674407370955161 → Lib.parseUint10 a (l ++ [c]) = .ok (m * 10 + (c.toNat - 48)) := by
      intro l
      induction l with
      | nil =>
        intro a m c h h1 h2 h3
        simp only [Lib.parseUint10] at h
        injection h with h
        subst h
        simp only [List.nil_append, Lib.parseUint10]
        rw [if_pos ⟨h1, h2⟩, if_neg (by omega), if_neg (by omega)]
      | cons d l ihl =>
        intro a m c h h1 h2 h3
        simp only [Lib.parseUint10, List.cons_append] at h ⊢
        split at h
        · rename_i hd
          rw [if_pos hd]
          split at h
          · cases h
          · rename_i ha
            rw [if_neg ha]
            split at h
            · cases h
            · rename_i hb
              rw [if_neg hb]
              exact ihl _ m c h h1 h2 h3
        · cases h
    rw [digs, key _ 0 (p / 10) _ ih (by omega) (by omega) (by omega), e]
    congr 1
    omega
theorem digs_head (p : Nat) : ∃ c l, digs 12 p = c :: l ∧ 48 ≤ c.toNat ∧ c.toNat ≤ 57 := by
  refine ⟨_, _, digs_cons 11 p, ?_⟩
  have := Nat.mod_lt (p / 10 ^ 11) (show 0 < 10 by decide)
  rw [dig_nat this]
  omega
theorem atoi_digs {p : Nat} (h : p < 1000000000000) : Lib.atoiAll (digs 12 p) = .ok p := by
  obtain ⟨c, l, e, h1, h2⟩ := digs_head p
  have hm : Lib.parseMag (digs 12 p) = .ok p := by
    unfold Lib.parseMag
    rw [if_neg (by rw [e]; simp)]
    exact parse_digs 12 p (by decide) h
  rw [e] at hm ⊢
  simp only [Lib.atoiAll]
  rw [if_neg (by omega), hm]
  simp only
  rw [if_neg (by omega), if_neg (by omega), if_neg (by omega)]
theorem dec_digits (u : Nat) : ∀ c ∈ Lib.decDigits u, 48 ≤ c.toNat ∧ c.toNat ≤ 57 := by
  induction u using Nat.strongRecOn with
  | _ u ih =>
    rw [Lib.decDigits]
    by_cases h10 : u < 10
    · rw [dif_pos h10]
      intro c hc
      obtain rfl : c = UInt8.ofNat (48 + u) := by simpa using hc
      rw [dig_nat h10]
      omega
    · rw [dif_neg h10]
      intro c hc
      rcases List.mem_append.1 hc with hc | hc
      · exact ih (u / 10) (by omega) c hc
      · obtain rfl : c = UInt8.ofNat (48 + u % 10) := by simpa using hc
        rw [dig_nat (Nat.mod_lt _ (by decide))]
        omega
/-- What Atoi makes of few bytes is small. -/
theorem atoi_small {t : List UInt8} {n : Int} (h : Lib.atoiAll t = .ok n) (hl : t.length ≤ 12) : -1000000000000 < n ∧ n < 1000000000000 := by
  have hv : ∀ (l : List UInt8) (u : Nat), Lib.parseMag l = .ok u → l.length ≤ 12 → u < 10 ^ 12 := by
    intro l u h hl
    unfold Lib.parseMag at h
    split at h
    · cases h
    · obtain ⟨h1, h2⟩ := parse_val l 0 u h
      have := fold_lt l 0 h1
      rw [← h2, Nat.zero_add, Nat.one_mul] at this
      exact Nat.lt_of_lt_of_le this (Nat.pow_le_pow_right (by decide) hl)
  cases t with
  | nil => cases h
  | cons c r =>
    simp only [Lib.atoiAll] at h
    split at h
    · cases h
    · cases h
    · rename_i u hu
      have hb := hv _ u hu (by split <;> simp only [List.length_cons] at hl ⊢ <;> omega)
      split at h
      · cases h
      · split at h
        · cases h
        · injection h with h
          split at h <;> omega
theorem atoi_plain {t : List UInt8} {n : Int} (h : Lib.atoiAll t = .ok n) (hd : ∀ c ∈ t, 48 ≤ c.toNat ∧ c.toNat ≤ 57) : 0 ≤ n := by
  cases t with
  | nil => cases h
  | cons c r =>
    have hc := hd c (by simp)
    simp only [Lib.atoiAll] at h
    split at h
    · cases h
    · cases h
    · split at h
      · cases h
      · split at h
        · cases h
        · injection h with h
          rw [if_neg (by omega)] at h
          omega

/-- What nameOf makes of any number. -/
def nmOf (n : Int) : List UInt8 := pre4 ++ (Lib.itoa (1000000000000 + n)).drop 1
theorem nmOf_nat {p : Nat} (h : p < 1000000000000) : nmOf p = nameN p := by rw [nmOf, itoa_name h]; rfl
/-- What placeOf tells of a name: the number and whether it is one. -/
theorem place_yes {t : List UInt8} {n : Int} (ha : Lib.atoiAll t = .ok n) (hl : t.length ≤ 12) (he : pre4 ++ t = nmOf n) : ∃ p : Nat, n = p ∧ p < 1000000000000 ∧ placeN (pre4 ++ t) = some p := by
  obtain ⟨h1, h2⟩ := atoi_small ha hl
  have e : t = (Lib.itoa (1000000000000 + n)).drop 1 := List.append_cancel_left he
  have hn : 0 ≤ n := by
    refine atoi_plain ha fun c hc => ?_
    rw [e] at hc
    have := List.mem_of_mem_drop hc
    unfold Lib.itoa at this
    rw [if_neg (by omega)] at this
    exact dec_digits _ c this
  obtain ⟨p, rfl⟩ : ∃ p : Nat, n = p := ⟨n.toNat, by omega⟩
  refine ⟨p, rfl, by omega, ?_⟩
  rw [he, nmOf_nat (by omega)]
  exact placeN_name (by omega)
theorem place_some {t : List UInt8} {p : Nat} (h : placeN (pre4 ++ t) = some p) : Lib.atoiAll t = .ok p ∧ pre4 ++ t = nmOf p := by
  obtain ⟨h1, h2⟩ := placeN_iff.1 h
  have e : t = digs 12 p := List.append_cancel_left h2
  exact ⟨by rw [e]; exact atoi_digs h1, by rw [h2, nmOf_nat h1]⟩
theorem isLog_split {n : Nm} (h : isLog n = true) : ∃ t, n = pre4 ++ t ∧ t.length + 4 = n.length := by
  have h' : n.take 4 = pre4 := by simpa [isLog] using h
  refine ⟨n.drop 4, by rw [← h']; exact (List.take_append_drop 4 n).symm, ?_⟩
  have := congrArg List.length h'
  rw [List.length_take] at this
  have e : pre4.length = 4 := rfl
  rw [List.length_drop]
  omega
theorem hasPrefix_log (n : Nm) : Lib.hasPrefix n pre4 = isLog n := by
  unfold Lib.hasPrefix isLog
  rw [Bool.eq_iff_iff, List.isPrefixOf_iff_prefix, decide_eq_true_eq]
  exact ⟨fun h => (List.prefix_iff_eq_take.1 h).symm, fun h => List.prefix_iff_eq_take.2 h.symm⟩
theorem trim_log (t : List UInt8) : Lib.trimPrefix (pre4 ++ t) pre4 = t := by
  unfold Lib.trimPrefix
  rw [hasPrefix_log, if_pos (by simp [isLog, pre4])]
  rfl
end Go.Proofs.YtckmjmpajbjbkaaGreatDoor
