/- Plain mathematics of layer 1: digits, and how a number is read back. -/
import Derived.Test.YtkigilgoolnaaaaDoorM26
namespace Go.Proofs.YtkigilgoolnaaaaDoor

/-- The digits that are still to come. -/
def ddl (m : Nat) : List UInt8 := if m = 0 then [] else Lib.decDigits m
theorem ddl_zero : ddl 0 = [] := rfl
theorem dec_eq (u : Nat) : Lib.decDigits u = ddl (u / 10) ++ [UInt8.ofNat (48 + u % 10)] := by
  rw [Lib.decDigits]
  by_cases h : u < 10
  · rw [dif_pos h]
    have e1 : u / 10 = 0 := by omega
    have e2 : u % 10 = u := by omega
    rw [e1, e2]; rfl
  · rw [dif_neg h, ddl, if_neg (by omega)]
theorem ddl_step {m : Nat} (h : m ≠ 0) : ddl m = ddl (m / 10) ++ [UInt8.ofNat (48 + m % 10)] := by
  rw [ddl, if_neg h]; exact dec_eq m
theorem dig_ext (d : Nat) (h : d < 10) : (⟨#[48, 49, 50, 51, 52, 53, 54, 55, 56, 57]⟩ : ByteArray).extract d (d + 1) = ⟨#[UInt8.ofNat (48 + d)]⟩ := by
  have : ∀ d : Fin 10, (⟨#[48, 49, 50, 51, 52, 53, 54, 55, 56, 57]⟩ : ByteArray).extract d.val (d.val + 1) = ⟨#[UInt8.ofNat (48 + d.val)]⟩ := by decide +kernel
  exact this ⟨d, h⟩

/-- What the bytes seen so far are worth, signs left out. -/
def mg (l : List UInt8) : Nat := l.foldl (fun a c => if c.toNat = 45 then a else 10 * a + (c.toNat - 48)) 0
theorem mg_snoc (l : List UInt8) (c : UInt8) : mg (l ++ [c]) = if c.toNat = 45 then mg l else 10 * mg l + (c.toNat - 48) := by
  unfold mg; rw [List.foldl_append]; rfl
theorem mg_le (l m : List UInt8) : mg l ≤ mg (l ++ m) := by
  induction m generalizing l with
  | nil => rw [List.append_nil]; exact Nat.le_refl _
  | cons c m ih =>
    have e : l ++ c :: m = (l ++ [c]) ++ m := by simp
    rw [e]
    refine Nat.le_trans ?_ (ih (l ++ [c]))
    rw [mg_snoc]
    split
    · exact Nat.le_refl _
    · omega
theorem mg_dec (u : Nat) : mg (Lib.decDigits u) = u ∧ mg (45 :: Lib.decDigits u) = u ∧ ∀ c ∈ Lib.decDigits u, 48 ≤ c.toNat ∧ c.toNat ≤ 57 := by
  induction u using Nat.strongRecOn with
  | _ u ih =>
    have e : (UInt8.ofNat (48 + u % 10)).toNat = 48 + u % 10 := by rw [UInt8.toNat_ofNat']; omega
    by_cases h : u < 10
    · have e2 : u % 10 = u := by omega
      rw [e2] at e
      rw [Lib.decDigits, dif_pos h]
      refine ⟨?_, ?_, ?_⟩
      · have := mg_snoc [] (UInt8.ofNat (48 + u))
        rw [List.nil_append] at this
        rw [this, if_neg (by omega), e]
        have : mg [] = 0 := rfl
        omega
      · have := mg_snoc [45] (UInt8.ofNat (48 + u))
        have h0 : mg [45] = 0 := rfl
        show mg ([45] ++ [UInt8.ofNat (48 + u)]) = u
        rw [this, if_neg (by omega), e, h0]
        omega
      · intro c hc
        rw [List.mem_singleton] at hc
        subst hc
        omega
    · obtain ⟨a, b, c⟩ := ih (u / 10) (by omega)
      rw [Lib.decDigits, dif_neg h]
      refine ⟨?_, ?_, ?_⟩
      · rw [mg_snoc, if_neg (by omega), e, a]; omega
      · have e3 : (45 :: (Lib.decDigits (u / 10) ++ [UInt8.ofNat (48 + u % 10)])) = (45 :: Lib.decDigits (u / 10)) ++ [UInt8.ofNat (48 + u % 10)] := rfl
        rw [e3, mg_snoc, if_neg (by omega), e, b]; omega
      · intro x hx
        rcases List.mem_append.1 hx with hx | hx
        · exact c x hx
        · rw [List.mem_singleton] at hx; subst hx; omega
theorem dec_len : ∀ (k u : Nat), u < 10 ^ (k + 1) → (Lib.decDigits u).length ≤ k + 1
  | 0, u, h => by rw [Lib.decDigits, dif_pos (by simpa using h)]; simp
  | k + 1, u, h => by
    rw [Lib.decDigits]
    by_cases g : u < 10
    · rw [dif_pos g]; simp
    · rw [dif_neg g]
      have h2 : u / 10 < 10 ^ (k + 1) := by
        rw [Nat.pow_succ] at h
        omega
      have := dec_len k (u / 10) h2
      simp
      omega
theorem itoa_mg (n : Int) : mg (Lib.itoa n) = n.natAbs := by
  unfold Lib.itoa
  split
  · exact (mg_dec _).2.1
  · rw [(mg_dec _).1]; omega
theorem itoa_bytes (n : Int) : ∀ c ∈ Lib.itoa n, c.toNat = 45 ∨ 48 ≤ c.toNat ∧ c.toNat ≤ 57 := by
  unfold Lib.itoa
  split
  · intro c hc
    rcases List.mem_cons.1 hc with rfl | hc
    · exact Or.inl rfl
    · exact Or.inr ((mg_dec _).2.2 c hc)
  · exact fun c hc => Or.inr ((mg_dec _).2.2 c hc)
theorem itoa_len {n : Int} (h1 : -4611686018427387904 ≤ n) (h2 : n ≤ 4611686018427387904) : (Lib.itoa n).length ≤ 20 := by
  unfold Lib.itoa
  split
  · have := dec_len 18 n.natAbs (by omega)
    simp; omega
  · have := dec_len 18 n.toNat (by omega)
    omega
theorem itoa_sign (n : Int) : ∃ c l, Lib.itoa n = c :: l ∧ (c.toNat = 45 ↔ n < 0) := by
  unfold Lib.itoa
  split
  · rename_i h
    exact ⟨45, _, rfl, ⟨fun _ => h, fun _ => rfl⟩⟩
  · rename_i h
    obtain ⟨c, l, e, a, b⟩ := dec_head n.toNat
    exact ⟨c, l, e, ⟨fun g => by omega, fun g => absurd g h⟩⟩
end Go.Proofs.YtkigilgoolnaaaaDoor
