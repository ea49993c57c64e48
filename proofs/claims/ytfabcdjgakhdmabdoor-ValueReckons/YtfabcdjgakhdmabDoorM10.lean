/- Plain mathematics of layer 1: what the law ValueReckons asks of the numbers. -/
import Derived.Test.YtfabcdjgakhdmabDoorM9
namespace Go.Proofs.YtfabcdjgakhdmabDoor

/-- Two values by whether they can be reckoned with. -/
theorem pair_cases (k n : Int) (s : ByteArray) (k' n' : Int) (s' : ByteArray) :
    (∃ e, ∀ op, 1 ≤ op → op ≤ 5 → arR op k n s k' n' s' = (0, 0, e)) ∨
    (k = 1 ∧ k' = 1 ∧ s = ⟨#[]⟩ ∧ s' = ⟨#[]⟩ ∧ adm 1 [(k, n, s), (k', n', s')] = 0 ∧ -4611686018427387904 ≤ n ∧ n ≤ 4611686018427387904 ∧ -4611686018427387904 ≤ n' ∧ n' ≤ 4611686018427387904) := by
  by_cases had : adm 1 [(k, n, s), (k', n', s')] = 0
  · by_cases h3 : k = 0 ∨ k' = 0
    · exact Or.inl ⟨0, fun op h1 h2 => arR_null (by omega) had h3⟩
    · right
      have ga := adm_zero had (k, n, s) (by simp)
      have gb := adm_zero had (k', n', s') (by simp)
      have k1 : k = 1 := by have := ga.2; simp at this; omega
      have k2 : k' = 1 := by have := gb.2; simp at this; omega
      subst k1 k2
      obtain ⟨a1, a2⟩ := right_int ga.1 rfl
      obtain ⟨b1, b2⟩ := right_int gb.1 rfl
      refine ⟨rfl, rfl, ?_, ?_, had, a1, a2, b1, b2⟩
      · have := ga.1; unfold V3.right rgt at this; simp at this; exact empty_of (by simpa using this.2)
      · have := gb.1; unfold V3.right rgt at this; simp at this; exact empty_of (by simpa using this.2)
  · exact Or.inl ⟨adm 1 [(k, n, s), (k', n', s')], fun op h1 h2 => arR_adm (by omega) had⟩

theorem adm_nums {a b : Int} (ha1 : -4611686018427387904 ≤ a) (ha2 : a ≤ 4611686018427387904) (hb1 : -4611686018427387904 ≤ b) (hb2 : b ≤ 4611686018427387904) : adm 1 [(1, a, (⟨#[]⟩ : ByteArray)), (1, b, (⟨#[]⟩ : ByteArray))] = 0 := by
  apply adm_ok
  · intro i hi
    match i, hi with
    | 0, _ => simp [rgt, ByteArray.toList_eq]; omega
    | 1, _ => simp [rgt, ByteArray.toList_eq]; omega
  · intro i hi
    match i, hi with
    | 0, _ => exact Or.inl rfl
    | 1, _ => exact Or.inl rfl
theorem ar_num {op a b r : Int} (ho1 : 1 ≤ op) (ho2 : op ≤ 5) (ha1 : -4611686018427387904 ≤ a) (ha2 : a ≤ 4611686018427387904) (hb1 : -4611686018427387904 ≤ b) (hb2 : b ≤ 4611686018427387904)
    (hz : ¬ ((op = 4 ∨ op = 5) ∧ b = 0)) (he : exact2 op a b = r) (hr1 : -4611686018427387904 ≤ r) (hr2 : r ≤ 4611686018427387904) : arR op 1 a ⟨#[]⟩ 1 b ⟨#[]⟩ = (1, r, 0) := by
  rw [arR_ok (by omega) (adm_nums ha1 ha2 hb1 hb2) (by omega) hz (by rw [he]; exact inR_iff.2 ⟨hr1, hr2⟩), he]
theorem ar_over {op a b : Int} (ho1 : 1 ≤ op) (ho2 : op ≤ 3) (ha1 : -4611686018427387904 ≤ a) (ha2 : a ≤ 4611686018427387904) (hb1 : -4611686018427387904 ≤ b) (hb2 : b ≤ 4611686018427387904)
    (hr : ¬ (-4611686018427387904 ≤ exact2 op a b ∧ exact2 op a b ≤ 4611686018427387904)) : arR op 1 a ⟨#[]⟩ 1 b ⟨#[]⟩ = (0, 0, 12) := by
  refine arR_over (by omega) (adm_nums ha1 ha2 hb1 hb2) (by omega) (by omega) ?_
  cases q : inR (exact2 op a b)
  · rfl
  · exact absurd (inR_iff.1 q) hr
theorem ar_zero {op a : Int} (ho : op = 4 ∨ op = 5) (ha1 : -4611686018427387904 ≤ a) (ha2 : a ≤ 4611686018427387904) : arR op 1 a ⟨#[]⟩ 1 0 ⟨#[]⟩ = (0, 0, 13) :=
  arR_zero (by omega) (adm_nums ha1 ha2 (by omega) (by omega)) (by omega) ⟨ho, rfl⟩
theorem sum_pair {a b : Int} (ha1 : -4611686018427387904 ≤ a) (ha2 : a ≤ 4611686018427387904) (hb1 : -4611686018427387904 ≤ b) (hb2 : b ≤ 4611686018427387904) (hr1 : -4611686018427387904 ≤ a + b) (hr2 : a + b ≤ 4611686018427387904) :
    sumR [(1, a, ⟨#[]⟩), (1, b, ⟨#[]⟩)] = (1, a + b, 0) := by
  have e : tot [(1, a, (⟨#[]⟩ : ByteArray)), (1, b, ⟨#[]⟩)] = a + b := by simp [tot]
  rw [sumR_ok (adm_nums ha1 ha2 hb1 hb2) (by simp [met]) (by rw [e]; exact inR_iff.2 ⟨hr1, hr2⟩), e]
theorem quo_bound {a b : Int} (ha1 : -4611686018427387904 ≤ a) (ha2 : a ≤ 4611686018427387904) : -4611686018427387904 ≤ a.tdiv b * b ∧ a.tdiv b * b ≤ 4611686018427387904 := by
  have h := Int.natAbs_mul (a.tdiv b) b
  rw [Int.natAbs_tdiv] at h
  have g : a.natAbs.div b.natAbs * b.natAbs ≤ a.natAbs := Nat.div_mul_le_self _ _
  rw [← h] at g
  generalize a.tdiv b * b = p at *
  omega
theorem quo_back (a b : Int) : a.tdiv b * b + a.tmod b = a := Int.tdiv_mul_add_tmod a b
theorem rem_sign (a b : Int) : ¬ (0 < a.tmod b ∧ a < 0) ∧ ¬ (a.tmod b < 0 ∧ 0 < a) := by
  refine ⟨fun ⟨h, g⟩ => ?_, fun ⟨h, g⟩ => ?_⟩
  · have := Int.tmod_nonneg b (a := -a) (by omega)
    rw [Int.neg_tmod] at this
    omega
  · have := Int.tmod_nonneg b (a := a) (by omega)
    omega
end Go.Proofs.YtfabcdjgakhdmabDoor
