/- Plain mathematics of layer 2: to put a 255 behind each byte 0 is to escape. -/
import Derived.Test.YtbmgcibclmbelabDoorM20
import Derived.Lib.Replace
namespace Go.Proofs.YtbmgcibclmbelabDoor

theorem rep_skip {b : UInt8} (h : b ≠ 0) (nw : List UInt8) : ∀ (k : Nat) (l : List UInt8), k ≤ Lib.count l [0] → Lib.replaceK [0] nw k (b :: l) = b :: Lib.replaceK [0] nw k l
  | 0, l, _ => rfl
  | k + 1, l, hk => by
    obtain ⟨j, hj⟩ := Lib.index_of_count (s := l) (old := [0]) (by omega)
    have hp : ([0] : List UInt8).isPrefixOf (b :: l) = false := by simp [List.isPrefixOf, Ne.symm h]
    have hix : Lib.index (b :: l) [0] = ((j + 1 : Nat) : Int) := by
      rw [Lib.index, hp]
      simp only [Bool.false_eq_true, if_false]
      rw [if_neg (by rw [hj]; simp), hj]
      omega
    rw [Lib.replaceK_hit _ _ _ _ _ hj, Lib.replaceK_hit _ _ _ _ _ hix]
    rw [List.take_succ_cons, List.length_singleton, List.drop_succ_cons, List.cons_append, List.cons_append]
theorem rep_esc : ∀ l : List UInt8, Lib.replaceK [0] [0, 255] (Lib.count l [0]) l = esc l
  | [] => by rw [Lib.count_one]; rfl
  | b :: l => by
    by_cases h : b = 0
    · subst h
      have hix : Lib.index (0 :: l) [0] = ((0 : Nat) : Int) := by rw [Lib.index]; simp [List.isPrefixOf]
      rw [Lib.count_cons_eq, Nat.add_comm, Lib.replaceK_hit _ _ _ _ _ hix, esc_cons, esc1_zero]
      simp [rep_esc l]
    · rw [Lib.count_cons_ne _ _ _ h, rep_skip h _ _ _ (Nat.le_refl _), rep_esc l, esc_cons, esc1_other h]
      rfl
theorem repAll_esc (l : List UInt8) : Lib.replaceAll l [0] [0, 255] = esc l := by
  unfold Lib.replaceAll Lib.replace Lib.replaceNum
  rw [if_neg (by decide), if_pos (Or.inl (by decide)), rep_esc]
end Go.Proofs.YtbmgcibclmbelabDoor
