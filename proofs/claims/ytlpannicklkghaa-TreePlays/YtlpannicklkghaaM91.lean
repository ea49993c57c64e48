/- Plain mathematics of layer 7: how low a tree is; what a list of items tells. -/
import Derived.Test.YtlpannicklkghaaM88
namespace Go.Proofs.Ytlpannicklkghaa

theorem wide_sumB {q : Nat} : ∀ {L : List Nd}, (∀ n ∈ L, q ≤ n.its.length) → L.length * q ≤ (L.flatMap (·.its)).length
  | [], _ => by simp
  | n :: L, h => by
    have h1 := h n (by simp)
    have h2 := wide_sumB (L := L) fun x hx => h x (List.mem_cons_of_mem _ hx)
    rw [List.flatMap_cons, List.length_append, List.length_cons, Nat.add_mul]
    omega
theorem low_levels {m : Nat} : ∀ {ls : List (List Nd)} {S : List Slot}, Good S ls → WLv m false ls → ∀ i (h : i < ls.length), S.length * (m / 2) ^ i ≤ (ls[i]).length
  | [], _, h, _, _, _ => h.elim
  | [L], S, h, _, i, hi => by
    have h3 := (good_fits h).length
    match i, hi with
    | 0, _ => simp [h3]
  | L :: M :: r, S, h, hw, i, hi => by
    obtain ⟨hf, _, hg⟩ := good_mid.1 h
    have h3 := hf.length
    match i, hi with
    | 0, _ => simp [h3]
    | i + 1, hi =>
      have h2 := wide_sumB (L := L) (q := m / 2) fun x hx => by have := (hw.1 x hx).1; unfold lowB at this; simpa using this
      have h5 := slots_length hf
      have ih := low_levels hg hw.2 i (by simpa using hi)
      have e : (L :: M :: r)[i + 1] = (M :: r)[i]'(by simpa using hi) := rfl
      rw [e, Nat.pow_succ']
      refine Nat.le_trans ?_ ih
      rw [← Nat.mul_assoc]
      refine Nat.mul_le_mul_right _ ?_
      rw [h5, h3]
      exact h2
theorem low_items {m : Nat} : ∀ {ls : List (List Nd)} {S : List Slot}, Good S ls → WLv m false ls → S.length * (m / 2) ^ ls.length ≤ (items ls).length
  | [], _, h, _ => h.elim
  | [L], S, h, hw => by
    have h3 := (good_fits h).length
    have h2 := wide_sumB (L := L) (q := m / 2) fun x hx => by have := (hw.1 x hx).1; unfold lowB at this; simpa using this
    rw [items_one, List.length_singleton, Nat.pow_one, h3]
    exact h2
  | L :: M :: r, S, h, hw => by
    obtain ⟨hf, _, hg⟩ := good_mid.1 h
    have h3 := hf.length
    have h2 := wide_sumB (L := L) (q := m / 2) fun x hx => by have := (hw.1 x hx).1; unfold lowB at this; simpa using this
    have h5 := slots_length hf
    have ih := low_items hg hw.2
    rw [items_cons, List.length_cons, Nat.pow_succ', ← Nat.mul_assoc]
    refine Nat.le_trans (Nat.mul_le_mul_right _ ?_) ih
    rw [h5, h3]
    exact h2
theorem top_low {m : Nat} {s : Slot} {L M : List Nd} {r : List (List Nd)} (h : Good [s] (L :: M :: r)) (hw : WLv m true (L :: M :: r)) : (∀ i (hi : i < (M :: r).length), 2 * (m / 2) ^ i ≤ ((M :: r)[i]).length) ∧ 2 * (m / 2) ^ (M :: r).length ≤ (items (L :: M :: r)).length := by
  obtain ⟨hf, _, hg⟩ := good_mid.1 h
  have h3 := hf.length
  have h2 := wide_sumB (L := L) (q := 2) fun x hx => by have := (hw.1 x hx).1; unfold lowB at this; simpa using this
  have h5 := slots_length hf
  simp only [List.length_singleton] at h3
  have h6 : 2 ≤ (slots [s] L).length := by omega
  refine ⟨fun i hi => Nat.le_trans (Nat.mul_le_mul_right _ h6) (low_levels hg hw.2 i hi), ?_⟩
  rw [items_cons]
  exact Nat.le_trans (Nat.mul_le_mul_right _ h6) (low_items hg hw.2)
theorem high_64 {m : Nat} {s : Slot} {ls : List (List Nd)} (hm : 4 ≤ m) (h : Good [s] ls) (hw : WLv m true ls) (hl : (items ls).length ≤ 1000000000000) : ls.length ≤ 64 := by
  match ls, h, hw, hl with
  | [], h, _, _ => exact h.elim
  | [L], _, _, _ => simp
  | L :: M :: r, h, hw, hl =>
    have h2 := (top_low h hw).2
    rcases Nat.lt_or_ge 64 (L :: M :: r).length with hc | hc
    · have h3 : 2 ^ 63 ≤ (m / 2) ^ (M :: r).length := Nat.le_trans (Nat.pow_le_pow_right (by omega) (by simp at hc ⊢; omega)) (Nat.pow_le_pow_left (by omega) _)
      omega
    · exact hc

/-! ### what is told -/
def pr (x : It) : ByteArray × ByteArray := (x.key, x.val)
def untilB (to k : ByteArray) : Bool := to.toList.isEmpty || kl k to
/-- The items from one on, up to another one, at most so many. -/
def tellL (to : ByteArray) (most : Int) (r : List It) : List It := (r.takeWhile fun x => untilB to x.key).take most.toNat
def listL (frm to : ByteArray) (most : Int) (l : List It) : List It := tellL to most (l.drop (cntL frm l))
theorem tellL_nil (to : ByteArray) (most : Int) : tellL to most [] = [] := by simp [tellL]
theorem tellL_zero {to : ByteArray} {most : Int} (r : List It) (h : most ≤ 0) : tellL to most r = [] := by
  have : most.toNat = 0 := by omega
  simp [tellL, this]
theorem tellL_stop {to : ByteArray} {most : Int} {x : It} {r : List It} (h : untilB to x.key = false) : tellL to most (x :: r) = [] := by
  simp [tellL, h]
theorem tellL_cons {to : ByteArray} {most : Int} {x : It} {r : List It} (h : untilB to x.key = true) (hm : 0 < most) : tellL to most (x :: r) = x :: tellL to (most - 1) r := by
  obtain ⟨k, hk⟩ : ∃ k, most.toNat = k + 1 := ⟨most.toNat - 1, by omega⟩
  have hk2 : (most - 1).toNat = k := by omega
  simp [tellL, h, hk, hk2]
end Go.Proofs.Ytlpannicklkghaa
