/- Walks of layer 7: spots among the leaves. -/
import Derived.Test.YtlpannicklkghaaB15
import Derived.Test.YtlpannicklkghaaB22
namespace Go.Proofs.Ytlpannicklkghaa
open Go.RowKit

/-- The cells of what is told. -/
def pc : List It → List Value
  | [] => []
  | x :: r => .string x.key :: .string x.val :: pc r
theorem pc_append : ∀ a b : List It, pc (a ++ b) = pc a ++ pc b
  | [], _ => rfl
  | x :: r, b => by simp only [List.cons_append, pc, pc_append r b]
theorem pc_length : ∀ a : List It, (pc a).length = a.length * 2
  | [] => rfl
  | x :: r => by simp only [pc, List.length_cons, pc_length r]; omega
theorem pc_one : ∀ (l : List It), ∀ u ∈ pc l, u.oneCell' = true
  | [], u, h => by simp [pc] at h
  | x :: r, u, h => by
    simp only [pc, List.mem_cons] at h
    rcases h with rfl | rfl | h
    · rfl
    · rfl
    · exact pc_one r u h
theorem pc_at : ∀ (l : List It) (i : Nat) (h : i < l.length), (pc l)[i * 2]? = some (.string (l[i]).key) ∧ (pc l)[i * 2 + 1]? = some (.string (l[i]).val)
  | x :: r, 0, _ => ⟨rfl, rfl⟩
  | x :: r, i + 1, h => by
    have := pc_at r i (by simpa using h)
    have e0 : (i + 1) * 2 = i * 2 + 1 + 1 := by omega
    have e1 : (i + 1) * 2 + 1 = (i * 2 + 1) + 1 + 1 := by omega
    rw [e1, e0]
    simpa only [pc, List.getElem?_cons_succ, List.getElem_cons_succ] using this
/-- Where one stands: the items from there on. -/
def Spot (ls : List (List Nd)) (q : Option Addr) (i : Nat) (r : List It) : Prop :=
  (q = none ∧ r = []) ∨ ∃ A n C, ls.getLast? = some (A ++ n :: C) ∧ i < n.its.length ∧ q = some ⟨n.b, 0, none⟩ ∧ r = n.its.drop i ++ C.flatMap (·.its)
/-- No leaf but the first one is empty. -/
def Filled (ls : List (List Nd)) : Prop := ∀ A n C, ls.getLast? = some (A ++ n :: C) → ∀ x ∈ C, x.its ≠ []
theorem last_mem {ls : List (List Nd)} {A C : List Nd} {n : Nd} (h : ls.getLast? = some (A ++ n :: C)) : (n, hd C none) ∈ allX ls := by
  obtain ⟨r, rfl⟩ := List.getLast?_eq_some_iff.1 h
  rw [allX_append, allX_cons]
  exact List.mem_append_right _ (List.mem_append_left _ (link_at [] A C n none))
theorem Spot.head {ls : List (List Nd)} {A C : List Nd} {n : Nd} (hf : Filled ls) (h : ls.getLast? = some (A ++ n :: C)) : Spot ls (pOf (hd C none)) 0 (C.flatMap (·.its)) := by
  match C, h with
  | [], _ => exact Or.inl ⟨rfl, rfl⟩
  | n' :: C', h =>
    refine Or.inr ⟨A ++ [n], n', C', by simpa using h, List.length_pos_iff.2 (hf A n (n' :: C') h n' (by simp)), rfl, by simp⟩
theorem Spot.next {ls : List (List Nd)} {A C : List Nd} {n : Nd} {i : Nat} (hf : Filled ls) (h : ls.getLast? = some (A ++ n :: C)) : Spot ls (if i < n.its.length then some ⟨n.b, 0, none⟩ else pOf (hd C none)) (if i < n.its.length then i else 0) (n.its.drop i ++ C.flatMap (·.its)) := by
  split
  · rename_i hi
    exact Or.inr ⟨A, n, C, h, hi, rfl, rfl⟩
  · rename_i hi
    rw [List.drop_eq_nil_of_le (by omega)]
    exact Spot.head hf h
theorem filled_of {m : Nat} {s : Slot} {ls : List (List Nd)} (hm : 4 ≤ m) (h : Good [s] ls) (hw : WLv m true ls) : Filled ls := by
  intro A n C he x hx
  have key : ∀ {ls : List (List Nd)} {L : List Nd}, ls.getLast? = some L → WLv m false ls → ∀ y ∈ L, y.its ≠ [] := by
    intro ls
    induction ls with
    | nil => intro L e; simp at e
    | cons M r ih =>
      intro L e hw y hy
      cases r with
      | nil =>
        simp at e
        subst e
        have := (hw.1 y hy).1
        unfold lowB at this
        intro e'
        rw [e'] at this
        simp at this
        omega
      | cons M' r => exact ih (by simpa using e) hw.2 y hy
  match ls, h, hw, he with
  | [L], h, hw, he =>
    simp at he
    have := (good_fits h).length
    rw [he] at this
    simp at this
    have hc : C = [] := List.eq_nil_of_length_eq_zero (by omega)
    rw [hc] at hx
    simp at hx
  | L :: M :: r, h, hw, he => exact key (by simpa using he) hw.2 x (by simp [hx])
end Go.Proofs.Ytlpannicklkghaa
