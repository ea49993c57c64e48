/- Plain mathematics of layer 1: lists of values. -/
import Derived.Test.YtlooelldkbdomaaGreatDoorM1
namespace Go.Proofs.YtlooelldkbdomaaGreatDoor

/-- A value: its kind, its number, its text. -/
abbrev V3 : Type := Int × Int × ByteArray
def V3.right (v : V3) : Bool := rgt v.1 v.2.1 v.2.2
def V3.fits (kind : Int) (v : V3) : Bool := v.1 == kind || v.1 == 0

/-- The error of values that must be of a kind, or NULL. -/
def adm (kind : Int) (vs : List V3) : Int :=
  if vs.all V3.right then if vs.all (V3.fits kind) then 0 else 11 else 10

theorem adm_right {kind : Int} {vs : List V3} (i : Nat) (h : i < vs.length) (g : rgt (vs[i]).1 (vs[i]).2.1 (vs[i]).2.2 = false) : adm kind vs = 10 := by
  unfold adm
  rw [if_neg]
  intro e
  have := List.all_eq_true.1 e (vs[i]) (List.getElem_mem h)
  rw [V3.right, g] at this
  exact absurd this (by simp)

theorem adm_type {kind : Int} {vs : List V3} (hall : ∀ i (h : i < vs.length), rgt (vs[i]).1 (vs[i]).2.1 (vs[i]).2.2 = true) (i : Nat) (h : i < vs.length) (g : (vs[i]).1 ≠ kind) (g' : (vs[i]).1 ≠ 0) : adm kind vs = 11 := by
  unfold adm
  rw [if_pos, if_neg]
  · intro e
    have := List.all_eq_true.1 e (vs[i]) (List.getElem_mem h)
    simp [V3.fits, g, g'] at this
  · rw [List.all_eq_true]
    intro v hv
    obtain ⟨j, hj, rfl⟩ := List.getElem_of_mem hv
    exact hall j hj

theorem adm_ok {kind : Int} {vs : List V3} (hall : ∀ i (h : i < vs.length), rgt (vs[i]).1 (vs[i]).2.1 (vs[i]).2.2 = true) (hk : ∀ i (h : i < vs.length), (vs[i]).1 = kind ∨ (vs[i]).1 = 0) : adm kind vs = 0 := by
  unfold adm
  rw [if_pos, if_pos]
  · rw [List.all_eq_true]
    intro v hv
    obtain ⟨j, hj, rfl⟩ := List.getElem_of_mem hv
    rcases hk j hj with h | h <;> simp [V3.fits, h]
  · rw [List.all_eq_true]
    intro v hv
    obtain ⟨j, hj, rfl⟩ := List.getElem_of_mem hv
    exact hall j hj

/-- Is it that BOOL? -/
def V3.isB (b : Bool) (v : V3) : Bool := v.1 == 2 && v.2.1 == b2i b && v.2.2.toList == []
theorem isB_yes {b : Bool} {v : V3} (h : v.1 = 2) (g : v.2.1 = b2i b) (i : v.2.2.toList = []) : V3.isB b v = true := by simp [V3.isB, h, g, i]
theorem isB_k {b : Bool} {v : V3} (h : ¬ v.1 = 2) : V3.isB b v = false := by simp [V3.isB, h]
theorem isB_n {b : Bool} {v : V3} (h : ¬ v.2.1 = b2i b) : V3.isB b v = false := by simp [V3.isB, h]
theorem isB_s {b : Bool} {v : V3} (h : ¬ v.2.2.toList = []) : V3.isB b v = false := by simp [V3.isB, h]
/-- One truth decides; else NULL leaves it open. -/
def sett (b : Bool) (vs : List V3) : Int × Int × Int :=
  if adm 2 vs = 0 then
    if vs.any (V3.isB b) then (2, b2i b, 0) else if vs.any (fun v => v.1 == 0) then (0, 0, 0) else (2, b2i (!b), 0)
  else (0, 0, adm 2 vs)

theorem sett_err {b : Bool} {vs : List V3} (h : adm 2 vs ≠ 0) : sett b vs = (0, 0, adm 2 vs) := by unfold sett; rw [if_neg h]
theorem sett_hit {b : Bool} {vs : List V3} (h : adm 2 vs = 0) (i : Nat) (hi : i < vs.length) (g : V3.isB b (vs[i]) = true) : sett b vs = (2, b2i b, 0) := by
  unfold sett; rw [if_pos h, if_pos (List.any_eq_true.2 ⟨_, List.getElem_mem hi, g⟩)]

/-- What the first k leave open. -/
def left (b : Bool) (vs : List V3) (k : Nat) : Int × Int := if (vs.take k).any (fun v => v.1 == 0) then (0, 0) else (2, b2i (!b))
theorem left_zero (b : Bool) (vs : List V3) : left b vs 0 = (2, b2i (!b)) := rfl
theorem left_null {b : Bool} {vs : List V3} {k : Nat} (h : k < vs.length) (g : (vs[k]).1 = 0) : left b vs (k + 1) = (0, 0) := by
  unfold left
  rw [List.take_succ_eq_append_getElem h, List.any_append]
  simp [g]
theorem left_same {b : Bool} {vs : List V3} {k : Nat} (h : k < vs.length) (g : (vs[k]).1 ≠ 0) : left b vs (k + 1) = left b vs k := by
  unfold left
  have e : ((vs[k]).1 == 0) = false := by simpa using g
  rw [List.take_succ_eq_append_getElem h, List.any_append]
  simp only [List.any_cons, List.any_nil, e, Bool.or_false]
theorem sett_left {b : Bool} {vs : List V3} (h : adm 2 vs = 0) (g : ∀ i (hi : i < vs.length), V3.isB b (vs[i]) = false) : sett b vs = ((left b vs vs.length).1, (left b vs vs.length).2, 0) := by
  unfold sett left
  rw [if_pos h, if_neg, List.take_length]
  · split <;> rfl
  · intro e
    obtain ⟨v, hv, e⟩ := List.any_eq_true.1 e
    obtain ⟨i, hi, rfl⟩ := List.getElem_of_mem hv
    rw [g i hi] at e
    exact absurd e (by simp)
end Go.Proofs.YtlooelldkbdomaaGreatDoor
