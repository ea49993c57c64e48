/- Plain mathematics of layer 1: what the law ValueKleene asks. -/
import Derived.Test.YtfabcdjgakhdmabDoorM9
import Derived.Test.YtfabcdjgakhdmabDoorW21
namespace Go.Proofs.YtfabcdjgakhdmabDoor

/-- Not of a value, as a value. -/
def notV (v : V3) : V3 := ((notR v.1 v.2.1 v.2.2).1, (notR v.1 v.2.1 v.2.2).2.1, ⟨#[]⟩)
theorem adm_single {kind : Int} {l : List V3} {v : V3} (h : adm kind l = 0) (hv : v ∈ l) : adm kind [v] = 0 := by
  have := adm_zero h v hv
  apply adm_ok
  · intro i hi
    match i, hi with
    | 0, _ => exact this.1
  · intro i hi
    match i, hi with
    | 0, _ => exact this.2
theorem notR_of {l : List V3} {v : V3} (h : adm 2 l = 0) (hv : v ∈ l) : notR v.1 v.2.1 v.2.2 = if v.1 = 0 then (0, 0, 0) else (2, b2i (v.2.1 == 0), 0) := by
  have := adm_single h hv
  by_cases k : v.1 = 0
  · rw [if_pos k]; exact notR_null this k
  · rw [if_neg k]; exact notR_ok this k
theorem not_err {l : List V3} {v : V3} (h : adm 2 l = 0) (hv : v ∈ l) : (notR v.1 v.2.1 v.2.2).2.2 = 0 := by
  rw [notR_of h hv]; split <;> rfl
theorem notV_of {l : List V3} {v : V3} (h : adm 2 l = 0) (hv : v ∈ l) : notV v = if v.1 = 0 then (0, 0, ⟨#[]⟩) else (2, b2i (v.2.1 == 0), ⟨#[]⟩) := by
  unfold notV; rw [notR_of h hv]; split <;> rfl
theorem emptyList : (⟨#[]⟩ : ByteArray).toList = [] := by rw [ByteArray.toList_eq]
theorem isB_not {b : Bool} {l : List V3} {v : V3} (h : adm 2 l = 0) (hv : v ∈ l) : V3.isB b (notV v) = V3.isB (!b) v := by
  rw [notV_of h hv]
  have hz := adm_zero h v hv
  by_cases k : v.1 = 0
  · rw [if_pos k]; simp [V3.isB, k]
  · have k2 : v.1 = 2 := by have := hz.2; omega
    obtain ⟨hn, hs⟩ := right_bool hz.1 k2
    rw [if_neg k]
    rcases hn with hn | hn <;> cases b <;> simp [V3.isB, k2, hn, hs, b2i]
theorem null_not {l : List V3} {v : V3} (h : adm 2 l = 0) (hv : v ∈ l) : ((notV v).1 == 0) = (v.1 == 0) := by
  rw [notV_of h hv]
  by_cases k : v.1 = 0
  · rw [if_pos k]; simp [k]
  · rw [if_neg k]; simp [k]
theorem adm_not {l : List V3} (h : adm 2 l = 0) : adm 2 (l.map notV) = 0 := by
  apply adm_ok
  · intro i hi
    have hi' : i < l.length := by simpa using hi
    have := notV_of h (List.getElem_mem hi')
    simp only [List.getElem_map]
    rw [this]
    split
    · simp [rgt]
    · cases ((l[i]).2.1 == 0) <;> simp [rgt, b2i]
  · intro i hi
    have hi' : i < l.length := by simpa using hi
    have := notV_of h (List.getElem_mem hi')
    simp only [List.getElem_map]
    rw [this]
    split
    · exact Or.inr rfl
    · exact Or.inl rfl
theorem any_map_eq {l : List V3} {f : V3 → V3} {p q : V3 → Bool} (h : ∀ v ∈ l, p (f v) = q v) : (l.map f).any p = l.any q := by
  induction l with
  | nil => rfl
  | cons v l ih =>
    simp only [List.map_cons, List.any_cons]
    rw [h v List.mem_cons_self, ih fun u hu => h u (List.mem_cons_of_mem _ hu)]
theorem sett_not {b : Bool} {l : List V3} (h : adm 2 l = 0) : sett b (l.map notV) = notR (sett (!b) l).1 (sett (!b) l).2.1 ⟨#[]⟩ := by
  have h1 : (l.map notV).any (V3.isB b) = l.any (V3.isB (!b)) := any_map_eq fun v hv => isB_not h hv
  have h2 : (l.map notV).any (fun v => v.1 == 0) = l.any (fun v => v.1 == 0) := any_map_eq fun v hv => null_not h hv
  unfold sett
  rw [if_pos (adm_not h), if_pos h, h1, h2]
  cases l.any (V3.isB (!b)) <;> cases l.any (fun v => v.1 == 0) <;> cases b <;> decide +kernel
theorem adm_append {kind : Int} {l m : List V3} (h : adm kind l = 0) (g : adm kind m = 0) : adm kind (l ++ m) = 0 := by
  apply adm_ok
  · intro i hi
    rcases List.mem_append.1 (List.getElem_mem hi) with q | q
    · exact (adm_zero h _ q).1
    · exact (adm_zero g _ q).1
  · intro i hi
    rcases List.mem_append.1 (List.getElem_mem hi) with q | q
    · exact (adm_zero h _ q).2
    · exact (adm_zero g _ q).2
theorem sett_both {l m : List V3} (h : adm 2 l = 0) (g : adm 2 m = 0) :
    sett false (l ++ m) = sett false [((sett false l).1, (sett false l).2.1, ⟨#[]⟩), ((sett false m).1, (sett false m).2.1, ⟨#[]⟩)] ∧ (sett false (l ++ m)).2.2 = 0 := by
  have e : sett false (l ++ m) = if l.any (V3.isB false) || m.any (V3.isB false) then (2, b2i false, 0) else if l.any (fun v => v.1 == 0) || m.any (fun v => v.1 == 0) then (0, 0, 0) else (2, b2i (!false), 0) := by
    unfold sett
    rw [if_pos (adm_append h g), List.any_append, List.any_append]
  have e1 : sett false l = if l.any (V3.isB false) then (2, b2i false, 0) else if l.any (fun v => v.1 == 0) then (0, 0, 0) else (2, b2i (!false), 0) := by
    unfold sett; rw [if_pos h]
  have e2 : sett false m = if m.any (V3.isB false) then (2, b2i false, 0) else if m.any (fun v => v.1 == 0) then (0, 0, 0) else (2, b2i (!false), 0) := by
    unfold sett; rw [if_pos g]
  rw [e, e1, e2]
  cases l.any (V3.isB false) <;> cases l.any (fun v => v.1 == 0) <;> cases m.any (V3.isB false) <;> cases m.any (fun v => v.1 == 0) <;> decide +kernel
theorem sett_e {b : Bool} {l : List V3} (h : adm 2 l = 0) : (sett b l).2.2 = 0 := by
  unfold sett; rw [if_pos h]; split
  · rfl
  · split <;> rfl
end Go.Proofs.YtfabcdjgakhdmabDoor
