/- Plain mathematics of layer 19: no calls wait for one another (LocksEnd). -/
import Derived.Test.YtefdhmdkcpgfcaaM193
namespace Go.Proofs.Ytefdhmdkcpgfcaa
open Go
def okL (l : List Lk) : List Lk := if l.all lkR = true then l else []
/-- What stands in the table is what was taken. -/
def Ok9 (L : List (List Lk)) (T : Tb9) : Prop := ∀ p ∈ T.ps, ∃ j, ∃ h : j < L.length, p.pos = (j : Int) ∧ p.ls = L[j]
/-- Nobody waits for what one waits not for. -/
theorem grnt_apart {T : Tb9} {i j : Nat} (hi : i < T.ps.length) (h : grntI T i = true) (hj : j < i) : anyM T.ps[i].ls (T.ps[j]'(by omega)).ls = false := by
  unfold grntI waitI at h
  rw [List.getElem?_eq_getElem hi] at h
  simp only [Option.map_some, Option.getD_some, List.isEmpty_iff] at h
  unfold waitL at h
  rw [List.map_eq_nil_iff, List.filter_eq_nil_iff] at h
  have := h (T.ps[j]'(by omega)) (by
    rw [List.mem_take_iff_getElem]
    exact ⟨j, by omega, rfl⟩)
  simpa using this
theorem grnt_of_apart {T : Tb9} {i : Nat} (hi : i < T.ps.length) (h : ∀ j (hj : j < i), anyM T.ps[i].ls (T.ps[j]'(by omega)).ls = false) : grntI T i = true := by
  unfold grntI waitI
  rw [List.getElem?_eq_getElem hi]
  simp only [Option.map_some, Option.getD_some, List.isEmpty_iff]
  unfold waitL
  rw [List.map_eq_nil_iff, List.filter_eq_nil_iff]
  intro q hq
  rw [List.mem_take_iff_getElem] at hq
  obtain ⟨j, hj, rfl⟩ := hq
  rw [h j (by omega)]
  simp
/-- The least is granted. -/
theorem grnt_head {T : Tb9} (h : 0 < T.ps.length) : ∃ r, grntL T = (T.ps[0]).pos :: r := by
  have h0 : grntI T 0 = true := grnt_of_apart h fun j hj => absurd hj (Nat.not_lt_zero _)
  unfold grntL
  obtain ⟨n, hn⟩ : ∃ n, T.ps.length = n + 1 := ⟨T.ps.length - 1, by omega⟩
  rw [hn, List.range_succ_eq_map, List.filter_cons, if_pos h0, List.filterMap_cons, List.getElem?_eq_getElem h]
  exact ⟨_, rfl⟩
theorem free_at {T : Tb9} {i : Nat} {n : Int} (ha : atI T n = some i) (hg : grntI T i = true) : (freeT T n).ps = T.ps.eraseIdx i := by
  unfold freeT
  rw [ha]
  simp only [hg, if_true]
  rw [List.eraseIdx_eq_take_drop_succ]
theorem mem_isGr {T : Tb9} (h : Sz9 T) {n : Int} (hn : n ∈ grntL T) : ∃ i, ∃ hi : i < T.ps.length, atI T n = some i ∧ grntI T i = true ∧ T.ps[i].pos = n ∧ isGr T n = true := by
  obtain ⟨i, hi, hg, e⟩ := mem_grntL.1 hn
  exact ⟨i, hi, atI_is h hi e, hg, e, by rw [isGr_eq h]; simpa using hn⟩
/-- One who is granted stays so when another one is freed. -/
theorem grnt_stays {T : Tb9} (h : Sz9 T) {n q : Int} (hn : n ∈ grntL T) (hq : q ∈ grntL T) (hne : n ≠ q) : n ∈ grntL (freeT T q) := by
  obtain ⟨i, hi, _, gi, ei, _⟩ := mem_isGr h hn
  obtain ⟨k, hk, ak, gk, ek, _⟩ := mem_isGr h hq
  have hik : i ≠ k := fun e => hne (by subst e; rw [← ei, ← ek])
  have hps := free_at ak gk
  rw [mem_grntL]
  have hlen : (freeT T q).ps.length = T.ps.length - 1 := by rw [hps, List.length_eraseIdx_of_lt hk]
  -- where it stands now
  let i2 : Nat := if i < k then i else i - 1
  have hi2 : i2 < (freeT T q).ps.length := by
    rw [hlen]
    show (if i < k then i else i - 1) < _
    split <;> omega
  have hat : ∀ j (hj : j < (freeT T q).ps.length), (freeT T q).ps[j] = if h : j < k then T.ps[j] else T.ps[j + 1]'(by omega) := fun j hj => by
    have : (freeT T q).ps[j] = (T.ps.eraseIdx k)[j]'(by rw [← hps]; exact hj) := by simp only [hps]
    rw [this, List.getElem_eraseIdx]
  have he : (freeT T q).ps[i2] = T.ps[i] := by
    rw [hat i2 hi2]
    by_cases c : i < k
    · have e : i2 = i := if_pos c
      rw [dif_pos (by omega)]
      simp only [e]
    · have e : i2 = i - 1 := if_neg c
      rw [dif_neg (by omega)]
      have e2 : i2 + 1 = i := by omega
      simp only [e2]
  refine ⟨i2, hi2, grnt_of_apart hi2 fun j hj => ?_, by rw [he]; exact ei⟩
  rw [he, hat j (by omega)]
  have hi2i : i2 ≤ i := by
    show (if i < k then i else i - 1) ≤ i
    split <;> omega
  split
  · exact grnt_apart hi gi (by omega)
  · rename_i c
    have : i2 = i - 1 := if_neg (by
      intro c2
      have : i2 = i := if_pos c2
      omega)
    exact grnt_apart hi gi (by omega)
theorem free_less {T : Tb9} (h : Sz9 T) {q : Int} (hq : q ∈ grntL T) : (freeT T q).ps.length + 1 = T.ps.length := by
  obtain ⟨k, hk, ak, gk, _, _⟩ := mem_isGr h hq
  rw [free_at ak gk, List.length_eraseIdx_of_lt hk]
  omega
theorem Ok9.free {L : List (List Lk)} {T : Tb9} (h : Ok9 L T) (q : Int) : Ok9 L (freeT T q) := by
  unfold freeT
  split
  · exact h
  · split
    · intro p hp
      rcases List.mem_append.1 hp with hp | hp
      · exact h p (List.mem_of_mem_take hp)
      · exact h p (List.mem_of_mem_drop hp)
    · exact h
/-- No two that are granted meet. -/
theorem grnt_pairs {L : List (List Lk)} {T : Tb9} (h : Ok9 L T) : (grntL T).Pairwise fun b a => ∃ j k, ∃ hj : j < L.length, ∃ hk : k < L.length, b = (j : Int) ∧ a = (k : Int) ∧ anyM L[k] L[j] = false := by
  unfold grntL
  rw [List.pairwise_filterMap]
  refine List.Pairwise.imp_of_mem (R := fun a b => a < b) ?_ (List.Pairwise.filter _ List.pairwise_lt_range)
  intro x y hx hy hxy b hb a ha
  obtain ⟨hx1, hx2⟩ := List.mem_filter.1 hx
  obtain ⟨hy1, hy2⟩ := List.mem_filter.1 hy
  have lx := List.mem_range.1 hx1
  have ly := List.mem_range.1 hy1
  rw [List.getElem?_eq_getElem lx] at hb
  rw [List.getElem?_eq_getElem ly] at ha
  simp only [Option.map_some, Option.some.injEq] at hb ha
  obtain ⟨j, hj, ej, sj⟩ := h _ (List.getElem_mem lx)
  obtain ⟨k, hk, ek, sk⟩ := h _ (List.getElem_mem ly)
  refine ⟨j, k, hj, hk, hb.symm.trans ej, ha.symm.trans ek, ?_⟩
  rw [← sj, ← sk]
  exact grnt_apart ly hy2 hxy
theorem grnt_in {L : List (List Lk)} {T : Tb9} (h : Ok9 L T) {n : Int} (hn : n ∈ grntL T) : ∃ j, j < L.length ∧ n = (j : Int) := by
  obtain ⟨i, hi, _, e⟩ := mem_grntL.1 hn
  obtain ⟨j, hj, ej, _⟩ := h _ (List.getElem_mem hi)
  exact ⟨j, hj, e.symm.trans ej⟩
/-- No open one ahead of a granted one meets it. -/
theorem open_apart {L : List (List Lk)} {T : Tb9} (h : Ok9 L T) (hs : Sz9 T) {n o : Int} (hn : n ∈ grntL T) (ho : o ∈ openL T) (hlt : o < n) : ∃ j k, ∃ hj : j < L.length, ∃ hk : k < L.length, o = (j : Int) ∧ n = (k : Int) ∧ anyM L[j] L[k] = false := by
  obtain ⟨i, hi, gi, e⟩ := mem_grntL.1 hn
  obtain ⟨p, hp, rfl⟩ := List.mem_map.1 ho
  obtain ⟨m, hm, rfl⟩ := List.getElem_of_mem hp
  have hmi : m < i := by
    rcases Nat.lt_trichotomy m i with c | c | c
    · exact c
    · subst c; omega
    · have := hs.rise i m hi hm c; omega
  obtain ⟨j, hj, ej, sj⟩ := h _ (List.getElem_mem hm)
  obtain ⟨k, hk, ek, sk⟩ := h _ (List.getElem_mem hi)
  refine ⟨j, k, hj, hk, ej, e.symm.trans ek, ?_⟩
  rw [anyM_comm, ← sj, ← sk]
  exact grnt_apart hi gi hmi
end Go.Proofs.Ytefdhmdkcpgfcaa
