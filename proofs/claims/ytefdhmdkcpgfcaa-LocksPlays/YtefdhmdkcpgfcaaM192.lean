/- Plain mathematics of layer 19: what is granted, place by place; lengths. -/
import Derived.Test.YtefdhmdkcpgfcaaI14
namespace Go.Proofs.Ytefdhmdkcpgfcaa
open Go
theorem mem_grntL {T : Tb9} {n : Int} : n ∈ grntL T ↔ ∃ i, ∃ h : i < T.ps.length, grntI T i = true ∧ T.ps[i].pos = n := by
  unfold grntL
  rw [List.mem_filterMap]
  constructor
  · rintro ⟨i, hi, e⟩
    obtain ⟨h1, h2⟩ := List.mem_filter.1 hi
    have hl := List.mem_range.1 h1
    rw [List.getElem?_eq_getElem hl] at e
    simp at e
    exact ⟨i, hl, h2, e⟩
  · rintro ⟨i, hl, h2, e⟩
    exact ⟨i, List.mem_filter.2 ⟨List.mem_range.2 hl, h2⟩, by rw [List.getElem?_eq_getElem hl]; simp [e]⟩
theorem atI_is {T : Tb9} (h : Sz9 T) {n : Int} {i : Nat} (hi : i < T.ps.length) (e : T.ps[i].pos = n) : atI T n = some i := by
  unfold atI
  rw [List.findIdx?_eq_some_iff_getElem]
  refine ⟨hi, by simp [e], fun j hj => ?_⟩
  have := h.rise j i (by omega) hi hj
  simp
  omega
theorem atI_get {T : Tb9} {n : Int} {i : Nat} (h : atI T n = some i) : ∃ hi : i < T.ps.length, T.ps[i].pos = n := by
  unfold atI at h
  rw [List.findIdx?_eq_some_iff_getElem] at h
  obtain ⟨hi, h1, _⟩ := h
  exact ⟨hi, by simpa using h1⟩
theorem isGr_eq {T : Tb9} (h : Sz9 T) (n : Int) : isGr T n = decide (n ∈ grntL T) := by
  rw [Bool.eq_iff_iff, decide_eq_true_iff, mem_grntL]
  unfold isGr
  constructor
  · intro q
    split at q
    · cases q
    · rename_i i hi
      obtain ⟨hl, e⟩ := atI_get hi
      exact ⟨i, hl, q, e⟩
  · rintro ⟨i, hl, q, e⟩
    rw [atI_is h hl e]
    exact q
theorem grntL_len (T : Tb9) : (grntL T).length ≤ T.ps.length := by
  unfold grntL
  refine Nat.le_trans (List.length_filterMap_le _ _) (Nat.le_trans (List.length_filter_le _ _) ?_)
  simp
theorem openL_len (T : Tb9) : (openL T).length = T.ps.length := by simp [openL]
theorem waitI_le (T : Tb9) (i : Nat) : (waitI T i).length ≤ T.ps.length := by
  unfold waitI waitL
  cases h : T.ps[i]? with
  | none => simp
  | some p =>
    simp only [Option.map_some, Option.getD_some, List.length_map]
    refine Nat.le_trans (List.length_filter_le _ _) ?_
    simp
    omega
theorem waitR_len (T : Tb9) (n : Int) : (waitR T n).1.length ≤ T.ps.length := by
  unfold waitR
  split
  · simp
  · exact waitI_le _ _
theorem lockR_len {T : Tb9} (h : Sz9 T) (n : Int) : (lockR T n).1.length ≤ 2147483647 := by
  unfold lockR
  split
  · simp
  · rename_i i hi
    obtain ⟨hl, _⟩ := atI_get hi
    rw [List.getElem?_eq_getElem hl]
    exact h.ls _ (List.getElem_mem hl)
section
open Go.RowKit
variable {w0 w w' : World} {K : List Rs} {I : World → Prop}
/-- A row of one's own, as it reads. -/
def owR {α : Type} (n : Nat) (ty : TypeId) (R : α → List Value → Prop) (B : Nat) (v : Value) (l : List α) : Rs := ⟨fun k => v.ownBlock = some k, fun w => OwnR n ty R w B v l⟩
theorem owR_ok {α : Type} (n : Nat) (ty : TypeId) (R : α → List Value → Prop) (B : Nat) (v : Value) (l : List α) : (owR n ty R B v l).ok := fun _ _ h ho => h.kept (fun g hg => ho.block g (h.lt hg).2 fun q => q hg) fun _ _ h => h
theorem Fm.pushOwn {α : Type} {n : Nat} {ty : TypeId} {R : α → List Value → Prop} {v : Value} {l : List α} (h : Fm w0 K I w) (hb : Below w.heap.size w w') (ho : OwnR n ty R w' w.heap.size v l) : Fm w0 (owR n ty R w.heap.size v l :: K) I w' := h.push hb (owR_ok _ _ _ _ _ _) ho fun _ hk => ho.lt hk
theorem Fm.ownBlk {α : Type} {n : Nat} {ty : TypeId} {R : α → List Value → Prop} {B : Nat} {v : Value} {l : List α} (h : Fm w0 (owR n ty R B v l :: K) I w) : (v = .slice none 0 0 ∧ l = []) ∨ ∃ g cap, v = .slice (some ⟨g, 0, none⟩) l.length cap ∧ l.length ≤ cap ∧ Fm w0 (anR g ty (cap * n) :: K) I w := by
  have hh : OwnR n ty R w B v l := h.at 0 rfl
  obtain ⟨ps, e1, _, _, ⟨e, h0⟩ | ⟨g, cap, cur, e, _, h2, h4, _, h3, _⟩⟩ := hh
  · exact Or.inl ⟨e, List.eq_nil_of_length_eq_zero (by omega)⟩
  · refine Or.inr ⟨g, cap, e, h4, ?_⟩
    have := h.turn 0 (r' := anR g ty (cap * n)) rfl (Only.refl _ _) (anR_ok _ _ _) ⟨cur, h2, h3⟩ fun k hk => Or.inl (by
      show v.ownBlock = some k
      rw [e, show k = g from hk]
      rfl)
    simpa using this
/-- A row that may be written over. -/
def ovR (n : Nat) (ty : TypeId) (v : Value) (len : Nat) : Rs := ⟨fun k => v.ownBlock = some k, fun w => len = 0 ∨ ∃ g cap cur, v = .slice (some ⟨g, 0, none⟩) len cap ∧ len ≤ cap ∧ w.heap[g]? = some (.cells cur ty (0, 0)) ∧ cur.size = cap * n⟩
theorem ovR_ok (n : Nat) (ty : TypeId) (v : Value) (len : Nat) : (ovR n ty v len).ok := fun _ _ h ho => by
  rcases h with h | ⟨g, cap, cur, e, h1, h2, h3⟩
  · exact Or.inl h
  · exact Or.inr ⟨g, cap, cur, e, h1, (ho.block g (Array.getElem?_eq_some_iff.1 h2).1 fun q => q (by rw [e]; rfl)).trans h2, h3⟩
theorem Fm.ownOv {α : Type} {n : Nat} {ty : TypeId} {R : α → List Value → Prop} {B : Nat} {v : Value} {l : List α} (h : Fm w0 (owR n ty R B v l :: K) I w) : Fm w0 (ovR n ty v l.length :: K) I w := by
  have hh : OwnR n ty R w B v l := h.at 0 rfl
  obtain ⟨ps, _, _, _, ⟨e, h0⟩ | ⟨g, cap, cur, e, _, h2, h4, _, h3, _⟩⟩ := hh
  · have := h.turn 0 (r' := ovR n ty v l.length) rfl (Only.refl _ _) (ovR_ok _ _ _ _) (Or.inl h0) fun k hk => Or.inl hk
    simpa using this
  · have := h.turn 0 (r' := ovR n ty v l.length) rfl (Only.refl _ _) (ovR_ok _ _ _ _) (Or.inr ⟨g, cap, cur, e, h4, h2, h3⟩) fun k hk => Or.inl hk
    simpa using this
/-- Where one of it is written over. -/
theorem Fm.ovAt {n : Nat} {ty : TypeId} {p : Option Addr} {len cap : Nat} (h : Fm w0 (ovR n ty (.slice p len cap) len :: K) I w) {k : Nat} (hk : k < len) : ∃ g, p = some ⟨g, 0, none⟩ ∧ (∀ j, j < n → (w.cell? ⟨g, 0 + k * n + j, none⟩).isSome = true ∧ w.frozen? ⟨g, 0 + k * n + j, none⟩ = false) ∧ ∀ o vs, Fm w0 (ovR n ty (.slice p len cap) len :: K) I (w.setCells g o vs) := by
  have hh : (ovR n ty (.slice p len cap) len).H w := h.at 0 rfl
  rcases hh with hh | ⟨g, cap', cur, e, h1, h2, h3⟩
  · omega
  · simp only [Value.slice.injEq, true_and] at e
    obtain ⟨rfl, rfl⟩ := e
    refine ⟨g, rfl, fun j hj => ?_, fun o vs => ?_⟩
    · have : k * n + j < cur.size := by
        rw [h3]
        have : (k + 1) * n ≤ cap * n := Nat.mul_le_mul_right _ (by omega)
        rw [Nat.add_mul] at this
        omega
      simp [World.cell?, World.frozen?, h2, this]
    · obtain ⟨cur', h4, h5⟩ := setCells_row g vs o w h2
      have := h.turn 0 (r' := ovR n ty (.slice (some ⟨g, 0, none⟩) len cap) len) rfl ((set_cells_any g vs o w h2).mono fun k hk => by rw [hk]; rfl) (ovR_ok _ _ _ _) (Or.inr ⟨g, cap, cur', rfl, h1, h4, h5.trans h3⟩) fun k hk => Or.inl hk
      simpa using this
theorem Fm.ownRow {α : Type} {n : Nat} {ty : TypeId} {R : α → List Value → Prop} {B : Nat} {p : Option Addr} {m cap : Nat} {l : List α} {L : List Rs} (h : Fm w0 L I w) (k : Nat) (hk : L[k]? = some (owR n ty R B (.slice p m cap) l)) : RowR n R w p l := OwnR.row (h.at k hk) fun _ _ h => h
end
end Go.Proofs.Ytefdhmdkcpgfcaa
