/- Walks: rows that are made, and copied over. -/
import Derived.Test.YtefdhmdkcpgfcaaI0
import Derived.Test.YtefdhmdkcpgfcaaC1
namespace Go.Proofs.Ytefdhmdkcpgfcaa
open Go.RowKit

theorem setCells_grown (g : Nat) : ∀ (vs : List Value) (o : Nat) (w : World), w.grownBy (w.setCells g o vs) (some g)
  | [], _, w => ⟨rfl, rfl, rfl, Nat.le_refl _, fun _ _ _ => rfl⟩
  | v :: r, o, w => by
    have ih := setCells_grown g r (o + 1) (w.setCell ⟨g, o, none⟩ v)
    refine ⟨ih.os, ih.tape, ih.output, ?_, fun k hk hne => ?_⟩
    · have := ih.size
      rw [World.setCells]
      refine Nat.le_trans ?_ this
      simp [World.setCell]
    · rw [World.setCells]
      rw [ih.block k (by simpa [World.setCell] using hk) hne]
      exact Below.heap_setCell _ _ _ _ (fun e => hne (by rw [e]))

theorem setCells_row (g : Nat) : ∀ (vs : List Value) (o : Nat) (w : World) {cur : Array Value} {e : TypeId} {fr : Nat × Nat}, w.heap[g]? = some (.cells cur e fr) → ∃ cur', (w.setCells g o vs).heap[g]? = some (.cells cur' e fr) ∧ cur'.size = cur.size
  | [], _, _, cur, _, _, h => ⟨cur, h, rfl⟩
  | v :: r, o, w, cur, e, fr, h => by
    have : (w.setCell ⟨g, o, none⟩ v).heap[g]? = some (.cells (cur.setIfInBounds o v) e fr) := heap_setCell_at h v
    obtain ⟨cur', h1, h2⟩ := setCells_row g r (o + 1) _ this
    exact ⟨cur', h1, by rw [h2]; simp⟩
/-- A row out of its cells. -/
theorem own_of_cells {w : World} {e : TypeId} {size n cap g : Nat} {cur : Array Value} {xs : List Value} (hx : xs.length = n * size) (hg : w.heap[g]? = some (.cells cur e (0, 0))) (hn : n ≤ cap) (hm : cap ≤ maxLen) (hs : cur.size = cap * size) (hc : ∀ j, j < n * size → w.cell? ⟨g, j, none⟩ = xs[j]?) : w.ownsRow 0 e size (.slice (some ⟨g, 0, none⟩) n cap) n xs := by
  refine ⟨hx, Or.inr ⟨g, cap, cur, rfl, Nat.zero_le _, hg, hn, hm, hs, ?_⟩⟩
  have hle : n * size ≤ cur.size := by rw [hs]; exact Nat.mul_le_mul_right _ hn
  apply List.ext_getElem?
  intro j
  by_cases hj : j < n * size
  · have h1 := hc j hj
    simp only [World.cell?, hg] at h1
    rw [List.getElem?_take_of_lt hj, ← h1]
    simp
  · rw [List.getElem?_eq_none (by rw [List.length_take]; omega), List.getElem?_eq_none (by omega)]
theorem copied_row {w w' : World} {B g n : Nat} {zs cs : List Value} {e : TypeId} {size : Nat} (ho : w.ownsRow B e size (.slice (some ⟨g, 0, none⟩) n n) n zs) (hc : cs.length = n * size) (hw : w' = w.setCells g 0 cs) : w'.ownsRow B e size (.slice (some ⟨g, 0, none⟩) n n) n cs := by
  obtain ⟨h1, ⟨h2, _⟩ | ⟨g', cap, cur, e', hB, hg, hn, hm, hs, _⟩⟩ := ho
  · cases h2
  · simp only [Value.slice.injEq, Option.some.injEq, Addr.mk.injEq, and_true, true_and] at e'
    obtain ⟨rfl, rfl⟩ := e'
    obtain ⟨cur', hg', hs'⟩ := setCells_row g cs 0 w hg
    rw [← hw] at hg'
    have hin : ∀ j, j < cs.length → (w.cell? ⟨g, 0 + j, none⟩).isSome = true := fun j hj => by
      simp only [World.cell?, hg, Nat.zero_add]
      rw [hc, ← hs] at hj
      simp [hj]
    have h := own_of_cells (w := w') (e := e) (size := size) hc hg' (Nat.le_refl n) hm (by rw [hs', hs]) fun j hj => by
      have h2 := World.cell?_setCells_in g cs 0 w hin j (by omega)
      rw [Nat.zero_add] at h2
      rw [hw, h2, List.getElem?_eq_getElem (by omega)]
    obtain ⟨q1, ⟨q2, _⟩ | ⟨g', cap, cur, e', _, q⟩⟩ := h
    · cases q2
    · exact ⟨q1, Or.inr ⟨g', cap, cur, e', by
        simp only [Value.slice.injEq, Option.some.injEq, Addr.mk.injEq, and_true] at e'
        rw [← e'.1]; exact hB, q⟩⟩
theorem row_room {w : World} {B g n : Nat} {zs : List Value} {e : TypeId} {size : Nat} (ho : w.ownsRow B e size (.slice (some ⟨g, 0, none⟩) n n) n zs) : (∀ j, j < n * size → (w.cell? ⟨g, 0 + j, none⟩).isSome = true) ∧ ∀ o, w.frozen? ⟨g, o, none⟩ = false := by
  refine ⟨fun j hj => ?_, fun o => ho.frozenAt o⟩
  rw [Nat.zero_add, ho.cellAt j hj, List.getElem?_eq_getElem (by rw [ho.1]; exact hj)]
  rfl
theorem flatf_length {α : Type} {n : Nat} {f : α → List Value} (hl : ∀ x, (f x).length = n) : ∀ l : List α, (l.flatMap f).length = l.length * n
  | [] => by simp
  | x :: l => by rw [List.flatMap_cons, List.length_append, hl, flatf_length hl l, List.length_cons, Nat.add_mul]; omega
theorem flatf_pairs {α : Type} (f : α → List Value) (l : List α) : (l.map fun x => (x, f x)).flatMap (·.2) = l.flatMap f := by rw [List.flatMap_map]
/-- The cells of a row, one behind the other. -/
theorem row_cells {α : Type} {n : Nat} (hn : 0 < n) {R : α → List Value → Prop} {f : α → List Value} (hf : ∀ x vs, R x vs → vs = f x) (hl : ∀ x, (f x).length = n) {w : World} {a : Option Addr} {l : List α} (h : RowR n R w a l) :
    0 < (l.flatMap f).length → ∃ ad, a = some ad ∧ ∀ j v, (l.flatMap f)[j]? = some v → w.cell? (ad.add j) = some v := by
  intro h0
  rw [flatf_length hl] at h0
  have hl0 : 0 < l.length := by
    rcases Nat.eq_zero_or_pos l.length with e | e
    · rw [e] at h0; simp at h0
    · exact e
  obtain ⟨b, off, _, e, _⟩ := h 0 hl0
  refine ⟨_, e, fun j v hj => ?_⟩
  have hlt := (List.getElem?_eq_some_iff.1 hj).1
  rw [flatf_length hl] at hlt
  have hi : j / n < l.length := Nat.div_lt_of_lt_mul (by rw [Nat.mul_comm]; exact hlt)
  have hr : j % n < n := Nat.mod_lt _ hn
  obtain ⟨b', off', vs, e', hR, hvn, hc⟩ := h (j / n) hi
  rw [e] at e'
  simp only [Option.some.injEq, Addr.mk.injEq, and_true] at e'
  obtain ⟨rfl, rfl⟩ := e'
  obtain rfl := hf _ _ hR
  have hj2 : j / n * n + j % n = j := by rw [Nat.mul_comm]; exact Nat.div_add_mod j n
  have h1 := flat_at (n := n) (l.map fun x => (x, f x)) (j / n) (j % n) (by rw [List.length_map]; exact hi) (fun p hp => by obtain ⟨x, _, rfl⟩ := List.mem_map.1 hp; exact hl x) hr
  rw [flatf_pairs, hj2, List.getElem_map, hj] at h1
  have h2 := hc (j % n) (by rw [hvn]; exact hr)
  rw [Addr.add_lit, ← hj2, ← Nat.add_assoc, h2]
  exact ((List.getElem?_eq_getElem (by rw [hvn]; exact hr)).symm.trans h1.symm)
/-- What was made and copied over whole is owned. -/
theorem copied_own {α : Type} {n : Nat} {T : TypeId} {R : α → List Value → Prop} {f : α → List Value} (hR : ∀ x, R x (f x)) (hl : ∀ x, (f x).length = n) {w w' : World} {B g : Nat} {l : List α} {zs : List Value} (ho : w.ownsRow B T n (.slice (some ⟨g, 0, none⟩) l.length l.length) l.length zs) (hw : w' = w.setCells g 0 (l.flatMap f)) : OwnR n T R w' B (.slice (some ⟨g, 0, none⟩) l.length l.length) l := by
  refine ⟨l.map fun x => (x, f x), by rw [List.map_map]; exact List.map_id' _, fun p hp => ?_, ?_⟩
  · obtain ⟨x, _, rfl⟩ := List.mem_map.1 hp
    exact ⟨hR x, hl x⟩
  · rw [flatf_pairs]
    exact copied_row ho (flatf_length hl l) hw
theorem one_of {α : Type} {f : α → List Value} (h : ∀ x, ∀ v ∈ f x, v.oneCell' = true) (l : List α) : ∀ v ∈ l.flatMap f, v.oneCell' = true := by
  intro v hv
  obtain ⟨x, _, hx⟩ := List.mem_flatMap.1 hv
  exact h x v hx
end Go.Proofs.Ytefdhmdkcpgfcaa
