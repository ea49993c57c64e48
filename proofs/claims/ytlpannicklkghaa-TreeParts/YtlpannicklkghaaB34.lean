/- Walks of layer 7: the document's tree, New. -/
import Derived.Test.YtlpannicklkghaaB31
import Derived.Test.YtlpannicklkghaaB29
import Derived.Test.YtlpannicklkghaaC1
namespace Go.Proofs.Ytlpannicklkghaa
open Go.RowKit

/-- The document's tree in memory. -/
structure RtAt (w : World) (B : Nat) (r m : Nat) (v : Value) (l : List It) : Prop where
  cells : w.heap[r]? = some (.cells #[.int .i64 (m : Int), v] 46 (0, 0))
  row : w.ownsRow B 27 2 v l.length (pc l)
  le : B ≤ r
theorem RtAt.lt {w : World} {B r m : Nat} {v : Value} {l : List It} (h : RtAt w B r m v l) : r < w.heap.size := (Array.getElem?_eq_some_iff.1 h.cells).1
theorem RtAt.kept {w w' : World} {B r m : Nat} {v : Value} {l : List It} (h : RtAt w B r m v l) (hr : w'.heap[r]? = w.heap[r]?) (hk : ∀ k, v.ownBlock = some k → w'.heap[k]? = w.heap[k]?) : RtAt w' B r m v l := ⟨hr.trans h.cells, own_kept h.row hk, h.le⟩
theorem RtAt.later {w w' : World} {B r m : Nat} {v : Value} {l : List It} (h : RtAt w B r m v l) (hb : Below w.heap.size w w') : RtAt w' B r m v l := h.kept (hb.block _ h.lt) fun k hk => hb.block _ (h.row.lt k hk).2
/-- The cells of pairs that came in. -/
theorem PRow.cells {w : World} {p : Option Addr} {l : List Pr} (h : PRow w p l) : 0 < (pc (l.map itOf)).length → ∃ ad, p = some ad ∧ ∀ j v, (pc (l.map itOf))[j]? = some v → w.cell? (ad.add j) = some v := by
  intro h0
  rw [pc_length, List.length_map] at h0
  obtain ⟨b, off, e, _, _⟩ := h 0 (by omega)
  refine ⟨_, e, fun j v hj => ?_⟩
  have hadd : (⟨b, off, none⟩ : Addr).add j = ⟨b, off + j, none⟩ := by unfold Addr.add; split <;> simp_all
  have hlt := (List.getElem?_eq_some_iff.1 hj).1
  rw [pc_length, List.length_map] at hlt
  have hi : j / 2 < l.length := by omega
  obtain ⟨b', off', e', c0, c1⟩ := h (j / 2) hi
  rw [e] at e'
  simp only [Option.some.injEq, Addr.mk.injEq, and_true] at e'
  obtain ⟨rfl, rfl⟩ := e'
  obtain ⟨p0, p1⟩ := pc_at (l.map itOf) (j / 2) (by rw [List.length_map]; exact hi)
  rw [List.getElem_map] at p0 p1
  rw [hadd]
  rcases Nat.mod_two_eq_zero_or_one j with hm | hm
  · have ej : j / 2 * 2 = j := by omega
    rw [ej] at p0 c0
    rw [p0] at hj
    rw [c0, ← hj]
    rfl
  · have ej : j / 2 * 2 + 1 = j := by omega
    rw [ej] at p1
    rw [Nat.add_assoc, ej] at c1
    rw [p1] at hj
    rw [c1, ← hj]
    rfl
theorem geq_kl (x y : ByteArray) : (Op.bytesLess y.toList x.toList || x.toList == y.toList) = !(kl x y) := by
  rw [← leq_kl x y]
  congr 1
  rw [Bool.eq_iff_iff, beq_iff_eq, beq_iff_eq]
  exact eq_comm
/-- What was made, and copied over whole. -/
theorem copied_row {w w' : World} {B g n : Nat} {zs cs : List Value} {e : TypeId} {size : Nat} (ho : w.ownsRow B e size (.slice (some ⟨g, 0, none⟩) n n) n zs) (hc : cs.length = n * size) (hw : w' = w.setCells g 0 cs) : w'.ownsRow B e size (.slice (some ⟨g, 0, none⟩) n n) n cs := by
  obtain ⟨h1, ⟨h2, _⟩ | ⟨g', cap, cur, e', hB, hg, hn, hm, hs, _⟩⟩ := ho
  · cases h2
  · simp only [Value.slice.injEq, Option.some.injEq, Addr.mk.injEq, and_true, true_and] at e'
    obtain ⟨rfl, rfl⟩ := e'
    obtain ⟨cur', hg', hs'⟩ := setCells_row g cs 0 w hg
    rw [← hw] at hg'
    have hin : ∀ j, j < cs.length → (w.cell? ⟨g, 0 + j, none⟩).isSome = true := fun j hj => by
      simp only [World.cell?, hg, Nat.zero_add]
      rw [hc, ← hs] at hj
      simp [hj]
    have h := own_cells (w := w') (e := e) (size := size) hc hg' (Nat.le_refl n) hm (by rw [hs', hs]) fun j hj => by
      have h2 := World.cell?_setCells_in g cs 0 w hin j (by omega)
      rw [Nat.zero_add] at h2
      rw [hw, h2, List.getElem?_eq_getElem (by omega)]
    obtain ⟨q1, ⟨q2, _⟩ | ⟨g', cap, cur, e', _, q⟩⟩ := h
    · cases q2
    · exact ⟨q1, Or.inr ⟨g', cap, cur, e', by
        simp only [Value.slice.injEq, Option.some.injEq, Addr.mk.injEq, and_true] at e'
        rw [← e'.1]; exact hB, q⟩⟩
theorem row_room {w : World} {B g n : Nat} {zs : List Value} {e : TypeId} {size : Nat} (ho : w.ownsRow B e size (.slice (some ⟨g, 0, none⟩) n n) n zs) : (∀ j, j < n * size → (w.cell? ⟨g, 0 + j, none⟩).isSome = true) ∧ ∀ o, w.frozen? ⟨g, o, none⟩ = false := by
  refine ⟨fun j hj => ?_, fun o => ho.frozenAt o⟩
  rw [Nat.zero_add, ho.cellAt j hj, List.getElem?_eq_getElem (by rw [ho.1]; exact hj)]
  rfl
end Go.Proofs.Ytlpannicklkghaa
