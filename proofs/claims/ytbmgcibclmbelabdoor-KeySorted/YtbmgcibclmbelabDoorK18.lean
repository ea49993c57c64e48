/- Walks of layer 2: lists of lists of values; keys and rows side by side. -/
import Derived.Test.YtbmgcibclmbelabDoorK17
import Derived.Test.YtbmgcibclmbelabDoorM25
import Derived.Laws.OwnMore
import Derived.Deep.AppendLies
namespace Go.Proofs.YtbmgcibclmbelabDoor
open Go.RowKit

/-- A row: where it lies, its values, its room. -/
abbrev R3 : Type := Option Addr × List V3 × Nat
def rowv (r : R3) : Value := .slice r.1 r.2.1.length r.2.2
def rkey (r : R3) : List UInt8 := kbs r.2.1
def keyv (r : R3) : Value := .string ⟨(rkey r).toArray⟩
/-- A list of rows that came in. -/
def RowS (w : World) (a : Option Addr) (ls : List R3) : Prop := ∀ i (h : i < ls.length), (∃ b off, a = some ⟨b, off, none⟩ ∧ w.cell? ⟨b, off + i, none⟩ = some (rowv ls[i])) ∧ Row w (ls[i]).1 (ls[i]).2.1
theorem RowS.later {w w' : World} {a : Option Addr} {ls : List R3} (h : RowS w a ls) (hb : Below w.heap.size w w') : RowS w' a ls := by
  intro i hi
  obtain ⟨⟨b, off, e, c⟩, r⟩ := h i hi
  exact ⟨⟨b, off, e, cell_later hb c⟩, r.later hb⟩
theorem rowv_one (l : List R3) : ∀ u ∈ l.map rowv, u.oneCell' = true := by
  intro u hu
  obtain ⟨r, _, rfl⟩ := List.mem_map.1 hu
  rfl
theorem keyv_one (l : List R3) : ∀ u ∈ l.map keyv, u.oneCell' = true := by
  intro u hu
  obtain ⟨r, _, rfl⟩ := List.mem_map.1 hu
  rfl
theorem Tryd.info9 : (Tryd.prog.info? 9).map (fun i => (i.zero, i.size, i.bytes)) = some (some (.string ⟨#[]⟩), 1, 16) := by kernel_rfl
theorem Tryd.info25 : (Tryd.prog.info? 25).map (fun i => (i.zero, i.size, i.bytes)) = some (some (.slice none 0 0), 1, 24) := by kernel_rfl

/-- Keys and rows side by side, in two places. -/
def KR (B : Nat) (kv rv : Value) (Rs : List R3) (w : World) : Prop :=
  w.ownsRow B 9 1 kv Rs.length (Rs.map keyv) ∧ w.ownsRow B 25 1 rv Rs.length (Rs.map rowv) ∧ (∀ g, kv.ownBlock = some g → rv.ownBlock ≠ some g)
theorem kr_nil (B : Nat) (w : World) : KR B (.slice none 0 0) (.slice none 0 0) [] w := ⟨World.ownsRow_nil _ _ _ _, World.ownsRow_nil _ _ _ _, fun g h => by cases h⟩
theorem KR.later {B : Nat} {kv rv : Value} {Rs : List R3} {w w' : World} (h : KR B kv rv Rs w) (hb : Below w.heap.size w w') : KR B kv rv Rs w' := ⟨own_later h.1 hb, own_later h.2.1 hb, h.2.2⟩
theorem cells_one (w : World) (v : Value) (t : TypeId) : ∀ j u, [v][j]? = some u → (w.alloc (.cells #[v] t)).cell? ((⟨w.heap.size, 0, none⟩ : Addr).add j) = some u := by
  intro j u hj
  match j, hj with
  | 0, hj => simp at hj; subst hj; simp [Addr.add]

/-- A swap of neighbours in both lists. -/
theorem kr_swap {B g1 g2 c1 c2 n k : Nat} {Rs : List R3} {r : R3} {w : World} (hg : g1 ≠ g2) (hk : k < Rs.length)
    (hK : w.ownsRow B 9 1 (.slice (some ⟨g1, 0, none⟩) n c1) n ((put Rs (k + 1) r).map keyv)) (hR : w.ownsRow B 25 1 (.slice (some ⟨g2, 0, none⟩) n c2) n ((put Rs (k + 1) r).map rowv)) :
    ((((w.setCell ⟨g1, k + 1, none⟩ (keyv Rs[k])).setCell ⟨g1, k, none⟩ (keyv r)).setCell ⟨g2, k + 1, none⟩ (rowv Rs[k])).setCell ⟨g2, k, none⟩ (rowv r)).ownsRow B 9 1 (.slice (some ⟨g1, 0, none⟩) n c1) n ((put Rs k r).map keyv) ∧
    ((((w.setCell ⟨g1, k + 1, none⟩ (keyv Rs[k])).setCell ⟨g1, k, none⟩ (keyv r)).setCell ⟨g2, k + 1, none⟩ (rowv Rs[k])).setCell ⟨g2, k, none⟩ (rowv r)).ownsRow B 25 1 (.slice (some ⟨g2, 0, none⟩) n c2) n ((put Rs k r).map rowv) := by
  have a1 := hK.stored (k + 1) (keyv Rs[k])
  have a2 := a1.1.stored k (keyv r)
  have b1 := (hR.kept a1.2 (Or.inr (by simpa [Value.ownBlock] using fun h => hg h.symm))).kept a2.2 (Or.inr (by simpa [Value.ownBlock] using fun h => hg h.symm))
  have b2 := b1.stored (k + 1) (rowv Rs[k])
  have b3 := b2.1.stored k (rowv r)
  have a3 := (a2.1.kept b2.2 (Or.inr (by simpa [Value.ownBlock] using hg))).kept b3.2 (Or.inr (by simpa [Value.ownBlock] using hg))
  have e1 : (((put Rs (k + 1) r).map keyv).set (k + 1) (keyv Rs[k])).set k (keyv r) = (put Rs k r).map keyv := by rw [← put_step Rs k r hk, List.map_set, List.map_set]
  have e2 : (((put Rs (k + 1) r).map rowv).set (k + 1) (rowv Rs[k])).set k (rowv r) = (put Rs k r).map rowv := by rw [← put_step Rs k r hk, List.map_set, List.map_set]
  rw [e1] at a3
  rw [e2] at b3
  exact ⟨a3, b3.1⟩
theorem key_at {B g c n j : Nat} {l : List R3} {x : R3} {w : World} (h : w.ownsRow B 9 1 (.slice (some ⟨g, 0, none⟩) n c) n (l.map keyv)) (hj : j < n) (e : l[j]? = some x) : w.cell? ⟨g, j, none⟩ = some (keyv x) := by
  rw [h.cellAt j (by omega), List.getElem?_map, e]
  rfl
theorem row_at {B g c n j : Nat} {l : List R3} {x : R3} {w : World} (h : w.ownsRow B 25 1 (.slice (some ⟨g, 0, none⟩) n c) n (l.map rowv)) (hj : j < n) (e : l[j]? = some x) : w.cell? ⟨g, j, none⟩ = some (rowv x) := by
  rw [h.cellAt j (by omega), List.getElem?_map, e]
  rfl
/-- How two neighbours stand. -/
theorem next_stand {x y : R3} (hx : (encR x.2.1).2 = 0) (hy : (encR y.2.1).2 = 0) (h : Ahead rkey x y) : (ordL x.2.1 y.2.1 = -1 ∧ (rkey x == rkey y) = false) ∨ (ordL x.2.1 y.2.1 = 0 ∧ (rkey x == rkey y) = true) := by
  obtain ⟨_, a, _⟩ := encR_zero hx
  obtain ⟨_, b, _⟩ := encR_zero hy
  unfold Ahead rkey at h
  unfold rkey
  rcases ordL_range x.2.1 y.2.1 with e | e | e
  · left
    refine ⟨e, ?_⟩
    have g := kbs_less _ _ a b e
    rw [beq_eq_false_iff_ne]
    intro q
    rw [q, bl_irrefl] at g
    exact absurd g (by simp)
  · right
    rw [ordL_zero _ _ e]
    exact ⟨ordL_self _, by simp⟩
  · have g := kbs_less y.2.1 x.2.1 b a (by rw [ordL_neg x.2.1 y.2.1, e])
    rw [g] at h
    exact absurd h (by simp)
end Go.Proofs.YtbmgcibclmbelabDoor
