/- Walks of layer 8: what a definition more comes to. -/
import Derived.Test.YtkgkkcefnonejaaGreatT17
namespace Go.Proofs.YtkgkkcefnonejaaGreat
open Go.RowKit

theorem heap_setCell_at {w : World} {l i : Nat} {cs : Array Value} {t : TypeId} {fr : Nat × Nat} (h : w.heap[l]? = some (.cells cs t fr)) (v : Value) : (w.setCell ⟨l, i, none⟩ v).heap[l]? = some (.cells (cs.setIfInBounds i v) t fr) := by
  simp only [World.setCell, Array.getElem?_modify, if_true, h]
  simp
/-- A store into a block of another type. -/
theorem Keeps.typed {S : List TypeId} {B : Nat} {a w : World} (hk : Keeps S B a w) {g : Nat} {cs : Array Value} {t : TypeId} {fr : Nat × Nat} (h : w.heap[g]? = some (.cells cs t fr)) (ht : t ∉ S) (o : Nat) (u : Value) : Keeps S B a (w.setCell ⟨g, o, none⟩ u) := by
  intro g' cur t' ht' hB h'
  have h2 := hk g' cur t' ht' hB h'
  refine (Below.heap_setCell _ _ _ _ fun e => ?_).trans h2
  have e : g' = g := e
  rw [e, h] at h2
  simp only [Option.some.injEq, Obj.cells.injEq] at h2
  exact ht (h2.2.1 ▸ ht')
theorem two_of {w : World} {x : Nat} {a b : Value} {t : TypeId} (h : w.heap[x]? = some (.cells #[a, b] t (0, 0))) : w.cell? ⟨x, 0, none⟩ = some a ∧ w.cell? ⟨x, 1, none⟩ = some b ∧ w.frozen? ⟨x, 0, none⟩ = false ∧ w.frozen? ⟨x, 1, none⟩ = false := by
  refine ⟨?_, ?_, ?_, ?_⟩ <;> simp [World.cell?, World.frozen?, h]
theorem five_of {w : World} {x : Nat} {a b c d e : Value} {t : TypeId} (h : w.heap[x]? = some (.cells #[a, b, c, d, e] t (0, 0))) : w.cell? ⟨x, 0, none⟩ = some a ∧ w.cell? ⟨x, 1, none⟩ = some b ∧ w.cell? ⟨x, 2, none⟩ = some c ∧ w.cell? ⟨x, 3, none⟩ = some d ∧ w.cell? ⟨x, 4, none⟩ = some e := by
  refine ⟨?_, ?_, ?_, ?_, ?_⟩ <;> simp [World.cell?, h]
/-- A block of another type than the row that grew. -/
theorem grown_other {w w' : World} {B : Nat} {e : TypeId} {size : Nat} {v : Value} {n : Nat} {xs : List Value} (ho : w.ownsRow B e size v n xs) (hg : w.grownBy w' v.ownBlock) {x : Nat} {cs : Array Value} {t : TypeId} {fr : Nat × Nat} (h : w.heap[x]? = some (.cells cs t fr)) (ht : t ≠ e) : w'.heap[x]? = some (.cells cs t fr) := by
  refine (hg.block x (Array.getElem?_eq_some_iff.1 h).1 fun e1 => ?_).trans h
  obtain ⟨cur', h'⟩ := own_block ho e1.symm
  rw [h] at h'
  simp only [Option.some.injEq, Obj.cells.injEq] at h'
  exact ht h'.2.1
/-- The code that AddTable tells. -/
def addTE (c : Ct) (t : Tb) : Int := if rightC c = true ∧ mayTb t = true then (if 0 ≤ fndI (c.tbs.map fun x => bs x.nm) (bs t.nm) then 81 else if c.tbs.length = 8 then 2 else 0) else 80
def addTC (c : Ct) (t : Tb) : Ct := if addTE c t = 0 then ⟨c.tbs ++ [t], c.prs⟩ else ⟨[], []⟩
def addPE (c : Ct) (t : Pc) : Int := if rightC c = true ∧ mayPc t = true then (if 0 ≤ fndI (c.prs.map fun x => bs x.nm) (bs t.nm) then 81 else if c.prs.length = 16 then 2 else 0) else 80
def addPC (c : Ct) (t : Pc) : Ct := if addPE c t = 0 then ⟨c.tbs, c.prs ++ [t]⟩ else ⟨[], []⟩
/-- Nothing was added. -/
theorem CtO.none (w : World) (B : Nat) : CtO w B ⟨[], []⟩ [.slice none 0 0, .slice none 0 0] := ⟨_, _, rfl, OwnR.nil _ _ _ _ _, OwnR.nil _ _ _ _ _⟩
end Go.Proofs.YtkgkkcefnonejaaGreat
