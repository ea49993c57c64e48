/- Walks of layer 7: what may turn; nodes of a tree in memory. -/
import Derived.Test.YtlpannicklkghaaChecked
import Derived.Test.YtlpannicklkghaaM80
import Derived.Test.YtlpannicklkghaaSh
import Derived.WalkKit
import Derived.WalkSpells
import Derived.WalkLawsBesides
import Derived.Lib.Hide
import Derived.Deep.RegionHeld3
import Derived.Deep.Light
import Derived.Deep.RegionLaw
import Derived.Deep.AppendLies
import Derived.Deep.QuietTactic
import Derived.BigQuiet
import Derived.Laws.OwnMore
import Derived.Laws.CopyOwn
import Derived.OneCell
namespace Go.Proofs.Ytlpannicklkghaa
open Go.RowKit

theorem ret_bool {a b : Bool} (h : a = b) : Ending.returned (.bool a) = .returned (.bool b) := by rw [h]
theorem cell_at {w w' : World} {x o : Nat} {v : Value} (h : w'.heap[x]? = w.heap[x]?) (hc : w.cell? ⟨x, o, none⟩ = some v) : w'.cell? ⟨x, o, none⟩ = some v := (World.cell?_of_block (a := ⟨x, o, none⟩) h).trans hc
theorem below_two {a b c : World} (h : Below a.heap.size a b) (k : Below b.heap.size b c) : Below a.heap.size a c := h.trans (k.mono h.size)
theorem below_drewN {B : Nat} {a w : World} (h : Below B a w) (n : Nat) : Below B a (w.drewN n) := ⟨h.os, h.tape, h.output, h.size, h.block⟩
theorem heap_setCell_at {w : World} {l i : Nat} {cs : Array Value} {t : TypeId} {fr : Nat × Nat} (h : w.heap[l]? = some (.cells cs t fr)) (v : Value) : (w.setCell ⟨l, i, none⟩ v).heap[l]? = some (.cells (cs.setIfInBounds i v) t fr) := by
  simp only [World.setCell, Array.getElem?_modify, if_true, h]
  simp
theorem own_ne {w : World} {B : Nat} {e : TypeId} {size : Nat} {v : Value} {n : Nat} {xs : List Value} (h : w.ownsRow B e size v n xs) {l : Nat} {cs : Array Value} {t : TypeId} {fr : Nat × Nat} (hl : w.heap[l]? = some (.cells cs t fr)) (ht : t ≠ e) : v.ownBlock ≠ some l := by
  intro e1
  obtain ⟨_, ⟨rfl, _⟩ | ⟨b, cap, cur, rfl, _, hg, _⟩⟩ := h
  · cases e1
  · obtain rfl : b = l := by simpa [Value.ownBlock] using e1
    rw [hl] at hg
    simp only [Option.some.injEq, Obj.cells.injEq] at hg
    exact ht hg.2.1
theorem own_kept {w w' : World} {base n : Nat} {e : TypeId} {size : Nat} {v : Value} {xs : List Value} (h : w.ownsRow base e size v n xs) (hk : ∀ g, v.ownBlock = some g → w'.heap[g]? = w.heap[g]?) : w'.ownsRow base e size v n xs := by
  obtain ⟨h1, h2 | ⟨g, cap, cur, rfl, a, b, c⟩⟩ := h
  · exact ⟨h1, Or.inl h2⟩
  · exact ⟨h1, Or.inr ⟨g, cap, cur, rfl, a, (hk g rfl).trans b, c⟩⟩
/-! ### what may turn -/
/-- Of what was there nothing has turned but what lies in the zone Z. -/
structure Only (Z : Nat → Prop) (w w' : World) : Prop where
  os : w'.os = w.os
  tape : w'.tape = w.tape
  output : w'.output = w.output
  size : w.heap.size ≤ w'.heap.size
  block : ∀ k, k < w.heap.size → ¬ Z k → w'.heap[k]? = w.heap[k]?
theorem Only.refl (Z : Nat → Prop) (w : World) : Only Z w w := ⟨rfl, rfl, rfl, Nat.le_refl _, fun _ _ _ => rfl⟩
theorem Only.trans {Z : Nat → Prop} {a b c : World} (h : Only Z a b) (k : Only Z b c) : Only Z a c :=
  ⟨k.os.trans h.os, k.tape.trans h.tape, k.output.trans h.output, Nat.le_trans h.size k.size, fun i hi hz => (k.block i (Nat.lt_of_lt_of_le hi h.size) hz).trans (h.block i hi hz)⟩
theorem Only.of {Z : Nat → Prop} {w w' : World} (h : Below w.heap.size w w') : Only Z w w' := ⟨h.os, h.tape, h.output, h.size, fun k hk _ => h.block k hk⟩
theorem Only.later {Z : Nat → Prop} {a b c : World} (h : Only Z a b) (k : Below b.heap.size b c) : Only Z a c := h.trans (Only.of k)
theorem Only.below {Z : Nat → Prop} {w w' : World} (h : Only Z w w') {B : Nat} (hB : B ≤ w.heap.size) (hZ : ∀ k, k < B → ¬ Z k) : Below B w w' := ⟨h.os, h.tape, h.output, h.size, fun k hk => h.block k (by omega) (hZ k hk)⟩
theorem Only.alloc {Z : Nat → Prop} {a w : World} (h : Only Z a w) (o : Obj) : Only Z a (w.alloc o) := h.later ((Below.refl _ _).alloc (Nat.le_refl _) _)
theorem Only.drew {Z : Nat → Prop} {a w : World} (h : Only Z a w) : Only Z a w.drew := h.later (Below.refl _ _).drew
theorem Only.grown {Z : Nat → Prop} {a w w' : World} {row : Option Nat} (h : Only Z a w) (hg : w.grownBy w' row) (hr : ∀ k, row = some k → Z k) : Only Z a w' :=
  h.trans ⟨hg.os, hg.tape, hg.output, hg.size, fun k hk hz => hg.block k hk (fun e => hz (hr k e.symm))⟩
theorem Only.setCell {Z : Nat → Prop} {a w : World} (h : Only Z a w) {p : Addr} (hp : Z p.block) (u : Value) : Only Z a (w.setCell p u) :=
  h.trans ⟨rfl, rfl, rfl, by simp [World.setCell], fun k _ hz => Below.heap_setCell _ _ _ _ (fun e => hz (by rw [e]; exact hp))⟩
theorem Only.mono {Z Z' : Nat → Prop} {w w' : World} (h : Only Z w w') (hz : ∀ k, Z k → Z' k) : Only Z' w w' := ⟨h.os, h.tape, h.output, h.size, fun k hk g => h.block k hk (fun e => g (hz k e))⟩
theorem setCells_grown (g : Nat) : ∀ (vs : List Value) (o : Nat) (w : World), w.grownBy (w.setCells g o vs) (some g)
  | [], _, w => ⟨rfl, rfl, rfl, Nat.le_refl _, fun _ _ _ => rfl⟩
  | v :: r, o, w => by
    have ih := setCells_grown g r (o + 1) (w.setCell ⟨g, o, none⟩ v)
    refine ⟨ih.os, ih.tape, ih.output, ?_, fun k hk hne => ?_⟩
    · have := ih.size
      rw [World.setCells]
      refine Nat.le_trans ?_ this
      simp [World.setCell]
    · rw [World.setCells]
      rw [ih.block k (by simpa [World.setCell] using hk) hne]
      exact Below.heap_setCell _ _ _ _ (fun e => hne (by rw [e]))

/-! ### nodes in memory -/
/-- The cells of items. -/
def ic : List It → List Value
  | [] => []
  | x :: r => .string x.key :: .string x.val :: .pointer (x.kid.map fun b => ⟨b, 0, none⟩) :: ic r
theorem ic_length : ∀ l : List It, (ic l).length = l.length * 3
  | [] => rfl
  | _ :: r => by simp only [ic, List.length_cons, ic_length r]; omega
theorem ic_append : ∀ l m : List It, ic (l ++ m) = ic l ++ ic m
  | [], _ => rfl
  | _ :: r, m => by simp only [List.cons_append, ic, ic_append r m]
theorem ic_one : ∀ (l : List It), ∀ u ∈ ic l, u.oneCell' = true
  | [], u, h => by simp [ic] at h
  | x :: r, u, h => by
    simp only [ic, List.mem_cons] at h
    rcases h with rfl | rfl | rfl | h
    · rfl
    · rfl
    · rfl
    · exact ic_one r u h
theorem ic_at : ∀ (l : List It) (i : Nat) (h : i < l.length), (ic l)[i * 3]? = some (.string (l[i]).key) ∧ (ic l)[i * 3 + 1]? = some (.string (l[i]).val) ∧ (ic l)[i * 3 + 2]? = some (.pointer ((l[i]).kid.map fun b => ⟨b, 0, none⟩))
  | x :: r, 0, _ => ⟨rfl, rfl, rfl⟩
  | x :: r, i + 1, h => by
    have := ic_at r i (by simpa using h)
    have e0 : (i + 1) * 3 = i * 3 + 1 + 1 + 1 := by omega
    have e1 : (i + 1) * 3 + 1 = (i * 3 + 1) + 1 + 1 + 1 := by omega
    have e2 : (i + 1) * 3 + 2 = (i * 3 + 2) + 1 + 1 + 1 := by omega
    rw [e1, e2, e0]
    simpa only [ic, List.getElem?_cons_succ, List.getElem_cons_succ] using this
/-- A node in memory: its row of items, the one behind it. -/
structure NdAt (w : World) (n : Nd) (nx : Option Nat) : Prop where
  cells : w.heap[n.b]? = some (.cells #[n.v, .pointer (nx.map fun b => ⟨b, 0, none⟩)] 74 (0, 0))
  row : w.ownsRow 0 86 3 n.v n.its.length (ic n.its)
theorem NdAt.lt {w : World} {n : Nd} {nx : Option Nat} (h : NdAt w n nx) : n.b < w.heap.size := (Array.getElem?_eq_some_iff.1 h.cells).1
theorem NdAt.kept {w w' : World} {n : Nd} {nx : Option Nat} (h : NdAt w n nx) (hb : w'.heap[n.b]? = w.heap[n.b]?) (hr : ∀ k, n.v.ownBlock = some k → w'.heap[k]? = w.heap[k]?) : NdAt w' n nx := ⟨hb.trans h.cells, own_kept h.row hr⟩
theorem NdAt.later {w w' : World} {n : Nd} {nx : Option Nat} (h : NdAt w n nx) (hb : Below w.heap.size w w') : NdAt w' n nx := h.kept (hb.block _ h.lt) fun k hk => hb.block _ (h.row.lt k hk).2
structure NCells (w : World) (n : Nd) (nx : Option Nat) : Prop where
  c0 : w.cell? ⟨n.b, 0, none⟩ = some n.v
  c1 : w.cell? ⟨n.b, 1, none⟩ = some (.pointer (nx.map fun b => ⟨b, 0, none⟩))
  fz : ∀ o, w.frozen? ⟨n.b, o, none⟩ = false
theorem NdAt.nc {w : World} {n : Nd} {nx : Option Nat} (h : NdAt w n nx) : NCells w n nx := by
  have e := h.cells
  refine ⟨?_, ?_, fun o => ?_⟩ <;> simp [World.cell?, World.frozen?, e]
/-- What a row of items looks like. -/
theorem irow_form {w : World} {v : Value} {l : List It} (h : w.ownsRow 0 86 3 v l.length (ic l)) : ∃ p cap, v = .slice p l.length cap ∧ l.length ≤ cap ∧ cap ≤ maxLen := by
  obtain ⟨_, ⟨rfl, h2⟩ | ⟨g, cap, cur, rfl, _, _, h3, h4, _⟩⟩ := h
  · exact ⟨none, 0, by rw [h2], by omega, Nat.zero_le _⟩
  · exact ⟨_, cap, rfl, h3, h4⟩
theorem irow_at {w : World} {v : Value} {l : List It} (h : w.ownsRow 0 86 3 v l.length (ic l)) (hl : 0 < l.length) : ∃ g cap, v = .slice (some ⟨g, 0, none⟩) l.length cap ∧ l.length ≤ cap ∧ cap ≤ maxLen ∧ g < w.heap.size ∧ (∀ i (hi : i < l.length), w.cell? ⟨g, i * 3, none⟩ = some (.string (l[i]).key) ∧ w.cell? ⟨g, i * 3 + 1, none⟩ = some (.string (l[i]).val) ∧ w.cell? ⟨g, i * 3 + 2, none⟩ = some (.pointer ((l[i]).kid.map fun b => ⟨b, 0, none⟩))) ∧ ∀ o, w.frozen? ⟨g, o, none⟩ = false := by
  have hr := h
  obtain ⟨_, ⟨rfl, h2⟩ | ⟨g, cap, cur, rfl, _, _, h3, h4, _⟩⟩ := h
  · omega
  · refine ⟨g, cap, rfl, h3, h4, (hr.lt g rfl).2, fun i hi => ?_, fun o => hr.frozenAt o⟩
    obtain ⟨e0, e1, e2⟩ := ic_at l i hi
    exact ⟨(hr.cellAt (i * 3) (by omega)).trans e0, (hr.cellAt (i * 3 + 1) (by omega)).trans e1, (hr.cellAt (i * 3 + 2) (by omega)).trans e2⟩
end Go.Proofs.Ytlpannicklkghaa
