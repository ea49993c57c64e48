/- Walks of layer 7: all nodes of a tree in memory. -/
import Derived.Test.YtlpannicklkghaaB2
import Derived.Test.YtlpannicklkghaaB5
namespace Go.Proofs.Ytlpannicklkghaa
open Go.RowKit

abbrev NX := Nd × Option Nat
def Ap (x y : NX) : Prop := x.1.b ≠ y.1.b ∧ ∀ k, x.1.v.ownBlock = some k → y.1.v.ownBlock ≠ some k
theorem Ap.symm {x y : NX} (h : Ap x y) : Ap y x := ⟨fun e => h.1 e.symm, fun k h1 h2 => h.2 k h2 h1⟩
/-- Nodes in memory, none of which shares anything with another one; all of it lies in Z. -/
structure Hp (w : World) (Z : Nat → Prop) (D : List NX) : Prop where
  at_ : ∀ x ∈ D, NdAt w x.1 x.2
  zb : ∀ x ∈ D, Z x.1.b
  zr : ∀ x ∈ D, ∀ k, x.1.v.ownBlock = some k → Z k
  apart : D.Pairwise Ap
theorem Hp.perm {w : World} {Z : Nat → Prop} {D D' : List NX} (h : Hp w Z D) (p : D.Perm D') : Hp w Z D' :=
  ⟨fun x hx => h.at_ x (p.mem_iff.2 hx), fun x hx => h.zb x (p.mem_iff.2 hx), fun x hx => h.zr x (p.mem_iff.2 hx), (p.pairwise_iff Ap.symm).1 h.apart⟩
theorem Hp.later {w w' : World} {Z : Nat → Prop} {D : List NX} (h : Hp w Z D) (hb : Below w.heap.size w w') : Hp w' Z D := ⟨fun x hx => (h.at_ x hx).later hb, h.zb, h.zr, h.apart⟩
theorem Hp.kept {w w' : World} {Z : Nat → Prop} {D : List NX} (h : Hp w Z D) (hk : ∀ k, k < w.heap.size → Z k → w'.heap[k]? = w.heap[k]?) : Hp w' Z D :=
  ⟨fun x hx => (h.at_ x hx).kept (hk _ (h.at_ x hx).lt (h.zb x hx)) fun k e => hk k ((h.at_ x hx).row.lt k e).2 (h.zr x hx k e), h.zb, h.zr, h.apart⟩
theorem Hp.mono {w : World} {Z Z' : Nat → Prop} {D : List NX} (h : Hp w Z D) (hz : ∀ k, k < w.heap.size → Z k → Z' k) : Hp w Z' D :=
  ⟨h.at_, fun x hx => hz _ (h.at_ x hx).lt (h.zb x hx), fun x hx k e => hz k ((h.at_ x hx).row.lt k e).2 (h.zr x hx k e), h.apart⟩
theorem Hp.head {w : World} {Z : Nat → Prop} {x : NX} {D : List NX} (h : Hp w Z (x :: D)) : NdAt w x.1 x.2 := h.at_ x (List.mem_cons_self ..)
theorem Hp.tail {w : World} {Z : Nat → Prop} {x : NX} {D : List NX} (h : Hp w Z (x :: D)) : Hp w Z D := ⟨fun y hy => h.at_ y (List.mem_cons_of_mem _ hy), fun y hy => h.zb y (List.mem_cons_of_mem _ hy), fun y hy => h.zr y (List.mem_cons_of_mem _ hy), (List.pairwise_cons.1 h.apart).2⟩
/-- A node's block is nobody's row. -/
theorem ndat_ne {w : World} {n m : Nd} {nx mx : Option Nat} (h : NdAt w n nx) (g : NdAt w m mx) : m.v.ownBlock ≠ some n.b := own_ne g.row h.cells (by decide)
/-- One node turns. -/
theorem Hp.turn {w w' : World} {Z : Nat → Prop} {x x' : NX} {R : List NX} (h : Hp w Z (x :: R)) (hZ : ∀ k, w.heap.size ≤ k → Z k) (ho : Only (fun k => k = x.1.b ∨ x.1.v.ownBlock = some k) w w') (hn : NdAt w' x'.1 x'.2) (hb : x'.1.b = x.1.b) (hv : ∀ k, x'.1.v.ownBlock = some k → x.1.v.ownBlock = some k ∨ w.heap.size ≤ k) : Hp w' Z (x' :: R) := by
  have hx := h.head
  have hR : ∀ y ∈ R, NdAt w' y.1 y.2 := fun y hy => by
    have hy' := h.at_ y (List.mem_cons_of_mem _ hy)
    have ha := (List.pairwise_cons.1 h.apart).1 y hy
    refine hy'.kept (ho.block _ hy'.lt fun e => ?_) fun k e => ho.block _ (hy'.row.lt k e).2 fun e' => ?_
    · rcases e with e | e
      · exact ha.1 e.symm
      · exact ndat_ne hy' hx e
    · rcases e' with e' | e'
      · subst e'; exact ndat_ne hx hy' e
      · exact ha.2 k e' e
  refine ⟨fun y hy => ?_, fun y hy => ?_, fun y hy k e => ?_, List.pairwise_cons.2 ⟨fun y hy => ?_, (List.pairwise_cons.1 h.apart).2⟩⟩
  · rcases List.mem_cons.1 hy with rfl | hy
    · exact hn
    · exact hR y hy
  · rcases List.mem_cons.1 hy with rfl | hy
    · rw [hb]; exact h.zb x (List.mem_cons_self ..)
    · exact h.zb y (List.mem_cons_of_mem _ hy)
  · rcases List.mem_cons.1 hy with rfl | hy
    · rcases hv k e with e | e
      · exact h.zr x (List.mem_cons_self ..) k e
      · exact hZ k e
    · exact h.zr y (List.mem_cons_of_mem _ hy) k e
  · have ha := (List.pairwise_cons.1 h.apart).1 y hy
    refine ⟨by rw [hb]; exact ha.1, fun k e e' => ?_⟩
    rcases hv k e with e | e
    · exact ha.2 k e e'
    · have := ((h.at_ y (List.mem_cons_of_mem _ hy)).row.lt k e').2
      omega
/-- A node's row has turned, and is stored. -/
theorem Hp.setRow {w w' : World} {Z : Nat → Prop} {x : NX} {R : List NX} {v' : Value} {its' : List It} (h : Hp w Z (x :: R)) (hZ : ∀ k, w.heap.size ≤ k → Z k) (ho : Only (fun k => x.1.v.ownBlock = some k) w w') (hr : w'.ownsRow 0 86 3 v' its'.length (ic its')) (hv : ∀ k, v'.ownBlock = some k → x.1.v.ownBlock = some k ∨ w.heap.size ≤ k) :
    Hp (w'.setCell ⟨x.1.b, 0, none⟩ v') Z ((⟨x.1.b, v', its'⟩, x.2) :: R) ∧ Only Z w (w'.setCell ⟨x.1.b, 0, none⟩ v') := by
  have hx := h.head
  have hcell : w'.heap[x.1.b]? = some (.cells #[x.1.v, .pointer (x.2.map fun b => ⟨b, 0, none⟩)] 74 (0, 0)) := (ho.block _ hx.lt (ndat_ne hx hx)).trans hx.cells
  have hne : v'.ownBlock ≠ some x.1.b := own_ne hr hcell (by decide)
  have ho2 : Only (fun k => k = x.1.b ∨ x.1.v.ownBlock = some k) w (w'.setCell ⟨x.1.b, 0, none⟩ v') := by
    have ho1 : Only (fun k => k = x.1.b ∨ x.1.v.ownBlock = some k) w w' := ho.mono fun k hk => Or.inr hk
    exact ho1.setCell (p := ⟨x.1.b, 0, none⟩) (Or.inl rfl) _
  refine ⟨h.turn hZ ho2 ⟨?_, ?_⟩ rfl hv, ho2.mono fun k hk => ?_⟩
  · show (w'.setCell ⟨x.1.b, 0, none⟩ v').heap[x.1.b]? = _
    rw [heap_setCell_at hcell]
    simp
  · exact own_kept hr fun k e => Below.heap_setCell _ _ _ _ (fun e' => hne (by rw [e]; exact congrArg some e'))
  · rcases hk with rfl | hk
    · exact h.zb x (List.mem_cons_self ..)
    · exact h.zr x (List.mem_cons_self ..) k hk
/-- What is behind a node is stored. -/
theorem Hp.setNext {w : World} {Z : Nat → Prop} {x : NX} {R : List NX} (h : Hp w Z (x :: R)) (hZ : ∀ k, w.heap.size ≤ k → Z k) (nx : Option Nat) :
    Hp (w.setCell ⟨x.1.b, 1, none⟩ (.pointer (pOf nx))) Z ((x.1, nx) :: R) ∧ Only Z w (w.setCell ⟨x.1.b, 1, none⟩ (.pointer (pOf nx))) := by
  have hx := h.head
  have ho2 : Only (fun k => k = x.1.b ∨ x.1.v.ownBlock = some k) w (w.setCell ⟨x.1.b, 1, none⟩ (.pointer (pOf nx))) := (Only.refl _ _).setCell (p := ⟨x.1.b, 1, none⟩) (Or.inl rfl) _
  refine ⟨h.turn hZ ho2 ⟨?_, ?_⟩ rfl fun k e => Or.inl e, ho2.mono fun k hk => ?_⟩
  · show (w.setCell ⟨x.1.b, 1, none⟩ (.pointer (pOf nx))).heap[x.1.b]? = _
    rw [heap_setCell_at hx.cells]
    simp [pOf]
  · exact own_kept hx.row fun k e => Below.heap_setCell _ _ _ _ (fun e' => ndat_ne hx hx (by rw [e]; exact congrArg some e'))
  · rcases hk with rfl | hk
    · exact h.zb x (List.mem_cons_self ..)
    · exact h.zr x (List.mem_cons_self ..) k hk
/-- A cell of a node's row is stored. -/
theorem Hp.setItem {w : World} {Z : Nat → Prop} {n : Nd} {nx : Option Nat} {g m cap j : Nat} {its' : List It} {u : Value} {R : List NX} (h : Hp w Z ((n, nx) :: R)) (hZ : ∀ k, w.heap.size ≤ k → Z k) (hv : n.v = .slice (some ⟨g, 0, none⟩) m cap) (hl : its'.length = n.its.length) (hj : (ic n.its).set j u = ic its') :
    Hp (w.setCell ⟨g, j, none⟩ u) Z ((⟨n.b, n.v, its'⟩, nx) :: R) ∧ Only Z w (w.setCell ⟨g, j, none⟩ u) := by
  have hx := h.head
  have hr := hx.row
  obtain ⟨p, cp, hv2, _⟩ := irow_form hr
  rw [hv] at hv2
  simp only [Value.slice.injEq] at hv2
  obtain ⟨rfl, rfl, rfl⟩ := hv2
  simp only [hv] at hr
  have hs := (hr.stored j u).1
  rw [hj] at hs
  have hg : n.v.ownBlock = some g := by rw [hv]; rfl
  have hgn : g ≠ n.b := fun e => ndat_ne hx hx (by rw [hg, e])
  have ho2 : Only (fun k => k = n.b ∨ n.v.ownBlock = some k) w (w.setCell ⟨g, j, none⟩ u) := (Only.refl _ _).setCell (p := ⟨g, j, none⟩) (Or.inr hg) _
  refine ⟨h.turn (x' := (⟨n.b, n.v, its'⟩, nx)) hZ ho2 ⟨?_, ?_⟩ rfl fun k e => Or.inl e, ho2.mono fun k hk => ?_⟩
  · show (w.setCell ⟨g, j, none⟩ u).heap[n.b]? = _
    rw [Below.heap_setCell _ _ _ _ (fun e => hgn (by simpa using e.symm))]
    exact hx.cells
  · show (w.setCell ⟨g, j, none⟩ u).ownsRow 0 86 3 n.v its'.length (ic its')
    rw [hl, hv]
    exact hs
  · rcases hk with rfl | hk
    · exact h.zb _ (List.mem_cons_self ..)
    · exact h.zr _ (List.mem_cons_self ..) k hk
/-- A node is made. -/
theorem Hp.new {w w1 : World} {Z : Nat → Prop} {R : List NX} {v : Value} {its : List It} {B : Nat} (h : Hp w Z R) (hZ : ∀ k, w.heap.size ≤ k → Z k) (hb : Below w.heap.size w w1) (hr : w1.ownsRow B 86 3 v its.length (ic its)) (hB : w.heap.size ≤ B) (nx : Option Nat) :
    Hp (w1.alloc (.cells #[v, .pointer (pOf nx)] 74)) Z ((⟨w1.heap.size, v, its⟩, nx) :: R) := by
  have hb2 : Below w.heap.size w (w1.alloc (.cells #[v, .pointer (pOf nx)] 74)) := hb.alloc hb.size _
  have h1 := h.later hb2
  have hs := hb.size
  have hr0 : (w1.alloc (.cells #[v, .pointer (pOf nx)] 74)).ownsRow 0 86 3 v its.length (ic its) := by
    obtain ⟨h1, h2 | ⟨g, cap, cur, e, _, hg, r⟩⟩ := hr
    · exact ⟨h1, Or.inl h2⟩
    · exact ⟨h1, Or.inr ⟨g, cap, cur, e, Nat.zero_le _, (Below.heap_alloc _ _ _ (Array.getElem?_eq_some_iff.1 hg).1).trans hg, r⟩⟩
  have hvk : ∀ k, v.ownBlock = some k → w.heap.size ≤ k := fun k e => Nat.le_trans hB (hr.lt k e).1
  refine ⟨fun y hy => ?_, fun y hy => ?_, fun y hy k e => ?_, List.pairwise_cons.2 ⟨fun y hy => ⟨?_, fun k e e' => ?_⟩, h.apart⟩⟩
  · rcases List.mem_cons.1 hy with rfl | hy
    · exact ⟨heap_alloc_new w1 _, hr0⟩
    · exact h1.at_ y hy
  · rcases List.mem_cons.1 hy with rfl | hy
    · exact hZ _ hs
    · exact h.zb y hy
  · rcases List.mem_cons.1 hy with rfl | hy
    · exact hZ k (hvk k e)
    · exact h.zr y hy k e
  · have := (h.at_ y hy).lt
    show w1.heap.size ≠ y.1.b
    omega
  · have h1 := ((h.at_ y hy).row.lt k e').2
    have h2 := hvk k e
    omega
end Go.Proofs.Ytlpannicklkghaa
