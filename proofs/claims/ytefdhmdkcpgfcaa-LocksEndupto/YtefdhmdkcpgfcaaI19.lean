/- Layer 19: a list of lists of locks of one's own. -/
import Derived.Test.YtefdhmdkcpgfcaaI18
namespace Go.Proofs.Ytefdhmdkcpgfcaa
open Go.RowKit
def RdO (w : World) (Z : Nat → Prop) (l : List Lk) (vs : List Value) : Prop := ∃ v, vs = [v] ∧ OwnR 4 23 LkR w 0 v l ∧ ∀ g, v.ownBlock = some g → Z g
theorem RdO.keep {w w' : World} {Z Z' : Nat → Prop} (hk : ∀ (g : Nat) (cur : Array Value), Z g → w.heap[g]? = some (.cells cur 23 (0, 0)) → w'.heap[g]? = w.heap[g]?) (hz : ∀ k, Z k → Z' k) (l : List Lk) (vs : List Value) (h : RdO w Z l vs) : RdO w' Z' l vs := by
  obtain ⟨v, rfl, h1, h2⟩ := h
  refine ⟨v, rfl, h1.kept (fun g hg => ?_) fun _ _ h => h, fun g hg => hz g (h2 g hg)⟩
  obtain ⟨cur, hc⟩ := h1.block hg
  exact hk g cur (h2 g hg) hc
def rdR (Z : Nat → Prop) (v : Value) (R : List (List Lk)) : Rs := ⟨Z, fun w => OwnR 1 34 (RdO w Z) w 0 v R ∧ ∀ g, v.ownBlock = some g → Z g⟩
theorem rdR_ok (Z : Nat → Prop) (v : Value) (R : List (List Lk)) : (rdR Z v R).ok := fun w w' ⟨h1, h2⟩ ho => by
  have hk : ∀ g, Z g → g < w.heap.size → w'.heap[g]? = w.heap[g]? := fun g hg hl => ho.block g hl fun q => q hg
  exact ⟨h1.kept (fun g hg => hk g (h2 g hg) (h1.lt hg).2) (RdO.keep (fun g cur hz hc => hk g hz (Array.getElem?_eq_some_iff.1 hc).1) fun _ h => h), h2⟩
/-- As it reads. -/
def SlX (w : World) (l : List Lk) (vs : List Value) : Prop := ∃ p cap, vs = [.slice p l.length cap] ∧ RowR 4 LkR w p l
theorem rd_reads {Z : Nat → Prop} {v : Value} {R : List (List Lk)} {w : World} (h : (rdR Z v R).H w) : ∃ p cap, v = .slice p R.length cap ∧ RowR 1 (SlX w) w p R := by
  obtain ⟨h1, _⟩ := h
  obtain ⟨p, cap, rfl, _⟩ := h1.form
  refine ⟨p, cap, rfl, h1.row fun l vs h => ?_⟩
  obtain ⟨u, rfl, g1, _⟩ := h
  obtain ⟨q, c, rfl, _⟩ := g1.form
  exact ⟨q, c, rfl, g1.row fun _ _ h => h⟩
theorem slx_at {w : World} {a : Option Addr} {l : List (List Lk)} (h : RowR 1 (SlX w) w a l) {i : Nat} (hi : i < l.length) : ∃ b off p cap, a = some ⟨b, off, none⟩ ∧ w.cell? ⟨b, off + i, none⟩ = some (.slice p l[i].length cap) ∧ RowR 4 LkR w p l[i] := by
  obtain ⟨b, off, v, e, ⟨p, cap, hv, hr⟩, hc⟩ := h.at1 hi
  simp only [List.cons.injEq, and_true] at hv
  subst hv
  exact ⟨b, off, p, cap, e, hc, hr⟩
section
variable {w0 w w2 : World} {K : List Rs} {I : World → Prop}
theorem Fm.emptyRd (h : Fm w0 K I w) : Fm w0 (rdR (fun _ => False) (.slice none 0 0) [] :: K) I w := h.push (Below.refl _ _) (rdR_ok _ _ _) ⟨OwnR.nil _ _ _ _ _, fun _ hg => by cases hg⟩ fun _ hk => hk.elim
/-- A list of one's own is laid at the end of the lists. -/
theorem Fm.readsGrow {Z : Nat → Prop} {u v : Value} {l : List Lk} {R : List (List Lk)} (h : Fm w0 (owR 4 23 LkR 0 u l :: rdR Z v R :: K) I w) {ps : List (List Lk × List Value)} (h1 : ps.map (·.1) = R) (h2 : ∀ p ∈ ps, RdO w Z p.1 p.2 ∧ p.2.length = 1) {o : Obj} {g cap m : Nat} (hm : m = R.length) (ho : w2.ownsRow 0 34 1 (.slice (some ⟨g, 0, none⟩) (m + 1) cap) (m + 1) (ps.flatMap (·.2) ++ [u])) (hg : (w.alloc o).grownBy w2 v.ownBlock) (hor : v.ownBlock = some g ∨ g = (w.alloc o).heap.size) : ∃ Z', Fm w0 (rdR Z' (.slice (some ⟨g, 0, none⟩) (m + 1) cap) (R ++ [l]) :: K) I w2 := by
  subst hm
  have hu : OwnR 4 23 LkR w 0 u l := h.at 0 rfl
  obtain ⟨hv1, hv2⟩ : (rdR Z v R).H w := h.at 1 rfl
  have hap := (List.pairwise_cons.1 h.apart).1 (rdR Z v R) List.mem_cons_self
  -- seen as one
  let ZZ : Nat → Prop := fun k => u.ownBlock = some k ∨ Z k
  let c : Rs := ⟨ZZ, fun W => OwnR 1 34 (RdO W Z) W 0 v R ∧ OwnR 4 23 LkR W 0 u l⟩
  have hcok : c.ok := fun W W' hH ho' => ⟨((rdR_ok Z v R) W W' ⟨hH.1, hv2⟩ (ho'.mono fun k hk q => hk (Or.inr q))).1, hH.2.kept (fun g hg => ho'.block g (hH.2.lt hg).2 fun q => q (Or.inl hg)) fun _ _ h => h⟩
  have hj : Fm w0 (c :: K) I w := h.join hcok ⟨hv1, hu⟩ fun k => Iff.rfl
  have hF := hj.call ((Below.refl _ _).alloc (Nat.le_refl _) o)
  have hlt := (ho.lt g rfl).2
  have hsz : w.heap.size ≤ w2.heap.size := Nat.le_trans (by simp) hg.size
  -- no list lies where the lists' row lies
  have hkeep : ∀ (k : Nat) (cur : Array Value), w.heap[k]? = some (.cells cur 23 (0, 0)) → w2.heap[k]? = w.heap[k]? := fun k cur hc => by
    have hk := (Array.getElem?_eq_some_iff.1 hc).1
    refine (hg.block k (by simp; omega) fun e => ?_).trans (alloc_low hk)
    obtain ⟨cur2, hc2⟩ := hv1.block e.symm
    rw [hc] at hc2
    simp only [Option.some.injEq, Obj.cells.injEq] at hc2
    exact absurd hc2.2.1 (by decide)
  let Z' : Nat → Prop := fun k => ZZ k ∨ k = g
  refine ⟨Z', ?_⟩
  have := hF.turn 0 (r' := rdR Z' (.slice (some ⟨g, 0, none⟩) (R.length + 1) cap) (R ++ [l])) rfl ((Only.refl _ _).grown hg fun k q => Or.inr (hv2 k q)) (rdR_ok _ _ _) ⟨OwnR.push h1 h2 (RdO.keep (fun k cur _ hc => hkeep k cur hc) fun k hk => Or.inl (Or.inr hk)) ⟨u, rfl, hu.kept (fun k hk => by
      obtain ⟨cur, hc⟩ := hu.block hk
      exact hkeep k cur hc) fun _ _ h => h, fun k hk => Or.inl (Or.inl hk)⟩ rfl ho, fun k hk => by
      have hk2 : (Value.slice (some ⟨g, 0, none⟩) (R.length + 1) cap).ownBlock = some k := hk
      obtain rfl : g = k := by simpa [Value.ownBlock] using hk2
      exact Or.inr rfl⟩ fun k hk => by
    rcases hk with q | rfl
    · exact Or.inl q
    · rcases hor with q | q
      · exact Or.inl (Or.inr (hv2 _ q))
      · exact Or.inr ⟨by omega, hlt⟩
  simpa using this
end
end Go.Proofs.Ytefdhmdkcpgfcaa
