/- Walks of layer 7: shrink, between its rounds and at its end. -/
import Derived.Test.YtlpannicklkghaaB21
import Derived.Test.YtlpannicklkghaaB13
import Derived.Sort.QuietIn
namespace Go.Proofs.Ytlpannicklkghaa
open Go.RowKit Go.Shelf

section
variable {F : Fence} {n : Nat} {P : Program}
/-- A region within a round that only reads: one walk. -/
theorem region_quiet_round {id : Nat} {Q : Exit → Act → World → Prop} {a : Act} {w : World} {l : List Oper} (lp : Nat) (hro : F.round = none) (hnd : noDefer l.toArray = true) (hm : P.follows .mixedOrders = true) (hB : Region.lexB .any l.toArray = true)
    (h : wpQuietIn F n P l.toArray (fun w' => ∃ n, w' = w.drewN n) (fun a' => ∀ w', (∃ n, w' = w.drewN n) → Q .normal a' w') l a) : (Code.region id l.toArray true).wpIn (F.inRound lp) n P Q a w := by
  simp only [Region.lexB, Bool.and_eq_true] at hB
  refine region_round lp hro hnd hm (wpAnyIn_of_quiet (C := fun w' => ∃ n, w' = w.drewN n) (Q := fun a' => ∀ w', (∃ n, w' = w.drewN n) → Q .normal a' w') hro (fun _ w' hw' h => h w' hw') _ _ _ _ ⟨1, rfl⟩ ?_)
  have := wpAnyQIn_lex (F := F) (n := n) (C := fun w' => ∃ n, w' = w.drewN n) (md := .any) hB.1 l 0 (Array.replicate l.toArray.size false) a (by simp) (by simpa using hB.2) h
  simpa using this
end
/-- What shrink keeps between two rounds, with the boxes of its variables. -/
structure SB (w : World) (Z : Nat → Prop) (t m cnt rb : Nat) (key : ByteArray) (rs : List Fr) (its0 : List It) (v : Value) (B : Nat) (pre : List (Nat × Fr)) (W : World) : Prop where
  sm : ∃ rest A n C low, SM w Z t m cnt rb key rs its0 W (pre.map (·.2)) rest A n C low
  b3 : W.heap[w.heap.size]? = some (.cells #[.pointer (some ⟨t, 0, none⟩)] 28 (0, 0))
  b5 : W.heap[w.heap.size + 1]? = some (.cells #[v] 80 (0, 0))
  row : W.ownsRow B 101 2 v rs.length (wc rs.reverse)
section
variable {w : World} {Z : Nat → Prop} {t m cnt rb : Nat} {key : ByteArray} {rs : List Fr} {its0 : List It} {v : Value} {B : Nat}
theorem SM.grown {W W' : World} {pre rest : List Fr} {A : List Nd} {n : Nd} {C : List Nd} {low : List (List Nd)} {row : Option Nat} (h : SM w Z t m cnt rb key rs its0 W pre rest A n C low) (hZ : ∀ k, w.heap.size ≤ k → Z k) (hg : W.grownBy W' row) (hr : ∀ r, row = some r → w.heap.size ≤ r ∧ ∃ o : Obj, W.heap[r]? = some o ∧ o.isCells = false) : SM w Z t m cnt rb key rs its0 W' pre rest A n C low :=
  ⟨h.rs, h.frs, h.wf, h.si, h.hp.grown hg fun r e => (hr r e).2, h.its, h.only.grown hg fun k e => hZ k (hr k e).1, h.tr.kept (hg.block t h.tr.lt fun e => by
    obtain ⟨o, ho, hc⟩ := (hr t e.symm).2
    rw [h.tr.cells] at ho
    obtain rfl := Option.some.inj ho
    cases hc)⟩
theorem SM.later {W W' : World} {pre rest : List Fr} {A : List Nd} {n : Nd} {C : List Nd} {low : List (List Nd)} (h : SM w Z t m cnt rb key rs its0 W pre rest A n C low) (hb : Below W.heap.size W W') : SM w Z t m cnt rb key rs its0 W' pre rest A n C low :=
  ⟨h.rs, h.frs, h.wf, h.si, h.hp.later hb, h.its, h.only.later hb, h.tr.kept (hb.block _ h.tr.lt)⟩
theorem SB.own (hZ : ∀ k, w.heap.size ≤ k → Z k) {b : Nat} (hb : w.heap.size ≤ b) : OwnFrom b (SB w Z t m cnt rb key rs its0 v B) := fun s W W' row h hg hr => by
  have key : ∀ k cs t fr, W.heap[k]? = some (Obj.cells cs t fr) → W'.heap[k]? = some (Obj.cells cs t fr) := fun k cs t fr hk => (hg.block k (Array.getElem?_eq_some_iff.1 hk).1 fun e => by
    obtain ⟨_, o, ho, hc⟩ := hr k e.symm
    rw [hk] at ho
    obtain rfl := Option.some.inj ho
    cases hc).trans hk
  obtain ⟨rest, A, n, C, low, hm⟩ := h.sm
  refine ⟨⟨rest, A, n, C, low, hm.grown hZ hg fun r e => ⟨Nat.le_trans hb (hr r e).1, (hr r e).2⟩⟩, key _ _ _ _ h.b3, key _ _ _ _ h.b5, own_kept h.row fun k e => ?_⟩
  obtain ⟨_, ⟨e1, _⟩ | ⟨g, cap, cur, e1, _, hg, _⟩⟩ := h.row
  · rw [e1] at e; cases e
  · rw [e1] at e
    obtain rfl : g = k := by simpa [Value.ownBlock] using e
    exact (key _ _ _ _ hg).trans hg.symm
theorem SB.later {pre : List (Nat × Fr)} {W W' : World} (h : SB w Z t m cnt rb key rs its0 v B pre W) (hb : Below W.heap.size W W') : SB w Z t m cnt rb key rs its0 v B pre W' := by
  obtain ⟨rest, A, n, C, low, hm⟩ := h.sm
  exact ⟨⟨rest, A, n, C, low, hm.later hb⟩, (hb.block _ (Array.getElem?_eq_some_iff.1 h.b3).1).trans h.b3, (hb.block _ (Array.getElem?_eq_some_iff.1 h.b5).1).trans h.b5, own_kept h.row fun k e => hb.block _ (h.row.lt k e).2⟩
theorem SB.keeps {pre : List (Nat × Fr)} {W W' : World} (h : SB w Z t m cnt rb key rs its0 v B pre W) (hb : Below W.heap.size W W') : keepsW (w.heap.size + 1) v W W' := ⟨hb.block _ (Array.getElem?_eq_some_iff.1 h.b5).1, fun k e => hb.block _ (h.row.lt k e).2⟩
/-- A round is over. -/
theorem SB.round {pre : List (Nat × Fr)} {W W2 : World} {i b : Nat} {f : Fr} {D : List NX} {rest' A' low'} {n' : Nd} {C' : List Nd} (h : SB w Z t m cnt rb key rs its0 v B pre W) (hp : Hp W Z D) (ho : Only (zd W D) W W2) (hn : SM w Z t m cnt rb key rs its0 W2 (pre.map (·.2) ++ [f]) rest' A' n' C' low') :
    KeepsFrom b W W2 ∧ keepsW (w.heap.size + 1) v W W2 ∧ SB w Z t m cnt rb key rs its0 v B (pre ++ [(i, f)]) W2 := by
  have kb : ∀ k o, W.heap[k]? = some o → (∀ cs fr, o ≠ Obj.cells cs 74 fr) → (∀ cs fr, o ≠ Obj.cells cs 86 fr) → W2.heap[k]? = W.heap[k]? := fun k o hk h1 h2 => ho.block k (Array.getElem?_eq_some_iff.1 hk).1 (hp.out hk h1 h2)
  have k3 := kb _ _ h.b3 (by intro cs fr e; cases e) (by intro cs fr e; cases e)
  have k5 := kb _ _ h.b5 (by intro cs fr e; cases e) (by intro cs fr e; cases e)
  have kr : ∀ k, v.ownBlock = some k → W2.heap[k]? = W.heap[k]? := fun k e => by
    obtain ⟨_, ⟨e1, _⟩ | ⟨g, cap, cur, e1, _, hg, _⟩⟩ := h.row
    · rw [e1] at e; cases e
    · rw [e1] at e
      obtain rfl : g = k := by simpa [Value.ownBlock] using e
      exact kb _ _ hg (by intro cs fr e; cases e) (by intro cs fr e; cases e)
  refine ⟨⟨ho.size, fun k o _ hk hc => (kb k o hk (by rintro cs fr rfl; cases hc) (by rintro cs fr rfl; cases hc)).trans hk⟩, ⟨k5, kr⟩, ⟨⟨rest', A', n', C', low', ?_⟩, k3.trans h.b3, k5.trans h.b5, own_kept h.row kr⟩⟩
  rw [List.map_append]
  exact hn
/-- What is right stays right. -/
theorem growP_own (hZ : ∀ k, w.heap.size ≤ k → Z k) {b : Nat} (hb : w.heap.size ≤ b) {α : Type} (c : Code) : OwnFrom b (fun (_ : List α) W => c = .ret ∧ GrowP w Z t m cnt its0 (.returned (.tuple #[])) W) := fun s W W' row h hg hr => by
  obtain ⟨hc, _, h2, rb, ls, h3, h4, h5⟩ := h
  refine ⟨hc, rfl, h2.grown hg (fun k e => Or.inl (hZ k (Nat.le_trans hb (hr k e).1))), rb, ls, h3.kept (hg.block t h3.lt fun e => ?_), h4.grown hg (fun r e => (hr r e).2), h5⟩
  obtain ⟨_, o, ho, hcc⟩ := hr t e.symm
  rw [h3.cells] at ho
  obtain rfl := Option.some.inj ho
  cases hcc
/-- The node is wide enough: all is right. -/
theorem SM.fine {W : World} {pre rest : List Fr} {A : List Nd} {n : Nd} {C : List Nd} {low : List (List Nd)} (h : SM w Z t m cnt rb key rs its0 W pre rest A n C low) (hn : lowB m rest.isEmpty low.isEmpty ≤ n.its.length) : GrowP w Z t m cnt its0 (.returned (.tuple #[])) W := by
  obtain ⟨h1, h2⟩ := h.si.fine h.frs h.wf hn
  refine ⟨rfl, h.only.mono fun _ hk => Or.inl hk, rb, _, h.tr, h.hp, h1, h2, ?_⟩
  rw [items_append _ (by simp)]
  exact h.its
theorem SM.top {W : World} {A : List Nd} {n : Nd} {C : List Nd} {low : List (List Nd)} (h : SM w Z t m cnt rb key rs its0 W rs [] A n C low) : A = [] ∧ C = [] ∧ n.b = rb := by
  have h1 := h.si.pos
  have h2 := (good_fits h.si.good).length
  have hA : A = [] := List.length_eq_zero_iff.1 h1.symm
  subst hA
  have hC : C = [] := List.length_eq_zero_iff.1 (by have : 1 = ([] ++ n :: C).length := h2; simpa using this.symm)
  subst hC
  exact ⟨rfl, rfl, (good_fits h.si.good).1.1⟩
theorem SM.rest_nil {W : World} {rest : List Fr} {A : List Nd} {n : Nd} {C : List Nd} {low : List (List Nd)} (h : SM w Z t m cnt rb key rs its0 W rs rest A n C low) : rest = [] := by
  have := congrArg List.length h.rs
  rw [List.length_append] at this
  exact List.length_eq_zero_iff.1 (by omega)
theorem SM.leaf {W : World} {pre rest : List Fr} {A : List Nd} {n : Nd} {C : List Nd} {low : List (List Nd)} (h : SM w Z t m cnt rb key rs its0 W pre rest A n C low) : kid0 n.its = none ↔ low = [] := by
  have hg := h.si.good
  cases low with
  | nil =>
    have hl := (good_leaf.1 hg).2 n (by simp)
    refine ⟨fun _ => rfl, fun _ => ?_⟩
    unfold kid0
    match hi : n.its with
    | [] => rfl
    | x :: r => exact hl x (by rw [hi]; simp)
  | cons M r =>
    have hm := (good_mid.1 hg).2.1 n (by simp)
    refine ⟨fun e => ?_, fun e => by cases e⟩
    unfold kid0 at e
    match hi : n.its with
    | [] => exact absurd hi hm.ne
    | x :: r =>
      obtain ⟨b, hb⟩ := hm.kid x (by rw [hi]; simp)
      rw [hi] at e
      simp [hb] at e
/-- The root has one kid: that becomes the root. -/
theorem SM.root1 {W : World} {n : Nd} {M : List Nd} {r : List (List Nd)} {x : It} {kb : Nat} (h : SM w Z t m cnt rb key rs its0 W rs [] [] n [] (M :: r)) (hm : 4 ≤ m) (hx : n.its = [x]) (hk : x.kid = some kb) (W' : World) (hw' : W' = W.setCell ⟨t, 2, none⟩ (.pointer (some ⟨kb, 0, none⟩))) : GrowP w Z t m cnt its0 (.returned (.tuple #[])) W' := by
  obtain ⟨hf, _, hg⟩ := good_mid.1 h.si.good
  have hsl : slots (ctxR (rb, ⟨none, none⟩) []).all ([] ++ n :: []) = [(kb, (⟨some x.key, none⟩ : Iv))] := by
    show slots [(rb, (⟨none, none⟩ : Iv))] [n] = _
    simp [slots, hx, nslots, hk, hiOf]
  rw [hsl] at hg
  have hM : ∃ k, M = [k] := by
    have := (good_fits hg).length
    match M, this with
    | [k], _ => exact ⟨k, rfl⟩
  obtain ⟨k, rfl⟩ := hM
  have ht : ¬ zd W (allX ([n] :: [k] :: r)) t := h.tr.out h.hp
  have hhp : Hp W Z (allX ([k] :: r)) := by
    have := h.hp
    simp only [lvls, List.reverse_nil, List.map_nil, List.nil_append] at this
    rw [allX_cons] at this
    exact this.tail
  have hon : Only (fun k => Z k ∨ k = t) w W' := by
    rw [hw']
    have h0 : Only (fun k => Z k ∨ k = t) w W := h.only.mono fun _ hk => Or.inl hk
    exact h0.setCell (p := ⟨t, 2, none⟩) (Or.inr rfl) _
  refine ⟨rfl, hon, kb, [k] :: r, ⟨?_⟩, ?_, good_lo (lo := some x.key) hg (fun y _ l e => by cases e), ⟨fun y hy => ?_, h.si.wlow.2⟩, ?_⟩
  · rw [hw', heap_setCell_at h.tr.cells]
    simp
  · rw [hw']
    have htt : ¬ zd W (allX ([k] :: r)) t := h.tr.out hhp
    refine (hhp.tight.kept fun j hj hz => Below.heap_setCell _ _ _ _ (fun e => ?_)).mono fun j _ hz => ?_
    · exact htt (by rw [show t = j from e.symm]; exact hz)
    · rcases hhp.zone hz with h1 | h1
      · exact h1
      · exfalso
        simp [World.setCell] at *
        omega
  · have h1 := h.si.wlow.1 y hy
    unfold lowB at h1 ⊢
    simp at h1 ⊢
    refine ⟨?_, h1.2⟩
    split <;> omega
  · have := h.its
    rw [items_cons] at this
    exact this
end
end Go.Proofs.Ytlpannicklkghaa
