/- Walks of layer 7: grow (written by mkgrow.py). -/
import Derived.Test.YtlpannicklkghaaB12
import Derived.Test.YtlpannicklkghaaM85
namespace Go.Proofs.Ytlpannicklkghaa
open Go.RowKit Go.Shelf
attribute [local go_sem] Oper.semAt_some

theorem wpIn_once {F : Fence} {n : Nat} {P : Program} {c : Code} {Q : Exit → Act → World → Prop} {a A3 : Act} {w W3 : World} (h : c.wpIn F n P (Exit.then (fun a2 w2 => a2 = A3 ∧ w2 = W3) fun _ _ _ => False) a w) (k : Q .normal A3 W3) : c.wpIn F n P Q a w :=
  Go.wpIn_mono h fun e a2 w2 hh => by
    cases e with
    | normal =>
      obtain ⟨e2, e3⟩ := hh
      subst e2; subst e3; exact k
    | _ => exact hh.elim
theorem wpIn_some {F : Fence} {n : Nat} {P : Program} {c : Code} {Q : Exit → Act → World → Prop} {a : Act} {w : World} (R : World → Prop) (h : c.wpIn F n P (fun e _ w2 => e = .normal ∧ R w2) a w) (k : ∀ a2 w2, R w2 → Q .normal a2 w2) : c.wpIn F n P Q a w :=
  Go.wpIn_mono h fun _ _ _ ⟨e1, e2⟩ => by subst e1; exact k _ _ e2
theorem wpIn_via {F : Fence} {n : Nat} {P : Program} {c : Code} {Q : Exit → Act → World → Prop} {a : Act} {w : World} {Aof : World → Act} {Wof : World → World} (R : World → Prop) (h : c.wpIn F n P (Exit.then (fun a2 w2 => ∃ w4, R w4 ∧ a2 = Aof w4 ∧ w2 = Wof w4) fun _ _ _ => False) a w) (k : ∀ w4, R w4 → Q .normal (Aof w4) (Wof w4)) : c.wpIn F n P Q a w :=
  Go.wpIn_mono h fun e a2 w2 hh => by
    cases e with
    | normal =>
      obtain ⟨w4, hr, e2, e3⟩ := hh
      subst e2; subst e3; exact k w4 hr
    | _ => exact hh.elim
theorem keepsFrom_below {B : Nat} {W W' : World} (h : Below W.heap.size W W') : KeepsFrom B W W' := ⟨h.size, fun k _ _ hk _ => (h.block k (Array.getElem?_eq_some_iff.1 hk).1).trans hk⟩
/-- What grow keeps between two rounds, with the boxes of its variables. -/
structure GB (w : World) (Z : Nat → Prop) (t m cnt rb : Nat) (key : ByteArray) (rs : List Fr) (its0 : List It) (v : Value) (B : Nat) (pre : List (Nat × Fr)) (W : World) : Prop where
  gm : ∃ rest A n C low, GM w Z t m cnt rb key rs its0 W (pre.map (·.2)) rest A n C low
  b3 : W.heap[w.heap.size]? = some (.cells #[.pointer (some ⟨t, 0, none⟩)] 28 (0, 0))
  b4 : W.heap[w.heap.size + 1]? = some (.cells #[.string key] 9 (0, 0))
  b5 : W.heap[w.heap.size + 1 + 1]? = some (.cells #[v] 80 (0, 0))
  row : W.ownsRow B 101 2 v rs.length (wc rs.reverse)
section
variable {w : World} {Z : Nat → Prop} {t m cnt rb : Nat} {key : ByteArray} {rs : List Fr} {its0 : List It} {v : Value} {B : Nat}
theorem GM.grown {W W' : World} {pre rest : List Fr} {A : List Nd} {n : Nd} {C : List Nd} {low : List (List Nd)} {row : Option Nat} (h : GM w Z t m cnt rb key rs its0 W pre rest A n C low) (hZ : ∀ k, w.heap.size ≤ k → Z k) (hg : W.grownBy W' row) (hr : ∀ r, row = some r → w.heap.size ≤ r ∧ ∃ o : Obj, W.heap[r]? = some o ∧ o.isCells = false) : GM w Z t m cnt rb key rs its0 W' pre rest A n C low :=
  ⟨h.rs, h.frs, h.wf, h.gi, h.hp.grown hg fun r e => (hr r e).2, h.its, h.only.grown hg fun k e => hZ k (hr k e).1, h.tr.kept (hg.block t h.tr.lt fun e => by
    obtain ⟨o, ho, hc⟩ := (hr t e.symm).2
    rw [h.tr.cells] at ho
    obtain rfl := Option.some.inj ho
    cases hc)⟩
theorem GB.own (hZ : ∀ k, w.heap.size ≤ k → Z k) {b : Nat} (hb : w.heap.size ≤ b) : OwnFrom b (GB w Z t m cnt rb key rs its0 v B) := fun s W W' row h hg hr => by
  have key : ∀ k cs t fr, W.heap[k]? = some (Obj.cells cs t fr) → W'.heap[k]? = some (Obj.cells cs t fr) := fun k cs t fr hk => (hg.block k (Array.getElem?_eq_some_iff.1 hk).1 fun e => by
    obtain ⟨_, o, ho, hc⟩ := hr k e.symm
    rw [hk] at ho
    obtain rfl := Option.some.inj ho
    cases hc).trans hk
  obtain ⟨rest, A, n, C, low, hm⟩ := h.gm
  refine ⟨⟨rest, A, n, C, low, hm.grown hZ hg fun r e => ⟨Nat.le_trans hb (hr r e).1, (hr r e).2⟩⟩, key _ _ _ _ h.b3, key _ _ _ _ h.b4, key _ _ _ _ h.b5, own_kept h.row fun k e => ?_⟩
  obtain ⟨_, ⟨e1, _⟩ | ⟨g, cap, cur, e1, _, hg, _⟩⟩ := h.row
  · rw [e1] at e; cases e
  · rw [e1] at e
    obtain rfl : g = k := by simpa [Value.ownBlock] using e
    exact (key _ _ _ _ hg).trans hg.symm
theorem GB.later {pre : List (Nat × Fr)} {W W' : World} (h : GB w Z t m cnt rb key rs its0 v B pre W) (hb : Below W.heap.size W W') : GB w Z t m cnt rb key rs its0 v B pre W' := by
  obtain ⟨rest, A, n, C, low, hm⟩ := h.gm
  exact ⟨⟨rest, A, n, C, low, hm.rs, hm.frs, hm.wf, hm.gi, hm.hp.later hb, hm.its, hm.only.later hb, hm.tr.kept (hb.block _ hm.tr.lt)⟩, (hb.block _ (Array.getElem?_eq_some_iff.1 h.b3).1).trans h.b3, (hb.block _ (Array.getElem?_eq_some_iff.1 h.b4).1).trans h.b4, (hb.block _ (Array.getElem?_eq_some_iff.1 h.b5).1).trans h.b5, own_kept h.row fun k e => hb.block _ (h.row.lt k e).2⟩
theorem GB.keeps {pre : List (Nat × Fr)} {W W' : World} (h : GB w Z t m cnt rb key rs its0 v B pre W) (hb : Below W.heap.size W W') : keepsW (w.heap.size + 1 + 1) v W W' := ⟨hb.block _ (Array.getElem?_eq_some_iff.1 h.b5).1, fun k e => hb.block _ (h.row.lt k e).2⟩
/-- A round is over. -/
theorem GB.round {pre : List (Nat × Fr)} {W W2 : World} {i b : Nat} {f : Fr} {D : List NX} {rest' A' low'} {n' : Nd} {C' : List Nd} (h : GB w Z t m cnt rb key rs its0 v B pre W) (hp : Hp W Z D) (ho : Only (zd W D) W W2) (hn : GM w Z t m cnt rb key rs its0 W2 (pre.map (·.2) ++ [f]) rest' A' n' C' low') :
    KeepsFrom b W W2 ∧ keepsW (w.heap.size + 1 + 1) v W W2 ∧ GB w Z t m cnt rb key rs its0 v B (pre ++ [(i, f)]) W2 := by
  have kb : ∀ k o, W.heap[k]? = some o → (∀ cs fr, o ≠ Obj.cells cs 74 fr) → (∀ cs fr, o ≠ Obj.cells cs 86 fr) → W2.heap[k]? = W.heap[k]? := fun k o hk h1 h2 => ho.block k (Array.getElem?_eq_some_iff.1 hk).1 (hp.out hk h1 h2)
  have k3 := kb _ _ h.b3 (by intro cs fr e; cases e) (by intro cs fr e; cases e)
  have k4 := kb _ _ h.b4 (by intro cs fr e; cases e) (by intro cs fr e; cases e)
  have k5 := kb _ _ h.b5 (by intro cs fr e; cases e) (by intro cs fr e; cases e)
  have kr : ∀ k, v.ownBlock = some k → W2.heap[k]? = W.heap[k]? := fun k e => by
    obtain ⟨_, ⟨e1, _⟩ | ⟨g, cap, cur, e1, _, hg, _⟩⟩ := h.row
    · rw [e1] at e; cases e
    · rw [e1] at e
      obtain rfl : g = k := by simpa [Value.ownBlock] using e
      exact kb _ _ hg (by intro cs fr e; cases e) (by intro cs fr e; cases e)
  refine ⟨⟨ho.size, fun k o _ hk hc => (kb k o hk (by rintro cs fr rfl; cases hc) (by rintro cs fr rfl; cases hc)).trans hk⟩, ⟨k5, kr⟩, ⟨⟨rest', A', n', C', low', ?_⟩, k3.trans h.b3, k4.trans h.b4, k5.trans h.b5, own_kept h.row kr⟩⟩
  rw [List.map_append]
  exact hn
theorem out_cell {W W1 : World} {D : List NX} {k o : Nat} {u : Value} {cs : Array Value} {ty : TypeId} {fr : Nat × Nat} (hp : Hp W Z D) (ho : Only (zd W D) W W1) (hk : W.heap[k]? = some (.cells cs ty fr)) (h1 : ty ≠ 74) (h2 : ty ≠ 86) (hc : W.cell? ⟨k, o, none⟩ = some u) : W1.cell? ⟨k, o, none⟩ = some u :=
  cell_at (ho.block k (Array.getElem?_eq_some_iff.1 hk).1 (hp.out hk (fun _ _ e => by cases e; exact h1 rfl) (fun _ _ e => by cases e; exact h2 rfl))) hc
end
/-- What grow leaves. -/
def GrowP (w : World) (Z : Nat → Prop) (t m cnt : Nat) (its0 : List It) (e : Ending) (w' : World) : Prop :=
  e = .returned (.tuple #[]) ∧ Only (fun k => Z k ∨ k = t) w w' ∧ ∃ rb ls, TrAt w' t m cnt rb ∧ Hp w' Z (allX ls) ∧ Good [(rb, ⟨none, none⟩)] ls ∧ WLv m true ls ∧ items ls = its0
theorem GM.top {w : World} {Z : Nat → Prop} {t m cnt rb : Nat} {key : ByteArray} {rs : List Fr} {its0 : List It} {W : World} {A : List Nd} {n : Nd} {C : List Nd} {low : List (List Nd)} (h : GM w Z t m cnt rb key rs its0 W rs [] A n C low) : A = [] ∧ C = [] ∧ n.b = rb := by
  have h1 := h.gi.pos
  have h2 := (good_fits h.gi.good).length
  have hA : A = [] := List.length_eq_zero_iff.1 h1.symm
  subst hA
  have hC : C = [] := List.length_eq_zero_iff.1 (by have : 1 = ([] ++ n :: C).length := h2; simpa using this.symm)
  exact ⟨rfl, hC, h.gi.node.1⟩
theorem GM.rest_nil {w : World} {Z : Nat → Prop} {t m cnt rb : Nat} {key : ByteArray} {rs rest : List Fr} {its0 : List It} {W : World} {A : List Nd} {n : Nd} {C : List Nd} {low : List (List Nd)} (h : GM w Z t m cnt rb key rs its0 W rs rest A n C low) : rest = [] := by
  have := congrArg List.length h.rs
  rw [List.length_append] at this
  exact List.length_eq_zero_iff.1 (by omega)
/-- Where the root is not too wide, all is right. -/
theorem GM.fine {w : World} {Z : Nat → Prop} {t m cnt rb : Nat} {key : ByteArray} {rs : List Fr} {its0 : List It} {W : World} {n : Nd} {low : List (List Nd)} (h : GM w Z t m cnt rb key rs its0 W rs [] [] n [] low) (hn : n.its.length ≤ m) : GrowP w Z t m cnt its0 (.returned (.tuple #[])) W :=
  ⟨rfl, h.only.mono fun _ hk => Or.inl hk, rb, [n] :: low, h.tr, h.hp, h.gi.good, ⟨fun x hx => by
    obtain rfl : x = n := by simpa using hx
    exact ⟨h.gi.wn.1, hn⟩, h.gi.wlow⟩, h.its⟩

theorem good_lo {b : Nat} {lo lo' hi : Option ByteArray} {n : Nd} {low : List (List Nd)} (h : Good [(b, ⟨lo, hi⟩)] ([n] :: low)) (hl : ∀ y ∈ n.its, inLo lo' y.key) : Good [(b, ⟨lo', hi⟩)] ([n] :: low) := by
  have hf := (good_fits h).1
  have hf2 : Fits [(b, ⟨lo', hi⟩)] [n] := ⟨⟨hf.1, hf.2.srt, fun y hy => ⟨hl y hy, (hf.2.mem y hy).2⟩⟩, trivial⟩
  cases low with
  | nil => exact good_leaf.2 ⟨hf2, (good_leaf.1 h).2⟩
  | cons M r => exact good_mid.2 ⟨hf2, (good_mid.1 h).2.1, (good_mid.1 h).2.2⟩
/-- The root parts: what the new one is. -/
theorem GM.root {w : World} {Z : Nat → Prop} {t m cnt rb q : Nat} {key : ByteArray} {rs : List Fr} {its0 : List It} {W W5 W6 : World} {n : Nd} {low : List (List Nd)} {x : It} {r : List It} {v : Value} {e : Ending} (h : GM w Z t m cnt rb key rs its0 W rs [] [] n [] low) (hm : 4 ≤ m) (hn : m < n.its.length) (h0 : n.its = x :: r) (_hnb : n.b = rb)
    (hfit : FitP W5 Z ⟨q, v, [⟨x.key, ⟨#[]⟩, some rb⟩]⟩ n none none (allX low) 0 m e W6) (ho : Only (fun k => Z k ∨ k = t) w W6) (ht : TrAt W6 t m cnt q) : GrowP w Z t m cnt its0 e W6 := by
  obtain ⟨he, _, ⟨hle, _⟩ | ⟨_, v1, v2, v3, nb, y, ry, hdr, _, hhp⟩⟩ := hfit
  · omega
  have hgi : GI x.key m ((⟨[], (q, ⟨none, none⟩), []⟩ : Ctx).step ⟨[], ⟨q, v, [⟨x.key, ⟨#[]⟩, some rb⟩]⟩, [], [], ⟨x.key, ⟨#[]⟩, some rb⟩, []⟩) false [] n [] low := by
    refine ⟨?_, rfl, fun y hy => by simp at hy, ⟨?_, h.gi.wn.2⟩, h.gi.wlow⟩
    · show Good [(rb, ⟨some (lowK x.key x.key), none⟩)] ([n] :: low)
      refine good_lo (lo := none) h.gi.good fun y hy l e => ?_
      obtain rfl := Option.some.inj e
      have hs := h.gi.node.2.srt
      rw [h0] at hs hy
      rcases List.mem_cons.1 hy with rfl | hy
      · exact lowK_le _ _
      · exact kl_le_trans (lowK_le x.key x.key) (kl_asymm ((List.pairwise_cons.1 hs).1 y hy))
    · show m / 2 ≤ n.its.length
      omega
  have hfo : FrOk x.key ⟨[], (q, ⟨none, none⟩), []⟩ ⟨[], ⟨q, v, [⟨x.key, ⟨#[]⟩, some rb⟩]⟩, [], [], ⟨x.key, ⟨#[]⟩, some rb⟩, []⟩ := by
    refine ⟨trivial, rfl, ⟨by simp [Srt], fun y _ => ⟨fun l e => (by cases e), fun l e => (by cases e)⟩⟩, trivial, fun y hy => ?_, rfl, fun y hy => (by simp at hy), Or.inl rfl⟩
    obtain rfl : y = ⟨q, v, [⟨x.key, ⟨#[]⟩, some rb⟩]⟩ := by simpa [Fr.lvl] using hy
    refine ⟨by simp, fun z hz => ⟨rb, ?_⟩⟩
    obtain rfl : z = ⟨x.key, ⟨#[]⟩, some rb⟩ := by simpa using hz
    rfl
  have hloc : Loc x.key ⟨[], (q, ⟨none, none⟩), []⟩ := ⟨fun t ht => (by simp at ht), fun h e => (by cases e), fun t ht => (by simp at ht)⟩
  have hlow : lowIt x.key ⟨x.key, ⟨#[]⟩, some rb⟩ = ⟨x.key, ⟨#[]⟩, some rb⟩ := by unfold lowIt; rw [lowK_id (kl_irrefl _)]
  have hg2 := GI.split (top := true) (n1 := ⟨n.b, v2, n.its.take (n.its.length / 2)⟩) (n2 := ⟨nb, v3, y :: ry⟩) (p := ⟨q, v1, [⟨x.key, ⟨#[]⟩, some rb⟩, ⟨y.key, ⟨#[]⟩, some nb⟩]⟩) (vl := ⟨#[]⟩) hfo hloc (fun z hz => (by simp at hz)) ⟨(by show 2 ≤ 1 + 1; omega), (by show 1 ≤ m; omega)⟩ hgi (by omega) hn rfl hdr rfl rfl rfl (by show [_, _] = [] ++ lowIt x.key ⟨x.key, ⟨#[]⟩, some rb⟩ :: _ :: []; rw [hlow]; rfl)
  refine ⟨he, ho, q, [⟨q, v1, [⟨x.key, ⟨#[]⟩, some rb⟩, ⟨y.key, ⟨#[]⟩, some nb⟩]⟩] :: [⟨n.b, v2, n.its.take (n.its.length / 2)⟩, ⟨nb, v3, y :: ry⟩] :: low, ht, ?_, hg2.good, ⟨fun z hz => ?_, hg2.wlow⟩, ?_⟩
  · rw [allX_cons, allX_cons]
    exact hhp
  · obtain rfl : z = ⟨q, v1, [⟨x.key, ⟨#[]⟩, some rb⟩, ⟨y.key, ⟨#[]⟩, some nb⟩]⟩ := by simpa using hz
    show 2 ≤ 2 ∧ 2 ≤ m
    omega
  · rw [items_cons]
    have := items_split [] [] n ⟨n.b, v2, n.its.take (n.its.length / 2)⟩ ⟨nb, v3, y :: ry⟩ low (by show n.its = n.its.take (n.its.length / 2) ++ (y :: ry); rw [← hdr, List.take_append_drop])
    exact this.trans h.its

theorem FitP.mono {w w' : World} {Z Z' : Nat → Prop} {p k : Nd} {px kx : Option Nat} {R : List NX} {i m : Nat} {e : Ending} (h : FitP w Z p k px kx R i m e w') (hz : ∀ k, Z k → Z' k) : FitP w Z' p k px kx R i m e w' := by
  obtain ⟨h1, h2, ⟨h3, h4⟩ | ⟨h3, v1, v2, v3, nb, x, r, h4, h5, h6⟩⟩ := h
  · exact ⟨h1, h2.mono hz, Or.inl ⟨h3, h4.mono fun k _ hk => hz k hk⟩⟩
  · exact ⟨h1, h2.mono hz, Or.inr ⟨h3, v1, v2, v3, nb, x, r, h4, h5, h6.mono fun k _ hk => hz k hk⟩⟩
/-- A block that is no cells turns behind it. -/
theorem GrowP.put {w W : World} {Z : Nat → Prop} {t m cnt : Nat} {its0 : List It} {e : Ending} (h : GrowP w Z t m cnt its0 e W) {D : Nat} {o : Obj} (hz : Z D) (hD : W.heap[D]? = some o) (hc : o.isCells = false) (o' : Obj) : GrowP w Z t m cnt its0 e (W.putObj D o') := by
  obtain ⟨h1, h2, rb, ls, h3, h4, h5⟩ := h
  refine ⟨h1, h2.grown (grownBy_putObj' W D o') (fun k e => by cases e; exact Or.inl hz), rb, ls, h3.kept ((grownBy_putObj' W D o').block t h3.lt fun e => ?_), h4.grown (grownBy_putObj' W D o') (fun r e => by cases e; exact ⟨o, hD, hc⟩), h5⟩
  have e1 : t = D := by cases e; rfl
  subst e1
  rw [h3.cells] at hD
  obtain rfl := Option.some.inj hD
  cases hc
/-- The new root's world. -/
structure RootW (w : World) (Z : Nat → Prop) (t m cnt rb : Nat) (n : Nd) (low : List (List Nd)) (xk : ByteArray) (W w4 W5 : World) : Prop where
  hp : Hp W5 Z ((⟨w4.heap.size + 1, .slice (some ⟨w4.heap.size, 0, none⟩) 1 1, [⟨xk, ⟨#[]⟩, some rb⟩]⟩, none) :: (n, none) :: allX low)
  tr : TrAt W5 t m cnt (w4.heap.size + 1)
  only : Only (fun k => Z k ∨ k = t) w W5
  size : w4.heap.size ≤ W5.heap.size
  keep : ∀ k, k < W.heap.size → k ≠ t → W5.heap[k]? = W.heap[k]?
theorem GM.rootW {w : World} {Z : Nat → Prop} {t m cnt rb : Nat} {key : ByteArray} {rs : List Fr} {its0 : List It} {W w4 : World} {n : Nd} {low : List (List Nd)} {xk : ByteArray} (h : GM w Z t m cnt rb key rs its0 W rs [] [] n [] low) (hZ : ∀ k, w.heap.size ≤ k → Z k) (hb : Below W.heap.size W w4) :
    RootW w Z t m cnt rb n low xk W w4 (((w4.setCell ⟨t, 2, none⟩ (.pointer (some ⟨w4.heap.size + 1, 0, none⟩))).alloc (Obj.cells #[.string xk, .string ⟨#[]⟩, .pointer (some ⟨rb, 0, none⟩)] 86)).alloc (Obj.cells #[.slice (some ⟨w4.heap.size, 0, none⟩) 1 1, .pointer none] 74)) := by
  have h4 : Hp w4 Z (allX ([n] :: low)) := h.hp.later hb
  have ht4 : TrAt w4 t m cnt rb := h.tr.kept (hb.block _ h.tr.lt)
  have hs := h.only.size
  have hs4 := hb.size
  obtain ⟨wa, hwa⟩ : ∃ wa, w4.setCell ⟨t, 2, none⟩ (.pointer (some ⟨w4.heap.size + 1, 0, none⟩)) = wa := ⟨_, rfl⟩
  have hsa : wa.heap.size = w4.heap.size := by rw [← hwa]; simp [World.setCell]
  have hoth : ∀ k, k ≠ t → wa.heap[k]? = w4.heap[k]? := fun k hk => by rw [← hwa]; exact Below.heap_setCell _ _ _ _ (fun e => hk (by simpa using e))
  have hta : TrAt wa t m cnt (w4.heap.size + 1) := ⟨by rw [← hwa, heap_setCell_at ht4.cells]; simp⟩
  have hpa : Hp wa Z (allX ([n] :: low)) := ((h4.tight.kept fun k hk hz => hoth k fun e => ht4.out h4 (e ▸ hz)).mono fun k _ hz => by
    rcases h4.zone hz with h1 | h1
    · exact h1
    · exact hZ k (by omega))
  rw [hwa]
  have hZa : ∀ k, wa.heap.size ≤ k → Z k := fun k hk => hZ k (by omega)
  have hrow : (wa.alloc (Obj.cells #[.string xk, .string ⟨#[]⟩, .pointer (some ⟨rb, 0, none⟩)] 86)).ownsRow wa.heap.size 86 3 (.slice (some ⟨w4.heap.size, 0, none⟩) 1 1) [(⟨xk, ⟨#[]⟩, some rb⟩ : It)].length (ic [⟨xk, ⟨#[]⟩, some rb⟩]) := by
    rw [← hsa]
    exact ⟨rfl, Or.inr ⟨wa.heap.size, 1, _, rfl, Nat.le_refl _, heap_alloc_new wa _, Nat.le_refl _, by decide, rfl, rfl⟩⟩
  have hnew := hpa.new hZa ((Below.refl _ wa).alloc (Nat.le_refl _) _) hrow (Nat.le_refl _) none
  rw [World.size_alloc, hsa] at hnew
  have hbn : Below wa.heap.size wa ((wa.alloc (Obj.cells #[.string xk, .string ⟨#[]⟩, .pointer (some ⟨rb, 0, none⟩)] 86)).alloc (Obj.cells #[.slice (some ⟨w4.heap.size, 0, none⟩) 1 1, .pointer none] 74)) := ((Below.refl _ wa).alloc (Nat.le_refl _) _).alloc (by simp) _
  refine ⟨by rw [allX_cons] at hnew; exact hnew, hta.kept (hbn.block _ hta.lt), ?_, by have := hbn.size; omega, fun k hk hkt => ?_⟩
  · refine ((h.only.mono (Z' := fun k => Z k ∨ k = t) fun _ hk => Or.inl hk).later hb |>.trans ?_).later hbn
    exact ⟨by rw [← hwa]; rfl, by rw [← hwa]; rfl, by rw [← hwa]; rfl, by omega, fun k _ hz => hoth k fun e => hz (Or.inr e)⟩
  · rw [hbn.block k (by omega), hoth k hkt, hb.block k hk]

end Go.Proofs.Ytlpannicklkghaa
