/- Walks of layer 8: rows of the call's own. -/
import Derived.Test.YtkgkkcefnonejaaGreatT11
namespace Go.Proofs.YtkgkkcefnonejaaGreat
open Go.RowKit

theorem own_kept {w w' : World} {base n : Nat} {e : TypeId} {size : Nat} {v : Value} {xs : List Value} (h : w.ownsRow base e size v n xs) (hk : ∀ g, v.ownBlock = some g → w'.heap[g]? = w.heap[g]?) : w'.ownsRow base e size v n xs := by
  obtain ⟨h1, h2 | ⟨g, cap, cur, rfl, a, b, c⟩⟩ := h
  · exact ⟨h1, Or.inl h2⟩
  · exact ⟨h1, Or.inr ⟨g, cap, cur, rfl, a, (hk g rfl).trans b, c⟩⟩
theorem own_later {w w' : World} {B : Nat} {e : TypeId} {size : Nat} {v : Value} {n : Nat} {xs : List Value} (h : w.ownsRow B e size v n xs) (hb : Below w.heap.size w w') : w'.ownsRow B e size v n xs := own_kept h fun g hg => hb.block g (h.lt g hg).2
theorem own_mono {w : World} {base base' : Nat} {e : TypeId} {size : Nat} {v : Value} {n : Nat} {xs : List Value} (h : w.ownsRow base e size v n xs) (hb : base' ≤ base) : w.ownsRow base' e size v n xs := by
  obtain ⟨h1, h2 | ⟨g, cap, cur, e, a, r⟩⟩ := h
  · exact ⟨h1, Or.inl h2⟩
  · exact ⟨h1, Or.inr ⟨g, cap, cur, e, Nat.le_trans hb a, r⟩⟩
theorem own_block {w : World} {B : Nat} {e : TypeId} {size : Nat} {v : Value} {n : Nat} {xs : List Value} (h : w.ownsRow B e size v n xs) {g : Nat} (hg : v.ownBlock = some g) : ∃ cur, w.heap[g]? = some (.cells cur e (0, 0)) := by
  obtain ⟨_, ⟨rfl, _⟩ | ⟨b, cap, cur, rfl, _, hh, _⟩⟩ := h
  · cases hg
  · obtain rfl : b = g := by simpa [Value.ownBlock] using hg
    exact ⟨cur, hh⟩
theorem own_ge {w : World} {B : Nat} {e : TypeId} {size : Nat} {v : Value} {n : Nat} {xs : List Value} (h : w.ownsRow B e size v n xs) : ∀ g, v.ownBlock = some g → B ≤ g := fun g hg => (h.lt g hg).1
theorem cells_alloc (w : World) (us : List Value) (t : TypeId) : ∀ j u, us[j]? = some u → (w.alloc (.cells us.toArray t)).cell? ((⟨w.heap.size, 0, none⟩ : Addr).add j) = some u := by
  intro j u hj
  have hadd : (⟨w.heap.size, 0, none⟩ : Addr).add j = ⟨w.heap.size, j, none⟩ := by rw [Addr.add_lit, Nat.zero_add]
  rw [hadd]
  have hl := (List.getElem?_eq_some_iff.1 hj)
  obtain ⟨hl, rfl⟩ := hl
  have := heap_alloc_new w (.cells us.toArray t (0, 0))
  simp only [World.cell?, this]
  simp [hl]

/-! ### what keeps the blocks of some types -/
/-- Blocks of these types, from B on, are as they were. -/
def Keeps (S : List TypeId) (B : Nat) (w w' : World) : Prop := ∀ (g : Nat) (cur : Array Value) (t : TypeId), t ∈ S → B ≤ g → w.heap[g]? = some (.cells cur t (0, 0)) → w'.heap[g]? = some (.cells cur t (0, 0))
theorem Keeps.of {S : List TypeId} {B : Nat} {w w' : World} (h : Below w.heap.size w w') : Keeps S B w w' := fun _ _ _ _ _ hg => heap_of hg h
theorem Keeps.trans {S : List TypeId} {B : Nat} {a b c : World} (h : Keeps S B a b) (k : Keeps S B b c) : Keeps S B a c := fun g cur t ht hB hg => k g cur t ht hB (h g cur t ht hB hg)
theorem Keeps.sub {S S' : List TypeId} {B : Nat} {w w' : World} (h : Keeps S B w w') (hs : ∀ t ∈ S', t ∈ S) : Keeps S' B w w' := fun g cur t ht hB hg => h g cur t (hs t ht) hB hg
theorem Keeps.grown {S : List TypeId} {B B' : Nat} {w w' : World} {e : TypeId} {size : Nat} {v : Value} {n : Nat} {xs : List Value} (ho : w.ownsRow B' e size v n xs) (hg : w.grownBy w' v.ownBlock) (he : e ∉ S) : Keeps S B w w' := by
  intro g cur t ht _ h
  refine (hg.block g (Array.getElem?_eq_some_iff.1 h).1 fun e1 => ?_).trans h
  obtain ⟨cur', h'⟩ := own_block ho e1.symm
  rw [h] at h'
  simp only [Option.some.injEq, Obj.cells.injEq] at h'
  exact he (h'.2.1 ▸ ht)
/-- A store below B. -/
theorem Keeps.low {S : List TypeId} {B : Nat} {a w : World} (hk : Keeps S B a w) {g : Nat} (h : g < B) (o : Nat) (u : Value) : Keeps S B a (w.setCell ⟨g, o, none⟩ u) := by
  intro g' cur t' ht' hB h'
  refine (Below.heap_setCell _ _ _ _ fun e => ?_).trans (hk g' cur t' ht' hB h')
  have e : g' = g := e
  omega
theorem Keeps.alloc {S : List TypeId} {B : Nat} {a w : World} (hk : Keeps S B a w) (o : Obj) : Keeps S B a (w.alloc o) := hk.trans (Keeps.of ((Below.refl _ _).alloc (Nat.le_refl _) _))

/-! ### rows of the call's own -/
def OwnR {α : Type} (n : Nat) (T : TypeId) (R : α → List Value → Prop) (w : World) (B : Nat) (v : Value) (l : List α) : Prop :=
  ∃ ps : List (α × List Value), ps.map (·.1) = l ∧ (∀ p ∈ ps, R p.1 p.2 ∧ p.2.length = n) ∧ w.ownsRow B T n v l.length (ps.flatMap (·.2))
section
variable {α : Type} {n : Nat} {T : TypeId} {R R' : α → List Value → Prop} {w w' : World} {B : Nat} {v : Value} {l : List α}
theorem OwnR.nil (n : Nat) (T : TypeId) (R : α → List Value → Prop) (w : World) (B : Nat) : OwnR n T R w B (.slice none 0 0) ([] : List α) := ⟨[], rfl, fun _ hp => absurd hp List.not_mem_nil, World.ownsRow_nil _ _ _ _⟩
theorem OwnR.form (h : OwnR n T R w B v l) : ∃ p cap, v = .slice p l.length cap ∧ l.length ≤ cap := by
  obtain ⟨ps, _, _, h3⟩ := h
  obtain ⟨_, ⟨rfl, h0⟩ | ⟨g, cap, cur, rfl, _, _, hc, _⟩⟩ := h3
  · exact ⟨none, 0, by rw [h0], by omega⟩
  · exact ⟨_, cap, rfl, hc⟩
theorem OwnR.keeps {S : List TypeId} (h : OwnR n T R w B v l) (hk : Keeps S B w w') (hT : T ∈ S) (hR : ∀ x vs, R x vs → R' x vs) : OwnR n T R' w' B v l := by
  obtain ⟨ps, h1, h2, h3⟩ := h
  refine ⟨ps, h1, fun p hp => ⟨hR _ _ (h2 p hp).1, (h2 p hp).2⟩, own_kept h3 fun g hg => ?_⟩
  obtain ⟨cur, hh⟩ := own_block h3 hg
  rw [hh]
  exact hk g cur T hT (h3.lt g hg).1 hh
theorem OwnR.mono (h : OwnR n T R w B v l) {B' : Nat} (hB : B' ≤ B) (hR : ∀ x vs, R x vs → R' x vs) : OwnR n T R' w B' v l := by
  obtain ⟨ps, h1, h2, h3⟩ := h
  exact ⟨ps, h1, fun p hp => ⟨hR _ _ (h2 p hp).1, (h2 p hp).2⟩, own_mono h3 hB⟩
theorem flat_at {n : Nat} : ∀ (ps : List (α × List Value)) (i j : Nat) (hi : i < ps.length), (∀ p ∈ ps, p.2.length = n) → j < n → (ps.flatMap (·.2))[i * n + j]? = (ps[i].2)[j]?
  | p :: r, 0, j, _, h, hj => by
    have := h p List.mem_cons_self
    rw [List.flatMap_cons, Nat.zero_mul, Nat.zero_add, List.getElem?_append_left (by omega)]
    rfl
  | p :: r, i + 1, j, hi, h, hj => by
    have hp := h p List.mem_cons_self
    have ih := flat_at r i j (by simpa using hi) (fun q hq => h q (List.mem_cons_of_mem _ hq)) hj
    rw [List.flatMap_cons, List.getElem?_append_right (by rw [hp, Nat.add_mul]; omega), hp, Nat.add_mul, Nat.one_mul]
    rw [show i * n + n + j - n = i * n + j by omega, ih]
    rfl
theorem OwnR.row {p : Option Addr} {m cap : Nat} (h : OwnR n T R w B (.slice p m cap) l) (hR : ∀ x vs, R x vs → R' x vs) : RowR n R' w p l := by
  obtain ⟨ps, h1, h2, h3⟩ := h
  intro i hi
  have hl : ps.length = l.length := by rw [← h1, List.length_map]
  have hmem : ps[i]'(by omega) ∈ ps := List.getElem_mem _
  have hx : (ps[i]'(by omega)).1 = l[i] := by subst h1; rw [List.getElem_map]
  have h30 := h3
  obtain ⟨_, ⟨e, h0⟩ | ⟨g, cap', cur, e, _⟩⟩ := h3
  · omega
  · simp only [Value.slice.injEq] at e
    obtain ⟨rfl, rfl, rfl⟩ := e
    refine ⟨g, 0, (ps[i]'(by omega)).2, rfl, by rw [← hx]; exact hR _ _ (h2 _ hmem).1, (h2 _ hmem).2, fun j hj => ?_⟩
    have hj' : j < n := by rw [← (h2 _ hmem).2]; exact hj
    have hlt : i * n + j < l.length * n := by
      have : (i + 1) * n ≤ l.length * n := Nat.mul_le_mul_right _ (by omega)
      rw [Nat.add_mul] at this
      omega
    rw [Nat.zero_add, h30.cellAt _ hlt, flat_at ps i j (by omega) (fun p hp => (h2 p hp).2) hj', List.getElem?_eq_getElem hj]
theorem OwnR.push {w3 : World} {v' : Value} {ps : List (α × List Value)} {x : α} {us : List Value} (h1 : ps.map (·.1) = l) (h2 : ∀ p ∈ ps, R p.1 p.2 ∧ p.2.length = n) (hR : ∀ x vs, R x vs → R' x vs) (hx : R' x us) (hus : us.length = n) (ho : w3.ownsRow B T n v' (l.length + 1) (ps.flatMap (·.2) ++ us)) : OwnR n T R' w3 B v' (l ++ [x]) := by
  refine ⟨ps ++ [(x, us)], by rw [List.map_append, h1]; rfl, fun p hp => ?_, ?_⟩
  · rcases List.mem_append.1 hp with hp | hp
    · exact ⟨hR _ _ (h2 p hp).1, (h2 p hp).2⟩
    · obtain rfl : p = (x, us) := by simpa using hp
      exact ⟨hx, hus⟩
  · rw [List.flatMap_append, List.length_append]
    simpa using ho
end
def IxO (w : World) (B : Nat) (x : Ix) (vs : List Value) : Prop := ∃ v, vs = [.string x.nm, v, .bool x.un] ∧ OwnR 1 3 IntR w B v x.cols
def TbO (w : World) (B : Nat) (t : Tb) (vs : List Value) : Prop := ∃ vc vk vx, vs = [.string t.nm, vc, vk, .int .i64 t.part, vx] ∧ OwnR 3 62 ColR w B vc t.cols ∧ OwnR 1 3 IntR w B vk t.key ∧ OwnR 3 64 (IxO w B) w B vx t.ixs
def PcO (w : World) (B : Nat) (p : Pc) (vs : List Value) : Prop := ∃ vp vb, vs = [.string p.nm, vp, vb, .int .i64 p.rows, .int .i64 p.bytes] ∧ OwnR 2 66 PmR w B vp p.prms ∧ OwnR 1 9 StrR w B vb p.body
def CtO (w : World) (B : Nat) (c : Ct) (vs : List Value) : Prop := ∃ vt vp, vs = [vt, vp] ∧ OwnR 5 46 (TbO w B) w B vt c.tbs ∧ OwnR 5 52 (PcO w B) w B vp c.prs
/-- The types of what lies within an index, a table, a procedure. -/
abbrev inIx : List TypeId := [3]
abbrev inTb : List TypeId := [62, 3, 64]
abbrev inPc : List TypeId := [66, 9]
theorem IxO.keeps {w w' : World} {B : Nat} (hk : Keeps inIx B w w') (x : Ix) (vs : List Value) (h : IxO w B x vs) : IxO w' B x vs := by
  obtain ⟨v, e, h1⟩ := h
  exact ⟨v, e, h1.keeps hk (by simp) fun _ _ h => h⟩
theorem TbO.keeps {w w' : World} {B : Nat} (hk : Keeps inTb B w w') (x : Tb) (vs : List Value) (h : TbO w B x vs) : TbO w' B x vs := by
  obtain ⟨v1, v2, v3, e, h1, h2, h3⟩ := h
  exact ⟨v1, v2, v3, e, h1.keeps hk (by simp) fun _ _ h => h, h2.keeps hk (by simp) fun _ _ h => h, h3.keeps hk (by simp) (IxO.keeps (hk.sub (by simp)))⟩
theorem PcO.keeps {w w' : World} {B : Nat} (hk : Keeps inPc B w w') (x : Pc) (vs : List Value) (h : PcO w B x vs) : PcO w' B x vs := by
  obtain ⟨v1, v2, e, h1, h2⟩ := h
  exact ⟨v1, v2, e, h1.keeps hk (by simp) fun _ _ h => h, h2.keeps hk (by simp) fun _ _ h => h⟩
theorem IxO.mono {w : World} {B B' : Nat} (hB : B' ≤ B) (x : Ix) (vs : List Value) (h : IxO w B x vs) : IxO w B' x vs := by
  obtain ⟨v, e, h1⟩ := h
  exact ⟨v, e, h1.mono hB fun _ _ h => h⟩
theorem TbO.mono {w : World} {B B' : Nat} (hB : B' ≤ B) (x : Tb) (vs : List Value) (h : TbO w B x vs) : TbO w B' x vs := by
  obtain ⟨v1, v2, v3, e, h1, h2, h3⟩ := h
  exact ⟨v1, v2, v3, e, h1.mono hB fun _ _ h => h, h2.mono hB fun _ _ h => h, h3.mono hB (IxO.mono hB)⟩
theorem PcO.mono {w : World} {B B' : Nat} (hB : B' ≤ B) (x : Pc) (vs : List Value) (h : PcO w B x vs) : PcO w B' x vs := by
  obtain ⟨v1, v2, e, h1, h2⟩ := h
  exact ⟨v1, v2, e, h1.mono hB fun _ _ h => h, h2.mono hB fun _ _ h => h⟩
theorem CtO.mono {w : World} {B B' : Nat} (hB : B' ≤ B) (x : Ct) (vs : List Value) (h : CtO w B x vs) : CtO w B' x vs := by
  obtain ⟨v1, v2, e, h1, h2⟩ := h
  exact ⟨v1, v2, e, h1.mono hB (TbO.mono hB), h2.mono hB (PcO.mono hB)⟩
theorem CtO.later {w w' : World} {B : Nat} (hb : Below w.heap.size w w') (x : Ct) (vs : List Value) (h : CtO w B x vs) : CtO w' B x vs := by
  obtain ⟨v1, v2, e, h1, h2⟩ := h
  exact ⟨v1, v2, e, h1.keeps (S := [46]) (Keeps.of hb) (by simp) (TbO.keeps (Keeps.of hb)), h2.keeps (S := [52]) (Keeps.of hb) (by simp) (PcO.keeps (Keeps.of hb))⟩
/-! what is owned is read -/
theorem IxO.reads {w : World} {B : Nat} (x : Ix) (vs : List Value) (h : IxO w B x vs) : IxR w x vs := by
  obtain ⟨v, rfl, h1⟩ := h
  obtain ⟨p, cap, rfl, _⟩ := h1.form
  exact ⟨p, cap, rfl, h1.row fun _ _ h => h⟩
theorem TbO.reads {w : World} {B : Nat} (x : Tb) (vs : List Value) (h : TbO w B x vs) : TbR w x vs := by
  obtain ⟨v1, v2, v3, rfl, h1, h2, h3⟩ := h
  obtain ⟨p1, c1, rfl, _⟩ := h1.form
  obtain ⟨p2, c2, rfl, _⟩ := h2.form
  obtain ⟨p3, c3, rfl, _⟩ := h3.form
  exact ⟨p1, c1, p2, c2, p3, c3, rfl, h1.row fun _ _ h => h, h2.row fun _ _ h => h, h3.row IxO.reads⟩
theorem PcO.reads {w : World} {B : Nat} (x : Pc) (vs : List Value) (h : PcO w B x vs) : PcR w x vs := by
  obtain ⟨v1, v2, rfl, h1, h2⟩ := h
  obtain ⟨p1, c1, rfl, _⟩ := h1.form
  obtain ⟨p2, c2, rfl, _⟩ := h2.form
  exact ⟨p1, c1, p2, c2, rfl, h1.row fun _ _ h => h, h2.row fun _ _ h => h⟩
theorem CtO.reads {w : World} {B : Nat} (x : Ct) (vs : List Value) (h : CtO w B x vs) : CtR w x vs := by
  obtain ⟨v1, v2, rfl, h1, h2⟩ := h
  obtain ⟨p1, c1, rfl, _⟩ := h1.form
  obtain ⟨p2, c2, rfl, _⟩ := h2.form
  exact ⟨p1, c1, p2, c2, rfl, h1.row TbO.reads, h2.row PcO.reads⟩
end Go.Proofs.YtkgkkcefnonejaaGreat
