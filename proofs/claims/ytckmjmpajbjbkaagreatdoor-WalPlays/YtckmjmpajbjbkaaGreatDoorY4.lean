/- Walks of layer 6: slices.Delete of the first segment. -/
import Derived.Test.YtckmjmpajbjbkaaGreatDoorJ5
namespace Go.Proofs.YtckmjmpajbjbkaaGreatDoor
open Go.RowKit

theorem setCells_row (g : Nat) : ∀ (vs : List Value) (o : Nat) (w : World) {cur : Array Value} {e : TypeId} {fr : Nat × Nat}, w.heap[g]? = some (.cells cur e fr) → ∃ cur', (w.setCells g o vs).heap[g]? = some (.cells cur' e fr) ∧ cur'.size = cur.size
  | [], _, _, cur, _, _, h => ⟨cur, h, rfl⟩
  | v :: r, o, w, cur, e, fr, h => by
    have : (w.setCell ⟨g, o, none⟩ v).heap[g]? = some (.cells (cur.setIfInBounds o v) e fr) := heap_setCell_at h v
    obtain ⟨cur', h1, h2⟩ := setCells_row g r (o + 1) _ this
    exact ⟨cur', h1, by rw [h2]; simp⟩
/-- A row out of its cells. -/
theorem own_cells {w : World} {e : TypeId} {size n cap g : Nat} {cur : Array Value} {xs : List Value} (hx : xs.length = n * size) (hg : w.heap[g]? = some (.cells cur e (0, 0))) (hn : n ≤ cap) (hm : cap ≤ maxLen) (hs : cur.size = cap * size) (hc : ∀ j, j < n * size → w.cell? ⟨g, j, none⟩ = xs[j]?) : w.ownsRow 0 e size (.slice (some ⟨g, 0, none⟩) n cap) n xs := by
  refine ⟨hx, Or.inr ⟨g, cap, cur, rfl, Nat.zero_le _, hg, hn, hm, hs, ?_⟩⟩
  have hle : n * size ≤ cur.size := by rw [hs]; exact Nat.mul_le_mul_right _ hn
  apply List.ext_getElem?
  intro j
  by_cases hj : j < n * size
  · have h1 := hc j hj
    simp only [World.cell?, hg] at h1
    rw [List.getElem?_take_of_lt hj, ← h1]
    simp
  · rw [List.getElem?_eq_none (by rw [List.length_take]; omega), List.getElem?_eq_none (by omega)]

theorem zeroSeg (w : World) : (zeroValue 100).run Tryz.prog w = .ok (.agg #[.int .i64 0, .slice none 0 0]) w := by kernel_rfl
theorem clear_seg (w : World) (ty : TypeId) (b o c : Nat) (hc : ∀ j, j < 2 → (w.cell? ⟨b, o + j, none⟩).isSome = true) (hf : ∀ j, j < 2 → w.frozen? ⟨b, o + j, none⟩ = false) :
    (Builtin.clear_ #[89] ty #[.slice (some ⟨b, o, none⟩) 1 c]).run Tryz.prog w = .ok (.tuple #[]) (w.setCells b o [.int .i64 0, .slice none 0 0]) := by
  have hst := run_storeCells_cells (P := Tryz.prog) b o [.int .i64 0, .slice none 0 0] 0 w (by simpa using hc) (by simpa using hf) (by intro v hv; simp at hv; rcases hv with rfl | rfl <;> rfl)
  simp only [Nat.add_zero] at hst
  have hz : (Builtin.zeroCells (Value.agg #[.int .i64 0, .slice none 0 0]).cells 1).toList = [.int .i64 0, .slice none 0 0] := by kernel_rfl
  simp [Builtin.clear_, run_underlying Tryz.underlying89, zeroSeg w, hz, hst]

set_option maxHeartbeats 4000000 in
set_option maxRecDepth 100000 in
theorem delete_any (w : World) (b cap : Nat) (x : Ent) (es : List Ent) (hrow : w.ownsRow 0 100 2 (.slice (some ⟨b, 0, none⟩) (es.length + 1) cap) (es.length + 1) (ec (x :: es))) (hne : 0 < es.length) (hl : es.length ≤ 10000000000000) (h1 : ∀ u ∈ ec es, u.oneCell' = true) :
    Calls Tryz.prog 72 #[.slice (some ⟨b, 0, none⟩) (es.length + 1) cap, .int .i64 0, .int .i64 1] w fun e w' => e = .returned (.slice (some ⟨b, 0, none⟩) es.length cap) ∧ w'.ownsRow 0 100 2 (.slice (some ⟨b, 0, none⟩) es.length cap) es.length (ec es) ∧ Only (fun k => k = b) w w' := by
  obtain ⟨i0, hi, hz0, hz1, hz2⟩ := info_parts Tryz.infoSeg
  have hr := hrow
  obtain ⟨_, ⟨_, h0⟩ | ⟨g, cap', cur, e, _, hg, hn, hm, hs, _⟩⟩ := hrow
  · omega
  simp only [Value.slice.injEq, Option.some.injEq, Addr.mk.injEq, and_true] at e
  obtain ⟨rfl, _, rfl⟩ := e
  obtain ⟨m, hm1⟩ : ∃ m, es.length = m := ⟨_, rfl⟩
  have hel : (ec es).length = m * 2 := by rw [ec_length, hm1]
  rw [hm1] at hr hn hne hl ⊢
  -- what the cells hold
  have hcell : ∀ j, j < (m + 1) * 2 → w.cell? ⟨b, j, none⟩ = (ec (x :: es))[j]? := fun j hj => hr.cellAt j hj
  have hfz : ∀ o, w.frozen? ⟨b, o, none⟩ = false := fun o => hr.frozenAt o
  have hnews : Hid (∀ j u, (ec es)[j]? = some u → w.drew.cell? ((⟨b, 2, none⟩ : Addr).add j) = some u) := fun j u hu => by
    have hj : j < m * 2 := by
      have := (List.getElem?_eq_some_iff.1 hu).1
      rwa [hel] at this
    rw [Addr.add_lit]
    show w.cell? ⟨b, 2 + j, none⟩ = some u
    rw [hcell (2 + j) (by omega), Nat.add_comm]
    exact hu
  have hspare : Hid (∀ j, j < (ec es).length → (w.drew.cell? ⟨b, 0 + 0 * 2 + j, none⟩).isSome = true ∧ w.drew.frozen? ⟨b, 0 + 0 * 2 + j, none⟩ = false) := fun j hj => by
    rw [hel] at hj
    refine ⟨?_, hfz _⟩
    show (w.cell? ⟨b, 0 + 0 * 2 + j, none⟩).isSome = true
    rw [show 0 + 0 * 2 + j = j by omega, hcell j (by omega), List.getElem?_eq_getElem (by rw [ec_length, List.length_cons, hm1]; exact (by omega))]
    rfl
  obtain ⟨W1, hW1⟩ : ∃ W1, W1 = w.drew.setCells b (0 + 0 * 2) (ec es) := ⟨_, rfl⟩
  have hW : Hid (W1 = w.drew.setCells b (0 + 0 * 2) (ec es)) := hW1
  obtain ⟨cur1, hg1, hs1⟩ := setCells_row b (ec es) (0 + 0 * 2) w.drew (cur := cur) (e := 100) (fr := (0, 0)) hg
  rw [← hW1] at hg1
  have hin1 : ∀ j, j < m * 2 → W1.cell? ⟨b, j, none⟩ = (ec es)[j]? := fun j hj => by
    rw [hW1]
    have := World.cell?_setCells_in b (ec es) (0 + 0 * 2) w.drew (fun t ht => (hspare.out t ht).1) j (by rw [hel]; exact hj)
    rw [show 0 + 0 * 2 + j = j by omega] at this
    rw [this, List.getElem?_eq_getElem (by rw [hel]; exact hj)]
  have hfz1 : ∀ o, W1.frozen? ⟨b, o, none⟩ = false := fun o => by simp [World.frozen?, hg1]
  have hle1 : cur1.size = cap * 2 := by rw [hs1, hs]
  have hsome1 : ∀ j, j < cap * 2 → (W1.cell? ⟨b, j, none⟩).isSome = true := fun j hj => by
    have : j < cur1.size := by omega
    simp [World.cell?, hg1, this]
  have hcl : ∀ ty, (Builtin.clear_ #[89] ty #[.slice (some ⟨b, m * 2, none⟩) 1 (cap - m)]).run Tryz.prog W1 = .ok (.tuple #[]) (W1.setCells b (m * 2) [.int .i64 0, .slice none 0 0]) := fun ty => clear_seg W1 ty b (m * 2) (cap - m) (fun j hj => hsome1 _ (by omega)) (fun j _ => hfz1 _)
  -- what is left
  have hfin : Hid ((W1.setCells b (m * 2) [.int .i64 0, .slice none 0 0]).ownsRow 0 100 2 (.slice (some ⟨b, 0, none⟩) m cap) m (ec es) ∧ Only (fun k => k = b) w (W1.setCells b (m * 2) [.int .i64 0, .slice none 0 0])) := by
    obtain ⟨cur2, hg2, hs2⟩ := setCells_row b [.int .i64 0, .slice none 0 0] (m * 2) W1 hg1
    refine ⟨own_cells hel hg2 (by omega) hm (by rw [hs2, hle1]) fun j hj => ?_, ?_⟩
    · rw [World.cell?_setCells_out b _ _ _ _ (fun _ _ => by simp only; omega)]
      exact hin1 j hj
    · have o1 : Only (fun k => k = b) w w.drew := (Only.refl _ _).drew
      have o2 := o1.grown (setCells_grown b (ec es) (0 + 0 * 2) w.drew) (fun k hk => by simpa using hk.symm)
      rw [← hW1] at o2
      exact o2.grown (setCells_grown b [.int .i64 0, .slice none 0 0] (m * 2) W1) (fun k hk => by simpa using hk.symm)
  have hlen : Hid ((ec es).length = m * 2) := hel
  have hone : Hid (∀ u ∈ ec es, u.oneCell' = true) := h1
  have hm1c : 1 ≤ cap := by omega
  have hmc : m ≤ cap := by omega
  have hmc1 : m + 1 ≤ cap := by omega
  have hc1 : ¬ cap = 1 := by omega
  have hcm : ¬ cap = m := by omega
  have hmlen : cap ≤ 9223372036854775807 := by unfold maxLen at hm; omega
  have q1 : m + 1 - m = 1 := by omega
  have q2 : (1 : Int) ≤ (m : Int) + 1 := by omega
  have q3 : (m : Int) + 1 ≤ (cap : Int) := by omega
  clear hr hg hs hm hcell hfz hin1 hfz1 hsome1 hle1 hs1 hg1 hW1 h1 hel hm1 hn
  go_enter Tryz.func72, Tryz.ntmps72
  go_wp2_with fail
  go_region_law (refine step_append_room rfl (.tmp 22) (.tmp 25) 89 rfl 100 i0 2 Tryz.underlying89 hi hz1 b 0 0 cap (by simp [Act.eval, Act.put]) ⟨b, 2, none⟩ m (cap - 1) (ec es) (by simp [Act.eval, Act.put]) hlen.out hnews.out hone.out (by omega) hspare.out ?_; rw [← hW.out])
  go_wp2
  go_ret
  exact ⟨by simp, hfin.out⟩
end Go.Proofs.YtckmjmpajbjbkaaGreatDoor
/- Walks of layer 6: Truncate. -/
namespace Go.Proofs.YtckmjmpajbjbkaaGreatDoor
open Go.RowKit

theorem LogAt.one {w : World} {Y : Nat → Prop} {l a : Nat} {g : Lg} {p : Option Addr} {cap : Nat} {es : List Ent} (h : LogAt w Y l a g p cap es) : ∀ u ∈ ec es, u.oneCell' = true := by
  have key : ∀ m : List Ent, (∀ e ∈ m, e ∈ es) → ∀ u ∈ ec m, u.oneCell' = true := by
    intro m
    induction m with
    | nil => intro _ u hu; cases hu
    | cons e m ih =>
      intro hm u hu
      simp only [ec, List.mem_cons] at hu
      rcases hu with rfl | rfl | hu
      · rfl
      · obtain ⟨q, c, eq, _⟩ := own_slice (h.recs e (hm e (by simp)))
        rw [eq]
        rfl
      · exact ih (fun x hx => hm x (List.mem_cons_of_mem _ hx)) u hu
  exact key es fun e he => he
theorem LogAt.cut {W W1 : World} {Y : Nat → Prop} {l a b cap : Nat} {g : Lg} {x : Ent} {es : List Ent} (h : LogAt W Y l a g (some ⟨b, 0, none⟩) cap (x :: es)) (ho : Only (fun k => k = b) W W1) (hr : W1.ownsRow 0 100 2 (.slice (some ⟨b, 0, none⟩) es.length cap) es.length (ec es)) :
    LogAt (W1.setCell ⟨l, 4, none⟩ (.slice (some ⟨b, 0, none⟩) es.length cap)) Y l a { g with segs := es.map Ent.sg } (some ⟨b, 0, none⟩) cap es ∧ Only Y W (W1.setCell ⟨l, 4, none⟩ (.slice (some ⟨b, 0, none⟩) es.length cap)) := by
  have hlb : l ≠ b := fun e => own_ne h.rows h.cells (by decide) (by rw [e]; rfl)
  have kl := ho.block l h.lt hlb
  refine ⟨⟨?_, h.zl, rfl, ?_, fun k hk => h.zs k hk, fun e he => ?_, fun e he => h.zr e (List.mem_cons_of_mem _ he), (List.pairwise_cons.1 h.apart).2⟩, ?_⟩
  · rw [heap_setCell_at (kl.trans h.cells)]
    simp [lcells]
  · exact ownsRow_setCell_other hr (own_ne hr (kl.trans h.cells) (by decide)) _
  · have hre := h.recs e (List.mem_cons_of_mem _ he)
    have hr2 : W1.ownsRow 0 9 1 e.2.2 e.2.1.length (sv e.2.1) := own_kept hre fun k hk => ho.block k (hre.lt k hk).2 fun q => own_apart hre h.rows (by decide) hk (by rw [q]; rfl)
    exact ownsRow_setCell_other hr2 (own_ne hr2 (kl.trans h.cells) (by decide)) _
  · exact (ho.mono fun k hk => by rw [hk]; exact h.zs b rfl).setCell (p := ⟨l, 4, none⟩) h.zl _
theorem LgW.tail {g : Lg} {s t : Sg} {r : List Sg} (h : LgW g) (e : g.segs = s :: t :: r) : LgW { g with segs := t :: r } := by
  have hr := h.row
  have hm := h.many
  rw [e] at hr
  have hn : nextL g.frm (s :: t :: r) = nextL g.frm (t :: r) := by simp [nextL]
  rw [Lg.next, e, hn] at hm
  refine ⟨h.size, h.frm, hr.2, fun x hx => h.low x (by rw [e]; exact List.mem_cons_of_mem _ hx), fun x hx => h.few x (by rw [e]; exact List.mem_cons_of_mem _ hx), fun x hx => h.small x (by rw [e]; exact List.mem_cons_of_mem _ hx), ?_⟩
  simp only [Lg.next, List.length_cons] at hm ⊢
  omega
theorem dremove_later {B : Nat} {w W : World} {X : Nat → Prop} {l a : Nat} {st : St} {g : Lg} {p : Option Addr} {cap : Nat} {es : List Ent} (h : IsLogE B w X l a st g p cap es) (hX : ∀ k, w.heap.size ≤ k → X k) (hb : Below w.heap.size w W) (hst : st.steps < 4611686018427387904) (s : ByteArray) :
    Calls Tryz.prog 71 #[.pointer (some ⟨a, 0, none⟩), .string s] W fun e w' => e = .returned (.int .i64 (remR st s.data.toList).1) ∧ IsLogE B w' X l a (remR st s.data.toList).2 g p cap es ∧ Only X w w' := by
  refine (dremove_any (h.later hb) (fun k hk => hX k (Nat.le_trans hb.size hk)) hst s).mono ?_
  rintro e w' ⟨rfl, k1, k2⟩
  exact ⟨rfl, k1, (Only.of hb).trans k2⟩
def lenAt (l : Nat) (w : World) : Nat := match w.cell? ⟨l, 4, none⟩ with
  | some (.slice _ n _) => n
  | _ => 0
theorem LogAt.len {w : World} {Y : Nat → Prop} {l a : Nat} {g : Lg} {p : Option Addr} {cap : Nat} {es : List Ent} (h : LogAt w Y l a g p cap es) : lenAt l w = es.length := by
  unfold lenAt
  rw [h.lc.c4]
theorem remR_stp (st : St) (s : Nm) : (remR st s).2.steps ≤ st.steps + 1 := stepR_steps _ _ _
theorem truncL_bad {st : St} {g : Lg} {P : Int} (h : P < 0 ∨ (g.safe : Int) < P) : truncL st g P = (1, st, g) := by rw [truncL, if_pos h]
theorem truncL_go {st : St} {g : Lg} {P : Int} (h : ¬ (P < 0 ∨ (g.safe : Int) < P)) : truncL st g P = ((truncG P st g.segs).1, (truncG P st g.segs).2.1, { g with segs := (truncG P st g.segs).2.2 }) := by rw [truncL, if_neg h]
theorem truncG_stop {P : Int} {st : St} {s t : Sg} {r : List Sg} (h : ¬ (t.1 : Int) ≤ P) : truncG P st (s :: t :: r) = (0, st, s :: t :: r) := by rw [truncG, if_neg h]
theorem truncG_err {P : Int} {st : St} {s t : Sg} {r : List Sg} (h : (t.1 : Int) ≤ P) (h' : (remR st (nameN s.1)).1 ≠ 0) : truncG P st (s :: t :: r) = ((remR st (nameN s.1)).1, (remR st (nameN s.1)).2, s :: t :: r) := by rw [truncG, if_pos h, if_pos h']
theorem truncG_on {P : Int} {st : St} {s t : Sg} {r : List Sg} (h : (t.1 : Int) ≤ P) (h' : (remR st (nameN s.1)).1 = 0) : truncG P st (s :: t :: r) = truncG P (remR st (nameN s.1)).2 (t :: r) := by rw [truncG, if_pos h, if_neg (by rw [h']; simp)]

set_option maxHeartbeats 8000000 in
set_option maxRecDepth 100000 in
theorem ltrunc_any (B : Nat) (w : World) (X : Nat → Prop) (l a : Nat) (st : St) (g : Lg) (h : IsLog B w X l a st g) (hX : ∀ k, w.heap.size ≤ k → X k) (hst : st.steps < 4611680000000000000) (P : Int) :
    Calls Tryz.prog 39 #[.pointer (some ⟨l, 0, none⟩), .int .i64 P] w fun e w' => e = .returned (.int .i64 (truncL st g P).1) ∧ IsLog B w' X l a (truncL st g P).2.1 (truncL st g P).2.2 ∧ Only X w w' := by
  obtain ⟨p, cap, es, h⟩ := h
  have HI : Hid (IsLogE B w X l a st g p cap es) := h
  have HX : Hid (∀ k, w.heap.size ≤ k → X k) := hX
  obtain ⟨Y, hL⟩ := h.at
  have c3 := hL.lc.c3
  have HLN : Hid (g.segs.length ≤ 2000000000064) := by
    have h1 := hL.many h.ok
    have h2 := congrArg List.length hL.segs
    rw [List.length_map] at h2
    have : g.segs.length ≤ 2000000000064 := by omega
    exact this
  clear h hX hL
  by_cases h1 : P < 0
  · have HE : Hid (truncL st g P = (1, st, g)) := truncL_bad (Or.inl h1)
    go_enter Tryz.func39, Tryz.ntmps39
    go_wp2
    go_ret
    rw [HE.out]
    exact ⟨rfl, HI.out.is, Only.refl _ _⟩
  by_cases h2 : (g.safe : Int) < P
  · have HE : Hid (truncL st g P = (1, st, g)) := truncL_bad (Or.inr h2)
    go_enter Tryz.func39, Tryz.ntmps39
    go_wp2
    go_ret
    rw [HE.out]
    exact ⟨rfl, HI.out.is, Only.refl _ _⟩
  have HE : Hid (truncL st g P = ((truncG P st g.segs).1, (truncG P st g.segs).2.1, { g with segs := (truncG P st g.segs).2.2 })) := truncL_go (fun e => by
    rcases e with e | e
    · exact h1 e
    · exact h2 e)
  obtain ⟨T, hT⟩ : ∃ T, truncG P st g.segs = T := ⟨_, rfl⟩
  have HT : Hid (truncG P st g.segs = T) := hT
  rw [HE.out, hT]
  clear hT
  go_enter Tryz.func39, Tryz.ntmps39
  go_wp2
  go_loopw [5] (fun _ wr => ∃ (stk : St) (p : Option Addr) (cap : Nat) (es : List Ent), IsLogE B wr X l a stk { g with segs := es.map Ent.sg } p cap es ∧ Only X w wr ∧ truncG P stk (es.map Ent.sg) = T ∧ stk.steps + es.length ≤ st.steps + g.segs.length) (fun _ wr => lenAt l wr)
  case atStart =>
    obtain ⟨Y, hL⟩ := HI.out.at
    have e := hL.segs
    refine ⟨st, p, cap, es, ?_, Only.refl _ _, by rw [← e]; exact HT.out, by rw [e, List.length_map]; exact Nat.le_refl _⟩
    have e2 : { g with segs := es.map Ent.sg } = g := by rw [← e]
    rw [e2]
    exact HI.out
  case round =>
    obtain ⟨stk, p, cap, es, hi1, ho1, htr, hsp⟩ := hrel
    have HI1 : Hid (IsLogE B wr X l a stk { g with segs := es.map Ent.sg } p cap es) := hi1
    have HO1 : Hid (Only X w wr) := ho1
    have HTR : Hid (truncG P stk (es.map Ent.sg) = T) := htr
    obtain ⟨Y1, hL1⟩ := hi1.at
    have HLEN : Hid (lenAt l wr = es.length) := hL1.len
    have hm := hL1.many hi1.ok
    have z1 := ho1.size
    have hsteps : stk.steps < 4611686018427387904 := by have := HLN.out; omega
    have HSP : Hid (stk.steps + es.length ≤ st.steps + g.segs.length) := hsp
    clear hi1 ho1 htr hsp
    match es, HI1, HTR, hL1, HLEN, hm, HSP with
    | [], HI1, HTR, hL1, _, _, _ =>
      have c4 := hL1.lc.c4
      simp only [List.length_nil] at c4
      clear hL1
      go_wp2
      go_ret
      rw [← HTR.out]
      exact ⟨rfl, HI1.out.is, HO1.out⟩
    | [x], HI1, HTR, hL1, _, _, _ =>
      have c4 := hL1.lc.c4
      simp only [List.length_singleton] at c4
      clear hL1
      go_wp2
      go_ret
      rw [← HTR.out]
      exact ⟨rfl, HI1.out.is, HO1.out⟩
    | x :: y :: r, HI1, HTR, hL1, HLEN, hm, HSP =>
      have c4 := hL1.lc.c4
      have c0 := hL1.lc.c0
      simp only [List.length_cons] at c4 hm
      obtain ⟨b, rfl, _, _, _, d0, d1, _⟩ := hL1.seg (i := 0) (by simp)
      obtain ⟨b', eb, _, _, _, f0, _⟩ := hL1.seg (i := 1) (by simp)
      obtain rfl : b = b' := by simpa using eb
      simp only [List.getElem_cons_zero, List.getElem_cons_succ, Nat.zero_mul, Nat.one_mul, Nat.zero_add] at d0 d1 f0
      obtain ⟨q, c, eq, _⟩ := own_slice (hL1.recs x (by simp))
      have HQ : Hid (x.2.2 = .slice q x.2.1.length c) := eq
      rw [eq] at d1
      have hx1 : x.1 < 1000000000000 := HI1.out.ok.low (x.1, x.2.1) (by simp [Ent.sg])
      have HL1 : Hid (LogAt wr Y1 l a { g with segs := (x :: y :: r).map Ent.sg } (some ⟨b, 0, none⟩) cap (x :: y :: r)) := hL1
      have HN : Hid (∀ w', Below wr.heap.size wr w' → SV0 w') := fun w' hb => (HI1.out.lib.later HI1.out.base hb).here
      have g1 : (1 : Int) < ((r.length : Int) + 1) + 1 := by omega
      have g2 : decide ((1 : Int) < ((r.length : Int) + 1) + 1) = true := decide_eq_true g1
      have g3 : (0 : Int) < (r.length : Int) + 1 + 1 := by omega
      have g4 : (0 : Int) < ((r.length + 1 + 1 : Nat) : Int) := by omega
      clear hL1 eq eb
      by_cases hle : (y.1 : Int) ≤ P
      · go_wp2
        go_region_held3 (fun w' => w'.cell? ⟨l, 0, none⟩ = some (.pointer (some ⟨a, 0, none⟩)) ∧ w'.cell? ⟨l, 4, none⟩ = some (.slice (some ⟨b, 0, none⟩) (r.length + 1 + 1) cap) ∧ w'.cell? ⟨b, 0, none⟩ = some (.int .i64 (x.1 : Int)) ∧ w'.cell? ⟨b, 1, none⟩ = some (.slice q x.2.1.length c)) (go_simp) (first
          | (go_at_call 55; refine (name_any x.1 x.2.1.length c q _ (HN.out _ ((Below.refl _ _).drew)) hx1).mono ?_; rintro e w1 ⟨rfl, hb1⟩; (have k0 := cell_later hb1 c0); (have k4 := cell_later hb1 c4); (have k5 := cell_later hb1 d0); (have k6 := cell_later hb1 d1); (have HB1 : Hid (Below wr.heap.size wr w1) := from_drew hb1); clear hb1)
          | (go_at_call 71; refine (dremove_later HI1.out (fun k hk => HX.out k (by omega)) HB1.out hsteps ⟨(nameN x.1).toArray⟩).mono ?_; rintro e w2 ⟨rfl, hi2, ho2⟩; simp only at hi2 ⊢; (have HI2 : Hid (IsLogE B w2 X l a (remR stk (nameN x.1)).2 { g with segs := (x :: y :: r).map Ent.sg } (some ⟨b, 0, none⟩) cap (x :: y :: r)) := hi2); (obtain ⟨Y2, hL2⟩ := hi2.at); (have q0 := hL2.lc.c0); (have q4 := hL2.lc.c4); (obtain ⟨b2, eb2, _, _, _, q5, q6, _⟩ := hL2.seg (i := 0) (by simp)); (obtain rfl : b = b2 := by simpa using eb2); (simp only [List.getElem_cons_zero, Nat.zero_mul, Nat.zero_add, List.length_cons] at q4 q5 q6); rw [HQ.out] at q6; clear hi2 hL2))
        all_goals
          have HO2 : Hid (Only X w w2) := HO1.out.trans ho2
          have z2 := HO2.out.size
          clear ho2 k0 k4 k5 k6 q0 q5 q6 eb2 c0 c4 d0 d1 f0
          by_cases he : (remR stk (nameN x.1)).1 = 0
          · have HR : Hid (truncG P (remR stk (nameN x.1)).2 ((y :: r).map Ent.sg) = T) := by
              rw [← HTR.out]
              exact (truncG_on (s := x.sg) (t := y.sg) (r := r.map Ent.sg) hle he).symm
            have HS2 := remR_stp stk (nameN x.1)
            have HSS : Hid ((remR stk (nameN x.1)).2.steps + (y :: r).length ≤ st.steps + g.segs.length) := by
              have := HSP.out
              simp only [List.length_cons] at this ⊢
              have h3 : (remR stk (nameN x.1)).2.steps + (r.length + 1) ≤ st.steps + g.segs.length := by omega
              exact h3
            rw [he]
            obtain ⟨Y3, hL3, hY3, _, hcl⟩ := HI2.out.own (fun k hk => HX.out k (by omega))
            have HL3 : Hid (LogAt w2 Y3 l a { g with segs := (x :: y :: r).map Ent.sg } (some ⟨b, 0, none⟩) cap (x :: y :: r)) := hL3
            have HCL : Hid (∀ w1 g' p' cap' es', LogAt w1 Y3 l a g' p' cap' es' → LgW g' → Only Y3 w2 w1 → IsLogE B w1 X l a (remR stk (nameN x.1)).2 g' p' cap' es' ∧ Only X w2 w1) := hcl
            have HONE : Hid (∀ u ∈ ec (y :: r), u.oneCell' = true) := fun u hu => hL3.one u (by simp only [ec, List.mem_cons] at hu ⊢; exact Or.inr (Or.inr hu))
            clear hL3 hY3 hcl he HS2
            go_wp2_with (first | (go_at_call 72; refine (delete_any w2 b cap x (y :: r) HL3.out.rows (by simp) (by simp only [List.length_cons]; omega) HONE.out).mono ?_; rintro e w3 ⟨rfl, hr3, ho3⟩; (have s4 := (HL3.out.lc.c4)); (have sl : w3.heap[l]? = w2.heap[l]? := ho3.block l HL3.out.lt (fun e => own_ne HL3.out.rows HL3.out.cells (by decide) (by rw [e]; rfl))); (have s5 := cell_at sl s4); (have sf : w3.frozen? ⟨l, 4, none⟩ = false := by rw [World.frozen?_of_block (a := ⟨l, 4, none⟩) sl]; exact HL3.out.lc.fz 4); (have HR3 : Hid (w3.ownsRow 0 100 2 (.slice (some ⟨b, 0, none⟩) (y :: r).length cap) (y :: r).length (ec (y :: r))) := hr3); (have HO3 : Hid (Only (fun k => k = b) w2 w3) := ho3); clear hr3 ho3 sl s4))
            go_roundw
            case rel =>
              obtain ⟨t1, t2⟩ := HL3.out.cut HO3.out HR3.out
              have hw : LgW { { g with segs := (x :: y :: r).map Ent.sg } with segs := (y :: r).map Ent.sg } := HI2.out.ok.tail rfl
              obtain ⟨t3, t4⟩ := HCL.out _ _ _ _ _ t1 hw t2
              exact ⟨_, _, _, y :: r, t3, HO2.out.trans t4, HR.out, HSS.out⟩
            case measure =>
              obtain ⟨t1, t2⟩ := HL3.out.cut HO3.out HR3.out
              have e1 := t1.len
              have e2 := HLEN.out
              rw [e2]
              simp only [List.length_cons] at e1 ⊢
              rw [e1]
              omega
          · have HR : Hid (T = ((remR stk (nameN x.1)).1, (remR stk (nameN x.1)).2, (x :: y :: r).map Ent.sg)) := by
              rw [← HTR.out]
              exact truncG_err (s := x.sg) (t := y.sg) (r := r.map Ent.sg) hle he
            go_wp2
            go_ret
            rw [HR.out]
            exact ⟨rfl, HI2.out.is, HO2.out⟩
      · have HR : Hid (T = (0, stk, (x :: y :: r).map Ent.sg)) := by
          rw [← HTR.out]
          exact truncG_stop (s := x.sg) (t := y.sg) hle
        go_wp2
        go_ret
        rw [HR.out]
        exact ⟨rfl, HI1.out.is, HO1.out⟩
end Go.Proofs.YtckmjmpajbjbkaaGreatDoor
