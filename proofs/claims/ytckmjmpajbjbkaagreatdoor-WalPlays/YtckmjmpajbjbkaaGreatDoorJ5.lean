/- Walks of layer 6, fifth part: what a record more, a segment more, leave in memory; begin. -/
import Derived.Test.YtckmjmpajbjbkaaGreatDoorJ4
namespace Go.Proofs.YtckmjmpajbjbkaaGreatDoor
open Go.RowKit

/-- A log whose own memory is being written: what is written last closes it. -/
def Opened (B : Nat) (w0 W : World) (X : Nat → Prop) (l a : Nat) (st : St) (g : Lg) (p : Option Addr) (cap : Nat) (es : List Ent) : Prop :=
  ∃ Y : Nat → Prop, LogAt W Y l a g p cap es ∧ (∀ k, W.heap.size ≤ k → Y k) ∧ (∀ k, Y k → X k) ∧ Only X w0 W ∧ ∀ w1 g' p' cap' es', LogAt w1 Y l a g' p' cap' es' → LgW g' → Only Y W w1 → IsLogE B w1 X l a st g' p' cap' es' ∧ Only X w0 w1
theorem IsLogE.opened {B : Nat} {w0 w : World} {X : Nat → Prop} {l a : Nat} {st : St} {g : Lg} {p : Option Addr} {cap : Nat} {es : List Ent} (h : IsLogE B w X l a st g p cap es) (hX : ∀ k, w.heap.size ≤ k → X k) (ho : Only X w0 w) : Opened B w0 w X l a st g p cap es := by
  obtain ⟨Y, h1, h2, h4, h3⟩ := h.own hX
  refine ⟨Y, h1, h2, h4, ho, fun w1 g' p' cap' es' k1 k2 k3 => ?_⟩
  obtain ⟨r1, r2⟩ := h3 w1 g' p' cap' es' k1 k2 k3
  exact ⟨r1, ho.trans r2⟩
theorem Opened.step {B : Nat} {w0 W : World} {X : Nat → Prop} {l a : Nat} {st : St} {g : Lg} {p : Option Addr} {cap : Nat} {es : List Ent} (h : Opened B w0 W X l a st g p cap es) :
    ∃ Y : Nat → Prop, LogAt W Y l a g p cap es ∧ (∀ k, W.heap.size ≤ k → Y k) ∧ (∀ w1 g' p' cap' es', LogAt w1 Y l a g' p' cap' es' → Only Y W w1 → Opened B w0 w1 X l a st g' p' cap' es') ∧ (∀ w1 g' p' cap' es', LogAt w1 Y l a g' p' cap' es' → LgW g' → Only Y W w1 → IsLogE B w1 X l a st g' p' cap' es' ∧ Only X w0 w1) := by
  obtain ⟨Y, h1, h2, h4, h5, h3⟩ := h
  exact ⟨Y, h1, h2, fun w1 g' p' cap' es' k1 k2 => ⟨Y, k1, fun k hk => h2 k (Nat.le_trans k2.size hk), h4, h5.trans (k2.mono h4), fun w2 g2 p2 cap2 es2 m1 m2 m3 => h3 w2 g2 p2 cap2 es2 m1 m2 (k2.trans m3)⟩, h3⟩
theorem Opened.at {B : Nat} {w0 W : World} {X : Nat → Prop} {l a : Nat} {st : St} {g : Lg} {p : Option Addr} {cap : Nat} {es : List Ent} (h : Opened B w0 W X l a st g p cap es) : ∃ Y, LogAt W Y l a g p cap es := by
  obtain ⟨Y, h1, _⟩ := h
  exact ⟨Y, h1⟩
theorem Opened.only {B : Nat} {w0 W : World} {X : Nat → Prop} {l a : Nat} {st : St} {g : Lg} {p : Option Addr} {cap : Nat} {es : List Ent} (h : Opened B w0 W X l a st g p cap es) : Only X w0 W := by
  obtain ⟨Y, _, _, _, h5, _⟩ := h
  exact h5

theorem own_grown {W w1 : World} {B : Nat} {e : TypeId} {size : Nat} {v u : Value} {n : Nat} {xs : List Value} (h : W.ownsRow B e size v n xs) (hg : W.grownBy w1 u.ownBlock) (hne : ∀ b, v.ownBlock = some b → u.ownBlock ≠ some b) : w1.ownsRow B e size v n xs :=
  own_kept h fun b hb => hg.block b (h.lt b hb).2 (fun e => hne b hb e.symm)
theorem pair_snoc {α : Type} {R : α → α → Prop} {A : List α} {x : α} : (A ++ [x]).Pairwise R ↔ A.Pairwise R ∧ ∀ y ∈ A, R y x := by
  rw [List.pairwise_append]
  simp

/-- A record more in the last segment. -/
theorem LogAt.pushed {W W1 W2 : World} {Y : Nat → Prop} {l a b cap : Nat} {g : Lg} {A : List Ent} {x : Ent} (h : LogAt W Y l a g (some ⟨b, 0, none⟩) cap (A ++ [x])) (hY : ∀ k, W.heap.size ≤ k → Y k) (h1 : Below W.heap.size W W1) (hg : W1.grownBy W2 x.2.2.ownBlock) {q : Option Addr} {n c : Nat} {d : List UInt8} (hn : n = x.2.1.length + 1)
    (ho : W2.ownsRow 0 9 1 (.slice q n c) n (sv (x.2.1 ++ [d]))) (hb : ∀ k, (Value.slice q n c).ownBlock = some k → x.2.2.ownBlock = some k ∨ W1.heap.size ≤ k) :
    LogAt (W2.setCell ⟨b, A.length * 2 + 1, none⟩ (.slice q n c)) Y l a { g with segs := putS g.segs d } (some ⟨b, 0, none⟩) cap (A ++ [(x.1, x.2.1 ++ [d], .slice q n c)]) ∧ Only Y W (W2.setCell ⟨b, A.length * 2 + 1, none⟩ (.slice q n c)) := by
  have hL := h.later h1
  have hs1 := h1.size
  have hx := hL.recs x (by simp)
  have hrow := hL.rows
  obtain ⟨hap, hax⟩ := pair_snoc.1 h.apart
  have e2 := h.next.2.2
  have hlen : (A ++ [(x.1, x.2.1 ++ [d], Value.slice q n c)]).length = (A ++ [x]).length := by simp
  have kl : W2.heap[l]? = W1.heap[l]? := hg.block l hL.lt (fun e => own_ne hx hL.cells (by decide) e.symm)
  have hseg : W2.ownsRow 0 100 2 (.slice (some ⟨b, 0, none⟩) (A ++ [x]).length cap) (A ++ [x]).length (ec (A ++ [x])) := own_grown hrow hg fun k hk => own_apart hrow hx (by decide) hk
  have hst := hseg.stored (A.length * 2 + 1) (.slice q n c)
  rw [ec_set] at hst
  have hbb : (Value.slice (some (⟨b, 0, none⟩ : Addr)) (A ++ [x]).length cap).ownBlock = some b := rfl
  refine ⟨⟨?_, h.zl, ?_, ?_, ?_, fun e he => ?_, fun e he k hk => ?_, ?_⟩, ?_⟩
  · have hne : l ≠ b := fun e => own_ne hrow hL.cells (by decide) (by rw [hbb, e])
    rw [hlen]
    exact (Below.heap_setCell _ _ _ _ hne).trans (kl.trans hL.cells)
  · simp only [e2, putS_snoc]
    simp [Ent.sg]
  · have e3 : ec (A ++ [(x.1, x.2.1 ++ [d], Value.slice q n c)]) = ec (A ++ [(x.1, x.2.1, Value.slice q n c)]) := by rw [ec_append, ec_append]; rfl
    rw [hlen, e3]
    exact hst.1
  · rw [hlen]
    exact h.zs
  · rcases List.mem_append.1 he with he | he
    · have hr := hL.recs e (by simp [he])
      have hr2 := own_grown hr hg fun k hk => hax e he k hk
      exact ownsRow_setCell_other hr2 (fun q' => own_apart hseg hr2 (by decide) hbb q') _
    · obtain rfl : e = (x.1, x.2.1 ++ [d], Value.slice q n c) := by simpa using he
      have hl2 : (x.2.1 ++ [d]).length = n := by rw [hn]; simp
      simp only [hl2]
      exact ownsRow_setCell_other ho (fun q' => own_apart hseg ho (by decide) hbb q') _
  · rcases List.mem_append.1 he with he | he
    · exact h.zr e (by simp [he]) k hk
    · obtain rfl : e = (x.1, x.2.1 ++ [d], Value.slice q n c) := by simpa using he
      rcases hb k hk with hk | hk
      · exact h.zr x (by simp) k hk
      · exact hY k (by omega)
  · refine pair_snoc.2 ⟨hap, fun e he k hk hk' => ?_⟩
    simp only at hk'
    rcases hb k hk' with hk' | hk'
    · exact hax e he k hk hk'
    · have := ((h.recs e (by simp [he])).lt k hk).2
      omega
  · exact ((Only.of h1).grown hg fun k hk => h.zr x (by simp) k hk).setCell (p := ⟨b, A.length * 2 + 1, none⟩) (h.zs b rfl) _

/-- A segment more. -/
theorem LogAt.more {W W1 W2 : World} {Y : Nat → Prop} {l a cap : Nat} {g : Lg} {p : Option Addr} {es : List Ent} (h : LogAt W Y l a g p cap es) (hY : ∀ k, W.heap.size ≤ k → Y k) (h1 : Below W.heap.size W W1) (hg : W1.grownBy W2 (Value.slice p es.length cap).ownBlock) {p' : Option Addr} {cap' q : Nat}
    (ho : W2.ownsRow 0 100 2 (.slice p' (es.length + 1) cap') (es.length + 1) (ec es ++ ec [(q, [], .slice none 0 0)])) (hb : ∀ k, (Value.slice p' (es.length + 1) cap').ownBlock = some k → (Value.slice p es.length cap).ownBlock = some k ∨ W1.heap.size ≤ k) :
    LogAt (W2.setCell ⟨l, 4, none⟩ (.slice p' (es.length + 1) cap')) Y l a { g with segs := g.segs ++ [(q, [])] } p' cap' (es ++ [(q, [], .slice none 0 0)]) ∧ Only Y W (W2.setCell ⟨l, 4, none⟩ (.slice p' (es.length + 1) cap')) := by
  have hL := h.later h1
  have hs1 := h1.size
  have hrow := hL.rows
  have kl : W2.heap[l]? = W1.heap[l]? := hg.block l hL.lt (fun e => own_ne hrow hL.cells (by decide) e.symm)
  have hlen : (es ++ [(q, [], Value.slice none 0 0)]).length = es.length + 1 := by simp
  refine ⟨⟨?_, h.zl, ?_, ?_, ?_, fun e he => ?_, fun e he k hk => ?_, ?_⟩, ?_⟩
  · rw [hlen, heap_setCell_at (kl.trans hL.cells)]
    simp [lcells]
  · simp only [h.segs, List.map_append]
    rfl
  · rw [hlen, ec_append]
    exact ownsRow_setCell_other ho (own_ne ho (kl.trans hL.cells) (by decide)) _
  · intro k hk
    rw [hlen] at hk
    rcases hb k hk with hk | hk
    · exact h.zs k hk
    · exact hY k (by omega)
  · rcases List.mem_append.1 he with he | he
    · have hr := hL.recs e he
      have hr2 := own_grown hr hg fun k hk => own_apart hr hrow (by decide) hk
      exact ownsRow_setCell_other hr2 (own_ne hr2 (kl.trans hL.cells) (by decide)) _
    · obtain rfl : e = (q, [], Value.slice none 0 0) := by simpa using he
      exact World.ownsRow_nil _ _ _ _
  · rcases List.mem_append.1 he with he | he
    · exact h.zr e he k hk
    · obtain rfl : e = (q, [], Value.slice none 0 0) := by simpa using he
      cases hk
  · exact pair_snoc.2 ⟨h.apart, fun e he k hk hk' => by cases hk'⟩
  · exact ((Only.of h1).grown hg fun k hk => h.zs k hk).setCell (p := ⟨l, 4, none⟩) h.zl _

/-- A step of the disk at a later world: what was laid since stays. -/
theorem IsLogE.mono {B : Nat} {w : World} {X X' : Nat → Prop} {l a : Nat} {st : St} {g : Lg} {p : Option Addr} {cap : Nat} {es : List Ent} (h : IsLogE B w X l a st g p cap es) (hx : ∀ k, k < w.heap.size → X k → X' k) (hB : ∀ k, X' k → B ≤ k) : IsLogE B w X' l a st g p cap es := by
  obtain ⟨h0, h1, h2, h3, Z, Y, k1, k2, k3, k4, k5⟩ := h
  exact ⟨h0, h1, hB, h3, fun k => Z k ∧ k < w.heap.size, fun k => Y k ∧ k < w.heap.size, k1.mono fun k hk hz => ⟨hz, hk⟩, k2.mono fun k hk hz => ⟨hz, hk⟩, fun k e e' => k3 k e.1 e'.1, fun k hk => hx k hk.2 (k4 k hk.1), fun k hk => hx k hk.2 (k5 k hk.1)⟩
theorem dappend_later {B : Nat} {w W : World} {X : Nat → Prop} {l a : Nat} {st : St} {g : Lg} {p : Option Addr} {cap : Nat} {es : List Ent} (h : IsLogE B w X l a st g p cap es) (hX : ∀ k, w.heap.size ≤ k → X k) (hb : Below w.heap.size w W) (hst : st.steps < 4611686018427387904) (s t : ByteArray) :
    Calls Tryz.prog 53 #[.pointer (some ⟨a, 0, none⟩), .string s, .string t] W fun e w' => e = .returned (.int .i64 (appR st s.data.toList t.data.toList).1) ∧ IsLogE B w' X l a (appR st s.data.toList t.data.toList).2 g p cap es ∧ Only X w w' ∧ ∀ k, w.heap.size ≤ k → k < W.heap.size → w'.heap[k]? = W.heap[k]? := by
  have hz := h.zone
  have hsz := hb.size
  have h0 := h.base
  have h1 : IsLogE B w (fun k => (X k ∧ k < w.heap.size) ∨ W.heap.size ≤ k) l a st g p cap es := h.mono (fun k hk hx => Or.inl ⟨hx, hk⟩) fun k hk => by
    rcases hk with hk | hk
    · exact hz k hk.1
    · omega
  refine (dappend_any (h1.later hb) (fun k hk => Or.inr hk) hst s t).mono ?_
  rintro e w' ⟨rfl, k1, k2⟩
  have hsub : ∀ k, (X k ∧ k < w.heap.size) ∨ W.heap.size ≤ k → X k := fun k hk => by
    rcases hk with hk | hk
    · exact hk.1
    · exact hX k (by omega)
  refine ⟨rfl, k1.mono (fun k _ hk => hsub k hk) hz, (Only.of hb).trans (k2.mono hsub), fun k hk hk' => k2.block k hk' fun e => ?_⟩
  rcases e with e | e <;> omega
theorem lc_of {w : World} {l a : Nat} {g : Lg} {v : Value} (e : w.heap[l]? = some (.cells (lcells a g v) 91 (0, 0))) : LCells w l a g v := by
  refine ⟨?_, ?_, ?_, ?_, ?_, fun o => ?_⟩ <;> simp [World.cell?, World.frozen?, e, lcells]
theorem LogAt.grown_lc {W W1 W2 : World} {Y : Nat → Prop} {l a cap : Nat} {g : Lg} {p : Option Addr} {es : List Ent} (h : LogAt W Y l a g p cap es) (h1 : Below W.heap.size W W1) (hg : W1.grownBy W2 (Value.slice p es.length cap).ownBlock) : LCells W2 l a g (.slice p es.length cap) := by
  have hL := h.later h1
  exact lc_of ((hg.block l hL.lt (fun e => own_ne hL.rows hL.cells (by decide) e.symm)).trans hL.cells)
theorem LogAt.seg_kept {W W1 W2 : World} {Y : Nat → Prop} {l a b cap : Nat} {g : Lg} {A : List Ent} {x : Ent} (h : LogAt W Y l a g (some ⟨b, 0, none⟩) cap (A ++ [x])) (h1 : Below W.heap.size W W1) (hg : W1.grownBy W2 x.2.2.ownBlock) : W2.cell? ⟨b, A.length * 2 + 1, none⟩ = some x.2.2 ∧ ∀ o, W2.frozen? ⟨b, o, none⟩ = false := by
  have hL := h.later h1
  have hseg := own_grown hL.rows hg fun k hk => own_apart hL.rows (hL.recs x (by simp)) (by decide) hk
  refine ⟨(hseg.cellAt _ (by simp; omega)).trans ?_, fun o => hseg.frozenAt o⟩
  rw [ec_at1 _ A.length (by simp)]
  simp
theorem Tryz.infoSeg : (Tryz.prog.info? 100).map (fun i => (i.zero, i.size, i.bytes)) = some (some (.agg #[.int .i64 0, .slice none 0 0]), 2, 32) := by kernel_rfl
theorem seg_cells (w : World) (q : Nat) (v : Value) (t : TypeId) : ∀ j u, (ec [(q, [], v)])[j]? = some u → (w.alloc (.cells #[.int .i64 (q : Int), v] t)).cell? ((⟨w.heap.size, 0, none⟩ : Addr).add j) = some u := by
  intro j u hj
  match j, hj with
  | 0, hj => simp [ec] at hj; subst hj; simp [Addr.add]
  | 1, hj => simp [ec] at hj; subst hj; simp [Addr.add]

/-- What begin leaves. -/
def BeginP (B : Nat) (w : World) (X : Nat → Prop) (l a : Nat) (st : St) (g : Lg) (es : List Ent) (q : Nat) (t : List UInt8) (e : Ending) (w' : World) : Prop :=
  e = .returned (.int .i64 (appR st (nameN q) t).1) ∧ Only X w w' ∧ ((appR st (nameN q) t).1 ≠ 0 → IsLog B w' X l a (appR st (nameN q) t).2 g) ∧
  ((appR st (nameN q) t).1 = 0 → ∃ b cap', Opened B w w' X l a (appR st (nameN q) t).2 { g with segs := g.segs ++ [(q, [])] } (some ⟨b, 0, none⟩) cap' (es ++ [(q, [], .slice none 0 0)]))

set_option maxHeartbeats 4000000 in
set_option maxRecDepth 100000 in
theorem begin_any (B : Nat) (w : World) (X : Nat → Prop) (l a : Nat) (st : St) (g : Lg) (p : Option Addr) (cap : Nat) (es : List Ent) (h : IsLogE B w X l a st g p cap es) (hX : ∀ k, w.heap.size ≤ k → X k) (hst : st.steps < 4611686018427387904) (q : Nat) (hq : q < 1000000000000) (t : ByteArray) :
    Calls Tryz.prog 56 #[.pointer (some ⟨l, 0, none⟩), .int .i64 (q : Int), .string t] w (BeginP B w X l a st g es q t.data.toList) := by
  obtain ⟨i0, hi, hz0, hz1, hz2⟩ := info_parts Tryz.infoSeg
  have HI : Hid (IsLogE B w X l a st g p cap es) := h
  have HX : Hid (∀ k, w.heap.size ≤ k → X k) := hX
  obtain ⟨Y, hL⟩ := h.at
  have c0 := hL.lc.c0
  have hlt := hL.lt
  have hm := hL.many h.ok
  have HN : Hid (∀ w', Below w.heap.size w w' → SV0 w') := fun w' hb => (h.lib.later h.base hb).here
  clear h hX hL
  go_enter Tryz.func56, Tryz.ntmps56
  go_wp2
  obtain ⟨o, ho⟩ : ∃ o, o = Obj.cells #[Value.int IntKind.i64 (q : Int), Value.slice none 0 0] 100 (0, 0) := ⟨_, rfl⟩
  have HW : Hid (Below w.heap.size w (w.alloc (.cells #[.int .i64 (q : Int), .slice none 0 0] 100)).drew) := ((Below.refl _ _).alloc (Nat.le_refl _) _).drew
  have b0 := cell_later HW.out c0
  have b1 : (w.alloc (.cells #[.int .i64 (q : Int), .slice none 0 0] 100)).drew.cell? ⟨w.heap.size, 0, none⟩ = some (.int .i64 (q : Int)) := by simp
  have b2 : (w.alloc (.cells #[.int .i64 (q : Int), .slice none 0 0] 100)).drew.cell? ⟨w.heap.size, 1, none⟩ = some (.slice none 0 0) := by simp
  clear c0 ho o
  go_region_held3 (fun w' => w'.cell? ⟨l, 0, none⟩ = some (.pointer (some ⟨a, 0, none⟩)) ∧ w'.cell? ⟨w.heap.size, 0, none⟩ = some (.int .i64 (q : Int)) ∧ w'.cell? ⟨w.heap.size, 1, none⟩ = some (.slice none 0 0)) (go_simp) (first
    | (go_at_call 55; refine (name_any q 0 0 none _ (HN.out _ HW.out) hq).mono ?_; rintro e w1 ⟨rfl, hb1⟩; (have k0 := cell_later hb1 b0); (have k1 := cell_later hb1 b1); (have k2 := cell_later hb1 b2); (have hs1 : w.heap.size < w1.heap.size := by have := hb1.size; simp at this; omega); (have HB1 : Hid (Below w.heap.size w w1) := HW.out.trans (hb1.mono HW.out.size)); clear hb1)
    | (go_at_call 53; refine (dappend_later HI.out HX.out HB1.out hst ⟨(nameN q).toArray⟩ t).mono ?_; rintro e w2 ⟨rfl, hi2, ho2, hk2⟩; simp only at hi2 ⊢; (have HI2 : Hid (IsLogE B w2 X l a (appR st (nameN q) t.data.toList).2 g p cap es) := hi2); (obtain ⟨Y2, hL2⟩ := hi2.at); (have q0 := hL2.lc.c0); (have q1 := cell_at (hk2 w.heap.size (Nat.le_refl _) hs1) k1); (have q2 := cell_at (hk2 w.heap.size (Nat.le_refl _) hs1) k2); clear hi2 hL2 hk2))
  all_goals
    have HO2 : Hid (Only X w w2) := ho2
    have hs2 := ho2.size
    clear ho2 b0 b1 b2 k0 k1 k2 q0
    by_cases he : (appR st (nameN q) t.data.toList).1 = 0
    · rw [he]
      obtain ⟨Y3, hL3, hY3, hop, _⟩ := (HI2.out.opened (fun k hk => HX.out k (by omega)) HO2.out).step
      have HL3 : Hid (LogAt w2 Y3 l a g p cap es) := hL3
      have HY3 : Hid (∀ k, w2.heap.size ≤ k → Y3 k) := hY3
      have HOP : Hid (∀ w1 g' p' cap' es', LogAt w1 Y3 l a g' p' cap' es' → Only Y3 w2 w1 → Opened B w w1 X l a (appR st (nameN q) t.data.toList).2 g' p' cap' es') := hop
      have c4 := hL3.lc.c4
      have hlt2 := hL3.lt
      clear hL3 hY3 hop
      go_wp2
      go_region_law (first
        | (refine step_append_lies _ rfl _ _ 89 rfl 0 100 i0 _ 2 32 Tryz.underlying89 hi hz0 hz1 hz2 rfl (by decide) (.slice p es.length cap) es.length (ec es) rfl (HL3.out.rows.alloc _) ⟨w2.heap.size, 0, none⟩ 1 1 (ec [(q, [], .slice none 0 0)]) rfl rfl (seg_cells _ q _ _) (by simp [ec, Value.oneCell']) (by decide) (by unfold maxLen; omega) (by omega) (Nat.zero_le _) _ rfl ?_; intro g' cap' w3 hown' hgrow hor hlt3; (have s4 := (HL3.out.grown_lc (((Below.refl _ _).drew).alloc (by simp) _) hgrow).c4); (have sf := (HL3.out.grown_lc (((Below.refl _ _).drew).alloc (by simp) _) hgrow).fz)))
      all_goals
        go_wp2
        go_ret
        obtain ⟨r1, r2⟩ := HL3.out.more HY3.out (((Below.refl _ _).drew).alloc (by simp) _) hgrow hown' (fun k hk => by
          obtain rfl : g' = k := by simpa [Value.ownBlock] using hk
          rcases hor with hor | hor
          · exact Or.inl hor
          · right
            rw [hor]
            simp)
        have r3 := HOP.out _ _ _ _ _ r1 r2
        exact ⟨by rw [he]; rfl, r3.only, fun e => absurd he e, fun _ => ⟨g', cap', r3⟩⟩
    · go_wp2
      go_ret
      exact ⟨rfl, HO2.out, fun _ => HI2.out.is, fun e => absurd e he⟩
end Go.Proofs.YtckmjmpajbjbkaaGreatDoor
