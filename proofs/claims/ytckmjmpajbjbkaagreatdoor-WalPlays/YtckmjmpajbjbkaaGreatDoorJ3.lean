/- Walks of layer 6, third part: steps of the log's disk; Sync. -/
import Derived.Test.YtckmjmpajbjbkaaGreatDoorJ2
namespace Go.Proofs.YtckmjmpajbjbkaaGreatDoor
open Go.RowKit

theorem dsync_any {B : Nat} {w : World} {X : Nat → Prop} {l a : Nat} {st : St} {g : Lg} {p : Option Addr} {cap : Nat} {es : List Ent} (h : IsLogE B w X l a st g p cap es) (hX : ∀ k, w.heap.size ≤ k → X k) (hst : st.steps < 4611686018427387904) (s : ByteArray) :
    Calls Tryz.prog 70 #[.pointer (some ⟨a, 0, none⟩), .string s] w fun e w' => e = .returned (.int .i64 (synR st s.data.toList).1) ∧ IsLogE B w' X l a (synR st s.data.toList).2 g p cap es ∧ Only X w w' := by
  obtain ⟨Z, h1, h2, h3⟩ := h.disk hX
  refine (sync_any w Z a st s h1 h2 hst).mono ?_
  rintro e w' ⟨rfl, k1, k2⟩
  exact ⟨rfl, h3 w' _ k1 k2⟩
theorem dappend_any {B : Nat} {w : World} {X : Nat → Prop} {l a : Nat} {st : St} {g : Lg} {p : Option Addr} {cap : Nat} {es : List Ent} (h : IsLogE B w X l a st g p cap es) (hX : ∀ k, w.heap.size ≤ k → X k) (hst : st.steps < 4611686018427387904) (s t : ByteArray) :
    Calls Tryz.prog 53 #[.pointer (some ⟨a, 0, none⟩), .string s, .string t] w fun e w' => e = .returned (.int .i64 (appR st s.data.toList t.data.toList).1) ∧ IsLogE B w' X l a (appR st s.data.toList t.data.toList).2 g p cap es ∧ Only X w w' := by
  obtain ⟨Z, h1, h2, h3⟩ := h.disk hX
  refine (append_any w Z a st s t h1 h2 hst).mono ?_
  rintro e w' ⟨rfl, k1, k2⟩
  exact ⟨rfl, h3 w' _ k1 k2⟩
theorem dremove_any {B : Nat} {w : World} {X : Nat → Prop} {l a : Nat} {st : St} {g : Lg} {p : Option Addr} {cap : Nat} {es : List Ent} (h : IsLogE B w X l a st g p cap es) (hX : ∀ k, w.heap.size ≤ k → X k) (hst : st.steps < 4611686018427387904) (s : ByteArray) :
    Calls Tryz.prog 71 #[.pointer (some ⟨a, 0, none⟩), .string s] w fun e w' => e = .returned (.int .i64 (remR st s.data.toList).1) ∧ IsLogE B w' X l a (remR st s.data.toList).2 g p cap es ∧ Only X w w' := by
  obtain ⟨Z, h1, h2, h3⟩ := h.disk hX
  refine (remove_any w Z a st s h1 h2 hst).mono ?_
  rintro e w' ⟨rfl, k1, k2⟩
  exact ⟨rfl, h3 w' _ k1 k2⟩
theorem drename_any {B : Nat} {w : World} {X : Nat → Prop} {l a : Nat} {st : St} {g : Lg} {p : Option Addr} {cap : Nat} {es : List Ent} (h : IsLogE B w X l a st g p cap es) (hX : ∀ k, w.heap.size ≤ k → X k) (hst : st.steps < 4611686018427387904) (s t : ByteArray) :
    Calls Tryz.prog 108 #[.pointer (some ⟨a, 0, none⟩), .string s, .string t] w fun e w' => e = .returned (.int .i64 (renR st s.data.toList t.data.toList).1) ∧ IsLogE B w' X l a (renR st s.data.toList t.data.toList).2 g p cap es ∧ Only X w w' := by
  obtain ⟨Z, h1, h2, h3⟩ := h.disk hX
  refine (rename_any w Z a st s t h1 h2 hst).mono ?_
  rintro e w' ⟨rfl, k1, k2⟩
  exact ⟨rfl, h3 w' _ k1 k2⟩

theorem heap_setCell_at {w : World} {l i : Nat} {cs : Array Value} {t : TypeId} {fr : Nat × Nat} (h : w.heap[l]? = some (.cells cs t fr)) (v : Value) : (w.setCell ⟨l, i, none⟩ v).heap[l]? = some (.cells (cs.setIfInBounds i v) t fr) := by
  simp only [World.setCell, Array.getElem?_modify, if_true, h]
  simp
theorem own_ne {w : World} {B : Nat} {e : TypeId} {size : Nat} {v : Value} {n : Nat} {xs : List Value} (h : w.ownsRow B e size v n xs) {l : Nat} {cs : Array Value} {t : TypeId} {fr : Nat × Nat} (hl : w.heap[l]? = some (.cells cs t fr)) (ht : t ≠ e) : v.ownBlock ≠ some l := by
  intro e1
  obtain ⟨_, ⟨rfl, _⟩ | ⟨b, cap, cur, rfl, _, hg, _⟩⟩ := h
  · cases e1
  · obtain rfl : b = l := by simpa [Value.ownBlock] using e1
    rw [hl] at hg
    simp only [Option.some.injEq, Obj.cells.injEq] at hg
    exact ht hg.2.1
/-- The log's own cells are written. -/
theorem LogAt.stored {w : World} {Y : Nat → Prop} {l a : Nat} {g g' : Lg} {p : Option Addr} {cap : Nat} {es : List Ent} (h : LogAt w Y l a g p cap es) {i : Nat} {v : Value} (hc : (lcells a g (.slice p es.length cap)).setIfInBounds i v = lcells a g' (.slice p es.length cap)) (hs : g'.segs = g.segs) : LogAt (w.setCell ⟨l, i, none⟩ v) Y l a g' p cap es :=
  ⟨by rw [heap_setCell_at h.cells v, hc], h.zl, hs.trans h.segs, ownsRow_setCell_other h.rows (own_ne h.rows h.cells (by decide)) v, h.zs, fun e he => ownsRow_setCell_other (h.recs e he) (own_ne (h.recs e he) h.cells (by decide)) v, h.zr, h.apart⟩

theorem syncL_eq {st : St} {g : Lg} (h : g.safe = g.next) : syncL st g = (0, st, g) := by simp [syncL, h]
theorem syncL_no {st : St} {g : Lg} (h : g.safe ≠ g.next) (h' : (synR st (nameN (lastL g.segs).1)).1 ≠ 0) : syncL st g = ((synR st (nameN (lastL g.segs).1)).1, (synR st (nameN (lastL g.segs).1)).2, g) := by simp [syncL, h, h']
theorem syncL_yes {st : St} {g : Lg} (h : g.safe ≠ g.next) (h' : (synR st (nameN (lastL g.segs).1)).1 = 0) : syncL st g = (0, (synR st (nameN (lastL g.segs).1)).2, { g with safe := g.next }) := by simp [syncL, h, h']

set_option maxHeartbeats 4000000 in
set_option maxRecDepth 100000 in
theorem lsync_any (B : Nat) (w : World) (X : Nat → Prop) (l a : Nat) (st : St) (g : Lg) (h : IsLog B w X l a st g) (hne : g.segs = [] → g.safe = g.next) (hX : ∀ k, w.heap.size ≤ k → X k) (hst : st.steps < 4611686018427387904) :
    Calls Tryz.prog 36 #[.pointer (some ⟨l, 0, none⟩)] w fun e w' => e = .returned (.int .i64 (syncL st g).1) ∧ IsLog B w' X l a (syncL st g).2.1 (syncL st g).2.2 ∧ Only X w w' := by
  obtain ⟨p, cap, es, h⟩ := h
  have HI : Hid (IsLogE B w X l a st g p cap es) := h
  have HX : Hid (∀ k, w.heap.size ≤ k → X k) := hX
  obtain ⟨Y, hL⟩ := h.at
  have hg := h.ok
  have c0 := hL.lc.c0
  have c3 := hL.lc.c3
  have HG : Hid (LgW g) := hg
  by_cases hs : g.safe = g.next
  · have HL : Hid (LogAt w Y l a g p cap es) := hL
    have HE : Hid (syncL st g = (0, st, g)) := syncL_eq hs
    rw [hs] at c3
    clear h hX hL hg hs hne
    go_enter Tryz.func36, Tryz.ntmps36
    go_wp2
    go_region_held3 (fun w' => w'.cell? ⟨l, 3, none⟩ = some (.int .i64 (g.next : Int))) (go_simp) (first
      | (go_at_call 20; refine (next_any _ Y l a g p cap es (HL.out.later (by (repeat (first | exact Below.refl _ _ | assumption | refine Below.drew ?_ | refine below_drewN ?_ _ | refine Below.alloc ?_ (by first | omega | (simp; done) | (simp; omega)) _ | refine Below.setCell ?_ (by first | omega | (simp; done) | (simp; omega)) _ | refine Below.trans ?_ (Below.mono (by assumption) (by first | omega | (simp; done) | (simp; omega))))))) HG.out).mono ?_; rintro e w1 ⟨rfl, hb1⟩; (have c31 := cell_later hb1 c3)))
    all_goals
      go_wp2
      go_ret
      rw [HE.out]
      exact ⟨rfl, (HI.out.later (from_drew hb1)).is, Only.of (from_drew hb1)⟩
  · rcases List.eq_nil_or_concat es with rfl | ⟨A, x, rfl⟩
    · have e := hL.segs
      exact absurd (hne e) hs
    · rw [List.concat_eq_append] at *
      have hsi : ¬ (g.safe : Int) = (g.next : Int) := by omega
      obtain ⟨hx1, hx2, hA⟩ := hL.lastok hg
      obtain ⟨b, rfl, _, _, _, d0, d1, _, c4⟩ := hL.last
      obtain ⟨q, c, eq, _⟩ := own_slice (hL.recs x (by simp))
      have HL : Hid (LogAt w Y l a g (some ⟨b, 0, none⟩) cap (A ++ [x])) := hL
      have hlast : lastL g.segs = (x.1, x.2.1) := hL.next.2.1
      have HQ : Hid (x.2.2 = .slice q x.2.1.length c) := eq
      rw [eq] at d1
      clear eq
      have hN : SV B w := h.lib
      have HN : Hid (∀ w', Below w.heap.size w w' → SV0 w') := fun w' hb => (hN.later h.base hb).here
      have HY : Hid (∀ (h' : (synR st (nameN x.1)).1 ≠ 0), syncL st g = ((synR st (nameN x.1)).1, (synR st (nameN x.1)).2, g)) := fun h' => by
        have := syncL_no hs (by rw [hlast]; exact h')
        rw [hlast] at this
        exact this
      have HZ : Hid (∀ (h' : (synR st (nameN x.1)).1 = 0), syncL st g = (0, (synR st (nameN x.1)).2, { g with safe := g.next })) := fun h' => by
        have := syncL_yes hs (by rw [hlast]; exact h')
        rw [hlast] at this
        exact this
      clear h hX hL hg hs hlast hN hne
      go_enter Tryz.func36, Tryz.ntmps36
      go_wp2
      go_region_held3 (fun w' => w'.cell? ⟨l, 3, none⟩ = some (.int .i64 (g.safe : Int))) (go_simp) (first
        | (go_at_call 20; refine (next_any _ Y l a g _ cap _ (HL.out.later (by (repeat (first | exact Below.refl _ _ | assumption | refine Below.drew ?_ | refine below_drewN ?_ _ | refine Below.alloc ?_ (by first | omega | (simp; done) | (simp; omega)) _ | refine Below.setCell ?_ (by first | omega | (simp; done) | (simp; omega)) _ | refine Below.trans ?_ (Below.mono (by assumption) (by first | omega | (simp; done) | (simp; omega))))))) HG.out).mono ?_; rintro e w1 ⟨rfl, hb1⟩; (have c31 := cell_later hb1 c3)))
      all_goals
        have k0 := cell_later hb1 c0
        have k4 := cell_later hb1 c4
        have k5 := cell_later hb1 d0
        have k6 := cell_later hb1 d1
        have HB1 : Hid (Below w.heap.size w w1) := from_drew hb1
        clear hb1 c0 c3 c4 d0 d1 c31
        go_wp2
        go_region_held3 (fun w' => w'.cell? ⟨l, 0, none⟩ = some (.pointer (some ⟨a, 0, none⟩)) ∧ w'.cell? ⟨b, A.length * 2, none⟩ = some (.int .i64 (x.1 : Int)) ∧ w'.cell? ⟨b, A.length * 2 + 1, none⟩ = some (.slice q x.2.1.length c)) (go_simp) (first
          | (go_at_call 54; refine (last_any _ l b A.length cap (by exact k4) hA).mono ?_; rintro e w2 ⟨rfl, hb2⟩; (have m0 := cell_later hb2 k0); (have m5 := cell_later hb2 k5); (have m6 := cell_later hb2 k6); (have HB2 : Hid (Below w.heap.size w w2) := HB1.out.trans ((from_drew hb2).mono HB1.out.size)); clear hb2)
          | (go_at_call 55; refine (name_any x.1 x.2.1.length c q _ (HN.out _ HB2.out) hx1).mono ?_; rintro e w3 ⟨rfl, hb3⟩; (have n0 := cell_later hb3 m0); (have n5 := cell_later hb3 m5); (have n6 := cell_later hb3 m6); (have HB3 : Hid (Below w.heap.size w w3) := HB2.out.trans (hb3.mono HB2.out.size)); clear hb3)
          | (go_at_call 70; refine (dsync_any (HI.out.later HB3.out) (fun k hk => HX.out k (Nat.le_trans HB3.out.size hk)) hst ⟨(nameN x.1).toArray⟩).mono ?_; rintro e w4 ⟨rfl, hi4, ho4⟩; simp only at hi4 ⊢; (have HI4 : Hid (IsLogE B w4 X l a (synR st (nameN x.1)).2 g (some ⟨b, 0, none⟩) cap (A ++ [x])) := hi4); (obtain ⟨Y4, hL4⟩ := hi4.at); (have q0 := hL4.lc.c0); (obtain ⟨b', eb, _, _, _, q5, q6, _⟩ := hL4.last); (obtain rfl : b = b' := by simpa using eb); rw [HQ.out] at q6; clear hi4 hL4))
        all_goals
          have hwx : ∀ k, w4.heap.size ≤ k → X k := fun k hk => HX.out k (Nat.le_trans HB3.out.size (Nat.le_trans ho4.size hk))
          have HO4 : Hid (Only X w w4) := (Only.of HB3.out).trans ho4
          have HX4 : Hid (∀ k, w4.heap.size ≤ k → X k) := hwx
          clear hwx ho4 k0 k4 k5 k6 m0 m5 m6 n0 n5 n6 q0 q5 q6 eb
          by_cases he : (synR st (nameN x.1)).1 = 0
          · have HE := HZ.out he
            obtain ⟨Y4, hL4, hY4, _, hown⟩ := HI4.out.own HX4.out
            have HL4 : Hid (LogAt w4 Y4 l a g (some ⟨b, 0, none⟩) cap (A ++ [x])) := hL4
            have HO : Hid (∀ w1 g' p' cap' es', LogAt w1 Y4 l a g' p' cap' es' → LgW g' → Only Y4 w4 w1 → IsLogE B w1 X l a (synR st (nameN x.1)).2 g' p' cap' es' ∧ Only X w4 w1) := hown
            clear hL4 hown hY4
            rw [he]
            go_wp2_with (first | (go_at_call 20; refine (next_any _ Y4 l a g _ cap _ HL4.out HG.out).mono ?_; rintro e w5 ⟨rfl, hb5⟩; (have s3 := (HL4.out.later hb5).lc.c3); (have sf := (HL4.out.later hb5).lc.fz)))
            go_ret
            rw [HE]
            have hl := (HL4.out.later hb5).stored (i := 3) (v := .int .i64 (g.next : Int)) (g' := { g with safe := g.next }) (by simp [lcells]) rfl
            obtain ⟨r1, r2⟩ := HO.out _ _ _ _ _ hl (HG.out.synced _) ((Only.of hb5).setCell (p := ⟨l, 3, none⟩) HL4.out.zl _)
            exact ⟨rfl, r1.is, HO4.out.trans r2⟩
          · have HE := HY.out he
            go_wp2
            go_ret
            rw [HE]
            exact ⟨rfl, HI4.out.is, HO4.out⟩
end Go.Proofs.YtckmjmpajbjbkaaGreatDoor
