/- Walks of layer 19: the program's Ask. -/
import Derived.Test.YtefdhmdkcpgfcaaIK
namespace Go.Proofs.Ytefdhmdkcpgfcaa
open Go.RowKit
theorem PT9.same9 {w w' : World} {B : Nat} {Z : Nat → Prop} {t : Nat} {T : Tb9} (h : PT9 w B Z t T) (hb : Below w.heap.size w w') : PP9 PT9 w B Z t T w' := ⟨Only.of hb, Z, h.later hb, fun _ hk => Or.inl hk⟩
theorem prow_off {w : World} {t n : Nat} {v0 : Value} {cs : Array Value} {xs : List Value} (q3 : w.ownsRow 0 68 2 v0 n xs) (hbox : w.heap[t]? = some (.cells cs 58 (0, 0))) : v0.ownBlock ≠ some t := fun e => by
  obtain ⟨cur, hc⟩ := own_block q3 e
  rw [hbox] at hc
  simp only [Option.some.injEq, Obj.cells.injEq] at hc
  exact absurd hc.2.1 (by decide)
/-- The table behind an Ask that was taken. -/
theorem PT9.asked {w w2 w5 : World} {B : Nat} {Z : Nat → Prop} {t : Nat} {T : Tb9} (h : PT9 w B Z t T) {v0 : Value} (hbox : w.heap[t]? = some (.cells #[v0, .int .i64 T.last] 58 (0, 0))) {qs : List (Pl9 × List Value)} (q1 : qs.map (·.1) = T.ps) (q2 : ∀ p ∈ qs, PlO w Z p.1 p.2 ∧ p.2.length = 2) (q3 : w.ownsRow 0 68 2 v0 T.ps.length (qs.flatMap (·.2))) (q4 : ∀ g, v0.ownBlock = some g → Z g)
    (hb2 : Below w.heap.size w w2) {vo : Value} {l : List Lk} {pos : Int} (ho : OwnR 4 23 LkR w2 w.heap.size vo l) {o : Obj} {g cap : Nat} (hown : w5.ownsRow 0 68 2 (.slice (some ⟨g, 0, none⟩) (T.ps.length + 1) cap) (T.ps.length + 1) (qs.flatMap (·.2) ++ [.int .i64 pos, vo])) (hg : (w2.alloc o).grownBy w5 v0.ownBlock) (hor : v0.ownBlock = some g ∨ g = (w2.alloc o).heap.size) : PP9 PT9 w B Z t ⟨T.ps ++ [⟨pos, l⟩], pos⟩ ((w5.setCell ⟨t, 0, none⟩ (.slice (some ⟨g, 0, none⟩) (T.ps.length + 1) cap)).setCell ⟨t, 1, none⟩ (.int .i64 pos)) := by
  have hs2 := hb2.size
  have hs3 : (w2.alloc o).heap.size = w2.heap.size + 1 := World.size_alloc _ _
  have hs5 := hg.size
  have htl := (h.lies t h.tz).2
  have hg5 := (hown.lt g rfl).2
  have hlow : ∀ k, k < w.heap.size → v0.ownBlock ≠ some k → w5.heap[k]? = w.heap[k]? := fun k hk hn => (hg.block k (by omega) fun e => hn e.symm).trans ((alloc_low (by omega)).trans (hb2.block k hk))
  have htn := prow_off q3 hbox
  have ht5 : w5.heap[t]? = some (.cells #[v0, .int .i64 T.last] 58 (0, 0)) := (hlow t htl htn).trans hbox
  have hgt : g ≠ t := fun e => by
    obtain ⟨cur, hc⟩ := own_block hown (g := g) rfl
    rw [e, ht5] at hc
    simp only [Option.some.injEq, Obj.cells.injEq] at hc
    exact absurd hc.2.1 (by decide)
  obtain ⟨W, hW⟩ : ∃ W, (w5.setCell ⟨t, 0, none⟩ (.slice (some ⟨g, 0, none⟩) (T.ps.length + 1) cap)).setCell ⟨t, 1, none⟩ (.int .i64 pos) = W := ⟨_, rfl⟩
  have hWo : ∀ k, k ≠ t → W.heap[k]? = w5.heap[k]? := fun k hk => by
    rw [← hW]
    exact (Below.heap_setCell _ _ _ _ fun e => hk e).trans (Below.heap_setCell _ _ _ _ fun e => hk e)
  have hWt : W.heap[t]? = some (.cells #[.slice (some ⟨g, 0, none⟩) (T.ps.length + 1) cap, .int .i64 pos] 58 (0, 0)) := by
    rw [← hW]
    have := heap_setCell_at (heap_setCell_at ht5 (.slice (some ⟨g, 0, none⟩) (T.ps.length + 1) cap) (i := 0)) (.int .i64 pos) (i := 1)
    simpa using this
  have hWs : W.heap.size = w5.heap.size := by rw [← hW]; simp [World.setCell]
  have hWos : W.os = w.os ∧ W.tape = w.tape ∧ W.output = w.output := by
    rw [← hW]
    exact ⟨hg.os.trans hb2.os, hg.tape.trans hb2.tape, hg.output.trans hb2.output⟩
  rw [hW]
  have hlock : ∀ (k : Nat) (cur : Array Value), w.heap[k]? = some (.cells cur 23 (0, 0)) → W.heap[k]? = w.heap[k]? := fun k cur hc => by
    have hk := (Array.getElem?_eq_some_iff.1 hc).1
    refine (hWo k fun e => ?_).trans (hlow k hk fun e => ?_)
    · rw [e, hbox] at hc
      simp only [Option.some.injEq, Obj.cells.injEq] at hc
      exact absurd hc.2.1 (by decide)
    · obtain ⟨cur', hc'⟩ := own_block q3 e
      rw [hc] at hc'
      simp only [Option.some.injEq, Obj.cells.injEq] at hc'
      exact absurd hc'.2.1 (by decide)
  have ho' : OwnR 4 23 LkR W w.heap.size vo l := ho.kept (fun k hk => by
    have hl := ho.lt hk
    refine (hWo k (by omega)).trans ((hg.block k (by omega) fun e => ?_).trans (alloc_low hl.2))
    have := (h.lies k (q4 k e.symm)).2
    omega) fun _ _ h => h
  refine ⟨⟨hWos.1, hWos.2.1, hWos.2.2, by omega, fun k hk hz => ?_⟩, fun k => Z k ∨ (w.heap.size ≤ k ∧ k < W.heap.size), ⟨⟨_, hWt, ⟨qs ++ [(⟨pos, l⟩, [.int .i64 pos, vo])], by simp [q1], fun p hp => ?_, ?_⟩, fun k hk => ?_⟩, fun k hk => ?_, Or.inl h.tz⟩, fun _ hk => hk⟩
  · exact (hWo k fun e => hz (e ▸ h.tz)).trans (hlow k hk fun e => hz (q4 k e))
  · rcases List.mem_append.1 hp with hp | hp
    · exact ⟨(q2 p hp).1.elim fun v hv => PlO.keepL hlock (fun _ hk => Or.inl hk) _ _ ⟨v, hv⟩, (q2 p hp).2⟩
    · rw [List.mem_singleton.1 hp]
      exact ⟨⟨vo, rfl, ho'.mono (Nat.zero_le _) fun _ _ h => h, fun k hk => Or.inr (ho'.lt hk)⟩, rfl⟩
  · have := own_kept hown (w' := W) fun k hk => hWo k (by
      have e : g = k := by simpa [Value.ownBlock] using hk
      omega)
    simpa using this
  · have e : g = k := by simpa [Value.ownBlock] using hk
    subst e
    rcases hor with e | e
    · exact Or.inl (q4 _ e)
    · exact Or.inr ⟨by omega, by omega⟩
  · rcases hk with hk | hk
    · exact ⟨(h.lies k hk).1, by have := (h.lies k hk).2; omega⟩
    · exact ⟨by have := (h.lies t h.tz).1; omega, hk.2⟩

/-- The table behind one of whose places the others are left. -/
theorem PT9.moved {w w3 : World} {B : Nat} {Z : Nat → Prop} {t : Nat} {T : Tb9} (h : PT9 w B Z t T) {v0 v3 : Value} (hbox : w.heap[t]? = some (.cells #[v0, .int .i64 T.last] 58 (0, 0))) (hb : Below w.heap.size w w3) {qs : List (Pl9 × List Value)} (q2 : ∀ p ∈ qs, PlO w Z p.1 p.2 ∧ p.2.length = 2) (ho : w3.ownsRow w.heap.size 68 2 v3 qs.length (qs.flatMap (·.2))) : PP9 PT9 w B Z t ⟨qs.map (·.1), T.last⟩ (w3.setCell ⟨t, 0, none⟩ v3) := by
  have hs := hb.size
  have htl := (h.lies t h.tz).2
  have ht3 : w3.heap[t]? = some (.cells #[v0, .int .i64 T.last] 58 (0, 0)) := (hb.block t htl).trans hbox
  obtain ⟨W, hW⟩ : ∃ W, w3.setCell ⟨t, 0, none⟩ v3 = W := ⟨_, rfl⟩
  have hWo : ∀ k, k ≠ t → W.heap[k]? = w3.heap[k]? := fun k hk => by
    rw [← hW]
    exact Below.heap_setCell _ _ _ _ fun e => hk e
  have hWt : W.heap[t]? = some (.cells #[v3, .int .i64 T.last] 58 (0, 0)) := by
    rw [← hW]
    have := heap_setCell_at ht3 v3 (i := 0)
    simpa using this
  have hWs : W.heap.size = w3.heap.size := by rw [← hW]; simp [World.setCell]
  have hWos : W.os = w.os ∧ W.tape = w.tape ∧ W.output = w.output := by
    rw [← hW]
    exact ⟨hb.os, hb.tape, hb.output⟩
  rw [hW]
  have hlock : ∀ (k : Nat) (cur : Array Value), w.heap[k]? = some (.cells cur 23 (0, 0)) → W.heap[k]? = w.heap[k]? := fun k cur hc => by
    have hk := (Array.getElem?_eq_some_iff.1 hc).1
    refine (hWo k fun e => ?_).trans (hb.block k hk)
    rw [e, hbox] at hc
    simp only [Option.some.injEq, Obj.cells.injEq] at hc
    exact absurd hc.2.1 (by decide)
  refine ⟨⟨hWos.1, hWos.2.1, hWos.2.2, by omega, fun k hk hz => (hWo k fun e => hz (e ▸ h.tz)).trans (hb.block k hk)⟩, fun k => Z k ∨ (w.heap.size ≤ k ∧ k < W.heap.size), ⟨⟨_, hWt, ⟨qs, rfl, fun p hp => ⟨(q2 p hp).1.elim fun v hv => PlO.keepL hlock (fun _ hk => Or.inl hk) _ _ ⟨v, hv⟩, (q2 p hp).2⟩, ?_⟩, fun k hk => Or.inr ⟨(ho.lt k hk).1, by have := (ho.lt k hk).2; omega⟩⟩, fun k hk => ?_, Or.inl h.tz⟩, fun _ hk => hk⟩
  · have := own_mono (own_kept ho (w' := W) fun k hk => hWo k (by have := (ho.lt k hk).1; omega)) (Nat.zero_le _)
    simpa using this
  · rcases hk with hk | hk
    · exact ⟨(h.lies k hk).1, by have := (h.lies k hk).2; omega⟩
    · exact ⟨by have := (h.lies t h.tz).1; omega, hk.2⟩

set_option maxHeartbeats 2000000 in
set_option maxRecDepth 100000 in
theorem ask1_any (l : Lk) (w : World) : Calls Try.prog 45 #[.agg (lkC l).toArray] w fun e w' => e = .returned (.bool (!lkR l)) ∧ Below w.heap.size w w' := by
  have HC := Lib.hid (fun W => right_any l W)
  obtain ⟨m, hm⟩ : ∃ m, lkR l = m := ⟨_, rfl⟩
  rw [hm] at HC ⊢
  clear hm
  simp only [lkC] at HC ⊢
  have HB := Lib.hid ((Below.refl w.heap.size w).alloc (Nat.le_refl _) (Obj.cells #[.int .i64 l.tb, .string l.lo, .string l.hi, .bool l.wr] 23))
  go_enter Try.func45, Try.ntmps45
  go_wp2_with (first | (go_at_call 8; refine (HC.out _).mono ?_; rintro e w1 ⟨rfl, hb1⟩))
  go_ret
  exact ⟨rfl, HB.out.trans (hb1.mono (by simp))⟩

set_option maxHeartbeats 4000000 in
set_option maxRecDepth 100000 in
theorem idx_ask (w : World) (pa : Option Addr) (cap : Nat) (l : List Lk) (hr : RowR 4 LkR w pa l) (hl : l.length ≤ 2147483648) :
    Calls Try.prog 53 #[.slice pa l.length cap, .func (.func 45) #[] #[]] w fun e w' => (∃ i : Int, e = .returned (.int .i64 i) ∧ (0 ≤ i ↔ l.all lkR = false)) ∧ Below w.heap.size w w' := by
  have HR := Lib.hid hr
  clear hr
  go_enter Try.func53, Try.ntmps53
  go_wp2
  go_loopw [8] (fun i wr => ∃ k : Nat, k ≤ l.length ∧ i = .int .i64 k ∧ (∀ j (g : j < l.length), j < k → lkR l[j] = true) ∧ Below w.heap.size w wr) (fun i _ => l.length - (intOf i).toNat)
  case atStart => exact ⟨0, Nat.zero_le _, rfl, fun j _ g => absurd g (Nat.not_lt_zero _), Below.refl _ _⟩
  case round =>
    obtain ⟨k, hk, rfl, hall, hb⟩ := hrel
    have HL := Lib.hid hall
    have HB := Lib.hid hb
    clear hall
    by_cases hlt : k < l.length
    · have hlti : (k : Int) < (l.length : Int) := by omega
      obtain ⟨x, hx⟩ : ∃ x, l[k] = x := ⟨_, rfl⟩
      have hat := lock_at HR.out hlt
      rw [hx] at hat
      obtain ⟨b, off, rfl, c0, c1, c2, c3⟩ := hat
      have d0 := cell_later hb c0
      have d1 := cell_later hb c1
      have d2 := cell_later hb c2
      have d3 := cell_later hb c3
      have HX := Lib.hid hx
      have HC := Lib.hid (fun W => ask1_any x W)
      simp only [lkC] at HC
      obtain ⟨m, hm⟩ : ∃ m, lkR x = m := ⟨_, rfl⟩
      rw [hm] at HC
      have HM := Lib.hid hm
      clear c0 c1 c2 c3 hx hb hm
      cases m with
      | false =>
        have HE : Hid (l.all lkR = false) := Lib.hid (by
          rw [List.all_eq_false]
          exact ⟨x, HX.out ▸ List.getElem_mem hlt, by rw [HM.out]; simp⟩)
        go_wp2_with (first | (go_at_call 45; refine (HC.out _).mono ?_; rintro e w5 ⟨rfl, hb5⟩))
        go_ret
        refine ⟨⟨(k : Int), rfl, ?_⟩, HB.out.trans (hb5.mono HB.out.size)⟩
        exact ⟨fun _ => by first | exact HE.out | simpa using HE.out, fun _ => by omega⟩
      | true =>
        go_wp2_with (first | (go_at_call 45; refine (HC.out _).mono ?_; rintro e w5 ⟨rfl, hb5⟩))
        go_roundw
        case rel => exact ⟨k + 1, by omega, by go_num, upto1 HL.out hlt (by rw [HX.out]; exact HM.out), HB.out.trans (hb5.mono HB.out.size)⟩
        case measure => simp [intOf]; omega
    · have hlti : ¬ (k : Int) < (l.length : Int) := by omega
      have HN : Hid (l.all lkR = true) := Lib.hid (by
        rw [List.all_eq_true]
        intro x hx
        obtain ⟨i, hi, rfl⟩ := List.getElem_of_mem hx
        exact HL.out i hi (by omega))
      clear hb
      go_wp2
      go_ret
      refine ⟨⟨-1, rfl, ?_⟩, HB.out⟩
      exact ⟨fun h => by omega, fun h => by
        have h2 : l.all lkR = false := by first | exact h | simpa using h
        rw [HN.out] at h2
        cases h2⟩

set_option maxHeartbeats 4000000 in
set_option maxRecDepth 100000 in
theorem con_ask (w : World) (pa : Option Addr) (cap : Nat) (l : List Lk) (hr : RowR 4 LkR w pa l) (hl : l.length ≤ 2147483648) :
    Calls Try.prog 44 #[.slice pa l.length cap, .func (.func 45) #[] #[]] w fun e w' => e = .returned (.bool (!l.all lkR)) ∧ Below w.heap.size w w' := by
  have HI := Lib.hid (idx_ask w pa cap l hr hl)
  clear hr
  go_enter Try.func44, Try.ntmps44
  go_wp2_with (go_at_call 53; refine HI.out.mono ?_; rintro e w' ⟨⟨i, rfl, hi⟩, hb⟩; have HX := Lib.hid hi; have HB := Lib.hid hb; clear hi hb)
  refine bodyPost_ret (v := .bool (decide (0 ≤ i))) (by simp [results, Try.results44, go_sem]) rfl ⟨ret_bool ?_, HB.out⟩
  rw [Bool.eq_iff_iff, decide_eq_true_iff, Bool.not_eq_true']
  exact HX.out

set_option maxHeartbeats 16000000 in
set_option maxRecDepth 100000 in
theorem pask_any (T : Tb9) (t B : Nat) (Z : Nat → Prop) (pos : Int) (p : Option Addr) (cap : Nat) (l : List Lk) (w : World) (h : PT9 w B Z t T) (hs : Sz9 T) (hn : T.ps.length < 2147483647) (hr : RowR 4 LkR w p l) (hl : Sl9 l) : Calls Try.prog 26 #[.pointer (some ⟨t, 0, none⟩), .int .i64 pos, .slice p l.length cap] w fun e w' => e = .returned (.int .i64 (askE T pos l)) ∧ PP9 PT9 w B Z t (askT T pos l) w' := by
  obtain ⟨i2, hi2, hx0, hx1, hx2⟩ := info_parts Try.infoPp
  have HD := Lib.hid h
  have hll := hl.len
  have HCA := Lib.hid (con_ask w p cap l hr (by omega))
  have HK := Lib.hid (fun (W : World) (hb : Below w.heap.size w W) => copied_any p cap l W (hr.later hb fun _ _ h => h) (by omega) fun x hx => by have := hl.size x hx; omega)
  obtain ⟨v0, hbox, ⟨qs, q1, q2, q3⟩, q4⟩ := h.tb
  have HBX := Lib.hid hbox
  have HQ := Lib.hid (And.intro q1 (And.intro q2 (And.intro q3 q4)))
  have hzt : t < w.heap.size := (Array.getElem?_eq_some_iff.1 hbox).1
  have z := two_of hbox
  have hlast := hs.last
  clear h hr hs hbox q1 q2 q4
  by_cases ha : pos ≤ T.last
  · have HE : Hid (askE T pos l = 1) := Lib.hid (askE_one (Or.inr ha))
    have HT : Hid (askT T pos l = T) := Lib.hid (askT_no (by rw [HE.out]; decide))
    rw [HE.out, HT.out]
    clear q3
    go_enter Try.func26, Try.ntmps26
    go_wp2
    go_ret
    exact ⟨rfl, HD.out.same9 (Below.refl _ _)⟩
  · have HNA : Hid (¬ (pos < 0 ∨ pos ≤ T.last)) := Lib.hid (by omega)
    cases hq : l.all lkR with
    | false =>
      have HE : Hid (askE T pos l = 190) := Lib.hid (by unfold askE; rw [if_neg HNA.out, hq]; rfl)
      have HT : Hid (askT T pos l = T) := Lib.hid (askT_no (by rw [HE.out]; decide))
      rw [hq] at HCA
      rw [HE.out, HT.out]
      clear q3 hq
      go_enter Try.func26, Try.ntmps26
      go_wp2_with (first | (go_at_call 44; refine HCA.out.mono ?_; rintro e w1 ⟨rfl, hb1⟩))
      go_ret
      exact ⟨rfl, HD.out.same9 hb1⟩
    | true =>
      have HE : Hid (askE T pos l = 0) := Lib.hid (by unfold askE; rw [if_neg HNA.out, hq]; rfl)
      have HT : Hid (askT T pos l = ⟨T.ps ++ [⟨pos, l⟩], pos⟩) := Lib.hid (askT_yes HE.out)
      rw [hq] at HCA
      rw [HE.out, HT.out]
      clear hq
      go_enter Try.func26, Try.ntmps26
      go_wp2_with (first | (go_at_call 44; refine HCA.out.mono ?_; rintro e w1 ⟨rfl, hb1⟩; (have HB1 := Lib.hid hb1); (have z1 := two_of ((hb1.block t hzt).trans HBX.out)); (have hs1 := hb1.size); clear hb1))
      clear z
      go_region_law (first
        | (go_simp; go_at_call 46; refine (HK.out _ (by first | exact HB1.out | exact HB1.out.drew | exact below_drewN HB1.out _)).mono ?_; rintro e w2 ⟨vo, rfl, hvo, hb2⟩; (obtain ⟨po, co, rfl, _⟩ := hvo.form); (have HB2 : Hid (Below w.heap.size w w2) := Lib.hid ((below_drewN HB1.out _).trans (hb2.mono hs1))); (have HO2 := Lib.hid (hvo.mono hs1 fun _ _ h => h)); (have hs2 := HB2.out.size); (have z2 := two_of ((HB2.out.block t hzt).trans HBX.out)); (have htl2 : t < w2.heap.size := by omega); (have htn2 : t ≠ w2.heap.size := by omega); clear hvo hb2)
        | (refine step_append_lies _ rfl _ _ 56 rfl 0 68 i2 _ 2 32 Try.underlying56 hi2 hx0 hx1 hx2 rfl (by decide) v0 T.ps.length (qs.flatMap (·.2)) rfl ((own_later q3 HB2.out).alloc _) ⟨w2.heap.size, 0, none⟩ 1 1 [.int .i64 pos, .slice po l.length co] rfl rfl (cells_alloc _ _ _) (by intro u hu; simp only [List.mem_cons, List.not_mem_nil, or_false] at hu; rcases hu with rfl | rfl <;> rfl) (by decide) (by unfold maxLen; omega) (by omega) (Nat.zero_le _) _ rfl ?_; intro g cap' w5 hown5 hgrow5 hor5 hlt5; (have HX5 := Lib.hid (And.intro hown5 (And.intro hgrow5 hor5))); (have z5 := two_of ((hgrow5.block t (by simp; omega) (fun e => prow_off q3 HBX.out e.symm)).trans ((alloc_low (by omega)).trans ((HB2.out.block t hzt).trans HBX.out)))); clear hown5 hgrow5 hor5))
      all_goals
        go_wp2
        go_ret
        exact ⟨rfl, HD.out.asked HBX.out HQ.out.1 HQ.out.2.1 q3 HQ.out.2.2.2 HB2.out HO2.out HX5.out.1 HX5.out.2.1 HX5.out.2.2⟩
end Go.Proofs.Ytefdhmdkcpgfcaa
