/- Walks of layer 6, seventh part: Read. -/
import Derived.Test.YtckmjmpajbjbkaaGreatDoorJ6
import Derived.Test.YtckmjmpajbjbkaaGreatDoorM62
namespace Go.Proofs.YtckmjmpajbjbkaaGreatDoor
open Go.RowKit

/-! ### which segment a record lies in -/
theorem row_find : ∀ {l : List Sg} (f P : Nat), Row l → baseL f l ≤ P → P < nextL f l → ∃ i, ∃ h : i < l.length, (∀ j (h' : j < i), (l[j]'(Nat.lt_trans h' h)).end ≤ P) ∧ P < (l[i]).end ∧ (l[i]).1 ≤ P ∧ (recsL l)[P - baseL f l]? = ((l[i]).2)[P - (l[i]).1]?
  | [], f, P, _, h1, h2 => by
    simp only [baseL, nextL, List.head?_nil, List.getLast?_nil, Option.map_none, Option.getD_none] at h1 h2
    omega
  | [s], f, P, _, h1, h2 => by
    have e : nextL f [s] = s.end := rfl
    rw [e] at h2
    rw [baseL_cons] at h1 ⊢
    exact ⟨0, by simp, fun j hj => by omega, h2, h1, by simp [recsL]⟩
  | s :: t :: r, f, P, h, h1, h2 => by
    rw [baseL_cons] at h1 ⊢
    have e2 : recsL (s :: t :: r) = s.2 ++ recsL (t :: r) := by simp [recsL]
    by_cases hp : P < s.end
    · refine ⟨0, by simp, fun j hj => by omega, hp, h1, ?_⟩
      unfold Sg.end at hp
      rw [e2, List.getElem?_append_left (by omega)]
      rfl
    · have e : nextL f (s :: t :: r) = nextL f (t :: r) := by simp [nextL]
      rw [e] at h2
      have hb : baseL f (t :: r) = s.end := by rw [baseL_cons]; exact h.1
      obtain ⟨i, hi, k1, k2, k3, k4⟩ := row_find f P h.2 (by rw [hb]; omega) h2
      refine ⟨i + 1, by simpa using hi, fun j hj => ?_, k2, k3, ?_⟩
      · cases j with
        | zero => exact Nat.le_of_not_lt hp
        | succ j => exact k1 j (by omega)
      · have e3 : P - s.1 = s.2.length + (P - baseL f (t :: r)) := by rw [hb]; unfold Sg.end at hp ⊢; omega
        rw [e2, e3, List.getElem?_append_right (by omega), Nat.add_sub_cancel_left, k4]
        rfl

set_option maxHeartbeats 2000000 in
set_option maxRecDepth 100000 in
theorem read1_any (w : World) (Q p n c : Nat) (q : Option Addr) (P : Int) (hQ : w.cell? ⟨Q, 0, none⟩ = some (.int .i64 P)) (hp : p ≤ 1000000000000) (hn : n ≤ 1000000000000) :
    Calls Tryz.prog 61 #[.agg #[.int .i64 (p : Int), .slice q n c], .pointer (some ⟨Q, 0, none⟩)] w fun e w' => e = .returned (.bool (decide (P < ((p + n : Nat) : Int)))) ∧ Below w.heap.size w w' := by
  have hq := World.block_lt_of_cell? _ _ hQ
  simp only at hq
  go_enter Tryz.func61, Tryz.ntmps61
  go_wp2
  have HW : Hid (Below w.heap.size w (w.alloc (.cells #[.int .i64 (p : Int), .slice q n c] 100)).drew) := ((Below.refl _ _).alloc (Nat.le_refl _) _).drew
  have b0 := cell_later HW.out hQ
  have b1 : (w.alloc (.cells #[.int .i64 (p : Int), .slice q n c] 100)).drew.cell? ⟨w.heap.size, 0, none⟩ = some (.int .i64 (p : Int)) := by simp
  have b2 : (w.alloc (.cells #[.int .i64 (p : Int), .slice q n c] 100)).drew.cell? ⟨w.heap.size, 1, none⟩ = some (.slice q n c) := by simp
  go_region_held3 (fun w' => w'.cell? ⟨Q, 0, none⟩ = some (.int .i64 P) ∧ w'.cell? ⟨w.heap.size, 0, none⟩ = some (.int .i64 (p : Int)) ∧ w'.cell? ⟨w.heap.size, 1, none⟩ = some (.slice q n c)) (go_simp) (first
    | (go_at_call 58; refine (end_any p n c q _ hp hn).mono ?_; rintro e w1 ⟨rfl, hb1⟩; (have k0 := cell_later hb1 b0); (have k1 := cell_later hb1 b1); (have k2 := cell_later hb1 b2); (have HB1 : Hid (Below w.heap.size w w1) := HW.out.trans (hb1.mono HW.out.size)); clear hb1))
  all_goals
    go_wp2
    go_ret
    exact ⟨by simp, HB1.out⟩

set_option maxHeartbeats 4000000 in
set_option maxRecDepth 100000 in
theorem indexf_any (w : World) (b Q cap i : Nat) (es : List Ent) (P : Int) (hQ : w.cell? ⟨Q, 0, none⟩ = some (.int .i64 P)) (hl : es.length ≤ 10000000000000)
    (hc : ∀ j (h : j < es.length), w.cell? ⟨b, j * 2, none⟩ = some (.int .i64 ((es[j]).1 : Int)) ∧ ∃ q c, w.cell? ⟨b, j * 2 + 1, none⟩ = some (.slice q (es[j]).2.1.length c))
    (hs : ∀ j (h : j < es.length), (es[j]).1 ≤ 1000000000000 ∧ (es[j]).2.1.length ≤ 1000000000000)
    (hi : i < es.length) (hno : ∀ j (h : j < i), (((es[j]'(Nat.lt_trans h hi)).sg.end : Nat) : Int) ≤ P) (hyes : P < (((es[i]).sg.end : Nat) : Int)) :
    Calls Tryz.prog 60 #[.slice (some ⟨b, 0, none⟩) es.length cap, .func (.func 61) #[] #[.pointer (some ⟨Q, 0, none⟩)]] w fun e w' => e = .returned (.int .i64 (i : Int)) ∧ Below w.heap.size w w' := by
  have HC : Hid (∀ j (h : j < es.length), w.cell? ⟨b, j * 2, none⟩ = some (.int .i64 ((es[j]).1 : Int)) ∧ ∃ q c, w.cell? ⟨b, j * 2 + 1, none⟩ = some (.slice q (es[j]).2.1.length c)) := hc
  have HS : Hid (∀ j (h : j < es.length), (es[j]).1 ≤ 1000000000000 ∧ (es[j]).2.1.length ≤ 1000000000000) := hs
  have HNO : Hid (∀ j (h : j < i), (((es[j]'(Nat.lt_trans h hi)).sg.end : Nat) : Int) ≤ P) := hno
  have HY : Hid (P < (((es[i]).sg.end : Nat) : Int)) := hyes
  clear hc hs hno hyes
  go_enter Tryz.func60, Tryz.ntmps60
  go_wp2
  go_loopw [5, 8] (fun _ j wr => ∃ k : Nat, k ≤ i ∧ j = .int .i64 k ∧ Below w.heap.size w wr) (fun _ j _ => es.length - (intOf j).toNat)
  case atStart => exact ⟨0, Nat.zero_le _, rfl, Below.refl _ _⟩
  case round =>
    obtain ⟨k, hk, rfl, hb⟩ := hrel
    have hkl : k < es.length := by omega
    have hlti : (k : Int) < (es.length : Int) := by omega
    obtain ⟨d0, q, c, d1⟩ := HC.out k hkl
    obtain ⟨hs1, hs2⟩ := HS.out k hkl
    have k0 := cell_later hb d0
    have k1 := cell_later hb d1
    have kQ := cell_later hb hQ
    have HB : Hid (Below w.heap.size w wr) := hb
    have hnn : (0 : Int) ≤ (k : Int) := by omega
    clear d0 d1 hb
    by_cases he : k = i
    · have HP : Hid (decide (P < (((es[k]).1 + (es[k]).2.1.length : Nat) : Int)) = true) := by
        have := HY.out
        subst he
        exact decide_eq_true this
      have HEQ : Hid (k = i) := he
      clear he
      go_wp2_with (first | (go_at_call 61; refine (read1_any _ Q (es[k]).1 (es[k]).2.1.length c q P kQ hs1 hs2).mono ?_; rintro e w1 ⟨rfl, hb1⟩; rw [HP.out]))
      go_ret
      exact ⟨by rw [← HEQ.out]; rfl, HB.out.trans (hb1.mono HB.out.size)⟩
    · have HP : Hid (decide (P < (((es[k]).1 + (es[k]).2.1.length : Nat) : Int)) = false) := by
        have : (((es[k]).1 + (es[k]).2.1.length : Nat) : Int) ≤ P := HNO.out k (by omega)
        exact decide_eq_false (by omega)
      have HNE : Hid (k + 1 ≤ i) := by
        have : k + 1 ≤ i := by omega
        exact this
      clear he
      go_wp2_with (first | (go_at_call 61; refine (read1_any _ Q (es[k]).1 (es[k]).2.1.length c q P kQ hs1 hs2).mono ?_; rintro e w1 ⟨rfl, hb1⟩; rw [HP.out]))
      go_roundw
      case rel => exact ⟨k + 1, HNE.out, by go_num, HB.out.trans (hb1.mono HB.out.size)⟩
      case measure => simp [intOf]; omega

theorem readL_no {g : Lg} {P : Int} (h : P < (g.base : Int) ∨ (g.next : Int) ≤ P) : readL g P = ([], 61) := by simp [readL, h]
theorem readL_yes {g : Lg} {P : Int} (h : ¬ (P < (g.base : Int) ∨ (g.next : Int) ≤ P)) : readL g P = (((recsL g.segs)[(P - (g.base : Int)).toNat]?).getD [], 0) := by simp [readL, h]
def readV (r : List UInt8 × Int) : Value := .tuple #[.string ⟨r.1.toArray⟩, .int .i64 r.2]

set_option maxHeartbeats 2000000 in
set_option maxRecDepth 100000 in
theorem base0_any (w : World) (Y : Nat → Prop) (l a : Nat) (g : Lg) (p : Option Addr) (cap : Nat) (es : List Ent) (h : LogAt w Y l a g p cap es) (hg : LgW g) :
    Calls Tryz.prog 44 #[.pointer (some ⟨l, 0, none⟩)] w fun e w' => e = .returned (.int .i64 (g.base : Int)) ∧ w' = w := by
  have c2 := h.lc.c2
  have c4 := h.lc.c4
  have hm := h.many hg
  cases es with
  | nil =>
    have hn : g.base = g.frm := by rw [Lg.base, h.segs]; rfl
    rw [hn]
    clear h
    go_enter Tryz.func44, Tryz.ntmps44
    go_wp2
    go_ret
    exact ⟨rfl, rfl⟩
  | cons x r =>
    obtain ⟨b, rfl, _, _, _, d0, _⟩ := h.seg (i := 0) (by simp)
    have hn : g.base = x.1 := by rw [Lg.base, h.segs]; rfl
    rw [hn]
    simp only [List.length_cons] at c4 hm
    simp only [Nat.zero_mul, List.getElem_cons_zero] at d0
    have hl : (r.length : Int) + 1 ≠ 0 := by omega
    have hl2 : (0 : Int) < (r.length : Int) + 1 := by omega
    clear h
    go_enter Tryz.func44, Tryz.ntmps44
    go_wp2
    go_ret
    exact ⟨rfl, rfl⟩

set_option maxHeartbeats 4000000 in
set_option maxRecDepth 100000 in
theorem lread_any (w : World) (Y : Nat → Prop) (l a : Nat) (g : Lg) (p : Option Addr) (cap : Nat) (es : List Ent) (h : LogAt w Y l a g p cap es) (hg : LgW g) (P : Int) :
    Calls Tryz.prog 25 #[.pointer (some ⟨l, 0, none⟩), .int .i64 P] w fun e w' => e = .returned (readV (readL g P)) ∧ Below w.heap.size w w' := by
  have HL : Hid (LogAt w Y l a g p cap es) := h
  have HG : Hid (LgW g) := hg
  have HW : Hid (Below w.heap.size w (w.alloc (.cells #[.int .i64 P] 3)).drew) := ((Below.refl _ _).alloc (Nat.le_refl _) _).drew
  have c4 := h.lc.c4
  have b0 : (w.alloc (.cells #[.int .i64 P] 3)).drew.cell? ⟨w.heap.size, 0, none⟩ = some (.int .i64 P) := by simp
  clear h hg
  by_cases h1 : P < (g.base : Int)
  · have HE : Hid (readL g P = ([], 61)) := readL_no (Or.inl h1)
    have HPK : Hid (∀ n, Calls Tryz.prog 44 #[.pointer (some ⟨l, 0, none⟩)] ((w.alloc (.cells #[.int .i64 P] 3)).drewN n) fun e w' => e = .returned (.int .i64 (g.base : Int)) ∧ w' = (w.alloc (.cells #[.int .i64 P] 3)).drewN n) := fun n => base0_any _ Y l a g p cap es (HL.out.later ⟨rfl, rfl, rfl, by simp [World.drewN], fun k hk => Below.heap_alloc w _ k hk⟩) HG.out
    go_enter Tryz.func25, Tryz.ntmps25
    go_wp2
    go_quiet ((go_at_call 44; exact Calls.quiet_of_same (HPK.out _)))
    all_goals
      go_wp2
      refine bodyPost_ret (v := .tuple #[.string ⟨#[]⟩, .int .i64 61]) (by simp [results, Tryz.results25, go_sem]) rfl ?_
      rw [HE.out]
      exact ⟨rfl, ⟨rfl, rfl, rfl, by simp [World.drewN], fun k hk => Below.heap_alloc w _ k hk⟩⟩
  · by_cases h2 : (g.next : Int) ≤ P
    · have HE : Hid (readL g P = ([], 61)) := readL_no (Or.inr h2)
      have g1 : decide (P < (g.base : Int)) = false := decide_eq_false h1
      clear h1
      go_enter Tryz.func25, Tryz.ntmps25
      go_wp2
      go_region_held3 (fun w' => w'.cell? ⟨w.heap.size, 0, none⟩ = some (.int .i64 P)) (go_simp) (first
        | (go_at_call 44; refine (base_any _ Y l a g p cap es (HL.out.later HW.out) HG.out).mono ?_; rintro e w1 ⟨rfl, hb1⟩; (have k0 := cell_later hb1 b0); (have HB1 : Hid (Below w.heap.size w w1) := HW.out.trans (hb1.mono HW.out.size)); clear hb1)
        | (go_at_call 20; refine (next_any _ Y l a g p cap es (HL.out.later HB1.out) HG.out).mono ?_; rintro e w2 ⟨rfl, hb2⟩; (have k1 := cell_later hb2 k0); (have HB2 : Hid (Below w.heap.size w w2) := HB1.out.trans (hb2.mono HB1.out.size)); clear hb2))
      all_goals
        go_wp2
        refine bodyPost_ret (v := .tuple #[.string ⟨#[]⟩, .int .i64 61]) (by simp [results, Tryz.results25, go_sem]) rfl ?_
        rw [HE.out]
        exact ⟨rfl, HB2.out⟩
    · obtain ⟨N, rfl⟩ : ∃ N : Nat, P = (N : Int) := ⟨P.toNat, by omega⟩
      have hE := readL_yes (g := g) (P := (N : Int)) (fun e => by
        rcases e with e | e
        · exact h1 e
        · exact h2 e)
      have hL := HL.out
      have hg := HG.out
      obtain ⟨i, hi, f1, f2, f3, f4⟩ := row_find g.frm N hg.row (by have : ¬ (N : Int) < ((baseL g.frm g.segs : Nat) : Int) := h1; omega) (by have : ¬ ((nextL g.frm g.segs : Nat) : Int) ≤ (N : Int) := h2; omega)
      have hil : i < es.length := by rw [hL.segs, List.length_map] at hi; exact hi
      have hsi : g.segs[i] = (es[i]).sg := by simp only [hL.segs, List.getElem_map]
      have hsj : ∀ j (h : j < es.length), ∃ h', g.segs[j]'h' = (es[j]).sg := fun j h => ⟨by rw [hL.segs, List.length_map]; exact h, by simp only [hL.segs, List.getElem_map]⟩
      rw [hsi] at f2 f3 f4
      obtain ⟨b, rfl, _, _, _, e0, e1, _⟩ := hL.seg hil
      have hrow := hL.recs es[i] (List.getElem_mem hil)
      have hlt : N - (es[i]).1 < (es[i]).2.1.length := by
        have a1 : N < (es[i]).1 + (es[i]).2.1.length := f2
        have a2 : (es[i]).1 ≤ N := f3
        omega
      obtain ⟨q, c, eq, hqc⟩ := own_slice hrow
      rw [eq] at e1 hrow
      obtain ⟨rb, rfl, _, _, hcell⟩ := own_elem hrow (N - (es[i]).1) (by rw [sv_length]; exact hlt)
      have HC : Hid (∀ W, Below w.heap.size w W → ∀ j (h : j < es.length), W.cell? ⟨b, j * 2, none⟩ = some (.int .i64 ((es[j]).1 : Int)) ∧ ∃ q c, W.cell? ⟨b, j * 2 + 1, none⟩ = some (.slice q (es[j]).2.1.length c)) := fun W hW j hj => by
        obtain ⟨b', eb, _, _, _, k0, k1, _⟩ := hL.seg hj
        obtain rfl : b = b' := by simpa using eb
        obtain ⟨q', c', eq', _⟩ := own_slice (hL.recs es[j] (List.getElem_mem hj))
        rw [eq'] at k1
        exact ⟨cell_later hW k0, q', c', cell_later hW k1⟩
      have hsz : ∀ j (h : j < es.length), (es[j]).1 ≤ 1000000000000 ∧ (es[j]).2.1.length ≤ 1000000000000 := fun j hj => by
        obtain ⟨h', e⟩ := hsj j hj
        have r1 := hg.low _ (List.getElem_mem h')
        have r2 := hg.few _ (List.getElem_mem h')
        rw [e] at r1 r2
        exact ⟨Nat.le_of_lt r1, r2⟩
      have HS : Hid (∀ j (h : j < es.length), (es[j]).1 ≤ 1000000000000 ∧ (es[j]).2.1.length ≤ 1000000000000) := hsz
      have HNO : Hid (∀ j (h : j < i), (((es[j]'(Nat.lt_trans h hil)).sg.end : Nat) : Int) ≤ (N : Int)) := fun j hj => by
        have := f1 j hj
        obtain ⟨h', e⟩ := hsj j (by omega)
        rw [e] at this
        omega
      have HY : Hid ((N : Int) < (((es[i]).sg.end : Nat) : Int)) := by
        have : (N : Int) < (((es[i]).sg.end : Nat) : Int) := by omega
        exact this
      have HM : Hid (es.length ≤ 10000000000000) := by
        have := hL.many hg
        have h3 : es.length ≤ 10000000000000 := by omega
        exact h3
      obtain ⟨D, hD⟩ : ∃ D, (es[i]).2.1[N - (es[i]).1] = D := ⟨_, rfl⟩
      have hcd : w.cell? ⟨rb, N - (es[i]).1, none⟩ = some (.string (ba D)) := by
        rw [hcell, ← hD]
        simp [sv]
      have HDL : Hid (D.length ≤ 4096) := by
        have : D.length ≤ 4096 := by
          rw [← hD]
          obtain ⟨h', e⟩ := hsj i hil
          have := hg.small _ (List.getElem_mem h')
          rw [e] at this
          exact this _ (List.getElem_mem hlt)
        exact this
      have HE : Hid (readL g (N : Int) = (D, 0)) := by
        have : readL g (N : Int) = (D, 0) := by
          rw [hE]
          have eN : ((N : Int) - (g.base : Int)).toNat = N - baseL g.frm g.segs := by
            have : (g.base : Int) = ((baseL g.frm g.segs : Nat) : Int) := rfl
            omega
          rw [eN, f4]
          have e5 : ((es[i]).sg.2)[N - (es[i]).sg.1]? = some D := by
            rw [← hD]
            exact List.getElem?_eq_getElem hlt
          rw [e5]
          rfl
        exact this
      obtain ⟨pl, hpl⟩ : ∃ pl, (es[i]).1 = pl := ⟨_, rfl⟩
      obtain ⟨nr, hnr⟩ : ∃ nr, (es[i]).2.1.length = nr := ⟨_, rfl⟩
      have f3' : (es[i]).1 ≤ N := f3
      rw [hpl] at e0 hcd hlt f3'
      rw [hnr] at e1 hlt
      have g1 : decide (N < g.base) = false := decide_eq_false (by omega)
      have g2 : decide (g.next ≤ N) = false := decide_eq_false (by omega)
      have hpN : pl ≤ N := f3'
      have HPL : Hid (pl ≤ 1000000000000 ∧ nr ≤ 1000000000000) := by
        have := HS.out i hil
        rw [hpl, hnr] at this
        exact this
      have xw : wrap64 ((N : Int) - (pl : Int)) = ((N - pl : Nat) : Int) := by
        have := HPL.out
        rw [show wrap64 ((N : Int) - (pl : Int)) = (N : Int) - (pl : Int) by unfold wrap64; omega]
        omega
      have x2 : ((N - pl : Nat) : Int) < (nr : Int) := by omega
      have hii : (i : Int) < (es.length : Int) := by omega
      have hi0 : (0 : Int) ≤ (i : Int) := by omega
      have HIL : Hid (i < es.length) := hil
      clear h1 h2 hE hL hg f1 f2 f3 f3' f4 hi hsi hsj hrow eq hcell hsz hD hpl hnr hqc
      go_enter Tryz.func25, Tryz.ntmps25
      go_wp2
      go_region_held3 (fun w' => w'.cell? ⟨w.heap.size, 0, none⟩ = some (.int .i64 (N : Int))) (go_simp) (first
        | (go_at_call 44; refine (base_any _ Y l a g _ cap es (HL.out.later HW.out) HG.out).mono ?_; rintro e w1 ⟨rfl, hb1⟩; (have k0 := cell_later hb1 b0); (have HB1 : Hid (Below w.heap.size w w1) := HW.out.trans (hb1.mono HW.out.size)); clear hb1)
        | (go_at_call 20; refine (next_any _ Y l a g _ cap es (HL.out.later HB1.out) HG.out).mono ?_; rintro e w2 ⟨rfl, hb2⟩; (have k1 := cell_later hb2 k0); (have HB2 : Hid (Below w.heap.size w w2) := HB1.out.trans (hb2.mono HB1.out.size)); clear hb2))
      all_goals
        have m4 := cell_later HB2.out c4
        clear c4 b0
        go_wp2_with (first
          | (go_at_call 60; refine (indexf_any _ b w.heap.size cap i es (N : Int) k1 HM.out (HC.out _ HB2.out) HS.out HIL.out HNO.out HY.out).mono ?_; rintro e w3 ⟨rfl, hb3⟩; (have n4 := cell_later hb3 m4); (have nQ := cell_later hb3 k1); (have n0 := cell_later hb3 (cell_later HB2.out e0)); (have n1 := cell_later hb3 (cell_later HB2.out e1)); (have nd := cell_later hb3 (cell_later HB2.out hcd)); (have ndd := fun o => cell_later ((Below.refl w3.heap.size w3).alloc (Nat.le_refl _) o) nd); (have nQQ := fun o => cell_later ((Below.refl w3.heap.size w3).alloc (Nat.le_refl _) o) nQ); (have HB3 : Hid (Below w.heap.size w w3) := HB2.out.trans (hb3.mono HB2.out.size)); clear hb3)
          | (go_at_call 57; refine (clone_any (ba D) _ (by have := HDL.out; simp [ba, ByteArray.size]; omega)).mono ?_; rintro e w4 ⟨rfl, hb4⟩))
        refine bodyPost_ret (v := .tuple #[.string (ba D), .int .i64 0]) (by simp [results, Tryz.results25, go_sem]) rfl ?_
        rw [HE.out]
        exact ⟨rfl, HB3.out.trans ((((Below.refl _ _).alloc (Nat.le_refl _) _).trans (hb4.mono (by simp))).mono HB3.out.size)⟩
end Go.Proofs.YtckmjmpajbjbkaaGreatDoor
