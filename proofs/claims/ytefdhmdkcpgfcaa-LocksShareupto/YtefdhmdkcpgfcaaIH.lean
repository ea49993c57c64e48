/- Walks of layer 19: where an open place stands; is it granted? -/
import Derived.Test.YtefdhmdkcpgfcaaIG
namespace Go.Proofs.Ytefdhmdkcpgfcaa
open Go.RowKit

set_option maxHeartbeats 4000000 in
set_option maxRecDepth 100000 in
theorem idx_keep (w : World) (pa : Option Addr) (cap : Nat) (ps : List Pl9) (p : Pl9) (qp : Option Addr) (cp x0 : Nat) (hr : RowR 2 (PlR w) w pa ps) (hl : ps.length ≤ 2147483648) (rp : RowR 4 LkR w qp p.ls) (h0 : w.cell? ⟨x0, 0, none⟩ = some (.int .i64 p.pos)) (h1 : w.cell? ⟨x0, 1, none⟩ = some (.slice qp p.ls.length cp)) (ha : ∀ a ∈ ps, a.ls.length ≤ 2147483648) (hp : p.ls.length ≤ 2147483648) :
    Calls Try.prog 58 #[.slice pa ps.length cap, .func (.func 56) #[] #[.pointer (some ⟨x0, 0, none⟩)]] w fun e w' => (∃ i : Int, e = .returned (.int .i64 i) ∧ (0 ≤ i ↔ ps.any (kpB p) = true)) ∧ Below w.heap.size w w' := by
  have HR := Lib.hid hr
  have HP := Lib.hid (And.intro rp (And.intro h0 h1))
  have HA := Lib.hid ha
  clear hr rp h0 h1 ha
  go_enter Try.func58, Try.ntmps58
  go_wp2
  go_loopw [8] (fun i wr => ∃ k : Nat, k ≤ ps.length ∧ i = .int .i64 k ∧ (∀ j (g : j < ps.length), j < k → kpB p ps[j] = false) ∧ Below w.heap.size w wr) (fun i _ => ps.length - (intOf i).toNat)
  case atStart => exact ⟨0, Nat.zero_le _, rfl, fun j _ g => absurd g (Nat.not_lt_zero _), Below.refl _ _⟩
  case round =>
    obtain ⟨k, hk, rfl, hall, hb⟩ := hrel
    have HL := Lib.hid hall
    have HB := Lib.hid hb
    clear hall
    by_cases hlt : k < ps.length
    · have hlti : (k : Int) < (ps.length : Int) := by omega
      obtain ⟨y, hy⟩ : ∃ y, ps[k] = y := ⟨_, rfl⟩
      have hat := place_at HR.out hlt
      rw [hy] at hat
      obtain ⟨b, off, qk, ck, rfl, p0, p1, hrk⟩ := hat
      have d0 := cell_later hb p0
      have d1 := cell_later hb p1
      have HC := Lib.hid (keep1_any p y qk qp ck cp x0 wr (hrk.later hb fun _ _ h => h) (HP.out.1.later hb fun _ _ h => h) (cell_later hb HP.out.2.1) (cell_later hb HP.out.2.2) (by have := HA.out y (hy ▸ List.getElem_mem hlt); omega) (by omega))
      have HY := Lib.hid hy
      obtain ⟨m, hm⟩ : ∃ m, kpB p y = m := ⟨_, rfl⟩
      rw [hm] at HC
      have HM := Lib.hid hm
      clear p0 p1 hrk hy hb hm
      cases m with
      | true =>
        go_wp2_with (first | (go_at_call 56; refine HC.out.mono ?_; rintro e w5 ⟨rfl, hb5⟩))
        go_ret
        exact ⟨⟨(k : Int), rfl, fun _ => List.any_eq_true.2 ⟨y, HY.out ▸ List.getElem_mem hlt, HM.out⟩, fun _ => by omega⟩, HB.out.trans (hb5.mono HB.out.size)⟩
      | false =>
        go_wp2_with (first | (go_at_call 56; refine HC.out.mono ?_; rintro e w5 ⟨rfl, hb5⟩))
        go_roundw
        case rel => exact ⟨k + 1, by omega, by go_num, upto1 HL.out hlt (by rw [HY.out]; exact HM.out), HB.out.trans (hb5.mono HB.out.size)⟩
        case measure => simp [intOf]; omega
    · have hlti : ¬ (k : Int) < (ps.length : Int) := by omega
      have HN : Hid (ps.any (kpB p) = false) := Lib.hid (any_upto fun j g => HL.out j g (by omega))
      clear hb
      go_wp2
      go_ret
      exact ⟨⟨-1, rfl, fun h => by omega, fun h => by
        have h2 : ps.any (kpB p) = true := by first | exact h | exact List.any_eq_true.2 h
        rw [HN.out] at h2
        cases h2⟩, HB.out⟩

set_option maxHeartbeats 4000000 in
set_option maxRecDepth 100000 in
theorem con_keep (w : World) (pa : Option Addr) (cap : Nat) (ps : List Pl9) (p : Pl9) (qp : Option Addr) (cp x0 : Nat) (hr : RowR 2 (PlR w) w pa ps) (hl : ps.length ≤ 2147483648) (rp : RowR 4 LkR w qp p.ls) (h0 : w.cell? ⟨x0, 0, none⟩ = some (.int .i64 p.pos)) (h1 : w.cell? ⟨x0, 1, none⟩ = some (.slice qp p.ls.length cp)) (ha : ∀ a ∈ ps, a.ls.length ≤ 2147483648) (hp : p.ls.length ≤ 2147483648) :
    Calls Try.prog 49 #[.slice pa ps.length cap, .func (.func 56) #[] #[.pointer (some ⟨x0, 0, none⟩)]] w fun e w' => e = .returned (.bool (ps.any (kpB p))) ∧ Below w.heap.size w w' := by
  have HI := Lib.hid (idx_keep w pa cap ps p qp cp x0 hr hl rp h0 h1 ha hp)
  clear hr rp h0 h1 ha
  go_enter Try.func49, Try.ntmps49
  go_wp2_with (go_at_call 58; refine HI.out.mono ?_; rintro e w' ⟨⟨i, rfl, hi⟩, hb⟩; have HX := Lib.hid hi; have HB := Lib.hid hb; clear hi hb)
  refine bodyPost_ret (v := .bool (decide (0 ≤ i))) (by simp [results, Try.results49, go_sem]) rfl ⟨ret_bool ?_, HB.out⟩
  rw [Bool.eq_iff_iff, decide_eq_true_iff]
  exact HX.out

/-! ### which ones keep a place waiting -/
theorem kp_at {T : Tb9} (hs : Sz9 T) {i k : Nat} (hi : i < T.ps.length) (hk : k < T.ps.length) : kpB T.ps[i] T.ps[k] = (decide (k < i) && anyM T.ps[i].ls T.ps[k].ls) := by
  unfold kpB
  rw [anyM_comm]
  congr 1
  rw [Bool.eq_iff_iff, decide_eq_true_iff, decide_eq_true_iff]
  rcases Nat.lt_trichotomy k i with h | h | h
  · exact ⟨fun _ => h, fun _ => hs.rise k i hk hi h⟩
  · subst h
    omega
  · have := hs.rise i k hi hk h
    omega
theorem any_grnt {T : Tb9} (hs : Sz9 T) {i : Nat} (hi : i < T.ps.length) : (!T.ps.any (kpB T.ps[i])) = grntI T i := by
  unfold grntI waitI
  rw [List.getElem?_eq_getElem hi]
  simp only [Option.map_some, Option.getD_some]
  unfold waitL
  rw [Bool.eq_iff_iff, List.isEmpty_iff, List.map_eq_nil_iff, List.filter_eq_nil_iff, Bool.not_eq_true', List.any_eq_false]
  constructor
  · intro h a ha
    obtain ⟨k, hk, rfl⟩ := List.getElem_of_mem ha
    rw [List.length_take] at hk
    have hk' : k < T.ps.length := by omega
    have := h T.ps[k] (List.getElem_mem hk')
    rw [kp_at hs hi hk', decide_eq_true (by omega : k < i), Bool.true_and] at this
    rw [List.getElem_take]
    exact this
  · intro h a ha
    obtain ⟨k, hk, rfl⟩ := List.getElem_of_mem ha
    rw [kp_at hs hi hk]
    by_cases c : k < i
    · rw [decide_eq_true c, Bool.true_and]
      refine h _ ?_
      rw [List.mem_take_iff_getElem]
      exact ⟨k, by omega, rfl⟩
    · rw [decide_eq_false c, Bool.false_and]
      simp

set_option maxHeartbeats 4000000 in
set_option maxRecDepth 100000 in
theorem granted1_any (T : Tb9) (t B : Nat) (Z : Nat → Prop) (i : Nat) (q : Option Addr) (c : Nat) (w : World) (h : PT9 w B Z t T) (hs : Sz9 T) (hi : i < T.ps.length) (hr : RowR 4 LkR w q T.ps[i].ls) : Calls Try.prog 40 #[.pointer (some ⟨t, 0, none⟩), plV T.ps[i] q c] w fun e w' => e = .returned (.bool (grntI T i)) ∧ Below w.heap.size w w' := by
  rw [← any_grnt hs hi]
  obtain ⟨x, hx⟩ : ∃ x, T.ps[i] = x := ⟨_, rfl⟩
  obtain ⟨q0, cap, hbox, hrow⟩ := h.reads
  have hzt : t < w.heap.size := (Array.getElem?_eq_some_iff.1 hbox).1
  have c0 := (two_of hbox).1.1
  have hps := hs.ps
  have hla : ∀ a ∈ T.ps, a.ls.length ≤ 2147483648 := fun a ha => by have := hs.ls a ha; omega
  have hlx := hla x (hx ▸ List.getElem_mem hi)
  rw [hx] at hr ⊢
  obtain ⟨m, hm⟩ : ∃ m, T.ps.any (kpB x) = m := ⟨_, rfl⟩
  obtain ⟨W1, hW1⟩ : ∃ W1, w.alloc (Obj.cells #[.int .i64 x.pos, .slice q x.ls.length c] 68) = W1 := ⟨_, rfl⟩
  have hbW : Below w.heap.size w W1 := by rw [← hW1]; exact (Below.refl _ _).alloc (Nat.le_refl _) _
  have q1 : W1.cell? ⟨w.heap.size, 0, none⟩ = some (.int .i64 x.pos) := by
    rw [← hW1]
    exact cell_blk (heap_alloc_new w _) rfl
  have q2 : W1.cell? ⟨w.heap.size, 1, none⟩ = some (.slice q x.ls.length c) := by
    rw [← hW1]
    exact cell_blk (heap_alloc_new w _) rfl
  have q3 : W1.cell? ⟨t, 0, none⟩ = some (.slice q0 T.ps.length cap) := cell_later hbW c0
  have HW := Lib.hid hbW
  have hone : w.heap.size < W1.heap.size := by rw [← hW1]; simp
  have HCT := Lib.hid (fun (W : World) (hb : Below W1.heap.size W1 W) (y0 : Nat) (g0 : W.cell? ⟨y0, 0, none⟩ = some (.int .i64 x.pos)) (g1 : W.cell? ⟨y0, 1, none⟩ = some (.slice q x.ls.length c)) => hm ▸ con_keep W q0 cap T.ps x q c y0 (by
    have hb2 : Below w.heap.size w W := hbW.trans (hb.mono hbW.size)
    exact hrow.later hb2 (PlR.later hb2)) (by omega) (hr.later (hbW.trans (hb.mono hbW.size)) fun _ _ h => h) g0 g1 hla hlx)
  have HK := Lib.hid (fun W => keeping_any x q c W)
  rw [hm]
  clear h hs hbox hrow hr hla hx hm
  go_enter Try.func40, Try.ntmps40
  go_wp2_with fail
  try rw [hW1]
  obtain ⟨bx, hbx⟩ : ∃ bx, w.heap.size = bx := ⟨_, rfl⟩
  rw [hbx] at q1 q2 hone
  try rw [hbx]
  have hne1 : bx ≠ t := by omega
  have hne2 : t ≠ bx := fun e => hne1 e.symm
  have htl : t < W1.heap.size := by have := HW.out.size; omega
  clear hW1 hbW c0
  go_region_held3 (fun w' => w'.cell? ⟨bx, 0, none⟩ = some (.int .i64 x.pos) ∧ w'.cell? ⟨bx, 1, none⟩ = some (.slice q x.ls.length c) ∧ w'.cell? ⟨t, 0, none⟩ = some (.slice q0 T.ps.length cap)) (go_simp) (first
    | (go_at_call 47; refine (HK.out _).mono ?_; rintro e w4 ⟨rfl, hw4⟩; (have hb4 : Below W1.heap.size W1 w4 := by rw [hw4]; exact ((Below.refl _ _).drew).alloc (by simp) _); (have HB4 := Lib.hid hb4); (have s1 := cell_later hb4 q1); (have s2 := cell_later hb4 q2); (have s3 := cell_later hb4 q3); (have g0 : w4.cell? ⟨W1.drew.heap.size, 0, none⟩ = some (.int .i64 x.pos) := by rw [hw4]; exact cell_blk (heap_alloc_new W1.drew _) rfl); (have g1 : w4.cell? ⟨W1.drew.heap.size, 1, none⟩ = some (.slice q x.ls.length c) := by rw [hw4]; exact cell_blk (heap_alloc_new W1.drew _) rfl); (have HC := Lib.hid (HCT.out _ hb4 _ g0 g1)); clear hw4 hb4 g0 g1)
    | (go_at_call 49; refine HC.out.mono ?_; rintro e w5 ⟨rfl, hb5⟩; (have hbb := HB4.out.trans (hb5.mono HB4.out.size)); (have HB5 := Lib.hid hbb); (have r1 := cell_later hbb q1); (have r2 := cell_later hbb q2); (have r3 := cell_later hbb q3); clear hbb hb5))
  rename_i hHeld
  clear hHeld s1 s2 s3 r1 r2 r3
  go_wp2
  go_ret
  exact ⟨rfl, HW.out.trans (HB5.out.mono HW.out.size)⟩

/-! ### where a place stands -/
set_option maxHeartbeats 2000000 in
set_option maxRecDepth 100000 in
theorem nan_any (x : Int) (w : World) : Calls Try.prog 59 #[.int .i64 x] w fun e w' => e = .returned (.bool false) ∧ w' = w := by
  go_enter Try.func59, Try.ntmps59
  go_wp2
  go_ret
  exact ⟨by simp, rfl⟩
def cmI (x y : Int) : Int := if x < y then -1 else if x > y then 1 else 0

set_option maxHeartbeats 4000000 in
set_option maxRecDepth 100000 in
theorem compare19_any (x y : Int) (w : World) : Calls Try.prog 52 #[.int .i64 x, .int .i64 y] w fun e w' => e = .returned (.int .i64 (cmI x y)) ∧ w' = w := by
  have HN := Lib.hid (fun W => And.intro (nan_any x W) (nan_any y W))
  by_cases h0 : x < y
  · have HE : Hid (cmI x y = -1) := Lib.hid (by unfold cmI; rw [if_pos h0])
    rw [HE.out]
    go_enter Try.func52, Try.ntmps52
    go_wp2_with (first | (go_at_call 59; refine (HN.out _).1.mono ?_; rintro e w1 ⟨rfl, rfl⟩) | (go_at_call 59; refine (HN.out _).2.mono ?_; rintro e w1 ⟨rfl, rfl⟩))
    go_ret
    exact ⟨rfl, rfl⟩
  · by_cases h1 : x > y
    · have HE : Hid (cmI x y = 1) := Lib.hid (by unfold cmI; rw [if_neg h0, if_pos h1])
      rw [HE.out]
      go_enter Try.func52, Try.ntmps52
      go_wp2_with (first | (go_at_call 59; refine (HN.out _).1.mono ?_; rintro e w1 ⟨rfl, rfl⟩) | (go_at_call 59; refine (HN.out _).2.mono ?_; rintro e w1 ⟨rfl, rfl⟩))
      go_ret
      exact ⟨rfl, rfl⟩
    · have HE : Hid (cmI x y = 0) := Lib.hid (by unfold cmI; rw [if_neg h0, if_neg h1])
      rw [HE.out]
      go_enter Try.func52, Try.ntmps52
      go_wp2_with (first | (go_at_call 59; refine (HN.out _).1.mono ?_; rintro e w1 ⟨rfl, rfl⟩) | (go_at_call 59; refine (HN.out _).2.mono ?_; rintro e w1 ⟨rfl, rfl⟩))
      go_ret
      exact ⟨rfl, rfl⟩

set_option maxHeartbeats 2000000 in
set_option maxRecDepth 100000 in
theorem find1_any (n : Int) (v : Value) (pos : Int) (w : World) : Calls Try.prog 51 #[.agg #[.int .i64 n, v], .int .i64 pos] w fun e w' => e = .returned (.int .i64 (cmI n pos)) ∧ Below w.heap.size w w' := by
  have HC := Lib.hid (fun W => compare19_any n pos W)
  obtain ⟨c, hc⟩ : ∃ c, cmI n pos = c := ⟨_, rfl⟩
  rw [hc] at HC ⊢
  clear hc
  go_enter Try.func51, Try.ntmps51
  go_wp2_with (first | (go_at_call 52; refine (HC.out _).mono ?_; rintro e w1 ⟨rfl, rfl⟩))
  go_ret
  exact ⟨rfl, by (repeat (first | exact Below.refl _ _ | assumption | refine Below.drew ?_ | refine below_drewN ?_ _ | refine Below.alloc ?_ (by first | omega | (simp; done) | (simp; omega)) _ | refine Below.setCell ?_ (by first | omega | (simp; done) | (simp; omega)) _ | refine Below.trans ?_ (Below.mono (by assumption) (by first | omega | (simp; done) | (simp; omega)))))⟩

/-- What is told of where a place stands. -/
def FindI (T : Tb9) (pos : Int) (e : Ending) : Prop := ∃ j : Nat, j ≤ T.ps.length ∧ e = .returned (.tuple #[.int .i64 (j : Int), .bool (atI T pos).isSome]) ∧ ∀ i, atI T pos = some i → i = j
theorem at_yes {T : Tb9} (hs : Sz9 T) {pos : Int} {k : Nat} (hk : k < T.ps.length) (e : T.ps[k].pos = pos) : atI T pos = some k := atI_some hk e fun j hj hjk => by
  have := hs.rise j k hj hk hjk
  omega

set_option maxHeartbeats 8000000 in
set_option maxRecDepth 100000 in
theorem search19_any (w : World) (pa : Option Addr) (cap : Nat) (T : Tb9) (pos : Int) (hr : RowR 2 (PlR w) w pa T.ps) (hs : Sz9 T) :
    Calls Try.prog 50 #[.slice pa T.ps.length cap, .int .i64 pos, .func (.func 51) #[] #[]] w fun e w' => FindI T pos e ∧ Below w.heap.size w w' := by
  have HR := Lib.hid hr
  have HS := Lib.hid hs
  have hps := hs.ps
  clear hr hs
  go_enter Try.func50, Try.ntmps50
  go_wp2
  go_loopw [9, 10] (fun i j wr => ∃ (a b : Nat), i = .int .i64 (a : Int) ∧ j = .int .i64 (b : Int) ∧ a ≤ b ∧ b ≤ T.ps.length ∧ (∀ j (g : j < T.ps.length), j < a → T.ps[j].pos < pos) ∧ (∀ j (g : j < T.ps.length), b ≤ j → pos ≤ T.ps[j].pos) ∧ Below w.heap.size w wr) (fun i j _ => (intOf j).toNat - (intOf i).toNat)
  case atStart => exact ⟨0, T.ps.length, rfl, rfl, Nat.zero_le _, Nat.le_refl _, fun j _ g => absurd g (Nat.not_lt_zero _), fun j g h => by omega, Below.refl _ _⟩
  case round =>
    obtain ⟨a, b, rfl, rfl, hab, hbl, hla, hlb, hbw⟩ := hrel
    have HB := Lib.hid hbw
    have HL := Lib.hid (And.intro hla hlb)
    clear hla hlb
    by_cases hlt : a < b
    · have hlti : (a : Int) < (b : Int) := by omega
      obtain ⟨m, hm⟩ : ∃ m, (a + b) / 2 = m := ⟨_, rfl⟩
      have hma : a ≤ m := by omega
      have hmb : m < b := by omega
      have hmi : (m : Int) < (T.ps.length : Int) := by omega
      have hml : m < T.ps.length := by omega
      obtain ⟨y, hy⟩ : ∃ y, T.ps[m] = y := ⟨_, rfl⟩
      have hat := place_at HR.out hml
      rw [hy] at hat
      obtain ⟨g, off, qk, ck, rfl, p0, p1, _⟩ := hat
      have d0 := cell_later hbw p0
      have d1 := cell_later hbw p1
      have HY := Lib.hid hy
      have hmi2 : ((a : Int) + (b : Int)) / 2 = (m : Int) := by omega
      clear p0 p1 hy hbw
      go_wp2_with fail
      refine (find1_any _ _ pos wr).mono ?_
      rintro e w1 ⟨rfl, hb1⟩
      have HB1 := Lib.hid (HB.out.trans (hb1.mono HB.out.size))
      have HF := Lib.hid (And.intro hma hmb)
      by_cases hc : y.pos < pos
      · rw [show cmI y.pos pos = -1 by unfold cmI; rw [if_pos hc]]
        have HC := Lib.hid hc
        clear hc hb1 d0 d1 hm hma hmb hmi
        go_wp2
        go_roundw
        case rel =>
          refine ⟨m + 1, b, by go_num, rfl, by have := HF.out; omega, hbl, fun j g hj => ?_, HL.out.2, HB1.out⟩
          rcases Nat.lt_or_ge j m with c | c
          · have := HS.out.rise j m g hml c
            rw [HY.out] at this
            have := HC.out
            omega
          · obtain rfl : j = m := by omega
            rw [HY.out]
            exact HC.out
        case measure => have := HF.out; simp [intOf]; omega
      · have hn : ¬ cmI y.pos pos < 0 := by
          unfold cmI
          rw [if_neg hc]
          split <;> decide
        have HC := Lib.hid hc
        obtain ⟨z, hz⟩ : ∃ z, cmI y.pos pos = z := ⟨_, rfl⟩
        rw [hz] at hn ⊢
        clear hc hb1 d0 d1 hm hma hmb hmi hz
        go_wp2
        go_roundw
        case rel =>
          refine ⟨a, m, rfl, by go_num, HF.out.1, by omega, HL.out.1, fun j g hj => ?_, HB1.out⟩
          have hy := HY.out
          have hc := HC.out
          rcases Nat.lt_or_ge m j with c | c
          · have := HS.out.rise m j hml g c
            rw [hy] at this
            omega
          · obtain rfl : j = m := by omega
            rw [hy]
            omega
        case measure => have := HF.out; simp [intOf]; omega
    · obtain rfl : a = b := by omega
      have hlti : ¬ (a : Int) < (a : Int) := by omega
      by_cases hin : a < T.ps.length
      · have hini : (a : Int) < (T.ps.length : Int) := by omega
        obtain ⟨y, hy⟩ : ∃ y, T.ps[a] = y := ⟨_, rfl⟩
        have hat := place_at HR.out hin
        rw [hy] at hat
        obtain ⟨g, off, qk, ck, rfl, p0, p1, _⟩ := hat
        have d0 := cell_later hbw p0
        have d1 := cell_later hbw p1
        have HY := Lib.hid hy
        clear p0 p1 hy hbw hab hlt
        go_wp2_with fail
        refine (find1_any _ _ pos wr).mono ?_
        rintro e w1 ⟨rfl, hb1⟩
        have HB1 := Lib.hid (HB.out.trans (hb1.mono HB.out.size))
        clear d0 d1 hb1
        by_cases hp : y.pos = pos
        · have HE : Hid (atI T pos = some a) := Lib.hid (at_yes HS.out hin (by rw [HY.out]; exact hp))
          rw [show cmI y.pos pos = 0 by unfold cmI; rw [if_neg (by omega), if_neg (by omega)]]
          clear hp
          go_wp2
          refine bodyPost_ret (v := .tuple #[.int .i64 (a : Int), .bool true]) (by simp [results, Try.results50, go_sem]) rfl ?_
          exact ⟨⟨a, hbl, by rw [HE.out]; rfl, fun i hi => by rw [HE.out] at hi; exact (Option.some.inj hi).symm⟩, HB1.out⟩
        · have hpn : pos < y.pos := by have := HL.out.2 a hin (Nat.le_refl _); rw [HY.out] at this; omega
          have HE : Hid (atI T pos = none) := Lib.hid (atI_none fun j h e => by
            rcases Nat.lt_trichotomy j a with c | c | c
            · have := HL.out.1 j h c
              omega
            · subst c
              rw [HY.out] at e
              exact hp e
            · have := HS.out.rise a j hin h c
              rw [HY.out] at this
              omega)
          rw [show cmI y.pos pos = 1 by unfold cmI; rw [if_neg (by omega), if_pos (by omega)]]
          clear hp hpn
          go_wp2
          refine bodyPost_ret (v := .tuple #[.int .i64 (a : Int), .bool false]) (by simp [results, Try.results50, go_sem]) rfl ?_
          exact ⟨⟨a, hbl, by rw [HE.out]; rfl, fun i hi => by rw [HE.out] at hi; cases hi⟩, HB1.out⟩
      · have hini : ¬ (a : Int) < (T.ps.length : Int) := by omega
        have HE : Hid (atI T pos = none) := Lib.hid (atI_none fun j h e => by
          have := HL.out.1 j h (by omega)
          omega)
        clear hbw hab hlt
        go_wp2
        refine bodyPost_ret (v := .tuple #[.int .i64 (a : Int), .bool false]) (by simp [results, Try.results50, go_sem]) rfl ?_
        exact ⟨⟨a, hbl, by rw [HE.out]; rfl, fun i hi => by rw [HE.out] at hi; cases hi⟩, HB.out⟩

set_option maxHeartbeats 2000000 in
set_option maxRecDepth 100000 in
theorem find19_any (T : Tb9) (t B : Nat) (Z : Nat → Prop) (pos : Int) (w : World) (h : PT9 w B Z t T) (hs : Sz9 T) : Calls Try.prog 42 #[.pointer (some ⟨t, 0, none⟩), .int .i64 pos] w fun e w' => FindI T pos e ∧ Below w.heap.size w w' := by
  obtain ⟨q0, cap, hbox, hrow⟩ := h.reads
  have hzt : t < w.heap.size := (Array.getElem?_eq_some_iff.1 hbox).1
  have c0 := (two_of hbox).1.1
  have HS := Lib.hid (search19_any w q0 cap T pos hrow hs)
  clear h hs hbox hrow
  go_enter Try.func42, Try.ntmps42
  go_wp2_with (first | (go_at_call 50; refine HS.out.mono ?_; rintro e w1 ⟨⟨j, hj, rfl, hi⟩, hb⟩; (have HX := Lib.hid hi); (have HB := Lib.hid hb); clear hi hb))
  exact bodyPost_ret (v := .tuple #[.int .i64 (j : Int), .bool (atI T pos).isSome]) (by simp [results, Try.results42, go_sem]) rfl ⟨⟨j, hj, rfl, HX.out⟩, HB.out⟩
end Go.Proofs.Ytefdhmdkcpgfcaa
