/- Walks of layer 19: plays. -/
import Derived.Test.YtefdhmdkcpgfcaaM192
namespace Go.Proofs.Ytefdhmdkcpgfcaa
open Go.RowKit
theorem three_of {w : World} {x : Nat} {a b c : Value} {t : TypeId} (h : w.heap[x]? = some (.cells #[a, b, c] t (0, 0))) : (w.cell? ⟨x, 0, none⟩ = some a ∧ w.cell? ⟨x, 1, none⟩ = some b ∧ w.cell? ⟨x, 2, none⟩ = some c) ∧ w.frozen? ⟨x, 0, none⟩ = false ∧ w.frozen? ⟨x, 1, none⟩ = false ∧ w.frozen? ⟨x, 2, none⟩ = false := by
  simp [World.cell?, World.frozen?, h]
theorem ints19_same (pa pb : Option Addr) (ca cb : Nat) (l : List Int) (w : World) (ra : RowR 1 IntR w pa l) (rb : RowR 1 IntR w pb l) (ha : l.length ≤ 1099511627776) : Calls Try.prog 20 #[.slice pa l.length ca, .slice pb l.length cb] w fun e w' => e = .returned (.bool true) ∧ Below w.heap.size w w' := (ints19_any pa pb ca cb l l w ra rb ha).mono fun _ _ h => ⟨h.1.trans (congrArg (fun b => Ending.returned (.bool b)) (decide_eq_true rfl)), h.2⟩
theorem same19_same (pa pb : Option Addr) (ca cb : Nat) (l : List Lk) (w : World) (ra : RowR 4 LkR w pa l) (rb : RowR 4 LkR w pb l) (ha : l.length ≤ 1099511627776) : Calls Try.prog 32 #[.slice pa l.length ca, .slice pb l.length cb] w fun e w' => e = .returned (.bool true) ∧ ∃ n, w' = w.drewN n := (same19_any pa pb ca cb l l w ra rb ha).mono fun _ _ h => ⟨h.1.trans (congrArg (fun b => Ending.returned (.bool b)) (decide_eq_true rfl)), h.2⟩
/-- What a step tells. -/
def Pl19 (PT : Tm9) (Bp Bd t r : Nat) (w0 : World) (T' : Tb9) (e : Ending) (w' : World) : Prop := e = .returned (.bool true) ∧ ∃ Zp' Zd', Fm w0 [ptR PT Bp Zp' t T', dtR Bd Zd' r T'] (fun _ => True) w'

set_option maxHeartbeats 16000000 in
set_option maxRecDepth 100000 in
theorem plays_free {PT : Tm9} (hL : LocksIs PT) (W P : Int) (l : List Lk) (T : Tb9) (Bp Bd t r : Nat) (Zp Zd : Nat → Prop) (p : Option Addr) (cap : Nat) (w0 w : World) (h : Fm w0 [ptR PT Bp Zp t T, dtR Bd Zd r T] (fun _ => True) w) (hr : RowR 4 LkR w0 p l) (hs : Sz9 T) (hsl : Sl9 l) (hn : T.ps.length < 2147483647) (hp : -9223372036854775808 ≤ P ∧ P ≤ 9223372036854775807) (hw : W = 2) : Calls Try.prog 15 #[.pointer (some ⟨t, 0, none⟩), .pointer (some ⟨r, 0, none⟩), .agg #[.int .i64 W, .int .i64 P, .slice p l.length cap]] w (Pl19 PT Bp Bd t r w0 (step9 T ⟨W, P, l⟩)) := by
  have H := Lib.hid hL
  have HR := Lib.hid hr
  have HS := Lib.hid hs
  have HSL := Lib.hid hsl
  have HN := Lib.hid hn
  have HP := Lib.hid hp
  have h0 := h.box (.cells #[.int .i64 W, .int .i64 P, .slice p l.length cap] 36)
  obtain ⟨g0, hg0⟩ : ∃ g0, w.heap.size = g0 := ⟨_, rfl⟩
  rw [hg0] at h0
  obtain ⟨W1, hW1⟩ : ∃ W1, w.alloc (.cells #[.int .i64 W, .int .i64 P, .slice p l.length cap] 36) = W1 := ⟨_, rfl⟩
  rw [hW1] at h0
  have F0 := Lib.hid h0
  have hw1 := Lib.hid hW1
  have hgg := Lib.hid hg0
  clear hL hr hs hsl hn hp h h0 hW1 hg0
  subst hw
  go_enter Try.func15, Try.ntmps15
  go_wp2_with fail
  rw [hw1.out, hgg.out]
  refine (H.out.release T t _ _ P _ (F0.out.at 1 rfl) HS.out HP.out.1 HP.out.2).mono ?_
  rintro e w2 ⟨rfl, hq⟩
  obtain ⟨Zp1, hF⟩ := F0.out.turnP H.out 1 rfl hq
  clear hq
  have F1 := Lib.hid (hF)
  clear F0
  clear hF
  have z := three_of (F1.out.at 0 rfl)
  go_wp2_with fail
  clear z
  refine (rfree_any T r _ _ P _ (F1.out.at 2 rfl) HS.out.sm).mono ?_
  rintro e w3 ⟨rfl, hq⟩
  obtain ⟨Zd1, hF⟩ := F1.out.turnD 2 rfl hq
  clear hq
  have F2 := Lib.hid (hF)
  clear F1
  clear hF
  have z := three_of (F2.out.at 0 rfl)
  go_wp2_with fail
  clear z
  go_ret
  exact ⟨ret_bool (by simp), Zp1, Zd1, F2.out.drop⟩

set_option maxHeartbeats 16000000 in
set_option maxRecDepth 100000 in
theorem plays_waits {PT : Tm9} (hL : LocksIs PT) (W P : Int) (l : List Lk) (T : Tb9) (Bp Bd t r : Nat) (Zp Zd : Nat → Prop) (p : Option Addr) (cap : Nat) (w0 w : World) (h : Fm w0 [ptR PT Bp Zp t T, dtR Bd Zd r T] (fun _ => True) w) (hr : RowR 4 LkR w0 p l) (hs : Sz9 T) (hsl : Sl9 l) (hn : T.ps.length < 2147483647) (hp : -9223372036854775808 ≤ P ∧ P ≤ 9223372036854775807) (hw : W = 4) : Calls Try.prog 15 #[.pointer (some ⟨t, 0, none⟩), .pointer (some ⟨r, 0, none⟩), .agg #[.int .i64 W, .int .i64 P, .slice p l.length cap]] w (Pl19 PT Bp Bd t r w0 (step9 T ⟨W, P, l⟩)) := by
  have H := Lib.hid hL
  have HR := Lib.hid hr
  have HS := Lib.hid hs
  have HSL := Lib.hid hsl
  have HN := Lib.hid hn
  have HP := Lib.hid hp
  have h0 := h.box (.cells #[.int .i64 W, .int .i64 P, .slice p l.length cap] 36)
  obtain ⟨g0, hg0⟩ : ∃ g0, w.heap.size = g0 := ⟨_, rfl⟩
  rw [hg0] at h0
  obtain ⟨W1, hW1⟩ : ∃ W1, w.alloc (.cells #[.int .i64 W, .int .i64 P, .slice p l.length cap] 36) = W1 := ⟨_, rfl⟩
  rw [hW1] at h0
  have F0 := Lib.hid h0
  have hw1 := Lib.hid hW1
  have hgg := Lib.hid hg0
  clear hL hr hs hsl hn hp h h0 hW1 hg0
  subst hw
  go_enter Try.func15, Try.ntmps15
  go_wp2_with fail
  rw [hw1.out, hgg.out]
  refine (H.out.waits T t _ _ P _ (F0.out.at 1 rfl) HS.out HP.out.1 HP.out.2).mono ?_
  rintro e w2 ⟨v, rfl, ho, hb⟩
  obtain ⟨p1, c1, rfl, _⟩ := ho.form
  have hq := F0.out.pushOwn hb ho
  clear hb ho
  have F1 := Lib.hid (hq)
  clear F0
  clear hq
  have z := three_of (F1.out.at 1 rfl)
  go_wp2_with fail
  clear z
  refine (rwaitsR_any T r _ _ P _ (F1.out.at 3 rfl) HS.out.sm).mono ?_
  rintro e w3 ⟨v, rfl, ho, hb⟩
  obtain ⟨p2, c2, rfl, _⟩ := ho.form
  have hq := F1.out.pushOwn hb ho
  clear hb ho
  have F2 := Lib.hid (hq)
  clear F1
  clear hq
  have z := three_of (F2.out.at 2 rfl)
  go_wp2_with fail
  clear z
  refine (ints19_same p1 p2 c1 c2 _ _ (F2.out.ownRow 1 rfl) (F2.out.ownRow 0 rfl) (by have := waitR_len T P; have := HN.out; omega)).mono ?_
  rintro e w4 ⟨rfl, hb⟩
  have hq := F2.out.call hb
  clear hb
  have F3 := Lib.hid (hq)
  clear F2
  clear hq
  have z := three_of (F3.out.at 2 rfl)
  go_wp2_with fail
  clear z
  go_ret
  exact ⟨ret_bool (by simp), Zp, Zd, F3.out.drop.drop.drop⟩

set_option maxHeartbeats 16000000 in
set_option maxRecDepth 100000 in
theorem plays_else {PT : Tm9} (hL : LocksIs PT) (W P : Int) (l : List Lk) (T : Tb9) (Bp Bd t r : Nat) (Zp Zd : Nat → Prop) (p : Option Addr) (cap : Nat) (w0 w : World) (h : Fm w0 [ptR PT Bp Zp t T, dtR Bd Zd r T] (fun _ => True) w) (hr : RowR 4 LkR w0 p l) (hs : Sz9 T) (hsl : Sl9 l) (hn : T.ps.length < 2147483647) (hp : -9223372036854775808 ≤ P ∧ P ≤ 9223372036854775807) (n1 : ¬ W = 1) (n2 : ¬ W = 2) (n4 : ¬ W = 4) (n5 : ¬ W = 5) : Calls Try.prog 15 #[.pointer (some ⟨t, 0, none⟩), .pointer (some ⟨r, 0, none⟩), .agg #[.int .i64 W, .int .i64 P, .slice p l.length cap]] w (Pl19 PT Bp Bd t r w0 (step9 T ⟨W, P, l⟩)) := by
  have H := Lib.hid hL
  have HR := Lib.hid hr
  have HS := Lib.hid hs
  have HSL := Lib.hid hsl
  have HN := Lib.hid hn
  have HP := Lib.hid hp
  have h0 := h.box (.cells #[.int .i64 W, .int .i64 P, .slice p l.length cap] 36)
  obtain ⟨g0, hg0⟩ : ∃ g0, w.heap.size = g0 := ⟨_, rfl⟩
  rw [hg0] at h0
  obtain ⟨W1, hW1⟩ : ∃ W1, w.alloc (.cells #[.int .i64 W, .int .i64 P, .slice p l.length cap] 36) = W1 := ⟨_, rfl⟩
  rw [hW1] at h0
  have F0 := Lib.hid h0
  have hw1 := Lib.hid hW1
  have hgg := Lib.hid hg0
  clear hL hr hs hsl hn hp h h0 hW1 hg0
  go_enter Try.func15, Try.ntmps15
  go_wp2_with fail
  rw [hw1.out, hgg.out]
  refine (H.out.ready T t _ _ _ (F0.out.at 1 rfl) HS.out).mono ?_
  rintro e w2 ⟨v, rfl, ho, hb⟩
  obtain ⟨p1, c1, rfl, _⟩ := ho.form
  have hq := F0.out.pushOwn hb ho
  clear hb ho
  have F1 := Lib.hid (hq)
  clear F0
  clear hq
  have z := three_of (F1.out.at 1 rfl)
  go_wp2_with fail
  clear z
  refine (rgranted_any T r _ _ _ (F1.out.at 3 rfl) HS.out.sm).mono ?_
  rintro e w3 ⟨v, rfl, ho, hb⟩
  obtain ⟨p2, c2, rfl, _⟩ := ho.form
  have hq := F1.out.pushOwn hb ho
  clear hb ho
  have F2 := Lib.hid (hq)
  clear F1
  clear hq
  have z := three_of (F2.out.at 2 rfl)
  go_wp2_with fail
  clear z
  refine (ints19_same p1 p2 c1 c2 _ _ (F2.out.ownRow 1 rfl) (F2.out.ownRow 0 rfl) (by have := grntL_len T; have := HN.out; omega)).mono ?_
  rintro e w4 ⟨rfl, hb⟩
  have hq := F2.out.call hb
  clear hb
  have F3 := Lib.hid (hq)
  clear F2
  clear hq
  have z := three_of (F3.out.at 2 rfl)
  go_wp2_with fail
  clear z
  refine (H.out.granted T t _ _ P _ (F3.out.at 3 rfl) HS.out HP.out.1 HP.out.2).mono ?_
  rintro e w5 ⟨rfl, hb⟩
  have hq := F3.out.call hb
  clear hb
  have F4 := Lib.hid (hq)
  clear F3
  clear hq
  have z := three_of (F4.out.at 2 rfl)
  go_wp2_with fail
  clear z
  refine (has19_any p2 c2 (grntL T) P _ (F4.out.ownRow 0 rfl) (by have := grntL_len T; have := HN.out; omega)).mono ?_
  rw [← isGr_eq HS.out]
  rintro e w7 ⟨rfl, rfl⟩
  generalize isGr T P = q
  have F5 := Lib.hid (F4.out.drop)
  clear F4
  have hlb := grntL_len T
  have hnn := HN.out
  have z := three_of (F5.out.at 1 rfl)
  go_wp2_with fail
  clear z
  have hF := F5.out.ownOv
  have F6 := Lib.hid (hF)
  clear F5
  clear hF
  go_loopw [29] (fun i wr => ∃ k : Nat, k ≤ (grntL T).length ∧ i = .int .i64 k ∧ Fm w0 [ovR 1 3 (.slice p1 (grntL T).length c1) (grntL T).length, bx g0 (.cells #[.int .i64 W, .int .i64 P, .slice p l.length cap] 36), ptR PT Bp Zp t T, dtR Bd Zd r T] (fun _ => True) wr) (fun i _ => (grntL T).length - (intOf i).toNat)
  case atStart => exact ⟨0, Nat.zero_le _, rfl, F6.out⟩
  case round =>
    obtain ⟨k, hk, rfl, hF⟩ := hrel
    have HF := Lib.hid hF
    clear hF
    by_cases hlt : k < (grntL T).length
    · have hlti : (k : Int) < ((grntL T).length : Int) := by omega
      obtain ⟨g, rfl, hc, hw9⟩ := HF.out.ovAt hlt
      have HW := Lib.hid hw9
      clear hw9
      have q0 := hc 0 (by decide)
      simp only [Nat.add_zero, Nat.zero_add, Nat.mul_one] at q0
      clear hc
      obtain ⟨⟨u0, a0⟩, z0⟩ : (∃ u, _ = some u) ∧ _ := ⟨Option.isSome_iff_exists.1 q0.1, q0.2⟩
      clear q0
      go_wp2
      go_roundw
      case rel => exact ⟨k + 1, by omega, by go_num, HW.out _ [.int .i64 (-1)]⟩
      case measure => simp [intOf]; omega
    · have hlti : ¬ (k : Int) < ((grntL T).length : Int) := by omega
      cases q <;> (go_wp2; go_ret; exact ⟨ret_bool (by simp), Zp, Zd, by have h := HF.out.drop.drop; simpa [step9, n1, n2] using h⟩)

set_option maxHeartbeats 16000000 in
set_option maxRecDepth 100000 in
theorem plays_locks {PT : Tm9} (hL : LocksIs PT) (W P : Int) (l : List Lk) (T : Tb9) (Bp Bd t r : Nat) (Zp Zd : Nat → Prop) (p : Option Addr) (cap : Nat) (w0 w : World) (h : Fm w0 [ptR PT Bp Zp t T, dtR Bd Zd r T] (fun _ => True) w) (hr : RowR 4 LkR w0 p l) (hs : Sz9 T) (hsl : Sl9 l) (hn : T.ps.length < 2147483647) (hp : -9223372036854775808 ≤ P ∧ P ≤ 9223372036854775807) (hw : W = 5) : Calls Try.prog 15 #[.pointer (some ⟨t, 0, none⟩), .pointer (some ⟨r, 0, none⟩), .agg #[.int .i64 W, .int .i64 P, .slice p l.length cap]] w (Pl19 PT Bp Bd t r w0 (step9 T ⟨W, P, l⟩)) := by
  have H := Lib.hid hL
  have HR := Lib.hid hr
  have HS := Lib.hid hs
  have HSL := Lib.hid hsl
  have HN := Lib.hid hn
  have HP := Lib.hid hp
  have h0 := h.box (.cells #[.int .i64 W, .int .i64 P, .slice p l.length cap] 36)
  obtain ⟨g0, hg0⟩ : ∃ g0, w.heap.size = g0 := ⟨_, rfl⟩
  rw [hg0] at h0
  obtain ⟨W1, hW1⟩ : ∃ W1, w.alloc (.cells #[.int .i64 W, .int .i64 P, .slice p l.length cap] 36) = W1 := ⟨_, rfl⟩
  rw [hW1] at h0
  have F0 := Lib.hid h0
  have hw1 := Lib.hid hW1
  have hgg := Lib.hid hg0
  clear hL hr hs hsl hn hp h h0 hW1 hg0
  subst hw
  go_enter Try.func15, Try.ntmps15
  go_wp2_with fail
  rw [hw1.out, hgg.out]
  refine (H.out.locks T t _ _ P _ (F0.out.at 1 rfl) HS.out HP.out.1 HP.out.2).mono ?_
  rintro e w2 ⟨v, rfl, ho, hb⟩
  obtain ⟨p1, c1, rfl, _⟩ := ho.form
  have hq := F0.out.pushOwn hb ho
  clear hb ho
  have F1 := Lib.hid (hq)
  clear F0
  clear hq
  have z := three_of (F1.out.at 1 rfl)
  go_wp2_with fail
  clear z
  refine (rlocks_any T r _ _ P _ (F1.out.at 3 rfl) HS.out.sm).mono ?_
  rintro e w3 ⟨v, rfl, ho, hb⟩
  obtain ⟨p2, c2, rfl, _⟩ := ho.form
  have hq := F1.out.pushOwn hb ho
  clear hb ho
  have F2 := Lib.hid (hq)
  clear F1
  clear hq
  have z := three_of (F2.out.at 2 rfl)
  go_wp2_with fail
  clear z
  have hlb := lockR_len HS.out P
  refine (same19_same p1 p2 c1 c2 _ _ (F2.out.ownRow 1 rfl) (F2.out.ownRow 0 rfl) (by omega)).mono ?_
  rintro e w4 ⟨rfl, hqq⟩
  have hq := F2.out.call (quiet_below hqq)
  clear hqq
  have F3 := Lib.hid (hq)
  clear F2
  clear hq
  have F4 := Lib.hid (F3.out.drop)
  clear F3
  have z := three_of (F4.out.at 1 rfl)
  go_wp2_with fail
  clear z
  have hF := F4.out.ownOv
  have F5 := Lib.hid (hF)
  clear F4
  clear hF
  go_loopw [23] (fun i wr => ∃ k : Nat, k ≤ (lockR T P).1.length ∧ i = .int .i64 k ∧ Fm w0 [ovR 4 23 (.slice p1 (lockR T P).1.length c1) (lockR T P).1.length, bx g0 (.cells #[.int .i64 5, .int .i64 P, .slice p l.length cap] 36), ptR PT Bp Zp t T, dtR Bd Zd r T] (fun _ => True) wr) (fun i _ => (lockR T P).1.length - (intOf i).toNat)
  case atStart => exact ⟨0, Nat.zero_le _, rfl, F5.out⟩
  case round =>
    obtain ⟨k, hk, rfl, hF⟩ := hrel
    have HF := Lib.hid hF
    clear hF
    by_cases hlt : k < (lockR T P).1.length
    · have hlti : (k : Int) < ((lockR T P).1.length : Int) := by omega
      obtain ⟨g, rfl, hc, hw9⟩ := HF.out.ovAt hlt
      have HW := Lib.hid hw9
      clear hw9
      have q0 := hc 0 (by decide)
      simp only [Nat.add_zero, Nat.zero_add] at q0
      clear hc
      obtain ⟨⟨u0, a0⟩, z0⟩ : (∃ u, _ = some u) ∧ _ := ⟨Option.isSome_iff_exists.1 q0.1, q0.2⟩
      clear q0
      go_wp2
      go_roundw
      case rel => exact ⟨k + 1, by omega, by go_num, HW.out _ [.int .i64 5]⟩
      case measure => simp [intOf]; omega
    · have hlti : ¬ (k : Int) < ((lockR T P).1.length : Int) := by omega
      go_wp2
      go_ret
      exact ⟨ret_bool (by simp), Zp, Zd, HF.out.drop.drop⟩
end Go.Proofs.Ytefdhmdkcpgfcaa
