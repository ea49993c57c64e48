/- The laws' function plays of layer 4. -/
import Derived.Test.YtejbelbfmchadaaE18
import Derived.Test.YtejbelbfmchadaaE16
import Derived.Test.YtejbelbfmchadaaC1
namespace Go.Proofs.Ytejbelbfmchadaa
open Go.RowKit

theorem stepR_few (st : St) (e : Int) (f : Fs → Fs) : (stepR st e f).2.steps ≤ st.steps + 1 := by
  unfold stepR
  split
  · exact Nat.le_succ _
  · split
    · exact Nat.le_succ _
    · split
      · exact Nat.le_succ _
      · exact Nat.le_refl _
theorem armR_few (st : St) (n : Int) : (armR st n).2.steps ≤ st.steps + 1 := by
  unfold armR
  split
  · exact Nat.le_succ _
  · split
    · exact Nat.le_succ _
    · exact Nat.le_succ _

/-- What plays leaves. -/
def PL (B : Nat) (N : Nat → Prop) (w : World) (a c : Nat) (st : St) (e : Ending) (w' : World) : Prop :=
  e = .returned (.bool true) ∧ (∃ st', Both B N w' a c st' st' ∧ st'.steps ≤ st.steps + 1) ∧ Below B w w'
/-- What is known of a step of a script. -/
structure OpOk (B : Nat) (w : World) (x : OpV) : Prop where
  small : OSmall x
  keep : Ints w x.kp x.ks
  cap : x.ks.length ≤ x.kc
  num : x.n ≤ 9223372036854775807
  low : 0 < x.ks.length → ∀ b off, x.kp = some ⟨b, off, none⟩ → b < B

theorem box6 (w : World) (u0 u1 u2 u3 u4 u5 : Value) (t : TypeId) : (w.alloc (.cells #[u0, u1, u2, u3, u4, u5] t)).cell? ⟨w.heap.size, 0, none⟩ = some u0 ∧ (w.alloc (.cells #[u0, u1, u2, u3, u4, u5] t)).cell? ⟨w.heap.size, 1, none⟩ = some u1 ∧ (w.alloc (.cells #[u0, u1, u2, u3, u4, u5] t)).cell? ⟨w.heap.size, 2, none⟩ = some u2 ∧ (w.alloc (.cells #[u0, u1, u2, u3, u4, u5] t)).cell? ⟨w.heap.size, 3, none⟩ = some u3 ∧ (w.alloc (.cells #[u0, u1, u2, u3, u4, u5] t)).cell? ⟨w.heap.size, 4, none⟩ = some u4 ∧ (w.alloc (.cells #[u0, u1, u2, u3, u4, u5] t)).cell? ⟨w.heap.size, 5, none⟩ = some u5 := by
  simp

set_option maxHeartbeats 8000000 in
set_option maxRecDepth 100000 in
theorem plays_1 (B : Nat) (N : Nat → Prop) (w : World) (a c : Nat) (st : St) (x : OpV) (h : Both B N w a c st st) (hx : OpOk B w x) (hst : st.steps < 4611686018427387904) :
    Calls Try.prog 13 #[.pointer (some ⟨a, 0, none⟩), .pointer (some ⟨c, 0, none⟩), .agg #[.int .i64 1, .string x.a, .string x.b, .string x.data, .int .i64 x.n, .slice x.kp x.ks.length x.kc]] w (PL B N w a c st) := by
  obtain ⟨hs1, hs2, hs3, hs4⟩ := hx.small
  obtain ⟨w0, hw0⟩ : ∃ w0, w.alloc (.cells #[.int .i64 1, .string x.a, .string x.b, .string x.data, .int .i64 x.n, .slice x.kp x.ks.length x.kc] 39) = w0 := ⟨_, rfl⟩
  obtain ⟨d0, d1, d2, d3, d4, d5⟩ := box6 w (.int .i64 1) (.string x.a) (.string x.b) (.string x.data) (.int .i64 x.n) (.slice x.kp x.ks.length x.kc) 39
  have hb0 : Below w.heap.size w w0 := by rw [← hw0]; exact (Below.refl _ _).alloc (Nat.le_refl _) _
  have hsz0 : w0.heap.size = w.heap.size + 1 := by rw [← hw0]; simp
  rw [hw0] at d0 d1 d2 d3 d4 d5
  have H0 := h.more hb0
  have hBs := h.base
  have HB0 : Hid (Below B w w0) := hb0.mono hBs
  have hbx : w.heap.size < w0.heap.size := by omega
  have HIN : Hid ((fun k => N k ∨ (w.heap.size ≤ k ∧ k < w0.heap.size)) w.heap.size) := Or.inr ⟨Nat.le_refl _, hbx⟩
  have hok := h.ok
  obtain ⟨Z, hd, hZ, hstep⟩ := H0.disk
  clear H0 h
  go_enter Try.func13, Try.ntmps13
  go_wp2_with fail
  try rw [hw0]
  refine (append_any w0 Z a st x.a x.data hd hZ hst).mono ?_
  rintro e w1 ⟨rfl, hi1, ho1⟩
  obtain ⟨H1, hb1, hn1⟩ := hstep w1 _ hi1 ho1
  have e1 := cell_at (hn1 _ HIN.out) d1
  have e2 := cell_at (hn1 _ HIN.out) d2
  have e3 := cell_at (hn1 _ HIN.out) d3
  have e4 := cell_at (hn1 _ HIN.out) d4
  obtain ⟨Z2, v2, hr, hZ2, _, hstep2⟩ := H1.ref
  have HB1 : Hid (Below B w w1) := HB0.out.trans hb1
  clear H1 hi1 ho1 hb1 hn1 hstep d0 d1 d2 d3 d4 d5 hd hZ hw0
  go_wp2_with fail
  refine (rappend_any w1 Z2 c st v2 x.a x.data (by omega) hs1 hst hok.low hok.high hok.files hr hZ2).mono ?_
  rintro e w2 ⟨rfl, hi2, ho2⟩
  obtain ⟨H2, hb2, _⟩ := hstep2 w2 _ hi2 ho2
  have HF : Hid (∃ st', Both B N w2 a c st' st' ∧ st'.steps ≤ st.steps + 1) := ⟨_, H2.less fun k hk => Or.inl hk, stepR_few _ _ _⟩
  have HB2 : Hid (Below B w w2) := HB1.out.trans hb2
  obtain ⟨E, hE⟩ : ∃ E, (appR st x.a.data.toList x.data.data.toList).1 = E := ⟨_, rfl⟩
  rw [hE]
  clear H2 hi2 ho2 hb2 hstep2 hr hE e1 e2 e3 e4
  go_wp2
  go_ret
  exact ⟨rfl, HF.out, HB2.out⟩

set_option maxHeartbeats 8000000 in
set_option maxRecDepth 100000 in
theorem plays_2 (B : Nat) (N : Nat → Prop) (w : World) (a c : Nat) (st : St) (x : OpV) (h : Both B N w a c st st) (hx : OpOk B w x) (hst : st.steps < 4611686018427387904) :
    Calls Try.prog 13 #[.pointer (some ⟨a, 0, none⟩), .pointer (some ⟨c, 0, none⟩), .agg #[.int .i64 2, .string x.a, .string x.b, .string x.data, .int .i64 x.n, .slice x.kp x.ks.length x.kc]] w (PL B N w a c st) := by
  obtain ⟨hs1, hs2, hs3, hs4⟩ := hx.small
  obtain ⟨w0, hw0⟩ : ∃ w0, w.alloc (.cells #[.int .i64 2, .string x.a, .string x.b, .string x.data, .int .i64 x.n, .slice x.kp x.ks.length x.kc] 39) = w0 := ⟨_, rfl⟩
  obtain ⟨d0, d1, d2, d3, d4, d5⟩ := box6 w (.int .i64 2) (.string x.a) (.string x.b) (.string x.data) (.int .i64 x.n) (.slice x.kp x.ks.length x.kc) 39
  have hb0 : Below w.heap.size w w0 := by rw [← hw0]; exact (Below.refl _ _).alloc (Nat.le_refl _) _
  have hsz0 : w0.heap.size = w.heap.size + 1 := by rw [← hw0]; simp
  rw [hw0] at d0 d1 d2 d3 d4 d5
  have H0 := h.more hb0
  have hBs := h.base
  have HB0 : Hid (Below B w w0) := hb0.mono hBs
  have hbx : w.heap.size < w0.heap.size := by omega
  have HIN : Hid ((fun k => N k ∨ (w.heap.size ≤ k ∧ k < w0.heap.size)) w.heap.size) := Or.inr ⟨Nat.le_refl _, hbx⟩
  have hok := h.ok
  obtain ⟨Z, hd, hZ, hstep⟩ := H0.disk
  clear H0 h
  go_enter Try.func13, Try.ntmps13
  go_wp2_with fail
  try rw [hw0]
  refine (sync_any w0 Z a st x.a hd hZ hst).mono ?_
  rintro e w1 ⟨rfl, hi1, ho1⟩
  obtain ⟨H1, hb1, hn1⟩ := hstep w1 _ hi1 ho1
  have e1 := cell_at (hn1 _ HIN.out) d1
  have e2 := cell_at (hn1 _ HIN.out) d2
  have e3 := cell_at (hn1 _ HIN.out) d3
  have e4 := cell_at (hn1 _ HIN.out) d4
  obtain ⟨Z2, v2, hr, hZ2, _, hstep2⟩ := H1.ref
  have HB1 : Hid (Below B w w1) := HB0.out.trans hb1
  clear H1 hi1 ho1 hb1 hn1 hstep d0 d1 d2 d3 d4 d5 hd hZ hw0
  go_wp2_with fail
  refine (rsync_any w1 Z2 c st v2 x.a (by omega) hst hok.low hok.high hr).mono ?_
  rintro e w2 ⟨rfl, hi2, ho2⟩
  obtain ⟨H2, hb2, _⟩ := hstep2 w2 _ hi2 ho2
  have HF : Hid (∃ st', Both B N w2 a c st' st' ∧ st'.steps ≤ st.steps + 1) := ⟨_, H2.less fun k hk => Or.inl hk, stepR_few _ _ _⟩
  have HB2 : Hid (Below B w w2) := HB1.out.trans hb2
  obtain ⟨E, hE⟩ : ∃ E, (synR st x.a.data.toList).1 = E := ⟨_, rfl⟩
  rw [hE]
  clear H2 hi2 ho2 hb2 hstep2 hr hE e1 e2 e3 e4
  go_wp2
  go_ret
  exact ⟨rfl, HF.out, HB2.out⟩

set_option maxHeartbeats 8000000 in
set_option maxRecDepth 100000 in
theorem plays_3 (B : Nat) (N : Nat → Prop) (w : World) (a c : Nat) (st : St) (x : OpV) (h : Both B N w a c st st) (hx : OpOk B w x) (hst : st.steps < 4611686018427387904) :
    Calls Try.prog 13 #[.pointer (some ⟨a, 0, none⟩), .pointer (some ⟨c, 0, none⟩), .agg #[.int .i64 3, .string x.a, .string x.b, .string x.data, .int .i64 x.n, .slice x.kp x.ks.length x.kc]] w (PL B N w a c st) := by
  obtain ⟨hs1, hs2, hs3, hs4⟩ := hx.small
  obtain ⟨w0, hw0⟩ : ∃ w0, w.alloc (.cells #[.int .i64 3, .string x.a, .string x.b, .string x.data, .int .i64 x.n, .slice x.kp x.ks.length x.kc] 39) = w0 := ⟨_, rfl⟩
  obtain ⟨d0, d1, d2, d3, d4, d5⟩ := box6 w (.int .i64 3) (.string x.a) (.string x.b) (.string x.data) (.int .i64 x.n) (.slice x.kp x.ks.length x.kc) 39
  have hb0 : Below w.heap.size w w0 := by rw [← hw0]; exact (Below.refl _ _).alloc (Nat.le_refl _) _
  have hsz0 : w0.heap.size = w.heap.size + 1 := by rw [← hw0]; simp
  rw [hw0] at d0 d1 d2 d3 d4 d5
  have H0 := h.more hb0
  have hBs := h.base
  have HB0 : Hid (Below B w w0) := hb0.mono hBs
  have hbx : w.heap.size < w0.heap.size := by omega
  have HIN : Hid ((fun k => N k ∨ (w.heap.size ≤ k ∧ k < w0.heap.size)) w.heap.size) := Or.inr ⟨Nat.le_refl _, hbx⟩
  have hok := h.ok
  obtain ⟨Z, hd, hZ, hstep⟩ := H0.disk
  clear H0 h
  go_enter Try.func13, Try.ntmps13
  go_wp2_with fail
  try rw [hw0]
  refine (rename_any w0 Z a st x.a x.b hd hZ hst).mono ?_
  rintro e w1 ⟨rfl, hi1, ho1⟩
  obtain ⟨H1, hb1, hn1⟩ := hstep w1 _ hi1 ho1
  have e1 := cell_at (hn1 _ HIN.out) d1
  have e2 := cell_at (hn1 _ HIN.out) d2
  have e3 := cell_at (hn1 _ HIN.out) d3
  have e4 := cell_at (hn1 _ HIN.out) d4
  obtain ⟨Z2, v2, hr, hZ2, _, hstep2⟩ := H1.ref
  have HB1 : Hid (Below B w w1) := HB0.out.trans hb1
  clear H1 hi1 ho1 hb1 hn1 hstep d0 d1 d2 d3 d4 d5 hd hZ hw0
  go_wp2_with fail
  refine (rrename_any w1 Z2 c st v2 x.a x.b (by omega) (by omega) hst hok.low hok.high hok.files.few hr hZ2).mono ?_
  rintro e w2 ⟨rfl, hi2, ho2⟩
  obtain ⟨H2, hb2, _⟩ := hstep2 w2 _ hi2 ho2
  have HF : Hid (∃ st', Both B N w2 a c st' st' ∧ st'.steps ≤ st.steps + 1) := ⟨_, H2.less fun k hk => Or.inl hk, stepR_few _ _ _⟩
  have HB2 : Hid (Below B w w2) := HB1.out.trans hb2
  obtain ⟨E, hE⟩ : ∃ E, (renR st x.a.data.toList x.b.data.toList).1 = E := ⟨_, rfl⟩
  rw [hE]
  clear H2 hi2 ho2 hb2 hstep2 hr hE e1 e2 e3 e4
  go_wp2
  go_ret
  exact ⟨rfl, HF.out, HB2.out⟩

set_option maxHeartbeats 8000000 in
set_option maxRecDepth 100000 in
theorem plays_4 (B : Nat) (N : Nat → Prop) (w : World) (a c : Nat) (st : St) (x : OpV) (h : Both B N w a c st st) (hx : OpOk B w x) (hst : st.steps < 4611686018427387904) :
    Calls Try.prog 13 #[.pointer (some ⟨a, 0, none⟩), .pointer (some ⟨c, 0, none⟩), .agg #[.int .i64 4, .string x.a, .string x.b, .string x.data, .int .i64 x.n, .slice x.kp x.ks.length x.kc]] w (PL B N w a c st) := by
  obtain ⟨hs1, hs2, hs3, hs4⟩ := hx.small
  obtain ⟨w0, hw0⟩ : ∃ w0, w.alloc (.cells #[.int .i64 4, .string x.a, .string x.b, .string x.data, .int .i64 x.n, .slice x.kp x.ks.length x.kc] 39) = w0 := ⟨_, rfl⟩
  obtain ⟨d0, d1, d2, d3, d4, d5⟩ := box6 w (.int .i64 4) (.string x.a) (.string x.b) (.string x.data) (.int .i64 x.n) (.slice x.kp x.ks.length x.kc) 39
  have hb0 : Below w.heap.size w w0 := by rw [← hw0]; exact (Below.refl _ _).alloc (Nat.le_refl _) _
  have hsz0 : w0.heap.size = w.heap.size + 1 := by rw [← hw0]; simp
  rw [hw0] at d0 d1 d2 d3 d4 d5
  have H0 := h.more hb0
  have hBs := h.base
  have HB0 : Hid (Below B w w0) := hb0.mono hBs
  have hbx : w.heap.size < w0.heap.size := by omega
  have HIN : Hid ((fun k => N k ∨ (w.heap.size ≤ k ∧ k < w0.heap.size)) w.heap.size) := Or.inr ⟨Nat.le_refl _, hbx⟩
  have hok := h.ok
  obtain ⟨Z, hd, hZ, hstep⟩ := H0.disk
  clear H0 h
  go_enter Try.func13, Try.ntmps13
  go_wp2_with fail
  try rw [hw0]
  refine (remove_any w0 Z a st x.a hd hZ hst).mono ?_
  rintro e w1 ⟨rfl, hi1, ho1⟩
  obtain ⟨H1, hb1, hn1⟩ := hstep w1 _ hi1 ho1
  have e1 := cell_at (hn1 _ HIN.out) d1
  have e2 := cell_at (hn1 _ HIN.out) d2
  have e3 := cell_at (hn1 _ HIN.out) d3
  have e4 := cell_at (hn1 _ HIN.out) d4
  obtain ⟨Z2, v2, hr, hZ2, _, hstep2⟩ := H1.ref
  have HB1 : Hid (Below B w w1) := HB0.out.trans hb1
  clear H1 hi1 ho1 hb1 hn1 hstep d0 d1 d2 d3 d4 d5 hd hZ hw0
  go_wp2_with fail
  refine (rremove_any w1 Z2 c st v2 x.a (by omega) hst hok.low hok.high hr hZ2).mono ?_
  rintro e w2 ⟨rfl, hi2, ho2⟩
  obtain ⟨H2, hb2, _⟩ := hstep2 w2 _ hi2 ho2
  have HF : Hid (∃ st', Both B N w2 a c st' st' ∧ st'.steps ≤ st.steps + 1) := ⟨_, H2.less fun k hk => Or.inl hk, stepR_few _ _ _⟩
  have HB2 : Hid (Below B w w2) := HB1.out.trans hb2
  obtain ⟨E, hE⟩ : ∃ E, (remR st x.a.data.toList).1 = E := ⟨_, rfl⟩
  rw [hE]
  clear H2 hi2 ho2 hb2 hstep2 hr hE e1 e2 e3 e4
  go_wp2
  go_ret
  exact ⟨rfl, HF.out, HB2.out⟩

set_option maxHeartbeats 8000000 in
set_option maxRecDepth 100000 in
theorem plays_6 (B : Nat) (N : Nat → Prop) (w : World) (a c : Nat) (st : St) (x : OpV) (h : Both B N w a c st st) (hx : OpOk B w x) :
    Calls Try.prog 13 #[.pointer (some ⟨a, 0, none⟩), .pointer (some ⟨c, 0, none⟩), .agg #[.int .i64 6, .string x.a, .string x.b, .string x.data, .int .i64 x.n, .slice x.kp x.ks.length x.kc]] w (PL B N w a c st) := by
  obtain ⟨hs1, hs2, hs3, hs4⟩ := hx.small
  obtain ⟨w0, hw0⟩ : ∃ w0, w.alloc (.cells #[.int .i64 6, .string x.a, .string x.b, .string x.data, .int .i64 x.n, .slice x.kp x.ks.length x.kc] 39) = w0 := ⟨_, rfl⟩
  obtain ⟨d0, d1, d2, d3, d4, d5⟩ := box6 w (.int .i64 6) (.string x.a) (.string x.b) (.string x.data) (.int .i64 x.n) (.slice x.kp x.ks.length x.kc) 39
  have hb0 : Below w.heap.size w w0 := by rw [← hw0]; exact (Below.refl _ _).alloc (Nat.le_refl _) _
  have hsz0 : w0.heap.size = w.heap.size + 1 := by rw [← hw0]; simp
  rw [hw0] at d0 d1 d2 d3 d4 d5
  have H0 := h.more hb0
  have hBs := h.base
  have HB0 : Hid (Below B w w0) := hb0.mono hBs
  have hbx : w.heap.size < w0.heap.size := by omega
  have HIN : Hid ((fun k => N k ∨ (w.heap.size ≤ k ∧ k < w0.heap.size)) w.heap.size) := Or.inr ⟨Nat.le_refl _, hbx⟩
  have hok := h.ok
  obtain ⟨Z, hd, hZ, hstep⟩ := H0.disk
  clear H0 h
  go_enter Try.func13, Try.ntmps13
  go_wp2_with fail
  try rw [hw0]
  refine (arm_any w0 Z a st x.n hx.num hd).mono ?_
  rintro e w1 ⟨rfl, hi1, ho1⟩
  obtain ⟨H1, hb1, hn1⟩ := hstep w1 _ hi1 ho1
  have e1 := cell_at (hn1 _ HIN.out) d1
  have e2 := cell_at (hn1 _ HIN.out) d2
  have e3 := cell_at (hn1 _ HIN.out) d3
  have e4 := cell_at (hn1 _ HIN.out) d4
  obtain ⟨Z2, v2, hr, hZ2, _, hstep2⟩ := H1.ref
  have HB1 : Hid (Below B w w1) := HB0.out.trans hb1
  clear H1 hi1 ho1 hb1 hn1 hstep d0 d1 d2 d3 d4 d5 hd hZ hw0
  go_wp2_with fail
  refine (rarm_any w1 Z2 c st v2 x.n hr).mono ?_
  rintro e w2 ⟨rfl, hi2, ho2⟩
  obtain ⟨H2, hb2, _⟩ := hstep2 w2 _ ⟨_, hi2⟩ ho2
  have HF : Hid (∃ st', Both B N w2 a c st' st' ∧ st'.steps ≤ st.steps + 1) := ⟨_, H2.less fun k hk => Or.inl hk, armR_few _ _⟩
  have HB2 : Hid (Below B w w2) := HB1.out.trans hb2
  obtain ⟨E, hE⟩ : ∃ E, (armR st x.n).1 = E := ⟨_, rfl⟩
  rw [hE]
  clear H2 hi2 ho2 hb2 hstep2 hr hE e1 e2 e3 e4
  go_wp2
  go_ret
  exact ⟨rfl, HF.out, HB2.out⟩

set_option maxHeartbeats 8000000 in
set_option maxRecDepth 100000 in
theorem plays_5 (B : Nat) (N : Nat → Prop) (w : World) (a c : Nat) (st : St) (x : OpV) (h : Both B N w a c st st) (hx : OpOk B w x) :
    Calls Try.prog 13 #[.pointer (some ⟨a, 0, none⟩), .pointer (some ⟨c, 0, none⟩), .agg #[.int .i64 5, .string x.a, .string x.b, .string x.data, .int .i64 x.n, .slice x.kp x.ks.length x.kc]] w (PL B N w a c st) := by
  obtain ⟨hs1, hs2, hs3, hs4⟩ := hx.small
  obtain ⟨w0, hw0⟩ : ∃ w0, w.alloc (.cells #[.int .i64 5, .string x.a, .string x.b, .string x.data, .int .i64 x.n, .slice x.kp x.ks.length x.kc] 39) = w0 := ⟨_, rfl⟩
  obtain ⟨d0, d1, d2, d3, d4, d5⟩ := box6 w (.int .i64 5) (.string x.a) (.string x.b) (.string x.data) (.int .i64 x.n) (.slice x.kp x.ks.length x.kc) 39
  have hb0 : Below w.heap.size w w0 := by rw [← hw0]; exact (Below.refl _ _).alloc (Nat.le_refl _) _
  have hsz0 : w0.heap.size = w.heap.size + 1 := by rw [← hw0]; simp
  rw [hw0] at d0 d1 d2 d3 d4 d5
  have H0 := h.more hb0
  have hBs := h.base
  have HB0 : Hid (Below B w w0) := hb0.mono hBs
  have hbx : w.heap.size < w0.heap.size := by omega
  have HIN : Hid ((fun k => N k ∨ (w.heap.size ≤ k ∧ k < w0.heap.size)) w.heap.size) := Or.inr ⟨Nat.le_refl _, hbx⟩
  have hok := h.ok
  obtain ⟨Z, hd, _, _⟩ := H0.disk
  obtain ⟨Z2, v2, hr, _, _, _⟩ := H0.ref
  have HK : Hid (Both B (fun k => N k ∨ (w.heap.size ≤ k ∧ k < w0.heap.size)) w0 a c st st) := H0
  clear H0 h
  go_enter Try.func13, Try.ntmps13
  go_wp2_with fail
  try rw [hw0]
  refine (read_any w0 Z a st x.a hd).mono ?_
  rintro e w1 ⟨rfl, hb1⟩
  have e1 := cell_later hb1 d1
  have HR : Hid (RefAt w1 Z2 c st v2) := hr.later hb1
  have HK1 : Hid (Both B (fun k => N k ∨ (w.heap.size ≤ k ∧ k < w0.heap.size)) w1 a c st st) := HK.out.later hb1
  have HB1 : Hid (Below B w w1) := HB0.out.trans (hb1.mono (by have := HK.out.base; omega))
  clear hb1 d0 d1 d2 d3 d4 d5 hd hr hw0 HK
  go_wp2_with fail
  refine (rread_any w1 Z2 c st v2 x.a (by omega) HR.out).mono ?_
  rintro e w2 ⟨rfl, hb2⟩
  have HF : Hid (∃ st', Both B N w2 a c st' st' ∧ st'.steps ≤ st.steps + 1) := ⟨_, (HK1.out.later hb2).less fun k hk => Or.inl hk, Nat.le_succ _⟩
  have HB2 : Hid (Below B w w2) := HB1.out.trans (hb2.mono (by have := HK1.out.base; omega))
  obtain ⟨s, hs⟩ : ∃ s : ByteArray, (⟨(readR st x.a.data.toList).1.toArray⟩ : ByteArray) = s := ⟨_, rfl⟩
  obtain ⟨E, hE⟩ : ∃ E, (readR st x.a.data.toList).2 = E := ⟨_, rfl⟩
  rw [hs, hE]
  clear hb2 e1 hs hE
  go_wp2
  go_ret
  exact ⟨rfl, HF.out, HB2.out⟩

set_option maxHeartbeats 8000000 in
set_option maxRecDepth 100000 in
theorem plays_8 (B : Nat) (N : Nat → Prop) (w : World) (a c : Nat) (st : St) (x : OpV) (h : Both B N w a c st st) (hx : OpOk B w x) :
    Calls Try.prog 13 #[.pointer (some ⟨a, 0, none⟩), .pointer (some ⟨c, 0, none⟩), .agg #[.int .i64 8, .string x.a, .string x.b, .string x.data, .int .i64 x.n, .slice x.kp x.ks.length x.kc]] w (PL B N w a c st) := by
  obtain ⟨hs1, hs2, hs3, hs4⟩ := hx.small
  obtain ⟨w0, hw0⟩ : ∃ w0, w.alloc (.cells #[.int .i64 8, .string x.a, .string x.b, .string x.data, .int .i64 x.n, .slice x.kp x.ks.length x.kc] 39) = w0 := ⟨_, rfl⟩
  obtain ⟨d0, d1, d2, d3, d4, d5⟩ := box6 w (.int .i64 8) (.string x.a) (.string x.b) (.string x.data) (.int .i64 x.n) (.slice x.kp x.ks.length x.kc) 39
  have hb0 : Below w.heap.size w w0 := by rw [← hw0]; exact (Below.refl _ _).alloc (Nat.le_refl _) _
  have hsz0 : w0.heap.size = w.heap.size + 1 := by rw [← hw0]; simp
  rw [hw0] at d0 d1 d2 d3 d4 d5
  have H0 := h.more hb0
  have hBs := h.base
  have HB0 : Hid (Below B w w0) := hb0.mono hBs
  have hbx : w.heap.size < w0.heap.size := by omega
  have HIN : Hid ((fun k => N k ∨ (w.heap.size ≤ k ∧ k < w0.heap.size)) w.heap.size) := Or.inr ⟨Nat.le_refl _, hbx⟩
  have hok := h.ok
  have HK : Hid (Both B (fun k => N k ∨ (w.heap.size ≤ k ∧ k < w0.heap.size)) w0 a c st st) := H0
  clear H0 h
  go_enter Try.func13, Try.ntmps13
  go_wp2_with fail
  try rw [hw0]
  refine (looks_any B w0 a c st _ HK.out).mono ?_
  rintro e w1 ⟨rfl, hb1⟩
  have HF : Hid (∃ st', Both B N w1 a c st' st' ∧ st'.steps ≤ st.steps + 1) := ⟨_, (HK.out.later hb1).less fun k hk => Or.inl hk, Nat.le_succ _⟩
  have HB1 : Hid (Below B w w1) := HB0.out.trans (hb1.mono (by have := HK.out.base; omega))
  clear hb1 d0 d1 d2 d3 d4 d5 hw0
  go_wp2
  go_ret
  exact ⟨rfl, HF.out, HB1.out⟩

theorem Try.infoInt : (Try.prog.info? 3).map (fun i => (i.zero, i.size, i.bytes)) = some (some (.int .i64 0), 1, 8) := by kernel_rfl
theorem own_cells_set {B g N n size : Nat} {e : TypeId} : ∀ (cs : List Value) (o : Nat) (w : World) (xs : List Value), w.ownsRow B e size (.slice (some ⟨g, 0, none⟩) n N) n xs → o + cs.length ≤ n * size →
    ∃ ys, (w.setCells g o cs).ownsRow B e size (.slice (some ⟨g, 0, none⟩) n N) n ys ∧ (∀ j, j < cs.length → ys[o + j]? = cs[j]?) ∧ ∀ j, (j < o ∨ o + cs.length ≤ j) → ys[j]? = xs[j]?
  | [], o, w, xs, h, _ => ⟨xs, h, fun j hj => absurd hj (by simp), fun _ _ => rfl⟩
  | v :: r, o, w, xs, h, hl => by
    have hx : xs.length = n * size := h.1
    rw [List.length_cons] at hl
    obtain ⟨ys, h1, h2, h3⟩ := own_cells_set r (o + 1) _ _ (h.stored o v).1 (by omega)
    refine ⟨ys, h1, fun j hj => ?_, fun j hj => ?_⟩
    · match j, hj with
      | 0, _ => rw [Nat.add_zero, h3 o (Or.inl (by omega)), List.getElem?_set_self (by omega)]; rfl
      | j + 1, hj =>
        have := h2 j (by simpa using hj)
        rw [show o + (j + 1) = o + 1 + j by omega, this]
        rfl
    · rw [List.length_cons] at hj
      rw [h3 j (by omega), List.getElem?_set_ne (by omega)]
theorem copy_out {w2 w3 : World} {g b o : Nat} {v : Value} {cs : List Value} (h : w3 = w2.setCells g 0 cs) (hb : b < g) (hc : w2.cell? ⟨b, o, none⟩ = some v) : w3.cell? ⟨b, o, none⟩ = some v := by
  rw [h, World.cell?_setCells_out _ _ _ _ _ (fun e _ => by have : b = g := e; omega)]
  exact hc
theorem Ints.low {B : Nat} {w w' : World} {p : Option Addr} {ks : List Int} (h : Ints w p ks) (hb : Below B w w') (hl : 0 < ks.length → ∀ b off, p = some ⟨b, off, none⟩ → b < B) : Ints w' p ks := fun i hi => by
  obtain ⟨b, off, e, hc⟩ := h i hi
  exact ⟨b, off, e, cell_at (hb.block b (hl (by omega) b off e)) hc⟩
theorem Ints.cells {w : World} {p : Option Addr} {ks : List Int} (h : Ints w p ks) : 0 < (ks.map (Value.int .i64)).length → ∃ ad, p = some ad ∧ ∀ j u, (ks.map (Value.int .i64))[j]? = some u → w.cell? (ad.add j) = some u := by
  intro h0
  rw [List.length_map] at h0
  obtain ⟨b, off, e, _⟩ := h 0 h0
  refine ⟨_, e, fun j u hj => ?_⟩
  have hj' : j < ks.length := by have := (List.getElem?_eq_some_iff.1 hj).1; simpa using this
  obtain ⟨b', off', e', hc⟩ := h j hj'
  rw [e] at e'
  obtain ⟨rfl, rfl⟩ : b = b' ∧ off = off' := by simpa using e'
  rw [Addr.add_lit, hc]
  rw [List.getElem?_map, List.getElem?_eq_getElem hj'] at hj
  exact hj

set_option maxHeartbeats 8000000 in
set_option maxRecDepth 100000 in
theorem plays_7 (B : Nat) (N : Nat → Prop) (w : World) (a c : Nat) (st : St) (x : OpV) (h : Both B N w a c st st) (hx : OpOk B w x) :
    Calls Try.prog 13 #[.pointer (some ⟨a, 0, none⟩), .pointer (some ⟨c, 0, none⟩), .agg #[.int .i64 7, .string x.a, .string x.b, .string x.data, .int .i64 x.n, .slice x.kp x.ks.length x.kc]] w (PL B N w a c st) := by
  obtain ⟨hs1, hs2, hs3, hs4⟩ := hx.small
  obtain ⟨w0, hw0⟩ : ∃ w0, w.alloc (.cells #[.int .i64 7, .string x.a, .string x.b, .string x.data, .int .i64 x.n, .slice x.kp x.ks.length x.kc] 39) = w0 := ⟨_, rfl⟩
  obtain ⟨d0, d1, d2, d3, d4, d5⟩ := box6 w (.int .i64 7) (.string x.a) (.string x.b) (.string x.data) (.int .i64 x.n) (.slice x.kp x.ks.length x.kc) 39
  have hb0 : Below w.heap.size w w0 := by rw [← hw0]; exact (Below.refl _ _).alloc (Nat.le_refl _) _
  have hsz0 : w0.heap.size = w.heap.size + 1 := by rw [← hw0]; simp
  rw [hw0] at d0 d1 d2 d3 d4 d5
  have H0 := h.more hb0
  have hBs := h.base
  have HB0 : Hid (Below B w w0) := hb0.mono hBs
  have hbx : w.heap.size < w0.heap.size := by omega
  have HIN : Hid ((fun k => N k ∨ (w.heap.size ≤ k ∧ k < w0.heap.size)) w.heap.size) := Or.inr ⟨Nat.le_refl _, hbx⟩
  have hok := h.ok
  obtain ⟨i0, hi, hz0, hz1, hz2⟩ := info_parts Try.infoInt
  have HK : Hid (Both B (fun k => N k ∨ (w.heap.size ≤ k ∧ k < w0.heap.size)) w0 a c st st) := H0
  have HX : Hid (OpOk B w x) := hx
  obtain ⟨kp, hkp⟩ : ∃ kp, x.kp = kp := ⟨_, rfl⟩
  obtain ⟨kc, hkc⟩ : ∃ kc, x.kc = kc := ⟨_, rfl⟩
  obtain ⟨ks, hks⟩ : ∃ ks, x.ks = ks := ⟨_, rfl⟩
  have HI : Hid (Ints w kp ks) := by rw [← hkp, ← hks]; exact hx.keep
  have HLO : Hid (0 < ks.length → ∀ b off, kp = some ⟨b, off, none⟩ → b < B) := by rw [← hkp, ← hks]; exact hx.low
  rw [hkp, hkc, hks] at hw0 d5 ⊢
  rw [hks] at hs4
  obtain ⟨M, hM⟩ : ∃ M, ks.length + 1 = M := ⟨_, rfl⟩
  have hMi : (ks.length : Int) + 1 = (M : Int) := by omega
  have hMl : M ≤ 2147483648 := by omega
  have hLM : ks.length ≤ M := by omega
  have HI0 : Hid (Ints w0 kp ks) := HI.out.low hb0 (fun h b off e => Nat.lt_of_lt_of_le (HLO.out h b off e) hBs)
  clear H0 h hx hM hkp hkc hks d1 d2 d3 d4 hb0 hsz0
  go_enter Try.func13, Try.ntmps13
  go_wp2_with (first | (at_make; refine wpList_make_full _ rfl _ _ 37 rfl w0.heap.size 3 i0 _ 1 Try.underlying37 hi hz0 hz1 .i64 .i64 _ _ M rfl rfl ?h1 ?h2 ?h3 ?h4 ?h5 ?_))
  case h1 => omega
  case h2 => omega
  case h3 => first | omega | (rw [hz2]; omega)
  case h4 => unfold maxLen; omega
  try case h5 => exact Nat.le_refl _
  intro w2 hown2 hgrow2
  have hb2 : Below w0.heap.size w0 w2 := (Below.refl _ _).grown hgrow2 (Nat.le_refl _) (fun k h => by cases h)
  have e5 := cell_later hb2 d5
  have HI2 : Hid (Ints w2 kp ks) := ints_later HI0.out hb2
  obtain ⟨zs, hzs⟩ : ∃ zs, w2.ownsRow w0.heap.size 3 1 (.slice (some ⟨w0.heap.size, 0, none⟩) M M) M zs := ⟨_, hown2⟩
  have HO2 : Hid (w2.ownsRow w0.heap.size 3 1 (.slice (some ⟨w0.heap.size, 0, none⟩) M M) M zs) := hzs
  have HB2 : Hid (Below w0.heap.size w0 w2) := hb2
  have hsz2 := hb2.size
  clear hown2 hgrow2 hzs d5 hb2 hw0
  have HK1 : Hid (∀ j, j < (ks.map (Value.int .i64)).length → (w2.cell? ⟨w0.heap.size, 0 + j, none⟩).isSome = true) := fun j hj => by
    rw [Nat.zero_add, HO2.out.cellAt j (by simp at hj; omega), List.getElem?_eq_getElem (by have := HO2.out.1; simp at hj; omega)]
    rfl
  have HK2 : Hid (∀ j, j < (ks.map (Value.int .i64)).length → w2.frozen? ⟨w0.heap.size, 0 + j, none⟩ = false) := fun j _ => HO2.out.frozenAt _
  have HK3 : Hid (∀ u ∈ ks.map (Value.int .i64), u.oneCell' = true) := fun u hu => by
    obtain ⟨z, _, rfl⟩ := List.mem_map.1 hu
    rfl
  go_wp2_with (first | (refine wpList_copy_wide rfl (.tmp 106) (.tmp 108) 37 37 rfl 3 1 Try.underlying37 (by rw [hi]; simp [hz1]) w0.heap.size 0 M M kp ks.length kc rfl rfl (ks.map (Value.int .i64)) hLM (by simp) HI2.out.cells HK1.out HK2.out HK3.out ?_; intro w3 hw3; (have f5 : w3.cell? ⟨w.heap.size, 5, none⟩ = some (.slice kp ks.length kc) := copy_out hw3 hbx e5); (have HW3 : Hid (w3 = w2.setCells w0.heap.size 0 (ks.map (Value.int .i64))) := hw3); clear hw3))
  obtain ⟨ys, hy1, hy2, _⟩ := own_cells_set (ks.map (Value.int .i64)) 0 w2 zs HO2.out (by simp; omega)
  have hw3 := HW3.out
  rw [← hw3] at hy1
  have HJ3 : Hid (Ints w3 (some ⟨w0.heap.size, 0, none⟩) ks) := fun i hi' => by
    refine ⟨_, _, rfl, ?_⟩
    rw [Nat.zero_add, hy1.cellAt i (by omega)]
    have := hy2 i (by simpa using hi')
    rw [Nat.zero_add] at this
    rw [this, List.getElem?_map, List.getElem?_eq_getElem hi']
    rfl
  have HB3 : Hid (Below w0.heap.size w0 w3) := by rw [hw3]; exact HB2.out.grown (setCells_grown _ _ _ _) hsz2 (fun k e => by cases e; exact Nat.le_refl _)
  have hgk : w0.heap.size < w3.heap.size := (hy1.lt _ rfl).2
  have HK3 := HK.out.more HB3.out
  have HIN3 : Hid (((N w.heap.size ∨ (w.heap.size ≤ w.heap.size ∧ w.heap.size < w0.heap.size)) ∨ (w0.heap.size ≤ w.heap.size ∧ w.heap.size < w3.heap.size)) ∧ ((N w0.heap.size ∨ (w.heap.size ≤ w0.heap.size ∧ w0.heap.size < w0.heap.size)) ∨ (w0.heap.size ≤ w0.heap.size ∧ w0.heap.size < w3.heap.size))) := ⟨Or.inl (Or.inr ⟨Nat.le_refl _, hbx⟩), Or.inr ⟨Nat.le_refl _, hgk⟩⟩
  obtain ⟨Z, hd, hZ, hstep⟩ := HK3.disk
  have HBW3 : Hid (Below B w w3) := HB0.out.trans (HB3.out.mono HK.out.base)
  clear hw3 hy1 hy2 HO2 HI2 HB2 HK3
  refine (crash_any w3 Z a st (some ⟨w0.heap.size, 0, none⟩) M ks hd HJ3.out hLM (by omega)).mono ?_
  rintro e w4 ⟨rfl, hi4, ho4⟩
  obtain ⟨H4, hb4, hn4⟩ := hstep w4 _ hi4 ho4
  have g5 := cell_at (hn4 _ HIN3.out.1) f5
  have HJ4 : Hid (Ints w4 (some ⟨w0.heap.size, 0, none⟩) ks) := fun i hi' => by
    obtain ⟨b, off, e, hc⟩ := HJ3.out i hi'
    obtain ⟨rfl, rfl⟩ : w0.heap.size = b ∧ 0 = off := by simpa using e
    exact ⟨_, _, rfl, cell_at (hn4 _ HIN3.out.2) hc⟩
  have HBW4 : Hid (Below B w w4) := HBW3.out.trans hb4
  have HI4 : Hid (Ints w4 kp ks) := HI.out.low HBW4.out HLO.out
  obtain ⟨Z2, v2, hr, hZ2, hZB, hstep2⟩ := H4.ref
  clear hi4 ho4 hb4 hn4 hstep hd hZ H4 f5 HJ3
  go_wp2_with fail
  refine (rcrash_any w4 Z2 c st v2 kp kc ks hr hok.files HI4.out (by omega) (fun h b off e hz => by have := HLO.out h b off e; have := hZB b hz; omega) hZ2).mono ?_
  rintro e w5 ⟨rfl, hi5, ho5⟩
  obtain ⟨H5, hb5, hn5⟩ := hstep2 w5 _ hi5 ho5
  have q5 := cell_at (hn5 _ HIN3.out.1) g5
  have HJ5 : Hid (∀ i (h : i < ks.length), w5.cell? ⟨w0.heap.size, i, none⟩ = some (.int .i64 ks[i])) := fun i hi' => by
    obtain ⟨b, off, e, hc⟩ := HJ4.out i hi'
    obtain ⟨rfl, rfl⟩ : w0.heap.size = b ∧ 0 = off := by simpa using e
    rw [Nat.zero_add] at hc
    exact cell_at (hn5 _ HIN3.out.2) hc
  have HBW5 : Hid (Below B w w5) := HBW4.out.trans hb5
  have HI5 : Hid (Ints w5 kp ks) := HI.out.low HBW5.out HLO.out
  have HF : Hid (Both B N w5 a c (crashR st ks) (crashR st ks)) := H5.less fun k hk => Or.inl (Or.inl hk)
  clear hi5 ho5 hb5 hn5 H5 g5 HJ4 hr hZ2 hZB hstep2 HI4
  go_wp2
  go_loopw [14] (fun i wr => ∃ k : Nat, k ≤ ks.length ∧ i = .int .i64 (k : Int) ∧ Below w5.heap.size w5 wr) (fun i _ => ks.length - (intOf i).toNat)
  case atStart => exact ⟨0, Nat.zero_le _, rfl, Below.refl _ _⟩
  case round =>
    obtain ⟨k, hk, rfl, hb⟩ := hrel
    have HB : Hid (Below w5.heap.size w5 wr) := hb
    have r5 := cell_later hb q5
    clear q5
    by_cases hlt : k < ks.length
    · have hlti : (k : Int) < (ks.length : Int) := by omega
      have hkM : (k : Int) < (M : Int) := by omega
      obtain ⟨b, off, rfl, c0⟩ := HI5.out k hlt
      have s0 := cell_later hb c0
      have s1 := cell_later hb (HJ5.out k hlt)
      obtain ⟨y, hy⟩ : ∃ y, ks[k] = y := ⟨_, rfl⟩
      rw [hy] at s0 s1
      clear c0 hy hb
      go_wp2
      go_quiet (fail)
      go_wp2
      go_roundw
      case rel => exact ⟨k + 1, by omega, by go_num, below_drewN HB.out _⟩
      case measure => simp [intOf]; omega
    · have hlti : ¬ (k : Int) < (ks.length : Int) := by omega
      clear hb
      go_wp2
      go_ret
      exact ⟨rfl, ⟨_, HF.out.later HB.out, Nat.le_succ _⟩, HBW5.out.trans (HB.out.mono HF.out.base)⟩

set_option maxHeartbeats 8000000 in
set_option maxRecDepth 100000 in
theorem plays_any (B : Nat) (N : Nat → Prop) (w : World) (a c : Nat) (st : St) (x : OpV) (h : Both B N w a c st st) (hx : OpOk B w x) (hst : st.steps < 4611686018427387904) :
    Calls Try.prog 13 #[.pointer (some ⟨a, 0, none⟩), .pointer (some ⟨c, 0, none⟩), .agg #[.int .i64 x.what, .string x.a, .string x.b, .string x.data, .int .i64 x.n, .slice x.kp x.ks.length x.kc]] w (PL B N w a c st) := by
  obtain ⟨wh, hwh⟩ : ∃ wh, x.what = wh := ⟨_, rfl⟩
  rw [hwh]
  by_cases q1 : wh = 1
  · subst q1; exact plays_1 B N w a c st x h hx hst
  by_cases q2 : wh = 2
  · subst q2; exact plays_2 B N w a c st x h hx hst
  by_cases q3 : wh = 3
  · subst q3; exact plays_3 B N w a c st x h hx hst
  by_cases q4 : wh = 4
  · subst q4; exact plays_4 B N w a c st x h hx hst
  by_cases q5 : wh = 5
  · subst q5; exact plays_5 B N w a c st x h hx
  by_cases q6 : wh = 6
  · subst q6; exact plays_6 B N w a c st x h hx
  by_cases q7 : wh = 7
  · subst q7; exact plays_7 B N w a c st x h hx
  by_cases q8 : wh = 8
  · subst q8; exact plays_8 B N w a c st x h hx
  have b1 : (wh == 1) = false := by simpa using q1
  have b2 : (wh == 2) = false := by simpa using q2
  have b3 : (wh == 3) = false := by simpa using q3
  have b4 : (wh == 4) = false := by simpa using q4
  have b5 : (wh == 5) = false := by simpa using q5
  have b6 : (wh == 6) = false := by simpa using q6
  have b7 : (wh == 7) = false := by simpa using q7
  have b8 : (wh == 8) = false := by simpa using q8
  have HH : Hid (Both B N w a c st st) := h
  clear h hx hwh q1 q2 q3 q4 q5 q6 q7 q8
  go_enter Try.func13, Try.ntmps13
  go_wp2
  go_ret
  exact ⟨rfl, ⟨_, HH.out.later ((Below.refl _ _).alloc (Nat.le_refl _) _), Nat.le_succ _⟩, (Below.refl _ _).alloc HH.out.base _⟩
end Go.Proofs.Ytejbelbfmchadaa
