/- Walks of layer 4, ninth part: Append, Sync, Rename, Remove, Read. -/
import Derived.Test.YtckmjmpajbjbkaaGreatDoorD8
namespace Go.Proofs.YtckmjmpajbjbkaaGreatDoor
open Go.RowKit

theorem heap_size_alloc (w : World) (o : Obj) : (w.alloc o).heap.size = w.heap.size + 1 := by simp
theorem three_cells (w : World) (u v x : Value) (t t' t'' : TypeId) : (((w.alloc (.cells #[u] t)).alloc (.cells #[v] t')).alloc (.cells #[x] t'')).cell? ⟨w.heap.size, 0, none⟩ = some u ∧ (((w.alloc (.cells #[u] t)).alloc (.cells #[v] t')).alloc (.cells #[x] t'')).cell? ⟨w.heap.size + 1, 0, none⟩ = some v ∧ (((w.alloc (.cells #[u] t)).alloc (.cells #[v] t')).alloc (.cells #[x] t'')).cell? ⟨w.heap.size + 1 + 1, 0, none⟩ = some x := by
  have b0 := ((box0 w u t).alloc (.cells #[v] t')).alloc (.cells #[x] t'')
  have b1 := (box0 (w.alloc (.cells #[u] t)) v t').alloc (.cells #[x] t'')
  have b2 := box0 ((w.alloc (.cells #[u] t)).alloc (.cells #[v] t')) x t''
  simp only [heap_size_alloc] at b1 b2
  exact ⟨b0.cell, b1.cell, b2.cell⟩
theorem two_cells (w : World) (u v : Value) (t t' : TypeId) : ((w.alloc (.cells #[u] t)).alloc (.cells #[v] t')).cell? ⟨w.heap.size, 0, none⟩ = some u ∧ ((w.alloc (.cells #[u] t)).alloc (.cells #[v] t')).cell? ⟨w.heap.size + 1, 0, none⟩ = some v := by
  have b0 := (box0 w u t).alloc (.cells #[v] t')
  have b1 := box0 (w.alloc (.cells #[u] t)) v t'
  simp only [heap_size_alloc] at b1
  exact ⟨b0.cell, b1.cell⟩

set_option maxHeartbeats 4000000 in
set_option maxRecDepth 100000 in
theorem append_any (w : World) (Z : Nat → Prop) (a : Nat) (st : St) (s t : ByteArray) (h : IsDisk w Z a st) (hZ : ∀ k, w.heap.size ≤ k → Z k) (hst : st.steps < 4611686018427387904) :
    Calls Tryz.prog 53 #[.pointer (some ⟨a, 0, none⟩), .string s, .string t] w fun e w' => e = .returned (.int .i64 (appR st s.data.toList t.data.toList).1) ∧ IsDisk w' Z a (appR st s.data.toList t.data.toList).2 ∧ Only Z w w' := by
  have HI : Hid (IsDisk w Z a st) := h
  have HZ : Hid (∀ k, w.heap.size ≤ k → Z k) := hZ
  clear h hZ
  go_enter Tryz.func53, Tryz.ntmps53
  go_wp2
  have HW : Hid (Below w.heap.size w (((w.alloc (.cells #[.pointer (some ⟨a, 0, none⟩)] 26)).alloc (.cells #[.string s] 9)).alloc (.cells #[.string t] 9)).drew) := ((((Below.refl _ _).alloc (Nat.le_refl _) _).alloc (by simp) _).alloc (by simp; omega) _).drew
  go_region_held3 (fun w' => w'.cell? ⟨w.heap.size, 0, none⟩ = some (.pointer (some ⟨a, 0, none⟩)) ∧ w'.cell? ⟨w.heap.size + 1, 0, none⟩ = some (.string s) ∧ w'.cell? ⟨w.heap.size + 1 + 1, 0, none⟩ = some (.string t)) (go_simp) (first
    | (go_at_call 83; refine (froom_any _ Z a st s t.size (HI.out.later HW.out)).mono ?_; rintro e w1 ⟨rfl, hb1⟩; (have k0 : w1.cell? ⟨w.heap.size, 0, none⟩ = some (.pointer (some ⟨a, 0, none⟩)) := cell_later hb1 (three_cells w _ _ _ _ _ _).1); (have k1 : w1.cell? ⟨w.heap.size + 1, 0, none⟩ = some (.string s) := cell_later hb1 (three_cells w _ _ _ _ _ _).2.1); (have k2 : w1.cell? ⟨w.heap.size + 1 + 1, 0, none⟩ = some (.string t) := cell_later hb1 (three_cells w _ _ _ _ _ _).2.2); (have HB : Hid (Below (((w.alloc (.cells #[.pointer (some ⟨a, 0, none⟩)] 26)).alloc (.cells #[.string s] 9)).alloc (.cells #[.string t] 9)).heap.size (((w.alloc (.cells #[.pointer (some ⟨a, 0, none⟩)] 26)).alloc (.cells #[.string s] 9)).alloc (.cells #[.string t] 9)) w1) := ((Below.refl _ _).drew).trans hb1); clear hb1)
    | (go_at_call 82; refine (app_step w _ Z a st s t HI.out HZ.out hst HB.out).mono ?_; rintro e w2 ⟨rfl, hi2, ho2, hk2⟩; (have m0 := cell_at (hk2 w.heap.size (by omega) (by omega)) k0); (have m1 := cell_at (hk2 (w.heap.size + 1) (by omega) (by omega)) k1); (have m2 := cell_at (hk2 (w.heap.size + 1 + 1) (by omega) (by omega)) k2)))
  all_goals
    go_wp2
    go_ret
    exact ⟨rfl, hi2, ho2⟩

set_option maxHeartbeats 4000000 in
set_option maxRecDepth 100000 in
theorem sync_any (w : World) (Z : Nat → Prop) (a : Nat) (st : St) (s : ByteArray) (h : IsDisk w Z a st) (hZ : ∀ k, w.heap.size ≤ k → Z k) (hst : st.steps < 4611686018427387904) :
    Calls Tryz.prog 70 #[.pointer (some ⟨a, 0, none⟩), .string s] w fun e w' => e = .returned (.int .i64 (synR st s.data.toList).1) ∧ IsDisk w' Z a (synR st s.data.toList).2 ∧ Only Z w w' := by
  have HI : Hid (IsDisk w Z a st) := h
  have HZ : Hid (∀ k, w.heap.size ≤ k → Z k) := hZ
  clear h hZ
  go_enter Tryz.func70, Tryz.ntmps70
  go_wp2
  have HW : Hid (Below w.heap.size w ((w.alloc (.cells #[.pointer (some ⟨a, 0, none⟩)] 26)).alloc (.cells #[.string s] 9)).drew) := (((Below.refl _ _).alloc (Nat.le_refl _) _).alloc (by simp) _).drew
  go_region_held3 (fun w' => w'.cell? ⟨w.heap.size, 0, none⟩ = some (.pointer (some ⟨a, 0, none⟩)) ∧ w'.cell? ⟨w.heap.size + 1, 0, none⟩ = some (.string s)) (go_simp) (first
    | (go_at_call 101; refine (find_any _ Z a st s (HI.out.later HW.out)).mono ?_; rintro e w1 ⟨rfl, hb1⟩; (have k0 : w1.cell? ⟨w.heap.size, 0, none⟩ = some (.pointer (some ⟨a, 0, none⟩)) := cell_later hb1 (two_cells w _ _ _ _).1); (have k1 : w1.cell? ⟨w.heap.size + 1, 0, none⟩ = some (.string s) := cell_later hb1 (two_cells w _ _ _ _).2); (have HB : Hid (Below ((w.alloc (.cells #[.pointer (some ⟨a, 0, none⟩)] 26)).alloc (.cells #[.string s] 9)).heap.size ((w.alloc (.cells #[.pointer (some ⟨a, 0, none⟩)] 26)).alloc (.cells #[.string s] 9)) w1) := ((Below.refl _ _).drew).trans hb1); clear hb1)
    | (go_at_call 82; refine (syn_step w _ Z a st s HI.out HZ.out hst HB.out).mono ?_; rintro e w2 ⟨rfl, hi2, ho2, hk2⟩; (have m0 := cell_at (hk2 w.heap.size (by omega) (by omega)) k0); (have m1 := cell_at (hk2 (w.heap.size + 1) (by omega) (by omega)) k1)))
  all_goals
    go_wp2
    go_ret
    exact ⟨rfl, hi2, ho2⟩

set_option maxHeartbeats 4000000 in
set_option maxRecDepth 100000 in
theorem remove_any (w : World) (Z : Nat → Prop) (a : Nat) (st : St) (s : ByteArray) (h : IsDisk w Z a st) (hZ : ∀ k, w.heap.size ≤ k → Z k) (hst : st.steps < 4611686018427387904) :
    Calls Tryz.prog 71 #[.pointer (some ⟨a, 0, none⟩), .string s] w fun e w' => e = .returned (.int .i64 (remR st s.data.toList).1) ∧ IsDisk w' Z a (remR st s.data.toList).2 ∧ Only Z w w' := by
  have HI : Hid (IsDisk w Z a st) := h
  have HZ : Hid (∀ k, w.heap.size ≤ k → Z k) := hZ
  clear h hZ
  go_enter Tryz.func71, Tryz.ntmps71
  go_wp2
  have HW : Hid (Below w.heap.size w ((w.alloc (.cells #[.pointer (some ⟨a, 0, none⟩)] 26)).alloc (.cells #[.string s] 9)).drew) := (((Below.refl _ _).alloc (Nat.le_refl _) _).alloc (by simp) _).drew
  go_region_held3 (fun w' => w'.cell? ⟨w.heap.size, 0, none⟩ = some (.pointer (some ⟨a, 0, none⟩)) ∧ w'.cell? ⟨w.heap.size + 1, 0, none⟩ = some (.string s)) (go_simp) (first
    | (go_at_call 101; refine (find_any _ Z a st s (HI.out.later HW.out)).mono ?_; rintro e w1 ⟨rfl, hb1⟩; (have k0 : w1.cell? ⟨w.heap.size, 0, none⟩ = some (.pointer (some ⟨a, 0, none⟩)) := cell_later hb1 (two_cells w _ _ _ _).1); (have k1 : w1.cell? ⟨w.heap.size + 1, 0, none⟩ = some (.string s) := cell_later hb1 (two_cells w _ _ _ _).2); (have HB : Hid (Below ((w.alloc (.cells #[.pointer (some ⟨a, 0, none⟩)] 26)).alloc (.cells #[.string s] 9)).heap.size ((w.alloc (.cells #[.pointer (some ⟨a, 0, none⟩)] 26)).alloc (.cells #[.string s] 9)) w1) := ((Below.refl _ _).drew).trans hb1); clear hb1)
    | (go_at_call 82; refine (rem_step w _ Z a st s HI.out HZ.out hst HB.out).mono ?_; rintro e w2 ⟨rfl, hi2, ho2, hk2⟩; (have m0 := cell_at (hk2 w.heap.size (by omega) (by omega)) k0); (have m1 := cell_at (hk2 (w.heap.size + 1) (by omega) (by omega)) k1)))
  all_goals
    go_wp2
    go_ret
    exact ⟨rfl, hi2, ho2⟩

theorem ren_no {fs : Fs} {s t : Nm} (h : nmOk t = false) : renE fs s t = 40 := by simp [renE, h]
theorem ren_yes {fs : Fs} {s t : Nm} (h : nmOk t = true) : renE fs s t = findE fs s := by simp [renE, h]

set_option maxHeartbeats 4000000 in
set_option maxRecDepth 100000 in
theorem rename_any (w : World) (Z : Nat → Prop) (a : Nat) (st : St) (s t : ByteArray) (h : IsDisk w Z a st) (hZ : ∀ k, w.heap.size ≤ k → Z k) (hst : st.steps < 4611686018427387904) :
    Calls Tryz.prog 108 #[.pointer (some ⟨a, 0, none⟩), .string s, .string t] w fun e w' => e = .returned (.int .i64 (renR st s.data.toList t.data.toList).1) ∧ IsDisk w' Z a (renR st s.data.toList t.data.toList).2 ∧ Only Z w w' := by
  have HI : Hid (IsDisk w Z a st) := h
  have HZ : Hid (∀ k, w.heap.size ≤ k → Z k) := hZ
  clear h hZ
  have HW : Hid (Below w.heap.size w (((w.alloc (.cells #[.pointer (some ⟨a, 0, none⟩)] 26)).alloc (.cells #[.string s] 9)).alloc (.cells #[.string t] 9))) := (((Below.refl _ _).alloc (Nat.le_refl _) _).alloc (by simp) _).alloc (by simp; omega) _
  cases hn : nmOk t.data.toList with
  | false =>
    have HE : Hid (renE st.fs s.data.toList t.data.toList = 40) := ren_no hn
    go_enter Tryz.func108, Tryz.ntmps108
    go_wp2_with (first
      | (go_at_call 101; refine (find_any _ Z a st s (HI.out.later HW.out)).mono ?_; rintro e w1 ⟨rfl, hb1⟩; (have k0 : w1.cell? ⟨w.heap.size, 0, none⟩ = some (.pointer (some ⟨a, 0, none⟩)) := cell_later hb1 (three_cells w _ _ _ _ _ _).1); (have k2 : w1.cell? ⟨w.heap.size + 1 + 1, 0, none⟩ = some (.string t) := cell_later hb1 (three_cells w _ _ _ _ _ _).2.2); (have HB : Hid (Below (((w.alloc (.cells #[.pointer (some ⟨a, 0, none⟩)] 26)).alloc (.cells #[.string s] 9)).alloc (.cells #[.string t] 9)).heap.size (((w.alloc (.cells #[.pointer (some ⟨a, 0, none⟩)] 26)).alloc (.cells #[.string s] 9)).alloc (.cells #[.string t] 9)) w1) := hb1); clear hb1)
      | (go_at_call 62; refine (rname_any t _).mono ?_; rintro e w2 ⟨rfl, rfl⟩; rw [hn])
      | (go_at_call 82; have hs := ren_step w _ Z a st s t HI.out HZ.out hst HB.out; rw [HE.out] at hs; refine hs.mono ?_; rintro e w3 ⟨rfl, hi2, ho2, _⟩))
    go_ret
    exact ⟨rfl, hi2, ho2⟩
  | true =>
    have HE : Hid (renE st.fs s.data.toList t.data.toList = findE st.fs s.data.toList) := ren_yes hn
    go_enter Tryz.func108, Tryz.ntmps108
    go_wp2_with (first
      | (go_at_call 101; refine (find_any _ Z a st s (HI.out.later HW.out)).mono ?_; rintro e w1 ⟨rfl, hb1⟩; (have k0 : w1.cell? ⟨w.heap.size, 0, none⟩ = some (.pointer (some ⟨a, 0, none⟩)) := cell_later hb1 (three_cells w _ _ _ _ _ _).1); (have k2 : w1.cell? ⟨w.heap.size + 1 + 1, 0, none⟩ = some (.string t) := cell_later hb1 (three_cells w _ _ _ _ _ _).2.2); (have HB : Hid (Below (((w.alloc (.cells #[.pointer (some ⟨a, 0, none⟩)] 26)).alloc (.cells #[.string s] 9)).alloc (.cells #[.string t] 9)).heap.size (((w.alloc (.cells #[.pointer (some ⟨a, 0, none⟩)] 26)).alloc (.cells #[.string s] 9)).alloc (.cells #[.string t] 9)) w1) := hb1); clear hb1)
      | (go_at_call 62; refine (rname_any t _).mono ?_; rintro e w2 ⟨rfl, rfl⟩; rw [hn])
      | (go_at_call 82; have hs := ren_step w _ Z a st s t HI.out HZ.out hst HB.out; rw [HE.out] at hs; refine hs.mono ?_; rintro e w3 ⟨rfl, hi2, ho2, _⟩))
    go_ret
    exact ⟨rfl, hi2, ho2⟩

theorem readR_down {st : St} {s : Nm} (h : st.down = true) : readR st s = ([], 3) := by simp [readR, h]
theorem readR_wrong {st : St} {s : Nm} (h : st.down = false) (hw : findE st.fs s ≠ 0) : readR st s = ([], findE st.fs s) := by simp [readR, h, hw]
theorem readR_does {st : St} {s : Nm} (h : st.down = false) (hw : findE st.fs s = 0) : readR st s = ((fileOf st.fs s).1, 0) := by simp [readR, h, hw]

theorem field68 (p : Option Addr) (n c : Nat) (k : Int) (w : World) : (Instr.field 77 (.agg #[.slice p n c, .int .i64 k]) 0).run Tryz.prog w = .ok (.slice p n c) w := by
  simp [Instr.field, run_underlying Tryz.underlying77, part, asAgg, isAgg, run_underlying Tryz.underlying75, sizeOf, typeInfo, go_sem]

set_option maxHeartbeats 4000000 in
set_option maxRecDepth 100000 in
theorem read_any (w : World) (Z : Nat → Prop) (a : Nat) (st : St) (s : ByteArray) (h : IsDisk w Z a st) :
    Calls Tryz.prog 76 #[.pointer (some ⟨a, 0, none⟩), .string s] w fun e w' => e = .returned (.tuple #[.string ⟨(readR st s.data.toList).1.toArray⟩, .int .i64 (readR st s.data.toList).2]) ∧ Below w.heap.size w w' := by
  have HI : Hid (IsDisk w Z a st) := h
  obtain ⟨b, es, h⟩ := h
  obtain ⟨c0, c1, c2, c3, c4, cf⟩ := cell5 h.cells
  have HD : Hid (DiskAt w Z a st b es) := h
  clear h
  cases hd : st.down with
  | true =>
    rw [hd] at c4
    have HR : Hid (readR st s.data.toList = ([], 3)) := readR_down hd
    clear hd
    go_enter Tryz.func76, Tryz.ntmps76
    go_wp2
    rw [HR.out]
    exact bodyPost_ret (v := .tuple #[.string ⟨#[]⟩, .int .i64 3]) (by simp [results, Tryz.results76, go_sem]) rfl ⟨rfl, Below.refl _ _⟩
  | false =>
    rw [hd] at c4
    by_cases hw : findE st.fs s.data.toList = 0
    · have HR : Hid (readR st s.data.toList = ((fileOf st.fs s.data.toList).1, 0)) := readR_does hd hw
      obtain ⟨f, hg⟩ := isOwn (by rw [← HD.out.files]; exact hw)
      have hsz := nm_size (find_ok hw).1
      obtain ⟨p0, cap0, ev, er⟩ := rawOf HD.out.held hg
      have HF : Hid (ownB w (.slice p0 f.dat.length cap0) f.dat) := by
        have := HD.out.held.rows _ (getL_mem hg)
        simp only [ev] at this
        exact this
      have HE : Hid ((fileOf st.fs s.data.toList).1 = f.dat) := by
        show (fileOf st.fs s.data.toList).1 = f.dat
        rw [HD.out.files, fileOf_some hg]
      have HER : Hid (lookV es s.data.toList = .agg #[.slice p0 f.dat.length cap0, .int .i64 (f.safe : Int)]) := er
      clear hd ev er
      go_enter Tryz.func76, Tryz.ntmps76
      go_wp2_with (first | (go_at_call 101; refine (find_any _ Z a st s HI.out).mono ?_; rintro e w1 ⟨rfl, hb1⟩; rw [hw]; (have c01 := cell_later hb1 c0); (have hfd := field68 p0 f.dat.length cap0 (f.safe : Int) w1); (have hl := (HD.out.held.later hb1).look (s := s) (by unfold maxLen; omega)); rw [HER.out] at hl; (have hcv := (HF.out.kept (w' := w1) fun g e => hb1.block g (by obtain ⟨c, fr, e'⟩ := HF.out.lt e; exact (Array.getElem?_eq_some_iff.1 e').1)).str)))
      rw [HR.out, HE.out]
      exact bodyPost_ret (v := .tuple #[.string ⟨f.dat.toArray⟩, .int .i64 0]) (by simp [results, Tryz.results76, go_sem]) rfl ⟨rfl, hb1⟩
    · have HR : Hid (readR st s.data.toList = ([], findE st.fs s.data.toList)) := readR_wrong hd hw
      obtain ⟨E, hE⟩ : ∃ E, findE st.fs s.data.toList = E := ⟨_, rfl⟩
      rw [hE] at HR
      have hw' : (E != 0) = true := by rw [hE] at hw; simpa using hw
      clear hd hw
      go_enter Tryz.func76, Tryz.ntmps76
      go_wp2_with (first | (go_at_call 101; refine (find_any _ Z a st s HI.out).mono ?_; rintro e w1 ⟨rfl, hb1⟩; rw [hE]))
      rw [HR.out]
      exact bodyPost_ret (v := .tuple #[.string ⟨#[]⟩, .int .i64 E]) (by simp [results, Tryz.results76, go_sem]) rfl ⟨rfl, hb1⟩
end Go.Proofs.YtckmjmpajbjbkaaGreatDoor
