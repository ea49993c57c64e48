/- Walks of layer 4, seventh part: a step. -/
import Derived.Test.YtckmjmpajbjbkaaGreatDoorD6
namespace Go.Proofs.YtckmjmpajbjbkaaGreatDoor
open Go.RowKit

/-- The world in which a step acts: one more step is done, one less armed. -/
def armedBy (x : Int) : Int := if 0 < x then x - 1 else x
theorem stepR_down {st : St} {wrong : Int} {f : Fs → Fs} (h : st.down = true) : stepR st wrong f = (3, st) := by simp [stepR, h]
theorem stepR_wrong {st : St} {wrong : Int} {f : Fs → Fs} (h : st.down = false) (hw : wrong ≠ 0) : stepR st wrong f = (wrong, st) := by simp [stepR, h, hw]
theorem stepR_falls {st : St} {wrong : Int} {f : Fs → Fs} (h : st.down = false) (hw : wrong = 0) (ha : st.armed = 0) : stepR st wrong f = (3, { st with down := true }) := by simp [stepR, h, hw, ha]
theorem stepR_does {st : St} {wrong : Int} {f : Fs → Fs} (h : st.down = false) (hw : wrong = 0) (ha : st.armed ≠ 0) : stepR st wrong f = (0, { size := st.size, fs := f st.fs, steps := st.steps + 1, armed := armedBy st.armed, down := false }) := by simp [stepR, h, hw, ha, armedBy]
theorem DiskAt.turned {w w' : World} {Z : Nat → Prop} {a : Nat} {st st' : St} {b : Nat} {es : List (Nm × Fil)} (h : DiskAt w Z a st b es) (hc : w'.heap[a]? = some (.cells (dcells b st') 73 (0, 0))) (hk : ∀ k, k ≠ a → k < w.heap.size → w'.heap[k]? = w.heap[k]?) (hf : st'.fs = st.fs) (ho : OKs st') : DiskAt w' Z a st' b es :=
  ⟨hc, h.za, h.held.kept fun k g => hk k (by
    rcases g with rfl | ⟨p, hp, e⟩
    · exact fun e => h.ne.1 e.symm
    · exact fun e' => h.ne.2 p hp (by rw [e, e'])) (h.held.lt g), by rw [hf]; exact h.files, ho⟩
/-- What a step leaves whose closure has acted. -/
theorem acted {w w1 w' : World} {Z : Nat → Prop} {a : Nat} {st1 : St} {b : Nat} {es : List (Nm × Fil)} {fs : Fs} (h1 : DiskAt w1 Z a st1 b es) (h01 : Only Z w w1) (hA : Acts w1 w' Z a b fs) (ho : OKs { st1 with fs := fs }) : IsDisk w' Z a { st1 with fs := fs } ∧ Only Z w w' := by
  obtain ⟨es', hh, e, ha, hO⟩ := hA
  exact ⟨⟨b, es', ha.trans h1.cells, h1.za, hh, e.symm, ho⟩, h01.trans hO⟩

theorem dc_set3 {w : World} {a b : Nat} {st : St} {t : TypeId} (h : w.heap[a]? = some (.cells (dcells b st) t (0, 0))) (x : Int) : (w.setCell ⟨a, 3, none⟩ (.int .i64 x)).heap[a]? = some (.cells (dcells b { st with armed := x }) t (0, 0)) := by
  rw [heap_setCell_same w a 3 _ _ _ h]
  rfl
theorem dc_set2 {w : World} {a b : Nat} {st : St} {t : TypeId} (h : w.heap[a]? = some (.cells (dcells b st) t (0, 0))) (x : Nat) : (w.setCell ⟨a, 2, none⟩ (.int .i64 (x : Int))).heap[a]? = some (.cells (dcells b { st with steps := x }) t (0, 0)) := by
  rw [heap_setCell_same w a 2 _ _ _ h]
  rfl
theorem dc_set4 {w : World} {a b : Nat} {st : St} {t : TypeId} (h : w.heap[a]? = some (.cells (dcells b st) t (0, 0))) (x : Bool) : (w.setCell ⟨a, 4, none⟩ (.bool x)).heap[a]? = some (.cells (dcells b { st with down := x }) t (0, 0)) := by
  rw [heap_setCell_same w a 4 _ _ _ h]
  rfl

set_option maxHeartbeats 4000000 in
set_option maxRecDepth 100000 in
theorem step_app (w : World) (Z : Nat → Prop) (a b : Nat) (es : List (Nm × Fil)) (st : St) (wrong : Int) (f : Fs → Fs) (A N T : Nat) (h : DiskAt w Z a st b es) (hst : st.steps < 4611686018427387904) (hok : wrong = 0 → OKf st.size (f st.fs))
    (hact : st.down = false → wrong = 0 → st.armed ≠ 0 → ∀ w1, DiskAt w1 Z a { st with steps := st.steps + 1, armed := armedBy st.armed } b es → (∀ k, k ≠ a → k < w.heap.size → w1.heap[k]? = w.heap[k]?) → w1.heap.size = w.heap.size → Calls Tryz.prog 84 #[.pointer (some ⟨A, 0, none⟩), .pointer (some ⟨N, 0, none⟩), .pointer (some ⟨T, 0, none⟩)] w1 fun e w' => e = .returned (.tuple #[]) ∧ Acts w1 w' Z a b (f st.fs)) :
    Calls Tryz.prog 82 #[.pointer (some ⟨a, 0, none⟩), .int .i64 wrong, .func (.func 84) #[] #[.pointer (some ⟨A, 0, none⟩), .pointer (some ⟨N, 0, none⟩), .pointer (some ⟨T, 0, none⟩)]] w fun e w' => e = .returned (.int .i64 (stepR st wrong f).1) ∧ IsDisk w' Z a (stepR st wrong f).2 ∧ Only Z w w' := by
  have HD : Hid (DiskAt w Z a st b es) := h
  have HO : Hid (OKs (stepR st wrong f).2) := stepR_ok h.ok hok
  have HC : Hid (st.down = false → wrong = 0 → st.armed ≠ 0 → ∀ w1, DiskAt w1 Z a { st with steps := st.steps + 1, armed := armedBy st.armed } b es → (∀ k, k ≠ a → k < w.heap.size → w1.heap[k]? = w.heap[k]?) → w1.heap.size = w.heap.size → Calls Tryz.prog 84 #[.pointer (some ⟨A, 0, none⟩), .pointer (some ⟨N, 0, none⟩), .pointer (some ⟨T, 0, none⟩)] w1 fun e w' => e = .returned (.tuple #[]) ∧ Acts w1 w' Z a b (f st.fs)) := hact
  obtain ⟨c0, c1, c2, c3, c4, cf⟩ := cell5 h.cells
  have hlow := h.ok.low
  have hhigh := h.ok.high
  have la := h.lt
  clear hact hok h
  cases hd : st.down with
  | true =>
    rw [hd] at c4
    have HR : Hid (stepR st wrong f = (3, st)) := stepR_down hd
    clear hd
    go_enter Tryz.func82, Tryz.ntmps82
    go_wp2
    go_ret
    rw [HR.out]
    exact ⟨rfl, ⟨b, es, HD.out⟩, Only.refl _ _⟩
  | false =>
    rw [hd] at c4
    by_cases hw : wrong = 0
    · subst hw
      by_cases ha : st.armed = 0
      · have HR : Hid (stepR st 0 f = (3, { st with down := true })) := stepR_falls hd rfl ha
        rw [ha] at c3
        have HA : Hid (st.armed = 0) := ha
        clear hd ha
        go_enter Tryz.func82, Tryz.ntmps82
        go_wp2
        go_ret
        have ho := HO.out
        rw [HR.out] at ho ⊢
        exact ⟨rfl, ⟨b, es, HD.out.turned (dc_set4 HD.out.cells true) (fun k hk _ => Below.heap_setCell _ _ _ _ hk) rfl ho⟩, (Only.refl _ _).setCell HD.out.za _⟩
      · have HR : Hid (stepR st 0 f = (0, { size := st.size, fs := f st.fs, steps := st.steps + 1, armed := armedBy st.armed, down := false })) := stepR_does hd rfl ha
        have HN : Hid (st.down = false) := hd
        have HZ : Hid (st.armed ≠ 0) := ha
        have ho := HO.out
        rw [HR.out] at ho
        have HO1 : Hid (OKs { st with steps := st.steps + 1, armed := armedBy st.armed }) := ⟨HD.out.ok.files, ho.low, ho.high⟩
        have HO2 : Hid (OKs { st with fs := f st.fs, steps := st.steps + 1, armed := armedBy st.armed }) := ⟨ho.files, ho.low, ho.high⟩
        have HE : Hid (({ size := st.size, fs := f st.fs, steps := st.steps + 1, armed := armedBy st.armed, down := false } : St) = { st with fs := f st.fs, steps := st.steps + 1, armed := armedBy st.armed }) := by
          show ({ size := st.size, fs := f st.fs, steps := st.steps + 1, armed := armedBy st.armed, down := false } : St) = { st with fs := f st.fs, steps := st.steps + 1, armed := armedBy st.armed }
          rw [hd]
        have hst1 : (st.steps : Int) + 1 = ((st.steps + 1 : Nat) : Int) := by omega
        have hne : (st.armed == 0) = false := by simpa using ha
        clear hd ho
        by_cases hp : 0 < st.armed
        · have hA : armedBy st.armed = st.armed - 1 := by simp [armedBy, hp]
          have HA : Hid (armedBy st.armed = st.armed - 1) := hA
          clear hA
          have HD1 : Hid (DiskAt ((w.setCell ⟨a, 3, none⟩ (.int .i64 (st.armed - 1))).setCell ⟨a, 2, none⟩ (.int .i64 ((st.steps : Int) + 1))) Z a { st with steps := st.steps + 1, armed := armedBy st.armed } b es) := by
            refine HD.out.turned ?_ (fun k hk _ => ?_) rfl HO1.out
            · have := dc_set2 (dc_set3 HD.out.cells (st.armed - 1)) (st.steps + 1)
              rw [← hst1, ← HA.out] at this
              rw [← HA.out]
              exact this
            · rw [Below.heap_setCell _ _ _ _ hk, Below.heap_setCell _ _ _ _ hk]
          clear hst1
          go_enter Tryz.func82, Tryz.ntmps82
          go_wp2_with (first | (go_at_call 84; refine (HC.out HN.out rfl HZ.out _ HD1.out (fun k hk _ => by rw [Below.heap_setCell _ _ _ _ hk, Below.heap_setCell _ _ _ _ hk]) (by simp [World.setCell])).mono ?_; rintro e w2 ⟨rfl, hact2⟩))
          go_ret
          rw [HR.out, HE.out]
          have := acted HD1.out (((Only.refl _ _).setCell HD.out.za _).setCell HD.out.za _) hact2 HO2.out
          exact ⟨rfl, this⟩
        · have hA : armedBy st.armed = st.armed := by simp [armedBy, hp]
          have HA : Hid (armedBy st.armed = st.armed) := hA
          clear hA
          have HD1 : Hid (DiskAt (w.setCell ⟨a, 2, none⟩ (.int .i64 ((st.steps : Int) + 1))) Z a { st with steps := st.steps + 1, armed := armedBy st.armed } b es) := by
            refine HD.out.turned ?_ (fun k hk _ => Below.heap_setCell _ _ _ _ hk) rfl HO1.out
            have := dc_set2 HD.out.cells (st.steps + 1)
            rw [← hst1] at this
            rw [HA.out]
            exact this
          clear hst1
          go_enter Tryz.func82, Tryz.ntmps82
          go_wp2_with (first | (go_at_call 84; refine (HC.out HN.out rfl HZ.out _ HD1.out (fun k hk _ => Below.heap_setCell _ _ _ _ hk) (by simp [World.setCell])).mono ?_; rintro e w2 ⟨rfl, hact2⟩))
          go_ret
          rw [HR.out, HE.out]
          have := acted HD1.out ((Only.refl _ _).setCell HD.out.za _) hact2 HO2.out
          exact ⟨rfl, this⟩
    · have HR : Hid (stepR st wrong f = (wrong, st)) := stepR_wrong hd hw
      have hw' : (wrong != 0) = true := by simpa using hw
      clear hd hw
      go_enter Tryz.func82, Tryz.ntmps82
      go_wp2
      go_ret
      rw [HR.out]
      exact ⟨rfl, ⟨b, es, HD.out⟩, Only.refl _ _⟩

set_option maxHeartbeats 4000000 in
set_option maxRecDepth 100000 in
theorem step_syn (w : World) (Z : Nat → Prop) (a b : Nat) (es : List (Nm × Fil)) (st : St) (wrong : Int) (f : Fs → Fs) (A N : Nat) (h : DiskAt w Z a st b es) (hst : st.steps < 4611686018427387904) (hok : wrong = 0 → OKf st.size (f st.fs))
    (hact : st.down = false → wrong = 0 → st.armed ≠ 0 → ∀ w1, DiskAt w1 Z a { st with steps := st.steps + 1, armed := armedBy st.armed } b es → (∀ k, k ≠ a → k < w.heap.size → w1.heap[k]? = w.heap[k]?) → w1.heap.size = w.heap.size → Calls Tryz.prog 102 #[.pointer (some ⟨A, 0, none⟩), .pointer (some ⟨N, 0, none⟩)] w1 fun e w' => e = .returned (.tuple #[]) ∧ Acts w1 w' Z a b (f st.fs)) :
    Calls Tryz.prog 82 #[.pointer (some ⟨a, 0, none⟩), .int .i64 wrong, .func (.func 102) #[] #[.pointer (some ⟨A, 0, none⟩), .pointer (some ⟨N, 0, none⟩)]] w fun e w' => e = .returned (.int .i64 (stepR st wrong f).1) ∧ IsDisk w' Z a (stepR st wrong f).2 ∧ Only Z w w' := by
  have HD : Hid (DiskAt w Z a st b es) := h
  have HO : Hid (OKs (stepR st wrong f).2) := stepR_ok h.ok hok
  have HC : Hid (st.down = false → wrong = 0 → st.armed ≠ 0 → ∀ w1, DiskAt w1 Z a { st with steps := st.steps + 1, armed := armedBy st.armed } b es → (∀ k, k ≠ a → k < w.heap.size → w1.heap[k]? = w.heap[k]?) → w1.heap.size = w.heap.size → Calls Tryz.prog 102 #[.pointer (some ⟨A, 0, none⟩), .pointer (some ⟨N, 0, none⟩)] w1 fun e w' => e = .returned (.tuple #[]) ∧ Acts w1 w' Z a b (f st.fs)) := hact
  obtain ⟨c0, c1, c2, c3, c4, cf⟩ := cell5 h.cells
  have hlow := h.ok.low
  have hhigh := h.ok.high
  have la := h.lt
  clear hact hok h
  cases hd : st.down with
  | true =>
    rw [hd] at c4
    have HR : Hid (stepR st wrong f = (3, st)) := stepR_down hd
    clear hd
    go_enter Tryz.func82, Tryz.ntmps82
    go_wp2
    go_ret
    rw [HR.out]
    exact ⟨rfl, ⟨b, es, HD.out⟩, Only.refl _ _⟩
  | false =>
    rw [hd] at c4
    by_cases hw : wrong = 0
    · subst hw
      by_cases ha : st.armed = 0
      · have HR : Hid (stepR st 0 f = (3, { st with down := true })) := stepR_falls hd rfl ha
        rw [ha] at c3
        have HA : Hid (st.armed = 0) := ha
        clear hd ha
        go_enter Tryz.func82, Tryz.ntmps82
        go_wp2
        go_ret
        have ho := HO.out
        rw [HR.out] at ho ⊢
        exact ⟨rfl, ⟨b, es, HD.out.turned (dc_set4 HD.out.cells true) (fun k hk _ => Below.heap_setCell _ _ _ _ hk) rfl ho⟩, (Only.refl _ _).setCell HD.out.za _⟩
      · have HR : Hid (stepR st 0 f = (0, { size := st.size, fs := f st.fs, steps := st.steps + 1, armed := armedBy st.armed, down := false })) := stepR_does hd rfl ha
        have HN : Hid (st.down = false) := hd
        have HZ : Hid (st.armed ≠ 0) := ha
        have ho := HO.out
        rw [HR.out] at ho
        have HO1 : Hid (OKs { st with steps := st.steps + 1, armed := armedBy st.armed }) := ⟨HD.out.ok.files, ho.low, ho.high⟩
        have HO2 : Hid (OKs { st with fs := f st.fs, steps := st.steps + 1, armed := armedBy st.armed }) := ⟨ho.files, ho.low, ho.high⟩
        have HE : Hid (({ size := st.size, fs := f st.fs, steps := st.steps + 1, armed := armedBy st.armed, down := false } : St) = { st with fs := f st.fs, steps := st.steps + 1, armed := armedBy st.armed }) := by
          show ({ size := st.size, fs := f st.fs, steps := st.steps + 1, armed := armedBy st.armed, down := false } : St) = { st with fs := f st.fs, steps := st.steps + 1, armed := armedBy st.armed }
          rw [hd]
        have hst1 : (st.steps : Int) + 1 = ((st.steps + 1 : Nat) : Int) := by omega
        have hne : (st.armed == 0) = false := by simpa using ha
        clear hd ho
        by_cases hp : 0 < st.armed
        · have hA : armedBy st.armed = st.armed - 1 := by simp [armedBy, hp]
          have HA : Hid (armedBy st.armed = st.armed - 1) := hA
          clear hA
          have HD1 : Hid (DiskAt ((w.setCell ⟨a, 3, none⟩ (.int .i64 (st.armed - 1))).setCell ⟨a, 2, none⟩ (.int .i64 ((st.steps : Int) + 1))) Z a { st with steps := st.steps + 1, armed := armedBy st.armed } b es) := by
            refine HD.out.turned ?_ (fun k hk _ => ?_) rfl HO1.out
            · have := dc_set2 (dc_set3 HD.out.cells (st.armed - 1)) (st.steps + 1)
              rw [← hst1, ← HA.out] at this
              rw [← HA.out]
              exact this
            · rw [Below.heap_setCell _ _ _ _ hk, Below.heap_setCell _ _ _ _ hk]
          clear hst1
          go_enter Tryz.func82, Tryz.ntmps82
          go_wp2_with (first | (go_at_call 102; refine (HC.out HN.out rfl HZ.out _ HD1.out (fun k hk _ => by rw [Below.heap_setCell _ _ _ _ hk, Below.heap_setCell _ _ _ _ hk]) (by simp [World.setCell])).mono ?_; rintro e w2 ⟨rfl, hact2⟩))
          go_ret
          rw [HR.out, HE.out]
          have := acted HD1.out (((Only.refl _ _).setCell HD.out.za _).setCell HD.out.za _) hact2 HO2.out
          exact ⟨rfl, this⟩
        · have hA : armedBy st.armed = st.armed := by simp [armedBy, hp]
          have HA : Hid (armedBy st.armed = st.armed) := hA
          clear hA
          have HD1 : Hid (DiskAt (w.setCell ⟨a, 2, none⟩ (.int .i64 ((st.steps : Int) + 1))) Z a { st with steps := st.steps + 1, armed := armedBy st.armed } b es) := by
            refine HD.out.turned ?_ (fun k hk _ => Below.heap_setCell _ _ _ _ hk) rfl HO1.out
            have := dc_set2 HD.out.cells (st.steps + 1)
            rw [← hst1] at this
            rw [HA.out]
            exact this
          clear hst1
          go_enter Tryz.func82, Tryz.ntmps82
          go_wp2_with (first | (go_at_call 102; refine (HC.out HN.out rfl HZ.out _ HD1.out (fun k hk _ => Below.heap_setCell _ _ _ _ hk) (by simp [World.setCell])).mono ?_; rintro e w2 ⟨rfl, hact2⟩))
          go_ret
          rw [HR.out, HE.out]
          have := acted HD1.out ((Only.refl _ _).setCell HD.out.za _) hact2 HO2.out
          exact ⟨rfl, this⟩
    · have HR : Hid (stepR st wrong f = (wrong, st)) := stepR_wrong hd hw
      have hw' : (wrong != 0) = true := by simpa using hw
      clear hd hw
      go_enter Tryz.func82, Tryz.ntmps82
      go_wp2
      go_ret
      rw [HR.out]
      exact ⟨rfl, ⟨b, es, HD.out⟩, Only.refl _ _⟩

set_option maxHeartbeats 4000000 in
set_option maxRecDepth 100000 in
theorem step_ren (w : World) (Z : Nat → Prop) (a b : Nat) (es : List (Nm × Fil)) (st : St) (wrong : Int) (f : Fs → Fs) (A N T : Nat) (h : DiskAt w Z a st b es) (hst : st.steps < 4611686018427387904) (hok : wrong = 0 → OKf st.size (f st.fs))
    (hact : st.down = false → wrong = 0 → st.armed ≠ 0 → ∀ w1, DiskAt w1 Z a { st with steps := st.steps + 1, armed := armedBy st.armed } b es → (∀ k, k ≠ a → k < w.heap.size → w1.heap[k]? = w.heap[k]?) → w1.heap.size = w.heap.size → Calls Tryz.prog 118 #[.pointer (some ⟨A, 0, none⟩), .pointer (some ⟨N, 0, none⟩), .pointer (some ⟨T, 0, none⟩)] w1 fun e w' => e = .returned (.tuple #[]) ∧ Acts w1 w' Z a b (f st.fs)) :
    Calls Tryz.prog 82 #[.pointer (some ⟨a, 0, none⟩), .int .i64 wrong, .func (.func 118) #[] #[.pointer (some ⟨A, 0, none⟩), .pointer (some ⟨N, 0, none⟩), .pointer (some ⟨T, 0, none⟩)]] w fun e w' => e = .returned (.int .i64 (stepR st wrong f).1) ∧ IsDisk w' Z a (stepR st wrong f).2 ∧ Only Z w w' := by
  have HD : Hid (DiskAt w Z a st b es) := h
  have HO : Hid (OKs (stepR st wrong f).2) := stepR_ok h.ok hok
  have HC : Hid (st.down = false → wrong = 0 → st.armed ≠ 0 → ∀ w1, DiskAt w1 Z a { st with steps := st.steps + 1, armed := armedBy st.armed } b es → (∀ k, k ≠ a → k < w.heap.size → w1.heap[k]? = w.heap[k]?) → w1.heap.size = w.heap.size → Calls Tryz.prog 118 #[.pointer (some ⟨A, 0, none⟩), .pointer (some ⟨N, 0, none⟩), .pointer (some ⟨T, 0, none⟩)] w1 fun e w' => e = .returned (.tuple #[]) ∧ Acts w1 w' Z a b (f st.fs)) := hact
  obtain ⟨c0, c1, c2, c3, c4, cf⟩ := cell5 h.cells
  have hlow := h.ok.low
  have hhigh := h.ok.high
  have la := h.lt
  clear hact hok h
  cases hd : st.down with
  | true =>
    rw [hd] at c4
    have HR : Hid (stepR st wrong f = (3, st)) := stepR_down hd
    clear hd
    go_enter Tryz.func82, Tryz.ntmps82
    go_wp2
    go_ret
    rw [HR.out]
    exact ⟨rfl, ⟨b, es, HD.out⟩, Only.refl _ _⟩
  | false =>
    rw [hd] at c4
    by_cases hw : wrong = 0
    · subst hw
      by_cases ha : st.armed = 0
      · have HR : Hid (stepR st 0 f = (3, { st with down := true })) := stepR_falls hd rfl ha
        rw [ha] at c3
        have HA : Hid (st.armed = 0) := ha
        clear hd ha
        go_enter Tryz.func82, Tryz.ntmps82
        go_wp2
        go_ret
        have ho := HO.out
        rw [HR.out] at ho ⊢
        exact ⟨rfl, ⟨b, es, HD.out.turned (dc_set4 HD.out.cells true) (fun k hk _ => Below.heap_setCell _ _ _ _ hk) rfl ho⟩, (Only.refl _ _).setCell HD.out.za _⟩
      · have HR : Hid (stepR st 0 f = (0, { size := st.size, fs := f st.fs, steps := st.steps + 1, armed := armedBy st.armed, down := false })) := stepR_does hd rfl ha
        have HN : Hid (st.down = false) := hd
        have HZ : Hid (st.armed ≠ 0) := ha
        have ho := HO.out
        rw [HR.out] at ho
        have HO1 : Hid (OKs { st with steps := st.steps + 1, armed := armedBy st.armed }) := ⟨HD.out.ok.files, ho.low, ho.high⟩
        have HO2 : Hid (OKs { st with fs := f st.fs, steps := st.steps + 1, armed := armedBy st.armed }) := ⟨ho.files, ho.low, ho.high⟩
        have HE : Hid (({ size := st.size, fs := f st.fs, steps := st.steps + 1, armed := armedBy st.armed, down := false } : St) = { st with fs := f st.fs, steps := st.steps + 1, armed := armedBy st.armed }) := by
          show ({ size := st.size, fs := f st.fs, steps := st.steps + 1, armed := armedBy st.armed, down := false } : St) = { st with fs := f st.fs, steps := st.steps + 1, armed := armedBy st.armed }
          rw [hd]
        have hst1 : (st.steps : Int) + 1 = ((st.steps + 1 : Nat) : Int) := by omega
        have hne : (st.armed == 0) = false := by simpa using ha
        clear hd ho
        by_cases hp : 0 < st.armed
        · have hA : armedBy st.armed = st.armed - 1 := by simp [armedBy, hp]
          have HA : Hid (armedBy st.armed = st.armed - 1) := hA
          clear hA
          have HD1 : Hid (DiskAt ((w.setCell ⟨a, 3, none⟩ (.int .i64 (st.armed - 1))).setCell ⟨a, 2, none⟩ (.int .i64 ((st.steps : Int) + 1))) Z a { st with steps := st.steps + 1, armed := armedBy st.armed } b es) := by
            refine HD.out.turned ?_ (fun k hk _ => ?_) rfl HO1.out
            · have := dc_set2 (dc_set3 HD.out.cells (st.armed - 1)) (st.steps + 1)
              rw [← hst1, ← HA.out] at this
              rw [← HA.out]
              exact this
            · rw [Below.heap_setCell _ _ _ _ hk, Below.heap_setCell _ _ _ _ hk]
          clear hst1
          go_enter Tryz.func82, Tryz.ntmps82
          go_wp2_with (first | (go_at_call 118; refine (HC.out HN.out rfl HZ.out _ HD1.out (fun k hk _ => by rw [Below.heap_setCell _ _ _ _ hk, Below.heap_setCell _ _ _ _ hk]) (by simp [World.setCell])).mono ?_; rintro e w2 ⟨rfl, hact2⟩))
          go_ret
          rw [HR.out, HE.out]
          have := acted HD1.out (((Only.refl _ _).setCell HD.out.za _).setCell HD.out.za _) hact2 HO2.out
          exact ⟨rfl, this⟩
        · have hA : armedBy st.armed = st.armed := by simp [armedBy, hp]
          have HA : Hid (armedBy st.armed = st.armed) := hA
          clear hA
          have HD1 : Hid (DiskAt (w.setCell ⟨a, 2, none⟩ (.int .i64 ((st.steps : Int) + 1))) Z a { st with steps := st.steps + 1, armed := armedBy st.armed } b es) := by
            refine HD.out.turned ?_ (fun k hk _ => Below.heap_setCell _ _ _ _ hk) rfl HO1.out
            have := dc_set2 HD.out.cells (st.steps + 1)
            rw [← hst1] at this
            rw [HA.out]
            exact this
          clear hst1
          go_enter Tryz.func82, Tryz.ntmps82
          go_wp2_with (first | (go_at_call 118; refine (HC.out HN.out rfl HZ.out _ HD1.out (fun k hk _ => Below.heap_setCell _ _ _ _ hk) (by simp [World.setCell])).mono ?_; rintro e w2 ⟨rfl, hact2⟩))
          go_ret
          rw [HR.out, HE.out]
          have := acted HD1.out ((Only.refl _ _).setCell HD.out.za _) hact2 HO2.out
          exact ⟨rfl, this⟩
    · have HR : Hid (stepR st wrong f = (wrong, st)) := stepR_wrong hd hw
      have hw' : (wrong != 0) = true := by simpa using hw
      clear hd hw
      go_enter Tryz.func82, Tryz.ntmps82
      go_wp2
      go_ret
      rw [HR.out]
      exact ⟨rfl, ⟨b, es, HD.out⟩, Only.refl _ _⟩

set_option maxHeartbeats 4000000 in
set_option maxRecDepth 100000 in
theorem step_rem (w : World) (Z : Nat → Prop) (a b : Nat) (es : List (Nm × Fil)) (st : St) (wrong : Int) (f : Fs → Fs) (A N : Nat) (h : DiskAt w Z a st b es) (hst : st.steps < 4611686018427387904) (hok : wrong = 0 → OKf st.size (f st.fs))
    (hact : st.down = false → wrong = 0 → st.armed ≠ 0 → ∀ w1, DiskAt w1 Z a { st with steps := st.steps + 1, armed := armedBy st.armed } b es → (∀ k, k ≠ a → k < w.heap.size → w1.heap[k]? = w.heap[k]?) → w1.heap.size = w.heap.size → Calls Tryz.prog 103 #[.pointer (some ⟨A, 0, none⟩), .pointer (some ⟨N, 0, none⟩)] w1 fun e w' => e = .returned (.tuple #[]) ∧ Acts w1 w' Z a b (f st.fs)) :
    Calls Tryz.prog 82 #[.pointer (some ⟨a, 0, none⟩), .int .i64 wrong, .func (.func 103) #[] #[.pointer (some ⟨A, 0, none⟩), .pointer (some ⟨N, 0, none⟩)]] w fun e w' => e = .returned (.int .i64 (stepR st wrong f).1) ∧ IsDisk w' Z a (stepR st wrong f).2 ∧ Only Z w w' := by
  have HD : Hid (DiskAt w Z a st b es) := h
  have HO : Hid (OKs (stepR st wrong f).2) := stepR_ok h.ok hok
  have HC : Hid (st.down = false → wrong = 0 → st.armed ≠ 0 → ∀ w1, DiskAt w1 Z a { st with steps := st.steps + 1, armed := armedBy st.armed } b es → (∀ k, k ≠ a → k < w.heap.size → w1.heap[k]? = w.heap[k]?) → w1.heap.size = w.heap.size → Calls Tryz.prog 103 #[.pointer (some ⟨A, 0, none⟩), .pointer (some ⟨N, 0, none⟩)] w1 fun e w' => e = .returned (.tuple #[]) ∧ Acts w1 w' Z a b (f st.fs)) := hact
  obtain ⟨c0, c1, c2, c3, c4, cf⟩ := cell5 h.cells
  have hlow := h.ok.low
  have hhigh := h.ok.high
  have la := h.lt
  clear hact hok h
  cases hd : st.down with
  | true =>
    rw [hd] at c4
    have HR : Hid (stepR st wrong f = (3, st)) := stepR_down hd
    clear hd
    go_enter Tryz.func82, Tryz.ntmps82
    go_wp2
    go_ret
    rw [HR.out]
    exact ⟨rfl, ⟨b, es, HD.out⟩, Only.refl _ _⟩
  | false =>
    rw [hd] at c4
    by_cases hw : wrong = 0
    · subst hw
      by_cases ha : st.armed = 0
      · have HR : Hid (stepR st 0 f = (3, { st with down := true })) := stepR_falls hd rfl ha
        rw [ha] at c3
        have HA : Hid (st.armed = 0) := ha
        clear hd ha
        go_enter Tryz.func82, Tryz.ntmps82
        go_wp2
        go_ret
        have ho := HO.out
        rw [HR.out] at ho ⊢
        exact ⟨rfl, ⟨b, es, HD.out.turned (dc_set4 HD.out.cells true) (fun k hk _ => Below.heap_setCell _ _ _ _ hk) rfl ho⟩, (Only.refl _ _).setCell HD.out.za _⟩
      · have HR : Hid (stepR st 0 f = (0, { size := st.size, fs := f st.fs, steps := st.steps + 1, armed := armedBy st.armed, down := false })) := stepR_does hd rfl ha
        have HN : Hid (st.down = false) := hd
        have HZ : Hid (st.armed ≠ 0) := ha
        have ho := HO.out
        rw [HR.out] at ho
        have HO1 : Hid (OKs { st with steps := st.steps + 1, armed := armedBy st.armed }) := ⟨HD.out.ok.files, ho.low, ho.high⟩
        have HO2 : Hid (OKs { st with fs := f st.fs, steps := st.steps + 1, armed := armedBy st.armed }) := ⟨ho.files, ho.low, ho.high⟩
        have HE : Hid (({ size := st.size, fs := f st.fs, steps := st.steps + 1, armed := armedBy st.armed, down := false } : St) = { st with fs := f st.fs, steps := st.steps + 1, armed := armedBy st.armed }) := by
          show ({ size := st.size, fs := f st.fs, steps := st.steps + 1, armed := armedBy st.armed, down := false } : St) = { st with fs := f st.fs, steps := st.steps + 1, armed := armedBy st.armed }
          rw [hd]
        have hst1 : (st.steps : Int) + 1 = ((st.steps + 1 : Nat) : Int) := by omega
        have hne : (st.armed == 0) = false := by simpa using ha
        clear hd ho
        by_cases hp : 0 < st.armed
        · have hA : armedBy st.armed = st.armed - 1 := by simp [armedBy, hp]
          have HA : Hid (armedBy st.armed = st.armed - 1) := hA
          clear hA
          have HD1 : Hid (DiskAt ((w.setCell ⟨a, 3, none⟩ (.int .i64 (st.armed - 1))).setCell ⟨a, 2, none⟩ (.int .i64 ((st.steps : Int) + 1))) Z a { st with steps := st.steps + 1, armed := armedBy st.armed } b es) := by
            refine HD.out.turned ?_ (fun k hk _ => ?_) rfl HO1.out
            · have := dc_set2 (dc_set3 HD.out.cells (st.armed - 1)) (st.steps + 1)
              rw [← hst1, ← HA.out] at this
              rw [← HA.out]
              exact this
            · rw [Below.heap_setCell _ _ _ _ hk, Below.heap_setCell _ _ _ _ hk]
          clear hst1
          go_enter Tryz.func82, Tryz.ntmps82
          go_wp2_with (first | (go_at_call 103; refine (HC.out HN.out rfl HZ.out _ HD1.out (fun k hk _ => by rw [Below.heap_setCell _ _ _ _ hk, Below.heap_setCell _ _ _ _ hk]) (by simp [World.setCell])).mono ?_; rintro e w2 ⟨rfl, hact2⟩))
          go_ret
          rw [HR.out, HE.out]
          have := acted HD1.out (((Only.refl _ _).setCell HD.out.za _).setCell HD.out.za _) hact2 HO2.out
          exact ⟨rfl, this⟩
        · have hA : armedBy st.armed = st.armed := by simp [armedBy, hp]
          have HA : Hid (armedBy st.armed = st.armed) := hA
          clear hA
          have HD1 : Hid (DiskAt (w.setCell ⟨a, 2, none⟩ (.int .i64 ((st.steps : Int) + 1))) Z a { st with steps := st.steps + 1, armed := armedBy st.armed } b es) := by
            refine HD.out.turned ?_ (fun k hk _ => Below.heap_setCell _ _ _ _ hk) rfl HO1.out
            have := dc_set2 HD.out.cells (st.steps + 1)
            rw [← hst1] at this
            rw [HA.out]
            exact this
          clear hst1
          go_enter Tryz.func82, Tryz.ntmps82
          go_wp2_with (first | (go_at_call 103; refine (HC.out HN.out rfl HZ.out _ HD1.out (fun k hk _ => Below.heap_setCell _ _ _ _ hk) (by simp [World.setCell])).mono ?_; rintro e w2 ⟨rfl, hact2⟩))
          go_ret
          rw [HR.out, HE.out]
          have := acted HD1.out ((Only.refl _ _).setCell HD.out.za _) hact2 HO2.out
          exact ⟨rfl, this⟩
    · have HR : Hid (stepR st wrong f = (wrong, st)) := stepR_wrong hd hw
      have hw' : (wrong != 0) = true := by simpa using hw
      clear hd hw
      go_enter Tryz.func82, Tryz.ntmps82
      go_wp2
      go_ret
      rw [HR.out]
      exact ⟨rfl, ⟨b, es, HD.out⟩, Only.refl _ _⟩

end Go.Proofs.YtckmjmpajbjbkaaGreatDoor
