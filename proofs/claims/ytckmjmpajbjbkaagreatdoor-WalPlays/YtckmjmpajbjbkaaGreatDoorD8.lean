/- Walks of layer 4, eighth part: Append, Sync, Rename, Remove. -/
import Derived.Test.YtckmjmpajbjbkaaGreatDoorD7
namespace Go.Proofs.YtckmjmpajbjbkaaGreatDoor
open Go.RowKit

theorem isOwn {es : List (Nm × Fil)} {s : Nm} (h : findE (mapL Fil.fl es) s = 0) : ∃ f, getL es s = some f := by
  have := (find_ok h).2
  rw [getL_mapL] at this
  cases hg : getL es s with
  | none => rw [hg] at this; cases this
  | some f => exact ⟨f, rfl⟩
theorem nm_size {s : ByteArray} (h : nmOk s.data.toList = true) : s.size ≤ 16 := by
  have := (nmOk_len h).2
  simpa using this
theorem bcells {w : World} {a b : Nat} {st : St} (h : w.heap[a]? = some (.cells (dcells b st) 73 (0, 0))) : ∃ cs fr, w.heap[a]? = some (.cells cs 73 fr) := ⟨_, _, h⟩
/-- A box that was made ahead of a call, behind it and behind the step's own writes. -/
theorem Box.at {w w1 w2 : World} {x a : Nat} {v : Value} {t : TypeId} (h : Box w x v t) (hb : Below w.heap.size w w1) (hk : ∀ k, k ≠ a → k < w1.heap.size → w2.heap[k]? = w1.heap[k]?) (hne : x ≠ a) : Box w2 x v t := by
  have hl := h.lt
  exact (hk x hne (Nat.lt_of_lt_of_le hl hb.size)).trans ((hb.block x hl).trans h)
theorem box0 (w : World) (v : Value) (t : TypeId) : Box (w.alloc (.cells #[v] t)) w.heap.size v t := heap_alloc_new w _
theorem Box.alloc {w : World} {x : Nat} {v : Value} {t : TypeId} (h : Box w x v t) (o : Obj) : Box (w.alloc o) x v t := (Below.heap_alloc w o x h.lt).trans h
theorem Box.drew {w : World} {x : Nat} {v : Value} {t : TypeId} (h : Box w x v t) : Box w.drew x v t := h

theorem app_step0 (w w1 : World) (Z : Nat → Prop) (a : Nat) (st : St) (s : ByteArray) (t : ByteArray) (h : IsDisk w Z a st) (hZ : ∀ k, w1.heap.size ≤ k → Z k) (hst : st.steps < 4611686018427387904) (hb1 : Below (((w.alloc (.cells #[.pointer (some ⟨a, 0, none⟩)] 26)).alloc (.cells #[.string s] 9)).alloc (.cells #[.string t] 9)).heap.size (((w.alloc (.cells #[.pointer (some ⟨a, 0, none⟩)] 26)).alloc (.cells #[.string s] 9)).alloc (.cells #[.string t] 9)) w1) :
    Calls Tryz.prog 82 #[.pointer (some ⟨a, 0, none⟩), .int .i64 (roomE st s.data.toList t.size), .func (.func 84) #[] #[.pointer (some ⟨w.heap.size, 0, none⟩), .pointer (some ⟨w.heap.size + 1, 0, none⟩), .pointer (some ⟨w.heap.size + 1 + 1, 0, none⟩)]] w1 fun e w' => e = .returned (.int .i64 (appR st s.data.toList t.data.toList).1) ∧ IsDisk w' Z a (appR st s.data.toList t.data.toList).2 ∧ Only Z w1 w' := by
  obtain ⟨b, es, hD⟩ := h
  have hW : Below w.heap.size w w1 := Below.trans (by (repeat (first | exact Below.refl _ _ | assumption | refine Below.drew ?_ | refine below_drewN ?_ _ | refine Below.alloc ?_ (by first | omega | (simp; done) | (simp; omega)) _ | refine Below.setCell ?_ (by first | omega | (simp; done) | (simp; omega)) _ | refine Below.trans ?_ (Below.mono (by assumption) (by first | omega | (simp; done) | (simp; omega)))))) (hb1.mono (by simp; omega))
  have e1 : appR st s.data.toList t.data.toList = stepR st (roomE st s.data.toList t.size) (appF s.data.toList t.data.toList) := by simp [appR]
  rw [e1]
  refine step_app w1 Z a b es st _ (appF s.data.toList t.data.toList) w.heap.size (w.heap.size + 1) (w.heap.size + 1 + 1) (hD.later hW) hst ?_ ?_
  · intro hw
    exact OKf.app hD.ok.files (by simpa using hw)
  · intro _ hw _ w2 h2 hk hsz
    have bA := (((box0 w _ _).alloc _).alloc _).at hb1 hk (by have := hD.lt; omega)
    have bN := ((by simpa using box0 (w.alloc (.cells #[.pointer (some ⟨a, 0, none⟩)] 26)) (.string s) 9 : Box ((w.alloc (.cells #[.pointer (some ⟨a, 0, none⟩)] 26)).alloc (.cells #[.string s] 9)) (w.heap.size + 1) (.string s) 9).alloc _).at hb1 hk (by have := hD.lt; omega)
    have bT := (by simpa using box0 ((w.alloc (.cells #[.pointer (some ⟨a, 0, none⟩)] 26)).alloc (.cells #[.string s] 9)) (.string t) 9 : Box (((w.alloc (.cells #[.pointer (some ⟨a, 0, none⟩)] 26)).alloc (.cells #[.string s] 9)).alloc (.cells #[.string t] 9)) (w.heap.size + 1 + 1) (.string t) 9).at hb1 hk (by have := hD.lt; omega)
    have hz2 : ∀ k, w2.heap.size ≤ k → Z k := fun k g => hZ k (by omega)
    have hfew := hD.ok.files.few
    rw [hD.count] at hfew
    obtain ⟨hn, hr, _⟩ := room_ok hw
    have := nm_size hn
    rw [hD.files]
    have hsm := hD.ok.files.small
    exact app1_any w2 Z a b es s t _ _ _ bA bN bT (cell5 h2.cells).1 (bcells h2.cells) h2.held hz2 (by omega) (by omega) (fun f hg => by
      have h3 := hD.ok.files.len (p := (s.data.toList, f.fl)) (by rw [hD.files]; exact getL_mem (by rw [getL_mapL, hg]; rfl))
      have : f.fl.1 = f.dat := rfl
      rw [this] at h3
      omega) (by omega)

theorem app_step (w w1 : World) (Z : Nat → Prop) (a : Nat) (st : St) (s : ByteArray) (t : ByteArray) (h : IsDisk w Z a st) (hZ : ∀ k, w.heap.size ≤ k → Z k) (hst : st.steps < 4611686018427387904) (hb1 : Below (((w.alloc (.cells #[.pointer (some ⟨a, 0, none⟩)] 26)).alloc (.cells #[.string s] 9)).alloc (.cells #[.string t] 9)).heap.size (((w.alloc (.cells #[.pointer (some ⟨a, 0, none⟩)] 26)).alloc (.cells #[.string s] 9)).alloc (.cells #[.string t] 9)) w1) :
    Calls Tryz.prog 82 #[.pointer (some ⟨a, 0, none⟩), .int .i64 (roomE st s.data.toList t.size), .func (.func 84) #[] #[.pointer (some ⟨w.heap.size, 0, none⟩), .pointer (some ⟨w.heap.size + 1, 0, none⟩), .pointer (some ⟨w.heap.size + 1 + 1, 0, none⟩)]] w1 fun e w' => e = .returned (.int .i64 (appR st s.data.toList t.data.toList).1) ∧ IsDisk w' Z a (appR st s.data.toList t.data.toList).2 ∧ Only Z w w' ∧ ∀ k, w.heap.size ≤ k → k < w.heap.size + 3 → w'.heap[k]? = w1.heap[k]? := by
  have hW0 : Below w.heap.size w w1 := Below.trans (by (repeat (first | exact Below.refl _ _ | assumption | refine Below.drew ?_ | refine below_drewN ?_ _ | refine Below.alloc ?_ (by first | omega | (simp; done) | (simp; omega)) _ | refine Below.setCell ?_ (by first | omega | (simp; done) | (simp; omega)) _ | refine Below.trans ?_ (Below.mono (by assumption) (by first | omega | (simp; done) | (simp; omega)))))) (hb1.mono (by simp; omega))
  have hs1 : w.heap.size + 3 ≤ w1.heap.size := by
    have := hb1.size
    simp at this
    omega
  refine (app_step0 w w1 (fun k => Z k ∧ (w.heap.size ≤ k → w.heap.size + 3 ≤ k)) a st s t (h.mono fun k hk hz => ⟨hz, fun g => absurd g (by omega)⟩) (fun k hk => ⟨hZ k (by omega), fun _ => by omega⟩) hst hb1).mono ?_
  rintro e w' ⟨he, hi, ho⟩
  exact ⟨he, hi.mono fun k _ hz => hz.1, (Only.of hW0).trans (ho.mono fun k hz => hz.1), fun k g1 g2 => ho.block k (by omega) (fun hz => absurd (hz.2 g1) (by omega))⟩

theorem syn_step0 (w w1 : World) (Z : Nat → Prop) (a : Nat) (st : St) (s : ByteArray) (h : IsDisk w Z a st) (hZ : ∀ k, w1.heap.size ≤ k → Z k) (hst : st.steps < 4611686018427387904) (hb1 : Below ((w.alloc (.cells #[.pointer (some ⟨a, 0, none⟩)] 26)).alloc (.cells #[.string s] 9)).heap.size ((w.alloc (.cells #[.pointer (some ⟨a, 0, none⟩)] 26)).alloc (.cells #[.string s] 9)) w1) :
    Calls Tryz.prog 82 #[.pointer (some ⟨a, 0, none⟩), .int .i64 (findE st.fs s.data.toList), .func (.func 102) #[] #[.pointer (some ⟨w.heap.size, 0, none⟩), .pointer (some ⟨w.heap.size + 1, 0, none⟩)]] w1 fun e w' => e = .returned (.int .i64 (synR st s.data.toList).1) ∧ IsDisk w' Z a (synR st s.data.toList).2 ∧ Only Z w1 w' := by
  obtain ⟨b, es, hD⟩ := h
  have hW : Below w.heap.size w w1 := Below.trans (by (repeat (first | exact Below.refl _ _ | assumption | refine Below.drew ?_ | refine below_drewN ?_ _ | refine Below.alloc ?_ (by first | omega | (simp; done) | (simp; omega)) _ | refine Below.setCell ?_ (by first | omega | (simp; done) | (simp; omega)) _ | refine Below.trans ?_ (Below.mono (by assumption) (by first | omega | (simp; done) | (simp; omega)))))) (hb1.mono (by simp; omega))
  refine step_syn w1 Z a b es st _ (synF s.data.toList) w.heap.size (w.heap.size + 1) (hD.later hW) hst ?_ ?_
  · intro hw
    exact hD.ok.files.syn hw
  · intro _ hw _ w2 h2 hk hsz
    have bA := (((box0 w _ _).alloc _)).at hb1 hk (by have := hD.lt; omega)
    have bN := ((by simpa using box0 (w.alloc (.cells #[.pointer (some ⟨a, 0, none⟩)] 26)) (.string s) 9 : Box ((w.alloc (.cells #[.pointer (some ⟨a, 0, none⟩)] 26)).alloc (.cells #[.string s] 9)) (w.heap.size + 1) (.string s) 9)).at hb1 hk (by have := hD.lt; omega)
    have hz2 : ∀ k, w2.heap.size ≤ k → Z k := fun k g => hZ k (by omega)
    have hfew := hD.ok.files.few
    rw [hD.count] at hfew
    obtain ⟨f, hg⟩ := isOwn (by rw [← hD.files]; exact hw)
    have := nm_size (find_ok hw).1
    rw [hD.files]
    exact syn1_any w2 Z a b es s _ _ bA bN (cell5 h2.cells).1 (bcells h2.cells) h2.held (by omega) (by omega) f hg

theorem syn_step (w w1 : World) (Z : Nat → Prop) (a : Nat) (st : St) (s : ByteArray) (h : IsDisk w Z a st) (hZ : ∀ k, w.heap.size ≤ k → Z k) (hst : st.steps < 4611686018427387904) (hb1 : Below ((w.alloc (.cells #[.pointer (some ⟨a, 0, none⟩)] 26)).alloc (.cells #[.string s] 9)).heap.size ((w.alloc (.cells #[.pointer (some ⟨a, 0, none⟩)] 26)).alloc (.cells #[.string s] 9)) w1) :
    Calls Tryz.prog 82 #[.pointer (some ⟨a, 0, none⟩), .int .i64 (findE st.fs s.data.toList), .func (.func 102) #[] #[.pointer (some ⟨w.heap.size, 0, none⟩), .pointer (some ⟨w.heap.size + 1, 0, none⟩)]] w1 fun e w' => e = .returned (.int .i64 (synR st s.data.toList).1) ∧ IsDisk w' Z a (synR st s.data.toList).2 ∧ Only Z w w' ∧ ∀ k, w.heap.size ≤ k → k < w.heap.size + 2 → w'.heap[k]? = w1.heap[k]? := by
  have hW0 : Below w.heap.size w w1 := Below.trans (by (repeat (first | exact Below.refl _ _ | assumption | refine Below.drew ?_ | refine below_drewN ?_ _ | refine Below.alloc ?_ (by first | omega | (simp; done) | (simp; omega)) _ | refine Below.setCell ?_ (by first | omega | (simp; done) | (simp; omega)) _ | refine Below.trans ?_ (Below.mono (by assumption) (by first | omega | (simp; done) | (simp; omega)))))) (hb1.mono (by simp; omega))
  have hs1 : w.heap.size + 2 ≤ w1.heap.size := by
    have := hb1.size
    simp at this
    omega
  refine (syn_step0 w w1 (fun k => Z k ∧ (w.heap.size ≤ k → w.heap.size + 2 ≤ k)) a st s (h.mono fun k hk hz => ⟨hz, fun g => absurd g (by omega)⟩) (fun k hk => ⟨hZ k (by omega), fun _ => by omega⟩) hst hb1).mono ?_
  rintro e w' ⟨he, hi, ho⟩
  exact ⟨he, hi.mono fun k _ hz => hz.1, (Only.of hW0).trans (ho.mono fun k hz => hz.1), fun k g1 g2 => ho.block k (by omega) (fun hz => absurd (hz.2 g1) (by omega))⟩

theorem ren_step0 (w w1 : World) (Z : Nat → Prop) (a : Nat) (st : St) (s : ByteArray) (t : ByteArray) (h : IsDisk w Z a st) (hZ : ∀ k, w1.heap.size ≤ k → Z k) (hst : st.steps < 4611686018427387904) (hb1 : Below (((w.alloc (.cells #[.pointer (some ⟨a, 0, none⟩)] 26)).alloc (.cells #[.string s] 9)).alloc (.cells #[.string t] 9)).heap.size (((w.alloc (.cells #[.pointer (some ⟨a, 0, none⟩)] 26)).alloc (.cells #[.string s] 9)).alloc (.cells #[.string t] 9)) w1) :
    Calls Tryz.prog 82 #[.pointer (some ⟨a, 0, none⟩), .int .i64 (renE st.fs s.data.toList t.data.toList), .func (.func 118) #[] #[.pointer (some ⟨w.heap.size, 0, none⟩), .pointer (some ⟨w.heap.size + 1, 0, none⟩), .pointer (some ⟨w.heap.size + 1 + 1, 0, none⟩)]] w1 fun e w' => e = .returned (.int .i64 (renR st s.data.toList t.data.toList).1) ∧ IsDisk w' Z a (renR st s.data.toList t.data.toList).2 ∧ Only Z w1 w' := by
  obtain ⟨b, es, hD⟩ := h
  have hW : Below w.heap.size w w1 := Below.trans (by (repeat (first | exact Below.refl _ _ | assumption | refine Below.drew ?_ | refine below_drewN ?_ _ | refine Below.alloc ?_ (by first | omega | (simp; done) | (simp; omega)) _ | refine Below.setCell ?_ (by first | omega | (simp; done) | (simp; omega)) _ | refine Below.trans ?_ (Below.mono (by assumption) (by first | omega | (simp; done) | (simp; omega)))))) (hb1.mono (by simp; omega))
  refine step_ren w1 Z a b es st _ (renF s.data.toList t.data.toList) w.heap.size (w.heap.size + 1) (w.heap.size + 1 + 1) (hD.later hW) hst ?_ ?_
  · intro hw
    exact hD.ok.files.ren hw
  · intro _ hw _ w2 h2 hk hsz
    have bA := (((box0 w _ _).alloc _).alloc _).at hb1 hk (by have := hD.lt; omega)
    have bN := ((by simpa using box0 (w.alloc (.cells #[.pointer (some ⟨a, 0, none⟩)] 26)) (.string s) 9 : Box ((w.alloc (.cells #[.pointer (some ⟨a, 0, none⟩)] 26)).alloc (.cells #[.string s] 9)) (w.heap.size + 1) (.string s) 9).alloc _).at hb1 hk (by have := hD.lt; omega)
    have bT := (by simpa using box0 ((w.alloc (.cells #[.pointer (some ⟨a, 0, none⟩)] 26)).alloc (.cells #[.string s] 9)) (.string t) 9 : Box (((w.alloc (.cells #[.pointer (some ⟨a, 0, none⟩)] 26)).alloc (.cells #[.string s] 9)).alloc (.cells #[.string t] 9)) (w.heap.size + 1 + 1) (.string t) 9).at hb1 hk (by have := hD.lt; omega)
    have hz2 : ∀ k, w2.heap.size ≤ k → Z k := fun k g => hZ k (by omega)
    have hfew := hD.ok.files.few
    rw [hD.count] at hfew
    obtain ⟨ht, hw⟩ := ren_ok hw
    obtain ⟨f, hg⟩ := isOwn (by rw [← hD.files]; exact hw)
    have := nm_size (find_ok hw).1
    have := nm_size ht
    rw [hD.files]
    exact ren1_any w2 Z a b es s t _ _ _ bA bN bT (cell5 h2.cells).1 (bcells h2.cells) h2.held (by omega) (by omega) (by omega) f hg

theorem ren_step (w w1 : World) (Z : Nat → Prop) (a : Nat) (st : St) (s : ByteArray) (t : ByteArray) (h : IsDisk w Z a st) (hZ : ∀ k, w.heap.size ≤ k → Z k) (hst : st.steps < 4611686018427387904) (hb1 : Below (((w.alloc (.cells #[.pointer (some ⟨a, 0, none⟩)] 26)).alloc (.cells #[.string s] 9)).alloc (.cells #[.string t] 9)).heap.size (((w.alloc (.cells #[.pointer (some ⟨a, 0, none⟩)] 26)).alloc (.cells #[.string s] 9)).alloc (.cells #[.string t] 9)) w1) :
    Calls Tryz.prog 82 #[.pointer (some ⟨a, 0, none⟩), .int .i64 (renE st.fs s.data.toList t.data.toList), .func (.func 118) #[] #[.pointer (some ⟨w.heap.size, 0, none⟩), .pointer (some ⟨w.heap.size + 1, 0, none⟩), .pointer (some ⟨w.heap.size + 1 + 1, 0, none⟩)]] w1 fun e w' => e = .returned (.int .i64 (renR st s.data.toList t.data.toList).1) ∧ IsDisk w' Z a (renR st s.data.toList t.data.toList).2 ∧ Only Z w w' ∧ ∀ k, w.heap.size ≤ k → k < w.heap.size + 3 → w'.heap[k]? = w1.heap[k]? := by
  have hW0 : Below w.heap.size w w1 := Below.trans (by (repeat (first | exact Below.refl _ _ | assumption | refine Below.drew ?_ | refine below_drewN ?_ _ | refine Below.alloc ?_ (by first | omega | (simp; done) | (simp; omega)) _ | refine Below.setCell ?_ (by first | omega | (simp; done) | (simp; omega)) _ | refine Below.trans ?_ (Below.mono (by assumption) (by first | omega | (simp; done) | (simp; omega)))))) (hb1.mono (by simp; omega))
  have hs1 : w.heap.size + 3 ≤ w1.heap.size := by
    have := hb1.size
    simp at this
    omega
  refine (ren_step0 w w1 (fun k => Z k ∧ (w.heap.size ≤ k → w.heap.size + 3 ≤ k)) a st s t (h.mono fun k hk hz => ⟨hz, fun g => absurd g (by omega)⟩) (fun k hk => ⟨hZ k (by omega), fun _ => by omega⟩) hst hb1).mono ?_
  rintro e w' ⟨he, hi, ho⟩
  exact ⟨he, hi.mono fun k _ hz => hz.1, (Only.of hW0).trans (ho.mono fun k hz => hz.1), fun k g1 g2 => ho.block k (by omega) (fun hz => absurd (hz.2 g1) (by omega))⟩

theorem rem_step0 (w w1 : World) (Z : Nat → Prop) (a : Nat) (st : St) (s : ByteArray) (h : IsDisk w Z a st) (hZ : ∀ k, w1.heap.size ≤ k → Z k) (hst : st.steps < 4611686018427387904) (hb1 : Below ((w.alloc (.cells #[.pointer (some ⟨a, 0, none⟩)] 26)).alloc (.cells #[.string s] 9)).heap.size ((w.alloc (.cells #[.pointer (some ⟨a, 0, none⟩)] 26)).alloc (.cells #[.string s] 9)) w1) :
    Calls Tryz.prog 82 #[.pointer (some ⟨a, 0, none⟩), .int .i64 (findE st.fs s.data.toList), .func (.func 103) #[] #[.pointer (some ⟨w.heap.size, 0, none⟩), .pointer (some ⟨w.heap.size + 1, 0, none⟩)]] w1 fun e w' => e = .returned (.int .i64 (remR st s.data.toList).1) ∧ IsDisk w' Z a (remR st s.data.toList).2 ∧ Only Z w1 w' := by
  obtain ⟨b, es, hD⟩ := h
  have hW : Below w.heap.size w w1 := Below.trans (by (repeat (first | exact Below.refl _ _ | assumption | refine Below.drew ?_ | refine below_drewN ?_ _ | refine Below.alloc ?_ (by first | omega | (simp; done) | (simp; omega)) _ | refine Below.setCell ?_ (by first | omega | (simp; done) | (simp; omega)) _ | refine Below.trans ?_ (Below.mono (by assumption) (by first | omega | (simp; done) | (simp; omega)))))) (hb1.mono (by simp; omega))
  refine step_rem w1 Z a b es st _ (remF s.data.toList) w.heap.size (w.heap.size + 1) (hD.later hW) hst ?_ ?_
  · intro hw
    exact hD.ok.files.rem _
  · intro _ hw _ w2 h2 hk hsz
    have bA := (((box0 w _ _).alloc _)).at hb1 hk (by have := hD.lt; omega)
    have bN := ((by simpa using box0 (w.alloc (.cells #[.pointer (some ⟨a, 0, none⟩)] 26)) (.string s) 9 : Box ((w.alloc (.cells #[.pointer (some ⟨a, 0, none⟩)] 26)).alloc (.cells #[.string s] 9)) (w.heap.size + 1) (.string s) 9)).at hb1 hk (by have := hD.lt; omega)
    have hz2 : ∀ k, w2.heap.size ≤ k → Z k := fun k g => hZ k (by omega)
    have hfew := hD.ok.files.few
    rw [hD.count] at hfew
    have := nm_size (find_ok hw).1
    rw [hD.files]
    exact rem1_any w2 Z a b es s _ _ bA bN (cell5 h2.cells).1 (bcells h2.cells) h2.held (by omega)

theorem rem_step (w w1 : World) (Z : Nat → Prop) (a : Nat) (st : St) (s : ByteArray) (h : IsDisk w Z a st) (hZ : ∀ k, w.heap.size ≤ k → Z k) (hst : st.steps < 4611686018427387904) (hb1 : Below ((w.alloc (.cells #[.pointer (some ⟨a, 0, none⟩)] 26)).alloc (.cells #[.string s] 9)).heap.size ((w.alloc (.cells #[.pointer (some ⟨a, 0, none⟩)] 26)).alloc (.cells #[.string s] 9)) w1) :
    Calls Tryz.prog 82 #[.pointer (some ⟨a, 0, none⟩), .int .i64 (findE st.fs s.data.toList), .func (.func 103) #[] #[.pointer (some ⟨w.heap.size, 0, none⟩), .pointer (some ⟨w.heap.size + 1, 0, none⟩)]] w1 fun e w' => e = .returned (.int .i64 (remR st s.data.toList).1) ∧ IsDisk w' Z a (remR st s.data.toList).2 ∧ Only Z w w' ∧ ∀ k, w.heap.size ≤ k → k < w.heap.size + 2 → w'.heap[k]? = w1.heap[k]? := by
  have hW0 : Below w.heap.size w w1 := Below.trans (by (repeat (first | exact Below.refl _ _ | assumption | refine Below.drew ?_ | refine below_drewN ?_ _ | refine Below.alloc ?_ (by first | omega | (simp; done) | (simp; omega)) _ | refine Below.setCell ?_ (by first | omega | (simp; done) | (simp; omega)) _ | refine Below.trans ?_ (Below.mono (by assumption) (by first | omega | (simp; done) | (simp; omega)))))) (hb1.mono (by simp; omega))
  have hs1 : w.heap.size + 2 ≤ w1.heap.size := by
    have := hb1.size
    simp at this
    omega
  refine (rem_step0 w w1 (fun k => Z k ∧ (w.heap.size ≤ k → w.heap.size + 2 ≤ k)) a st s (h.mono fun k hk hz => ⟨hz, fun g => absurd g (by omega)⟩) (fun k hk => ⟨hZ k (by omega), fun _ => by omega⟩) hst hb1).mono ?_
  rintro e w' ⟨he, hi, ho⟩
  exact ⟨he, hi.mono fun k _ hz => hz.1, (Only.of hW0).trans (ho.mono fun k hz => hz.1), fun k g1 g2 => ho.block k (by omega) (fun hz => absurd (hz.2 g1) (by omega))⟩

end Go.Proofs.YtckmjmpajbjbkaaGreatDoor
