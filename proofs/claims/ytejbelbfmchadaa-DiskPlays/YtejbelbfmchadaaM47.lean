/- Layer 4, without the program: an armed disk. -/
import Derived.Test.YtejbelbfmchadaaM46
namespace Go.Proofs.Ytejbelbfmchadaa
open Go

theorem room_ne3 (st : St) (s : Nm) (n : Nat) : roomE st s n ≠ 3 := by
  unfold roomE
  split
  · split <;> simp
  · simp
theorem find_ne3 (fs : Fs) (s : Nm) : findE fs s ≠ 3 := by
  unfold findE
  split
  · split <;> simp
  · simp
theorem ren_ne3 (fs : Fs) (s t : Nm) : renE fs s t ≠ 3 := by
  unfold renE
  split
  · exact find_ne3 fs s
  · simp

/-- What an armed disk keeps: how many steps are done, how many are left. -/
structure Arms (A : Int) (st : St) (done : Nat) : Prop where
  steps : st.steps = done
  free : A = -1 → st.armed = -1 ∧ st.down = false
  left : 0 ≤ A → st.armed = A - (done : Int) ∧ (st.down = true → (done : Int) = A)
theorem Arms.le {A : Int} {st : St} {done : Nat} (h : Arms A st done) (ho : -1 ≤ st.armed) (hA : 0 ≤ A) (hnn : st.armed ≠ -1 ∨ (done : Int) ≤ A) : (done : Int) ≤ A := by
  have := (h.left hA).1
  rcases hnn with g | g
  · omega
  · exact g
/-- What one step tells and leaves. -/
structure Step1 (A : Int) (st : St) (done : Nat) (r : Int × St) : Prop where
  zero : r.1 = 0 → Arms A r.2 (done + 1) ∧ (0 ≤ A → (done : Int) + 1 ≤ A)
  other : r.1 ≠ 0 → Arms A r.2 done
  down : r.2.down = (st.down || decide (r.1 = 3))
  fell : r.1 = 3 → (done : Int) = A
theorem step_armed {A : Int} {st : St} {done : Nat} (hA : -1 ≤ A) (h : Arms A st done) (hle : 0 ≤ A → (done : Int) ≤ A) {wrong : Int} {f : Fs → Fs} (hw : wrong ≠ 3) : Step1 A st done (stepR st wrong f) := by
  cases hd : st.down with
  | true =>
    have e : stepR st wrong f = (3, st) := by simp [stepR, hd]
    have hA0 : 0 ≤ A := by
      rcases Int.lt_or_le A 0 with g | g
      · have := (h.free (by omega)).2
        rw [hd] at this
        cases this
      · exact g
    rw [e]
    exact ⟨fun h => by simp at h, fun _ => h, by simp [hd], fun _ => (h.left hA0).2 hd⟩
  | false =>
    by_cases hz : wrong = 0
    · subst hz
      by_cases ha : st.armed = 0
      · have e : stepR st 0 f = (3, { st with down := true }) := by simp [stepR, hd, ha]
        have hA0 : 0 ≤ A := by
          rcases Int.lt_or_le A 0 with g | g
          · have := (h.free (by omega)).1
            omega
          · exact g
        have hl := (h.left hA0).1
        rw [e]
        exact ⟨fun h => by simp at h, fun _ => ⟨h.steps, fun g => by omega, fun _ => ⟨hl, fun _ => by omega⟩⟩, by simp, fun _ => by omega⟩
      · have e : stepR st 0 f = (0, { size := st.size, fs := f st.fs, steps := st.steps + 1, armed := if 0 < st.armed then st.armed - 1 else st.armed, down := false }) := by simp [stepR, hd, ha]
        rw [e]
        refine ⟨fun _ => ⟨⟨by simp [h.steps], fun g => ?_, fun g => ?_⟩, fun g => ?_⟩, fun h => by simp at h, by simp [hd], fun h => by simp at h⟩
        · have := (h.free g).1
          simp [this]
        · have hl := (h.left g).1
          have := hle g
          refine ⟨?_, fun g => by simp at g⟩
          simp only
          rw [if_pos (by omega)]
          omega
        · have hl := (h.left g).1
          have := hle g
          omega
    · have e : stepR st wrong f = (wrong, st) := by simp [stepR, hd, hz]
      rw [e]
      exact ⟨fun g => absurd g hz, fun _ => h, by simp [hd, hw], fun g => absurd g hw⟩
theorem none_armed {A : Int} {st : St} {done : Nat} (h : Arms A st done) : Step1 A st done (1, st) :=
  ⟨fun g => by simp at g, fun _ => h, by simp, fun g => by simp at g⟩
theorem arm_new {A : Int} (hA : -1 ≤ A) : armR (gst 0 [] 0 0) A = (0, { gst 0 [] 0 0 with armed := A }) ∧ Arms A { gst 0 [] 0 0 with armed := A } 0 := by
  constructor
  · unfold armR
    rw [if_neg (by omega), if_neg (by simp [gst])]
  · refine ⟨by simp [gst], fun h => ⟨h, by simp [gst]⟩, fun _ => ⟨by simp, fun h => by simp [gst] at h⟩⟩
theorem z_app {st : St} (h : OKs st) (hl : st.fs.length < 64) (hd : st.down = false) (ha : st.armed = -1) : (appR st [122] []).1 = 0 ∧ (appR st [122] []).2.steps = st.steps + 1 := by
  have h1 : nmOk [122] = true := by decide
  have hr : roomE st [122] ([] : List UInt8).length = 0 := by
    have h2 := h.files.room
    have h3 : ¬ st.size < tot szF st.fs := by omega
    have h4 : ¬ 64 ≤ st.fs.length := by omega
    simp [roomE, h1, h3, h4]
  unfold appR
  rw [hr]
  simp [stepR, hd, ha]
end Go.Proofs.Ytejbelbfmchadaa
