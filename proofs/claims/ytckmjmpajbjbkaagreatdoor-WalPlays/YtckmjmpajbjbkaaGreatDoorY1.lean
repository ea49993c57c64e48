/- Layer 4, without the program: the chapter's first example. -/
import Derived.Test.YtckmjmpajbjbkaaGreatDoorM43
import Derived.KernelRfl
import Derived.Test.YtckmjmpajbjbkaaGreatDoorD11
import Derived.Test.YtckmjmpajbjbkaaGreatDoorD13
namespace Go.Proofs.YtckmjmpajbjbkaaGreatDoor
open Go

def aw0 : St := ⟨10, [], 0, -1, false⟩
def aw1 : St := ⟨10, [([97], ([120, 121, 122], 0))], 1, -1, false⟩
def aw2 : St := ⟨10, [([97], ([120, 121, 122], 3))], 2, -1, false⟩
def aw3 : St := ⟨10, [([97], ([120, 121, 122, 49, 50, 51], 3))], 3, -1, false⟩
def aw4 : St := ⟨10, [([97], ([120, 121, 122, 49, 50], 5))], 3, -1, false⟩
theorem aw_new : newE 10 [] = 0 ∧ newSt 10 [] = aw0 := ⟨by decide, rfl⟩
theorem aw_app : appR aw0 [97] [120, 121, 122] = (0, aw1) := by kernel_rfl
theorem aw_syn : synR aw1 [97] = (0, aw2) := by kernel_rfl
theorem aw_app2 : appR aw2 [97] [49, 50, 51] = (0, aw3) := by kernel_rfl
theorem aw_crash : crashR aw3 [2] = aw4 := by kernel_rfl
theorem aw_syn2 : synR aw4 [98] = (41, aw4) := by kernel_rfl
end Go.Proofs.YtckmjmpajbjbkaaGreatDoor
/- Layer 4, without the program: a file that is written beside, synced and renamed. -/
namespace Go.Proofs.YtckmjmpajbjbkaaGreatDoor
open Go

def sw0 (o : List UInt8) (F : Int) : St := ⟨1048576, [([97], (o, o.length))], 0, F, false⟩
def sw1 (o f : List UInt8) (F : Int) : St := ⟨1048576, [([97], (o, o.length)), ([98], (f, 0))], 1, F, false⟩
def sw2 (o f : List UInt8) (F : Int) : St := ⟨1048576, [([97], (o, o.length)), ([98], (f, f.length))], 2, F, false⟩
def sw3 (f : List UInt8) (F : Int) : St := ⟨1048576, [([97], (f, f.length))], 3, F, false⟩
def fallen (st : St) : St := { st with down := true }
def downBy (x : Int) : Int := if 0 < x then x - 1 else x

theorem sw_room {o f : List UInt8} (h : o.length + f.length ≤ 1048576) (F : Int) : roomE (sw0 o F) [98] f.length = 0 := by
  have h1 : nmOk [98] = true := by decide
  have h2 : tot szF (sw0 o F).fs = o.length := by simp [sw0, tot, szF]
  have h3 : ¬ (sw0 o F).size < tot szF (sw0 o F).fs + f.length := by rw [h2]; simp only [sw0]; omega
  have h4 : ¬ 64 ≤ (sw0 o F).fs.length := by simp [sw0]
  simp only [roomE, h1, if_true, h3, h4, and_false, or_self, if_false]
theorem sw_app {o f : List UInt8} (h : o.length + f.length ≤ 1048576) {F : Int} (hF : F ≠ 0) : appR (sw0 o F) [98] f = (0, sw1 o f (downBy F)) := by
  unfold appR
  rw [sw_room h F]
  have hF' : (sw0 o F).armed ≠ 0 := hF
  unfold stepR
  rw [if_neg (by simp [sw0]), if_neg (by simp), if_neg hF']
  rfl
theorem sw_app0 {o f : List UInt8} (h : o.length + f.length ≤ 1048576) : appR (sw0 o 0) [98] f = (3, fallen (sw0 o 0)) := by
  unfold appR
  rw [sw_room h 0]
  rfl
theorem sw_syn {o f : List UInt8} {F : Int} (hF : F ≠ 0) : synR (sw1 o f F) [98] = (0, sw2 o f (downBy F)) := by
  have hF' : (sw1 o f F).armed ≠ 0 := hF
  unfold synR
  rw [show findE (sw1 o f F).fs [98] = 0 from rfl]
  unfold stepR
  rw [if_neg (by simp [sw1]), if_neg (by simp), if_neg hF']
  rfl
theorem sw_syn0 (o f : List UInt8) : synR (sw1 o f 0) [98] = (3, fallen (sw1 o f 0)) := rfl
theorem sw_ren {o f : List UInt8} {F : Int} (hF : F ≠ 0) : renR (sw2 o f F) [98] [97] = (0, sw3 f (downBy F)) := by
  have hF' : (sw2 o f F).armed ≠ 0 := hF
  unfold renR
  rw [show renE (sw2 o f F).fs [98] [97] = 0 from rfl]
  unfold stepR
  rw [if_neg (by simp [sw2]), if_neg (by simp), if_neg hF']
  rfl
theorem sw_ren0 (o f : List UInt8) : renR (sw2 o f 0) [98] [97] = (3, fallen (sw2 o f 0)) := rfl
/-- What is safe stays: the file a behind a crash. -/
theorem sw_read {st : St} {x : List UInt8} {r : Fs} (ks : List Int) (h : st.fs = ([97], (x, x.length)) :: r) : readR (crashR st ks) [97] = (x, 0) := by
  have e : (crashR st ks).fs = ([97], (x, x.length)) :: crashL ks r := by
    show crashL ks st.fs = _
    rw [h, crashL_cons]
    have := crashOne_none (ks := ks) (p := ([97], (x, x.length))) (by simp)
    rw [this.1, this.2]
  have hg : getL (crashR st ks).fs [97] = some (x, x.length) := by rw [e]; rfl
  have hf : findE (crashR st ks).fs [97] = 0 := by
    have h1 : nmOk [97] = true := by decide
    simp [findE, h1, hg]
  unfold readR
  rw [if_neg (by simp [crashR]), if_neg (by rw [hf]; simp)]
  simp [fileOf, hg]
theorem sw_new {o : ByteArray} (h : o.size ≤ 1048576) : newE 1048576 [(⟨#[97]⟩, o, (o.size : Int))] = 0 ∧ newSt 1048576 [(⟨#[97]⟩, o, (o.size : Int))] = sw0 o.data.toList (-1) := by
  constructor
  · have h1 : rNum 1048576 [(⟨#[97]⟩, o, (o.size : Int))] = true := by simp [rNum, okNum]
    have h2 : rNam [(⟨#[97]⟩, o, (o.size : Int))] = true := by simp [rNam, FV.nm]; decide
    have h3 : rRoom 1048576 [(⟨#[97]⟩, o, (o.size : Int))] = true := by simp [rRoom, sumF]; omega
    simp [newE, h1, h2, h3]
  · simp [newSt, newFs, sw0, putL, FV.nm, FV.fl]
theorem sw_arm {o : List UInt8} {F : Int} (h : 0 ≤ F) : armR (sw0 o (-1)) F = (0, sw0 o F) := by
  unfold armR
  rw [if_neg (by omega), if_neg (by simp [sw0])]
  rfl
end Go.Proofs.YtckmjmpajbjbkaaGreatDoor
/- Layer 4, without the program: a file that grows piece by piece. -/
namespace Go.Proofs.YtckmjmpajbjbkaaGreatDoor
open Go

def gst (k : Nat) (all : List UInt8) (safe steps : Nat) : St := ⟨1048576, if k = 0 then [] else [([108, 111, 103], (all, safe))], steps, -1, false⟩
theorem gst_succ (k : Nat) (all : List UInt8) (safe steps : Nat) : gst (k + 1) all safe steps = ⟨1048576, [([108, 111, 103], (all, safe))], steps, -1, false⟩ := by simp [gst]
theorem gst_zero (all : List UInt8) (safe steps : Nat) : gst 0 all safe steps = ⟨1048576, [], steps, -1, false⟩ := by simp [gst]
theorem g_name : nmOk [108, 111, 103] = true := by decide
theorem g_app {k : Nat} {all t : List UInt8} {safe steps : Nat} (h : all.length + t.length ≤ 1048576) (h0 : k = 0 → all = [] ∧ safe = 0) : appR (gst k all safe steps) [108, 111, 103] t = (0, gst (k + 1) (all ++ t) safe (steps + 1)) := by
  cases k with
  | zero =>
    obtain ⟨rfl, rfl⟩ := h0 rfl
    rw [gst_zero, gst_succ]
    have hr : roomE ⟨1048576, [], steps, -1, false⟩ [108, 111, 103] t.length = 0 := by
      have : ¬ 1048576 < t.length := by simp at h; omega
      simp [roomE, g_name, tot, getL, this]
    unfold appR
    rw [hr]
    rfl
  | succ k =>
    rw [gst_succ, gst_succ]
    have hr : roomE ⟨1048576, [([108, 111, 103], (all, safe))], steps, -1, false⟩ [108, 111, 103] t.length = 0 := by
      have : ¬ 1048576 < all.length + t.length := by omega
      simp [roomE, g_name, tot, getL, szF, this]
    unfold appR
    rw [hr]
    rfl
theorem g_syn (k : Nat) (all : List UInt8) (safe steps : Nat) : synR (gst (k + 1) all safe steps) [108, 111, 103] = (0, gst (k + 1) all all.length (steps + 1)) := by
  rw [gst_succ, gst_succ]
  rfl
theorem g_read (k : Nat) (all : List UInt8) (safe steps : Nat) : readR (gst (k + 1) all safe steps) [108, 111, 103] = (all, 0) := by
  rw [gst_succ]
  rfl
theorem g_free (k : Nat) (all : List UInt8) (safe steps : Nat) (h0 : k = 0 → all = []) : freeR (gst k all safe steps) = 1048576 - (all.length : Int) := by
  cases k with
  | zero => rw [h0 rfl, gst_zero]; simp [freeR, tot]
  | succ k => rw [gst_succ]; simp [freeR, tot, szF]
theorem g_new : newE 1048576 [] = 0 ∧ newSt 1048576 [] = gst 0 [] 0 0 := ⟨by decide, rfl⟩
/-- How many bytes texts have together. -/
def sumS (l : List ByteArray) : Nat := (l.map (·.size)).sum
theorem sumS_append (a b : List ByteArray) : sumS (a ++ b) = sumS a + sumS b := by simp [sumS]
theorem sumS_succ {l : List ByteArray} {k : Nat} (h : k < l.length) : sumS (l.take (k + 1)) = sumS (l.take k) + l[k].size := by
  rw [List.take_succ_eq_append_getElem h, sumS_append]
  simp [sumS]
theorem sumS_le (l : List ByteArray) (k : Nat) : sumS (l.take k) ≤ sumS l := by
  have h := congrArg sumS (List.take_append_drop k l)
  rw [sumS_append] at h
  omega
end Go.Proofs.YtckmjmpajbjbkaaGreatDoor
/- Layer 4, without the program: an armed disk. -/
namespace Go.Proofs.YtckmjmpajbjbkaaGreatDoor
open Go

theorem room_ne3 (st : St) (s : Nm) (n : Nat) : roomE st s n ≠ 3 := by
  unfold roomE
  split
  · split <;> simp
  · simp
theorem find_ne3 (fs : Fs) (s : Nm) : findE fs s ≠ 3 := by
  unfold findE
  split
  · split <;> simp
  · simp
theorem ren_ne3 (fs : Fs) (s t : Nm) : renE fs s t ≠ 3 := by
  unfold renE
  split
  · exact find_ne3 fs s
  · simp

/-- What an armed disk keeps: how many steps are done, how many are left. -/
structure Arms (A : Int) (st : St) (done : Nat) : Prop where
  steps : st.steps = done
  free : A = -1 → st.armed = -1 ∧ st.down = false
  left : 0 ≤ A → st.armed = A - (done : Int) ∧ (st.down = true → (done : Int) = A)
theorem Arms.le {A : Int} {st : St} {done : Nat} (h : Arms A st done) (ho : -1 ≤ st.armed) (hA : 0 ≤ A) (hnn : st.armed ≠ -1 ∨ (done : Int) ≤ A) : (done : Int) ≤ A := by
  have := (h.left hA).1
  rcases hnn with g | g
  · omega
  · exact g
/-- What one step tells and leaves. -/
structure Step1 (A : Int) (st : St) (done : Nat) (r : Int × St) : Prop where
  zero : r.1 = 0 → Arms A r.2 (done + 1) ∧ (0 ≤ A → (done : Int) + 1 ≤ A)
  other : r.1 ≠ 0 → Arms A r.2 done
  down : r.2.down = (st.down || decide (r.1 = 3))
  fell : r.1 = 3 → (done : Int) = A
theorem step_armed {A : Int} {st : St} {done : Nat} (hA : -1 ≤ A) (h : Arms A st done) (hle : 0 ≤ A → (done : Int) ≤ A) {wrong : Int} {f : Fs → Fs} (hw : wrong ≠ 3) : Step1 A st done (stepR st wrong f) := by
  cases hd : st.down with
  | true =>
    have e : stepR st wrong f = (3, st) := by simp [stepR, hd]
    have hA0 : 0 ≤ A := by
      rcases Int.lt_or_le A 0 with g | g
      · have := (h.free (by omega)).2
        rw [hd] at this
        cases this
      · exact g
    rw [e]
    exact ⟨fun h => by simp at h, fun _ => h, by simp [hd], fun _ => (h.left hA0).2 hd⟩
  | false =>
    by_cases hz : wrong = 0
    · subst hz
      by_cases ha : st.armed = 0
      · have e : stepR st 0 f = (3, { st with down := true }) := by simp [stepR, hd, ha]
        have hA0 : 0 ≤ A := by
          rcases Int.lt_or_le A 0 with g | g
          · have := (h.free (by omega)).1
            omega
          · exact g
        have hl := (h.left hA0).1
        rw [e]
        exact ⟨fun h => by simp at h, fun _ => ⟨h.steps, fun g => by omega, fun _ => ⟨hl, fun _ => by omega⟩⟩, by simp, fun _ => by omega⟩
      · have e : stepR st 0 f = (0, { size := st.size, fs := f st.fs, steps := st.steps + 1, armed := if 0 < st.armed then st.armed - 1 else st.armed, down := false }) := by simp [stepR, hd, ha]
        rw [e]
        refine ⟨fun _ => ⟨⟨by simp [h.steps], fun g => ?_, fun g => ?_⟩, fun g => ?_⟩, fun h => by simp at h, by simp [hd], fun h => by simp at h⟩
        · have := (h.free g).1
          simp [this]
        · have hl := (h.left g).1
          have := hle g
          refine ⟨?_, fun g => by simp at g⟩
          simp only
          rw [if_pos (by omega)]
          omega
        · have hl := (h.left g).1
          have := hle g
          omega
    · have e : stepR st wrong f = (wrong, st) := by simp [stepR, hd, hz]
      rw [e]
      exact ⟨fun g => absurd g hz, fun _ => h, by simp [hd, hw], fun g => absurd g hw⟩
theorem none_armed {A : Int} {st : St} {done : Nat} (h : Arms A st done) : Step1 A st done (1, st) :=
  ⟨fun g => by simp at g, fun _ => h, by simp, fun g => by simp at g⟩
theorem arm_new {A : Int} (hA : -1 ≤ A) : armR (gst 0 [] 0 0) A = (0, { gst 0 [] 0 0 with armed := A }) ∧ Arms A { gst 0 [] 0 0 with armed := A } 0 := by
  constructor
  · unfold armR
    rw [if_neg (by omega), if_neg (by simp [gst])]
  · refine ⟨by simp [gst], fun h => ⟨h, by simp [gst]⟩, fun _ => ⟨by simp, fun h => by simp [gst] at h⟩⟩
theorem z_app {st : St} (h : OKs st) (hl : st.fs.length < 64) (hd : st.down = false) (ha : st.armed = -1) : (appR st [122] []).1 = 0 ∧ (appR st [122] []).2.steps = st.steps + 1 := by
  have h1 : nmOk [122] = true := by decide
  have hr : roomE st [122] ([] : List UInt8).length = 0 := by
    have h2 := h.files.room
    have h3 : ¬ st.size < tot szF st.fs := by omega
    have h4 : ¬ 64 ≤ st.fs.length := by omega
    simp [roomE, h1, h3, h4]
  unfold appR
  rw [hr]
  simp [stepR, hd, ha]
end Go.Proofs.YtckmjmpajbjbkaaGreatDoor
/- Layer 4, without the program: what a crash leaves of each file. -/
namespace Go.Proofs.YtckmjmpajbjbkaaGreatDoor
open Go

/-- A file ahead of a crash and behind it. -/
structure Cr (p q : Nm × Fl) : Prop where
  name : q.1 = p.1
  safe : q.2.2 = q.2.1.length
  le : p.2.2 ≤ p.2.1.length
  less : ∃ n, p.2.2 ≤ n ∧ n ≤ p.2.1.length ∧ q.2.1 = p.2.1.take n
theorem keeps_le (k : Int) (n : Nat) : keeps k n ≤ n := by
  unfold keeps
  omega
theorem cr_one (ks : List Int) (p : Nm × Fl) (h : p.2.2 ≤ p.2.1.length) : Cr p (crashOne ks p) := by
  by_cases ht : 0 < p.2.1.length - p.2.2
  · rw [(crashOne_tail ht).1]
    have hk := keeps_le (ks.headD 0) (p.2.1.length - p.2.2)
    refine ⟨rfl, ?_, h, _, Nat.le_add_right _ (keeps (ks.headD 0) (p.2.1.length - p.2.2)), by omega, rfl⟩
    show p.2.2 + keeps (ks.headD 0) (p.2.1.length - p.2.2) = (p.2.1.take _).length
    rw [List.length_take]
    omega
  · rw [(crashOne_none ht).1]
    exact ⟨rfl, rfl, h, p.2.1.length, h, Nat.le_refl _, by simp⟩
theorem cr_all : ∀ (ks : List Int) (fs : Fs), (∀ p ∈ fs, p.2.2 ≤ p.2.1.length) → ∀ i (h : i < fs.length) (h' : i < (crashL ks fs).length), Cr fs[i] (crashL ks fs)[i]
  | ks, p :: r, hs, 0, _, _ => by
    simp only [crashL_cons, List.getElem_cons_zero]
    exact cr_one ks p (hs p (by simp))
  | ks, p :: r, hs, i + 1, h, h' => by
    simp only [crashL_cons, List.getElem_cons_succ]
    exact cr_all (restOne ks p) r (fun q hq => hs q (List.mem_cons_of_mem _ hq)) i (by simpa using h) _
theorem crash_again : ∀ (ks : List Int) (fs : Fs), (∀ p ∈ fs, p.2.2 = p.2.1.length) → crashL ks fs = fs
  | ks, [], _ => rfl
  | ks, p :: r, hs => by
    have hp := hs p (by simp)
    rw [crashL_cons, (crashOne_none (by omega)).1, (crashOne_none (by omega)).2, crash_again ks r (fun q hq => hs q (List.mem_cons_of_mem _ hq))]
    obtain ⟨n, d, s⟩ := p
    simp only at hp
    rw [hp]
theorem crash_twice {st : St} (ks : List Int) (h : OKs st) : (crashR (crashR st ks) ks).fs = crashL ks st.fs :=
  crash_again ks _ (crashL_safe ks st.fs h.files.safe)
end Go.Proofs.YtckmjmpajbjbkaaGreatDoor
/- Walks of layer 4, fourteenth part: the statements' first calls (awake). -/
namespace Go.Proofs.YtckmjmpajbjbkaaGreatDoor
open Go.RowKit

theorem zone_newE {w w1 : World} (h : w.heap.size ≤ w1.heap.size) : ∀ k, w1.heap.size ≤ k → (fun k => w.heap.size ≤ k) k := fun _ hk => Nat.le_trans h hk
theorem Only.zoneE {w w1 w2 : World} (hb : Below w.heap.size w w1) (ho : Only (fun k => w.heap.size ≤ k) w1 w2) : Below w.heap.size w w2 := hb.trans (ho.below hb.size (fun _ hk h => by omega))

theorem ints1 (w : World) (x : Int) (t : TypeId) : Ints (w.alloc (.cells #[.int .i64 x] t)) (some ⟨w.heap.size, 0, none⟩) [x] := fun i hi => by
  have e : i = 0 := by simp at hi; omega
  subst e
  exact ⟨w.heap.size, 0, rfl, by simp⟩
/-- What was made behind a disk's blocks is none of them. -/
theorem IsDisk.apart {w w' : World} {Z : Nat → Prop} {a : Nat} {st : St} (h : IsDisk w Z a st) (hb : Below w.heap.size w w') : IsDisk w' (fun k => (Z k ∧ k < w.heap.size) ∨ w'.heap.size ≤ k) a st :=
  ((h.mono (Z' := fun k => Z k ∧ k < w.heap.size) fun _ hk hz => ⟨hz, hk⟩).later hb).mono fun _ _ hz => Or.inl hz



/-- One of a script. -/
structure OpV where
  what : Int
  a : ByteArray
  b : ByteArray
  data : ByteArray
  n : Int
  kp : Option Addr
  kc : Nat
  ks : List Int
def OpV.cells (x : OpV) : Array Value := #[.int .i64 x.what, .string x.a, .string x.b, .string x.data, .int .i64 x.n, .slice x.kp x.ks.length x.kc]
def ORow (w : World) (p : Option Addr) (l : List OpV) : Prop := ∀ i (h : i < l.length), ∃ b off, p = some ⟨b, off, none⟩ ∧ w.cell? ⟨b, off + i * 6, none⟩ = some (.int .i64 (l[i]).what) ∧ w.cell? ⟨b, off + i * 6 + 1, none⟩ = some (.string (l[i]).a) ∧
  w.cell? ⟨b, off + i * 6 + 2, none⟩ = some (.string (l[i]).b) ∧ w.cell? ⟨b, off + i * 6 + 3, none⟩ = some (.string (l[i]).data) ∧ w.cell? ⟨b, off + i * 6 + 4, none⟩ = some (.int .i64 (l[i]).n) ∧ w.cell? ⟨b, off + i * 6 + 5, none⟩ = some (.slice (l[i]).kp (l[i]).ks.length (l[i]).kc) ∧
  Ints w (l[i]).kp (l[i]).ks ∧ (l[i]).ks.length ≤ (l[i]).kc ∧ (l[i]).n ≤ 9223372036854775807
theorem ints_later {w w' : World} {p : Option Addr} {ks : List Int} (h : Ints w p ks) (hb : Below w.heap.size w w') : Ints w' p ks := fun i hi => by
  obtain ⟨b, off, e, hc⟩ := h i hi
  exact ⟨b, off, e, cell_later hb hc⟩
theorem ORow.later {w w' : World} {p : Option Addr} {l : List OpV} (h : ORow w p l) (hb : Below w.heap.size w w') : ORow w' p l := fun i hi => by
  obtain ⟨b, off, e, c0, c1, c2, c3, c4, c5, hin, r⟩ := h i hi
  exact ⟨b, off, e, cell_later hb c0, cell_later hb c1, cell_later hb c2, cell_later hb c3, cell_later hb c4, cell_later hb c5, ints_later hin hb, r⟩
/-- At one place, the one under a name. -/
theorem ORow.at {w : World} {p : Option Addr} {l : List OpV} (h : ORow w p l) {k : Nat} (hk : k < l.length) {x : OpV} (hx : l[k] = x) : ∃ b off, p = some ⟨b, off, none⟩ ∧ w.cell? ⟨b, off + k * 6, none⟩ = some (.int .i64 x.what) ∧ w.cell? ⟨b, off + k * 6 + 1, none⟩ = some (.string x.a) ∧
    w.cell? ⟨b, off + k * 6 + 2, none⟩ = some (.string x.b) ∧ w.cell? ⟨b, off + k * 6 + 3, none⟩ = some (.string x.data) ∧ w.cell? ⟨b, off + k * 6 + 4, none⟩ = some (.int .i64 x.n) ∧ w.cell? ⟨b, off + k * 6 + 5, none⟩ = some (.slice x.kp x.ks.length x.kc) ∧ Ints w x.kp x.ks ∧ x.ks.length ≤ x.kc ∧ x.n ≤ 9223372036854775807 := by
  subst hx
  exact h k hk

def goR (st : St) (x : OpV) : Int × St :=
  if x.what = 1 then appR st x.a.data.toList x.data.data.toList else if x.what = 2 then synR st x.a.data.toList else if x.what = 3 then renR st x.a.data.toList x.b.data.toList else if x.what = 4 then remR st x.a.data.toList else (1, st)





/-- The five cells of the document's disk. -/
def rcells (v : Value) (st : St) : Array Value := #[.int .i64 (st.size : Int), v, .int .i64 st.armed, .bool st.down, .int .i64 (st.steps : Int)]
/-- The document's disk in memory: its cells, the row of its files by rising names. -/
structure RefAt (w : World) (Z : Nat → Prop) (a : Nat) (st : St) (v : Value) : Prop where
  cells : w.heap[a]? = some (.cells (rcells v st) 79 (0, 0))
  za : Z a
  row : w.ownsRow 0 65 3 v st.fs.length (fc st.fs)
  zone : ∀ g, v.ownBlock = some g → Z g
  sorted : srt st.fs
  few : st.fs.length ≤ 1000
theorem rcell5 {w : World} {a : Nat} {v : Value} {st : St} (h : w.heap[a]? = some (.cells (rcells v st) 79 (0, 0))) :
    w.cell? ⟨a, 0, none⟩ = some (.int .i64 (st.size : Int)) ∧ w.cell? ⟨a, 1, none⟩ = some v ∧ w.cell? ⟨a, 2, none⟩ = some (.int .i64 st.armed) ∧ w.cell? ⟨a, 3, none⟩ = some (.bool st.down) ∧ w.cell? ⟨a, 4, none⟩ = some (.int .i64 (st.steps : Int)) ∧ (∀ o, w.frozen? ⟨a, o, none⟩ = false) := by
  simp [World.cell?, World.frozen?, h, rcells]
theorem RefAt.lt {w : World} {Z : Nat → Prop} {a : Nat} {st : St} {v : Value} (h : RefAt w Z a st v) : a < w.heap.size := (Array.getElem?_eq_some_iff.1 h.cells).1
theorem RefAt.ne {w : World} {Z : Nat → Prop} {a : Nat} {st : St} {v : Value} (h : RefAt w Z a st v) : v.ownBlock ≠ some a := fun e => by
  obtain ⟨_, ⟨rfl, _⟩ | ⟨g, cap, cur, rfl, _, hg, _⟩⟩ := h.row
  · cases e
  · have e' : g = a := by simpa [Value.ownBlock] using e
    rw [e', h.cells] at hg
    simp only [Option.some.injEq, Obj.cells.injEq] at hg
    exact absurd hg.2.1 (by decide)
theorem RefAt.later {w w' : World} {Z : Nat → Prop} {a : Nat} {st : St} {v : Value} (h : RefAt w Z a st v) (hb : Below w.heap.size w w') : RefAt w' Z a st v :=
  ⟨(hb.block a h.lt).trans h.cells, h.za, own_later h.row hb, h.zone, h.sorted, h.few⟩
/-- The cells of a file in the row. -/
theorem fc_atE : ∀ (l : Fs) (i : Nat) (h : i < l.length), (fc l)[i * 3]? = some (.string ⟨(l[i]).1.toArray⟩) ∧ (fc l)[i * 3 + 1]? = some (.string ⟨(l[i]).2.1.toArray⟩) ∧ (fc l)[i * 3 + 2]? = some (.int .i64 ((l[i]).2.2 : Int))
  | p :: r, 0, _ => ⟨rfl, rfl, rfl⟩
  | p :: r, i + 1, h => by
    have := fc_atE r i (by simpa using h)
    have e0 : (i + 1) * 3 = i * 3 + 1 + 1 + 1 := by omega
    have e1 : (i + 1) * 3 + 1 = (i * 3 + 1) + 1 + 1 + 1 := by omega
    have e2 : (i + 1) * 3 + 2 = (i * 3 + 2) + 1 + 1 + 1 := by omega
    rw [e1, e2, e0]
    simpa only [fc, List.getElem?_cons_succ, List.getElem_cons_succ] using this
theorem row_at {w : World} {B : Nat} {p : Option Addr} {cap : Nat} {l : Fs} (h : w.ownsRow B 65 3 (.slice p l.length cap) l.length (fc l)) {i : Nat} (hi : i < l.length) :
    ∃ g, p = some ⟨g, 0, none⟩ ∧ w.cell? ⟨g, i * 3, none⟩ = some (.string ⟨(l[i]).1.toArray⟩) ∧ w.cell? ⟨g, i * 3 + 1, none⟩ = some (.string ⟨(l[i]).2.1.toArray⟩) ∧ w.cell? ⟨g, i * 3 + 2, none⟩ = some (.int .i64 ((l[i]).2.2 : Int)) := by
  have hc := fun g => h.cells (g := g)
  obtain ⟨_, ⟨_, e⟩ | ⟨g, cap', cur, e1, _⟩⟩ := h
  · omega
  · simp only [Value.slice.injEq] at e1
    obtain ⟨rfl, _, rfl⟩ := e1
    obtain ⟨f0, f1, f2⟩ := fc_atE l i hi
    have k0 := hc g rfl _ _ f0
    have k1 := hc g rfl _ _ f1
    have k2 := hc g rfl _ _ f2
    simp only [Addr.add_lit, Nat.zero_add] at k0 k1 k2
    exact ⟨g, rfl, k0, k1, k2⟩

set_option maxHeartbeats 8000000 in
set_option maxRecDepth 100000 in
theorem name_anyE (s : ByteArray) (w : World) (hs : s.size ≤ 9223372036854775807) : Calls Tryz.prog 30 #[.string s] w fun e w' => e = .returned (.bool (nmOk s.data.toList)) ∧ w' = w := by
  have hsl : s.data.toList.length = s.size := by simp
  have HR : Hid (s.data.toList.all nmb = true → nmOk s.data.toList = (decide (1 ≤ s.size) && decide (s.size ≤ 16))) := fun h => by simp only [nmOk, h, Bool.and_true, hsl]
  have HF : Hid (s.data.toList.all nmb = false → nmOk s.data.toList = false) := fun h => by simp only [nmOk, h, Bool.and_false]
  clear hsl
  go_enter Tryz.func30, Tryz.ntmps30
  go_wp2
  go_loopw [3] (fun i wr => ∃ k : Nat, k ≤ s.size ∧ i = .int .i64 k ∧ (s.data.toList.take k).all nmb = true ∧ wr = w) (fun i _ => s.size - (intOf i).toNat)
  case atStart => exact ⟨0, Nat.zero_le _, rfl, by simp, rfl⟩
  case round =>
    obtain ⟨k, hk, rfl, hall, rfl⟩ := hrel
    have HA : Hid ((s.data.toList.take k).all nmb = true) := hall
    clear hall
    by_cases hlt : k < s.size
    · have hlti : (k : Int) < (s.size : Int) := by omega
      have HT : Hid (nmb s[k] = true → (s.data.toList.take (k + 1)).all nmb = true) := fun h => by rw [all_take hlt, HA.out, h]; rfl
      have HN : Hid (nmb s[k] = false → s.data.toList.all nmb = false) := fun h => by
        rw [List.all_eq_false]
        exact ⟨s[k], by simp [ByteArray.getElem_eq_getElem_data], by simp [h]⟩
      have HB : Hid (nmb s[k] = true ↔ ((97 ≤ s[k].toNat ∧ s[k].toNat ≤ 122) ∨ (48 ≤ s[k].toNat ∧ s[k].toNat ≤ 57) ∨ s[k].toNat = 45 ∨ s[k].toNat = 46)) := by simp [Hid, nmb, or_assoc]
      have HBF : Hid (¬ ((97 ≤ s[k].toNat ∧ s[k].toNat ≤ 122) ∨ (48 ≤ s[k].toNat ∧ s[k].toNat ≤ 57) ∨ s[k].toNat = 45 ∨ s[k].toNat = 46) → nmb s[k] = false) := fun h => by
        cases hb : nmb s[k] with
        | false => rfl
        | true => exact absurd (HB.out.1 hb) h
      obtain ⟨n, hn⟩ : ∃ n, s[k].toNat = n := ⟨_, rfl⟩
      rw [hn] at HB HBF
      have HLT : Hid (k < s.size) := hlt
      have hcase : n < 45 ∨ n = 45 ∨ n = 46 ∨ n = 47 ∨ (48 ≤ n ∧ n ≤ 57) ∨ (58 ≤ n ∧ n ≤ 96) ∨ (97 ≤ n ∧ n ≤ 122) ∨ 123 ≤ n := by omega
      rcases hcase with q | q | q | q | ⟨q, q'⟩ | ⟨q, q'⟩ | ⟨q, q'⟩ | q
      · have e45 : ((n : Int) != 45) = true := by simp; try omega
        have e46 : ((n : Int) != 46) = true := by simp; try omega
        have f48 : (n : Int) < 48 := by omega
        have f57 : ¬ (57 : Int) < (n : Int) := by omega
        have f97 : (n : Int) < 97 := by omega
        have f122 : ¬ (122 : Int) < (n : Int) := by omega
        have HX : Hid (nmOk s.data.toList = false) := HF.out (HN.out (HBF.out (by omega)))
        clear HB HBF q
        go_wp2
        go_ret
        exact ⟨ret_bool HX.out.symm, rfl⟩
      · have e45 : ((n : Int) != 45) = false := by simp; try omega
        have e46 : ((n : Int) != 46) = true := by simp; try omega
        have f48 : (n : Int) < 48 := by omega
        have f57 : ¬ (57 : Int) < (n : Int) := by omega
        have f97 : (n : Int) < 97 := by omega
        have f122 : ¬ (122 : Int) < (n : Int) := by omega
        have HX : Hid ((s.data.toList.take (k + 1)).all nmb = true) := HT.out (HB.out.2 (by omega))
        clear HB HBF q
        go_wp2
        go_roundw
        case rel => exact ⟨k + 1, HLT.out, by go_num, HX.out, trivial⟩
        case measure => have := HLT.out; simp [intOf]; omega
      · have e45 : ((n : Int) != 45) = true := by simp; try omega
        have e46 : ((n : Int) != 46) = false := by simp; try omega
        have f48 : (n : Int) < 48 := by omega
        have f57 : ¬ (57 : Int) < (n : Int) := by omega
        have f97 : (n : Int) < 97 := by omega
        have f122 : ¬ (122 : Int) < (n : Int) := by omega
        have HX : Hid ((s.data.toList.take (k + 1)).all nmb = true) := HT.out (HB.out.2 (by omega))
        clear HB HBF q
        go_wp2
        go_roundw
        case rel => exact ⟨k + 1, HLT.out, by go_num, HX.out, trivial⟩
        case measure => have := HLT.out; simp [intOf]; omega
      · have e45 : ((n : Int) != 45) = true := by simp; try omega
        have e46 : ((n : Int) != 46) = true := by simp; try omega
        have f48 : (n : Int) < 48 := by omega
        have f57 : ¬ (57 : Int) < (n : Int) := by omega
        have f97 : (n : Int) < 97 := by omega
        have f122 : ¬ (122 : Int) < (n : Int) := by omega
        have HX : Hid (nmOk s.data.toList = false) := HF.out (HN.out (HBF.out (by omega)))
        clear HB HBF q
        go_wp2
        go_ret
        exact ⟨ret_bool HX.out.symm, rfl⟩
      · have e45 : ((n : Int) != 45) = true := by simp; try omega
        have e46 : ((n : Int) != 46) = true := by simp; try omega
        have f48 : ¬ (n : Int) < 48 := by omega
        have f57 : ¬ (57 : Int) < (n : Int) := by omega
        have f97 : (n : Int) < 97 := by omega
        have f122 : ¬ (122 : Int) < (n : Int) := by omega
        have HX : Hid ((s.data.toList.take (k + 1)).all nmb = true) := HT.out (HB.out.2 (by omega))
        clear HB HBF q q'
        go_wp2
        go_roundw
        case rel => exact ⟨k + 1, HLT.out, by go_num, HX.out, trivial⟩
        case measure => have := HLT.out; simp [intOf]; omega
      · have e45 : ((n : Int) != 45) = true := by simp; try omega
        have e46 : ((n : Int) != 46) = true := by simp; try omega
        have f48 : ¬ (n : Int) < 48 := by omega
        have f57 : (57 : Int) < (n : Int) := by omega
        have f97 : (n : Int) < 97 := by omega
        have f122 : ¬ (122 : Int) < (n : Int) := by omega
        have HX : Hid (nmOk s.data.toList = false) := HF.out (HN.out (HBF.out (by omega)))
        clear HB HBF q q'
        go_wp2
        go_ret
        exact ⟨ret_bool HX.out.symm, rfl⟩
      · have e45 : ((n : Int) != 45) = true := by simp; try omega
        have e46 : ((n : Int) != 46) = true := by simp; try omega
        have f48 : ¬ (n : Int) < 48 := by omega
        have f57 : (57 : Int) < (n : Int) := by omega
        have f97 : ¬ (n : Int) < 97 := by omega
        have f122 : ¬ (122 : Int) < (n : Int) := by omega
        have HX : Hid ((s.data.toList.take (k + 1)).all nmb = true) := HT.out (HB.out.2 (by omega))
        clear HB HBF q q'
        go_wp2
        go_roundw
        case rel => exact ⟨k + 1, HLT.out, by go_num, HX.out, trivial⟩
        case measure => have := HLT.out; simp [intOf]; omega
      · have e45 : ((n : Int) != 45) = true := by simp; try omega
        have e46 : ((n : Int) != 46) = true := by simp; try omega
        have f48 : ¬ (n : Int) < 48 := by omega
        have f57 : (57 : Int) < (n : Int) := by omega
        have f97 : ¬ (n : Int) < 97 := by omega
        have f122 : (122 : Int) < (n : Int) := by omega
        have HX : Hid (nmOk s.data.toList = false) := HF.out (HN.out (HBF.out (by omega)))
        clear HB HBF q
        go_wp2
        go_ret
        exact ⟨ret_bool HX.out.symm, rfl⟩
    · have hk' : k = s.size := by omega
      subst hk'
      have HE : Hid (nmOk s.data.toList = (decide (1 ≤ s.size) && decide (s.size ≤ 16))) := HR.out (by
        have := HA.out
        rwa [List.take_of_length_le (by simp)] at this)
      by_cases h1 : 1 ≤ s.size
      · have h1i : (1 : Int) ≤ (s.size : Int) := by omega
        by_cases h2 : s.size ≤ 16
        · have h2i : (s.size : Int) ≤ 16 := by omega
          go_wp2
          go_ret
          exact ⟨ret_bool (by rw [HE.out, decide_eq_true h1, decide_eq_true h2]; rfl), rfl⟩
        · have h2i : ¬ (s.size : Int) ≤ 16 := by omega
          go_wp2
          go_ret
          exact ⟨ret_bool (by rw [HE.out, decide_eq_false h2, Bool.and_false]), rfl⟩
      · have h1i : ¬ (1 : Int) ≤ (s.size : Int) := by omega
        go_wp2
        go_ret
        exact ⟨ret_bool (by rw [HE.out, decide_eq_false h1, Bool.false_and]), rfl⟩

/-- Where a name stands, or would stand. -/
structure PlaceAt (fs : Fs) (k : Nm) (j : Nat) : Prop where
  le : j ≤ fs.length
  less : ∀ i (h : i < fs.length), i < j → Op.bytesLess (fs[i]).1 k = true
  not : ∀ h : j < fs.length, Op.bytesLess (fs[j]).1 k = false

set_option maxHeartbeats 4000000 in
set_option maxRecDepth 100000 in
theorem place_any (w : World) (Z : Nat → Prop) (a : Nat) (st : St) (v : Value) (s : ByteArray) (h : RefAt w Z a st v) : Calls Tryz.prog 63 #[.pointer (some ⟨a, 0, none⟩), .string s] w fun e w' => ∃ j : Nat, e = .returned (.int .i64 (j : Int)) ∧ PlaceAt st.fs s.data.toList j ∧ w' = w := by
  obtain ⟨p, cap, rfl⟩ := own_form h.row
  obtain ⟨c0, c1, c2, c3, c4, cf⟩ := rcell5 h.cells
  have HD : Hid (RefAt w Z a st (.slice p st.fs.length cap)) := h
  have hfew := h.few
  clear h
  obtain ⟨fs, hfs⟩ : ∃ fs, st.fs = fs := ⟨_, rfl⟩
  have HROW : Hid (w.ownsRow 0 65 3 (.slice p fs.length cap) fs.length (fc fs)) := by
    have := HD.out.row
    rw [hfs] at this
    exact this
  rw [hfs] at c1 hfew
  simp only [hfs]
  clear hfs HD
  go_enter Tryz.func63, Tryz.ntmps63
  go_wp2
  go_loopw [5] (fun i wr => ∃ k : Nat, k ≤ fs.length ∧ i = .int .i64 k ∧ (∀ j (h : j < fs.length), j < k → Op.bytesLess (fs[j]).1 s.data.toList = true) ∧ wr = w) (fun i _ => fs.length - (intOf i).toNat)
  case atStart => exact ⟨0, Nat.zero_le _, rfl, fun j _ h => absurd h (Nat.not_lt_zero _), rfl⟩
  case round =>
    obtain ⟨k, hk, rfl, hall, rfl⟩ := hrel
    have HA : Hid (∀ j (h : j < fs.length), j < k → Op.bytesLess (fs[j]).1 s.data.toList = true) := hall
    clear hall
    by_cases hlt : k < fs.length
    · have hlti : (k : Int) < (fs.length : Int) := by omega
      obtain ⟨g, rfl, d0, d1, d2⟩ := row_at HROW.out hlt
      obtain ⟨nm, hnm⟩ : ∃ nm, (fs[k]).1 = nm := ⟨_, rfl⟩
      rw [hnm] at d0
      have HN : Hid ((fs[k]).1 = nm) := hnm
      have HLT : Hid (k < fs.length) := hlt
      have e2 : s.toList = s.data.toList := ByteArray.toList_eq _
      clear hnm
      cases hb : Op.bytesLess nm s.data.toList with
      | true =>
        have HX : Hid (∀ j (h : j < fs.length), j < k + 1 → Op.bytesLess (fs[j]).1 s.data.toList = true) := by
          intro j h hj
          by_cases e : j = k
          · subst e
            rw [HN.out]
            exact hb
          · exact HA.out j h (by omega)
        have hb' : Op.bytesLess nm s.toList = true := by rw [e2]; exact hb
        clear hb e2
        go_wp2
        go_roundw
        case rel => exact ⟨k + 1, HLT.out, by go_num, HX.out, trivial⟩
        case measure => have := HLT.out; simp [intOf]; omega
      | false =>
        have HX : Hid (PlaceAt fs s.data.toList k) := ⟨hk, fun i h g => HA.out i h g, fun _ => by rw [HN.out]; exact hb⟩
        have hb' : Op.bytesLess nm s.toList = false := by rw [e2]; exact hb
        clear hb e2
        go_wp2
        go_ret
        exact ⟨k, rfl, HX.out, rfl⟩
    · have hk' : k = fs.length := by omega
      subst hk'
      go_wp2
      go_ret
      exact ⟨_, rfl, ⟨Nat.le_refl _, fun i h g => HA.out i h g, fun h => absurd h (Nat.lt_irrefl _)⟩, rfl⟩
end Go.Proofs.YtckmjmpajbjbkaaGreatDoor
/- The document's functions of layer 4, second part: where a name stands, without the program; there. -/
namespace Go.Proofs.YtckmjmpajbjbkaaGreatDoor
open Go.RowKit

theorem fc_set : ∀ (l : Fs) (k : Nat), k < l.length → ∀ p : Nm × Fl, (((fc l).set (k * 3) (.string ⟨p.1.toArray⟩)).set (k * 3 + 1) (.string ⟨p.2.1.toArray⟩)).set (k * 3 + 2) (.int .i64 (p.2.2 : Int)) = fc (l.set k p)
  | q :: r, 0, _, p => rfl
  | q :: r, k + 1, h, p => by
    have ih := fc_set r k (by simpa using h) p
    have e0 : (k + 1) * 3 = k * 3 + 1 + 1 + 1 := by omega
    have e1 : (k + 1) * 3 + 1 = (k * 3 + 1) + 1 + 1 + 1 := by omega
    have e2 : (k + 1) * 3 + 2 = (k * 3 + 2) + 1 + 1 + 1 := by omega
    rw [e1, e2, e0]
    simp only [fc, List.set_cons_succ, ih]

theorem place_tail {p : Nm × Fl} {r : Fs} {k : Nm} {j : Nat} (h : PlaceAt (p :: r) k (j + 1)) : PlaceAt r k j :=
  ⟨by have := h.le; simp at this; omega, fun i hi hj => by have := h.less (i + 1) (by simp; omega) (by omega); simpa using this, fun hj => by have := h.not (by simp; omega); simpa using this⟩
theorem place_get : ∀ {fs : Fs} {k : Nm} {j : Nat}, srt fs → PlaceAt fs k j → getL fs k = if h : j < fs.length then (if (fs[j]).1 = k then some (fs[j]).2 else none) else none
  | [], k, j, _, h => by simp [getL]
  | p :: r, k, 0, hs, h => by
    have hn := h.not (by simp)
    simp only [List.getElem_cons_zero] at hn
    simp only [List.length_cons, Nat.zero_lt_succ, dite_true, List.getElem_cons_zero]
    by_cases e : p.1 = k
    · rw [if_pos e]
      simp [getL, e]
    · rw [if_neg e]
      cases hg : getL (p :: r) k with
      | none => rfl
      | some y =>
        exfalso
        have hlt := bl_total _ _ hn e
        rcases List.mem_cons.1 (getL_mem hg) with g | g
        · exact e (by rw [← g])
        · have := bl_trans _ _ _ hlt ((List.pairwise_cons.1 hs).1 _ g)
          rw [bl_irrefl] at this
          cases this
  | p :: r, k, j + 1, hs, h => by
    have hl := h.less 0 (by simp) (by omega)
    simp only [List.getElem_cons_zero] at hl
    have hne : p.1 ≠ k := fun e => by rw [e, bl_irrefl] at hl; cases hl
    have ih := place_get (List.pairwise_cons.1 hs).2 (place_tail h)
    simp only [getL, if_neg hne, ih, List.length_cons, Nat.add_lt_add_iff_right, List.getElem_cons_succ]
theorem place_new : ∀ {fs : Fs} {k : Nm} {j : Nat} (x : Fl), srt fs → PlaceAt fs k j → getL fs k = none → putL fs k x = fs.take j ++ (k, x) :: fs.drop j
  | [], k, j, x, _, h, _ => by
    have : j = 0 := by have := h.le; simp at this; exact this
    subst this
    rfl
  | p :: r, k, 0, x, hs, h, hg => by
    have hn := h.not (by simp)
    simp only [List.getElem_cons_zero] at hn
    have hne : p.1 ≠ k := getL_none hg p (by simp)
    have hlt := bl_total _ _ hn hne
    show putL (p :: r) k x = (k, x) :: p :: r
    unfold putL
    rw [if_pos hlt]
  | p :: r, k, j + 1, x, hs, h, hg => by
    have hl := h.less 0 (by simp) (by omega)
    simp only [List.getElem_cons_zero] at hl
    have hne : p.1 ≠ k := getL_none hg p (by simp)
    have hg' : getL r k = none := by
      have := hg
      simp only [getL, if_neg hne] at this
      exact this
    have ih := place_new x (List.pairwise_cons.1 hs).2 (place_tail h) hg'
    unfold putL
    rw [if_neg (by rw [bl_asymm _ _ hl]; simp), if_neg hne, ih]
    rfl
/-- A list with one place more. -/
def shf (fs : Fs) (k : Nat) (X : Nm × Fl) : Fs := fs.take k ++ X :: fs.drop k
theorem shf_length (fs : Fs) (k : Nat) (X : Nm × Fl) (h : k ≤ fs.length) : (shf fs k X).length = fs.length + 1 := by
  simp [shf]
  omega
theorem shf_set {fs : Fs} {k : Nat} (h : k ≤ fs.length) (X Y : Nm × Fl) : (shf fs k X).set k Y = shf fs k Y := by
  have hl : (fs.take k).length = k := by rw [List.length_take]; omega
  unfold shf
  rw [List.set_append_right _ _ (by omega), hl, Nat.sub_self, List.set_cons_zero]
theorem shf_back {fs : Fs} {k : Nat} (h : k < fs.length) (X : Nm × Fl) : (shf fs (k + 1) X).set (k + 1) fs[k] = shf fs k fs[k] := by
  rw [shf_set (by omega)]
  unfold shf
  rw [List.take_succ_eq_append_getElem h, List.append_assoc, List.drop_eq_getElem_cons h]
  rfl
theorem shf_at {fs : Fs} {k : Nat} (h : k < fs.length) (X : Nm × Fl) (h' : k < (shf fs (k + 1) X).length) : (shf fs (k + 1) X)[k] = fs[k] := by
  have hl : k < (fs.take (k + 1)).length := by rw [List.length_take]; omega
  simp only [shf]
  rw [List.getElem_append_left hl, List.getElem_take]
theorem shf_end (fs : Fs) (X : Nm × Fl) : shf fs fs.length X = fs ++ [X] := by simp [shf]

set_option maxHeartbeats 4000000 in
set_option maxRecDepth 100000 in
theorem there_any (w : World) (Z : Nat → Prop) (a : Nat) (st : St) (v : Value) (s : ByteArray) (h : RefAt w Z a st v) : Calls Tryz.prog 99 #[.pointer (some ⟨a, 0, none⟩), .string s] w fun e w' => e = .returned (.bool (getL st.fs s.data.toList).isSome) ∧ w' = w := by
  obtain ⟨p, cap, rfl⟩ := own_form h.row
  obtain ⟨c0, c1, c2, c3, c4, cf⟩ := rcell5 h.cells
  have HD : Hid (RefAt w Z a st (.slice p st.fs.length cap)) := h
  have hfew := h.few
  clear h
  obtain ⟨fs, hfs⟩ : ∃ fs, st.fs = fs := ⟨_, rfl⟩
  have HFS : Hid (st.fs = fs) := hfs
  have HROW : Hid (w.ownsRow 0 65 3 (.slice p fs.length cap) fs.length (fc fs)) := by
    have := HD.out.row
    rw [hfs] at this
    exact this
  have HS : Hid (srt fs) := by rw [← hfs]; exact HD.out.sorted
  rw [hfs] at c1 hfew
  simp only [hfs]
  clear hfs
  go_enter Tryz.func99, Tryz.ntmps99
  go_wp2_with fail
  refine (place_any w Z a st _ s HD.out).mono ?_
  rintro e w1 ⟨j, rfl, hpl, rfl⟩
  rw [HFS.out] at hpl
  have hg := place_get HS.out hpl
  have hjl := hpl.le
  by_cases hlt : j < fs.length
  · have hlti : (j : Int) < (fs.length : Int) := by omega
    rw [dif_pos hlt] at hg
    obtain ⟨g, rfl, d0, d1, d2⟩ := row_at HROW.out hlt
    obtain ⟨nm, hnm⟩ : ∃ nm, (fs[j]).1 = nm := ⟨_, rfl⟩
    rw [hnm] at d0 hg
    have e2 : s.toList = s.data.toList := ByteArray.toList_eq _
    by_cases e : nm = s.data.toList
    · have HG : Hid ((getL fs s.data.toList).isSome = true) := by rw [Hid, hg, if_pos e]; rfl
      have hb : (nm == s.toList) = true := by rw [e2]; simpa using e
      clear hg hpl e2 e hnm
      go_wp2
      go_ret
      exact ⟨ret_bool HG.out.symm, rfl⟩
    · have HG : Hid ((getL fs s.data.toList).isSome = false) := by rw [Hid, hg, if_neg e]; rfl
      have hb : (nm == s.toList) = false := by rw [e2]; simpa using e
      clear hg hpl e2 e hnm
      go_wp2
      go_ret
      exact ⟨ret_bool HG.out.symm, rfl⟩
  · have hlti : ¬ (j : Int) < (fs.length : Int) := by omega
    rw [dif_neg hlt] at hg
    have HG : Hid ((getL fs s.data.toList).isSome = false) := by rw [Hid, hg]; rfl
    clear hg hpl
    go_wp2
    go_ret
    exact ⟨ret_bool HG.out.symm, rfl⟩
end Go.Proofs.YtckmjmpajbjbkaaGreatDoor
/- The document's functions of layer 4, third part: puts. -/
namespace Go.Proofs.YtckmjmpajbjbkaaGreatDoor
open Go.RowKit

theorem row_store {w : World} {B g n cap : Nat} {l : Fs} (h : w.ownsRow B 65 3 (.slice (some ⟨g, 0, none⟩) n cap) n (fc l)) {k : Nat} (hk : k < l.length) (p : Nm × Fl) :
    (((w.setCell ⟨g, k * 3, none⟩ (.string ⟨p.1.toArray⟩)).setCell ⟨g, k * 3 + 1, none⟩ (.string ⟨p.2.1.toArray⟩)).setCell ⟨g, k * 3 + 2, none⟩ (.int .i64 (p.2.2 : Int))).ownsRow B 65 3 (.slice (some ⟨g, 0, none⟩) n cap) n (fc (l.set k p)) := by
  have h1 := (h.stored (k * 3) (.string ⟨p.1.toArray⟩)).1
  have h2 := (h1.stored (k * 3 + 1) (.string ⟨p.2.1.toArray⟩)).1
  have h3 := (h2.stored (k * 3 + 2) (.int .i64 (p.2.2 : Int))).1
  rw [fc_set l k hk p] at h3
  exact h3
theorem row_some {w : World} {B : Nat} {p : Option Addr} {cap : Nat} {l : Fs} (h : w.ownsRow B 65 3 (.slice p l.length cap) l.length (fc l)) {i : Nat} (hi : i < l.length) :
    ∃ (g : Nat) (y : Nm × Fl), p = some ⟨g, 0, none⟩ ∧ w.cell? ⟨g, i * 3, none⟩ = some (.string ⟨y.1.toArray⟩) ∧ w.cell? ⟨g, i * 3 + 1, none⟩ = some (.string ⟨y.2.1.toArray⟩) ∧ w.cell? ⟨g, i * 3 + 2, none⟩ = some (.int .i64 (y.2.2 : Int)) := by
  obtain ⟨g, e, c0, c1, c2⟩ := row_at h hi
  exact ⟨g, l[i], e, c0, c1, c2⟩
theorem row_len {w : World} {B n : Nat} {v : Value} {l : Fs} (h : w.ownsRow B 65 3 v n (fc l)) : l.length = n := by
  have := h.1
  rw [fc_length] at this
  omega
theorem str_arr (s : ByteArray) : (⟨s.data.toList.toArray⟩ : ByteArray) = s := by simp

set_option maxHeartbeats 8000000 in
set_option maxRecDepth 100000 in
theorem puts_any (w : World) (Z : Nat → Prop) (a : Nat) (st : St) (v : Value) (s t : ByteArray) (n : Nat) (h : RefAt w Z a st v) (hZ : ∀ k, w.heap.size ≤ k → Z k) (hf : st.fs.length < 1000) :
    Calls Tryz.prog 31 #[.pointer (some ⟨a, 0, none⟩), .agg #[.string s, .string t, .int .i64 (n : Int)]] w fun e w' => e = .returned (.tuple #[]) ∧ (∃ v', RefAt w' Z a { st with fs := putL st.fs s.data.toList (t.data.toList, n) } v') ∧ Only Z w w' := by
  obtain ⟨i0, hi, hz0, hz1, hz2⟩ := info_parts Tryz.infoFile
  obtain ⟨p, cap, rfl⟩ := own_form h.row
  have hb0 : Below w.heap.size w (w.alloc (.cells #[.string s, .string t, .int .i64 (n : Int)] 65)) := (Below.refl _ _).alloc (Nat.le_refl _) _
  have HB0 : Hid (Below w.heap.size w (w.alloc (.cells #[.string s, .string t, .int .i64 (n : Int)] 65))) := hb0
  obtain ⟨c0, c1, c2, c3, c4, cf⟩ := rcell5 h.cells
  have HD : Hid (RefAt w Z a st (.slice p st.fs.length cap)) := h
  have HZ : Hid (∀ k, w.heap.size ≤ k → Z k) := hZ
  have la := h.lt
  clear h hZ hb0
  obtain ⟨fs, hfs⟩ : ∃ fs, st.fs = fs := ⟨_, rfl⟩
  have HFS : Hid (st.fs = fs) := hfs
  have HROW : Hid (w.ownsRow 0 65 3 (.slice p fs.length cap) fs.length (fc fs)) := by
    have := HD.out.row
    rw [hfs] at this
    exact this
  have HS : Hid (srt fs) := by rw [← hfs]; exact HD.out.sorted
  rw [hfs] at c1 hf
  simp only [hfs]
  clear hfs
  go_enter Tryz.func31, Tryz.ntmps31
  go_wp2_with fail
  refine (place_any _ Z a st _ s (HD.out.later HB0.out)).mono ?_
  rintro e w1 ⟨j, rfl, hpl, he1⟩
  subst he1
  rw [HFS.out] at hpl
  have HPL : Hid (PlaceAt fs s.data.toList j) := hpl
  have hg := place_get HS.out hpl
  have hjl := hpl.le
  clear hpl
  by_cases hin : ∃ h : j < fs.length, (fs[j]).1 = s.data.toList
  · obtain ⟨hlt, hnm⟩ := hin
    have hlti : (j : Int) < (fs.length : Int) := by omega
    have hjb : ((j : Int) == (fs.length : Int)) = false := by simp; omega
    have HPUT : Hid (putL fs s.data.toList (t.data.toList, n) = fs.set j (s.data.toList, (t.data.toList, n))) := by
      have := putL_at HS.out hlt (t.data.toList, n)
      rw [hnm] at this
      exact this
    obtain ⟨g, rfl, d0, d1, d2⟩ := row_at HROW.out hlt
    rw [hnm, str_arr] at d0
    have hgl : g < w.heap.size := World.block_lt_of_cell? _ _ d0
    have df : ∀ o, w.frozen? ⟨g, o, none⟩ = false := fun o => HROW.out.frozenAt o
    have hsb : (s.toList != s.toList) = false := by simp
    clear hg
    go_wp2
    go_quiet (fail)
    go_wp2
    go_region
    all_goals
      go_wp2
      go_end0
      have hrow := row_store (own_later HROW.out HB0.out) hlt (s.data.toList, (t.data.toList, n))
      simp only [str_arr] at hrow
      rw [← HPUT.out] at hrow
      have hne : g ≠ a := fun e => HD.out.ne (by rw [e]; rfl)
      have hlen : (putL fs s.data.toList (t.data.toList, n)).length = fs.length := by rw [HPUT.out, List.length_set]
      refine ⟨rfl, ⟨.slice (some ⟨g, 0, none⟩) fs.length cap, ?_, HD.out.za, ?_, HD.out.zone, srt_putL HS.out _ _, ?_⟩, ?_⟩
      · show ((((w.alloc _).setCell _ _).setCell _ _).setCell _ _).heap[a]? = _
        rw [Below.heap_setCell _ _ _ _ (Ne.symm hne), Below.heap_setCell _ _ _ _ (Ne.symm hne), Below.heap_setCell _ _ _ _ (Ne.symm hne), HB0.out.block a la]
        have := HD.out.cells
        rw [HFS.out] at this
        exact this
      · show World.ownsRow _ 0 65 3 _ (putL fs s.data.toList (t.data.toList, n)).length _
        rw [hlen]
        exact hrow
      · show (putL fs s.data.toList (t.data.toList, n)).length ≤ 1000
        rw [hlen]
        omega
      · have hzg : Z g := HD.out.zone g rfl
        exact (((Only.of (below_drewN HB0.out _)).setCell (p := ⟨g, j * 3, none⟩) hzg _).setCell (p := ⟨g, j * 3 + 1, none⟩) hzg _).setCell (p := ⟨g, j * 3 + 2, none⟩) hzg _
  · have hgn : getL fs s.data.toList = none := by
      rw [hg]
      by_cases hlt : j < fs.length
      · rw [dif_pos hlt, if_neg (fun e => hin ⟨hlt, e⟩)]
      · rw [dif_neg hlt]
    have HPUT : Hid (putL fs s.data.toList (t.data.toList, n) = shf fs j (s.data.toList, (t.data.toList, n))) := place_new _ HS.out HPL.out hgn
    clear hg hgn
    by_cases hlt : j < fs.length
    · have hlti : (j : Int) < (fs.length : Int) := by omega
      have hjb : ((j : Int) == (fs.length : Int)) = false := by simp; omega
      obtain ⟨g, rfl, d0, d1, d2⟩ := row_at HROW.out hlt
      obtain ⟨nm, hnm⟩ : ∃ nm, (fs[j]).1 = nm := ⟨_, rfl⟩
      have hne : nm ≠ s.data.toList := fun e => hin ⟨hlt, by rw [hnm]; exact e⟩
      rw [hnm] at d0
      have hgl : g < w.heap.size := World.block_lt_of_cell? _ _ d0
      have hsb : (nm != s.toList) = true := by rw [ByteArray.toList_eq]; simpa using hne
      have hsb2 : (nm == s.toList) = false := by rw [ByteArray.toList_eq]; simpa using hne
      have hsb3 : ¬ nm = s.toList := by rw [ByteArray.toList_eq]; exact hne
      clear hnm hne hin
      go_wp2
      go_quiet (fail)
      go_wp2_with (first | (at_builtin; refine wpList_append_lies _ rfl _ _ 22 rfl 0 65 i0 _ 3 40 Tryz.underlying22 hi hz0 hz1 hz2 rfl (by decide) _ _ _ rfl ((own_later HROW.out (below_drewN HB0.out nq)).alloc _) ⟨w.heap.size + 1, 0, none⟩ 1 1 (fc [([], ([], 0))]) rfl rfl ?c1 (fc_one _) (by decide) (by unfold maxLen; omega) (by omega) (Nat.zero_le _) (w.heap.size + 2) (by simp) ?_))
      case c1 =>
        have := cells_file ((w.alloc (.cells #[.string s, .string t, .int .i64 (n : Int)] 65)).drewN nq) ([], ([], 0)) 65
        simpa using this
      intro g1 cap1 w2 hown2 hgrow2 hat2 hlt2
      rw [← fc_append, ← shf_end] at hown2
      have hvl : ∀ gg, (Value.slice (some ⟨g, 0, none⟩) fs.length cap).ownBlock = some gg → gg < w.heap.size := fun gg e => (HROW.out.lt gg e).2
      have eK : ∀ b, b < w.heap.size → (Value.slice (some ⟨g, 0, none⟩) fs.length cap).ownBlock ≠ some b → w2.heap[b]? = w.heap[b]? := fun b hb hn => (hgrow2.block b (by simp; omega) (fun e => hn e.symm)).trans ((Below.heap_alloc _ _ _ (by simp; omega)).trans (HB0.out.block b hb))
      have eA : w2.heap[a]? = some (.cells (rcells (.slice (some ⟨g, 0, none⟩) fs.length cap) st) 79 (0, 0)) := by
        have := HD.out.cells
        rw [HFS.out] at this
        exact (eK a la (by have := HD.out.ne; rw [HFS.out] at this; exact this)).trans this
      have eB : w2.heap[w.heap.size]? = some (.cells #[.string s, .string t, .int .i64 (n : Int)] 65 (0, 0)) :=
        (hgrow2.block w.heap.size (by simp; omega) (fun e => by have := hvl _ e.symm; omega)).trans ((Below.heap_alloc _ _ _ (by simp)).trans (heap_alloc_new w _))
      obtain ⟨a0, a1, a2, a3, a4, af⟩ := rcell5 eA
      have HZG : Hid (Z g1) := by
        rcases hat2 with e | e
        · exact HD.out.zone g1 (by rw [HFS.out]; exact e)
        · exact HZ.out g1 (by omega)
      have HO2 : Hid (Only Z w w2) := ((Only.of (below_drewN HB0.out nq)).alloc _).grown hgrow2 (fun k e => HD.out.zone k (by rw [HFS.out]; exact e))
      have HROW2 : Hid (w2.ownsRow 0 65 3 (.slice (some ⟨g1, 0, none⟩) (fs.length + 1) cap1) (fs.length + 1) (fc (shf fs fs.length ([], ([], 0))))) := hown2
      have HA2 : Hid (w2.heap[a]? = some (.cells (rcells (.slice (some ⟨g, 0, none⟩) fs.length cap) st) 79 (0, 0))) := eA
      have HBX : Hid (w2.heap[w.heap.size]? = some (.cells #[.string s, .string t, .int .i64 (n : Int)] 65 (0, 0))) := eB
      have hg1a : g1 ≠ a := fun e => by
        obtain ⟨_, ⟨e1, _⟩ | ⟨g', cap', cur, e1, _, hg', _⟩⟩ := hown2
        · simp at e1
        · simp only [Value.slice.injEq, Option.some.injEq, Addr.mk.injEq] at e1
          rw [← e1.1.1, e, eA] at hg'
          simp only [Option.some.injEq, Obj.cells.injEq] at hg'
          exact absurd hg'.2.1 (by decide)
      have hg1b : g1 ≠ w.heap.size := fun e => by
        rcases hat2 with e' | e'
        · have := hvl _ e'
          omega
        · omega
      clear hown2 hgrow2 eA eB eK hvl hat2
      go_wp2
      go_loopw [5] (fun i wx => ∃ (k : Nat) (X : Nm × Fl), j ≤ k ∧ k ≤ fs.length ∧ i = .int .i64 (k : Int) ∧ wx.ownsRow 0 65 3 (.slice (some ⟨g1, 0, none⟩) (fs.length + 1) cap1) (fs.length + 1) (fc (shf fs k X)) ∧ wx.heap[a]? = some (.cells (rcells (.slice (some ⟨g1, 0, none⟩) (fs.length + 1) cap1) st) 79 (0, 0)) ∧ wx.heap[w.heap.size]? = some (.cells #[.string s, .string t, .int .i64 (n : Int)] 65 (0, 0)) ∧ Only Z w wx) (fun i _ => (intOf i).toNat)
      case atStart =>
        refine ⟨fs.length, ([], ([], 0)), hjl, Nat.le_refl _, by first | rfl | go_num, own_kept HROW2.out (fun gg e => ?_), ?_, ?_, HO2.out.setCell (p := ⟨a, 1, none⟩) HD.out.za _⟩
        · have e' : g1 = gg := by simpa [Value.ownBlock] using e
          exact Below.heap_setCell _ _ _ _ (by rw [← e']; exact hg1a)
        · rw [heap_setCell_same _ a 1 _ _ _ HA2.out]
          rfl
        · exact (Below.heap_setCell _ _ _ _ (by show w.heap.size ≠ a; omega)).trans HBX.out
      case round =>
        clear HROW2 HA2 HBX HO2 a0 a1 a2 a3 a4 af
        obtain ⟨k, X, hjk, hkl, rfl, hrow, hA, hB, hO⟩ := hrel
        obtain ⟨a0, a1, a2, a3, a4, af⟩ := rcell5 hA
        have HRX : Hid (wr.ownsRow 0 65 3 (.slice (some ⟨g1, 0, none⟩) (fs.length + 1) cap1) (fs.length + 1) (fc (shf fs k X))) := hrow
        have HAX : Hid (wr.heap[a]? = some (.cells (rcells (.slice (some ⟨g1, 0, none⟩) (fs.length + 1) cap1) st) 79 (0, 0))) := hA
        have HBX : Hid (wr.heap[w.heap.size]? = some (.cells #[.string s, .string t, .int .i64 (n : Int)] 65 (0, 0))) := hB
        have HOX : Hid (Only Z w wr) := hO
        have df : ∀ o, wr.frozen? ⟨g1, o, none⟩ = false := fun o => HRX.out.frozenAt o
        have hsl := shf_length fs k X hkl
        have HRL : Hid (wr.ownsRow 0 65 3 (.slice (some ⟨g1, 0, none⟩) (shf fs k X).length cap1) (shf fs k X).length (fc (shf fs k X))) := by rw [hsl]; exact HRX.out
        clear hrow hA hB hO
        by_cases hgt : j < k
        · have hgti : (j : Int) < (k : Int) := by omega
          obtain ⟨m, rfl⟩ : ∃ m, k = m + 1 := ⟨k - 1, by omega⟩
          have hml : m < fs.length := by omega
          obtain ⟨gx, egx, d0, d1, d2⟩ := row_at HRL.out (i := m) (by rw [hsl]; omega)
          obtain ⟨gy, y, egy, f0, f1, f2⟩ := row_some HRL.out (i := m + 1) (by rw [hsl]; omega)
          have ex : gx = g1 := by simpa using egx.symm
          have ey : gy = g1 := by simpa using egy.symm
          subst ex
          subst ey
          rw [shf_at hml X] at d0 d1 d2
          have HNEW : Hid ((shf fs (m + 1) X).set (m + 1) fs[m] = shf fs m fs[m]) := shf_back hml X
          obtain ⟨q, hq⟩ : ∃ q, fs[m] = q := ⟨_, rfl⟩
          rw [hq] at d0 d1 d2 HNEW
          obtain ⟨qn, qd, qs⟩ := q
          simp only at d0 d1 d2
          have hm1 : ((m + 1 : Nat) : Int) - 1 = (m : Int) := by omega
          have hmi : (m : Int) < ((fs.length + 1 : Nat) : Int) := by omega
          have hm2 : ((m + 1 : Nat) : Int) < ((fs.length + 1 : Nat) : Int) := by omega
          have hwm : IntKind.i64.wrap (m : Int) = (m : Int) := by rw [IntKind.wrap_i64]; omega
          have hmb : m + 1 ≤ 2000 := by omega
          clear hq egx egy hsl
          go_wp2
          go_region
          all_goals
            have hnew := row_store HRX.out (k := m + 1) (by rw [shf_length fs (m + 1) X (by omega)]; omega) (qn, (qd, qs))
            rw [HNEW.out] at hnew
            have HNW : Hid ((((wr.setCell ⟨gy, (m + 1) * 3, none⟩ (.string ⟨qn.toArray⟩)).setCell ⟨gy, (m + 1) * 3 + 1, none⟩ (.string ⟨qd.toArray⟩)).setCell ⟨gy, (m + 1) * 3 + 2, none⟩ (.int .i64 (qs : Int))).ownsRow 0 65 3 (.slice (some ⟨gy, 0, none⟩) (fs.length + 1) cap1) (fs.length + 1) (fc (shf fs m (qn, (qd, qs))))) := hnew
            clear hnew
            go_wp2
            go_roundw
            case rel =>
              refine ⟨m, (qn, (qd, qs)), by omega, by omega, by first | rfl | go_num, HNW.out, ?_, ?_, ((HOX.out.drew.setCell (p := ⟨gy, (m + 1) * 3, none⟩) HZG.out _).setCell (p := ⟨gy, (m + 1) * 3 + 1, none⟩) HZG.out _).setCell (p := ⟨gy, (m + 1) * 3 + 2, none⟩) HZG.out _⟩
              · show ((((wr.setCell _ _).setCell _ _).setCell _ _)).heap[a]? = _
                rw [Below.heap_setCell _ _ _ _ (Ne.symm hg1a), Below.heap_setCell _ _ _ _ (Ne.symm hg1a), Below.heap_setCell _ _ _ _ (Ne.symm hg1a)]
                exact HAX.out
              · show ((((wr.setCell _ _).setCell _ _).setCell _ _)).heap[w.heap.size]? = _
                rw [Below.heap_setCell _ _ _ _ (Ne.symm hg1b), Below.heap_setCell _ _ _ _ (Ne.symm hg1b), Below.heap_setCell _ _ _ _ (Ne.symm hg1b)]
                exact HBX.out
            case measure => simp [intOf]; try omega
        · have hjk' : k = j := by omega
          subst hjk'
          obtain ⟨gy, y, egy, f0, f1, f2⟩ := row_some HRL.out (i := k) (by rw [hsl]; omega)
          have ey : gy = g1 := by simpa using egy.symm
          subst ey
          have b0 : wr.cell? ⟨w.heap.size, 0, none⟩ = some (.string s) := by simp [World.cell?, HBX.out]
          have b1 : wr.cell? ⟨w.heap.size, 1, none⟩ = some (.string t) := by simp [World.cell?, HBX.out]
          have b2 : wr.cell? ⟨w.heap.size, 2, none⟩ = some (.int .i64 (n : Int)) := by simp [World.cell?, HBX.out]
          have hki : (k : Int) < ((fs.length + 1 : Nat) : Int) := by omega
          have HKL : Hid (k ≤ fs.length) := hkl
          clear egy hsl
          go_wp2
          go_region
          all_goals
            go_wp2
            go_end0
            have hnew := row_store HRX.out (k := k) (by rw [shf_length fs k X HKL.out]; have := HKL.out; omega) (s.data.toList, (t.data.toList, n))
            simp only [str_arr] at hnew
            rw [shf_set HKL.out, ← HPUT.out] at hnew
            have hlen : (putL fs s.data.toList (t.data.toList, n)).length = fs.length + 1 := by rw [HPUT.out, shf_length _ _ _ HKL.out]
            refine ⟨rfl, ⟨.slice (some ⟨gy, 0, none⟩) (fs.length + 1) cap1, ?_, HD.out.za, ?_, fun gg e => ?_, srt_putL HS.out _ _, ?_⟩, ?_⟩
            · show ((((wr.setCell _ _).setCell _ _).setCell _ _)).heap[a]? = _
              rw [Below.heap_setCell _ _ _ _ (Ne.symm hg1a), Below.heap_setCell _ _ _ _ (Ne.symm hg1a), Below.heap_setCell _ _ _ _ (Ne.symm hg1a)]
              exact HAX.out
            · show World.ownsRow _ 0 65 3 _ (putL fs s.data.toList (t.data.toList, n)).length _
              rw [hlen]
              exact hnew
            · have e' : gy = gg := by simpa [Value.ownBlock] using e
              rw [← e']
              exact HZG.out
            · show (putL fs s.data.toList (t.data.toList, n)).length ≤ 1000
              rw [hlen]
              omega
            · exact ((HOX.out.drew.setCell (p := ⟨gy, k * 3, none⟩) HZG.out _).setCell (p := ⟨gy, k * 3 + 1, none⟩) HZG.out _).setCell (p := ⟨gy, k * 3 + 2, none⟩) HZG.out _
    · have hje : j = fs.length := by omega
      have hjb : ((j : Int) == (fs.length : Int)) = true := by simp [hje]
      clear hin hje hlt
      go_wp2
      go_quiet (fail)
      go_wp2_with (first | (at_builtin; refine wpList_append_lies _ rfl _ _ 22 rfl 0 65 i0 _ 3 40 Tryz.underlying22 hi hz0 hz1 hz2 rfl (by decide) _ _ _ rfl ((own_later HROW.out (below_drewN HB0.out nq)).alloc _) ⟨w.heap.size + 1, 0, none⟩ 1 1 (fc [([], ([], 0))]) rfl rfl ?c1 (fc_one _) (by decide) (by unfold maxLen; omega) (by omega) (Nat.zero_le _) (w.heap.size + 2) (by simp) ?_))
      case c1 =>
        have := cells_file ((w.alloc (.cells #[.string s, .string t, .int .i64 (n : Int)] 65)).drewN nq) ([], ([], 0)) 65
        simpa using this
      intro g1 cap1 w2 hown2 hgrow2 hat2 hlt2
      rw [← fc_append, ← shf_end] at hown2
      have hvl : ∀ gg, (Value.slice p fs.length cap).ownBlock = some gg → gg < w.heap.size := fun gg e => (HROW.out.lt gg e).2
      have eK : ∀ b, b < w.heap.size → (Value.slice p fs.length cap).ownBlock ≠ some b → w2.heap[b]? = w.heap[b]? := fun b hb hn => (hgrow2.block b (by simp; omega) (fun e => hn e.symm)).trans ((Below.heap_alloc _ _ _ (by simp; omega)).trans (HB0.out.block b hb))
      have eA : w2.heap[a]? = some (.cells (rcells (.slice p fs.length cap) st) 79 (0, 0)) := by
        have := HD.out.cells
        rw [HFS.out] at this
        exact (eK a la (by have := HD.out.ne; rw [HFS.out] at this; exact this)).trans this
      have eB : w2.heap[w.heap.size]? = some (.cells #[.string s, .string t, .int .i64 (n : Int)] 65 (0, 0)) :=
        (hgrow2.block w.heap.size (by simp; omega) (fun e => by have := hvl _ e.symm; omega)).trans ((Below.heap_alloc _ _ _ (by simp)).trans (heap_alloc_new w _))
      obtain ⟨a0, a1, a2, a3, a4, af⟩ := rcell5 eA
      have HZG : Hid (Z g1) := by
        rcases hat2 with e | e
        · exact HD.out.zone g1 (by rw [HFS.out]; exact e)
        · exact HZ.out g1 (by omega)
      have HO2 : Hid (Only Z w w2) := ((Only.of (below_drewN HB0.out nq)).alloc _).grown hgrow2 (fun k e => HD.out.zone k (by rw [HFS.out]; exact e))
      have HROW2 : Hid (w2.ownsRow 0 65 3 (.slice (some ⟨g1, 0, none⟩) (fs.length + 1) cap1) (fs.length + 1) (fc (shf fs fs.length ([], ([], 0))))) := hown2
      have HA2 : Hid (w2.heap[a]? = some (.cells (rcells (.slice p fs.length cap) st) 79 (0, 0))) := eA
      have HBX : Hid (w2.heap[w.heap.size]? = some (.cells #[.string s, .string t, .int .i64 (n : Int)] 65 (0, 0))) := eB
      have hg1a : g1 ≠ a := fun e => by
        obtain ⟨_, ⟨e1, _⟩ | ⟨g', cap', cur, e1, _, hg', _⟩⟩ := hown2
        · simp at e1
        · simp only [Value.slice.injEq, Option.some.injEq, Addr.mk.injEq] at e1
          rw [← e1.1.1, e, eA] at hg'
          simp only [Option.some.injEq, Obj.cells.injEq] at hg'
          exact absurd hg'.2.1 (by decide)
      have hg1b : g1 ≠ w.heap.size := fun e => by
        rcases hat2 with e' | e'
        · have := hvl _ e'
          omega
        · omega
      clear hown2 hgrow2 eA eB eK hvl hat2
      go_wp2
      go_loopw [5] (fun i wx => ∃ (k : Nat) (X : Nm × Fl), j ≤ k ∧ k ≤ fs.length ∧ i = .int .i64 (k : Int) ∧ wx.ownsRow 0 65 3 (.slice (some ⟨g1, 0, none⟩) (fs.length + 1) cap1) (fs.length + 1) (fc (shf fs k X)) ∧ wx.heap[a]? = some (.cells (rcells (.slice (some ⟨g1, 0, none⟩) (fs.length + 1) cap1) st) 79 (0, 0)) ∧ wx.heap[w.heap.size]? = some (.cells #[.string s, .string t, .int .i64 (n : Int)] 65 (0, 0)) ∧ Only Z w wx) (fun i _ => (intOf i).toNat)
      case atStart =>
        refine ⟨fs.length, ([], ([], 0)), hjl, Nat.le_refl _, by first | rfl | go_num, own_kept HROW2.out (fun gg e => ?_), ?_, ?_, HO2.out.setCell (p := ⟨a, 1, none⟩) HD.out.za _⟩
        · have e' : g1 = gg := by simpa [Value.ownBlock] using e
          exact Below.heap_setCell _ _ _ _ (by rw [← e']; exact hg1a)
        · rw [heap_setCell_same _ a 1 _ _ _ HA2.out]
          rfl
        · exact (Below.heap_setCell _ _ _ _ (by show w.heap.size ≠ a; omega)).trans HBX.out
      case round =>
        clear HROW2 HA2 HBX HO2 a0 a1 a2 a3 a4 af
        obtain ⟨k, X, hjk, hkl, rfl, hrow, hA, hB, hO⟩ := hrel
        obtain ⟨a0, a1, a2, a3, a4, af⟩ := rcell5 hA
        have HRX : Hid (wr.ownsRow 0 65 3 (.slice (some ⟨g1, 0, none⟩) (fs.length + 1) cap1) (fs.length + 1) (fc (shf fs k X))) := hrow
        have HAX : Hid (wr.heap[a]? = some (.cells (rcells (.slice (some ⟨g1, 0, none⟩) (fs.length + 1) cap1) st) 79 (0, 0))) := hA
        have HBX : Hid (wr.heap[w.heap.size]? = some (.cells #[.string s, .string t, .int .i64 (n : Int)] 65 (0, 0))) := hB
        have HOX : Hid (Only Z w wr) := hO
        have df : ∀ o, wr.frozen? ⟨g1, o, none⟩ = false := fun o => HRX.out.frozenAt o
        have hsl := shf_length fs k X hkl
        have HRL : Hid (wr.ownsRow 0 65 3 (.slice (some ⟨g1, 0, none⟩) (shf fs k X).length cap1) (shf fs k X).length (fc (shf fs k X))) := by rw [hsl]; exact HRX.out
        clear hrow hA hB hO
        by_cases hgt : j < k
        · have hgti : (j : Int) < (k : Int) := by omega
          obtain ⟨m, rfl⟩ : ∃ m, k = m + 1 := ⟨k - 1, by omega⟩
          have hml : m < fs.length := by omega
          obtain ⟨gx, egx, d0, d1, d2⟩ := row_at HRL.out (i := m) (by rw [hsl]; omega)
          obtain ⟨gy, y, egy, f0, f1, f2⟩ := row_some HRL.out (i := m + 1) (by rw [hsl]; omega)
          have ex : gx = g1 := by simpa using egx.symm
          have ey : gy = g1 := by simpa using egy.symm
          subst ex
          subst ey
          rw [shf_at hml X] at d0 d1 d2
          have HNEW : Hid ((shf fs (m + 1) X).set (m + 1) fs[m] = shf fs m fs[m]) := shf_back hml X
          obtain ⟨q, hq⟩ : ∃ q, fs[m] = q := ⟨_, rfl⟩
          rw [hq] at d0 d1 d2 HNEW
          obtain ⟨qn, qd, qs⟩ := q
          simp only at d0 d1 d2
          have hm1 : ((m + 1 : Nat) : Int) - 1 = (m : Int) := by omega
          have hmi : (m : Int) < ((fs.length + 1 : Nat) : Int) := by omega
          have hm2 : ((m + 1 : Nat) : Int) < ((fs.length + 1 : Nat) : Int) := by omega
          have hwm : IntKind.i64.wrap (m : Int) = (m : Int) := by rw [IntKind.wrap_i64]; omega
          have hmb : m + 1 ≤ 2000 := by omega
          clear hq egx egy hsl
          go_wp2
          go_region
          all_goals
            have hnew := row_store HRX.out (k := m + 1) (by rw [shf_length fs (m + 1) X (by omega)]; omega) (qn, (qd, qs))
            rw [HNEW.out] at hnew
            have HNW : Hid ((((wr.setCell ⟨gy, (m + 1) * 3, none⟩ (.string ⟨qn.toArray⟩)).setCell ⟨gy, (m + 1) * 3 + 1, none⟩ (.string ⟨qd.toArray⟩)).setCell ⟨gy, (m + 1) * 3 + 2, none⟩ (.int .i64 (qs : Int))).ownsRow 0 65 3 (.slice (some ⟨gy, 0, none⟩) (fs.length + 1) cap1) (fs.length + 1) (fc (shf fs m (qn, (qd, qs))))) := hnew
            clear hnew
            go_wp2
            go_roundw
            case rel =>
              refine ⟨m, (qn, (qd, qs)), by omega, by omega, by first | rfl | go_num, HNW.out, ?_, ?_, ((HOX.out.drew.setCell (p := ⟨gy, (m + 1) * 3, none⟩) HZG.out _).setCell (p := ⟨gy, (m + 1) * 3 + 1, none⟩) HZG.out _).setCell (p := ⟨gy, (m + 1) * 3 + 2, none⟩) HZG.out _⟩
              · show ((((wr.setCell _ _).setCell _ _).setCell _ _)).heap[a]? = _
                rw [Below.heap_setCell _ _ _ _ (Ne.symm hg1a), Below.heap_setCell _ _ _ _ (Ne.symm hg1a), Below.heap_setCell _ _ _ _ (Ne.symm hg1a)]
                exact HAX.out
              · show ((((wr.setCell _ _).setCell _ _).setCell _ _)).heap[w.heap.size]? = _
                rw [Below.heap_setCell _ _ _ _ (Ne.symm hg1b), Below.heap_setCell _ _ _ _ (Ne.symm hg1b), Below.heap_setCell _ _ _ _ (Ne.symm hg1b)]
                exact HBX.out
            case measure => simp [intOf]; try omega
        · have hjk' : k = j := by omega
          subst hjk'
          obtain ⟨gy, y, egy, f0, f1, f2⟩ := row_some HRL.out (i := k) (by rw [hsl]; omega)
          have ey : gy = g1 := by simpa using egy.symm
          subst ey
          have b0 : wr.cell? ⟨w.heap.size, 0, none⟩ = some (.string s) := by simp [World.cell?, HBX.out]
          have b1 : wr.cell? ⟨w.heap.size, 1, none⟩ = some (.string t) := by simp [World.cell?, HBX.out]
          have b2 : wr.cell? ⟨w.heap.size, 2, none⟩ = some (.int .i64 (n : Int)) := by simp [World.cell?, HBX.out]
          have hki : (k : Int) < ((fs.length + 1 : Nat) : Int) := by omega
          have HKL : Hid (k ≤ fs.length) := hkl
          clear egy hsl
          go_wp2
          go_region
          all_goals
            go_wp2
            go_end0
            have hnew := row_store HRX.out (k := k) (by rw [shf_length fs k X HKL.out]; have := HKL.out; omega) (s.data.toList, (t.data.toList, n))
            simp only [str_arr] at hnew
            rw [shf_set HKL.out, ← HPUT.out] at hnew
            have hlen : (putL fs s.data.toList (t.data.toList, n)).length = fs.length + 1 := by rw [HPUT.out, shf_length _ _ _ HKL.out]
            refine ⟨rfl, ⟨.slice (some ⟨gy, 0, none⟩) (fs.length + 1) cap1, ?_, HD.out.za, ?_, fun gg e => ?_, srt_putL HS.out _ _, ?_⟩, ?_⟩
            · show ((((wr.setCell _ _).setCell _ _).setCell _ _)).heap[a]? = _
              rw [Below.heap_setCell _ _ _ _ (Ne.symm hg1a), Below.heap_setCell _ _ _ _ (Ne.symm hg1a), Below.heap_setCell _ _ _ _ (Ne.symm hg1a)]
              exact HAX.out
            · show World.ownsRow _ 0 65 3 _ (putL fs s.data.toList (t.data.toList, n)).length _
              rw [hlen]
              exact hnew
            · have e' : gy = gg := by simpa [Value.ownBlock] using e
              rw [← e']
              exact HZG.out
            · show (putL fs s.data.toList (t.data.toList, n)).length ≤ 1000
              rw [hlen]
              omega
            · exact ((HOX.out.drew.setCell (p := ⟨gy, k * 3, none⟩) HZG.out _).setCell (p := ⟨gy, k * 3 + 1, none⟩) HZG.out _).setCell (p := ⟨gy, k * 3 + 2, none⟩) HZG.out _
end Go.Proofs.YtckmjmpajbjbkaaGreatDoor
/- The document's functions of layer 4, fourth part: New. -/
namespace Go.Proofs.YtckmjmpajbjbkaaGreatDoor
open Go.RowKit

/-- What the document's New answers and leaves. -/
def RNewP (size : Int) (l : List FV) (w : World) (e : Ending) (w' : World) : Prop :=
  Below w.heap.size w w' ∧ ((newE size l ≠ 0 ∧ e = .returned (.tuple #[.pointer none, .int .i64 (newE size l)])) ∨ (newE size l = 0 ∧ ∃ a v, e = .returned (.tuple #[.pointer (some ⟨a, 0, none⟩), .int .i64 0]) ∧ RefAt w' (fun k => w.heap.size ≤ k) a (newSt size l) v))

theorem rNum_no {size : Int} {l : List FV} (h : ¬ (0 ≤ size ∧ size ≤ 1048576) ∨ l.all okNum = false) : newE size l = 1 := by
  refine newE_1 ?_
  rcases h with h | h
  · unfold rNum
    by_cases h1 : 0 ≤ size
    · have h2 : ¬ size ≤ 1048576 := fun g => h ⟨h1, g⟩
      simp [h2]
    · simp [h1]
  · simp [rNum, h]
theorem rNum_yes {size : Int} {l : List FV} (h0 : 0 ≤ size) (h1 : size ≤ 1048576) (h : l.all okNum = true) : rNum size l = true := by
  simp [rNum, h0, h1, h]
/-- Names that are right and apart, up to a place. -/
structure NamTo (l : List FV) (k : Nat) : Prop where
  right : (l.take k).all (fun f => nmOk f.nm) = true
  apart : ((l.take k).map FV.nm).Nodup
theorem NamTo.zero (l : List FV) : NamTo l 0 := ⟨by simp, by simp⟩
theorem NamTo.succ {l : List FV} {k : Nat} (h : NamTo l k) (hk : k < l.length) (h1 : nmOk (l[k]).nm = true) (h2 : ∀ j (hj : j < l.length), j < k → (l[j]).nm ≠ (l[k]).nm) : NamTo l (k + 1) := by
  refine ⟨all_upto (q := fun f : FV => nmOk f.nm) hk h.right h1, ?_⟩
  rw [List.take_succ_eq_append_getElem hk, List.map_append, List.nodup_append]
  refine ⟨h.apart, by simp, fun a ha b hb e => ?_⟩
  simp only [List.map_cons, List.map_nil, List.mem_singleton] at hb
  obtain ⟨f, hf, rfl⟩ := List.mem_map.1 ha
  obtain ⟨j, hj, rfl⟩ := List.getElem_of_mem hf
  rw [List.length_take] at hj
  rw [List.getElem_take] at e
  exact h2 j (by omega) (by omega) (by rw [e, hb])
theorem NamTo.all {l : List FV} (h : NamTo l l.length) : rNam l = true := by
  have h1 := h.right
  have h2 := h.apart
  rw [List.take_length] at h1 h2
  simp only [rNam, h1, Bool.true_and, decide_eq_true_eq]
  exact h2
theorem rNam_no1 {l : List FV} {k : Nat} (hk : k < l.length) (h : nmOk (l[k]).nm = false) : rNam l = false := by
  have := all_not (q := fun f : FV => nmOk f.nm) hk h
  simp only [rNam, this, Bool.false_and]
theorem rNam_no2 {l : List FV} {j k : Nat} (hk : k < l.length) (hj : j < k) (h : (l[j]'(by omega)).nm = (l[k]).nm) : rNam l = false := by
  cases hr : rNam l with
  | false => rfl
  | true =>
    exfalso
    have hp := (rNam_of hr).2
    rw [List.nodup_iff_pairwise_ne, List.pairwise_iff_getElem] at hp
    exact hp j k (by simp; omega) (by simp; omega) hj (by simpa using h)
theorem room_no1 {size : Int} {l : List FV} {k : Nat} (hk : k < l.length) (h : 64 ≤ k) : rRoom size l = false := by
  have : ¬ l.length ≤ 64 := by omega
  simp [rRoom, this]
theorem room_no2 {size : Int} {l : List FV} {k : Nat} (hk : k < l.length) (h : size < (sumF (l.take k) : Int) + ((l[k]).2.1.size : Int)) : rRoom size l = false := by
  have h1 := sumF_take_le l (k + 1)
  rw [sumF_succ hk] at h1
  have : ¬ (sumF l : Int) ≤ size := by omega
  simp [rRoom, this]
theorem room_yes {size : Int} {l : List FV} (h : l.length ≤ 64) (h2 : (sumF l : Int) ≤ size) : rRoom size l = true := by
  simp [rRoom, h, h2]

set_option maxHeartbeats 8000000 in
set_option maxRecDepth 100000 in
theorem rnew_any (size : Int) (p : Option Addr) (cap : Nat) (l : List FV) (w : World) (hl : l.length ≤ 2147483648) (hd : ∀ f ∈ l, f.1.size ≤ 9223372036854775807 ∧ f.2.1.size ≤ 1099511627776) (hr : FRow w p l) :
    Calls Tryz.prog 10 #[.int .i64 size, .slice p l.length cap] w (RNewP size l w) := by
  have HR : Hid (FRow w p l) := hr
  have HDD : Hid (∀ f ∈ l, f.1.size ≤ 9223372036854775807 ∧ f.2.1.size ≤ 1099511627776) := hd
  clear hr hd
  have HP1 : Hid (∀ w', newE size l = 1 → Below w.heap.size w w' → RNewP size l w (.returned (.tuple #[.pointer none, .int .i64 1])) w') := fun w' h hb => ⟨hb, Or.inl ⟨by rw [h]; decide, by rw [h]⟩⟩
  have HP40 : Hid (∀ w', newE size l = 40 → Below w.heap.size w w' → RNewP size l w (.returned (.tuple #[.pointer none, .int .i64 40])) w') := fun w' h hb => ⟨hb, Or.inl ⟨by rw [h]; decide, by rw [h]⟩⟩
  have HP42 : Hid (∀ w', newE size l = 42 → Below w.heap.size w w' → RNewP size l w (.returned (.tuple #[.pointer none, .int .i64 42])) w') := fun w' h hb => ⟨hb, Or.inl ⟨by rw [h]; decide, by rw [h]⟩⟩
  by_cases h1 : size < 0
  · have HE : Hid (newE size l = 1) := rNum_no (Or.inl (by omega))
    go_enter Tryz.func10, Tryz.ntmps10
    go_wp2
    all_goals exact bodyPost_ret (v := .tuple #[.pointer none, .int .i64 1]) (by simp [results, Tryz.results10, go_sem]) rfl (HP1.out _ HE.out (Below.refl _ _))
  · by_cases h2 : 1048576 < size
    · have HE : Hid (newE size l = 1) := rNum_no (Or.inl (by omega))
      go_enter Tryz.func10, Tryz.ntmps10
      go_wp2
      all_goals exact bodyPost_ret (v := .tuple #[.pointer none, .int .i64 1]) (by simp [results, Tryz.results10, go_sem]) rfl (HP1.out _ HE.out (Below.refl _ _))
    · go_enter Tryz.func10, Tryz.ntmps10
      go_wp2
      go_loopw [6] (fun i wr => ∃ k : Nat, k ≤ l.length ∧ i = .int .i64 k ∧ (l.take k).all okNum = true ∧ Below w.heap.size w wr) (fun i _ => l.length - (intOf i).toNat)
      case atStart => exact ⟨0, Nat.zero_le _, rfl, by simp, Below.refl _ _⟩
      case round =>
        obtain ⟨k, hk, rfl, hall, hb⟩ := hrel
        have HA : Hid ((l.take k).all okNum = true) := hall
        have HB : Hid (Below w.heap.size w wr) := hb
        clear hall
        have hsz := hb.size
        by_cases hlt : k < l.length
        · have hlti : (k : Int) < (l.length : Int) := by omega
          obtain ⟨b, off, rfl, c0, c1, c2⟩ := HR.out k hlt
          have d1 := cell_later hb c1
          have d2 := cell_later hb c2
          obtain ⟨nm, dt, sf, hf⟩ : ∃ nm dt sf, l[k] = (nm, dt, sf) := ⟨_, _, _, rfl⟩
          have HF : Hid (l[k] = (nm, dt, sf)) := hf
          rw [hf] at d1 d2
          simp only at d1 d2
          clear c0 c1 c2 hf hb
          by_cases g1 : sf < 0
          · have HE : Hid (newE size l = 1) := rNum_no (Or.inr (all_not hlt (by
              have : ¬ 0 ≤ sf := by omega
              rw [HF.out]
              simp [okNum, this])))
            have hd1 : decide (sf < 0) = true := by simp; omega
            go_wp2
            go_quiet (fail)
            go_wp2
            exact bodyPost_ret (v := .tuple #[.pointer none, .int .i64 1]) (by simp [results, Tryz.results10, go_sem]) rfl (HP1.out _ HE.out (below_drewN HB.out _))
          · have hd1 : decide (sf < 0) = false := by simp; omega
            by_cases g2 : (dt.size : Int) < sf
            · have HE : Hid (newE size l = 1) := rNum_no (Or.inr (all_not hlt (by
                have : ¬ sf ≤ (dt.size : Int) := by omega
                rw [HF.out]
                simp [okNum, this])))
              have hd2 : decide ((dt.size : Int) < sf) = true := by simp; omega
              go_wp2
              go_quiet (fail)
              go_wp2
              exact bodyPost_ret (v := .tuple #[.pointer none, .int .i64 1]) (by simp [results, Tryz.results10, go_sem]) rfl (HP1.out _ HE.out (below_drewN HB.out _))
            · have HN : Hid ((l.take (k + 1)).all okNum = true) := all_upto hlt HA.out (by
                have a1 : 0 ≤ sf := by omega
                have a2 : sf ≤ (dt.size : Int) := by omega
                rw [HF.out]
                simp [okNum, a1, a2])
              have hd2 : decide ((dt.size : Int) < sf) = false := by simp; omega
              go_wp2
              go_quiet (fail)
              go_wp2
              go_roundw
              case rel => exact ⟨k + 1, by omega, by go_num, HN.out, below_drewN HB.out _⟩
              case measure => simp [intOf]; omega
        · have hk' : k = l.length := by omega
          subst hk'
          have HNUM : Hid (rNum size l = true) := rNum_yes (by omega) (by omega) (by
            have := HA.out
            rwa [List.take_length] at this)
          obtain ⟨w1, hw1⟩ : ∃ w1, w1 = wr := ⟨_, rfl⟩
          subst hw1
          clear HA hb
          obtain ⟨N, hN⟩ : ∃ N : Nat, size = (N : Int) := ⟨size.toNat, by omega⟩
          subst hN
          go_wp2
          go_loopw [9] (fun i wx => ∃ k : Nat, k ≤ l.length ∧ i = .int .i64 k ∧ NamTo l k ∧ wx.heap[w1.heap.size]? = some (.cells (rcells (.slice none 0 0) ⟨N, [], 0, -1, false⟩) 79 (0, 0)) ∧ Below w.heap.size w wx) (fun i _ => l.length - (intOf i).toNat)
          case atStart => exact ⟨0, Nat.zero_le _, rfl, NamTo.zero l, heap_alloc_new w1 _, HB.out.alloc hsz _⟩
          case round =>
            clear HB
            obtain ⟨k, hk, rfl, hnam, hcells, hb⟩ := hrel
            have HNT : Hid (NamTo l k) := hnam
            have HC : Hid (wr.heap[w1.heap.size]? = some (.cells (rcells (.slice none 0 0) ⟨N, [], 0, -1, false⟩) 79 (0, 0))) := hcells
            have HB : Hid (Below w.heap.size w wr) := hb
            clear hnam hcells
            have hszr := hb.size
            obtain ⟨w2, hw2⟩ : ∃ w2, w2 = wr := ⟨_, rfl⟩
            subst hw2
            by_cases hlt : k < l.length
            · have hlti : (k : Int) < (l.length : Int) := by omega
              obtain ⟨b, off, rfl, c0, c1, c2⟩ := HR.out k hlt
              have d0 := cell_later hb c0
              obtain ⟨nm, dt, sf, hf⟩ : ∃ nm dt sf, l[k] = (nm, dt, sf) := ⟨_, _, _, rfl⟩
              have HF : Hid (l[k] = (nm, dt, sf)) := hf
              have hns : nm.size ≤ 9223372036854775807 := by
                have := (HDD.out _ (List.getElem_mem hlt)).1
                rw [hf] at this
                exact this
              rw [hf] at d0
              simp only at d0
              clear c0 c1 c2 hf hb
              have HLT : Hid (k < l.length) := hlt
              have HCX : Hid (w2.cell? ⟨b, off + k * 3, none⟩ = some (.string nm)) := d0
              go_wp2_with fail
              refine (name_anyE nm w2 hns).mono ?_
              rintro e w3 ⟨rfl, he⟩
              have he' := he.symm
              subst he'
              go_wp2
              go_loopw [10, 11] (fun o j wx => ∃ (i : Nat) (q : Bool), i ≤ k ∧ j = .int .i64 i ∧ o = .bool q ∧ (q = true → nmOk nm.data.toList = true ∧ ∀ j (hj : j < l.length), j < i → (l[j]).nm ≠ nm.data.toList) ∧ (q = false → rNam l = false) ∧ Below w2.heap.size w2 wx) (fun _ j _ => k - (intOf j).toNat)
              case atStart =>
                refine ⟨0, nmOk nm.data.toList, Nat.zero_le _, rfl, rfl, fun h => ⟨h, fun j _ h => absurd h (Nat.not_lt_zero _)⟩, fun h => rNam_no1 HLT.out (by rw [HF.out]; exact h), Below.refl _ _⟩
              case round =>
                obtain ⟨i, q, hi, rfl, rfl, hq1, hq0, hb3⟩ := hrel
                have HQ1 : Hid (q = true → nmOk nm.data.toList = true ∧ ∀ j (hj : j < l.length), j < i → (l[j]).nm ≠ nm.data.toList) := hq1
                have HQ0 : Hid (q = false → rNam l = false) := hq0
                have HB3 : Hid (Below w2.heap.size w2 wr) := hb3
                have e0 := cell_later hb3 d0
                clear hq1 hq0
                by_cases hik : i < k
                · have hiki : (i : Int) < (k : Int) := by omega
                  have hil : i < l.length := by omega
                  obtain ⟨b', off', e', c0, _, _⟩ := HR.out i hil
                  simp only [Option.some.injEq, Addr.mk.injEq] at e'
                  obtain ⟨rfl, rfl, _⟩ := e'
                  have e1 := cell_later hb3 (cell_later HB.out c0)
                  obtain ⟨nn, hnn⟩ : ∃ nn, (l[i]).1 = nn := ⟨_, rfl⟩
                  rw [hnn] at e1
                  have HNN : Hid ((l[i]).1 = nn) := hnn
                  have hili : (i : Int) < (l.length : Int) := by omega
                  clear c0 hnn hb3 d0
                  by_cases heq : nn.toList = nm.toList
                  · have hb1 : (nn.toList == nm.toList) = true := by simp [heq]
                    have HX : Hid (rNam l = false) := rNam_no2 HLT.out hik (by
                      rw [HF.out]
                      show (l[i]).1.data.toList = nm.data.toList
                      rw [HNN.out, ← ByteArray.toList_eq, ← ByteArray.toList_eq, heq])
                    go_wp2
                    go_quiet (fail)
                    go_wp2
                    go_roundw
                    case rel => exact ⟨i + 1, false, by omega, by go_num, rfl, (fun h => by cases h), fun _ => HX.out, below_drewN HB3.out _⟩
                    case measure => simp [intOf]; omega
                  · have hb1 : (nn.toList == nm.toList) = false := by simpa using heq
                    have HX : Hid (q = true → nmOk nm.data.toList = true ∧ ∀ j (hj : j < l.length), j < i + 1 → (l[j]).nm ≠ nm.data.toList) := fun h => ⟨(HQ1.out h).1, fun j hj hji => by
                      by_cases e : j = i
                      · subst e
                        show (l[j]).1.data.toList ≠ nm.data.toList
                        rw [HNN.out, ← ByteArray.toList_eq, ← ByteArray.toList_eq]
                        exact heq
                      · exact (HQ1.out h).2 j hj (by omega)⟩
                    go_wp2
                    go_quiet (fail)
                    go_wp2
                    go_roundw
                    case rel => exact ⟨i + 1, q, by omega, by go_num, rfl, HX.out, HQ0.out, below_drewN HB3.out _⟩
                    case measure => simp [intOf]; omega
                · have hik' : i = k := by omega
                  subst hik'
                  cases q with
                  | false =>
                    have HE : Hid (newE (N : Int) l = 40) := newE_40 HNUM.out (HQ0.out rfl)
                    go_wp2
                    exact bodyPost_ret (v := .tuple #[.pointer none, .int .i64 40]) (by simp [results, Tryz.results10, go_sem]) rfl (HP40.out _ HE.out (HB.out.trans (HB3.out.mono hszr)))
                  | true =>
                    have HX : Hid (NamTo l (i + 1)) := HNT.out.succ HLT.out (by rw [HF.out]; exact (HQ1.out rfl).1) (fun j hj hji => by rw [HF.out]; exact (HQ1.out rfl).2 j hj hji)
                    go_wp2
                    go_roundw
                    case rel => exact ⟨i + 1, by omega, by go_num, HX.out, (HB3.out.block _ (Array.getElem?_eq_some_iff.1 HC.out).1).trans HC.out, HB.out.trans (HB3.out.mono hszr)⟩
                    case measure => simp [intOf]; omega
            · have hk' : k = l.length := by omega
              subst hk'
              have HNM : Hid (rNam l = true) := HNT.out.all
              have HREF : Hid (RefAt w2 (fun k => w.heap.size ≤ k) w1.heap.size ⟨N, newFs (l.take 0), 0, -1, false⟩ (.slice none 0 0)) := ⟨HC.out, hsz, ⟨rfl, Or.inl ⟨rfl, rfl⟩⟩, fun g e => (by cases e), List.Pairwise.nil, Nat.zero_le _⟩
              clear HNT HC hb
              go_wp2
              go_loopw [8, 12] (fun z i wx => ∃ (k : Nat) (v : Value), k ≤ l.length ∧ k ≤ 64 ∧ i = .int .i64 k ∧ z = .int .i64 (sumF (l.take k) : Int) ∧ (sumF (l.take k) : Int) ≤ (N : Int) ∧ RefAt wx (fun k => w.heap.size ≤ k) w1.heap.size ⟨N, newFs (l.take k), 0, -1, false⟩ v ∧ (newFs (l.take k)).length ≤ k ∧ Below w.heap.size w wx) (fun _ i _ => l.length - (intOf i).toNat)
              case atStart => exact ⟨0, _, Nat.zero_le _, Nat.zero_le _, rfl, rfl, by simp [sumF], HREF.out, Nat.zero_le _, HB.out⟩
              case round =>
                clear HREF HB
                obtain ⟨k, v, hk, hk64, rfl, rfl, hsum, href, hfew, hb⟩ := hrel
                have HREF : Hid (RefAt wr (fun k => w.heap.size ≤ k) w1.heap.size ⟨N, newFs (l.take k), 0, -1, false⟩ v) := href
                have HB : Hid (Below w.heap.size w wr) := hb
                have hszw := hb.size
                obtain ⟨S, hS⟩ : ∃ S, sumF (l.take k) = S := ⟨_, rfl⟩
                have HS : Hid (sumF (l.take k) = S) := hS
                rw [hS] at hsum ⊢
                clear href hS
                by_cases hlt : k < l.length
                · have hlti : (k : Int) < (l.length : Int) := by omega
                  obtain ⟨b, off, rfl, c0, c1, c2⟩ := HR.out k hlt
                  have d0 := cell_later hb c0
                  have d1 := cell_later hb c1
                  have d2 := cell_later hb c2
                  obtain ⟨nm, dt, sf, hf⟩ : ∃ nm dt sf, l[k] = (nm, dt, sf) := ⟨_, _, _, rfl⟩
                  have HF : Hid (l[k] = (nm, dt, sf)) := hf
                  have hds : dt.size ≤ 1099511627776 := by
                    have := (HDD.out _ (List.getElem_mem hlt)).2
                    rw [hf] at this
                    exact this
                  have hsf : 0 ≤ sf := by
                    have := ((rNum_of HNUM.out).2.2 _ (List.getElem_mem hlt)).1
                    rw [hf] at this
                    exact this
                  obtain ⟨n, hn⟩ : ∃ n : Nat, sf = (n : Int) := ⟨sf.toNat, by omega⟩
                  subst hn
                  rw [hf] at d0 d1 d2
                  simp only at d0 d1 d2
                  clear c0 c1 c2 hf hb hsf
                  have HLT : Hid (k < l.length) := hlt
                  by_cases h64 : 64 ≤ k
                  · have HE : Hid (newE (N : Int) l = 42) := newE_42 HNUM.out HNM.out (room_no1 HLT.out h64)
                    have hd1 : decide ((64 : Int) ≤ (k : Int)) = true := by simp; omega
                    have h64i : (64 : Int) ≤ (k : Int) := by omega
                    go_wp2
                    all_goals exact bodyPost_ret (v := .tuple #[.pointer none, .int .i64 42]) (by simp [results, Tryz.results10, go_sem]) rfl (HP42.out _ HE.out HB.out)
                  · have hd1 : decide ((64 : Int) ≤ (k : Int)) = false := by simp; omega
                    have h64i : ¬ (64 : Int) ≤ (k : Int) := by omega
                    obtain ⟨D, hD⟩ : ∃ D : Nat, N - S = D := ⟨_, rfl⟩
                    have hDi : (N : Int) - (S : Int) = (D : Int) := by omega
                    have HDS : Hid (N = S + D) := by show N = S + D; omega
                    have hDl : D ≤ 1048576 := by omega
                    clear hD
                    by_cases hfit : D < dt.size
                    · have HE : Hid (newE (N : Int) l = 42) := newE_42 HNUM.out HNM.out (room_no2 HLT.out (by
                        have := HDS.out
                        rw [HF.out, HS.out]
                        simp only
                        omega))
                      have hd2 : decide ((D : Int) < (dt.size : Int)) = true := by simp; omega
                      have hd2i : (D : Int) < (dt.size : Int) := by omega
                      go_wp2
                      all_goals exact bodyPost_ret (v := .tuple #[.pointer none, .int .i64 42]) (by simp [results, Tryz.results10, go_sem]) rfl (HP42.out _ HE.out HB.out)
                    · have hd2 : decide ((D : Int) < (dt.size : Int)) = false := by simp; omega
                      have hd2i : ¬ (D : Int) < (dt.size : Int) := by omega
                      have HSUM : Hid (sumF (l.take (k + 1)) = S + dt.size) := by
                        show _ = _
                        rw [sumF_succ HLT.out, HF.out, HS.out]
                      have HFS : Hid (newFs (l.take (k + 1)) = putL (newFs (l.take k)) nm.data.toList (dt.data.toList, n)) := by
                        show _ = _
                        rw [newFs_succ HLT.out, HF.out]
                        rfl
                      have HLEN : Hid ((newFs (l.take (k + 1))).length ≤ k + 1) := by
                        have hsrt : srt (newFs (l.take k)) := HREF.out.sorted
                        show _ ≤ _
                        rw [HFS.out, length_putL _ _ _ hsrt]
                        split <;> omega
                      have hfit2 : S + dt.size ≤ N := by have := HDS.out; omega
                      have hfl : (newFs (l.take k)).length < 1000 := by omega
                      have HFL : Hid ((newFs (l.take k)).length < 1000) := hfl
                      clear hfl hfew
                      go_wp2_with (first | (go_at_call 31; refine (puts_any wr (fun k => w.heap.size ≤ k) w1.heap.size ⟨N, newFs (l.take k), 0, -1, false⟩ v nm dt n HREF.out (zone_newE HB.out.size) HFL.out).mono ?_; rintro e w5 ⟨rfl, ⟨v', hr5⟩, ho5⟩))
                      simp only [← HFS.out] at hr5
                      have HR5 : Hid (RefAt w5 (fun k => w.heap.size ≤ k) w1.heap.size ⟨N, newFs (l.take (k + 1)), 0, -1, false⟩ v') := hr5
                      have HB5 : Hid (Below w.heap.size w w5) := ho5.zoneE HB.out
                      clear hr5 ho5
                      go_wp2
                      go_roundw
                      case rel => exact ⟨k + 1, v', by omega, by omega, by go_num, by rw [HSUM.out]; first | rfl | go_num, by rw [HSUM.out]; omega, HR5.out, HLEN.out, HB5.out⟩
                      case measure => simp [intOf]; omega
                · have hk' : k = l.length := by omega
                  subst hk'
                  have HE : Hid (newE (N : Int) l = 0) := newE_0 HNUM.out HNM.out (room_yes hk64 (by
                    have := HS.out
                    rw [List.take_length] at this
                    rw [this]
                    exact hsum))
                  have HR5 : Hid (RefAt wr (fun k => w.heap.size ≤ k) w1.heap.size (newSt (N : Int) l) v) := by
                    have := HREF.out
                    rw [List.take_length] at this
                    exact this
                  clear hb
                  go_wp2
                  exact bodyPost_ret (v := .tuple #[.pointer (some ⟨w1.heap.size, 0, none⟩), .int .i64 0]) (by simp [results, Tryz.results10, go_sem]) rfl ⟨HB.out, Or.inr ⟨HE.out, _, v, rfl, HR5.out⟩⟩
end Go.Proofs.YtckmjmpajbjbkaaGreatDoor
/- The laws' functions of layer 4: same (for rows that are the same), begins. -/
namespace Go.Proofs.YtckmjmpajbjbkaaGreatDoor
open Go.RowKit





/-- The front of a text. -/
theorem front (s : ByteArray) (n : Nat) : s.extract 0 n = ⟨(s.data.toList.take n).toArray⟩ := by
  apply ByteArray.ext
  rw [ByteArray.data_extract]
  apply Array.ext'
  simp
end Go.Proofs.YtckmjmpajbjbkaaGreatDoor
