/- Layer 4, without the program: what a disk is, and what its calls answer and leave. -/
import Derived.Test.YtckmjmpajbjbkaaGreatDoorM40
namespace Go.Proofs.YtckmjmpajbjbkaaGreatDoor
open Go

/-- Which bytes may stand in a name; which texts are names. -/
def nmb (c : UInt8) : Bool := (decide (97 ≤ c.toNat) && decide (c.toNat ≤ 122)) || (decide (48 ≤ c.toNat) && decide (c.toNat ≤ 57)) || decide (c.toNat = 45) || decide (c.toNat = 46)
def nmOk (s : Nm) : Bool := decide (1 ≤ s.length) && decide (s.length ≤ 16) && s.all nmb

/-- Files: names, bytes, how many are safe. -/
abbrev Fl := List UInt8 × Nat
abbrev Fs := List (Nm × Fl)
def szF (f : Fl) : Nat := f.1.length
structure St where
  size : Nat
  fs : Fs
  steps : Nat
  armed : Int
  down : Bool

structure OKf (size : Nat) (fs : Fs) : Prop where
  sorted : srt fs
  small : size ≤ 1048576
  room : tot szF fs ≤ size
  few : fs.length ≤ 64
  names : ∀ p ∈ fs, nmOk p.1 = true
  safe : ∀ p ∈ fs, p.2.2 ≤ p.2.1.length
structure OKs (st : St) : Prop where
  files : OKf st.size st.fs
  low : -1 ≤ st.armed
  high : st.armed ≤ 9223372036854775807

theorem tot_mem {α : Type} (f : α → Nat) : ∀ {l : List (Nm × α)} {p : Nm × α}, p ∈ l → f p.2 ≤ tot f l
  | q :: r, p, h => by
    rw [tot_cons]
    rcases List.mem_cons.1 h with rfl | h
    · omega
    · have := tot_mem f h
      omega
theorem OKf.len {size : Nat} {fs : Fs} (h : OKf size fs) {p : Nm × Fl} (hp : p ∈ fs) : p.2.1.length ≤ size := Nat.le_trans (tot_mem szF hp) h.room
theorem nmOk_len {s : Nm} (h : nmOk s = true) : 1 ≤ s.length ∧ s.length ≤ 16 := by
  simp only [nmOk, Bool.and_eq_true, decide_eq_true_eq] at h
  exact h.1

/-- The errors of names. -/
def findE (fs : Fs) (s : Nm) : Int := if nmOk s then (if (getL fs s).isSome then 0 else 41) else 40
def roomE (st : St) (s : Nm) (n : Nat) : Int := if nmOk s then (if st.size < tot szF st.fs + n ∨ ((getL st.fs s).isSome = false ∧ 64 ≤ st.fs.length) then 42 else 0) else 40
def renE (fs : Fs) (s t : Nm) : Int := if nmOk t then findE fs s else 40

/-- A step. -/
def stepR (st : St) (wrong : Int) (f : Fs → Fs) : Int × St :=
  if st.down then (3, st) else if wrong ≠ 0 then (wrong, st) else if st.armed = 0 then (3, { st with down := true })
  else (0, { size := st.size, fs := f st.fs, steps := st.steps + 1, armed := if 0 < st.armed then st.armed - 1 else st.armed, down := false })

def fileOf (fs : Fs) (s : Nm) : Fl := (getL fs s).getD ([], 0)
def appF (s : Nm) (t : List UInt8) (fs : Fs) : Fs := putL fs s ((fileOf fs s).1 ++ t, (fileOf fs s).2)
def synF (s : Nm) (fs : Fs) : Fs := putL fs s ((fileOf fs s).1, (fileOf fs s).1.length)
def renF (s t : Nm) (fs : Fs) : Fs := putL (delL fs s) t (fileOf fs s)
def remF (s : Nm) (fs : Fs) : Fs := delL fs s

def appR (st : St) (s : Nm) (t : List UInt8) : Int × St := stepR st (roomE st s t.length) (appF s t)
def synR (st : St) (s : Nm) : Int × St := stepR st (findE st.fs s) (synF s)
def renR (st : St) (s t : Nm) : Int × St := stepR st (renE st.fs s t) (renF s t)
def remR (st : St) (s : Nm) : Int × St := stepR st (findE st.fs s) (remF s)
def armR (st : St) (n : Int) : Int × St := if n < -1 then (1, st) else if st.down then (3, st) else (0, { st with armed := n })
def readR (st : St) (s : Nm) : List UInt8 × Int := if st.down then ([], 3) else if findE st.fs s ≠ 0 then ([], findE st.fs s) else ((fileOf st.fs s).1, 0)
def freeR (st : St) : Int := (st.size : Int) - (tot szF st.fs : Int)

/-- A crash: how many of a tail are kept. -/
def keeps (k : Int) (tail : Nat) : Nat := min k.toNat tail
def crash1 (k : Int) (f : Fl) : Fl := (f.1.take (f.2 + keeps k (f.1.length - f.2)), f.2 + keeps k (f.1.length - f.2))
def crashL : List Int → Fs → Fs
  | _, [] => []
  | ks, p :: r => if 0 < p.2.1.length - p.2.2 then (p.1, crash1 (ks.headD 0) p.2) :: crashL ks.tail r else (p.1, (p.2.1, p.2.1.length)) :: crashL ks r
def crashR (st : St) (ks : List Int) : St := { size := st.size, fs := crashL ks st.fs, steps := st.steps, armed := -1, down := false }

/-! ### what is kept -/
theorem szF_mk (d : List UInt8) (n : Nat) : szF (d, n) = d.length := rfl
theorem fileOf_gets (fs : Fs) (s : Nm) : gets szF (getL fs s) = (fileOf fs s).1.length := by
  unfold fileOf
  cases getL fs s <;> rfl
theorem fileOf_safe {size : Nat} {fs : Fs} (h : OKf size fs) (s : Nm) : (fileOf fs s).2 ≤ (fileOf fs s).1.length := by
  unfold fileOf
  cases hg : getL fs s with
  | none => simp
  | some x => exact h.safe _ (getL_mem hg)
theorem OKf.put {size : Nat} {fs : Fs} (h : OKf size fs) {s : Nm} {f : Fl} (hs : nmOk s = true) (hf : f.2 ≤ f.1.length) (hr : tot szF fs + f.1.length ≤ size + (fileOf fs s).1.length) (hm : (getL fs s).isSome = true ∨ fs.length < 64) : OKf size (putL fs s f) := by
  have ht := tot_putL szF fs s f h.sorted
  rw [fileOf_gets] at ht
  have hl := length_putL fs s f h.sorted
  have hfew := h.few
  have hsz : szF f = f.1.length := rfl
  refine ⟨srt_putL h.sorted s f, h.small, by omega, ?_, fun p hp => ?_, fun p hp => ?_⟩
  · rw [hl]
    split
    · exact h.few
    · rcases hm with g | g
      · rename_i g'
        exact absurd g g'
      · omega
  · rcases mem_putL h.sorted hp with rfl | ⟨g, _⟩
    · exact hs
    · exact h.names p g
  · rcases mem_putL h.sorted hp with rfl | ⟨g, _⟩
    · exact hf
    · exact h.safe p g
theorem OKf.del {size : Nat} {fs : Fs} (h : OKf size fs) (s : Nm) : OKf size (delL fs s) := by
  have ht := tot_delL szF fs s h.sorted
  have hr := h.room
  exact ⟨srt_delL h.sorted s, h.small, by omega, Nat.le_trans (delL_length fs s) h.few, fun p hp => h.names p (mem_delL hp).1, fun p hp => h.safe p (mem_delL hp).1⟩
theorem find_ok {fs : Fs} {s : Nm} (h : findE fs s = 0) : nmOk s = true ∧ (getL fs s).isSome = true := by
  unfold findE at h
  split at h
  · split at h
    · exact ⟨by assumption, by assumption⟩
    · simp at h
  · simp at h
theorem room_ok {st : St} {s : Nm} {n : Nat} (h : roomE st s n = 0) : nmOk s = true ∧ tot szF st.fs + n ≤ st.size ∧ ((getL st.fs s).isSome = true ∨ st.fs.length < 64) := by
  unfold roomE at h
  split at h
  · split at h
    · simp at h
    · rename_i h1 h2
      refine ⟨h1, by omega, ?_⟩
      cases hg : (getL st.fs s).isSome with
      | true => exact Or.inl rfl
      | false => exact Or.inr (Nat.lt_of_not_le fun g => h2 (Or.inr ⟨hg, g⟩))
  · simp at h
theorem ren_ok {fs : Fs} {s t : Nm} (h : renE fs s t = 0) : nmOk t = true ∧ findE fs s = 0 := by
  unfold renE at h
  split at h
  · exact ⟨by assumption, h⟩
  · simp at h
theorem OKf.app {st : St} (h : OKf st.size st.fs) {s : Nm} {t : List UInt8} (hr : roomE st s t.length = 0) : OKf st.size (appF s t st.fs) := by
  obtain ⟨h1, h2, h3⟩ := room_ok hr
  have hsf := fileOf_safe h s
  exact h.put h1 (by simp only [List.length_append]; omega) (by simp only [List.length_append]; omega) h3
theorem OKf.syn {size : Nat} {fs : Fs} (h : OKf size fs) {s : Nm} (hr : findE fs s = 0) : OKf size (synF s fs) := by
  obtain ⟨h1, h2⟩ := find_ok hr
  have := h.room
  exact h.put h1 (Nat.le_refl _) (by simp only; omega) (Or.inl h2)
theorem OKf.rem {size : Nat} {fs : Fs} (h : OKf size fs) (s : Nm) : OKf size (remF s fs) := h.del s
theorem getL_len {α : Type} {l : List (Nm × α)} {s : Nm} (hs : srt l) (h : (getL l s).isSome = true) : (delL l s).length + 1 = l.length := by
  have := tot_delL (fun _ => 1) l s hs
  have e : ∀ m : List (Nm × α), tot (fun _ => 1) m = m.length := fun m => by
    induction m with
    | nil => rfl
    | cons p r ih => rw [tot_cons, ih, List.length_cons]; omega
  rw [e, e] at this
  cases hg : getL l s with
  | none => rw [hg] at h; cases h
  | some x => rw [hg] at this; simpa [gets] using this
theorem OKf.ren {size : Nat} {fs : Fs} (h : OKf size fs) {s t : Nm} (hr : renE fs s t = 0) : OKf size (renF s t fs) := by
  obtain ⟨h1, h2⟩ := ren_ok hr
  obtain ⟨_, h3⟩ := find_ok h2
  have ht := tot_delL szF fs s h.sorted
  rw [fileOf_gets] at ht
  have := getL_len h.sorted h3
  have hf := h.few
  have hrm := h.room
  exact (h.del s).put h1 (fileOf_safe h s) (by omega) (Or.inr (by omega))
theorem stepR_ok {st : St} (h : OKs st) {wrong : Int} {f : Fs → Fs} (hf : wrong = 0 → OKf st.size (f st.fs)) : OKs (stepR st wrong f).2 := by
  unfold stepR
  split
  · exact h
  · split
    · exact h
    · split
      · exact ⟨h.files, h.low, h.high⟩
      · rename_i h1 h2 h3
        refine ⟨hf (by omega), ?_, ?_⟩
        · have := h.low
          simp only
          split <;> omega
        · have := h.high
          simp only
          split <;> omega
theorem armR_ok {st : St} (h : OKs st) {n : Int} (hn : n ≤ 9223372036854775807) : OKs (armR st n).2 := by
  unfold armR
  split
  · exact h
  · split
    · exact h
    · exact ⟨h.files, by simp only; omega, hn⟩

theorem crashL_names : ∀ (ks : List Int) (fs : Fs), (crashL ks fs).map (·.1) = fs.map (·.1)
  | _, [] => rfl
  | ks, p :: r => by
    unfold crashL
    split
    · simp [crashL_names ks.tail r]
    · simp [crashL_names ks r]
theorem crashL_tot : ∀ (ks : List Int) (fs : Fs), tot szF (crashL ks fs) ≤ tot szF fs
  | _, [] => Nat.le_refl _
  | ks, p :: r => by
    unfold crashL
    split
    · have := crashL_tot ks.tail r
      have h2 : szF (crash1 (ks.headD 0) p.2) ≤ szF p.2 := by simp [szF, crash1]; omega
      simp only [tot_cons]
      omega
    · have := crashL_tot ks r
      have h2 : szF (p.2.1, p.2.1.length) = szF p.2 := rfl
      simp only [tot_cons]
      omega
theorem crash1_len {f : Fl} (h : f.2 ≤ f.1.length) (k : Int) : (crash1 k f).1.length = (crash1 k f).2 := by
  simp only [crash1, keeps, List.length_take]
  omega
theorem crashL_safe : ∀ (ks : List Int) (fs : Fs), (∀ p ∈ fs, p.2.2 ≤ p.2.1.length) → ∀ p ∈ crashL ks fs, p.2.2 = p.2.1.length
  | _, [], _, p, hp => by cases hp
  | ks, q :: r, h, p, hp => by
    have hq := h q (by simp)
    have hr := fun x hx => h x (List.mem_cons_of_mem _ hx)
    unfold crashL at hp
    split at hp
    · rcases List.mem_cons.1 hp with rfl | hp
      · exact (crash1_len hq _).symm
      · exact crashL_safe ks.tail r hr p hp
    · rcases List.mem_cons.1 hp with rfl | hp
      · rfl
      · exact crashL_safe ks r hr p hp
theorem srt_names {α β : Type} {l : List (Nm × α)} {m : List (Nm × β)} (h : l.map (·.1) = m.map (·.1)) (hs : srt m) : srt l := by
  unfold srt at hs ⊢
  have : (m.map (·.1)).Pairwise (fun a b => Op.bytesLess a b = true) := List.pairwise_map.2 hs
  rw [← h] at this
  exact List.pairwise_map.1 this
theorem OKf.crash {size : Nat} {fs : Fs} (h : OKf size fs) (ks : List Int) : OKf size (crashL ks fs) := by
  have hn := crashL_names ks fs
  refine ⟨srt_names hn h.sorted, h.small, Nat.le_trans (crashL_tot ks fs) h.room, ?_, fun p hp => ?_, fun p hp => Nat.le_of_eq (crashL_safe ks fs h.safe p hp)⟩
  · have := congrArg List.length hn
    simp only [List.length_map] at this
    rw [this]
    exact h.few
  · have : p.1 ∈ (crashL ks fs).map (·.1) := List.mem_map_of_mem hp
    rw [hn] at this
    obtain ⟨q, hq, e⟩ := List.mem_map.1 this
    rw [← e]
    exact h.names q hq
theorem crashR_ok {st : St} (h : OKs st) (ks : List Int) : OKs (crashR st ks) := ⟨h.files.crash ks, by simp [crashR], by simp [crashR]⟩
end Go.Proofs.YtckmjmpajbjbkaaGreatDoor
