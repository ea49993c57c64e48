/- How many steps of a disk a call of a log makes; what Truncate leaves of a log. -/
import Derived.Test.YtckmjmpajbjbkaaGreatDoorM61
import Derived.Test.YtckmjmpajbjbkaaGreatDoorY6
import Derived.Test.YtckmjmpajbjbkaaGreatDoorY4
import Derived.Test.YtckmjmpajbjbkaaGreatDoorY2
import Derived.Test.YtckmjmpajbjbkaaGreatDoorQU7
import Derived.Test.YtckmjmpajbjbkaaGreatDoorQU8
import Derived.Test.YtckmjmpajbjbkaaGreatDoorJ7
import Derived.Test.YtckmjmpajbjbkaaGreatDoorD11
import Derived.Test.YtckmjmpajbjbkaaGreatDoorY1
import Derived.Test.YtckmjmpajbjbkaaGreatDoorY8
import Derived.Test.YtckmjmpajbjbkaaGreatDoorD13
import Derived.Test.YtckmjmpajbjbkaaGreatDoorY3
namespace Go.Proofs.YtckmjmpajbjbkaaGreatDoor
open Go.RowKit

theorem delL_fewer {l : Fs} {k : Nm} (h : (getL l k).isSome = true) : (delL l k).length + 1 ≤ l.length := by
  induction l with
  | nil => simp [getL] at h
  | cons p r ih =>
    by_cases e : p.1 = k
    · have : (delL r k).length ≤ r.length := List.length_filter_le _ _
      have e2 : delL (p :: r) k = delL r k := by simp [delL, e]
      rw [e2, List.length_cons]
      omega
    · have e2 : delL (p :: r) k = p :: delL r k := by simp [delL, e]
      have e3 : getL (p :: r) k = getL r k := by simp [getL, e]
      rw [e3] at h
      rw [e2, List.length_cons, List.length_cons]
      have := ih h
      omega
theorem remR_fewer {st : St} {s : Nm} (h : (remR st s).1 = 0) : (remR st s).2.fs.length + 1 ≤ st.fs.length := by
  rcases stepR_two st (findE st.fs s) (remF s) (findE_nn _ _) with ⟨h1, _⟩ | ⟨_, h2, _, h4, _⟩
  · unfold remR at h; omega
  · have : (getL st.fs s).isSome = true := by
      unfold findE at h2
      split at h2
      · split at h2
        · assumption
        · omega
      · omega
    unfold remR
    rw [h4]
    exact delL_fewer this
theorem truncG_few : ∀ (P : Int) (l : List Sg) (st : St), (truncG P st l).2.1.steps ≤ st.steps + st.fs.length + 1
  | P, [], st => by simp only [truncG]; omega
  | P, [s], st => by simp only [truncG]; omega
  | P, s :: t :: r, st => by
    have h1 : (remR st (nameN s.1)).2.steps ≤ st.steps + 1 := stepR_steps _ _ _
    rw [truncG]
    split
    · split
      · show (remR st (nameN s.1)).2.steps ≤ _
        omega
      · rename_i h
        have h2 := remR_fewer (st := st) (s := nameN s.1) (by omega)
        have h3 := truncG_few P (t :: r) (remR st (nameN s.1)).2
        omega
    · show st.steps ≤ _
      omega
theorem truncG_last : ∀ (P : Int) (l : List Sg) (st : St), (truncG P st l).2.2.getLast? = l.getLast?
  | P, [], st => by simp only [truncG]
  | P, [s], st => by simp only [truncG]
  | P, s :: t :: r, st => by
    rw [truncG]
    split
    · split
      · rfl
      · rw [truncG_last P (t :: r)]
        simp
    · rfl
theorem truncG_nil {P : Int} {l : List Sg} {st : St} (h : (truncG P st l).2.2 = []) : l = [] := by
  have := truncG_last P l st
  rw [h] at this
  simpa using this.symm
theorem truncL_few {st : St} {g : Lg} {P : Int} : (truncL st g P).2.1.steps ≤ st.steps + st.fs.length + 1 := by
  unfold truncL
  split
  · show st.steps ≤ _
    omega
  · exact truncG_few _ _ _
theorem truncL_ok {st : St} {g : Lg} {P : Int} (h : LgOK g) (hw : LgW (truncL st g P).2.2) : LgOK (truncL st g P).2.2 := by
  unfold truncL at hw ⊢
  split at hw
  · rename_i hc
    rw [if_pos hc]
    exact h
  · rename_i hc
    rw [if_neg hc]
    refine ⟨hw, ?_, fun e => h.none (truncG_nil e)⟩
    have : Lg.next { g with segs := (truncG P st g.segs).2.2 } = g.next := by
      simp only [Lg.next, nextL, truncG_last]
    show g.safe ≤ Lg.next { g with segs := (truncG P st g.segs).2.2 }
    rw [this]
    exact h.safe
theorem syncL_few (st : St) (g : Lg) : (syncL st g).2.1.steps ≤ st.steps + 1 := by
  unfold syncL
  split
  · show st.steps ≤ _
    omega
  · have h1 : (synR st (nameN (lastL g.segs).1)).2.steps ≤ st.steps + 1 := stepR_steps _ _ _
    split
    · exact h1
    · exact h1
theorem appendL_few (st : St) (g : Lg) (d : List UInt8) : (appendL st g d).2.1.steps ≤ st.steps + 2 := by
  have h0 := syncL_few st g
  unfold appendL
  split
  · show st.steps ≤ _
    omega
  · split
    · have h1 : (appR (syncL st g).2.1 (nameN g.next) (frm d)).2.steps ≤ (syncL st g).2.1.steps + 1 := stepR_steps _ _ _
      split
      · show (syncL st g).2.1.steps ≤ _
        omega
      · split
        · show (appR (syncL st g).2.1 (nameN g.next) (frm d)).2.steps ≤ _
          omega
        · show (appR (syncL st g).2.1 (nameN g.next) (frm d)).2.steps ≤ _
          omega
    · have h1 : (appR st (nameN (lastL g.segs).1) (frm d)).2.steps ≤ st.steps + 1 := stepR_steps _ _ _
      split
      · show (appR st (nameN (lastL g.segs).1) (frm d)).2.steps ≤ _
        omega
      · show (appR st (nameN (lastL g.segs).1) (frm d)).2.steps ≤ _
        omega
theorem thenR_few {r : Int × St} {f : St → Int × St} {n k : Nat} (h1 : r.2.steps ≤ n) (h2 : ∀ s, (f s).2.steps ≤ s.steps + k) : (thenR r f).2.steps ≤ n + k := by
  unfold thenR
  split
  · omega
  · have := h2 r.2
    omega
theorem mendR_few (st : St) (n : Nm) (w : List UInt8) : (mendR st n w).2.steps ≤ st.steps + 4 := by
  have h1 : (remR st mendN).2.steps ≤ st.steps + 1 := stepR_steps _ _ _
  unfold mendR
  split
  · omega
  · have h2 : (appR (remR st mendN).2 mendN w).2.steps ≤ st.steps + 2 := by
      have : (appR (remR st mendN).2 mendN w).2.steps ≤ (remR st mendN).2.steps + 1 := stepR_steps _ _ _
      omega
    have h3 : ∀ s : St, (thenR (synR s mendN) fun s => renR s mendN n).2.steps ≤ s.steps + 2 := fun s => thenR_few (k := 1) (n := s.steps + 1) (stepR_steps _ _ _) fun s => stepR_steps _ _ _
    have h4 := thenR_few (k := 2) h2 h3
    omega
theorem settleR_few (st : St) (l : List Sg) : (settleR st l).2.steps ≤ st.steps + 4 := by
  unfold settleR
  split
  · show st.steps ≤ _
    omega
  · split
    · show st.steps ≤ _
      omega
    · split
      · exact mendR_few _ _ _
      · have : (synR st (nameN (lastL l).1)).2.steps ≤ st.steps + 1 := stepR_steps _ _ _
        omega
theorem openR_few (st : St) (f size : Int) : (openR st f size).2.1.steps ≤ st.steps + 4 := by
  have h := fun l => settleR_few st l
  unfold openR
  split
  · show st.steps ≤ _
    omega
  · split
    · show st.steps ≤ _
      omega
    · split
      · show st.steps ≤ _
        omega
      · split
        · exact h _
        · exact h _
theorem openR_lok {st : St} {f size : Int} {g : Lg} (h : (openR st f size).2.2 = some g) (hw : LgW g) : LgOK g := by
  unfold openR at h
  split at h
  · simp at h
  · split at h
    · simp at h
    · split at h
      · simp at h
      · split at h
        · simp at h
        · simp only [Option.some.injEq] at h
          subst h
          exact ⟨hw, Nat.le_refl _, fun e => by
            simp only at e
            subst e
            rfl⟩
end Go.Proofs.YtckmjmpajbjbkaaGreatDoor
/- The program's disk and log, and the document's, side by side. -/
namespace Go.Proofs.YtckmjmpajbjbkaaGreatDoor
open Go.RowKit

/-- The program's side: a disk, and the log that is open on it. -/
def PSide (B : Nat) (w : World) (X : Nat → Prop) (a : Nat) (st : St) : Option (Nat × Lg) → Prop
  | none => IsDisk w X a st
  | some (l, g) => IsLog B w X l a st g
/-- The document's side. -/
def RSide (w : World) (X : Nat → Prop) (c : Nat) (st : St) : Option (Nat × Lg) → Prop
  | none => OKs st ∧ ∃ v, RefAt w X c st v
  | some (r, g) => IsG w X r c st g
theorem IsG.kept {w w1 : World} {X : Nat → Prop} {l c : Nat} {st : St} {g : Lg} (h : IsG w X l c st g) (hs : w.heap.size ≤ w1.heap.size) (hk : ∀ k, k < w.heap.size → X k → w1.heap[k]? = w.heap[k]?) : IsG w1 X l c st g := by
  obtain ⟨v, v2, v4, h1, h2, Z, Y, k1, k2, k3, k4, k5⟩ := h
  exact ⟨v, v2, v4, h1, h2, Z, Y, k1.kept fun k hl hz => hk k hl (k4 k hz), k2.kept hs fun k hl hy => hk k hl (k5 k hy), k3, k4, k5⟩
theorem IsG.wide {w : World} {X X' : Nat → Prop} {l c : Nat} {st : St} {g : Lg} (h : IsG w X l c st g) (hx : ∀ k, k < w.heap.size → X k → X' k) : IsG w X' l c st g := by
  obtain ⟨v, v2, v4, h1, h2, Z, Y, k1, k2, k3, k4, k5⟩ := h
  exact ⟨v, v2, v4, h1, h2, fun k => Z k ∧ k < w.heap.size, fun k => Y k ∧ k < w.heap.size, k1.mono fun k hk hz => ⟨hz, hk⟩, k2.mono fun k hk hy => ⟨hy, hk⟩, fun k a b => k3 k a.1 b.1, fun k hk => hx k hk.2 (k4 k hk.1), fun k hk => hx k hk.2 (k5 k hk.1)⟩
theorem PSide.kept {B : Nat} {w w1 : World} {X : Nat → Prop} {a : Nat} {st : St} {o : Option (Nat × Lg)} (h : PSide B w X a st o) (hb : Below B w w1) (hk : ∀ k, k < w.heap.size → X k → w1.heap[k]? = w.heap[k]?) : PSide B w1 X a st o := by
  match o, h with
  | none, h => exact IsDisk.kept h hk
  | some (l, g), ⟨p, cap, es, h0, h1, h2, h3, Z, Y, k1, k2, k3, k4, k5⟩ => exact ⟨p, cap, es, Nat.le_trans h0 hb.size, h1.on hb, h2, h3, Z, Y, k1.kept fun k hl hz => hk k hl (k4 k hz), k2.kept fun k hl hz => hk k hl (k5 k hz), k3, k4, k5⟩
theorem PSide.wide {B : Nat} {w : World} {X X' : Nat → Prop} {a : Nat} {st : St} {o : Option (Nat × Lg)} (h : PSide B w X a st o) (hx : ∀ k, k < w.heap.size → X k → X' k) (hB : ∀ k, X' k → B ≤ k) : PSide B w X' a st o := by
  match o, h with
  | none, h => exact IsDisk.mono h hx
  | some (l, g), ⟨p, cap, es, h⟩ => exact ⟨p, cap, es, h.mono hx hB⟩
theorem PSide.ok {B : Nat} {w : World} {X : Nat → Prop} {a : Nat} {st : St} {o : Option (Nat × Lg)} (h : PSide B w X a st o) : OKs st := by
  match o, h with
  | none, h => exact IsDisk.ok h
  | some (l, g), ⟨p, cap, es, h⟩ => exact h.dok
theorem PSide.disk {B : Nat} {w : World} {X : Nat → Prop} {a : Nat} {st : St} {o : Option (Nat × Lg)} (h : PSide B w X a st o) : IsDisk w X a st := by
  match o, h with
  | none, h => exact h
  | some (l, g), h => exact IsLog.toDisk h
theorem RSide.kept {w w1 : World} {X : Nat → Prop} {c : Nat} {st : St} {o : Option (Nat × Lg)} (h : RSide w X c st o) (hs : w.heap.size ≤ w1.heap.size) (hk : ∀ k, k < w.heap.size → X k → w1.heap[k]? = w.heap[k]?) : RSide w1 X c st o := by
  match o, h with
  | none, ⟨h0, v, h⟩ => exact ⟨h0, v, h.kept hk⟩
  | some (l, g), h => exact IsG.kept h hs hk
theorem RSide.wide {w : World} {X X' : Nat → Prop} {c : Nat} {st : St} {o : Option (Nat × Lg)} (h : RSide w X c st o) (hx : ∀ k, k < w.heap.size → X k → X' k) : RSide w X' c st o := by
  match o, h with
  | none, ⟨h0, v, h⟩ => exact ⟨h0, v, h.mono hx⟩
  | some (l, g), h => exact IsG.wide h hx
theorem RSide.ref {w : World} {X : Nat → Prop} {c : Nat} {st : St} {o : Option (Nat × Lg)} (h : RSide w X c st o) : ∃ v, RefAt w X c st v := by
  match o, h with
  | none, ⟨h0, h⟩ => exact h
  | some (l, g), h => exact IsG.toRef h
/-- A step of the program's disk, of the document's, under a log that may be open. -/
theorem PSide.step {B : Nat} {w : World} {X : Nat → Prop} {a : Nat} {st : St} {o : Option (Nat × Lg)} (h : PSide B w X a st o) (hX : ∀ k, w.heap.size ≤ k → X k) :
    ∃ Z : Nat → Prop, IsDisk w Z a st ∧ (∀ k, w.heap.size ≤ k → Z k) ∧ ∀ w1 st', IsDisk w1 Z a st' → Only Z w w1 → PSide B w1 X a st' o ∧ Only X w w1 := by
  match o, h with
  | none, h => exact ⟨X, h, hX, fun w1 st' h1 h2 => ⟨h1, h2⟩⟩
  | some (l, g), ⟨p, cap, es, h⟩ =>
    obtain ⟨Z, z1, z2, z3⟩ := h.disk hX
    exact ⟨Z, z1, z2, fun w1 st' h1 h2 => ⟨(z3 w1 st' h1 h2).1.is, (z3 w1 st' h1 h2).2⟩⟩
theorem RSide.step {w : World} {X : Nat → Prop} {c : Nat} {st : St} {o : Option (Nat × Lg)} (h : RSide w X c st o) (hX : ∀ k, w.heap.size ≤ k → X k) :
    ∃ (Z : Nat → Prop) (v : Value), RefAt w Z c st v ∧ (∀ k, w.heap.size ≤ k → Z k) ∧ ∀ w1 st', (∃ v', RefAt w1 Z c st' v') → OKs st' → Only Z w w1 → RSide w1 X c st' o ∧ Only X w w1 := by
  match o, h with
  | none, ⟨h0, v, h⟩ => exact ⟨X, v, h, hX, fun w1 st' h1 h2 h3 => ⟨⟨h2, h1⟩, h3⟩⟩
  | some (l, g), ⟨v, v2, v4, h⟩ =>
    obtain ⟨Z, z1, z2, z3⟩ := h.disk hX
    exact ⟨Z, v, z1, z2, fun w1 st' h1 h2 h3 => by
      obtain ⟨⟨v', y1⟩, y2⟩ := z3 w1 st' h1 h2 h3
      exact ⟨⟨v', v2, v4, y1⟩, y2⟩⟩

/-- Both sides: what may turn of the one is none of the other's; all of it lies from B on, and none of it in N. -/
structure Duo (B : Nat) (N : Nat → Prop) (w : World) (a c : Nat) (sd : St) (od : Option (Nat × Lg)) (sr : St) (or : Option (Nat × Lg)) : Prop where
  base : B ≤ w.heap.size
  lib : SV B w
  two : ∃ (Xd Xr : Nat → Prop), PSide B w Xd a sd od ∧ RSide w Xr c sr or ∧ (∀ k, Xd k → Xr k → False) ∧ (∀ k, Xd k → B ≤ k ∧ k < w.heap.size) ∧ (∀ k, Xr k → B ≤ k ∧ k < w.heap.size) ∧ ∀ k, N k → k < w.heap.size ∧ ¬ Xd k ∧ ¬ Xr k
theorem Duo.more {B : Nat} {N : Nat → Prop} {w w' : World} {a c : Nat} {sd sr : St} {od or : Option (Nat × Lg)} (h : Duo B N w a c sd od sr or) (hb : Below w.heap.size w w') : Duo B (fun k => N k ∨ (w.heap.size ≤ k ∧ k < w'.heap.size)) w' a c sd od sr or := by
  obtain ⟨h0, hl, Xd, Xr, h1, h2, h3, h4, h5, h6⟩ := h
  have hsz := hb.size
  refine ⟨by omega, hl.later h0 hb, Xd, Xr, h1.kept (hb.mono h0) fun k hk _ => hb.block k hk, h2.kept hsz fun k hk _ => hb.block k hk, h3, fun k hk => by have := h4 k hk; omega, fun k hk => by have := h5 k hk; omega, fun k hk => ?_⟩
  rcases hk with hk | hk
  · obtain ⟨g1, g2⟩ := h6 k hk
    exact ⟨by omega, g2⟩
  · exact ⟨hk.2, fun e => by have := h4 k e; omega, fun e => by have := h5 k e; omega⟩
theorem Duo.less {B : Nat} {N N' : Nat → Prop} {w : World} {a c : Nat} {sd sr : St} {od or : Option (Nat × Lg)} (h : Duo B N w a c sd od sr or) (hn : ∀ k, N' k → N k) : Duo B N' w a c sd od sr or := by
  obtain ⟨h0, hl, Xd, Xr, h1, h2, h3, h4, h5, h6⟩ := h
  exact ⟨h0, hl, Xd, Xr, h1, h2, h3, h4, h5, fun k hk => h6 k (hn k hk)⟩
theorem Duo.later {B : Nat} {N : Nat → Prop} {w w' : World} {a c : Nat} {sd sr : St} {od or : Option (Nat × Lg)} (h : Duo B N w a c sd od sr or) (hb : Below w.heap.size w w') : Duo B N w' a c sd od sr or := (h.more hb).less fun _ hk => Or.inl hk
theorem Duo.ok {B : Nat} {N : Nat → Prop} {w : World} {a c : Nat} {sd sr : St} {od or : Option (Nat × Lg)} (h : Duo B N w a c sd od sr or) : OKs sd := by
  obtain ⟨_, _, Xd, Xr, h1, _⟩ := h
  exact h1.ok
/-- A block that is neither's is written. -/
theorem Duo.wrote {B : Nat} {N : Nat → Prop} {w : World} {a c : Nat} {sd sr : St} {od or : Option (Nat × Lg)} (h : Duo B N w a c sd od sr or) {p i : Nat} (hp : N p) (hB : B ≤ p) (u : Value) : Duo B N (w.setCell ⟨p, i, none⟩ u) a c sd od sr or ∧ Below B w (w.setCell ⟨p, i, none⟩ u) := by
  obtain ⟨h0, hl, Xd, Xr, h1, h2, h3, h4, h5, h6⟩ := h
  have hb : Below B w (w.setCell ⟨p, i, none⟩ u) := (Below.refl _ _).setCell (p := ⟨p, i, none⟩) hB u
  have hsz : (w.setCell ⟨p, i, none⟩ u).heap.size = w.heap.size := by simp [World.setCell]
  have hk : ∀ k, k ≠ p → (w.setCell ⟨p, i, none⟩ u).heap[k]? = w.heap[k]? := fun k hk => Below.heap_setCell _ _ _ _ (by simpa using hk)
  have hn := h6 p hp
  refine ⟨⟨by omega, hl.on hb, Xd, Xr, h1.kept hb fun k _ hx => hk k fun e => ?_, h2.kept (by omega) fun k _ hx => hk k fun e => ?_, h3, fun k hx => by rw [hsz]; exact h4 k hx, fun k hx => by rw [hsz]; exact h5 k hx, fun k hx => by rw [hsz]; exact h6 k hx⟩, hb⟩
  · subst e; exact hn.2.1 hx
  · subst e; exact hn.2.2 hx
/-- A step of the program's side. -/
theorem Duo.prog {B : Nat} {N : Nat → Prop} {w : World} {a c : Nat} {sd sr : St} {od or : Option (Nat × Lg)} (h : Duo B N w a c sd od sr or) :
    ∃ X : Nat → Prop, PSide B w X a sd od ∧ (∀ k, w.heap.size ≤ k → X k) ∧ (∀ k, X k → B ≤ k) ∧ ∀ w1 sd' od', PSide B w1 X a sd' od' → Only X w w1 → Duo B N w1 a c sd' od' sr or ∧ Below B w w1 ∧ ∀ k, N k → w1.heap[k]? = w.heap[k]? := by
  obtain ⟨h0, hl, Xd, Xr, h1, h2, h3, h4, h5, h6⟩ := h
  have hXB : ∀ k, Xd k ∨ w.heap.size ≤ k → B ≤ k := fun k hk => by
    rcases hk with e | e
    · exact (h4 k e).1
    · omega
  refine ⟨fun k => Xd k ∨ w.heap.size ≤ k, h1.wide (fun k _ hk => Or.inl hk) hXB, fun k hk => Or.inr hk, hXB, fun w1 sd' od' hd ho => ?_⟩
  have hs := ho.size
  have hb : Below B w w1 := ho.below h0 fun k hk e => by have := hXB k e; omega
  refine ⟨⟨by omega, hl.on hb, fun k => (Xd k ∨ w.heap.size ≤ k) ∧ k < w1.heap.size, Xr, hd.wide (fun k hk hz => ⟨hz, hk⟩) (fun k hk => hXB k hk.1), h2.kept hs fun k hk hz => ho.block k hk fun e => ?_, fun k e hz => ?_, fun k hk => ⟨hXB k hk.1, hk.2⟩, fun k hk => by have := h5 k hk; omega, fun k hk => ?_⟩, hb, fun k hk => ho.block k (h6 k hk).1 fun e => ?_⟩
  · rcases e with e | e
    · exact h3 k e hz
    · have := h5 k hz; omega
  · rcases e.1 with e | e
    · exact h3 k e hz
    · have := h5 k hz; omega
  · obtain ⟨g1, g2, g3⟩ := h6 k hk
    refine ⟨by omega, fun e => ?_, g3⟩
    rcases e.1 with e | e
    · exact g2 e
    · omega
  · obtain ⟨g1, g2, _⟩ := h6 k hk
    rcases e with e | e
    · exact g2 e
    · omega
/-- A step of the document's side. -/
theorem Duo.doc {B : Nat} {N : Nat → Prop} {w : World} {a c : Nat} {sd sr : St} {od or : Option (Nat × Lg)} (h : Duo B N w a c sd od sr or) :
    ∃ X : Nat → Prop, RSide w X c sr or ∧ (∀ k, w.heap.size ≤ k → X k) ∧ (∀ k, X k → B ≤ k) ∧ ∀ w1 sr' or', RSide w1 X c sr' or' → Only X w w1 → Duo B N w1 a c sd od sr' or' ∧ Below B w w1 ∧ ∀ k, N k → w1.heap[k]? = w.heap[k]? := by
  obtain ⟨h0, hl, Xd, Xr, h1, h2, h3, h4, h5, h6⟩ := h
  have hXB : ∀ k, Xr k ∨ w.heap.size ≤ k → B ≤ k := fun k hk => by
    rcases hk with e | e
    · exact (h5 k e).1
    · omega
  refine ⟨fun k => Xr k ∨ w.heap.size ≤ k, h2.wide (fun k _ hk => Or.inl hk), fun k hk => Or.inr hk, hXB, fun w1 sr' or' hr ho => ?_⟩
  have hs := ho.size
  have hb : Below B w w1 := ho.below h0 fun k hk e => by have := hXB k e; omega
  refine ⟨⟨by omega, hl.on hb, Xd, fun k => (Xr k ∨ w.heap.size ≤ k) ∧ k < w1.heap.size, h1.kept hb fun k hk hz => ho.block k hk fun e => ?_, hr.wide (fun k hk hz => ⟨hz, hk⟩), fun k hz e => ?_, fun k hk => by have := h4 k hk; omega, fun k hk => ⟨hXB k hk.1, hk.2⟩, fun k hk => ?_⟩, hb, fun k hk => ho.block k (h6 k hk).1 fun e => ?_⟩
  · rcases e with e | e
    · exact h3 k hz e
    · have := h4 k hz; omega
  · rcases e.1 with e | e
    · exact h3 k hz e
    · have := h4 k hz; omega
  · obtain ⟨g1, g2, g3⟩ := h6 k hk
    refine ⟨by omega, g2, fun e => ?_⟩
    rcases e.1 with e | e
    · exact g3 e
    · omega
  · obtain ⟨g1, _, g3⟩ := h6 k hk
    rcases e with e | e
    · exact g3 e
    · omega
end Go.Proofs.YtckmjmpajbjbkaaGreatDoor
/- Calls of the program's side, of the document's side, beside the other. -/
namespace Go.Proofs.YtckmjmpajbjbkaaGreatDoor
open Go.RowKit

def Went (B : Nat) (N : Nat → Prop) (w : World) (a c : Nat) (sd : St) (od : Option (Nat × Lg)) (sr : St) (or : Option (Nat × Lg)) (w1 : World) : Prop :=
  Duo B N w1 a c sd od sr or ∧ Below B w w1 ∧ ∀ k, N k → w1.heap[k]? = w.heap[k]?
def pv (o : Option (Nat × Lg)) : Value := .pointer (o.map fun x => ⟨x.1, 0, none⟩)
theorem LgOK.ne {g : Lg} (h : LgOK g) : g.segs = [] → g.safe = g.next := fun e => (h.none e).trans (by rw [Lg.next, e]; rfl)

theorem duo_open {B : Nat} {N : Nat → Prop} {w : World} {a c : Nat} {sd sr : St} {od or : Option (Nat × Lg)} (h : Duo B N w a c sd od sr or) (hst : sd.steps < 4611686018427387000) (f size : Int) :
    Calls Tryz.prog 13 #[.pointer (some ⟨a, 0, none⟩), .int .i64 f, .int .i64 size] w fun e w1 => ∃ o1, e = .returned (.tuple #[pv o1, .int .i64 (openR sd f size).1]) ∧ o1.map (·.2) = (openR sd f size).2.2 ∧ Went B N w a c (openR sd f size).2.1 o1 sr or w1 ∧ ∀ l g, o1 = some (l, g) → LgOK g := by
  have hb := h.base
  have hl := h.lib
  obtain ⟨X, x1, x2, x3, x4⟩ := h.prog
  refine (open_any B w X a sd hb hl x3 x2 x1.disk hst f size).mono ?_
  rintro e w1 ⟨ho, ⟨h1, rfl, h2⟩ | ⟨l, g, h1, rfl, h2⟩⟩
  · exact ⟨none, rfl, h1.symm, x4 w1 _ none h2 ho, fun _ _ e => by cases e⟩
  · refine ⟨some (l, g), rfl, h1.symm, x4 w1 _ (some (l, g)) h2 ho, fun l' g' e => ?_⟩
    simp only [Option.some.injEq, Prod.mk.injEq] at e
    obtain ⟨rfl, rfl⟩ := e
    obtain ⟨p, cap, es, h3⟩ := h2
    exact openR_lok h1 h3.ok
theorem duo_gopen {B : Nat} {N : Nat → Prop} {w : World} {a c : Nat} {sd sr : St} {od or : Option (Nat × Lg)} (h : Duo B N w a c sd od sr or) (hok : OKs sr) (hst : sr.steps < 4611686018427387000) (f size : Int) (hok' : OKs (openR sr f size).2.1) :
    Calls Tryz.prog 32 #[.pointer (some ⟨c, 0, none⟩), .int .i64 f, .int .i64 size] w fun e w1 => ∃ o1, e = .returned (.tuple #[pv o1, .int .i64 (openR sr f size).1]) ∧ o1.map (·.2) = (openR sr f size).2.2 ∧ Went B N w a c sd od (openR sr f size).2.1 o1 w1 := by
  obtain ⟨X, x1, x2, x3, x4⟩ := h.doc
  obtain ⟨v, hv⟩ := x1.ref
  refine (gopen_any w X c sr v x2 hv hok hst f size).mono ?_
  rintro e w1 ⟨ho, ⟨h1, rfl, h2⟩ | ⟨l, g, h1, rfl, h2⟩⟩
  · exact ⟨none, rfl, h1.symm, x4 w1 _ none ⟨hok', h2⟩ ho⟩
  · exact ⟨some (l, g), rfl, h1.symm, x4 w1 _ (some (l, g)) h2 ho⟩
theorem duo_arm {B : Nat} {N : Nat → Prop} {w : World} {a c : Nat} {sd sr : St} {od or : Option (Nat × Lg)} (h : Duo B N w a c sd od sr or) (n : Int) (hn : n ≤ 9223372036854775807) :
    Calls Tryz.prog 14 #[.pointer (some ⟨a, 0, none⟩), .int .i64 n] w fun e w1 => e = .returned (.int .i64 (armR sd n).1) ∧ Went B N w a c (armR sd n).2 od sr or w1 := by
  obtain ⟨X, x1, x2, x3, x4⟩ := h.prog
  obtain ⟨Z, z1, z2, z3⟩ := x1.step x2
  refine (arm_any w Z a sd n hn z1).mono ?_
  rintro e w1 ⟨rfl, h1, ho⟩
  obtain ⟨y1, y2⟩ := z3 w1 _ h1 ho
  exact ⟨rfl, x4 w1 _ od y1 y2⟩
theorem duo_garm {B : Nat} {N : Nat → Prop} {w : World} {a c : Nat} {sd sr : St} {od or : Option (Nat × Lg)} (h : Duo B N w a c sd od sr or) (n : Int) (hok' : OKs (armR sr n).2) :
    Calls Tryz.prog 33 #[.pointer (some ⟨c, 0, none⟩), .int .i64 n] w fun e w1 => e = .returned (.int .i64 (armR sr n).1) ∧ Went B N w a c sd od (armR sr n).2 or w1 := by
  obtain ⟨X, x1, x2, x3, x4⟩ := h.doc
  obtain ⟨Z, v, z1, z2, z3⟩ := x1.step x2
  refine (rarm_any w Z c sr v n z1).mono ?_
  rintro e w1 ⟨rfl, h1, ho⟩
  obtain ⟨y1, y2⟩ := z3 w1 _ ⟨v, h1⟩ hok' ho
  exact ⟨rfl, x4 w1 _ or y1 y2⟩
theorem duo_crash {B : Nat} {N : Nat → Prop} {w : World} {a c : Nat} {sd sr : St} {od or : Option (Nat × Lg)} (h : Duo B N w a c sd od sr or) (kp : Option Addr) (kc : Nat) (ks : List Int) (hk : Ints w kp ks) (hcap : ks.length ≤ kc) (hkl : ks.length ≤ 2147483648) :
    Calls Tryz.prog 15 #[.pointer (some ⟨a, 0, none⟩), .slice kp ks.length kc] w fun e w1 => e = .returned (.tuple #[]) ∧ Went B N w a c (crashR sd ks) none sr or w1 := by
  obtain ⟨X, x1, x2, x3, x4⟩ := h.prog
  refine (crash_any w X a sd kp kc ks x1.disk hk hcap hkl).mono ?_
  rintro e w1 ⟨rfl, h1, ho⟩
  exact ⟨rfl, x4 w1 _ none h1 ho⟩
theorem duo_gcrash {B : Nat} {N : Nat → Prop} {w : World} {a c : Nat} {sd sr : St} {od or : Option (Nat × Lg)} (h : Duo B N w a c sd od sr or) (hok : OKs sr) (kp : Option Addr) (kc : Nat) (ks : List Int) (hk : Ints w kp ks) (hkl : ks.length ≤ 2147483648) (hlow : 0 < ks.length → ∀ b off, kp = some ⟨b, off, none⟩ → b < B) (hok' : OKs (crashR sr ks)) :
    Calls Tryz.prog 34 #[.pointer (some ⟨c, 0, none⟩), .slice kp ks.length kc] w fun e w1 => e = .returned (.tuple #[]) ∧ Went B N w a c sd od (crashR sr ks) none w1 := by
  obtain ⟨X, x1, x2, x3, x4⟩ := h.doc
  obtain ⟨v, hv⟩ := x1.ref
  refine (rcrash_any w X c sr v kp kc ks hv hok.files hk hkl (fun h0 b off e hx => by have h1 := hlow h0 b off e; have h2 := x3 b hx; omega) x2).mono ?_
  rintro e w1 ⟨rfl, h1, ho⟩
  exact ⟨rfl, x4 w1 _ none ⟨hok', h1⟩ ho⟩
theorem duo_append {B : Nat} {N : Nat → Prop} {w : World} {a c l : Nat} {g : Lg} {sd sr : St} {or : Option (Nat × Lg)} (h : Duo B N w a c sd (some (l, g)) sr or) (hg : LgOK g) (hst : sd.steps < 4611686018427387000) (d : ByteArray) (hd : d.size ≤ 1099511627776) :
    Calls Tryz.prog 19 #[.pointer (some ⟨l, 0, none⟩), .string d] w fun e w1 => e = .returned (.tuple #[.int .i64 (appendL sd g d.data.toList).1.1, .int .i64 (appendL sd g d.data.toList).1.2]) ∧ Went B N w a c (appendL sd g d.data.toList).2.1 (some (l, (appendL sd g d.data.toList).2.2)) sr or w1 := by
  obtain ⟨X, x1, x2, x3, x4⟩ := h.prog
  refine (lappend_any B w X l a sd g x1 hg.ne x2 hst d hd).mono ?_
  rintro e w1 ⟨rfl, h1, ho⟩
  exact ⟨rfl, x4 w1 _ (some (l, _)) h1 ho⟩
theorem duo_gappend {B : Nat} {N : Nat → Prop} {w : World} {a c l : Nat} {g : Lg} {sd sr : St} {od : Option (Nat × Lg)} (h : Duo B N w a c sd od sr (some (l, g))) (hg : LgOK g) (hst : sr.steps < 4611686018427387000) (d : ByteArray) (hd : d.size ≤ 1099511627776) :
    Calls Tryz.prog 35 #[.pointer (some ⟨l, 0, none⟩), .string d] w fun e w1 => e = .returned (.tuple #[.int .i64 (appendL sr g d.data.toList).1.1, .int .i64 (appendL sr g d.data.toList).1.2]) ∧ Went B N w a c sd od (appendL sr g d.data.toList).2.1 (some (l, (appendL sr g d.data.toList).2.2)) w1 := by
  obtain ⟨X, x1, x2, x3, x4⟩ := h.doc
  refine (gappend_any w X l c sr g x1 hg.ne hg.safe x2 hst d hd).mono ?_
  rintro e w1 ⟨rfl, h1, ho⟩
  exact ⟨rfl, x4 w1 _ (some (l, _)) h1 ho⟩
theorem duo_sync {B : Nat} {N : Nat → Prop} {w : World} {a c l : Nat} {g : Lg} {sd sr : St} {or : Option (Nat × Lg)} (h : Duo B N w a c sd (some (l, g)) sr or) (hg : LgOK g) (hst : sd.steps < 4611686018427387000) :
    Calls Tryz.prog 36 #[.pointer (some ⟨l, 0, none⟩)] w fun e w1 => e = .returned (.int .i64 (syncL sd g).1) ∧ Went B N w a c (syncL sd g).2.1 (some (l, (syncL sd g).2.2)) sr or w1 := by
  obtain ⟨X, x1, x2, x3, x4⟩ := h.prog
  refine (lsync_any B w X l a sd g x1 hg.ne x2 (by omega)).mono ?_
  rintro e w1 ⟨rfl, h1, ho⟩
  exact ⟨rfl, x4 w1 _ (some (l, _)) h1 ho⟩
theorem duo_gsync {B : Nat} {N : Nat → Prop} {w : World} {a c l : Nat} {g : Lg} {sd sr : St} {od : Option (Nat × Lg)} (h : Duo B N w a c sd od sr (some (l, g))) (hg : LgOK g) (hst : sr.steps < 4611686018427387000) :
    Calls Tryz.prog 37 #[.pointer (some ⟨l, 0, none⟩)] w fun e w1 => e = .returned (.int .i64 (syncL sr g).1) ∧ Went B N w a c sd od (syncL sr g).2.1 (some (l, (syncL sr g).2.2)) w1 := by
  obtain ⟨X, x1, x2, x3, x4⟩ := h.doc
  refine (gsync_any w X l c sr g x1 hg.ne hg.safe x2 (by omega)).mono ?_
  rintro e w1 ⟨rfl, h1, ho⟩
  exact ⟨rfl, x4 w1 _ (some (l, _)) h1 ho⟩
theorem duo_trunc {B : Nat} {N : Nat → Prop} {w : World} {a c l : Nat} {g : Lg} {sd sr : St} {or : Option (Nat × Lg)} (h : Duo B N w a c sd (some (l, g)) sr or) (hg : LgOK g) (hst : sd.steps < 4611680000000000000) (P : Int) :
    Calls Tryz.prog 39 #[.pointer (some ⟨l, 0, none⟩), .int .i64 P] w fun e w1 => e = .returned (.int .i64 (truncL sd g P).1) ∧ Went B N w a c (truncL sd g P).2.1 (some (l, (truncL sd g P).2.2)) sr or w1 ∧ LgOK (truncL sd g P).2.2 := by
  obtain ⟨X, x1, x2, x3, x4⟩ := h.prog
  refine (ltrunc_any B w X l a sd g x1 x2 hst P).mono ?_
  rintro e w1 ⟨rfl, h1, ho⟩
  refine ⟨rfl, x4 w1 _ (some (l, _)) h1 ho, ?_⟩
  obtain ⟨p, cap, es, h3⟩ := h1
  exact truncL_ok hg h3.ok
theorem duo_gtrunc {B : Nat} {N : Nat → Prop} {w : World} {a c l : Nat} {g : Lg} {sd sr : St} {od : Option (Nat × Lg)} (h : Duo B N w a c sd od sr (some (l, g))) (hst : sr.steps < 4611680000000000000) (P : Int) :
    Calls Tryz.prog 40 #[.pointer (some ⟨l, 0, none⟩), .int .i64 P] w fun e w1 => e = .returned (.int .i64 (truncL sr g P).1) ∧ Went B N w a c sd od (truncL sr g P).2.1 (some (l, (truncL sr g P).2.2)) w1 := by
  obtain ⟨X, x1, x2, x3, x4⟩ := h.doc
  refine (gtrunc_any w X l c sr g x1 x2 hst P).mono ?_
  rintro e w1 ⟨rfl, h1, ho⟩
  exact ⟨rfl, x4 w1 _ (some (l, _)) h1 ho⟩
theorem Duo.log {B : Nat} {N : Nat → Prop} {w : World} {a c l : Nat} {g : Lg} {sd sr : St} {or : Option (Nat × Lg)} (h : Duo B N w a c sd (some (l, g)) sr or) : ∃ Y p cap es, LogAt w Y l a g p cap es ∧ LgW g := by
  obtain ⟨_, _, Xd, Xr, ⟨p, cap, es, h1⟩, _⟩ := h
  obtain ⟨Y, h2⟩ := h1.at
  exact ⟨Y, p, cap, es, h2, h1.ok⟩
theorem Duo.glog {B : Nat} {N : Nat → Prop} {w : World} {a c l : Nat} {g : Lg} {sd sr : St} {od : Option (Nat × Lg)} (h : Duo B N w a c sd od sr (some (l, g))) : ∃ Y v2 v4, GAt w Y l c g v2 v4 ∧ LgW g := by
  obtain ⟨_, _, Xd, Xr, _, ⟨v, v2, v4, h1⟩, _⟩ := h
  obtain ⟨Y, h2⟩ := h1.at
  exact ⟨Y, v2, v4, h2, h1.ok⟩
theorem Duo.isdisk {B : Nat} {N : Nat → Prop} {w : World} {a c : Nat} {sd sr : St} {od or : Option (Nat × Lg)} (h : Duo B N w a c sd od sr or) : ∃ Z, IsDisk w Z a sd := by
  obtain ⟨_, _, Xd, Xr, h1, _⟩ := h
  exact ⟨Xd, h1.disk⟩
theorem Duo.isref {B : Nat} {N : Nat → Prop} {w : World} {a c : Nat} {sd sr : St} {od or : Option (Nat × Lg)} (h : Duo B N w a c sd od sr or) : ∃ Z v, RefAt w Z c sr v := by
  obtain ⟨_, _, Xd, Xr, _, h1, _⟩ := h
  obtain ⟨v, h2⟩ := h1.ref
  exact ⟨Xr, v, h2⟩
end Go.Proofs.YtckmjmpajbjbkaaGreatDoor
/- The laws' functions of layer 6: same, looks. -/
namespace Go.Proofs.YtckmjmpajbjbkaaGreatDoor
open Go.RowKit

set_option maxHeartbeats 4000000 in
set_option maxRecDepth 100000 in
theorem same6_eq (v v' : Value) (l : Fs) (B B' : Nat) (w : World) (hl : l.length ≤ 2147483648) (hr : w.ownsRow B 65 3 v l.length (fc l)) (hr' : w.ownsRow B' 65 3 v' l.length (fc l)) :
    Calls Tryz.prog 42 #[v, v'] w fun e w' => e = .returned (.bool true) ∧ Below w.heap.size w w' := by
  obtain ⟨p, cap, rfl⟩ := own_form hr
  obtain ⟨p', cap', rfl⟩ := own_form hr'
  have HR : Hid (w.ownsRow B 65 3 (.slice p l.length cap) l.length (fc l)) := hr
  have HR' : Hid (w.ownsRow B' 65 3 (.slice p' l.length cap') l.length (fc l)) := hr'
  clear hr hr'
  have hb0 : ((l.length : Int) != (l.length : Int)) = false := by simp
  go_enter Tryz.func42, Tryz.ntmps42
  go_wp2
  go_loopw [5] (fun i wr => ∃ k : Nat, k ≤ l.length ∧ i = .int .i64 k ∧ Below w.heap.size w wr) (fun i _ => l.length - (intOf i).toNat)
  case atStart => exact ⟨0, Nat.zero_le _, rfl, Below.refl _ _⟩
  case round =>
    obtain ⟨k, hk, rfl, hb⟩ := hrel
    have HB : Hid (Below w.heap.size w wr) := hb
    by_cases hlt : k < l.length
    · obtain ⟨g, rfl, c0, c1, c2⟩ := row_at HR.out hlt
      obtain ⟨g', rfl, p0, p1, p2⟩ := row_at HR'.out hlt
      have d0 := cell_later hb c0
      have d1 := cell_later hb c1
      have d2 := cell_later hb c2
      have q0 := cell_later hb p0
      have q1 := cell_later hb p1
      have q2 := cell_later hb p2
      obtain ⟨x, hx⟩ : ∃ x : ByteArray, (⟨(l[k]).1.toArray⟩ : ByteArray) = x := ⟨_, rfl⟩
      obtain ⟨y, hy⟩ : ∃ y : ByteArray, (⟨(l[k]).2.1.toArray⟩ : ByteArray) = y := ⟨_, rfl⟩
      obtain ⟨z, hz⟩ : ∃ z : Int, ((l[k]).2.2 : Int) = z := ⟨_, rfl⟩
      rw [hx] at d0 q0
      rw [hy] at d1 q1
      rw [hz] at d2 q2
      clear c0 c1 c2 p0 p1 p2 hx hy hz hb
      have hlti : (k : Int) < (l.length : Int) := by omega
      go_wp2
      go_quiet (fail)
      go_wp2
      go_roundw
      case rel => exact ⟨k + 1, by omega, by go_num, below_drewN HB.out _⟩
      case measure => simp [intOf]; omega
    · have hk' : k = l.length := by omega
      subst hk'
      go_wp2
      go_ret
      exact ⟨rfl, HB.out⟩

theorem own_keepU {w w' : World} {B : Nat} {e : TypeId} {size : Nat} {v : Value} {n : Nat} {xs : List Value} (h : w.ownsRow B e size v n xs) (hb : Below w.heap.size w w') : w'.ownsRow B e size v n xs := by
  have hl := h.lt
  obtain ⟨h1, h2 | ⟨g, cap, cur, rfl, a, b, c⟩⟩ := h
  · exact ⟨h1, Or.inl h2⟩
  · exact ⟨h1, Or.inr ⟨g, cap, cur, rfl, a, (hb.block g (hl g rfl).2).trans b, c⟩⟩
def oD : Option (Nat × Nat × Lg) → Option (Nat × Lg)
  | none => none
  | some (l, _, g) => some (l, g)
def oR : Option (Nat × Nat × Lg) → Option (Nat × Lg)
  | none => none
  | some (_, r, g) => some (r, g)
/-- A pair in memory: both sides are in the same state. -/
structure PairAt (B : Nat) (w : World) (p a c : Nat) (st : St) (o : Option (Nat × Nat × Lg)) : Prop where
  cells : w.heap[p]? = some (.cells #[.pointer (some ⟨a, 0, none⟩), .pointer (some ⟨c, 0, none⟩), pv (oD o), pv (oR o)] 37 (0, 0))
  low : B ≤ p
  duo : Duo B (fun k => k = p) w a c st (oD o) st (oR o)
  ok : ∀ l r g, o = some (l, r, g) → LgOK g
structure PCells (w : World) (p a c : Nat) (u v : Value) : Prop where
  c0 : w.cell? ⟨p, 0, none⟩ = some (.pointer (some ⟨a, 0, none⟩))
  c1 : w.cell? ⟨p, 1, none⟩ = some (.pointer (some ⟨c, 0, none⟩))
  c2 : w.cell? ⟨p, 2, none⟩ = some u
  c3 : w.cell? ⟨p, 3, none⟩ = some v
  fz : ∀ o, w.frozen? ⟨p, o, none⟩ = false
theorem pcells {w : World} {p a c : Nat} {u v : Value} (e : w.heap[p]? = some (.cells #[.pointer (some ⟨a, 0, none⟩), .pointer (some ⟨c, 0, none⟩), u, v] 37 (0, 0))) : PCells w p a c u v := by
  refine ⟨?_, ?_, ?_, ?_, fun o => ?_⟩ <;> simp [World.cell?, World.frozen?, e]
theorem PairAt.lt {B : Nat} {w : World} {p a c : Nat} {st : St} {o : Option (Nat × Nat × Lg)} (h : PairAt B w p a c st o) : p < w.heap.size := (Array.getElem?_eq_some_iff.1 h.cells).1

set_option maxHeartbeats 8000000 in
set_option maxRecDepth 100000 in
theorem looks6_any (B : Nat) (w : World) (p a c : Nat) (st : St) (o : Option (Nat × Nat × Lg)) (h : PairAt B w p a c st o) :
    Calls Tryz.prog 12 #[.pointer (some ⟨p, 0, none⟩)] w fun e w' => e = .returned (.bool true) ∧ Below w.heap.size w w' := by
  have hok := h.duo.ok
  have hfew := hok.files.few
  obtain ⟨Zd, hd⟩ := h.duo.isdisk
  obtain ⟨Zr, v0, hr⟩ := h.duo.isref
  have HD : Hid (IsDisk w Zd a st) := hd
  have HR : Hid (RefAt w Zr c st v0) := hr
  have HDU : Hid (Duo B (fun k => k = p) w a c st (oD o) st (oR o)) := h.duo
  have HP : Hid (∀ w', Below w.heap.size w w' → PCells w' p a c (pv (oD o)) (pv (oR o))) := fun w' hb => pcells ((hb.block p h.lt).trans h.cells)
  have p0 := (HP.out w (Below.refl _ _)).c0
  clear hd hr h
  go_enter Tryz.func12, Tryz.ntmps12
  go_wp2_with fail
  refine (files_any w Zd a st HD.out).mono ?_
  rintro e w1 ⟨v, rfl, hown1, hb1⟩
  have HB1 : Hid (Below w.heap.size w w1) := hb1
  have HO1 : Hid (w1.ownsRow w.heap.size 65 3 v st.fs.length (fc st.fs)) := hown1
  have p1 := (HP.out w1 hb1).c1
  clear hown1 hb1 p0
  go_wp2_with fail
  refine (rfiles_any w1 Zr c st v0 (HR.out.later HB1.out)).mono ?_
  rintro e w2 ⟨v', rfl, hown2, hb2⟩
  have HO2 : Hid (w2.ownsRow w1.heap.size 65 3 v' st.fs.length (fc st.fs)) := hown2
  have HO3 : Hid (w2.ownsRow w.heap.size 65 3 v st.fs.length (fc st.fs)) := own_keepU HO1.out hb2
  have HB2 : Hid (Below w.heap.size w w2) := HB1.out.trans (hb2.mono HB1.out.size)
  clear hown2 hb2 p1 HO1
  go_wp2_with fail
  refine (same6_eq v v' st.fs _ _ w2 (by omega) HO3.out HO2.out).mono ?_
  rintro e w3 ⟨rfl, hb3⟩
  have HB3 : Hid (Below w.heap.size w w3) := HB2.out.trans (hb3.mono HB2.out.size)
  have p0 := (HP.out w3 HB3.out).c0
  clear hb3 HO2 HO3
  go_wp2_with fail
  refine (steps_any w3 Zd a st (HD.out.later HB3.out)).mono ?_
  rintro e w4 ⟨rfl, hw4⟩
  have hw4' := hw4.symm
  subst hw4'
  clear hw4
  go_wp2_with fail
  refine (down_any w3 Zd a st (HD.out.later HB3.out)).mono ?_
  rintro e w5 ⟨rfl, hw5⟩
  have hw5' := hw5.symm
  subst hw5'
  clear hw5
  have p1 := (HP.out w3 HB3.out).c1
  have p2 := (HP.out w3 HB3.out).c2
  obtain ⟨_, _, _, r3, r4, _⟩ := rcell5 (HR.out.later HB3.out).cells
  match o with
  | none =>
    simp only [oD, pv, Option.map_none] at p2
    clear HDU HP
    go_wp2
    go_ret
    exact ⟨rfl, HB3.out⟩
  | some (l, r, g) =>
    simp only [oD, pv, Option.map_some] at p2
    obtain ⟨Y, q, cap, es, hL, hG⟩ := HDU.out.log
    obtain ⟨Y', v2, v4, hL', _⟩ := HDU.out.glog
    have HL : Hid (LogAt w Y l a g q cap es) := hL
    have HL' : Hid (GAt w Y' r c g v2 v4) := hL'
    have HG : Hid (LgW g) := hG
    clear hL hL' hG HDU
    go_wp2_with fail
    refine (base_any w3 Y l a g q cap es (HL.out.later HB3.out) HG.out).mono ?_
    rintro e w6 ⟨rfl, hb6⟩
    have HB6 : Hid (Below w.heap.size w w6) := HB3.out.trans (hb6.mono HB3.out.size)
    have p2 := (HP.out w6 HB6.out).c2
    simp only [oD, pv, Option.map_some] at p2
    clear hb6 r3 r4 p0 p1
    go_wp2_with fail
    refine (next_any w6 Y l a g q cap es (HL.out.later HB6.out) HG.out).mono ?_
    rintro e w7 ⟨rfl, hb7⟩
    have HB7 : Hid (Below w.heap.size w w7) := HB6.out.trans (hb7.mono HB6.out.size)
    have p2 := (HP.out w7 HB7.out).c2
    simp only [oD, pv, Option.map_some] at p2
    clear hb7
    go_wp2_with fail
    refine (safe_any w7 Y l a g q cap es (HL.out.later HB7.out)).mono ?_
    rintro e w8 ⟨rfl, hb8⟩
    have HB8 : Hid (Below w.heap.size w w8) := HB7.out.trans (hb8.mono HB7.out.size)
    have p3 := (HP.out w8 HB8.out).c3
    simp only [oR, pv, Option.map_some] at p3
    clear hb8 p2
    go_wp2_with fail
    refine (gbase_any w8 Y' r c g v2 v4 (HL'.out.later HB8.out) HG.out).mono ?_
    rintro e w9 ⟨rfl, hw9⟩
    have hw9' := hw9.symm
    subst hw9'
    clear hw9
    go_wp2_with fail
    refine (gnext_any w8 Y' r c g v2 v4 (HL'.out.later HB8.out) HG.out).mono ?_
    rintro e wa ⟨rfl, hba⟩
    have HBa : Hid (Below w.heap.size w wa) := HB8.out.trans (hba.mono HB8.out.size)
    have p3 := (HP.out wa HBa.out).c3
    have q5 := (HL'.out.later HBa.out).gc.c5
    simp only [oR, pv, Option.map_some] at p3
    clear hba
    obtain ⟨b1, hb1⟩ : ∃ b1, g.base = b1 := ⟨_, rfl⟩
    obtain ⟨n1, hn1⟩ : ∃ n1, g.next = n1 := ⟨_, rfl⟩
    obtain ⟨s1, hs1⟩ : ∃ s1, g.safe = s1 := ⟨_, rfl⟩
    rw [hs1] at q5
    rw [hb1, hn1, hs1]
    clear hb1 hn1 hs1
    go_wp2
    go_ret
    exact ⟨rfl, HBa.out⟩
end Go.Proofs.YtckmjmpajbjbkaaGreatDoor
/- weighs of layer 6, over files and a script (written by mkweigh6.py). -/
namespace Go.Proofs.YtckmjmpajbjbkaaGreatDoor
open Go.RowKit

def FSm (f : FV) : Prop := f.1.size ≤ 2147483647 ∧ f.2.1.size ≤ 2147483647

set_option maxHeartbeats 8000000 in
set_option maxRecDepth 100000 in
theorem weighs6f_any (w : World) (p : Option Addr) (cap : Nat) (l : List FV) (q : Option Addr) (cap' : Nat) (s : List OpW) (hl : l.length + s.length ≤ 9223372036854775807) (hp : FRow w p l) (hq : ORow6 w q s) (hf : ∀ f ∈ l, f.1.size ≤ 140737488351232 ∧ f.2.1.size ≤ 140737488351232) :
    Calls Tryz.prog 7 #[.slice p l.length cap, .slice q s.length cap'] w fun e w' => ∃ m : Nat, e = .returned (.int .i64 (m : Int)) ∧ (m ≤ 2147483647 → l.length + s.length ≤ 2147483647 ∧ (∀ f ∈ l, FSm f) ∧ ∀ x ∈ s, Sm x) ∧ Below w.heap.size w w' := by
  have HP : Hid (FRow w p l) := hp
  have HQ : Hid (ORow6 w q s) := hq
  have HF : Hid (∀ f ∈ l, f.1.size ≤ 140737488351232 ∧ f.2.1.size ≤ 140737488351232) := hf
  clear hp hq hf
  go_enter Tryz.func7, Tryz.ntmps7
  go_wp2
  go_loopw [5, 6] (fun z i wr => ∃ (k m : Nat), k ≤ l.length ∧ i = .int .i64 k ∧ z = .int .i64 (m : Int) ∧ m ≤ 9223372036854775807 ∧ l.length + s.length ≤ m ∧ (m ≤ 2147483647 → ∀ j (h : j < l.length), j < k → FSm l[j]) ∧ Below w.heap.size w wr) (fun _ i _ => l.length - (intOf i).toNat)
  case atStart => exact ⟨0, l.length + s.length, Nat.zero_le _, rfl, by first | rfl | go_num, hl, Nat.le_refl _, fun _ j _ h => absurd h (Nat.not_lt_zero _), Below.refl _ _⟩
  case round =>
    obtain ⟨k, m, hk, rfl, rfl, hm, hlm, hall, hb⟩ := hrel
    have HA : Hid (m ≤ 2147483647 → ∀ j (h : j < l.length), j < k → FSm l[j]) := hall
    have HLM : Hid (l.length + s.length ≤ m) := hlm
    have HB : Hid (Below w.heap.size w wr) := hb
    clear hall hlm hb
    by_cases hin : k < l.length ∧ m ≤ 2147483647
    · obtain ⟨hlt, hm1⟩ := hin
      have hlti : (k : Int) < (l.length : Int) := by omega
      have hm1i : (m : Int) ≤ 2147483647 := by omega
      obtain ⟨b, off, rfl, d0, d1, d2⟩ := (HP.out.later HB.out) k hlt
      have hsz := HF.out (l[k]) (List.getElem_mem hlt)
      obtain ⟨nm, dt, sf, hf⟩ : ∃ nm dt sf, l[k] = (nm, dt, sf) := ⟨_, _, _, rfl⟩
      rw [hf] at d0 d1 d2 hsz
      simp only at d0 d1 d2 hsz
      obtain ⟨hz1, hz2⟩ := hsz
      have HX : Hid (∀ h : k < l.length, l[k]'h = (nm, dt, sf)) := fun _ => hf
      have HLT : Hid (k < l.length) := hlt
      obtain ⟨E, hE⟩ : ∃ E, m + dt.size = E := ⟨_, rfl⟩
      have hEi : (m : Int) + (dt.size : Int) = (E : Int) := by omega
      obtain ⟨G, hG⟩ : ∃ G, E + nm.size = G := ⟨_, rfl⟩
      have hGi : (E : Int) + (nm.size : Int) = (G : Int) := by omega
      have HE : Hid (m + dt.size + nm.size = G) := by
        have : m + dt.size + nm.size = G := by omega
        exact this
      have hE2 : E ≤ 281474976710656 := by omega
      have hG2 : G ≤ 562949953421312 := by omega
      clear hf hE hG
      go_wp2
      go_quiet (fail)
      go_wp2
      go_roundw
      case rel =>
        refine ⟨k + 1, G, HLT.out, by go_num, rfl, by omega, by have := HLM.out; have := HE.out; omega, fun hGs j h hj => ?_, belowN HB.out _⟩
        by_cases e : j = k
        · subst e
          rw [HX.out]
          have h1 := HE.out
          exact ⟨by show nm.size ≤ 2147483647; omega, by show dt.size ≤ 2147483647; omega⟩
        · exact HA.out hm1 j h (by omega)
      case measure => have := HLT.out; simp [intOf]; omega
    · by_cases hl3 : k < l.length
      · have hl3i : (k : Int) < (l.length : Int) := by omega
        have hbi : ¬ (m : Int) ≤ 2147483647 := by omega
        have HALL : Hid (m ≤ 2147483647 → ∀ f ∈ l, FSm f) := fun h => by omega
        go_wp2
        go_loopw [5, 7] (fun z i wx => ∃ (k m : Nat), k ≤ s.length ∧ i = .int .i64 k ∧ z = .int .i64 (m : Int) ∧ m ≤ 9223372036854775807 ∧ l.length + s.length ≤ m ∧ (m ≤ 2147483647 → (∀ f ∈ l, FSm f) ∧ ∀ j (h : j < s.length), j < k → Sm s[j]) ∧ Below w.heap.size w wx) (fun _ i _ => s.length - (intOf i).toNat)
        case atStart => exact ⟨0, m, Nat.zero_le _, rfl, rfl, hm, HLM.out, fun h => ⟨HALL.out h, fun j _ h => absurd h (Nat.not_lt_zero _)⟩, HB.out⟩
        case round =>
          clear HALL HLM HB HA
          obtain ⟨k, m, hk, rfl, rfl, hm, hlm, hall, hb⟩ := hrel
          have HA : Hid (m ≤ 2147483647 → (∀ f ∈ l, FSm f) ∧ ∀ j (h : j < s.length), j < k → Sm s[j]) := hall
          have HLM : Hid (l.length + s.length ≤ m) := hlm
          have HB : Hid (Below w.heap.size w wr) := hb
          clear hall hlm hb
          by_cases hin : k < s.length ∧ m ≤ 2147483647
          · obtain ⟨hlt, hm1⟩ := hin
            have hlti : (k : Int) < (s.length : Int) := by omega
            have hm1i : (m : Int) ≤ 2147483647 := by omega
            obtain ⟨b, off, rfl, hop⟩ := (HQ.out.later HB.out) k hlt
            obtain ⟨x, hx⟩ : ∃ x, s[k] = x := ⟨_, rfl⟩
            rw [hx] at hop
            have d1 := hop.c1
            have d4 := hop.c4
            have hdb := hop.db
            have hkb := hop.kb
            obtain ⟨D, hD⟩ : ∃ D, x.d = D := ⟨_, rfl⟩
            obtain ⟨K, hK⟩ : ∃ K, x.ks.length = K := ⟨_, rfl⟩
            rw [hD] at d1 hdb
            rw [hK] at d4 hkb
            have HLT : Hid (k < s.length) := hlt
            have HX : Hid (∀ h : k < s.length, s[k]'h = x) := fun _ => hx
            have HDK : Hid (x.d = D ∧ x.ks.length = K) := ⟨hD, hK⟩
            obtain ⟨E, hE⟩ : ∃ E, m + D.size = E := ⟨_, rfl⟩
            have hEi : (m : Int) + (D.size : Int) = (E : Int) := by omega
            obtain ⟨G, hG⟩ : ∃ G, E + K = G := ⟨_, rfl⟩
            have hGi : (E : Int) + (K : Int) = (G : Int) := by omega
            have HE : Hid (m + D.size + K = G) := by
              have : m + D.size + K = G := by omega
              exact this
            have hE2 : E ≤ 281474976710656 := by omega
            have hG2 : G ≤ 562949953421312 := by omega
            clear hop hx hD hK hE hG
            go_wp2
            go_quiet (fail)
            go_wp2
            go_roundw
            case rel =>
              refine ⟨k + 1, G, HLT.out, by go_num, rfl, by omega, by have := HLM.out; have := HE.out; omega, fun hGs => ⟨(HA.out hm1).1, fun j h hj => ?_⟩, belowN HB.out _⟩
              by_cases e : j = k
              · subst e
                rw [HX.out]
                have h1 := HE.out
                exact ⟨by rw [HDK.out.1]; omega, by rw [HDK.out.2]; omega⟩
              · exact (HA.out hm1).2 j h (by omega)
            case measure => have := HLT.out; simp [intOf]; omega
          · by_cases hl4 : k < s.length
            · have hl4i : (k : Int) < (s.length : Int) := by omega
              have hbi4 : ¬ (m : Int) ≤ 2147483647 := by omega
              go_wp2
              go_ret
              exact ⟨m, rfl, fun h => by omega, HB.out⟩
            · have hl4i : ¬ (k : Int) < (s.length : Int) := by omega
              go_wp2
              go_ret
              exact ⟨m, rfl, fun h => ⟨by have := HLM.out; omega, (by first | exact (HA.out h).1 | exact fun _ _ _ hf => (HA.out h).1 _ hf), fun x hx => by obtain ⟨j, hj, rfl⟩ := List.getElem_of_mem hx; exact (HA.out h).2 j hj (by omega)⟩, HB.out⟩
      · have hl3i : ¬ (k : Int) < (l.length : Int) := by omega
        have HALL : Hid (m ≤ 2147483647 → ∀ f ∈ l, FSm f) := fun h f hf => by
          obtain ⟨j, hj, rfl⟩ := List.getElem_of_mem hf
          exact HA.out h j hj (by omega)
        go_wp2
        go_loopw [5, 7] (fun z i wx => ∃ (k m : Nat), k ≤ s.length ∧ i = .int .i64 k ∧ z = .int .i64 (m : Int) ∧ m ≤ 9223372036854775807 ∧ l.length + s.length ≤ m ∧ (m ≤ 2147483647 → (∀ f ∈ l, FSm f) ∧ ∀ j (h : j < s.length), j < k → Sm s[j]) ∧ Below w.heap.size w wx) (fun _ i _ => s.length - (intOf i).toNat)
        case atStart => exact ⟨0, m, Nat.zero_le _, rfl, rfl, hm, HLM.out, fun h => ⟨HALL.out h, fun j _ h => absurd h (Nat.not_lt_zero _)⟩, HB.out⟩
        case round =>
          clear HALL HLM HB HA
          obtain ⟨k, m, hk, rfl, rfl, hm, hlm, hall, hb⟩ := hrel
          have HA : Hid (m ≤ 2147483647 → (∀ f ∈ l, FSm f) ∧ ∀ j (h : j < s.length), j < k → Sm s[j]) := hall
          have HLM : Hid (l.length + s.length ≤ m) := hlm
          have HB : Hid (Below w.heap.size w wr) := hb
          clear hall hlm hb
          by_cases hin : k < s.length ∧ m ≤ 2147483647
          · obtain ⟨hlt, hm1⟩ := hin
            have hlti : (k : Int) < (s.length : Int) := by omega
            have hm1i : (m : Int) ≤ 2147483647 := by omega
            obtain ⟨b, off, rfl, hop⟩ := (HQ.out.later HB.out) k hlt
            obtain ⟨x, hx⟩ : ∃ x, s[k] = x := ⟨_, rfl⟩
            rw [hx] at hop
            have d1 := hop.c1
            have d4 := hop.c4
            have hdb := hop.db
            have hkb := hop.kb
            obtain ⟨D, hD⟩ : ∃ D, x.d = D := ⟨_, rfl⟩
            obtain ⟨K, hK⟩ : ∃ K, x.ks.length = K := ⟨_, rfl⟩
            rw [hD] at d1 hdb
            rw [hK] at d4 hkb
            have HLT : Hid (k < s.length) := hlt
            have HX : Hid (∀ h : k < s.length, s[k]'h = x) := fun _ => hx
            have HDK : Hid (x.d = D ∧ x.ks.length = K) := ⟨hD, hK⟩
            obtain ⟨E, hE⟩ : ∃ E, m + D.size = E := ⟨_, rfl⟩
            have hEi : (m : Int) + (D.size : Int) = (E : Int) := by omega
            obtain ⟨G, hG⟩ : ∃ G, E + K = G := ⟨_, rfl⟩
            have hGi : (E : Int) + (K : Int) = (G : Int) := by omega
            have HE : Hid (m + D.size + K = G) := by
              have : m + D.size + K = G := by omega
              exact this
            have hE2 : E ≤ 281474976710656 := by omega
            have hG2 : G ≤ 562949953421312 := by omega
            clear hop hx hD hK hE hG
            go_wp2
            go_quiet (fail)
            go_wp2
            go_roundw
            case rel =>
              refine ⟨k + 1, G, HLT.out, by go_num, rfl, by omega, by have := HLM.out; have := HE.out; omega, fun hGs => ⟨(HA.out hm1).1, fun j h hj => ?_⟩, belowN HB.out _⟩
              by_cases e : j = k
              · subst e
                rw [HX.out]
                have h1 := HE.out
                exact ⟨by rw [HDK.out.1]; omega, by rw [HDK.out.2]; omega⟩
              · exact (HA.out hm1).2 j h (by omega)
            case measure => have := HLT.out; simp [intOf]; omega
          · by_cases hl4 : k < s.length
            · have hl4i : (k : Int) < (s.length : Int) := by omega
              have hbi4 : ¬ (m : Int) ≤ 2147483647 := by omega
              go_wp2
              go_ret
              exact ⟨m, rfl, fun h => by omega, HB.out⟩
            · have hl4i : ¬ (k : Int) < (s.length : Int) := by omega
              go_wp2
              go_ret
              exact ⟨m, rfl, fun h => ⟨by have := HLM.out; omega, (by first | exact (HA.out h).1 | exact fun _ _ _ hf => (HA.out h).1 _ hf), fun x hx => by obtain ⟨j, hj, rfl⟩ := List.getElem_of_mem hx; exact (HA.out h).2 j hj (by omega)⟩, HB.out⟩
end Go.Proofs.YtckmjmpajbjbkaaGreatDoor
/- plays of layer 6 (written by mkplays6.py). -/
namespace Go.Proofs.YtckmjmpajbjbkaaGreatDoor
open Go.RowKit

def PL6 (B : Nat) (w : World) (p a c : Nat) (st : St) (e : Ending) (w' : World) : Prop :=
  e = .returned (.bool true) ∧ (∃ st' o', PairAt B w' p a c st' o' ∧ st'.steps ≤ st.steps + 100) ∧ Below B w w'
structure Op6Ok (B : Nat) (w : World) (x : OpW) : Prop where
  small : Sm x
  keep : Ints w x.kp x.ks
  cap : x.ks.length ≤ x.kc
  num : x.n ≤ 9223372036854775807
  low : 0 < x.ks.length → ∀ b off, x.kp = some ⟨b, off, none⟩ → b < B
theorem box5 (w : World) (u0 u1 u2 u3 u4 : Value) (t : TypeId) : (w.alloc (.cells #[u0, u1, u2, u3, u4] t)).cell? ⟨w.heap.size, 0, none⟩ = some u0 ∧ (w.alloc (.cells #[u0, u1, u2, u3, u4] t)).cell? ⟨w.heap.size, 1, none⟩ = some u1 ∧ (w.alloc (.cells #[u0, u1, u2, u3, u4] t)).cell? ⟨w.heap.size, 2, none⟩ = some u2 ∧ (w.alloc (.cells #[u0, u1, u2, u3, u4] t)).cell? ⟨w.heap.size, 3, none⟩ = some u3 ∧ (w.alloc (.cells #[u0, u1, u2, u3, u4] t)).cell? ⟨w.heap.size, 4, none⟩ = some u4 := by
  simp
theorem ints_low {B : Nat} {w w' : World} {p : Option Addr} {ks : List Int} (h : Ints w p ks) (hb : Below B w w') (hl : 0 < ks.length → ∀ b off, p = some ⟨b, off, none⟩ → b < B) : Ints w' p ks := fun i hi => by
  obtain ⟨b, off, e, hc⟩ := h i hi
  exact ⟨b, off, e, cell_at (hb.block b (hl (by omega) b off e)) hc⟩
theorem armR_fewU (st : St) (n : Int) : (armR st n).2.steps ≤ st.steps + 1 := by
  unfold armR
  split
  · exact Nat.le_succ _
  · split
    · exact Nat.le_succ _
    · exact Nat.le_succ _
theorem pair_same {B : Nat} {N : Nat → Prop} {w : World} {p a c : Nat} {st : St} {o : Option (Nat × Nat × Lg)} (hd : Duo B N w a c st (oD o) st (oR o)) (hc : w.heap[p]? = some (.cells #[.pointer (some ⟨a, 0, none⟩), .pointer (some ⟨c, 0, none⟩), pv (oD o), pv (oR o)] 37 (0, 0))) (hp : N p) (hB : B ≤ p) (hok : ∀ l r g, o = some (l, r, g) → LgOK g) : PairAt B w p a c st o :=
  ⟨hc, hB, hd.less fun k e => by subst e; exact hp, hok⟩
theorem pair_set {B : Nat} {N : Nat → Prop} {w : World} {p a c : Nat} {st : St} {o : Option (Nat × Nat × Lg)} {u v : Value} (hd : Duo B N w a c st (oD o) st (oR o)) (hc : w.heap[p]? = some (.cells #[.pointer (some ⟨a, 0, none⟩), .pointer (some ⟨c, 0, none⟩), u, v] 37 (0, 0))) (hp : N p) (hB : B ≤ p) (hok : ∀ l r g, o = some (l, r, g) → LgOK g) :
    PairAt B ((w.setCell ⟨p, 2, none⟩ (pv (oD o))).setCell ⟨p, 3, none⟩ (pv (oR o))) p a c st o ∧ Below B w ((w.setCell ⟨p, 2, none⟩ (pv (oD o))).setCell ⟨p, 3, none⟩ (pv (oR o))) := by
  obtain ⟨h1, b1⟩ := hd.wrote (i := 2) hp hB (pv (oD o))
  obtain ⟨h2, b2⟩ := h1.wrote (i := 3) hp hB (pv (oR o))
  refine ⟨pair_same h2 ?_ hp hB hok, b1.trans b2⟩
  rw [heap_setCell_at (heap_setCell_at hc _)]
  simp

set_option maxHeartbeats 8000000 in
set_option maxRecDepth 100000 in
theorem plays6_1 (B : Nat) (w : World) (p a c : Nat) (st : St) (o : Option (Nat × Nat × Lg)) (x : OpW) (h : PairAt B w p a c st o) (hx : Op6Ok B w x) (hst : st.steps < 4611680000000000000) :
    Calls Tryz.prog 11 #[.pointer (some ⟨p, 0, none⟩), .agg #[.int .i64 1, .string x.d, .int .i64 x.n, .int .i64 x.m, .slice x.kp x.ks.length x.kc]] w (PL6 B w p a c st) := by
  obtain ⟨w0, hw0⟩ : ∃ w0, w.alloc (.cells #[.int .i64 1, .string x.d, .int .i64 x.n, .int .i64 x.m, .slice x.kp x.ks.length x.kc] 41) = w0 := ⟨_, rfl⟩
  obtain ⟨d0, d1, d2, d3, d4⟩ := box5 w (.int .i64 1) (.string x.d) (.int .i64 x.n) (.int .i64 x.m) (.slice x.kp x.ks.length x.kc) 41
  have hb0 : Below w.heap.size w w0 := by rw [← hw0]; exact (Below.refl _ _).alloc (Nat.le_refl _) _
  have hsz0 : w0.heap.size = w.heap.size + 1 := by rw [← hw0]; simp
  rw [hw0] at d0 d1 d2 d3 d4
  have hpl := h.lt
  obtain ⟨N, hN⟩ : ∃ N : Nat → Prop, N = (fun k => k = p ∨ (w.heap.size ≤ k ∧ k < w0.heap.size)) := ⟨_, rfl⟩
  have HU : Hid (Duo B N w0 a c st (oD o) st (oR o)) := by rw [hN]; exact h.duo.more hb0
  have HNP : Hid (N p) := by rw [hN]; exact Or.inl rfl
  have HNB : Hid (N w.heap.size) := by rw [hN]; exact Or.inr ⟨Nat.le_refl _, by omega⟩
  have HB0 : Hid (Below B w w0) := hb0.mono h.duo.base
  have HPC : Hid (w0.heap[p]? = some (.cells #[.pointer (some ⟨a, 0, none⟩), .pointer (some ⟨c, 0, none⟩), pv (oD o), pv (oR o)] 37 (0, 0))) := (hb0.block p hpl).trans h.cells
  have HLOW : Hid (B ≤ p) := h.low
  have HOK : Hid (∀ l' r' g', o = some (l', r', g') → LgOK g') := h.ok
  have HST : Hid (st.steps < 4611680000000000000) := hst
  have HX : Hid (Op6Ok B w x) := hx
  obtain ⟨p0, p1, p2, p3, pf⟩ := pcells HPC.out
  clear h hb0 hsz0 hN hpl hx hst
  go_enter Tryz.func11, Tryz.ntmps11
  go_wp2_with fail
  try rw [hw0]
  go_region_held3 (fun w' => w'.cell? ⟨p, 0, none⟩ = some (.pointer (some ⟨a, 0, none⟩)) ∧ w'.cell? ⟨w.heap.size, 2, none⟩ = some (.int .i64 x.n) ∧ w'.cell? ⟨w.heap.size, 3, none⟩ = some (.int .i64 x.m)) (go_simp) (first
    | (go_at_call 13; refine (duo_open (HU.out.later ((Below.refl _ _).drew)) (by have := HST.out; omega) x.n x.m).mono ?_; rintro e w1 ⟨o1, rfl, ho1, hwent, hlok⟩; simp only [pv]; (obtain ⟨z1, hz1⟩ : ∃ z1 : Option Addr, (o1.map fun x => (⟨x.1, 0, none⟩ : Addr)) = z1 := ⟨_, rfl⟩); rw [hz1]; (have q0 := cell_at (hwent.2.2 _ HNP.out) p0); (have q2 := cell_at (hwent.2.2 _ HNB.out) d2); (have q3 := cell_at (hwent.2.2 _ HNB.out) d3); (have q1 := cell_at (hwent.2.2 _ HNP.out) p1)))
  all_goals
    have HU1 : Hid (Duo B N w1 a c (openR st x.n x.m).2.1 o1 st (oR o)) := hwent.1
    have HB1 : Hid (Below B w w1) := (HB0.out.drew).trans hwent.2.1
    have HPC1 : Hid (w1.heap[p]? = some (.cells #[.pointer (some ⟨a, 0, none⟩), .pointer (some ⟨c, 0, none⟩), pv (oD o), pv (oR o)] 37 (0, 0))) := (hwent.2.2 _ HNP.out).trans HPC.out
    have HLK : Hid (∀ l g, o1 = some (l, g) → LgOK g) := hlok
    have HO1 : Hid (o1.map (·.2) = (openR st x.n x.m).2.2) := ho1
    have HZ1 : Hid ((o1.map fun x => (⟨x.1, 0, none⟩ : Addr)) = z1) := hz1
    clear hwent hlok ho1 hz1 p0 p1 p2 p3 pf d0 d1 d2 d3 d4 q0 hw0
    go_wp2_with fail
    go_region_held3 (fun w' => w'.cell? ⟨p, 1, none⟩ = some (.pointer (some ⟨c, 0, none⟩)) ∧ w'.cell? ⟨w.heap.size, 2, none⟩ = some (.int .i64 x.n) ∧ w'.cell? ⟨w.heap.size, 3, none⟩ = some (.int .i64 x.m)) (go_simp) (first
      | (go_at_call 32; refine (duo_gopen (HU1.out.later ((Below.refl _ _).drew)) HU.out.ok (by have := HST.out; omega) x.n x.m HU1.out.ok).mono ?_; rintro e w2 ⟨o2, rfl, ho2, hwent⟩; simp only [pv]; (obtain ⟨z2, hz2⟩ : ∃ z2 : Option Addr, (o2.map fun x => (⟨x.1, 0, none⟩ : Addr)) = z2 := ⟨_, rfl⟩); rw [hz2]; (have s1 := cell_at (hwent.2.2 _ HNP.out) q1); (have s2 := cell_at (hwent.2.2 _ HNB.out) q2); (have s3 := cell_at (hwent.2.2 _ HNB.out) q3)))
    all_goals
      have HU2 : Hid (Duo B N w2 a c (openR st x.n x.m).2.1 o1 (openR st x.n x.m).2.1 o2) := hwent.1
      have HB2 : Hid (Below B w w2) := (HB1.out.drew).trans hwent.2.1
      have HPC2 : Hid (w2.heap[p]? = some (.cells #[.pointer (some ⟨a, 0, none⟩), .pointer (some ⟨c, 0, none⟩), pv (oD o), pv (oR o)] 37 (0, 0))) := (hwent.2.2 _ HNP.out).trans HPC1.out
      have HO2 : Hid (o2.map (·.2) = (openR st x.n x.m).2.2) := ho2
      have HFEW : Hid ((openR st x.n x.m).2.1.steps ≤ st.steps + 100) := by
        have h1 := openR_few st x.n x.m
        have : (openR st x.n x.m).2.1.steps ≤ st.steps + 100 := by omega
        exact this
      have hz1 := HZ1.out
      obtain ⟨t0, t1, t2, t3, tf⟩ := pcells HPC2.out
      have hoo := HO1.out.trans HO2.out.symm
      obtain ⟨E, hE⟩ : ∃ E, (openR st x.n x.m).1 = E := ⟨_, rfl⟩
      rw [hE]
      clear hwent ho2 q1 q2 q3 s1 s2 s3 hE
      rcases o1 with _ | ⟨l, g⟩ <;> rcases o2 with _ | ⟨r, g'⟩
      · simp only [Option.map_none] at hz1 hz2
        subst hz1 hz2
        obtain ⟨r1, r2⟩ := pair_set (o := none) HU2.out HPC2.out HNP.out HLOW.out (fun _ _ _ e => by cases e)
        have HR1 : Hid (PairAt B ((w2.setCell ⟨p, 2, none⟩ (.pointer none)).setCell ⟨p, 3, none⟩ (.pointer none)) p a c (openR st x.n x.m).2.1 none) := r1
        have HR2 : Hid (Below B w2 ((w2.setCell ⟨p, 2, none⟩ (.pointer none)).setCell ⟨p, 3, none⟩ (.pointer none))) := r2
        clear r1 r2
        go_wp2
        go_ret
        exact ⟨rfl, ⟨_, _, HR1.out, HFEW.out⟩, HB2.out.trans HR2.out⟩
      · cases hoo
      · cases hoo
      · simp only [Option.map_some, Option.some.injEq] at hz1 hz2 hoo
        subst hz1 hz2 hoo
        obtain ⟨r1, r2⟩ := pair_set (o := some (l, r, g)) HU2.out HPC2.out HNP.out HLOW.out (fun l' r' g' e => by
          simp only [Option.some.injEq, Prod.mk.injEq] at e
          obtain ⟨_, _, rfl⟩ := e
          exact HLK.out l _ rfl)
        have HR1 : Hid (PairAt B ((w2.setCell ⟨p, 2, none⟩ (.pointer (some ⟨l, 0, none⟩))).setCell ⟨p, 3, none⟩ (.pointer (some ⟨r, 0, none⟩))) p a c (openR st x.n x.m).2.1 (some (l, r, g))) := r1
        have HR2 : Hid (Below B w2 ((w2.setCell ⟨p, 2, none⟩ (.pointer (some ⟨l, 0, none⟩))).setCell ⟨p, 3, none⟩ (.pointer (some ⟨r, 0, none⟩)))) := r2
        clear r1 r2
        go_wp2
        go_ret
        exact ⟨rfl, ⟨_, _, HR1.out, HFEW.out⟩, HB2.out.trans HR2.out⟩

set_option maxHeartbeats 8000000 in
set_option maxRecDepth 100000 in
theorem plays6_6 (B : Nat) (w : World) (p a c : Nat) (st : St) (o : Option (Nat × Nat × Lg)) (x : OpW) (h : PairAt B w p a c st o) (hx : Op6Ok B w x) (hst : st.steps < 4611680000000000000) :
    Calls Tryz.prog 11 #[.pointer (some ⟨p, 0, none⟩), .agg #[.int .i64 6, .string x.d, .int .i64 x.n, .int .i64 x.m, .slice x.kp x.ks.length x.kc]] w (PL6 B w p a c st) := by
  obtain ⟨w0, hw0⟩ : ∃ w0, w.alloc (.cells #[.int .i64 6, .string x.d, .int .i64 x.n, .int .i64 x.m, .slice x.kp x.ks.length x.kc] 41) = w0 := ⟨_, rfl⟩
  obtain ⟨d0, d1, d2, d3, d4⟩ := box5 w (.int .i64 6) (.string x.d) (.int .i64 x.n) (.int .i64 x.m) (.slice x.kp x.ks.length x.kc) 41
  have hb0 : Below w.heap.size w w0 := by rw [← hw0]; exact (Below.refl _ _).alloc (Nat.le_refl _) _
  have hsz0 : w0.heap.size = w.heap.size + 1 := by rw [← hw0]; simp
  rw [hw0] at d0 d1 d2 d3 d4
  have hpl := h.lt
  obtain ⟨N, hN⟩ : ∃ N : Nat → Prop, N = (fun k => k = p ∨ (w.heap.size ≤ k ∧ k < w0.heap.size)) := ⟨_, rfl⟩
  have HU : Hid (Duo B N w0 a c st (oD o) st (oR o)) := by rw [hN]; exact h.duo.more hb0
  have HNP : Hid (N p) := by rw [hN]; exact Or.inl rfl
  have HNB : Hid (N w.heap.size) := by rw [hN]; exact Or.inr ⟨Nat.le_refl _, by omega⟩
  have HB0 : Hid (Below B w w0) := hb0.mono h.duo.base
  have HPC : Hid (w0.heap[p]? = some (.cells #[.pointer (some ⟨a, 0, none⟩), .pointer (some ⟨c, 0, none⟩), pv (oD o), pv (oR o)] 37 (0, 0))) := (hb0.block p hpl).trans h.cells
  have HLOW : Hid (B ≤ p) := h.low
  have HOK : Hid (∀ l' r' g', o = some (l', r', g') → LgOK g') := h.ok
  have HST : Hid (st.steps < 4611680000000000000) := hst
  have HX : Hid (Op6Ok B w x) := hx
  obtain ⟨p0, p1, p2, p3, pf⟩ := pcells HPC.out
  clear h hb0 hsz0 hN hpl hx hst
  go_enter Tryz.func11, Tryz.ntmps11
  go_wp2_with fail
  try rw [hw0]
  go_region_held3 (fun w' => w'.cell? ⟨p, 0, none⟩ = some (.pointer (some ⟨a, 0, none⟩)) ∧ w'.cell? ⟨w.heap.size, 2, none⟩ = some (.int .i64 x.n)) (go_simp) (first
    | (go_at_call 14; refine (duo_arm (HU.out.later ((Below.refl _ _).drew)) x.n HX.out.num).mono ?_; rintro e w1 ⟨rfl, hwent⟩; (have q0 := cell_at (hwent.2.2 _ HNP.out) p0); (have q2 := cell_at (hwent.2.2 _ HNB.out) d2); (have q1 := cell_at (hwent.2.2 _ HNP.out) p1)))
  all_goals
    have HU1 : Hid (Duo B N w1 a c (armR st x.n).2 (oD o) st (oR o)) := hwent.1
    have HB1 : Hid (Below B w w1) := (HB0.out.drew).trans hwent.2.1
    have HPC1 : Hid (w1.heap[p]? = some (.cells #[.pointer (some ⟨a, 0, none⟩), .pointer (some ⟨c, 0, none⟩), pv (oD o), pv (oR o)] 37 (0, 0))) := (hwent.2.2 _ HNP.out).trans HPC.out
    clear hwent p0 p1 p2 p3 pf d0 d1 d2 d3 d4 q0 hw0
    go_wp2_with fail
    go_region_held3 (fun w' => w'.cell? ⟨p, 1, none⟩ = some (.pointer (some ⟨c, 0, none⟩)) ∧ w'.cell? ⟨w.heap.size, 2, none⟩ = some (.int .i64 x.n)) (go_simp) (first
      | (go_at_call 33; refine (duo_garm (HU1.out.later ((Below.refl _ _).drew)) x.n HU1.out.ok).mono ?_; rintro e w2 ⟨rfl, hwent⟩; (have s1 := cell_at (hwent.2.2 _ HNP.out) q1); (have s2 := cell_at (hwent.2.2 _ HNB.out) q2)))
    all_goals
      have HU2 : Hid (Duo B N w2 a c (armR st x.n).2 (oD o) (armR st x.n).2 (oR o)) := hwent.1
      have HB2 : Hid (Below B w w2) := (HB1.out.drew).trans hwent.2.1
      have HPC2 : Hid (w2.heap[p]? = some (.cells #[.pointer (some ⟨a, 0, none⟩), .pointer (some ⟨c, 0, none⟩), pv (oD o), pv (oR o)] 37 (0, 0))) := (hwent.2.2 _ HNP.out).trans HPC1.out
      have HFEW : Hid ((armR st x.n).2.steps ≤ st.steps + 100) := by
        have h1 := armR_fewU st x.n
        have : (armR st x.n).2.steps ≤ st.steps + 100 := by omega
        exact this
      obtain ⟨E, hE⟩ : ∃ E, (armR st x.n).1 = E := ⟨_, rfl⟩
      rw [hE]
      clear hwent hE q1 q2 s1 s2
      go_wp2
      go_ret
      exact ⟨rfl, ⟨_, _, pair_same HU2.out HPC2.out HNP.out HLOW.out HOK.out, HFEW.out⟩, HB2.out⟩

set_option maxHeartbeats 8000000 in
set_option maxRecDepth 100000 in
theorem plays6_7 (B : Nat) (w : World) (p a c : Nat) (st : St) (o : Option (Nat × Nat × Lg)) (x : OpW) (h : PairAt B w p a c st o) (hx : Op6Ok B w x) (hst : st.steps < 4611680000000000000) :
    Calls Tryz.prog 11 #[.pointer (some ⟨p, 0, none⟩), .agg #[.int .i64 7, .string x.d, .int .i64 x.n, .int .i64 x.m, .slice x.kp x.ks.length x.kc]] w (PL6 B w p a c st) := by
  obtain ⟨w0, hw0⟩ : ∃ w0, w.alloc (.cells #[.int .i64 7, .string x.d, .int .i64 x.n, .int .i64 x.m, .slice x.kp x.ks.length x.kc] 41) = w0 := ⟨_, rfl⟩
  obtain ⟨d0, d1, d2, d3, d4⟩ := box5 w (.int .i64 7) (.string x.d) (.int .i64 x.n) (.int .i64 x.m) (.slice x.kp x.ks.length x.kc) 41
  have hb0 : Below w.heap.size w w0 := by rw [← hw0]; exact (Below.refl _ _).alloc (Nat.le_refl _) _
  have hsz0 : w0.heap.size = w.heap.size + 1 := by rw [← hw0]; simp
  rw [hw0] at d0 d1 d2 d3 d4
  have hpl := h.lt
  obtain ⟨N, hN⟩ : ∃ N : Nat → Prop, N = (fun k => k = p ∨ (w.heap.size ≤ k ∧ k < w0.heap.size)) := ⟨_, rfl⟩
  have HU : Hid (Duo B N w0 a c st (oD o) st (oR o)) := by rw [hN]; exact h.duo.more hb0
  have HNP : Hid (N p) := by rw [hN]; exact Or.inl rfl
  have HNB : Hid (N w.heap.size) := by rw [hN]; exact Or.inr ⟨Nat.le_refl _, by omega⟩
  have HB0 : Hid (Below B w w0) := hb0.mono h.duo.base
  have HPC : Hid (w0.heap[p]? = some (.cells #[.pointer (some ⟨a, 0, none⟩), .pointer (some ⟨c, 0, none⟩), pv (oD o), pv (oR o)] 37 (0, 0))) := (hb0.block p hpl).trans h.cells
  have HLOW : Hid (B ≤ p) := h.low
  have HOK : Hid (∀ l' r' g', o = some (l', r', g') → LgOK g') := h.ok
  have HST : Hid (st.steps < 4611680000000000000) := hst
  have HX : Hid (Op6Ok B w x) := hx
  obtain ⟨p0, p1, p2, p3, pf⟩ := pcells HPC.out
  clear h hb0 hsz0 hN hpl hx hst
  go_enter Tryz.func11, Tryz.ntmps11
  go_wp2_with fail
  try rw [hw0]
  go_region_held3 (fun w' => w'.cell? ⟨p, 0, none⟩ = some (.pointer (some ⟨a, 0, none⟩)) ∧ w'.cell? ⟨w.heap.size, 4, none⟩ = some (.slice x.kp x.ks.length x.kc)) (go_simp) (first
    | (go_at_call 15; refine (duo_crash (HU.out.later ((Below.refl _ _).drew)) x.kp x.kc x.ks (ints_low HX.out.keep HB0.out.drew HX.out.low) HX.out.cap (by have := HX.out.small.2; omega)).mono ?_; rintro e w1 ⟨rfl, hwent⟩; (have q0 := cell_at (hwent.2.2 _ HNP.out) p0); (have q4 := cell_at (hwent.2.2 _ HNB.out) d4); (have q1 := cell_at (hwent.2.2 _ HNP.out) p1)))
  all_goals
    have HU1 : Hid (Duo B N w1 a c (crashR st x.ks) none st (oR o)) := hwent.1
    have HB1 : Hid (Below B w w1) := (HB0.out.drew).trans hwent.2.1
    have HPC1 : Hid (w1.heap[p]? = some (.cells #[.pointer (some ⟨a, 0, none⟩), .pointer (some ⟨c, 0, none⟩), pv (oD o), pv (oR o)] 37 (0, 0))) := (hwent.2.2 _ HNP.out).trans HPC.out
    clear hwent p0 p1 p2 p3 pf d0 d1 d2 d3 d4 q0 hw0
    go_wp2_with fail
    go_region_held3 (fun w' => w'.cell? ⟨p, 1, none⟩ = some (.pointer (some ⟨c, 0, none⟩)) ∧ w'.cell? ⟨w.heap.size, 4, none⟩ = some (.slice x.kp x.ks.length x.kc)) (go_simp) (first
      | (go_at_call 34; refine (duo_gcrash (HU1.out.later ((Below.refl _ _).drew)) HU.out.ok x.kp x.kc x.ks (ints_low HX.out.keep HB1.out.drew HX.out.low) (by have := HX.out.small.2; omega) HX.out.low HU1.out.ok).mono ?_; rintro e w2 ⟨rfl, hwent⟩; (have s1 := cell_at (hwent.2.2 _ HNP.out) q1); (have s4 := cell_at (hwent.2.2 _ HNB.out) q4)))
    all_goals
      have HU2 : Hid (Duo B N w2 a c (crashR st x.ks) none (crashR st x.ks) none) := hwent.1
      have HB2 : Hid (Below B w w2) := (HB1.out.drew).trans hwent.2.1
      have HPC2 : Hid (w2.heap[p]? = some (.cells #[.pointer (some ⟨a, 0, none⟩), .pointer (some ⟨c, 0, none⟩), pv (oD o), pv (oR o)] 37 (0, 0))) := (hwent.2.2 _ HNP.out).trans HPC1.out
      obtain ⟨t0, t1, t2, t3, tf⟩ := pcells HPC2.out
      obtain ⟨r1, r2⟩ := pair_set (o := none) HU2.out HPC2.out HNP.out HLOW.out (fun _ _ _ e => by cases e)
      have HR1 : Hid (PairAt B ((w2.setCell ⟨p, 2, none⟩ (.pointer none)).setCell ⟨p, 3, none⟩ (.pointer none)) p a c (crashR st x.ks) none) := r1
      have HR2 : Hid (Below B w2 ((w2.setCell ⟨p, 2, none⟩ (.pointer none)).setCell ⟨p, 3, none⟩ (.pointer none))) := r2
      clear hwent r1 r2 q1 q4 s1 s4
      go_wp2
      go_ret
      exact ⟨rfl, ⟨_, _, HR1.out, by show st.steps ≤ st.steps + 100; omega⟩, HB2.out.trans HR2.out⟩

set_option maxHeartbeats 8000000 in
set_option maxRecDepth 100000 in
theorem plays6_2 (B : Nat) (w : World) (p a c : Nat) (st : St) (l r : Nat) (g : Lg) (x : OpW) (h : PairAt B w p a c st (some (l, r, g))) (hx : Op6Ok B w x) (hst : st.steps < 4611680000000000000) :
    Calls Tryz.prog 11 #[.pointer (some ⟨p, 0, none⟩), .agg #[.int .i64 2, .string x.d, .int .i64 x.n, .int .i64 x.m, .slice x.kp x.ks.length x.kc]] w (PL6 B w p a c st) := by
  obtain ⟨w0, hw0⟩ : ∃ w0, w.alloc (.cells #[.int .i64 2, .string x.d, .int .i64 x.n, .int .i64 x.m, .slice x.kp x.ks.length x.kc] 41) = w0 := ⟨_, rfl⟩
  obtain ⟨d0, d1, d2, d3, d4⟩ := box5 w (.int .i64 2) (.string x.d) (.int .i64 x.n) (.int .i64 x.m) (.slice x.kp x.ks.length x.kc) 41
  have hb0 : Below w.heap.size w w0 := by rw [← hw0]; exact (Below.refl _ _).alloc (Nat.le_refl _) _
  have hsz0 : w0.heap.size = w.heap.size + 1 := by rw [← hw0]; simp
  rw [hw0] at d0 d1 d2 d3 d4
  have hpl := h.lt
  obtain ⟨N, hN⟩ : ∃ N : Nat → Prop, N = (fun k => k = p ∨ (w.heap.size ≤ k ∧ k < w0.heap.size)) := ⟨_, rfl⟩
  have HU : Hid (Duo B N w0 a c st (oD (some (l, r, g))) st (oR (some (l, r, g)))) := by rw [hN]; exact h.duo.more hb0
  have HNP : Hid (N p) := by rw [hN]; exact Or.inl rfl
  have HNB : Hid (N w.heap.size) := by rw [hN]; exact Or.inr ⟨Nat.le_refl _, by omega⟩
  have HB0 : Hid (Below B w w0) := hb0.mono h.duo.base
  have HPC : Hid (w0.heap[p]? = some (.cells #[.pointer (some ⟨a, 0, none⟩), .pointer (some ⟨c, 0, none⟩), pv (oD (some (l, r, g))), pv (oR (some (l, r, g)))] 37 (0, 0))) := (hb0.block p hpl).trans h.cells
  have HLOW : Hid (B ≤ p) := h.low
  have HOK : Hid (∀ l' r' g', (some (l, r, g)) = some (l', r', g') → LgOK g') := h.ok
  have HST : Hid (st.steps < 4611680000000000000) := hst
  have HX : Hid (Op6Ok B w x) := hx
  obtain ⟨p0, p1, p2, p3, pf⟩ := pcells HPC.out
  clear h hb0 hsz0 hN hpl hx hst
  simp only [oD, oR, pv, Option.map_some] at p2 p3
  go_enter Tryz.func11, Tryz.ntmps11
  go_wp2_with fail
  try rw [hw0]
  go_region_held3 (fun w' => w'.cell? ⟨p, 2, none⟩ = some (.pointer (some ⟨l, 0, none⟩)) ∧ w'.cell? ⟨w.heap.size, 1, none⟩ = some (.string x.d)) (go_simp) (first
    | (go_at_call 19; refine (duo_append (HU.out.later ((Below.refl _ _).drew)) (HOK.out l r g rfl) (by have := HST.out; omega) x.d (by have := HX.out.small.1; omega)).mono ?_; rintro e w1 ⟨rfl, hwent⟩; (have q0 := cell_at (hwent.2.2 _ HNP.out) p2); (have q2 := cell_at (hwent.2.2 _ HNB.out) d1); (have q1 := cell_at (hwent.2.2 _ HNP.out) p3)))
  all_goals
    have HU1 : Hid (Duo B N w1 a c (appendL st g x.d.data.toList).2.1 (some (l, (appendL st g x.d.data.toList).2.2)) st (some (r, g))) := hwent.1
    have HB1 : Hid (Below B w w1) := (HB0.out.drew).trans hwent.2.1
    have HPC1 : Hid (w1.heap[p]? = some (.cells #[.pointer (some ⟨a, 0, none⟩), .pointer (some ⟨c, 0, none⟩), pv (oD (some (l, r, g))), pv (oR (some (l, r, g)))] 37 (0, 0))) := (hwent.2.2 _ HNP.out).trans HPC.out
    clear hwent p0 p1 p2 p3 pf d0 d1 d2 d3 d4 q0 hw0
    go_wp2_with fail
    go_region_held3 (fun w' => w'.cell? ⟨p, 3, none⟩ = some (.pointer (some ⟨r, 0, none⟩)) ∧ w'.cell? ⟨w.heap.size, 1, none⟩ = some (.string x.d)) (go_simp) (first
      | (go_at_call 35; refine (duo_gappend (HU1.out.later ((Below.refl _ _).drew)) (HOK.out l r g rfl) (by have := HST.out; omega) x.d (by have := HX.out.small.1; omega)).mono ?_; rintro e w2 ⟨rfl, hwent⟩; (have s1 := cell_at (hwent.2.2 _ HNP.out) q1); (have s2 := cell_at (hwent.2.2 _ HNB.out) q2)))
    all_goals
      have HU2 : Hid (Duo B N w2 a c (appendL st g x.d.data.toList).2.1 (oD (some (l, r, (appendL st g x.d.data.toList).2.2))) (appendL st g x.d.data.toList).2.1 (oR (some (l, r, (appendL st g x.d.data.toList).2.2)))) := hwent.1
      have HB2 : Hid (Below B w w2) := (HB1.out.drew).trans hwent.2.1
      have HPC2 : Hid (w2.heap[p]? = some (.cells #[.pointer (some ⟨a, 0, none⟩), .pointer (some ⟨c, 0, none⟩), pv (oD (some (l, r, g))), pv (oR (some (l, r, g)))] 37 (0, 0))) := (hwent.2.2 _ HNP.out).trans HPC1.out
      have HFEW : Hid ((appendL st g x.d.data.toList).2.1.steps ≤ st.steps + 100) := by
        have h1 := appendL_few st g x.d.data.toList
        have : (appendL st g x.d.data.toList).2.1.steps ≤ st.steps + 100 := by omega
        exact this
      have HLK : Hid (LgOK (appendL st g x.d.data.toList).2.2) := LgOK.append (HOK.out l r g rfl) _
      obtain ⟨E, hE⟩ : ∃ E, (appendL st g x.d.data.toList).1.1 = E := ⟨_, rfl⟩
      obtain ⟨F, hF⟩ : ∃ F, (appendL st g x.d.data.toList).1.2 = F := ⟨_, rfl⟩
      rw [hE, hF]
      clear hwent hE hF q1 q2 s1 s2
      go_wp2
      go_ret
      exact ⟨rfl, ⟨_, some (l, r, (appendL st g x.d.data.toList).2.2), pair_same HU2.out HPC2.out HNP.out HLOW.out (fun _ _ _ e => by simp only [Option.some.injEq, Prod.mk.injEq] at e; obtain ⟨_, _, rfl⟩ := e; exact HLK.out), HFEW.out⟩, HB2.out⟩

set_option maxHeartbeats 8000000 in
set_option maxRecDepth 100000 in
theorem plays6_3 (B : Nat) (w : World) (p a c : Nat) (st : St) (l r : Nat) (g : Lg) (x : OpW) (h : PairAt B w p a c st (some (l, r, g))) (hx : Op6Ok B w x) (hst : st.steps < 4611680000000000000) :
    Calls Tryz.prog 11 #[.pointer (some ⟨p, 0, none⟩), .agg #[.int .i64 3, .string x.d, .int .i64 x.n, .int .i64 x.m, .slice x.kp x.ks.length x.kc]] w (PL6 B w p a c st) := by
  obtain ⟨w0, hw0⟩ : ∃ w0, w.alloc (.cells #[.int .i64 3, .string x.d, .int .i64 x.n, .int .i64 x.m, .slice x.kp x.ks.length x.kc] 41) = w0 := ⟨_, rfl⟩
  obtain ⟨d0, d1, d2, d3, d4⟩ := box5 w (.int .i64 3) (.string x.d) (.int .i64 x.n) (.int .i64 x.m) (.slice x.kp x.ks.length x.kc) 41
  have hb0 : Below w.heap.size w w0 := by rw [← hw0]; exact (Below.refl _ _).alloc (Nat.le_refl _) _
  have hsz0 : w0.heap.size = w.heap.size + 1 := by rw [← hw0]; simp
  rw [hw0] at d0 d1 d2 d3 d4
  have hpl := h.lt
  obtain ⟨N, hN⟩ : ∃ N : Nat → Prop, N = (fun k => k = p ∨ (w.heap.size ≤ k ∧ k < w0.heap.size)) := ⟨_, rfl⟩
  have HU : Hid (Duo B N w0 a c st (oD (some (l, r, g))) st (oR (some (l, r, g)))) := by rw [hN]; exact h.duo.more hb0
  have HNP : Hid (N p) := by rw [hN]; exact Or.inl rfl
  have HNB : Hid (N w.heap.size) := by rw [hN]; exact Or.inr ⟨Nat.le_refl _, by omega⟩
  have HB0 : Hid (Below B w w0) := hb0.mono h.duo.base
  have HPC : Hid (w0.heap[p]? = some (.cells #[.pointer (some ⟨a, 0, none⟩), .pointer (some ⟨c, 0, none⟩), pv (oD (some (l, r, g))), pv (oR (some (l, r, g)))] 37 (0, 0))) := (hb0.block p hpl).trans h.cells
  have HLOW : Hid (B ≤ p) := h.low
  have HOK : Hid (∀ l' r' g', (some (l, r, g)) = some (l', r', g') → LgOK g') := h.ok
  have HST : Hid (st.steps < 4611680000000000000) := hst
  have HX : Hid (Op6Ok B w x) := hx
  obtain ⟨p0, p1, p2, p3, pf⟩ := pcells HPC.out
  clear h hb0 hsz0 hN hpl hx hst
  simp only [oD, oR, pv, Option.map_some] at p2 p3
  go_enter Tryz.func11, Tryz.ntmps11
  go_wp2_with fail
  try rw [hw0]
  refine (duo_sync HU.out (HOK.out l r g rfl) (by have := HST.out; omega)).mono ?_
  rintro e w1 ⟨rfl, hwent⟩
  have q1 := cell_at (hwent.2.2 _ HNP.out) p3
  all_goals
    have HU1 : Hid (Duo B N w1 a c (syncL st g).2.1 (some (l, (syncL st g).2.2)) st (some (r, g))) := hwent.1
    have HB1 : Hid (Below B w w1) := HB0.out.trans hwent.2.1
    have HPC1 : Hid (w1.heap[p]? = some (.cells #[.pointer (some ⟨a, 0, none⟩), .pointer (some ⟨c, 0, none⟩), pv (oD (some (l, r, g))), pv (oR (some (l, r, g)))] 37 (0, 0))) := (hwent.2.2 _ HNP.out).trans HPC.out
    clear hwent p0 p1 p2 p3 pf d0 d1 d2 d3 d4 hw0
    go_wp2_with fail
    refine (duo_gsync HU1.out (HOK.out l r g rfl) (by have := HST.out; omega)).mono ?_
    rintro e w2 ⟨rfl, hwent⟩
    all_goals
      have HU2 : Hid (Duo B N w2 a c (syncL st g).2.1 (oD (some (l, r, (syncL st g).2.2))) (syncL st g).2.1 (oR (some (l, r, (syncL st g).2.2)))) := hwent.1
      have HB2 : Hid (Below B w w2) := HB1.out.trans hwent.2.1
      have HPC2 : Hid (w2.heap[p]? = some (.cells #[.pointer (some ⟨a, 0, none⟩), .pointer (some ⟨c, 0, none⟩), pv (oD (some (l, r, g))), pv (oR (some (l, r, g)))] 37 (0, 0))) := (hwent.2.2 _ HNP.out).trans HPC1.out
      have HFEW : Hid ((syncL st g).2.1.steps ≤ st.steps + 100) := by
        have h1 := syncL_few st g
        have : (syncL st g).2.1.steps ≤ st.steps + 100 := by omega
        exact this
      have HLK : Hid (LgOK (syncL st g).2.2) := LgOK.sync (HOK.out l r g rfl)
      obtain ⟨E, hE⟩ : ∃ E, (syncL st g).1 = E := ⟨_, rfl⟩
      rw [hE]
      clear hwent hE q1
      go_wp2
      go_ret
      exact ⟨rfl, ⟨_, some (l, r, (syncL st g).2.2), pair_same HU2.out HPC2.out HNP.out HLOW.out (fun _ _ _ e => by simp only [Option.some.injEq, Prod.mk.injEq] at e; obtain ⟨_, _, rfl⟩ := e; exact HLK.out), HFEW.out⟩, HB2.out⟩

set_option maxHeartbeats 8000000 in
set_option maxRecDepth 100000 in
theorem plays6_5 (B : Nat) (w : World) (p a c : Nat) (st : St) (l r : Nat) (g : Lg) (x : OpW) (h : PairAt B w p a c st (some (l, r, g))) (hx : Op6Ok B w x) (hst : st.steps < 4611680000000000000) :
    Calls Tryz.prog 11 #[.pointer (some ⟨p, 0, none⟩), .agg #[.int .i64 5, .string x.d, .int .i64 x.n, .int .i64 x.m, .slice x.kp x.ks.length x.kc]] w (PL6 B w p a c st) := by
  obtain ⟨w0, hw0⟩ : ∃ w0, w.alloc (.cells #[.int .i64 5, .string x.d, .int .i64 x.n, .int .i64 x.m, .slice x.kp x.ks.length x.kc] 41) = w0 := ⟨_, rfl⟩
  obtain ⟨d0, d1, d2, d3, d4⟩ := box5 w (.int .i64 5) (.string x.d) (.int .i64 x.n) (.int .i64 x.m) (.slice x.kp x.ks.length x.kc) 41
  have hb0 : Below w.heap.size w w0 := by rw [← hw0]; exact (Below.refl _ _).alloc (Nat.le_refl _) _
  have hsz0 : w0.heap.size = w.heap.size + 1 := by rw [← hw0]; simp
  rw [hw0] at d0 d1 d2 d3 d4
  have hpl := h.lt
  obtain ⟨N, hN⟩ : ∃ N : Nat → Prop, N = (fun k => k = p ∨ (w.heap.size ≤ k ∧ k < w0.heap.size)) := ⟨_, rfl⟩
  have HU : Hid (Duo B N w0 a c st (oD (some (l, r, g))) st (oR (some (l, r, g)))) := by rw [hN]; exact h.duo.more hb0
  have HNP : Hid (N p) := by rw [hN]; exact Or.inl rfl
  have HNB : Hid (N w.heap.size) := by rw [hN]; exact Or.inr ⟨Nat.le_refl _, by omega⟩
  have HB0 : Hid (Below B w w0) := hb0.mono h.duo.base
  have HPC : Hid (w0.heap[p]? = some (.cells #[.pointer (some ⟨a, 0, none⟩), .pointer (some ⟨c, 0, none⟩), pv (oD (some (l, r, g))), pv (oR (some (l, r, g)))] 37 (0, 0))) := (hb0.block p hpl).trans h.cells
  have HLOW : Hid (B ≤ p) := h.low
  have HOK : Hid (∀ l' r' g', (some (l, r, g)) = some (l', r', g') → LgOK g') := h.ok
  have HST : Hid (st.steps < 4611680000000000000) := hst
  have HX : Hid (Op6Ok B w x) := hx
  obtain ⟨p0, p1, p2, p3, pf⟩ := pcells HPC.out
  clear h hb0 hsz0 hN hpl hx hst
  simp only [oD, oR, pv, Option.map_some] at p2 p3
  go_enter Tryz.func11, Tryz.ntmps11
  go_wp2_with fail
  try rw [hw0]
  go_region_held3 (fun w' => w'.cell? ⟨p, 2, none⟩ = some (.pointer (some ⟨l, 0, none⟩)) ∧ w'.cell? ⟨w.heap.size, 2, none⟩ = some (.int .i64 x.n)) (go_simp) (first
    | (go_at_call 39; refine (duo_trunc (HU.out.later ((Below.refl _ _).drew)) (HOK.out l r g rfl) HST.out x.n).mono ?_; rintro e w1 ⟨rfl, hwent, hlk⟩; (have q0 := cell_at (hwent.2.2 _ HNP.out) p2); (have q2 := cell_at (hwent.2.2 _ HNB.out) d2); (have q1 := cell_at (hwent.2.2 _ HNP.out) p3)))
  all_goals
    have HLK : Hid (LgOK (truncL st g x.n).2.2) := hlk
    have HU1 : Hid (Duo B N w1 a c (truncL st g x.n).2.1 (some (l, (truncL st g x.n).2.2)) st (some (r, g))) := hwent.1
    have HB1 : Hid (Below B w w1) := (HB0.out.drew).trans hwent.2.1
    have HPC1 : Hid (w1.heap[p]? = some (.cells #[.pointer (some ⟨a, 0, none⟩), .pointer (some ⟨c, 0, none⟩), pv (oD (some (l, r, g))), pv (oR (some (l, r, g)))] 37 (0, 0))) := (hwent.2.2 _ HNP.out).trans HPC.out
    clear hwent p0 p1 p2 p3 pf d0 d1 d2 d3 d4 q0 hw0 hlk
    go_wp2_with fail
    go_region_held3 (fun w' => w'.cell? ⟨p, 3, none⟩ = some (.pointer (some ⟨r, 0, none⟩)) ∧ w'.cell? ⟨w.heap.size, 2, none⟩ = some (.int .i64 x.n)) (go_simp) (first
      | (go_at_call 40; refine (duo_gtrunc (HU1.out.later ((Below.refl _ _).drew)) HST.out x.n).mono ?_; rintro e w2 ⟨rfl, hwent⟩; (have s1 := cell_at (hwent.2.2 _ HNP.out) q1); (have s2 := cell_at (hwent.2.2 _ HNB.out) q2)))
    all_goals
      have HU2 : Hid (Duo B N w2 a c (truncL st g x.n).2.1 (oD (some (l, r, (truncL st g x.n).2.2))) (truncL st g x.n).2.1 (oR (some (l, r, (truncL st g x.n).2.2)))) := hwent.1
      have HB2 : Hid (Below B w w2) := (HB1.out.drew).trans hwent.2.1
      have HPC2 : Hid (w2.heap[p]? = some (.cells #[.pointer (some ⟨a, 0, none⟩), .pointer (some ⟨c, 0, none⟩), pv (oD (some (l, r, g))), pv (oR (some (l, r, g)))] 37 (0, 0))) := (hwent.2.2 _ HNP.out).trans HPC1.out
      have HFEW : Hid ((truncL st g x.n).2.1.steps ≤ st.steps + 100) := by
        have h1 := truncL_few (st := st) (g := g) (P := x.n)
        have : (truncL st g x.n).2.1.steps ≤ st.steps + 100 := by have h2 := HU.out.ok.files.few; omega
        exact this
      obtain ⟨E, hE⟩ : ∃ E, (truncL st g x.n).1 = E := ⟨_, rfl⟩
      rw [hE]
      clear hwent hE q1 q2 s1 s2
      go_wp2
      go_ret
      exact ⟨rfl, ⟨_, some (l, r, (truncL st g x.n).2.2), pair_same HU2.out HPC2.out HNP.out HLOW.out (fun _ _ _ e => by simp only [Option.some.injEq, Prod.mk.injEq] at e; obtain ⟨_, _, rfl⟩ := e; exact HLK.out), HFEW.out⟩, HB2.out⟩

set_option maxHeartbeats 8000000 in
set_option maxRecDepth 100000 in
theorem plays6_4 (B : Nat) (w : World) (p a c : Nat) (st : St) (l r : Nat) (g : Lg) (x : OpW) (h : PairAt B w p a c st (some (l, r, g))) (hx : Op6Ok B w x) (hst : st.steps < 4611680000000000000) :
    Calls Tryz.prog 11 #[.pointer (some ⟨p, 0, none⟩), .agg #[.int .i64 4, .string x.d, .int .i64 x.n, .int .i64 x.m, .slice x.kp x.ks.length x.kc]] w (PL6 B w p a c st) := by
  obtain ⟨w0, hw0⟩ : ∃ w0, w.alloc (.cells #[.int .i64 4, .string x.d, .int .i64 x.n, .int .i64 x.m, .slice x.kp x.ks.length x.kc] 41) = w0 := ⟨_, rfl⟩
  obtain ⟨d0, d1, d2, d3, d4⟩ := box5 w (.int .i64 4) (.string x.d) (.int .i64 x.n) (.int .i64 x.m) (.slice x.kp x.ks.length x.kc) 41
  have hb0 : Below w.heap.size w w0 := by rw [← hw0]; exact (Below.refl _ _).alloc (Nat.le_refl _) _
  have hsz0 : w0.heap.size = w.heap.size + 1 := by rw [← hw0]; simp
  rw [hw0] at d0 d1 d2 d3 d4
  have hpl := h.lt
  obtain ⟨N, hN⟩ : ∃ N : Nat → Prop, N = (fun k => k = p ∨ (w.heap.size ≤ k ∧ k < w0.heap.size)) := ⟨_, rfl⟩
  have HU : Hid (Duo B N w0 a c st (oD (some (l, r, g))) st (oR (some (l, r, g)))) := by rw [hN]; exact h.duo.more hb0
  have HNP : Hid (N p) := by rw [hN]; exact Or.inl rfl
  have HNB : Hid (N w.heap.size) := by rw [hN]; exact Or.inr ⟨Nat.le_refl _, by omega⟩
  have HB0 : Hid (Below B w w0) := hb0.mono h.duo.base
  have HPC : Hid (w0.heap[p]? = some (.cells #[.pointer (some ⟨a, 0, none⟩), .pointer (some ⟨c, 0, none⟩), pv (oD (some (l, r, g))), pv (oR (some (l, r, g)))] 37 (0, 0))) := (hb0.block p hpl).trans h.cells
  have HLOW : Hid (B ≤ p) := h.low
  have HOK : Hid (∀ l' r' g', (some (l, r, g)) = some (l', r', g') → LgOK g') := h.ok
  have HST : Hid (st.steps < 4611680000000000000) := hst
  have HX : Hid (Op6Ok B w x) := hx
  obtain ⟨p0, p1, p2, p3, pf⟩ := pcells HPC.out
  clear h hb0 hsz0 hN hpl hx hst
  simp only [oD, oR, pv, Option.map_some] at p2 p3
  obtain ⟨Y, q, cap, es, hL, hG⟩ := HU.out.log
  obtain ⟨Y', v2, v4, hL', _⟩ := HU.out.glog
  have HL : Hid (LogAt w0 Y l a g q cap es) := hL
  have HL' : Hid (GAt w0 Y' r c g v2 v4) := hL'
  have HG : Hid (LgW g) := hG
  clear hL hL' hG
  go_enter Tryz.func11, Tryz.ntmps11
  go_wp2_with fail
  try rw [hw0]
  go_region_held3 (fun w' => w'.cell? ⟨p, 2, none⟩ = some (.pointer (some ⟨l, 0, none⟩)) ∧ w'.cell? ⟨w.heap.size, 2, none⟩ = some (.int .i64 x.n)) (go_simp) (first
    | (go_at_call 25; refine (lread_any _ Y l a g q cap es (HL.out.later ((Below.refl _ _).drew)) HG.out x.n).mono ?_; rintro e w1 ⟨rfl, hb1⟩; simp only [readV]; (have hb1 := from_drew hb1); (have q0 := cell_later hb1 p2); (have q2 := cell_later hb1 d2); (have q1 := cell_later hb1 p3)))
  all_goals
    have HB1 : Hid (Below w0.heap.size w0 w1) := hb1
    clear hb1 p0 p1 p2 p3 pf d0 d1 d2 d3 d4 q0 hw0
    go_wp2_with fail
    go_region_held3 (fun w' => w'.cell? ⟨p, 3, none⟩ = some (.pointer (some ⟨r, 0, none⟩)) ∧ w'.cell? ⟨w.heap.size, 2, none⟩ = some (.int .i64 x.n)) (go_simp) (first
      | (go_at_call 38; refine (gread_any _ Y' r c g v2 v4 ((HL'.out.later HB1.out).later ((Below.refl _ _).drew)) HG.out x.n).mono ?_; rintro e w2 ⟨rfl, hb2⟩; simp only [readV]; (have hb2 := from_drew hb2); (have s1 := cell_later hb2 q1); (have s2 := cell_later hb2 q2)))
    all_goals
      have HB2 : Hid (Below w0.heap.size w0 w2) := HB1.out.trans (hb2.mono HB1.out.size)
      have HPA : Hid (PairAt B w2 p a c st (some (l, r, g))) := pair_same (HU.out.later HB2.out) ((HB2.out.block p (HU.out.two.elim fun _ h => h.elim fun _ h => (h.2.2.2.2.2 p HNP.out).1)).trans HPC.out) HNP.out HLOW.out HOK.out
      obtain ⟨E, hE⟩ : ∃ E : ByteArray, (⟨(readL g x.n).1.toArray⟩ : ByteArray) = E := ⟨_, rfl⟩
      obtain ⟨F, hF⟩ : ∃ F, (readL g x.n).2 = F := ⟨_, rfl⟩
      rw [hE, hF]
      clear hb2 q1 q2 s1 s2 hE hF
      go_wp2
      go_ret
      exact ⟨rfl, ⟨_, _, HPA.out, by omega⟩, HB0.out.trans (HB2.out.mono HU.out.base)⟩

set_option maxHeartbeats 8000000 in
set_option maxRecDepth 100000 in
theorem plays6_9 (B : Nat) (w : World) (p a c : Nat) (st : St) (l r : Nat) (g : Lg) (wh : Int) (q1 : (wh == 1) = false) (q2 : (wh == 2) = false) (q3 : (wh == 3) = false) (q4 : (wh == 4) = false) (q5 : (wh == 5) = false) (q6 : (wh == 6) = false) (q7 : (wh == 7) = false) (x : OpW) (h : PairAt B w p a c st (some (l, r, g))) (hx : Op6Ok B w x) (hst : st.steps < 4611680000000000000) :
    Calls Tryz.prog 11 #[.pointer (some ⟨p, 0, none⟩), .agg #[.int .i64 wh, .string x.d, .int .i64 x.n, .int .i64 x.m, .slice x.kp x.ks.length x.kc]] w (PL6 B w p a c st) := by
  obtain ⟨w0, hw0⟩ : ∃ w0, w.alloc (.cells #[.int .i64 wh, .string x.d, .int .i64 x.n, .int .i64 x.m, .slice x.kp x.ks.length x.kc] 41) = w0 := ⟨_, rfl⟩
  obtain ⟨d0, d1, d2, d3, d4⟩ := box5 w (.int .i64 wh) (.string x.d) (.int .i64 x.n) (.int .i64 x.m) (.slice x.kp x.ks.length x.kc) 41
  have hb0 : Below w.heap.size w w0 := by rw [← hw0]; exact (Below.refl _ _).alloc (Nat.le_refl _) _
  have hsz0 : w0.heap.size = w.heap.size + 1 := by rw [← hw0]; simp
  rw [hw0] at d0 d1 d2 d3 d4
  have hpl := h.lt
  obtain ⟨N, hN⟩ : ∃ N : Nat → Prop, N = (fun k => k = p ∨ (w.heap.size ≤ k ∧ k < w0.heap.size)) := ⟨_, rfl⟩
  have HU : Hid (Duo B N w0 a c st (oD (some (l, r, g))) st (oR (some (l, r, g)))) := by rw [hN]; exact h.duo.more hb0
  have HNP : Hid (N p) := by rw [hN]; exact Or.inl rfl
  have HNB : Hid (N w.heap.size) := by rw [hN]; exact Or.inr ⟨Nat.le_refl _, by omega⟩
  have HB0 : Hid (Below B w w0) := hb0.mono h.duo.base
  have HPC : Hid (w0.heap[p]? = some (.cells #[.pointer (some ⟨a, 0, none⟩), .pointer (some ⟨c, 0, none⟩), pv (oD (some (l, r, g))), pv (oR (some (l, r, g)))] 37 (0, 0))) := (hb0.block p hpl).trans h.cells
  have HLOW : Hid (B ≤ p) := h.low
  have HOK : Hid (∀ l' r' g', (some (l, r, g)) = some (l', r', g') → LgOK g') := h.ok
  have HST : Hid (st.steps < 4611680000000000000) := hst
  have HX : Hid (Op6Ok B w x) := hx
  obtain ⟨p0, p1, p2, p3, pf⟩ := pcells HPC.out
  clear h hb0 hsz0 hN hpl hx hst
  simp only [oD, oR, pv, Option.map_some] at p2 p3
  go_enter Tryz.func11, Tryz.ntmps11
  go_wp2_with fail
  try rw [hw0]
  refine (looks6_any B w0 p a c st (some (l, r, g)) (pair_same HU.out HPC.out HNP.out HLOW.out HOK.out)).mono ?_
  rintro e w1 ⟨rfl, hb1⟩
  have HB1 : Hid (Below w0.heap.size w0 w1) := hb1
  have HPA : Hid (PairAt B w1 p a c st (some (l, r, g))) := pair_same (HU.out.later HB1.out) ((HB1.out.block p (HU.out.two.elim fun _ h => h.elim fun _ h => (h.2.2.2.2.2 p HNP.out).1)).trans HPC.out) HNP.out HLOW.out HOK.out
  clear hb1 p0 p1 p2 p3 pf d0 d1 d2 d3 d4 hw0
  go_wp2
  go_ret
  exact ⟨rfl, ⟨_, _, HPA.out, by omega⟩, HB0.out.trans (HB1.out.mono HU.out.base)⟩

set_option maxHeartbeats 8000000 in
set_option maxRecDepth 100000 in
theorem plays6_0 (B : Nat) (w : World) (p a c : Nat) (st : St) (wh : Int) (q1 : (wh == 1) = false) (q6 : (wh == 6) = false) (q7 : (wh == 7) = false) (x : OpW) (h : PairAt B w p a c st none) (hx : Op6Ok B w x) (hst : st.steps < 4611680000000000000) :
    Calls Tryz.prog 11 #[.pointer (some ⟨p, 0, none⟩), .agg #[.int .i64 wh, .string x.d, .int .i64 x.n, .int .i64 x.m, .slice x.kp x.ks.length x.kc]] w (PL6 B w p a c st) := by
  obtain ⟨w0, hw0⟩ : ∃ w0, w.alloc (.cells #[.int .i64 wh, .string x.d, .int .i64 x.n, .int .i64 x.m, .slice x.kp x.ks.length x.kc] 41) = w0 := ⟨_, rfl⟩
  obtain ⟨d0, d1, d2, d3, d4⟩ := box5 w (.int .i64 wh) (.string x.d) (.int .i64 x.n) (.int .i64 x.m) (.slice x.kp x.ks.length x.kc) 41
  have hb0 : Below w.heap.size w w0 := by rw [← hw0]; exact (Below.refl _ _).alloc (Nat.le_refl _) _
  have hsz0 : w0.heap.size = w.heap.size + 1 := by rw [← hw0]; simp
  rw [hw0] at d0 d1 d2 d3 d4
  have hpl := h.lt
  obtain ⟨N, hN⟩ : ∃ N : Nat → Prop, N = (fun k => k = p ∨ (w.heap.size ≤ k ∧ k < w0.heap.size)) := ⟨_, rfl⟩
  have HU : Hid (Duo B N w0 a c st (oD none) st (oR none)) := by rw [hN]; exact h.duo.more hb0
  have HNP : Hid (N p) := by rw [hN]; exact Or.inl rfl
  have HNB : Hid (N w.heap.size) := by rw [hN]; exact Or.inr ⟨Nat.le_refl _, by omega⟩
  have HB0 : Hid (Below B w w0) := hb0.mono h.duo.base
  have HPC : Hid (w0.heap[p]? = some (.cells #[.pointer (some ⟨a, 0, none⟩), .pointer (some ⟨c, 0, none⟩), pv (oD none), pv (oR none)] 37 (0, 0))) := (hb0.block p hpl).trans h.cells
  have HLOW : Hid (B ≤ p) := h.low
  have HOK : Hid (∀ l' r' g', none = some (l', r', g') → LgOK g') := h.ok
  have HST : Hid (st.steps < 4611680000000000000) := hst
  have HX : Hid (Op6Ok B w x) := hx
  obtain ⟨p0, p1, p2, p3, pf⟩ := pcells HPC.out
  clear h hb0 hsz0 hN hpl hx hst
  simp only [oD, oR, pv, Option.map_none] at p2 p3
  go_enter Tryz.func11, Tryz.ntmps11
  go_wp2
  try rw [hw0]
  go_ret
  exact ⟨rfl, ⟨_, _, pair_same HU.out HPC.out HNP.out HLOW.out HOK.out, by omega⟩, HB0.out⟩

theorem plays6_any (B : Nat) (w : World) (p a c : Nat) (st : St) (o : Option (Nat × Nat × Lg)) (x : OpW) (h : PairAt B w p a c st o) (hx : Op6Ok B w x) (hst : st.steps < 4611680000000000000) :
    Calls Tryz.prog 11 #[.pointer (some ⟨p, 0, none⟩), .agg #[.int .i64 x.what, .string x.d, .int .i64 x.n, .int .i64 x.m, .slice x.kp x.ks.length x.kc]] w (PL6 B w p a c st) := by
  obtain ⟨wh, hwh⟩ : ∃ wh, x.what = wh := ⟨_, rfl⟩
  rw [hwh]
  by_cases q1 : wh = 1
  · subst q1; exact plays6_1 B w p a c st o x h hx hst
  by_cases q6 : wh = 6
  · subst q6; exact plays6_6 B w p a c st o x h hx hst
  by_cases q7 : wh = 7
  · subst q7; exact plays6_7 B w p a c st o x h hx hst
  match o, h with
  | none, h => exact plays6_0 B w p a c st wh (by simpa using q1) (by simpa using q6) (by simpa using q7) x h hx hst
  | some (l, r, g), h =>
    by_cases q2 : wh = 2
    · subst q2; exact plays6_2 B w p a c st l r g x h hx hst
    by_cases q3 : wh = 3
    · subst q3; exact plays6_3 B w p a c st l r g x h hx hst
    by_cases q4 : wh = 4
    · subst q4; exact plays6_4 B w p a c st l r g x h hx hst
    by_cases q5 : wh = 5
    · subst q5; exact plays6_5 B w p a c st l r g x h hx hst
    exact plays6_9 B w p a c st l r g wh (by simpa using q1) (by simpa using q2) (by simpa using q3) (by simpa using q4) (by simpa using q5) (by simpa using q6) (by simpa using q7) x h hx hst
end Go.Proofs.YtckmjmpajbjbkaaGreatDoor
/- The law WalPlays, walked. -/
namespace Go.Proofs.YtckmjmpajbjbkaaGreatDoor
open Go.RowKit

theorem pair_new {B : Nat} {w5 w6 w7 : World} {a c : Nat} {st : St} {v : Value} (hB : B ≤ w5.heap.size) (hV : SV B w7) (hb6 : Below w5.heap.size w5 w6) (hb7 : Below w6.heap.size w6 w7) (hd : IsDisk w6 (fun k => w5.heap.size ≤ k) a st) (hr : RefAt w7 (fun k => w6.heap.size ≤ k) c st v) :
    PairAt B (w7.alloc (.cells #[.pointer (some ⟨a, 0, none⟩), .pointer (some ⟨c, 0, none⟩), .pointer none, .pointer none] 37)) w7.heap.size a c st none := by
  have h6 := hb6.size
  have h7 := hb7.size
  have hok := hd.ok
  have hb : Below w7.heap.size w7 (w7.alloc (.cells #[.pointer (some ⟨a, 0, none⟩), .pointer (some ⟨c, 0, none⟩), .pointer none, .pointer none] 37)) := (Below.refl _ _).alloc (Nat.le_refl _) _
  have hD : Duo B (fun _ => False) w7 a c st none st none := ⟨by omega, hV, fun k => w5.heap.size ≤ k ∧ k < w6.heap.size, fun k => w6.heap.size ≤ k ∧ k < w7.heap.size, (hd.mono fun k hk hz => ⟨hz, hk⟩).later hb7, ⟨hok, v, hr.mono fun k hk hz => ⟨hz, hk⟩⟩, fun k h1 h2 => by omega, fun k hk => by omega, fun k hk => by omega, fun k hk => hk.elim⟩
  exact ⟨heap_alloc_new w7 _, by omega, (hD.more hb).less fun k e => Or.inr ⟨by omega, by subst e; simp⟩, fun _ _ _ e => by cases e⟩

set_option maxHeartbeats 8000000 in
set_option maxRecDepth 100000 in
theorem walplays_law (W : World) (hV : SV W.heap.size W) (size : Int) (p : Option Addr) (cap : Nat) (l : List FV) (q : Option Addr) (cap' : Nat) (s : List OpW) (hp : FRow W p l) (hq : ORow6 W q s) (hls : l.length + s.length ≤ 9223372036854775807) (hfs : ∀ f ∈ l, f.1.size ≤ 140737488351232 ∧ f.2.1.size ≤ 140737488351232) :
    Calls Tryz.prog 3 #[.int .i64 size, .slice p l.length cap, .slice q s.length cap'] W fun e w' => e = .returned (.bool true) ∧ Below W.heap.size W w' := by
  have HV : Hid (SV W.heap.size W) := hV
  have HP : Hid (FRow W p l) := hp
  have HQ : Hid (ORow6 W q s) := hq
  have HFS0 : Hid (∀ f ∈ l, f.1.size ≤ 140737488351232 ∧ f.2.1.size ≤ 140737488351232) := hfs
  clear hp hq hfs hV
  go_enter Tryz.func3, Tryz.ntmps3
  go_wp2_with fail
  refine (weighs6f_any W p cap l q cap' s hls HP.out HQ.out HFS0.out).mono ?_
  rintro e w1 ⟨m, rfl, hm, hb1⟩
  have HB1 : Hid (Below W.heap.size W w1) := hb1
  clear hb1
  by_cases hbig : 2147483647 < m
  · have hbigi : (2147483647 : Int) < (m : Int) := by omega
    clear hm
    go_wp2
    go_ret
    exact ⟨rfl, HB1.out⟩
  have hbigi : ¬ (2147483647 : Int) < (m : Int) := by omega
  obtain ⟨hl2, hfs2, hos2⟩ := hm (by omega)
  have HFS : Hid (∀ f ∈ l, FSm f) := hfs2
  have HOS : Hid (∀ x ∈ s, Sm x) := hos2
  have hl3 : l.length ≤ 2147483647 := by omega
  have hs3 : s.length ≤ 2147483647 := by omega
  clear hm hfs2 hos2 hls hl2 hbig
  go_wp2_with fail
  refine (awake_any W.heap.size w1 HB1.out.size (HV.out.on HB1.out)).mono ?_
  rintro e w2 ⟨rfl, hb2⟩
  have HB2 : Hid (Below W.heap.size W w2) := HB1.out.trans (hb2.mono HB1.out.size)
  have HP2 : Hid (FRow w2 p l) := HP.out.later HB2.out
  clear hb2 hbigi
  go_wp2_with fail
  refine (new_any size p cap l w2 (by omega) (fun f hf => by have := (HFS.out f hf).2; omega) HP2.out).mono ?_
  rintro e w3 ⟨hb3, hcase⟩
  have HB3 : Hid (Below w2.heap.size w2 w3) := hb3
  have HP3 : Hid (FRow w3 p l) := HP2.out.later hb3
  clear hb3
  rcases hcase with ⟨hne, rfl⟩ | ⟨he0, a, rfl, hd3⟩
  · obtain ⟨E, hE⟩ : ∃ E, newE size l = E := ⟨_, rfl⟩
    rw [hE]
    have HE : Hid (newE size l = E) := hE
    rw [hE] at hne
    clear hE
    go_wp2_with fail
    refine (rnew_any size p cap l w3 (by omega) (fun f hf => by have := HFS.out f hf; unfold FSm at this; omega) HP3.out).mono ?_
    rintro e w4 ⟨hb4, hcase⟩
    rcases hcase with ⟨_, rfl⟩ | ⟨h0, _⟩
    · rw [HE.out]
      have HB4 : Hid (Below W.heap.size W w4) := HB2.out.trans ((HB3.out.trans (hb4.mono HB3.out.size)).mono HB2.out.size)
      clear hb4
      go_wp2
      go_ret
      exact ⟨rfl, HB4.out⟩
    · exact absurd (HE.out.symm.trans h0) hne
  · go_wp2_with fail
    refine (rnew_any size p cap l w3 (by omega) (fun f hf => by have := HFS.out f hf; unfold FSm at this; omega) HP3.out).mono ?_
    rintro e w4 ⟨hb4, hcase⟩
    rcases hcase with ⟨hn0, _⟩ | ⟨_, c, v, rfl, hr4⟩
    · exact absurd he0 hn0
    · have HB4 : Hid (Below W.heap.size W w4) := HB2.out.trans ((HB3.out.trans (hb4.mono HB3.out.size)).mono HB2.out.size)
      have HPN : Hid (PairAt W.heap.size (w4.alloc (.cells #[.pointer (some ⟨a, 0, none⟩), .pointer (some ⟨c, 0, none⟩), .pointer none, .pointer none] 37)) w4.heap.size a c (newSt size l) none) := pair_new HB2.out.size (HV.out.on HB4.out) HB3.out hb4 hd3 hr4
      have HB5 : Hid (Below W.heap.size W (w4.alloc (.cells #[.pointer (some ⟨a, 0, none⟩), .pointer (some ⟨c, 0, none⟩), .pointer none, .pointer none] 37))) := HB4.out.alloc HB4.out.size _
      clear hb4 hd3 hr4 he0 HP3 HP2
      go_wp2
      go_loopw [14] (fun i wr => ∃ (k : Nat) (st : St) (o : Option (Nat × Nat × Lg)), k ≤ s.length ∧ i = .int .i64 (k : Int) ∧ st.steps ≤ 100 * k ∧ PairAt W.heap.size wr w4.heap.size a c st o ∧ Below W.heap.size W wr) (fun i _ => s.length - (intOf i).toNat)
      case atStart => exact ⟨0, newSt size l, none, Nat.zero_le _, rfl, Nat.le_of_eq rfl, HPN.out, HB5.out⟩
      case round =>
        clear HPN HB5
        obtain ⟨j, st, o, hj, rfl, hst, hpa, hb⟩ := hrel
        have HPA : Hid (PairAt W.heap.size wr w4.heap.size a c st o) := hpa
        have HB : Hid (Below W.heap.size W wr) := hb
        have HST : Hid (st.steps ≤ 100 * j) := hst
        clear hpa hb hst
        by_cases hjs : j < s.length
        · have hjsi : (j : Int) < (s.length : Int) := by omega
          obtain ⟨x, hx⟩ : ∃ x, s[j] = x := ⟨_, rfl⟩
          obtain ⟨bb, off, rfl, hop⟩ := (HQ.out.later HB.out) j hjs
          rw [hx] at hop
          have HOK : Hid (Op6Ok W.heap.size wr x) := by
            refine ⟨HOS.out x (by rw [← hx]; exact List.getElem_mem hjs), hop.ints, hop.kl, hop.nb, fun h0 b off e => ?_⟩
            obtain ⟨_, _, _, hop0⟩ := HQ.out j hjs
            rw [hx] at hop0
            obtain ⟨b', off', e', hc⟩ := hop0.ints 0 h0
            rw [e] at e'
            obtain ⟨rfl, rfl⟩ : b = b' ∧ off = off' := by simpa using e'
            exact World.block_lt_of_cell? _ _ hc
          have d0 := hop.c0
          have d1 := hop.c1
          have d2 := hop.c2
          have d3 := hop.c3
          have d4 := hop.c4
          have HS1 : Hid (st.steps < 4611680000000000000) := by
            have h1 := HST.out
            have : st.steps < 4611680000000000000 := by omega
            exact this
          clear hx hop
          go_wp2_with fail
          refine (plays6_any W.heap.size wr w4.heap.size a c st o x HPA.out HOK.out HS1.out).mono ?_
          rintro e w9 ⟨rfl, ⟨st', o', hpa', hst'⟩, hb9⟩
          have HPA' : Hid (PairAt W.heap.size w9 w4.heap.size a c st' o') := hpa'
          have HB9 : Hid (Below W.heap.size W w9) := HB.out.trans hb9
          have HS9 : Hid (st'.steps ≤ 100 * (j + 1)) := by
            have h1 := HST.out
            have : st'.steps ≤ 100 * (j + 1) := by omega
            exact this
          clear hpa' hb9 hst' d0 d1 d2 d3 d4
          go_wp2
          go_roundw
          case rel => exact ⟨j + 1, st', o', by omega, by go_num, HS9.out, HPA'.out, HB9.out⟩
          case measure => simp [intOf]; omega
        · have hjsi : ¬ (j : Int) < (s.length : Int) := by omega
          go_wp2_with fail
          refine (looks6_any W.heap.size wr w4.heap.size a c st o HPA.out).mono ?_
          rintro e wa ⟨rfl, hba⟩
          have HBa : Hid (Below W.heap.size W wa) := HB.out.trans (hba.mono HB.out.size)
          clear hba
          go_wp2
          go_ret
          exact ⟨rfl, HBa.out⟩
end Go.Proofs.YtckmjmpajbjbkaaGreatDoor
