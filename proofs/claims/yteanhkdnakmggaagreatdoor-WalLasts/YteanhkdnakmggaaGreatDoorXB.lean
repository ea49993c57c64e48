/- Layer 6, without the program: the chapter's first example. -/
import Derived.Test.YteanhkdnakmggaaGreatDoorM61
import Derived.KernelRfl
import Derived.Test.YteanhkdnakmggaaGreatDoorJ13
import Derived.Test.YteanhkdnakmggaaGreatDoorJ7
import Derived.Test.YteanhkdnakmggaaGreatDoorM62
import Derived.Test.YteanhkdnakmggaaGreatDoorJ5
import Derived.Test.YteanhkdnakmggaaGreatDoorD11
namespace Go.Proofs.YteanhkdnakmggaaGreatDoor
open Go

def a0 : St := ⟨1000, [], 0, -1, false⟩
def l0 : Lg := ⟨2, 5, 5, []⟩
def q1 : (Int × Int) × St × Lg := appendL a0 l0 [97]
def q2 : (Int × Int) × St × Lg := appendL q1.2.1 q1.2.2 [98]
def q3 : (Int × Int) × St × Lg := appendL q2.2.1 q2.2.2 [99]
theorem aw_open : openR a0 5 2 = (0, a0, some l0) := by kernel_rfl
theorem aw_1 : q1.1 = (5, 0) ∧ q1.2.1.steps = 1 ∧ q1.2.2.segs.isEmpty = false := ⟨by kernel_rfl, by kernel_rfl, by kernel_rfl⟩
theorem aw_2 : q2.1 = (6, 0) ∧ q2.2.1.steps = 2 ∧ q2.2.2.segs.isEmpty = false := ⟨by kernel_rfl, by kernel_rfl, by kernel_rfl⟩
theorem aw_3 : q3.1 = (7, 0) ∧ q3.2.2.safe = 7 ∧ q3.2.2.next = 8 := ⟨by kernel_rfl, by kernel_rfl, by kernel_rfl⟩
theorem aw_r6 : readL q3.2.2 6 = ([98], 0) := by kernel_rfl
theorem aw_r8 : readL q3.2.2 8 = ([], 61) := by kernel_rfl
theorem aw_fs : q3.2.1.fs = [([108, 111, 103, 46, 48, 48, 48, 48, 48, 48, 48, 48, 48, 48, 48, 53], (cat [[97], [98]], 14)), ([108, 111, 103, 46, 48, 48, 48, 48, 48, 48, 48, 48, 48, 48, 48, 55], (cat [[99]], 0))] := by kernel_rfl
theorem ne_of_empty {l : List Sg} (h : l.isEmpty = false) {P : Prop} : l = [] → P := fun e => by
  rw [e] at h
  cases h
end Go.Proofs.YteanhkdnakmggaaGreatDoor
/- Walks of layer 6, fourteenth part: the statements' first calls (awake). -/
namespace Go.Proofs.YteanhkdnakmggaaGreatDoor
open Go.RowKit

theorem zone_new {w w1 : World} (h : w.heap.size ≤ w1.heap.size) : ∀ k, w1.heap.size ≤ k → (fun k => w.heap.size ≤ k) k := fun _ hk => Nat.le_trans h hk
theorem Only.zone {w w1 w2 : World} (hb : Below w.heap.size w w1) (ho : Only (fun k => w.heap.size ≤ k) w1 w2) : Below w.heap.size w w2 := hb.trans (ho.below hb.size (fun _ hk h => by omega))
theorem new_a0 : newE 1000 [] = 0 ∧ newSt 1000 [] = a0 := ⟨by decide, rfl⟩
theorem IsLog.all {B : Nat} {w : World} {X : Nat → Prop} {l a : Nat} {st : St} {g : Lg} (h : IsLog B w X l a st g) : ∃ Y Z p cap es, LogAt w Y l a g p cap es ∧ LgW g ∧ IsDisk w Z a st := by
  obtain ⟨p, cap, es, _, _, _, hg, Z, Y, k1, k2, _⟩ := h
  exact ⟨Y, Z, p, cap, es, k2, hg, k1⟩

set_option maxHeartbeats 8000000 in
set_option maxRecDepth 100000 in
theorem awake_any (B : Nat) (w : World) (hB : B ≤ w.heap.size) (hV : SV B w) : Calls Tryz.prog 8 #[] w fun e w' => e = .returned (.bool true) ∧ Below w.heap.size w w' := by
  have HB : Hid (B ≤ w.heap.size) := hB
  have HV : Hid (SV B w) := hV
  clear hB hV
  obtain ⟨st1, hst1⟩ : ∃ st1, st1 = q1.2.1 := ⟨_, rfl⟩
  obtain ⟨g1, hg1⟩ : ∃ g1, g1 = q1.2.2 := ⟨_, rfl⟩
  obtain ⟨st2, hst2⟩ : ∃ st2, st2 = q2.2.1 := ⟨_, rfl⟩
  obtain ⟨g2, hg2⟩ : ∃ g2, g2 = q2.2.2 := ⟨_, rfl⟩
  obtain ⟨st3, hst3⟩ : ∃ st3, st3 = q3.2.1 := ⟨_, rfl⟩
  obtain ⟨g3, hg3⟩ : ∃ g3, g3 = q3.2.2 := ⟨_, rfl⟩
  have HQ1 : Hid (appendL a0 l0 [97] = ((5, 0), st1, g1)) := by
    have : appendL a0 l0 [97] = ((5, 0), st1, g1) := by rw [hst1, hg1, ← aw_1.1]; rfl
    exact this
  have HQ2 : Hid (appendL st1 g1 [98] = ((6, 0), st2, g2)) := by
    have : appendL st1 g1 [98] = ((6, 0), st2, g2) := by rw [hst1, hg1, hst2, hg2, ← aw_2.1]; rfl
    exact this
  have HQ3 : Hid (appendL st2 g2 [99] = ((7, 0), st3, g3)) := by
    have : appendL st2 g2 [99] = ((7, 0), st3, g3) := by rw [hst2, hg2, hst3, hg3, ← aw_3.1]; rfl
    exact this
  have HS1 : Hid (st1.steps = 1 ∧ g1.segs.isEmpty = false) := by rw [hst1, hg1]; exact aw_1.2
  have HS2 : Hid (st2.steps = 2 ∧ g2.segs.isEmpty = false) := by rw [hst2, hg2]; exact aw_2.2
  have HS3 : Hid (g3.safe = 7 ∧ g3.next = 8) := by rw [hg3]; exact aw_3.2
  have HR6 : Hid (readL g3 6 = ([98], 0)) := by rw [hg3]; exact aw_r6
  have HR8 : Hid (readL g3 8 = ([], 61)) := by rw [hg3]; exact aw_r8
  have HF3 : Hid (st3.fs = [([108, 111, 103, 46, 48, 48, 48, 48, 48, 48, 48, 48, 48, 48, 48, 53], (cat [[97], [98]], 14)), ([108, 111, 103, 46, 48, 48, 48, 48, 48, 48, 48, 48, 48, 48, 48, 55], (cat [[99]], 0))]) := by rw [hst3]; exact aw_fs
  clear hst1 hg1 hst2 hg2 hst3 hg3
  go_enter Tryz.func8, Tryz.ntmps8
  go_wp2_with fail
  refine (new_any 1000 none 0 [] w (by simp) (by simp) (FRow.nil _ _)).mono ?_
  rintro e w1 ⟨hb1, hN⟩
  rcases hN with ⟨hN, _⟩ | ⟨_, a, rfl, hi1⟩
  · exact absurd new_a0.1 hN
  rw [new_a0.2] at hi1
  have HB1 : Hid (Below w.heap.size w w1) := hb1
  have HI1 : Hid (IsDisk w1 (fun k => w.heap.size ≤ k) a a0) := hi1
  clear hb1 hi1
  go_wp2_with fail
  refine (open_any B w1 (fun k => w.heap.size ≤ k) a a0 (Nat.le_trans HB.out HB1.out.size) (HV.out.later HB.out HB1.out) (fun k hk => Nat.le_trans HB.out hk) (zone_new HB1.out.size) HI1.out (by decide) 5 2).mono ?_
  rw [aw_open]
  rintro e w2 ⟨ho2, hcase⟩
  rcases hcase with ⟨h0, _⟩ | ⟨l, g, hg, rfl, hi2⟩
  · cases h0
  obtain rfl : l0 = g := by simpa using hg
  have HB2 : Hid (Below w.heap.size w w2) := ho2.zone HB1.out
  have HI2 : Hid (IsLog B w2 (fun k => w.heap.size ≤ k) l a a0 l0) := hi2
  clear ho2 hi2 hg
  go_wp2_with fail
  refine (lappend_any B w2 _ l a a0 l0 HI2.out (fun _ => rfl) (zone_new HB2.out.size) (by decide) ⟨#[97]⟩ (by decide)).mono ?_
  rw [show (⟨#[97]⟩ : ByteArray).data.toList = [97] from rfl, HQ1.out]
  rintro e w3 ⟨rfl, hi3, ho3⟩
  simp only at hi3
  have HB3 : Hid (Below w.heap.size w w3) := ho3.zone HB2.out
  have HI3 : Hid (IsLog B w3 (fun k => w.heap.size ≤ k) l a st1 g1) := hi3
  simp only [appV]
  clear ho3 hi3
  go_wp2_with fail
  refine (lappend_any B w3 _ l a st1 g1 HI3.out (ne_of_empty HS1.out.2) (zone_new HB3.out.size) (by rw [HS1.out.1]; decide) ⟨#[98]⟩ (by decide)).mono ?_
  rw [show (⟨#[98]⟩ : ByteArray).data.toList = [98] from rfl, HQ2.out]
  rintro e w4 ⟨rfl, hi4, ho4⟩
  simp only at hi4
  have HB4 : Hid (Below w.heap.size w w4) := ho4.zone HB3.out
  have HI4 : Hid (IsLog B w4 (fun k => w.heap.size ≤ k) l a st2 g2) := hi4
  simp only [appV]
  clear ho4 hi4
  go_wp2_with fail
  refine (lappend_any B w4 _ l a st2 g2 HI4.out (ne_of_empty HS2.out.2) (zone_new HB4.out.size) (by rw [HS2.out.1]; decide) ⟨#[99]⟩ (by decide)).mono ?_
  rw [show (⟨#[99]⟩ : ByteArray).data.toList = [99] from rfl, HQ3.out]
  rintro e w5 ⟨rfl, hi5, ho5⟩
  simp only at hi5
  have HB5 : Hid (Below w.heap.size w w5) := ho5.zone HB4.out
  obtain ⟨Y, Z, p, cap, es, hL, hg, hD⟩ := hi5.all
  have HL : Hid (LogAt w5 Y l a g3 p cap es) := hL
  have HG : Hid (LgW g3) := hg
  have HD : Hid (IsDisk w5 Z a st3) := hD
  simp only [appV]
  clear ho5 hi5 hL hg hD
  go_wp2_with fail
  refine (safe_any _ Y l a g3 p cap es HL.out).mono ?_
  rintro e w6 ⟨rfl, hb6⟩
  rw [HS3.out.1]
  have HB6 : Hid (Below w5.heap.size w5 w6) := hb6
  clear hb6
  go_wp2_with fail
  refine (next_any _ Y l a g3 p cap es (HL.out.later HB6.out) HG.out).mono ?_
  rintro e w7 ⟨rfl, hb7⟩
  rw [HS3.out.2]
  have HB7 : Hid (Below w5.heap.size w5 w7) := HB6.out.trans (hb7.mono HB6.out.size)
  clear hb7
  go_wp2_with fail
  refine (lread_any _ Y l a g3 p cap es (HL.out.later HB7.out) HG.out 6).mono ?_
  rintro e w8 ⟨rfl, hb8⟩
  rw [HR6.out]
  have HB8 : Hid (Below w5.heap.size w5 w8) := HB7.out.trans (hb8.mono HB7.out.size)
  simp only [readV]
  clear hb8
  go_wp2_with fail
  refine (lread_any _ Y l a g3 p cap es (HL.out.later HB8.out) HG.out 8).mono ?_
  rintro e w9 ⟨rfl, hb9⟩
  rw [HR8.out]
  have HB9 : Hid (Below w5.heap.size w5 w9) := HB8.out.trans (hb9.mono HB8.out.size)
  simp only [readV]
  clear hb9
  go_wp2_with fail
  refine (files_any w9 Z a st3 (HD.out.later HB9.out)).mono ?_
  rintro e w10 ⟨v, rfl, hf, hb10⟩
  have HB10 : Hid (Below w5.heap.size w5 w10) := HB9.out.trans (hb10.mono HB9.out.size)
  rw [HF3.out] at hf
  obtain ⟨b, cp, rfl, _, _⟩ := hf.form (by decide)
  have hc := hf.cells (g := b) rfl
  have f0 := hc 0 _ rfl
  have f2 := hc 2 _ rfl
  have f5 := hc 5 _ rfl
  rw [Addr.add_lit, Nat.zero_add] at f0 f2 f5
  clear hf hc hb10
  go_wp2
  go_ret
  exact ⟨rfl, HB5.out.trans (HB10.out.mono HB5.out.size)⟩
end Go.Proofs.YteanhkdnakmggaaGreatDoor
/- Layer 6, without the program: a log's files behind a crash; what Open makes of them. -/
namespace Go.Proofs.YteanhkdnakmggaaGreatDoor
open Go

/-- What segments keep to. -/
structure SgOK (L : List Sg) : Prop where
  row : Row L
  low : ∀ s ∈ L, s.1 < 1000000000000
  small : ∀ s ∈ L, ∀ d ∈ s.2, d.length ≤ 4096
/-- The files of a log that is not open, all of them safe but what is being mended: the segments L, of T bytes at most. -/
def Shut (fs : Fs) (L : List Sg) (T : Nat) : Prop :=
  (L = [] ∧ Mnd fs) ∨ ∃ A p D, Lain fs A p D D.length ∧ L = A ++ [(p, fr D)] ∧ tot szF (A.map sfile) + D.length ≤ T
/-- They are whole. -/
def Whole (fs : Fs) (L : List Sg) : Prop := (L = [] ∧ Mnd fs) ∨ ∃ A s, Lain fs A s.1 (cat s.2) (cat s.2).length ∧ L = A ++ [s]

/-! ### reading them -/
theorem load_mend {f : Nat} {M : Fs} (h : Mnd M) (acc : List Sg) : loadR f M acc = some acc := by
  rcases h with rfl | ⟨x, rfl⟩
  · rfl
  · simp [loadR, mendN_log]
theorem Row.front : ∀ {l m : List Sg}, Row (l ++ m) → Row l
  | [], _, _ => trivial
  | [_], _, _ => trivial
  | _ :: b :: l, m, h => ⟨h.1, Row.front (l := b :: l) (m := m) h.2⟩
theorem Row.joint : ∀ {A : List Sg} {s : Sg} (f : Nat), Row (A ++ [s]) → A ≠ [] → s.1 = nextL f A
  | [a], s, f, h, _ => h.1
  | a :: b :: A, s, f, h, _ => by
    have e : nextL f (a :: b :: A) = nextL f (b :: A) := by simp [nextL]
    rw [e]
    exact Row.joint (A := b :: A) f h.2 (by simp)
theorem Shut.load {fs : Fs} {L : List Sg} {T : Nat} (h : Shut fs L T) (hL : SgOK L) (f : Nat) : loadR f fs [] = some L := by
  rcases h with ⟨rfl, hM⟩ | ⟨A, p, D, ⟨M, hM, rfl⟩, rfl, _⟩
  · exact load_mend hM []
  · have key : ∀ (A acc : List Sg) (N : Fs), Row (acc ++ A) → (∀ s ∈ A, s.1 < 1000000000000) → (∀ s ∈ A, ∀ d ∈ s.2, d.length ≤ 4096) → loadR f (A.map sfile ++ N) acc = loadR f N (acc ++ A) := by
      intro A
      induction A with
      | nil => intro acc N _ _ _; simp
      | cons s A ih =>
        intro acc N hr hl hs
        rw [List.map_cons, List.cons_append]
        show loadR f ((nameN s.1, (cat s.2, (cat s.2).length)) :: (A.map sfile ++ N)) acc = _
        rw [loadR, if_pos (nameN_log s.1), placeN_name (hl s (by simp))]
        simp only
        rw [if_neg, fr_cat (hs s (by simp)), ih (acc ++ [s]) N (by simpa using hr) (fun x hx => hl x (List.mem_cons_of_mem _ hx)) (fun x hx => hs x (List.mem_cons_of_mem _ hx))]
        · simp
        · rintro ⟨h1, h2⟩
          have hj : Row (acc ++ [s]) := Row.front (m := A) (by simpa using hr)
          exact h2 (hj.joint f h1)
    rw [key A [] _ (by simpa using hL.row.front) (fun s hs => hL.low s (by simp [hs])) (fun s hs => hL.small s (by simp [hs])), List.nil_append]
    rw [loadR, if_pos (nameN_log p), placeN_name (hL.low (p, fr D) (by simp))]
    simp only
    rw [if_neg, load_mend hM]
    rintro ⟨h1, h2⟩
    exact h2 (hL.row.joint f h1)

/-! ### settling them -/
theorem Lain.read {st : St} {A : List Sg} {p k : Nat} {D : List UInt8} (h : Lain st.fs A p D k) (hok : OKs st) (hd : st.down = false) : readR st (nameN p) = (D, 0) := by
  have hg := h.find hok.files.sorted
  simp [readR, hd, findE_some (nameN_ok p) hg, fileOf, hg]
theorem Lain.names (A : List Sg) (p k : Nat) (D : List UInt8) : ∀ q ∈ A.map sfile ++ [(nameN p, (D, k))], Op.bytesLess q.1 mendN = true := by
  intro q hq
  rcases List.mem_append.1 hq with hq | hq
  · obtain ⟨s, _, rfl⟩ := List.mem_map.1 hq
    exact name_mend _
  · obtain rfl : q = (nameN p, (D, k)) := by simpa using hq
    exact name_mend _
/-- What the steps of mending leave: the segments as they were, or, when all is done, whole. -/
theorem mend_shut {st : St} {A : List Sg} {p : Nat} {D W : List UInt8} (hok : OKs st) (hl : Lain st.fs A p D D.length) :
    OKs (mendR st (nameN p) W).2 ∧ (mendR st (nameN p) W).2.size = st.size ∧ (mendR st (nameN p) W).2.steps ≤ st.steps + 4 ∧
    ((mendR st (nameN p) W).1 = 0 → Lain (mendR st (nameN p) W).2.fs A p W W.length ∧ (mendR st (nameN p) W).2.down = false) ∧
    ((mendR st (nameN p) W).1 ≠ 0 → Lain (mendR st (nameN p) W).2.fs A p D D.length ∧ (((mendR st (nameN p) W).1 = 3 ∧ (mendR st (nameN p) W).2.down = true) ∨ ((mendR st (nameN p) W).1 = 42 ∧ st.size < tot szF (A.map sfile) + D.length + W.length ∨ (mendR st (nameN p) W).1 = 42 ∧ 64 ≤ A.length + 1))) ∧
    (st.armed = -1 → (mendR st (nameN p) W).2.armed = -1 ∧ (st.down = false → (mendR st (nameN p) W).2.down = false)) := by
  obtain ⟨M, hM, hfs⟩ := hl
  have hsr := hok.files.sorted
  have hnm := Lain.names A p D.length D
  -- the first step
  obtain ⟨r1, hr1⟩ : ∃ r1, remR st mendN = r1 := ⟨_, rfl⟩
  have ok1 := remR_ok hok mendN
  have sz1 := stepR_size st (findE st.fs mendN) (remF mendN)
  have st1 := stepR_steps st (findE st.fs mendN) (remF mendN)
  have tw1 := stepR_two st (findE st.fs mendN) (remF mendN) (findE_nn _ _)
  have d31 := stepR_down3 st (findE st.fs mendN) (remF mendN)
  have cm1 := fun ha hd => stepR_calm (st := st) (findE st.fs mendN) (remF mendN) ha hd
  have ar1 : st.armed = -1 → (stepR st (findE st.fs mendN) (remF mendN)).2.armed = -1 := fun ha => by
    unfold stepR
    split
    · exact ha
    · split
      · exact ha
      · split
        · exact ha
        · simp [ha]
  have e1 : stepR st (findE st.fs mendN) (remF mendN) = r1 := hr1
  rw [hr1] at ok1
  rw [e1] at sz1 st1 tw1 d31 cm1 ar1
  have hfE : findE st.fs mendN = 0 ∨ findE st.fs mendN = 41 := by
    unfold findE
    rw [if_pos mendN_ok]
    split
    · exact Or.inl rfl
    · exact Or.inr rfl
  have hsplit : st.fs = (A.map sfile ++ [(nameN p, (D, D.length))]) ++ M := by rw [hfs]; simp
  -- the files behind the first step, if it goes on
  have hgo : ¬ (r1.1 ≠ 0 ∧ r1.1 ≠ 41) → r1.2.fs = A.map sfile ++ [(nameN p, (D, D.length))] := fun hn => by
    rcases hM with rfl | ⟨x, rfl⟩
    · have hnone : getL st.fs mendN = none := by
        rw [hsplit, List.append_nil]
        have := getL_new (M := ([] : Fs)) hnm (by simp)
        rw [List.append_nil] at this
        exact this
      have hE : findE st.fs mendN = 41 := by simp [findE, mendN_ok, hnone]
      rcases tw1 with ⟨_, b⟩ | ⟨_, b, _⟩
      · rw [b, hsplit, List.append_nil]
      · omega
    · have hsr2 := hsr
      rw [hsplit] at hsr2
      have hsome : getL st.fs mendN = some x := by rw [hsplit]; exact getL_mid hsr2
      have hE : findE st.fs mendN = 0 := findE_some mendN_ok hsome
      rcases tw1 with ⟨a, b⟩ | ⟨_, _, _, b, _⟩
      · have h0 : r1.1 ≠ 0 := by omega
        rcases d31 with q | ⟨q, _⟩ | ⟨q, _⟩
        · omega
        · exact absurd ⟨h0, by omega⟩ hn
        · omega
      · rw [b, hsplit, remF, delL_mid hsr2, List.append_nil]
  have hbad : (r1.1 ≠ 0 ∧ r1.1 ≠ 41) → Lain r1.2.fs A p D D.length ∧ (r1.1 = 3 ∧ r1.2.down = true) := fun hn => by
    rcases tw1 with ⟨_, b⟩ | ⟨a, _⟩
    · refine ⟨⟨M, hM, by rw [b, hfs]⟩, ?_⟩
      rcases d31 with q | q | ⟨_, q, _⟩
      · omega
      · exact q
      · omega
    · omega
  -- the second
  obtain ⟨r2, hr2⟩ : ∃ r2, appR r1.2 mendN W = r2 := ⟨_, rfl⟩
  have ok2 := appR_ok ok1 mendN W
  have sz2 := stepR_size r1.2 (roomE r1.2 mendN W.length) (appF mendN W)
  have st2 := stepR_steps r1.2 (roomE r1.2 mendN W.length) (appF mendN W)
  have tw2 := stepR_two r1.2 (roomE r1.2 mendN W.length) (appF mendN W) (roomE_nn _ _ _)
  have d32 := stepR_down3 r1.2 (roomE r1.2 mendN W.length) (appF mendN W)
  have cm2 := fun ha hd => stepR_calm (st := r1.2) (roomE r1.2 mendN W.length) (appF mendN W) ha hd
  have ar2 : r1.2.armed = -1 → (stepR r1.2 (roomE r1.2 mendN W.length) (appF mendN W)).2.armed = -1 := fun ha => by
    unfold stepR
    split
    · exact ha
    · split
      · exact ha
      · split
        · exact ha
        · simp [ha]
  have e2 : stepR r1.2 (roomE r1.2 mendN W.length) (appF mendN W) = r2 := hr2
  rw [hr2] at ok2
  rw [e2] at sz2 st2 tw2 d32 cm2 ar2
  -- the third
  obtain ⟨r3, hr3⟩ : ∃ r3, synR r2.2 mendN = r3 := ⟨_, rfl⟩
  have ok3 := synR_ok ok2 mendN
  have sz3 := stepR_size r2.2 (findE r2.2.fs mendN) (synF mendN)
  have st3 := stepR_steps r2.2 (findE r2.2.fs mendN) (synF mendN)
  have tw3 := stepR_two r2.2 (findE r2.2.fs mendN) (synF mendN) (findE_nn _ _)
  have d33 := stepR_down3 r2.2 (findE r2.2.fs mendN) (synF mendN)
  have cm3 := fun ha hd => stepR_calm (st := r2.2) (findE r2.2.fs mendN) (synF mendN) ha hd
  have ar3 : r2.2.armed = -1 → (stepR r2.2 (findE r2.2.fs mendN) (synF mendN)).2.armed = -1 := fun ha => by
    unfold stepR
    split
    · exact ha
    · split
      · exact ha
      · split
        · exact ha
        · simp [ha]
  have e3 : stepR r2.2 (findE r2.2.fs mendN) (synF mendN) = r3 := hr3
  rw [hr3] at ok3
  rw [e3] at sz3 st3 tw3 d33 cm3 ar3
  -- the fourth
  obtain ⟨r4, hr4⟩ : ∃ r4, renR r3.2 mendN (nameN p) = r4 := ⟨_, rfl⟩
  have ok4 := renR_ok ok3 mendN (nameN p)
  have sz4 := stepR_size r3.2 (renE r3.2.fs mendN (nameN p)) (renF mendN (nameN p))
  have st4 := stepR_steps r3.2 (renE r3.2.fs mendN (nameN p)) (renF mendN (nameN p))
  have tw4 := stepR_two r3.2 (renE r3.2.fs mendN (nameN p)) (renF mendN (nameN p)) (renE_nn _ _ _)
  have d34 := stepR_down3 r3.2 (renE r3.2.fs mendN (nameN p)) (renF mendN (nameN p))
  have cm4 := fun ha hd => stepR_calm (st := r3.2) (renE r3.2.fs mendN (nameN p)) (renF mendN (nameN p)) ha hd
  have ar4 : r3.2.armed = -1 → (stepR r3.2 (renE r3.2.fs mendN (nameN p)) (renF mendN (nameN p))).2.armed = -1 := fun ha => by
    unfold stepR
    split
    · exact ha
    · split
      · exact ha
      · split
        · exact ha
        · simp [ha]
  have e4 : stepR r3.2 (renE r3.2.fs mendN (nameN p)) (renF mendN (nameN p)) = r4 := hr4
  rw [hr4] at ok4
  rw [e4] at sz4 st4 tw4 d34 cm4 ar4
  have hm : mendR st (nameN p) W = if r1.1 ≠ 0 ∧ r1.1 ≠ 41 then r1 else if r2.1 ≠ 0 then r2 else if r3.1 ≠ 0 then r3 else r4 := by
    simp only [mendR, thenR, hr1, hr2, hr3, hr4]
  rw [hm]
  by_cases h1 : r1.1 ≠ 0 ∧ r1.1 ≠ 41
  · rw [if_pos h1]
    obtain ⟨b1, b2⟩ := hbad h1
    exact ⟨ok1, sz1, by omega, fun q => absurd q h1.1, fun _ => ⟨b1, Or.inl b2⟩, fun ha => ⟨ar1 ha, fun hd => (cm1 ha hd).2.2⟩⟩
  rw [if_neg h1]
  have g1 := hgo h1
  have hlt : ∀ q ∈ ([] : Fs), Op.bytesLess mendN q.1 = true := by simp
  have hnone1 : getL r1.2.fs mendN = none := by
    rw [g1]
    have := getL_new (M := ([] : Fs)) hnm hlt
    rw [List.append_nil] at this
    exact this
  by_cases h2 : r2.1 ≠ 0
  · rw [if_pos h2]
    have b2 : r2.2.fs = r1.2.fs := by
      rcases tw2 with ⟨_, b⟩ | ⟨a, _⟩
      · exact b
      · exact absurd a h2
    refine ⟨ok2, by omega, by omega, fun q => absurd q h2, fun _ => ⟨⟨[], Or.inl rfl, by rw [b2, g1]⟩, ?_⟩, fun ha => ⟨ar2 (ar1 ha), fun hd => (cm2 (ar1 ha) (cm1 ha hd).2.2).2.2⟩⟩
    rcases d32 with q | q | ⟨q1, q2, _⟩
    · exact absurd q h2
    · exact Or.inl q
    · right
      have hE : roomE r1.2 mendN W.length = 42 ∧ (r1.2.size < tot szF r1.2.fs + W.length ∨ 64 ≤ r1.2.fs.length) := by
        unfold roomE at q1 ⊢
        rw [if_pos mendN_ok] at q1 ⊢
        split at q1
        · rename_i hc
          rw [if_pos hc]
          refine ⟨rfl, ?_⟩
          rcases hc with hc | ⟨_, hc⟩
          · exact Or.inl hc
          · exact Or.inr hc
        · exact absurd rfl q1
      have htot : tot szF r1.2.fs = tot szF (A.map sfile) + D.length := by
        rw [g1]
        simp [tot, szF]
      have hlen : r1.2.fs.length = A.length + 1 := by rw [g1]; simp
      rw [htot, hlen] at hE
      rcases hE.2 with hc | hc
      · exact Or.inl ⟨by omega, by omega⟩
      · exact Or.inr ⟨by omega, hc⟩
  rw [if_neg h2]
  have g2 : r2.2.fs = (A.map sfile ++ [(nameN p, (D, D.length))]) ++ [(mendN, (W, 0))] := by
    rcases tw2 with ⟨a, _⟩ | ⟨_, _, _, b, _⟩
    · omega
    · rw [b, appF, fileOf, hnone1, g1]
      have := putL_new (M := ([] : Fs)) hnm hlt ((([], 0) : Fl).1 ++ W, (([], 0) : Fl).2)
      rw [List.append_nil] at this
      simpa using this
  have hd2 : r2.2.down = false := by
    rcases tw2 with ⟨a, _⟩ | ⟨_, _, _, _, b⟩
    · omega
    · exact b
  have hsr2 := ok2.files.sorted
  rw [g2] at hsr2
  have hget2 : getL r2.2.fs mendN = some (W, 0) := by rw [g2]; exact getL_mid hsr2
  by_cases h3 : r3.1 ≠ 0
  · rw [if_pos h3]
    have b3 : r3.2.fs = r2.2.fs := by
      rcases tw3 with ⟨_, b⟩ | ⟨a, _⟩
      · exact b
      · exact absurd a h3
    refine ⟨ok3, by omega, by omega, fun q => absurd q h3, fun _ => ⟨⟨[(mendN, (W, 0))], Or.inr ⟨_, rfl⟩, by rw [b3, g2]; simp⟩, Or.inl ?_⟩, fun ha => ⟨ar3 (ar2 (ar1 ha)), fun hd => (cm3 (ar2 (ar1 ha)) hd2).2.2⟩⟩
    rcases d33 with q | q | ⟨q, _⟩
    · exact absurd q h3
    · exact q
    · exact absurd (findE_some mendN_ok hget2) q
  rw [if_neg h3]
  have g3 : r3.2.fs = (A.map sfile ++ [(nameN p, (D, D.length))]) ++ [(mendN, (W, W.length))] := by
    rcases tw3 with ⟨a, _⟩ | ⟨_, _, _, b, _⟩
    · omega
    · rw [b, synF, fileOf, hget2, g2, putL_mid hsr2]
      rfl
  have hd3 : r3.2.down = false := by
    rcases tw3 with ⟨a, _⟩ | ⟨_, _, _, _, b⟩
    · omega
    · exact b
  have hsr3 := ok3.files.sorted
  rw [g3] at hsr3
  have hget3 : getL r3.2.fs mendN = some (W, W.length) := by rw [g3]; exact getL_mid hsr3
  have hE4 : renE r3.2.fs mendN (nameN p) = 0 := by
    unfold renE
    rw [if_pos (nameN_ok p)]
    exact findE_some mendN_ok hget3
  refine ⟨ok4, by omega, by omega, fun q => ⟨?_, ?_⟩, fun q => ⟨?_, Or.inl ?_⟩, fun ha => ⟨ar4 (ar3 (ar2 (ar1 ha))), fun _ => (cm4 (ar3 (ar2 (ar1 ha))) hd3).2.2⟩⟩
  · rcases tw4 with ⟨a, _⟩ | ⟨_, _, _, b, _⟩
    · omega
    · refine ⟨[], Or.inl rfl, ?_⟩
      have hs4 : srt (A.map sfile ++ (nameN p, (D, D.length)) :: []) := (List.pairwise_append.1 hsr3).1
      rw [b, renF, fileOf, hget3, g3, delL_mid hsr3, List.append_nil]
      exact putL_mid hs4 _
  · rcases tw4 with ⟨a, _⟩ | ⟨_, _, _, _, b⟩
    · omega
    · exact b
  · rcases tw4 with ⟨_, b⟩ | ⟨a, _⟩
    · exact ⟨[(mendN, (W, W.length))], Or.inr ⟨_, rfl⟩, by rw [b, g3]; simp⟩
    · exact absurd a q
  · rcases d34 with r | r | ⟨r, _⟩
    · exact absurd r q
    · exact r
    · exact absurd hE4 r
end Go.Proofs.YteanhkdnakmggaaGreatDoor
/- Layer 6, without the program: a log is settled, opened, crashed. -/
namespace Go.Proofs.YteanhkdnakmggaaGreatDoor
open Go

theorem fr_join {d : List UInt8} (hd : d.length ≤ 4096) (x : List UInt8) : fr (frm d ++ x) = d :: fr x := by
  have h1 : AllIs (frm d) [d] (frm d).length := by
    have := AllIs.whole (ds := [d]) (by simpa using hd)
    rwa [cat_one] at this
  exact (h1.join rfl (fr_is x)).fr.1.symm
/-- What is left of frames that are cut. -/
theorem fr_take : ∀ {ds : List (List UInt8)}, (∀ d ∈ ds, d.length ≤ 4096) → ∀ j, ∃ i, i ≤ ds.length ∧ fr ((cat ds).take j) = ds.take i ∧ ∀ m, m ≤ ds.length → (cat (ds.take m)).length ≤ j → m ≤ i
  | [], _, j => ⟨0, Nat.le_refl _, by simp [cat]; exact fr_cat (ds := []) (by simp), fun m hm _ => hm⟩
  | d :: ds, h, j => by
    have hd := h d (by simp)
    by_cases hj : j < 6 + d.length
    · refine ⟨0, Nat.zero_le _, ?_, fun m _ hc => ?_⟩
      · have e : (cat (d :: ds)).take j = cat [] ++ (frm d).take j := by
          show (frm d ++ cat ds).take j = [] ++ (frm d).take j
          rw [List.take_append_of_le_length (by rw [frm_length]; omega)]
          rfl
        rw [e, fr_torn (by simp) hd hj]
        rfl
      · cases m with
        | zero => exact Nat.le_refl _
        | succ m =>
          rw [List.take_succ_cons, cat, List.length_append, frm_length] at hc
          omega
    · obtain ⟨i, h1, h2, h3⟩ := fr_take (ds := ds) (fun x hx => h x (List.mem_cons_of_mem _ hx)) (j - (6 + d.length))
      refine ⟨i + 1, by simpa using h1, ?_, fun m hm hc => ?_⟩
      · have e : (cat (d :: ds)).take j = frm d ++ (cat ds).take (j - (6 + d.length)) := by
          rw [cat, List.take_append, frm_length, List.take_of_length_le (by rw [frm_length]; omega)]
        rw [e, fr_join hd, h2, List.take_succ_cons]
      · cases m with
        | zero => exact Nat.zero_le _
        | succ m =>
          rw [List.take_succ_cons, cat, List.length_append, frm_length] at hc
          exact Nat.succ_le_succ (h3 m (by simpa using hm) (by omega))

structure Settled (st : St) (L : List Sg) (T : Nat) (r : Int × St) : Prop where
  ok : OKs r.2
  size : r.2.size = st.size
  steps : r.2.steps ≤ st.steps + 4
  shut : Shut r.2.fs L T
  yes : r.1 = 0 → Whole r.2.fs L ∧ r.2.down = false
  no : r.1 ≠ 0 → (r.1 = 3 ∧ r.2.down = true) ∨ (r.1 = 42 ∧ (st.size < T + T ∨ 64 ≤ L.length))
  calm : st.armed = -1 → r.2.armed = -1 ∧ r.2.down = false
theorem Whole.shut {fs : Fs} {L : List Sg} {T : Nat} (h : Whole fs L) (hL : SgOK L) (hT : tot szF fs ≤ T) : Shut fs L T := by
  rcases h with h | ⟨A, s, ⟨M, hM, e⟩, rfl⟩
  · exact Or.inl h
  · refine Or.inr ⟨A, s.1, cat s.2, ⟨M, hM, e⟩, by rw [fr_cat (hL.small s (by simp))], ?_⟩
    rw [e] at hT
    simp only [tot, List.map_append, List.sum_append, List.map_cons, List.sum_cons, szF] at hT ⊢
    omega
theorem settle_shut {st : St} {L : List Sg} {T : Nat} (hok : OKs st) (hd : st.down = false) (h : Shut st.fs L T) : Settled st L T (settleR st L) := by
  rcases h with ⟨rfl, hM⟩ | ⟨A, p, D, hl, rfl, hT⟩
  · have e : settleR st [] = (0, st) := by simp [settleR]
    rw [e]
    exact ⟨hok, rfl, Nat.le_add_right _ _, Or.inl ⟨rfl, hM⟩, fun _ => ⟨Or.inl ⟨rfl, hM⟩, hd⟩, fun q => absurd rfl q, fun ha => ⟨ha, hd⟩⟩
  · have hr := hl.read hok hd
    have hW := fr_le D
    have e : settleR st (A ++ [(p, fr D)]) = if (cat (fr D)).length < D.length then mendR st (nameN p) (cat (fr D)) else synR st (nameN p) := by
      rw [settleR, if_neg (by simp), lastL_snoc, hr]
      simp
    rw [e]
    by_cases ht : (cat (fr D)).length < D.length
    · rw [if_pos ht]
      obtain ⟨m1, m2, m3, m4, m5, m6⟩ := mend_shut (W := cat (fr D)) hok hl
      refine ⟨m1, m2, m3, ?_, fun q => ⟨Or.inr ⟨A, (p, fr D), (m4 q).1, rfl⟩, (m4 q).2⟩, fun q => ?_, fun ha => ⟨(m6 ha).1, (m6 ha).2 hd⟩⟩
      · by_cases h0 : (mendR st (nameN p) (cat (fr D))).1 = 0
        · exact Or.inr ⟨A, p, cat (fr D), (m4 h0).1, by rw [fr_cat (fr_small D)], by omega⟩
        · exact Or.inr ⟨A, p, D, (m5 h0).1, rfl, hT⟩
      · rcases (m5 q).2 with r | r | r
        · exact Or.inl r
        · exact Or.inr ⟨r.1, Or.inl (by omega)⟩
        · exact Or.inr ⟨r.1, Or.inr (by simpa using r.2)⟩
    · rw [if_neg ht]
      have hDW : cat (fr D) = D := by
        have := fr_front D
        rw [show (cat (fr D)).length = D.length by omega, List.take_length] at this
        exact this.symm
      have hg := hl.find hok.files.sorted
      have hE := findE_some (nameN_ok p) hg
      have hok1 := synR_ok hok (nameN p)
      have sz := stepR_size st (findE st.fs (nameN p)) (synF (nameN p))
      have stp := stepR_steps st (findE st.fs (nameN p)) (synF (nameN p))
      have tw := stepR_two st (findE st.fs (nameN p)) (synF (nameN p)) (findE_nn _ _)
      have d3 := stepR_down3 st (findE st.fs (nameN p)) (synF (nameN p))
      have cm := fun ha => stepR_calm (st := st) (findE st.fs (nameN p)) (synF (nameN p)) ha hd
      have es : synR st (nameN p) = stepR st (findE st.fs (nameN p)) (synF (nameN p)) := rfl
      rw [← es] at sz stp tw d3 cm
      have hfs : (synR st (nameN p)).2.fs = st.fs := by
        rcases tw with ⟨_, b⟩ | ⟨_, _, _, b, _⟩
        · exact b
        · obtain ⟨M, _, hfs⟩ := hl
          have hsr := hok.files.sorted
          rw [b, synF, fileOf, hg]
          rw [hfs] at hsr ⊢
          exact putL_mid hsr _
      refine ⟨hok1, sz, by omega, ?_, fun q => ⟨?_, ?_⟩, fun q => Or.inl ?_, fun ha => ⟨(cm ha).2.1, (cm ha).2.2⟩⟩
      · rw [hfs]
        exact Or.inr ⟨A, p, D, hl, rfl, hT⟩
      · rw [hfs]
        refine Or.inr ⟨A, (p, fr D), ?_, rfl⟩
        simp only [hDW]
        exact hl
      · rcases tw with ⟨a, _⟩ | ⟨_, _, _, _, b⟩
        · omega
        · exact b
      · rcases d3 with r | r | ⟨r, _⟩
        · exact absurd r q
        · exact r
        · exact absurd hE r
theorem open_shut {st : St} {L : List Sg} {T F S : Nat} (hd : st.down = false) (h : Shut st.fs L T) (hL : SgOK L) (hF : F < 1000000000000) (h1 : 1 ≤ S) (h2 : S ≤ 1024) :
    openR st (F : Int) (S : Int) = if (settleR st L).1 ≠ 0 then ((settleR st L).1, (settleR st L).2, none) else (0, (settleR st L).2, some ⟨S, F, nextL F L, L⟩) := by
  have hl := h.load hL F
  rw [openR, if_neg (by omega), if_neg (by rw [hd]; simp), Int.toNat_natCast, hl]
  simp only [Int.toNat_natCast]
theorem Whole.lies {st : St} {S F : Nat} {L : List Sg} (h : Whole st.fs L) (hL : SgOK L) : Lies st ⟨S, F, nextL F L, L⟩ := by
  rcases h with ⟨rfl, hM⟩ | ⟨A, s, hl, rfl⟩
  · exact Or.inl ⟨rfl, hM⟩
  · refine Or.inr ⟨A, s, _, rfl, hl, ?_, ?_⟩
    · simp only [nextL_snoc, Sg.end]; omega
    · simp only [nextL_snoc, Sg.end, Nat.add_sub_cancel_left, List.take_length]
      exact Nat.le_refl _

/-! ### a crash -/
theorem crashL_app (ks : List Int) : ∀ (X M : Fs), (∀ q ∈ X, q.2.2 = q.2.1.length) → crashL ks (X ++ M) = X ++ crashL ks M
  | [], M, _ => rfl
  | q :: X, M, h => by
    have hq := h q (by simp)
    rw [List.cons_append, crashL, if_neg (by omega), crashL_app ks X M (fun x hx => h x (List.mem_cons_of_mem _ hx)), List.cons_append, ← hq]
theorem Mnd.crash {M : Fs} (h : Mnd M) (ks : List Int) : Mnd (crashL ks M) := by
  rcases h with rfl | ⟨f, rfl⟩
  · exact Or.inl rfl
  · right
    unfold crashL
    split
    · exact ⟨_, rfl⟩
    · exact ⟨_, rfl⟩
theorem sfile_safe (A : List Sg) : ∀ q ∈ A.map sfile, q.2.2 = q.2.1.length := fun q hq => by
  obtain ⟨s, _, rfl⟩ := List.mem_map.1 hq
  rfl
theorem Shut.crash {fs : Fs} {L : List Sg} {T : Nat} (h : Shut fs L T) (ks : List Int) : Shut (crashL ks fs) L T := by
  rcases h with ⟨rfl, hM⟩ | ⟨A, p, D, ⟨M, hM, rfl⟩, rfl, hT⟩
  · exact Or.inl ⟨rfl, hM.crash ks⟩
  · refine Or.inr ⟨A, p, D, ⟨crashL ks M, hM.crash ks, ?_⟩, rfl, hT⟩
    rw [show A.map sfile ++ (nameN p, (D, D.length)) :: M = (A.map sfile ++ [(nameN p, (D, D.length))]) ++ M by simp, crashL_app]
    · simp
    · intro q hq
      rcases List.mem_append.1 hq with hq | hq
      · exact sfile_safe A q hq
      · obtain rfl : q = (nameN p, (D, D.length)) := by simpa using hq
        rfl
theorem crash_one (ks : List Int) (n : Nm) (D : List UInt8) (k : Nat) (hk : k ≤ D.length) (M : Fs) : ∃ j ks', k ≤ j ∧ j ≤ D.length ∧ crashL ks ((n, (D, k)) :: M) = (n, (D.take j, (D.take j).length)) :: crashL ks' M := by
  by_cases h : 0 < D.length - k
  · refine ⟨k + keeps (ks.headD 0) (D.length - k), ks.tail, by omega, by simp only [keeps]; omega, ?_⟩
    have : (D.take (k + keeps (ks.headD 0) (D.length - k))).length = k + keeps (ks.headD 0) (D.length - k) := by
      rw [List.length_take]
      simp only [keeps]
      omega
    rw [this, crashL, if_pos h]
    rfl
  · exact ⟨D.length, ks, hk, Nat.le_refl _, by rw [List.take_length, crashL, if_neg h]⟩
theorem Lies.crash {st : St} {g : Lg} (h : Lies st g) (hok : OKs st) (hg : LgOK g) (ks : List Int) {T : Nat} (hT : tot szF st.fs ≤ T) : ∃ L, Shut (crashL ks st.fs) L T ∧ SgOK L ∧ ((g.segs = [] ∧ L = []) ∨ ∃ A s i, g.segs = A ++ [s] ∧ L = A ++ [(s.1, s.2.take i)] ∧ i ≤ s.2.length ∧ g.safe ≤ s.1 + i) := by
  rcases h with ⟨h1, hM⟩ | ⟨A, s, k, h1, ⟨M, hM, hfs⟩, h3, h4⟩
  · exact ⟨[], Or.inl ⟨rfl, hM.crash ks⟩, ⟨trivial, by simp, by simp⟩, Or.inl ⟨h1, rfl⟩⟩
  · have hk : k ≤ (cat s.2).length := hok.files.safe (nameN s.1, (cat s.2, k)) (by rw [hfs]; simp)
    obtain ⟨j, ks', hj1, hj2, hj3⟩ := crash_one ks (nameN s.1) (cat s.2) k hk M
    have hsm : ∀ d ∈ s.2, d.length ≤ 4096 := hg.small s (by rw [h1]; simp)
    obtain ⟨i, hi1, hi2, hi3⟩ := fr_take hsm j
    have hsafe := hg.safe
    rw [Lg.next, h1, nextL_snoc, Sg.end] at hsafe
    have hii := hi3 (g.safe - s.1) (by omega) (by omega)
    refine ⟨A ++ [(s.1, s.2.take i)], Or.inr ⟨A, s.1, (cat s.2).take j, ⟨crashL ks' M, hM.crash ks', ?_⟩, by rw [hi2], ?_⟩, ⟨?_, fun x hx => ?_, fun x hx => ?_⟩, Or.inr ⟨A, s, i, h1, rfl, hi1, by omega⟩⟩
    · rw [hfs, crashL_app ks _ _ (sfile_safe A), hj3]
    · rw [hfs] at hT
      simp only [tot, List.map_append, List.sum_append, List.map_cons, List.sum_cons, szF] at hT ⊢
      rw [List.length_take]
      omega
    · exact Row.put (s := s) (h1 ▸ hg.row) rfl
    · rcases List.mem_append.1 hx with hx | hx
      · exact hg.low x (by rw [h1]; simp [hx])
      · obtain rfl : x = (s.1, s.2.take i) := by simpa using hx
        exact hg.low s (by rw [h1]; simp)
    · rcases List.mem_append.1 hx with hx | hx
      · exact hg.small x (by rw [h1]; simp [hx])
      · obtain rfl : x = (s.1, s.2.take i) := by simpa using hx
        intro d hd
        exact hsm d (List.mem_of_mem_take hd)
end Go.Proofs.YteanhkdnakmggaaGreatDoor
/- Layer 6, without the program: a log that falls again and again while it is being opened. -/
namespace Go.Proofs.YteanhkdnakmggaaGreatDoor
open Go

theorem Only1.crash {S : Nat} {R : List (List UInt8)} {st : St} {g : Lg} (h : Only1 S R st g) (hc : (cat R).length ≤ 100000) (ks : List Int) : ∃ L, Shut (crashL ks st.fs) L 100000 ∧ SgOK L ∧ baseL 0 L = 0 ∧ recsL L <+: R ∧ L.length ≤ g.segs.length := by
  obtain ⟨L, h1, h2, h3⟩ := h.lies.crash h.calm.ok h.ok ks (T := 100000) (by rw [h.tot]; exact hc)
  refine ⟨L, h1, h2, ?_⟩
  rcases h3 with ⟨_, rfl⟩ | ⟨A, s, i, e, rfl, _, _⟩
  · exact ⟨rfl, by simp [recsL], Nat.zero_le _⟩
  · have hb := h.base
    have hr := h.recs
    rw [Lg.base, e, h.frm] at hb
    rw [e, recsL_append, recsL_one] at hr
    refine ⟨?_, ?_, by rw [e]; simp⟩
    · cases A with
      | nil => exact hb
      | cons x A => exact hb
    · rw [recsL_append, recsL_one, ← hr]
      exact (List.prefix_append_right_inj _).2 (List.take_prefix _ _)
structure AgA (L : List Sg) (st : St) : Prop where
  ok : OKs st
  up : st.down = false
  size : st.size = 1048576
  shut : Shut st.fs L 100000
theorem AgA.arm {L : List Sg} {st : St} (h : AgA L st) {n : Int} (h0 : -1 ≤ n) (h1 : n ≤ 9223372036854775807) : (armR st n).1 = 0 ∧ AgA L (armR st n).2 ∧ (armR st n).2.steps = st.steps ∧ (armR st n).2.armed = n := by
  have hok := armR_ok h.ok h1
  have e : armR st n = (0, { st with armed := n }) := by
    rw [armR, if_neg (by omega), if_neg (by rw [h.up]; simp)]
  rw [e] at hok ⊢
  exact ⟨rfl, ⟨hok, h.up, h.size, h.shut⟩, rfl, rfl⟩
theorem AgA.settle {L : List Sg} {st : St} (h : AgA L st) (hl : L.length < 64) : (settleR st L).2.steps ≤ st.steps + 4 ∧ ((settleR st L).1 = 0 → AgA L (settleR st L).2) ∧ ((settleR st L).1 ≠ 0 → (settleR st L).1 = 3 ∧ ∀ ks, AgA L (crashR (settleR st L).2 ks) ∧ (crashR (settleR st L).2 ks).armed = -1) ∧ (st.armed = -1 → (settleR st L).1 = 0) := by
  have s := settle_shut h.ok h.up h.shut
  have hsz := h.size
  have hno : (settleR st L).1 ≠ 0 → (settleR st L).1 = 3 ∧ (settleR st L).2.down = true := fun q => by
    rcases s.no q with r | ⟨_, r⟩
    · exact r
    · omega
  refine ⟨s.steps, fun q => ⟨s.ok, (s.yes q).2, by rw [s.size]; exact hsz, s.shut⟩, fun q => ⟨(hno q).1, fun ks => ⟨⟨crashR_ok s.ok ks, rfl, ?_, s.shut.crash ks⟩, rfl⟩⟩, fun ha => ?_⟩
  · show (settleR st L).2.size = 1048576
    rw [s.size]
    exact hsz
  · refine Decidable.byContradiction fun q => ?_
    have r := (hno q).2
    rw [(s.calm ha).2] at r
    cases r
theorem next_recs {L : List Sg} (h : Row L) (hb : baseL 0 L = 0) : nextL 0 L = (recsL L).length := by
  by_cases hz : L = []
  · rw [hz]; rfl
  · rw [h.next_is 0 hz, hb, Nat.zero_add]
theorem read_pre {g : Lg} {R : List (List UInt8)} (hb : g.base = 0) (hn : g.next = (recsL g.segs).length) (hp : recsL g.segs <+: R) {i : Nat} (hi : i < g.next) : ∃ h : i < R.length, readL g (i : Int) = (R[i], 0) := by
  have hl : i < (recsL g.segs).length := by rw [← hn]; exact hi
  have hle := hp.length_le
  refine ⟨by omega, ?_⟩
  rw [readL, if_neg (by rw [hb]; omega), hb]
  have e : ((i : Int) - ((0 : Nat) : Int)).toNat = i := by omega
  rw [e, List.getElem?_eq_getElem hl, Option.getD_some, hp.getElem hl]
end Go.Proofs.YteanhkdnakmggaaGreatDoor
/- Layer 6, without the program: what is known of a log that is written, and what is left of it behind a crash. -/
namespace Go.Proofs.YteanhkdnakmggaaGreatDoor
open Go

structure Tell (S : Nat) (all : List (List UInt8)) (st : St) (g : Lg) : Prop where
  dok : OKs st
  ok : LgOK g
  lies : Lies st g
  gsize : g.size = S
  zero : g.frm = 0
  pre : ∃ pre, all = pre ++ recsL g.segs ∧ pre.length = g.base
  low : g.base ≤ g.safe
theorem Tell.next {S : Nat} {all : List (List UInt8)} {st : St} {g : Lg} (h : Tell S all st g) : g.next = all.length := by
  obtain ⟨pre, h1, h2⟩ := h.pre
  rw [h1, List.length_append, h2, h.ok.next_is]
theorem base_put {f : Nat} {A : List Sg} {s t : Sg} (e : t.1 = s.1) : baseL f (A ++ [t]) = baseL f (A ++ [s]) := by
  cases A with
  | nil => exact e
  | cons x A => rfl
theorem base_more {g : Lg} (t : Sg) (e : t.1 = g.next) : baseL g.frm (g.segs ++ [t]) = g.base := by
  cases hz : g.segs with
  | nil =>
    have : g.next = g.frm := by rw [Lg.next, hz]; rfl
    simp only [Lg.base, hz]
    exact e.trans this
  | cons x A => simp only [Lg.base, hz]; rfl
theorem Tell.same {S : Nat} {all : List (List UInt8)} {st st' : St} {g : Lg} (h : Tell S all st g) (hd : OKs st') (hf : st'.fs = st.fs) : Tell S all st' g := ⟨hd, h.ok, h.lies.same hf, h.gsize, h.zero, h.pre, h.low⟩
theorem Tell.sync {S : Nat} {all : List (List UInt8)} {st : St} {g : Lg} (h : Tell S all st g) : Tell S all (syncL st g).2.1 (syncL st g).2.2 ∧ g.safe ≤ (syncL st g).2.2.safe ∧ (syncL st g).2.2.base = g.base := by
  have hs := syncL_segs st g
  have hsafe : g.safe ≤ (syncL st g).2.2.safe := by
    unfold syncL
    split
    · exact Nat.le_refl _
    · split
      · exact Nat.le_refl _
      · exact h.ok.safe
  have hb : (syncL st g).2.2.base = g.base := by unfold Lg.base; rw [hs.1, hs.2.2]
  refine ⟨⟨syncL_ok h.dok g, h.ok.sync, h.lies.sync h.dok h.ok, hs.2.1.trans h.gsize, hs.2.2.trans h.zero, ?_, by rw [hb]; exact Nat.le_trans h.low hsafe⟩, hsafe, hb⟩
  rw [hs.1, hb]
  exact h.pre
structure Wrote (S : Nat) (all : List (List UInt8)) (d : List UInt8) (st : St) (g : Lg) (r : (Int × Int) × St × Lg) : Prop where
  yes : r.1.2 = 0 → r.1.1 = (all.length : Int) ∧ Tell S (all ++ [d]) r.2.1 r.2.2
  no : r.1.2 ≠ 0 → Tell S all r.2.1 r.2.2
  safe : g.safe ≤ r.2.2.safe
  base : r.2.2.base = g.base
  steps : r.2.1.steps ≤ st.steps + 2
theorem Tell.append {S : Nat} {all : List (List UInt8)} {st : St} {g : Lg} (h : Tell S all st g) (d : List UInt8) : Wrote S all d st g (appendL st g d) := by
  have hok := appendL_ok h.dok g d
  have hlg := h.ok.append (st := st) d
  have hli := h.lies.append h.dok h.ok d
  obtain ⟨pre, hp1, hp2⟩ := h.pre
  have hnx := h.next
  obtain ⟨sT, sS, sB⟩ := h.sync
  have hseg := syncL_segs st g
  have hss : (syncL st g).2.1.steps ≤ st.steps + 1 := by
    unfold syncL
    split
    · exact Nat.le_succ _
    · split <;> exact stepR_steps _ _ _
  unfold appendL at hok hlg hli ⊢
  by_cases hl : 4096 < d.length ∨ 1000000000000 ≤ g.next
  · rw [if_pos hl]
    exact ⟨fun q => (by cases q), fun _ => h, Nat.le_refl _, rfl, Nat.le_add_right _ _⟩
  rw [if_neg hl] at hok hlg hli ⊢
  by_cases hf : g.full = true
  · rw [if_pos hf] at hok hlg hli ⊢
    by_cases hs : (syncL st g).1 ≠ 0
    · rw [if_pos hs] at hok hlg hli ⊢
      exact ⟨fun q => absurd q hs, fun _ => sT, sS, sB, by simp only; omega⟩
    rw [if_neg hs] at hok hlg hli ⊢
    have hst2 := stepR_steps (syncL st g).2.1 (roomE (syncL st g).2.1 (nameN g.next) (frm d).length) (appF (nameN g.next) (frm d))
    have e2 : appR (syncL st g).2.1 (nameN g.next) (frm d) = stepR (syncL st g).2.1 (roomE (syncL st g).2.1 (nameN g.next) (frm d).length) (appF (nameN g.next) (frm d)) := rfl
    rw [← e2] at hst2
    by_cases ha : (appR (syncL st g).2.1 (nameN g.next) (frm d)).1 ≠ 0
    · rw [if_pos ha] at hok hlg hli ⊢
      have hfs : (appR (syncL st g).2.1 (nameN g.next) (frm d)).2.fs = (syncL st g).2.1.fs := by
        have tw := stepR_two (syncL st g).2.1 (roomE (syncL st g).2.1 (nameN g.next) (frm d).length) (appF (nameN g.next) (frm d)) (roomE_nn _ _ _)
        rw [← e2] at tw
        rcases tw with ⟨_, b⟩ | ⟨b, _⟩
        · exact b
        · exact absurd b ha
      exact ⟨fun q => absurd q ha, fun _ => sT.same hok hfs, sS, sB, by simp only; omega⟩
    rw [if_neg ha] at hok hlg hli ⊢
    have hbase : Lg.base { (syncL st g).2.2 with segs := g.segs ++ [(g.next, [d])] } = g.base := by
      unfold Lg.base
      rw [hseg.2.2]
      exact base_more (g.next, [d]) rfl
    refine ⟨fun _ => ⟨by rw [hnx], ⟨hok, hlg, hli, hseg.2.1.trans h.gsize, hseg.2.2.trans h.zero, ⟨pre, ?_, hp2.trans hbase.symm⟩, ?_⟩⟩, fun q => absurd rfl q, sS, hbase, by simp only; omega⟩
    · simp only
      rw [recsL_append, recsL_one, hp1, List.append_assoc]
    · rw [hbase]
      exact Nat.le_trans h.low sS
  · rw [if_neg hf] at hok hlg hli ⊢
    have hst2 := stepR_steps st (roomE st (nameN (lastL g.segs).1) (frm d).length) (appF (nameN (lastL g.segs).1) (frm d))
    have e2 : appR st (nameN (lastL g.segs).1) (frm d) = stepR st (roomE st (nameN (lastL g.segs).1) (frm d).length) (appF (nameN (lastL g.segs).1) (frm d)) := rfl
    rw [← e2] at hst2
    by_cases ha : (appR st (nameN (lastL g.segs).1) (frm d)).1 ≠ 0
    · rw [if_pos ha] at hok hlg hli ⊢
      have hfs : (appR st (nameN (lastL g.segs).1) (frm d)).2.fs = st.fs := by
        have tw := stepR_two st (roomE st (nameN (lastL g.segs).1) (frm d).length) (appF (nameN (lastL g.segs).1) (frm d)) (roomE_nn _ _ _)
        rw [← e2] at tw
        rcases tw with ⟨_, b⟩ | ⟨b, _⟩
        · exact b
        · exact absurd b ha
      exact ⟨fun q => absurd q ha, fun _ => h.same hok hfs, Nat.le_refl _, rfl, by simp only; omega⟩
    rw [if_neg ha] at hok hlg hli ⊢
    have hz : g.segs ≠ [] := fun e => by simp [Lg.full, e] at hf
    obtain ⟨A, s, e⟩ := snoc_of hz
    have hbase : Lg.base { g with segs := putS g.segs d } = g.base := by
      unfold Lg.base
      simp only [e, putS_snoc]
      exact base_put rfl
    refine ⟨fun _ => ⟨by rw [hnx], ⟨hok, hlg, hli, h.gsize, h.zero, ⟨pre, ?_, hp2.trans hbase.symm⟩, ?_⟩⟩, fun q => absurd rfl q, Nat.le_refl _, hbase, by simp only; omega⟩
    · simp only
      rw [e] at hp1 ⊢
      rw [putS_snoc, hp1, recsL_append, recsL_append, recsL_one, recsL_one]
      simp
    · rw [hbase]
      exact h.low

/-! ### cut at the front -/
structure Cut (S : Nat) (all : List (List UInt8)) (P : Int) (st : St) (g : Lg) (st' : St) (L : List Sg) : Prop where
  tell : Tell S all st' { g with segs := L }
  base : g.base ≤ Lg.base { g with segs := L }
  steps : st'.steps ≤ st.steps + g.segs.length
theorem trunc_tell {S : Nat} {all : List (List UInt8)} {P : Int} : ∀ (L : List Sg) (st : St) (g : Lg), g.segs = L → Tell S all st g → P ≤ (g.safe : Int) → Cut S all P st g (truncG P st L).2.1 (truncG P st L).2.2
  | [], st, g, e, h, _ => by
    have eg : { g with segs := [] } = g := by rw [← e]
    refine ⟨?_, ?_, Nat.le_add_right _ _⟩
    · rw [truncG]
      · simp only [eg]; exact h
      · intro a b c q; cases q
    · rw [truncG]
      · simp only [eg]; exact Nat.le_refl _
      · intro a b c q; cases q
  | [s], st, g, e, h, _ => by
    have eg : { g with segs := [s] } = g := by rw [← e]
    refine ⟨?_, ?_, Nat.le_add_right _ _⟩
    · rw [truncG]
      · simp only [eg]; exact h
      · intro a b c q; cases q
    · rw [truncG]
      · simp only [eg]; exact Nat.le_refl _
      · intro a b c q; cases q
  | s :: t :: r, st, g, e, h, hP => by
    have eg : { g with segs := s :: t :: r } = g := by rw [← e]
    rw [truncG]
    by_cases ht : (t.1 : Int) ≤ P
    · rw [if_pos ht]
      have tw := stepR_two st (findE st.fs (nameN s.1)) (remF (nameN s.1)) (findE_nn _ _)
      have stp := stepR_steps st (findE st.fs (nameN s.1)) (remF (nameN s.1))
      have e2 : remR st (nameN s.1) = stepR st (findE st.fs (nameN s.1)) (remF (nameN s.1)) := rfl
      have hok := remR_ok h.dok (nameN s.1)
      rw [← e2] at tw stp
      have hlen : g.segs.length = r.length + 1 + 1 := by rw [e]; rfl
      by_cases hr : (remR st (nameN s.1)).1 ≠ 0
      · rw [if_pos hr]
        have hfs : (remR st (nameN s.1)).2.fs = st.fs := by
          rcases tw with ⟨_, b⟩ | ⟨b, _⟩
          · exact b
          · exact absurd b hr
        exact ⟨by simp only [eg]; exact h.same hok hfs, by simp only [eg]; exact Nat.le_refl _, by simp only; omega⟩
      · rw [if_neg hr]
        have hfs : (remR st (nameN s.1)).2.fs = remF (nameN s.1) st.fs := by
          rcases tw with ⟨b, _⟩ | ⟨_, _, _, b, _⟩
          · omega
          · exact b
        obtain ⟨pre, hp1, hp2⟩ := h.pre
        have hrow := h.ok.row
        rw [e] at hrow hp1
        have hb0 : g.base = s.1 := by rw [Lg.base, e]; rfl
        have hb1 : Lg.base { g with segs := t :: r } = t.1 := rfl
        have hnext : Lg.next { g with segs := t :: r } = g.next := by
          unfold Lg.next
          simp only [e]
          simp [nextL]
        have hT : Tell S all (remR st (nameN s.1)).2 { g with segs := t :: r } := by
          refine ⟨hok, ⟨⟨h.ok.size, h.ok.frm, hrow.2, fun x hx => h.ok.low x (by rw [e]; exact List.mem_cons_of_mem _ hx), fun x hx => h.ok.few x (by rw [e]; exact List.mem_cons_of_mem _ hx), fun x hx => h.ok.small x (by rw [e]; exact List.mem_cons_of_mem _ hx), ?_⟩, ?_, fun q => by cases q⟩, ?_, h.gsize, h.zero, ⟨pre ++ s.2, ?_, ?_⟩, ?_⟩
          · have := h.ok.many
            rw [hlen] at this
            rw [hnext]
            simp only [List.length_cons]
            omega
          · rw [hnext]
            exact h.ok.safe
          · rcases h.lies with ⟨q, _⟩ | ⟨A, x, k, q, ⟨M, hM, hm⟩, l3, l4⟩
            · rw [e] at q; cases q
            · cases A with
              | nil => rw [e] at q; simp at q
              | cons a A =>
                rw [e, List.cons_append] at q
                obtain ⟨rfl, q2⟩ := List.cons.inj q
                refine Or.inr ⟨A, x, k, q2, ⟨M, hM, ?_⟩, l3, l4⟩
                have hsr := h.dok.files.sorted
                rw [hfs, hm, remF]
                rw [hm] at hsr
                exact delL_mid (A := []) (x := (cat s.2, (cat s.2).length)) hsr
          · rw [hp1]
            simp [recsL]
          · rw [List.length_append, hp2, hb0, hb1, hrow.1]
            rfl
          · rw [hb1]
            have : ((t.1 : Nat) : Int) ≤ (g.safe : Int) := Int.le_trans ht hP
            exact_mod_cast this
        have ih := trunc_tell (S := S) (all := all) (P := P) (t :: r) (remR st (nameN s.1)).2 { g with segs := t :: r } rfl hT hP
        refine ⟨ih.tell, Nat.le_trans ?_ ih.base, ?_⟩
        · rw [hb0, hb1, hrow.1]
          unfold Sg.end
          omega
        · have := ih.steps
          simp only [List.length_cons] at this
          rw [hlen]
          omega
    · rw [if_neg ht]
      exact ⟨by simp only [eg]; exact h, by simp only [eg]; exact Nat.le_refl _, Nat.le_add_right _ _⟩
theorem Tell.trunc {S : Nat} {all : List (List UInt8)} {st : St} {g : Lg} (h : Tell S all st g) (P : Int) : Tell S all (truncL st g P).2.1 (truncL st g P).2.2 ∧ (truncL st g P).2.2.safe = g.safe ∧ g.base ≤ (truncL st g P).2.2.base ∧ (truncL st g P).2.1.steps ≤ st.steps + g.segs.length := by
  unfold truncL
  split
  · exact ⟨h, rfl, Nat.le_refl _, Nat.le_add_right _ _⟩
  · rename_i hn
    have c := trunc_tell g.segs st g rfl h (P := P) (by omega)
    exact ⟨c.tell, rfl, c.base, c.steps⟩
theorem Tell.segs {S : Nat} {all : List (List UInt8)} {st : St} {g : Lg} (h : Tell S all st g) : g.segs.length ≤ 64 := by
  have hf := h.dok.files.few
  rcases h.lies with ⟨q, _⟩ | ⟨A, x, k, q, ⟨M, hM, hm⟩, _, _⟩
  · rw [q]; exact Nat.zero_le _
  · rw [hm] at hf
    rw [q]
    simp only [List.length_append, List.length_map, List.length_cons, List.length_nil] at hf ⊢
    omega

/-! ### behind a crash -/
structure Again (S : Nat) (all : List (List UInt8)) (safe base : Nat) (st : St) (g : Lg) : Prop where
  tell : Tell S (all.take g.next) st g
  upto : g.safe = g.next
  low : g.base = base
  has : safe ≤ g.next
  le : g.next ≤ all.length
theorem Tell.crash {S : Nat} {all : List (List UInt8)} {st : St} {g : Lg} (h : Tell S all st g) (h1 : 1 ≤ S) (h2 : S ≤ 1024) (ks : List Int) :
    ((openR (crashR st ks) 0 (S : Int)).1 = 42 ∧ (openR (crashR st ks) 0 (S : Int)).2.2 = none) ∨ ∃ st' g', openR (crashR st ks) 0 (S : Int) = (0, st', some g') ∧ Again S all g.safe g.base st' g' ∧ st'.steps ≤ st.steps + 4 ∧ st'.down = false := by
  obtain ⟨L, c1, c2, c3⟩ := h.lies.crash h.dok h.ok ks (Nat.le_refl _)
  have hok : OKs (crashR st ks) := crashR_ok h.dok ks
  have hop := open_shut (st := crashR st ks) (F := 0) (S := S) rfl c1 c2 (by decide) h1 h2
  rw [show ((0 : Nat) : Int) = (0 : Int) from rfl] at hop
  have s := settle_shut (st := crashR st ks) hok rfl c1
  have hcalm := s.calm rfl
  rw [hop]
  by_cases hz : (settleR (crashR st ks) L).1 ≠ 0
  · rw [if_pos hz]
    left
    rcases s.no hz with ⟨_, q⟩ | ⟨q, _⟩
    · rw [hcalm.2] at q; cases q
    · exact ⟨q, rfl⟩
  · rw [if_neg hz]
    right
    refine ⟨_, _, rfl, ?_, s.steps, hcalm.2⟩
    have hw := (s.yes (by omega)).1
    obtain ⟨pre, hp1, hp2⟩ := h.pre
    have hnx := h.next
    -- what is left
    have key : baseL 0 L = g.base ∧ g.safe ≤ nextL 0 L ∧ ∃ rest, pre ++ recsL L ++ rest = all := by
      rcases c3 with ⟨e, rfl⟩ | ⟨A, x, i, e, rfl, hi, hsafe⟩
      · have hb : g.base = 0 := by rw [Lg.base, e, h.zero]; rfl
        have hs : g.safe = 0 := by rw [h.ok.none e, h.zero]
        exact ⟨by rw [hb]; rfl, by rw [hs]; exact Nat.zero_le _, recsL g.segs, by rw [hp1]; simp [recsL]⟩
      · refine ⟨?_, by rw [nextL_snoc]; simp only [Sg.end, List.length_take]; omega, x.2.drop i, ?_⟩
        · rw [Lg.base, e, h.zero]
          exact base_put rfl
        · rw [hp1, e, recsL_append, recsL_append, recsL_one, recsL_one]
          simp only [List.append_assoc]
          rw [List.take_append_drop]
    obtain ⟨k1, k2, rest, k3⟩ := key
    have hgb : Lg.base ⟨S, 0, nextL 0 L, L⟩ = g.base := k1
    have hrowL : nextL 0 L = g.base + (recsL L).length := by
      by_cases hzL : L = []
      · subst hzL
        have : baseL 0 ([] : List Sg) = g.base := k1
        rw [← this]
        rfl
      · rw [c2.row.next_is 0 hzL, k1]
    have hlenp : (pre ++ recsL L).length = nextL 0 L := by rw [List.length_append, hp2, hrowL]
    have htake : all.take (nextL 0 L) = pre ++ recsL L := by rw [← k3, ← hlenp, List.take_left]
    refine ⟨⟨s.ok, ⟨⟨⟨h1, h2⟩, by show 0 < 1000000000000; decide, c2.row, c2.low, ?_, c2.small, ?_⟩, Nat.le_refl _, fun q => by simp only at q; simp only [q]; rfl⟩, hw.lies c2, rfl, rfl, ⟨pre, htake, hp2.trans hgb.symm⟩, ?_⟩, rfl, hgb, k2, ?_⟩
    · intro x hx
      rcases c3 with ⟨_, rfl⟩ | ⟨A, y, i, e, rfl, hi, _⟩
      · cases hx
      · rcases List.mem_append.1 hx with hx | hx
        · exact h.ok.few x (by rw [e]; simp [hx])
        · obtain rfl : x = (y.1, y.2.take i) := by simpa using hx
          have := h.ok.few y (by rw [e]; simp)
          simp only [List.length_take]
          omega
    · have hl : L.length ≤ 64 := by
        have hs64 := h.segs
        rcases c3 with ⟨_, rfl⟩ | ⟨A, y, i, e, rfl, _, _⟩
        · exact Nat.zero_le _
        · rw [e] at hs64
          simpa using hs64
      simp only
      omega
    · show Lg.base ⟨S, 0, nextL 0 L, L⟩ ≤ nextL 0 L
      rw [hgb, hrowL]
      omega
    · show nextL 0 L ≤ all.length
      have q := congrArg List.length k3
      rw [List.length_append, hlenp] at q
      omega
end Go.Proofs.YteanhkdnakmggaaGreatDoor
/- Walks of layer 6: slices.Delete of the first segment. -/
namespace Go.Proofs.YteanhkdnakmggaaGreatDoor
open Go.RowKit

theorem setCells_row (g : Nat) : ∀ (vs : List Value) (o : Nat) (w : World) {cur : Array Value} {e : TypeId} {fr : Nat × Nat}, w.heap[g]? = some (.cells cur e fr) → ∃ cur', (w.setCells g o vs).heap[g]? = some (.cells cur' e fr) ∧ cur'.size = cur.size
  | [], _, _, cur, _, _, h => ⟨cur, h, rfl⟩
  | v :: r, o, w, cur, e, fr, h => by
    have : (w.setCell ⟨g, o, none⟩ v).heap[g]? = some (.cells (cur.setIfInBounds o v) e fr) := heap_setCell_at h v
    obtain ⟨cur', h1, h2⟩ := setCells_row g r (o + 1) _ this
    exact ⟨cur', h1, by rw [h2]; simp⟩
/-- A row out of its cells. -/
theorem own_cells {w : World} {e : TypeId} {size n cap g : Nat} {cur : Array Value} {xs : List Value} (hx : xs.length = n * size) (hg : w.heap[g]? = some (.cells cur e (0, 0))) (hn : n ≤ cap) (hm : cap ≤ maxLen) (hs : cur.size = cap * size) (hc : ∀ j, j < n * size → w.cell? ⟨g, j, none⟩ = xs[j]?) : w.ownsRow 0 e size (.slice (some ⟨g, 0, none⟩) n cap) n xs := by
  refine ⟨hx, Or.inr ⟨g, cap, cur, rfl, Nat.zero_le _, hg, hn, hm, hs, ?_⟩⟩
  have hle : n * size ≤ cur.size := by rw [hs]; exact Nat.mul_le_mul_right _ hn
  apply List.ext_getElem?
  intro j
  by_cases hj : j < n * size
  · have h1 := hc j hj
    simp only [World.cell?, hg] at h1
    rw [List.getElem?_take_of_lt hj, ← h1]
    simp
  · rw [List.getElem?_eq_none (by rw [List.length_take]; omega), List.getElem?_eq_none (by omega)]

theorem zeroSeg (w : World) : (zeroValue 100).run Tryz.prog w = .ok (.agg #[.int .i64 0, .slice none 0 0]) w := by kernel_rfl
theorem clear_seg (w : World) (ty : TypeId) (b o c : Nat) (hc : ∀ j, j < 2 → (w.cell? ⟨b, o + j, none⟩).isSome = true) (hf : ∀ j, j < 2 → w.frozen? ⟨b, o + j, none⟩ = false) :
    (Builtin.clear_ #[89] ty #[.slice (some ⟨b, o, none⟩) 1 c]).run Tryz.prog w = .ok (.tuple #[]) (w.setCells b o [.int .i64 0, .slice none 0 0]) := by
  have hst := run_storeCells_cells (P := Tryz.prog) b o [.int .i64 0, .slice none 0 0] 0 w (by simpa using hc) (by simpa using hf) (by intro v hv; simp at hv; rcases hv with rfl | rfl <;> rfl)
  simp only [Nat.add_zero] at hst
  have hz : (Builtin.zeroCells (Value.agg #[.int .i64 0, .slice none 0 0]).cells 1).toList = [.int .i64 0, .slice none 0 0] := by kernel_rfl
  simp [Builtin.clear_, run_underlying Tryz.underlying89, zeroSeg w, hz, hst]

set_option maxHeartbeats 4000000 in
set_option maxRecDepth 100000 in
theorem delete_any (w : World) (b cap : Nat) (x : Ent) (es : List Ent) (hrow : w.ownsRow 0 100 2 (.slice (some ⟨b, 0, none⟩) (es.length + 1) cap) (es.length + 1) (ec (x :: es))) (hne : 0 < es.length) (hl : es.length ≤ 10000000000000) (h1 : ∀ u ∈ ec es, u.oneCell' = true) :
    Calls Tryz.prog 72 #[.slice (some ⟨b, 0, none⟩) (es.length + 1) cap, .int .i64 0, .int .i64 1] w fun e w' => e = .returned (.slice (some ⟨b, 0, none⟩) es.length cap) ∧ w'.ownsRow 0 100 2 (.slice (some ⟨b, 0, none⟩) es.length cap) es.length (ec es) ∧ Only (fun k => k = b) w w' := by
  obtain ⟨i0, hi, hz0, hz1, hz2⟩ := info_parts Tryz.infoSeg
  have hr := hrow
  obtain ⟨_, ⟨_, h0⟩ | ⟨g, cap', cur, e, _, hg, hn, hm, hs, _⟩⟩ := hrow
  · omega
  simp only [Value.slice.injEq, Option.some.injEq, Addr.mk.injEq, and_true] at e
  obtain ⟨rfl, _, rfl⟩ := e
  obtain ⟨m, hm1⟩ : ∃ m, es.length = m := ⟨_, rfl⟩
  have hel : (ec es).length = m * 2 := by rw [ec_length, hm1]
  rw [hm1] at hr hn hne hl ⊢
  -- what the cells hold
  have hcell : ∀ j, j < (m + 1) * 2 → w.cell? ⟨b, j, none⟩ = (ec (x :: es))[j]? := fun j hj => hr.cellAt j hj
  have hfz : ∀ o, w.frozen? ⟨b, o, none⟩ = false := fun o => hr.frozenAt o
  have hnews : Hid (∀ j u, (ec es)[j]? = some u → w.drew.cell? ((⟨b, 2, none⟩ : Addr).add j) = some u) := fun j u hu => by
    have hj : j < m * 2 := by
      have := (List.getElem?_eq_some_iff.1 hu).1
      rwa [hel] at this
    rw [Addr.add_lit]
    show w.cell? ⟨b, 2 + j, none⟩ = some u
    rw [hcell (2 + j) (by omega), Nat.add_comm]
    exact hu
  have hspare : Hid (∀ j, j < (ec es).length → (w.drew.cell? ⟨b, 0 + 0 * 2 + j, none⟩).isSome = true ∧ w.drew.frozen? ⟨b, 0 + 0 * 2 + j, none⟩ = false) := fun j hj => by
    rw [hel] at hj
    refine ⟨?_, hfz _⟩
    show (w.cell? ⟨b, 0 + 0 * 2 + j, none⟩).isSome = true
    rw [show 0 + 0 * 2 + j = j by omega, hcell j (by omega), List.getElem?_eq_getElem (by rw [ec_length, List.length_cons, hm1]; exact (by omega))]
    rfl
  obtain ⟨W1, hW1⟩ : ∃ W1, W1 = w.drew.setCells b (0 + 0 * 2) (ec es) := ⟨_, rfl⟩
  have hW : Hid (W1 = w.drew.setCells b (0 + 0 * 2) (ec es)) := hW1
  obtain ⟨cur1, hg1, hs1⟩ := setCells_row b (ec es) (0 + 0 * 2) w.drew (cur := cur) (e := 100) (fr := (0, 0)) hg
  rw [← hW1] at hg1
  have hin1 : ∀ j, j < m * 2 → W1.cell? ⟨b, j, none⟩ = (ec es)[j]? := fun j hj => by
    rw [hW1]
    have := World.cell?_setCells_in b (ec es) (0 + 0 * 2) w.drew (fun t ht => (hspare.out t ht).1) j (by rw [hel]; exact hj)
    rw [show 0 + 0 * 2 + j = j by omega] at this
    rw [this, List.getElem?_eq_getElem (by rw [hel]; exact hj)]
  have hfz1 : ∀ o, W1.frozen? ⟨b, o, none⟩ = false := fun o => by simp [World.frozen?, hg1]
  have hle1 : cur1.size = cap * 2 := by rw [hs1, hs]
  have hsome1 : ∀ j, j < cap * 2 → (W1.cell? ⟨b, j, none⟩).isSome = true := fun j hj => by
    have : j < cur1.size := by omega
    simp [World.cell?, hg1, this]
  have hcl : ∀ ty, (Builtin.clear_ #[89] ty #[.slice (some ⟨b, m * 2, none⟩) 1 (cap - m)]).run Tryz.prog W1 = .ok (.tuple #[]) (W1.setCells b (m * 2) [.int .i64 0, .slice none 0 0]) := fun ty => clear_seg W1 ty b (m * 2) (cap - m) (fun j hj => hsome1 _ (by omega)) (fun j _ => hfz1 _)
  -- what is left
  have hfin : Hid ((W1.setCells b (m * 2) [.int .i64 0, .slice none 0 0]).ownsRow 0 100 2 (.slice (some ⟨b, 0, none⟩) m cap) m (ec es) ∧ Only (fun k => k = b) w (W1.setCells b (m * 2) [.int .i64 0, .slice none 0 0])) := by
    obtain ⟨cur2, hg2, hs2⟩ := setCells_row b [.int .i64 0, .slice none 0 0] (m * 2) W1 hg1
    refine ⟨own_cells hel hg2 (by omega) hm (by rw [hs2, hle1]) fun j hj => ?_, ?_⟩
    · rw [World.cell?_setCells_out b _ _ _ _ (fun _ _ => by simp only; omega)]
      exact hin1 j hj
    · have o1 : Only (fun k => k = b) w w.drew := (Only.refl _ _).drew
      have o2 := o1.grown (setCells_grown b (ec es) (0 + 0 * 2) w.drew) (fun k hk => by simpa using hk.symm)
      rw [← hW1] at o2
      exact o2.grown (setCells_grown b [.int .i64 0, .slice none 0 0] (m * 2) W1) (fun k hk => by simpa using hk.symm)
  have hlen : Hid ((ec es).length = m * 2) := hel
  have hone : Hid (∀ u ∈ ec es, u.oneCell' = true) := h1
  have hm1c : 1 ≤ cap := by omega
  have hmc : m ≤ cap := by omega
  have hmc1 : m + 1 ≤ cap := by omega
  have hc1 : ¬ cap = 1 := by omega
  have hcm : ¬ cap = m := by omega
  have hmlen : cap ≤ 9223372036854775807 := by unfold maxLen at hm; omega
  have q1 : m + 1 - m = 1 := by omega
  have q2 : (1 : Int) ≤ (m : Int) + 1 := by omega
  have q3 : (m : Int) + 1 ≤ (cap : Int) := by omega
  clear hr hg hs hm hcell hfz hin1 hfz1 hsome1 hle1 hs1 hg1 hW1 h1 hel hm1 hn
  go_enter Tryz.func72, Tryz.ntmps72
  go_wp2_with fail
  go_region_law (refine step_append_room rfl (.tmp 22) (.tmp 25) 89 rfl 100 i0 2 Tryz.underlying89 hi hz1 b 0 0 cap (by simp [Act.eval, Act.put]) ⟨b, 2, none⟩ m (cap - 1) (ec es) (by simp [Act.eval, Act.put]) hlen.out hnews.out hone.out (by omega) hspare.out ?_; rw [← hW.out])
  go_wp2
  go_ret
  exact ⟨by simp, hfin.out⟩
end Go.Proofs.YteanhkdnakmggaaGreatDoor
/- Walks of layer 6: Truncate. -/
namespace Go.Proofs.YteanhkdnakmggaaGreatDoor
open Go.RowKit

theorem LogAt.one {w : World} {Y : Nat → Prop} {l a : Nat} {g : Lg} {p : Option Addr} {cap : Nat} {es : List Ent} (h : LogAt w Y l a g p cap es) : ∀ u ∈ ec es, u.oneCell' = true := by
  have key : ∀ m : List Ent, (∀ e ∈ m, e ∈ es) → ∀ u ∈ ec m, u.oneCell' = true := by
    intro m
    induction m with
    | nil => intro _ u hu; cases hu
    | cons e m ih =>
      intro hm u hu
      simp only [ec, List.mem_cons] at hu
      rcases hu with rfl | rfl | hu
      · rfl
      · obtain ⟨q, c, eq, _⟩ := own_slice (h.recs e (hm e (by simp)))
        rw [eq]
        rfl
      · exact ih (fun x hx => hm x (List.mem_cons_of_mem _ hx)) u hu
  exact key es fun e he => he
theorem LogAt.cut {W W1 : World} {Y : Nat → Prop} {l a b cap : Nat} {g : Lg} {x : Ent} {es : List Ent} (h : LogAt W Y l a g (some ⟨b, 0, none⟩) cap (x :: es)) (ho : Only (fun k => k = b) W W1) (hr : W1.ownsRow 0 100 2 (.slice (some ⟨b, 0, none⟩) es.length cap) es.length (ec es)) :
    LogAt (W1.setCell ⟨l, 4, none⟩ (.slice (some ⟨b, 0, none⟩) es.length cap)) Y l a { g with segs := es.map Ent.sg } (some ⟨b, 0, none⟩) cap es ∧ Only Y W (W1.setCell ⟨l, 4, none⟩ (.slice (some ⟨b, 0, none⟩) es.length cap)) := by
  have hlb : l ≠ b := fun e => own_ne h.rows h.cells (by decide) (by rw [e]; rfl)
  have kl := ho.block l h.lt hlb
  refine ⟨⟨?_, h.zl, rfl, ?_, fun k hk => h.zs k hk, fun e he => ?_, fun e he => h.zr e (List.mem_cons_of_mem _ he), (List.pairwise_cons.1 h.apart).2⟩, ?_⟩
  · rw [heap_setCell_at (kl.trans h.cells)]
    simp [lcells]
  · exact ownsRow_setCell_other hr (own_ne hr (kl.trans h.cells) (by decide)) _
  · have hre := h.recs e (List.mem_cons_of_mem _ he)
    have hr2 : W1.ownsRow 0 9 1 e.2.2 e.2.1.length (sv e.2.1) := own_kept hre fun k hk => ho.block k (hre.lt k hk).2 fun q => own_apart hre h.rows (by decide) hk (by rw [q]; rfl)
    exact ownsRow_setCell_other hr2 (own_ne hr2 (kl.trans h.cells) (by decide)) _
  · exact (ho.mono fun k hk => by rw [hk]; exact h.zs b rfl).setCell (p := ⟨l, 4, none⟩) h.zl _
theorem LgW.tail {g : Lg} {s t : Sg} {r : List Sg} (h : LgW g) (e : g.segs = s :: t :: r) : LgW { g with segs := t :: r } := by
  have hr := h.row
  have hm := h.many
  rw [e] at hr
  have hn : nextL g.frm (s :: t :: r) = nextL g.frm (t :: r) := by simp [nextL]
  rw [Lg.next, e, hn] at hm
  refine ⟨h.size, h.frm, hr.2, fun x hx => h.low x (by rw [e]; exact List.mem_cons_of_mem _ hx), fun x hx => h.few x (by rw [e]; exact List.mem_cons_of_mem _ hx), fun x hx => h.small x (by rw [e]; exact List.mem_cons_of_mem _ hx), ?_⟩
  simp only [Lg.next, List.length_cons] at hm ⊢
  omega
theorem dremove_later {B : Nat} {w W : World} {X : Nat → Prop} {l a : Nat} {st : St} {g : Lg} {p : Option Addr} {cap : Nat} {es : List Ent} (h : IsLogE B w X l a st g p cap es) (hX : ∀ k, w.heap.size ≤ k → X k) (hb : Below w.heap.size w W) (hst : st.steps < 4611686018427387904) (s : ByteArray) :
    Calls Tryz.prog 71 #[.pointer (some ⟨a, 0, none⟩), .string s] W fun e w' => e = .returned (.int .i64 (remR st s.data.toList).1) ∧ IsLogE B w' X l a (remR st s.data.toList).2 g p cap es ∧ Only X w w' := by
  refine (dremove_any (h.later hb) (fun k hk => hX k (Nat.le_trans hb.size hk)) hst s).mono ?_
  rintro e w' ⟨rfl, k1, k2⟩
  exact ⟨rfl, k1, (Only.of hb).trans k2⟩
def lenAt (l : Nat) (w : World) : Nat := match w.cell? ⟨l, 4, none⟩ with
  | some (.slice _ n _) => n
  | _ => 0
theorem LogAt.len {w : World} {Y : Nat → Prop} {l a : Nat} {g : Lg} {p : Option Addr} {cap : Nat} {es : List Ent} (h : LogAt w Y l a g p cap es) : lenAt l w = es.length := by
  unfold lenAt
  rw [h.lc.c4]
theorem remR_stp (st : St) (s : Nm) : (remR st s).2.steps ≤ st.steps + 1 := stepR_steps _ _ _
theorem truncL_bad {st : St} {g : Lg} {P : Int} (h : P < 0 ∨ (g.safe : Int) < P) : truncL st g P = (1, st, g) := by rw [truncL, if_pos h]
theorem truncL_go {st : St} {g : Lg} {P : Int} (h : ¬ (P < 0 ∨ (g.safe : Int) < P)) : truncL st g P = ((truncG P st g.segs).1, (truncG P st g.segs).2.1, { g with segs := (truncG P st g.segs).2.2 }) := by rw [truncL, if_neg h]
theorem truncG_stop {P : Int} {st : St} {s t : Sg} {r : List Sg} (h : ¬ (t.1 : Int) ≤ P) : truncG P st (s :: t :: r) = (0, st, s :: t :: r) := by rw [truncG, if_neg h]
theorem truncG_err {P : Int} {st : St} {s t : Sg} {r : List Sg} (h : (t.1 : Int) ≤ P) (h' : (remR st (nameN s.1)).1 ≠ 0) : truncG P st (s :: t :: r) = ((remR st (nameN s.1)).1, (remR st (nameN s.1)).2, s :: t :: r) := by rw [truncG, if_pos h, if_pos h']
theorem truncG_on {P : Int} {st : St} {s t : Sg} {r : List Sg} (h : (t.1 : Int) ≤ P) (h' : (remR st (nameN s.1)).1 = 0) : truncG P st (s :: t :: r) = truncG P (remR st (nameN s.1)).2 (t :: r) := by rw [truncG, if_pos h, if_neg (by rw [h']; simp)]

set_option maxHeartbeats 8000000 in
set_option maxRecDepth 100000 in
theorem ltrunc_any (B : Nat) (w : World) (X : Nat → Prop) (l a : Nat) (st : St) (g : Lg) (h : IsLog B w X l a st g) (hX : ∀ k, w.heap.size ≤ k → X k) (hst : st.steps < 4611680000000000000) (P : Int) :
    Calls Tryz.prog 39 #[.pointer (some ⟨l, 0, none⟩), .int .i64 P] w fun e w' => e = .returned (.int .i64 (truncL st g P).1) ∧ IsLog B w' X l a (truncL st g P).2.1 (truncL st g P).2.2 ∧ Only X w w' := by
  obtain ⟨p, cap, es, h⟩ := h
  have HI : Hid (IsLogE B w X l a st g p cap es) := h
  have HX : Hid (∀ k, w.heap.size ≤ k → X k) := hX
  obtain ⟨Y, hL⟩ := h.at
  have c3 := hL.lc.c3
  have HLN : Hid (g.segs.length ≤ 2000000000064) := by
    have h1 := hL.many h.ok
    have h2 := congrArg List.length hL.segs
    rw [List.length_map] at h2
    have : g.segs.length ≤ 2000000000064 := by omega
    exact this
  clear h hX hL
  by_cases h1 : P < 0
  · have HE : Hid (truncL st g P = (1, st, g)) := truncL_bad (Or.inl h1)
    go_enter Tryz.func39, Tryz.ntmps39
    go_wp2
    go_ret
    rw [HE.out]
    exact ⟨rfl, HI.out.is, Only.refl _ _⟩
  by_cases h2 : (g.safe : Int) < P
  · have HE : Hid (truncL st g P = (1, st, g)) := truncL_bad (Or.inr h2)
    go_enter Tryz.func39, Tryz.ntmps39
    go_wp2
    go_ret
    rw [HE.out]
    exact ⟨rfl, HI.out.is, Only.refl _ _⟩
  have HE : Hid (truncL st g P = ((truncG P st g.segs).1, (truncG P st g.segs).2.1, { g with segs := (truncG P st g.segs).2.2 })) := truncL_go (fun e => by
    rcases e with e | e
    · exact h1 e
    · exact h2 e)
  obtain ⟨T, hT⟩ : ∃ T, truncG P st g.segs = T := ⟨_, rfl⟩
  have HT : Hid (truncG P st g.segs = T) := hT
  rw [HE.out, hT]
  clear hT
  go_enter Tryz.func39, Tryz.ntmps39
  go_wp2
  go_loopw [5] (fun _ wr => ∃ (stk : St) (p : Option Addr) (cap : Nat) (es : List Ent), IsLogE B wr X l a stk { g with segs := es.map Ent.sg } p cap es ∧ Only X w wr ∧ truncG P stk (es.map Ent.sg) = T ∧ stk.steps + es.length ≤ st.steps + g.segs.length) (fun _ wr => lenAt l wr)
  case atStart =>
    obtain ⟨Y, hL⟩ := HI.out.at
    have e := hL.segs
    refine ⟨st, p, cap, es, ?_, Only.refl _ _, by rw [← e]; exact HT.out, by rw [e, List.length_map]; exact Nat.le_refl _⟩
    have e2 : { g with segs := es.map Ent.sg } = g := by rw [← e]
    rw [e2]
    exact HI.out
  case round =>
    obtain ⟨stk, p, cap, es, hi1, ho1, htr, hsp⟩ := hrel
    have HI1 : Hid (IsLogE B wr X l a stk { g with segs := es.map Ent.sg } p cap es) := hi1
    have HO1 : Hid (Only X w wr) := ho1
    have HTR : Hid (truncG P stk (es.map Ent.sg) = T) := htr
    obtain ⟨Y1, hL1⟩ := hi1.at
    have HLEN : Hid (lenAt l wr = es.length) := hL1.len
    have hm := hL1.many hi1.ok
    have z1 := ho1.size
    have hsteps : stk.steps < 4611686018427387904 := by have := HLN.out; omega
    have HSP : Hid (stk.steps + es.length ≤ st.steps + g.segs.length) := hsp
    clear hi1 ho1 htr hsp
    match es, HI1, HTR, hL1, HLEN, hm, HSP with
    | [], HI1, HTR, hL1, _, _, _ =>
      have c4 := hL1.lc.c4
      simp only [List.length_nil] at c4
      clear hL1
      go_wp2
      go_ret
      rw [← HTR.out]
      exact ⟨rfl, HI1.out.is, HO1.out⟩
    | [x], HI1, HTR, hL1, _, _, _ =>
      have c4 := hL1.lc.c4
      simp only [List.length_singleton] at c4
      clear hL1
      go_wp2
      go_ret
      rw [← HTR.out]
      exact ⟨rfl, HI1.out.is, HO1.out⟩
    | x :: y :: r, HI1, HTR, hL1, HLEN, hm, HSP =>
      have c4 := hL1.lc.c4
      have c0 := hL1.lc.c0
      simp only [List.length_cons] at c4 hm
      obtain ⟨b, rfl, _, _, _, d0, d1, _⟩ := hL1.seg (i := 0) (by simp)
      obtain ⟨b', eb, _, _, _, f0, _⟩ := hL1.seg (i := 1) (by simp)
      obtain rfl : b = b' := by simpa using eb
      simp only [List.getElem_cons_zero, List.getElem_cons_succ, Nat.zero_mul, Nat.one_mul, Nat.zero_add] at d0 d1 f0
      obtain ⟨q, c, eq, _⟩ := own_slice (hL1.recs x (by simp))
      have HQ : Hid (x.2.2 = .slice q x.2.1.length c) := eq
      rw [eq] at d1
      have hx1 : x.1 < 1000000000000 := HI1.out.ok.low (x.1, x.2.1) (by simp [Ent.sg])
      have HL1 : Hid (LogAt wr Y1 l a { g with segs := (x :: y :: r).map Ent.sg } (some ⟨b, 0, none⟩) cap (x :: y :: r)) := hL1
      have HN : Hid (∀ w', Below wr.heap.size wr w' → SV0 w') := fun w' hb => (HI1.out.lib.later HI1.out.base hb).here
      have g1 : (1 : Int) < ((r.length : Int) + 1) + 1 := by omega
      have g2 : decide ((1 : Int) < ((r.length : Int) + 1) + 1) = true := decide_eq_true g1
      have g3 : (0 : Int) < (r.length : Int) + 1 + 1 := by omega
      have g4 : (0 : Int) < ((r.length + 1 + 1 : Nat) : Int) := by omega
      clear hL1 eq eb
      by_cases hle : (y.1 : Int) ≤ P
      · go_wp2
        go_region_held3 (fun w' => w'.cell? ⟨l, 0, none⟩ = some (.pointer (some ⟨a, 0, none⟩)) ∧ w'.cell? ⟨l, 4, none⟩ = some (.slice (some ⟨b, 0, none⟩) (r.length + 1 + 1) cap) ∧ w'.cell? ⟨b, 0, none⟩ = some (.int .i64 (x.1 : Int)) ∧ w'.cell? ⟨b, 1, none⟩ = some (.slice q x.2.1.length c)) (go_simp) (first
          | (go_at_call 55; refine (name_any x.1 x.2.1.length c q _ (HN.out _ ((Below.refl _ _).drew)) hx1).mono ?_; rintro e w1 ⟨rfl, hb1⟩; (have k0 := cell_later hb1 c0); (have k4 := cell_later hb1 c4); (have k5 := cell_later hb1 d0); (have k6 := cell_later hb1 d1); (have HB1 : Hid (Below wr.heap.size wr w1) := from_drew hb1); clear hb1)
          | (go_at_call 71; refine (dremove_later HI1.out (fun k hk => HX.out k (by omega)) HB1.out hsteps ⟨(nameN x.1).toArray⟩).mono ?_; rintro e w2 ⟨rfl, hi2, ho2⟩; simp only at hi2 ⊢; (have HI2 : Hid (IsLogE B w2 X l a (remR stk (nameN x.1)).2 { g with segs := (x :: y :: r).map Ent.sg } (some ⟨b, 0, none⟩) cap (x :: y :: r)) := hi2); (obtain ⟨Y2, hL2⟩ := hi2.at); (have q0 := hL2.lc.c0); (have q4 := hL2.lc.c4); (obtain ⟨b2, eb2, _, _, _, q5, q6, _⟩ := hL2.seg (i := 0) (by simp)); (obtain rfl : b = b2 := by simpa using eb2); (simp only [List.getElem_cons_zero, Nat.zero_mul, Nat.zero_add, List.length_cons] at q4 q5 q6); rw [HQ.out] at q6; clear hi2 hL2))
        all_goals
          have HO2 : Hid (Only X w w2) := HO1.out.trans ho2
          have z2 := HO2.out.size
          clear ho2 k0 k4 k5 k6 q0 q5 q6 eb2 c0 c4 d0 d1 f0
          by_cases he : (remR stk (nameN x.1)).1 = 0
          · have HR : Hid (truncG P (remR stk (nameN x.1)).2 ((y :: r).map Ent.sg) = T) := by
              rw [← HTR.out]
              exact (truncG_on (s := x.sg) (t := y.sg) (r := r.map Ent.sg) hle he).symm
            have HS2 := remR_stp stk (nameN x.1)
            have HSS : Hid ((remR stk (nameN x.1)).2.steps + (y :: r).length ≤ st.steps + g.segs.length) := by
              have := HSP.out
              simp only [List.length_cons] at this ⊢
              have h3 : (remR stk (nameN x.1)).2.steps + (r.length + 1) ≤ st.steps + g.segs.length := by omega
              exact h3
            rw [he]
            obtain ⟨Y3, hL3, hY3, _, hcl⟩ := HI2.out.own (fun k hk => HX.out k (by omega))
            have HL3 : Hid (LogAt w2 Y3 l a { g with segs := (x :: y :: r).map Ent.sg } (some ⟨b, 0, none⟩) cap (x :: y :: r)) := hL3
            have HCL : Hid (∀ w1 g' p' cap' es', LogAt w1 Y3 l a g' p' cap' es' → LgW g' → Only Y3 w2 w1 → IsLogE B w1 X l a (remR stk (nameN x.1)).2 g' p' cap' es' ∧ Only X w2 w1) := hcl
            have HONE : Hid (∀ u ∈ ec (y :: r), u.oneCell' = true) := fun u hu => hL3.one u (by simp only [ec, List.mem_cons] at hu ⊢; exact Or.inr (Or.inr hu))
            clear hL3 hY3 hcl he HS2
            go_wp2_with (first | (go_at_call 72; refine (delete_any w2 b cap x (y :: r) HL3.out.rows (by simp) (by simp only [List.length_cons]; omega) HONE.out).mono ?_; rintro e w3 ⟨rfl, hr3, ho3⟩; (have s4 := (HL3.out.lc.c4)); (have sl : w3.heap[l]? = w2.heap[l]? := ho3.block l HL3.out.lt (fun e => own_ne HL3.out.rows HL3.out.cells (by decide) (by rw [e]; rfl))); (have s5 := cell_at sl s4); (have sf : w3.frozen? ⟨l, 4, none⟩ = false := by rw [World.frozen?_of_block (a := ⟨l, 4, none⟩) sl]; exact HL3.out.lc.fz 4); (have HR3 : Hid (w3.ownsRow 0 100 2 (.slice (some ⟨b, 0, none⟩) (y :: r).length cap) (y :: r).length (ec (y :: r))) := hr3); (have HO3 : Hid (Only (fun k => k = b) w2 w3) := ho3); clear hr3 ho3 sl s4))
            go_roundw
            case rel =>
              obtain ⟨t1, t2⟩ := HL3.out.cut HO3.out HR3.out
              have hw : LgW { { g with segs := (x :: y :: r).map Ent.sg } with segs := (y :: r).map Ent.sg } := HI2.out.ok.tail rfl
              obtain ⟨t3, t4⟩ := HCL.out _ _ _ _ _ t1 hw t2
              exact ⟨_, _, _, y :: r, t3, HO2.out.trans t4, HR.out, HSS.out⟩
            case measure =>
              obtain ⟨t1, t2⟩ := HL3.out.cut HO3.out HR3.out
              have e1 := t1.len
              have e2 := HLEN.out
              rw [e2]
              simp only [List.length_cons] at e1 ⊢
              rw [e1]
              omega
          · have HR : Hid (T = ((remR stk (nameN x.1)).1, (remR stk (nameN x.1)).2, (x :: y :: r).map Ent.sg)) := by
              rw [← HTR.out]
              exact truncG_err (s := x.sg) (t := y.sg) (r := r.map Ent.sg) hle he
            go_wp2
            go_ret
            rw [HR.out]
            exact ⟨rfl, HI2.out.is, HO2.out⟩
      · have HR : Hid (T = (0, stk, (x :: y :: r).map Ent.sg)) := by
          rw [← HTR.out]
          exact truncG_stop (s := x.sg) (t := y.sg) hle
        go_wp2
        go_ret
        rw [HR.out]
        exact ⟨rfl, HI1.out.is, HO1.out⟩
end Go.Proofs.YteanhkdnakmggaaGreatDoor
/- Walks of layer 6: a story beside a log. -/
namespace Go.Proofs.YteanhkdnakmggaaGreatDoor
open Go.RowKit

/-- A story in memory. -/
structure StoV (W : World) (V : Nat → Prop) (s : Nat) (v : Value) (all : List (List UInt8)) (safe base : Nat) : Prop where
  cells : W.heap[s]? = some (.cells #[v, .int .i64 (safe : Int), .int .i64 (base : Int)] 46 (0, 0))
  row : W.ownsRow 0 9 1 v all.length (sv all)
  vs : V s
  vb : ∀ k, v.ownBlock = some k → V k
theorem StoV.kept {W W1 : World} {V : Nat → Prop} {s : Nat} {v : Value} {all : List (List UInt8)} {safe base : Nat} (h : StoV W V s v all safe base) (hk : ∀ k, k < W.heap.size → V k → W1.heap[k]? = W.heap[k]?) : StoV W1 V s v all safe base :=
  ⟨(hk s (Array.getElem?_eq_some_iff.1 h.cells).1 h.vs).trans h.cells, own_kept h.row fun k hb => hk k (h.row.lt k hb).2 (h.vb k hb), h.vs, h.vb⟩
theorem StoV.lt {W : World} {V : Nat → Prop} {s : Nat} {v : Value} {all : List (List UInt8)} {safe base : Nat} (h : StoV W V s v all safe base) : s < W.heap.size := (Array.getElem?_eq_some_iff.1 h.cells).1
structure SCells (w : World) (s : Nat) (v : Value) (safe base : Nat) : Prop where
  c0 : w.cell? ⟨s, 0, none⟩ = some v
  c1 : w.cell? ⟨s, 1, none⟩ = some (.int .i64 (safe : Int))
  c2 : w.cell? ⟨s, 2, none⟩ = some (.int .i64 (base : Int))
  fz : ∀ o, w.frozen? ⟨s, o, none⟩ = false
theorem scells {w : World} {s : Nat} {v : Value} {safe base : Nat} (e : w.heap[s]? = some (.cells #[v, .int .i64 (safe : Int), .int .i64 (base : Int)] 46 (0, 0))) : SCells w s v safe base := by
  refine ⟨?_, ?_, ?_, fun o => ?_⟩ <;> simp [World.cell?, World.frozen?, e]

theorem IsLog.kept {B : Nat} {w w1 : World} {X : Nat → Prop} {l a : Nat} {st : St} {g : Lg} (h : IsLog B w X l a st g) (hb : Below B w w1) (hk : ∀ k, k < w.heap.size → X k → w1.heap[k]? = w.heap[k]?) : IsLog B w1 X l a st g := by
  obtain ⟨p, cap, es, h0, h1, h2, h3, Z, Y, k1, k2, k3, k4, k5⟩ := h
  exact ⟨p, cap, es, Nat.le_trans h0 hb.size, h1.on hb, h2, h3, Z, Y, k1.kept fun k hl hz => hk k hl (k4 k hz), k2.kept fun k hl hz => hk k hl (k5 k hz), k3, k4, k5⟩
theorem IsLog.wide {B : Nat} {w : World} {X X' : Nat → Prop} {l a : Nat} {st : St} {g : Lg} (h : IsLog B w X l a st g) (hx : ∀ k, k < w.heap.size → X k → X' k) (hB : ∀ k, X' k → B ≤ k) : IsLog B w X' l a st g := by
  obtain ⟨p, cap, es, h⟩ := h
  exact ⟨p, cap, es, h.mono hx hB⟩

/-- A log and a story, all of it from N0 on; the story's is none of the log's. Q: what is there of the log, or its disk. -/
def Run (N0 : Nat) (W : World) (s : Nat) (all : List (List UInt8)) (safe base : Nat) (Q : (Nat → Prop) → Prop) : Prop :=
  N0 ≤ W.heap.size ∧ ∃ (X V : Nat → Prop) (v : Value), Q X ∧ StoV W V s v all safe base ∧ (∀ k, X k → V k → False) ∧ (∀ k, X k → N0 ≤ k) ∧ (∀ k, V k → N0 ≤ k ∧ k < W.heap.size)
def RunL (B N0 : Nat) (W : World) (s l a : Nat) (st : St) (g : Lg) (all : List (List UInt8)) (safe base : Nat) : Prop := Run N0 W s all safe base fun X => IsLog B W X l a st g
def RunD (N0 : Nat) (W : World) (s a : Nat) (st : St) (all : List (List UInt8)) (safe base : Nat) : Prop := Run N0 W s all safe base fun X => IsDisk W X a st
/-- What a step of the log, or its disk, leaves. -/
def Goes (B N0 : Nat) (W : World) (s a : Nat) (all : List (List UInt8)) (safe base : Nat) (X : Nat → Prop) : Prop :=
  ∀ W1, Only X W W1 → Below N0 W W1 ∧ (∀ l st g, IsLog B W1 X l a st g → RunL B N0 W1 s l a st g all safe base) ∧ (∀ st, IsDisk W1 X a st → RunD N0 W1 s a st all safe base)
theorem goes {B N0 : Nat} {W : World} {s a : Nat} {all : List (List UInt8)} {safe base : Nat} {X V : Nat → Prop} {v : Value} (hN : N0 ≤ W.heap.size) (hs : StoV W V s v all safe base) (hd : ∀ k, X k → V k → False) (hx : ∀ k, X k → N0 ≤ k) (hv : ∀ k, V k → N0 ≤ k ∧ k < W.heap.size) : Goes B N0 W s a all safe base (fun k => X k ∨ W.heap.size ≤ k) := by
  intro W1 ho
  have hsz := ho.size
  have hx' : ∀ k, X k ∨ W.heap.size ≤ k → N0 ≤ k := fun k hk => by
    rcases hk with hk | hk
    · exact hx k hk
    · omega
  have hd' : ∀ k, X k ∨ W.heap.size ≤ k → V k → False := fun k hk hv' => by
    rcases hk with hk | hk
    · exact hd k hk hv'
    · have := hv k hv'; omega
  have hs1 : StoV W1 V s v all safe base := hs.kept fun k hk hv' => ho.block k hk fun e => hd' k e hv'
  refine ⟨ho.below hN fun k hk e => by have := hx' k e; omega, fun l st g hl => ⟨by omega, _, V, v, hl, hs1, hd', hx', fun k hk => by have := hv k hk; omega⟩, fun st hl => ⟨by omega, _, V, v, hl, hs1, hd', hx', fun k hk => by have := hv k hk; omega⟩⟩
theorem RunL.log {B N0 : Nat} {W : World} {s l a : Nat} {st : St} {g : Lg} {all : List (List UInt8)} {safe base : Nat} (h : RunL B N0 W s l a st g all safe base) (hB : B ≤ N0) :
    ∃ X, IsLog B W X l a st g ∧ (∀ k, W.heap.size ≤ k → X k) ∧ (∀ k, X k → B ≤ k) ∧ Goes B N0 W s a all safe base X := by
  obtain ⟨hN, X, V, v, h1, h2, h3, h4, h5⟩ := h
  have hz : ∀ k, X k ∨ W.heap.size ≤ k → B ≤ k := fun k hk => by
    rcases hk with hk | hk
    · have := h4 k hk; omega
    · omega
  exact ⟨fun k => X k ∨ W.heap.size ≤ k, h1.wide (fun k _ hk => Or.inl hk) hz, fun k hk => Or.inr hk, hz, goes hN h2 h3 h4 h5⟩
theorem RunD.disk {B N0 : Nat} {W : World} {s a : Nat} {st : St} {all : List (List UInt8)} {safe base : Nat} (h : RunD N0 W s a st all safe base) (hB : B ≤ N0) :
    ∃ X, IsDisk W X a st ∧ (∀ k, W.heap.size ≤ k → X k) ∧ (∀ k, X k → B ≤ k) ∧ Goes B N0 W s a all safe base X := by
  obtain ⟨hN, X, V, v, h1, h2, h3, h4, h5⟩ := h
  have hz : ∀ k, X k ∨ W.heap.size ≤ k → B ≤ k := fun k hk => by
    rcases hk with hk | hk
    · have := h4 k hk; omega
    · omega
  exact ⟨fun k => X k ∨ W.heap.size ≤ k, h1.mono fun k _ hk => Or.inl hk, fun k hk => Or.inr hk, hz, goes hN h2 h3 h4 h5⟩
theorem RunL.toD {B N0 : Nat} {W : World} {s l a : Nat} {st : St} {g : Lg} {all : List (List UInt8)} {safe base : Nat} (h : RunL B N0 W s l a st g all safe base) : RunD N0 W s a st all safe base := by
  obtain ⟨hN, X, V, v, h1, r⟩ := h
  exact ⟨hN, X, V, v, h1.toDisk, r⟩
theorem RunL.later {B N0 : Nat} {W W1 : World} {s l a : Nat} {st : St} {g : Lg} {all : List (List UInt8)} {safe base : Nat} (h : RunL B N0 W s l a st g all safe base) (hb : Below W.heap.size W W1) : RunL B N0 W1 s l a st g all safe base := by
  obtain ⟨hN, X, V, v, h1, h2, h3, h4, h5⟩ := h
  have := hb.size
  exact ⟨by omega, X, V, v, h1.later hb, h2.kept fun k hk _ => hb.block k hk, h3, h4, fun k hk => by have := h5 k hk; omega⟩
theorem RunD.later {N0 : Nat} {W W1 : World} {s a : Nat} {st : St} {all : List (List UInt8)} {safe base : Nat} (h : RunD N0 W s a st all safe base) (hb : Below W.heap.size W W1) : RunD N0 W1 s a st all safe base := by
  obtain ⟨hN, X, V, v, h1, h2, h3, h4, h5⟩ := h
  have := hb.size
  exact ⟨by omega, X, V, v, h1.later hb, h2.kept fun k hk _ => hb.block k hk, h3, h4, fun k hk => by have := h5 k hk; omega⟩
/-- What can be read of both. -/
theorem RunL.all {B N0 : Nat} {W : World} {s l a : Nat} {st : St} {g : Lg} {all : List (List UInt8)} {safe base : Nat} (h : RunL B N0 W s l a st g all safe base) :
    ∃ Y p cap es q c, LogAt W Y l a g p cap es ∧ LgW g ∧ SCells W s (.slice q all.length c) safe base ∧ W.ownsRow 0 9 1 (.slice q all.length c) all.length (sv all) ∧ all.length ≤ c ∧ s < W.heap.size := by
  obtain ⟨hN, X, V, v, h1, h2, _⟩ := h
  obtain ⟨Y, Z, p, cap, es, k1, k2, _⟩ := h1.all
  obtain ⟨q, c, rfl, hc⟩ := own_slice h2.row
  exact ⟨Y, p, cap, es, q, c, k1, k2, scells h2.cells, h2.row, hc, h2.lt⟩
/-- A number of the story is written. -/
theorem RunL.set {B N0 : Nat} {W : World} {s l a : Nat} {st : St} {g : Lg} {all : List (List UInt8)} {safe base safe' base' : Nat} (h : RunL B N0 W s l a st g all safe base) (hB : B ≤ N0) {i n : Nat} (hi : (i = 1 ∧ safe' = n ∧ base' = base) ∨ (i = 2 ∧ base' = n ∧ safe' = safe)) :
    RunL B N0 (W.setCell ⟨s, i, none⟩ (.int .i64 (n : Int))) s l a st g all safe' base' ∧ Below N0 W (W.setCell ⟨s, i, none⟩ (.int .i64 (n : Int))) := by
  obtain ⟨hN, X, V, v, h1, h2, h3, h4, h5⟩ := h
  have hns := (h5 s h2.vs).1
  have hb : Below N0 W (W.setCell ⟨s, i, none⟩ (.int .i64 (n : Int))) := (Below.refl _ _).setCell hns _
  have hsz : (W.setCell ⟨s, i, none⟩ (.int .i64 (n : Int))).heap.size = W.heap.size := by simp [World.setCell]
  refine ⟨⟨by omega, X, V, v, h1.kept (hb.mono hB) fun k _ hx => Below.heap_setCell _ _ _ _ (fun e => h3 k hx (by rw [e]; exact h2.vs)), ⟨?_, ownsRow_setCell_other h2.row (own_ne h2.row h2.cells (by decide)) _, h2.vs, h2.vb⟩, h3, h4, fun k hk => by rw [hsz]; exact h5 k hk⟩, hb⟩
  rw [heap_setCell_at h2.cells]
  rcases hi with ⟨rfl, rfl, rfl⟩ | ⟨rfl, rfl, rfl⟩ <;> simp
/-- The story is cut. -/
theorem RunL.trim {B N0 : Nat} {W : World} {s l a : Nat} {st : St} {g : Lg} {all : List (List UInt8)} {safe base : Nat} (h : RunL B N0 W s l a st g all safe base) (hB : B ≤ N0) {q : Option Addr} {c m : Nat} (hc : W.cell? ⟨s, 0, none⟩ = some (.slice q all.length c)) (hm : m ≤ all.length) :
    RunL B N0 (W.setCell ⟨s, 0, none⟩ (.slice q m c)) s l a st g (all.take m) safe base ∧ Below N0 W (W.setCell ⟨s, 0, none⟩ (.slice q m c)) := by
  obtain ⟨hN, X, V, v, h1, h2, h3, h4, h5⟩ := h
  have hv : v = .slice q all.length c := by
    have := (scells h2.cells).c0
    rw [hc] at this
    simpa using this.symm
  subst hv
  have hns := (h5 s h2.vs).1
  have hb : Below N0 W (W.setCell ⟨s, 0, none⟩ (.slice q m c)) := (Below.refl _ _).setCell hns _
  have hsz : (W.setCell ⟨s, 0, none⟩ (.slice q m c)).heap.size = W.heap.size := by simp [World.setCell]
  have hrow : W.ownsRow 0 9 1 (.slice q m c) m (sv (all.take m)) := by
    obtain ⟨hl, ⟨e, h0⟩ | ⟨b, cap', cur, e, hb0, hg, hn, hml, hs, ht⟩⟩ := h2.row
    · simp only [Value.slice.injEq] at e
      obtain ⟨rfl, _, rfl⟩ := e
      have hm0 : m = 0 := by omega
      subst hm0
      exact World.ownsRow_nil _ _ _ _
    · simp only [Value.slice.injEq] at e
      obtain ⟨rfl, _, rfl⟩ := e
      refine ⟨by rw [sv_length, List.length_take]; omega, Or.inr ⟨b, c, cur, rfl, hb0, hg, by omega, hml, hs, ?_⟩⟩
      have e2 : sv (all.take m) = (sv all).take m := by simp [sv]
      rw [e2, ← ht, Nat.mul_one, Nat.mul_one, List.take_take, Nat.min_eq_left hm]
  have hlen : (all.take m).length = m := by rw [List.length_take]; omega
  refine ⟨⟨by omega, X, V, .slice q m c, h1.kept (hb.mono hB) fun k _ hx => Below.heap_setCell _ _ _ _ (fun e => h3 k hx (by rw [e]; exact h2.vs)), ⟨?_, by rw [hlen]; exact ownsRow_setCell_other hrow (own_ne hrow h2.cells (by decide)) _, h2.vs, fun k hk => h2.vb k (by cases q with
    | none => cases hk
    | some _ => exact hk)⟩, h3, h4, fun k hk => by rw [hsz]; exact h5 k hk⟩, hb⟩
  rw [heap_setCell_at h2.cells]
  simp
/-- A record more in the story. -/
theorem RunL.push {B N0 : Nat} {W W1 W2 : World} {s l a : Nat} {st : St} {g : Lg} {all : List (List UInt8)} {safe base : Nat} (h : RunL B N0 W s l a st g all safe base) (hB : B ≤ N0) {q q' : Option Addr} {c c' : Nat} {d : List UInt8} (hc : W.cell? ⟨s, 0, none⟩ = some (.slice q all.length c)) (hb1 : Below W.heap.size W W1) (hg : W1.grownBy W2 (Value.slice q all.length c).ownBlock)
    (ho : W2.ownsRow 0 9 1 (.slice q' (all.length + 1) c') (all.length + 1) (sv (all ++ [d]))) (hn : ∀ k, (Value.slice q' (all.length + 1) c').ownBlock = some k → (Value.slice q all.length c).ownBlock = some k ∨ W1.heap.size ≤ k) :
    RunL B N0 (W2.setCell ⟨s, 0, none⟩ (.slice q' (all.length + 1) c')) s l a st g (all ++ [d]) safe base ∧ Below N0 W (W2.setCell ⟨s, 0, none⟩ (.slice q' (all.length + 1) c')) := by
  obtain ⟨hN, X, V, v, h1, h2, h3, h4, h5⟩ := h
  have hv : v = .slice q all.length c := by
    have := (scells h2.cells).c0
    rw [hc] at this
    simpa using this.symm
  subst hv
  have hns := (h5 s h2.vs).1
  have hs1 := hb1.size
  have hs2 := hg.size
  have kw : ∀ k, k < W.heap.size → ¬ V k → W2.heap[k]? = W.heap[k]? := fun k hk hv => (hg.block k (by omega) (fun e => hv (h2.vb k e.symm))).trans (hb1.block k hk)
  have ks : W2.heap[s]? = W.heap[s]? := (hg.block s (by have := h2.lt; omega) (fun e => own_ne h2.row h2.cells (by decide) e.symm)).trans (hb1.block s h2.lt)
  have hb : Below N0 W W2 := (hb1.mono hN).grown hg (by omega) fun k hk => (h5 k (h2.vb k hk)).1
  have hbb : Below N0 W (W2.setCell ⟨s, 0, none⟩ (.slice q' (all.length + 1) c')) := hb.setCell hns _
  have hsz : (W2.setCell ⟨s, 0, none⟩ (.slice q' (all.length + 1) c')).heap.size = W2.heap.size := by simp [World.setCell]
  have hX : IsLog B W (fun k => X k ∧ k < W.heap.size) l a st g := h1.wide (fun k hk hx => ⟨hx, hk⟩) fun k hk => by have := h4 k hk.1; omega
  have hlen : (all ++ [d]).length = all.length + 1 := by simp
  refine ⟨⟨by omega, fun k => X k ∧ k < W.heap.size, fun k => V k ∨ (W.heap.size ≤ k ∧ k < W2.heap.size), _, hX.kept (hbb.mono hB) fun k hk hx => ?_, ⟨?_, by rw [hlen]; exact ownsRow_setCell_other ho (own_ne ho (ks.trans h2.cells) (by decide)) _, Or.inl h2.vs, fun k hk => ?_⟩, fun k hx hv => ?_, fun k hx => h4 k hx.1, fun k hk => ?_⟩, hbb⟩
  · rw [Below.heap_setCell _ _ _ _ (fun e => h3 k hx.1 (by rw [e]; exact h2.vs))]
    exact kw k hk fun e => h3 k hx.1 e
  · rw [heap_setCell_at (ks.trans h2.cells)]
    simp
  · have hlt := (ho.lt k hk).2
    rcases hn k hk with hk | hk
    · exact Or.inl (h2.vb k hk)
    · exact Or.inr ⟨by omega, hlt⟩
  · rcases hv with hv | hv
    · exact h3 k hx.1 hv
    · omega
  · rw [hsz]
    rcases hk with hk | hk
    · have := h5 k hk; omega
    · omega
end Go.Proofs.YteanhkdnakmggaaGreatDoor
/- Walks of layer 6: agrees. -/
namespace Go.Proofs.YteanhkdnakmggaaGreatDoor
open Go.RowKit

theorem Tell.read {S : Nat} {all : List (List UInt8)} {st : St} {g : Lg} (h : Tell S all st g) {i : Nat} (h1 : g.base ≤ i) (h2 : i < g.next) : ∃ hi : i < all.length, readL g (i : Int) = (all[i], 0) := by
  obtain ⟨pre, hp1, hp2⟩ := h.pre
  have hn := h.next
  have hi : i < all.length := by omega
  refine ⟨hi, ?_⟩
  rw [readL, if_neg (by omega)]
  have e : ((i : Int) - (g.base : Int)).toNat = i - g.base := by omega
  have e2 : all[i]? = (recsL g.segs)[i - g.base]? := by rw [hp1, List.getElem?_append_right (by omega), hp2]
  rw [e, ← e2, List.getElem?_eq_getElem hi, Option.getD_some]

set_option maxHeartbeats 8000000 in
set_option maxRecDepth 100000 in
theorem agrees_any (B N0 : Nat) (W : World) (s l a S : Nat) (st : St) (g : Lg) (all : List (List UInt8)) (safe base : Nat) (h : RunL B N0 W s l a st g all safe base) (hB : B ≤ N0) (hA : Again S all safe base st g) (hlow : base ≤ safe) :
    Calls Tryz.prog 16 #[.pointer (some ⟨s, 0, none⟩), .pointer (some ⟨l, 0, none⟩)] W fun e w' => e = .returned (.bool true) ∧ Below N0 W w' ∧ RunL B N0 w' s l a st g (all.take g.next) g.safe g.base := by
  have HR : Hid (RunL B N0 W s l a st g all safe base) := h
  obtain ⟨Y, p, cap, es, q, c, hL, hG, hS, hrow, hc, hlt⟩ := h.all
  have HN0 : Hid (N0 ≤ W.heap.size) := h.1
  have HL : Hid (LogAt W Y l a g p cap es) := hL
  have HG : Hid (LgW g) := hG
  have c0 := hS.c0
  have c1 := hS.c1
  have c2 := hS.c2
  have HROW : Hid (W.ownsRow 0 9 1 (.slice q all.length c) all.length (sv all)) := hrow
  have hle := hA.le
  have hhas := hA.has
  have hbig := hG.next_le
  have HT : Hid (Tell S (all.take g.next) st g) := hA.tell
  have hlen : (all.take g.next).length = g.next := by rw [List.length_take]; omega
  have HRD : Hid (∀ i, g.base ≤ i → i < g.next → ∃ hi : i < all.length, readL g (i : Int) = (all[i], 0)) := fun i h1 h2 => by
    obtain ⟨hi, e⟩ := HT.out.read h1 h2
    refine ⟨by omega, ?_⟩
    rw [e, List.getElem_take]
  have HSF : Hid (g.safe = g.next) := hA.upto
  have HBS : Hid (g.base = base) := hA.low
  obtain ⟨N, hN⟩ : ∃ N, g.next = N := ⟨_, rfl⟩
  have HN : Hid (g.next = N) := hN
  rw [hN] at hle hhas hbig
  have hsb : base ≤ N := by omega
  clear h hL hG hS hrow hA hlen hN
  go_enter Tryz.func16, Tryz.ntmps16
  go_wp2_with fail
  refine (base_any _ Y l a g p cap es HL.out HG.out).mono ?_
  rintro e w1 ⟨rfl, hb1⟩
  rw [HBS.out]
  have HB1 : Hid (Below W.heap.size W w1) := hb1
  clear hb1
  go_wp2_with fail
  refine (next_any _ Y l a g p cap es (HL.out.later HB1.out) HG.out).mono ?_
  rintro e w2 ⟨rfl, hb2⟩
  rw [HN.out]
  have HB2 : Hid (Below W.heap.size W w2) := HB1.out.trans (hb2.mono HB1.out.size)
  clear hb2
  go_wp2_with fail
  refine (safe_any _ Y l a g p cap es (HL.out.later HB2.out)).mono ?_
  rintro e w3 ⟨rfl, hb3⟩
  rw [HSF.out, HN.out]
  have HB3 : Hid (Below W.heap.size W w3) := HB2.out.trans (hb3.mono HB2.out.size)
  have k0 := cell_later HB3.out c0
  have k1 := cell_later HB3.out c1
  have k2 := cell_later HB3.out c2
  clear hb3
  have x1 : ¬ (safe : Int) < (base : Int) := by omega
  have x2 : ¬ (N : Int) < (safe : Int) := by omega
  have x3 : ¬ (all.length : Int) < (N : Int) := by omega
  have y1 : decide (safe < base) = false := decide_eq_false (by omega)
  have y2 : decide (N < safe) = false := decide_eq_false (by omega)
  have y3 : decide (all.length < N) = false := decide_eq_false (by omega)
  go_wp2
  go_loopw [8] (fun i wr => ∃ k : Nat, base ≤ k ∧ k ≤ N ∧ i = .int .i64 k ∧ Below W.heap.size W wr) (fun i _ => N - (intOf i).toNat)
  case atStart => exact ⟨base, Nat.le_refl _, hsb, rfl, HB3.out⟩
  case round =>
    clear k0 k1 k2
    obtain ⟨k, hk1, hk2, rfl, hbk⟩ := hrel
    have HBK : Hid (Below W.heap.size W wr) := hbk
    have k0 := cell_later hbk c0
    clear hbk
    by_cases hlt2 : k < N
    · have hlti : (k : Int) < (N : Int) := by omega
      obtain ⟨hka, hrd⟩ := HRD.out k (by rw [HBS.out]; exact hk1) (by rw [HN.out]; exact hlt2)
      have hkai : (k : Int) < (all.length : Int) := by omega
      have hk0 : (0 : Int) ≤ (k : Int) := by omega
      obtain ⟨b, rfl, _, _, hcell⟩ := own_elem HROW.out k (by rw [sv_length]; exact hka)
      obtain ⟨d, hd⟩ : ∃ d, all[k] = d := ⟨_, rfl⟩
      have hcd : W.cell? ⟨b, k, none⟩ = some (.string (ba d)) := by
        rw [hcell]
        simp [sv, hd]
      rw [hd] at hrd
      have HRK : Hid (readL g (k : Int) = (d, 0)) := hrd
      have hcw := cell_later HBK.out hcd
      obtain ⟨y, hy⟩ : ∃ y : ByteArray, y = ba d := ⟨_, rfl⟩
      rw [← hy] at hcw
      have HY : Hid (y = ba d) := hy
      have hsame : (y.toList == y.toList) = true := by simp
      clear hd hrd hcell hcd hy
      go_wp2_with fail
      refine (lread_any _ Y l a g p cap es (HL.out.later HBK.out) HG.out (k : Int)).mono ?_
      rintro e w4 ⟨rfl, hb4⟩
      rw [HRK.out]
      have hcw2 := cell_later hb4 hcw
      have k01 := cell_later hb4 k0
      have HB4 : Hid (Below W.heap.size W w4) := HBK.out.trans (hb4.mono HBK.out.size)
      simp only [readV]
      rw [show (⟨d.toArray⟩ : ByteArray) = y from HY.out.symm]
      clear hb4
      go_wp2
      go_roundw
      case rel => exact ⟨k + 1, by omega, by omega, by go_num, HB4.out⟩
      case measure => simp [intOf]; omega
    · have hlti : ¬ (k : Int) < (N : Int) := by omega
      have HR2 : Hid (RunL B N0 wr s l a st g all safe base) := HR.out.later HBK.out
      have kf : ∀ o, wr.frozen? ⟨s, o, none⟩ = false := by
        obtain ⟨_, _, _, _, _, _, _, _, hS, _⟩ := HR2.out.all
        exact hS.fz
      have k1 := cell_later HBK.out c1
      have k2 := cell_later HBK.out c2
      have hNi : (N : Int) ≤ (all.length : Int) := by omega
      have hN0 : (0 : Int) ≤ (N : Int) := by omega
      have hNc : (N : Int) ≤ (c : Int) := by omega
      have HK0 : Hid (wr.cell? ⟨s, 0, none⟩ = some (.slice q all.length c)) := k0
      go_wp2
      go_ret
      obtain ⟨r1, r2⟩ := HR2.out.trim hB HK0.out (m := N) (by omega)
      obtain ⟨r3, r4⟩ := r1.set hB (i := 1) (n := N) (safe' := N) (base' := base) (Or.inl ⟨rfl, rfl, rfl⟩)
      obtain ⟨r5, r6⟩ := r3.set hB (i := 2) (n := base) (safe' := N) (base' := base) (Or.inr ⟨rfl, rfl, rfl⟩)
      refine ⟨rfl, (((HBK.out.mono HN0.out).trans r2).trans r4).trans r6, ?_⟩
      rw [HSF.out, HN.out, HBS.out]
      exact r5
end Go.Proofs.YteanhkdnakmggaaGreatDoor
/- Walks of layer 6: writes. -/
namespace Go.Proofs.YteanhkdnakmggaaGreatDoor
open Go.RowKit

theorem RunL.apart {B N0 : Nat} {W : World} {s l a : Nat} {st : St} {g : Lg} {all : List (List UInt8)} {safe base : Nat} (h : RunL B N0 W s l a st g all safe base) {v : Value} (hc : W.cell? ⟨s, 0, none⟩ = some v) : v.ownBlock ≠ some s := by
  obtain ⟨_, X, V, v', h1, h2, _⟩ := h
  have := (scells h2.cells).c0
  rw [hc] at this
  obtain rfl : v = v' := by simpa using this
  exact own_ne h2.row h2.cells (by decide)
theorem RunL.logLater {B N0 : Nat} {W W0 : World} {s l a : Nat} {st : St} {g : Lg} {all : List (List UInt8)} {safe base : Nat} (h : RunL B N0 W s l a st g all safe base) (hB : B ≤ N0) (hb : Below W.heap.size W W0) :
    ∃ X, IsLog B W0 X l a st g ∧ (∀ k, W0.heap.size ≤ k → X k) ∧ Goes B N0 W0 s a all safe base X ∧ ∀ k, W.heap.size ≤ k → k < W0.heap.size → ¬ X k := by
  obtain ⟨hN, X, V, v, h1, h2, h3, h4, h5⟩ := h
  have hsz := hb.size
  have hl : IsLog B W0 (fun k => X k ∧ k < W.heap.size) l a st g := (h1.wide (fun k hk hx => ⟨hx, hk⟩) fun k hk => by have := h4 k hk.1; omega).later hb
  refine ⟨fun k => (X k ∧ k < W.heap.size) ∨ W0.heap.size ≤ k, hl.wide (fun k _ hk => Or.inl hk) fun k hk => ?_, fun k hk => Or.inr hk, goes (by omega) (h2.kept fun k hk _ => hb.block k hk) (fun k hx hv => h3 k hx.1 hv) (fun k hx => h4 k hx.1) fun k hk => by have := h5 k hk; omega, fun k h6 h7 e => by rcases e with e | e <;> omega⟩
  rcases hk with hk | hk
  · have := h4 k hk.1; omega
  · omega

set_option maxHeartbeats 16000000 in
set_option maxRecDepth 100000 in
theorem writes_any (B N0 : Nat) (W : World) (s l a S SA BA : Nat) (st : St) (g : Lg) (all : List (List UInt8)) (h : RunL B N0 W s l a st g all SA BA) (hB : B ≤ N0) (hT : Tell S all st g) (hSA : SA = g.safe) (hBA : BA = g.base) (hst : st.steps < 4000000000000000000) (what : Int) (d : ByteArray) (n m : Int) (kp : Option Addr) (klen kcap : Nat) (hd : d.size ≤ 1099511627776) :
    Calls Tryz.prog 18 #[.pointer (some ⟨s, 0, none⟩), .pointer (some ⟨l, 0, none⟩), .agg #[.int .i64 what, .string d, .int .i64 n, .int .i64 m, .slice kp klen kcap]] W fun e w' => e = .returned (.bool true) ∧ Below N0 W w' ∧ ∃ all' st' g', RunL B N0 w' s l a st' g' all' g'.safe g'.base ∧ Tell S all' st' g' ∧ st'.steps ≤ st.steps + 100 ∧ all'.length ≤ all.length + 1 := by
  obtain ⟨i0, hi, hz0, hz1, hz2⟩ := info_parts Tryz.info9
  obtain ⟨W0, hW0⟩ : ∃ W0, W0 = W.alloc (.cells #[.int .i64 what, .string d, .int .i64 n, .int .i64 m, .slice kp klen kcap] 41) := ⟨_, rfl⟩
  have HBW : Hid (Below W.heap.size W W0) := by
    rw [hW0]
    exact (Below.refl _ _).alloc (Nat.le_refl _) _
  have HR : Hid (RunL B N0 W0 s l a st g all SA BA) := h.later HBW.out
  have HB0 : Hid (Below N0 W W0) := HBW.out.mono h.1
  have b0 : W0.cell? ⟨W.heap.size, 0, none⟩ = some (.int .i64 what) := by rw [hW0]; simp
  have b1 : W0.cell? ⟨W.heap.size, 1, none⟩ = some (.string d) := by rw [hW0]; simp
  have b2 : W0.cell? ⟨W.heap.size, 2, none⟩ = some (.int .i64 n) := by rw [hW0]; simp
  have HT : Hid (Tell S all st g) := hT
  have HSA : Hid (SA = g.safe) := hSA
  have HBA : Hid (BA = g.base) := hBA
  obtain ⟨X, hl, hX, hgo, hbox⟩ := h.logLater hB HBW.out
  have HL : Hid (IsLog B W0 X l a st g) := hl
  have HX : Hid (∀ k, W0.heap.size ≤ k → X k) := hX
  have HGO : Hid (Goes B N0 W0 s a all SA BA X) := hgo
  obtain ⟨Ya, pa, capa, esa, qa, ca, _, _, hSa, _⟩ := HR.out.all
  have a1 := hSa.c1
  have HBX : Hid (¬ X W.heap.size) := hbox W.heap.size (Nat.le_refl _) (by rw [hW0]; simp)
  clear h hT hSA hBA hl hX hgo hSa hbox
  have HNE : Hid (g.segs = [] → g.safe = g.next) := fun e => (HT.out.ok.none e).trans (by rw [Lg.next, e]; rfl)
  by_cases w2 : what = 2
  · subst w2
    have hap := HT.out.append d.data.toList
    have HAP : Hid (Wrote S all d.data.toList st g (appendL st g d.data.toList)) := hap
    clear hap
    go_enter Tryz.func18, Tryz.ntmps18
    go_wp2_with fail
    rw [← hW0]
    refine (lappend_any B W0 X l a st g HL.out HNE.out HX.out (by omega) d hd).mono ?_
    rintro e w1 ⟨rfl, hi1, ho1⟩
    obtain ⟨g1, g2, _⟩ := HGO.out w1 ho1
    have HR1 : Hid (RunL B N0 w1 s l a (appendL st g d.data.toList).2.1 (appendL st g d.data.toList).2.2 all SA BA) := g2 _ _ _ hi1
    have HB1 : Hid (Below N0 W w1) := HB0.out.trans g1
    have HSB : Hid (SA ≤ (appendL st g d.data.toList).2.2.safe ∧ BA ≤ (appendL st g d.data.toList).2.2.base) := ⟨by rw [HSA.out]; exact HAP.out.safe, by rw [HBA.out, HAP.out.base]; exact Nat.le_refl _⟩
    have HST1 : Hid ((appendL st g d.data.toList).2.1.steps ≤ st.steps + 100) := by
      have h1 := HAP.out.steps
      have : (appendL st g d.data.toList).2.1.steps ≤ st.steps + 100 := by omega
      exact this
    have e1 := only_cell ho1 HBX.out b1
    simp only [appV]
    obtain ⟨rr, hrr⟩ : ∃ rr, appendL st g d.data.toList = rr := ⟨_, rfl⟩
    rw [hrr] at HR1 HSB HST1 HAP ⊢
    clear hi1 ho1 g1 g2 hrr b0 b1 b2 a1 hW0
    by_cases he : rr.1.2 = 0
    · obtain ⟨y1, y2⟩ := HAP.out.yes he
      have HTF : Hid (Tell S (all ++ [d.data.toList]) rr.2.1 rr.2.2) := y2
      rw [he, y1]
      obtain ⟨Yb, pb, capb, esb, qb, cb, _, hGb, hSb, hrowb, _, hltb⟩ := HR1.out.all
      have s0 := hSb.c0
      have sfz := hSb.fz
      have HROW : Hid (w1.ownsRow 0 9 1 (.slice qb all.length cb) all.length (sv all)) := hrowb
      have HSB0 : Hid (w1.cell? ⟨s, 0, none⟩ = some (.slice qb all.length cb)) := s0
      have hallb : all.length ≤ 2000000000000 := by
        have q1 := HT.out.next
        have q2 := HT.out.ok.toLgW.next_le
        omega
      have hsc := HR1.out.apart s0
      clear y1 y2 hGb hSb hrowb he
      go_wp2
      go_region_law (first
        | (refine step_append_lies _ rfl _ _ 44 rfl 0 9 i0 _ 1 16 Tryz.underlying44 hi hz0 hz1 hz2 rfl (by decide) (.slice qb all.length cb) all.length (sv all) rfl (HROW.out.alloc _) ⟨w1.heap.size, 0, none⟩ 1 1 (sv [d.data.toList]) rfl rfl (str1 _ d d.data.toList _ rfl) (sv_one _) (by decide) (by unfold maxLen; omega) (by omega) (Nat.zero_le _) _ rfl ?_; intro g' cap' w8 hown' hgrow hor hlt8; (have sl : w8.heap[s]? = w1.heap[s]? := (hgrow.block s (by simp; omega) (fun e => hsc e.symm)).trans (Below.heap_alloc _ _ _ hltb)); (have s4 := cell_at sl s0); (have sf : w8.frozen? ⟨s, 0, none⟩ = false := by rw [World.frozen?_of_block (a := ⟨s, 0, none⟩) sl]; exact sfz 0); clear sl))
      all_goals
        rw [← sv_append] at hown'
        obtain ⟨r1, r2⟩ := HR1.out.push hB (d := d.data.toList) HSB0.out (((Below.refl _ _).drew).alloc (by simp) (.cells #[.string d] 9)) hgrow hown' (fun k hk => by
          obtain rfl : g' = k := by simpa [Value.ownBlock] using hk
          rcases hor with hor | hor
          · exact Or.inl hor
          · right
            rw [hor]
            simp)
        obtain ⟨WF, hWF⟩ : ∃ WF, WF = w8.setCell ⟨s, 0, none⟩ (.slice (some ⟨g', 0, none⟩) (all.length + 1) cap') := ⟨_, rfl⟩
        have HRF : Hid (RunL B N0 WF s l a rr.2.1 rr.2.2 (all ++ [d.data.toList]) SA BA) := by rw [hWF]; exact r1
        have HBF0 : Hid (Below N0 W WF) := by rw [hWF]; exact HB1.out.trans r2
        have HSTF : Hid (rr.2.1.steps ≤ st.steps + 100) := HST1.out
        have HAL : Hid ((all ++ [d.data.toList]).length ≤ all.length + 1) := by
          have : (all ++ [d.data.toList]).length ≤ all.length + 1 := by simp
          exact this
        clear r1 r2 hown' hgrow hor hlt8 s4 sf s0 sfz hsc e1
        go_wp2_with fail
        rw [← hWF]
        clear hWF
        obtain ⟨Yf, pf, capf, esf, qf, cf, hLf, hGf, hSf, _, _, _⟩ := HRF.out.all
        have HLf : Hid (LogAt WF Yf l a rr.2.2 pf capf esf) := hLf
        have HGf : Hid (LgW rr.2.2) := hGf
        have f0 := hSf.c0
        have f1 := hSf.c1
        have f2 := hSf.c2
        have hnxt := HTF.out.next
        have hsle := HTF.out.ok.safe
        have hblo := HTF.out.low
        have HALL : Hid ((all ++ [d.data.toList]).length = rr.2.2.next) := hnxt.symm
        obtain ⟨NN, hNN⟩ : ∃ NN, rr.2.2.next = NN := ⟨_, rfl⟩
        have HNN : Hid (rr.2.2.next = NN) := hNN
        obtain ⟨SF, hSF⟩ : ∃ SF, rr.2.2.safe = SF := ⟨_, rfl⟩
        have HSF : Hid (rr.2.2.safe = SF) := hSF
        obtain ⟨BF, hBF⟩ : ∃ BF, rr.2.2.base = BF := ⟨_, rfl⟩
        have HBF : Hid (rr.2.2.base = BF) := hBF
        have hge1 := HSB.out.1
        have hge2 := HSB.out.2
        rw [hSF] at hsle hblo hge1
        rw [hNN] at hsle
        rw [hBF] at hblo hge2
        rw [show (all ++ [d.data.toList]).length = NN by rw [HALL.out, hNN]] at f0
        have hNbig : NN ≤ 2000000000000 := by rw [← hNN]; exact hGf.next_le
        clear hLf hGf hSf hnxt hNN hSF hBF
        refine (safe_any _ Yf l a rr.2.2 pf capf esf HLf.out).mono ?_
        rintro e v1 ⟨rfl, hb1⟩
        rw [HSF.out]
        have HV1 : Hid (Below WF.heap.size WF v1) := hb1
        clear hb1
        go_wp2_with fail
        refine (base_any _ Yf l a rr.2.2 pf capf esf (HLf.out.later HV1.out) HGf.out).mono ?_
        rintro e v2 ⟨rfl, hb2⟩
        rw [HBF.out]
        have HV2 : Hid (Below WF.heap.size WF v2) := HV1.out.trans (hb2.mono HV1.out.size)
        clear hb2
        go_wp2_with fail
        refine (next_any _ Yf l a rr.2.2 pf capf esf (HLf.out.later HV2.out) HGf.out).mono ?_
        rintro e v3 ⟨rfl, hb3⟩
        rw [HNN.out]
        have HV3 : Hid (Below WF.heap.size WF v3) := HV2.out.trans (hb3.mono HV2.out.size)
        have HRV : Hid (RunL B N0 v3 s l a rr.2.1 rr.2.2 (all ++ [d.data.toList]) SA BA) := HRF.out.later HV3.out
        have kf : ∀ o, v3.frozen? ⟨s, o, none⟩ = false := by
          obtain ⟨_, _, _, _, _, _, _, _, hS, _⟩ := HRV.out.all
          exact hS.fz
        have f0 := cell_later HV3.out f0
        have f1 := cell_later HV3.out f1
        have f2 := cell_later HV3.out f2
        have z1 : decide (SF < SA) = false := decide_eq_false (by omega)
        have z2 : decide (NN < SF) = false := decide_eq_false (by omega)
        have z3 : decide (BF < BA) = false := decide_eq_false (by omega)
        have z4 : decide (SF < BF) = false := decide_eq_false (by omega)
        clear hb3
        go_wp2
        go_ret
        obtain ⟨r3, r4⟩ := HRV.out.set hB (i := 1) (n := SF) (safe' := SF) (base' := BA) (Or.inl ⟨rfl, rfl, rfl⟩)
        obtain ⟨r5, r6⟩ := r3.set hB (i := 2) (n := BF) (safe' := SF) (base' := BF) (Or.inr ⟨rfl, rfl, rfl⟩)
        have hNW := HRF.out.1
        refine ⟨rfl, HBF0.out.trans (((HV3.out.mono hNW).trans r4).trans r6), (all ++ [d.data.toList]), rr.2.1, rr.2.2, ?_, HTF.out, HSTF.out, HAL.out⟩
        rw [HSF.out, HBF.out]
        exact r5
    · have HTF : Hid (Tell S all rr.2.1 rr.2.2) := HAP.out.no he
      have HRF : Hid (RunL B N0 w1 s l a rr.2.1 rr.2.2 all SA BA) := HR1.out
      have HBF0 : Hid (Below N0 W w1) := HB1.out
      have HSTF : Hid (rr.2.1.steps ≤ st.steps + 100) := HST1.out
      have HAL : Hid (all.length ≤ all.length + 1) := Nat.le_succ _
      clear e1
      obtain ⟨Yf, pf, capf, esf, qf, cf, hLf, hGf, hSf, _, _, _⟩ := HRF.out.all
      have HLf : Hid (LogAt w1 Yf l a rr.2.2 pf capf esf) := hLf
      have HGf : Hid (LgW rr.2.2) := hGf
      have f0 := hSf.c0
      have f1 := hSf.c1
      have f2 := hSf.c2
      have hnxt := HTF.out.next
      have hsle := HTF.out.ok.safe
      have hblo := HTF.out.low
      have HALL : Hid (all.length = rr.2.2.next) := hnxt.symm
      obtain ⟨NN, hNN⟩ : ∃ NN, rr.2.2.next = NN := ⟨_, rfl⟩
      have HNN : Hid (rr.2.2.next = NN) := hNN
      obtain ⟨SF, hSF⟩ : ∃ SF, rr.2.2.safe = SF := ⟨_, rfl⟩
      have HSF : Hid (rr.2.2.safe = SF) := hSF
      obtain ⟨BF, hBF⟩ : ∃ BF, rr.2.2.base = BF := ⟨_, rfl⟩
      have HBF : Hid (rr.2.2.base = BF) := hBF
      have hge1 := HSB.out.1
      have hge2 := HSB.out.2
      rw [hSF] at hsle hblo hge1
      rw [hNN] at hsle
      rw [hBF] at hblo hge2
      rw [show all.length = NN by rw [HALL.out, hNN]] at f0
      have hNbig : NN ≤ 2000000000000 := by rw [← hNN]; exact hGf.next_le
      clear hLf hGf hSf hnxt hNN hSF hBF
      go_wp2_with fail
      refine (safe_any _ Yf l a rr.2.2 pf capf esf HLf.out).mono ?_
      rintro e v1 ⟨rfl, hb1⟩
      rw [HSF.out]
      have HV1 : Hid (Below w1.heap.size w1 v1) := hb1
      clear hb1
      go_wp2_with fail
      refine (base_any _ Yf l a rr.2.2 pf capf esf (HLf.out.later HV1.out) HGf.out).mono ?_
      rintro e v2 ⟨rfl, hb2⟩
      rw [HBF.out]
      have HV2 : Hid (Below w1.heap.size w1 v2) := HV1.out.trans (hb2.mono HV1.out.size)
      clear hb2
      go_wp2_with fail
      refine (next_any _ Yf l a rr.2.2 pf capf esf (HLf.out.later HV2.out) HGf.out).mono ?_
      rintro e v3 ⟨rfl, hb3⟩
      rw [HNN.out]
      have HV3 : Hid (Below w1.heap.size w1 v3) := HV2.out.trans (hb3.mono HV2.out.size)
      have HRV : Hid (RunL B N0 v3 s l a rr.2.1 rr.2.2 all SA BA) := HRF.out.later HV3.out
      have kf : ∀ o, v3.frozen? ⟨s, o, none⟩ = false := by
        obtain ⟨_, _, _, _, _, _, _, _, hS, _⟩ := HRV.out.all
        exact hS.fz
      have f0 := cell_later HV3.out f0
      have f1 := cell_later HV3.out f1
      have f2 := cell_later HV3.out f2
      have z1 : decide (SF < SA) = false := decide_eq_false (by omega)
      have z2 : decide (NN < SF) = false := decide_eq_false (by omega)
      have z3 : decide (BF < BA) = false := decide_eq_false (by omega)
      have z4 : decide (SF < BF) = false := decide_eq_false (by omega)
      clear hb3
      go_wp2
      go_ret
      obtain ⟨r3, r4⟩ := HRV.out.set hB (i := 1) (n := SF) (safe' := SF) (base' := BA) (Or.inl ⟨rfl, rfl, rfl⟩)
      obtain ⟨r5, r6⟩ := r3.set hB (i := 2) (n := BF) (safe' := SF) (base' := BF) (Or.inr ⟨rfl, rfl, rfl⟩)
      have hNW := HRF.out.1
      refine ⟨rfl, HBF0.out.trans (((HV3.out.mono hNW).trans r4).trans r6), all, rr.2.1, rr.2.2, ?_, HTF.out, HSTF.out, HAL.out⟩
      rw [HSF.out, HBF.out]
      exact r5
  by_cases w3 : what = 3
  · subst w3
    have hsy := HT.out.sync
    have HSY : Hid (Tell S all (syncL st g).2.1 (syncL st g).2.2 ∧ g.safe ≤ (syncL st g).2.2.safe ∧ (syncL st g).2.2.base = g.base) := hsy
    clear hsy
    go_enter Tryz.func18, Tryz.ntmps18
    go_wp2_with fail
    rw [← hW0]
    refine (lsync_any B W0 X l a st g HL.out HNE.out HX.out (by omega)).mono ?_
    rintro e w1 ⟨rfl, hi1, ho1⟩
    obtain ⟨g1, g2, _⟩ := HGO.out w1 ho1
    have HRF : Hid (RunL B N0 w1 s l a (syncL st g).2.1 (syncL st g).2.2 all SA BA) := g2 _ _ _ hi1
    have HBF0 : Hid (Below N0 W w1) := HB0.out.trans g1
    have HSB : Hid (SA ≤ (syncL st g).2.2.safe ∧ BA ≤ (syncL st g).2.2.base) := ⟨by rw [HSA.out]; exact HSY.out.2.1, by rw [HBA.out, HSY.out.2.2]; exact Nat.le_refl _⟩
    have HSTF : Hid ((syncL st g).2.1.steps ≤ st.steps + 100) := by
      have h1 := syncL_steps st g
      have : (syncL st g).2.1.steps ≤ st.steps + 100 := by omega
      exact this
    have HTF : Hid (Tell S all (syncL st g).2.1 (syncL st g).2.2) := HSY.out.1
    have HAL : Hid (all.length ≤ all.length + 1) := Nat.le_succ _
    clear hi1 ho1 g1 g2 b0 b1 b2 a1 hW0
    obtain ⟨Yf, pf, capf, esf, qf, cf, hLf, hGf, hSf, _, _, _⟩ := HRF.out.all
    have HLf : Hid (LogAt w1 Yf l a (syncL st g).2.2 pf capf esf) := hLf
    have HGf : Hid (LgW (syncL st g).2.2) := hGf
    have f0 := hSf.c0
    have f1 := hSf.c1
    have f2 := hSf.c2
    have hnxt := HTF.out.next
    have hsle := HTF.out.ok.safe
    have hblo := HTF.out.low
    have HALL : Hid (all.length = (syncL st g).2.2.next) := hnxt.symm
    obtain ⟨NN, hNN⟩ : ∃ NN, (syncL st g).2.2.next = NN := ⟨_, rfl⟩
    have HNN : Hid ((syncL st g).2.2.next = NN) := hNN
    obtain ⟨SF, hSF⟩ : ∃ SF, (syncL st g).2.2.safe = SF := ⟨_, rfl⟩
    have HSF : Hid ((syncL st g).2.2.safe = SF) := hSF
    obtain ⟨BF, hBF⟩ : ∃ BF, (syncL st g).2.2.base = BF := ⟨_, rfl⟩
    have HBF : Hid ((syncL st g).2.2.base = BF) := hBF
    have hge1 := HSB.out.1
    have hge2 := HSB.out.2
    rw [hSF] at hsle hblo hge1
    rw [hNN] at hsle
    rw [hBF] at hblo hge2
    rw [show all.length = NN by rw [HALL.out, hNN]] at f0
    have hNbig : NN ≤ 2000000000000 := by rw [← hNN]; exact hGf.next_le
    clear hLf hGf hSf hnxt hNN hSF hBF
    go_wp2_with fail
    refine (safe_any _ Yf l a (syncL st g).2.2 pf capf esf HLf.out).mono ?_
    rintro e v1 ⟨rfl, hb1⟩
    rw [HSF.out]
    have HV1 : Hid (Below w1.heap.size w1 v1) := hb1
    clear hb1
    go_wp2_with fail
    refine (base_any _ Yf l a (syncL st g).2.2 pf capf esf (HLf.out.later HV1.out) HGf.out).mono ?_
    rintro e v2 ⟨rfl, hb2⟩
    rw [HBF.out]
    have HV2 : Hid (Below w1.heap.size w1 v2) := HV1.out.trans (hb2.mono HV1.out.size)
    clear hb2
    go_wp2_with fail
    refine (next_any _ Yf l a (syncL st g).2.2 pf capf esf (HLf.out.later HV2.out) HGf.out).mono ?_
    rintro e v3 ⟨rfl, hb3⟩
    rw [HNN.out]
    have HV3 : Hid (Below w1.heap.size w1 v3) := HV2.out.trans (hb3.mono HV2.out.size)
    have HRV : Hid (RunL B N0 v3 s l a (syncL st g).2.1 (syncL st g).2.2 all SA BA) := HRF.out.later HV3.out
    have kf : ∀ o, v3.frozen? ⟨s, o, none⟩ = false := by
      obtain ⟨_, _, _, _, _, _, _, _, hS, _⟩ := HRV.out.all
      exact hS.fz
    have f0 := cell_later HV3.out f0
    have f1 := cell_later HV3.out f1
    have f2 := cell_later HV3.out f2
    have z1 : decide (SF < SA) = false := decide_eq_false (by omega)
    have z2 : decide (NN < SF) = false := decide_eq_false (by omega)
    have z3 : decide (BF < BA) = false := decide_eq_false (by omega)
    have z4 : decide (SF < BF) = false := decide_eq_false (by omega)
    clear hb3
    go_wp2
    go_ret
    obtain ⟨r3, r4⟩ := HRV.out.set hB (i := 1) (n := SF) (safe' := SF) (base' := BA) (Or.inl ⟨rfl, rfl, rfl⟩)
    obtain ⟨r5, r6⟩ := r3.set hB (i := 2) (n := BF) (safe' := SF) (base' := BF) (Or.inr ⟨rfl, rfl, rfl⟩)
    have hNW := HRF.out.1
    refine ⟨rfl, HBF0.out.trans (((HV3.out.mono hNW).trans r4).trans r6), all, (syncL st g).2.1, (syncL st g).2.2, ?_, HTF.out, HSTF.out, HAL.out⟩
    rw [HSF.out, HBF.out]
    exact r5
  by_cases w5 : what = 5
  · subst w5
    by_cases hns : (SA : Int) < n
    · have htr := HT.out.trunc (SA : Int)
      have HTR : Hid (Tell S all (truncL st g (SA : Int)).2.1 (truncL st g (SA : Int)).2.2 ∧ (truncL st g (SA : Int)).2.2.safe = g.safe ∧ g.base ≤ (truncL st g (SA : Int)).2.2.base ∧ (truncL st g (SA : Int)).2.1.steps ≤ st.steps + g.segs.length) := htr
      clear htr
      go_enter Tryz.func18, Tryz.ntmps18
      rw [hW0] at a1 b2
      go_wp2_with fail
      rw [← hW0]
      refine (ltrunc_any B W0 X l a st g HL.out HX.out (by omega) (SA : Int)).mono ?_
      rintro e w1 ⟨rfl, hi1, ho1⟩
      obtain ⟨g1, g2, _⟩ := HGO.out w1 ho1
      have HRF : Hid (RunL B N0 w1 s l a (truncL st g (SA : Int)).2.1 (truncL st g (SA : Int)).2.2 all SA BA) := g2 _ _ _ hi1
      have HBF0 : Hid (Below N0 W w1) := HB0.out.trans g1
      have HSB : Hid (SA ≤ (truncL st g (SA : Int)).2.2.safe ∧ BA ≤ (truncL st g (SA : Int)).2.2.base) := ⟨by rw [HTR.out.2.1]; exact Nat.le_of_eq HSA.out, by rw [HBA.out]; exact HTR.out.2.2.1⟩
      have HSTF : Hid ((truncL st g (SA : Int)).2.1.steps ≤ st.steps + 100) := by
        have h1 := HTR.out.2.2.2
        have h2 := HT.out.segs
        have : (truncL st g (SA : Int)).2.1.steps ≤ st.steps + 100 := by omega
        exact this
      have HTF : Hid (Tell S all (truncL st g (SA : Int)).2.1 (truncL st g (SA : Int)).2.2) := HTR.out.1
      have HAL : Hid (all.length ≤ all.length + 1) := Nat.le_succ _
      obtain ⟨rr, hrr⟩ : ∃ rr, truncL st g (SA : Int) = rr := ⟨_, rfl⟩
      rw [hrr] at HRF HSB HSTF HTF ⊢
      clear hi1 ho1 g1 g2 b0 b1 b2 a1 hW0 hrr
      obtain ⟨Yf, pf, capf, esf, qf, cf, hLf, hGf, hSf, _, _, _⟩ := HRF.out.all
      have HLf : Hid (LogAt w1 Yf l a rr.2.2 pf capf esf) := hLf
      have HGf : Hid (LgW rr.2.2) := hGf
      have f0 := hSf.c0
      have f1 := hSf.c1
      have f2 := hSf.c2
      have hnxt := HTF.out.next
      have hsle := HTF.out.ok.safe
      have hblo := HTF.out.low
      have HALL : Hid (all.length = rr.2.2.next) := hnxt.symm
      obtain ⟨NN, hNN⟩ : ∃ NN, rr.2.2.next = NN := ⟨_, rfl⟩
      have HNN : Hid (rr.2.2.next = NN) := hNN
      obtain ⟨SF, hSF⟩ : ∃ SF, rr.2.2.safe = SF := ⟨_, rfl⟩
      have HSF : Hid (rr.2.2.safe = SF) := hSF
      obtain ⟨BF, hBF⟩ : ∃ BF, rr.2.2.base = BF := ⟨_, rfl⟩
      have HBF : Hid (rr.2.2.base = BF) := hBF
      have hge1 := HSB.out.1
      have hge2 := HSB.out.2
      rw [hSF] at hsle hblo hge1
      rw [hNN] at hsle
      rw [hBF] at hblo hge2
      rw [show all.length = NN by rw [HALL.out, hNN]] at f0
      have hNbig : NN ≤ 2000000000000 := by rw [← hNN]; exact hGf.next_le
      clear hLf hGf hSf hnxt hNN hSF hBF
      go_wp2_with fail
      refine (safe_any _ Yf l a rr.2.2 pf capf esf HLf.out).mono ?_
      rintro e v1 ⟨rfl, hb1⟩
      rw [HSF.out]
      have HV1 : Hid (Below w1.heap.size w1 v1) := hb1
      clear hb1
      go_wp2_with fail
      refine (base_any _ Yf l a rr.2.2 pf capf esf (HLf.out.later HV1.out) HGf.out).mono ?_
      rintro e v2 ⟨rfl, hb2⟩
      rw [HBF.out]
      have HV2 : Hid (Below w1.heap.size w1 v2) := HV1.out.trans (hb2.mono HV1.out.size)
      clear hb2
      go_wp2_with fail
      refine (next_any _ Yf l a rr.2.2 pf capf esf (HLf.out.later HV2.out) HGf.out).mono ?_
      rintro e v3 ⟨rfl, hb3⟩
      rw [HNN.out]
      have HV3 : Hid (Below w1.heap.size w1 v3) := HV2.out.trans (hb3.mono HV2.out.size)
      have HRV : Hid (RunL B N0 v3 s l a rr.2.1 rr.2.2 all SA BA) := HRF.out.later HV3.out
      have kf : ∀ o, v3.frozen? ⟨s, o, none⟩ = false := by
        obtain ⟨_, _, _, _, _, _, _, _, hS, _⟩ := HRV.out.all
        exact hS.fz
      have f0 := cell_later HV3.out f0
      have f1 := cell_later HV3.out f1
      have f2 := cell_later HV3.out f2
      have z1 : decide (SF < SA) = false := decide_eq_false (by omega)
      have z2 : decide (NN < SF) = false := decide_eq_false (by omega)
      have z3 : decide (BF < BA) = false := decide_eq_false (by omega)
      have z4 : decide (SF < BF) = false := decide_eq_false (by omega)
      clear hb3
      go_wp2
      go_ret
      obtain ⟨r3, r4⟩ := HRV.out.set hB (i := 1) (n := SF) (safe' := SF) (base' := BA) (Or.inl ⟨rfl, rfl, rfl⟩)
      obtain ⟨r5, r6⟩ := r3.set hB (i := 2) (n := BF) (safe' := SF) (base' := BF) (Or.inr ⟨rfl, rfl, rfl⟩)
      have hNW := HRF.out.1
      refine ⟨rfl, HBF0.out.trans (((HV3.out.mono hNW).trans r4).trans r6), all, rr.2.1, rr.2.2, ?_, HTF.out, HSTF.out, HAL.out⟩
      rw [HSF.out, HBF.out]
      exact r5
    · have htr := HT.out.trunc n
      have HTR : Hid (Tell S all (truncL st g n).2.1 (truncL st g n).2.2 ∧ (truncL st g n).2.2.safe = g.safe ∧ g.base ≤ (truncL st g n).2.2.base ∧ (truncL st g n).2.1.steps ≤ st.steps + g.segs.length) := htr
      clear htr
      go_enter Tryz.func18, Tryz.ntmps18
      rw [hW0] at a1 b2
      go_wp2_with fail
      rw [← hW0]
      refine (ltrunc_any B W0 X l a st g HL.out HX.out (by omega) n).mono ?_
      rintro e w1 ⟨rfl, hi1, ho1⟩
      obtain ⟨g1, g2, _⟩ := HGO.out w1 ho1
      have HRF : Hid (RunL B N0 w1 s l a (truncL st g n).2.1 (truncL st g n).2.2 all SA BA) := g2 _ _ _ hi1
      have HBF0 : Hid (Below N0 W w1) := HB0.out.trans g1
      have HSB : Hid (SA ≤ (truncL st g n).2.2.safe ∧ BA ≤ (truncL st g n).2.2.base) := ⟨by rw [HTR.out.2.1]; exact Nat.le_of_eq HSA.out, by rw [HBA.out]; exact HTR.out.2.2.1⟩
      have HSTF : Hid ((truncL st g n).2.1.steps ≤ st.steps + 100) := by
        have h1 := HTR.out.2.2.2
        have h2 := HT.out.segs
        have : (truncL st g n).2.1.steps ≤ st.steps + 100 := by omega
        exact this
      have HTF : Hid (Tell S all (truncL st g n).2.1 (truncL st g n).2.2) := HTR.out.1
      have HAL : Hid (all.length ≤ all.length + 1) := Nat.le_succ _
      obtain ⟨rr, hrr⟩ : ∃ rr, truncL st g n = rr := ⟨_, rfl⟩
      rw [hrr] at HRF HSB HSTF HTF ⊢
      clear hi1 ho1 g1 g2 b0 b1 b2 a1 hW0 hrr
      obtain ⟨Yf, pf, capf, esf, qf, cf, hLf, hGf, hSf, _, _, _⟩ := HRF.out.all
      have HLf : Hid (LogAt w1 Yf l a rr.2.2 pf capf esf) := hLf
      have HGf : Hid (LgW rr.2.2) := hGf
      have f0 := hSf.c0
      have f1 := hSf.c1
      have f2 := hSf.c2
      have hnxt := HTF.out.next
      have hsle := HTF.out.ok.safe
      have hblo := HTF.out.low
      have HALL : Hid (all.length = rr.2.2.next) := hnxt.symm
      obtain ⟨NN, hNN⟩ : ∃ NN, rr.2.2.next = NN := ⟨_, rfl⟩
      have HNN : Hid (rr.2.2.next = NN) := hNN
      obtain ⟨SF, hSF⟩ : ∃ SF, rr.2.2.safe = SF := ⟨_, rfl⟩
      have HSF : Hid (rr.2.2.safe = SF) := hSF
      obtain ⟨BF, hBF⟩ : ∃ BF, rr.2.2.base = BF := ⟨_, rfl⟩
      have HBF : Hid (rr.2.2.base = BF) := hBF
      have hge1 := HSB.out.1
      have hge2 := HSB.out.2
      rw [hSF] at hsle hblo hge1
      rw [hNN] at hsle
      rw [hBF] at hblo hge2
      rw [show all.length = NN by rw [HALL.out, hNN]] at f0
      have hNbig : NN ≤ 2000000000000 := by rw [← hNN]; exact hGf.next_le
      clear hLf hGf hSf hnxt hNN hSF hBF
      go_wp2_with fail
      refine (safe_any _ Yf l a rr.2.2 pf capf esf HLf.out).mono ?_
      rintro e v1 ⟨rfl, hb1⟩
      rw [HSF.out]
      have HV1 : Hid (Below w1.heap.size w1 v1) := hb1
      clear hb1
      go_wp2_with fail
      refine (base_any _ Yf l a rr.2.2 pf capf esf (HLf.out.later HV1.out) HGf.out).mono ?_
      rintro e v2 ⟨rfl, hb2⟩
      rw [HBF.out]
      have HV2 : Hid (Below w1.heap.size w1 v2) := HV1.out.trans (hb2.mono HV1.out.size)
      clear hb2
      go_wp2_with fail
      refine (next_any _ Yf l a rr.2.2 pf capf esf (HLf.out.later HV2.out) HGf.out).mono ?_
      rintro e v3 ⟨rfl, hb3⟩
      rw [HNN.out]
      have HV3 : Hid (Below w1.heap.size w1 v3) := HV2.out.trans (hb3.mono HV2.out.size)
      have HRV : Hid (RunL B N0 v3 s l a rr.2.1 rr.2.2 all SA BA) := HRF.out.later HV3.out
      have kf : ∀ o, v3.frozen? ⟨s, o, none⟩ = false := by
        obtain ⟨_, _, _, _, _, _, _, _, hS, _⟩ := HRV.out.all
        exact hS.fz
      have f0 := cell_later HV3.out f0
      have f1 := cell_later HV3.out f1
      have f2 := cell_later HV3.out f2
      have z1 : decide (SF < SA) = false := decide_eq_false (by omega)
      have z2 : decide (NN < SF) = false := decide_eq_false (by omega)
      have z3 : decide (BF < BA) = false := decide_eq_false (by omega)
      have z4 : decide (SF < BF) = false := decide_eq_false (by omega)
      clear hb3
      go_wp2
      go_ret
      obtain ⟨r3, r4⟩ := HRV.out.set hB (i := 1) (n := SF) (safe' := SF) (base' := BA) (Or.inl ⟨rfl, rfl, rfl⟩)
      obtain ⟨r5, r6⟩ := r3.set hB (i := 2) (n := BF) (safe' := SF) (base' := BF) (Or.inr ⟨rfl, rfl, rfl⟩)
      have hNW := HRF.out.1
      refine ⟨rfl, HBF0.out.trans (((HV3.out.mono hNW).trans r4).trans r6), all, rr.2.1, rr.2.2, ?_, HTF.out, HSTF.out, HAL.out⟩
      rw [HSF.out, HBF.out]
      exact r5
  · have HRF : Hid (RunL B N0 W0 s l a st g all SA BA) := HR.out
    have HBF0 : Hid (Below N0 W W0) := HB0.out
    have HSB : Hid (SA ≤ g.safe ∧ BA ≤ g.base) := ⟨Nat.le_of_eq HSA.out, Nat.le_of_eq HBA.out⟩
    have HSTF : Hid (st.steps ≤ st.steps + 100) := Nat.le_add_right _ _
    have HTF : Hid (Tell S all st g) := HT.out
    have HAL : Hid (all.length ≤ all.length + 1) := Nat.le_succ _
    go_enter Tryz.func18, Tryz.ntmps18
    go_wp2_with fail
    rw [← hW0]
    clear b0 b1 b2 a1 hW0
    obtain ⟨Yf, pf, capf, esf, qf, cf, hLf, hGf, hSf, _, _, _⟩ := HRF.out.all
    have HLf : Hid (LogAt W0 Yf l a g pf capf esf) := hLf
    have HGf : Hid (LgW g) := hGf
    have f0 := hSf.c0
    have f1 := hSf.c1
    have f2 := hSf.c2
    have hnxt := HTF.out.next
    have hsle := HTF.out.ok.safe
    have hblo := HTF.out.low
    have HALL : Hid (all.length = g.next) := hnxt.symm
    obtain ⟨NN, hNN⟩ : ∃ NN, g.next = NN := ⟨_, rfl⟩
    have HNN : Hid (g.next = NN) := hNN
    obtain ⟨SF, hSF⟩ : ∃ SF, g.safe = SF := ⟨_, rfl⟩
    have HSF : Hid (g.safe = SF) := hSF
    obtain ⟨BF, hBF⟩ : ∃ BF, g.base = BF := ⟨_, rfl⟩
    have HBF : Hid (g.base = BF) := hBF
    have hge1 := HSB.out.1
    have hge2 := HSB.out.2
    rw [hSF] at hsle hblo hge1
    rw [hNN] at hsle
    rw [hBF] at hblo hge2
    rw [show all.length = NN by rw [HALL.out, hNN]] at f0
    have hNbig : NN ≤ 2000000000000 := by rw [← hNN]; exact hGf.next_le
    clear hLf hGf hSf hnxt hNN hSF hBF
    refine (safe_any _ Yf l a g pf capf esf HLf.out).mono ?_
    rintro e v1 ⟨rfl, hb1⟩
    rw [HSF.out]
    have HV1 : Hid (Below W0.heap.size W0 v1) := hb1
    clear hb1
    go_wp2_with fail
    refine (base_any _ Yf l a g pf capf esf (HLf.out.later HV1.out) HGf.out).mono ?_
    rintro e v2 ⟨rfl, hb2⟩
    rw [HBF.out]
    have HV2 : Hid (Below W0.heap.size W0 v2) := HV1.out.trans (hb2.mono HV1.out.size)
    clear hb2
    go_wp2_with fail
    refine (next_any _ Yf l a g pf capf esf (HLf.out.later HV2.out) HGf.out).mono ?_
    rintro e v3 ⟨rfl, hb3⟩
    rw [HNN.out]
    have HV3 : Hid (Below W0.heap.size W0 v3) := HV2.out.trans (hb3.mono HV2.out.size)
    have HRV : Hid (RunL B N0 v3 s l a st g all SA BA) := HRF.out.later HV3.out
    have kf : ∀ o, v3.frozen? ⟨s, o, none⟩ = false := by
      obtain ⟨_, _, _, _, _, _, _, _, hS, _⟩ := HRV.out.all
      exact hS.fz
    have f0 := cell_later HV3.out f0
    have f1 := cell_later HV3.out f1
    have f2 := cell_later HV3.out f2
    have z1 : decide (SF < SA) = false := decide_eq_false (by omega)
    have z2 : decide (NN < SF) = false := decide_eq_false (by omega)
    have z3 : decide (BF < BA) = false := decide_eq_false (by omega)
    have z4 : decide (SF < BF) = false := decide_eq_false (by omega)
    clear hb3
    go_wp2
    go_ret
    obtain ⟨r3, r4⟩ := HRV.out.set hB (i := 1) (n := SF) (safe' := SF) (base' := BA) (Or.inl ⟨rfl, rfl, rfl⟩)
    obtain ⟨r5, r6⟩ := r3.set hB (i := 2) (n := BF) (safe' := SF) (base' := BF) (Or.inr ⟨rfl, rfl, rfl⟩)
    have hNW := HRF.out.1
    refine ⟨rfl, HBF0.out.trans (((HV3.out.mono hNW).trans r4).trans r6), all, st, g, ?_, HTF.out, HSTF.out, HAL.out⟩
    rw [HSF.out, HBF.out]
    exact r5
end Go.Proofs.YteanhkdnakmggaaGreatDoor
/- Walks of layer 6: scripts; weighs. -/
namespace Go.Proofs.YteanhkdnakmggaaGreatDoor
open Go.RowKit

/-- One of a script. -/
structure OpW where
  what : Int
  d : ByteArray
  n : Int
  m : Int
  kp : Option Addr
  kc : Nat
  ks : List Int
structure OpAt (w : World) (b off : Nat) (x : OpW) : Prop where
  c0 : w.cell? ⟨b, off, none⟩ = some (.int .i64 x.what)
  c1 : w.cell? ⟨b, off + 1, none⟩ = some (.string x.d)
  c2 : w.cell? ⟨b, off + 2, none⟩ = some (.int .i64 x.n)
  c3 : w.cell? ⟨b, off + 3, none⟩ = some (.int .i64 x.m)
  c4 : w.cell? ⟨b, off + 4, none⟩ = some (.slice x.kp x.ks.length x.kc)
  ints : Ints w x.kp x.ks
  kl : x.ks.length ≤ x.kc
  nb : x.n ≤ 9223372036854775807
  db : x.d.size ≤ 140737488351232
  kb : x.ks.length ≤ 140737488351232
def ORow6 (w : World) (p : Option Addr) (l : List OpW) : Prop := ∀ i (h : i < l.length), ∃ b off, p = some ⟨b, off, none⟩ ∧ OpAt w b (off + i * 5) l[i]
theorem ints_later {w w' : World} {p : Option Addr} {ks : List Int} (h : Ints w p ks) (hb : Below w.heap.size w w') : Ints w' p ks := fun i hi => by
  obtain ⟨b, off, e, hc⟩ := h i hi
  exact ⟨b, off, e, cell_later hb hc⟩
theorem OpAt.later {w w' : World} {b off : Nat} {x : OpW} (h : OpAt w b off x) (hb : Below w.heap.size w w') : OpAt w' b off x :=
  ⟨cell_later hb h.c0, cell_later hb h.c1, cell_later hb h.c2, cell_later hb h.c3, cell_later hb h.c4, ints_later h.ints hb, h.kl, h.nb, h.db, h.kb⟩
theorem ORow6.later {w w' : World} {p : Option Addr} {l : List OpW} (h : ORow6 w p l) (hb : Below w.heap.size w w') : ORow6 w' p l := fun i hi => by
  obtain ⟨b, off, e, hc⟩ := h i hi
  exact ⟨b, off, e, hc.later hb⟩
def Sm (x : OpW) : Prop := x.d.size ≤ 2147483647 ∧ x.ks.length ≤ 2147483647
theorem belowN {B : Nat} {a w : World} (h : Below B a w) (n : Nat) : Below B a (w.drewN n) := ⟨h.os, h.tape, h.output, h.size, h.block⟩

set_option maxHeartbeats 8000000 in
set_option maxRecDepth 100000 in
theorem weighs6_any (w : World) (q : Option Addr) (cap : Nat) (s : List OpW) (hl : s.length ≤ 9223372036854775807) (hq : ORow6 w q s) :
    Calls Tryz.prog 7 #[.slice none 0 0, .slice q s.length cap] w fun e w' => ∃ m : Nat, e = .returned (.int .i64 (m : Int)) ∧ (m ≤ 2147483647 → s.length ≤ 2147483647 ∧ ∀ x ∈ s, Sm x) ∧ Below w.heap.size w w' := by
  have HQ : Hid (ORow6 w q s) := hq
  clear hq
  go_enter Tryz.func7, Tryz.ntmps7
  go_wp2
  go_loopw [5, 6] (fun z i wr => i = .int .i64 0 ∧ z = .int .i64 (s.length : Int) ∧ wr = w) (fun _ _ _ => 0)
  case atStart => exact ⟨rfl, by first | rfl | go_num, rfl⟩
  case round =>
    obtain ⟨rfl, rfl, hwr⟩ := hrel
    have hwr' := hwr.symm
    subst hwr'
    clear hwr
    go_wp2
    go_loopw [5, 7] (fun z i wr => ∃ (k m : Nat), k ≤ s.length ∧ i = .int .i64 k ∧ z = .int .i64 (m : Int) ∧ m ≤ 9223372036854775807 ∧ s.length ≤ m ∧ (m ≤ 2147483647 → ∀ j (h : j < s.length), j < k → Sm s[j]) ∧ Below w.heap.size w wr) (fun _ i _ => s.length - (intOf i).toNat)
    case atStart => exact ⟨0, s.length, Nat.zero_le _, rfl, rfl, hl, Nat.le_refl _, fun _ j _ h => absurd h (Nat.not_lt_zero _), Below.refl _ _⟩
    case round =>
      obtain ⟨k, m, hk, rfl, rfl, hm, hlm, hall, hb⟩ := hrel
      have HA : Hid (m ≤ 2147483647 → ∀ j (h : j < s.length), j < k → Sm s[j]) := hall
      have HLM : Hid (s.length ≤ m) := hlm
      have HB : Hid (Below w.heap.size w wr) := hb
      clear hall hlm hb
      by_cases hin : k < s.length ∧ m ≤ 2147483647
      · obtain ⟨hlt, hm1⟩ := hin
        have hlti : (k : Int) < (s.length : Int) := by omega
        have hm1i : (m : Int) ≤ 2147483647 := by omega
        obtain ⟨b, off, rfl, hop⟩ := (HQ.out.later HB.out) k hlt
        obtain ⟨x, hx⟩ : ∃ x, s[k] = x := ⟨_, rfl⟩
        rw [hx] at hop
        have d1 := hop.c1
        have d4 := hop.c4
        have hdb := hop.db
        have hkb := hop.kb
        obtain ⟨D, hD⟩ : ∃ D, x.d = D := ⟨_, rfl⟩
        obtain ⟨K, hK⟩ : ∃ K, x.ks.length = K := ⟨_, rfl⟩
        rw [hD] at d1 hdb
        rw [hK] at d4 hkb
        have HLT : Hid (k < s.length) := hlt
        have HX : Hid (∀ h : k < s.length, s[k]'h = x) := fun _ => hx
        have HDK : Hid (x.d = D ∧ x.ks.length = K) := ⟨hD, hK⟩
        obtain ⟨E, hE⟩ : ∃ E, m + D.size = E := ⟨_, rfl⟩
        have hEi : (m : Int) + (D.size : Int) = (E : Int) := by omega
        obtain ⟨G, hG⟩ : ∃ G, E + K = G := ⟨_, rfl⟩
        have hGi : (E : Int) + (K : Int) = (G : Int) := by omega
        have HE : Hid (m + D.size + K = G) := by
          have : m + D.size + K = G := by omega
          exact this
        have hE2 : E ≤ 281474976710656 := by omega
        have hG2 : G ≤ 562949953421312 := by omega
        clear hop hx hD hK hE hG
        go_wp2
        go_quiet (fail)
        go_wp2
        go_roundw
        case rel =>
          refine ⟨k + 1, G, HLT.out, by go_num, rfl, by omega, by have := HLM.out; have := HE.out; omega, fun hGs j h hj => ?_, belowN HB.out _⟩
          by_cases e : j = k
          · subst e
            rw [HX.out]
            have h1 := HE.out
            exact ⟨by rw [HDK.out.1]; omega, by rw [HDK.out.2]; omega⟩
          · exact HA.out hm1 j h (by omega)
        case measure => have := HLT.out; simp [intOf]; omega
      · by_cases hl4 : k < s.length
        · have hl4i : (k : Int) < (s.length : Int) := by omega
          have hbi4 : ¬ (m : Int) ≤ 2147483647 := by omega
          go_wp2
          go_ret
          exact ⟨m, rfl, fun h => by omega, HB.out⟩
        · have hl4i : ¬ (k : Int) < (s.length : Int) := by omega
          go_wp2
          go_ret
          exact ⟨m, rfl, fun h => ⟨by have := HLM.out; omega, fun x hx => by obtain ⟨j, hj, rfl⟩ := List.getElem_of_mem hx; exact HA.out h j hj (by omega)⟩, HB.out⟩
end Go.Proofs.YteanhkdnakmggaaGreatDoor
/- Walks of layer 6: WalLasts. -/
namespace Go.Proofs.YteanhkdnakmggaaGreatDoor
open Go.RowKit

theorem darm2_any {B : Nat} {w : World} {X : Nat → Prop} {l a : Nat} {st : St} {g : Lg} (h : IsLog B w X l a st g) (hX : ∀ k, w.heap.size ≤ k → X k) {n : Int} (hn : n ≤ 9223372036854775807) :
    Calls Tryz.prog 14 #[.pointer (some ⟨a, 0, none⟩), .int .i64 n] w fun e w' => e = .returned (.int .i64 (armR st n).1) ∧ IsLog B w' X l a (armR st n).2 g ∧ Only X w w' := by
  obtain ⟨p, cap, es, h⟩ := h
  obtain ⟨Z, h1, _, h3⟩ := h.disk hX
  refine (arm_any w Z a st n hn h1).mono ?_
  rintro e w' ⟨rfl, k1, k2⟩
  obtain ⟨r1, r2⟩ := h3 w' _ k1 k2
  exact ⟨rfl, r1.is, r2⟩
theorem Tell.arm {S : Nat} {all : List (List UInt8)} {st : St} {g : Lg} (h : Tell S all st g) {n : Int} (hn : n ≤ 9223372036854775807) : Tell S all (armR st n).2 g ∧ (armR st n).2.steps = st.steps := by
  have hok := armR_ok h.dok hn
  have e : (armR st n).2.fs = st.fs ∧ (armR st n).2.steps = st.steps := by
    unfold armR
    split
    · exact ⟨rfl, rfl⟩
    · split <;> exact ⟨rfl, rfl⟩
  exact ⟨h.same hok e.1, e.2⟩
theorem Tell.first {S : Nat} (h1 : 1 ≤ S) (h2 : S ≤ 1024) : Tell S [] ⟨1048576, [], 0, -1, false⟩ ⟨S, 0, 0, []⟩ := by
  refine ⟨⟨⟨List.Pairwise.nil, by decide, by decide, by decide, by simp, by simp⟩, by decide, by decide⟩, ⟨⟨⟨h1, h2⟩, by show 0 < 1000000000000; decide, trivial, by simp, by simp, by simp, by simp⟩, by simp, fun _ => rfl⟩, Or.inl ⟨rfl, Or.inl rfl⟩, rfl, rfl, ⟨[], rfl, rfl⟩, Nat.le_refl _⟩
theorem open_first6 {S : Nat} (h1 : 1 ≤ S) (h2 : S ≤ 1024) : openR ⟨1048576, [], 0, -1, false⟩ 0 (S : Int) = (0, ⟨1048576, [], 0, -1, false⟩, some ⟨S, 0, 0, []⟩) := by
  have := openR_ok (st := ⟨1048576, [], 0, -1, false⟩) (f := 0) (size := (S : Int)) (L := []) (by unfold argBad; omega) rfl rfl (by simp [settleR_nil])
  rw [this, settleR_nil]
  rfl
theorem new_first6 : newE 1048576 [] = 0 ∧ newSt 1048576 [] = ⟨1048576, [], 0, -1, false⟩ := ⟨by decide, rfl⟩
/-- The story at the beginning, beside a new disk. -/
theorem run_first {N0 : Nat} {w : World} {a : Nat} {st : St} (hN : N0 ≤ w.heap.size) (hD : IsDisk w (fun k => N0 ≤ k) a st) : RunD N0 (w.alloc (.cells #[.slice none 0 0, .int .i64 0, .int .i64 0] 46)) w.heap.size a st [] 0 0 := by
  have hb : Below w.heap.size w (w.alloc (.cells #[.slice none 0 0, .int .i64 0, .int .i64 0] 46)) := (Below.refl _ _).alloc (Nat.le_refl _) _
  refine ⟨Nat.le_trans hN hb.size, fun k => N0 ≤ k ∧ k < w.heap.size, fun k => k = w.heap.size, .slice none 0 0, (hD.mono fun k hk hz => ⟨hz, hk⟩).later hb, ⟨heap_alloc_new w _, World.ownsRow_nil _ _ _ _, rfl, fun k hk => by cases hk⟩, fun k h1 h2 => by omega, fun k hk => hk.1, fun k hk => ⟨by omega, by rw [hk]; simp⟩⟩
theorem ints_nil (w : World) (p : Option Addr) : Ints w p [] := fun i hi => absurd hi (by simp)

set_option maxHeartbeats 16000000 in
set_option maxRecDepth 100000 in
theorem lasts_law (B : Nat) (w : World) (hB : B ≤ w.heap.size) (hV : SV B w) (size : Int) (q : Option Addr) (cap : Nat) (sc : List OpW) (hq : ORow6 w q sc) (hcap : sc.length ≤ cap) (hml : cap ≤ maxLen) :
    Calls Tryz.prog 4 #[.int .i64 size, .slice q sc.length cap] w fun e w' => e = .returned (.bool true) ∧ Below w.heap.size w w' := by
  have HB : Hid (B ≤ w.heap.size) := hB
  have HV : Hid (SV B w) := hV
  have HQ : Hid (ORow6 w q sc) := hq
  have HLN : Hid (sc.length ≤ 9223372036854775807) := by
    have : sc.length ≤ 9223372036854775807 := by unfold maxLen at hml; omega
    exact this
  clear hB hV hq hcap hml
  go_enter Tryz.func4, Tryz.ntmps4
  go_wp2_with fail
  refine (weighs6_any w q cap sc HLN.out HQ.out).mono ?_
  rintro e w1 ⟨m, rfl, hsm, hb1⟩
  have HB1 : Hid (Below w.heap.size w w1) := hb1
  have HSM : Hid (m ≤ 2147483647 → sc.length ≤ 2147483647 ∧ ∀ x ∈ sc, Sm x) := hsm
  clear hb1 hsm
  by_cases hm : 2147483647 < m
  · have hmi : (2147483647 : Int) < (m : Int) := by omega
    go_wp2
    go_ret
    exact ⟨rfl, HB1.out⟩
  have hmi : ¬ (2147483647 : Int) < (m : Int) := by omega
  have HSMM : Hid (sc.length ≤ 2147483647 ∧ ∀ x ∈ sc, Sm x) := HSM.out (by omega)
  go_wp2_with fail
  refine (awake_any B w1 (Nat.le_trans HB.out HB1.out.size) (HV.out.later HB.out HB1.out)).mono ?_
  rintro e w2 ⟨rfl, hb2⟩
  have HB2 : Hid (Below w.heap.size w w2) := HB1.out.trans (hb2.mono HB1.out.size)
  clear hb2
  by_cases hs1 : size < 1
  · go_wp2
    go_ret
    exact ⟨rfl, HB2.out⟩
  by_cases hs2 : 1024 < size
  · go_wp2
    go_ret
    exact ⟨rfl, HB2.out⟩
  obtain ⟨S, rfl⟩ : ∃ S : Nat, size = (S : Int) := ⟨size.toNat, by omega⟩
  have HS : Hid (1 ≤ S ∧ S ≤ 1024) := by
    have : 1 ≤ S ∧ S ≤ 1024 := by omega
    exact this
  have HBN : Hid (B ≤ w2.heap.size) := Nat.le_trans HB.out HB2.out.size
  have HVN : Hid (SV B w2) := HV.out.later HB.out HB2.out
  go_wp2_with fail
  refine (new_any 1048576 none 0 [] w2 (by simp) (by simp) (FRow.nil _ _)).mono ?_
  rintro e w3 ⟨hb3, hN⟩
  rcases hN with ⟨hN, _⟩ | ⟨_, a, rfl, hi3⟩
  · exact absurd new_first6.1 hN
  rw [new_first6.2] at hi3
  have HB3 : Hid (Below w2.heap.size w2 w3) := hb3
  have hrun0 := run_first hb3.size hi3
  have HR0 : Hid (RunD w2.heap.size (w3.alloc (.cells #[.slice none 0 0, .int .i64 0, .int .i64 0] 46)) w3.heap.size a ⟨1048576, [], 0, -1, false⟩ [] 0 0) := hrun0
  clear hb3 hi3 hrun0
  go_wp2_with fail
  obtain ⟨W4, hW4⟩ : ∃ W4, W4 = w3.alloc (.cells #[.slice none 0 0, .int .i64 0, .int .i64 0] 46) := ⟨_, rfl⟩
  obtain ⟨s, hs⟩ : ∃ s, s = w3.heap.size := ⟨_, rfl⟩
  have HB4 : Hid (Below w2.heap.size w2 W4) := by
    rw [hW4]
    exact HB3.out.alloc HB3.out.size _
  rw [← hW4, ← hs]
  rw [← hW4, ← hs] at HR0
  clear hW4 hs
  obtain ⟨X, x1, x2, x3, x4⟩ := HR0.out.disk HBN.out
  refine (open_any B W4 X a ⟨1048576, [], 0, -1, false⟩ (Nat.le_trans HBN.out HB4.out.size) (HVN.out.later HBN.out HB4.out) x3 x2 x1 (by decide) 0 (S : Int)).mono ?_
  rw [open_first6 HS.out.1 HS.out.2]
  rintro e w5 ⟨ho5, hcase⟩
  rcases hcase with ⟨h0, _⟩ | ⟨l, g, hg, rfl, hi5⟩
  · cases h0
  obtain rfl : (⟨S, 0, 0, []⟩ : Lg) = g := by simpa using hg
  obtain ⟨y1, y2, _⟩ := x4 w5 ho5
  have HR5 : Hid (RunL B w2.heap.size w5 s l a ⟨1048576, [], 0, -1, false⟩ ⟨S, 0, 0, []⟩ [] 0 0) := y2 _ _ _ hi5
  have HB5 : Hid (Below w2.heap.size w2 w5) := HB4.out.trans y1
  clear x1 x2 x3 x4 ho5 hi5 hg y1 y2
  go_wp2
  go_loopw [10, 12] (fun lv i wr => ∃ (j l : Nat) (st : St) (g : Lg) (all : List (List UInt8)), j ≤ sc.length ∧ i = .int .i64 j ∧ lv = .pointer (some ⟨l, 0, none⟩) ∧ RunL B w2.heap.size wr s l a st g all g.safe g.base ∧ Tell S all st g ∧ st.steps ≤ 200 * j ∧ Below w2.heap.size w2 wr) (fun _ i _ => sc.length - (intOf i).toNat)
  case atStart => exact ⟨0, l, _, _, [], Nat.zero_le _, rfl, rfl, HR5.out, Tell.first HS.out.1 HS.out.2, Nat.le_refl _, HB5.out⟩
  case round =>
    clear HR5 HB5 HR0
    obtain ⟨j, l, st, g, all, hj, rfl, rfl, hrun, htell, hstp, hbr⟩ := hrel
    have HRUN : Hid (RunL B w2.heap.size wr s l a st g all g.safe g.base) := hrun
    have HTELL : Hid (Tell S all st g) := htell
    have HSTP : Hid (st.steps ≤ 200 * j) := hstp
    have HBR : Hid (Below w2.heap.size w2 wr) := hbr
    have HST : Hid (st.steps < 4000000000000000) := by
      have h1 := HSMM.out.1
      have : st.steps < 4000000000000000 := by omega
      exact this
    clear hrun htell hstp hbr
    by_cases hlt : j < sc.length
    · have hlti : (j : Int) < (sc.length : Int) := by omega
      have hj0 : (0 : Int) ≤ (j : Int) := by omega
      obtain ⟨b, off, rfl, hop⟩ := ((HQ.out.later HB2.out).later HBR.out) j hlt
      obtain ⟨x, hx⟩ : ∃ x, sc[j] = x := ⟨_, rfl⟩
      have hsmx : Sm x := by rw [← hx]; exact HSMM.out.2 _ (List.getElem_mem hlt)
      rw [hx] at hop
      clear hx
      obtain ⟨what, d, n, mm, kp, kc, ks⟩ := x
      have d0 := hop.c0
      have d1 := hop.c1
      have d2 := hop.c2
      have d3 := hop.c3
      have d4 := hop.c4
      have HIN : Hid (Ints wr kp ks) := hop.ints
      have HKL : Hid (ks.length ≤ kc) := hop.kl
      have HNB : Hid (n ≤ 9223372036854775807) := hop.nb
      have HSX : Hid (d.size ≤ 2147483647 ∧ ks.length ≤ 2147483647) := hsmx
      simp only at d0 d1 d2 d3 d4
      obtain ⟨W0, hW0⟩ : ∃ W0, W0 = wr.alloc (.cells #[.int .i64 what, .string d, .int .i64 n, .int .i64 mm, .slice kp ks.length kc] 41) := ⟨_, rfl⟩
      have HBW0 : Hid (Below wr.heap.size wr W0) := by
        rw [hW0]
        exact (Below.refl _ _).alloc (Nat.le_refl _) _
      have HR0 : Hid (RunL B w2.heap.size W0 s l a st g all g.safe g.base) := HRUN.out.later HBW0.out
      have HB0 : Hid (Below w2.heap.size w2 W0) := HBR.out.trans (HBW0.out.mono HBR.out.size)
      clear hop hsmx
      have HLT : Hid (j < sc.length) := hlt
      have hscl := HSMM.out.1
      by_cases w6 : what = 6
      · subst w6
        go_wp2_with fail
        rw [← hW0]
        obtain ⟨X, x1, x2, _, x4⟩ := HR0.out.log HBN.out
        refine (darm2_any x1 x2 HNB.out).mono ?_
        rintro e w6 ⟨rfl, hi6, ho6⟩
        obtain ⟨y1, y2, _⟩ := x4 w6 ho6
        obtain ⟨t1, t2⟩ := HTELL.out.arm HNB.out
        have HR6 : Hid (RunL B w2.heap.size w6 s l a (armR st n).2 g all g.safe g.base) := y2 _ _ _ hi6
        have HB6 : Hid (Below w2.heap.size w2 w6) := HB0.out.trans y1
        have HT6 : Hid (Tell S all (armR st n).2 g) := t1
        have HS6 : Hid ((armR st n).2.steps ≤ 200 * (j + 1)) := by
          have h1 := HSTP.out
          have : (armR st n).2.steps ≤ 200 * (j + 1) := by omega
          exact this
        clear x1 x2 x4 hi6 ho6 y1 y2 t1 t2 hW0 d0 d1 d2 d3 d4
        go_wp2
        go_roundw
        case rel => exact ⟨j + 1, l, _, g, all, HLT.out, by go_num, rfl, HR6.out, HT6.out, HS6.out, HB6.out⟩
        case measure => have := HLT.out; simp [intOf]; omega
      by_cases w7 : what = 7
      · subst w7
        go_wp2_with fail
        rw [← hW0]
        obtain ⟨X, x1, x2, x3, x4⟩ := (HR0.out.toD).disk (B := B) HBN.out
        refine (crash_any W0 X a st kp kc ks x1 (ints_later HIN.out HBW0.out) HKL.out (by have := HSX.out.2; omega)).mono ?_
        rintro e w6 ⟨rfl, hd6, ho6⟩
        obtain ⟨y1, _, y3⟩ := x4 w6 ho6
        have HR6 : Hid (RunD w2.heap.size w6 s a (crashR st ks) all g.safe g.base) := y3 _ hd6
        have HB6 : Hid (Below w2.heap.size w2 w6) := HB0.out.trans y1
        clear x1 x2 x3 x4 hd6 ho6 y1 y3 hW0 d0 d1 d2 d3 d4
        go_wp2_with fail
        obtain ⟨X', x1, x2, x3, x4⟩ := HR6.out.disk HBN.out
        refine (open_any B w6 X' a (crashR st ks) (Nat.le_trans HBN.out HB6.out.size) (HVN.out.later HBN.out HB6.out) x3 x2 x1 (by have := HST.out; show st.steps < _; omega) 0 (S : Int)).mono ?_
        have hcr := HTELL.out.crash HS.out.1 HS.out.2 ks
        rcases hcr with ⟨z1, z2⟩ | ⟨st', g', z1, z2, z3, z4⟩
        · rintro e w7 ⟨ho7, hcase⟩
          obtain ⟨y1, _, _⟩ := x4 w7 ho7
          have HB7 : Hid (Below w2.heap.size w2 w7) := HB6.out.trans y1
          rcases hcase with ⟨_, rfl, _⟩ | ⟨l7, g7, hg7, _⟩
          · rw [z1]
            clear x1 x2 x3 x4 ho7 y1 z1 z2
            go_wp2
            go_ret
            exact ⟨rfl, HB2.out.trans (HB7.out.mono HB2.out.size)⟩
          · rw [z2] at hg7
            cases hg7
        · rw [z1]
          rintro e w7 ⟨ho7, hcase⟩
          obtain ⟨y1, y2, _⟩ := x4 w7 ho7
          rcases hcase with ⟨h0, _⟩ | ⟨l7, g7, hg7, rfl, hi7⟩
          · cases h0
          obtain rfl : g' = g7 := by simpa using hg7
          have HR7 : Hid (RunL B w2.heap.size w7 s l7 a st' g' all g.safe g.base) := y2 _ _ _ hi7
          have HB7 : Hid (Below w2.heap.size w2 w7) := HB6.out.trans y1
          have HAG : Hid (Again S all g.safe g.base st' g') := z2
          have HS7 : Hid (st'.steps ≤ 200 * (j + 1)) := by
            have h1 := HSTP.out
            have : st'.steps ≤ 200 * (j + 1) := by omega
            exact this
          clear x1 x2 x3 x4 ho7 y1 y2 z1 z2 z3 z4 hg7 hi7
          go_wp2_with (first | (go_at_call 16; refine (agrees_any B w2.heap.size w7 s l7 a S st' g' all g.safe g.base HR7.out HBN.out HAG.out HTELL.out.low).mono ?_; rintro e w8 ⟨rfl, hb8, hr8⟩; (have HR8 : Hid (RunL B w2.heap.size w8 s l7 a st' g' (all.take g'.next) g'.safe g'.base) := hr8); (have HB8 : Hid (Below w2.heap.size w2 w8) := HB7.out.trans hb8); clear hr8 hb8))
          go_roundw
          case rel => exact ⟨j + 1, l7, st', g', _, HLT.out, by go_num, rfl, HR8.out, HAG.out.tell, HS7.out, HB8.out⟩
          case measure => have := HLT.out; simp [intOf]; omega
      · go_wp2_with fail
        rw [← hW0]
        obtain ⟨X, x1, _⟩ := (HR0.out.toD).disk (B := B) HBN.out
        refine (down_any W0 X a st x1).mono ?_
        rintro e w6 ⟨rfl, hw6⟩
        have hw6' := hw6.symm
        subst hw6'
        clear x1 hw6
        cases hdn : st.down with
        | true =>
          have HS6 : Hid (st.steps ≤ 200 * (j + 1)) := by
            have h1 := HSTP.out
            have : st.steps ≤ 200 * (j + 1) := by omega
            exact this
          clear hW0 d0 d1 d2 d3 d4
          go_wp2
          go_roundw
          case rel => exact ⟨j + 1, l, st, g, all, HLT.out, by go_num, rfl, HR0.out, HTELL.out, HS6.out, HB0.out⟩
          case measure => have := HLT.out; simp [intOf]; omega
        | false =>
          have b0 : W0.cell? ⟨wr.heap.size, 0, none⟩ = some (.int .i64 what) := by rw [hW0]; simp
          have b1 : W0.cell? ⟨wr.heap.size, 1, none⟩ = some (.string d) := by rw [hW0]; simp
          have b2 : W0.cell? ⟨wr.heap.size, 2, none⟩ = some (.int .i64 n) := by rw [hW0]; simp
          have b3 : W0.cell? ⟨wr.heap.size, 3, none⟩ = some (.int .i64 mm) := by rw [hW0]; simp
          have b4 : W0.cell? ⟨wr.heap.size, 4, none⟩ = some (.slice kp ks.length kc) := by rw [hW0]; simp
          clear hW0 d0 d1 d2 d3 d4
          go_wp2_with fail
          refine (writes_any B w2.heap.size W0 s l a S g.safe g.base st g all HR0.out HBN.out HTELL.out rfl rfl (by have := HST.out; omega) what d n mm kp ks.length kc (by have := HSX.out.1; omega)).mono ?_
          rintro e w7 ⟨rfl, hb7, all', st', g', hr7, ht7, hs7, _⟩
          have HR7 : Hid (RunL B w2.heap.size w7 s l a st' g' all' g'.safe g'.base) := hr7
          have HT7 : Hid (Tell S all' st' g') := ht7
          have HB7 : Hid (Below w2.heap.size w2 w7) := HB0.out.trans hb7
          have HS7 : Hid (st'.steps ≤ 200 * (j + 1)) := by
            have h1 := HSTP.out
            have : st'.steps ≤ 200 * (j + 1) := by omega
            exact this
          clear hr7 ht7 hs7 hb7 b0 b1 b2 b3 b4
          go_wp2
          go_roundw
          case rel => exact ⟨j + 1, l, st', g', all', HLT.out, by go_num, rfl, HR7.out, HT7.out, HS7.out, HB7.out⟩
          case measure => have := HLT.out; simp [intOf]; omega
    · have hlti : ¬ (j : Int) < (sc.length : Int) := by omega
      obtain ⟨X, x1, x2, x3, x4⟩ := (HRUN.out.toD).disk (B := B) HBN.out
      have HX1 : Hid (IsDisk wr X a st) := x1
      have HX4 : Hid (Goes B w2.heap.size wr s a all g.safe g.base X) := x4
      clear x1 x2 x3 x4
      go_wp2_with fail
      refine (crash_any wr X a st none 0 [] HX1.out (ints_nil _ _) (by simp) (by simp)).mono ?_
      rintro e w6 ⟨rfl, hd6, ho6⟩
      obtain ⟨y1, _, y3⟩ := HX4.out w6 ho6
      have HR6 : Hid (RunD w2.heap.size w6 s a (crashR st []) all g.safe g.base) := y3 _ hd6
      have HB6 : Hid (Below w2.heap.size w2 w6) := HBR.out.trans y1
      clear hd6 ho6 y1 y3 HX1 HX4
      go_wp2_with fail
      obtain ⟨X', x1, x2, x3, x4⟩ := HR6.out.disk HBN.out
      refine (open_any B w6 X' a (crashR st []) (Nat.le_trans HBN.out HB6.out.size) (HVN.out.later HBN.out HB6.out) x3 x2 x1 (by have := HST.out; show st.steps < _; omega) 0 (S : Int)).mono ?_
      have hcr := HTELL.out.crash HS.out.1 HS.out.2 []
      rcases hcr with ⟨z1, z2⟩ | ⟨st', g', z1, z2, z3, z4⟩
      · rintro e w7 ⟨ho7, hcase⟩
        obtain ⟨y1, _, _⟩ := x4 w7 ho7
        have HB7 : Hid (Below w2.heap.size w2 w7) := HB6.out.trans y1
        rcases hcase with ⟨_, rfl, _⟩ | ⟨l7, g7, hg7, _⟩
        · rw [z1]
          clear x1 x2 x3 x4 ho7 y1 z1 z2
          go_wp2
          go_ret
          exact ⟨by simp, HB2.out.trans (HB7.out.mono HB2.out.size)⟩
        · rw [z2] at hg7
          cases hg7
      · rw [z1]
        rintro e w7 ⟨ho7, hcase⟩
        obtain ⟨y1, y2, _⟩ := x4 w7 ho7
        rcases hcase with ⟨h0, _⟩ | ⟨l7, g7, hg7, rfl, hi7⟩
        · cases h0
        obtain rfl : g' = g7 := by simpa using hg7
        have HR7 : Hid (RunL B w2.heap.size w7 s l7 a st' g' all g.safe g.base) := y2 _ _ _ hi7
        have HB7 : Hid (Below w2.heap.size w2 w7) := HB6.out.trans y1
        have HAG : Hid (Again S all g.safe g.base st' g') := z2
        clear x1 x2 x3 x4 ho7 y1 y2 z1 z2 z3 z4 hg7 hi7
        go_wp2_with (first | (go_at_call 16; refine (agrees_any B w2.heap.size w7 s l7 a S st' g' all g.safe g.base HR7.out HBN.out HAG.out HTELL.out.low).mono ?_; rintro e w8 ⟨rfl, hb8, _⟩))
        go_ret
        exact ⟨rfl, HB2.out.trans ((HB7.out.trans hb8).mono HB2.out.size)⟩
end Go.Proofs.YteanhkdnakmggaaGreatDoor
