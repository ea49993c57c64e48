/- Layer 6, without the program: the chapter's first example. -/
import Derived.Test.YteanhkdnakmggaaGreatDoorM61
import Derived.KernelRfl
import Derived.Test.YteanhkdnakmggaaGreatDoorJ13
import Derived.Test.YteanhkdnakmggaaGreatDoorJ7
import Derived.Test.YteanhkdnakmggaaGreatDoorM62
import Derived.Test.YteanhkdnakmggaaGreatDoorD11
namespace Go.Proofs.YteanhkdnakmggaaGreatDoor
open Go

def a0 : St := ⟨1000, [], 0, -1, false⟩
def l0 : Lg := ⟨2, 5, 5, []⟩
def q1 : (Int × Int) × St × Lg := appendL a0 l0 [97]
def q2 : (Int × Int) × St × Lg := appendL q1.2.1 q1.2.2 [98]
def q3 : (Int × Int) × St × Lg := appendL q2.2.1 q2.2.2 [99]
theorem aw_open : openR a0 5 2 = (0, a0, some l0) := by kernel_rfl
theorem aw_1 : q1.1 = (5, 0) ∧ q1.2.1.steps = 1 ∧ q1.2.2.segs.isEmpty = false := ⟨by kernel_rfl, by kernel_rfl, by kernel_rfl⟩
theorem aw_2 : q2.1 = (6, 0) ∧ q2.2.1.steps = 2 ∧ q2.2.2.segs.isEmpty = false := ⟨by kernel_rfl, by kernel_rfl, by kernel_rfl⟩
theorem aw_3 : q3.1 = (7, 0) ∧ q3.2.2.safe = 7 ∧ q3.2.2.next = 8 := ⟨by kernel_rfl, by kernel_rfl, by kernel_rfl⟩
theorem aw_r6 : readL q3.2.2 6 = ([98], 0) := by kernel_rfl
theorem aw_r8 : readL q3.2.2 8 = ([], 61) := by kernel_rfl
theorem aw_fs : q3.2.1.fs = [([108, 111, 103, 46, 48, 48, 48, 48, 48, 48, 48, 48, 48, 48, 48, 53], (cat [[97], [98]], 14)), ([108, 111, 103, 46, 48, 48, 48, 48, 48, 48, 48, 48, 48, 48, 48, 55], (cat [[99]], 0))] := by kernel_rfl
theorem ne_of_empty {l : List Sg} (h : l.isEmpty = false) {P : Prop} : l = [] → P := fun e => by
  rw [e] at h
  cases h
end Go.Proofs.YteanhkdnakmggaaGreatDoor
/- Walks of layer 6, fourteenth part: the statements' first calls (awake). -/
namespace Go.Proofs.YteanhkdnakmggaaGreatDoor
open Go.RowKit

theorem zone_new {w w1 : World} (h : w.heap.size ≤ w1.heap.size) : ∀ k, w1.heap.size ≤ k → (fun k => w.heap.size ≤ k) k := fun _ hk => Nat.le_trans h hk
theorem Only.zone {w w1 w2 : World} (hb : Below w.heap.size w w1) (ho : Only (fun k => w.heap.size ≤ k) w1 w2) : Below w.heap.size w w2 := hb.trans (ho.below hb.size (fun _ hk h => by omega))
theorem new_a0 : newE 1000 [] = 0 ∧ newSt 1000 [] = a0 := ⟨by decide, rfl⟩
theorem IsLog.all {B : Nat} {w : World} {X : Nat → Prop} {l a : Nat} {st : St} {g : Lg} (h : IsLog B w X l a st g) : ∃ Y Z p cap es, LogAt w Y l a g p cap es ∧ LgW g ∧ IsDisk w Z a st := by
  obtain ⟨p, cap, es, _, _, _, hg, Z, Y, k1, k2, _⟩ := h
  exact ⟨Y, Z, p, cap, es, k2, hg, k1⟩

set_option maxHeartbeats 8000000 in
set_option maxRecDepth 100000 in
theorem awake_any (B : Nat) (w : World) (hB : B ≤ w.heap.size) (hV : SV B w) : Calls Tryz.prog 8 #[] w fun e w' => e = .returned (.bool true) ∧ Below w.heap.size w w' := by
  have HB : Hid (B ≤ w.heap.size) := hB
  have HV : Hid (SV B w) := hV
  clear hB hV
  obtain ⟨st1, hst1⟩ : ∃ st1, st1 = q1.2.1 := ⟨_, rfl⟩
  obtain ⟨g1, hg1⟩ : ∃ g1, g1 = q1.2.2 := ⟨_, rfl⟩
  obtain ⟨st2, hst2⟩ : ∃ st2, st2 = q2.2.1 := ⟨_, rfl⟩
  obtain ⟨g2, hg2⟩ : ∃ g2, g2 = q2.2.2 := ⟨_, rfl⟩
  obtain ⟨st3, hst3⟩ : ∃ st3, st3 = q3.2.1 := ⟨_, rfl⟩
  obtain ⟨g3, hg3⟩ : ∃ g3, g3 = q3.2.2 := ⟨_, rfl⟩
  have HQ1 : Hid (appendL a0 l0 [97] = ((5, 0), st1, g1)) := by
    have : appendL a0 l0 [97] = ((5, 0), st1, g1) := by rw [hst1, hg1, ← aw_1.1]; rfl
    exact this
  have HQ2 : Hid (appendL st1 g1 [98] = ((6, 0), st2, g2)) := by
    have : appendL st1 g1 [98] = ((6, 0), st2, g2) := by rw [hst1, hg1, hst2, hg2, ← aw_2.1]; rfl
    exact this
  have HQ3 : Hid (appendL st2 g2 [99] = ((7, 0), st3, g3)) := by
    have : appendL st2 g2 [99] = ((7, 0), st3, g3) := by rw [hst2, hg2, hst3, hg3, ← aw_3.1]; rfl
    exact this
  have HS1 : Hid (st1.steps = 1 ∧ g1.segs.isEmpty = false) := by rw [hst1, hg1]; exact aw_1.2
  have HS2 : Hid (st2.steps = 2 ∧ g2.segs.isEmpty = false) := by rw [hst2, hg2]; exact aw_2.2
  have HS3 : Hid (g3.safe = 7 ∧ g3.next = 8) := by rw [hg3]; exact aw_3.2
  have HR6 : Hid (readL g3 6 = ([98], 0)) := by rw [hg3]; exact aw_r6
  have HR8 : Hid (readL g3 8 = ([], 61)) := by rw [hg3]; exact aw_r8
  have HF3 : Hid (st3.fs = [([108, 111, 103, 46, 48, 48, 48, 48, 48, 48, 48, 48, 48, 48, 48, 53], (cat [[97], [98]], 14)), ([108, 111, 103, 46, 48, 48, 48, 48, 48, 48, 48, 48, 48, 48, 48, 55], (cat [[99]], 0))]) := by rw [hst3]; exact aw_fs
  clear hst1 hg1 hst2 hg2 hst3 hg3
  go_enter Tryz.func8, Tryz.ntmps8
  go_wp2_with fail
  refine (new_any 1000 none 0 [] w (by simp) (by simp) (FRow.nil _ _)).mono ?_
  rintro e w1 ⟨hb1, hN⟩
  rcases hN with ⟨hN, _⟩ | ⟨_, a, rfl, hi1⟩
  · exact absurd new_a0.1 hN
  rw [new_a0.2] at hi1
  have HB1 : Hid (Below w.heap.size w w1) := hb1
  have HI1 : Hid (IsDisk w1 (fun k => w.heap.size ≤ k) a a0) := hi1
  clear hb1 hi1
  go_wp2_with fail
  refine (open_any B w1 (fun k => w.heap.size ≤ k) a a0 (Nat.le_trans HB.out HB1.out.size) (HV.out.later HB.out HB1.out) (fun k hk => Nat.le_trans HB.out hk) (zone_new HB1.out.size) HI1.out (by decide) 5 2).mono ?_
  rw [aw_open]
  rintro e w2 ⟨ho2, hcase⟩
  rcases hcase with ⟨h0, _⟩ | ⟨l, g, hg, rfl, hi2⟩
  · cases h0
  obtain rfl : l0 = g := by simpa using hg
  have HB2 : Hid (Below w.heap.size w w2) := ho2.zone HB1.out
  have HI2 : Hid (IsLog B w2 (fun k => w.heap.size ≤ k) l a a0 l0) := hi2
  clear ho2 hi2 hg
  go_wp2_with fail
  refine (lappend_any B w2 _ l a a0 l0 HI2.out (fun _ => rfl) (zone_new HB2.out.size) (by decide) ⟨#[97]⟩ (by decide)).mono ?_
  rw [show (⟨#[97]⟩ : ByteArray).data.toList = [97] from rfl, HQ1.out]
  rintro e w3 ⟨rfl, hi3, ho3⟩
  simp only at hi3
  have HB3 : Hid (Below w.heap.size w w3) := ho3.zone HB2.out
  have HI3 : Hid (IsLog B w3 (fun k => w.heap.size ≤ k) l a st1 g1) := hi3
  simp only [appV]
  clear ho3 hi3
  go_wp2_with fail
  refine (lappend_any B w3 _ l a st1 g1 HI3.out (ne_of_empty HS1.out.2) (zone_new HB3.out.size) (by rw [HS1.out.1]; decide) ⟨#[98]⟩ (by decide)).mono ?_
  rw [show (⟨#[98]⟩ : ByteArray).data.toList = [98] from rfl, HQ2.out]
  rintro e w4 ⟨rfl, hi4, ho4⟩
  simp only at hi4
  have HB4 : Hid (Below w.heap.size w w4) := ho4.zone HB3.out
  have HI4 : Hid (IsLog B w4 (fun k => w.heap.size ≤ k) l a st2 g2) := hi4
  simp only [appV]
  clear ho4 hi4
  go_wp2_with fail
  refine (lappend_any B w4 _ l a st2 g2 HI4.out (ne_of_empty HS2.out.2) (zone_new HB4.out.size) (by rw [HS2.out.1]; decide) ⟨#[99]⟩ (by decide)).mono ?_
  rw [show (⟨#[99]⟩ : ByteArray).data.toList = [99] from rfl, HQ3.out]
  rintro e w5 ⟨rfl, hi5, ho5⟩
  simp only at hi5
  have HB5 : Hid (Below w.heap.size w w5) := ho5.zone HB4.out
  obtain ⟨Y, Z, p, cap, es, hL, hg, hD⟩ := hi5.all
  have HL : Hid (LogAt w5 Y l a g3 p cap es) := hL
  have HG : Hid (LgW g3) := hg
  have HD : Hid (IsDisk w5 Z a st3) := hD
  simp only [appV]
  clear ho5 hi5 hL hg hD
  go_wp2_with fail
  refine (safe_any _ Y l a g3 p cap es HL.out).mono ?_
  rintro e w6 ⟨rfl, hb6⟩
  rw [HS3.out.1]
  have HB6 : Hid (Below w5.heap.size w5 w6) := hb6
  clear hb6
  go_wp2_with fail
  refine (next_any _ Y l a g3 p cap es (HL.out.later HB6.out) HG.out).mono ?_
  rintro e w7 ⟨rfl, hb7⟩
  rw [HS3.out.2]
  have HB7 : Hid (Below w5.heap.size w5 w7) := HB6.out.trans (hb7.mono HB6.out.size)
  clear hb7
  go_wp2_with fail
  refine (lread_any _ Y l a g3 p cap es (HL.out.later HB7.out) HG.out 6).mono ?_
  rintro e w8 ⟨rfl, hb8⟩
  rw [HR6.out]
  have HB8 : Hid (Below w5.heap.size w5 w8) := HB7.out.trans (hb8.mono HB7.out.size)
  simp only [readV]
  clear hb8
  go_wp2_with fail
  refine (lread_any _ Y l a g3 p cap es (HL.out.later HB8.out) HG.out 8).mono ?_
  rintro e w9 ⟨rfl, hb9⟩
  rw [HR8.out]
  have HB9 : Hid (Below w5.heap.size w5 w9) := HB8.out.trans (hb9.mono HB8.out.size)
  simp only [readV]
  clear hb9
  go_wp2_with fail
  refine (files_any w9 Z a st3 (HD.out.later HB9.out)).mono ?_
  rintro e w10 ⟨v, rfl, hf, hb10⟩
  have HB10 : Hid (Below w5.heap.size w5 w10) := HB9.out.trans (hb10.mono HB9.out.size)
  rw [HF3.out] at hf
  obtain ⟨b, cp, rfl, _, _⟩ := hf.form (by decide)
  have hc := hf.cells (g := b) rfl
  have f0 := hc 0 _ rfl
  have f2 := hc 2 _ rfl
  have f5 := hc 5 _ rfl
  rw [Addr.add_lit, Nat.zero_add] at f0 f2 f5
  clear hf hc hb10
  go_wp2
  go_ret
  exact ⟨rfl, HB5.out.trans (HB10.out.mono HB5.out.size)⟩
end Go.Proofs.YteanhkdnakmggaaGreatDoor
/- Layer 6, without the program: what the files of a log that was only appended to hold. -/
namespace Go.Proofs.YteanhkdnakmggaaGreatDoor
open Go

def segAt (g : Lg) (i : Nat) : Nat := (recsL (g.segs.take i)).length
theorem segAt_zero (g : Lg) : segAt g 0 = 0 := rfl
theorem Only1.segAt_all {size : Nat} {R : List (List UInt8)} {st : St} {g : Lg} (h : Only1 size R st g) : segAt g st.fs.length = R.length := by rw [segAt, h.len, List.take_length, h.recs]
theorem Only1.files {size : Nat} {R : List (List UInt8)} {st : St} {g : Lg} (h : Only1 size R st g) (i : Nat) (hi : i < g.segs.length) : ∃ k, st.fs[i]? = some (nameN (g.segs[i]).1, (cat (g.segs[i]).2, k)) ∧ (i + 1 < g.segs.length → k = (cat (g.segs[i]).2).length) := by
  rcases h.lies with ⟨h1, _⟩ | ⟨A, s, k, h1, ⟨M, hM, hfs⟩, _, _⟩
  · rw [h1] at hi
    cases hi
  · have hl := h.len
    have hM0 : M = [] := by
      rw [hfs, h1] at hl
      simp only [List.length_append, List.length_map, List.length_cons, List.length_nil] at hl
      exact List.eq_nil_of_length_eq_zero (by omega)
    subst hM0
    have e1 : (A ++ [s])[i]? = some g.segs[i] := by rw [← h1]; exact List.getElem?_eq_getElem hi
    have hlen : g.segs.length = A.length + 1 := by rw [h1]; simp
    rw [hlen] at hi ⊢
    by_cases hA : i < A.length
    · rw [List.getElem?_append_left hA, List.getElem?_eq_getElem hA] at e1
      have e2 : A[i] = g.segs[i] := by simpa using e1
      refine ⟨(cat (g.segs[i]).2).length, ?_, fun _ => rfl⟩
      rw [hfs, List.getElem?_append_left (by simpa using hA), List.getElem?_map, List.getElem?_eq_getElem hA, e2]
      rfl
    · have e3 : i = A.length := by omega
      subst e3
      rw [List.getElem?_append_right (Nat.le_refl _), Nat.sub_self] at e1
      have e2 : s = g.segs[A.length] := by simpa using e1
      refine ⟨k, ?_, fun e => by omega⟩
      rw [hfs, List.getElem?_append_right (by simp), List.length_map, Nat.sub_self, e2]
      rfl
theorem Only1.file {size : Nat} {R : List (List UInt8)} {st : St} {g : Lg} (h : Only1 size R st g) (i : Nat) (hi : i < st.fs.length) : ∃ ds : List (List UInt8), (st.fs[i]).2.1 = cat ds ∧ (∀ d ∈ ds, d.length ≤ 4096) ∧ 1 ≤ ds.length ∧ ds.length ≤ size ∧ (i + 1 < st.fs.length → ds.length = size ∧ (st.fs[i]).2.2 = (cat ds).length) ∧ segAt g i + ds.length ≤ R.length ∧ (∀ k (hk : k < ds.length), R[segAt g i + k]? = some ds[k]) ∧ segAt g (i + 1) = segAt g i + ds.length := by
  have hi' : i < g.segs.length := by rw [← h.len]; exact hi
  obtain ⟨k, hk, hkk⟩ := h.files i hi'
  rw [List.getElem?_eq_getElem hi] at hk
  have hk' : st.fs[i] = (nameN (g.segs[i]).1, (cat (g.segs[i]).2, k)) := by simpa using hk
  have hz : g.segs ≠ [] := fun e => by rw [e] at hi'; cases hi'
  obtain ⟨A, s, e⟩ := snoc_of hz
  obtain ⟨f1, f2, f3⟩ := h.full A s e
  have hlen : g.segs.length = A.length + 1 := by rw [e]; simp
  have e1 : (A ++ [s])[i]? = some g.segs[i] := by rw [← e]; exact List.getElem?_eq_getElem hi'
  have hsz : 1 ≤ size := by have := h.ok.size; rw [h.gsize] at this; exact this.1
  have hcnt : 1 ≤ (g.segs[i]).2.length ∧ (g.segs[i]).2.length ≤ size ∧ (i + 1 < g.segs.length → (g.segs[i]).2.length = size) := by
    by_cases hA : i < A.length
    · rw [List.getElem?_append_left hA, List.getElem?_eq_getElem hA] at e1
      have e2 : A[i] = g.segs[i] := by simpa using e1
      have := f1 A[i] (List.getElem_mem hA)
      rw [e2] at this
      omega
    · have e3 : i = A.length := by omega
      subst e3
      rw [List.getElem?_append_right (Nat.le_refl _), Nat.sub_self] at e1
      have e2 : s = g.segs[A.length] := by simpa using e1
      rw [← e2]
      exact ⟨f2, f3, fun q => by omega⟩
  have hsplit : R = recsL (g.segs.take i) ++ ((g.segs[i]).2 ++ recsL (g.segs.drop (i + 1))) := by
    rw [← h.recs]
    conv => lhs; rw [← List.take_append_drop i g.segs, List.drop_eq_getElem_cons hi', recsL_append]
    congr 1
  have hat : segAt g (i + 1) = segAt g i + (g.segs[i]).2.length := by
    unfold segAt
    rw [List.take_succ_eq_append_getElem hi', recsL_append, recsL_one, List.length_append]
  refine ⟨(g.segs[i]).2, by rw [hk'], h.ok.small _ (List.getElem_mem hi'), hcnt.1, hcnt.2.1, fun q => ?_, ?_, fun j hj => ?_, hat⟩
  · rw [h.len] at q
    refine ⟨hcnt.2.2 q, ?_⟩
    rw [hk']
    exact hkk q
  · have := congrArg List.length hsplit
    rw [List.length_append, List.length_append] at this
    unfold segAt
    omega
  · rw [hsplit]
    unfold segAt
    rw [List.getElem?_append_right (by omega), Nat.add_sub_cancel_left, List.getElem?_append_left hj]
    exact List.getElem?_eq_getElem hj
/-- The log at the beginning. -/
theorem Only1.first {S : Nat} (h1 : 1 ≤ S) (h2 : S ≤ 1024) : Only1 S [] ⟨1048576, [], 0, -1, false⟩ ⟨S, 0, 0, []⟩ := by
  refine ⟨⟨⟨⟨List.Pairwise.nil, by decide, by decide, by decide, by simp, by simp⟩, by decide, by decide⟩, rfl, rfl⟩, ⟨⟨⟨h1, h2⟩, by show 0 < 1000000000000; decide, trivial, by simp, by simp, by simp, by simp⟩, by simp, fun _ => rfl⟩, Or.inl ⟨rfl, Or.inl rfl⟩, rfl, rfl, rfl, rfl, rfl, fun A s e => by simp at e, rfl, rfl, by simp⟩
end Go.Proofs.YteanhkdnakmggaaGreatDoor
/- Walks of layer 6: WalSegments. -/
namespace Go.Proofs.YteanhkdnakmggaaGreatDoor
open Go.RowKit

/-- Texts as bytes. -/
def bys (rs : List ByteArray) : List (List UInt8) := rs.map fun r => r.data.toList
theorem bys_length (rs : List ByteArray) : (bys rs).length = rs.length := List.length_map _
theorem bys_take (rs : List ByteArray) (k : Nat) : (bys rs).take k = bys (rs.take k) := by simp [bys]
theorem bys_next {rs : List ByteArray} {k : Nat} (h : k < rs.length) : (bys rs).take (k + 1) = (bys rs).take k ++ [(rs[k]).data.toList] := by
  have h' : k < (bys rs).length := by rw [bys_length]; exact h
  rw [List.take_succ_eq_append_getElem h']
  simp [bys]
theorem cat_next {rs : List ByteArray} {k : Nat} (h : k < rs.length) : (cat ((bys rs).take (k + 1))).length = (cat ((bys rs).take k)).length + ((rs[k]).size + 6) := by
  rw [bys_next h, cat_snoc, List.length_append, frm_length]
  have : (rs[k]).data.toList.length = (rs[k]).size := by simp
  omega
theorem open_first {S : Nat} (h1 : 1 ≤ S) (h2 : S ≤ 1024) : openR ⟨1048576, [], 0, -1, false⟩ 0 (S : Int) = (0, ⟨1048576, [], 0, -1, false⟩, some ⟨S, 0, 0, []⟩) := by
  have := openR_ok (st := ⟨1048576, [], 0, -1, false⟩) (f := 0) (size := (S : Int)) (L := []) (by unfold argBad; omega) rfl rfl (by simp [settleR_nil])
  rw [this, settleR_nil]
  rfl
theorem new_first : newE 1048576 [] = 0 ∧ newSt 1048576 [] = ⟨1048576, [], 0, -1, false⟩ := ⟨by decide, rfl⟩

end Go.Proofs.YteanhkdnakmggaaGreatDoor
/- Layer 6, without the program: a log's files behind a crash; what Open makes of them. -/
namespace Go.Proofs.YteanhkdnakmggaaGreatDoor
open Go

/-- What segments keep to. -/
structure SgOK (L : List Sg) : Prop where
  row : Row L
  low : ∀ s ∈ L, s.1 < 1000000000000
  small : ∀ s ∈ L, ∀ d ∈ s.2, d.length ≤ 4096
/-- The files of a log that is not open, all of them safe but what is being mended: the segments L, of T bytes at most. -/
def Shut (fs : Fs) (L : List Sg) (T : Nat) : Prop :=
  (L = [] ∧ Mnd fs) ∨ ∃ A p D, Lain fs A p D D.length ∧ L = A ++ [(p, fr D)] ∧ tot szF (A.map sfile) + D.length ≤ T
/-- They are whole. -/
def Whole (fs : Fs) (L : List Sg) : Prop := (L = [] ∧ Mnd fs) ∨ ∃ A s, Lain fs A s.1 (cat s.2) (cat s.2).length ∧ L = A ++ [s]

/-! ### reading them -/
theorem load_mend {f : Nat} {M : Fs} (h : Mnd M) (acc : List Sg) : loadR f M acc = some acc := by
  rcases h with rfl | ⟨x, rfl⟩
  · rfl
  · simp [loadR, mendN_log]
theorem Row.front : ∀ {l m : List Sg}, Row (l ++ m) → Row l
  | [], _, _ => trivial
  | [_], _, _ => trivial
  | _ :: b :: l, m, h => ⟨h.1, Row.front (l := b :: l) (m := m) h.2⟩
theorem Row.joint : ∀ {A : List Sg} {s : Sg} (f : Nat), Row (A ++ [s]) → A ≠ [] → s.1 = nextL f A
  | [a], s, f, h, _ => h.1
  | a :: b :: A, s, f, h, _ => by
    have e : nextL f (a :: b :: A) = nextL f (b :: A) := by simp [nextL]
    rw [e]
    exact Row.joint (A := b :: A) f h.2 (by simp)
theorem Shut.load {fs : Fs} {L : List Sg} {T : Nat} (h : Shut fs L T) (hL : SgOK L) (f : Nat) : loadR f fs [] = some L := by
  rcases h with ⟨rfl, hM⟩ | ⟨A, p, D, ⟨M, hM, rfl⟩, rfl, _⟩
  · exact load_mend hM []
  · have key : ∀ (A acc : List Sg) (N : Fs), Row (acc ++ A) → (∀ s ∈ A, s.1 < 1000000000000) → (∀ s ∈ A, ∀ d ∈ s.2, d.length ≤ 4096) → loadR f (A.map sfile ++ N) acc = loadR f N (acc ++ A) := by
      intro A
      induction A with
      | nil => intro acc N _ _ _; simp
      | cons s A ih =>
        intro acc N hr hl hs
        rw [List.map_cons, List.cons_append]
        show loadR f ((nameN s.1, (cat s.2, (cat s.2).length)) :: (A.map sfile ++ N)) acc = _
        rw [loadR, if_pos (nameN_log s.1), placeN_name (hl s (by simp))]
        simp only
        rw [if_neg, fr_cat (hs s (by simp)), ih (acc ++ [s]) N (by simpa using hr) (fun x hx => hl x (List.mem_cons_of_mem _ hx)) (fun x hx => hs x (List.mem_cons_of_mem _ hx))]
        · simp
        · rintro ⟨h1, h2⟩
          have hj : Row (acc ++ [s]) := Row.front (m := A) (by simpa using hr)
          exact h2 (hj.joint f h1)
    rw [key A [] _ (by simpa using hL.row.front) (fun s hs => hL.low s (by simp [hs])) (fun s hs => hL.small s (by simp [hs])), List.nil_append]
    rw [loadR, if_pos (nameN_log p), placeN_name (hL.low (p, fr D) (by simp))]
    simp only
    rw [if_neg, load_mend hM]
    rintro ⟨h1, h2⟩
    exact h2 (hL.row.joint f h1)

/-! ### settling them -/
theorem Lain.read {st : St} {A : List Sg} {p k : Nat} {D : List UInt8} (h : Lain st.fs A p D k) (hok : OKs st) (hd : st.down = false) : readR st (nameN p) = (D, 0) := by
  have hg := h.find hok.files.sorted
  simp [readR, hd, findE_some (nameN_ok p) hg, fileOf, hg]
theorem Lain.names (A : List Sg) (p k : Nat) (D : List UInt8) : ∀ q ∈ A.map sfile ++ [(nameN p, (D, k))], Op.bytesLess q.1 mendN = true := by
  intro q hq
  rcases List.mem_append.1 hq with hq | hq
  · obtain ⟨s, _, rfl⟩ := List.mem_map.1 hq
    exact name_mend _
  · obtain rfl : q = (nameN p, (D, k)) := by simpa using hq
    exact name_mend _
/-- What the steps of mending leave: the segments as they were, or, when all is done, whole. -/
theorem mend_shut {st : St} {A : List Sg} {p : Nat} {D W : List UInt8} (hok : OKs st) (hl : Lain st.fs A p D D.length) :
    OKs (mendR st (nameN p) W).2 ∧ (mendR st (nameN p) W).2.size = st.size ∧ (mendR st (nameN p) W).2.steps ≤ st.steps + 4 ∧
    ((mendR st (nameN p) W).1 = 0 → Lain (mendR st (nameN p) W).2.fs A p W W.length ∧ (mendR st (nameN p) W).2.down = false) ∧
    ((mendR st (nameN p) W).1 ≠ 0 → Lain (mendR st (nameN p) W).2.fs A p D D.length ∧ (((mendR st (nameN p) W).1 = 3 ∧ (mendR st (nameN p) W).2.down = true) ∨ ((mendR st (nameN p) W).1 = 42 ∧ st.size < tot szF (A.map sfile) + D.length + W.length ∨ (mendR st (nameN p) W).1 = 42 ∧ 64 ≤ A.length + 1))) ∧
    (st.armed = -1 → (mendR st (nameN p) W).2.armed = -1 ∧ (st.down = false → (mendR st (nameN p) W).2.down = false)) := by
  obtain ⟨M, hM, hfs⟩ := hl
  have hsr := hok.files.sorted
  have hnm := Lain.names A p D.length D
  -- the first step
  obtain ⟨r1, hr1⟩ : ∃ r1, remR st mendN = r1 := ⟨_, rfl⟩
  have ok1 := remR_ok hok mendN
  have sz1 := stepR_size st (findE st.fs mendN) (remF mendN)
  have st1 := stepR_steps st (findE st.fs mendN) (remF mendN)
  have tw1 := stepR_two st (findE st.fs mendN) (remF mendN) (findE_nn _ _)
  have d31 := stepR_down3 st (findE st.fs mendN) (remF mendN)
  have cm1 := fun ha hd => stepR_calm (st := st) (findE st.fs mendN) (remF mendN) ha hd
  have ar1 : st.armed = -1 → (stepR st (findE st.fs mendN) (remF mendN)).2.armed = -1 := fun ha => by
    unfold stepR
    split
    · exact ha
    · split
      · exact ha
      · split
        · exact ha
        · simp [ha]
  have e1 : stepR st (findE st.fs mendN) (remF mendN) = r1 := hr1
  rw [hr1] at ok1
  rw [e1] at sz1 st1 tw1 d31 cm1 ar1
  have hfE : findE st.fs mendN = 0 ∨ findE st.fs mendN = 41 := by
    unfold findE
    rw [if_pos mendN_ok]
    split
    · exact Or.inl rfl
    · exact Or.inr rfl
  have hsplit : st.fs = (A.map sfile ++ [(nameN p, (D, D.length))]) ++ M := by rw [hfs]; simp
  -- the files behind the first step, if it goes on
  have hgo : ¬ (r1.1 ≠ 0 ∧ r1.1 ≠ 41) → r1.2.fs = A.map sfile ++ [(nameN p, (D, D.length))] := fun hn => by
    rcases hM with rfl | ⟨x, rfl⟩
    · have hnone : getL st.fs mendN = none := by
        rw [hsplit, List.append_nil]
        have := getL_new (M := ([] : Fs)) hnm (by simp)
        rw [List.append_nil] at this
        exact this
      have hE : findE st.fs mendN = 41 := by simp [findE, mendN_ok, hnone]
      rcases tw1 with ⟨_, b⟩ | ⟨_, b, _⟩
      · rw [b, hsplit, List.append_nil]
      · omega
    · have hsr2 := hsr
      rw [hsplit] at hsr2
      have hsome : getL st.fs mendN = some x := by rw [hsplit]; exact getL_mid hsr2
      have hE : findE st.fs mendN = 0 := findE_some mendN_ok hsome
      rcases tw1 with ⟨a, b⟩ | ⟨_, _, _, b, _⟩
      · have h0 : r1.1 ≠ 0 := by omega
        rcases d31 with q | ⟨q, _⟩ | ⟨q, _⟩
        · omega
        · exact absurd ⟨h0, by omega⟩ hn
        · omega
      · rw [b, hsplit, remF, delL_mid hsr2, List.append_nil]
  have hbad : (r1.1 ≠ 0 ∧ r1.1 ≠ 41) → Lain r1.2.fs A p D D.length ∧ (r1.1 = 3 ∧ r1.2.down = true) := fun hn => by
    rcases tw1 with ⟨_, b⟩ | ⟨a, _⟩
    · refine ⟨⟨M, hM, by rw [b, hfs]⟩, ?_⟩
      rcases d31 with q | q | ⟨_, q, _⟩
      · omega
      · exact q
      · omega
    · omega
  -- the second
  obtain ⟨r2, hr2⟩ : ∃ r2, appR r1.2 mendN W = r2 := ⟨_, rfl⟩
  have ok2 := appR_ok ok1 mendN W
  have sz2 := stepR_size r1.2 (roomE r1.2 mendN W.length) (appF mendN W)
  have st2 := stepR_steps r1.2 (roomE r1.2 mendN W.length) (appF mendN W)
  have tw2 := stepR_two r1.2 (roomE r1.2 mendN W.length) (appF mendN W) (roomE_nn _ _ _)
  have d32 := stepR_down3 r1.2 (roomE r1.2 mendN W.length) (appF mendN W)
  have cm2 := fun ha hd => stepR_calm (st := r1.2) (roomE r1.2 mendN W.length) (appF mendN W) ha hd
  have ar2 : r1.2.armed = -1 → (stepR r1.2 (roomE r1.2 mendN W.length) (appF mendN W)).2.armed = -1 := fun ha => by
    unfold stepR
    split
    · exact ha
    · split
      · exact ha
      · split
        · exact ha
        · simp [ha]
  have e2 : stepR r1.2 (roomE r1.2 mendN W.length) (appF mendN W) = r2 := hr2
  rw [hr2] at ok2
  rw [e2] at sz2 st2 tw2 d32 cm2 ar2
  -- the third
  obtain ⟨r3, hr3⟩ : ∃ r3, synR r2.2 mendN = r3 := ⟨_, rfl⟩
  have ok3 := synR_ok ok2 mendN
  have sz3 := stepR_size r2.2 (findE r2.2.fs mendN) (synF mendN)
  have st3 := stepR_steps r2.2 (findE r2.2.fs mendN) (synF mendN)
  have tw3 := stepR_two r2.2 (findE r2.2.fs mendN) (synF mendN) (findE_nn _ _)
  have d33 := stepR_down3 r2.2 (findE r2.2.fs mendN) (synF mendN)
  have cm3 := fun ha hd => stepR_calm (st := r2.2) (findE r2.2.fs mendN) (synF mendN) ha hd
  have ar3 : r2.2.armed = -1 → (stepR r2.2 (findE r2.2.fs mendN) (synF mendN)).2.armed = -1 := fun ha => by
    unfold stepR
    split
    · exact ha
    · split
      · exact ha
      · split
        · exact ha
        · simp [ha]
  have e3 : stepR r2.2 (findE r2.2.fs mendN) (synF mendN) = r3 := hr3
  rw [hr3] at ok3
  rw [e3] at sz3 st3 tw3 d33 cm3 ar3
  -- the fourth
  obtain ⟨r4, hr4⟩ : ∃ r4, renR r3.2 mendN (nameN p) = r4 := ⟨_, rfl⟩
  have ok4 := renR_ok ok3 mendN (nameN p)
  have sz4 := stepR_size r3.2 (renE r3.2.fs mendN (nameN p)) (renF mendN (nameN p))
  have st4 := stepR_steps r3.2 (renE r3.2.fs mendN (nameN p)) (renF mendN (nameN p))
  have tw4 := stepR_two r3.2 (renE r3.2.fs mendN (nameN p)) (renF mendN (nameN p)) (renE_nn _ _ _)
  have d34 := stepR_down3 r3.2 (renE r3.2.fs mendN (nameN p)) (renF mendN (nameN p))
  have cm4 := fun ha hd => stepR_calm (st := r3.2) (renE r3.2.fs mendN (nameN p)) (renF mendN (nameN p)) ha hd
  have ar4 : r3.2.armed = -1 → (stepR r3.2 (renE r3.2.fs mendN (nameN p)) (renF mendN (nameN p))).2.armed = -1 := fun ha => by
    unfold stepR
    split
    · exact ha
    · split
      · exact ha
      · split
        · exact ha
        · simp [ha]
  have e4 : stepR r3.2 (renE r3.2.fs mendN (nameN p)) (renF mendN (nameN p)) = r4 := hr4
  rw [hr4] at ok4
  rw [e4] at sz4 st4 tw4 d34 cm4 ar4
  have hm : mendR st (nameN p) W = if r1.1 ≠ 0 ∧ r1.1 ≠ 41 then r1 else if r2.1 ≠ 0 then r2 else if r3.1 ≠ 0 then r3 else r4 := by
    simp only [mendR, thenR, hr1, hr2, hr3, hr4]
  rw [hm]
  by_cases h1 : r1.1 ≠ 0 ∧ r1.1 ≠ 41
  · rw [if_pos h1]
    obtain ⟨b1, b2⟩ := hbad h1
    exact ⟨ok1, sz1, by omega, fun q => absurd q h1.1, fun _ => ⟨b1, Or.inl b2⟩, fun ha => ⟨ar1 ha, fun hd => (cm1 ha hd).2.2⟩⟩
  rw [if_neg h1]
  have g1 := hgo h1
  have hlt : ∀ q ∈ ([] : Fs), Op.bytesLess mendN q.1 = true := by simp
  have hnone1 : getL r1.2.fs mendN = none := by
    rw [g1]
    have := getL_new (M := ([] : Fs)) hnm hlt
    rw [List.append_nil] at this
    exact this
  by_cases h2 : r2.1 ≠ 0
  · rw [if_pos h2]
    have b2 : r2.2.fs = r1.2.fs := by
      rcases tw2 with ⟨_, b⟩ | ⟨a, _⟩
      · exact b
      · exact absurd a h2
    refine ⟨ok2, by omega, by omega, fun q => absurd q h2, fun _ => ⟨⟨[], Or.inl rfl, by rw [b2, g1]⟩, ?_⟩, fun ha => ⟨ar2 (ar1 ha), fun hd => (cm2 (ar1 ha) (cm1 ha hd).2.2).2.2⟩⟩
    rcases d32 with q | q | ⟨q1, q2, _⟩
    · exact absurd q h2
    · exact Or.inl q
    · right
      have hE : roomE r1.2 mendN W.length = 42 ∧ (r1.2.size < tot szF r1.2.fs + W.length ∨ 64 ≤ r1.2.fs.length) := by
        unfold roomE at q1 ⊢
        rw [if_pos mendN_ok] at q1 ⊢
        split at q1
        · rename_i hc
          rw [if_pos hc]
          refine ⟨rfl, ?_⟩
          rcases hc with hc | ⟨_, hc⟩
          · exact Or.inl hc
          · exact Or.inr hc
        · exact absurd rfl q1
      have htot : tot szF r1.2.fs = tot szF (A.map sfile) + D.length := by
        rw [g1]
        simp [tot, szF]
      have hlen : r1.2.fs.length = A.length + 1 := by rw [g1]; simp
      rw [htot, hlen] at hE
      rcases hE.2 with hc | hc
      · exact Or.inl ⟨by omega, by omega⟩
      · exact Or.inr ⟨by omega, hc⟩
  rw [if_neg h2]
  have g2 : r2.2.fs = (A.map sfile ++ [(nameN p, (D, D.length))]) ++ [(mendN, (W, 0))] := by
    rcases tw2 with ⟨a, _⟩ | ⟨_, _, _, b, _⟩
    · omega
    · rw [b, appF, fileOf, hnone1, g1]
      have := putL_new (M := ([] : Fs)) hnm hlt ((([], 0) : Fl).1 ++ W, (([], 0) : Fl).2)
      rw [List.append_nil] at this
      simpa using this
  have hd2 : r2.2.down = false := by
    rcases tw2 with ⟨a, _⟩ | ⟨_, _, _, _, b⟩
    · omega
    · exact b
  have hsr2 := ok2.files.sorted
  rw [g2] at hsr2
  have hget2 : getL r2.2.fs mendN = some (W, 0) := by rw [g2]; exact getL_mid hsr2
  by_cases h3 : r3.1 ≠ 0
  · rw [if_pos h3]
    have b3 : r3.2.fs = r2.2.fs := by
      rcases tw3 with ⟨_, b⟩ | ⟨a, _⟩
      · exact b
      · exact absurd a h3
    refine ⟨ok3, by omega, by omega, fun q => absurd q h3, fun _ => ⟨⟨[(mendN, (W, 0))], Or.inr ⟨_, rfl⟩, by rw [b3, g2]; simp⟩, Or.inl ?_⟩, fun ha => ⟨ar3 (ar2 (ar1 ha)), fun hd => (cm3 (ar2 (ar1 ha)) hd2).2.2⟩⟩
    rcases d33 with q | q | ⟨q, _⟩
    · exact absurd q h3
    · exact q
    · exact absurd (findE_some mendN_ok hget2) q
  rw [if_neg h3]
  have g3 : r3.2.fs = (A.map sfile ++ [(nameN p, (D, D.length))]) ++ [(mendN, (W, W.length))] := by
    rcases tw3 with ⟨a, _⟩ | ⟨_, _, _, b, _⟩
    · omega
    · rw [b, synF, fileOf, hget2, g2, putL_mid hsr2]
      rfl
  have hd3 : r3.2.down = false := by
    rcases tw3 with ⟨a, _⟩ | ⟨_, _, _, _, b⟩
    · omega
    · exact b
  have hsr3 := ok3.files.sorted
  rw [g3] at hsr3
  have hget3 : getL r3.2.fs mendN = some (W, W.length) := by rw [g3]; exact getL_mid hsr3
  have hE4 : renE r3.2.fs mendN (nameN p) = 0 := by
    unfold renE
    rw [if_pos (nameN_ok p)]
    exact findE_some mendN_ok hget3
  refine ⟨ok4, by omega, by omega, fun q => ⟨?_, ?_⟩, fun q => ⟨?_, Or.inl ?_⟩, fun ha => ⟨ar4 (ar3 (ar2 (ar1 ha))), fun _ => (cm4 (ar3 (ar2 (ar1 ha))) hd3).2.2⟩⟩
  · rcases tw4 with ⟨a, _⟩ | ⟨_, _, _, b, _⟩
    · omega
    · refine ⟨[], Or.inl rfl, ?_⟩
      have hs4 : srt (A.map sfile ++ (nameN p, (D, D.length)) :: []) := (List.pairwise_append.1 hsr3).1
      rw [b, renF, fileOf, hget3, g3, delL_mid hsr3, List.append_nil]
      exact putL_mid hs4 _
  · rcases tw4 with ⟨a, _⟩ | ⟨_, _, _, _, b⟩
    · omega
    · exact b
  · rcases tw4 with ⟨_, b⟩ | ⟨a, _⟩
    · exact ⟨[(mendN, (W, W.length))], Or.inr ⟨_, rfl⟩, by rw [b, g3]; simp⟩
    · exact absurd a q
  · rcases d34 with r | r | ⟨r, _⟩
    · exact absurd r q
    · exact r
    · exact absurd hE4 r
end Go.Proofs.YteanhkdnakmggaaGreatDoor
/- Layer 6, without the program: a log is settled, opened, crashed. -/
namespace Go.Proofs.YteanhkdnakmggaaGreatDoor
open Go

theorem fr_join {d : List UInt8} (hd : d.length ≤ 4096) (x : List UInt8) : fr (frm d ++ x) = d :: fr x := by
  have h1 : AllIs (frm d) [d] (frm d).length := by
    have := AllIs.whole (ds := [d]) (by simpa using hd)
    rwa [cat_one] at this
  exact (h1.join rfl (fr_is x)).fr.1.symm
/-- What is left of frames that are cut. -/
theorem fr_take : ∀ {ds : List (List UInt8)}, (∀ d ∈ ds, d.length ≤ 4096) → ∀ j, ∃ i, i ≤ ds.length ∧ fr ((cat ds).take j) = ds.take i ∧ ∀ m, m ≤ ds.length → (cat (ds.take m)).length ≤ j → m ≤ i
  | [], _, j => ⟨0, Nat.le_refl _, by simp [cat]; exact fr_cat (ds := []) (by simp), fun m hm _ => hm⟩
  | d :: ds, h, j => by
    have hd := h d (by simp)
    by_cases hj : j < 6 + d.length
    · refine ⟨0, Nat.zero_le _, ?_, fun m _ hc => ?_⟩
      · have e : (cat (d :: ds)).take j = cat [] ++ (frm d).take j := by
          show (frm d ++ cat ds).take j = [] ++ (frm d).take j
          rw [List.take_append_of_le_length (by rw [frm_length]; omega)]
          rfl
        rw [e, fr_torn (by simp) hd hj]
        rfl
      · cases m with
        | zero => exact Nat.le_refl _
        | succ m =>
          rw [List.take_succ_cons, cat, List.length_append, frm_length] at hc
          omega
    · obtain ⟨i, h1, h2, h3⟩ := fr_take (ds := ds) (fun x hx => h x (List.mem_cons_of_mem _ hx)) (j - (6 + d.length))
      refine ⟨i + 1, by simpa using h1, ?_, fun m hm hc => ?_⟩
      · have e : (cat (d :: ds)).take j = frm d ++ (cat ds).take (j - (6 + d.length)) := by
          rw [cat, List.take_append, frm_length, List.take_of_length_le (by rw [frm_length]; omega)]
        rw [e, fr_join hd, h2, List.take_succ_cons]
      · cases m with
        | zero => exact Nat.zero_le _
        | succ m =>
          rw [List.take_succ_cons, cat, List.length_append, frm_length] at hc
          exact Nat.succ_le_succ (h3 m (by simpa using hm) (by omega))

structure Settled (st : St) (L : List Sg) (T : Nat) (r : Int × St) : Prop where
  ok : OKs r.2
  size : r.2.size = st.size
  steps : r.2.steps ≤ st.steps + 4
  shut : Shut r.2.fs L T
  yes : r.1 = 0 → Whole r.2.fs L ∧ r.2.down = false
  no : r.1 ≠ 0 → (r.1 = 3 ∧ r.2.down = true) ∨ (r.1 = 42 ∧ (st.size < T + T ∨ 64 ≤ L.length))
  calm : st.armed = -1 → r.2.armed = -1 ∧ r.2.down = false
theorem Whole.shut {fs : Fs} {L : List Sg} {T : Nat} (h : Whole fs L) (hL : SgOK L) (hT : tot szF fs ≤ T) : Shut fs L T := by
  rcases h with h | ⟨A, s, ⟨M, hM, e⟩, rfl⟩
  · exact Or.inl h
  · refine Or.inr ⟨A, s.1, cat s.2, ⟨M, hM, e⟩, by rw [fr_cat (hL.small s (by simp))], ?_⟩
    rw [e] at hT
    simp only [tot, List.map_append, List.sum_append, List.map_cons, List.sum_cons, szF] at hT ⊢
    omega
theorem settle_shut {st : St} {L : List Sg} {T : Nat} (hok : OKs st) (hd : st.down = false) (h : Shut st.fs L T) : Settled st L T (settleR st L) := by
  rcases h with ⟨rfl, hM⟩ | ⟨A, p, D, hl, rfl, hT⟩
  · have e : settleR st [] = (0, st) := by simp [settleR]
    rw [e]
    exact ⟨hok, rfl, Nat.le_add_right _ _, Or.inl ⟨rfl, hM⟩, fun _ => ⟨Or.inl ⟨rfl, hM⟩, hd⟩, fun q => absurd rfl q, fun ha => ⟨ha, hd⟩⟩
  · have hr := hl.read hok hd
    have hW := fr_le D
    have e : settleR st (A ++ [(p, fr D)]) = if (cat (fr D)).length < D.length then mendR st (nameN p) (cat (fr D)) else synR st (nameN p) := by
      rw [settleR, if_neg (by simp), lastL_snoc, hr]
      simp
    rw [e]
    by_cases ht : (cat (fr D)).length < D.length
    · rw [if_pos ht]
      obtain ⟨m1, m2, m3, m4, m5, m6⟩ := mend_shut (W := cat (fr D)) hok hl
      refine ⟨m1, m2, m3, ?_, fun q => ⟨Or.inr ⟨A, (p, fr D), (m4 q).1, rfl⟩, (m4 q).2⟩, fun q => ?_, fun ha => ⟨(m6 ha).1, (m6 ha).2 hd⟩⟩
      · by_cases h0 : (mendR st (nameN p) (cat (fr D))).1 = 0
        · exact Or.inr ⟨A, p, cat (fr D), (m4 h0).1, by rw [fr_cat (fr_small D)], by omega⟩
        · exact Or.inr ⟨A, p, D, (m5 h0).1, rfl, hT⟩
      · rcases (m5 q).2 with r | r | r
        · exact Or.inl r
        · exact Or.inr ⟨r.1, Or.inl (by omega)⟩
        · exact Or.inr ⟨r.1, Or.inr (by simpa using r.2)⟩
    · rw [if_neg ht]
      have hDW : cat (fr D) = D := by
        have := fr_front D
        rw [show (cat (fr D)).length = D.length by omega, List.take_length] at this
        exact this.symm
      have hg := hl.find hok.files.sorted
      have hE := findE_some (nameN_ok p) hg
      have hok1 := synR_ok hok (nameN p)
      have sz := stepR_size st (findE st.fs (nameN p)) (synF (nameN p))
      have stp := stepR_steps st (findE st.fs (nameN p)) (synF (nameN p))
      have tw := stepR_two st (findE st.fs (nameN p)) (synF (nameN p)) (findE_nn _ _)
      have d3 := stepR_down3 st (findE st.fs (nameN p)) (synF (nameN p))
      have cm := fun ha => stepR_calm (st := st) (findE st.fs (nameN p)) (synF (nameN p)) ha hd
      have es : synR st (nameN p) = stepR st (findE st.fs (nameN p)) (synF (nameN p)) := rfl
      rw [← es] at sz stp tw d3 cm
      have hfs : (synR st (nameN p)).2.fs = st.fs := by
        rcases tw with ⟨_, b⟩ | ⟨_, _, _, b, _⟩
        · exact b
        · obtain ⟨M, _, hfs⟩ := hl
          have hsr := hok.files.sorted
          rw [b, synF, fileOf, hg]
          rw [hfs] at hsr ⊢
          exact putL_mid hsr _
      refine ⟨hok1, sz, by omega, ?_, fun q => ⟨?_, ?_⟩, fun q => Or.inl ?_, fun ha => ⟨(cm ha).2.1, (cm ha).2.2⟩⟩
      · rw [hfs]
        exact Or.inr ⟨A, p, D, hl, rfl, hT⟩
      · rw [hfs]
        refine Or.inr ⟨A, (p, fr D), ?_, rfl⟩
        simp only [hDW]
        exact hl
      · rcases tw with ⟨a, _⟩ | ⟨_, _, _, _, b⟩
        · omega
        · exact b
      · rcases d3 with r | r | ⟨r, _⟩
        · exact absurd r q
        · exact r
        · exact absurd hE r
theorem open_shut {st : St} {L : List Sg} {T F S : Nat} (hd : st.down = false) (h : Shut st.fs L T) (hL : SgOK L) (hF : F < 1000000000000) (h1 : 1 ≤ S) (h2 : S ≤ 1024) :
    openR st (F : Int) (S : Int) = if (settleR st L).1 ≠ 0 then ((settleR st L).1, (settleR st L).2, none) else (0, (settleR st L).2, some ⟨S, F, nextL F L, L⟩) := by
  have hl := h.load hL F
  rw [openR, if_neg (by omega), if_neg (by rw [hd]; simp), Int.toNat_natCast, hl]
  simp only [Int.toNat_natCast]
theorem Whole.lies {st : St} {S F : Nat} {L : List Sg} (h : Whole st.fs L) (hL : SgOK L) : Lies st ⟨S, F, nextL F L, L⟩ := by
  rcases h with ⟨rfl, hM⟩ | ⟨A, s, hl, rfl⟩
  · exact Or.inl ⟨rfl, hM⟩
  · refine Or.inr ⟨A, s, _, rfl, hl, ?_, ?_⟩
    · simp only [nextL_snoc, Sg.end]; omega
    · simp only [nextL_snoc, Sg.end, Nat.add_sub_cancel_left, List.take_length]
      exact Nat.le_refl _

/-! ### a crash -/
theorem crashL_app (ks : List Int) : ∀ (X M : Fs), (∀ q ∈ X, q.2.2 = q.2.1.length) → crashL ks (X ++ M) = X ++ crashL ks M
  | [], M, _ => rfl
  | q :: X, M, h => by
    have hq := h q (by simp)
    rw [List.cons_append, crashL, if_neg (by omega), crashL_app ks X M (fun x hx => h x (List.mem_cons_of_mem _ hx)), List.cons_append, ← hq]
theorem Mnd.crash {M : Fs} (h : Mnd M) (ks : List Int) : Mnd (crashL ks M) := by
  rcases h with rfl | ⟨f, rfl⟩
  · exact Or.inl rfl
  · right
    unfold crashL
    split
    · exact ⟨_, rfl⟩
    · exact ⟨_, rfl⟩
theorem sfile_safe (A : List Sg) : ∀ q ∈ A.map sfile, q.2.2 = q.2.1.length := fun q hq => by
  obtain ⟨s, _, rfl⟩ := List.mem_map.1 hq
  rfl
theorem Shut.crash {fs : Fs} {L : List Sg} {T : Nat} (h : Shut fs L T) (ks : List Int) : Shut (crashL ks fs) L T := by
  rcases h with ⟨rfl, hM⟩ | ⟨A, p, D, ⟨M, hM, rfl⟩, rfl, hT⟩
  · exact Or.inl ⟨rfl, hM.crash ks⟩
  · refine Or.inr ⟨A, p, D, ⟨crashL ks M, hM.crash ks, ?_⟩, rfl, hT⟩
    rw [show A.map sfile ++ (nameN p, (D, D.length)) :: M = (A.map sfile ++ [(nameN p, (D, D.length))]) ++ M by simp, crashL_app]
    · simp
    · intro q hq
      rcases List.mem_append.1 hq with hq | hq
      · exact sfile_safe A q hq
      · obtain rfl : q = (nameN p, (D, D.length)) := by simpa using hq
        rfl
theorem crash_one (ks : List Int) (n : Nm) (D : List UInt8) (k : Nat) (hk : k ≤ D.length) (M : Fs) : ∃ j ks', k ≤ j ∧ j ≤ D.length ∧ crashL ks ((n, (D, k)) :: M) = (n, (D.take j, (D.take j).length)) :: crashL ks' M := by
  by_cases h : 0 < D.length - k
  · refine ⟨k + keeps (ks.headD 0) (D.length - k), ks.tail, by omega, by simp only [keeps]; omega, ?_⟩
    have : (D.take (k + keeps (ks.headD 0) (D.length - k))).length = k + keeps (ks.headD 0) (D.length - k) := by
      rw [List.length_take]
      simp only [keeps]
      omega
    rw [this, crashL, if_pos h]
    rfl
  · exact ⟨D.length, ks, hk, Nat.le_refl _, by rw [List.take_length, crashL, if_neg h]⟩
theorem Lies.crash {st : St} {g : Lg} (h : Lies st g) (hok : OKs st) (hg : LgOK g) (ks : List Int) {T : Nat} (hT : tot szF st.fs ≤ T) : ∃ L, Shut (crashL ks st.fs) L T ∧ SgOK L ∧ ((g.segs = [] ∧ L = []) ∨ ∃ A s i, g.segs = A ++ [s] ∧ L = A ++ [(s.1, s.2.take i)] ∧ i ≤ s.2.length ∧ g.safe ≤ s.1 + i) := by
  rcases h with ⟨h1, hM⟩ | ⟨A, s, k, h1, ⟨M, hM, hfs⟩, h3, h4⟩
  · exact ⟨[], Or.inl ⟨rfl, hM.crash ks⟩, ⟨trivial, by simp, by simp⟩, Or.inl ⟨h1, rfl⟩⟩
  · have hk : k ≤ (cat s.2).length := hok.files.safe (nameN s.1, (cat s.2, k)) (by rw [hfs]; simp)
    obtain ⟨j, ks', hj1, hj2, hj3⟩ := crash_one ks (nameN s.1) (cat s.2) k hk M
    have hsm : ∀ d ∈ s.2, d.length ≤ 4096 := hg.small s (by rw [h1]; simp)
    obtain ⟨i, hi1, hi2, hi3⟩ := fr_take hsm j
    have hsafe := hg.safe
    rw [Lg.next, h1, nextL_snoc, Sg.end] at hsafe
    have hii := hi3 (g.safe - s.1) (by omega) (by omega)
    refine ⟨A ++ [(s.1, s.2.take i)], Or.inr ⟨A, s.1, (cat s.2).take j, ⟨crashL ks' M, hM.crash ks', ?_⟩, by rw [hi2], ?_⟩, ⟨?_, fun x hx => ?_, fun x hx => ?_⟩, Or.inr ⟨A, s, i, h1, rfl, hi1, by omega⟩⟩
    · rw [hfs, crashL_app ks _ _ (sfile_safe A), hj3]
    · rw [hfs] at hT
      simp only [tot, List.map_append, List.sum_append, List.map_cons, List.sum_cons, szF] at hT ⊢
      rw [List.length_take]
      omega
    · exact Row.put (s := s) (h1 ▸ hg.row) rfl
    · rcases List.mem_append.1 hx with hx | hx
      · exact hg.low x (by rw [h1]; simp [hx])
      · obtain rfl : x = (s.1, s.2.take i) := by simpa using hx
        exact hg.low s (by rw [h1]; simp)
    · rcases List.mem_append.1 hx with hx | hx
      · exact hg.small x (by rw [h1]; simp [hx])
      · obtain rfl : x = (s.1, s.2.take i) := by simpa using hx
        intro d hd
        exact hsm d (List.mem_of_mem_take hd)
end Go.Proofs.YteanhkdnakmggaaGreatDoor
/- Layer 6, without the program: a log that falls again and again while it is being opened. -/
namespace Go.Proofs.YteanhkdnakmggaaGreatDoor
open Go

theorem Only1.crash {S : Nat} {R : List (List UInt8)} {st : St} {g : Lg} (h : Only1 S R st g) (hc : (cat R).length ≤ 100000) (ks : List Int) : ∃ L, Shut (crashL ks st.fs) L 100000 ∧ SgOK L ∧ baseL 0 L = 0 ∧ recsL L <+: R ∧ L.length ≤ g.segs.length := by
  obtain ⟨L, h1, h2, h3⟩ := h.lies.crash h.calm.ok h.ok ks (T := 100000) (by rw [h.tot]; exact hc)
  refine ⟨L, h1, h2, ?_⟩
  rcases h3 with ⟨_, rfl⟩ | ⟨A, s, i, e, rfl, _, _⟩
  · exact ⟨rfl, by simp [recsL], Nat.zero_le _⟩
  · have hb := h.base
    have hr := h.recs
    rw [Lg.base, e, h.frm] at hb
    rw [e, recsL_append, recsL_one] at hr
    refine ⟨?_, ?_, by rw [e]; simp⟩
    · cases A with
      | nil => exact hb
      | cons x A => exact hb
    · rw [recsL_append, recsL_one, ← hr]
      exact (List.prefix_append_right_inj _).2 (List.take_prefix _ _)
structure AgA (L : List Sg) (st : St) : Prop where
  ok : OKs st
  up : st.down = false
  size : st.size = 1048576
  shut : Shut st.fs L 100000
theorem AgA.arm {L : List Sg} {st : St} (h : AgA L st) {n : Int} (h0 : -1 ≤ n) (h1 : n ≤ 9223372036854775807) : (armR st n).1 = 0 ∧ AgA L (armR st n).2 ∧ (armR st n).2.steps = st.steps ∧ (armR st n).2.armed = n := by
  have hok := armR_ok h.ok h1
  have e : armR st n = (0, { st with armed := n }) := by
    rw [armR, if_neg (by omega), if_neg (by rw [h.up]; simp)]
  rw [e] at hok ⊢
  exact ⟨rfl, ⟨hok, h.up, h.size, h.shut⟩, rfl, rfl⟩
theorem AgA.settle {L : List Sg} {st : St} (h : AgA L st) (hl : L.length < 64) : (settleR st L).2.steps ≤ st.steps + 4 ∧ ((settleR st L).1 = 0 → AgA L (settleR st L).2) ∧ ((settleR st L).1 ≠ 0 → (settleR st L).1 = 3 ∧ ∀ ks, AgA L (crashR (settleR st L).2 ks) ∧ (crashR (settleR st L).2 ks).armed = -1) ∧ (st.armed = -1 → (settleR st L).1 = 0) := by
  have s := settle_shut h.ok h.up h.shut
  have hsz := h.size
  have hno : (settleR st L).1 ≠ 0 → (settleR st L).1 = 3 ∧ (settleR st L).2.down = true := fun q => by
    rcases s.no q with r | ⟨_, r⟩
    · exact r
    · omega
  refine ⟨s.steps, fun q => ⟨s.ok, (s.yes q).2, by rw [s.size]; exact hsz, s.shut⟩, fun q => ⟨(hno q).1, fun ks => ⟨⟨crashR_ok s.ok ks, rfl, ?_, s.shut.crash ks⟩, rfl⟩⟩, fun ha => ?_⟩
  · show (settleR st L).2.size = 1048576
    rw [s.size]
    exact hsz
  · refine Decidable.byContradiction fun q => ?_
    have r := (hno q).2
    rw [(s.calm ha).2] at r
    cases r
theorem next_recs {L : List Sg} (h : Row L) (hb : baseL 0 L = 0) : nextL 0 L = (recsL L).length := by
  by_cases hz : L = []
  · rw [hz]; rfl
  · rw [h.next_is 0 hz, hb, Nat.zero_add]
theorem read_pre {g : Lg} {R : List (List UInt8)} (hb : g.base = 0) (hn : g.next = (recsL g.segs).length) (hp : recsL g.segs <+: R) {i : Nat} (hi : i < g.next) : ∃ h : i < R.length, readL g (i : Int) = (R[i], 0) := by
  have hl : i < (recsL g.segs).length := by rw [← hn]; exact hi
  have hle := hp.length_le
  refine ⟨by omega, ?_⟩
  rw [readL, if_neg (by rw [hb]; omega), hb]
  have e : ((i : Int) - ((0 : Nat) : Int)).toNat = i := by omega
  rw [e, List.getElem?_eq_getElem hl, Option.getD_some, hp.getElem hl]
end Go.Proofs.YteanhkdnakmggaaGreatDoor
/- Walks of layer 6: reads. -/
namespace Go.Proofs.YteanhkdnakmggaaGreatDoor
open Go.RowKit

set_option maxHeartbeats 8000000 in
set_option maxRecDepth 100000 in
theorem reads_any (w : World) (Y : Nat → Prop) (l a : Nat) (g : Lg) (p : Option Addr) (cap : Nat) (es : List Ent) (h : LogAt w Y l a g p cap es) (hg : LgW g) (hb : g.base = 0) (hn : g.next = (recsL g.segs).length) (pr : Option Addr) (cr : Nat) (rs : List ByteArray) (hr : Strs w pr rs) (hp : recsL g.segs <+: bys rs) (want : Int) (hw : want = -1 ∨ want = (g.next : Int)) :
    Calls Tryz.prog 21 #[.pointer (some ⟨l, 0, none⟩), .slice pr rs.length cr, .int .i64 want] w fun e w' => e = .returned (.bool true) ∧ Below w.heap.size w w' := by
  have HL : Hid (LogAt w Y l a g p cap es) := h
  have HG : Hid (LgW g) := hg
  have HR : Hid (Strs w pr rs) := hr
  have HRD : Hid (∀ i, i < g.next → ∃ h : i < (bys rs).length, readL g (i : Int) = ((bys rs)[i], 0)) := fun i hi => read_pre hb hn hp hi
  have hle : g.next ≤ rs.length := by
    have := hp.length_le
    rw [bys_length] at this
    omega
  have hbig := hg.next_le
  obtain ⟨N, hN⟩ : ∃ N, g.next = N := ⟨_, rfl⟩
  have HN : Hid (g.next = N) := hN
  rw [hN] at hle hbig hw
  have HW : Hid (want = -1 ∨ want = (N : Int)) := hw
  clear h hg hr hb hn hp hN hw
  go_enter Tryz.func21, Tryz.ntmps21
  go_wp2_with fail
  refine (next_any _ Y l a g p cap es HL.out HG.out).mono ?_
  rintro e w1 ⟨rfl, hb1⟩
  rw [HN.out]
  have HB1 : Hid (Below w.heap.size w w1) := hb1
  clear hb1
  have hlei : ¬ (rs.length : Int) < (N : Int) := by omega
  rcases HW.out with rfl | rfl
  all_goals
    go_wp2
    go_loopw [8] (fun i wr => ∃ k : Nat, k ≤ N ∧ i = .int .i64 k ∧ Below w.heap.size w wr) (fun i _ => N - (intOf i).toNat)
    case atStart => exact ⟨0, Nat.zero_le _, rfl, HB1.out⟩
    case round =>
      obtain ⟨k, hk, rfl, hbk⟩ := hrel
      have HBK : Hid (Below w.heap.size w wr) := hbk
      clear hbk
      by_cases hlt : k < N
      · have hlti : (k : Int) < (N : Int) := by omega
        obtain ⟨hkr, hrd⟩ := HRD.out k (by rw [HN.out]; exact hlt)
        have hkr2 : k < rs.length := by omega
        obtain ⟨b, off, rfl, hcell⟩ := HR.out k hkr2
        obtain ⟨d, hd⟩ : ∃ d, rs[k] = d := ⟨_, rfl⟩
        have hbd : (bys rs)[k] = d.data.toList := by simp [bys, hd]
        rw [hbd] at hrd
        rw [hd] at hcell
        have HRK : Hid (readL g (k : Int) = (d.data.toList, 0)) := hrd
        have hcw := cell_later HBK.out hcell
        have hsame : (d.toList == d.toList) = true := by simp
        clear hd hbd hrd hcell
        go_wp2_with fail
        refine (lread_any _ Y l a g p cap es (HL.out.later HBK.out) HG.out (k : Int)).mono ?_
        rintro e w2 ⟨rfl, hb2⟩
        rw [HRK.out]
        have hcw2 := cell_later hb2 hcw
        have HB2 : Hid (Below w.heap.size w w2) := HBK.out.trans (hb2.mono HBK.out.size)
        simp only [readV]
        rw [show (⟨d.data.toList.toArray⟩ : ByteArray) = d from rfl]
        clear hb2
        go_wp2
        go_roundw
        case rel => exact ⟨k + 1, by omega, by go_num, HB2.out⟩
        case measure => simp [intOf]; omega
      · have hlti : ¬ (k : Int) < (N : Int) := by omega
        go_wp2
        go_ret
        exact ⟨rfl, HBK.out⟩
end Go.Proofs.YteanhkdnakmggaaGreatDoor
/- Walks of layer 6: WalAgain. -/
namespace Go.Proofs.YteanhkdnakmggaaGreatDoor
open Go.RowKit

theorem ints1 (w : World) (x : Int) (t : TypeId) : Ints (w.alloc (.cells #[.int .i64 x] t)) (some ⟨w.heap.size, 0, none⟩) [x] := fun i hi => by
  have e : i = 0 := by simp at hi; omega
  subst e
  exact ⟨w.heap.size, 0, rfl, by simp⟩
theorem Ints.later {w w' : World} {p : Option Addr} {ks : List Int} (h : Ints w p ks) (hb : Below w.heap.size w w') : Ints w' p ks := fun i hi => by
  obtain ⟨b, off, e, hc⟩ := h i hi
  exact ⟨b, off, e, cell_later hb hc⟩
theorem darm_any {B : Nat} {w : World} {X : Nat → Prop} {l a : Nat} {st : St} {g : Lg} (h : IsLog B w X l a st g) (hX : ∀ k, w.heap.size ≤ k → X k) {n : Int} (hn : n ≤ 9223372036854775807) :
    Calls Tryz.prog 14 #[.pointer (some ⟨a, 0, none⟩), .int .i64 n] w fun e w' => e = .returned (.int .i64 (armR st n).1) ∧ IsLog B w' X l a (armR st n).2 g ∧ Only X w w' := by
  obtain ⟨p, cap, es, h⟩ := h
  obtain ⟨Z, h1, _, h3⟩ := h.disk hX
  refine (arm_any w Z a st n hn h1).mono ?_
  rintro e w' ⟨rfl, k1, k2⟩
  obtain ⟨r1, r2⟩ := h3 w' _ k1 k2
  exact ⟨rfl, r1.is, r2⟩
set_option maxHeartbeats 16000000 in
set_option maxRecDepth 100000 in
theorem again_law (B : Nat) (w : World) (hB : B ≤ w.heap.size) (hV : SV B w) (size : Int) (p : Option Addr) (cap : Nat) (rs : List ByteArray) (hr : Strs w p rs) (hcap : rs.length ≤ cap) (hml : cap ≤ maxLen) (cut : Int) (pk : Option Addr) (capk : Nat) (ks : List Int) (hk : Ints w pk ks) (hkb : ∀ k ∈ ks, k ≤ 9223372036854775807) :
    Calls Tryz.prog 5 #[.agg #[.int .i64 size, .slice p rs.length cap, .int .i64 cut, .slice pk ks.length capk]] w fun e w' => e = .returned (.bool true) ∧ Below w.heap.size w w' := by
  have HCP : Hid (rs.length ≤ 9223372036854775807) := by
    have : rs.length ≤ 9223372036854775807 := by unfold maxLen at hml; omega
    exact this
  have HKB : Hid (∀ k ∈ ks, k ≤ 9223372036854775807) := hkb
  obtain ⟨W0, hW0⟩ : ∃ W0, W0 = w.alloc (.cells #[.int .i64 size, .slice p rs.length cap, .int .i64 cut, .slice pk ks.length capk] 55) := ⟨_, rfl⟩
  have HB0 : Hid (Below w.heap.size w W0) := by
    rw [hW0]
    exact (Below.refl _ _).alloc (Nat.le_refl _) _
  have HB : Hid (B ≤ W0.heap.size) := Nat.le_trans hB HB0.out.size
  have HV : Hid (SV B W0) := hV.later hB HB0.out
  have HR : Hid (Strs W0 p rs) := hr.later HB0.out
  have HK0 : Hid (Ints W0 pk ks) := hk.later HB0.out
  clear hB hV hr hcap hml hk hkb
  go_enter Tryz.func5, Tryz.ntmps5
  go_wp2
  rw [← hW0]
  clear hW0
  go_loopw [7, 8] (fun m i wr => ∃ k : Nat, k ≤ rs.length ∧ i = .int .i64 k ∧ m = .int .i64 (((cat ((bys rs).take k)).length : Nat) : Int) ∧ (cat ((bys rs).take k)).length ≤ 104102 ∧ (∀ d ∈ (bys rs).take k, d.length ≤ 4096) ∧ wr = W0) (fun _ i _ => rs.length - (intOf i).toNat)
  case atStart => exact ⟨0, Nat.zero_le _, rfl, by simp [cat], by simp [cat], by simp, rfl⟩
  case round =>
    obtain ⟨k, hk, rfl, rfl, hbig, hsm, hwr⟩ := hrel
    have hwr' := hwr.symm
    subst hwr'
    clear hwr
    obtain ⟨M, hM⟩ : ∃ M, (cat ((bys rs).take k)).length = M := ⟨_, rfl⟩
    have HM : Hid ((cat ((bys rs).take k)).length = M) := hM
    rw [hM] at hbig ⊢
    have HSM : Hid (∀ d ∈ (bys rs).take k, d.length ≤ 4096) := hsm
    clear hM hsm
    have hcp := HCP.out
    by_cases hm : M ≤ 100000
    · have hmi : (M : Int) ≤ 100000 := by omega
      have hmd : decide (M ≤ 100000) = true := decide_eq_true hm
      by_cases hlt : k < rs.length
      · have hlti : (k : Int) < (rs.length : Int) := by omega
        obtain ⟨b, off, rfl, hcell⟩ := HR.out k hlt
        obtain ⟨d, hd⟩ : ∃ d, rs[k] = d := ⟨_, rfl⟩
        rw [hd] at hcell
        have HD : Hid (rs[k] = d) := hd
        clear hd
        by_cases hbigd : 4096 < d.size
        · have hbi : (4096 : Int) < (d.size : Int) := by omega
          go_wp2
          go_ret
          exact ⟨rfl, HB0.out⟩
        · have hbi : ¬ (4096 : Int) < (d.size : Int) := by omega
          have hbi2 : d.size ≤ 4096 := by omega
          go_wp2
          go_roundw
          case rel =>
            have hc := cat_next hlt
            rw [HM.out, HD.out] at hc
            refine ⟨k + 1, by omega, by go_num, ?_, by omega, fun x hx => ?_, trivial⟩
            · rw [hc]
              go_num
            · rw [bys_next hlt] at hx
              rcases List.mem_append.1 hx with hx | hx
              · exact HSM.out x hx
              · obtain rfl : x = (rs[k]).data.toList := by simpa using hx
                rw [HD.out]
                simpa using hbi2
          case measure => simp [intOf]; omega
      · have hk' : k = rs.length := by omega
        have HK : Hid (k = rs.length) := hk'
        have hlti : ¬ (k : Int) < (rs.length : Int) := by omega
        clear hk'
        have hmg : ¬ (100000 : Int) < (M : Int) := by omega
        have HT : Hid ((bys rs).take k = bys rs) := by
          have : (bys rs).take k = bys rs := by rw [HK.out, ← bys_length]; exact List.take_length
          exact this
        have HM2 : Hid ((cat (bys rs)).length ≤ 100000 ∧ ∀ d ∈ bys rs, d.length ≤ 4096) := by
          have h1 := HM.out
          have h2 := HSM.out
          rw [HT.out] at h1 h2
          exact ⟨by omega, h2⟩
        clear hmi hmd hm hbig
        go_wp2_with fail
        refine (awake_any B _ HB.out HV.out).mono ?_
        rintro e w1 ⟨rfl, hb1⟩
        have HB1 : Hid (Below W0.heap.size W0 w1) := hb1
        clear hb1
        by_cases hf : 2147483647 < ks.length
        · have hfi : (2147483647 : Int) < (ks.length : Int) := by omega
          go_wp2
          go_ret
          exact ⟨rfl, HB0.out.trans (HB1.out.mono HB0.out.size)⟩
        have hfi : ¬ (2147483647 : Int) < (ks.length : Int) := by omega
        by_cases hs1 : size < 1
        · go_wp2
          go_ret
          exact ⟨rfl, HB0.out.trans (HB1.out.mono HB0.out.size)⟩
        by_cases hs2 : 1024 < size
        · go_wp2
          go_ret
          exact ⟨rfl, HB0.out.trans (HB1.out.mono HB0.out.size)⟩
        obtain ⟨S, rfl⟩ : ∃ S : Nat, size = (S : Int) := ⟨size.toNat, by omega⟩
        have HS : Hid (1 ≤ S ∧ S ≤ 1024) := by
          have : 1 ≤ S ∧ S ≤ 1024 := by omega
          exact this
        by_cases hs3 : 20 * S < rs.length
        · have hs3i : 20 * (S : Int) < (rs.length : Int) := by omega
          go_wp2
          go_ret
          exact ⟨rfl, HB0.out.trans (HB1.out.mono HB0.out.size)⟩
        have hs3i : ¬ 20 * (S : Int) < (rs.length : Int) := by omega
        have HS3 : Hid (rs.length ≤ 20 * S) := by
          have : rs.length ≤ 20 * S := by omega
          exact this
        go_wp2_with fail
        refine (new_any 1048576 none 0 [] w1 (by simp) (by simp) (FRow.nil _ _)).mono ?_
        rintro e w2 ⟨hb2, hN⟩
        rcases hN with ⟨hN, _⟩ | ⟨_, a, rfl, hi2⟩
        · exact absurd new_first.1 hN
        rw [new_first.2] at hi2
        have HB2 : Hid (Below w1.heap.size w1 w2) := hb2
        have HI2 : Hid (IsDisk w2 (fun k => w1.heap.size ≤ k) a ⟨1048576, [], 0, -1, false⟩) := hi2
        clear hb2 hi2
        have HBB : Hid (B ≤ w1.heap.size) := Nat.le_trans HB.out HB1.out.size
        have HV1 : Hid (SV B w1) := HV.out.later HB.out HB1.out
        go_wp2_with fail
        refine (open_any B w2 (fun k => w1.heap.size ≤ k) a ⟨1048576, [], 0, -1, false⟩ (Nat.le_trans HBB.out HB2.out.size) (HV1.out.later HBB.out HB2.out) (fun k hk => Nat.le_trans HBB.out hk) (zone_new HB2.out.size) HI2.out (by decide) 0 (S : Int)).mono ?_
        rw [open_first HS.out.1 HS.out.2]
        rintro e w3 ⟨ho3, hcase⟩
        rcases hcase with ⟨h0, _⟩ | ⟨l, g, hg, rfl, hi3⟩
        · cases h0
        obtain rfl : (⟨S, 0, 0, []⟩ : Lg) = g := by simpa using hg
        have HB3 : Hid (Below w1.heap.size w1 w3) := ho3.zone HB2.out
        have HI3 : Hid (IsLog B w3 (fun k => w1.heap.size ≤ k) l a ⟨1048576, [], 0, -1, false⟩ ⟨S, 0, 0, []⟩) := hi3
        clear ho3 hi3 hg
        go_wp2
        go_loopw [14] (fun i wr => ∃ (j : Nat) (st : St) (g : Lg), j ≤ rs.length ∧ i = .int .i64 j ∧ IsLog B wr (fun k => w1.heap.size ≤ k) l a st g ∧ Only1 S ((bys rs).take j) st g ∧ Below w1.heap.size w1 wr) (fun i _ => rs.length - (intOf i).toNat)
        case atStart => exact ⟨0, _, _, Nat.zero_le _, rfl, HI3.out, Only1.first HS.out.1 HS.out.2, HB3.out⟩
        case round =>
          obtain ⟨j, st, g, hj, rfl, hi4, hon, hb4⟩ := hrel
          have HI4 : Hid (IsLog B wr (fun k => w1.heap.size ≤ k) l a st g) := hi4
          have HON : Hid (Only1 S ((bys rs).take j) st g) := hon
          have HB4 : Hid (Below w1.heap.size w1 wr) := hb4
          clear hi4 hon hb4
          by_cases hlt : j < rs.length
          · have hltj : (j : Int) < (rs.length : Int) := by omega
            obtain ⟨b, off, rfl, hcell⟩ := HR.out j hlt
            have hcw := cell_later HB4.out (cell_later HB1.out hcell)
            obtain ⟨d, hd⟩ : ∃ d, rs[j] = d := ⟨_, rfl⟩
            rw [hd] at hcw
            have HDJ : Hid ((bys rs).take (j + 1) = (bys rs).take j ++ [d.data.toList]) := by
              have := bys_next hlt
              rw [hd] at this
              exact this
            have hdl : d.data.toList.length ≤ 4096 := HM2.out.2 _ (by rw [← hd]; exact List.mem_map_of_mem (List.getElem_mem hlt))
            have hds : d.size ≤ 4096 := by simpa using hdl
            have hmore := HON.out.more (d := d.data.toList) hdl (by
              rw [List.length_take, bys_length]
              have := HS3.out
              omega) (by
              have h1 := cat_next hlt
              rw [hd] at h1
              have h2 : (cat (bys rs)).length = (cat ((bys rs).take (j + 1))).length + (cat ((bys rs).drop (j + 1))).length := by rw [← List.length_append, ← cat_append, List.take_append_drop]
              have h3 := HM2.out.1
              have h4 : d.data.toList.length = d.size := by simp
              omega)
            rw [← HDJ.out] at hmore
            have hjl : ((bys rs).take j).length = j := by rw [List.length_take, bys_length]; omega
            rw [hjl] at hmore
            obtain ⟨hans, hon2⟩ := hmore
            have HON2 : Hid (Only1 S ((bys rs).take (j + 1)) (appendL st g d.data.toList).2.1 (appendL st g d.data.toList).2.2) := hon2
            have HANS : Hid ((appendL st g d.data.toList).1 = ((j : Int), 0)) := hans
            have HNE : Hid (g.segs = [] → g.safe = g.next) := fun e => (HON.out.ok.none e).trans (by rw [Lg.next, e]; rfl)
            have HST : Hid (st.steps < 4611686018427387000) := by
              have h1 := HON.out.steps
              rw [hjl] at h1
              have h2 := HS3.out
              have h3 := HS.out
              have : st.steps < 4611686018427387000 := by omega
              exact this
            have z4 := HB4.out.size
            clear hd hcell hdl hans hon2 hjl
            go_wp2_with fail
            refine (lappend_any B wr _ l a st g HI4.out HNE.out (fun k hk => Nat.le_trans z4 hk) HST.out d (by omega)).mono ?_
            rintro e w5 ⟨rfl, hi5, ho5⟩
            have HB5 : Hid (Below w1.heap.size w1 w5) := ho5.zone HB4.out
            have HI5 : Hid (IsLog B w5 (fun k => w1.heap.size ≤ k) l a (appendL st g d.data.toList).2.1 (appendL st g d.data.toList).2.2) := hi5
            simp only [appV, HANS.out]
            clear hi5 ho5
            go_wp2
            go_roundw
            case rel => exact ⟨j + 1, _, _, by omega, by go_num, HI5.out, HON2.out, HB5.out⟩
            case measure => simp [intOf]; omega
          · have hltj : ¬ (j : Int) < (rs.length : Int) := by omega
            have HON2 : Hid (Only1 S (bys rs) st g) := by
              have e : (bys rs).take j = bys rs := List.take_of_length_le (by rw [bys_length]; omega)
              have := HON.out
              rw [e] at this
              exact this
            obtain ⟨L, c1, c2, c3, c4, c5⟩ := HON2.out.crash HM2.out.1 [cut]
            have hcnt := HON2.out.count HS.out.1
            have hL20 : L.length < 64 := by
              rw [bys_length] at hcnt
              have h20 : (rs.length + S - 1) / S ≤ 20 := Nat.lt_succ_iff.1 ((Nat.div_lt_iff_lt_mul (by have := HS.out.1; omega)).2 (by have := HS3.out; have := HS.out.1; rw [Nat.succ_mul]; omega))
              omega
            have HLL : Hid (SgOK L ∧ baseL 0 L = 0 ∧ recsL L <+: bys rs ∧ L.length < 64) := ⟨c2, c3, c4, hL20⟩
            obtain ⟨N, hN⟩ : ∃ N, nextL 0 L = N := ⟨_, rfl⟩
            have HNL : Hid (nextL 0 L = N) := hN
            have HNR : Hid (N = (recsL L).length) := by rw [← hN]; exact next_recs c2.row c3
            have hNle : N ≤ rs.length := by
              have h1 := c4.length_le
              rw [bys_length] at h1
              have h2 := HNR.out
              omega
            have hNi : ¬ (rs.length : Int) < (N : Int) := by omega
            have HAG0 : Hid (AgA L (crashR st [cut]) ∧ (crashR st [cut]).armed = -1) := ⟨⟨crashR_ok HON2.out.calm.ok [cut], rfl, HON2.out.room, c1⟩, rfl⟩
            have HC0 : Hid (st.steps ≤ 100000) := by
              have h1 := HON2.out.steps
              have h2 := cat6 (bys rs)
              have h3 := HM2.out.1
              have : st.steps ≤ 100000 := by omega
              exact this
            have HD4 : Hid (IsDisk wr (fun k => w1.heap.size ≤ k) a st) := HI4.out.toDisk
            clear c1 c2 c3 c4 c5 hcnt hL20 hN
            go_wp2_with fail
            refine (crash_any (wr.alloc (.cells #[.int .i64 cut] 3)) _ a st (some ⟨wr.heap.size, 0, none⟩) 1 [cut] (HD4.out.later ((Below.refl _ _).alloc (Nat.le_refl _) _)) (ints1 wr cut _) (by simp) (by simp)).mono ?_
            rintro e w5 ⟨rfl, hd5, ho5⟩
            have HB5 : Hid (Below w1.heap.size w1 w5) := ho5.zone (HB4.out.alloc HB4.out.size _)
            have HD5 : Hid (IsDisk w5 (fun k => w1.heap.size ≤ k) a (crashR st [cut])) := hd5
            clear hd5 ho5 HD4 HI4 HB4 HON
            go_wp2
            go_loopw [17, 18] (fun want i wr => ∃ (j : Nat) (st' : St), j ≤ ks.length ∧ j ≤ 100 ∧ i = .int .i64 j ∧ (want = .int .i64 (-1) ∨ want = .int .i64 (N : Int)) ∧ IsDisk wr (fun k => w1.heap.size ≤ k) a st' ∧ AgA L st' ∧ st'.armed = -1 ∧ st'.steps ≤ 100000 + 4 * j ∧ Below w1.heap.size w1 wr) (fun _ i _ => ks.length - (intOf i).toNat)
            case atStart => exact ⟨0, _, Nat.zero_le _, by decide, rfl, Or.inl rfl, HD5.out, HAG0.out.1, HAG0.out.2, by have := HC0.out; show st.steps ≤ _; omega, HB5.out⟩
            case round =>
              obtain ⟨j, st', hj, hj100, rfl, hwant, hd6, hag, harm, hstp, hb6⟩ := hrel
              have HD6 : Hid (IsDisk wr (fun k => w1.heap.size ≤ k) a st') := hd6
              have HA6 : Hid (AgA L st') := hag
              have HM6 : Hid (st'.armed = -1) := harm
              have HSS : Hid (st'.steps ≤ 100000 + 4 * j) := hstp
              have HB6 : Hid (Below w1.heap.size w1 wr) := hb6
              have HWA : Hid (u17 = .int .i64 (-1) ∨ u17 = .int .i64 (N : Int)) := hwant
              clear hd6 hag harm hstp hb6 hwant
              by_cases hgo : j < ks.length ∧ j < 100
              · obtain ⟨hg1, hg2⟩ := hgo
                have hg1i : (j : Int) < (ks.length : Int) := by omega
                have hg2i : (j : Int) < 100 := by omega
                obtain ⟨b, off, rfl, hcell⟩ := HK0.out j hg1
                have hcw := cell_later HB6.out (cell_later HB1.out hcell)
                have hkle := HKB.out _ (List.getElem_mem hg1)
                obtain ⟨kj, hkj⟩ : ∃ kj, ks[j] = kj := ⟨_, rfl⟩
                rw [hkj] at hcw hkle
                clear hcell hkj
                by_cases hk0 : 0 ≤ kj
                · go_wp2_with fail
                  refine (arm_any wr _ a st' kj hkle HD6.out).mono ?_
                  rintro e w6 ⟨rfl, hd7, ho7⟩
                  obtain ⟨a1, a2, a3, a4⟩ := HA6.out.arm (n := kj) (by omega) hkle
                  obtain ⟨SS2, hSS2⟩ : ∃ SS2, SS2 = (armR st' kj).2 := ⟨_, rfl⟩
                  rw [← hSS2] at a2 a3 hd7
                  have HAW : Hid (AgA L SS2) := a2
                  have HDW : Hid (IsDisk w6 (fun k => w1.heap.size ≤ k) a SS2) := hd7
                  have HBW : Hid (Below w1.heap.size w1 w6) := ho7.zone HB6.out
                  have HSTW : Hid (SS2.steps < 4611686018427387000) := by
                    have h1 := HSS.out
                    have : SS2.steps < 4611686018427387000 := by omega
                    exact this
                  have HSS : Hid (SS2.steps ≤ 100000 + 4 * j) := by rw [a3]; exact HSS.out
                  clear hd7 ho7 a1 a2 a3 a4 hSS2 hcw
                  have HW2 := HBW.out.size
                  go_wp2_with fail
                  refine (open_any B w6 (fun k => w1.heap.size ≤ k) a SS2 (Nat.le_trans HBB.out HBW.out.size) (HV1.out.later HBB.out HBW.out) (fun k hk => Nat.le_trans HBB.out hk) (zone_new HBW.out.size) HDW.out HSTW.out 0 (S : Int)).mono ?_
                  have hopen := open_shut (F := 0) (S := S) HAW.out.up HAW.out.shut HLL.out.1 (by decide) HS.out.1 HS.out.2
                  rw [show ((0 : Nat) : Int) = (0 : Int) from rfl] at hopen
                  rw [hopen]
                  clear hopen
                  by_cases hset : (settleR SS2 L).1 = 0
                  · rw [if_neg (by rw [hset]; simp)]
                    rintro e w7 ⟨ho7, hcase⟩
                    rcases hcase with ⟨h0, _⟩ | ⟨l7, g7, hg7, rfl, hi7⟩
                    · cases h0
                    simp only [Option.some.injEq] at hg7
                    have HAG : Hid (AgA L (settleR SS2 L).2) := (HAW.out.settle HLL.out.2.2.2).2.1 hset
                    have HSP : Hid ((settleR SS2 L).2.steps ≤ SS2.steps + 4) := (HAW.out.settle HLL.out.2.2.2).1
                    have HB7 : Hid (Below w1.heap.size w1 w7) := ho7.zone HBW.out
                    have HNX : Hid (g7.next = N) := by
                      have : g7.next = N := by rw [← hg7]; exact HNL.out
                      exact this
                    simp only at hi7
                    have HI7 : Hid (IsLog B w7 (fun k => w1.heap.size ≤ k) l7 a (settleR SS2 L).2 g7) := hi7
                    clear ho7 hi7 hg7 hset
                    go_wp2_with fail
                    refine (darm_any HI7.out (zone_new HB7.out.size) (n := -1) (by decide)).mono ?_
                    rintro e w8 ⟨rfl, hi8, ho8⟩
                    obtain ⟨a1, a2, a3, a4⟩ := HAG.out.arm (n := -1) (by decide) (by decide)
                    have HB8 : Hid (Below w1.heap.size w1 w8) := ho8.zone HB7.out
                    have HA8 : Hid (AgA L (armR (settleR SS2 L).2 (-1)).2 ∧ (armR (settleR SS2 L).2 (-1)).2.armed = -1 ∧ (armR (settleR SS2 L).2 (-1)).2.steps = (settleR SS2 L).2.steps) := ⟨a2, a4, a3⟩
                    have HD8 : Hid (IsDisk w8 (fun k => w1.heap.size ≤ k) a (armR (settleR SS2 L).2 (-1)).2) := hi8.toDisk
                    obtain ⟨Y8, Z8, p8, cap8, es8, hL8, hG8, _⟩ := hi8.all
                    have HL8 : Hid (LogAt w8 Y8 l7 a g7 p8 cap8 es8) := hL8
                    have HG8 : Hid (LgW g7) := hG8
                    clear hi8 ho8 a1 a2 a3 a4 hL8 hG8
                    go_wp2_with fail
                    refine (next_any _ Y8 l7 a g7 p8 cap8 es8 HL8.out HG8.out).mono ?_
                    rintro e w9 ⟨rfl, hb9⟩
                    rw [HNX.out]
                    have HB9 : Hid (Below w1.heap.size w1 w9) := HB8.out.trans (hb9.mono HB8.out.size)
                    have HD9 : Hid (IsDisk w9 (fun k => w1.heap.size ≤ k) a (armR (settleR SS2 L).2 (-1)).2) := HD8.out.later hb9
                    clear hb9
                    rcases HWA.out with rfl | rfl
                    all_goals
                      go_wp2
                      go_roundw
                      case rel => exact ⟨j + 1, _, by omega, by omega, by go_num, Or.inr rfl, HD9.out, HA8.out.1, HA8.out.2.1, by have h1 := HA8.out.2.2; have h2 := HSP.out; have h3 := HSS.out; omega, HB9.out⟩
                      case measure => simp [intOf]; omega
                  · rw [if_pos hset]
                    rintro e w7 ⟨ho7, hcase⟩
                    rcases hcase with ⟨_, rfl, hd7⟩ | ⟨l7, g7, hg7, _⟩
                    · obtain ⟨b1, b2⟩ := (HAW.out.settle HLL.out.2.2.2).2.2.1 hset
                      have HSP : Hid ((settleR SS2 L).2.steps ≤ SS2.steps + 4) := (HAW.out.settle HLL.out.2.2.2).1
                      simp only [b1] at hd7 ⊢
                      have HB7 : Hid (Below w1.heap.size w1 w7) := ho7.zone HBW.out
                      have HD7 : Hid (IsDisk w7 (fun k => w1.heap.size ≤ k) a (settleR SS2 L).2) := hd7
                      have HC7 : Hid (AgA L (crashR (settleR SS2 L).2 [cut]) ∧ (crashR (settleR SS2 L).2 [cut]).armed = -1) := b2 [cut]
                      clear ho7 hd7 b1 b2 hset
                      go_wp2_with fail
                      refine (crash_any (w7.alloc (.cells #[.int .i64 cut] 3)) _ a (settleR SS2 L).2 (some ⟨w7.heap.size, 0, none⟩) 1 [cut] (HD7.out.later ((Below.refl _ _).alloc (Nat.le_refl _) _)) (ints1 w7 cut _) (by simp) (by simp)).mono ?_
                      rintro e w8 ⟨rfl, hd8, ho8⟩
                      have HB8 : Hid (Below w1.heap.size w1 w8) := ho8.zone (HB7.out.alloc HB7.out.size _)
                      have HD8 : Hid (IsDisk w8 (fun k => w1.heap.size ≤ k) a (crashR (settleR SS2 L).2 [cut])) := hd8
                      clear hd8 ho8
                      go_wp2
                      go_roundw
                      case rel => exact ⟨j + 1, _, by omega, by omega, by go_num, HWA.out, HD8.out, HC7.out.1, HC7.out.2, by have h2 := HSP.out; have h3 := HSS.out; have h4 : (crashR (settleR SS2 L).2 [cut]).steps = (settleR SS2 L).2.steps := rfl; omega, HB8.out⟩
                      case measure => simp [intOf]; omega
                    · cases hg7
                · have hk0i : ¬ (0 : Int) ≤ kj := hk0
                  have HAW : Hid (AgA L st') := HA6.out
                  have HDW : Hid (IsDisk wr (fun k => w1.heap.size ≤ k) a st') := HD6.out
                  have HBW : Hid (Below w1.heap.size w1 wr) := HB6.out
                  have HSTW : Hid (st'.steps < 4611686018427387000) := by
                    have h1 := HSS.out
                    have : st'.steps < 4611686018427387000 := by omega
                    exact this
                  have HW2 := HBW.out.size
                  go_wp2_with fail
                  refine (open_any B wr (fun k => w1.heap.size ≤ k) a st' (Nat.le_trans HBB.out HBW.out.size) (HV1.out.later HBB.out HBW.out) (fun k hk => Nat.le_trans HBB.out hk) (zone_new HBW.out.size) HDW.out HSTW.out 0 (S : Int)).mono ?_
                  have hopen := open_shut (F := 0) (S := S) HAW.out.up HAW.out.shut HLL.out.1 (by decide) HS.out.1 HS.out.2
                  rw [show ((0 : Nat) : Int) = (0 : Int) from rfl] at hopen
                  rw [hopen]
                  clear hopen
                  by_cases hset : (settleR st' L).1 = 0
                  · rw [if_neg (by rw [hset]; simp)]
                    rintro e w7 ⟨ho7, hcase⟩
                    rcases hcase with ⟨h0, _⟩ | ⟨l7, g7, hg7, rfl, hi7⟩
                    · cases h0
                    simp only [Option.some.injEq] at hg7
                    have HAG : Hid (AgA L (settleR st' L).2) := (HAW.out.settle HLL.out.2.2.2).2.1 hset
                    have HSP : Hid ((settleR st' L).2.steps ≤ st'.steps + 4) := (HAW.out.settle HLL.out.2.2.2).1
                    have HB7 : Hid (Below w1.heap.size w1 w7) := ho7.zone HBW.out
                    have HNX : Hid (g7.next = N) := by
                      have : g7.next = N := by rw [← hg7]; exact HNL.out
                      exact this
                    simp only at hi7
                    have HI7 : Hid (IsLog B w7 (fun k => w1.heap.size ≤ k) l7 a (settleR st' L).2 g7) := hi7
                    clear ho7 hi7 hg7 hset
                    go_wp2_with fail
                    refine (darm_any HI7.out (zone_new HB7.out.size) (n := -1) (by decide)).mono ?_
                    rintro e w8 ⟨rfl, hi8, ho8⟩
                    obtain ⟨a1, a2, a3, a4⟩ := HAG.out.arm (n := -1) (by decide) (by decide)
                    have HB8 : Hid (Below w1.heap.size w1 w8) := ho8.zone HB7.out
                    have HA8 : Hid (AgA L (armR (settleR st' L).2 (-1)).2 ∧ (armR (settleR st' L).2 (-1)).2.armed = -1 ∧ (armR (settleR st' L).2 (-1)).2.steps = (settleR st' L).2.steps) := ⟨a2, a4, a3⟩
                    have HD8 : Hid (IsDisk w8 (fun k => w1.heap.size ≤ k) a (armR (settleR st' L).2 (-1)).2) := hi8.toDisk
                    obtain ⟨Y8, Z8, p8, cap8, es8, hL8, hG8, _⟩ := hi8.all
                    have HL8 : Hid (LogAt w8 Y8 l7 a g7 p8 cap8 es8) := hL8
                    have HG8 : Hid (LgW g7) := hG8
                    clear hi8 ho8 a1 a2 a3 a4 hL8 hG8
                    go_wp2_with fail
                    refine (next_any _ Y8 l7 a g7 p8 cap8 es8 HL8.out HG8.out).mono ?_
                    rintro e w9 ⟨rfl, hb9⟩
                    rw [HNX.out]
                    have HB9 : Hid (Below w1.heap.size w1 w9) := HB8.out.trans (hb9.mono HB8.out.size)
                    have HD9 : Hid (IsDisk w9 (fun k => w1.heap.size ≤ k) a (armR (settleR st' L).2 (-1)).2) := HD8.out.later hb9
                    clear hb9
                    rcases HWA.out with rfl | rfl
                    all_goals
                      go_wp2
                      go_roundw
                      case rel => exact ⟨j + 1, _, by omega, by omega, by go_num, Or.inr rfl, HD9.out, HA8.out.1, HA8.out.2.1, by have h1 := HA8.out.2.2; have h2 := HSP.out; have h3 := HSS.out; omega, HB9.out⟩
                      case measure => simp [intOf]; omega
                  · rw [if_pos hset]
                    rintro e w7 ⟨ho7, hcase⟩
                    rcases hcase with ⟨_, rfl, hd7⟩ | ⟨l7, g7, hg7, _⟩
                    · obtain ⟨b1, b2⟩ := (HAW.out.settle HLL.out.2.2.2).2.2.1 hset
                      have HSP : Hid ((settleR st' L).2.steps ≤ st'.steps + 4) := (HAW.out.settle HLL.out.2.2.2).1
                      simp only [b1] at hd7 ⊢
                      have HB7 : Hid (Below w1.heap.size w1 w7) := ho7.zone HBW.out
                      have HD7 : Hid (IsDisk w7 (fun k => w1.heap.size ≤ k) a (settleR st' L).2) := hd7
                      have HC7 : Hid (AgA L (crashR (settleR st' L).2 [cut]) ∧ (crashR (settleR st' L).2 [cut]).armed = -1) := b2 [cut]
                      clear ho7 hd7 b1 b2 hset
                      go_wp2_with fail
                      refine (crash_any (w7.alloc (.cells #[.int .i64 cut] 3)) _ a (settleR st' L).2 (some ⟨w7.heap.size, 0, none⟩) 1 [cut] (HD7.out.later ((Below.refl _ _).alloc (Nat.le_refl _) _)) (ints1 w7 cut _) (by simp) (by simp)).mono ?_
                      rintro e w8 ⟨rfl, hd8, ho8⟩
                      have HB8 : Hid (Below w1.heap.size w1 w8) := ho8.zone (HB7.out.alloc HB7.out.size _)
                      have HD8 : Hid (IsDisk w8 (fun k => w1.heap.size ≤ k) a (crashR (settleR st' L).2 [cut])) := hd8
                      clear hd8 ho8
                      go_wp2
                      go_roundw
                      case rel => exact ⟨j + 1, _, by omega, by omega, by go_num, HWA.out, HD8.out, HC7.out.1, HC7.out.2, by have h2 := HSP.out; have h3 := HSS.out; have h4 : (crashR (settleR st' L).2 [cut]).steps = (settleR st' L).2.steps := rfl; omega, HB8.out⟩
                      case measure => simp [intOf]; omega
                    · cases hg7
              · have HSTW : Hid (st'.steps < 4611686018427387000) := by
                  have h1 := HSS.out
                  have : st'.steps < 4611686018427387000 := by omega
                  exact this
                have hset := (HA6.out.settle HLL.out.2.2.2).2.2.2 HM6.out
                have hopen := open_shut (F := 0) (S := S) HA6.out.up HA6.out.shut HLL.out.1 (by decide) HS.out.1 HS.out.2
                rw [show ((0 : Nat) : Int) = (0 : Int) from rfl, if_neg (by rw [hset]; simp)] at hopen
                have HOP : Hid (openR st' 0 (S : Int) = (0, (settleR st' L).2, some ⟨S, 0, nextL 0 L, L⟩)) := hopen
                have hcond : (j : Int) < (ks.length : Int) → ¬ (j : Int) < 100 := fun h1 h2 => hgo ⟨by omega, by omega⟩
                have HZZ : Hid (¬ (j < ks.length ∧ j < 100)) := hgo
                clear hset hopen hgo hcond
                by_cases hg1 : j < ks.length
                · have hg1i : (j : Int) < (ks.length : Int) := by omega
                  have hg2i : ¬ (j : Int) < 100 := by have := HZZ.out; omega
                  go_wp2_with fail
                  refine (open_any B wr (fun k => w1.heap.size ≤ k) a st' (Nat.le_trans HBB.out HB6.out.size) (HV1.out.later HBB.out HB6.out) (fun k hk => Nat.le_trans HBB.out hk) (zone_new HB6.out.size) HD6.out HSTW.out 0 (S : Int)).mono ?_
                  rw [HOP.out]
                  rintro e w7 ⟨ho7, hcase⟩
                  rcases hcase with ⟨h0, _⟩ | ⟨l7, g7, hg7, rfl, hi7⟩
                  · cases h0
                  simp only [Option.some.injEq] at hg7
                  have HB7 : Hid (Below w1.heap.size w1 w7) := ho7.zone HB6.out
                  have HG7 : Hid (g7 = ⟨S, 0, nextL 0 L, L⟩) := hg7.symm
                  obtain ⟨Y8, Z8, p8, cap8, es8, hL8, hG8, _⟩ := hi7.all
                  have HL8 : Hid (LogAt w7 Y8 l7 a g7 p8 cap8 es8) := hL8
                  have HG8 : Hid (LgW g7) := hG8
                  clear ho7 hi7 hg7 hL8 hG8
                  have HRS : Hid (Strs w7 p rs) := (HR.out.later HB1.out).later HB7.out
                  have hnx : g7.next = N := by rw [HG7.out]; exact HNL.out
                  have hbs : g7.base = 0 := by rw [HG7.out]; exact HLL.out.2.1
                  have hsg : g7.segs = L := by rw [HG7.out]
                  have HRD : Hid (∀ want : Int, (want = -1 ∨ want = (N : Int)) → Calls Tryz.prog 21 #[.pointer (some ⟨l7, 0, none⟩), .slice p rs.length cap, .int .i64 want] w7 fun e w' => e = .returned (.bool true) ∧ Below w7.heap.size w7 w') := fun want hw => reads_any w7 Y8 l7 a g7 p8 cap8 es8 HL8.out HG8.out hbs (by rw [hnx, hsg]; exact HNR.out) p cap rs HRS.out (by rw [hsg]; exact HLL.out.2.2.1) want (by rw [hnx]; exact hw)
                  clear hnx hbs hsg
                  rcases HWA.out with rfl | rfl
                  · go_wp2_with (first | (go_at_call 21; refine (HRD.out (-1) (Or.inl rfl)).mono ?_; rintro e w8 ⟨rfl, hb8⟩))
                    go_ret
                    exact ⟨rfl, HB0.out.trans ((HB1.out.trans ((HB7.out.trans (hb8.mono HB7.out.size)).mono HB1.out.size)).mono HB0.out.size)⟩
                  · go_wp2_with (first | (go_at_call 21; refine (HRD.out (N : Int) (Or.inr rfl)).mono ?_; rintro e w8 ⟨rfl, hb8⟩))
                    go_ret
                    exact ⟨rfl, HB0.out.trans ((HB1.out.trans ((HB7.out.trans (hb8.mono HB7.out.size)).mono HB1.out.size)).mono HB0.out.size)⟩
                · have hg1i : ¬ (j : Int) < (ks.length : Int) := by omega
                  go_wp2_with fail
                  refine (open_any B wr (fun k => w1.heap.size ≤ k) a st' (Nat.le_trans HBB.out HB6.out.size) (HV1.out.later HBB.out HB6.out) (fun k hk => Nat.le_trans HBB.out hk) (zone_new HB6.out.size) HD6.out HSTW.out 0 (S : Int)).mono ?_
                  rw [HOP.out]
                  rintro e w7 ⟨ho7, hcase⟩
                  rcases hcase with ⟨h0, _⟩ | ⟨l7, g7, hg7, rfl, hi7⟩
                  · cases h0
                  simp only [Option.some.injEq] at hg7
                  have HB7 : Hid (Below w1.heap.size w1 w7) := ho7.zone HB6.out
                  have HG7 : Hid (g7 = ⟨S, 0, nextL 0 L, L⟩) := hg7.symm
                  obtain ⟨Y8, Z8, p8, cap8, es8, hL8, hG8, _⟩ := hi7.all
                  have HL8 : Hid (LogAt w7 Y8 l7 a g7 p8 cap8 es8) := hL8
                  have HG8 : Hid (LgW g7) := hG8
                  clear ho7 hi7 hg7 hL8 hG8
                  have HRS : Hid (Strs w7 p rs) := (HR.out.later HB1.out).later HB7.out
                  have hnx : g7.next = N := by rw [HG7.out]; exact HNL.out
                  have hbs : g7.base = 0 := by rw [HG7.out]; exact HLL.out.2.1
                  have hsg : g7.segs = L := by rw [HG7.out]
                  have HRD : Hid (∀ want : Int, (want = -1 ∨ want = (N : Int)) → Calls Tryz.prog 21 #[.pointer (some ⟨l7, 0, none⟩), .slice p rs.length cap, .int .i64 want] w7 fun e w' => e = .returned (.bool true) ∧ Below w7.heap.size w7 w') := fun want hw => reads_any w7 Y8 l7 a g7 p8 cap8 es8 HL8.out HG8.out hbs (by rw [hnx, hsg]; exact HNR.out) p cap rs HRS.out (by rw [hsg]; exact HLL.out.2.2.1) want (by rw [hnx]; exact hw)
                  clear hnx hbs hsg
                  rcases HWA.out with rfl | rfl
                  · go_wp2_with (first | (go_at_call 21; refine (HRD.out (-1) (Or.inl rfl)).mono ?_; rintro e w8 ⟨rfl, hb8⟩))
                    go_ret
                    exact ⟨rfl, HB0.out.trans ((HB1.out.trans ((HB7.out.trans (hb8.mono HB7.out.size)).mono HB1.out.size)).mono HB0.out.size)⟩
                  · go_wp2_with (first | (go_at_call 21; refine (HRD.out (N : Int) (Or.inr rfl)).mono ?_; rintro e w8 ⟨rfl, hb8⟩))
                    go_ret
                    exact ⟨rfl, HB0.out.trans ((HB1.out.trans ((HB7.out.trans (hb8.mono HB7.out.size)).mono HB1.out.size)).mono HB0.out.size)⟩
    · have hmi : ¬ (M : Int) ≤ 100000 := by omega
      have hmg : (100000 : Int) < (M : Int) := by omega
      by_cases hlt : k < rs.length
      · have hlti : (k : Int) < (rs.length : Int) := by omega
        go_wp2_with (first | (go_at_call 8; refine (awake_any B _ HB.out HV.out).mono ?_; rintro e w1 ⟨rfl, hb1⟩))
        go_ret
        exact ⟨rfl, HB0.out.trans (hb1.mono HB0.out.size)⟩
      · have hlti : ¬ (k : Int) < (rs.length : Int) := by omega
        go_wp2_with (first | (go_at_call 8; refine (awake_any B _ HB.out HV.out).mono ?_; rintro e w1 ⟨rfl, hb1⟩))
        go_ret
        exact ⟨rfl, HB0.out.trans (hb1.mono HB0.out.size)⟩
end Go.Proofs.YteanhkdnakmggaaGreatDoor
