/- Walks of layer 6, thirteenth part: Open. -/
import Derived.Test.YteanhkdnakmggaaGreatDoorJ12
namespace Go.Proofs.YteanhkdnakmggaaGreatDoor
open Go.RowKit

def argBad (f size : Int) : Prop := f < 0 ∨ 1000000000000 ≤ f ∨ size < 1 ∨ 1024 < size
theorem openR_arg {st : St} {f size : Int} (h : argBad f size) : openR st f size = (1, st, none) := by unfold argBad at h; rw [openR, if_pos h]
theorem openR_down {st : St} {f size : Int} (h : ¬ argBad f size) (hd : st.down = true) : openR st f size = (3, st, none) := by unfold argBad at h; rw [openR, if_neg h, if_pos hd]
theorem openR_log {st : St} {f size : Int} (h : ¬ argBad f size) (hd : st.down = false) (hl : loadR f.toNat st.fs [] = none) : openR st f size = (60, st, none) := by unfold argBad at h; rw [openR, if_neg h, if_neg (by rw [hd]; simp), hl]
theorem openR_err {st : St} {f size : Int} {L : List Sg} (h : ¬ argBad f size) (hd : st.down = false) (hl : loadR f.toNat st.fs [] = some L) (hs : (settleR st L).1 ≠ 0) : openR st f size = ((settleR st L).1, (settleR st L).2, none) := by
  unfold argBad at h
  rw [openR, if_neg h, if_neg (by rw [hd]; simp), hl]
  simp only
  rw [if_pos hs]
theorem openR_ok {st : St} {f size : Int} {L : List Sg} (h : ¬ argBad f size) (hd : st.down = false) (hl : loadR f.toNat st.fs [] = some L) (hs : (settleR st L).1 = 0) : openR st f size = (0, (settleR st L).2, some { size := size.toNat, frm := f.toNat, safe := nextL f.toNat L, segs := L }) := by
  unfold argBad at h
  rw [openR, if_neg h, if_neg (by rw [hd]; simp), hl]
  simp only
  rw [if_neg (by rw [hs]; simp)]

/-- What Open leaves. -/
def OpenP (B : Nat) (w : World) (X : Nat → Prop) (a : Nat) (r : Int × St × Option Lg) (e : Ending) (w' : World) : Prop :=
  Only X w w' ∧ ((r.2.2 = none ∧ e = .returned (.tuple #[.pointer none, .int .i64 r.1]) ∧ IsDisk w' X a r.2.1) ∨ ∃ l g, r.2.2 = some g ∧ e = .returned (.tuple #[.pointer (some ⟨l, 0, none⟩), .int .i64 r.1]) ∧ IsLog B w' X l a r.2.1 g)
theorem IsLog.toDisk {B : Nat} {w : World} {X : Nat → Prop} {l a : Nat} {st : St} {g : Lg} (h : IsLog B w X l a st g) : IsDisk w X a st := by
  obtain ⟨p, cap, es, _, _, _, _, Z, Y, k1, _, _, k4, _⟩ := h
  exact k1.mono fun k _ hk => k4 k hk

/-- A log that has just been made. -/
theorem logMade {B : Nat} {w : World} {X : Nat → Prop} {a : Nat} {st : St} (hB : B ≤ w.heap.size) (hV : SV B w) (hz : ∀ k, X k → B ≤ k) (hX : ∀ k, w.heap.size ≤ k → X k) (hD : IsDisk w X a st) (g : Lg) (hg : LgW g) (hs : g.segs = []) :
    IsLogE B (w.alloc (.cells (lcells a g (.slice none 0 0)) 91)) X w.heap.size a st g none 0 [] := by
  have hb : Below w.heap.size w (w.alloc (.cells (lcells a g (.slice none 0 0)) 91)) := (Below.refl _ _).alloc (Nat.le_refl _) _
  have hD2 : IsDisk w (fun k => X k ∧ k < w.heap.size) a st := hD.mono fun k hk hx => ⟨hx, hk⟩
  refine ⟨Nat.le_trans hB hb.size, hV.later hB hb, hz, hg, fun k => X k ∧ k < w.heap.size, fun k => k = w.heap.size, hD2.later hb, ⟨?_, rfl, hs, World.ownsRow_nil _ _ _ _, fun b hb => (by cases hb), fun e he => (by cases he), fun e he => (by cases he), List.Pairwise.nil⟩, fun k h1 h2 => by omega, fun k hk => hk.1, fun k hk => hX k (by omega)⟩
  exact heap_alloc_new w _

set_option maxHeartbeats 8000000 in
set_option maxRecDepth 100000 in
theorem open_any (B : Nat) (w : World) (X : Nat → Prop) (a : Nat) (st : St) (hB : B ≤ w.heap.size) (hV : SV B w) (hz : ∀ k, X k → B ≤ k) (hX : ∀ k, w.heap.size ≤ k → X k) (hD : IsDisk w X a st) (hst : st.steps < 4611686018427387000) (f size : Int) :
    Calls Tryz.prog 13 #[.pointer (some ⟨a, 0, none⟩), .int .i64 f, .int .i64 size] w (OpenP B w X a (openR st f size)) := by
  have HB : Hid (B ≤ w.heap.size) := hB
  have HV : Hid (SV B w) := hV
  have HZ : Hid (∀ k, X k → B ≤ k) := hz
  have HX : Hid (∀ k, w.heap.size ≤ k → X k) := hX
  have HD : Hid (IsDisk w X a st) := hD
  clear hB hV hz hX hD
  by_cases h1 : f < 0
  · have HE : Hid (openR st f size = (1, st, none)) := openR_arg (Or.inl h1)
    have g1 : decide (f < 0) = true := decide_eq_true h1
    go_enter Tryz.func13, Tryz.ntmps13
    go_wp2
    refine bodyPost_ret (v := .tuple #[.pointer none, .int .i64 1]) (by simp [results, Tryz.results13, go_sem]) rfl ?_
    rw [HE.out]
    exact ⟨Only.refl _ _, Or.inl ⟨rfl, rfl, HD.out⟩⟩
  have g1 : decide (f < 0) = false := decide_eq_false h1
  by_cases h2 : 1000000000000 ≤ f
  · have HE : Hid (openR st f size = (1, st, none)) := openR_arg (Or.inr (Or.inl h2))
    have g2 : decide (1000000000000 ≤ f) = true := decide_eq_true h2
    clear h1 h2
    go_enter Tryz.func13, Tryz.ntmps13
    go_wp2
    refine bodyPost_ret (v := .tuple #[.pointer none, .int .i64 1]) (by simp [results, Tryz.results13, go_sem]) rfl ?_
    rw [HE.out]
    exact ⟨Only.refl _ _, Or.inl ⟨rfl, rfl, HD.out⟩⟩
  have g2 : decide (1000000000000 ≤ f) = false := decide_eq_false h2
  by_cases h3 : size < 1
  · have HE : Hid (openR st f size = (1, st, none)) := openR_arg (Or.inr (Or.inr (Or.inl h3)))
    have g3 : decide (size < 1) = true := decide_eq_true h3
    clear h1 h2 h3
    go_enter Tryz.func13, Tryz.ntmps13
    go_wp2
    refine bodyPost_ret (v := .tuple #[.pointer none, .int .i64 1]) (by simp [results, Tryz.results13, go_sem]) rfl ?_
    rw [HE.out]
    exact ⟨Only.refl _ _, Or.inl ⟨rfl, rfl, HD.out⟩⟩
  have g3 : decide (size < 1) = false := decide_eq_false h3
  by_cases h4 : 1024 < size
  · have HE : Hid (openR st f size = (1, st, none)) := openR_arg (Or.inr (Or.inr (Or.inr h4)))
    have g4 : decide (1024 < size) = true := decide_eq_true h4
    clear h1 h2 h3 h4
    go_enter Tryz.func13, Tryz.ntmps13
    go_wp2
    refine bodyPost_ret (v := .tuple #[.pointer none, .int .i64 1]) (by simp [results, Tryz.results13, go_sem]) rfl ?_
    rw [HE.out]
    exact ⟨Only.refl _ _, Or.inl ⟨rfl, rfl, HD.out⟩⟩
  have g4 : decide (1024 < size) = false := decide_eq_false h4
  have HBAD : Hid (¬ argBad f size) := fun e => by
    rcases e with e | e | e | e
    · exact h1 e
    · exact h2 e
    · exact h3 e
    · exact h4 e
  obtain ⟨F, rfl⟩ : ∃ F : Nat, f = (F : Int) := ⟨f.toNat, by omega⟩
  obtain ⟨S, rfl⟩ : ∃ S : Nat, size = (S : Int) := ⟨size.toNat, by omega⟩
  have HFS : Hid (F < 1000000000000 ∧ 1 ≤ S ∧ S ≤ 1024) := by
    have : F < 1000000000000 ∧ 1 ≤ S ∧ S ≤ 1024 := by omega
    exact this
  clear h1 h2 h3 h4
  cases hd : st.down with
  | true =>
    have HE : Hid (openR st (F : Int) (S : Int) = (3, st, none)) := openR_down HBAD.out hd
    have HDN : Hid (st.down = true) := hd
    clear hd
    go_enter Tryz.func13, Tryz.ntmps13
    go_wp2_with (first | (go_at_call 17; refine (down_any _ X a st HD.out).mono ?_; rintro e w1 ⟨rfl, hw1⟩; rw [HDN.out]; (have hw1' := hw1.symm); subst hw1'; clear hw1))
    refine bodyPost_ret (v := .tuple #[.pointer none, .int .i64 3]) (by simp [results, Tryz.results13, go_sem]) rfl ?_
    rw [HE.out]
    exact ⟨Only.refl _ _, Or.inl ⟨rfl, rfl, HD.out⟩⟩
  | false =>
    have HDN : Hid (st.down = false) := hd
    clear hd
    obtain ⟨g, hg⟩ : ∃ g : Lg, g = { size := S, frm := F, safe := 0, segs := [] } := ⟨_, rfl⟩
    have HG : Hid (g = { size := S, frm := F, safe := 0, segs := [] }) := hg
    have HM : Hid (IsLogE B (w.alloc (.cells (lcells a g (.slice none 0 0)) 91)) X w.heap.size a st g none 0 []) := logMade HB.out HV.out HZ.out HX.out HD.out g (by
      have := HFS.out
      rw [hg]
      exact ⟨⟨this.2.1, this.2.2⟩, this.1, trivial, by simp, by simp, by simp, by simp⟩) (by rw [hg])
    have HC : Hid (lcells a g (.slice none 0 0) = #[.pointer (some ⟨a, 0, none⟩), .int .i64 (S : Int), .int .i64 (F : Int), .int .i64 0, .slice none 0 0]) := by
      have : lcells a g (.slice none 0 0) = #[.pointer (some ⟨a, 0, none⟩), .int .i64 (S : Int), .int .i64 (F : Int), .int .i64 0, .slice none 0 0] := by rw [hg]; rfl
      exact this
    have HFR : Hid (g.frm = F) := by
      have : g.frm = F := by rw [hg]
      exact this
    clear hg
    go_enter Tryz.func13, Tryz.ntmps13
    go_wp2_with (first | (go_at_call 17; refine (down_any _ X a st HD.out).mono ?_; rintro e w1 ⟨rfl, hw1⟩; rw [HDN.out]; (have hw1' := hw1.symm); subst hw1'; clear hw1))
    obtain ⟨W, hW⟩ : ∃ W, W = w.alloc (.cells #[.pointer (some ⟨a, 0, none⟩), .int .i64 (S : Int), .int .i64 (F : Int), .int .i64 0, .slice none 0 0] 91) := ⟨_, rfl⟩
    have HMW : Hid (IsLogE B W X w.heap.size a st g none 0 []) := by
      have := HM.out
      rw [HC.out, ← hW] at this
      exact this
    have HBW : Hid (Below w.heap.size w W) := by
      rw [hW]
      exact (Below.refl _ _).alloc (Nat.le_refl _) _
    rw [← hW]
    obtain ⟨l, hl⟩ : ∃ l, l = w.heap.size := ⟨_, rfl⟩
    have HLL : Hid (l = w.heap.size) := hl
    rw [← hl] at HMW ⊢
    have zW := HBW.out.size
    clear hW hl
    refine (load_any B _ X l a st g none 0 HMW.out (fun k hk => HX.out k (by omega))).mono ?_
    rintro e w1 ⟨ho1, hcase⟩
    have HO1 : Hid (Only X w w1) := (Only.of HBW.out).trans ho1
    have z1 := ho1.size
    clear ho1
    rcases hcase with ⟨hl, rfl, g', hi1⟩ | ⟨L, hl, rfl, hi1⟩
    all_goals rw [HFR.out] at hl
    · have HE : Hid (openR st (F : Int) (S : Int) = (60, st, none)) := openR_log HBAD.out HDN.out (by rw [Int.toNat_natCast]; exact hl)
      have HI1 : Hid (IsLog B w1 X l a st g') := hi1
      clear hl hi1
      go_wp2
      refine bodyPost_ret (v := .tuple #[.pointer none, .int .i64 60]) (by simp [results, Tryz.results13, go_sem]) rfl ?_
      rw [HE.out]
      exact ⟨HO1.out, Or.inl ⟨rfl, rfl, HI1.out.toDisk⟩⟩
    · have HLD : Hid (loadR F st.fs [] = some L) := hl
      have HI1 : Hid (IsLog B w1 X l a st { g with segs := L }) := hi1
      clear hl hi1
      go_wp2_with fail
      refine (settle_any B _ X l a st { g with segs := L } HI1.out (fun k hk => HX.out k (by omega)) hst).mono ?_
      rintro e w2 ⟨rfl, hi2, ho2⟩
      simp only at hi2 ⊢
      have HO2 : Hid (Only X w w2) := HO1.out.trans ho2
      have z2 := ho2.size
      have HI2 : Hid (IsLog B w2 X l a (settleR st L).2 { g with segs := L }) := hi2
      clear hi2 ho2
      by_cases hs : (settleR st L).1 = 0
      · have HE : Hid (openR st (F : Int) (S : Int) = (0, (settleR st L).2, some { size := S, frm := F, safe := nextL F L, segs := L })) := by
          have := openR_ok (f := (F : Int)) (size := (S : Int)) HBAD.out HDN.out (by rw [Int.toNat_natCast]; exact HLD.out) hs
          rw [Int.toNat_natCast, Int.toNat_natCast] at this
          exact this
        rw [hs]
        clear hs
        obtain ⟨p2, cap2, es2, hE2⟩ := HI2.out
        obtain ⟨Y3, hL3, hY3, _, hcl⟩ := hE2.own (fun k hk => HX.out k (by omega))
        have HL3 : Hid (LogAt w2 Y3 l a { g with segs := L } p2 cap2 es2) := hL3
        have HW3 : Hid (LgW { g with segs := L }) := hE2.ok
        have HCL : Hid (∀ w1 g' p' cap' es', LogAt w1 Y3 l a g' p' cap' es' → LgW g' → Only Y3 w2 w1 → IsLogE B w1 X l a (settleR st L).2 g' p' cap' es' ∧ Only X w2 w1) := hcl
        clear hE2 hL3 hY3 hcl
        go_wp2_with (first | (go_at_call 20; refine (next_any _ Y3 l a _ p2 cap2 es2 HL3.out HW3.out).mono ?_; rintro e w3 ⟨rfl, hb3⟩; (have s3 := (HL3.out.later hb3).lc.c3); (have sf := (HL3.out.later hb3).lc.fz)))
        refine bodyPost_ret (v := .tuple #[.pointer (some ⟨l, 0, none⟩), .int .i64 0]) (by simp [results, Tryz.results13, go_sem]) rfl ?_
        have hnx : Lg.next { g with segs := L } = nextL F L := by unfold Lg.next; rw [HFR.out]
        have hlw := (HL3.out.later hb3).stored (i := 3) (v := .int .i64 ((Lg.next { g with segs := L } : Nat) : Int)) (g' := { { g with segs := L } with safe := Lg.next { g with segs := L } }) (by simp [lcells]) rfl
        obtain ⟨r1, r2⟩ := HCL.out _ _ _ _ _ hlw (HW3.out.synced _) ((Only.of hb3).setCell (p := ⟨l, 3, none⟩) HL3.out.zl _)
        rw [HE.out]
        refine ⟨HO2.out.trans r2, Or.inr ⟨l, _, rfl, rfl, ?_⟩⟩
        have eg : { { g with segs := L } with safe := Lg.next { g with segs := L } } = ({ size := S, frm := F, safe := nextL F L, segs := L } : Lg) := by rw [hnx, HG.out]
        rw [eg] at r1
        exact r1.is
      · have HE : Hid (openR st (F : Int) (S : Int) = ((settleR st L).1, (settleR st L).2, none)) := openR_err HBAD.out HDN.out (by rw [Int.toNat_natCast]; exact HLD.out) hs
        go_wp2
        refine bodyPost_ret (v := .tuple #[.pointer none, .int .i64 (settleR st L).1]) (by simp [results, Tryz.results13, go_sem]) rfl ?_
        rw [HE.out]
        exact ⟨HO2.out, Or.inl ⟨rfl, rfl, HI2.out.toDisk⟩⟩
end Go.Proofs.YteanhkdnakmggaaGreatDoor
