/- Walks of layer 19: plays: Ask. -/
import Derived.Test.YtefdhmdkcpgfcaaI15
namespace Go.Proofs.Ytefdhmdkcpgfcaa
open Go.RowKit
theorem row_copied {w : World} {g : Nat} {l : List Lk} (hin : ∀ j, j < (l.flatMap lkC).length → (w.cell? ⟨g, 0 + j, none⟩).isSome = true) : RowR 4 LkR (w.setCells g 0 (l.flatMap lkC)) (some ⟨g, 0, none⟩) l := by
  intro i hi
  refine ⟨g, 0, lkC l[i], rfl, rfl, rfl, fun j hj => ?_⟩
  have hj4 : j < 4 := hj
  have hlt : i * 4 + j < (l.flatMap lkC).length := by rw [lenK]; omega
  have h1 := flat_at (n := 4) (l.map fun x => (x, lkC x)) i j (by simpa using hi) (fun p hp => by obtain ⟨x, _, rfl⟩ := List.mem_map.1 hp; rfl) hj4
  rw [flatf_pairs, List.getElem_map, List.getElem?_eq_getElem hlt] at h1
  have h2 := World.cell?_setCells_in g (l.flatMap lkC) 0 w hin (i * 4 + j) hlt
  rw [Nat.zero_add] at h2 ⊢
  rw [h2, h1]
  exact List.getElem?_eq_getElem hj
/-- A copy that somebody reads, in a row that is longer. -/
def cpR (g : Nat) (l : List Lk) (m : Nat) : Rs := ⟨fun k => k = g, fun w => RowR 4 LkR w (some ⟨g, 0, none⟩) l ∧ ∃ cur, w.heap[g]? = some (.cells cur 23 (0, 0)) ∧ cur.size = m * 4⟩
theorem cpR_ok (g : Nat) (l : List Lk) (m : Nat) : (cpR g l m).ok := fun w w' ⟨h1, cur, h2, h3⟩ ho => by
  have hb : w'.heap[g]? = w.heap[g]? := ho.block g (Array.getElem?_eq_some_iff.1 h2).1 fun q => q rfl
  refine ⟨fun i hi => ?_, cur, hb.trans h2, h3⟩
  obtain ⟨b, off, vs, e, hR, hn, hc⟩ := h1 i hi
  simp only [Option.some.injEq, Addr.mk.injEq, and_true] at e
  obtain ⟨rfl, rfl⟩ := e
  exact ⟨g, 0, vs, rfl, hR, hn, fun j hj => (World.cell?_of_block (a := ⟨g, _, none⟩) hb).trans (hc j hj)⟩
section
variable {w0 w w' : World} {K : List Rs} {I : World → Prop}
theorem Fm.cpOv {g m : Nat} {l : List Lk} (h : Fm w0 (cpR g l m :: K) I w) : Fm w0 (ovR 4 23 (.slice (some ⟨g, 0, none⟩) m m) m :: K) I w := by
  obtain ⟨_, cur, h2, h3⟩ : (cpR g l m).H w := h.at 0 rfl
  have := h.turn 0 (r' := ovR 4 23 (.slice (some ⟨g, 0, none⟩) m m) m) rfl (Only.refl _ _) (ovR_ok _ _ _ _) (Or.inr ⟨g, m, cur, rfl, Nat.le_refl _, h2, h3⟩) fun k hk => Or.inl (by cases hk; rfl)
  simpa using this
/-- Made, and copied into. -/
theorem Fm.made {l : List Lk} {m : Nat} (h : Fm w0 K I w) (hlm : l.length ≤ m) {zs : List Value} (ho : w'.ownsRow w.heap.size 23 4 (.slice (some ⟨w.heap.size, 0, none⟩) m m) m zs) (hg : w.grownBy w' none) : Fm w0 (cpR w.heap.size l m :: K) I (w'.setCells w.heap.size 0 (l.flatMap lkC)) := by
  have hin : ∀ j, j < (l.flatMap lkC).length → (w'.cell? ⟨w.heap.size, 0 + j, none⟩).isSome = true := fun j hj => (row_room ho).1 j (by rw [lenK] at hj; omega)
  have hlt : w.heap.size < w'.heap.size := (ho.lt _ rfl).2
  have ho2 := ho
  obtain ⟨_, ⟨e, _⟩ | ⟨g', cap', cur, e, _, h2, _, _, h3, _⟩⟩ := ho2
  · cases e
  · simp only [Value.slice.injEq, Option.some.injEq, Addr.mk.injEq, and_true, true_and] at e
    obtain ⟨e1, e2⟩ := e
    subst e1 e2
    obtain ⟨cur', h4, h5⟩ := setCells_row w.heap.size (l.flatMap lkC) 0 w' h2
    have hb : Below w.heap.size w w' := (Below.refl _ _).grown hg (Nat.le_refl _) (fun k h => by cases h)
    have hs := (setCells_grown w.heap.size (l.flatMap lkC) 0 w').size
    refine h.push (hb.grown (setCells_grown w.heap.size (l.flatMap lkC) 0 w') hg.size fun k hk => by cases hk; exact Nat.le_refl _) (cpR_ok _ _ _) ⟨row_copied hin, cur', h4, by rw [h5, h3]⟩ fun k hk => ?_
    obtain rfl : k = w.heap.size := hk
    omega
end

set_option maxHeartbeats 16000000 in
set_option maxRecDepth 100000 in
theorem plays_ask {PT : Tm9} (hL : LocksIs PT) (W P : Int) (l : List Lk) (T : Tb9) (Bp Bd t r : Nat) (Zp Zd : Nat → Prop) (p : Option Addr) (cap : Nat) (w0 w : World) (h : Fm w0 [ptR PT Bp Zp t T, dtR Bd Zd r T] (fun _ => True) w) (hr : RowR 4 LkR w0 p l) (hs : Sz9 T) (hsl : Sl9 l) (hn : T.ps.length < 2147483647) (hp : -9223372036854775808 ≤ P ∧ P ≤ 9223372036854775807) (hw : W = 1) : Calls Try.prog 15 #[.pointer (some ⟨t, 0, none⟩), .pointer (some ⟨r, 0, none⟩), .agg #[.int .i64 W, .int .i64 P, .slice p l.length cap]] w (Pl19 PT Bp Bd t r w0 (step9 T ⟨W, P, l⟩)) := by
  have H := Lib.hid hL
  have HR := Lib.hid hr
  have HS := Lib.hid hs
  have HSL := Lib.hid hsl
  have HN := Lib.hid hn
  have HP := Lib.hid hp
  have h0 := h.box (.cells #[.int .i64 W, .int .i64 P, .slice p l.length cap] 36)
  obtain ⟨g0, hg0⟩ : ∃ g0, w.heap.size = g0 := ⟨_, rfl⟩
  rw [hg0] at h0
  obtain ⟨W1, hW1⟩ : ∃ W1, w.alloc (.cells #[.int .i64 W, .int .i64 P, .slice p l.length cap] 36) = W1 := ⟨_, rfl⟩
  rw [hW1] at h0
  have F0 := Lib.hid h0
  have hw1 := Lib.hid hW1
  have hgg := Lib.hid hg0
  clear hL hr hs hsl hn hp h h0 hW1 hg0
  subst hw
  obtain ⟨i1, hi1, hy0, hy1, hy2⟩ := info_parts Try.infoLk
  have hll := HSL.out.len
  go_enter Try.func15, Try.ntmps15
  have z := three_of (F0.out.at 0 rfl)
  have HZ := Lib.hid z
  go_wp2_with (first
    | (at_make; rw [hw1.out, hgg.out]; refine wpList_make_full _ rfl _ _ 34 rfl W1.heap.size 23 i1 _ 4 Try.underlying34 hi1 hy0 hy1 .i64 .i64 _ _ (l.length + 1) rfl rfl (by omega) (by omega) (by rw [hy2]; omega) (by unfold maxLen; omega) (by omega) ?_; intro w2 hown hgrow; (have HO1 := Lib.hid hown); (have HG1 := Lib.hid hgrow); (have HB1 : Hid (Below W1.heap.size W1 w2) := Lib.hid ((Below.refl _ _).grown hgrow (Nat.le_refl _) (fun k h => by cases h))); (have f2 := cell_later HB1.out HZ.out.1.2.2); clear hown hgrow)
    | (refine wpList_copy_wide rfl (.tmp 39) (.tmp 41) 34 34 rfl 23 4 Try.underlying34 (by rw [hi1]; simp [hy1]) W1.heap.size 0 (l.length + 1) (l.length + 1) p l.length cap rfl rfl (l.flatMap lkC) (Nat.le_succ _) (lenK l) (rowK_cells (HR.out.later (F0.out.bel.trans (HB1.out.mono F0.out.bel.size)) fun _ _ h => h)) (fun j hj => (row_room HO1.out).1 j (by rw [lenK] at hj; omega)) (fun j _ => (row_room HO1.out).2 _) (one_of lkC_one l) ?_; intro w3 hw3; (have F1 := Lib.hid (F0.out.made (l := l) (Nat.le_succ _) HO1.out HG1.out)); rw [← hw3] at F1; (have z1 := three_of (F1.out.at 1 rfl)); clear hw3))
  have e1 := z1.1.2.1
  have e2 := z1.1.2.2
  clear z1 f2 z
  have hb0 : (0 : Int) ≤ (l.length : Int) := by omega
  have hb1 : (l.length : Int) ≤ (l.length : Int) + 1 := by omega
  have hb2 : (l.length : Int) ≤ ((l.length + 1 : Nat) : Int) := by omega
  go_region_held3 (fun w' => w'.cell? ⟨g0, 1, none⟩ = some (.int .i64 P) ∧ w'.cell? ⟨g0, 2, none⟩ = some (.slice p l.length cap)) (go_simp) (first | (go_at_call 26; (have F2 := Lib.hid (F1.out.call (Below.refl _ _).drew)); refine (H.out.ask T t _ _ P _ (l.length + 1) l _ (F2.out.at 2 rfl) HS.out HN.out HP.out.1 HP.out.2 (show RowR 4 LkR _ _ _ from (F2.out.at 0 rfl).1) HSL.out).mono ?_; rintro e wv ⟨rfl, hq⟩; obtain ⟨Zp1, hF⟩ := F2.out.turnP H.out 2 rfl hq; clear hq; (have F3 := Lib.hid hF); clear hF; (have z3 := three_of (F3.out.at 1 rfl)); (have e3 := z3.1.2.1); (have e4 := z3.1.2.2); clear z3))
  clear hb0 hb1 hb2 e1 e2 e3 e4
  rename_i hHeld
  clear hHeld
  have z := three_of (F3.out.at 1 rfl)
  go_wp2_with fail
  clear z
  refine (rask_any T r _ _ P p cap l _ (F3.out.at 3 rfl) (by have := HN.out; omega) (HR.out.later F3.out.bel fun _ _ h => h) (by omega)).mono ?_
  rintro e w6 ⟨rfl, hq⟩
  obtain ⟨Zd1, hF⟩ := F3.out.turnD 3 rfl hq
  clear hq
  have F4 := Lib.hid hF
  clear hF
  have z := three_of (F4.out.at 1 rfl)
  have e1 := z.1.2.1
  have e2 := z.1.2.2
  clear z
  have hb0 : (0 : Int) ≤ (l.length : Int) := by omega
  have hb1 : (l.length : Int) ≤ (l.length : Int) + 1 := by omega
  have hb2 : (l.length : Int) ≤ ((l.length + 1 : Nat) : Int) := by omega
  go_wp2_with fail
  go_region_held3 (fun w' => w'.cell? ⟨g0, 1, none⟩ = some (.int .i64 P) ∧ w'.cell? ⟨g0, 2, none⟩ = some (.slice p l.length cap)) (go_simp) (first | (go_at_call 32; (have F5 := Lib.hid (F4.out.call (Below.refl _ _).drew)); refine (same19_same _ p (l.length + 1) cap l _ (show RowR 4 LkR _ _ _ from (F5.out.at 0 rfl).1) (HR.out.later F5.out.bel fun _ _ h => h) (by omega)).mono ?_; rintro e wv2 ⟨rfl, hq⟩; (have F6 := Lib.hid (F5.out.call (quiet_below hq))); clear hq; (have z3 := three_of (F6.out.at 1 rfl)); (have e3 := z3.1.2.1); (have e4 := z3.1.2.2); clear z3))
  clear hb0 hb1 hb2 e1 e2 e3 e4
  rename_i hHeld
  clear hHeld
  have F7 := Lib.hid (Fm.cpOv (K := [bx g0 _, ptR PT Bp Zp1 t (askT T P l), dtR Bd Zd1 r (askT T P l)]) F6.out)
  go_wp2_with fail
  go_loopw [11] (fun i wr => ∃ k : Nat, k ≤ l.length + 1 ∧ i = .int .i64 k ∧ Fm w0 [ovR 4 23 (.slice (some ⟨W1.heap.size, 0, none⟩) (l.length + 1) (l.length + 1)) (l.length + 1), bx g0 (.cells #[.int .i64 1, .int .i64 P, .slice p l.length cap] 36), ptR PT Bp Zp1 t (askT T P l), dtR Bd Zd1 r (askT T P l)] (fun _ => True) wr) (fun i _ => l.length + 1 - (intOf i).toNat)
  case atStart => exact ⟨0, Nat.zero_le _, rfl, F7.out⟩
  case round =>
    obtain ⟨k, hk, rfl, hF⟩ := hrel
    have HF := Lib.hid hF
    clear hF
    by_cases hlt : k < l.length + 1
    · have hlti : (k : Int) < (l.length : Int) + 1 := by omega
      obtain ⟨g, hg, hc, hw9⟩ := HF.out.ovAt hlt
      obtain rfl : W1.heap.size = g := by simpa using hg
      have HW := Lib.hid hw9
      clear hw9 hg
      have q0 := hc 0 (by decide)
      have q1 := hc 1 (by decide)
      have q2 := hc 2 (by decide)
      have q3 := hc 3 (by decide)
      simp only [Nat.add_zero, Nat.zero_add] at q0 q1 q2 q3
      clear hc
      obtain ⟨⟨u0, a0⟩, z0⟩ : (∃ u, _ = some u) ∧ _ := ⟨Option.isSome_iff_exists.1 q0.1, q0.2⟩
      clear q0
      obtain ⟨⟨u1, a1⟩, z1⟩ : (∃ u, _ = some u) ∧ _ := ⟨Option.isSome_iff_exists.1 q1.1, q1.2⟩
      clear q1
      obtain ⟨⟨u2, a2⟩, z2⟩ : (∃ u, _ = some u) ∧ _ := ⟨Option.isSome_iff_exists.1 q2.1, q2.2⟩
      clear q2
      obtain ⟨⟨u3, a3⟩, z3⟩ : (∃ u, _ = some u) ∧ _ := ⟨Option.isSome_iff_exists.1 q3.1, q3.2⟩
      clear q3
      go_wp2
      go_roundw
      case rel => exact ⟨k + 1, by omega, by go_num, HW.out _ [.int .i64 3, .string ⟨#[]⟩, .string ⟨#[]⟩, .bool true]⟩
      case measure => simp [intOf]; omega
    · have hlti : ¬ (k : Int) < (l.length : Int) + 1 := by omega
      go_wp2
      go_ret
      exact ⟨ret_bool (by simp), Zp1, Zd1, HF.out.drop.drop⟩
end Go.Proofs.Ytefdhmdkcpgfcaa
