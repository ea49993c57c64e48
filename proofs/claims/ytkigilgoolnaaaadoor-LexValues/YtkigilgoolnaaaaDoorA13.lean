/- Walks of layer 10: LexValues. -/
import Derived.Test.YtkigilgoolnaaaaDoorA12
import Derived.Test.YtkigilgoolnaaaaDoorM117
namespace Go.Proofs.YtkigilgoolnaaaaDoor
open Go.RowKit

theorem prV_ok {v : V3} (h : V3.right v = true) : prV v = .tuple #[.string (ofL (lit v)), .int .i64 0] := by
  unfold prV
  rw [prR_ok h]
  rfl

set_option maxHeartbeats 16000000 in
set_option maxRecDepth 100000 in
theorem lexValues_law (k n : Int) (t : ByteArray) (w : World) (hv : SV w) : Calls Tryd.prog 8 #[.agg #[.int .i64 k, .int .i64 n, .string t]] w fun e w' => e = .returned (.bool true) ∧ Below w.heap.size w w' := by
  have HSV := Lib.hid hv
  clear hv
  obtain ⟨W0, hW0⟩ : ∃ W0, w.alloc (.cells #[.int .i64 k, .int .i64 n, .string t] 37) = W0 := ⟨_, rfl⟩
  have HB0 : Hid (Below w.heap.size w W0) := by show Below w.heap.size w W0; rw [← hW0]; exact (Below.refl _ _).alloc (Nat.le_refl _) _
  have HC0 : Hid (W0.heap[w.heap.size]? = some (.cells #[.int .i64 k, .int .i64 n, .string t] 37 (0, 0)) ∧ w.heap.size < W0.heap.size) := by
    rw [← hW0]
    exact ⟨heap_alloc_new w _, by simp⟩
  have HCC : Hid (∀ W, Below W0.heap.size W0 W → W.cell? ⟨w.heap.size, 0, none⟩ = some (.int .i64 k) ∧ W.cell? ⟨w.heap.size, 1, none⟩ = some (.int .i64 n) ∧ W.cell? ⟨w.heap.size, 2, none⟩ = some (.string t)) := by
    intro W hW
    have hh := (hW.block _ HC0.out.2).trans HC0.out.1
    exact ⟨by simp [World.cell?, hh], by simp [World.cell?, hh], by simp [World.cell?, hh]⟩
  go_enter Tryd.func8, Tryd.ntmps8
  go_wp2_with fail
  refine (awake_any _ (HSV.out.later HB0.out)).mono ?_
  rintro e w1 ⟨rfl, hb1⟩
  have HB1 := Lib.hid hb1
  obtain ⟨x0, x1, x2⟩ := HCC.out _ hb1
  clear hb1
  go_wp2_with fail
  refine (rright_any k n t _).mono ?_
  rintro e w2 ⟨rfl, hb2⟩
  have HB2 : Hid (Below W0.heap.size W0 w2) := HB1.out.trans (hb2.mono HB1.out.size)
  clear hb2 x0 x1 x2
  obtain ⟨x0, x1, x2⟩ := HCC.out _ HB2.out
  go_wp2_with fail
  refine (print_any (k, n, t) _ ((HSV.out.later HB0.out).later HB2.out)).mono ?_
  rintro e w3 ⟨rfl, hb3⟩
  have HB3 : Hid (Below W0.heap.size W0 w3) := HB2.out.trans (hb3.mono HB2.out.size)
  clear hb3 x0 x1 x2
  obtain ⟨x0, x1, x2⟩ := HCC.out _ HB3.out
  have HBW : Hid (∀ W, Below W0.heap.size W0 W → Below w.heap.size w W) := fun W h => HB0.out.trans (h.mono HB0.out.size)
  cases hr : V3.right (k, n, t) with
  | false =>
    have hrg : rgt k n t = false := hr
    obtain ⟨u, z, hpv⟩ : ∃ (u : ByteArray) (z : Int), prV (k, n, t) = .tuple #[.string u, .int .i64 z] := ⟨_, _, rfl⟩
    rw [hpv, hrg]
    clear hr hrg hpv hW0
    go_wp2
    exact bodyPost_ret (v := .bool true) (by simp [results, Tryd.results8, go_sem]) rfl ⟨rfl, HBW.out _ HB3.out⟩
  | true =>
    have hrg : rgt k n t = true := hr
    rw [prV_ok hr, hrg]
    have HR := Lib.hid hr
    clear hr hrg
    by_cases k3 : k = 3
    · subst k3
      obtain ⟨ht, hl⟩ := toks_text HR.out rfl
      have hsz : (ofL (lit (3, n, t))).size ≤ 1000 := by rw [← list_size, list_ofL]; exact hl
      obtain ⟨m, hm⟩ : ∃ m, (lit (3, n, t)).length = m := ⟨_, rfl⟩
      rw [hm] at ht
      rw [← list_ofL (lit (3, n, t))] at ht
      have HT := Lib.hid ht
      clear ht hl hm
      go_wp2_with fail
      refine (scan_any _ _ ((HSV.out.later HB0.out).later HB3.out)).mono ?_
      rintro e w4 ⟨pa, ca, l, p, c, rfl, hsc, hown, hlen, hb4⟩
      obtain ⟨rfl, rfl, rfl⟩ := scan_toks hsc hsz HT.out
      have HB4 : Hid (Below W0.heap.size W0 w4) := HB3.out.trans (hb4.mono HB3.out.size)
      obtain ⟨b, off, rfl, a0, a1, a2, a3⟩ := TR.of_own hown 0 (by simp)
      simp only [List.getElem_cons_zero, Nat.zero_mul, Nat.add_zero] at a0 a1 a2 a3
      clear hb4 hown hsc hlen x0 x1 x2 hW0
      obtain ⟨x0, x1, x2⟩ := HCC.out _ HB4.out
      go_wp2
      go_quiet (fail)
      go_wp2
      exact bodyPost_ret (v := .bool true) (by simp [results, Tryd.results8, go_sem]) rfl ⟨rfl, HBW.out _ (by have h0 := HB4.out; (repeat (first | exact Below.refl _ _ | assumption | refine Below.drew ?_ | refine below_drewN ?_ _ | refine Below.alloc ?_ (by first | omega | (simp; done) | (simp; omega)) _ | refine Below.setCell ?_ (by first | omega | (simp; done) | (simp; omega)) _ | refine Below.trans ?_ (Below.mono (by assumption) (by first | omega | (simp; done) | (simp; omega))))))⟩
    · have k3i : (k != 3) = true := by simpa using k3
      by_cases k1 : k = 1
      · subst k1
        by_cases hn : n < 0
        · clear hW0
          go_wp2
          exact bodyPost_ret (v := .bool true) (by simp [results, Tryd.results8, go_sem]) rfl ⟨rfl, HBW.out _ HB3.out⟩
        · obtain ⟨ht, hl⟩ := toks_num HR.out rfl (show 0 ≤ n by omega)
          have hsz : (ofL (lit (1, n, t))).size ≤ 1000 := by rw [← list_size, list_ofL]; exact hl
          obtain ⟨m, hm⟩ : ∃ m, (lit (1, n, t)).length = m := ⟨_, rfl⟩
          rw [hm] at ht
          rw [← list_ofL (lit (1, n, t))] at ht
          have HT := Lib.hid ht
          clear ht hl hm
          go_wp2_with fail
          refine (scan_any _ _ ((HSV.out.later HB0.out).later HB3.out)).mono ?_
          rintro e w4 ⟨pa, ca, l, p, c, rfl, hsc, hown, hlen, hb4⟩
          obtain ⟨rfl, rfl, rfl⟩ := scan_toks hsc hsz HT.out
          have HB4 : Hid (Below W0.heap.size W0 w4) := HB3.out.trans (hb4.mono HB3.out.size)
          obtain ⟨b, off, rfl, a0, a1, a2, a3⟩ := TR.of_own hown 0 (by simp)
          simp only [List.getElem_cons_zero, Nat.zero_mul, Nat.add_zero] at a0 a1 a2 a3
          clear hb4 hown hsc hlen x0 x1 x2 hW0
          obtain ⟨x0, x1, x2⟩ := HCC.out _ HB4.out
          go_wp2
          go_quiet (fail)
          go_wp2
          exact bodyPost_ret (v := .bool true) (by simp [results, Tryd.results8, go_sem]) rfl ⟨rfl, HBW.out _ (by have h0 := HB4.out; (repeat (first | exact Below.refl _ _ | assumption | refine Below.drew ?_ | refine below_drewN ?_ _ | refine Below.alloc ?_ (by first | omega | (simp; done) | (simp; omega)) _ | refine Below.setCell ?_ (by first | omega | (simp; done) | (simp; omega)) _ | refine Below.trans ?_ (Below.mono (by assumption) (by first | omega | (simp; done) | (simp; omega))))))⟩
      · have k1i : (k != 1) = true := by simpa using k1
        clear hW0 k1 k3
        go_wp2
        exact bodyPost_ret (v := .bool true) (by simp [results, Tryd.results8, go_sem]) rfl ⟨rfl, HBW.out _ HB3.out⟩
end Go.Proofs.YtkigilgoolnaaaaDoor
