/- Walks of layer 19: the law's apart, first. -/
import Derived.Test.YtefdhmdkcpgfcaaI20
import Derived.Test.YtefdhmdkcpgfcaaM194
namespace Go.Proofs.Ytefdhmdkcpgfcaa
open Go.RowKit
theorem int_at {w : World} {a : Option Addr} {l : List Int} (h : RowR 1 IntR w a l) {i : Nat} (hi : i < l.length) : ∃ b off, a = some ⟨b, off, none⟩ ∧ w.cell? ⟨b, off + i, none⟩ = some (.int .i64 l[i]) := by
  obtain ⟨b, off, v, e, hR, hc⟩ := h.at1 hi
  simp only [IntR, List.cons.injEq, and_true] at hR
  subst hR
  exact ⟨b, off, e, hc⟩
/-- Two of a row. -/
theorem int_at2 {w : World} {a : Option Addr} {l : List Int} (h : RowR 1 IntR w a l) {i j : Nat} (hi : i < l.length) (hj : j < l.length) : ∃ b off, a = some ⟨b, off, none⟩ ∧ w.cell? ⟨b, off + i, none⟩ = some (.int .i64 l[i]) ∧ w.cell? ⟨b, off + j, none⟩ = some (.int .i64 l[j]) := by
  obtain ⟨b, off, e, c⟩ := int_at h hi
  obtain ⟨b2, off2, e2, c2⟩ := int_at h hj
  rw [e] at e2
  simp only [Option.some.injEq, Addr.mk.injEq, and_true] at e2
  obtain ⟨rfl, rfl⟩ := e2
  exact ⟨b, off, e, c, c2⟩
theorem slx_at2 {w : World} {a : Option Addr} {l : List (List Lk)} (h : RowR 1 (SlX w) w a l) {i j : Nat} (hi : i < l.length) (hj : j < l.length) : ∃ b off p cap p' cap', a = some ⟨b, off, none⟩ ∧ w.cell? ⟨b, off + i, none⟩ = some (.slice p l[i].length cap) ∧ RowR 4 LkR w p l[i] ∧ w.cell? ⟨b, off + j, none⟩ = some (.slice p' l[j].length cap') ∧ RowR 4 LkR w p' l[j] := by
  obtain ⟨b, off, p, cap, e, c, r⟩ := slx_at h hi
  obtain ⟨b2, off2, p', cap', e2, c2, r2⟩ := slx_at h hj
  rw [e] at e2
  simp only [Option.some.injEq, Addr.mk.injEq, and_true] at e2
  obtain ⟨rfl, rfl⟩ := e2
  exact ⟨b, off, p, cap, p', cap', e, c, r, c2, r2⟩

set_option maxHeartbeats 8000000 in
set_option maxRecDepth 100000 in
theorem apart19_any (p q : Option Addr) (c d : Nat) (l : List Int) (L : List (List Lk)) (w : World) (hp : RowR 1 IntR w p l) (hq : RowR 1 (SlX w) w q L) (hl : l.length ≤ 1099511627776) (hL : ∀ x ∈ L, x.length ≤ 1099511627776)
    (hin : ∀ n ∈ l, ∃ j, j < L.length ∧ n = (j : Int)) (hpw : l.Pairwise fun b a => ∃ j k, ∃ hj : j < L.length, ∃ hk : k < L.length, b = (j : Int) ∧ a = (k : Int) ∧ anyM L[k] L[j] = false) :
    Calls Try.prog 23 #[.slice p l.length c, .slice q L.length d] w fun e w' => e = .returned (.bool true) ∧ Below w.heap.size w w' := by
  have HP := Lib.hid hp
  have HQ := Lib.hid hq
  have HL := Lib.hid hL
  have HI := Lib.hid hin
  have HW := Lib.hid (List.pairwise_iff_getElem.1 hpw)
  clear hp hq hL hin hpw
  go_enter Try.func23, Try.ntmps23
  go_wp2
  go_loopw [5, 6, 7] (fun i _ _ wr => ∃ n : Nat, n ≤ l.length ∧ i = .int .i64 n ∧ Below w.heap.size w wr) (fun i _ _ _ => l.length - (intOf i).toNat)
  case atStart => exact ⟨0, Nat.zero_le _, rfl, Below.refl _ _⟩
  case round =>
    obtain ⟨n, hn, rfl, hb⟩ := hrel
    have HB := Lib.hid hb
    by_cases hlt : n < l.length
    · have hlti : (n : Int) < (l.length : Int) := by omega
      obtain ⟨k0, hk0, ek0⟩ := HI.out _ (List.getElem_mem hlt)
      obtain ⟨b0, o0, rfl, a0⟩ := int_at HP.out hlt
      rw [ek0] at a0
      have A0 := Lib.hid a0
      have e0 := cell_later hb a0
      have h1 : ¬ (k0 : Int) < 0 := by omega
      have h2 : ¬ (k0 : Int) ≥ (L.length : Int) := by omega
      clear a0 hb
      go_wp2
      go_loopw [6, 7] (fun i' _ wr => ∃ m : Nat, m ≤ n ∧ i' = .int .i64 m ∧ Below w.heap.size w wr) (fun i' _ _ => n - (intOf i').toNat)
      case atStart => exact ⟨0, Nat.zero_le _, rfl, HB.out⟩
      case round =>
        obtain ⟨m, hm, rfl, hb⟩ := hrel
        have HB2 := Lib.hid hb
        by_cases hmn : m < n
        · have hmni : (m : Int) < (n : Int) := by omega
          have hml : m < l.length := by omega
          have hmli : (m : Int) < (l.length : Int) := by omega
          obtain ⟨j, k, hj, hk, ej, ek, hM⟩ := HW.out m n hml hlt hmn
          have HM := Lib.hid hM
          obtain rfl : k = k0 := by omega
          obtain ⟨b2, o2, e, _, c2⟩ := int_at2 HP.out hlt hml
          simp only [Option.some.injEq, Addr.mk.injEq, and_true] at e
          obtain ⟨rfl, rfl⟩ := e
          rw [ej] at c2
          obtain ⟨b1, o1, p1, c1, p2, c3, rfl, d0, r0, d1, r1⟩ := slx_at2 HQ.out hk hj
          have HR0 := Lib.hid r0
          have HR1 := Lib.hid r1
          have HY0 := Lib.hid (HL.out _ (List.getElem_mem hk))
          have HY1 := Lib.hid (HL.out _ (List.getElem_mem hj))
          generalize L[k] = y0 at d0 HR0 HM HY0
          generalize L[j] = y1 at d1 HR1 HM HY1
          have f0 := cell_later hb A0.out
          have f1 := cell_later hb c2
          have f2 := cell_later hb d0
          have f3 := cell_later hb d1
          have g0 : (0 : Int) ≤ (k : Int) := by omega
          have g1 : (0 : Int) ≤ (j : Int) := by omega
          have g2 : (k : Int) < (L.length : Int) := by omega
          have g3 : (j : Int) < (L.length : Int) := by omega
          clear r0 r1 d0 d1 c2 hb ej ek hM
          go_wp2_with fail
          go_region_held3 (fun w' => w'.cell? ⟨b0, o0 + n, none⟩ = some (.int .i64 k) ∧ w'.cell? ⟨b0, o0 + m, none⟩ = some (.int .i64 j) ∧ w'.cell? ⟨b1, o1 + k, none⟩ = some (.slice p1 y0.length c1) ∧ w'.cell? ⟨b1, o1 + j, none⟩ = some (.slice p2 y1.length c3)) (go_simp) (first | (go_at_call 28; (have hb9 : Below w.heap.size w wr.drew := HB2.out.drew); refine (rmeetAny_any p1 p2 c1 c3 y0 y1 _ (HR0.out.later hb9 fun _ _ h => h) (HR1.out.later hb9 fun _ _ h => h) HY0.out HY1.out).mono ?_; rw [HM.out]; rintro e wv ⟨rfl, hq9⟩; (have hd : Below wr.heap.size wr wr.drew := (Below.refl _ _).drew); (have hbb := hd.trans (hq9.mono hd.size)); (have HB3 := Lib.hid (HB2.out.trans (hbb.mono HB2.out.size))); (have s0 := cell_later hbb f0); (have s1 := cell_later hbb f1); (have s2 := cell_later hbb f2); (have s3 := cell_later hbb f3); clear hb9 hd hbb hq9))
          rename_i hHeld
          clear hHeld s0 s1 s2 s3
          go_wp2
          go_roundw
          case rel => exact ⟨m + 1, by omega, by go_num, HB3.out⟩
          case measure => simp [intOf]; omega
        · have hmni : ¬ (m : Int) < (n : Int) := by omega
          go_wp2
          go_roundw
          case rel => exact ⟨n + 1, by omega, by go_num, HB2.out⟩
          case measure => simp [intOf]; omega
    · have hlti : ¬ (n : Int) < (l.length : Int) := by omega
      go_wp2
      go_ret
      exact ⟨rfl, HB.out⟩

set_option maxHeartbeats 8000000 in
set_option maxRecDepth 100000 in
theorem first19_any (p q : Option Addr) (c d : Nat) (l : List Int) (L : List (List Lk)) (k : Nat) (w : World) (hp : RowR 1 IntR w p l) (hq : RowR 1 (SlX w) w q L) (hl : l.length ≤ 1099511627776) (hL : ∀ x ∈ L, x.length ≤ 1099511627776) (hk : k < L.length)
    (hin : ∀ n ∈ l, ∃ j, j < L.length ∧ n = (j : Int)) (hap : ∀ j (h : j < L.length), (j : Int) ∈ l → j < k → anyM L[j] L[k] = false) :
    Calls Try.prog 24 #[.int .i64 k, .slice p l.length c, .slice q L.length d] w fun e w' => e = .returned (.bool true) ∧ Below w.heap.size w w' := by
  have HP := Lib.hid hp
  have HQ := Lib.hid hq
  have HL := Lib.hid hL
  have HI := Lib.hid hin
  have HA := Lib.hid hap
  clear hp hq hL hin hap
  go_enter Try.func24, Try.ntmps24
  go_wp2
  go_loopw [7, 8] (fun i _ wr => ∃ n : Nat, n ≤ l.length ∧ i = .int .i64 n ∧ Below w.heap.size w wr) (fun i _ _ => l.length - (intOf i).toNat)
  case atStart => exact ⟨0, Nat.zero_le _, rfl, Below.refl _ _⟩
  case round =>
    obtain ⟨n, hn, rfl, hb⟩ := hrel
    have HB2 := Lib.hid hb
    by_cases hlt : n < l.length
    · have hlti : (n : Int) < (l.length : Int) := by omega
      obtain ⟨j, hj, ej⟩ := HI.out _ (List.getElem_mem hlt)
      have HM0 := Lib.hid (fun h => HA.out j hj (ej ▸ List.getElem_mem hlt) h)
      obtain ⟨b0, o0, rfl, a0⟩ := int_at HP.out hlt
      rw [ej] at a0
      have f0 := cell_later hb a0
      have g1 : (j : Int) ≥ 0 := by omega
      have g3 : (j : Int) < (L.length : Int) := by omega
      clear ej a0
      by_cases hjk : j < k
      · have hjki : (j : Int) < (k : Int) := by omega
        have HM := Lib.hid (HM0.out hjk)
        obtain ⟨b1, o1, p1, c1, p2, c3, rfl, d0, r0, d1, r1⟩ := slx_at2 HQ.out hj hk
        have HR0 := Lib.hid r0
        have HR1 := Lib.hid r1
        have HY0 := Lib.hid (HL.out _ (List.getElem_mem hj))
        have HY1 := Lib.hid (HL.out _ (List.getElem_mem hk))
        clear HM0 HA
        generalize L[j] = y0 at d0 HR0 HM HY0
        generalize L[k] = y1 at d1 HR1 HM HY1
        have f2 := cell_later hb d0
        have f3 := cell_later hb d1
        have g0 : (0 : Int) ≤ (k : Int) := by omega
        have g4 : (0 : Int) ≤ (j : Int) := by omega
        have g2 : (k : Int) < (L.length : Int) := by omega
        clear r0 r1 d0 d1 hb
        go_wp2_with fail
        go_region_held3 (fun w' => w'.cell? ⟨b0, o0 + n, none⟩ = some (.int .i64 j) ∧ w'.cell? ⟨b1, o1 + j, none⟩ = some (.slice p1 y0.length c1) ∧ w'.cell? ⟨b1, o1 + k, none⟩ = some (.slice p2 y1.length c3)) (go_simp) (first | (go_at_call 28; (have hb9 : Below w.heap.size w wr.drew := HB2.out.drew); refine (rmeetAny_any p1 p2 c1 c3 y0 y1 _ (HR0.out.later hb9 fun _ _ h => h) (HR1.out.later hb9 fun _ _ h => h) HY0.out HY1.out).mono ?_; rw [HM.out]; rintro e wv ⟨rfl, hq9⟩; (have hd : Below wr.heap.size wr wr.drew := (Below.refl _ _).drew); (have hbb := hd.trans (hq9.mono hd.size)); (have HB3 := Lib.hid (HB2.out.trans (hbb.mono HB2.out.size))); (have s0 := cell_later hbb f0); (have s2 := cell_later hbb f2); (have s3 := cell_later hbb f3); clear hb9 hd hbb hq9))
        rename_i hHeld
        clear hHeld s0 s2 s3
        go_wp2
        go_roundw
        case rel => exact ⟨n + 1, by omega, by go_num, HB3.out⟩
        case measure => simp [intOf]; omega
      · have hjki : ¬ (j : Int) < (k : Int) := by omega
        go_wp2
        go_roundw
        case rel => exact ⟨n + 1, by omega, by go_num, HB2.out⟩
        case measure => simp [intOf]; omega
    · have hlti : ¬ (n : Int) < (l.length : Int) := by omega
      go_wp2
      go_ret
      exact ⟨rfl, HB2.out⟩
end Go.Proofs.Ytefdhmdkcpgfcaa
