/- Walks of layer 10: LexBlanks, the law. -/
import Derived.Test.YtkigilgoolnaaaaDoorA14
namespace Go.Proofs.YtkigilgoolnaaaaDoor
open Go.RowKit

set_option maxHeartbeats 16000000 in
set_option maxRecDepth 100000 in
theorem lexBlanks_law (s : ByteArray) (a : Option Addr) (cap : Nat) (ks : List Int) (w : World) (hks : IntsR w a ks) (hv : SV w) : Calls Tryd.prog 6 #[.string s, .slice a ks.length cap] w fun e w' => e = .returned (.bool true) ∧ Below w.heap.size w w' := by
  have HSV := Lib.hid hv
  have HKS := Lib.hid hks
  clear hv hks
  go_enter Tryd.func6, Tryd.ntmps6
  go_wp2_with fail
  refine (awake_any _ HSV.out).mono ?_
  rintro e w1 ⟨rfl, hb1⟩
  have HB1 := Lib.hid hb1
  clear hb1
  go_wp2_with fail
  refine (scan_any s _ (HSV.out.later HB1.out)).mono ?_
  rintro e w2 ⟨pa, ca, l, p, c, rfl, hsc, hown, hlen, hb2⟩
  have HB2 : Hid (Below w.heap.size w w2) := HB1.out.trans (hb2.mono HB1.out.size)
  have HT := Lib.hid (TR.of_own hown)
  have HK2 := Lib.hid (HKS.out.later HB2.out)
  clear hb2 hown HKS
  rcases scan_or hsc with ⟨hc, rfl, hp⟩ | ⟨rfl, rfl, hsz, ht⟩
  · have hci : (c != 0) = true := by simpa using hc
    clear hc hsc
    go_wp2
    exact bodyPost_ret (v := .bool true) (by simp [results, Tryd.results6, go_sem]) rfl ⟨rfl, HB2.out⟩
  · obtain ⟨n, hn⟩ : ∃ n, l.length = n := ⟨_, rfl⟩
    have HN := Lib.hid hn
    have v1 : IntKind.i64.wrap (8 * (n : Int)) = 8 * (n : Int) := by rw [IntKind.wrap_i64]; omega
    have v2 : IntKind.i64.wrap ((s.size : Int) + 8 * (n : Int)) = (s.size : Int) + 8 * (n : Int) := by rw [IntKind.wrap_i64]; omega
    rw [hn] at hlen ⊢
    have HTK := Lib.hid ht
    have HP := Lib.hid (ht.places (S := s.data.toList) rfl (Nat.zero_le _))
    clear hsc ht hn
    by_cases hlong : 1000 < s.size + 8 * n
    · have i1 : (1000 : Int) < (s.size : Int) + 8 * (n : Int) := by omega
      go_wp2
      exact bodyPost_ret (v := .bool true) (by simp [results, Tryd.results6, go_sem]) rfl ⟨rfl, HB2.out⟩
    · have i1 : ¬ (1000 : Int) < (s.size : Int) + 8 * (n : Int) := by omega
      obtain ⟨W3, hW3⟩ : ∃ W3, w2.alloc (.cells #[.string ⟨#[32]⟩, .string ⟨#[10]⟩, .string ⟨#[9, 32]⟩, .string ⟨#[32, 45, 45, 32, 120, 33, 10]⟩, .string ⟨#[32, 45, 45, 10]⟩] 9) = W3 := ⟨_, rfl⟩
      have HB3 : Hid (Below w2.heap.size w2 W3) := by show Below w2.heap.size w2 W3; rw [← hW3]; exact (Below.refl _ _).alloc (Nat.le_refl _) _
      have HZ : Hid (∀ k, k < 5 → W3.cell? ⟨w2.heap.size, k, none⟩ = some (.string (putS k))) := by
        intro k hk
        have hh : W3.heap[w2.heap.size]? = some (.cells #[.string ⟨#[32]⟩, .string ⟨#[10]⟩, .string ⟨#[9, 32]⟩, .string ⟨#[32, 45, 45, 32, 120, 33, 10]⟩, .string ⟨#[32, 45, 45, 10]⟩] 9 (0, 0)) := by rw [← hW3]; exact heap_alloc_new w2 _
        rcases (by omega : k = 0 ∨ k = 1 ∨ k = 2 ∨ k = 3 ∨ k = 4) with rfl | rfl | rfl | rfl | rfl <;> simp [World.cell?, hh] <;> rfl
      clear hlong
      go_wp2
      clear hW3 v1 v2 i1
      go_loopw [10, 11, 12] (fun o f i wr => ∃ (i' F : Nat) (O : ByteArray), o = .string O ∧ f = .int .i64 (F : Int) ∧ i = .int .i64 (i' : Int) ∧ i' ≤ n ∧ Bl s l i' F O ∧ Below W3.heap.size W3 wr) (fun _ _ i _ => n - (intOf i).toNat)
      case atStart => exact ⟨0, 0, ⟨#[]⟩, rfl, rfl, rfl, Nat.zero_le _, Bl.start s l, by (repeat (first | exact Below.refl _ _ | assumption | refine Below.drew ?_ | refine below_drewN ?_ _ | refine Below.alloc ?_ (by first | omega | (simp; done) | (simp; omega)) _ | refine Below.setCell ?_ (by first | omega | (simp; done) | (simp; omega)) _ | refine Below.trans ?_ (Below.mono (by assumption) (by first | omega | (simp; done) | (simp; omega)))))⟩
      case round =>
        obtain ⟨i, F, O, rfl, rfl, rfl, hin, hbl, hb⟩ := hrel
        have HBl := Lib.hid hbl
        have HBL := Lib.hid hb
        clear hbl hb
        by_cases hlt : i < n
        · have hlti : (i : Int) < (n : Int) := by omega
          have hil : i < l.length := by have := HN.out; omega
          obtain ⟨b, off, rfl, a0, a1, a2, a3⟩ := ((HT.out.later HB3.out).later HBL.out) i hil
          have hA1 := (HBl.out.step HP.out hil (k := 0) (by omega)).2
          have hA2 := HBl.out.next hil
          have hF := HBl.out.le
          have hO := HBl.out.few
          obtain ⟨A, hA⟩ : ∃ A, l[i].2 = A := ⟨_, rfl⟩
          obtain ⟨X, hX⟩ : ∃ X, s.extract F A = X := ⟨_, rfl⟩
          have hXs : X.size ≤ 1000 := by rw [← hX, ByteArray.size_extract]; omega
          have HXA : Hid (l[i].2 = A ∧ s.extract F A = X) := ⟨hA, hX⟩
          rw [hA] at a3 hA1 hA2
          clear a0 a1 a2 hA
          have r1 : (F : Int) ≤ (A : Int) := by omega
          have r2 : (A : Int) ≤ (s.size : Int) := by omega
          have r3 : (0 : Int) ≤ (F : Int) := by omega
          by_cases hki : i < ks.length
          · have hkii : (i : Int) < (ks.length : Int) := by omega
            obtain ⟨b2, o2, rfl, k0⟩ := ((HK2.out.later HB3.out).later HBL.out) i hki
            obtain ⟨z, hz0⟩ : ∃ z, ks[i] = z := ⟨_, rfl⟩
            rw [hz0] at k0
            clear hz0
            by_cases hzn : 0 ≤ z
            · have hk5 : (z % 5).toNat < 5 := by omega
              obtain ⟨kk, hkk⟩ : ∃ kk, (z % 5).toNat = kk := ⟨_, rfl⟩
              have hrm : z.tmod 5 = (kk : Int) := by rw [Int.tmod_eq_emod_of_nonneg hzn]; omega
              rw [hkk] at hk5
              have hk5i : (kk : Int) < 5 := by omega
              clear hkk
              obtain ⟨P, hP⟩ : ∃ P, putS kk = P := ⟨_, rfl⟩
              have HST : Hid (Bl s l (i + 1) A (O ++ X ++ P)) := by
                have := (HBl.out.step HP.out hil (k := kk) hk5).1
                rw [hP] at this
                simp only [HXA.out.1, HXA.out.2] at this
                exact this
              have hps := putS_size (k := kk) hk5
              have hz := cell_later HBL.out (HZ.out kk hk5)
              rw [hP] at hps hz
              clear hP
              have g1 : ¬ 9223372036854775807 < O.size + X.size := by omega
              have g2 : ¬ 9223372036854775807 < O.size + X.size + P.size := by omega
              go_wp2
              go_quiet (fail)
              go_wp2
              go_roundw
              case rel => exact ⟨i + 1, A, O ++ X ++ P, rfl, rfl, by go_num, by omega, HST.out, by have h0 := HBL.out; have hz := h0.size; (repeat (first | exact Below.refl _ _ | assumption | refine Below.drew ?_ | refine below_drewN ?_ _ | refine Below.alloc ?_ (by first | omega | (simp; done) | (simp; omega)) _ | refine Below.setCell ?_ (by first | omega | (simp; done) | (simp; omega)) _ | refine Below.trans ?_ (Below.mono (by assumption) (by first | omega | (simp; done) | (simp; omega)))))⟩
              case measure => simp [intOf]; omega
            · have hzni : ¬ (0 : Int) ≤ z := hzn
              obtain ⟨P, hP⟩ : ∃ P, putS 0 = P := ⟨_, rfl⟩
              have HST : Hid (Bl s l (i + 1) A (O ++ X ++ P)) := by
                have := (HBl.out.step HP.out hil (k := 0) (by decide)).1
                rw [hP] at this
                simp only [HXA.out.1, HXA.out.2] at this
                exact this
              have hps := putS_size (k := 0) (by decide)
              have hz := cell_later HBL.out (HZ.out 0 (by decide))
              rw [hP] at hps hz
              clear hP
              have g1 : ¬ 9223372036854775807 < O.size + X.size := by omega
              have g2 : ¬ 9223372036854775807 < O.size + X.size + P.size := by omega
              go_wp2
              go_quiet (fail)
              go_wp2
              go_roundw
              case rel => exact ⟨i + 1, A, O ++ X ++ P, rfl, rfl, by go_num, by omega, HST.out, by have h0 := HBL.out; have hz := h0.size; (repeat (first | exact Below.refl _ _ | assumption | refine Below.drew ?_ | refine below_drewN ?_ _ | refine Below.alloc ?_ (by first | omega | (simp; done) | (simp; omega)) _ | refine Below.setCell ?_ (by first | omega | (simp; done) | (simp; omega)) _ | refine Below.trans ?_ (Below.mono (by assumption) (by first | omega | (simp; done) | (simp; omega)))))⟩
              case measure => simp [intOf]; omega
          · have hkii : ¬ (i : Int) < (ks.length : Int) := by omega
            obtain ⟨P, hP⟩ : ∃ P, putS 0 = P := ⟨_, rfl⟩
            have HST : Hid (Bl s l (i + 1) A (O ++ X ++ P)) := by
              have := (HBl.out.step HP.out hil (k := 0) (by decide)).1
              rw [hP] at this
              simp only [HXA.out.1, HXA.out.2] at this
              exact this
            have hps := putS_size (k := 0) (by decide)
            have hz := cell_later HBL.out (HZ.out 0 (by decide))
            rw [hP] at hps hz
            clear hP
            have g1 : ¬ 9223372036854775807 < O.size + X.size := by omega
            have g2 : ¬ 9223372036854775807 < O.size + X.size + P.size := by omega
            go_wp2
            go_quiet (fail)
            go_wp2
            go_roundw
            case rel => exact ⟨i + 1, A, O ++ X ++ P, rfl, rfl, by go_num, by omega, HST.out, by have h0 := HBL.out; have hz := h0.size; (repeat (first | exact Below.refl _ _ | assumption | refine Below.drew ?_ | refine below_drewN ?_ _ | refine Below.alloc ?_ (by first | omega | (simp; done) | (simp; omega)) _ | refine Below.setCell ?_ (by first | omega | (simp; done) | (simp; omega)) _ | refine Below.trans ?_ (Below.mono (by assumption) (by first | omega | (simp; done) | (simp; omega)))))⟩
            case measure => simp [intOf]; omega
        · have hlti : ¬ (i : Int) < (n : Int) := by omega
          obtain rfl : i = n := by omega
          have hF := HBl.out.le
          have hO := HBl.out.few
          have HBl2 : Hid (Bl s l l.length F O) := by rw [HN.out]; exact HBl.out
          obtain ⟨q1, us, q2, q3⟩ := HBl2.out.fin HTK.out (by rw [HN.out]; omega)
          have hus : us.length = i := by
            have := congrArg List.length q3
            rw [List.length_map, List.length_map, HN.out] at this
            exact this
          have r1 : (F : Int) ≤ (s.size : Int) := by omega
          have r3 : (0 : Int) ≤ (F : Int) := by omega
          obtain ⟨X, hX⟩ : ∃ X, s.extract F s.size = X := ⟨_, rfl⟩
          rw [hX] at q1 q2
          have hXs : X.size ≤ 1000 := by rw [← hX, ByteArray.size_extract]; omega
          have g1 : ¬ 9223372036854775807 < O.size + X.size := by omega
          have HQ : Hid ((O ++ X).size ≤ 1000 ∧ Toks (O ++ X).data.toList 0 us ∧ us.map (·.1) = l.map (·.1)) := ⟨q1, q2, q3⟩
          have HUS := Lib.hid hus
          clear q1 q2 q3 hus
          go_wp2_with fail
          refine (scan_any _ _ (((HSV.out.later HB2.out).later HB3.out).later HBL.out)).mono ?_
          rintro e w5 ⟨pm, cm, m, p, c, rfl, hsm, hom, hlm, hb5⟩
          obtain ⟨rfl, rfl, rfl⟩ := scan_toksB hsm HQ.out.1 HQ.out.2.1
          have HB5 : Hid (Below W3.heap.size W3 w5) := HBL.out.trans (hb5.mono HBL.out.size)
          have HTM := Lib.hid (TR.of_own hom)
          have HM := Lib.hid HQ.out.2.2
          rw [HUS.out]
          clear hsm hom hb5 hlm hX
          go_wp2
          go_loopw [17] (fun j wr => ∃ k : Nat, k ≤ i ∧ j = .int .i64 (k : Int) ∧ Below w5.heap.size w5 wr) (fun j _ => i - (intOf j).toNat)
          case atStart => exact ⟨0, Nat.zero_le _, rfl, by (repeat (first | exact Below.refl _ _ | assumption | refine Below.drew ?_ | refine below_drewN ?_ _ | refine Below.alloc ?_ (by first | omega | (simp; done) | (simp; omega)) _ | refine Below.setCell ?_ (by first | omega | (simp; done) | (simp; omega)) _ | refine Below.trans ?_ (Below.mono (by assumption) (by first | omega | (simp; done) | (simp; omega)))))⟩
          case round =>
            rename World => R
            obtain ⟨k, hk, rfl, hb⟩ := hrel
            have HBR := Lib.hid hb
            clear hb
            by_cases hlk : k < i
            · have hlki : (k : Int) < (i : Int) := by omega
              have hk1 : k < l.length := by have := HN.out; omega
              have hk2 : k < m.length := by have := HUS.out; omega
              obtain ⟨b1, o1, rfl, a0, a1, a2, a3⟩ := (((HT.out.later HB3.out).later HB5.out).later HBR.out) k hk1
              obtain ⟨b2, o2, rfl, c0, c1, c2, c3⟩ := (HTM.out.later HBR.out) k hk2
              have he : m[k].1 = l[k].1 := by
                have := HM.out
                have e1 : (m.map (·.1))[k]'(by simpa using hk2) = (l.map (·.1))[k]'(by simpa using hk1) := by simp only [this]
                simpa using e1
              obtain ⟨⟨⟨K, N, T⟩, A⟩, hx⟩ : ∃ x, l[k] = x := ⟨_, rfl⟩
              obtain ⟨⟨x1, A2⟩, hy⟩ : ∃ x, m[k] = x := ⟨_, rfl⟩
              rw [hx, hy] at he
              simp only at he
              subst he
              rw [hx] at a0 a1 a2 a3
              rw [hy] at c0 c1 c2 c3
              simp only at a0 a1 a2 a3 c0 c1 c2 c3
              clear hx hy
              go_wp2
              go_region_law (go_simp; go_at_call 17; refine (like_any (K, N, T) _ _ _).mono ?_; rintro e w6 ⟨rfl, hb6⟩)
              all_goals
                go_wp2
                go_roundw
                case rel => exact ⟨k + 1, by omega, by go_num, by have h0 := HBR.out; have hz := h0.size; have hz6 := hb6.size; (repeat (first | exact Below.refl _ _ | assumption | refine Below.drew ?_ | refine below_drewN ?_ _ | refine Below.alloc ?_ (by first | omega | (simp; done) | (simp; omega)) _ | refine Below.setCell ?_ (by first | omega | (simp; done) | (simp; omega)) _ | refine Below.trans ?_ (Below.mono (by assumption) (by first | omega | (simp; done) | (simp; omega)))))⟩
                case measure => simp [intOf]; omega
            · have hlki : ¬ (k : Int) < (i : Int) := by omega
              go_wp2
              exact bodyPost_ret (v := .bool true) (by simp [results, Tryd.results6, go_sem]) rfl ⟨rfl, by have h1 := HB2.out; have h2 := h1.trans (HB3.out.mono h1.size); have h3 := h2.trans (HB5.out.mono h2.size); exact h3.trans (HBR.out.mono h3.size)⟩
end Go.Proofs.YtkigilgoolnaaaaDoor
