/- Walks of layer 10: LexPlaces. -/
import Derived.Test.YtkigilgoolnaaaaDoorA10
import Derived.Test.YtkigilgoolnaaaaDoorM114
namespace Go.Proofs.YtkigilgoolnaaaaDoor
open Go.RowKit

theorem pre_extract {s t : ByteArray} {a b : Nat} (h : t.data.toList <+: s.data.toList.drop a) (hb : a + t.size ≤ b) (hs : b ≤ s.size) : (s.extract a b).extract 0 t.size = t := by
  apply bytes_eq
  obtain ⟨r, hr⟩ := h
  have hlen : t.data.toList.length = t.size := by simp
  have e1 : ((s.extract a b).extract 0 t.size).data.toList = ((s.data.toList.drop a).take (b - a)).take t.size := by
    simp [ByteArray.data_extract, List.extract_eq_take_drop, List.take_take]
    omega
  rw [e1, List.take_take, ← hr, Nat.min_eq_left (by omega), ← hlen, List.take_left]
theorem at_plain {s T : ByteArray} {K N : Int} {A A2 : Nat} (hK : K ≠ 6) (h : txOf (K, N, T) <+: s.data.toList.drop A ∧ A + (txOf (K, N, T)).length ≤ A2) (hs : A2 ≤ s.size) : (s.extract A A2).extract 0 T.size = T ∧ T.size ≤ (s.extract A A2).size := by
  have ht : txOf (K, N, T) = T.data.toList := by simp [txOf, hK]
  rw [ht] at h
  have hl : T.data.toList.length = T.size := by simp
  rw [hl] at h
  exact ⟨pre_extract h.1 h.2 hs, by rw [ByteArray.size_extract]; omega⟩
theorem at_param {s T : ByteArray} {N : Int} {A A2 : Nat} (h : txOf (6, N, T) <+: s.data.toList.drop A ∧ A + (txOf (6, N, T)).length ≤ A2) (hs : A2 ≤ s.size) : (s.extract A A2).extract 0 (1 + T.size) = (⟨#[58]⟩ : ByteArray) ++ T ∧ 1 + T.size ≤ (s.extract A A2).size := by
  have hz : ((⟨#[58]⟩ : ByteArray) ++ T).size = 1 + T.size := by rw [ByteArray.size_append]; rfl
  have ht : txOf (6, N, T) = ((⟨#[58]⟩ : ByteArray) ++ T).data.toList := by simp [txOf]
  have hl : ((⟨#[58]⟩ : ByteArray) ++ T).data.toList.length = 1 + T.size := by
    have : ∀ b : ByteArray, b.data.toList.length = b.size := fun b => by simp
    rw [this, hz]
  rw [ht] at h
  have h2 := h.2
  rw [hl] at h2
  have := pre_extract h.1 (by rw [hz]; exact h2) hs
  rw [hz] at this
  exact ⟨this, by rw [ByteArray.size_extract]; omega⟩
theorem scan_or {s : ByteArray} {l : List (Tk × Nat)} {p : Nat} {c : Int} (h : ScanIs s l p c) : (c ≠ 0 ∧ l = [] ∧ p ≤ s.size) ∨ (c = 0 ∧ p = 0 ∧ s.size ≤ 1000 ∧ Toks s.data.toList 0 l) := by
  rcases h with ⟨_, rfl, rfl, rfl⟩ | ⟨h0, ⟨rfl, rfl, h⟩ | ⟨rfl, h⟩⟩
  · exact Or.inl ⟨by decide, rfl, Nat.zero_le _⟩
  · exact Or.inr ⟨rfl, rfl, h0, h⟩
  · have := h.within
    simp at this
    exact Or.inl ⟨h.ne, rfl, this⟩

set_option maxHeartbeats 16000000 in
set_option maxRecDepth 100000 in
theorem lexPlaces_law (s : ByteArray) (w : World) (hv : SV w) : Calls Tryd.prog 5 #[.string s] w fun e w' => e = .returned (.bool true) ∧ Below w.heap.size w w' := by
  have HSV := Lib.hid hv
  clear hv
  go_enter Tryd.func5, Tryd.ntmps5
  go_wp2_with fail
  refine (awake_any _ HSV.out).mono ?_
  rintro e w1 ⟨rfl, hb1⟩
  have HB1 := Lib.hid hb1
  clear hb1
  go_wp2_with fail
  refine (scan_any s _ (HSV.out.later HB1.out)).mono ?_
  rintro e w2 ⟨pa, ca, l, p, c, rfl, hsc, hown, hlen, hb2⟩
  have HB2 : Hid (Below w.heap.size w w2) := HB1.out.trans (hb2.mono HB1.out.size)
  clear hb2
  rcases scan_or hsc with ⟨hc, rfl, hp⟩ | ⟨rfl, rfl, hsz, ht⟩
  · have hci : (c != 0) = true := by simpa using hc
    have hpi : (p : Int) ≤ (s.size : Int) := by omega
    have hp0 : (0 : Int) ≤ (p : Int) := by omega
    clear hc hsc hown
    go_wp2
    exact bodyPost_ret (v := .bool true) (by simp [results, Tryd.results5, go_sem]) rfl ⟨rfl, HB2.out⟩
  · have hP := ht.places (S := s.data.toList) rfl (Nat.zero_le _)
    have HP := Lib.hid hP
    obtain ⟨h0, hlast⟩ := hP.last
    obtain ⟨n, hn⟩ : ∃ n, l.length = n + 1 := ⟨l.length - 1, by omega⟩
    have HT := Lib.hid (TR.of_own hown)
    have HN := Lib.hid hn
    obtain ⟨b, off, rfl, a0, a1, a2, a3⟩ := HT.out n (by omega)
    have hll : l[n]'(by omega) = ((1, 0, ⟨#[]⟩), s.size) := by
      have : l.length - 1 = n := by omega
      simp only [this] at hlast
      rw [hlast]
      simp
    rw [hll] at a0 a1 a2 a3
    have hnq := neq_tok (1, 0, ⟨#[]⟩) (1, 0, ⟨#[]⟩) s.size s.size
    rw [show tkEq (1, 0, ⟨#[]⟩) (1, 0, ⟨#[]⟩) s.size s.size = true from by simp [tkEq]] at hnq
    simp only [Bool.not_true] at hnq
    have hgp := guard_tok
    rw [hn]
    have hn1 : n ≤ 1000 := by omega
    have hnz : ¬ ((n : Int) + 1 = 0) := by omega
    have hw : IntKind.i64.wrap ((n : Int) + 1 - 1) = (n : Int) := by rw [IntKind.wrap_i64]; omega
    clear hsc hown hlast hn hP ht hlen h0 hll
    go_wp2
    go_loopw [7] (fun i wr => ∃ k : Nat, k ≤ n ∧ i = .int .i64 k ∧ Below w2.heap.size w2 wr) (fun i _ => n - (intOf i).toNat)
    case atStart => exact ⟨0, Nat.zero_le _, rfl, by (repeat (first | exact Below.refl _ _ | assumption | refine Below.drew ?_ | refine below_drewN ?_ _ | refine Below.alloc ?_ (by first | omega | (simp; done) | (simp; omega)) _ | refine Below.setCell ?_ (by first | omega | (simp; done) | (simp; omega)) _ | refine Below.trans ?_ (Below.mono (by assumption) (by first | omega | (simp; done) | (simp; omega)))))⟩
    case round =>
      obtain ⟨k, hk, rfl, hb⟩ := hrel
      have HBL := Lib.hid hb
      have hbz := hb.size
      clear hb hw hnz hnq a0 a1 a2 a3
      have hw1 : IntKind.i64.wrap ((k : Int) + 1) = (k : Int) + 1 := by rw [IntKind.wrap_i64]; omega
      by_cases hlt : k < n
      · have hlti : (k : Int) < (n : Int) := by omega
        have hk1 : k < l.length := by have := HN.out; omega
        have hk2 : k + 1 < l.length := by have := HN.out; omega
        have hkx : k + 1 < n + 1 := by omega
        have hky : k < n + 1 := by omega
        obtain ⟨b1, o1, e1, a0, a1, a2, a3⟩ := (HT.out.later HBL.out) k hk1
        obtain ⟨b2, o2, e2, -, -, -, c3⟩ := (HT.out.later HBL.out) (k + 1) hk2
        injection e1 with e1
        injection e1 with e1 e3 _
        subst e1 e3
        injection e2 with e2
        injection e2 with e2 e3 _
        subst e2 e3
        obtain ⟨q1, q2, q3, q4, q5⟩ := HP.out.at k hk2
        obtain ⟨A2, hA2⟩ : ∃ x, l[k + 1].2 = x := ⟨_, rfl⟩
        obtain ⟨⟨⟨K, N, T⟩, A⟩, hx⟩ : ∃ x, l[k] = x := ⟨_, rfl⟩
        rw [hA2] at c3 q1 q2 q5
        rw [hx] at a0 a1 a2 a3 q1 q3 q4 q5
        have HQ := Lib.hid q5
        simp only at q1 q2 q3 q4 a0 a1 a2 a3
        rw [show s.data.toList.length = s.size from by simp] at q2
        have r1 : ¬ (K < 2) := by omega
        have r2 : ¬ (7 < K) := by omega
        have r3 : ¬ ((A : Int) < 0) := by omega
        have r4 : ¬ ((A2 : Int) ≤ (A : Int)) := by omega
        have r5 : ¬ ((s.size : Int) < (A2 : Int)) := by omega
        have r6 : (0 : Int) ≤ (A : Int) := by omega
        have r7 : (A : Int) ≤ (A2 : Int) := by omega
        have r8 : (A2 : Int) ≤ (s.size : Int) := by omega
        have hbw : b < wr.heap.size := World.block_lt_of_cell? _ _ a0
        have HQQ : Hid (A < A2 ∧ A2 ≤ s.size) := ⟨q1, q2⟩
        clear q1 q2 q5 hA2 hx
        go_wp2
        have d1 : decide (K < 2) = false := by simp; omega
        have d2 : decide (7 < K) = false := by simp; omega
        have d3 : decide ((A : Int) < 0) = false := by simp
        have d4 : decide ((A2 : Int) ≤ (A : Int)) = false := by simp; omega
        have d5 : decide ((s.size : Int) < (A2 : Int)) = false := by simp; omega
        have d6 : decide (A2 ≤ A) = false := by simp; omega
        have d7 : decide (s.size < A2) = false := by simp; omega
        go_quiet (fail)
        clear d1 d2 d3 d4 d5 d6 d7
        obtain ⟨H, hH⟩ : ∃ H, s.extract A A2 = H := ⟨_, rfl⟩
        by_cases hK6 : K = 6
        · subst hK6
          obtain ⟨p1, p2⟩ := at_param (HQ.out (by decide) (by decide)) HQQ.out.2
          have hcat : ¬ 9223372036854775807 < 1 + T.size := by
            have := HQQ.out.2
            rw [ByteArray.size_extract] at p2
            omega
          rw [hH] at p1 p2
          have p3 : ¬ H.size < 1 + T.size := by omega
          have p4 : (1 : Int) + (T.size : Int) ≤ (H.size : Int) := by omega
          have p5 : ¬ (H.size : Int) < 1 + (T.size : Int) := by omega
          clear r1 r2 r3 r4 r5
          go_wp2
          go_quiet (fail)
          go_wp2
          go_roundw
          case rel =>
            refine ⟨_, _, _, _, _, _, _, _, _, _, _, _, _, _, _, _, _, _, _, _, _, _, _, _, _, _, _, _, _, _, _, _, _, _, _, _, _, _, _, _, _, _, _, _, _, _, _, _, _, _, _, _, _, _, _, _, _, _, _, _, _, _, _, _, _, _, _, _, _, _, _, _, _, _, _, _, _, _, _, _, _, _, _, _, _, _, _, _, _, _, _, ⟨k + 1, by omega, ?_, ?_⟩, rfl⟩
            · go_num
            · have h0 := HBL.out; (repeat (first | exact Below.refl _ _ | assumption | refine Below.drew ?_ | refine below_drewN ?_ _ | refine Below.alloc ?_ (by first | omega | (simp; done) | (simp; omega)) _ | refine Below.setCell ?_ (by first | omega | (simp; done) | (simp; omega)) _ | refine Below.trans ?_ (Below.mono (by assumption) (by first | omega | (simp; done) | (simp; omega)))))
          case measure => simp [intOf]; omega
        · have hk6 : (K == 6) = false := by simpa using hK6
          by_cases hK2 : K = 2
          · subst hK2
            clear hK6
            clear r1 r2 r3 r4 r5
            go_wp2
            go_quiet (fail)
            go_wp2
            go_roundw
            case rel =>
              refine ⟨_, _, _, _, _, _, _, _, _, _, _, _, _, _, _, _, _, _, _, _, _, _, _, _, _, _, _, _, _, _, _, _, _, _, _, _, _, _, _, _, _, _, _, _, _, _, _, _, _, _, _, _, _, _, _, _, _, _, _, _, _, _, _, _, _, _, _, _, _, _, _, _, _, _, _, _, _, _, _, _, _, _, _, _, _, _, _, _, _, _, _, ⟨k + 1, by omega, ?_, ?_⟩, rfl⟩
              · go_num
              · have h0 := HBL.out; (repeat (first | exact Below.refl _ _ | assumption | refine Below.drew ?_ | refine below_drewN ?_ _ | refine Below.alloc ?_ (by first | omega | (simp; done) | (simp; omega)) _ | refine Below.setCell ?_ (by first | omega | (simp; done) | (simp; omega)) _ | refine Below.trans ?_ (Below.mono (by assumption) (by first | omega | (simp; done) | (simp; omega)))))
            case measure => simp [intOf]; omega
          · by_cases hK5 : K = 5
            · subst hK5
              clear hK6 hK2
              clear r1 r2 r3 r4 r5
              go_wp2
              go_quiet (fail)
              go_wp2
              go_roundw
              case rel =>
                refine ⟨_, _, _, _, _, _, _, _, _, _, _, _, _, _, _, _, _, _, _, _, _, _, _, _, _, _, _, _, _, _, _, _, _, _, _, _, _, _, _, _, _, _, _, _, _, _, _, _, _, _, _, _, _, _, _, _, _, _, _, _, _, _, _, _, _, _, _, _, _, _, _, _, _, _, _, _, _, _, _, _, _, _, _, _, _, _, _, _, _, _, _, ⟨k + 1, by omega, ?_, ?_⟩, rfl⟩
                · go_num
                · have h0 := HBL.out; (repeat (first | exact Below.refl _ _ | assumption | refine Below.drew ?_ | refine below_drewN ?_ _ | refine Below.alloc ?_ (by first | omega | (simp; done) | (simp; omega)) _ | refine Below.setCell ?_ (by first | omega | (simp; done) | (simp; omega)) _ | refine Below.trans ?_ (Below.mono (by assumption) (by first | omega | (simp; done) | (simp; omega)))))
              case measure => simp [intOf]; omega
            · have hk2 : (K == 2) = false := by simpa using hK2
              have hk5 : (K == 5) = false := by simpa using hK5
              have hn2 : (K != 2) = true := by simpa using hK2
              have hn5 : (K != 5) = true := by simpa using hK5
              obtain ⟨p1, p2⟩ := at_plain hK6 (HQ.out hK2 hK5) HQQ.out.2
              rw [hH] at p1 p2
              have p3 : ¬ H.size < T.size := by omega
              have p4 : (T.size : Int) ≤ (H.size : Int) := by omega
              have p5 : ¬ (H.size : Int) < (T.size : Int) := by omega
              clear hK2 hK5 hK6
              clear r1 r2 r3 r4 r5
              go_wp2
              go_quiet (fail)
              go_wp2
              go_roundw
              case rel =>
                refine ⟨_, _, _, _, _, _, _, _, _, _, _, _, _, _, _, _, _, _, _, _, _, _, _, _, _, _, _, _, _, _, _, _, _, _, _, _, _, _, _, _, _, _, _, _, _, _, _, _, _, _, _, _, _, _, _, _, _, _, _, _, _, _, _, _, _, _, _, _, _, _, _, _, _, _, _, _, _, _, _, _, _, _, _, _, _, _, _, _, _, _, _, ⟨k + 1, by omega, ?_, ?_⟩, rfl⟩
                · go_num
                · have h0 := HBL.out; (repeat (first | exact Below.refl _ _ | assumption | refine Below.drew ?_ | refine below_drewN ?_ _ | refine Below.alloc ?_ (by first | omega | (simp; done) | (simp; omega)) _ | refine Below.setCell ?_ (by first | omega | (simp; done) | (simp; omega)) _ | refine Below.trans ?_ (Below.mono (by assumption) (by first | omega | (simp; done) | (simp; omega)))))
              case measure => simp [intOf]; omega
      · have hlti : ¬ (k : Int) < (n : Int) := by omega
        go_wp2
        exact bodyPost_ret (v := .bool true) (by simp [results, Tryd.results5, go_sem]) rfl ⟨rfl, HB2.out.trans (HBL.out.mono HB2.out.size)⟩
end Go.Proofs.YtkigilgoolnaaaaDoor
