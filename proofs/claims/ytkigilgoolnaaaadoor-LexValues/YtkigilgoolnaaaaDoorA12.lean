/- Walks of layer 10: LexJoins. -/
import Derived.Test.YtkigilgoolnaaaaDoorA11
import Derived.Test.YtkigilgoolnaaaaDoorM116
namespace Go.Proofs.YtkigilgoolnaaaaDoor
open Go.RowKit

theorem join_list (s t : ByteArray) : (s ++ ⟨#[10]⟩ ++ t).data.toList = s.data.toList ++ 10 :: t.data.toList := by simp
theorem join_size (s t : ByteArray) : (s ++ ⟨#[10]⟩ ++ t).size = s.size + 1 + t.size := by
  rw [ByteArray.size_append, ByteArray.size_append]
  rfl
theorem list_size (s : ByteArray) : s.data.toList.length = s.size := by simp
/-- Of a source that is short enough: its tokens, or what is wrong. -/
theorem scan_short {s : ByteArray} {l : List (Tk × Nat)} {p : Nat} {c : Int} (h : ScanIs s l p c) (hs : s.size ≤ 1000) : (c ≠ 0 ∧ l = [] ∧ Bad s.data.toList 0 p c) ∨ (c = 0 ∧ p = 0 ∧ Toks s.data.toList 0 l) := by
  rcases h with ⟨g, _⟩ | ⟨_, ⟨rfl, rfl, h⟩ | ⟨rfl, h⟩⟩
  · omega
  · exact Or.inr ⟨rfl, rfl, h⟩
  · exact Or.inl ⟨h.ne, rfl, h⟩
theorem scan_toks {s : ByteArray} {l ts : List (Tk × Nat)} {p : Nat} {c : Int} (h : ScanIs s l p c) (hs : s.size ≤ 1000) (g : Toks s.data.toList 0 ts) : l = ts ∧ p = 0 ∧ c = 0 := h.one (Or.inr ⟨hs, Or.inl ⟨rfl, rfl, g⟩⟩)
theorem scan_badd {s : ByteArray} {l : List (Tk × Nat)} {p q : Nat} {c d : Int} (h : ScanIs s l p c) (hs : s.size ≤ 1000) (g : Bad s.data.toList 0 q d) : l = [] ∧ p = q ∧ c = d := h.one (Or.inr ⟨hs, Or.inr ⟨rfl, g⟩⟩)

set_option maxHeartbeats 16000000 in
set_option maxRecDepth 100000 in
theorem lexJoins_law (s t : ByteArray) (w : World) (hv : SV w) : Calls Tryd.prog 7 #[.string s, .string t] w fun e w' => e = .returned (.bool true) ∧ Below w.heap.size w w' := by
  have HSV := Lib.hid hv
  clear hv
  by_cases h1 : 1000 < s.size
  · have i1 : (1000 : Int) < (s.size : Int) := by omega
    go_enter Tryd.func7, Tryd.ntmps7
    go_wp2_with fail
    refine (awake_any _ HSV.out).mono ?_
    rintro e w1 ⟨rfl, hb1⟩
    have HB1 := Lib.hid hb1
    clear hb1
    go_wp2
    exact bodyPost_ret (v := .bool true) (by simp [results, Tryd.results7, go_sem]) rfl ⟨rfl, HB1.out⟩
  · have i1 : ¬ (1000 : Int) < (s.size : Int) := by omega
    by_cases h2 : 1000 < t.size
    · have i2 : (1000 : Int) < (t.size : Int) := by omega
      go_enter Tryd.func7, Tryd.ntmps7
      go_wp2_with fail
      refine (awake_any _ HSV.out).mono ?_
      rintro e w1 ⟨rfl, hb1⟩
      have HB1 := Lib.hid hb1
      clear hb1
      go_wp2
      exact bodyPost_ret (v := .bool true) (by simp [results, Tryd.results7, go_sem]) rfl ⟨rfl, HB1.out⟩
    · have i2 : ¬ (1000 : Int) < (t.size : Int) := by omega
      have v01 : IntKind.i64.wrap ((s.size : Int) + (t.size : Int)) = (s.size : Int) + (t.size : Int) := by rw [IntKind.wrap_i64]; omega
      have v02 : IntKind.i64.wrap ((s.size : Int) + (t.size : Int) + 1) = (s.size : Int) + (t.size : Int) + 1 := by rw [IntKind.wrap_i64]; omega
      by_cases h3 : 1000 < s.size + t.size + 1
      · have i3 : (1000 : Int) < (s.size : Int) + (t.size : Int) + 1 := by omega
        go_enter Tryd.func7, Tryd.ntmps7
        go_wp2_with fail
        refine (awake_any _ HSV.out).mono ?_
        rintro e w1 ⟨rfl, hb1⟩
        have HB1 := Lib.hid hb1
        clear hb1
        go_wp2
        exact bodyPost_ret (v := .bool true) (by simp [results, Tryd.results7, go_sem]) rfl ⟨rfl, HB1.out⟩
      · have i3 : ¬ (1000 : Int) < (s.size : Int) + (t.size : Int) + 1 := by omega
        have hss : s.size ≤ 1000 := by omega
        have hts : t.size ≤ 1000 := by omega
        have hjs : (s ++ ⟨#[10]⟩ ++ t).size ≤ 1000 := by rw [join_size]; omega
        have hc1 : ¬ 9223372036854775807 < s.size + 1 := by omega
        have hc2 : ¬ 9223372036854775807 < s.size + 1 + t.size := by omega
        go_enter Tryd.func7, Tryd.ntmps7
        go_wp2_with fail
        refine (awake_any _ HSV.out).mono ?_
        rintro e w1 ⟨rfl, hb1⟩
        have HB1 := Lib.hid hb1
        clear hb1
        go_wp2_with fail
        refine (scan_any s _ (HSV.out.later HB1.out)).mono ?_
        rintro e w2 ⟨pa, ca, la, p, c, rfl, hsa, howa, hlena, hb2⟩
        have HB2 : Hid (Below w.heap.size w w2) := HB1.out.trans (hb2.mono HB1.out.size)
        have HTA := Lib.hid (TR.of_own howa)
        have HSA := Lib.hid hsa
        clear hb2 howa hsa
        go_wp2_with fail
        refine (scan_any t _ (HSV.out.later HB2.out)).mono ?_
        rintro e w3 ⟨pb, cb, lb, q, d, rfl, hsb, howb, hlenb, hb3⟩
        have HB3 : Hid (Below w.heap.size w w3) := HB2.out.trans (hb3.mono HB2.out.size)
        have HTB := Lib.hid (TR.of_own howb)
        have HTA3 := Lib.hid (HTA.out.later hb3)
        have HSB := Lib.hid hsb
        clear hb3 howb hsb HTA
        go_wp2_with fail
        refine (scan_any _ _ (HSV.out.later HB3.out)).mono ?_
        rintro e w4 ⟨pc, cc, lc, r, g, rfl, hsc, howc, hlenc, hb4⟩
        have HB4 : Hid (Below w.heap.size w w4) := HB3.out.trans (hb4.mono HB3.out.size)
        have HTC := Lib.hid (TR.of_own howc)
        have HTA4 := Lib.hid (HTA3.out.later hb4)
        have HTB4 := Lib.hid (HTB.out.later hb4)
        have HSC := Lib.hid hsc
        clear hb4 howc hsc HTA3 HTB v01 v02 i1 i2 i3 hc1 hc2
        rcases scan_short HSA.out hss with ⟨hc, rfl, hbad⟩ | ⟨rfl, rfl, hta⟩
        · have hbj := hbad.join t.data.toList
          rw [← join_list] at hbj
          obtain ⟨rfl, rfl, rfl⟩ := scan_badd HSC.out hjs hbj
          have hci : (g != 0) = true := by simpa using hc
          clear hc hbad hbj
          go_wp2
          exact bodyPost_ret (v := .bool true) (by simp [results, Tryd.results7, go_sem]) rfl ⟨rfl, HB4.out⟩
        · rcases scan_short HSB.out hts with ⟨hd, rfl, hbad⟩ | ⟨rfl, rfl, htb⟩
          · have hbj := hta.join_bad (m := t.data.toList) (p := q + (s.size + 1)) (c := d) (by rw [list_size]; exact hbad.shift (s.size + 1))
            rw [← join_list] at hbj
            obtain ⟨rfl, rfl, rfl⟩ := scan_badd HSC.out hjs hbj
            have hdi : (g != 0) = true := by simpa using hd
            have hq := hbad.within
            rw [list_size] at hq
            have v1 : IntKind.i64.wrap ((s.size : Int) + 1) = (s.size : Int) + 1 := by rw [IntKind.wrap_i64]; omega
            have v2 : IntKind.i64.wrap ((s.size : Int) + 1 + (q : Int)) = (q : Int) + ((s.size : Int) + 1) := by rw [IntKind.wrap_i64]; omega
            clear hd hbad hbj hta
            go_wp2
            exact bodyPost_ret (v := .bool true) (by simp [results, Tryd.results7, go_sem]) rfl ⟨rfl, HB4.out⟩
          · have htj := hta.join (m := t.data.toList) (us := lb.map fun x => (x.1, x.2 + (s.size + 1))) (by rw [list_size]; exact htb.shift (s.size + 1))
            rw [← join_list] at htj
            obtain ⟨hlc, rfl, rfl⟩ := scan_toks HSC.out hjs htj
            obtain ⟨x0, us, hx0⟩ := hta.head
            obtain ⟨n, hn⟩ : ∃ n, la.length = n + 1 := ⟨us.length, by rw [hx0]; rfl⟩
            obtain ⟨m, hm⟩ : ∃ m, lb.length = m := ⟨_, rfl⟩
            have hcl : lc.length = n + m := by
              rw [hlc, List.length_append, List.length_dropLast, List.length_map]
              omega
            have HCA : Hid (∀ k (h : k < n) (h1 : k < la.length) (h2 : k < lc.length), lc[k] = la[k]) := by
              intro k h h1 h2
              simp only [hlc]
              rw [List.getElem_append_left (by rw [List.length_dropLast]; omega), List.getElem_dropLast]
            have HCB : Hid (∀ j (h1 : j < lb.length) (h2 : n + j < lc.length), lc[n + j] = (lb[j].1, lb[j].2 + (s.size + 1))) := by
              intro j h1 h2
              simp only [hlc]
              rw [List.getElem_append_right (by rw [List.length_dropLast]; omega)]
              simp only [List.getElem_map, List.length_dropLast]
              congr 2 <;> (congr 1; simp only [show n + j - (la.length - 1) = j from by omega])
            have HL : Hid (la.length = n + 1 ∧ lb.length = m ∧ lc.length = n + m) := ⟨hn, hm, hcl⟩
            rw [hn, hm, hcl]
            have hn1 : n ≤ 1000 := by omega
            have hm1 : m ≤ 1001 := by omega
            have hnz : ((n : Int) + 1 == 0) = false := by simp; omega
            have v1 : IntKind.i64.wrap ((n : Int) + 1 - 1) = (n : Int) := by rw [IntKind.wrap_i64]; omega
            have v2 : IntKind.i64.wrap ((n : Int) + (m : Int)) = (n : Int) + (m : Int) := by rw [IntKind.wrap_i64]; omega
            have HQ : Hid (∀ j (h : j < lb.length), lb[j].2 ≤ t.size) := by
              intro j h
              have hp := htb.places (S := t.data.toList) rfl (Nat.zero_le _)
              rw [← list_size]
              by_cases hj : j + 1 < lb.length
              · obtain ⟨a1, a2, _⟩ := hp.at j hj
                omega
              · obtain ⟨a1, a2⟩ := hp.last
                have : lb.length - 1 = j := by omega
                simp only [this] at a2
                rw [a2]
                exact Nat.le_refl _
            clear hlena hlenb hlenc htj hlc hx0 hn hm hcl hta htb
            go_wp2
            go_loopw [15] (fun i wr => ∃ k : Nat, k ≤ n + m ∧ i = .int .i64 (k : Int) ∧ Below w4.heap.size w4 wr) (fun i _ => n + m - (intOf i).toNat)
            case atStart => exact ⟨0, Nat.zero_le _, rfl, by (repeat (first | exact Below.refl _ _ | assumption | refine Below.drew ?_ | refine below_drewN ?_ _ | refine Below.alloc ?_ (by first | omega | (simp; done) | (simp; omega)) _ | refine Below.setCell ?_ (by first | omega | (simp; done) | (simp; omega)) _ | refine Below.trans ?_ (Below.mono (by assumption) (by first | omega | (simp; done) | (simp; omega)))))⟩
            case round =>
              obtain ⟨k, hk, rfl, hb⟩ := hrel
              have HBL := Lib.hid hb
              clear hb hnz v2
              have hgp := guard_tok
              by_cases hlt : k < n + m
              · have hlti : (k : Int) < (n : Int) + (m : Int) := by omega
                have hkc : k < lc.length := by have := HL.out.2.2; omega
                have hltn : k < n + m := hlt
                obtain ⟨b3, o3, rfl, c0, c1, c2, c3⟩ := (HTC.out.later HBL.out) k hkc
                have hbw : b3 < wr.heap.size := World.block_lt_of_cell? _ _ c0
                by_cases hkn : k < n
                · have hkni : (k : Int) < (n : Int) := by omega
                  have hk1 : k < n + 1 := by omega
                  have hka : k < la.length := by have := HL.out.1; omega
                  obtain ⟨b1, o1, rfl, a0, a1, a2, a3⟩ := (HTA4.out.later HBL.out) k hka
                  have hbw1 : b1 < wr.heap.size := World.block_lt_of_cell? _ _ a0
                  rw [HCA.out k hkn hka hkc] at c0 c1 c2 c3
                  obtain ⟨⟨⟨K, N, T⟩, A⟩, hx⟩ : ∃ x, la[k] = x := ⟨_, rfl⟩
                  rw [hx] at a0 a1 a2 a3 c0 c1 c2 c3
                  simp only at a0 a1 a2 a3 c0 c1 c2 c3
                  have hnq := neq_tok (K, N, T) (K, N, T) (A : Int) (A : Int)
                  rw [show tkEq (K, N, T) (K, N, T) (A : Int) (A : Int) = true from by simp [tkEq]] at hnq
                  simp only [Bool.not_true] at hnq
                  clear hx
                  go_wp2
                  go_quiet (fail)
                  go_wp2
                  go_roundw
                  case rel => exact ⟨k + 1, by omega, by go_num, by have h0 := HBL.out; have hz := h0.size; (repeat (first | exact Below.refl _ _ | assumption | refine Below.drew ?_ | refine below_drewN ?_ _ | refine Below.alloc ?_ (by first | omega | (simp; done) | (simp; omega)) _ | refine Below.setCell ?_ (by first | omega | (simp; done) | (simp; omega)) _ | refine Below.trans ?_ (Below.mono (by assumption) (by first | omega | (simp; done) | (simp; omega)))))⟩
                  case measure => simp [intOf]; omega
                · obtain ⟨j, rfl⟩ : ∃ j, k = n + j := ⟨k - n, by omega⟩
                  have hkni : ¬ (n : Int) + (j : Int) < (n : Int) := by omega
                  have hkj : j < lb.length := by have := HL.out.2.1; omega
                  have hjm : j < m := by omega
                  have hjmi : (j : Int) < (m : Int) := by omega
                  obtain ⟨b1, o1, rfl, a0, a1, a2, a3⟩ := (HTB4.out.later HBL.out) j hkj
                  have hbw1 : b1 < wr.heap.size := World.block_lt_of_cell? _ _ a0
                  rw [HCB.out j hkj hkc] at c0 c1 c2 c3
                  have hA := HQ.out j hkj
                  obtain ⟨⟨⟨K, N, T⟩, A⟩, hx⟩ : ∃ x, lb[j] = x := ⟨_, rfl⟩
                  rw [hx] at a0 a1 a2 a3 c0 c1 c2 c3 hA
                  simp only at a0 a1 a2 a3 c0 c1 c2 c3 hA
                  have q1 : IntKind.i64.wrap ((n : Int) + (j : Int) - ((n : Int) + 1)) = (j : Int) - 1 := by rw [IntKind.wrap_i64]; omega
                  have q2 : IntKind.i64.wrap ((j : Int) - 1 + 1) = (j : Int) := by rw [IntKind.wrap_i64]; omega
                  have q3 : IntKind.i64.wrap ((A : Int) + (s.size : Int)) = (A : Int) + (s.size : Int) := by rw [IntKind.wrap_i64]; omega
                  have q4 : IntKind.i64.wrap ((A : Int) + (s.size : Int) + 1) = (A : Int) + (s.size : Int) + 1 := by rw [IntKind.wrap_i64]; omega
                  have hnq := neq_tok (K, N, T) (K, N, T) ((A : Int) + ((s.size : Int) + 1)) ((A : Int) + (s.size : Int) + 1)
                  rw [show tkEq (K, N, T) (K, N, T) ((A : Int) + ((s.size : Int) + 1)) ((A : Int) + (s.size : Int) + 1) = true from by simp [tkEq]; omega] at hnq
                  simp only [Bool.not_true] at hnq
                  clear hx
                  go_wp2
                  go_quiet (fail)
                  go_wp2
                  go_roundw
                  case rel => exact ⟨n + j + 1, by omega, by go_num, by have h0 := HBL.out; have hz := h0.size; (repeat (first | exact Below.refl _ _ | assumption | refine Below.drew ?_ | refine below_drewN ?_ _ | refine Below.alloc ?_ (by first | omega | (simp; done) | (simp; omega)) _ | refine Below.setCell ?_ (by first | omega | (simp; done) | (simp; omega)) _ | refine Below.trans ?_ (Below.mono (by assumption) (by first | omega | (simp; done) | (simp; omega)))))⟩
                  case measure => simp [intOf]; omega
              · have hlti : ¬ (k : Int) < (n : Int) + (m : Int) := by omega
                go_wp2
                exact bodyPost_ret (v := .bool true) (by simp [results, Tryd.results7, go_sem]) rfl ⟨rfl, HB4.out.trans (HBL.out.mono HB4.out.size)⟩
end Go.Proofs.YtkigilgoolnaaaaDoor
