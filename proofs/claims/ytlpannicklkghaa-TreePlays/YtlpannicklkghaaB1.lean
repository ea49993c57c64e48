/- Walks of layer 7: how a key is found among items. -/
import Derived.Test.YtlpannicklkghaaB0
import Derived.Test.YtlpannicklkghaaM81
namespace Go.Proofs.Ytlpannicklkghaa
open Go.RowKit

theorem compare_any (a b : ByteArray) (w : World) : Calls Try.prog 48 #[.string a, .string b] w fun e w' => e = .returned (.int .i64 (Lib.compareBytes a.toList b.toList)) ∧ w' = w := by
  rw [ByteArray.toList_eq, ByteArray.toList_eq]
  exact Try.strings_Compare a b w
set_option maxHeartbeats 2000000 in
set_option maxRecDepth 100000 in
theorem find1_any (k v : ByteArray) (p : Option Addr) (key : ByteArray) (w : World) :
    Calls Try.prog 47 #[.agg #[.string k, .string v, .pointer p], .string key] w fun e w' => e = .returned (.int .i64 (Lib.compareBytes k.toList key.toList)) ∧ Below w.heap.size w w' := by
  obtain ⟨c, hc⟩ : ∃ c, Lib.compareBytes k.toList key.toList = c := ⟨_, rfl⟩
  have HC : Hid (∀ w, Calls Try.prog 48 #[.string k, .string key] w fun e w' => e = .returned (.int .i64 c) ∧ w' = w) := fun w => by rw [← hc]; exact compare_any k key w
  rw [hc]
  clear hc
  go_enter Try.func47, Try.ntmps47
  go_wp2_with (go_at_call 48; refine (HC.out _).mono ?_; rintro e w' ⟨rfl, rfl⟩)
  go_ret
  exact ⟨rfl, (Below.refl _ _).alloc (Nat.le_refl _) _⟩

set_option maxHeartbeats 4000000 in
set_option maxRecDepth 100000 in
theorem search_any (w : World) (v : Value) (l : List It) (key : ByteArray) (h : w.ownsRow 0 86 3 v l.length (ic l)) (hs : Srt l) (hl : l.length ≤ 1000000) :
    Calls Try.prog 46 #[v, .string key, .func (.func 47) #[] #[]] w fun e w' => e = .returned (.tuple #[.int .i64 (cntL key l : Int), .bool (foundL key l)]) ∧ Below w.heap.size w w' := by
  have HR : Hid (w.ownsRow 0 86 3 v l.length (ic l)) := h
  have HS : Hid (Srt l) := hs
  obtain ⟨p, cap, rfl, hcap, hmax⟩ := irow_form h
  have hcn := cntL_le key l
  clear h hs
  go_enter Try.func46, Try.ntmps46
  go_wp2
  go_loopw [9, 10] (fun i j wr => ∃ (a b : Nat), i = .int .i64 (a : Int) ∧ j = .int .i64 (b : Int) ∧ a ≤ cntL key l ∧ cntL key l ≤ b ∧ b ≤ l.length ∧ Below w.heap.size w wr) (fun i j _ => (intOf j).toNat - (intOf i).toNat)
  case atStart => exact ⟨0, l.length, rfl, rfl, Nat.zero_le _, hcn, Nat.le_refl _, Below.refl _ _⟩
  case round =>
    obtain ⟨a, b, rfl, rfl, ha, hb, hbl, hbw⟩ := hrel
    have HB : Hid (Below w.heap.size w wr) := hbw
    clear hbw
    by_cases hlt : a < b
    · have hlti : (a : Int) < (b : Int) := by omega
      obtain ⟨m, hm⟩ : ∃ m, (a + b) / 2 = m := ⟨_, rfl⟩
      have hma : a ≤ m := by omega
      have hmb : m < b := by omega
      have hmi : (m : Int) < (l.length : Int) := by omega
      obtain ⟨g, cap', e, _, _, _, hc, _⟩ := irow_at HR.out (by omega)
      simp only [Value.slice.injEq] at e
      obtain ⟨rfl, _, rfl⟩ := e
      obtain ⟨c0, c1, c2⟩ := hc m (by omega)
      have d0 := cell_later HB.out c0
      have d1 := cell_later HB.out c1
      have d2 := cell_later HB.out c2
      clear c0 c1 c2 hc
      obtain ⟨k, hk⟩ : ∃ k, (l[m]'(by omega)).key = k := ⟨_, rfl⟩
      obtain ⟨x, hx⟩ : ∃ x, (l[m]'(by omega)).val = x := ⟨_, rfl⟩
      obtain ⟨q, hq⟩ : ∃ q : Option Addr, ((l[m]'(by omega)).kid.map fun b => (⟨b, 0, none⟩ : Addr)) = q := ⟨_, rfl⟩
      rw [hk] at d0
      rw [hx] at d1
      rw [hq] at d2
      have HM : Hid (∀ h : m < l.length, (l[m]'h).key = k) := fun _ => hk
      clear hk hx hq
      go_wp2_with fail
      refine (find1_any k x q key wr).mono ?_
      rintro e w1 ⟨rfl, hb1⟩
      have HB1 : Hid (Below w.heap.size w w1) := below_two HB.out hb1
      clear hb1 d0 d1 d2
      have hmi2 : ((a : Int) + (b : Int)) / 2 = (m : Int) := by omega
      cases hcmp : kl k key with
      | true =>
        have hneg : Lib.compareBytes k.toList key.toList < 0 := of_decide_eq_true ((cmp_lt _ _).trans hcmp)
        have hmc : m < cntL key l := by
          rcases Nat.lt_or_ge m (cntL key l) with h | h
          · exact h
          · have := cntL_ge HS.out (i := m) (by omega) h
            rw [HM.out, hcmp] at this
            cases this
        have HF : Hid (m + 1 ≤ cntL key l ∧ a < m + 1 ∧ m < b) := ⟨hmc, by omega, hmb⟩
        clear hcmp hmc hma hmb hmi hm
        go_wp2
        go_roundw
        case rel => exact ⟨m + 1, b, by go_num, rfl, HF.out.1, hb, hbl, HB1.out⟩
        case measure => have := HF.out; simp [intOf]; omega
      | false =>
        have hneg : ¬ Lib.compareBytes k.toList key.toList < 0 := of_decide_eq_false ((cmp_lt _ _).trans hcmp)
        have hmc : cntL key l ≤ m := by
          rcases Nat.lt_or_ge m (cntL key l) with h | h
          · have := cntL_lt key l m (by omega) h
            rw [HM.out, hcmp] at this
            cases this
          · exact h
        have HF : Hid (cntL key l ≤ m ∧ a ≤ m ∧ m < b) := ⟨hmc, hma, hmb⟩
        clear hcmp hmc hma hmb hmi hm
        go_wp2
        go_roundw
        case rel => exact ⟨a, m, rfl, by go_num, ha, HF.out.1, by have := HF.out; omega, HB1.out⟩
        case measure => have := HF.out; simp [intOf]; omega
    · obtain rfl : a = cntL key l := by omega
      have hlti : ¬ ((cntL key l : Nat) : Int) < (b : Int) := by omega
      by_cases hin : cntL key l < l.length
      · have hini : ((cntL key l : Nat) : Int) < (l.length : Int) := by omega
        obtain ⟨g, cap', e, _, _, _, hc, _⟩ := irow_at HR.out (by omega)
        simp only [Value.slice.injEq] at e
        obtain ⟨rfl, _, rfl⟩ := e
        obtain ⟨c0, c1, c2⟩ := hc (cntL key l) hin
        have d0 := cell_later HB.out c0
        have d1 := cell_later HB.out c1
        have d2 := cell_later HB.out c2
        obtain ⟨k, hk⟩ : ∃ k, (l[cntL key l]'hin).key = k := ⟨_, rfl⟩
        obtain ⟨x, hx⟩ : ∃ x, (l[cntL key l]'hin).val = x := ⟨_, rfl⟩
        obtain ⟨q, hq⟩ : ∃ q : Option Addr, ((l[cntL key l]'hin).kid.map fun b => (⟨b, 0, none⟩ : Addr)) = q := ⟨_, rfl⟩
        rw [hk] at d0
        rw [hx] at d1
        rw [hq] at d2
        have HFD : Hid (foundL key l = decide (k = key)) := by
          have := foundL_at hin
          rw [hk] at this
          exact this
        obtain ⟨C, hC⟩ : ∃ C, cntL key l = C := ⟨_, rfl⟩
        have HCC : Hid (cntL key l = C) := hC
        rw [hC] at d0 d1 d2 hini hlti ⊢
        clear c0 c1 c2 hc hk hx hq hC
        go_wp2_with fail
        refine (find1_any k x q key wr).mono ?_
        rintro e w1 ⟨rfl, hb1⟩
        have HB1 : Hid (Below w.heap.size w w1) := below_two HB.out hb1
        clear hb1 d0 d1 d2
        by_cases hke : k = key
        · have hz : Lib.compareBytes k.toList key.toList = 0 := (cmp_eq _ _).2 (by rw [hke])
          have HFT : Hid (foundL key l = true) := HFD.out.trans (decide_eq_true hke)
          rw [hz]
          clear hke hz
          go_wp2
          refine bodyPost_ret (v := .tuple #[.int .i64 (C : Int), .bool true]) (by simp [results, Try.results46, go_sem]) rfl ?_
          exact ⟨by rw [HFT.out, HCC.out], HB1.out⟩
        · have hz : ¬ Lib.compareBytes k.toList key.toList = 0 := fun e => hke (ba_inj ((cmp_eq _ _).1 e))
          have HFT : Hid (foundL key l = false) := HFD.out.trans (decide_eq_false hke)
          obtain ⟨z, hz2⟩ : ∃ z, Lib.compareBytes k.toList key.toList = z := ⟨_, rfl⟩
          rw [hz2] at hz ⊢
          clear hke hz2
          go_wp2
          refine bodyPost_ret (v := .tuple #[.int .i64 (C : Int), .bool false]) (by simp [results, Try.results46, go_sem]; exact hz) rfl ?_
          exact ⟨by rw [HFT.out, HCC.out], HB1.out⟩
      · have hini : ¬ ((cntL key l : Nat) : Int) < (l.length : Int) := by omega
        have HFD : Hid (foundL key l = false) := foundL_no (by omega)
        obtain ⟨C, hC⟩ : ∃ C, cntL key l = C := ⟨_, rfl⟩
        have HCC : Hid (cntL key l = C) := hC
        rw [hC] at hini hlti ⊢
        clear hC
        go_wp2
        refine bodyPost_ret (v := .tuple #[.int .i64 (C : Int), .bool false]) (by simp [results, Try.results46, go_sem]) rfl ?_
        exact ⟨by rw [HFD.out, HCC.out], HB.out⟩

set_option maxHeartbeats 2000000 in
set_option maxRecDepth 100000 in
theorem find_any (w : World) (n : Nd) (nx : Option Nat) (key : ByteArray) (h : NdAt w n nx) (hs : Srt n.its) (hl : n.its.length ≤ 1000000) :
    Calls Try.prog 33 #[.pointer (some ⟨n.b, 0, none⟩), .string key] w fun e w' => e = .returned (.tuple #[.int .i64 (cntL key n.its : Int), .bool (foundL key n.its)]) ∧ Below w.heap.size w w' := by
  have c0 := h.nc.c0
  have HR : Hid (w.ownsRow 0 86 3 n.v n.its.length (ic n.its)) := h.row
  have HS : Hid (Srt n.its) := hs
  obtain ⟨p, cap, e, _⟩ := irow_form h.row
  obtain ⟨v, hv⟩ : ∃ v, n.v = v := ⟨_, rfl⟩
  rw [hv] at c0 HR e
  subst e
  obtain ⟨c, hc⟩ : ∃ c, cntL key n.its = c := ⟨_, rfl⟩
  obtain ⟨f, hf⟩ : ∃ f, foundL key n.its = f := ⟨_, rfl⟩
  have HCA := search_any w _ n.its key HR.out HS.out hl
  rw [hc, hf] at HCA ⊢
  have HC : Hid (Calls Try.prog 46 #[.slice p n.its.length cap, .string key, .func (.func 47) #[] #[]] w fun e w' => e = .returned (.tuple #[.int .i64 (c : Int), .bool f]) ∧ Below w.heap.size w w') := HCA
  obtain ⟨b, hb⟩ : ∃ b, n.b = b := ⟨_, rfl⟩
  obtain ⟨m, hm⟩ : ∃ m, n.its.length = m := ⟨_, rfl⟩
  rw [hb] at c0 ⊢
  rw [hm] at c0 HC
  clear h hs hl hv HCA hc hf hb hm HR HS
  go_enter Try.func33, Try.ntmps33
  go_wp2_with (go_at_call 46; refine (HC.out).mono ?_; rintro e w' ⟨rfl, hb⟩)
  refine bodyPost_ret (v := .tuple #[.int .i64 (c : Int), .bool f]) (by simp [results, Try.results33, go_sem]) rfl ?_
  exact ⟨rfl, hb⟩

/-- The place of the kid to which a key belongs. -/
def towardL (key : ByteArray) (l : List It) : Nat := if foundL key l then cntL key l else cntL key l - 1
set_option maxHeartbeats 2000000 in
set_option maxRecDepth 100000 in
theorem toward_any (w : World) (n : Nd) (nx : Option Nat) (key : ByteArray) (h : NdAt w n nx) (hs : Srt n.its) (hl : n.its.length ≤ 1000000) :
    Calls Try.prog 45 #[.pointer (some ⟨n.b, 0, none⟩), .string key] w fun e w' => e = .returned (.int .i64 (towardL key n.its : Int)) ∧ Below w.heap.size w w' := by
  have HCA := find_any w n nx key h hs hl
  have hcl := cntL_le key n.its
  unfold towardL
  obtain ⟨c, hc⟩ : ∃ c, cntL key n.its = c := ⟨_, rfl⟩
  obtain ⟨f, hf⟩ : ∃ f, foundL key n.its = f := ⟨_, rfl⟩
  obtain ⟨b, hb⟩ : ∃ b, n.b = b := ⟨_, rfl⟩
  rw [hc] at hcl
  rw [hc, hf, hb] at HCA ⊢
  have HC : Hid (Calls Try.prog 33 #[.pointer (some ⟨b, 0, none⟩), .string key] w fun e w' => e = .returned (.tuple #[.int .i64 (c : Int), .bool f]) ∧ Below w.heap.size w w') := HCA
  have hc6 : c ≤ 1000000 := by omega
  clear h hs hl hc hf hb HCA hcl
  cases f with
  | true =>
    go_enter Try.func45, Try.ntmps45
    go_wp2_with (go_at_call 33; refine (HC.out).mono ?_; rintro e w' ⟨rfl, hb⟩)
    go_ret
    exact ⟨by simp, hb⟩
  | false =>
    rcases c with _ | c
    · go_enter Try.func45, Try.ntmps45
      go_wp2_with (go_at_call 33; refine (HC.out).mono ?_; rintro e w' ⟨rfl, hb⟩)
      go_ret
      exact ⟨by simp; decide, hb⟩
    · have hmx : max (c : Int) 0 = (c : Int) := by omega
      go_enter Try.func45, Try.ntmps45
      go_wp2_with (go_at_call 33; refine (HC.out).mono ?_; rintro e w' ⟨rfl, hb⟩)
      go_ret
      exact ⟨by simp, hb⟩
end Go.Proofs.Ytlpannicklkghaa
