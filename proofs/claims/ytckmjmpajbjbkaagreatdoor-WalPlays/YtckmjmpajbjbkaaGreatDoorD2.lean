/- Walks of layer 4, second part: names; what a disk tells of itself; which errors names have. -/
import Derived.Test.YtckmjmpajbjbkaaGreatDoorD1
namespace Go.Proofs.YtckmjmpajbjbkaaGreatDoor
open Go.RowKit

theorem clone_any (s : ByteArray) (w : World) (hs : s.size ≤ 281474976710656) : Calls Tryz.prog 57 #[.string s] w fun e w' => e = .returned (.string s) ∧ Below w.heap.size w w' := by
  go_enter Tryz.func57, Tryz.ntmps57
  go_wp2_with fail
  refine (Tryz.stringslite_Clone s _ (by omega)).mono ?_
  rintro e w1 ⟨rfl, hb1⟩
  go_wp2
  go_ret
  exact ⟨rfl, hb1⟩

set_option maxHeartbeats 1000000 in
theorem rbyte_any (c : UInt8) (w : World) : Calls Tryz.prog 91 #[.int .u8 (c.toNat : Int)] w fun e w' => e = .returned (.bool (nmb c)) ∧ w' = w := by
  have HN : Hid (∀ x : Bool, x = nmb c ↔ (x = true ↔ ((97 ≤ c.toNat ∧ c.toNat ≤ 122) ∨ (48 ≤ c.toNat ∧ c.toNat ≤ 57) ∨ c.toNat = 45 ∨ c.toNat = 46))) := by
    intro x
    rw [Bool.eq_iff_iff]
    simp [nmb, or_assoc]
  obtain ⟨n, hn⟩ : ∃ n, c.toNat = n := ⟨_, rfl⟩
  rw [hn] at HN ⊢
  clear hn
  go_enter Tryz.func91, Tryz.ntmps91
  go_wp2
  all_goals go_ret
  all_goals (refine ⟨ret_bool ((HN.out _).2 ?_), rfl⟩; go_light; simp; try omega)

theorem all_take {s : ByteArray} {k : Nat} (h : k < s.size) {p : UInt8 → Bool} : (s.data.toList.take (k + 1)).all p = ((s.data.toList.take k).all p && p s[k]) := by
  rw [List.take_succ_eq_append_getElem (by simpa using h), List.all_append]
  simp
  rfl

set_option maxHeartbeats 2000000 in
set_option maxRecDepth 100000 in
theorem rname_any (s : ByteArray) (w : World) : Calls Tryz.prog 62 #[.string s] w fun e w' => e = .returned (.bool (nmOk s.data.toList)) ∧ w' = w := by
  have hsl : s.data.toList.length = s.size := by simp
  by_cases h1 : s.size < 1
  · have h1i : (s.size : Int) < 1 := by omega
    have HR : Hid (nmOk s.data.toList = false) := by
      have : ¬ 1 ≤ s.data.toList.length := by omega
      show nmOk s.data.toList = false
      simp only [nmOk, decide_eq_false this, Bool.false_and]
    clear hsl
    go_enter Tryz.func62, Tryz.ntmps62
    go_wp2
    all_goals go_ret
    all_goals exact ⟨ret_bool HR.out.symm, rfl⟩
  · have h1i : ¬ (s.size : Int) < 1 := by omega
    by_cases h2 : 16 < s.size
    · have h2i : (16 : Int) < (s.size : Int) := by omega
      have HR : Hid (nmOk s.data.toList = false) := by
        have : ¬ s.data.toList.length ≤ 16 := by omega
        show nmOk s.data.toList = false
        simp only [nmOk, decide_eq_false this, Bool.and_false, Bool.false_and]
      clear hsl
      go_enter Tryz.func62, Tryz.ntmps62
      go_wp2
      all_goals go_ret
      all_goals exact ⟨ret_bool HR.out.symm, rfl⟩
    · have h2i : ¬ (16 : Int) < (s.size : Int) := by omega
      have HR : Hid (nmOk s.data.toList = s.data.toList.all nmb) := by
        have h3 : 1 ≤ s.data.toList.length := by omega
        have h4 : s.data.toList.length ≤ 16 := by omega
        show nmOk s.data.toList = _
        simp only [nmOk, decide_eq_true h3, decide_eq_true h4, Bool.true_and]
      clear hsl
      go_enter Tryz.func62, Tryz.ntmps62
      go_wp2
      go_loopw [14] (fun i wr => ∃ k : Nat, k ≤ s.size ∧ i = .int .i64 k ∧ (s.data.toList.take k).all nmb = true ∧ wr = w) (fun i _ => s.size - (intOf i).toNat)
      case atStart => exact ⟨0, Nat.zero_le _, rfl, by simp, rfl⟩
      case round =>
        obtain ⟨k, hk, rfl, hall, rfl⟩ := hrel
        have HA : Hid ((s.data.toList.take k).all nmb = true) := hall
        clear hall
        by_cases hlt : k < s.size
        · have hlti : (k : Int) < (s.size : Int) := by omega
          cases hb : nmb s[k] with
          | true =>
            have HB : Hid ((s.data.toList.take (k + 1)).all nmb = true) := by
              show (s.data.toList.take (k + 1)).all nmb = true
              rw [all_take hlt, HA.out, hb]
              rfl
            go_wp2_with (first | (go_at_call 91; refine (rbyte_any s[k] _).mono ?_; rintro e w' ⟨rfl, rfl⟩; rw [hb]))
            go_roundw
            case rel => exact ⟨k + 1, by omega, by go_num, HB.out, trivial⟩
            case measure => simp [intOf]; omega
          | false =>
            have HB : Hid (s.data.toList.all nmb = false) := by
              show s.data.toList.all nmb = false
              rw [List.all_eq_false]
              exact ⟨s[k], by simp [ByteArray.getElem_eq_getElem_data], by simp [hb]⟩
            go_wp2_with (first | (go_at_call 91; refine (rbyte_any s[k] _).mono ?_; rintro e w' ⟨rfl, rfl⟩; rw [hb]))
            go_ret
            exact ⟨ret_bool (by rw [HR.out, HB.out]), rfl⟩
        · have hk' : k = s.size := by omega
          subst hk'
          have HB : Hid (s.data.toList.all nmb = true) := by
            have := HA.out
            rwa [List.take_of_length_le (by simp)] at this
          go_wp2
          go_ret
          exact ⟨ret_bool (by rw [HR.out, HB.out]), rfl⟩

set_option maxHeartbeats 1000000 in
theorem tail_any (p : Option Addr) (n cap k : Nat) (w : World) (h : k ≤ n) (hn : n ≤ 1099511627776) : Calls Tryz.prog 50 #[.agg #[.slice p n cap, .int .i64 (k : Int)]] w fun e w' => e = .returned (.int .i64 ((n - k : Nat) : Int)) ∧ Below w.heap.size w w' := by
  have HE : Hid ((n : Int) - (k : Int) = ((n - k : Nat) : Int)) := by show (n : Int) - (k : Int) = ((n - k : Nat) : Int); omega
  go_enter Tryz.func50, Tryz.ntmps50
  go_wp2
  go_ret
  exact ⟨ret_int (by first | exact HE.out | (rw [← HE.out]; go_num)), by (repeat (first | exact Below.refl _ _ | assumption | refine Below.drew ?_ | refine below_drewN ?_ _ | refine Below.alloc ?_ (by first | omega | (simp; done) | (simp; omega)) _ | refine Below.setCell ?_ (by first | omega | (simp; done) | (simp; omega)) _ | refine Below.trans ?_ (Below.mono (by assumption) (by first | omega | (simp; done) | (simp; omega)))))⟩

theorem steps_any (w : World) (Z : Nat → Prop) (a : Nat) (st : St) (h : IsDisk w Z a st) : Calls Tryz.prog 43 #[.pointer (some ⟨a, 0, none⟩)] w fun e w' => e = .returned (.int .i64 (st.steps : Int)) ∧ w' = w := by
  obtain ⟨b, es, h⟩ := h
  obtain ⟨c0, c1, c2, c3, c4, cf⟩ := cell5 h.cells
  go_enter Tryz.func43, Tryz.ntmps43
  go_wp2
  go_ret
  exact ⟨rfl, rfl⟩

theorem down_any (w : World) (Z : Nat → Prop) (a : Nat) (st : St) (h : IsDisk w Z a st) : Calls Tryz.prog 17 #[.pointer (some ⟨a, 0, none⟩)] w fun e w' => e = .returned (.bool st.down) ∧ w' = w := by
  obtain ⟨b, es, h⟩ := h
  obtain ⟨c0, c1, c2, c3, c4, cf⟩ := cell5 h.cells
  go_enter Tryz.func17, Tryz.ntmps17
  go_wp2
  go_ret
  exact ⟨rfl, rfl⟩
end Go.Proofs.YtckmjmpajbjbkaaGreatDoor
