/- Walks of layer 2, thirteenth part: what the document reads at the front of a text. -/
import Derived.Test.YtbmgcibclmbelaaDoorK12
namespace Go.Proofs.YtbmgcibclmbelaaDoor
open Go.RowKit

/-- What read answers. -/
def RN (s : ByteArray) (w : World) (e : Ending) (w' : World) : Prop := ∃ (v : V3) (n : Nat), e = .returned (.tuple #[.agg #[.int .i64 v.1, .int .i64 v.2.1, .string v.2.2], .int .i64 n]) ∧ RR s.data.toList v n ∧ Below w.heap.size w w'

set_option maxHeartbeats 4000000 in
set_option maxRecDepth 100000 in
theorem read_small (s : ByteArray) (w : World) (h0 : 0 < s.size) (c2 : ¬ s[0].toNat = 2) (c4 : ¬ s[0].toNat = 4) : Calls Tryd.prog 25 #[.string s] w (RN s w) := by
  have HF : Hid (s.data.toList = s[0] :: s.data.toList.drop 1) := front h0
  have h0i : (0 : Int) < (s.size : Int) := by omega
  have hcb := UInt8.toNat_lt s[0]
  have hw1 : wrap64 (s[0].toNat : Int) = (s[0].toNat : Int) := by unfold wrap64; omega
  have hw2 : wrap64 ((s[0].toNat : Int) - 1) = (s[0].toNat : Int) - 1 := by unfold wrap64; omega
  have c2' : ((s[0].toNat : Int) - 1 == 1) = false := by rw [beq_eq_false_iff_ne]; omega
  have c4' : ((s[0].toNat : Int) - 1 == 3) = false := by rw [beq_eq_false_iff_ne]; omega
  by_cases c3 : s[0].toNat = 3
  · by_cases h2 : 1 < s.size
    · have h2' : (1 : Int) < (s.size : Int) := by omega
      have hcb1 := UInt8.toNat_lt s[1]
      have HV : Hid (RR s.data.toList (2, (s[1].toNat : Int), ⟨#[]⟩) 2) := by
        have := rr_bool (d := s[1]) (l := s.data.toList.drop 2) (UInt8.toNat_inj.1 c3 : s[0] = 3)
        rw [← drop_next h2, ← HF.out] at this
        exact this
      clear c2 c4 c2' c4' hw1 hw2
      go_enter Tryd.func25, Tryd.ntmps25
      go_wp2
      exact bodyPost_ret (v := .tuple #[.agg #[.int .i64 2, .int .i64 (s[1].toNat : Int), .string ⟨#[]⟩], .int .i64 (2 : Nat)]) (by simp [results, Tryd.results25, go_sem]) rfl ⟨(2, (s[1].toNat : Int), ⟨#[]⟩), 2, rfl, HV.out, by (repeat (first | exact Below.refl _ _ | assumption | refine Below.drew ?_ | refine below_drewN ?_ _ | refine Below.alloc ?_ (by first | omega | (simp; done) | (simp; omega)) _ | refine Below.setCell ?_ (by first | omega | (simp; done) | (simp; omega)) _ | refine Below.trans ?_ (Below.mono (by assumption) (by first | omega | (simp; done) | (simp; omega)))))⟩
    · have h2' : ¬ (1 : Int) < (s.size : Int) := by omega
      have HV : Hid (RR s.data.toList (2, 0, ⟨#[]⟩) 1) := by
        have := rr_bool1 (2, 0, ⟨#[]⟩) (UInt8.toNat_inj.1 c3 : s[0] = 3)
        have e : s.data.toList = [s[0]] := by rw [HF.out, List.drop_of_length_le (by simp; omega)]
        rw [← e] at this
        exact this
      clear c2 c4 c2' c4' hw1 hw2 h2
      go_enter Tryd.func25, Tryd.ntmps25
      go_wp2
      exact bodyPost_ret (v := .tuple #[.agg #[.int .i64 2, .int .i64 0, .string ⟨#[]⟩], .int .i64 (1 : Nat)]) (by simp [results, Tryd.results25, go_sem]) rfl ⟨(2, 0, ⟨#[]⟩), 1, rfl, HV.out, by (repeat (first | exact Below.refl _ _ | assumption | refine Below.drew ?_ | refine below_drewN ?_ _ | refine Below.alloc ?_ (by first | omega | (simp; done) | (simp; omega)) _ | refine Below.setCell ?_ (by first | omega | (simp; done) | (simp; omega)) _ | refine Below.trans ?_ (Below.mono (by assumption) (by first | omega | (simp; done) | (simp; omega)))))⟩
  · have c3' : ((s[0].toNat : Int) - 1 == 2) = false := by rw [beq_eq_false_iff_ne]; omega
    have HV : Hid (RR s.data.toList ((s[0].toNat : Int) - 1, 0, ⟨#[]⟩) 1) := by
      by_cases c1 : s[0].toNat = 1
      · have := rr_null (l := s.data.toList.drop 1) (UInt8.toNat_inj.1 c1 : s[0] = 1)
        rw [← HF.out] at this
        rw [c1]
        exact this
      · have := rr_none (c := s[0]) (l := s.data.toList.drop 1) ((s[0].toNat : Int) - 1, 0, ⟨#[]⟩) (fun h => c1 (by rw [h]; rfl)) (fun h => c2 (by rw [h]; rfl)) (fun h => c3 (by rw [h]; rfl)) (fun h => c4 (by rw [h]; rfl))
        rw [← HF.out] at this
        exact this
    clear c2 c4 c3
    go_enter Tryd.func25, Tryd.ntmps25
    go_wp2
    exact bodyPost_ret (v := .tuple #[.agg #[.int .i64 ((s[0].toNat : Int) - 1), .int .i64 0, .string ⟨#[]⟩], .int .i64 (1 : Nat)]) (by simp [results, Tryd.results25, go_sem]) rfl ⟨((s[0].toNat : Int) - 1, 0, ⟨#[]⟩), 1, rfl, HV.out, by (repeat (first | exact Below.refl _ _ | assumption | refine Below.drew ?_ | refine below_drewN ?_ _ | refine Below.alloc ?_ (by first | omega | (simp; done) | (simp; omega)) _ | refine Below.setCell ?_ (by first | omega | (simp; done) | (simp; omega)) _ | refine Below.trans ?_ (Below.mono (by assumption) (by first | omega | (simp; done) | (simp; omega)))))⟩

set_option maxHeartbeats 4000000 in
set_option maxRecDepth 100000 in
theorem read_int (s : ByteArray) (w : World) (h0 : 0 < s.size) (hs : s.size ≤ 2147483648) (c2 : s[0].toNat = 2) : Calls Tryd.prog 25 #[.string s] w (RN s w) := by
  have HF : Hid (s.data.toList = s[0] :: s.data.toList.drop 1) := front h0
  have h0i : (0 : Int) < (s.size : Int) := by omega
  go_enter Tryd.func25, Tryd.ntmps25
  go_wp2
  go_loopw [5, 6] (fun i v wr => ∃ k : Nat, 1 ≤ k ∧ k ≤ 9 ∧ k ≤ s.size ∧ i = .int .i64 k ∧ (∃ x : Int, v = .int .u64 x ∧ x = (val8 ((s.data.toList.drop 1).take (k - 1)) : Int)) ∧ Below w.heap.size w wr ∧ wr.cell? ⟨w.heap.size, 0, none⟩ = some (.int .i64 0) ∧ wr.cell? ⟨w.heap.size, 1, none⟩ = some (.int .i64 0) ∧ wr.cell? ⟨w.heap.size, 2, none⟩ = some (.string ⟨#[]⟩) ∧ wr.cell? ⟨w.heap.size + 1, 0, none⟩ = some (.int .i64 1) ∧ wr.cell? ⟨w.heap.size + 1, 1, none⟩ = some (.int .i64 0) ∧ wr.cell? ⟨w.heap.size + 1, 2, none⟩ = some (.string ⟨#[]⟩) ∧ (∀ o, wr.frozen? ⟨w.heap.size, o, none⟩ = false) ∧ (∀ o, wr.frozen? ⟨w.heap.size + 1, o, none⟩ = false) ∧ w.heap.size + 1 < wr.heap.size) (fun i _ _ => 9 - (intOf i).toNat)
  case atStart => exact ⟨1, by omega, by omega, by omega, rfl, ⟨0, rfl, by simp [val8]⟩, by (repeat (first | exact Below.refl _ _ | assumption | refine Below.drew ?_ | refine below_drewN ?_ _ | refine Below.alloc ?_ (by first | omega | (simp; done) | (simp; omega)) _ | refine Below.setCell ?_ (by first | omega | (simp; done) | (simp; omega)) _ | refine Below.trans ?_ (Below.mono (by assumption) (by first | omega | (simp; done) | (simp; omega))))), by simp, by simp, by simp, by simp, by simp, by simp, by simp, by simp, by simp⟩
  case round =>
    obtain ⟨k, hk1, hk9, hks, rfl, ⟨x, rfl, hx⟩, hb, r0, r1, r2, q0, q1, q2, rf, qf, hz⟩ := hrel
    have hz' : w.heap.size < wr.heap.size := by omega
    by_cases hgo : k < 9 ∧ k < s.size
    · obtain ⟨hk8, hlt⟩ := hgo
      have hk8i : (k : Int) < 9 := by omega
      have hlti : (k : Int) < (s.size : Int) := by omega
      have hnx : (s.data.toList.drop 1).take (k + 1 - 1) = (s.data.toList.drop 1).take (k - 1) ++ [s[k]] := by
        have e : k + 1 - 1 = (k - 1) + 1 := by omega
        rw [e, List.take_succ_eq_append_getElem (by simp; omega)]
        congr 2
        simp
        have e2 : k - 1 + 1 = k := by omega
        simp only [e2]
        rfl
      have hv : val8 ((s.data.toList.drop 1).take (k + 1 - 1)) < 18446744073709551616 := val8_lt _ (by rw [List.length_take]; omega)
      have hvs : val8 ((s.data.toList.drop 1).take (k + 1 - 1)) = val8 ((s.data.toList.drop 1).take (k - 1)) * 256 + s[k].toNat := by rw [hnx, val8_snoc]
      have hcb := UInt8.toNat_lt s[k]
      obtain ⟨Y, hY⟩ : ∃ Y, val8 ((s.data.toList.drop 1).take (k + 1 - 1)) = Y := ⟨_, rfl⟩
      have HB : Hid (IntKind.u64.wrap (IntKind.u64.wrap (x * 256) + IntKind.u64.wrap (s[k].toNat : Int)) = (Y : Int)) := by
        show IntKind.u64.wrap (IntKind.u64.wrap (x * 256) + IntKind.u64.wrap (s[k].toNat : Int)) = (Y : Int)
        rw [IntKind.wrap_u64, IntKind.wrap_u64, IntKind.wrap_u64]
        omega
      have HY : Hid (val8 ((s.data.toList.drop 1).take (k + 1 - 1)) = Y) := hY
      clear hx hv hvs hnx hcb hY
      go_wp2
      go_roundw
      case rel => exact ⟨k + 1, by omega, by omega, by omega, by go_num, ⟨_, rfl, by rw [HY.out]; exact HB.out⟩, hb, r0, r1, r2, q0, q1, q2, rf, qf, hz⟩
      case measure => simp [intOf]; omega
    · have hgo' : ¬ ((k : Int) < 9 ∧ (k : Int) < (s.size : Int)) := by omega
      have hv : val8 ((s.data.toList.drop 1).take (k - 1)) < 18446744073709551616 := val8_lt _ (by rw [List.length_take]; omega)
      have hdl : (s.data.toList.drop 1).length = s.size - 1 := by simp
      have HV : Hid (RR s.data.toList (1, x - 9223372036854775808, ⟨#[]⟩) k) := by
        have := rr_int (l := s.data.toList.drop 1) (UInt8.toNat_inj.1 c2 : s[0] = 2) (x - 9223372036854775808) k (by omega) (by
          intro h8
          have e : k - 1 = 8 := by omega
          rw [hx, e])
        rw [← HF.out] at this
        exact this
      have hx0 : 0 ≤ x := by omega
      have hx1 : x < 18446744073709551616 := by omega
      have HW : Hid (wrap64 (IntKind.u64.wrap (x - 9223372036854775808)) = x - 9223372036854775808) := by
        show wrap64 (IntKind.u64.wrap (x - 9223372036854775808)) = x - 9223372036854775808
        rw [IntKind.wrap_u64]
        unfold wrap64
        omega
      clear hgo hx hv hdl
      go_wp2
      all_goals exact bodyPost_ret (v := .tuple #[.agg #[.int .i64 1, .int .i64 (x - 9223372036854775808), .string ⟨#[]⟩], .int .i64 k]) (by simp [results, Tryd.results25, go_sem, *]; first | done | exact HW.out) rfl ⟨(1, x - 9223372036854775808, ⟨#[]⟩), k, rfl, HV.out, by (repeat (first | exact Below.refl _ _ | assumption | refine Below.drew ?_ | refine below_drewN ?_ _ | refine Below.alloc ?_ (by first | omega | (simp; done) | (simp; omega)) _ | refine Below.setCell ?_ (by first | omega | (simp; done) | (simp; omega)) _ | refine Below.trans ?_ (Below.mono (by assumption) (by first | omega | (simp; done) | (simp; omega)))))⟩
end Go.Proofs.YtbmgcibclmbelaaDoor
