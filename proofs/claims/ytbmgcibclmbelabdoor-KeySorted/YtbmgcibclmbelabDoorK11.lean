/- Walks of layer 2, eleventh part: a value out of its bytes. -/
import Derived.Test.YtbmgcibclmbelabDoorK10
namespace Go.Proofs.YtbmgcibclmbelabDoor
open Go.RowKit

theorem front {s : ByteArray} (h : 0 < s.size) : s.data.toList = s[0] :: s.data.toList.drop 1 := by
  have := drop_next (s := s) (k := 0) h
  simpa using this

set_option maxHeartbeats 4000000 in
set_option maxRecDepth 100000 in
theorem rval_any (s : ByteArray) (w : World) (h0 : 0 < s.size) (hs : s.size ≤ 2147483648) : Calls Tryd.prog 17 #[.string s] w (VN s w) := by
  have HF : Hid (s.data.toList = s[0] :: s.data.toList.drop 1) := front h0
  have hdl : (s.data.toList.drop 1).length = s.size - 1 := by simp
  have h0i : (0 : Int) < (s.size : Int) := by omega
  by_cases c1 : s[0].toNat = 1
  · have HV : Hid (RV s.data.toList (0, 0, ⟨#[]⟩) 1) := by
      have := rv_null (l := s.data.toList.drop 1) (UInt8.toNat_inj.1 c1 : s[0] = 1)
      rw [← HF.out] at this
      exact this
    go_enter Tryd.func17, Tryd.ntmps17
    go_wp2
    exact bodyPost_ret (v := .tuple #[.agg #[.int .i64 0, .int .i64 0, .string ⟨#[]⟩], .int .i64 (1 : Nat)]) (by simp [results, Tryd.results17, go_sem]) rfl ⟨(0, 0, ⟨#[]⟩), 1, rfl, HV.out, by (repeat (first | exact Below.refl _ _ | assumption | refine Below.drew ?_ | refine below_drewN ?_ _ | refine Below.alloc ?_ (by first | omega | (simp; done) | (simp; omega)) _ | refine Below.setCell ?_ (by first | omega | (simp; done) | (simp; omega)) _ | refine Below.trans ?_ (Below.mono (by assumption) (by first | omega | (simp; done) | (simp; omega)))))⟩
  · have c1' : ((s[0].toNat : Int) == 1) = false := u8_ne (n := 1) c1
    by_cases c2 : s[0].toNat = 2
    · by_cases h9 : s.size < 9
      · have h9' : (s.size : Int) < 9 := by omega
        have HV : Hid (RV s.data.toList (0, 0, ⟨#[]⟩) 0) := by
          have := rv_short (l := s.data.toList.drop 1) (0, 0, ⟨#[]⟩) (UInt8.toNat_inj.1 c2 : s[0] = 2) (by omega)
          rw [← HF.out] at this
          exact this
        clear c1
        go_enter Tryd.func17, Tryd.ntmps17
        go_wp2
        exact bodyPost_ret (v := .tuple #[.agg #[.int .i64 0, .int .i64 0, .string ⟨#[]⟩], .int .i64 (0 : Nat)]) (by simp [results, Tryd.results17, go_sem]) rfl ⟨(0, 0, ⟨#[]⟩), 0, rfl, HV.out, by (repeat (first | exact Below.refl _ _ | assumption | refine Below.drew ?_ | refine below_drewN ?_ _ | refine Below.alloc ?_ (by first | omega | (simp; done) | (simp; omega)) _ | refine Below.setCell ?_ (by first | omega | (simp; done) | (simp; omega)) _ | refine Below.trans ?_ (Below.mono (by assumption) (by first | omega | (simp; done) | (simp; omega)))))⟩
      · have h9' : ¬ (s.size : Int) < 9 := by omega
        have h9'' : (9 : Int) ≤ (s.size : Int) := by omega
        have hxe : (s.extract 1 9).data.toList = (s.data.toList.drop 1).take 8 := by
          simp [ByteArray.data_extract]
        have HV : Hid (RV s.data.toList (1, (val8 (s.extract 1 9).data.toList : Int) - 9223372036854775808, ⟨#[]⟩) 9) := by
          have := rv_int (l := s.data.toList.drop 1) (UInt8.toNat_inj.1 c2 : s[0] = 2) (by omega)
          rw [← HF.out, ← hxe] at this
          exact this
        have hvl : val8 (s.extract 1 9).data.toList < 18446744073709551616 := val8_lt _ (by rw [hxe]; simp; omega)
        obtain ⟨X, hX⟩ : ∃ X, val8 (s.extract 1 9).data.toList = X := ⟨_, rfl⟩
        have hxs : (s.extract 1 9).size ≤ 8 := by simp; omega
        rw [hX] at HV hvl
        have HX : Hid (val8 (s.extract 1 9).data.toList = X) := hX
        clear c1 h9 hX hxe
        go_enter Tryd.func17, Tryd.ntmps17
        go_wp2_with (first | (go_at_call 24; refine (rword_any _ _ hxs).mono ?_; rintro e w' ⟨rfl, rfl⟩; rw [HX.out]))
        exact bodyPost_ret (v := .tuple #[.agg #[.int .i64 1, .int .i64 ((X : Int) - 9223372036854775808), .string ⟨#[]⟩], .int .i64 (9 : Nat)]) (by simp [results, Tryd.results17, go_sem]; unfold wrap64; rw [IntKind.wrap_u64]; omega) rfl ⟨(1, (X : Int) - 9223372036854775808, ⟨#[]⟩), 9, rfl, HV.out, by (repeat (first | exact Below.refl _ _ | assumption | refine Below.drew ?_ | refine below_drewN ?_ _ | refine Below.alloc ?_ (by first | omega | (simp; done) | (simp; omega)) _ | refine Below.setCell ?_ (by first | omega | (simp; done) | (simp; omega)) _ | refine Below.trans ?_ (Below.mono (by assumption) (by first | omega | (simp; done) | (simp; omega)))))⟩
    · have c2' : ((s[0].toNat : Int) == 2) = false := u8_ne (n := 2) c2
      by_cases c3 : s[0].toNat = 3
      · by_cases h9 : s.size < 2
        · have h9' : (s.size : Int) < 2 := by omega
          have HV : Hid (RV s.data.toList (0, 0, ⟨#[]⟩) 0) := by
            have := rv_bool1 (l := s.data.toList.drop 1) (0, 0, ⟨#[]⟩) (UInt8.toNat_inj.1 c3 : s[0] = 3) (by omega)
            rw [← HF.out] at this
            exact this
          clear c1 c2
          go_enter Tryd.func17, Tryd.ntmps17
          go_wp2
          exact bodyPost_ret (v := .tuple #[.agg #[.int .i64 0, .int .i64 0, .string ⟨#[]⟩], .int .i64 (0 : Nat)]) (by simp [results, Tryd.results17, go_sem]) rfl ⟨(0, 0, ⟨#[]⟩), 0, rfl, HV.out, by (repeat (first | exact Below.refl _ _ | assumption | refine Below.drew ?_ | refine below_drewN ?_ _ | refine Below.alloc ?_ (by first | omega | (simp; done) | (simp; omega)) _ | refine Below.setCell ?_ (by first | omega | (simp; done) | (simp; omega)) _ | refine Below.trans ?_ (Below.mono (by assumption) (by first | omega | (simp; done) | (simp; omega)))))⟩
        · have h9' : ¬ (s.size : Int) < 2 := by omega
          have h9'' : (1 : Int) < (s.size : Int) := by omega
          have h1s : 1 < s.size := by omega
          have HV : Hid (RV s.data.toList (2, (s[1].toNat : Int), ⟨#[]⟩) 2) := by
            have := rv_bool (d := s[1]) (l := s.data.toList.drop 2) (UInt8.toNat_inj.1 c3 : s[0] = 3)
            rw [← drop_next h1s, ← HF.out] at this
            exact this
          clear c1 c2 h9
          go_enter Tryd.func17, Tryd.ntmps17
          go_wp2
          exact bodyPost_ret (v := .tuple #[.agg #[.int .i64 2, .int .i64 (s[1].toNat : Int), .string ⟨#[]⟩], .int .i64 (2 : Nat)]) (by have hcb := UInt8.toNat_lt s[1]; simp [results, Tryd.results17, go_sem]; unfold wrap64; omega) rfl ⟨(2, (s[1].toNat : Int), ⟨#[]⟩), 2, rfl, HV.out, by (repeat (first | exact Below.refl _ _ | assumption | refine Below.drew ?_ | refine below_drewN ?_ _ | refine Below.alloc ?_ (by first | omega | (simp; done) | (simp; omega)) _ | refine Below.setCell ?_ (by first | omega | (simp; done) | (simp; omega)) _ | refine Below.trans ?_ (Below.mono (by assumption) (by first | omega | (simp; done) | (simp; omega)))))⟩
      · have c3' : ((s[0].toNat : Int) == 3) = false := u8_ne (n := 3) c3
        by_cases c4 : s[0].toNat = 4
        · have H4 : Hid (s.data.toList.take 1 = [4]) := by
            have : s.data.toList.take 1 = [4] := by
              rw [HF.out, (UInt8.toNat_inj.1 c4 : s[0] = 4)]
              rfl
            exact this
          clear c1 c2 c3
          go_enter Tryd.func17, Tryd.ntmps17
          go_wp2_with (first | (go_at_call 25; refine (rtext_any _ _ H4.out hs).mono ?_; rintro e w' ⟨v, n, rfl, hv, hb⟩; obtain ⟨hc, hf⟩ := bcell hb; have hz := hb.size; (try simp at hz); (have hz0 : w.heap.size < w'.heap.size := by omega)))
          exact bodyPost_ret (v := .tuple #[.agg #[.int .i64 v.1, .int .i64 v.2.1, .string v.2.2], .int .i64 n]) (by simp [results, Tryd.results17, go_sem, *]) rfl ⟨v, n, rfl, hv, by (repeat (first | exact Below.refl _ _ | assumption | refine Below.drew ?_ | refine below_drewN ?_ _ | refine Below.alloc ?_ (by first | omega | (simp; done) | (simp; omega)) _ | refine Below.setCell ?_ (by first | omega | (simp; done) | (simp; omega)) _ | refine Below.trans ?_ (Below.mono (by assumption) (by first | omega | (simp; done) | (simp; omega)))))⟩
        · have c4' : ((s[0].toNat : Int) == 4) = false := u8_ne (n := 4) c4
          have HV : Hid (RV s.data.toList (0, 0, ⟨#[]⟩) 0) := by
            have := rv_none (c := s[0]) (l := s.data.toList.drop 1) (0, 0, ⟨#[]⟩) (fun h => c1 (by rw [h]; rfl)) (fun h => c2 (by rw [h]; rfl)) (fun h => c3 (by rw [h]; rfl)) (fun h => c4 (by rw [h]; rfl))
            rw [← HF.out] at this
            exact this
          clear c1 c2 c3 c4
          go_enter Tryd.func17, Tryd.ntmps17
          go_wp2
          exact bodyPost_ret (v := .tuple #[.agg #[.int .i64 0, .int .i64 0, .string ⟨#[]⟩], .int .i64 (0 : Nat)]) (by simp [results, Tryd.results17, go_sem]) rfl ⟨(0, 0, ⟨#[]⟩), 0, rfl, HV.out, by (repeat (first | exact Below.refl _ _ | assumption | refine Below.drew ?_ | refine below_drewN ?_ _ | refine Below.alloc ?_ (by first | omega | (simp; done) | (simp; omega)) _ | refine Below.setCell ?_ (by first | omega | (simp; done) | (simp; omega)) _ | refine Below.trans ?_ (Below.mono (by assumption) (by first | omega | (simp; done) | (simp; omega)))))⟩
end Go.Proofs.YtbmgcibclmbelabDoor
