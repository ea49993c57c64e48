/- Walks of layer 3, eighth part: a truth and a text out of their bytes. -/
import Derived.Test.YtfgpopkibjijgaaR7
import Derived.Test.YtfgpopkibjijgaaSh
namespace Go.Proofs.Ytfgpopkibjijgaa
open Go.RowKit

theorem clone_any (s : ByteArray) (w : World) (hs : s.size ≤ 2147483648) : Calls Try.prog 32 #[.string s] w fun e w' => e = .returned (.string s) ∧ Below w.heap.size w w' := by
  go_enter Try.func32, Try.ntmps32
  go_wp2_with fail
  refine (Try.stringslite_Clone s _ (by omega)).mono ?_
  rintro e w1 ⟨rfl, hb1⟩
  go_wp2
  go_ret
  exact ⟨rfl, hb1⟩

theorem ba_nil {s : ByteArray} (h : s.size = 0) : s = ⟨#[]⟩ := by
  apply ByteArray.ext
  exact Array.eq_empty_of_size_eq_zero h
theorem toList_ne {s : ByteArray} (h : 0 < s.size) : (s.toList == []) = false := by
  rw [beq_eq_false_iff_ne, ByteArray.toList_eq]
  intro e
  have := congrArg List.length e
  rw [size_toList, List.length_nil] at this
  omega

set_option maxHeartbeats 2000000 in
set_option maxRecDepth 100000 in
theorem rbool_any (s : ByteArray) (w : World) (hs : s.size ≤ 2147483648) : Calls Try.prog 29 #[.string s] w (VR 2 s w) := by
  by_cases h0 : 0 < s.size
  · have hne := toList_ne h0
    have h0i : (0 : Int) < (s.size : Int) := by omega
    have h1i : (1 : Int) ≤ (s.size : Int) := by omega
    have HV : Hid (RF 2 s.data.toList (2, (s[0].toNat : Int), ⟨#[]⟩) (s.extract 1 s.size).data.toList true) := by
      rw [ext_drop, front h0]
      exact rf_bool
    have hcb := UInt8.toNat_lt s[0]
    go_enter Try.func29, Try.ntmps29
    go_wp2
    go_region
    all_goals
      go_wp2
      exact bodyPost_ret (v := .tuple #[.agg #[.int .i64 2, .int .i64 (s[0].toNat : Int), .string ⟨#[]⟩], .string (s.extract 1 s.size), .bool true]) (by simp [results, Try.results29, go_sem]) rfl ⟨(2, (s[0].toNat : Int), ⟨#[]⟩), s.extract 1 s.size, true, rfl, HV.out, by simp, by (repeat (first | exact Below.refl _ _ | assumption | refine Below.drew ?_ | refine below_drewN ?_ _ | refine Below.alloc ?_ (by first | omega | (simp; done) | (simp; omega)) _ | refine Below.setCell ?_ (by first | omega | (simp; done) | (simp; omega)) _ | refine Below.trans ?_ (Below.mono (by assumption) (by first | omega | (simp; done) | (simp; omega)))))⟩
  · obtain rfl := ba_nil (by omega : s.size = 0)
    go_enter Try.func29, Try.ntmps29
    go_wp2
    exact bodyPost_ret (v := .tuple #[.agg #[.int .i64 0, .int .i64 0, .string ⟨#[]⟩], .string ⟨#[]⟩, .bool false]) (by simp [results, Try.results29, go_sem]) rfl ⟨(0, 0, ⟨#[]⟩), ⟨#[]⟩, false, rfl, rf_bool0, by simp, by (repeat (first | exact Below.refl _ _ | assumption | refine Below.drew ?_ | refine below_drewN ?_ _ | refine Below.alloc ?_ (by first | omega | (simp; done) | (simp; omega)) _ | refine Below.setCell ?_ (by first | omega | (simp; done) | (simp; omega)) _ | refine Below.trans ?_ (Below.mono (by assumption) (by first | omega | (simp; done) | (simp; omega)))))⟩

set_option maxHeartbeats 2000000 in
set_option maxRecDepth 100000 in
theorem rtext_any (s : ByteArray) (w : World) (hs : s.size ≤ 2147483648) : Calls Try.prog 30 #[.string s] w (VR 3 s w) := by
  by_cases h0 : 0 < s.size
  · have hne := toList_ne h0
    have h0i : (0 : Int) < (s.size : Int) := by omega
    have hcb := UInt8.toNat_lt s[0]
    have hdl : (s.data.toList.drop 1).length = s.size - 1 := by simp
    obtain ⟨c, hc⟩ : ∃ c, s[0].toNat = c := ⟨_, rfl⟩
    have hfr := front h0
    by_cases hsh : s.size < 1 + c
    · have hshi : (s.size : Int) < 1 + (c : Int) := by omega
      have HV : Hid (RF 3 s.data.toList (0, 0, ⟨#[]⟩) (⟨#[]⟩ : ByteArray).data.toList false) := by
        have := rf_textshort (c := s[0]) (l := s.data.toList.drop 1) (v := (0, 0, ⟨#[]⟩)) (r := (⟨#[]⟩ : ByteArray).data.toList) (ok := false) (by omega)
        rw [← hfr] at this
        exact this
      clear hfr hdl
      go_enter Try.func30, Try.ntmps30
      go_wp2
      exact bodyPost_ret (v := .tuple #[.agg #[.int .i64 0, .int .i64 0, .string ⟨#[]⟩], .string ⟨#[]⟩, .bool false]) (by simp [results, Try.results30, go_sem]) rfl ⟨(0, 0, ⟨#[]⟩), ⟨#[]⟩, false, rfl, HV.out, Nat.zero_le _, by (repeat (first | exact Below.refl _ _ | assumption | refine Below.drew ?_ | refine below_drewN ?_ _ | refine Below.alloc ?_ (by first | omega | (simp; done) | (simp; omega)) _ | refine Below.setCell ?_ (by first | omega | (simp; done) | (simp; omega)) _ | refine Below.trans ?_ (Below.mono (by assumption) (by first | omega | (simp; done) | (simp; omega)))))⟩
    · have hshi : ¬ (s.size : Int) < 1 + (c : Int) := by omega
      obtain ⟨E, hE⟩ : ∃ E, 1 + c = E := ⟨_, rfl⟩
      have hEi : (1 : Int) + (c : Int) = (E : Int) := by omega
      have hEs : (E : Int) ≤ (s.size : Int) := by omega
      have hE1 : (1 : Int) ≤ (E : Int) := by omega
      have hEn : ¬ (s.size : Int) < (E : Int) := by omega
      have hx : (s.extract 1 E).data.toList = (s.data.toList.drop 1).take c := by
        rw [← hE]
        simp [ByteArray.data_extract]
      have HV : Hid (RF 3 s.data.toList (3, 0, s.extract 1 E) (s.extract E s.size).data.toList true) := by
        have := rf_text (c := s[0]) (l := s.data.toList.drop 1) (x := s.extract 1 E) (by rw [hc]; exact hx)
        rw [← hfr, hc, List.drop_drop, hE] at this
        rw [ext_drop]
        exact this
      have hxs : (s.extract 1 E).size ≤ 2147483648 := by simp; omega
      clear hfr hdl hx hE
      go_enter Try.func30, Try.ntmps30
      go_wp2
      go_region_law (first
        | (go_simp; go_at_call 32; refine (clone_any (s.extract 1 E) _ hxs).mono ?_; rintro e w2 ⟨rfl, hb2⟩; dsimp only; (have k0 : w2.cell? ⟨w.heap.size, 0, none⟩ = some (.int .i64 0) := cell_later hb2 (by simp)); (have k1 : w2.cell? ⟨w.heap.size, 1, none⟩ = some (.int .i64 0) := cell_later hb2 (by simp)); (have k2 : w2.cell? ⟨w.heap.size, 2, none⟩ = some (.string ⟨#[]⟩) := cell_later hb2 (by simp)); (have kf : ∀ o, w2.frozen? ⟨w.heap.size, o, none⟩ = false := fun o => by rw [hb2.frozen (p := ⟨w.heap.size, o, none⟩) (by simp)]; simp)))
      all_goals
        go_wp2
        exact bodyPost_ret (v := .tuple #[.agg #[.int .i64 3, .int .i64 0, .string (s.extract 1 E)], .string (s.extract E s.size), .bool true]) (by simp [results, Try.results30, go_sem, *]) rfl ⟨(3, 0, s.extract 1 E), s.extract E s.size, true, rfl, HV.out, by simp, by (repeat (first | exact Below.refl _ _ | assumption | refine Below.drew ?_ | refine below_drewN ?_ _ | refine Below.alloc ?_ (by first | omega | (simp; done) | (simp; omega)) _ | refine Below.setCell ?_ (by first | omega | (simp; done) | (simp; omega)) _ | refine Below.trans ?_ (Below.mono (by assumption) (by first | omega | (simp; done) | (simp; omega)))))⟩
  · obtain rfl := ba_nil (by omega : s.size = 0)
    go_enter Try.func30, Try.ntmps30
    go_wp2
    exact bodyPost_ret (v := .tuple #[.agg #[.int .i64 0, .int .i64 0, .string ⟨#[]⟩], .string ⟨#[]⟩, .bool false]) (by simp [results, Try.results30, go_sem]) rfl ⟨(0, 0, ⟨#[]⟩), ⟨#[]⟩, false, rfl, rf_text0, by simp, by (repeat (first | exact Below.refl _ _ | assumption | refine Below.drew ?_ | refine below_drewN ?_ _ | refine Below.alloc ?_ (by first | omega | (simp; done) | (simp; omega)) _ | refine Below.setCell ?_ (by first | omega | (simp; done) | (simp; omega)) _ | refine Below.trans ?_ (Below.mono (by assumption) (by first | omega | (simp; done) | (simp; omega)))))⟩
end Go.Proofs.Ytfgpopkibjijgaa
