/- Walks of layer 5, eighth part: the chapter's examples; FrameWraps. -/
import Derived.Test.YtndackikakpanaaG7
namespace Go.Proofs.Ytndackikakpanaa
open Go.RowKit

theorem ex_sum : crc [49, 50, 51, 52, 53, 54, 55, 56, 57] = 3421780262 := by decide +kernel
theorem ex_frm : frm [] = [0, 0, 255, 18, 217, 65] := by decide +kernel
def ex0 : ByteArray := ⟨#[0, 0, 255, 18, 217, 65]⟩
theorem ex_wrap : wrS ⟨#[]⟩ = ex0 := by
  unfold wrS
  rw [if_pos (by decide)]
  show (⟨(frm []).toArray⟩ : ByteArray) = ex0
  rw [ex_frm]
  rfl
theorem ex_list : ex0.data.toList = frm [] := by rw [ex_frm]; rfl
theorem ex_read0 : rdT ex0 0 = (⟨#[]⟩, 6, 0) := by
  have h : rd (ex0.data.toList.drop 0) = some [] := by
    rw [List.drop_zero, ex_list, ← List.append_nil (frm [])]
    exact rd_frm (by decide) []
  exact rdT_some (a := 0) (by decide) h
theorem ex_read6 : rdT ex0 6 = (⟨#[]⟩, 0, 50) := by
  have h : rd (ex0.data.toList.drop 6) = none := rd_nil
  exact rdT_none (a := 6) (by decide) h
theorem ex_read7 : rdT ex0 7 = (⟨#[]⟩, 0, 1) := rdT_arg (Or.inr (by decide))
theorem ex_all : AllIs (ex0 ++ ex0 ++ ⟨#[1]⟩ : ByteArray).data.toList [[], []] 12 := by
  refine ⟨by simp, by decide +kernel, [1], ?_, rd_short (by decide)⟩
  have : (ex0 ++ ex0 ++ ⟨#[1]⟩ : ByteArray).data.toList = ex0.data.toList ++ ex0.data.toList ++ [1] := by simp
  rw [this, ex_list]
  simp [cat]

theorem ret_u32 {a b : Nat} (h : a = b) : Ending.returned (.int .u32 (a : Int)) = .returned (.int .u32 (b : Int)) := by rw [h]
theorem ex1_any (w : World) : Calls Try.prog 9 #[.string ⟨#[49, 50, 51, 52, 53, 54, 55, 56, 57]⟩] w fun e w' => e = .returned (.int .u32 3421780262) ∧ w' = w := by
  obtain ⟨t, ht⟩ : ∃ t : ByteArray, t = ⟨#[49, 50, 51, 52, 53, 54, 55, 56, 57]⟩ := ⟨_, rfl⟩
  have hz : t.size ≤ 1099511627776 := by rw [ht]; decide
  have hx : crc t.data.toList = 3421780262 := by rw [ht]; exact ex_sum
  rw [← ht]
  clear ht
  refine (sum_any t w hz).mono ?_
  rintro e w' ⟨rfl, h⟩
  exact ⟨ret_u32 hx, h⟩
theorem ex2_any (w : World) : Calls Try.prog 11 #[.string ⟨#[]⟩] w fun e w' => ∃ s, e = .returned (.tuple #[.string s, .int .i64 0]) ∧ s = ex0 ∧ Below w.heap.size w w' := by
  obtain ⟨t, ht⟩ : ∃ t : ByteArray, t = ⟨#[]⟩ := ⟨_, rfl⟩
  have hz : t.size ≤ 1099511627776 := by rw [ht]; decide
  have hx : wrS t = ex0 := by rw [ht]; exact ex_wrap
  have hy : wrE t = 0 := by rw [ht]; exact if_pos (by decide)
  rw [← ht]
  clear ht
  refine (wrap_any t w hz).mono ?_
  rintro e w' ⟨rfl, h⟩
  exact ⟨wrS t, by rw [hy], hx, h⟩
theorem ex3_any (s : ByteArray) (x : Int) (n e' : Int) (w : World) (hs : s = ex0) (h : rdT ex0 x = (⟨#[]⟩, n, e')) : Calls Try.prog 13 #[.string s, .int .i64 x] w fun e w' => e = .returned (.tuple #[.string ⟨#[]⟩, .int .i64 n, .int .i64 e']) ∧ Below w.heap.size w w' := by
  have hz : s.size ≤ 1099511627776 := by rw [hs]; decide
  have hx : rdT s x = (⟨#[]⟩, n, e') := by rw [hs]; exact h
  clear hs h
  refine (read_any s x w hz).mono ?_
  rintro e w' ⟨rfl, h⟩
  exact ⟨by rw [hx], h⟩
theorem ex4_any (s : ByteArray) (w : World) (hs : s = ex0) : Calls Try.prog 16 #[.string (s ++ s ++ ⟨#[1]⟩)] w fun e w' => ∃ p cap, e = .returned (.tuple #[.slice p 2 cap, .int .i64 12]) ∧ Below w.heap.size w w' := by
  obtain ⟨t, ht⟩ : ∃ t : ByteArray, t = s ++ s ++ ⟨#[1]⟩ := ⟨_, rfl⟩
  have hz : t.size ≤ 4294967296 := by rw [ht, hs]; decide
  have hex : AllIs t.data.toList [[], []] 12 := by rw [ht, hs]; exact ex_all
  rw [← ht]
  clear ht hs
  refine (all_any t w hz).mono ?_
  rintro e w' ⟨v, ds, n, rfl, hall, hown, hb⟩
  obtain ⟨rfl, rfl⟩ := hall.unique' hex
  obtain ⟨p, cap, rfl, _⟩ := own_strs hown
  exact ⟨p, cap, rfl, hb⟩
theorem ex_six {s : ByteArray} (hs : s = ex0) : s.size = 6 := by rw [hs]; rfl
theorem ex_seen {s : ByteArray} (hs : s = ex0) : (s.toList == [0, 0, 255, 18, 217, 65]) = true := by rw [hs, ByteArray.toList_eq]; decide

set_option maxHeartbeats 4000000 in
set_option maxRecDepth 100000 in
theorem awake_any (w : World) : Calls Try.prog 8 #[] w fun e w' => e = .returned (.bool true) ∧ Below w.heap.size w w' := by
  go_enter Try.func8, Try.ntmps8
  go_wp2_with fail
  refine (ex1_any w).mono ?_
  rintro e w1 ⟨rfl, hw⟩
  have hw' := hw.symm
  subst hw'
  clear hw
  go_wp2_with fail
  refine (ex2_any w).mono ?_
  rintro e w2 ⟨s, rfl, hs, hb2⟩
  have HS : Hid (s = ex0) := hs
  have hss : s.size = 6 := ex_six hs
  have hq := ex_seen hs
  clear hs
  go_wp2_with fail
  refine (ex3_any s 0 6 0 w2 HS.out ex_read0).mono ?_
  rintro e w3 ⟨rfl, hb3⟩
  go_wp2_with fail
  refine (ex3_any s 6 0 50 w3 HS.out ex_read6).mono ?_
  rintro e w4 ⟨rfl, hb4⟩
  go_wp2_with fail
  refine (ex3_any s 7 0 1 w4 HS.out ex_read7).mono ?_
  rintro e w5 ⟨rfl, hb5⟩
  have h12 : (s ++ s).size = 12 := by rw [ByteArray.size_append, hss]
  have HB5 : Hid (Below w.heap.size w w5) := below_two (below_two (below_two hb2 hb3) hb4) hb5
  clear hb2 hb3 hb4 hb5
  go_wp2_with fail
  refine (ex4_any s w5 HS.out).mono ?_
  rintro e w6 ⟨p, cap, rfl, hb6⟩
  have HB6 : Hid (Below w.heap.size w w6) := below_two HB5.out hb6
  clear hb6 h12
  go_wp2
  go_ret
  exact ⟨rfl, HB6.out⟩

set_option maxHeartbeats 4000000 in
set_option maxRecDepth 100000 in
theorem wraps_law (d : ByteArray) (w : World) : Calls Try.prog 3 #[.string d] w fun e w' => e = .returned (.bool true) ∧ Below w.heap.size w w' := by
  by_cases hd : 2147483647 < d.size
  · have hdi : (2147483647 : Int) < (d.size : Int) := by omega
    go_enter Try.func3, Try.ntmps3
    go_wp2
    go_ret
    exact ⟨rfl, Below.refl _ _⟩
  · have hdi : ¬ (2147483647 : Int) < (d.size : Int) := by omega
    go_enter Try.func3, Try.ntmps3
    go_wp2_with fail
    refine (awake_any w).mono ?_
    rintro e w1 ⟨rfl, hb1⟩
    go_wp2_with fail
    refine (sum_any d w1 (by omega)).mono ?_
    rintro e w2 ⟨rfl, hw⟩
    have hw' := hw.symm
    subst hw'
    clear hw
    go_wp2_with fail
    refine (rsum_any d w1 (by omega)).mono ?_
    rintro e w3 ⟨rfl, hw⟩
    have hw' := hw.symm
    subst hw'
    clear hw
    go_wp2_with fail
    refine (wrap_any d w1 (by omega)).mono ?_
    rintro e w4 ⟨rfl, hb4⟩
    go_wp2_with fail
    refine (rwrap_any d w4 (by omega)).mono ?_
    rintro e w5 ⟨rfl, hb5⟩
    have HB : Hid (Below w.heap.size w w5) := below_two (below_two hb1 hb4) hb5
    clear hb1 hb4 hb5
    obtain ⟨s, hs⟩ : ∃ s, s = wrS d := ⟨_, rfl⟩
    obtain ⟨x, hx⟩ : ∃ x, x = wrE d := ⟨_, rfl⟩
    obtain ⟨c, hc⟩ : ∃ c, c = crc d.data.toList := ⟨_, rfl⟩
    rw [← hs, ← hx, ← hc]
    clear hs hx hc
    go_wp2
    go_ret
    exact ⟨rfl, HB.out⟩
end Go.Proofs.Ytndackikakpanaa
