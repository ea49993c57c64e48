/- Walks of layer 3, third part: a value's bytes behind others. -/
import Derived.Test.YtfgpopkibjijgaaR2
import Derived.Test.YtfgpopkibjijgaaC5
namespace Go.Proofs.Ytfgpopkibjijgaa
open Go.RowKit

/-- A value's bytes behind others. -/
def AV (B n : Nat) (xs : List UInt8) (u : V3) (w : World) (e : Ending) (w' : World) : Prop := ∃ v', e = .returned v' ∧ w'.ownsRow B 5 1 v' (n + (rb u).length) (bv (xs ++ rb u)) ∧ Below B w w'
theorem strCells_ba (s : ByteArray) : Lib.strCells s = bv s.data.toList := by simp [Lib.strCells, bv]

set_option maxHeartbeats 2000000 in
set_option maxRecDepth 100000 in
theorem av_null (B n : Nat) (v : Value) (xs : List UInt8) (w : World) (hown : w.ownsRow B 5 1 v n (bv xs)) (hB : B ≤ w.heap.size) :
    Calls Try.prog 17 #[v, .agg #[.int .i64 0, .int .i64 0, .string ⟨#[]⟩]] w (AV B n xs (0, 0, ⟨#[]⟩) w) := by
  go_enter Try.func17, Try.ntmps17
  go_wp2
  go_ret
  refine ⟨v, rfl, ?_, (Below.refl _ _).alloc hB _⟩
  rw [rb_null rfl]
  simpa using hown.alloc _

set_option maxHeartbeats 2000000 in
set_option maxRecDepth 100000 in
theorem av_int (B n : Nat) (v : Value) (xs : List UInt8) (w : World) (c : Int) (hc1 : -4611686018427387904 ≤ c) (hc2 : c ≤ 4611686018427387904) (hown : w.ownsRow B 5 1 v n (bv xs)) (hn : n ≤ 1000000000) (hB : B ≤ w.heap.size) :
    Calls Try.prog 17 #[v, .agg #[.int .i64 1, .int .i64 c, .string ⟨#[]⟩]] w (AV B n xs (1, c, ⟨#[]⟩) w) := by
  have hf := fd_le hc1 hc2
  go_enter Try.func17, Try.ntmps17
  go_wp2_with fail
  refine (fold_any c _ hc1 hc2).mono ?_
  rintro e w1 ⟨rfl, rfl⟩
  go_wp2_with fail
  refine (digits_any B n v xs (fd c) _ (hown.alloc _) hn (by simp; omega) (by omega)).mono ?_
  rintro e w2 ⟨v', rfl, hown2, hb2⟩
  go_wp2
  go_ret
  exact ⟨v', rfl, by rw [rb_int rfl]; exact hown2, ((Below.refl _ _).alloc hB _).trans hb2⟩

set_option maxHeartbeats 2000000 in
set_option maxRecDepth 100000 in
theorem av_bool (B n : Nat) (v : Value) (xs : List UInt8) (w : World) (c : Int) (hc : c = 0 ∨ c = 1) (hown : w.ownsRow B 5 1 v n (bv xs)) (hn : n ≤ 1000000000) (hB : B ≤ w.heap.size) :
    Calls Try.prog 17 #[v, .agg #[.int .i64 2, .int .i64 c, .string ⟨#[]⟩]] w (AV B n xs (2, c, ⟨#[]⟩) w) := by
  obtain ⟨i0, hi, hz0, hz1, hz2⟩ := info_parts Try.info5
  have hlt := hown.lt
  rcases hc with rfl | rfl
  · go_enter Try.func17, Try.ntmps17
    go_wp2_with (first | (at_builtin; refine wpList_append_own _ rfl _ _ 40 rfl B 5 i0 (.int .u8 0) 1 1 Try.underlying40 hi hz0 hz1 hz2 rfl (by decide) _ _ _ rfl ((hown.alloc _).alloc _) ⟨w.heap.size + 1, 0, none⟩ 1 1 (bv [0]) rfl rfl ?c1 ?c2 ?c3 ?c4 ?c5 ?_))
    case c1 =>
      have := cells1 (w.alloc (.cells #[.int .i64 2, .int .i64 0, .string ⟨#[]⟩] 25)) 0 0 5 rfl
      simpa using this
    case c2 => exact bv_one _
    case c3 => unfold maxLen; omega
    case c4 => omega
    case c5 => simp; omega
    · intro v' w1 hown' hgrow _
      rw [← bv_append] at hown'
      have hbb : Below B w w1 := (((Below.refl _ _).alloc hB _).alloc (by simp; omega) _).grown hgrow (by simp; omega) fun k hk => (hlt k hk).1
      clear hgrow
      go_wp2
      go_ret
      exact ⟨_, rfl, hown', hbb⟩
  · go_enter Try.func17, Try.ntmps17
    go_wp2_with (first | (at_builtin; refine wpList_append_own _ rfl _ _ 40 rfl B 5 i0 (.int .u8 0) 1 1 Try.underlying40 hi hz0 hz1 hz2 rfl (by decide) _ _ _ rfl ((hown.alloc _).alloc _) ⟨w.heap.size + 1, 0, none⟩ 1 1 (bv [1]) rfl rfl ?c1 ?c2 ?c3 ?c4 ?c5 ?_))
    case c1 =>
      have := cells1 (w.alloc (.cells #[.int .i64 2, .int .i64 1, .string ⟨#[]⟩] 25)) 1 1 5 rfl
      simpa using this
    case c2 => exact bv_one _
    case c3 => unfold maxLen; omega
    case c4 => omega
    case c5 => simp; omega
    · intro v' w1 hown' hgrow _
      rw [← bv_append] at hown'
      have hbb : Below B w w1 := (((Below.refl _ _).alloc hB _).alloc (by simp; omega) _).grown hgrow (by simp; omega) fun k hk => (hlt k hk).1
      clear hgrow
      go_wp2
      go_ret
      exact ⟨_, rfl, hown', hbb⟩

set_option maxHeartbeats 2000000 in
set_option maxRecDepth 100000 in
theorem av_text (B n : Nat) (v : Value) (xs : List UInt8) (w : World) (s : ByteArray) (hs : s.size ≤ 64) (hown : w.ownsRow B 5 1 v n (bv xs)) (hn : n ≤ 1000000000) (hB : B ≤ w.heap.size) :
    Calls Try.prog 17 #[v, .agg #[.int .i64 3, .int .i64 0, .string s]] w (AV B n xs (3, 0, s) w) := by
  obtain ⟨i0, hi, hz0, hz1, hz2⟩ := info_parts Try.info5
  have hlt := hown.lt
  have hne : some w.heap.size ≠ v.ownBlock := fun h => absurd (hlt _ h.symm).2 (Nat.lt_irrefl _)
  have hwr : IntKind.u8.wrap (s.size : Int) = (s.size : Int) := by rw [IntKind.wrap_u8]; omega
  have HC1 : ∀ j u, (bv [UInt8.ofNat s.size])[j]? = some u → (((w.alloc (.cells #[.int .i64 3, .int .i64 0, .string s] 25)).drew).alloc (.cells #[.int .u8 (s.size : Int)] 5)).cell? ((⟨w.heap.size + 1, 0, none⟩ : Addr).add j) = some u := by
    intro j u hj
    have := cells1 (w.alloc (.cells #[.int .i64 3, .int .i64 0, .string s] 25)).drew (s.size : Int) (UInt8.ofNat s.size) 5 (by rw [UInt8.toNat_ofNat']; omega) j u hj
    simpa using this
  go_enter Try.func17, Try.ntmps17
  go_wp2
  go_region_law (first
    | (refine step_append_lies _ rfl _ _ 40 rfl B 5 i0 (.int .u8 0) 1 1 Try.underlying40 hi hz0 hz1 hz2 rfl (by decide) v n (bv xs) rfl ((ownsRow_drew (hown.alloc _)).alloc _) ⟨w.heap.size + 1, 0, none⟩ 1 1 (bv [UInt8.ofNat s.size]) rfl rfl HC1 (bv_one _) (by decide) (by unfold maxLen; omega) (by omega) (by simp; omega) (w.heap.size + 1 + 1) (by simp) ?_; intro g' cap' w1 hown' hgrow _ hlt1; (have hS : w1.cell? ⟨w.heap.size, 2, none⟩ = some (.string s) := (hgrow.cell_far ⟨w.heap.size, 2, none⟩ (by simp; omega) hne).trans (by simp)); (have hbb : Below B w w1 := ((((Below.refl _ _).alloc hB _).drew).alloc (by simp; omega) _).grown hgrow (by simp; omega) fun k hk => (hlt k hk).1); (have hlt1' := hown'.lt); (have hz1' := hbb.size))
    | (refine step_append_own_string _ rfl _ _ 40 9 rfl B 5 i0 Try.underlying40 Try.underlying9 hi hz0 hz1 hz2 _ _ _ rfl hown' s rfl (by unfold maxLen; omega) (by omega) (by omega) ?_; intro v2 w2 hown2 hgrow2))
  all_goals
    go_wp2
    go_ret
    refine ⟨v2, rfl, ?_, hbb.grown hgrow2 (by omega) fun k hk => (hlt1' k hk).1⟩
    rw [strCells_ba, ← bv_append, ← bv_append] at hown2
    rw [rb_text rfl]
    have e5 : n + (UInt8.ofNat s.size :: s.data.toList).length = n + 1 + s.size := by simp; omega
    rw [e5]
    simpa using hown2

theorem av_any (B n : Nat) (v : Value) (xs : List UInt8) (u : V3) (w : World) (hr : V3.right u = true) (hown : w.ownsRow B 5 1 v n (bv xs)) (hn : n ≤ 1000000000) (hB : B ≤ w.heap.size) :
    Calls Try.prog 17 #[v, .agg #[.int .i64 u.1, .int .i64 u.2.1, .string u.2.2]] w (AV B n xs u w) := by
  obtain ⟨k, c, s⟩ := u
  rcases right_kind hr with h | h | h | h
  all_goals simp only at h; subst h
  · obtain ⟨h1, h2⟩ := right_null hr rfl
    simp only at h1 h2
    subst h1 h2
    exact av_null B n v xs w hown hB
  · obtain ⟨h1, h2, h3⟩ := right_num hr rfl
    simp only at h1 h2 h3
    subst h3
    exact av_int B n v xs w c h1 h2 hown hn hB
  · obtain ⟨h1, h2⟩ := right_bool hr rfl
    simp only at h1 h2
    subst h2
    exact av_bool B n v xs w c h1 hown hn hB
  · obtain ⟨h1, h2⟩ := right_text hr rfl
    simp only at h1 h2
    subst h1
    exact av_text B n v xs w s h2 hown hn hB
end Go.Proofs.Ytfgpopkibjijgaa
