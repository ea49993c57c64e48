/- Walks of layer 2, fifth part: the bytes of a value behind others. -/
import Derived.Test.YtbmgcibclmbelabDoorK4
import Derived.Test.YtbmgcibclmbelabDoorM22
import Derived.Test.YtbmgcibclmbelabDoorSh
import Derived.Lib.AppendStr
namespace Go.Proofs.YtbmgcibclmbelabDoor
open Go.RowKit

theorem cells2 (w : World) (x : Int) (b c : UInt8) (t : TypeId) (h : x = (c.toNat : Int)) : ∀ j u, (bv [b, c])[j]? = some u → (w.alloc (.cells #[.int .u8 (b.toNat : Int), .int .u8 x] t)).cell? ((⟨w.heap.size, 0, none⟩ : Addr).add j) = some u := by
  subst h
  intro j u hj
  match j, hj with
  | 0, hj => simp [bv] at hj; subst hj; simp [Addr.add]
  | 1, hj => simp [bv] at hj; subst hj; simp [Addr.add]
theorem strCells_bv (l : List UInt8) : Lib.strCells ⟨l.toArray⟩ = bv l := by simp [Lib.strCells, bv]

theorem word_int (B n N : Nat) (x : Int) (v : Value) (xs : List UInt8) (w : World) (hx : x = (N : Int)) (hown : w.ownsRow B 5 1 v n (bv xs)) (hn : n ≤ 1000000000000) (hB : B ≤ w.heap.size) (hN : N < 18446744073709551616) :
    Calls Tryd.prog 19 #[v, .int .u64 x] w fun e w' => ∃ v', e = .returned v' ∧ w'.ownsRow B 5 1 v' (n + 8) (bv (xs ++ be8 N)) ∧ Below B w w' := by
  subst hx
  exact word_any B n N v xs w hown hn hB hN

/-- A value's bytes behind others. -/
def AV (B n : Nat) (xs : List UInt8) (u : V3) (w : World) (e : Ending) (w' : World) : Prop := ∃ v', e = .returned v' ∧ w'.ownsRow B 5 1 v' (n + (kb u).length) (bv (xs ++ kb u)) ∧ Below B w w'

set_option maxHeartbeats 2000000 in
set_option maxRecDepth 100000 in
theorem av_null (B n : Nat) (v : Value) (xs : List UInt8) (w : World) (hown : w.ownsRow B 5 1 v n (bv xs)) (hn : n ≤ 1000000000) (hB : B ≤ w.heap.size) :
    Calls Tryd.prog 12 #[v, .agg #[.int .i64 0, .int .i64 0, .string ⟨#[]⟩]] w (AV B n xs (0, 0, ⟨#[]⟩) w) := by
  obtain ⟨i0, hi, hz0, hz1, hz2⟩ := info_parts Tryd.info5
  have hlt := hown.lt
  go_enter Tryd.func12, Tryd.ntmps12
  go_wp2_with (first | (at_builtin; refine wpList_append_own _ rfl _ _ 39 rfl B 5 i0 (.int .u8 0) 1 1 Tryd.underlying39 hi hz0 hz1 hz2 rfl (by decide) _ _ _ rfl ((hown.alloc _).alloc _) ⟨w.heap.size + 1, 0, none⟩ 1 1 (bv [1]) rfl rfl ?c1 ?c2 ?c3 ?c4 ?c5 ?_))
  case c1 =>
    have := cells1 (w.alloc (.cells #[.int .i64 0, .int .i64 0, .string ⟨#[]⟩] 33)) 1 1 5 rfl
    simpa using this
  case c2 => exact bv_one _
  case c3 => unfold maxLen; omega
  case c4 => omega
  case c5 => simp; omega
  · intro v' w1 hown' hgrow _
    rw [← bv_append] at hown'
    have hbb : Below B w w1 := (((Below.refl _ _).alloc hB _).alloc (by simp; omega) _).grown hgrow (by simp; omega) fun k hk => (hlt k hk).1
    clear hgrow
    go_wp2
    go_ret
    exact ⟨_, rfl, hown', hbb⟩

set_option maxHeartbeats 2000000 in
set_option maxRecDepth 100000 in
theorem av_bool (B n : Nat) (v : Value) (xs : List UInt8) (w : World) (c : Int) (hc : c = 0 ∨ c = 1) (hown : w.ownsRow B 5 1 v n (bv xs)) (hn : n ≤ 1000000000) (hB : B ≤ w.heap.size) :
    Calls Tryd.prog 12 #[v, .agg #[.int .i64 2, .int .i64 c, .string ⟨#[]⟩]] w (AV B n xs (2, c, ⟨#[]⟩) w) := by
  obtain ⟨i0, hi, hz0, hz1, hz2⟩ := info_parts Tryd.info5
  have hlt := hown.lt
  rcases hc with rfl | rfl
  · go_enter Tryd.func12, Tryd.ntmps12
    go_wp2_with (first | (at_builtin; refine wpList_append_own _ rfl _ _ 39 rfl B 5 i0 (.int .u8 0) 1 1 Tryd.underlying39 hi hz0 hz1 hz2 rfl (by decide) _ _ _ rfl ((hown.alloc _).alloc _) ⟨w.heap.size + 1, 0, none⟩ 2 2 (bv [3, 0]) rfl rfl ?c1 ?c2 ?c3 ?c4 ?c5 ?_))
    case c1 =>
      have := cells2 (w.alloc (.cells #[.int .i64 2, .int .i64 0, .string ⟨#[]⟩] 33)) 0 3 0 5 rfl
      simpa using this
    case c2 => exact bv_one _
    case c3 => unfold maxLen; omega
    case c4 => omega
    case c5 => simp; omega
    · intro v' w1 hown' hgrow _
      rw [← bv_append] at hown'
      have hbb : Below B w w1 := (((Below.refl _ _).alloc hB _).alloc (by simp; omega) _).grown hgrow (by simp; omega) fun k hk => (hlt k hk).1
      clear hgrow
      go_wp2
      go_ret
      exact ⟨_, rfl, hown', hbb⟩
  · go_enter Tryd.func12, Tryd.ntmps12
    go_wp2_with (first | (at_builtin; refine wpList_append_own _ rfl _ _ 39 rfl B 5 i0 (.int .u8 0) 1 1 Tryd.underlying39 hi hz0 hz1 hz2 rfl (by decide) _ _ _ rfl ((hown.alloc _).alloc _) ⟨w.heap.size + 1, 0, none⟩ 2 2 (bv [3, 1]) rfl rfl ?c1 ?c2 ?c3 ?c4 ?c5 ?_))
    case c1 =>
      have := cells2 (w.alloc (.cells #[.int .i64 2, .int .i64 1, .string ⟨#[]⟩] 33)) 1 3 1 5 rfl
      simpa using this
    case c2 => exact bv_one _
    case c3 => unfold maxLen; omega
    case c4 => omega
    case c5 => simp; omega
    · intro v' w1 hown' hgrow _
      rw [← bv_append] at hown'
      have hbb : Below B w w1 := (((Below.refl _ _).alloc hB _).alloc (by simp; omega) _).grown hgrow (by simp; omega) fun k hk => (hlt k hk).1
      clear hgrow
      go_wp2
      go_ret
      exact ⟨_, rfl, hown', hbb⟩

set_option maxHeartbeats 2000000 in
set_option maxRecDepth 100000 in
theorem av_int (B n : Nat) (v : Value) (xs : List UInt8) (w : World) (c : Int) (hc1 : -4611686018427387904 ≤ c) (hc2 : c ≤ 4611686018427387904) (hown : w.ownsRow B 5 1 v n (bv xs)) (hn : n ≤ 1000000000) (hB : B ≤ w.heap.size) :
    Calls Tryd.prog 12 #[v, .agg #[.int .i64 1, .int .i64 c, .string ⟨#[]⟩]] w (AV B n xs (1, c, ⟨#[]⟩) w) := by
  obtain ⟨i0, hi, hz0, hz1, hz2⟩ := info_parts Tryd.info5
  have hlt := hown.lt
  obtain ⟨N, hN⟩ : ∃ N : Nat, (c + 9223372036854775808).toNat = N := ⟨_, rfl⟩
  have hN2 : N < 18446744073709551616 := by omega
  have hne : some w.heap.size ≠ v.ownBlock := fun h => absurd (hlt _ h.symm).2 (Nat.lt_irrefl _)
  have HC1 : ∀ j u, (bv [2])[j]? = some u → (((w.alloc (.cells #[.int .i64 1, .int .i64 c, .string ⟨#[]⟩] 33)).alloc (.cells #[.int .u8 2] 5)).drew).cell? ((⟨w.heap.size + 1, 0, none⟩ : Addr).add j) = some u := by
    intro j u hj
    have := cells1 (w.alloc (.cells #[.int .i64 1, .int .i64 c, .string ⟨#[]⟩] 33)) 2 2 5 rfl j u hj
    simpa using this
  go_enter Tryd.func12, Tryd.ntmps12
  go_wp2
  go_region_law (first
    | (refine step_append_lies _ rfl _ _ 39 rfl B 5 i0 (.int .u8 0) 1 1 Tryd.underlying39 hi hz0 hz1 hz2 rfl (by decide) v n (bv xs) rfl (ownsRow_drew ((hown.alloc _).alloc _)) ⟨w.heap.size + 1, 0, none⟩ 1 1 (bv [2]) rfl rfl HC1 (bv_one _) (by decide) (by unfold maxLen; omega) (by omega) (by simp; omega) (w.heap.size + 1 + 1) (by simp) ?_; intro g' cap' w1 hown' hgrow _ hlt1; (have hS : w1.cell? ⟨w.heap.size, 1, none⟩ = some (.int .i64 c) := (hgrow.cell_far ⟨w.heap.size, 1, none⟩ (by simp; omega) hne).trans (by simp)); (have hbb : Below B w w1 := ((((Below.refl _ _).alloc hB _).alloc (by simp; omega) _).drew).grown hgrow (by simp; omega) fun k hk => (hlt k hk).1))
    | (go_simp; go_at_call 19; refine (word_int B (n + 1) N _ _ (xs ++ [2]) _ (by rw [IntKind.wrap_u64, IntKind.wrap_u64]; omega) (by rw [bv_append]; exact hown') (by omega) (by have := hbb.size; omega) hN2).mono ?_; rintro e w2 ⟨v', rfl, hown2, hb2⟩; dsimp only))
  all_goals
    go_wp2
    go_ret
    refine ⟨v', rfl, ?_, hbb.trans hb2⟩
    rw [kb_int rfl]
    simp only [hN]
    simpa [Nat.add_assoc, be8_length] using hown2

theorem own_later {w w' : World} {B : Nat} {e : TypeId} {size : Nat} {v : Value} {n : Nat} {xs : List Value} (h : w.ownsRow B e size v n xs) (hb : Below w.heap.size w w') : w'.ownsRow B e size v n xs := by
  have hl := h.lt
  obtain ⟨h1, h2 | ⟨g, cap, cur, rfl, a, b, c⟩⟩ := h
  · exact ⟨h1, Or.inl h2⟩
  · exact ⟨h1, Or.inr ⟨g, cap, cur, rfl, a, (hb.block g (hl g rfl).2).trans b, c⟩⟩
/-- What the library reads of its own: a number, in its variable's cell. -/
def ML (w : World) : Prop := ∃ m, w.cell? ⟨0, 0, none⟩ = some (.int .i64 m)
theorem ML.later {w w' : World} {B : Nat} (h : ML w) (hb : Below B w w') (h0 : 0 < B) : ML w' := by
  obtain ⟨m, h⟩ := h
  exact ⟨m, by rw [hb.cell (p := ⟨0, 0, none⟩) h0]; exact h⟩

set_option maxHeartbeats 2000000 in
set_option maxRecDepth 100000 in
theorem av_text (B n : Nat) (v : Value) (xs : List UInt8) (w : World) (s : ByteArray) (hs : s.size ≤ 64) (hown : w.ownsRow B 5 1 v n (bv xs)) (hn : n ≤ 1000000000) (hB : B ≤ w.heap.size) (h0 : 0 < B) (hm : ML w) :
    Calls Tryd.prog 12 #[v, .agg #[.int .i64 3, .int .i64 0, .string s]] w (AV B n xs (3, 0, s) w) := by
  obtain ⟨i0, hi, hz0, hz1, hz2⟩ := info_parts Tryd.info5
  have hlt := hown.lt
  have hne : some w.heap.size ≠ v.ownBlock := fun h => absurd (hlt _ h.symm).2 (Nat.lt_irrefl _)
  go_enter Tryd.func12, Tryd.ntmps12
  go_wp2_with (first | (at_builtin; refine wpList_append_own _ rfl _ _ 39 rfl B 5 i0 (.int .u8 0) 1 1 Tryd.underlying39 hi hz0 hz1 hz2 rfl (by decide) _ _ _ rfl ((hown.alloc _).alloc _) ⟨w.heap.size + 1, 0, none⟩ 1 1 (bv [4]) rfl rfl ?c1 ?c2 ?c3 ?c4 ?c5 ?_))
  case c1 =>
    have := cells1 (w.alloc (.cells #[.int .i64 3, .int .i64 0, .string s] 33)) 4 4 5 rfl
    simpa using this
  case c2 => exact bv_one _
  case c3 => unfold maxLen; omega
  case c4 => omega
  case c5 => simp; omega
  · intro v1 w1 hown1 hgrow1 _
    rw [← bv_append] at hown1
    have hb1 : Below B w w1 := (((Below.refl _ _).alloc hB _).alloc (by simp; omega) _).grown hgrow1 (by simp; omega) fun k hk => (hlt k hk).1
    have hS : w1.cell? ⟨w.heap.size, 2, none⟩ = some (.string s) := (hgrow1.cell_far ⟨w.heap.size, 2, none⟩ (by simp; omega) hne).trans (by simp)
    have hm1 := hm.later hb1 h0
    have hz1' := hb1.size
    have hlt1 := hown1.lt
    clear hgrow1 hown hm
    obtain ⟨m, hm⟩ := hm1
    go_wp2_with fail
    have hcb : Lib.countB s ⟨#[0]⟩ ≤ s.size := Lib.countB_le ⟨#[0]⟩ (by decide) s.size s (Nat.le_refl _)
    refine (Tryd.strings_ReplaceAll s ⟨#[0]⟩ ⟨#[0, 255]⟩ m _ (by omega) hm (by decide) (by have : (⟨#[0, 255]⟩ : ByteArray).size = 2 := rfl; rw [this]; omega)).mono ?_
    rintro e w2 ⟨rfl, hb2⟩
    have he : Lib.replaceAll s.data.toList (⟨#[0]⟩ : ByteArray).data.toList (⟨#[0, 255]⟩ : ByteArray).data.toList = esc s.data.toList := repAll_esc _
    rw [he]
    have hel := esc_len s.data.toList
    have hsl : s.data.toList.length = s.size := by simp
    have hown2 := own_later hown1 hb2
    have hz2' := hb2.size
    have hesz : (⟨(esc s.data.toList).toArray⟩ : ByteArray).size = (esc s.data.toList).length := rfl
    clear hown1 hm
    go_wp2_with (first | (at_builtin; refine Lib.wpList_append_own_string _ rfl _ _ 39 9 rfl B 5 i0 Tryd.underlying39 Tryd.underlying9 hi hz0 hz1 hz2 _ _ _ rfl hown2 ⟨(esc s.data.toList).toArray⟩ rfl ?d1 ?d2 ?d3 ?_))
    case d1 => rw [hesz]; unfold maxLen; omega
    case d2 => rw [hesz]; omega
    case d3 => omega
    · intro v3 w3 hown3 hgrow3 _
      rw [strCells_bv, ← bv_append] at hown3
      have hb3 : Below B w w3 := (hb1.trans (hb2.mono (by omega))).grown hgrow3 (by omega) fun k hk => (hlt1 k hk).1
      have hz3 := hb3.size
      have hlt3 := hown3.lt
      clear hgrow3 hown2
      go_wp2_with (first | (at_builtin; refine Lib.wpList_append_own_string _ rfl _ _ 39 9 rfl B 5 i0 Tryd.underlying39 Tryd.underlying9 hi hz0 hz1 hz2 _ _ _ rfl hown3 ⟨#[0, 0]⟩ rfl ?d1 ?d2 ?d3 ?_))
      case d1 => unfold maxLen; show n + 1 + (esc s.data.toList).length + 2 ≤ _; omega
      case d2 => show n + 1 + (esc s.data.toList).length + 2 ≤ _; omega
      case d3 => omega
      · intro v4 w4 hown4 hgrow4 _
        have e4 : Lib.strCells ⟨#[0, 0]⟩ = bv [0, 0] := rfl
        rw [e4, ← bv_append] at hown4
        have hb4 : Below B w w4 := hb3.grown hgrow4 (by omega) fun k hk => (hlt3 k hk).1
        clear hgrow4 hown3
        go_wp2
        go_ret
        refine ⟨v4, rfl, ?_, hb4⟩
        rw [kb_text rfl]
        have e5 : n + (4 :: (esc s.data.toList ++ [0, 0])).length = n + 1 + (esc s.data.toList).length + 2 := by simp; omega
        rw [e5]
        simpa using hown4

theorem av_any (B n : Nat) (v : Value) (xs : List UInt8) (u : V3) (w : World) (hr : V3.right u = true) (hown : w.ownsRow B 5 1 v n (bv xs)) (hn : n ≤ 1000000000) (hB : B ≤ w.heap.size) (h0 : 0 < B) (hm : ML w) :
    Calls Tryd.prog 12 #[v, .agg #[.int .i64 u.1, .int .i64 u.2.1, .string u.2.2]] w (AV B n xs u w) := by
  obtain ⟨k, c, s⟩ := u
  rcases right_kind hr with h | h | h | h
  all_goals simp only at h; subst h
  · obtain ⟨h1, h2⟩ := right_null hr rfl
    simp only at h1 h2
    subst h1 h2
    exact av_null B n v xs w hown hn hB
  · obtain ⟨h1, h2, h3⟩ := right_num hr rfl
    simp only at h1 h2 h3
    subst h3
    exact av_int B n v xs w c h1 h2 hown hn hB
  · obtain ⟨h1, h2⟩ := right_bool hr rfl
    simp only at h1 h2
    subst h2
    exact av_bool B n v xs w c h1 hown hn hB
  · obtain ⟨h1, h2⟩ := right_text hr rfl
    simp only at h1 h2
    subst h1
    exact av_text B n v xs w s h2 hown hn hB h0 hm
end Go.Proofs.YtbmgcibclmbelabDoor
