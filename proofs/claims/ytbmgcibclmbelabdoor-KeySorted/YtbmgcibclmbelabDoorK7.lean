/- Walks of layer 2, seventh part: the document's own bytes of a value. -/
import Derived.Test.YtbmgcibclmbelabDoorK6
namespace Go.Proofs.YtbmgcibclmbelabDoor
open Go.RowKit

/-- What one answers: bytes of its own. -/
def OV (u : V3) (w : World) (e : Ending) (w' : World) : Prop := ∃ v', e = .returned v' ∧ w'.ownsRow w.heap.size 5 1 v' (kb u).length (bv (kb u)) ∧ Below w.heap.size w w'
theorem own_first (w : World) (B : Nat) (c : UInt8) (hB : B ≤ w.heap.size) : (w.alloc (.cells #[.int .u8 (c.toNat : Int)] 5)).ownsRow B 5 1 (.slice (some ⟨w.heap.size, 0, none⟩) 1 1) 1 (bv [c]) :=
  ⟨rfl, Or.inr ⟨w.heap.size, 1, #[.int .u8 (c.toNat : Int)], rfl, hB, heap_alloc_new w _, Nat.le_refl _, by decide, rfl, rfl⟩⟩
theorem own_mono {w : World} {base base' : Nat} {e : TypeId} {size : Nat} {v : Value} {n : Nat} {xs : List Value} (h : w.ownsRow base e size v n xs) (hb : base' ≤ base) : w.ownsRow base' e size v n xs := by
  obtain ⟨h1, h2 | ⟨g, cap, cur, e, a, r⟩⟩ := h
  · exact ⟨h1, Or.inl h2⟩
  · exact ⟨h1, Or.inr ⟨g, cap, cur, e, Nat.le_trans hb a, r⟩⟩

set_option maxHeartbeats 2000000 in
set_option maxRecDepth 100000 in
theorem one_null (w : World) : Calls Tryd.prog 14 #[.agg #[.int .i64 0, .int .i64 0, .string ⟨#[]⟩]] w (OV (0, 0, ⟨#[]⟩) w) := by
  have ho := own_first (w.alloc (.cells #[.int .i64 0, .int .i64 0, .string ⟨#[]⟩] 33)) w.heap.size 1 (by simp)
  go_enter Tryd.func14, Tryd.ntmps14
  go_wp2
  go_ret
  exact ⟨_, rfl, by rw [kb_null rfl]; simpa using ho, by (repeat (first | exact Below.refl _ _ | assumption | refine Below.drew ?_ | refine below_drewN ?_ _ | refine Below.alloc ?_ (by first | omega | (simp; done) | (simp; omega)) _ | refine Below.setCell ?_ (by first | omega | (simp; done) | (simp; omega)) _ | refine Below.trans ?_ (Below.mono (by assumption) (by first | omega | (simp; done) | (simp; omega)))))⟩

set_option maxHeartbeats 2000000 in
set_option maxRecDepth 100000 in
theorem one_bool (w : World) (c : Int) (hc : c = 0 ∨ c = 1) : Calls Tryd.prog 14 #[.agg #[.int .i64 2, .int .i64 c, .string ⟨#[]⟩]] w (OV (2, c, ⟨#[]⟩) w) := by
  obtain ⟨i0, hi, hz0, hz1, hz2⟩ := info_parts Tryd.info5
  have hown := own_first (w.alloc (.cells #[.int .i64 2, .int .i64 c, .string ⟨#[]⟩] 33)) w.heap.size 3 (by simp)
  have hlt := hown.lt
  simp only [World.size_alloc] at hown hlt
  rcases hc with rfl | rfl
  · go_enter Tryd.func14, Tryd.ntmps14
    go_wp2_with (first | (at_builtin; refine wpList_append_own _ rfl _ _ 39 rfl w.heap.size 5 i0 (.int .u8 0) 1 1 Tryd.underlying39 hi hz0 hz1 hz2 rfl (by decide) _ 1 (bv [3]) rfl (hown.alloc _) ⟨w.heap.size + 2, 0, none⟩ 1 1 (bv [0]) rfl rfl ?c1 ?c2 ?c3 ?c4 ?c5 ?_))
    case c1 =>
      have := cells1 ((w.alloc (.cells #[.int .i64 2, .int .i64 0, .string ⟨#[]⟩] 33)).alloc (.cells #[.int .u8 3] 5)) 0 0 5 rfl
      simpa using this
    case c2 => exact bv_one _
    case c3 => decide
    case c4 => decide
    case c5 => simp; omega
    · intro v' w1 hown' hgrow _
      rw [← bv_append] at hown'
      have hbb : Below w.heap.size w w1 := ((((Below.refl _ _).alloc (Nat.le_refl _) _).alloc (by simp) _).alloc (by simp; omega) _).grown hgrow (by simp; omega) fun k hk => (hlt k hk).1
      clear hgrow
      go_wp2
      go_ret
      exact ⟨_, rfl, hown', hbb⟩
  · go_enter Tryd.func14, Tryd.ntmps14
    go_wp2_with (first | (at_builtin; refine wpList_append_own _ rfl _ _ 39 rfl w.heap.size 5 i0 (.int .u8 0) 1 1 Tryd.underlying39 hi hz0 hz1 hz2 rfl (by decide) _ 1 (bv [3]) rfl (hown.alloc _) ⟨w.heap.size + 2, 0, none⟩ 1 1 (bv [1]) rfl rfl ?c1 ?c2 ?c3 ?c4 ?c5 ?_))
    case c1 =>
      have := cells1 ((w.alloc (.cells #[.int .i64 2, .int .i64 1, .string ⟨#[]⟩] 33)).alloc (.cells #[.int .u8 3] 5)) 1 1 5 rfl
      simpa using this
    case c2 => exact bv_one _
    case c3 => decide
    case c4 => decide
    case c5 => simp; omega
    · intro v' w1 hown' hgrow _
      rw [← bv_append] at hown'
      have hbb : Below w.heap.size w w1 := ((((Below.refl _ _).alloc (Nat.le_refl _) _).alloc (by simp) _).alloc (by simp; omega) _).grown hgrow (by simp; omega) fun k hk => (hlt k hk).1
      clear hgrow
      go_wp2
      go_ret
      exact ⟨_, rfl, hown', hbb⟩

set_option maxHeartbeats 4000000 in
set_option maxRecDepth 100000 in
theorem one_int (w : World) (c : Int) (hc1 : -4611686018427387904 ≤ c) (hc2 : c ≤ 4611686018427387904) : Calls Tryd.prog 14 #[.agg #[.int .i64 1, .int .i64 c, .string ⟨#[]⟩]] w (OV (1, c, ⟨#[]⟩) w) := by
  obtain ⟨i0, hi, hz0, hz1, hz2⟩ := info_parts Tryd.info5
  have hown0 := own_first (w.alloc (.cells #[.int .i64 1, .int .i64 c, .string ⟨#[]⟩] 33)) (w.heap.size + 1) 2 (by simp)
  simp only [World.size_alloc] at hown0
  obtain ⟨N, hN⟩ : ∃ N : Nat, (c + 9223372036854775808).toNat = N := ⟨_, rfl⟩
  have hN2 : N < 18446744073709551616 := by omega
  have hk0 : kb (1, c, ⟨#[]⟩) = 2 :: be8 N := by rw [kb_int rfl]; simp only [hN]
  have HK : Hid (kb (1, c, ⟨#[]⟩) = 2 :: be8 N) := hk0
  clear hk0
  have hcv : IntKind.u64.wrap (IntKind.u64.wrap c + 9223372036854775808) = (N : Int) := by rw [IntKind.wrap_u64, IntKind.wrap_u64]; omega
  have hN0 : (0 : Int) ≤ (N : Int) := by omega
  clear hN hc1 hc2 hN2
  go_enter Tryd.func14, Tryd.ntmps14
  go_wp2
  go_loopw [3, 5] (fun v i wr => ∃ k : Nat, k ≤ 8 ∧ i = .int .i64 (56 - 8 * (k : Int)) ∧ wr.ownsRow (w.heap.size + 1) 5 1 v (1 + k) (bv (2 :: (be8 N).take k)) ∧ Below (w.heap.size + 1) (w.alloc (.cells #[.int .i64 1, .int .i64 c, .string ⟨#[]⟩] 33)) wr) (fun _ i _ => (intOf i + 8).toNat)
  case atStart => exact ⟨0, Nat.zero_le _, rfl, by simpa using hown0, (Below.refl _ _).alloc (by simp) _⟩
  case round =>
    clear hown0
    obtain ⟨k, hk, rfl, hown, hb⟩ := hrel
    have hsz := hb.size
    simp at hsz
    have hlt := hown.lt
    by_cases h8 : k = 8
    · subst h8
      have ht : (be8 N).take 8 = be8 N := rfl
      rw [ht] at hown
      go_wp2
      go_ret
      exact ⟨_, rfl, by rw [HK.out]; exact own_mono hown (by omega), ((Below.refl _ _).alloc (Nat.le_refl _) _).trans (hb.mono (by omega))⟩
    · have hk7 : k ≤ 7 := by omega
      clear hk h8
      rcases (by omega : k = 0 ∨ k = 1 ∨ k = 2 ∨ k = 3 ∨ k = 4 ∨ k = 5 ∨ k = 6 ∨ k = 7) with rfl | rfl | rfl | rfl | rfl | rfl | rfl | rfl
      · go_wp2_with (first | (at_builtin; refine wpList_append_own _ rfl _ _ 39 rfl (w.heap.size + 1) 5 i0 (.int .u8 0) 1 1 Tryd.underlying39 hi hz0 hz1 hz2 rfl (by decide) _ _ _ rfl (hown.alloc _) ⟨wr.heap.size, 0, none⟩ 1 1 (bv [(UInt8.ofNat (N / 72057594037927936))]) rfl rfl ?c1 ?c2 ?c3 ?c4 ?c5 ?_))
        case c1 => exact cells1 wr _ _ _ (by rw [UInt8.toNat_ofNat']; omega)
        case c2 => exact bv_one _
        case c3 => decide
        case c4 => decide
        case c5 => simp; omega
        · intro v' w1 hown' hgrow _
          have hbb : Below (w.heap.size + 1) (w.alloc (.cells #[.int .i64 1, .int .i64 c, .string ⟨#[]⟩] 33)) w1 := (hb.alloc (by omega) _).grown hgrow (by simp; omega) fun k hk => (hlt k hk).1
          have ho2 : w1.ownsRow (w.heap.size + 1) 5 1 v' (1 + 1) (bv (2 :: (be8 N).take 1)) := by
            have e : 2 :: (be8 N).take 1 = (2 :: (be8 N).take 0) ++ [(UInt8.ofNat (N / 72057594037927936))] := rfl
            rw [e, bv_append]
            first | exact hown' | simpa using hown'
          clear hown' hgrow hown hlt
          go_wp2
          go_roundw
          case rel => exact ⟨1, by omega, by go_num, ho2, hbb⟩
          case measure => simp [intOf]
      · go_wp2_with (first | (at_builtin; refine wpList_append_own _ rfl _ _ 39 rfl (w.heap.size + 1) 5 i0 (.int .u8 0) 1 1 Tryd.underlying39 hi hz0 hz1 hz2 rfl (by decide) _ _ _ rfl (hown.alloc _) ⟨wr.heap.size, 0, none⟩ 1 1 (bv [(UInt8.ofNat (N / 281474976710656))]) rfl rfl ?c1 ?c2 ?c3 ?c4 ?c5 ?_))
        case c1 => exact cells1 wr _ _ _ (by rw [UInt8.toNat_ofNat']; omega)
        case c2 => exact bv_one _
        case c3 => decide
        case c4 => decide
        case c5 => simp; omega
        · intro v' w1 hown' hgrow _
          have hbb : Below (w.heap.size + 1) (w.alloc (.cells #[.int .i64 1, .int .i64 c, .string ⟨#[]⟩] 33)) w1 := (hb.alloc (by omega) _).grown hgrow (by simp; omega) fun k hk => (hlt k hk).1
          have ho2 : w1.ownsRow (w.heap.size + 1) 5 1 v' (1 + 2) (bv (2 :: (be8 N).take 2)) := by
            have e : 2 :: (be8 N).take 2 = (2 :: (be8 N).take 1) ++ [(UInt8.ofNat (N / 281474976710656))] := rfl
            rw [e, bv_append]
            first | exact hown' | simpa using hown'
          clear hown' hgrow hown hlt
          go_wp2
          go_roundw
          case rel => exact ⟨2, by omega, by go_num, ho2, hbb⟩
          case measure => simp [intOf]
      · go_wp2_with (first | (at_builtin; refine wpList_append_own _ rfl _ _ 39 rfl (w.heap.size + 1) 5 i0 (.int .u8 0) 1 1 Tryd.underlying39 hi hz0 hz1 hz2 rfl (by decide) _ _ _ rfl (hown.alloc _) ⟨wr.heap.size, 0, none⟩ 1 1 (bv [(UInt8.ofNat (N / 1099511627776))]) rfl rfl ?c1 ?c2 ?c3 ?c4 ?c5 ?_))
        case c1 => exact cells1 wr _ _ _ (by rw [UInt8.toNat_ofNat']; omega)
        case c2 => exact bv_one _
        case c3 => decide
        case c4 => decide
        case c5 => simp; omega
        · intro v' w1 hown' hgrow _
          have hbb : Below (w.heap.size + 1) (w.alloc (.cells #[.int .i64 1, .int .i64 c, .string ⟨#[]⟩] 33)) w1 := (hb.alloc (by omega) _).grown hgrow (by simp; omega) fun k hk => (hlt k hk).1
          have ho2 : w1.ownsRow (w.heap.size + 1) 5 1 v' (1 + 3) (bv (2 :: (be8 N).take 3)) := by
            have e : 2 :: (be8 N).take 3 = (2 :: (be8 N).take 2) ++ [(UInt8.ofNat (N / 1099511627776))] := rfl
            rw [e, bv_append]
            first | exact hown' | simpa using hown'
          clear hown' hgrow hown hlt
          go_wp2
          go_roundw
          case rel => exact ⟨3, by omega, by go_num, ho2, hbb⟩
          case measure => simp [intOf]
      · go_wp2_with (first | (at_builtin; refine wpList_append_own _ rfl _ _ 39 rfl (w.heap.size + 1) 5 i0 (.int .u8 0) 1 1 Tryd.underlying39 hi hz0 hz1 hz2 rfl (by decide) _ _ _ rfl (hown.alloc _) ⟨wr.heap.size, 0, none⟩ 1 1 (bv [(UInt8.ofNat (N / 4294967296))]) rfl rfl ?c1 ?c2 ?c3 ?c4 ?c5 ?_))
        case c1 => exact cells1 wr _ _ _ (by rw [UInt8.toNat_ofNat']; omega)
        case c2 => exact bv_one _
        case c3 => decide
        case c4 => decide
        case c5 => simp; omega
        · intro v' w1 hown' hgrow _
          have hbb : Below (w.heap.size + 1) (w.alloc (.cells #[.int .i64 1, .int .i64 c, .string ⟨#[]⟩] 33)) w1 := (hb.alloc (by omega) _).grown hgrow (by simp; omega) fun k hk => (hlt k hk).1
          have ho2 : w1.ownsRow (w.heap.size + 1) 5 1 v' (1 + 4) (bv (2 :: (be8 N).take 4)) := by
            have e : 2 :: (be8 N).take 4 = (2 :: (be8 N).take 3) ++ [(UInt8.ofNat (N / 4294967296))] := rfl
            rw [e, bv_append]
            first | exact hown' | simpa using hown'
          clear hown' hgrow hown hlt
          go_wp2
          go_roundw
          case rel => exact ⟨4, by omega, by go_num, ho2, hbb⟩
          case measure => simp [intOf]
      · go_wp2_with (first | (at_builtin; refine wpList_append_own _ rfl _ _ 39 rfl (w.heap.size + 1) 5 i0 (.int .u8 0) 1 1 Tryd.underlying39 hi hz0 hz1 hz2 rfl (by decide) _ _ _ rfl (hown.alloc _) ⟨wr.heap.size, 0, none⟩ 1 1 (bv [(UInt8.ofNat (N / 16777216))]) rfl rfl ?c1 ?c2 ?c3 ?c4 ?c5 ?_))
        case c1 => exact cells1 wr _ _ _ (by rw [UInt8.toNat_ofNat']; omega)
        case c2 => exact bv_one _
        case c3 => decide
        case c4 => decide
        case c5 => simp; omega
        · intro v' w1 hown' hgrow _
          have hbb : Below (w.heap.size + 1) (w.alloc (.cells #[.int .i64 1, .int .i64 c, .string ⟨#[]⟩] 33)) w1 := (hb.alloc (by omega) _).grown hgrow (by simp; omega) fun k hk => (hlt k hk).1
          have ho2 : w1.ownsRow (w.heap.size + 1) 5 1 v' (1 + 5) (bv (2 :: (be8 N).take 5)) := by
            have e : 2 :: (be8 N).take 5 = (2 :: (be8 N).take 4) ++ [(UInt8.ofNat (N / 16777216))] := rfl
            rw [e, bv_append]
            first | exact hown' | simpa using hown'
          clear hown' hgrow hown hlt
          go_wp2
          go_roundw
          case rel => exact ⟨5, by omega, by go_num, ho2, hbb⟩
          case measure => simp [intOf]
      · go_wp2_with (first | (at_builtin; refine wpList_append_own _ rfl _ _ 39 rfl (w.heap.size + 1) 5 i0 (.int .u8 0) 1 1 Tryd.underlying39 hi hz0 hz1 hz2 rfl (by decide) _ _ _ rfl (hown.alloc _) ⟨wr.heap.size, 0, none⟩ 1 1 (bv [(UInt8.ofNat (N / 65536))]) rfl rfl ?c1 ?c2 ?c3 ?c4 ?c5 ?_))
        case c1 => exact cells1 wr _ _ _ (by rw [UInt8.toNat_ofNat']; omega)
        case c2 => exact bv_one _
        case c3 => decide
        case c4 => decide
        case c5 => simp; omega
        · intro v' w1 hown' hgrow _
          have hbb : Below (w.heap.size + 1) (w.alloc (.cells #[.int .i64 1, .int .i64 c, .string ⟨#[]⟩] 33)) w1 := (hb.alloc (by omega) _).grown hgrow (by simp; omega) fun k hk => (hlt k hk).1
          have ho2 : w1.ownsRow (w.heap.size + 1) 5 1 v' (1 + 6) (bv (2 :: (be8 N).take 6)) := by
            have e : 2 :: (be8 N).take 6 = (2 :: (be8 N).take 5) ++ [(UInt8.ofNat (N / 65536))] := rfl
            rw [e, bv_append]
            first | exact hown' | simpa using hown'
          clear hown' hgrow hown hlt
          go_wp2
          go_roundw
          case rel => exact ⟨6, by omega, by go_num, ho2, hbb⟩
          case measure => simp [intOf]
      · go_wp2_with (first | (at_builtin; refine wpList_append_own _ rfl _ _ 39 rfl (w.heap.size + 1) 5 i0 (.int .u8 0) 1 1 Tryd.underlying39 hi hz0 hz1 hz2 rfl (by decide) _ _ _ rfl (hown.alloc _) ⟨wr.heap.size, 0, none⟩ 1 1 (bv [(UInt8.ofNat (N / 256))]) rfl rfl ?c1 ?c2 ?c3 ?c4 ?c5 ?_))
        case c1 => exact cells1 wr _ _ _ (by rw [UInt8.toNat_ofNat']; omega)
        case c2 => exact bv_one _
        case c3 => decide
        case c4 => decide
        case c5 => simp; omega
        · intro v' w1 hown' hgrow _
          have hbb : Below (w.heap.size + 1) (w.alloc (.cells #[.int .i64 1, .int .i64 c, .string ⟨#[]⟩] 33)) w1 := (hb.alloc (by omega) _).grown hgrow (by simp; omega) fun k hk => (hlt k hk).1
          have ho2 : w1.ownsRow (w.heap.size + 1) 5 1 v' (1 + 7) (bv (2 :: (be8 N).take 7)) := by
            have e : 2 :: (be8 N).take 7 = (2 :: (be8 N).take 6) ++ [(UInt8.ofNat (N / 256))] := rfl
            rw [e, bv_append]
            first | exact hown' | simpa using hown'
          clear hown' hgrow hown hlt
          go_wp2
          go_roundw
          case rel => exact ⟨7, by omega, by go_num, ho2, hbb⟩
          case measure => simp [intOf]
      · go_wp2_with (first | (at_builtin; refine wpList_append_own _ rfl _ _ 39 rfl (w.heap.size + 1) 5 i0 (.int .u8 0) 1 1 Tryd.underlying39 hi hz0 hz1 hz2 rfl (by decide) _ _ _ rfl (hown.alloc _) ⟨wr.heap.size, 0, none⟩ 1 1 (bv [(UInt8.ofNat N)]) rfl rfl ?c1 ?c2 ?c3 ?c4 ?c5 ?_))
        case c1 => exact cells1 wr _ _ _ (by rw [UInt8.toNat_ofNat']; omega)
        case c2 => exact bv_one _
        case c3 => decide
        case c4 => decide
        case c5 => simp; omega
        · intro v' w1 hown' hgrow _
          have hbb : Below (w.heap.size + 1) (w.alloc (.cells #[.int .i64 1, .int .i64 c, .string ⟨#[]⟩] 33)) w1 := (hb.alloc (by omega) _).grown hgrow (by simp; omega) fun k hk => (hlt k hk).1
          have ho2 : w1.ownsRow (w.heap.size + 1) 5 1 v' (1 + 8) (bv (2 :: (be8 N).take 8)) := by
            have e : 2 :: (be8 N).take 8 = (2 :: (be8 N).take 7) ++ [(UInt8.ofNat N)] := rfl
            rw [e, bv_append]
            first | exact hown' | simpa using hown'
          clear hown' hgrow hown hlt
          go_wp2
          go_roundw
          case rel => exact ⟨8, by omega, by go_num, ho2, hbb⟩
          case measure => simp [intOf]

theorem esc_take {s : ByteArray} {k : Nat} (h : k < s.size) : esc (s.data.toList.take (k + 1)) = esc (s.data.toList.take k) ++ esc1 s[k] := by
  rw [List.take_succ_eq_append_getElem (by simpa using h), esc_append]
  simp [esc]
  rfl

set_option maxHeartbeats 4000000 in
set_option maxRecDepth 100000 in
theorem one_text (w : World) (s : ByteArray) (hs : s.size ≤ 64) : Calls Tryd.prog 14 #[.agg #[.int .i64 3, .int .i64 0, .string s]] w (OV (3, 0, s) w) := by
  obtain ⟨i0, hi, hz0, hz1, hz2⟩ := info_parts Tryd.info5
  have hown0 := own_first (w.alloc (.cells #[.int .i64 3, .int .i64 0, .string s] 33)) (w.heap.size + 1) 4 (by simp)
  simp only [World.size_alloc] at hown0
  go_enter Tryd.func14, Tryd.ntmps14
  go_wp2
  go_loopw [3, 6] (fun v i wr => ∃ k : Nat, k ≤ s.size ∧ i = .int .i64 k ∧ wr.ownsRow (w.heap.size + 1) 5 1 v (4 :: esc (s.data.toList.take k)).length (bv (4 :: esc (s.data.toList.take k))) ∧ Below (w.heap.size + 1) (w.alloc (.cells #[.int .i64 3, .int .i64 0, .string s] 33)) wr) (fun _ i _ => s.size - (intOf i).toNat)
  case atStart => exact ⟨0, Nat.zero_le _, rfl, by simpa [esc] using hown0, (Below.refl _ _).alloc (by simp) _⟩
  case round =>
    clear hown0
    obtain ⟨k, hk, rfl, hown, hb⟩ := hrel
    have hsz := hb.size
    simp at hsz
    have hlt := hown.lt
    have hel := esc_len (s.data.toList.take k)
    have htl : (s.data.toList.take k).length ≤ k := List.length_take_le _ _
    have hlen : (4 :: esc (s.data.toList.take k)).length ≤ 200 := by simp only [List.length_cons]; omega
    have hbox : wr.cell? ⟨w.heap.size, 2, none⟩ = some (.string s) := by
      rw [hb.cell (p := ⟨w.heap.size, 2, none⟩) (by simp)]
      simp
    have hbz : w.heap.size < wr.heap.size := by omega
    by_cases hlt2 : k < s.size
    · have HE : Hid (esc (s.data.toList.take (k + 1)) = esc (s.data.toList.take k) ++ esc1 s[k]) := esc_take hlt2
      obtain ⟨L, hL⟩ : ∃ L, (4 :: esc (s.data.toList.take k)) = L := ⟨_, rfl⟩
      rw [hL] at hown hlen
      have HL : Hid (4 :: esc (s.data.toList.take k) = L) := hL
      clear hL hel htl
      go_wp2_with (first | (at_builtin; refine wpList_append_own _ rfl _ _ 39 rfl (w.heap.size + 1) 5 i0 (.int .u8 0) 1 1 Tryd.underlying39 hi hz0 hz1 hz2 rfl (by decide) _ _ _ rfl (hown.alloc _) ⟨wr.heap.size, 0, none⟩ 1 1 (bv [s[k]]) rfl rfl ?c1 ?c2 ?c3 ?c4 ?c5 ?_))
      case c1 => exact cells1 wr _ _ _ rfl
      case c2 => exact bv_one _
      case c3 => unfold maxLen; omega
      case c4 => omega
      case c5 => simp; omega
      · intro v1 w1 hown1 hgrow1 _
        rw [← bv_append] at hown1
        have hb1 : Below (w.heap.size + 1) (w.alloc (.cells #[.int .i64 3, .int .i64 0, .string s] 33)) w1 := (hb.alloc (by omega) _).grown hgrow1 (by simp; omega) fun k hk => (hlt k hk).1
        have hbox1 : w1.cell? ⟨w.heap.size, 2, none⟩ = some (.string s) := by
          rw [hb1.cell (p := ⟨w.heap.size, 2, none⟩) (by simp)]
          simp
        have hz1' := hb1.size
        simp at hz1'
        have hlt1 := hown1.lt
        clear hgrow1 hown hbox
        by_cases hc : s[k] = 0
        · have hc' : s[k].toNat = 0 := by rw [hc]; rfl
          have HC : Hid (s[k] = 0) := hc
          clear hc
          go_wp2_with (first | (at_builtin; refine wpList_append_own _ rfl _ _ 39 rfl (w.heap.size + 1) 5 i0 (.int .u8 0) 1 1 Tryd.underlying39 hi hz0 hz1 hz2 rfl (by decide) _ _ _ rfl (hown1.alloc _) ⟨w1.heap.size, 0, none⟩ 1 1 (bv [255]) rfl rfl ?c1 ?c2 ?c3 ?c4 ?c5 ?_))
          case c1 => exact cells1 w1 _ _ _ rfl
          case c2 => exact bv_one _
          case c3 => unfold maxLen; omega
          case c4 => omega
          case c5 => simp; omega
          · intro v2 w2 hown2 hgrow2 _
            rw [← bv_append] at hown2
            have hb2 : Below (w.heap.size + 1) (w.alloc (.cells #[.int .i64 3, .int .i64 0, .string s] 33)) w2 := (hb1.alloc (by omega) _).grown hgrow2 (by simp; omega) fun k hk => (hlt1 k hk).1
            clear hgrow2 hown1 hbox1 hlt1 hlt
            have ho2 : w2.ownsRow (w.heap.size + 1) 5 1 v2 (4 :: esc (s.data.toList.take (k + 1))).length (bv (4 :: esc (s.data.toList.take (k + 1)))) := by
              have e : 4 :: esc (s.data.toList.take (k + 1)) = L ++ [s[k]] ++ [255] := by rw [HE.out, ← HL.out, HC.out, esc1_zero]; simp
              rw [e]
              simpa using hown2
            clear hown2
            go_wp2
            go_roundw
            case rel => exact ⟨k + 1, by omega, by go_num, ho2, hb2⟩
            case measure => simp [intOf]; omega
        · have hc' : ((s[k].toNat : Int) == 0) = false := by
            rw [beq_eq_false_iff_ne]
            intro h
            exact hc (UInt8.toNat_inj.1 (by show s[k].toNat = 0; omega))
          have ho2 : w1.ownsRow (w.heap.size + 1) 5 1 v1 (4 :: esc (s.data.toList.take (k + 1))).length (bv (4 :: esc (s.data.toList.take (k + 1)))) := by
            have e : 4 :: esc (s.data.toList.take (k + 1)) = L ++ [s[k]] := by rw [HE.out, ← HL.out, esc1_other hc]; simp
            rw [e]
            simpa using hown1
          clear hown1 hlt1 hlt hc
          go_wp2
          go_roundw
          case rel => exact ⟨k + 1, by omega, by go_num, ho2, hb1⟩
          case measure => simp [intOf]; omega
    · have hk' : k = s.size := by omega
      subst hk'
      have htk : s.data.toList.take s.size = s.data.toList := List.take_of_length_le (by simp)
      rw [htk] at hown hlen
      obtain ⟨L, hL⟩ : ∃ L, (4 :: esc s.data.toList) = L := ⟨_, rfl⟩
      rw [hL] at hown hlen
      have hk0 : kb (3, 0, s) = L ++ [0, 0] := by rw [kb_text rfl, ← hL]; simp
      have HK : Hid (kb (3, 0, s) = L ++ [0, 0]) := hk0
      clear hk0 hL htk hel htl
      go_wp2_with (first | (at_builtin; refine wpList_append_own _ rfl _ _ 39 rfl (w.heap.size + 1) 5 i0 (.int .u8 0) 1 1 Tryd.underlying39 hi hz0 hz1 hz2 rfl (by decide) _ _ _ rfl (hown.alloc _) ⟨wr.heap.size, 0, none⟩ 2 2 (bv [0, 0]) rfl rfl ?c1 ?c2 ?c3 ?c4 ?c5 ?_))
      case c1 => exact cells2 wr 0 0 0 _ rfl
      case c2 => exact bv_one _
      case c3 => unfold maxLen; omega
      case c4 => omega
      case c5 => simp; omega
      · intro v1 w1 hown1 hgrow1 _
        rw [← bv_append] at hown1
        have hb1 : Below (w.heap.size + 1) (w.alloc (.cells #[.int .i64 3, .int .i64 0, .string s] 33)) w1 := (hb.alloc (by omega) _).grown hgrow1 (by simp; omega) fun k hk => (hlt k hk).1
        clear hgrow1 hown
        go_wp2
        go_ret
        refine ⟨_, rfl, ?_, ((Below.refl _ _).alloc (Nat.le_refl _) _).trans (hb1.mono (by omega))⟩
        rw [HK.out, List.length_append]
        exact own_mono hown1 (by omega)

theorem one_any (u : V3) (w : World) (hr : V3.right u = true) : Calls Tryd.prog 14 #[.agg #[.int .i64 u.1, .int .i64 u.2.1, .string u.2.2]] w (OV u w) := by
  obtain ⟨k, c, s⟩ := u
  rcases right_kind hr with h | h | h | h
  all_goals simp only at h; subst h
  · obtain ⟨h1, h2⟩ := right_null hr rfl
    simp only at h1 h2
    subst h1 h2
    exact one_null w
  · obtain ⟨h1, h2, h3⟩ := right_num hr rfl
    simp only at h1 h2 h3
    subst h3
    exact one_int w c h1 h2
  · obtain ⟨h1, h2⟩ := right_bool hr rfl
    simp only at h1 h2
    subst h2
    exact one_bool w c h1
  · obtain ⟨h1, h2⟩ := right_text hr rfl
    simp only at h1 h2
    subst h1
    exact one_text w s h2
end Go.Proofs.YtbmgcibclmbelabDoor
