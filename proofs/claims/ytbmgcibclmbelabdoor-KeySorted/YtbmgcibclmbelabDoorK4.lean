/- Walks of layer 2, fourth part: eight bytes of a number. -/
import Derived.Test.YtbmgcibclmbelabDoorK3
import Derived.Test.YtbmgcibclmbelabDoorW12
namespace Go.Proofs.YtbmgcibclmbelabDoor
open Go.RowKit

theorem cells1 (w : World) (x : Int) (c : UInt8) (t : TypeId) (h : x = (c.toNat : Int)) : ∀ j u, (bv [c])[j]? = some u → (w.alloc (.cells #[.int .u8 x] t)).cell? ((⟨w.heap.size, 0, none⟩ : Addr).add j) = some u := by
  subst h
  intro j u hj
  match j, hj with
  | 0, hj => simp [bv] at hj; subst hj; simp [Addr.add]

set_option maxHeartbeats 4000000 in
set_option maxRecDepth 100000 in
theorem word_any (B n N : Nat) (v : Value) (xs : List UInt8) (w : World) (hown : w.ownsRow B 5 1 v n (bv xs)) (hn : n ≤ 1000000000000) (hB : B ≤ w.heap.size) (hN : N < 18446744073709551616) :
    Calls Tryd.prog 19 #[v, .int .u64 (N : Int)] w fun e w' => ∃ v', e = .returned v' ∧ w'.ownsRow B 5 1 v' (n + 8) (bv (xs ++ be8 N)) ∧ Below B w w' := by
  obtain ⟨i0, hi, hz0, hz1, hz2⟩ := info_parts Tryd.info5
  have HN : Hid (N < 18446744073709551616) := hN
  have hN0 : (0 : Int) ≤ (N : Int) := by omega
  clear hN
  go_enter Tryd.func19, Tryd.ntmps19
  go_wp2
  go_loopw [0, 5] (fun v i wr => ∃ k : Nat, k ≤ 8 ∧ i = .int .i64 (56 - 8 * (k : Int)) ∧ wr.ownsRow B 5 1 v (n + k) (bv (xs ++ (be8 N).take k)) ∧ Below B w wr) (fun _ i _ => (intOf i + 8).toNat)
  case atStart => exact ⟨0, Nat.zero_le _, rfl, by simpa using hown, Below.refl _ _⟩
  case round =>
    clear hown
    obtain ⟨k, hk, rfl, hown, hb⟩ := hrel
    have hsz := hb.size
    have hlt := hown.lt
    by_cases h8 : k = 8
    · subst h8
      have ht : (be8 N).take 8 = be8 N := rfl
      rw [ht] at hown
      go_wp2
      go_ret
      exact ⟨_, rfl, hown, hb⟩
    · have hk7 : k ≤ 7 := by omega
      clear hk h8
      rcases (by omega : k = 0 ∨ k = 1 ∨ k = 2 ∨ k = 3 ∨ k = 4 ∨ k = 5 ∨ k = 6 ∨ k = 7) with rfl | rfl | rfl | rfl | rfl | rfl | rfl | rfl
      · go_wp2_with (first | (at_builtin; refine wpList_append_own _ rfl _ _ 39 rfl B 5 i0 (.int .u8 0) 1 1 Tryd.underlying39 hi hz0 hz1 hz2 rfl (by decide) _ _ _ rfl (hown.alloc _) ⟨wr.heap.size, 0, none⟩ 1 1 (bv [(UInt8.ofNat (N / 72057594037927936))]) rfl rfl ?c1 ?c2 ?c3 ?c4 ?c5 ?_))
        case c1 => exact cells1 wr _ _ _ (by rw [UInt8.toNat_ofNat']; omega)
        case c2 => exact bv_one _
        case c3 => unfold maxLen; omega
        case c4 => omega
        case c5 => simp; omega
        · intro v' w1 hown' hgrow _
          have hbb : Below B w w1 := (hb.alloc (by omega) _).grown hgrow (by simp; omega) fun k hk => (hlt k hk).1
          have ho2 : w1.ownsRow B 5 1 v' (n + 1) (bv (xs ++ (be8 N).take 1)) := by
            have e : xs ++ (be8 N).take 1 = (xs ++ (be8 N).take 0) ++ [(UInt8.ofNat (N / 72057594037927936))] := by rw [List.append_assoc]; rfl
            rw [e, bv_append]
            first | exact hown' | simpa using hown'
          clear hown' hgrow hown hlt
          go_wp2
          go_roundw
          case rel => exact ⟨1, by omega, by go_num, ho2, hbb⟩
          case measure => simp [intOf]
      · go_wp2_with (first | (at_builtin; refine wpList_append_own _ rfl _ _ 39 rfl B 5 i0 (.int .u8 0) 1 1 Tryd.underlying39 hi hz0 hz1 hz2 rfl (by decide) _ _ _ rfl (hown.alloc _) ⟨wr.heap.size, 0, none⟩ 1 1 (bv [(UInt8.ofNat (N / 281474976710656))]) rfl rfl ?c1 ?c2 ?c3 ?c4 ?c5 ?_))
        case c1 => exact cells1 wr _ _ _ (by rw [UInt8.toNat_ofNat']; omega)
        case c2 => exact bv_one _
        case c3 => unfold maxLen; omega
        case c4 => omega
        case c5 => simp; omega
        · intro v' w1 hown' hgrow _
          have hbb : Below B w w1 := (hb.alloc (by omega) _).grown hgrow (by simp; omega) fun k hk => (hlt k hk).1
          have ho2 : w1.ownsRow B 5 1 v' (n + 2) (bv (xs ++ (be8 N).take 2)) := by
            have e : xs ++ (be8 N).take 2 = (xs ++ (be8 N).take 1) ++ [(UInt8.ofNat (N / 281474976710656))] := by rw [List.append_assoc]; rfl
            rw [e, bv_append]
            first | exact hown' | simpa using hown'
          clear hown' hgrow hown hlt
          go_wp2
          go_roundw
          case rel => exact ⟨2, by omega, by go_num, ho2, hbb⟩
          case measure => simp [intOf]
      · go_wp2_with (first | (at_builtin; refine wpList_append_own _ rfl _ _ 39 rfl B 5 i0 (.int .u8 0) 1 1 Tryd.underlying39 hi hz0 hz1 hz2 rfl (by decide) _ _ _ rfl (hown.alloc _) ⟨wr.heap.size, 0, none⟩ 1 1 (bv [(UInt8.ofNat (N / 1099511627776))]) rfl rfl ?c1 ?c2 ?c3 ?c4 ?c5 ?_))
        case c1 => exact cells1 wr _ _ _ (by rw [UInt8.toNat_ofNat']; omega)
        case c2 => exact bv_one _
        case c3 => unfold maxLen; omega
        case c4 => omega
        case c5 => simp; omega
        · intro v' w1 hown' hgrow _
          have hbb : Below B w w1 := (hb.alloc (by omega) _).grown hgrow (by simp; omega) fun k hk => (hlt k hk).1
          have ho2 : w1.ownsRow B 5 1 v' (n + 3) (bv (xs ++ (be8 N).take 3)) := by
            have e : xs ++ (be8 N).take 3 = (xs ++ (be8 N).take 2) ++ [(UInt8.ofNat (N / 1099511627776))] := by rw [List.append_assoc]; rfl
            rw [e, bv_append]
            first | exact hown' | simpa using hown'
          clear hown' hgrow hown hlt
          go_wp2
          go_roundw
          case rel => exact ⟨3, by omega, by go_num, ho2, hbb⟩
          case measure => simp [intOf]
      · go_wp2_with (first | (at_builtin; refine wpList_append_own _ rfl _ _ 39 rfl B 5 i0 (.int .u8 0) 1 1 Tryd.underlying39 hi hz0 hz1 hz2 rfl (by decide) _ _ _ rfl (hown.alloc _) ⟨wr.heap.size, 0, none⟩ 1 1 (bv [(UInt8.ofNat (N / 4294967296))]) rfl rfl ?c1 ?c2 ?c3 ?c4 ?c5 ?_))
        case c1 => exact cells1 wr _ _ _ (by rw [UInt8.toNat_ofNat']; omega)
        case c2 => exact bv_one _
        case c3 => unfold maxLen; omega
        case c4 => omega
        case c5 => simp; omega
        · intro v' w1 hown' hgrow _
          have hbb : Below B w w1 := (hb.alloc (by omega) _).grown hgrow (by simp; omega) fun k hk => (hlt k hk).1
          have ho2 : w1.ownsRow B 5 1 v' (n + 4) (bv (xs ++ (be8 N).take 4)) := by
            have e : xs ++ (be8 N).take 4 = (xs ++ (be8 N).take 3) ++ [(UInt8.ofNat (N / 4294967296))] := by rw [List.append_assoc]; rfl
            rw [e, bv_append]
            first | exact hown' | simpa using hown'
          clear hown' hgrow hown hlt
          go_wp2
          go_roundw
          case rel => exact ⟨4, by omega, by go_num, ho2, hbb⟩
          case measure => simp [intOf]
      · go_wp2_with (first | (at_builtin; refine wpList_append_own _ rfl _ _ 39 rfl B 5 i0 (.int .u8 0) 1 1 Tryd.underlying39 hi hz0 hz1 hz2 rfl (by decide) _ _ _ rfl (hown.alloc _) ⟨wr.heap.size, 0, none⟩ 1 1 (bv [(UInt8.ofNat (N / 16777216))]) rfl rfl ?c1 ?c2 ?c3 ?c4 ?c5 ?_))
        case c1 => exact cells1 wr _ _ _ (by rw [UInt8.toNat_ofNat']; omega)
        case c2 => exact bv_one _
        case c3 => unfold maxLen; omega
        case c4 => omega
        case c5 => simp; omega
        · intro v' w1 hown' hgrow _
          have hbb : Below B w w1 := (hb.alloc (by omega) _).grown hgrow (by simp; omega) fun k hk => (hlt k hk).1
          have ho2 : w1.ownsRow B 5 1 v' (n + 5) (bv (xs ++ (be8 N).take 5)) := by
            have e : xs ++ (be8 N).take 5 = (xs ++ (be8 N).take 4) ++ [(UInt8.ofNat (N / 16777216))] := by rw [List.append_assoc]; rfl
            rw [e, bv_append]
            first | exact hown' | simpa using hown'
          clear hown' hgrow hown hlt
          go_wp2
          go_roundw
          case rel => exact ⟨5, by omega, by go_num, ho2, hbb⟩
          case measure => simp [intOf]
      · go_wp2_with (first | (at_builtin; refine wpList_append_own _ rfl _ _ 39 rfl B 5 i0 (.int .u8 0) 1 1 Tryd.underlying39 hi hz0 hz1 hz2 rfl (by decide) _ _ _ rfl (hown.alloc _) ⟨wr.heap.size, 0, none⟩ 1 1 (bv [(UInt8.ofNat (N / 65536))]) rfl rfl ?c1 ?c2 ?c3 ?c4 ?c5 ?_))
        case c1 => exact cells1 wr _ _ _ (by rw [UInt8.toNat_ofNat']; omega)
        case c2 => exact bv_one _
        case c3 => unfold maxLen; omega
        case c4 => omega
        case c5 => simp; omega
        · intro v' w1 hown' hgrow _
          have hbb : Below B w w1 := (hb.alloc (by omega) _).grown hgrow (by simp; omega) fun k hk => (hlt k hk).1
          have ho2 : w1.ownsRow B 5 1 v' (n + 6) (bv (xs ++ (be8 N).take 6)) := by
            have e : xs ++ (be8 N).take 6 = (xs ++ (be8 N).take 5) ++ [(UInt8.ofNat (N / 65536))] := by rw [List.append_assoc]; rfl
            rw [e, bv_append]
            first | exact hown' | simpa using hown'
          clear hown' hgrow hown hlt
          go_wp2
          go_roundw
          case rel => exact ⟨6, by omega, by go_num, ho2, hbb⟩
          case measure => simp [intOf]
      · go_wp2_with (first | (at_builtin; refine wpList_append_own _ rfl _ _ 39 rfl B 5 i0 (.int .u8 0) 1 1 Tryd.underlying39 hi hz0 hz1 hz2 rfl (by decide) _ _ _ rfl (hown.alloc _) ⟨wr.heap.size, 0, none⟩ 1 1 (bv [(UInt8.ofNat (N / 256))]) rfl rfl ?c1 ?c2 ?c3 ?c4 ?c5 ?_))
        case c1 => exact cells1 wr _ _ _ (by rw [UInt8.toNat_ofNat']; omega)
        case c2 => exact bv_one _
        case c3 => unfold maxLen; omega
        case c4 => omega
        case c5 => simp; omega
        · intro v' w1 hown' hgrow _
          have hbb : Below B w w1 := (hb.alloc (by omega) _).grown hgrow (by simp; omega) fun k hk => (hlt k hk).1
          have ho2 : w1.ownsRow B 5 1 v' (n + 7) (bv (xs ++ (be8 N).take 7)) := by
            have e : xs ++ (be8 N).take 7 = (xs ++ (be8 N).take 6) ++ [(UInt8.ofNat (N / 256))] := by rw [List.append_assoc]; rfl
            rw [e, bv_append]
            first | exact hown' | simpa using hown'
          clear hown' hgrow hown hlt
          go_wp2
          go_roundw
          case rel => exact ⟨7, by omega, by go_num, ho2, hbb⟩
          case measure => simp [intOf]
      · go_wp2_with (first | (at_builtin; refine wpList_append_own _ rfl _ _ 39 rfl B 5 i0 (.int .u8 0) 1 1 Tryd.underlying39 hi hz0 hz1 hz2 rfl (by decide) _ _ _ rfl (hown.alloc _) ⟨wr.heap.size, 0, none⟩ 1 1 (bv [(UInt8.ofNat N)]) rfl rfl ?c1 ?c2 ?c3 ?c4 ?c5 ?_))
        case c1 => exact cells1 wr _ _ _ (by rw [UInt8.toNat_ofNat']; omega)
        case c2 => exact bv_one _
        case c3 => unfold maxLen; omega
        case c4 => omega
        case c5 => simp; omega
        · intro v' w1 hown' hgrow _
          have hbb : Below B w w1 := (hb.alloc (by omega) _).grown hgrow (by simp; omega) fun k hk => (hlt k hk).1
          have ho2 : w1.ownsRow B 5 1 v' (n + 8) (bv (xs ++ (be8 N).take 8)) := by
            have e : xs ++ (be8 N).take 8 = (xs ++ (be8 N).take 7) ++ [(UInt8.ofNat N)] := by rw [List.append_assoc]; rfl
            rw [e, bv_append]
            first | exact hown' | simpa using hown'
          clear hown' hgrow hown hlt
          go_wp2
          go_roundw
          case rel => exact ⟨8, by omega, by go_num, ho2, hbb⟩
          case measure => simp [intOf]
end Go.Proofs.YtbmgcibclmbelabDoor
