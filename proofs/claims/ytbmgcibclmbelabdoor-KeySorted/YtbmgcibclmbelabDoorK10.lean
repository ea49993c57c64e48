/- Walks of layer 2, tenth part: a text out of its bytes. -/
import Derived.Test.YtbmgcibclmbelabDoorK9
namespace Go.Proofs.YtbmgcibclmbelabDoor
open Go.RowKit

theorem take_next {s : ByteArray} {k : Nat} (h : k < s.size) : s.data.toList.take (k + 1) = s.data.toList.take k ++ [s[k]] := by
  rw [List.take_succ_eq_append_getElem (by simpa using h)]
  rfl
theorem drop_next {s : ByteArray} {k : Nat} (h : k < s.size) : s.data.toList.drop k = s[k] :: s.data.toList.drop (k + 1) := by
  rw [List.drop_eq_getElem_cons (by simpa using h)]
  rfl
theorem split_at {s : ByteArray} {k : Nat} {xs : List UInt8} (h : s.data.toList.take k = 4 :: esc xs) : s.data.toList = 4 :: (esc xs ++ s.data.toList.drop k) := by
  have := List.take_append_drop k s.data.toList
  rw [h] at this
  simpa using this.symm
theorem u8_ne {c : UInt8} {n : Nat} (h : ¬ c.toNat = n) : ((c.toNat : Int) == (n : Int)) = false := by
  rw [beq_eq_false_iff_ne]
  omega

/-- What readValue and readText answer. -/
def VN (s : ByteArray) (w : World) (e : Ending) (w' : World) : Prop := ∃ (v : V3) (n : Nat), e = .returned (.tuple #[.agg #[.int .i64 v.1, .int .i64 v.2.1, .string v.2.2], .int .i64 n]) ∧ RV s.data.toList v n ∧ Below w.heap.size w w'

set_option maxHeartbeats 4000000 in
set_option maxRecDepth 100000 in
theorem rtext_any (s : ByteArray) (w : World) (h4 : s.data.toList.take 1 = [4]) (hs : s.size ≤ 2147483648) : Calls Tryd.prog 25 #[.string s] w (VN s w) := by
  obtain ⟨i0, hi, hz0, hz1, hz2⟩ := info_parts Tryd.info5
  have hpos : 1 ≤ s.size := by
    have := congrArg List.length h4
    rw [List.length_take] at this
    simp at this
    omega
  have HF : Hid (s.data.toList.take 1 = [4]) := h4
  clear h4
  go_enter Tryd.func25, Tryd.ntmps25
  go_wp2
  go_loopw [4, 5] (fun v i wr => ∃ (k : Nat) (xs : List UInt8), 1 ≤ k ∧ k ≤ s.size ∧ i = .int .i64 k ∧ s.data.toList.take k = 4 :: esc xs ∧ xs.length ≤ k ∧ wr.ownsRow (w.heap.size + 1) 5 1 v xs.length (bv xs) ∧ Below (w.heap.size + 1) (w.alloc (.cells #[.int .i64 0, .int .i64 0, .string ⟨#[]⟩] 33)) wr) (fun _ i _ => s.size - (intOf i).toNat)
  case atStart => exact ⟨1, [], Nat.le_refl _, hpos, rfl, HF.out, Nat.zero_le _, World.ownsRow_nil _ _ _ _, Below.refl _ _⟩
  case round =>
    obtain ⟨k, xs, hk1, hk, rfl, htk, hxl, hown, hb⟩ := hrel
    have HT : Hid (s.data.toList.take k = 4 :: esc xs) := htk
    have HL : Hid (k = (esc xs).length + 1) := by
      have := congrArg List.length htk
      rw [List.length_take] at this
      simp at this
      show k = (esc xs).length + 1
      omega
    clear htk HF
    have hsz := hb.size
    simp at hsz
    have hlt := hown.lt
    have hbz : w.heap.size < wr.heap.size := by omega
    have r0 : wr.cell? ⟨w.heap.size, 0, none⟩ = some (.int .i64 0) := by rw [hb.cell (p := ⟨w.heap.size, 0, none⟩) (by simp)]; simp
    have r1 : wr.cell? ⟨w.heap.size, 1, none⟩ = some (.int .i64 0) := by rw [hb.cell (p := ⟨w.heap.size, 1, none⟩) (by simp)]; simp
    have r2 : wr.cell? ⟨w.heap.size, 2, none⟩ = some (.string ⟨#[]⟩) := by rw [hb.cell (p := ⟨w.heap.size, 2, none⟩) (by simp)]; simp
    have rf : ∀ o, wr.frozen? ⟨w.heap.size, o, none⟩ = false := by intro o; rw [hb.frozen (p := ⟨w.heap.size, o, none⟩) (by simp)]; simp
    have hbw : Below w.heap.size w wr := ((Below.refl _ _).alloc (Nat.le_refl _) _).trans (hb.mono (by omega))
    by_cases hlt2 : k < s.size
    · by_cases hc : s[k].toNat = 0
      · have hc0 : s[k] = 0 := UInt8.toNat_inj.1 hc
        by_cases hl2 : k + 1 < s.size
        · have hl2i : ((k : Int) + 1 == (s.size : Int)) = false := by rw [beq_eq_false_iff_ne]; omega
          have hl2j : (k : Int) + 1 < (s.size : Int) := by omega
          by_cases hd : s[k + 1].toNat = 0
          · have hd0 : s[k + 1] = 0 := UInt8.toNat_inj.1 hd
            have HV : Hid (RV s.data.toList (3, 0, ⟨xs.toArray⟩) (k + 2)) := by
              have := rv_text (s := s.data.toList) (xs := xs) (t := s.data.toList.drop (k + 2)) (by have e0 := split_at HT.out; rw [drop_next hlt2, drop_next hl2, hc0, hd0] at e0; exact e0)
              have e : (esc xs).length + 3 = k + 2 := by have := HL.out; omega
              rw [e] at this
              exact this
            obtain ⟨ar, cp, rfl, hcv⟩ := own_str hown
            clear hown hlt hc0 hd0
            go_wp2
            exact bodyPost_ret (v := .tuple #[.agg #[.int .i64 3, .int .i64 0, .string ⟨xs.toArray⟩], .int .i64 (k + 2 : Nat)]) (by simp [results, Tryd.results25, go_sem, *]; omega) rfl ⟨(3, 0, ⟨xs.toArray⟩), k + 2, rfl, HV.out, by (repeat (first | exact Below.refl _ _ | assumption | refine Below.drew ?_ | refine below_drewN ?_ _ | refine Below.alloc ?_ (by first | omega | (simp; done) | (simp; omega)) _ | refine Below.setCell ?_ (by first | omega | (simp; done) | (simp; omega)) _ | refine Below.trans ?_ (Below.mono (by assumption) (by first | omega | (simp; done) | (simp; omega)))))⟩
          · by_cases hd2 : s[k + 1].toNat = 255
            · have hdz : ((s[k + 1].toNat : Int) == 0) = false := u8_ne (n := 0) hd
              have HT2 : Hid (s.data.toList.take (k + 2) = 4 :: esc (xs ++ [0])) := by
                have : s.data.toList.take (k + 2) = 4 :: esc (xs ++ [0]) := by
                  rw [take_next hl2, take_next hlt2, HT.out, hc0, esc_append, show s[k + 1] = 255 from UInt8.toNat_inj.1 hd2]
                  simp [esc, esc1_zero]
                exact this
              clear hc0 hd
              go_wp2_with (first | (at_builtin; refine wpList_append_own _ rfl _ _ 39 rfl (w.heap.size + 1) 5 i0 (.int .u8 0) 1 1 Tryd.underlying39 hi hz0 hz1 hz2 rfl (by decide) _ _ _ rfl (hown.alloc _) ⟨wr.heap.size, 0, none⟩ 1 1 (bv [0]) rfl rfl ?c1 ?c2 ?c3 ?c4 ?c5 ?_))
              case c1 => exact cells1 wr _ _ _ rfl
              case c2 => exact bv_one _
              case c3 => unfold maxLen; omega
              case c4 => omega
              case c5 => simp; omega
              · intro v1 w1 hown1 hgrow1 _
                rw [← bv_append] at hown1
                have hb1 : Below (w.heap.size + 1) (w.alloc (.cells #[.int .i64 0, .int .i64 0, .string ⟨#[]⟩] 33)) w1 := (hb.alloc (by omega) _).grown hgrow1 (by simp; omega) fun k hk => (hlt k hk).1
                clear hgrow1 hown r0 r1 r2 rf hbw
                go_wp2
                go_roundw
                case rel => exact ⟨k + 2, xs ++ [0], by omega, by omega, by go_num, HT2.out, by simp; omega, by simpa using hown1, hb1⟩
                case measure => simp [intOf]; omega
            · have hdz : ((s[k + 1].toNat : Int) == 0) = false := u8_ne (n := 0) hd
              have hdz2 : ((s[k + 1].toNat : Int) != 255) = true := by simp; omega
              have HV : Hid (RV s.data.toList (0, 0, ⟨#[]⟩) 0) := rv_text0 (xs := xs) _ (split_at HT.out) (by rw [drop_next hlt2, drop_next hl2, hc0]; exact ends_other (fun h => hd2 (by rw [h]; rfl)) _) (by
                intro t h
                rw [drop_next hlt2, drop_next hl2] at h
                exact hd (by rw [(List.cons.inj (List.cons.inj h).2).1]; rfl))
              clear hown hlt hc0 hd hd2
              go_wp2
              exact bodyPost_ret (v := .tuple #[.agg #[.int .i64 0, .int .i64 0, .string ⟨#[]⟩], .int .i64 (0 : Nat)]) (by simp [results, Tryd.results25, go_sem, *]) rfl ⟨(0, 0, ⟨#[]⟩), 0, rfl, HV.out, by (repeat (first | exact Below.refl _ _ | assumption | refine Below.drew ?_ | refine below_drewN ?_ _ | refine Below.alloc ?_ (by first | omega | (simp; done) | (simp; omega)) _ | refine Below.setCell ?_ (by first | omega | (simp; done) | (simp; omega)) _ | refine Below.trans ?_ (Below.mono (by assumption) (by first | omega | (simp; done) | (simp; omega)))))⟩
        · have hke : k + 1 = s.size := by omega
          have hkei : ((k : Int) + 1 == (s.size : Int)) = true := by rw [beq_iff_eq]; omega
          have HV : Hid (RV s.data.toList (0, 0, ⟨#[]⟩) 0) := rv_text0 (xs := xs) _ (split_at HT.out) (by rw [drop_next hlt2, List.drop_of_length_le (by simp; omega), hc0]; exact ends_one) (by
            intro t h
            rw [drop_next hlt2, List.drop_of_length_le (by simp; omega)] at h
            simp at h)
          clear hown hlt hc0 hke
          go_wp2
          exact bodyPost_ret (v := .tuple #[.agg #[.int .i64 0, .int .i64 0, .string ⟨#[]⟩], .int .i64 (0 : Nat)]) (by simp [results, Tryd.results25, go_sem, *]) rfl ⟨(0, 0, ⟨#[]⟩), 0, rfl, HV.out, by (repeat (first | exact Below.refl _ _ | assumption | refine Below.drew ?_ | refine below_drewN ?_ _ | refine Below.alloc ?_ (by first | omega | (simp; done) | (simp; omega)) _ | refine Below.setCell ?_ (by first | omega | (simp; done) | (simp; omega)) _ | refine Below.trans ?_ (Below.mono (by assumption) (by first | omega | (simp; done) | (simp; omega)))))⟩
      · have hcz : ((s[k].toNat : Int) != 0) = true := by simp; omega
        have HT2 : Hid (s.data.toList.take (k + 1) = 4 :: esc (xs ++ [s[k]])) := by
          have : s.data.toList.take (k + 1) = 4 :: esc (xs ++ [s[k]]) := by
            rw [take_next hlt2, HT.out, esc_append]
            simp [esc, esc1_other (fun h => hc (by rw [h]; rfl) : s[k] ≠ 0)]
          exact this
        clear hc
        go_wp2_with (first | (at_builtin; refine wpList_append_own _ rfl _ _ 39 rfl (w.heap.size + 1) 5 i0 (.int .u8 0) 1 1 Tryd.underlying39 hi hz0 hz1 hz2 rfl (by decide) _ _ _ rfl (hown.alloc _) ⟨wr.heap.size, 0, none⟩ 1 1 (bv [s[k]]) rfl rfl ?c1 ?c2 ?c3 ?c4 ?c5 ?_))
        case c1 => exact cells1 wr _ _ _ rfl
        case c2 => exact bv_one _
        case c3 => unfold maxLen; omega
        case c4 => omega
        case c5 => simp; omega
        · intro v1 w1 hown1 hgrow1 _
          rw [← bv_append] at hown1
          have hb1 : Below (w.heap.size + 1) (w.alloc (.cells #[.int .i64 0, .int .i64 0, .string ⟨#[]⟩] 33)) w1 := (hb.alloc (by omega) _).grown hgrow1 (by simp; omega) fun k hk => (hlt k hk).1
          clear hgrow1 hown r0 r1 r2 rf hbw
          go_wp2
          go_roundw
          case rel => exact ⟨k + 1, xs ++ [s[k]], by omega, by omega, by go_num, HT2.out, by simp; omega, by simpa using hown1, hb1⟩
          case measure => simp [intOf]; omega
    · have hk' : k = s.size := by omega
      have HV : Hid (RV s.data.toList (0, 0, ⟨#[]⟩) 0) := rv_text0 (xs := xs) _ (split_at HT.out) (by rw [List.drop_of_length_le (by simp; omega)]; exact Or.inl rfl) (by
        intro t h
        rw [List.drop_of_length_le (by simp; omega)] at h
        simp at h)
      clear hown hlt
      subst hk'
      go_wp2
      exact bodyPost_ret (v := .tuple #[.agg #[.int .i64 0, .int .i64 0, .string ⟨#[]⟩], .int .i64 (0 : Nat)]) (by simp [results, Tryd.results25, go_sem, *]) rfl ⟨(0, 0, ⟨#[]⟩), 0, rfl, HV.out, by (repeat (first | exact Below.refl _ _ | assumption | refine Below.drew ?_ | refine below_drewN ?_ _ | refine Below.alloc ?_ (by first | omega | (simp; done) | (simp; omega)) _ | refine Below.setCell ?_ (by first | omega | (simp; done) | (simp; omega)) _ | refine Below.trans ?_ (Below.mono (by assumption) (by first | omega | (simp; done) | (simp; omega)))))⟩
end Go.Proofs.YtbmgcibclmbelabDoor
