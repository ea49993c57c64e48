/- Walks of layer 2, fourteenth part: a text, as the document reads it; the document's own reading of a key. -/
import Derived.Test.YtbmgcibclmbelaaDoorK13
namespace Go.Proofs.YtbmgcibclmbelaaDoor
open Go.RowKit

set_option maxHeartbeats 8000000 in
set_option maxRecDepth 100000 in
theorem read_text (s : ByteArray) (w : World) (h0 : 0 < s.size) (hs : s.size ≤ 2147483648) (c4 : s[0].toNat = 4) : Calls Tryd.prog 25 #[.string s] w (RN s w) := by
  obtain ⟨i0, hi, hz0, hz1, hz2⟩ := info_parts Tryd.info5
  have hf4 : s.data.toList.take 1 = [4] := by
    rw [front h0, (UInt8.toNat_inj.1 c4 : s[0] = 4)]
    rfl
  have HF : Hid (s.data.toList.take 1 = [4]) := hf4
  clear hf4
  have h0i : (0 : Int) < (s.size : Int) := by omega
  go_enter Tryd.func25, Tryd.ntmps25
  go_wp2
  go_loopw [5, 7] (fun i v wr => ∃ (k : Nat) (xs : List UInt8), 1 ≤ k ∧ k ≤ s.size ∧ i = .int .i64 k ∧ s.data.toList.take k = 4 :: esc xs ∧ xs.length ≤ k ∧ wr.ownsRow (w.heap.size + 2) 5 1 v xs.length (bv xs) ∧ Below (w.heap.size + 2) ((w.alloc (.cells #[.int .i64 0, .int .i64 0, .string ⟨#[]⟩] 25)).alloc (.cells #[.int .i64 3, .int .i64 0, .string ⟨#[]⟩] 25)) wr) (fun i _ _ => s.size - (intOf i).toNat)
  case atStart => exact ⟨1, [], Nat.le_refl _, h0, rfl, HF.out, Nat.zero_le _, World.ownsRow_nil _ _ _ _, Below.refl _ _⟩
  case round =>
    obtain ⟨k, xs, hk1, hk, rfl, htk, hxl, hown, hb⟩ := hrel
    have HT : Hid (s.data.toList.take k = 4 :: esc xs) := htk
    have HL : Hid (k = (esc xs).length + 1) := by
      have := congrArg List.length htk
      rw [List.length_take] at this
      simp at this
      show k = (esc xs).length + 1
      omega
    clear htk HF
    have hsz := hb.size
    simp at hsz
    have hlt := hown.lt
    have hbz : w.heap.size < wr.heap.size := by omega
    have hbz1 : w.heap.size + 1 < wr.heap.size := by omega
    have r0 : wr.cell? ⟨w.heap.size, 0, none⟩ = some (.int .i64 0) := by rw [hb.cell (p := ⟨w.heap.size, 0, none⟩) (by simp)]; simp
    have r1 : wr.cell? ⟨w.heap.size, 1, none⟩ = some (.int .i64 0) := by rw [hb.cell (p := ⟨w.heap.size, 1, none⟩) (by simp)]; simp
    have r2 : wr.cell? ⟨w.heap.size, 2, none⟩ = some (.string ⟨#[]⟩) := by rw [hb.cell (p := ⟨w.heap.size, 2, none⟩) (by simp)]; simp
    have q0 : wr.cell? ⟨w.heap.size + 1, 0, none⟩ = some (.int .i64 3) := by rw [hb.cell (p := ⟨w.heap.size + 1, 0, none⟩) (by simp)]; simp
    have q1 : wr.cell? ⟨w.heap.size + 1, 1, none⟩ = some (.int .i64 0) := by rw [hb.cell (p := ⟨w.heap.size + 1, 1, none⟩) (by simp)]; simp
    have q2 : wr.cell? ⟨w.heap.size + 1, 2, none⟩ = some (.string ⟨#[]⟩) := by rw [hb.cell (p := ⟨w.heap.size + 1, 2, none⟩) (by simp)]; simp
    have rf : ∀ o, wr.frozen? ⟨w.heap.size, o, none⟩ = false := by intro o; rw [hb.frozen (p := ⟨w.heap.size, o, none⟩) (by simp)]; simp
    have qf : ∀ o, wr.frozen? ⟨w.heap.size + 1, o, none⟩ = false := by intro o; rw [hb.frozen (p := ⟨w.heap.size + 1, o, none⟩) (by simp)]; simp
    have hbw : Below w.heap.size w wr := (((Below.refl _ _).alloc (Nat.le_refl _) _).alloc (by simp) _).trans (hb.mono (by omega))
    by_cases hend : k < s.size ∧ (∀ h : k < s.size, s[k].toNat = 0 → ∃ h1 : k + 1 < s.size, s[k + 1].toNat = 255)
    · obtain ⟨hlt2, hgo⟩ := hend
      have hlti : (k : Int) < (s.size : Int) := by omega
      by_cases hc : s[k].toNat = 0
      · obtain ⟨hl2, hd2⟩ := hgo hlt2 hc
        have hl2j : (k : Int) + 1 < (s.size : Int) := by omega
        have hc0 : s[k] = 0 := UInt8.toNat_inj.1 hc
        have HT2 : Hid (s.data.toList.take (k + 2) = 4 :: esc (xs ++ [s[k]])) := by
          have : s.data.toList.take (k + 2) = 4 :: esc (xs ++ [s[k]]) := by
            rw [take_next hl2, take_next hlt2, HT.out, hc0, esc_append, show s[k + 1] = 255 from UInt8.toNat_inj.1 hd2]
            simp [esc, esc1_zero]
          exact this
        clear hc0 hgo
        go_wp2_with (first | (at_builtin; refine wpList_append_own _ rfl _ _ 42 rfl (w.heap.size + 2) 5 i0 (.int .u8 0) 1 1 Tryd.underlying42 hi hz0 hz1 hz2 rfl (by decide) _ _ _ rfl (hown.alloc _) ⟨wr.heap.size, 0, none⟩ 1 1 (bv [s[k]]) rfl rfl ?c1 ?c2 ?c3 ?c4 ?c5 ?_))
        case c1 => exact cells1 wr _ _ _ (by first | rfl | (rw [hc]; rfl))
        case c2 => exact bv_one _
        case c3 => unfold maxLen; omega
        case c4 => omega
        case c5 => simp; omega
        · intro v1 w1 hown1 hgrow1 _
          rw [← bv_append] at hown1
          have hb1 : Below (w.heap.size + 2) ((w.alloc (.cells #[.int .i64 0, .int .i64 0, .string ⟨#[]⟩] 25)).alloc (.cells #[.int .i64 3, .int .i64 0, .string ⟨#[]⟩] 25)) w1 := (hb.alloc (by omega) _).grown hgrow1 (by simp; omega) fun k hk => (hlt k hk).1
          clear hgrow1 hown r0 r1 r2 rf hbw q0 q1 q2 qf
          go_wp2
          go_roundw
          case rel => exact ⟨k + 2, xs ++ [s[k]], by omega, by omega, by go_num, HT2.out, by simp; omega, by simpa using hown1, hb1⟩
          case measure => simp [intOf]; omega
      · have hcz : ((s[k].toNat : Int) != 0) = true := by simp; omega
        have hcz2 : ((s[k].toNat : Int) == 0) = false := u8_ne (n := 0) hc
        have HT2 : Hid (s.data.toList.take (k + 1) = 4 :: esc (xs ++ [s[k]])) := by
          have : s.data.toList.take (k + 1) = 4 :: esc (xs ++ [s[k]]) := by
            rw [take_next hlt2, HT.out, esc_append]
            simp [esc, esc1_other (fun h => hc (by rw [h]; rfl) : s[k] ≠ 0)]
          exact this
        clear hc hgo
        go_wp2_with (first | (at_builtin; refine wpList_append_own _ rfl _ _ 42 rfl (w.heap.size + 2) 5 i0 (.int .u8 0) 1 1 Tryd.underlying42 hi hz0 hz1 hz2 rfl (by decide) _ _ _ rfl (hown.alloc _) ⟨wr.heap.size, 0, none⟩ 1 1 (bv [s[k]]) rfl rfl ?c1 ?c2 ?c3 ?c4 ?c5 ?_))
        case c1 => exact cells1 wr _ _ _ rfl
        case c2 => exact bv_one _
        case c3 => unfold maxLen; omega
        case c4 => omega
        case c5 => simp; omega
        · intro v1 w1 hown1 hgrow1 _
          rw [← bv_append] at hown1
          have hb1 : Below (w.heap.size + 2) ((w.alloc (.cells #[.int .i64 0, .int .i64 0, .string ⟨#[]⟩] 25)).alloc (.cells #[.int .i64 3, .int .i64 0, .string ⟨#[]⟩] 25)) w1 := (hb.alloc (by omega) _).grown hgrow1 (by simp; omega) fun k hk => (hlt k hk).1
          clear hgrow1 hown r0 r1 r2 rf hbw q0 q1 q2 qf
          go_wp2
          go_roundw
          case rel => exact ⟨k + 1, xs ++ [s[k]], by omega, by omega, by go_num, HT2.out, by simp; omega, by simpa using hown1, hb1⟩
          case measure => simp [intOf]; omega
    · have hcs : ¬ (k : Int) < (s.size : Int) ∨ (∃ h : k < s.size, s[k].toNat = 0 ∧ (¬ (k : Int) + 1 < (s.size : Int) ∨ ∃ h1 : k + 1 < s.size, ((s[k + 1].toNat : Int) == 255) = false)) := by
        by_cases a : k < s.size
        · by_cases b : s[k].toNat = 0
          · by_cases c : k + 1 < s.size
            · by_cases d : s[k + 1].toNat = 255
              · exact absurd ⟨a, fun _ _ => ⟨c, d⟩⟩ hend
              · exact Or.inr ⟨a, b, Or.inr ⟨c, u8_ne (n := 255) d⟩⟩
            · exact Or.inr ⟨a, b, Or.inl (by omega)⟩
          · exact absurd ⟨a, fun _ g => absurd g b⟩ hend
        · exact Or.inl (by omega)
      have hE : Ends (s.data.toList.drop k) := by
        rcases hcs with a | ⟨a, b, c | ⟨c, d⟩⟩
        · exact Or.inl (List.drop_of_length_le (by simp; omega))
        · rw [drop_next a, (UInt8.toNat_inj.1 b : s[k] = 0), List.drop_of_length_le (by simp; omega)]
          exact ends_one
        · rw [drop_next a, (UInt8.toNat_inj.1 b : s[k] = 0), drop_next c]
          refine ends_other ?_ _
          intro h
          rw [h] at d
          exact absurd d (by decide)
      have HV : Hid (RR s.data.toList (3, 0, ⟨xs.toArray⟩) (k + 2)) := by
        have := rr_text (split_at HT.out) hE
        have e : (esc xs).length + 3 = k + 2 := by have := HL.out; omega
        rw [e] at this
        exact this
      obtain ⟨ar, cp, rfl, hcv⟩ := own_str hown
      clear hown hlt hend hE
      rcases hcs with a | ⟨a, b, c | ⟨c, d⟩⟩
      all_goals
        go_wp2
        exact bodyPost_ret (v := .tuple #[.agg #[.int .i64 3, .int .i64 0, .string ⟨xs.toArray⟩], .int .i64 (k + 2 : Nat)]) (by simp [results, Tryd.results25, go_sem, *]) rfl ⟨(3, 0, ⟨xs.toArray⟩), k + 2, rfl, HV.out, by (repeat (first | exact Below.refl _ _ | assumption | refine Below.drew ?_ | refine below_drewN ?_ _ | refine Below.alloc ?_ (by first | omega | (simp; done) | (simp; omega)) _ | refine Below.setCell ?_ (by first | omega | (simp; done) | (simp; omega)) _ | refine Below.trans ?_ (Below.mono (by assumption) (by first | omega | (simp; done) | (simp; omega)))))⟩

theorem read_any (s : ByteArray) (w : World) (h0 : 0 < s.size) (hs : s.size ≤ 2147483648) : Calls Tryd.prog 25 #[.string s] w (RN s w) := by
  by_cases c2 : s[0].toNat = 2
  · exact read_int s w h0 hs c2
  · by_cases c4 : s[0].toNat = 4
    · exact read_text s w h0 hs c4
    · exact read_small s w h0 c2 c4
end Go.Proofs.YtbmgcibclmbelaaDoor
