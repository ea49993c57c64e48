/- Walks of layer 10: the class of a byte. -/
import Derived.Test.YtlooelldkbdomaaGreatDoorA0
namespace Go.Proofs.YtlooelldkbdomaaGreatDoor
open Go.RowKit

set_option maxHeartbeats 8000000 in
set_option maxRecDepth 100000 in
theorem classAt_any (s : ByteArray) (k : Nat) (w : World) : Calls Tryz.prog 67 #[.string s, .int .i64 (k : Int)] w fun e w' => e = .returned (.int .i64 (clsAt s k)) ∧ w' = w := by
  by_cases hk : k < s.size
  · have hki : ¬ (s.size : Int) ≤ (k : Int) := by omega
    have hkj : (k : Int) < (s.size : Int) := by omega
    have HC : Hid (clsAt s k = cls s[k]) := clsAt_in hk
    have hb := UInt8.toNat_lt s[k]
    obtain ⟨x, hx⟩ : ∃ x, s[k].toNat = x := ⟨_, rfl⟩
    by_cases h32 : x = 32
    · skip
      have HV : Hid (cls s[k] = 2) := by
        show cls s[k] = 2
        unfold cls
        simp only [hx]
        repeat (first | rw [if_pos (by first | omega | assumption)] | rw [if_neg (by first | omega | assumption | (rw [hsg]; decide))])
      have q32 : ((x : Int) == 32) = true := by simp; omega
      have q9 : ((x : Int) == 9) = false := by simp; omega
      have q10 : ((x : Int) == 10) = false := by simp; omega
      have q95 : ((x : Int) == 95) = false := by simp; omega
      have q58 : ((x : Int) == 58) = false := by simp; omega
      have q39 : ((x : Int) == 39) = false := by simp; omega
      have l48 : ¬ (48 : Int) ≤ (x : Int) := by omega
      have l97 : ¬ (97 : Int) ≤ (x : Int) := by omega
      have l65 : ¬ (65 : Int) ≤ (x : Int) := by omega
      rw [HC.out, HV.out]
      go_enter Tryz.func67, Tryz.ntmps67
      go_wp2
      go_ret
      exact ⟨rfl, rfl⟩
    · skip
      by_cases h9 : x = 9
      · skip
        have HV : Hid (cls s[k] = 2) := by
          show cls s[k] = 2
          unfold cls
          simp only [hx]
          repeat (first | rw [if_pos (by first | omega | assumption)] | rw [if_neg (by first | omega | assumption | (rw [hsg]; decide))])
        have q32 : ((x : Int) == 32) = false := by simp; omega
        have q9 : ((x : Int) == 9) = true := by simp; omega
        have q10 : ((x : Int) == 10) = false := by simp; omega
        have q95 : ((x : Int) == 95) = false := by simp; omega
        have q58 : ((x : Int) == 58) = false := by simp; omega
        have q39 : ((x : Int) == 39) = false := by simp; omega
        have l48 : ¬ (48 : Int) ≤ (x : Int) := by omega
        have l97 : ¬ (97 : Int) ≤ (x : Int) := by omega
        have l65 : ¬ (65 : Int) ≤ (x : Int) := by omega
        rw [HC.out, HV.out]
        go_enter Tryz.func67, Tryz.ntmps67
        go_wp2
        go_ret
        exact ⟨rfl, rfl⟩
      · skip
        by_cases h10 : x = 10
        · skip
          have HV : Hid (cls s[k] = 3) := by
            show cls s[k] = 3
            unfold cls
            simp only [hx]
            repeat (first | rw [if_pos (by first | omega | assumption)] | rw [if_neg (by first | omega | assumption | (rw [hsg]; decide))])
          have q32 : ((x : Int) == 32) = false := by simp; omega
          have q9 : ((x : Int) == 9) = false := by simp; omega
          have q10 : ((x : Int) == 10) = true := by simp; omega
          have q95 : ((x : Int) == 95) = false := by simp; omega
          have q58 : ((x : Int) == 58) = false := by simp; omega
          have q39 : ((x : Int) == 39) = false := by simp; omega
          have l48 : ¬ (48 : Int) ≤ (x : Int) := by omega
          have l97 : ¬ (97 : Int) ≤ (x : Int) := by omega
          have l65 : ¬ (65 : Int) ≤ (x : Int) := by omega
          rw [HC.out, HV.out]
          go_enter Tryz.func67, Tryz.ntmps67
          go_wp2
          go_ret
          exact ⟨rfl, rfl⟩
        · skip
          by_cases h95 : x = 95
          · skip
            have HV : Hid (cls s[k] = 7) := by
              show cls s[k] = 7
              unfold cls
              simp only [hx]
              repeat (first | rw [if_pos (by first | omega | assumption)] | rw [if_neg (by first | omega | assumption | (rw [hsg]; decide))])
            have q32 : ((x : Int) == 32) = false := by simp; omega
            have q9 : ((x : Int) == 9) = false := by simp; omega
            have q10 : ((x : Int) == 10) = false := by simp; omega
            have q95 : ((x : Int) == 95) = true := by simp; omega
            have q58 : ((x : Int) == 58) = false := by simp; omega
            have q39 : ((x : Int) == 39) = false := by simp; omega
            have l48 : (48 : Int) ≤ (x : Int) := by omega
            have r48 : ¬ (x : Int) ≤ 57 := by omega
            have l97 : ¬ (97 : Int) ≤ (x : Int) := by omega
            have l65 : (65 : Int) ≤ (x : Int) := by omega
            have r65 : ¬ (x : Int) ≤ 90 := by omega
            rw [HC.out, HV.out]
            go_enter Tryz.func67, Tryz.ntmps67
            go_wp2
            go_ret
            exact ⟨rfl, rfl⟩
          · skip
            by_cases h58 : x = 58
            · skip
              have HV : Hid (cls s[k] = 8) := by
                show cls s[k] = 8
                unfold cls
                simp only [hx]
                repeat (first | rw [if_pos (by first | omega | assumption)] | rw [if_neg (by first | omega | assumption | (rw [hsg]; decide))])
              have q32 : ((x : Int) == 32) = false := by simp; omega
              have q9 : ((x : Int) == 9) = false := by simp; omega
              have q10 : ((x : Int) == 10) = false := by simp; omega
              have q95 : ((x : Int) == 95) = false := by simp; omega
              have q58 : ((x : Int) == 58) = true := by simp; omega
              have q39 : ((x : Int) == 39) = false := by simp; omega
              have l48 : (48 : Int) ≤ (x : Int) := by omega
              have r48 : ¬ (x : Int) ≤ 57 := by omega
              have l97 : ¬ (97 : Int) ≤ (x : Int) := by omega
              have l65 : ¬ (65 : Int) ≤ (x : Int) := by omega
              rw [HC.out, HV.out]
              go_enter Tryz.func67, Tryz.ntmps67
              go_wp2
              go_ret
              exact ⟨rfl, rfl⟩
            · skip
              by_cases h39 : x = 39
              · skip
                have HV : Hid (cls s[k] = 9) := by
                  show cls s[k] = 9
                  unfold cls
                  simp only [hx]
                  repeat (first | rw [if_pos (by first | omega | assumption)] | rw [if_neg (by first | omega | assumption | (rw [hsg]; decide))])
                have q32 : ((x : Int) == 32) = false := by simp; omega
                have q9 : ((x : Int) == 9) = false := by simp; omega
                have q10 : ((x : Int) == 10) = false := by simp; omega
                have q95 : ((x : Int) == 95) = false := by simp; omega
                have q58 : ((x : Int) == 58) = false := by simp; omega
                have q39 : ((x : Int) == 39) = true := by simp; omega
                have l48 : ¬ (48 : Int) ≤ (x : Int) := by omega
                have l97 : ¬ (97 : Int) ≤ (x : Int) := by omega
                have l65 : ¬ (65 : Int) ≤ (x : Int) := by omega
                rw [HC.out, HV.out]
                go_enter Tryz.func67, Tryz.ntmps67
                go_wp2
                go_ret
                exact ⟨rfl, rfl⟩
              · skip
                by_cases g48 : 48 ≤ x ∧ x ≤ 57
                · obtain ⟨ga, gb⟩ := g48
                  have HV : Hid (cls s[k] = 4) := by
                    show cls s[k] = 4
                    unfold cls
                    simp only [hx]
                    repeat (first | rw [if_pos (by first | omega | assumption)] | rw [if_neg (by first | omega | assumption | (rw [hsg]; decide))])
                  have q32 : ((x : Int) == 32) = false := by simp; omega
                  have q9 : ((x : Int) == 9) = false := by simp; omega
                  have q10 : ((x : Int) == 10) = false := by simp; omega
                  have q95 : ((x : Int) == 95) = false := by simp; omega
                  have q58 : ((x : Int) == 58) = false := by simp; omega
                  have q39 : ((x : Int) == 39) = false := by simp; omega
                  have l48 : (48 : Int) ≤ (x : Int) := by omega
                  have r48 : (x : Int) ≤ 57 := by omega
                  have l97 : ¬ (97 : Int) ≤ (x : Int) := by omega
                  have l65 : ¬ (65 : Int) ≤ (x : Int) := by omega
                  rw [HC.out, HV.out]
                  go_enter Tryz.func67, Tryz.ntmps67
                  go_wp2
                  go_ret
                  exact ⟨rfl, rfl⟩
                · skip
                  by_cases g97 : 97 ≤ x ∧ x ≤ 122
                  · obtain ⟨ga, gb⟩ := g97
                    have HV : Hid (cls s[k] = 5) := by
                      show cls s[k] = 5
                      unfold cls
                      simp only [hx]
                      repeat (first | rw [if_pos (by first | omega | assumption)] | rw [if_neg (by first | omega | assumption | (rw [hsg]; decide))])
                    have q32 : ((x : Int) == 32) = false := by simp; omega
                    have q9 : ((x : Int) == 9) = false := by simp; omega
                    have q10 : ((x : Int) == 10) = false := by simp; omega
                    have q95 : ((x : Int) == 95) = false := by simp; omega
                    have q58 : ((x : Int) == 58) = false := by simp; omega
                    have q39 : ((x : Int) == 39) = false := by simp; omega
                    have l48 : (48 : Int) ≤ (x : Int) := by omega
                    have r48 : ¬ (x : Int) ≤ 57 := by omega
                    have l97 : (97 : Int) ≤ (x : Int) := by omega
                    have r97 : (x : Int) ≤ 122 := by omega
                    have l65 : (65 : Int) ≤ (x : Int) := by omega
                    have r65 : ¬ (x : Int) ≤ 90 := by omega
                    rw [HC.out, HV.out]
                    go_enter Tryz.func67, Tryz.ntmps67
                    go_wp2
                    go_ret
                    exact ⟨rfl, rfl⟩
                  · skip
                    by_cases g65 : 65 ≤ x ∧ x ≤ 90
                    · obtain ⟨ga, gb⟩ := g65
                      have HV : Hid (cls s[k] = 6) := by
                        show cls s[k] = 6
                        unfold cls
                        simp only [hx]
                        repeat (first | rw [if_pos (by first | omega | assumption)] | rw [if_neg (by first | omega | assumption | (rw [hsg]; decide))])
                      have q32 : ((x : Int) == 32) = false := by simp; omega
                      have q9 : ((x : Int) == 9) = false := by simp; omega
                      have q10 : ((x : Int) == 10) = false := by simp; omega
                      have q95 : ((x : Int) == 95) = false := by simp; omega
                      have q58 : ((x : Int) == 58) = false := by simp; omega
                      have q39 : ((x : Int) == 39) = false := by simp; omega
                      have l48 : (48 : Int) ≤ (x : Int) := by omega
                      have r48 : ¬ (x : Int) ≤ 57 := by omega
                      have l97 : ¬ (97 : Int) ≤ (x : Int) := by omega
                      have l65 : (65 : Int) ≤ (x : Int) := by omega
                      have r65 : (x : Int) ≤ 90 := by omega
                      rw [HC.out, HV.out]
                      go_enter Tryz.func67, Tryz.ntmps67
                      go_wp2
                      go_ret
                      exact ⟨rfl, rfl⟩
                    · skip
                      have hib : (((s[k].toNat : Int)).toNat.toUInt8) = s[k] := by simp
                      rw [hx] at hib
                      cases hsg : sgn s[k] with
                      | true =>
                        obtain ⟨V, hV⟩ : ∃ V, Lib.indexByte [59, 44, 40, 41, 46, 42, 43, 45, 47, 37, 61, 60, 62] s[k] = V := ⟨_, rfl⟩
                        have hsi : (0 : Int) ≤ V := by
                          rw [← hV]
                          exact of_decide_eq_true hsg
                        have hq : Lib.indexByte (ByteArray.mk #[59, 44, 40, 41, 46, 42, 43, 45, 47, 37, 61, 60, 62]).data.toList ((x : Int)).toNat.toUInt8 = V := by rw [hib]; exact hV
                        have hgap : (x < 48) ∨ (57 < x ∧ x < 65) ∨ (90 < x ∧ x < 97) ∨ (122 < x) := by omega
                        rcases hgap with hg | hg | hg | hg
                        · skip
                          have HV : Hid (cls s[k] = 10) := by
                            show cls s[k] = 10
                            unfold cls
                            simp only [hx]
                            repeat (first | rw [if_pos (by first | omega | assumption)] | rw [if_neg (by first | omega | assumption | (rw [hsg]; decide))])
                          have q32 : ((x : Int) == 32) = false := by simp; omega
                          have q9 : ((x : Int) == 9) = false := by simp; omega
                          have q10 : ((x : Int) == 10) = false := by simp; omega
                          have q95 : ((x : Int) == 95) = false := by simp; omega
                          have q58 : ((x : Int) == 58) = false := by simp; omega
                          have q39 : ((x : Int) == 39) = false := by simp; omega
                          have l48 : ¬ (48 : Int) ≤ (x : Int) := by omega
                          have l97 : ¬ (97 : Int) ≤ (x : Int) := by omega
                          have l65 : ¬ (65 : Int) ≤ (x : Int) := by omega
                          rw [HC.out, HV.out]
                          go_enter Tryz.func67, Tryz.ntmps67
                          go_wp2_with (first | (go_at_call 113; refine (Tryz.strings_IndexByte _ _ _).mono ?_; rintro e w' ⟨rfl, he⟩; rw [he]; clear he; rw [hq]))
                          go_ret
                          exact ⟨rfl, rfl⟩
                        · skip
                          have HV : Hid (cls s[k] = 10) := by
                            show cls s[k] = 10
                            unfold cls
                            simp only [hx]
                            repeat (first | rw [if_pos (by first | omega | assumption)] | rw [if_neg (by first | omega | assumption | (rw [hsg]; decide))])
                          have q32 : ((x : Int) == 32) = false := by simp; omega
                          have q9 : ((x : Int) == 9) = false := by simp; omega
                          have q10 : ((x : Int) == 10) = false := by simp; omega
                          have q95 : ((x : Int) == 95) = false := by simp; omega
                          have q58 : ((x : Int) == 58) = false := by simp; omega
                          have q39 : ((x : Int) == 39) = false := by simp; omega
                          have l48 : (48 : Int) ≤ (x : Int) := by omega
                          have r48 : ¬ (x : Int) ≤ 57 := by omega
                          have l97 : ¬ (97 : Int) ≤ (x : Int) := by omega
                          have l65 : ¬ (65 : Int) ≤ (x : Int) := by omega
                          rw [HC.out, HV.out]
                          go_enter Tryz.func67, Tryz.ntmps67
                          go_wp2_with (first | (go_at_call 113; refine (Tryz.strings_IndexByte _ _ _).mono ?_; rintro e w' ⟨rfl, he⟩; rw [he]; clear he; rw [hq]))
                          go_ret
                          exact ⟨rfl, rfl⟩
                        · skip
                          have HV : Hid (cls s[k] = 10) := by
                            show cls s[k] = 10
                            unfold cls
                            simp only [hx]
                            repeat (first | rw [if_pos (by first | omega | assumption)] | rw [if_neg (by first | omega | assumption | (rw [hsg]; decide))])
                          have q32 : ((x : Int) == 32) = false := by simp; omega
                          have q9 : ((x : Int) == 9) = false := by simp; omega
                          have q10 : ((x : Int) == 10) = false := by simp; omega
                          have q95 : ((x : Int) == 95) = false := by simp; omega
                          have q58 : ((x : Int) == 58) = false := by simp; omega
                          have q39 : ((x : Int) == 39) = false := by simp; omega
                          have l48 : (48 : Int) ≤ (x : Int) := by omega
                          have r48 : ¬ (x : Int) ≤ 57 := by omega
                          have l97 : ¬ (97 : Int) ≤ (x : Int) := by omega
                          have l65 : (65 : Int) ≤ (x : Int) := by omega
                          have r65 : ¬ (x : Int) ≤ 90 := by omega
                          rw [HC.out, HV.out]
                          go_enter Tryz.func67, Tryz.ntmps67
                          go_wp2_with (first | (go_at_call 113; refine (Tryz.strings_IndexByte _ _ _).mono ?_; rintro e w' ⟨rfl, he⟩; rw [he]; clear he; rw [hq]))
                          go_ret
                          exact ⟨rfl, rfl⟩
                        · skip
                          have HV : Hid (cls s[k] = 10) := by
                            show cls s[k] = 10
                            unfold cls
                            simp only [hx]
                            repeat (first | rw [if_pos (by first | omega | assumption)] | rw [if_neg (by first | omega | assumption | (rw [hsg]; decide))])
                          have q32 : ((x : Int) == 32) = false := by simp; omega
                          have q9 : ((x : Int) == 9) = false := by simp; omega
                          have q10 : ((x : Int) == 10) = false := by simp; omega
                          have q95 : ((x : Int) == 95) = false := by simp; omega
                          have q58 : ((x : Int) == 58) = false := by simp; omega
                          have q39 : ((x : Int) == 39) = false := by simp; omega
                          have l48 : (48 : Int) ≤ (x : Int) := by omega
                          have r48 : ¬ (x : Int) ≤ 57 := by omega
                          have l97 : (97 : Int) ≤ (x : Int) := by omega
                          have r97 : ¬ (x : Int) ≤ 122 := by omega
                          have l65 : (65 : Int) ≤ (x : Int) := by omega
                          have r65 : ¬ (x : Int) ≤ 90 := by omega
                          rw [HC.out, HV.out]
                          go_enter Tryz.func67, Tryz.ntmps67
                          go_wp2_with (first | (go_at_call 113; refine (Tryz.strings_IndexByte _ _ _).mono ?_; rintro e w' ⟨rfl, he⟩; rw [he]; clear he; rw [hq]))
                          go_ret
                          exact ⟨rfl, rfl⟩
                      | false =>
                        obtain ⟨V, hV⟩ : ∃ V, Lib.indexByte [59, 44, 40, 41, 46, 42, 43, 45, 47, 37, 61, 60, 62] s[k] = V := ⟨_, rfl⟩
                        have hsi : ¬ (0 : Int) ≤ V := by
                          rw [← hV]
                          exact of_decide_eq_false hsg
                        have hq : Lib.indexByte (ByteArray.mk #[59, 44, 40, 41, 46, 42, 43, 45, 47, 37, 61, 60, 62]).data.toList ((x : Int)).toNat.toUInt8 = V := by rw [hib]; exact hV
                        have hgap : (x < 48) ∨ (57 < x ∧ x < 65) ∨ (90 < x ∧ x < 97) ∨ (122 < x) := by omega
                        rcases hgap with hg | hg | hg | hg
                        · skip
                          have HV : Hid (cls s[k] = 0) := by
                            show cls s[k] = 0
                            unfold cls
                            simp only [hx]
                            repeat (first | rw [if_pos (by first | omega | assumption)] | rw [if_neg (by first | omega | assumption | (rw [hsg]; decide))])
                          have q32 : ((x : Int) == 32) = false := by simp; omega
                          have q9 : ((x : Int) == 9) = false := by simp; omega
                          have q10 : ((x : Int) == 10) = false := by simp; omega
                          have q95 : ((x : Int) == 95) = false := by simp; omega
                          have q58 : ((x : Int) == 58) = false := by simp; omega
                          have q39 : ((x : Int) == 39) = false := by simp; omega
                          have l48 : ¬ (48 : Int) ≤ (x : Int) := by omega
                          have l97 : ¬ (97 : Int) ≤ (x : Int) := by omega
                          have l65 : ¬ (65 : Int) ≤ (x : Int) := by omega
                          rw [HC.out, HV.out]
                          go_enter Tryz.func67, Tryz.ntmps67
                          go_wp2_with (first | (go_at_call 113; refine (Tryz.strings_IndexByte _ _ _).mono ?_; rintro e w' ⟨rfl, he⟩; rw [he]; clear he; rw [hq]))
                          go_ret
                          exact ⟨rfl, rfl⟩
                        · skip
                          have HV : Hid (cls s[k] = 0) := by
                            show cls s[k] = 0
                            unfold cls
                            simp only [hx]
                            repeat (first | rw [if_pos (by first | omega | assumption)] | rw [if_neg (by first | omega | assumption | (rw [hsg]; decide))])
                          have q32 : ((x : Int) == 32) = false := by simp; omega
                          have q9 : ((x : Int) == 9) = false := by simp; omega
                          have q10 : ((x : Int) == 10) = false := by simp; omega
                          have q95 : ((x : Int) == 95) = false := by simp; omega
                          have q58 : ((x : Int) == 58) = false := by simp; omega
                          have q39 : ((x : Int) == 39) = false := by simp; omega
                          have l48 : (48 : Int) ≤ (x : Int) := by omega
                          have r48 : ¬ (x : Int) ≤ 57 := by omega
                          have l97 : ¬ (97 : Int) ≤ (x : Int) := by omega
                          have l65 : ¬ (65 : Int) ≤ (x : Int) := by omega
                          rw [HC.out, HV.out]
                          go_enter Tryz.func67, Tryz.ntmps67
                          go_wp2_with (first | (go_at_call 113; refine (Tryz.strings_IndexByte _ _ _).mono ?_; rintro e w' ⟨rfl, he⟩; rw [he]; clear he; rw [hq]))
                          go_ret
                          exact ⟨rfl, rfl⟩
                        · skip
                          have HV : Hid (cls s[k] = 0) := by
                            show cls s[k] = 0
                            unfold cls
                            simp only [hx]
                            repeat (first | rw [if_pos (by first | omega | assumption)] | rw [if_neg (by first | omega | assumption | (rw [hsg]; decide))])
                          have q32 : ((x : Int) == 32) = false := by simp; omega
                          have q9 : ((x : Int) == 9) = false := by simp; omega
                          have q10 : ((x : Int) == 10) = false := by simp; omega
                          have q95 : ((x : Int) == 95) = false := by simp; omega
                          have q58 : ((x : Int) == 58) = false := by simp; omega
                          have q39 : ((x : Int) == 39) = false := by simp; omega
                          have l48 : (48 : Int) ≤ (x : Int) := by omega
                          have r48 : ¬ (x : Int) ≤ 57 := by omega
                          have l97 : ¬ (97 : Int) ≤ (x : Int) := by omega
                          have l65 : (65 : Int) ≤ (x : Int) := by omega
                          have r65 : ¬ (x : Int) ≤ 90 := by omega
                          rw [HC.out, HV.out]
                          go_enter Tryz.func67, Tryz.ntmps67
                          go_wp2_with (first | (go_at_call 113; refine (Tryz.strings_IndexByte _ _ _).mono ?_; rintro e w' ⟨rfl, he⟩; rw [he]; clear he; rw [hq]))
                          go_ret
                          exact ⟨rfl, rfl⟩
                        · skip
                          have HV : Hid (cls s[k] = 0) := by
                            show cls s[k] = 0
                            unfold cls
                            simp only [hx]
                            repeat (first | rw [if_pos (by first | omega | assumption)] | rw [if_neg (by first | omega | assumption | (rw [hsg]; decide))])
                          have q32 : ((x : Int) == 32) = false := by simp; omega
                          have q9 : ((x : Int) == 9) = false := by simp; omega
                          have q10 : ((x : Int) == 10) = false := by simp; omega
                          have q95 : ((x : Int) == 95) = false := by simp; omega
                          have q58 : ((x : Int) == 58) = false := by simp; omega
                          have q39 : ((x : Int) == 39) = false := by simp; omega
                          have l48 : (48 : Int) ≤ (x : Int) := by omega
                          have r48 : ¬ (x : Int) ≤ 57 := by omega
                          have l97 : (97 : Int) ≤ (x : Int) := by omega
                          have r97 : ¬ (x : Int) ≤ 122 := by omega
                          have l65 : (65 : Int) ≤ (x : Int) := by omega
                          have r65 : ¬ (x : Int) ≤ 90 := by omega
                          rw [HC.out, HV.out]
                          go_enter Tryz.func67, Tryz.ntmps67
                          go_wp2_with (first | (go_at_call 113; refine (Tryz.strings_IndexByte _ _ _).mono ?_; rintro e w' ⟨rfl, he⟩; rw [he]; clear he; rw [hq]))
                          go_ret
                          exact ⟨rfl, rfl⟩
  · have hki : (s.size : Int) ≤ (k : Int) := by omega
    have HC : Hid (clsAt s k = 1) := clsAt_out hk
    rw [HC.out]
    go_enter Tryz.func67, Tryz.ntmps67
    go_wp2
    go_ret
    exact ⟨rfl, rfl⟩
end Go.Proofs.YtlooelldkbdomaaGreatDoor
