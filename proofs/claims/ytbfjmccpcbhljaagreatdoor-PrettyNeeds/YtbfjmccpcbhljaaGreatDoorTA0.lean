/- A0 A1 A2 A3 A4 A5 -/
import Derived.Test.YtbfjmccpcbhljaaGreatDoorChecked
import Derived.Test.YtbfjmccpcbhljaaGreatDoorSh
import Derived.Test.YtbfjmccpcbhljaaGreatDoorTC7
import Derived.Test.YtbfjmccpcbhljaaGreatDoorTM110
import Derived.WalkKit
import Derived.WalkSpells
import Derived.WalkMore
import Derived.WalkLawsBesides
import Derived.Lib.Hide
import Derived.Deep.QuietTactic
import Derived.BigQuiet
set_option maxHeartbeats 16000000
set_option maxRecDepth 100000
namespace Go.Proofs.YtbfjmccpcbhljaaGreatDoor
open Go.RowKit
theorem classAt_any (s : ByteArray) (k : Nat) (w : World) : Calls Tryz.prog 57 #[.string s,Vi (k : Int)] w fun e w' => e = .returned (Vi (clsAt s k)) ∧ w' = w:=by
 by_cases hk : k < s.size
 ·have hki : ¬ (s.size : Int) ≤ (k : Int):=by omega
  have hkj : (k : Int) < (s.size : Int):=by omega
  have HC : Hid (clsAt s k = cls s[k]):=clsAt_in hk
  have hb:=UInt8.toNat_lt s[k]
  obtain ⟨x,hx⟩:=Vx (s[k].toNat)
  by_cases h32 : x = 32
  ·skip
   have HV : Hid (cls s[k] = 2):=by
    show cls s[k] = 2
    unfold cls
    simp only [hx]
    repeat (first | rw [if_pos (by first | omega | assumption)] | rw [if_neg (by first | omega | assumption | (rw [hsg]; decide))])
   have q32 : ((x : Int) == 32) = true:=by simp; omega
   have q9 : ((x : Int) == 9) = false:=by simp; omega
   have q10 : ((x : Int) == 10) = false:=by simp; omega
   have q95 : ((x : Int) == 95) = false:=by simp; omega
   have q58 : ((x : Int) == 58) = false:=by simp; omega
   have q39 : ((x : Int) == 39) = false:=by simp; omega
   have l48 : ¬ (48 : Int) ≤ (x : Int):=by omega
   have l97 : ¬ (97 : Int) ≤ (x : Int):=by omega
   have l65 : ¬ (65 : Int) ≤ (x : Int):=by omega
   rw [HC.out,HV.out]
   go_enter Tryz.func57,Tryz.ntmps57
   go_wp2
   go_ret
   exact ⟨rfl,rfl⟩
  ·skip
   by_cases h9 : x = 9
   ·skip
    have HV : Hid (cls s[k] = 2):=by
     show cls s[k] = 2
     unfold cls
     simp only [hx]
     repeat (first | rw [if_pos (by first | omega | assumption)] | rw [if_neg (by first | omega | assumption | (rw [hsg]; decide))])
    have q32 : ((x : Int) == 32) = false:=by simp; omega
    have q9 : ((x : Int) == 9) = true:=by simp; omega
    have q10 : ((x : Int) == 10) = false:=by simp; omega
    have q95 : ((x : Int) == 95) = false:=by simp; omega
    have q58 : ((x : Int) == 58) = false:=by simp; omega
    have q39 : ((x : Int) == 39) = false:=by simp; omega
    have l48 : ¬ (48 : Int) ≤ (x : Int):=by omega
    have l97 : ¬ (97 : Int) ≤ (x : Int):=by omega
    have l65 : ¬ (65 : Int) ≤ (x : Int):=by omega
    rw [HC.out,HV.out]
    go_enter Tryz.func57,Tryz.ntmps57
    go_wp2
    go_ret
    exact ⟨rfl,rfl⟩
   ·skip
    by_cases h10 : x = 10
    ·skip
     have HV : Hid (cls s[k] = 3):=by
      show cls s[k] = 3
      unfold cls
      simp only [hx]
      repeat (first | rw [if_pos (by first | omega | assumption)] | rw [if_neg (by first | omega | assumption | (rw [hsg]; decide))])
     have q32 : ((x : Int) == 32) = false:=by simp; omega
     have q9 : ((x : Int) == 9) = false:=by simp; omega
     have q10 : ((x : Int) == 10) = true:=by simp; omega
     have q95 : ((x : Int) == 95) = false:=by simp; omega
     have q58 : ((x : Int) == 58) = false:=by simp; omega
     have q39 : ((x : Int) == 39) = false:=by simp; omega
     have l48 : ¬ (48 : Int) ≤ (x : Int):=by omega
     have l97 : ¬ (97 : Int) ≤ (x : Int):=by omega
     have l65 : ¬ (65 : Int) ≤ (x : Int):=by omega
     rw [HC.out,HV.out]
     go_enter Tryz.func57,Tryz.ntmps57
     go_wp2
     go_ret
     exact ⟨rfl,rfl⟩
    ·skip
     by_cases h95 : x = 95
     ·skip
      have HV : Hid (cls s[k] = 7):=by
       show cls s[k] = 7
       unfold cls
       simp only [hx]
       repeat (first | rw [if_pos (by first | omega | assumption)] | rw [if_neg (by first | omega | assumption | (rw [hsg]; decide))])
      have q32 : ((x : Int) == 32) = false:=by simp; omega
      have q9 : ((x : Int) == 9) = false:=by simp; omega
      have q10 : ((x : Int) == 10) = false:=by simp; omega
      have q95 : ((x : Int) == 95) = true:=by simp; omega
      have q58 : ((x : Int) == 58) = false:=by simp; omega
      have q39 : ((x : Int) == 39) = false:=by simp; omega
      have l48 : (48 : Int) ≤ (x : Int):=by omega
      have r48 : ¬ (x : Int) ≤ 57:=by omega
      have l97 : ¬ (97 : Int) ≤ (x : Int):=by omega
      have l65 : (65 : Int) ≤ (x : Int):=by omega
      have r65 : ¬ (x : Int) ≤ 90:=by omega
      rw [HC.out,HV.out]
      go_enter Tryz.func57,Tryz.ntmps57
      go_wp2
      go_ret
      exact ⟨rfl,rfl⟩
     ·skip
      by_cases h58 : x = 58
      ·skip
       have HV : Hid (cls s[k] = 8):=by
        show cls s[k] = 8
        unfold cls
        simp only [hx]
        repeat (first | rw [if_pos (by first | omega | assumption)] | rw [if_neg (by first | omega | assumption | (rw [hsg]; decide))])
       have q32 : ((x : Int) == 32) = false:=by simp; omega
       have q9 : ((x : Int) == 9) = false:=by simp; omega
       have q10 : ((x : Int) == 10) = false:=by simp; omega
       have q95 : ((x : Int) == 95) = false:=by simp; omega
       have q58 : ((x : Int) == 58) = true:=by simp; omega
       have q39 : ((x : Int) == 39) = false:=by simp; omega
       have l48 : (48 : Int) ≤ (x : Int):=by omega
       have r48 : ¬ (x : Int) ≤ 57:=by omega
       have l97 : ¬ (97 : Int) ≤ (x : Int):=by omega
       have l65 : ¬ (65 : Int) ≤ (x : Int):=by omega
       rw [HC.out,HV.out]
       go_enter Tryz.func57,Tryz.ntmps57
       go_wp2
       go_ret
       exact ⟨rfl,rfl⟩
      ·skip
       by_cases h39 : x = 39
       ·skip
        have HV : Hid (cls s[k] = 9):=by
         show cls s[k] = 9
         unfold cls
         simp only [hx]
         repeat (first | rw [if_pos (by first | omega | assumption)] | rw [if_neg (by first | omega | assumption | (rw [hsg]; decide))])
        have q32 : ((x : Int) == 32) = false:=by simp; omega
        have q9 : ((x : Int) == 9) = false:=by simp; omega
        have q10 : ((x : Int) == 10) = false:=by simp; omega
        have q95 : ((x : Int) == 95) = false:=by simp; omega
        have q58 : ((x : Int) == 58) = false:=by simp; omega
        have q39 : ((x : Int) == 39) = true:=by simp; omega
        have l48 : ¬ (48 : Int) ≤ (x : Int):=by omega
        have l97 : ¬ (97 : Int) ≤ (x : Int):=by omega
        have l65 : ¬ (65 : Int) ≤ (x : Int):=by omega
        rw [HC.out,HV.out]
        go_enter Tryz.func57,Tryz.ntmps57
        go_wp2
        go_ret
        exact ⟨rfl,rfl⟩
       ·skip
        by_cases g48 : 48 ≤ x ∧ x ≤ 57
        ·obtain ⟨ga,gb⟩:=g48
         have HV : Hid (cls s[k] = 4):=by
          show cls s[k] = 4
          unfold cls
          simp only [hx]
          repeat (first | rw [if_pos (by first | omega | assumption)] | rw [if_neg (by first | omega | assumption | (rw [hsg]; decide))])
         have q32 : ((x : Int) == 32) = false:=by simp; omega
         have q9 : ((x : Int) == 9) = false:=by simp; omega
         have q10 : ((x : Int) == 10) = false:=by simp; omega
         have q95 : ((x : Int) == 95) = false:=by simp; omega
         have q58 : ((x : Int) == 58) = false:=by simp; omega
         have q39 : ((x : Int) == 39) = false:=by simp; omega
         have l48 : (48 : Int) ≤ (x : Int):=by omega
         have r48 : (x : Int) ≤ 57:=by omega
         have l97 : ¬ (97 : Int) ≤ (x : Int):=by omega
         have l65 : ¬ (65 : Int) ≤ (x : Int):=by omega
         rw [HC.out,HV.out]
         go_enter Tryz.func57,Tryz.ntmps57
         go_wp2
         go_ret
         exact ⟨rfl,rfl⟩
        ·skip
         by_cases g97 : 97 ≤ x ∧ x ≤ 122
         ·obtain ⟨ga,gb⟩:=g97
          have HV : Hid (cls s[k] = 5):=by
           show cls s[k] = 5
           unfold cls
           simp only [hx]
           repeat (first | rw [if_pos (by first | omega | assumption)] | rw [if_neg (by first | omega | assumption | (rw [hsg]; decide))])
          have q32 : ((x : Int) == 32) = false:=by simp; omega
          have q9 : ((x : Int) == 9) = false:=by simp; omega
          have q10 : ((x : Int) == 10) = false:=by simp; omega
          have q95 : ((x : Int) == 95) = false:=by simp; omega
          have q58 : ((x : Int) == 58) = false:=by simp; omega
          have q39 : ((x : Int) == 39) = false:=by simp; omega
          have l48 : (48 : Int) ≤ (x : Int):=by omega
          have r48 : ¬ (x : Int) ≤ 57:=by omega
          have l97 : (97 : Int) ≤ (x : Int):=by omega
          have r97 : (x : Int) ≤ 122:=by omega
          have l65 : (65 : Int) ≤ (x : Int):=by omega
          have r65 : ¬ (x : Int) ≤ 90:=by omega
          rw [HC.out,HV.out]
          go_enter Tryz.func57,Tryz.ntmps57
          go_wp2
          go_ret
          exact ⟨rfl,rfl⟩
         ·skip
          by_cases g65 : 65 ≤ x ∧ x ≤ 90
          ·obtain ⟨ga,gb⟩:=g65
           have HV : Hid (cls s[k] = 6):=by
            show cls s[k] = 6
            unfold cls
            simp only [hx]
            repeat (first | rw [if_pos (by first | omega | assumption)] | rw [if_neg (by first | omega | assumption | (rw [hsg]; decide))])
           have q32 : ((x : Int) == 32) = false:=by simp; omega
           have q9 : ((x : Int) == 9) = false:=by simp; omega
           have q10 : ((x : Int) == 10) = false:=by simp; omega
           have q95 : ((x : Int) == 95) = false:=by simp; omega
           have q58 : ((x : Int) == 58) = false:=by simp; omega
           have q39 : ((x : Int) == 39) = false:=by simp; omega
           have l48 : (48 : Int) ≤ (x : Int):=by omega
           have r48 : ¬ (x : Int) ≤ 57:=by omega
           have l97 : ¬ (97 : Int) ≤ (x : Int):=by omega
           have l65 : (65 : Int) ≤ (x : Int):=by omega
           have r65 : (x : Int) ≤ 90:=by omega
           rw [HC.out,HV.out]
           go_enter Tryz.func57,Tryz.ntmps57
           go_wp2
           go_ret
           exact ⟨rfl,rfl⟩
          ·skip
           have hib : (((s[k].toNat : Int)).toNat.toUInt8) = s[k]:=by simp
           rw [hx] at hib
           cases hsg : sgn s[k] with
           | true =>
            obtain ⟨V,hV⟩:=Vx (Lib.indexByte [59,44,40,41,46,42,43,45,47,37,61,60,62] s[k])
            have hsi : (0 : Int) ≤ V:=by
             rw [← hV]
             exact of_decide_eq_true hsg
            have hq : Lib.indexByte (ByteArray.mk #[59,44,40,41,46,42,43,45,47,37,61,60,62]).data.toList ((x : Int)).toNat.toUInt8 = V:=by rw [hib]; exact hV
            have hgap : (x < 48) ∨ (57 < x ∧ x < 65) ∨ (90 < x ∧ x < 97) ∨ (122 < x):=by omega
            rcases hgap with hg | hg | hg | hg
            ·skip
             have HV : Hid (cls s[k] = 10):=by
              show cls s[k] = 10
              unfold cls
              simp only [hx]
              repeat (first | rw [if_pos (by first | omega | assumption)] | rw [if_neg (by first | omega | assumption | (rw [hsg]; decide))])
             have q32 : ((x : Int) == 32) = false:=by simp; omega
             have q9 : ((x : Int) == 9) = false:=by simp; omega
             have q10 : ((x : Int) == 10) = false:=by simp; omega
             have q95 : ((x : Int) == 95) = false:=by simp; omega
             have q58 : ((x : Int) == 58) = false:=by simp; omega
             have q39 : ((x : Int) == 39) = false:=by simp; omega
             have l48 : ¬ (48 : Int) ≤ (x : Int):=by omega
             have l97 : ¬ (97 : Int) ≤ (x : Int):=by omega
             have l65 : ¬ (65 : Int) ≤ (x : Int):=by omega
             rw [HC.out,HV.out]
             go_enter Tryz.func57,Tryz.ntmps57
             go_wp2_with (first | (go_at_call 89; refine (Tryz.strings_IndexByte _ _ _).mono ?_; rintro e w' ⟨rfl,he⟩; rw [he]; clear he; rw [hq]))
             go_ret
             exact ⟨rfl,rfl⟩
            ·skip
             have HV : Hid (cls s[k] = 10):=by
              show cls s[k] = 10
              unfold cls
              simp only [hx]
              repeat (first | rw [if_pos (by first | omega | assumption)] | rw [if_neg (by first | omega | assumption | (rw [hsg]; decide))])
             have q32 : ((x : Int) == 32) = false:=by simp; omega
             have q9 : ((x : Int) == 9) = false:=by simp; omega
             have q10 : ((x : Int) == 10) = false:=by simp; omega
             have q95 : ((x : Int) == 95) = false:=by simp; omega
             have q58 : ((x : Int) == 58) = false:=by simp; omega
             have q39 : ((x : Int) == 39) = false:=by simp; omega
             have l48 : (48 : Int) ≤ (x : Int):=by omega
             have r48 : ¬ (x : Int) ≤ 57:=by omega
             have l97 : ¬ (97 : Int) ≤ (x : Int):=by omega
             have l65 : ¬ (65 : Int) ≤ (x : Int):=by omega
             rw [HC.out,HV.out]
             go_enter Tryz.func57,Tryz.ntmps57
             go_wp2_with (first | (go_at_call 89; refine (Tryz.strings_IndexByte _ _ _).mono ?_; rintro e w' ⟨rfl,he⟩; rw [he]; clear he; rw [hq]))
             go_ret
             exact ⟨rfl,rfl⟩
            ·skip
             have HV : Hid (cls s[k] = 10):=by
              show cls s[k] = 10
              unfold cls
              simp only [hx]
              repeat (first | rw [if_pos (by first | omega | assumption)] | rw [if_neg (by first | omega | assumption | (rw [hsg]; decide))])
             have q32 : ((x : Int) == 32) = false:=by simp; omega
             have q9 : ((x : Int) == 9) = false:=by simp; omega
             have q10 : ((x : Int) == 10) = false:=by simp; omega
             have q95 : ((x : Int) == 95) = false:=by simp; omega
             have q58 : ((x : Int) == 58) = false:=by simp; omega
             have q39 : ((x : Int) == 39) = false:=by simp; omega
             have l48 : (48 : Int) ≤ (x : Int):=by omega
             have r48 : ¬ (x : Int) ≤ 57:=by omega
             have l97 : ¬ (97 : Int) ≤ (x : Int):=by omega
             have l65 : (65 : Int) ≤ (x : Int):=by omega
             have r65 : ¬ (x : Int) ≤ 90:=by omega
             rw [HC.out,HV.out]
             go_enter Tryz.func57,Tryz.ntmps57
             go_wp2_with (first | (go_at_call 89; refine (Tryz.strings_IndexByte _ _ _).mono ?_; rintro e w' ⟨rfl,he⟩; rw [he]; clear he; rw [hq]))
             go_ret
             exact ⟨rfl,rfl⟩
            ·skip
             have HV : Hid (cls s[k] = 10):=by
              show cls s[k] = 10
              unfold cls
              simp only [hx]
              repeat (first | rw [if_pos (by first | omega | assumption)] | rw [if_neg (by first | omega | assumption | (rw [hsg]; decide))])
             have q32 : ((x : Int) == 32) = false:=by simp; omega
             have q9 : ((x : Int) == 9) = false:=by simp; omega
             have q10 : ((x : Int) == 10) = false:=by simp; omega
             have q95 : ((x : Int) == 95) = false:=by simp; omega
             have q58 : ((x : Int) == 58) = false:=by simp; omega
             have q39 : ((x : Int) == 39) = false:=by simp; omega
             have l48 : (48 : Int) ≤ (x : Int):=by omega
             have r48 : ¬ (x : Int) ≤ 57:=by omega
             have l97 : (97 : Int) ≤ (x : Int):=by omega
             have r97 : ¬ (x : Int) ≤ 122:=by omega
             have l65 : (65 : Int) ≤ (x : Int):=by omega
             have r65 : ¬ (x : Int) ≤ 90:=by omega
             rw [HC.out,HV.out]
             go_enter Tryz.func57,Tryz.ntmps57
             go_wp2_with (first | (go_at_call 89; refine (Tryz.strings_IndexByte _ _ _).mono ?_; rintro e w' ⟨rfl,he⟩; rw [he]; clear he; rw [hq]))
             go_ret
             exact ⟨rfl,rfl⟩
           | false =>
            obtain ⟨V,hV⟩:=Vx (Lib.indexByte [59,44,40,41,46,42,43,45,47,37,61,60,62] s[k])
            have hsi : ¬ (0 : Int) ≤ V:=by
             rw [← hV]
             exact of_decide_eq_false hsg
            have hq : Lib.indexByte (ByteArray.mk #[59,44,40,41,46,42,43,45,47,37,61,60,62]).data.toList ((x : Int)).toNat.toUInt8 = V:=by rw [hib]; exact hV
            have hgap : (x < 48) ∨ (57 < x ∧ x < 65) ∨ (90 < x ∧ x < 97) ∨ (122 < x):=by omega
            rcases hgap with hg | hg | hg | hg
            ·skip
             have HV : Hid (cls s[k] = 0):=by
              show cls s[k] = 0
              unfold cls
              simp only [hx]
              repeat (first | rw [if_pos (by first | omega | assumption)] | rw [if_neg (by first | omega | assumption | (rw [hsg]; decide))])
             have q32 : ((x : Int) == 32) = false:=by simp; omega
             have q9 : ((x : Int) == 9) = false:=by simp; omega
             have q10 : ((x : Int) == 10) = false:=by simp; omega
             have q95 : ((x : Int) == 95) = false:=by simp; omega
             have q58 : ((x : Int) == 58) = false:=by simp; omega
             have q39 : ((x : Int) == 39) = false:=by simp; omega
             have l48 : ¬ (48 : Int) ≤ (x : Int):=by omega
             have l97 : ¬ (97 : Int) ≤ (x : Int):=by omega
             have l65 : ¬ (65 : Int) ≤ (x : Int):=by omega
             rw [HC.out,HV.out]
             go_enter Tryz.func57,Tryz.ntmps57
             go_wp2_with (first | (go_at_call 89; refine (Tryz.strings_IndexByte _ _ _).mono ?_; rintro e w' ⟨rfl,he⟩; rw [he]; clear he; rw [hq]))
             go_ret
             exact ⟨rfl,rfl⟩
            ·skip
             have HV : Hid (cls s[k] = 0):=by
              show cls s[k] = 0
              unfold cls
              simp only [hx]
              repeat (first | rw [if_pos (by first | omega | assumption)] | rw [if_neg (by first | omega | assumption | (rw [hsg]; decide))])
             have q32 : ((x : Int) == 32) = false:=by simp; omega
             have q9 : ((x : Int) == 9) = false:=by simp; omega
             have q10 : ((x : Int) == 10) = false:=by simp; omega
             have q95 : ((x : Int) == 95) = false:=by simp; omega
             have q58 : ((x : Int) == 58) = false:=by simp; omega
             have q39 : ((x : Int) == 39) = false:=by simp; omega
             have l48 : (48 : Int) ≤ (x : Int):=by omega
             have r48 : ¬ (x : Int) ≤ 57:=by omega
             have l97 : ¬ (97 : Int) ≤ (x : Int):=by omega
             have l65 : ¬ (65 : Int) ≤ (x : Int):=by omega
             rw [HC.out,HV.out]
             go_enter Tryz.func57,Tryz.ntmps57
             go_wp2_with (first | (go_at_call 89; refine (Tryz.strings_IndexByte _ _ _).mono ?_; rintro e w' ⟨rfl,he⟩; rw [he]; clear he; rw [hq]))
             go_ret
             exact ⟨rfl,rfl⟩
            ·skip
             have HV : Hid (cls s[k] = 0):=by
              show cls s[k] = 0
              unfold cls
              simp only [hx]
              repeat (first | rw [if_pos (by first | omega | assumption)] | rw [if_neg (by first | omega | assumption | (rw [hsg]; decide))])
             have q32 : ((x : Int) == 32) = false:=by simp; omega
             have q9 : ((x : Int) == 9) = false:=by simp; omega
             have q10 : ((x : Int) == 10) = false:=by simp; omega
             have q95 : ((x : Int) == 95) = false:=by simp; omega
             have q58 : ((x : Int) == 58) = false:=by simp; omega
             have q39 : ((x : Int) == 39) = false:=by simp; omega
             have l48 : (48 : Int) ≤ (x : Int):=by omega
             have r48 : ¬ (x : Int) ≤ 57:=by omega
             have l97 : ¬ (97 : Int) ≤ (x : Int):=by omega
             have l65 : (65 : Int) ≤ (x : Int):=by omega
             have r65 : ¬ (x : Int) ≤ 90:=by omega
             rw [HC.out,HV.out]
             go_enter Tryz.func57,Tryz.ntmps57
             go_wp2_with (first | (go_at_call 89; refine (Tryz.strings_IndexByte _ _ _).mono ?_; rintro e w' ⟨rfl,he⟩; rw [he]; clear he; rw [hq]))
             go_ret
             exact ⟨rfl,rfl⟩
            ·skip
             have HV : Hid (cls s[k] = 0):=by
              show cls s[k] = 0
              unfold cls
              simp only [hx]
              repeat (first | rw [if_pos (by first | omega | assumption)] | rw [if_neg (by first | omega | assumption | (rw [hsg]; decide))])
             have q32 : ((x : Int) == 32) = false:=by simp; omega
             have q9 : ((x : Int) == 9) = false:=by simp; omega
             have q10 : ((x : Int) == 10) = false:=by simp; omega
             have q95 : ((x : Int) == 95) = false:=by simp; omega
             have q58 : ((x : Int) == 58) = false:=by simp; omega
             have q39 : ((x : Int) == 39) = false:=by simp; omega
             have l48 : (48 : Int) ≤ (x : Int):=by omega
             have r48 : ¬ (x : Int) ≤ 57:=by omega
             have l97 : (97 : Int) ≤ (x : Int):=by omega
             have r97 : ¬ (x : Int) ≤ 122:=by omega
             have l65 : (65 : Int) ≤ (x : Int):=by omega
             have r65 : ¬ (x : Int) ≤ 90:=by omega
             rw [HC.out,HV.out]
             go_enter Tryz.func57,Tryz.ntmps57
             go_wp2_with (first | (go_at_call 89; refine (Tryz.strings_IndexByte _ _ _).mono ?_; rintro e w' ⟨rfl,he⟩; rw [he]; clear he; rw [hq]))
             go_ret
             exact ⟨rfl,rfl⟩
 ·have hki : (s.size : Int) ≤ (k : Int):=by omega
  have HC : Hid (clsAt s k = 1):=clsAt_out hk
  rw [HC.out]
  go_enter Tryz.func57,Tryz.ntmps57
  go_wp2
  go_ret
  exact ⟨rfl,rfl⟩

theorem isName_any (s : ByteArray) (w : World) : Calls Tryz.prog 19 #[.string s] w fun e w' => e = .returned (.bool (isName s)) ∧ w' = w:=by
 obtain ⟨c0,hc0⟩:=Vx (clsAt s 0)
 have HC0:=classAt_any s 0
 rw [hc0] at HC0
 have HQ0 : Hid (∀ w,Calls Tryz.prog 57 #[.string s,Vi 0] w fun e w' => e = .returned (Vi c0) ∧ w' = w):=HC0
 clear HC0
 by_cases h5 : c0 = 5
 ·subst h5
  by_cases hl : s.size ≤ 16
  ·have hli : ¬ (16 : Int) < (s.size : Int):=by omega
   have H0:=Hd hc0
   clear hc0
   go_enter Tryz.func19,Tryz.ntmps19
   go_wp2_with (first | (go_at_call 57; refine (HQ0.out _).mono ?_; rintro e w' ⟨rfl,he⟩; rw [he]; clear he))
   go_loop [14] (fun i => ∃ k : Nat,k ≤ s.size ∧ i = Vi k ∧ ∀ j,j < k → nmB (clsAt s j) = true) (fun i => s.size - (intOf i).toNat)
   case atStart => exact ⟨0,Nat.zero_le _,rfl,fun j g => absurd g (Nat.not_lt_zero _)⟩
   case round =>
    obtain ⟨k,hk,rfl,hall⟩:=hrel
    have HA:=Hd hall
    clear hall
    by_cases hlt : k < s.size
    ·have hlti : (k : Int) < (s.size : Int):=by omega
     obtain ⟨c,hc⟩:=Vx (clsAt s k)
     have HK : Hid (nmB c = true → ∀ j,j < k + 1 → nmB (clsAt s j) = true):=fun hn j g => by
      by_cases e : j = k
      ·subst e; rw [hc]; exact hn
      ·exact HA.out j (by omega)
     have HN : Hid (nmB c = false → isName s = false):=fun hn => isName_at hlt (by rw [hc]; exact hn)
     have HQ:=classAt_any s k
     rw [hc] at HQ
     have HQK : Hid (∀ w,Calls Tryz.prog 57 #[.string s,Vi (k : Int)] w fun e w' => e = .returned (Vi c) ∧ w' = w):=HQ
     clear HQ hc
     by_cases e5 : c = 5
     ·subst e5
      have HK2:=Hd (HK.out rfl)
      go_wp2_with (first | (go_at_call 57; refine (HQK.out _).mono ?_; rintro e w' ⟨rfl,he⟩; rw [he]; clear he))
      go_round
      case rel => exact ⟨k + 1,by omega,by go_num,HK2.out⟩
      case measure => simp [intOf]; omega
     ·have q5 : (c == 5) = false:=by simpa using e5
      by_cases e4 : c = 4
      ·subst e4
       have HK2:=Hd (HK.out rfl)
       go_wp2_with (first | (go_at_call 57; refine (HQK.out _).mono ?_; rintro e w' ⟨rfl,he⟩; rw [he]; clear he))
       go_round
       case rel => exact ⟨k + 1,by omega,by go_num,HK2.out⟩
       case measure => simp [intOf]; omega
      ·have q4 : (c == 4) = false:=by simpa using e4
       by_cases e7 : c = 7
       ·subst e7
        have HK2:=Hd (HK.out rfl)
        go_wp2_with (first | (go_at_call 57; refine (HQK.out _).mono ?_; rintro e w' ⟨rfl,he⟩; rw [he]; clear he))
        go_round
        case rel => exact ⟨k + 1,by omega,by go_num,HK2.out⟩
        case measure => simp [intOf]; omega
       ·have q7 : (c == 7) = false:=by simpa using e7
        have HN2:=Hd (HN.out (by simp [nmB,e5,e4,e7]))
        clear e5 e4 e7
        go_wp2_with (first | (go_at_call 57; refine (HQK.out _).mono ?_; rintro e w' ⟨rfl,he⟩; rw [he]; clear he))
        go_ret
        exact ⟨ret_bool HN2.out.symm,rfl⟩
    ·have hlti : ¬ (k : Int) < (s.size : Int):=by omega
     have HN : Hid (isName s = true):=isName_yes H0.out hl fun j h => HA.out j (by omega)
     go_wp2
     go_ret
     exact ⟨ret_bool HN.out.symm,rfl⟩
  ·have hli : (16 : Int) < (s.size : Int):=by omega
   have HN : Hid (isName s = false):=isName_long hl
   go_enter Tryz.func19,Tryz.ntmps19
   go_wp2_with (first | (go_at_call 57; refine (HQ0.out _).mono ?_; rintro e w' ⟨rfl,he⟩; rw [he]; clear he))
   go_ret
   exact ⟨ret_bool HN.out.symm,rfl⟩
 ·have q5 : (c0 != 5) = true:=by simpa using h5
  have HN : Hid (isName s = false):=isName_head (by rw [hc0]; exact h5)
  clear h5 hc0
  go_enter Tryz.func19,Tryz.ntmps19
  go_wp2_with (first | (go_at_call 57; refine (HQ0.out _).mono ?_; rintro e w' ⟨rfl,he⟩; rw [he]; clear he))
  go_ret
  exact ⟨ret_bool HN.out.symm,rfl⟩

theorem isWord_any (s : ByteArray) (w : World) : Calls Tryz.prog 120 #[.string s] w fun e w' => e = .returned (.bool (isWord s)) ∧ w' = w:=by
 cases h0 : (s.toList == [83,69,76,69,67,84]) with
 | true =>
  have HV : Hid (isWord s = true):=isWord_yes _ (by simp [wordsL]) h0
  go_enter Tryz.func120,Tryz.ntmps120
  go_wp2
  go_ret
  exact ⟨ret_bool HV.out.symm,rfl⟩
 | false =>
  cases h1 : (s.toList == [73,78,83,69,82,84]) with
  | true =>
   have HV : Hid (isWord s = true):=isWord_yes _ (by simp [wordsL]) h1
   go_enter Tryz.func120,Tryz.ntmps120
   go_wp2
   go_ret
   exact ⟨ret_bool HV.out.symm,rfl⟩
  | false =>
   cases h2 : (s.toList == [73,78,84,79]) with
   | true =>
    have HV : Hid (isWord s = true):=isWord_yes _ (by simp [wordsL]) h2
    go_enter Tryz.func120,Tryz.ntmps120
    go_wp2
    go_ret
    exact ⟨ret_bool HV.out.symm,rfl⟩
   | false =>
    cases h3 : (s.toList == [86,65,76,85,69,83]) with
    | true =>
     have HV : Hid (isWord s = true):=isWord_yes _ (by simp [wordsL]) h3
     go_enter Tryz.func120,Tryz.ntmps120
     go_wp2
     go_ret
     exact ⟨ret_bool HV.out.symm,rfl⟩
    | false =>
     cases h4 : (s.toList == [85,80,68,65,84,69]) with
     | true =>
      have HV : Hid (isWord s = true):=isWord_yes _ (by simp [wordsL]) h4
      go_enter Tryz.func120,Tryz.ntmps120
      go_wp2
      go_ret
      exact ⟨ret_bool HV.out.symm,rfl⟩
     | false =>
      cases h5 : (s.toList == [83,69,84]) with
      | true =>
       have HV : Hid (isWord s = true):=isWord_yes _ (by simp [wordsL]) h5
       go_enter Tryz.func120,Tryz.ntmps120
       go_wp2
       go_ret
       exact ⟨ret_bool HV.out.symm,rfl⟩
      | false =>
       cases h6 : (s.toList == [68,69,76,69,84,69]) with
       | true =>
        have HV : Hid (isWord s = true):=isWord_yes _ (by simp [wordsL]) h6
        go_enter Tryz.func120,Tryz.ntmps120
        go_wp2
        go_ret
        exact ⟨ret_bool HV.out.symm,rfl⟩
       | false =>
        cases h7 : (s.toList == [70,82,79,77]) with
        | true =>
         have HV : Hid (isWord s = true):=isWord_yes _ (by simp [wordsL]) h7
         go_enter Tryz.func120,Tryz.ntmps120
         go_wp2
         go_ret
         exact ⟨ret_bool HV.out.symm,rfl⟩
        | false =>
         cases h8 : (s.toList == [74,79,73,78]) with
         | true =>
          have HV : Hid (isWord s = true):=isWord_yes _ (by simp [wordsL]) h8
          go_enter Tryz.func120,Tryz.ntmps120
          go_wp2
          go_ret
          exact ⟨ret_bool HV.out.symm,rfl⟩
         | false =>
          cases h9 : (s.toList == [79,78]) with
          | true =>
           have HV : Hid (isWord s = true):=isWord_yes _ (by simp [wordsL]) h9
           go_enter Tryz.func120,Tryz.ntmps120
           go_wp2
           go_ret
           exact ⟨ret_bool HV.out.symm,rfl⟩
          | false =>
           cases h10 : (s.toList == [87,72,69,82,69]) with
           | true =>
            have HV : Hid (isWord s = true):=isWord_yes _ (by simp [wordsL]) h10
            go_enter Tryz.func120,Tryz.ntmps120
            go_wp2
            go_ret
            exact ⟨ret_bool HV.out.symm,rfl⟩
           | false =>
            cases h11 : (s.toList == [71,82,79,85,80]) with
            | true =>
             have HV : Hid (isWord s = true):=isWord_yes _ (by simp [wordsL]) h11
             go_enter Tryz.func120,Tryz.ntmps120
             go_wp2
             go_ret
             exact ⟨ret_bool HV.out.symm,rfl⟩
            | false =>
             cases h12 : (s.toList == [79,82,68,69,82]) with
             | true =>
              have HV : Hid (isWord s = true):=isWord_yes _ (by simp [wordsL]) h12
              go_enter Tryz.func120,Tryz.ntmps120
              go_wp2
              go_ret
              exact ⟨ret_bool HV.out.symm,rfl⟩
             | false =>
              cases h13 : (s.toList == [66,89]) with
              | true =>
               have HV : Hid (isWord s = true):=isWord_yes _ (by simp [wordsL]) h13
               go_enter Tryz.func120,Tryz.ntmps120
               go_wp2
               go_ret
               exact ⟨ret_bool HV.out.symm,rfl⟩
              | false =>
               cases h14 : (s.toList == [68,69,83,67]) with
               | true =>
                have HV : Hid (isWord s = true):=isWord_yes _ (by simp [wordsL]) h14
                go_enter Tryz.func120,Tryz.ntmps120
                go_wp2
                go_ret
                exact ⟨ret_bool HV.out.symm,rfl⟩
               | false =>
                cases h15 : (s.toList == [76,73,77,73,84]) with
                | true =>
                 have HV : Hid (isWord s = true):=isWord_yes _ (by simp [wordsL]) h15
                 go_enter Tryz.func120,Tryz.ntmps120
                 go_wp2
                 go_ret
                 exact ⟨ret_bool HV.out.symm,rfl⟩
                | false =>
                 cases h16 : (s.toList == [65,78,68]) with
                 | true =>
                  have HV : Hid (isWord s = true):=isWord_yes _ (by simp [wordsL]) h16
                  go_enter Tryz.func120,Tryz.ntmps120
                  go_wp2
                  go_ret
                  exact ⟨ret_bool HV.out.symm,rfl⟩
                 | false =>
                  cases h17 : (s.toList == [79,82]) with
                  | true =>
                   have HV : Hid (isWord s = true):=isWord_yes _ (by simp [wordsL]) h17
                   go_enter Tryz.func120,Tryz.ntmps120
                   go_wp2
                   go_ret
                   exact ⟨ret_bool HV.out.symm,rfl⟩
                  | false =>
                   cases h18 : (s.toList == [78,79,84]) with
                   | true =>
                    have HV : Hid (isWord s = true):=isWord_yes _ (by simp [wordsL]) h18
                    go_enter Tryz.func120,Tryz.ntmps120
                    go_wp2
                    go_ret
                    exact ⟨ret_bool HV.out.symm,rfl⟩
                   | false =>
                    cases h19 : (s.toList == [73,83]) with
                    | true =>
                     have HV : Hid (isWord s = true):=isWord_yes _ (by simp [wordsL]) h19
                     go_enter Tryz.func120,Tryz.ntmps120
                     go_wp2
                     go_ret
                     exact ⟨ret_bool HV.out.symm,rfl⟩
                    | false =>
                     cases h20 : (s.toList == [78,85,76,76]) with
                     | true =>
                      have HV : Hid (isWord s = true):=isWord_yes _ (by simp [wordsL]) h20
                      go_enter Tryz.func120,Tryz.ntmps120
                      go_wp2
                      go_ret
                      exact ⟨ret_bool HV.out.symm,rfl⟩
                     | false =>
                      cases h21 : (s.toList == [84,82,85,69]) with
                      | true =>
                       have HV : Hid (isWord s = true):=isWord_yes _ (by simp [wordsL]) h21
                       go_enter Tryz.func120,Tryz.ntmps120
                       go_wp2
                       go_ret
                       exact ⟨ret_bool HV.out.symm,rfl⟩
                      | false =>
                       cases h22 : (s.toList == [70,65,76,83,69]) with
                       | true =>
                        have HV : Hid (isWord s = true):=isWord_yes _ (by simp [wordsL]) h22
                        go_enter Tryz.func120,Tryz.ntmps120
                        go_wp2
                        go_ret
                        exact ⟨ret_bool HV.out.symm,rfl⟩
                       | false =>
                        cases h23 : (s.toList == [67,79,85,78,84]) with
                        | true =>
                         have HV : Hid (isWord s = true):=isWord_yes _ (by simp [wordsL]) h23
                         go_enter Tryz.func120,Tryz.ntmps120
                         go_wp2
                         go_ret
                         exact ⟨ret_bool HV.out.symm,rfl⟩
                        | false =>
                         cases h24 : (s.toList == [83,85,77]) with
                         | true =>
                          have HV : Hid (isWord s = true):=isWord_yes _ (by simp [wordsL]) h24
                          go_enter Tryz.func120,Tryz.ntmps120
                          go_wp2
                          go_ret
                          exact ⟨ret_bool HV.out.symm,rfl⟩
                         | false =>
                          cases h25 : (s.toList == [77,73,78]) with
                          | true =>
                           have HV : Hid (isWord s = true):=isWord_yes _ (by simp [wordsL]) h25
                           go_enter Tryz.func120,Tryz.ntmps120
                           go_wp2
                           go_ret
                           exact ⟨ret_bool HV.out.symm,rfl⟩
                          | false =>
                           cases h26 : (s.toList == [77,65,88]) with
                           | true =>
                            have HV : Hid (isWord s = true):=isWord_yes _ (by simp [wordsL]) h26
                            go_enter Tryz.func120,Tryz.ntmps120
                            go_wp2
                            go_ret
                            exact ⟨ret_bool HV.out.symm,rfl⟩
                           | false =>
                            have HV : Hid (isWord s = false):=by
                             show isWord s = false
                             simp only [isWord,wordsL,List.any_cons,List.any_nil,h0,h1,h2,h3,h4,h5,h6,h7,h8,h9,h10,h11,h12,h13,h14,h15,h16,h17,h18,h19,h20,h21,h22,h23,h24,h25,h26,Bool.or_false]
                            go_enter Tryz.func120,Tryz.ntmps120
                            go_wp2
                            go_ret
                            exact ⟨ret_bool HV.out.symm,rfl⟩

theorem wp_scope6 {P : Program} {a : Act} {w : World} {Q : Exit → Act → World → Prop} {c x y r1 r2 r3 r4 r5 : Code} (J : Nat → Act → World → Prop) (μ : Nat → Act → World → Nat)
  (f0 : findLabel c 0 = some (Code.skip.seq y)) (f1 : findLabel c 1 = some r1) (f2 : findLabel c 2 = some r2) (f3 : findLabel c 3 = some r3) (f4 : findLabel c 4 = some r4) (f5 : findLabel c 5 = some r5) (hJ : ∀ l a w,J l a w → l < 6)
  (hc : c = x.seq ((Code.label 0).seq y)) (h0 : x.wp P (fun e a w => e = .normal ∧ J 0 a w) a w)
  (p0 : ∀ a w,J 0 a w → y.wp P (jumps (fun l' a' w' => J l' a' w' ∧ μ l' a' w' < μ 0 a w) Q) a w)
  (p1 : ∀ a w,J 1 a w → r1.wp P (jumps (fun l' a' w' => J l' a' w' ∧ μ l' a' w' < μ 1 a w) Q) a w)
  (p2 : ∀ a w,J 2 a w → r2.wp P (jumps (fun l' a' w' => J l' a' w' ∧ μ l' a' w' < μ 2 a w) Q) a w)
  (p3 : ∀ a w,J 3 a w → r3.wp P (jumps (fun l' a' w' => J l' a' w' ∧ μ l' a' w' < μ 3 a w) Q) a w)
  (p4 : ∀ a w,J 4 a w → r4.wp P (jumps (fun l' a' w' => J l' a' w' ∧ μ l' a' w' < μ 4 a w) Q) a w)
  (p5 : ∀ a w,J 5 a w → r5.wp P (jumps (fun l' a' w' => J l' a' w' ∧ μ l' a' w' < μ 5 a w) Q) a w) : (Code.scope c).wp P Q a w:=by
 have first : c.wp P (jumps J Q) a w:=by
  rw [hc]
  refine wp_seq (wp_mono h0 ?_)
  rintro e a1 w1 ⟨rfl,hJ0⟩
  refine wp_seq (wp_label ?_)
  refine wp_mono (p0 a1 w1 hJ0) ?_
  intro e a' w' h
  cases e with
  | goto l => exact h.1
  | normal => exact h
  | exit id => exact h
  | ret => exact h
  | panic ch => exact h
  | outgrown => exact h
 refine wp_scope_labels J μ (fun l => match l with | 0 => Code.skip.seq y | 1 => r1 | 2 => r2 | 3 => r3 | 4 => r4 | _ => r5) ?_ first ?_
 ·intro l a w h
  have hl:=hJ l a w h
  match l,hl with
  | 0,_ => exact f0
  | 1,_ => exact f1
  | 2,_ => exact f2
  | 3,_ => exact f3
  | 4,_ => exact f4
  | 5,_ => exact f5
 ·intro l a w h
  have hl:=hJ l a w h
  match l,hl with
  | 0,_ => exact wp_seq (wp_skip (p0 a w h))
  | 1,_ => exact p1 a w h
  | 2,_ => exact p2 a w h
  | 3,_ => exact p3 a w h
  | 4,_ => exact p4 a w h
  | 5,_ => exact p5 a w h

def AtL (s : ByteArray) (e0 : Nat) (w : World) (l : Nat) (x : Act) (W : World) : Prop:=l < 6 ∧ W = w ∧ ∃ (a e : Nat) (u7 u8 u9 u10 u11 u12 u13 u14 u15 u16 u17 u18 u19 u20 u21 u22 u23 u24 u25 u26 u27 u28 u29 u30 u31 u32 u33 u34 u35 u36 u37 u38 u39 u40 u41 u42 u43 u44 u45 u46 u47 u48 u49 u50 u51 u52 u53 u54 u55 u56 u57 u58 u59 u60 u61 u62 u63 u64 u65 u66 u67 u68 u69 u70 u71 u72 u73 u74 u75 u76 u77 u78 u79 u80 u81 u82 u83 u84 u85 u86 u87 u88 u89 u90 : Value),x = { tmps:=#[.string s,Vi (e : Int),undef,undef,Vi 0,Vi 0,Vi (a : Int),u7,u8,u9,u10,u11,u12,u13,u14,u15,u16,u17,u18,u19,u20,u21,u22,u23,u24,u25,u26,u27,u28,u29,u30,u31,u32,u33,u34,u35,u36,u37,u38,u39,u40,u41,u42,u43,u44,u45,u46,u47,u48,u49,u50,u51,u52,u53,u54,u55,u56,u57,u58,u59,u60,u61,u62,u63,u64,u65,u66,u67,u68,u69,u70,u71,u72,u73,u74,u75,u76,u77,u78,u79,u80,u81,u82,u83,u84,u85,u86,u87,u88,u89,u90],defers:=[] } ∧ e ≤ s.size ∧ (l ≠ 0 → a ≤ e) ∧ (l = 3 → e = a + 1) ∧ ∀ r,Cut s l a e r → Cut s 0 0 e0 r

def muL (s : ByteArray) (l : Nat) (x : Act) (_ : World) : Nat:=4 * (s.size + 4 - (intOf (x.tmps.getD 1 undef)).toNat) + (if l = 5 then 1 else if l = 3 then 2 else 0)

theorem clsAt_range (s : ByteArray) (k : Nat) : clsAt s k = 0 ∨ clsAt s k = 1 ∨ clsAt s k = 2 ∨ clsAt s k = 3 ∨ clsAt s k = 4 ∨ clsAt s k = 5 ∨ clsAt s k = 6 ∨ clsAt s k = 7 ∨ clsAt s k = 8 ∨ clsAt s k = 9 ∨ clsAt s k = 10:=by
 unfold clsAt cls
 repeat (first | split | simp)

theorem clsAt_lt {s : ByteArray} {k : Nat} (h : clsAt s k ≠ 1) : k < s.size:=by
 by_cases g : k < s.size
 ·exact g
 ·exact absurd (clsAt_out g) h

def CutP (s : ByteArray) (e0 : Nat) (w : World) (x : Ending) (w' : World) : Prop:=∃ a b : Nat,x = .returned (.tuple #[Vi (a : Int),Vi (b : Int)]) ∧ Cut s 0 0 e0 (a,b) ∧ b ≤ s.size ∧ a ≤ b ∧ w' = w

noncomputable def cutC : Code:=match Tryz.f67.body with | some (.seq _ (.scope c)) => c | _ => .skip
end Go.Proofs.YtbfjmccpcbhljaaGreatDoor
