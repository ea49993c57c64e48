/- A16 A17 A18 A19 -/
import Derived.Test.YtffalonhkemieaaGreatDoorSA56
import Derived.Test.YtffalonhkemieaaGreatDoorSM114
set_option maxHeartbeats 8000000
set_option maxRecDepth 100000
namespace Go.Proofs.YtffalonhkemieaaGreatDoor
open Go.RowKit
theorem cls_great (b : UInt8) : cls b = 6 ↔ 65 ≤ b.toNat ∧ b.toNat ≤ 90:=cls_all (fun b => cls b = 6 ↔ 65 ≤ b.toNat ∧ b.toNat ≤ 90) (by decide +kernel) b

theorem dpart_any (b : UInt8) (w : World) : Calls Tryz.prog 136 #[.int .u8 (b.toNat : Int)] w fun e w' => e = .returned (.bool (decide (runB b))) ∧ w' = w:=by
 have hS:=dsmall_any b
 have hD:=ddigit_any b
 have hu:=cls_under b
 have hg:=cls_great b
 have hrb : decide (runB b) = (decide (cls b = 4) || decide (cls b = 5) || decide (cls b = 6) || decide (cls b = 7)):=by
  rw [Bool.eq_iff_iff]
  simp [runB,or_assoc]
  exact decide_eq_true_iff
 rw [hrb]
 obtain ⟨c,hc⟩:=Vx (cls b)
 rw [hc] at hS hD hu hg ⊢
 obtain ⟨x,hx⟩:=Vx b.toNat
 rw [hx] at hS hD hu hg ⊢
 clear hc hx hrb
 have K1:=Hd hS
 have K2:=Hd hD
 clear hS hD
 by_cases e5 : c = 5
 ·subst e5
  clear hu hg
  go_enter Tryz.func136,Tryz.ntmps136
  go_wp2_with (first | (go_at_call 79; refine (K1.out _).mono ?_; rintro e w' ⟨rfl,he⟩; rw [he]; clear he) | (go_at_call 80; refine (K2.out _).mono ?_; rintro e w' ⟨rfl,he⟩; rw [he]; clear he))
  go_ret
  exact ⟨rfl,rfl⟩
 ·have d5 : decide (c = 5) = false:=decide_eq_false e5
  rw [d5] at K1
  by_cases e4 : c = 4
  ·subst e4
   clear hu hg
   go_enter Tryz.func136,Tryz.ntmps136
   go_wp2_with (first | (go_at_call 79; refine (K1.out _).mono ?_; rintro e w' ⟨rfl,he⟩; rw [he]; clear he) | (go_at_call 80; refine (K2.out _).mono ?_; rintro e w' ⟨rfl,he⟩; rw [he]; clear he))
   go_ret
   exact ⟨rfl,rfl⟩
  ·have d4 : decide (c = 4) = false:=decide_eq_false e4
   rw [d4] at K2
   by_cases e7 : x = 95
   ·obtain rfl:=hu.2 e7
    subst e7
    clear hu hg
    go_enter Tryz.func136,Tryz.ntmps136
    go_wp2_with (first | (go_at_call 79; refine (K1.out _).mono ?_; rintro e w' ⟨rfl,he⟩; rw [he]; clear he) | (go_at_call 80; refine (K2.out _).mono ?_; rintro e w' ⟨rfl,he⟩; rw [he]; clear he))
    go_ret
    exact ⟨rfl,rfl⟩
   ·have q7 : ((x : Int) == 95) = false:=by simp; omega
    have d7 : decide (c = 7) = false:=decide_eq_false fun g => e7 (hu.1 g)
    by_cases e6 : 65 ≤ x
    ·have i6 : (65 : Int) ≤ (x : Int):=by omega
     by_cases f6 : x ≤ 90
     ·have j6 : (x : Int) ≤ 90:=by omega
      obtain rfl:=hg.2 ⟨e6,f6⟩
      clear hu hg
      go_enter Tryz.func136,Tryz.ntmps136
      go_wp2_with (first | (go_at_call 79; refine (K1.out _).mono ?_; rintro e w' ⟨rfl,he⟩; rw [he]; clear he) | (go_at_call 80; refine (K2.out _).mono ?_; rintro e w' ⟨rfl,he⟩; rw [he]; clear he))
      go_ret
      exact ⟨rfl,rfl⟩
     ·have j6 : ¬ (x : Int) ≤ 90:=by omega
      have HV : Hid ((decide (c = 4) || decide (c = 5) || decide (c = 6) || decide (c = 7)) = false):=by
       have d6 : decide (c = 6) = false:=decide_eq_false fun g => f6 (hg.1 g).2
       show (decide (c = 4) || decide (c = 5) || decide (c = 6) || decide (c = 7)) = false
       rw [d4,d5,d6,d7]
       rfl
      clear hu hg d4 d5 d7 e4 e5 e7
      go_enter Tryz.func136,Tryz.ntmps136
      go_wp2_with (first | (go_at_call 79; refine (K1.out _).mono ?_; rintro e w' ⟨rfl,he⟩; rw [he]; clear he) | (go_at_call 80; refine (K2.out _).mono ?_; rintro e w' ⟨rfl,he⟩; rw [he]; clear he))
      go_ret
      exact ⟨ret_bool ((decide_eq_false (by omega)).trans HV.out.symm),rfl⟩
    ·have i6 : ¬ (65 : Int) ≤ (x : Int):=by omega
     have HV : Hid ((decide (c = 4) || decide (c = 5) || decide (c = 6) || decide (c = 7)) = false):=by
      have d6 : decide (c = 6) = false:=decide_eq_false fun g => e6 (hg.1 g).1
      show (decide (c = 4) || decide (c = 5) || decide (c = 6) || decide (c = 7)) = false
      rw [d4,d5,d6,d7]
      rfl
     clear hu hg d4 d5 d7 e4 e5 e7
     go_enter Tryz.func136,Tryz.ntmps136
     go_wp2_with (first | (go_at_call 79; refine (K1.out _).mono ?_; rintro e w' ⟨rfl,he⟩; rw [he]; clear he) | (go_at_call 80; refine (K2.out _).mono ?_; rintro e w' ⟨rfl,he⟩; rw [he]; clear he))
     go_ret
     exact ⟨ret_bool HV.out.symm,rfl⟩

theorem drun_any (s : ByteArray) (a : Nat) (w : World) (ha : a ≤ s.size) (hs : s.size ≤ 1000) : Calls Tryz.prog 95 #[.string s,Vi (a : Int)] w fun e w' => e = .returned (.string (s.extract a (a + runN (bl s a)))) ∧ w' = w:=by
 obtain ⟨E,hE⟩:=Vx (a + runN (bl s a))
 have HE:=Hd hE
 have hEs : E ≤ s.size:=by have:=runN_le (bl s a); rw [bl_len] at this; omega
 have haE : a ≤ E:=by omega
 rw [hE]
 clear hE
 go_enter Tryz.func95,Tryz.ntmps95
 go_wp2
 go_loop [5] (fun i => ∃ k : Nat,k ≤ s.size ∧ a ≤ k ∧ i = Vi (k : Int) ∧ k + runN (bl s k) = E) (fun i => s.size - (intOf i).toNat)
 case atStart => exact ⟨a,ha,Nat.le_refl _,rfl,HE.out⟩
 case round =>
  obtain ⟨k,hk,hak,rfl,hr⟩:=hrel
  have HR:=Hd hr
  clear hr
  have hab : (a : Int) ≤ (k : Int):=by omega
  have hks : (k : Int) ≤ (s.size : Int):=by omega
  have ha0 : (0 : Int) ≤ (a : Int):=by omega
  by_cases hlt : k < s.size
  ·have hlti : (k : Int) < (s.size : Int):=by omega
   have HB : Hid (bl s k = s[k] :: bl s (k + 1)):=bl_in hlt
   have hP:=dpart_any s[k]
   by_cases hrb : runB s[k]
   ·rw [decide_eq_true hrb] at hP
    have HP:=Hd hP
    have HN : Hid (k + 1 + runN (bl s (k + 1)) = E):=by
     have:=HR.out
     rw [HB.out] at this
     simp only [runN] at this
     rw [if_pos hrb] at this
     show k + 1 + runN (bl s (k + 1)) = E
     omega
    clear hP hrb
    go_wp2_with (first | (go_at_call 136; refine (HP.out _).mono ?_; rintro e w' ⟨rfl,he⟩; rw [he]; clear he))
    go_round
    case rel => exact ⟨k + 1,by omega,by omega,by go_num,HN.out⟩
    case measure => simp [intOf]; omega
   ·rw [decide_eq_false hrb] at hP
    have HP:=Hd hP
    have HN : Hid (k = E):=by
     have:=HR.out
     rw [HB.out] at this
     simp only [runN] at this
     rw [if_neg hrb] at this
     exact this
    clear hP hrb
    go_wp2_with (first | (go_at_call 136; refine (HP.out _).mono ?_; rintro e w' ⟨rfl,he⟩; rw [he]; clear he))
    go_ret
    have hkE:=HN.out
    subst hkE
    exact ⟨rfl,rfl⟩
  ·have hlti : ¬ (k : Int) < (s.size : Int):=by omega
   have HN : Hid (k = E):=by
    have:=HR.out
    rw [bl_out hlt] at this
    exact this
   go_wp2
   go_ret
   have hkE:=HN.out
   subst hkE
   exact ⟨rfl,rfl⟩

theorem skp_in {s : ByteArray} {k : Nat} (h : k < s.size) (hr : ¬ (s[k].toNat = 45 ∧ k + 1 < s.size ∧ ∀ g : k + 1 < s.size,s[k + 1].toNat = 45)) : skp false (bl s k) = if s[k].toNat = 32 ∨ s[k].toNat = 9 ∨ s[k].toNat = 10 then 1 + skp false (bl s (k + 1)) else 0:=by
 rw [bl_in h]
 simp only [skp]
 by_cases hb : s[k].toNat = 32 ∨ s[k].toNat = 9 ∨ s[k].toNat = 10
 ·rw [if_pos hb,if_pos]
  rw [cls_blank,cls_line]
  rcases hb with hb | hb | hb
  ·exact Or.inl (Or.inl (UInt8.toNat_inj.1 hb))
  ·exact Or.inl (Or.inr (UInt8.toNat_inj.1 hb))
  ·exact Or.inr (UInt8.toNat_inj.1 hb)
 ·rw [if_neg hb,if_neg,if_neg]
  ·rintro ⟨h1,h2⟩
   refine hr ⟨by rw [h1]; rfl,?_⟩
   by_cases g : k + 1 < s.size
   ·refine ⟨g,fun g => ?_⟩
    rw [bl_in g] at h2
    simp at h2
    rw [h2]
    rfl
   ·rw [bl_out g] at h2
    simp at h2
  ·rw [cls_blank,cls_line]
   rintro ((g | g) | g)
   ·exact hb (Or.inl (by rw [g]; rfl))
   ·exact hb (Or.inr (Or.inl (by rw [g]; rfl)))
   ·exact hb (Or.inr (Or.inr (by rw [g]; rfl)))

theorem skp_rem {s : ByteArray} {k : Nat} (h : k < s.size) (h1 : s[k].toNat = 45) (g : k + 1 < s.size) (h2 : s[k + 1].toNat = 45) : skp false (bl s k) = skp true (bl s k):=by
 have e1 : s[k] = 45:=UInt8.toNat_inj.1 h1
 have e2 : s[k + 1] = 45:=UInt8.toNat_inj.1 h2
 rw [bl_in h]
 simp only [skp]
 rw [bl_in g,e1,e2,if_neg (by decide),if_pos ⟨rfl,by simp⟩,if_neg (by decide)]

theorem skp_true {s : ByteArray} {k : Nat} (h : k < s.size) (h1 : s[k].toNat ≠ 10) : skp true (bl s k) = 1 + skp true (bl s (k + 1)):=by
 rw [bl_in h]
 simp only [skp]
 rw [if_neg fun e => h1 (by rw [e]; rfl)]

theorem skp_line {s : ByteArray} {k : Nat} (h : ∀ h : k < s.size,s[k].toNat = 10) : skp true (bl s k) = skp false (bl s k):=by
 by_cases g : k < s.size
 ·have e : s[k] = 10:=UInt8.toNat_inj.1 (h g)
  rw [bl_in g]
  simp only [skp]
  rw [e,if_pos rfl,if_pos (Or.inr (by decide))]
 ·rw [bl_out g]
  rfl

theorem dskip_any (s : ByteArray) (a : Nat) (w : World) (ha : a ≤ s.size) (hs : s.size ≤ 1000) : Calls Tryz.prog 53 #[.string s,Vi (a : Int)] w fun e w' => e = .returned (Vi ((a + skp false (bl s a) : Nat) : Int)) ∧ w' = w:=by
 obtain ⟨E,hE⟩:=Vx (a + skp false (bl s a))
 have HE:=Hd hE
 rw [hE]
 clear hE
 go_enter Tryz.func53,Tryz.ntmps53
 go_wp2
 go_loop [1] (fun i => ∃ k : Nat,k ≤ s.size ∧ i = Vi (k : Int) ∧ k + skp false (bl s k) = E) (fun i => s.size - (intOf i).toNat)
 case atStart => exact ⟨a,ha,rfl,HE.out⟩
 case round =>
  obtain ⟨k,hk,rfl,hr⟩:=hrel
  have HR:=Hd hr
  clear hr HE
  have hw1 : IntKind.i64.wrap ((k : Int) + 1) = (k : Int) + 1:=by rw [IntKind.wrap_i64]; omega
  by_cases hlt : k < s.size
  ·have hlti : (k : Int) < (s.size : Int):=by omega
   have hb:=UInt8.toNat_lt s[k]
   by_cases hrm : s[k].toNat = 45 ∧ k + 1 < s.size ∧ ∀ g : k + 1 < s.size,s[k + 1].toNat = 45
   ·obtain ⟨h45,hk1,h46⟩:=hrm
    have hk1i : (k : Int) + 1 < (s.size : Int):=by omega
    have h46':=h46 hk1
    have HM : Hid (k + skp true (bl s k) = E):=by
     have:=HR.out
     rw [skp_rem hlt h45 hk1 h46'] at this
     exact this
    have HL : Hid (s[k].toNat ≠ 10):=by show s[k].toNat ≠ 10; omega
    have q1 : ((s[k].toNat : Int) == 45) = true:=by simp; omega
    have q2 : ((s[k + 1].toNat : Int) == 45) = true:=by simp; omega
    clear h46 h46' h45 hb
    go_wp2
    go_loop [1] (fun i => ∃ j : Nat,j ≤ s.size ∧ k ≤ j ∧ i = Vi (j : Int) ∧ j + skp true (bl s j) = E) (fun i => s.size - (intOf i).toNat)
    case atStart => exact ⟨k,hk,Nat.le_refl _,rfl,HM.out⟩
    case round =>
     obtain ⟨j,hj,hkj,rfl,hrj⟩:=hrel
     have HRJ:=Hd hrj
     clear hrj HM
     have hw2 : IntKind.i64.wrap ((j : Int) + 1) = (j : Int) + 1:=by rw [IntKind.wrap_i64]; omega
     by_cases hjs : j < s.size
     ·have hjsi : (j : Int) < (s.size : Int):=by omega
      by_cases h10 : s[j].toNat = 10
      ·have q3 : ((s[j].toNat : Int) != 10) = false:=by simp; omega
       have HN : Hid (j + skp false (bl s j) = E ∧ k < j):=by
        refine ⟨?_,?_⟩
        ·rw [← skp_line fun _ => h10]; exact HRJ.out
        ·rcases Nat.lt_or_ge k j with g | g
         ·exact g
         ·obtain rfl : k = j:=by omega
          exact absurd h10 HL.out
       clear h10
       go_wp2
       go_round
       case rel => exact ⟨j,hj,rfl,HN.out.1⟩
       case measure => have:=HN.out.2; simp [intOf]; omega
      ·have q3 : ((s[j].toNat : Int) != 10) = true:=by simp; omega
       have HN : Hid (j + 1 + skp true (bl s (j + 1)) = E):=by
        have:=HRJ.out
        rw [skp_true hjs h10] at this
        show j + 1 + skp true (bl s (j + 1)) = E
        omega
       clear h10
       go_wp2
       go_round
       case rel => exact ⟨j + 1,by omega,by omega,by go_num,HN.out⟩
       case measure => simp [intOf]; omega
     ·have hjsi : ¬ (j : Int) < (s.size : Int):=by omega
      have HN : Hid (j + skp false (bl s j) = E):=by
       rw [← skp_line fun g => absurd g hjs]; exact HRJ.out
      go_wp2
      go_round
      case rel => exact ⟨j,hj,rfl,HN.out⟩
      case measure => simp [intOf]; omega
   ·have HS:=Hd (skp_in hlt hrm)
    have HF : Hid (∀ g : k + 1 < s.size,s[k].toNat = 45 → s[k + 1].toNat ≠ 45):=fun g h h' => hrm ⟨h,g,fun _ => h'⟩
    clear hrm
    obtain ⟨x,hx⟩:=Vx (s[k].toNat)
    by_cases hbl : x = 32 ∨ x = 9 ∨ x = 10
    ·have HN : Hid (k + 1 + skp false (bl s (k + 1)) = E):=by
      have:=HR.out
      rw [HS.out,if_pos (by rw [hx]; exact hbl)] at this
      show k + 1 + skp false (bl s (k + 1)) = E
      omega
     have q0 : ((x : Int) == 45) = false:=by simp; omega
     by_cases hk1 : k + 1 < s.size
     ·have hk1i : (k : Int) + 1 < (s.size : Int):=by omega
      rcases hbl with rfl | rfl | rfl
      all_goals
       go_wp2
       go_round
       case rel => exact ⟨k + 1,by omega,by go_num,HN.out⟩
       case measure => simp [intOf]; omega
     ·have hk1i : ¬ (k : Int) + 1 < (s.size : Int):=by omega
      rcases hbl with rfl | rfl | rfl
      all_goals
       go_wp2
       go_round
       case rel => exact ⟨k + 1,by omega,by go_num,HN.out⟩
       case measure => simp [intOf]; omega
    ·have HN : Hid (k = E):=by
      have:=HR.out
      rw [HS.out,if_neg (by rw [hx]; exact hbl)] at this
      exact this
     have q1 : ((x : Int) != 32) = true:=by simp; omega
     have q2 : ((x : Int) != 9) = true:=by simp; omega
     have q3 : ((x : Int) != 10) = true:=by simp; omega
     clear hbl
     by_cases hk1 : k + 1 < s.size
     ·have hk1i : (k : Int) + 1 < (s.size : Int):=by omega
      by_cases h45 : x = 45
      ·have q4 : ((x : Int) == 45) = true:=by simp; omega
       have q5 : ((s[k + 1].toNat : Int) == 45) = false:=by
        have:=HF.out hk1 (by rw [hx]; exact h45)
        simp
        omega
       clear h45
       go_wp2
       go_ret
       have hkE:=HN.out
       subst hkE
       exact ⟨rfl,rfl⟩
      ·have q4 : ((x : Int) == 45) = false:=by simp; omega
       clear h45
       go_wp2
       go_ret
       have hkE:=HN.out
       subst hkE
       exact ⟨rfl,rfl⟩
     ·have hk1i : ¬ (k : Int) + 1 < (s.size : Int):=by omega
      go_wp2
      go_ret
      have hkE:=HN.out
      subst hkE
      exact ⟨rfl,rfl⟩
  ·have hlti : ¬ (k : Int) < (s.size : Int):=by omega
   have HN : Hid (k = E):=by
    have:=HR.out
    rw [bl_out hlt] at this
    exact this
   go_wp2
   go_ret
   have hkE:=HN.out
   subst hkE
   exact ⟨rfl,rfl⟩

theorem txt_on {s : ByteArray} {k : Nat} (h : k < s.size) (h1 : s[k].toNat ≠ 39) : txtN false (bl s k) = 1 + txtN false (bl s (k + 1)) ∧ txtC false (bl s k) = txtC false (bl s (k + 1)):=by
 have e : decide (s[k] = 39) = false:=decide_eq_false fun q => h1 (by rw [q]; rfl)
 rw [bl_in h]
 simp only [txtN,txtC,e]
 exact ⟨trivial,trivial⟩

theorem txt_two {s : ByteArray} {k : Nat} (h : k < s.size) (h1 : s[k].toNat = 39) (g : k + 1 < s.size) (h2 : s[k + 1].toNat = 39) : txtN false (bl s k) = 2 + txtN false (bl s (k + 2)) ∧ txtC false (bl s k) = txtC false (bl s (k + 2)):=by
 have e1 : s[k] = 39:=UInt8.toNat_inj.1 h1
 have e2 : s[k + 1] = 39:=UInt8.toNat_inj.1 h2
 rw [bl_in h,bl_in g,show k + 2 = k + 1 + 1 from rfl]
 simp only [txtN,txtC,e1,e2,decide_true,if_true]
 exact ⟨by omega,trivial⟩

theorem txt_end {s : ByteArray} {k : Nat} (h : k < s.size) (h1 : s[k].toNat = 39) (h2 : ∀ g : k + 1 < s.size,s[k + 1].toNat ≠ 39) : txtN false (bl s k) = 1 ∧ txtC false (bl s k) = true:=by
 have e1 : s[k] = 39:=UInt8.toNat_inj.1 h1
 rw [bl_in h]
 simp only [txtN,txtC,e1,decide_true]
 by_cases g : k + 1 < s.size
 ·have e2 : s[k + 1] ≠ 39:=fun q => h2 g (by rw [q]; rfl)
  rw [bl_in g]
  simp only [txtN,txtC]
  rw [if_neg e2,if_neg e2]
  exact ⟨rfl,rfl⟩
 ·rw [bl_out g]
  exact ⟨rfl,rfl⟩

def DTextP (s : ByteArray) (a : Nat) (w : World) (e : Ending) (w' : World) : Prop:=∃ (p : ByteArray) (ok : Bool),e = .returned (.tuple #[.string p,.bool ok]) ∧ ok = txtC false (bl s (a + 1)) ∧ (ok = true → p = s.extract a (a + 1 + txtN false (bl s (a + 1)))) ∧ w' = w

theorem dtext_any (s : ByteArray) (a : Nat) (w : World) (ha : a < s.size) (hs : s.size ≤ 1000) : Calls Tryz.prog 97 #[.string s,Vi (a : Int)] w (DTextP s a w):=by
 have hw0 : IntKind.i64.wrap ((a : Int) + 1) = (a : Int) + 1:=by rw [IntKind.wrap_i64]; omega
 go_enter Tryz.func97,Tryz.ntmps97
 go_wp2
 go_loop [6] (fun i => ∃ k : Nat,k ≤ s.size ∧ a < k ∧ i = Vi (k : Int) ∧ k + txtN false (bl s k) = a + 1 + txtN false (bl s (a + 1)) ∧ txtC false (bl s k) = txtC false (bl s (a + 1))) (fun i => s.size - (intOf i).toNat)
 case atStart => exact ⟨a + 1,by omega,by omega,by go_num,rfl,rfl⟩
 case round =>
  obtain ⟨k,hk,hak,rfl,hr,hc⟩:=hrel
  have HR:=Hd hr
  have HC:=Hd hc
  clear hr hc
  have hw1 : IntKind.i64.wrap ((k : Int) + 1) = (k : Int) + 1:=by rw [IntKind.wrap_i64]; omega
  have hw2 : IntKind.i64.wrap ((k : Int) + 2) = (k : Int) + 2:=by rw [IntKind.wrap_i64]; omega
  by_cases hlt : k < s.size
  ·have hlti : (k : Int) < (s.size : Int):=by omega
   by_cases h39 : s[k].toNat = 39
   ·have q1 : ((s[k].toNat : Int) != 39) = false:=by simp; omega
    by_cases hk1 : k + 1 < s.size
    ·have hk1i : (k : Int) + 1 < (s.size : Int):=by omega
     by_cases h40 : s[k + 1].toNat = 39
     ·have q2 : ((s[k + 1].toNat : Int) == 39) = true:=by simp; omega
      obtain ⟨e1,e2⟩:=txt_two hlt h39 hk1 h40
      have HN : Hid (k + 2 + txtN false (bl s (k + 2)) = a + 1 + txtN false (bl s (a + 1)) ∧ txtC false (bl s (k + 2)) = txtC false (bl s (a + 1))):=⟨by have:=HR.out; omega,by rw [← e2]; exact HC.out⟩
      clear e1 e2 h39 h40
      go_wp2
      go_round
      case rel => exact ⟨k + 2,by omega,by omega,by go_num,HN.out.1,HN.out.2⟩
      case measure => simp [intOf]; omega
     ·have q2 : ((s[k + 1].toNat : Int) == 39) = false:=by simp; omega
      obtain ⟨e1,e2⟩:=txt_end hlt h39 fun _ => h40
      have HN : Hid (a + 1 + txtN false (bl s (a + 1)) = k + 1 ∧ txtC false (bl s (a + 1)) = true):=⟨by have:=HR.out; omega,by rw [← HC.out]; exact e2⟩
      have r1 : (a : Int) ≤ (k : Int) + 1:=by omega
      have r2 : (k : Int) + 1 ≤ (s.size : Int):=by omega
      have r3 : (0 : Int) ≤ (a : Int):=by omega
      clear e1 e2 h39 h40
      go_wp2
      exact bodyPost_ret (v:=.tuple #[.string (s.extract a (k + 1)),.bool true]) (by simp [results,Tryz.results97,go_sem]) rfl ⟨_,_,rfl,HN.out.2.symm,fun _ => by rw [HN.out.1],rfl⟩
    ·have hk1i : ¬ (k : Int) + 1 < (s.size : Int):=by omega
     obtain ⟨e1,e2⟩:=txt_end hlt h39 fun g => absurd g hk1
     have HN : Hid (a + 1 + txtN false (bl s (a + 1)) = k + 1 ∧ txtC false (bl s (a + 1)) = true):=⟨by have:=HR.out; omega,by rw [← HC.out]; exact e2⟩
     have r1 : (a : Int) ≤ (k : Int) + 1:=by omega
     have r2 : (k : Int) + 1 ≤ (s.size : Int):=by omega
     have r3 : (0 : Int) ≤ (a : Int):=by omega
     clear e1 e2 h39
     go_wp2
     exact bodyPost_ret (v:=.tuple #[.string (s.extract a (k + 1)),.bool true]) (by simp [results,Tryz.results97,go_sem]) rfl ⟨_,_,rfl,HN.out.2.symm,fun _ => by rw [HN.out.1],rfl⟩
   ·have q1 : ((s[k].toNat : Int) != 39) = true:=by simp; omega
    obtain ⟨e1,e2⟩:=txt_on hlt h39
    have HN : Hid (k + 1 + txtN false (bl s (k + 1)) = a + 1 + txtN false (bl s (a + 1)) ∧ txtC false (bl s (k + 1)) = txtC false (bl s (a + 1))):=⟨by have:=HR.out; omega,by rw [← e2]; exact HC.out⟩
    clear e1 e2 h39
    go_wp2
    go_round
    case rel => exact ⟨k + 1,by omega,by omega,by go_num,HN.out.1,HN.out.2⟩
    case measure => simp [intOf]; omega
  ·have hlti : ¬ (k : Int) < (s.size : Int):=by omega
   have HN : Hid (txtC false (bl s (a + 1)) = false):=by
    show txtC false (bl s (a + 1)) = false
    rw [← HC.out,bl_out hlt]
    rfl
   go_wp2
   exact bodyPost_ret (v:=.tuple #[Vs,.bool false]) (by simp [results,Tryz.results97,go_sem]) rfl ⟨_,_,rfl,HN.out.symm,fun h => by simp at h,rfl⟩

theorem sgn_mem (b : UInt8) : sgn b = true ↔ b ∈ [59,44,40,41,46,42,43,45,47,37,61,60,62]:=cls_all (fun b => sgn b = true ↔ b ∈ [59,44,40,41,46,42,43,45,47,37,61,60,62]) (by decide +kernel) b

def sgnT (s : ByteArray) (a : Nat) (h : a < s.size) : ByteArray:=if sgn s[a] = true then s.extract a (a + sgnN (bl s a)) else ⟨#[]⟩

theorem extract_two {s : ByteArray} {a : Nat} (h : a < s.size) (g : a + 1 < s.size) : (s.extract a (a + 2)).data.toList = [s[a],s[a + 1]]:=by
 rw [extract_bl,bl_in h,bl_in g]
 rfl

theorem extract_one {s : ByteArray} {a : Nat} (h : a < s.size) : (s.extract a (a + 1)).data.toList = [s[a]]:=by
 rw [extract_bl,bl_in h]
 rfl

abbrev sgB : ByteArray:=⟨#[59,44,40,41,46,42,43,45,47,37,61,60,62]⟩

theorem sgB_at (i : Nat) (h : i < 13) : (sgB.extract i (i + 1)).data.toList = [sgB[i]'(by exact h)]:=extract_one (by exact h)

theorem sgB_mem (i : Nat) (h : i < 13) : sgB[i]'(by exact h) ∈ [59,44,40,41,46,42,43,45,47,37,61,60,62]:=by
 have : ∀ i : Fin 13,sgB[i.val]'(i.isLt) ∈ [59,44,40,41,46,42,43,45,47,37,61,60,62]:=by decide
 exact this ⟨i,h⟩

theorem sgB_all (b : UInt8) (h : ∀ i (g : i < 13),sgB[i]'(by exact g) ≠ b) : sgn b = false:=by
 cases hs : sgn b with
 | false => rfl
 | true =>
  have hm:=(sgn_mem b).1 hs
  simp only [List.mem_cons,List.not_mem_nil,or_false] at hm
  rcases hm with e | e | e | e | e | e | e | e | e | e | e | e | e
  ·exact absurd e.symm (h 0 (by decide))
  ·exact absurd e.symm (h 1 (by decide))
  ·exact absurd e.symm (h 2 (by decide))
  ·exact absurd e.symm (h 3 (by decide))
  ·exact absurd e.symm (h 4 (by decide))
  ·exact absurd e.symm (h 5 (by decide))
  ·exact absurd e.symm (h 6 (by decide))
  ·exact absurd e.symm (h 7 (by decide))
  ·exact absurd e.symm (h 8 (by decide))
  ·exact absurd e.symm (h 9 (by decide))
  ·exact absurd e.symm (h 10 (by decide))
  ·exact absurd e.symm (h 11 (by decide))
  ·exact absurd e.symm (h 12 (by decide))

theorem sgnT_two {s : ByteArray} {a : Nat} (h : a < s.size) (g : a + 1 < s.size) (ht : twoS s[a] s[a + 1]) : sgnT s a h = s.extract a (a + 2):=by
 have hsg : sgn s[a] = true:=by
  rw [sgn_mem]
  rcases ht with ⟨e,_⟩ | ⟨e,_⟩ | ⟨e,_⟩ <;> rw [e] <;> decide
 unfold sgnT
 rw [if_pos hsg,bl_in h,bl_in g]
 simp only [sgnN]
 rw [if_pos ht]

theorem sgnT_one {s : ByteArray} {a : Nat} (h : a < s.size) (ht : ∀ g : a + 1 < s.size,¬ twoS s[a] s[a + 1]) (hs : sgn s[a] = true) : sgnT s a h = s.extract a (a + 1):=by
 unfold sgnT
 rw [if_pos hs,bl_in h]
 by_cases g : a + 1 < s.size
 ·rw [bl_in g]
  simp only [sgnN]
  rw [if_neg (ht g)]
 ·rw [bl_out g]
  rfl

theorem sgnT_no {s : ByteArray} {a : Nat} (h : a < s.size) (hs : sgn s[a] = false) : sgnT s a h = ⟨#[]⟩:=by
 unfold sgnT
 rw [if_neg (by rw [hs]; simp)]

theorem two_beq {s : ByteArray} {a : Nat} (h : a < s.size) (g : a + 1 < s.size) (x y : UInt8) : ((s.extract a (a + 2)).toList == [x,y]) = decide (s[a] = x ∧ s[a + 1] = y):=by
 rw [ByteArray.toList_eq,extract_two h g,Bool.eq_iff_iff]
 simp

theorem dsign_any (s : ByteArray) (a : Nat) (w : World) (ha : a < s.size) (hs : s.size ≤ 1000) : Calls Tryz.prog 99 #[.string s,Vi (a : Int)] w fun e w' => e = .returned (.string (sgnT s a ha)) ∧ ∃ m,w' = w.drewN m:=by
 have hw1 : IntKind.i64.wrap ((a : Int) + 1) = (a : Int) + 1:=by rw [IntKind.wrap_i64]; omega
 have hw2 : IntKind.i64.wrap ((a : Int) + 2) = (a : Int) + 2:=by rw [IntKind.wrap_i64]; omega
 have hai : (a : Int) < (s.size : Int):=by omega
 have r0 : (0 : Int) ≤ (a : Int):=by omega
 have HD : Hid (∀ X,s.extract a (a + 1) = X → ∀ i (g : i < 13),sgB[i]'(by exact g) = s[a] → sgB.extract i (i + 1) = X):=fun X hX i g e => by
  rw [← hX]
  apply bytes_eq
  rw [sgB_at i g,extract_one ha,e]
 by_cases h1 : a + 1 < s.size
 ·have i1 : (a : Int) + 1 < (s.size : Int):=by omega
  have r1 : (a : Int) ≤ (a : Int) + 2:=by omega
  have r2 : (a : Int) + 2 ≤ (s.size : Int):=by omega
  have t1:=two_beq ha h1 60 62
  have t2:=two_beq ha h1 60 61
  have t3:=two_beq ha h1 62 61
  by_cases ht : twoS s[a] s[a + 1]
  ·have HV : Hid (sgnT s a ha = s.extract a (a + 2)):=sgnT_two ha h1 ht
   have ht2:=ht
   rw [HV.out]
   rcases ht2 with h | h | h
   ·rw [decide_eq_true h] at t1
    clear t2 t3 ht h
    go_enter Tryz.func99,Tryz.ntmps99
    go_wp2
    go_ret
    exact ⟨rfl,0,rfl⟩
   ·rw [decide_eq_false (by rw [h.1,h.2]; decide)] at t1
    rw [decide_eq_true h] at t2
    clear t3 ht h
    go_enter Tryz.func99,Tryz.ntmps99
    go_wp2
    go_ret
    exact ⟨rfl,0,rfl⟩
   ·rw [decide_eq_false (by rw [h.1,h.2]; decide)] at t1 t2
    rw [decide_eq_true h] at t3
    clear ht h
    go_enter Tryz.func99,Tryz.ntmps99
    go_wp2
    go_ret
    exact ⟨rfl,0,rfl⟩
  ·rw [decide_eq_false fun g => ht (Or.inl g)] at t1
   rw [decide_eq_false fun g => ht (Or.inr (Or.inl g))] at t2
   rw [decide_eq_false fun g => ht (Or.inr (Or.inr g))] at t3
   have HT:=Hd ht
   clear ht
   go_enter Tryz.func99,Tryz.ntmps99
   go_wp2
   go_loopw [7] (fun i wr => ∃ k : Nat,k ≤ 13 ∧ i = Vi (k : Int) ∧ (∀ j (g : j < 13),j < k → sgB[j]'(by exact g) ≠ s[a]) ∧ ∃ m,wr = w.drewN m) (fun i _ => 13 - (intOf i).toNat)
   case atStart => exact ⟨0,Nat.zero_le _,rfl,fun j _ g => absurd g (Nat.not_lt_zero _),0,rfl⟩
   case round =>
    obtain ⟨k,hk,rfl,hall,m,rfl⟩:=hrel
    have HA:=Hd hall
    clear hall
    by_cases hlt : k < 13
    ·have hlti : (k : Int) < 13:=by omega
     have hv1 : IntKind.i64.wrap ((k : Int) + 1) = (k : Int) + 1:=by rw [IntKind.wrap_i64]; omega
     by_cases he : sgB[k]'(by exact hlt) = s[a]
     ·have HV : Hid (sgB.extract k (k + 1) = sgnT s a ha):=by
       rw [sgnT_one ha (fun _ => HT.out) ((sgn_mem _).2 (by rw [← he]; exact sgB_mem k hlt))]
       exact HD.out _ rfl k hlt he
      have q : (((sgB[k]'(by exact hlt)).toNat : Int) == (s[a].toNat : Int)) = true:=by rw [he]; simp
      have z1 : (k : Int) ≤ (k : Int) + 1:=by omega
      have z2 : (k : Int) + 1 ≤ 13:=by omega
      have z3 : (0 : Int) ≤ (k : Int):=by omega
      clear he
      go_wp2
      go_quiet (fail)
      go_wp2
      go_ret
      exact ⟨by rw [← HV.out]; rfl,_,rfl⟩
     ·have q : (((sgB[k]'(by exact hlt)).toNat : Int) == (s[a].toNat : Int)) = false:=by
       have : (sgB[k]'(by exact hlt)).toNat ≠ s[a].toNat:=fun g => he (UInt8.toNat_inj.1 g)
       simp only [beq_eq_false_iff_ne,ne_eq]
       omega
      have HN : Hid (∀ j (g : j < 13),j < k + 1 → sgB[j]'(by exact g) ≠ s[a]):=by
       intro j g hj
       by_cases e : j = k
       ·subst e; exact he
       ·exact HA.out j g (by omega)
      clear he
      go_wp2
      go_quiet (fail)
      go_wp2
      go_roundw
      case rel => exact ⟨k + 1,by omega,by go_num,HN.out,_,rfl⟩
      case measure => simp [intOf]; omega
    ·have hlti : ¬ (k : Int) < 13:=by omega
     have HV : Hid (sgnT s a ha = ⟨#[]⟩):=sgnT_no ha (sgB_all _ fun j g => HA.out j g (by omega))
     go_wp2
     go_ret
     exact ⟨by rw [HV.out]; rfl,_,rfl⟩
 ·have i1 : ¬ (a : Int) + 1 < (s.size : Int):=by omega
  go_enter Tryz.func99,Tryz.ntmps99
  go_wp2
  go_loopw [7] (fun i wr => ∃ k : Nat,k ≤ 13 ∧ i = Vi (k : Int) ∧ (∀ j (g : j < 13),j < k → sgB[j]'(by exact g) ≠ s[a]) ∧ ∃ m,wr = w.drewN m) (fun i _ => 13 - (intOf i).toNat)
  case atStart => exact ⟨0,Nat.zero_le _,rfl,fun j _ g => absurd g (Nat.not_lt_zero _),0,rfl⟩
  case round =>
   obtain ⟨k,hk,rfl,hall,m,rfl⟩:=hrel
   have HA:=Hd hall
   clear hall
   by_cases hlt : k < 13
   ·have hlti : (k : Int) < 13:=by omega
    have hv1 : IntKind.i64.wrap ((k : Int) + 1) = (k : Int) + 1:=by rw [IntKind.wrap_i64]; omega
    by_cases he : sgB[k]'(by exact hlt) = s[a]
    ·have HV : Hid (sgB.extract k (k + 1) = sgnT s a ha):=by
      rw [sgnT_one ha (fun g => absurd g h1) ((sgn_mem _).2 (by rw [← he]; exact sgB_mem k hlt))]
      exact HD.out _ rfl k hlt he
     have q : (((sgB[k]'(by exact hlt)).toNat : Int) == (s[a].toNat : Int)) = true:=by rw [he]; simp
     have z1 : (k : Int) ≤ (k : Int) + 1:=by omega
     have z2 : (k : Int) + 1 ≤ 13:=by omega
     have z3 : (0 : Int) ≤ (k : Int):=by omega
     clear he
     go_wp2
     go_quiet (fail)
     go_wp2
     go_ret
     exact ⟨by rw [← HV.out]; rfl,_,rfl⟩
    ·have q : (((sgB[k]'(by exact hlt)).toNat : Int) == (s[a].toNat : Int)) = false:=by
      have : (sgB[k]'(by exact hlt)).toNat ≠ s[a].toNat:=fun g => he (UInt8.toNat_inj.1 g)
      simp only [beq_eq_false_iff_ne,ne_eq]
      omega
     have HN : Hid (∀ j (g : j < 13),j < k + 1 → sgB[j]'(by exact g) ≠ s[a]):=by
      intro j g hj
      by_cases e : j = k
      ·subst e; exact he
      ·exact HA.out j g (by omega)
     clear he
     go_wp2
     go_quiet (fail)
     go_wp2
     go_roundw
     case rel => exact ⟨k + 1,by omega,by go_num,HN.out,_,rfl⟩
     case measure => simp [intOf]; omega
   ·have hlti : ¬ (k : Int) < 13:=by omega
    have HV : Hid (sgnT s a ha = ⟨#[]⟩):=sgnT_no ha (sgB_all _ fun j g => HA.out j g (by omega))
    go_wp2
    go_ret
    exact ⟨by rw [HV.out]; rfl,_,rfl⟩
end Go.Proofs.YtffalonhkemieaaGreatDoor
