/- A76 -/
import Derived.Test.YtbfjmccpcbhljaaGreatDoorTA74
import Derived.Deep.CutRange
set_option maxHeartbeats 8000000
set_option maxRecDepth 100000
namespace Go.Proofs.YtbfjmccpcbhljaaGreatDoor
open Go.RowKit
theorem sel_pp (P : Nat) (s : PS) (w : World) (h : PA w P s) : Calls Tryz.prog 105 #[.pointer (some ⟨P,0,none⟩)] w (PP selR StV P s w):=by
 have HA:=Hd (Au.start h)
 have hPw:=h.lt
 have HLN : Hid (s.rest.length ≤ s.rest.length):=Nat.le_refl _
 have HG : Hid (∀ r,(thenR starR fun l => selF l) s r → selR s r):=fun r k => k
 clear h
 go_enter Tryz.func105,Tryz.ntmps105
 obtain ⟨W1,hW1,HA⟩:=HA.out.pushE Vq 27
 obtain ⟨W2,hW2,HA⟩:=HA.out.pushE (Vt 4 Vz Vz Vn Vn Vn false Vn Vn Vn Vn 0 0) 27
 have HhW2:=Hd hW2
 clear hW2
 go_wp2_with fail
 have hsz : W1.heap.size + 1 = W2.heap.size:=by rw [← HhW2.out]; simp
 try rw [hsz]
 clear hsz
 rw [HhW2.out]
 clear HhW2
 clear hW1
 refine (skip_any P (s) ⟨#[42]⟩ _ HA.out.pa).mono ?_
 rintro e w3 ⟨rfl,hp,ho⟩
 obtain ⟨b3,hb3⟩:=Vx ((s).sees [42])
 rw [show (s).sees (⟨#[42]⟩ : ByteArray).data.toList = b3 from hb3] at hp ⊢
 have HB:=Hd (HA.out.call ho hp)
 clear ho hp HA
 have HA:=HB
 have HBB:=Hd hb3
 clear HB hb3
 obtain ⟨⟨a0,a1,a2,a3,a4,a5,a6,a7,a8,a9,a10,a11,a12⟩,af0,af1,af2,af3,af4,af5,af6,af7,af8,af9,af10,af11,af12⟩:=thirt_of (HA.out.at 0 rfl)
 replace HA:=Hd (Au.puts 0 [.bool b3] 6 HA.out rfl)
 simp only [putsA,Sa,Sb,Sc] at HA
 obtain ⟨W4,hW4⟩:=Vx (setsL w3 (W1.heap.size) 6 [.bool b3])
 rw [hW4] at HA
 simp only [setsL] at hW4
 have ze:=thirt_of (HA.out.at 0 rfl)
 go_upto_if 12 with fail
 clear hW4
 go_cut [] from 4 to 87 (fun wx => ∃ (l : Bool × List Ex) (a5 : Option Addr) (c5 : Nat) (sN : PS),Au w P sN [(W1.heap.size,.cells (Vt 4 Vz Vz Vn Vn (.slice a5 l.2.length c5) l.1 Vn Vn Vn Vn 0 0) 27 (0,0)),(w.heap.size,.cells Vq 27 (0,0))] (fun W => True ∧ XL W w.heap.size l.2 (.slice a5 l.2.length c5)) wx ∧ (∀ r,selF l sN r → selR s r) ∧ sN.rest.length ≤ s.rest.length)
 case first =>
  cases b3 with
  | true =>
   rw [if_pos rfl] at HA
   have hS:=HBB.out
   replace HLN : Hid (((s).next).rest.length ≤ s.rest.length):=Nat.le_trans (tail_le _) HLN.out
   go_wp2
   go_meet
   case rel => exact ⟨(true,[]),none,0,(s).next,HA.out.imp fun W h => ⟨trivial,XL.nil _ _⟩,fun r k => HG.out r (thenR_ok (ifR_yes hS rfl) k),HLN.out⟩
  | false =>
   rw [if_neg (by decide)] at HA
   have hS:=HBB.out
   replace HLN : Hid ((s).rest.length ≤ s.rest.length):=Nat.le_trans (Nat.le_refl _) HLN.out
   replace HG:=Hd (then_then (then_not hS HG.out))
   go_wp2_with fail
   refine (list_item itemR P 8 (s) _ HA.out.pa (fun s w h => item_pe P s w h)).mono ?_
   rintro e w5 ⟨r,hr,ho,hm⟩
   cases r with
   | bad p =>
    have HV:=Hd (HG.out _ (thenR_bad hr))
    have HO:=Hd (HA.out.only.trans ho)
    rw [hm]
    clear hm hr ho
    go_wp2
    exact ⟨rfl,pp_bad HV.out HO.out⟩
   | ok x5 s5 =>
    obtain ⟨v,rfl,⟨a5,c5,rfl,hx⟩,hp,hl⟩:=hm
    have HB:=Hd (HA.out.gain ho hp (fun W => XL W w.heap.size _ _) fun _ hW => (hx.keep hW).mono HA.out.only.size)
    have HG2:=Hd (fun r k => HG.out r (thenR_ok hr k))
    have HL2 : Hid (s5.rest.length ≤ s.rest.length):=Nat.le_trans hl HLN.out
    clear ho hp hl hr HA HG HLN hx
    have HA:=HB
    have HG:=HG2
    have HLN:=HL2
    clear HB HG2 HL2
    have zg:=thirt_of (HA.out.at 0 rfl)
    replace HA:=Hd (Au.puts 0 [.slice a5 x5.length c5] 5 HA.out rfl)
    simp only [putsA,Sa,Sb,Sc] at HA
    obtain ⟨W6,hW6⟩:=Vx (setsL w5 (W1.heap.size) 5 [.slice a5 x5.length c5])
    rw [hW6] at HA
    simp only [setsL] at hW6
    go_wp2
    clear hW6
    go_meet
    case rel => exact ⟨(false,x5),a5,c5,s5,HA.out.imp fun W h => ⟨trivial,h.2⟩,fun r k => HG.out r (thenR_ok rfl k),HLN.out⟩
 case rest =>
  clear HA HG HLN HBB
  obtain ⟨l,a5,c5,s90,hA,hG,hL⟩:=hcut
  have HA:=Hd hA
  have HG:=Hd hG
  have HLN:=Hd hL
  clear hA hG hL
  obtain ⟨W90,hW90⟩:=Vx wc
  rw [hW90] at HA ⊢
  clear hW90
  obtain ⟨W7,hW7,HA⟩:=HA.out.pushE #[.string ⟨#[70,82,79,77]⟩] 9
  have hlb : P < W90.heap.size:=Nat.lt_of_lt_of_le hPw (HA.out.has _ (List.mem_cons_self)).1
  go_wp2_with fail
  clear hW7
  refine (need_pp P (s90) (some ⟨W90.heap.size,0,none⟩) [⟨#[70,82,79,77]⟩] 1 W7 HA.out.pa (StrsP.one (HA.out.at 0 rfl) hlb) (by decide)).mono ?_
  rintro e w8 ⟨r,hr,ho,hm⟩
  cases r with
  | bad p =>
   have HV:=Hd (HG.out _ (thenR_bad hr))
   have HO:=Hd (HA.out.only.trans ho)
   rw [hm]
   clear hm hr ho
   go_wp2
   exact ⟨rfl,pp_bad HV.out HO.out⟩
  | ok x8 s8 =>
   obtain ⟨v,rfl,rfl,hp,hl⟩:=hm
   have HB:=Hd (HA.out.call ho hp)
   have HB:=Hd HB.out.drop
   have HG2:=Hd (fun r k => HG.out r (thenR_ok hr k))
   have HL2 : Hid (s8.rest.length ≤ s.rest.length):=Nat.le_trans hl HLN.out
   clear ho hp hl hr HA HG HLN hlb
   have HA:=HB
   have HG:=HG2
   have HLN:=HL2
   clear HB HG2 HL2
   go_wp2_with fail
   refine (name_pp P (s8) _ HA.out.pa).mono ?_
   rintro e w9 ⟨r,hr,ho,hm⟩
   cases r with
   | bad p =>
    have HV:=Hd (HG.out _ (thenR_bad hr))
    have HO:=Hd (HA.out.only.trans ho)
    rw [hm]
    clear hm hr ho
    go_wp2
    exact ⟨rfl,pp_bad HV.out HO.out⟩
   | ok x9 s9 =>
    obtain ⟨v,rfl,rfl,hp,hl⟩:=hm
    have HB:=Hd (HA.out.call ho hp)
    have HG2:=Hd (fun r k => HG.out r (thenR_ok hr k))
    have HL2 : Hid (s9.rest.length ≤ s.rest.length):=Nat.le_trans hl HLN.out
    clear ho hp hl hr HA HG HLN
    have HA:=HB
    have HG:=HG2
    have HLN:=HL2
    clear HB HG2 HL2
    have zj:=thirt_of (HA.out.at 0 rfl)
    replace HA:=Hd (Au.puts 0 [.string x9] 1 HA.out rfl)
    simp only [putsA,Sa,Sb,Sc] at HA
    obtain ⟨W10,hW10⟩:=Vx (setsL w9 (W1.heap.size) 1 [.string x9])
    rw [hW10] at HA
    simp only [setsL] at hW10
    go_wp2_with fail
    clear hW10
    refine (skip_any P (s9) ⟨#[74,79,73,78]⟩ _ HA.out.pa).mono ?_
    rintro e w11 ⟨rfl,hp,ho⟩
    obtain ⟨b11,hb11⟩:=Vx ((s9).sees wJOIN)
    rw [show (s9).sees (⟨#[74,79,73,78]⟩ : ByteArray).data.toList = b11 from hb11] at hp ⊢
    have HB:=Hd (HA.out.call ho hp)
    clear ho hp HA
    have HA:=HB
    have HBB:=Hd hb11
    clear HB hb11
    go_upto_if 29 with fail
    go_cut [] from 4 to 87 (fun wx => ∃ (j : Int × ByteArray × List Ex) (a3 : Option Addr) (c3 : Nat) (sN : PS),Au w P sN [(W1.heap.size,.cells (Vt 4 x9 j.2.1 (.slice a3 j.2.2.length c3) Vn (.slice a5 l.2.length c5) l.1 Vn Vn Vn Vn 0 j.1) 27 (0,0)),(w.heap.size,.cells Vq 27 (0,0))] (fun W => (True ∧ XL W w.heap.size l.2 (.slice a5 l.2.length c5)) ∧ XL W w.heap.size j.2.2 (.slice a3 j.2.2.length c3)) wx ∧ (∀ r,selW l x9 j sN r → selR s r) ∧ sN.rest.length ≤ s.rest.length)
    case first =>
     cases b11 with
     | false =>
      rw [if_neg (by decide)] at HA
      have hS:=HBB.out
      replace HLN : Hid ((s9).rest.length ≤ s.rest.length):=Nat.le_trans (Nat.le_refl _) HLN.out
      replace HG:=Hd (then_not hS HG.out)
      go_wp2
      go_meet
      case rel => exact ⟨((0 : Int),⟨#[]⟩,[]),none,0,s9,HA.out.imp fun W h => ⟨h,XL.nil _ _⟩,fun r k => HG.out r (thenR_ok rfl k),HLN.out⟩
     | true =>
      rw [if_pos rfl] at HA
      have hS:=HBB.out
      replace HLN : Hid (((s9).next).rest.length ≤ s.rest.length):=Nat.le_trans (tail_le _) HLN.out
      replace HG:=Hd (then_yes hS HG.out)
      replace HG:=Hd (then_then HG.out)
      obtain ⟨p0,hp0⟩:=Vx ((s9).next.hd.2)
      have HAT:=ath P hp0
      have HP0:=Hd hp0
      clear hp0
      go_wp2_with fail
      refine (HAT.out _ HA.out.pa).mono ?_
      rintro e w' ⟨rfl,hw⟩
      replace hw:=hw.symm
      subst hw
      clear HAT
      replace HG:=Hd (fun r k => HG.out r (thenR_ok (show placeR _ _ from rfl) k))
      rw [HP0.out] at HG
      replace HG:=Hd (then_then HG.out)
      have zja:=thirt_of (HA.out.at 0 rfl)
      replace HA:=Hd (Au.puts 0 [Vi (p0 : Int)] 12 HA.out rfl)
      simp only [putsA,Sa,Sb,Sc] at HA
      obtain ⟨W12,hW12⟩:=Vx (setsL w11 (W1.heap.size) 12 [Vi (p0 : Int)])
      rw [hW12] at HA
      simp only [setsL] at hW12
      go_wp2_with fail
      clear hW12
      refine (name_pp P ((s9).next) _ HA.out.pa).mono ?_
      rintro e w13 ⟨r,hr,ho,hm⟩
      cases r with
      | bad p =>
       have HV:=Hd (HG.out _ (thenR_bad hr))
       have HO:=Hd (HA.out.only.trans ho)
       rw [hm]
       clear hm hr ho
       go_wp2
       exact ⟨rfl,pp_bad HV.out HO.out⟩
      | ok x13 s13 =>
       obtain ⟨v,rfl,rfl,hp,hl⟩:=hm
       have HB:=Hd (HA.out.call ho hp)
       have HG2:=Hd (fun r k => HG.out r (thenR_ok hr k))
       have HL2 : Hid (s13.rest.length ≤ s.rest.length):=Nat.le_trans hl HLN.out
       clear ho hp hl hr HA HG HLN
       have HA:=HB
       have HG:=HG2
       have HLN:=HL2
       clear HB HG2 HL2
       have zjb:=thirt_of (HA.out.at 0 rfl)
       replace HA:=Hd (Au.puts 0 [.string x13] 2 HA.out rfl)
       simp only [putsA,Sa,Sb,Sc] at HA
       obtain ⟨W14,hW14⟩:=Vx (setsL w13 (W1.heap.size) 2 [.string x13])
       rw [hW14] at HA
       simp only [setsL] at hW14
       replace HG:=Hd (then_then HG.out)
       obtain ⟨W15,hW15,HA⟩:=HA.out.pushE #[.string ⟨#[79,78]⟩] 9
       have hlb : P < W14.heap.size:=Nat.lt_of_lt_of_le hPw (HA.out.has _ (List.mem_cons_self)).1
       go_wp2_with fail
       clear hW14 hW15
       refine (need_pp P (s13) (some ⟨W14.heap.size,0,none⟩) [⟨#[79,78]⟩] 1 W15 HA.out.pa (StrsP.one (HA.out.at 0 rfl) hlb) (by decide)).mono ?_
       rintro e w16 ⟨r,hr,ho,hm⟩
       cases r with
       | bad p =>
        have HV:=Hd (HG.out _ (thenR_bad hr))
        have HO:=Hd (HA.out.only.trans ho)
        rw [hm]
        clear hm hr ho
        go_wp2
        exact ⟨rfl,pp_bad HV.out HO.out⟩
       | ok x16 s16 =>
        obtain ⟨v,rfl,rfl,hp,hl⟩:=hm
        have HB:=Hd (HA.out.call ho hp)
        have HB:=Hd HB.out.drop
        have HG2:=Hd (fun r k => HG.out r (thenR_ok hr k))
        have HL2 : Hid (s16.rest.length ≤ s.rest.length):=Nat.le_trans hl HLN.out
        clear ho hp hl hr HA HG HLN hlb
        have HA:=HB
        have HG:=HG2
        have HLN:=HL2
        clear HB HG2 HL2
        replace HG:=Hd (then_then HG.out)
        go_wp2_with fail
        refine (expr_pe P (s16) _ HA.out.pa).mono ?_
        rintro e w17 ⟨r,hr,ho,hm⟩
        cases r with
        | bad p =>
         have HV:=Hd (HG.out _ (thenR_bad hr))
         have HO:=Hd (HA.out.only.trans ho)
         rw [hm]
         clear hm hr ho
         go_wp2
         exact ⟨rfl,pp_bad HV.out HO.out⟩
        | ok x17 s17 =>
         obtain ⟨v,rfl,⟨a,m,c,rfl,hx⟩,hp,hl⟩:=hm
         have HB:=Hd (HA.out.gainX ho hp hx)
         have HG2:=Hd (fun r k => HG.out r (thenR_ok hr k))
         have HL2 : Hid (s17.rest.length ≤ s.rest.length):=Nat.le_trans (Nat.le_of_lt hl) HLN.out
         have HS2 : Hid (s17.rest.length < s.rest.length):=Nat.lt_of_lt_of_le hl HLN.out
         clear ho hp hl hr HA HG HLN hx
         have HA:=HB
         have HG:=HG2
         have HLN:=HL2
         clear HB HG2 HL2
         have HLS:=HS2
         clear HS2
         obtain ⟨kk,oo,⟨v1,v2,v3⟩,tt,nn,ks,pp⟩:=x17
         simp only [exV,exC]
         obtain ⟨W18,hW18,HA⟩:=HA.out.pushE (Ve kk oo v1 v2 v3 tt nn (.slice a m c) pp) 49
         have hlb : w.heap.size ≤ w17.heap.size:=(HA.out.has _ (List.mem_cons_self)).1
         replace HA:=Hd (HA.out.own (J:=fun W => (True ∧ XL W w.heap.size l.2 (.slice a5 l.2.length c5)) ∧ XL W w.heap.size [(Ex.mk kk oo (v1,v2,v3) tt nn ks pp)] (.slice (some ⟨w17.heap.size,0,none⟩) 1 1)) fun W h hb => ⟨h.1,XL.one h.2 hb hlb⟩)
         clear hlb
         have zjc:=thirt_of (HA.out.at 0 rfl)
         replace HA:=Hd (Au.puts 0 [.slice (some ⟨w17.heap.size,0,none⟩) 1 1] 3 HA.out rfl)
         simp only [putsA,Sa,Sb,Sc] at HA
         obtain ⟨W19,hW19⟩:=Vx (setsL W18 (W1.heap.size) 3 [.slice (some ⟨w17.heap.size,0,none⟩) 1 1])
         rw [hW19] at HA
         simp only [setsL] at hW19
         go_wp2
         clear hW18 hW19
         go_meet
         case rel => exact ⟨((p0 : Int),x13,[(Ex.mk kk oo (v1,v2,v3) tt nn ks pp)]),(some ⟨w17.heap.size,0,none⟩),1,s17,HA.out.imp fun W h => h,fun r k => HG.out r (thenR_ok rfl k),HLN.out⟩
    case rest =>
     clear HA HG HLN HBB
     obtain ⟨j,a3,c3,s9,hA,hG,hL⟩:=hcut
     have HA:=Hd hA
     have HG:=Hd hG
     have HLN:=Hd hL
     clear hA hG hL
     obtain ⟨s20,hs9⟩:=Vx s9
     rw [hs9] at HA HG HLN
     clear hs9
     obtain ⟨W20,hwc⟩:=Vx wc
     rw [hwc] at HA ⊢
     clear hwc
     go_wp2_with fail
     refine (where_pp P (s20) _ HA.out.pa).mono ?_
     rintro e w21 ⟨r,hr,ho,hm⟩
     cases r with
     | bad p =>
      have HV:=Hd (HG.out _ (thenR_bad hr))
      have HO:=Hd (HA.out.only.trans ho)
      rw [hm]
      clear hm hr ho
      go_wp2
      exact ⟨rfl,pp_bad HV.out HO.out⟩
     | ok x21 s21 =>
      obtain ⟨v,rfl,⟨a4,c4,rfl,hx⟩,hp,hl⟩:=hm
      have HB:=Hd (HA.out.gain ho hp (fun W => XL W w.heap.size _ _) fun _ hW => (hx.keep hW).mono HA.out.only.size)
      have HG2:=Hd (fun r k => HG.out r (thenR_ok hr k))
      have HL2 : Hid (s21.rest.length ≤ s.rest.length):=Nat.le_trans hl HLN.out
      clear ho hp hl hr HA HG HLN hx
      have HA:=HB
      have HG:=HG2
      have HLN:=HL2
      clear HB HG2 HL2
      have zwa:=thirt_of (HA.out.at 0 rfl)
      replace HA:=Hd (Au.puts 0 [.slice a4 x21.length c4] 4 HA.out rfl)
      simp only [putsA,Sa,Sb,Sc] at HA
      obtain ⟨W22,hW22⟩:=Vx (setsL w21 (W1.heap.size) 4 [.slice a4 x21.length c4])
      rw [hW22] at HA
      simp only [setsL] at hW22
      go_wp2_with fail
      clear hW22
      refine (skip_any P (s21) ⟨#[71,82,79,85,80]⟩ _ HA.out.pa).mono ?_
      rintro e w23 ⟨rfl,hp,ho⟩
      obtain ⟨b23,hb23⟩:=Vx ((s21).sees wGROUP)
      rw [show (s21).sees (⟨#[71,82,79,85,80]⟩ : ByteArray).data.toList = b23 from hb23] at hp ⊢
      have HB:=Hd (HA.out.call ho hp)
      clear ho hp HA
      have HA:=HB
      have HBB:=Hd hb23
      clear HB hb23
      go_upto_if 55 with fail
      go_cut [] from 4 to 87 (fun wx => ∃ (g : List Ex) (a8 : Option Addr) (c8 : Nat) (sN : PS),Au w P sN [(W1.heap.size,.cells (Vt 4 x9 j.2.1 (.slice a3 j.2.2.length c3) (.slice a4 x21.length c4) (.slice a5 l.2.length c5) l.1 Vn (.slice a8 g.length c8) Vn Vn 0 j.1) 27 (0,0)),(w.heap.size,.cells Vq 27 (0,0))] (fun W => (((True ∧ XL W w.heap.size l.2 (.slice a5 l.2.length c5)) ∧ XL W w.heap.size j.2.2 (.slice a3 j.2.2.length c3)) ∧ XL W w.heap.size x21 (.slice a4 x21.length c4)) ∧ XL W w.heap.size g (.slice a8 g.length c8)) wx ∧ (∀ r,selO l x9 j x21 g sN r → selR s r) ∧ sN.rest.length ≤ s.rest.length)
      case first =>
       cases b23 with
       | false =>
        rw [if_neg (by decide)] at HA
        have hS:=HBB.out
        replace HLN : Hid ((s21).rest.length ≤ s.rest.length):=Nat.le_trans (Nat.le_refl _) HLN.out
        replace HG:=Hd (then_not hS HG.out)
        go_wp2
        go_meet
        case rel => exact ⟨[],none,0,s21,HA.out.imp fun W h => ⟨h,XL.nil _ _⟩,fun r k => HG.out r (thenR_ok rfl k),HLN.out⟩
       | true =>
        rw [if_pos rfl] at HA
        have hS:=HBB.out
        replace HLN : Hid (((s21).next).rest.length ≤ s.rest.length):=Nat.le_trans (tail_le _) HLN.out
        replace HG:=Hd (then_yes hS HG.out)
        replace HG:=Hd (then_then HG.out)
        obtain ⟨W24,hW24,HA⟩:=HA.out.pushE #[.string ⟨#[66,89]⟩] 9
        have hlb : P < w23.heap.size:=Nat.lt_of_lt_of_le hPw (HA.out.has _ (List.mem_cons_self)).1
        go_wp2_with fail
        clear hW24
        refine (need_pp P ((s21).next) (some ⟨w23.heap.size,0,none⟩) [⟨#[66,89]⟩] 1 W24 HA.out.pa (StrsP.one (HA.out.at 0 rfl) hlb) (by decide)).mono ?_
        rintro e w25 ⟨r,hr,ho,hm⟩
        cases r with
        | bad p =>
         have HV:=Hd (HG.out _ (thenR_bad hr))
         have HO:=Hd (HA.out.only.trans ho)
         rw [hm]
         clear hm hr ho
         go_wp2
         exact ⟨rfl,pp_bad HV.out HO.out⟩
        | ok x25 s25 =>
         obtain ⟨v,rfl,rfl,hp,hl⟩:=hm
         have HB:=Hd (HA.out.call ho hp)
         have HB:=Hd HB.out.drop
         have HG2:=Hd (fun r k => HG.out r (thenR_ok hr k))
         have HL2 : Hid (s25.rest.length ≤ s.rest.length):=Nat.le_trans hl HLN.out
         clear ho hp hl hr HA HG HLN hlb
         have HA:=HB
         have HG:=HG2
         have HLN:=HL2
         clear HB HG2 HL2
         go_wp2_with fail
         refine (list_col colmR P 8 (s25) _ HA.out.pa (fun s w h => column_pe P s w h)).mono ?_
         rintro e w26 ⟨r,hr,ho,hm⟩
         cases r with
         | bad p =>
          have HV:=Hd (HG.out _ (thenR_bad hr))
          have HO:=Hd (HA.out.only.trans ho)
          rw [hm]
          clear hm hr ho
          go_wp2
          exact ⟨rfl,pp_bad HV.out HO.out⟩
         | ok x26 s26 =>
          obtain ⟨v,rfl,⟨a8,c8,rfl,hx⟩,hp,hl⟩:=hm
          have HB:=Hd (HA.out.gain ho hp (fun W => XL W w.heap.size _ _) fun _ hW => (hx.keep hW).mono HA.out.only.size)
          have HG2:=Hd (fun r k => HG.out r (thenR_ok hr k))
          have HL2 : Hid (s26.rest.length ≤ s.rest.length):=Nat.le_trans hl HLN.out
          clear ho hp hl hr HA HG HLN hx
          have HA:=HB
          have HG:=HG2
          have HLN:=HL2
          clear HB HG2 HL2
          obtain ⟨⟨q80,q81,q82,q83,q84,q85,q86,q87,q88,q89,q810,q811,q812⟩,q8f0,q8f1,q8f2,q8f3,q8f4,q8f5,q8f6,q8f7,q8f8,q8f9,q8f10,q8f11,q8f12⟩:=thirt_of (HA.out.at 0 rfl)
          replace HA:=Hd (Au.puts 0 [.slice a8 x26.length c8] 8 HA.out rfl)
          simp only [putsA,Sa,Sb,Sc] at HA
          obtain ⟨W27,hW27⟩:=Vx (setsL w26 (W1.heap.size) 8 [.slice a8 x26.length c8])
          rw [hW27] at HA
          simp only [setsL] at hW27
          go_wp2
          clear hW27
          go_meet
          case rel => exact ⟨x26,a8,c8,s26,HA.out.imp fun W h => h,HG.out,HLN.out⟩
      case rest =>
       clear HA HG HLN HBB
       obtain ⟨g,a8,c8,s9,hA,hG,hL⟩:=hcut
       have HA:=Hd hA
       have HG:=Hd hG
       have HLN:=Hd hL
       clear hA hG hL
       obtain ⟨s28,hs9⟩:=Vx s9
       rw [hs9] at HA HG HLN
       clear hs9
       obtain ⟨W28,hwc⟩:=Vx wc
       rw [hwc] at HA ⊢
       clear hwc
       go_wp2_with fail
       refine (skip_any P (s28) ⟨#[79,82,68,69,82]⟩ _ HA.out.pa).mono ?_
       rintro e w29 ⟨rfl,hp,ho⟩
       obtain ⟨b29,hb29⟩:=Vx ((s28).sees wORDER)
       rw [show (s28).sees (⟨#[79,82,68,69,82]⟩ : ByteArray).data.toList = b29 from hb29] at hp ⊢
       have HB:=Hd (HA.out.call ho hp)
       clear ho hp HA
       have HA:=HB
       have HBB:=Hd hb29
       clear HB hb29
       go_upto_if 67 with fail
       go_cut [] from 4 to 87 (fun wx => ∃ (o : List So) (a9 : Option Addr) (c9 : Nat) (sN : PS),Au w P sN [(W1.heap.size,.cells (Vt 4 x9 j.2.1 (.slice a3 j.2.2.length c3) (.slice a4 x21.length c4) (.slice a5 l.2.length c5) l.1 Vn (.slice a8 g.length c8) (.slice a9 o.length c9) Vn 0 j.1) 27 (0,0)),(w.heap.size,.cells Vq 27 (0,0))] (fun W => ((((True ∧ XL W w.heap.size l.2 (.slice a5 l.2.length c5)) ∧ XL W w.heap.size j.2.2 (.slice a3 j.2.2.length c3)) ∧ XL W w.heap.size x21 (.slice a4 x21.length c4)) ∧ XL W w.heap.size g (.slice a8 g.length c8)) ∧ SoL W w.heap.size o (.slice a9 o.length c9)) wx ∧ (∀ r,selL l x9 j x21 g o sN r → selR s r) ∧ sN.rest.length ≤ s.rest.length)
       case first =>
        cases b29 with
        | false =>
         rw [if_neg (by decide)] at HA
         have hS:=HBB.out
         replace HLN : Hid ((s28).rest.length ≤ s.rest.length):=Nat.le_trans (Nat.le_refl _) HLN.out
         replace HG:=Hd (then_not hS HG.out)
         go_wp2
         go_meet
         case rel => exact ⟨[],none,0,s28,HA.out.imp fun W h => ⟨h,SoL.nil _ _⟩,fun r k => HG.out r (thenR_ok rfl k),HLN.out⟩
        | true =>
         rw [if_pos rfl] at HA
         have hS:=HBB.out
         replace HLN : Hid (((s28).next).rest.length ≤ s.rest.length):=Nat.le_trans (tail_le _) HLN.out
         replace HG:=Hd (then_yes hS HG.out)
         replace HG:=Hd (then_then HG.out)
         obtain ⟨W30,hW30,HA⟩:=HA.out.pushE #[.string ⟨#[66,89]⟩] 9
         have hlb : P < w29.heap.size:=Nat.lt_of_lt_of_le hPw (HA.out.has _ (List.mem_cons_self)).1
         go_wp2_with fail
         clear hW30
         refine (need_pp P ((s28).next) (some ⟨w29.heap.size,0,none⟩) [⟨#[66,89]⟩] 1 W30 HA.out.pa (StrsP.one (HA.out.at 0 rfl) hlb) (by decide)).mono ?_
         rintro e w31 ⟨r,hr,ho,hm⟩
         cases r with
         | bad p =>
          have HV:=Hd (HG.out _ (thenR_bad hr))
          have HO:=Hd (HA.out.only.trans ho)
          rw [hm]
          clear hm hr ho
          go_wp2
          exact ⟨rfl,pp_bad HV.out HO.out⟩
         | ok x31 s31 =>
          obtain ⟨v,rfl,rfl,hp,hl⟩:=hm
          have HB:=Hd (HA.out.call ho hp)
          have HB:=Hd HB.out.drop
          have HG2:=Hd (fun r k => HG.out r (thenR_ok hr k))
          have HL2 : Hid (s31.rest.length ≤ s.rest.length):=Nat.le_trans hl HLN.out
          clear ho hp hl hr HA HG HLN hlb
          have HA:=HB
          have HG:=HG2
          have HLN:=HL2
          clear HB HG2 HL2
          go_wp2_with fail
          refine (list_sort sortR P 8 (s31) _ HA.out.pa (fun s w h => sort_pe P s w h)).mono ?_
          rintro e w32 ⟨r,hr,ho,hm⟩
          cases r with
          | bad p =>
           have HV:=Hd (HG.out _ (thenR_bad hr))
           have HO:=Hd (HA.out.only.trans ho)
           rw [hm]
           clear hm hr ho
           go_wp2
           exact ⟨rfl,pp_bad HV.out HO.out⟩
          | ok x32 s32 =>
           obtain ⟨v,rfl,⟨a9,c9,rfl,hx⟩,hp,hl⟩:=hm
           have HB:=Hd (HA.out.gain ho hp (fun W => SoL W w.heap.size _ _) fun _ hW => (hx.keep hW).mono HA.out.only.size)
           have HG2:=Hd (fun r k => HG.out r (thenR_ok hr k))
           have HL2 : Hid (s32.rest.length ≤ s.rest.length):=Nat.le_trans hl HLN.out
           clear ho hp hl hr HA HG HLN hx
           have HA:=HB
           have HG:=HG2
           have HLN:=HL2
           clear HB HG2 HL2
           obtain ⟨⟨q90,q91,q92,q93,q94,q95,q96,q97,q98,q99,q910,q911,q912⟩,q9f0,q9f1,q9f2,q9f3,q9f4,q9f5,q9f6,q9f7,q9f8,q9f9,q9f10,q9f11,q9f12⟩:=thirt_of (HA.out.at 0 rfl)
           replace HA:=Hd (Au.puts 0 [.slice a9 x32.length c9] 9 HA.out rfl)
           simp only [putsA,Sa,Sb,Sc] at HA
           obtain ⟨W33,hW33⟩:=Vx (setsL w32 (W1.heap.size) 9 [.slice a9 x32.length c9])
           rw [hW33] at HA
           simp only [setsL] at hW33
           go_wp2
           clear hW33
           go_meet
           case rel => exact ⟨x32,a9,c9,s32,HA.out.imp fun W h => h,HG.out,HLN.out⟩
       case rest =>
        clear HA HG HLN HBB
        obtain ⟨o,a9,c9,s9,hA,hG,hL⟩:=hcut
        have HA:=Hd hA
        have HG:=Hd hG
        have HLN:=Hd hL
        clear hA hG hL
        obtain ⟨s34,hs9⟩:=Vx s9
        rw [hs9] at HA HG HLN
        clear hs9
        obtain ⟨W34,hwc⟩:=Vx wc
        rw [hwc] at HA ⊢
        clear hwc
        go_wp2_with fail
        refine (skip_any P (s34) ⟨#[76,73,77,73,84]⟩ _ HA.out.pa).mono ?_
        rintro e w35 ⟨rfl,hp,ho⟩
        obtain ⟨b35,hb35⟩:=Vx ((s34).sees wLIMIT)
        rw [show (s34).sees (⟨#[76,73,77,73,84]⟩ : ByteArray).data.toList = b35 from hb35] at hp ⊢
        have HB:=Hd (HA.out.call ho hp)
        clear ho hp HA
        have HA:=HB
        have HBB:=Hd hb35
        clear HB hb35
        go_upto_if 79 with fail
        go_cut [] from 4 to 87 (fun wx => ∃ (m : List Int) (a10 : Option Addr) (c10 : Nat) (sN : PS),Au w P sN [(W1.heap.size,.cells (Vt 4 x9 j.2.1 (.slice a3 j.2.2.length c3) (.slice a4 x21.length c4) (.slice a5 l.2.length c5) l.1 Vn (.slice a8 g.length c8) (.slice a9 o.length c9) (.slice a10 m.length c10) 0 j.1) 27 (0,0)),(w.heap.size,.cells Vq 27 (0,0))] (fun W => (((((True ∧ XL W w.heap.size l.2 (.slice a5 l.2.length c5)) ∧ XL W w.heap.size j.2.2 (.slice a3 j.2.2.length c3)) ∧ XL W w.heap.size x21 (.slice a4 x21.length c4)) ∧ XL W w.heap.size g (.slice a8 g.length c8)) ∧ SoL W w.heap.size o (.slice a9 o.length c9)) ∧ IL W w.heap.size m (.slice a10 m.length c10)) wx ∧ (∀ r,retR ⟨4,x9,j.2.1,j.2.2,x21,l.2,l.1,[],g,o,m,0,j.1⟩ sN r → selR s r) ∧ sN.rest.length ≤ s.rest.length)
        case first =>
         cases b35 with
         | false =>
          rw [if_neg (by decide)] at HA
          have hS:=HBB.out
          replace HLN : Hid ((s34).rest.length ≤ s.rest.length):=Nat.le_trans (Nat.le_refl _) HLN.out
          replace HG:=Hd (then_not hS HG.out)
          go_wp2
          go_meet
          case rel => exact ⟨[],none,0,s34,HA.out.imp fun W h => ⟨h,IL.nil _ _⟩,fun r k => HG.out r (thenR_ok rfl k),HLN.out⟩
         | true =>
          rw [if_pos rfl] at HA
          have hS:=HBB.out
          replace HLN : Hid (((s34).next).rest.length ≤ s.rest.length):=Nat.le_trans (tail_le _) HLN.out
          replace HG:=Hd (then_yes hS HG.out)
          replace HG:=Hd (then_then HG.out)
          go_wp2_with fail
          refine (number_pp P ((s34).next) _ HA.out.pa).mono ?_
          rintro e w36 ⟨r,hr,ho,hm⟩
          cases r with
          | bad p =>
           have HV:=Hd (HG.out _ (thenR_bad hr))
           have HO:=Hd (HA.out.only.trans ho)
           rw [hm]
           clear hm hr ho
           go_wp2
           exact ⟨rfl,pp_bad HV.out HO.out⟩
          | ok x36 s36 =>
           obtain ⟨v,rfl,hx,hp,hl⟩:=hm
           have HB:=Hd (HA.out.call ho hp)
           have HG2:=Hd (fun r k => HG.out r (thenR_ok hr k))
           have HL2 : Hid (s36.rest.length ≤ s.rest.length):=Nat.le_trans hl HLN.out
           clear ho hp hl hr HA HG HLN
           have HA:=HB
           have HG:=HG2
           have HLN:=HL2
           clear HB HG2 HL2
           obtain ⟨⟨tk,tn,tt⟩,ta⟩:=x36
           rw [show v = .agg (Vk tk tn tt ta) from hx]
           clear hx
           have hfd:=fieldT1
           obtain ⟨W37,hW37,HA⟩:=HA.out.pushE #[Vi tn] 3
           have hlb : w.heap.size ≤ w36.heap.size:=(HA.out.has _ (List.mem_cons_self)).1
           replace HA:=Hd (HA.out.own (J:=fun W => (((((True ∧ XL W w.heap.size l.2 (.slice a5 l.2.length c5)) ∧ XL W w.heap.size j.2.2 (.slice a3 j.2.2.length c3)) ∧ XL W w.heap.size x21 (.slice a4 x21.length c4)) ∧ XL W w.heap.size g (.slice a8 g.length c8)) ∧ SoL W w.heap.size o (.slice a9 o.length c9)) ∧ IL W w.heap.size [tn] (.slice (some ⟨w36.heap.size,0,none⟩) 1 1)) fun W h hb => ⟨h,IL.one hb hlb⟩)
           clear hlb
           have zla:=thirt_of (HA.out.at 0 rfl)
           replace HA:=Hd (Au.puts 0 [.slice (some ⟨w36.heap.size,0,none⟩) 1 1] 10 HA.out rfl)
           simp only [putsA,Sa,Sb,Sc] at HA
           obtain ⟨W38,hW38⟩:=Vx (setsL W37 (W1.heap.size) 10 [.slice (some ⟨w36.heap.size,0,none⟩) 1 1])
           rw [hW38] at HA
           simp only [setsL] at hW38
           go_wp2
           clear hW37 hW38
           go_meet
           case rel => exact ⟨[tn],(some ⟨w36.heap.size,0,none⟩),1,s36,HA.out.imp fun W h => h,fun r k => HG.out r (thenR_ok rfl k),HLN.out⟩
        case rest =>
         clear HA HG HLN HBB
         obtain ⟨m,a10,c10,s9,hA,hG,hL⟩:=hcut
         have HA:=Hd hA
         have HG:=Hd hG
         have HLN:=Hd hL
         clear hA hG hL
         obtain ⟨s39,hs9⟩:=Vx s9
         rw [hs9] at HA HG HLN
         clear hs9
         obtain ⟨W39,hwc⟩:=Vx wc
         rw [hwc] at HA ⊢
         clear hwc
         have zd:=thirt_of (HA.out.at 0 rfl)
         have zr:=thirt_of (HA.out.at 1 rfl)
         have HV:=Hd (HG.out _ rfl)
         go_wp2
         have HD:=Hd (HA.out.fill 1 rfl [Vi 4,.string x9,.string j.2.1,.slice a3 j.2.2.length c3,.slice a4 x21.length c4,.slice a5 l.2.length c5,.bool l.1,Vn,.slice a8 g.length c8,.slice a9 o.length c9,.slice a10 m.length c10,Vi 0,Vi j.1] rfl)
         obtain ⟨W99,hW99⟩:=Vx (setsL W39 w.heap.size 0 [Vi 4,.string x9,.string j.2.1,.slice a3 j.2.2.length c3,.slice a4 x21.length c4,.slice a5 l.2.length c5,.bool l.1,Vn,.slice a8 g.length c8,.slice a9 o.length c9,.slice a10 m.length c10,Vi 0,Vi j.1])
         rw [hW99] at HD
         simp only [setsL,Nat.reduceAdd] at hW99
         rw [hW99]
         have zy:=(thirt_of (HD.out.at 1 rfl)).1
         clear hW99
         exact bodyPost_ret (v:=.agg (Vt 4 x9 j.2.1 (.slice a3 j.2.2.length c3) (.slice a4 x21.length c4) (.slice a5 l.2.length c5) l.1 Vn (.slice a8 g.length c8) (.slice a9 o.length c9) (.slice a10 m.length c10) 0 j.1)) (by simp [results,Tryz.results105,go_sem,zy]) rfl (pp_ok HV.out HD.out.only (show StV _ _ (⟨4,x9,j.2.1,j.2.2,x21,l.2,l.1,[],g,o,m,0,j.1⟩ : St) _ from ⟨a3,a4,a5,none,a8,a9,a10,c3,c4,c5,0,c8,c9,c10,rfl,⟨HD.out.inv.out.1.1.1.1.2,HD.out.inv.out.1.1.1.2,HD.out.inv.out.1.1.1.1.1.2,SeL.nil _ _,HD.out.inv.out.1.1.2,HD.out.inv.out.1.2,HD.out.inv.out.2⟩⟩) HD.out.pa HLN.out)
end Go.Proofs.YtbfjmccpcbhljaaGreatDoor
