/- A77 -/
import Derived.Test.YtbfjmccpcbhljaaGreatDoorTA76
set_option maxHeartbeats 8000000
set_option maxRecDepth 100000
namespace Go.Proofs.YtbfjmccpcbhljaaGreatDoor
open Go.RowKit
theorem statement_pp (P : Nat) (s : PS) (w : World) (h : PA w P s) : Calls Tryz.prog 69 #[.pointer (some ⟨P,0,none⟩)] w (PP stR StV P s w):=by
 have HA:=Hd (Au.start h)
 have hPw:=h.lt
 have HLN : Hid (s.rest.length ≤ s.rest.length):=Nat.le_refl _
 have HG : Hid (∀ r,stR s r → stR s r):=fun r k => k
 clear h
 go_enter Tryz.func69,Tryz.ntmps69
 obtain ⟨W1,hW1,HA⟩:=HA.out.pushE Vq 27
 obtain ⟨p0,hp0⟩:=Vx s.hd.2
 have HAT:=ath P hp0
 have HP0:=Hd hp0
 clear hp0
 go_wp2_with fail
 clear hW1
 refine (HAT.out _ HA.out.pa).mono ?_
 rintro e w' ⟨rfl,hw⟩
 replace hw:=hw.symm
 subst hw
 clear HAT
 replace HG : Hid (∀ r,(thenR (ifR wINSERT insR (ifR wUPDATE updR (ifR wDELETE delR (ifR wSELECT selR badR)))) fun t => retR { t with place:=(p0 : Int) }) s r → stR s r):=HP0.out ▸ HG.out
 obtain ⟨W2,hW2,HA⟩:=HA.out.pushE Vq 27
 go_wp2_with fail
 clear hW2
 refine (skip_any P (s) ⟨#[73,78,83,69,82,84]⟩ _ HA.out.pa).mono ?_
 rintro e w3 ⟨rfl,hp,ho⟩
 cases hS : (s).sees wINSERT with
 | true =>
  rw [show (s).sees (⟨#[73,78,83,69,82,84]⟩ : ByteArray).data.toList = true from hS] at hp ⊢
  rw [if_pos rfl] at hp
  have HB:=Hd (HA.out.call ho hp)
  have HG2:=Hd (then_yes hS HG.out)
  have HL2 : Hid ((s.next).rest.length ≤ s.rest.length):=Nat.le_trans (tail_le _) HLN.out
  have HS2 : Hid ((s.next).rest.length < s.rest.length):=Nat.lt_of_lt_of_le HA.out.pa.shorter HLN.out
  clear hp ho HA HLN HG
  have HA:=HB
  have HG:=HG2
  clear HG2
  have HLN:=HL2
  clear HB HL2 hS
  have HLS:=HS2
  clear HS2
  go_wp2_with fail
  refine (ins_pp P (s.next) _ HA.out.pa).mono ?_
  rintro e w4 ⟨r,hr,ho,hm⟩
  cases r with
  | bad p =>
   have HV:=Hd (HG.out _ (thenR_bad hr))
   have HO:=Hd (HA.out.only.trans ho)
   rw [hm]
   clear hm hr ho
   go_wp2
   exact ⟨rfl,pp_bad HV.out HO.out⟩
  | ok x4 s4 =>
   obtain ⟨v,rfl,⟨a0,a1,a2,a3,a4,a5,a6,c0,c1,c2,c3,c4,c5,c6,rfl,hx⟩,hp,hl⟩:=hm
   have HB:=Hd (HA.out.gain ho hp (fun W => StO W w.heap.size _ (.slice a0 x4.on.length c0) (.slice a1 x4.whr.length c1) (.slice a2 x4.items.length c2) (.slice a3 x4.sets.length c3) (.slice a4 x4.groups.length c4) (.slice a5 x4.sorts.length c5) (.slice a6 x4.limit.length c6)) fun _ hW => (hx.keep hW).mono HA.out.only.size)
   have HG2:=Hd (fun r k => HG.out r (thenR_ok hr k))
   have HL2 : Hid (s4.rest.length ≤ s.rest.length):=Nat.le_trans hl HLN.out
   have HS2 : Hid (s4.rest.length < s.rest.length):=Nat.lt_of_le_of_lt hl HLS.out
   clear ho hp hl hr HA HG HLN hx HLS
   have HA:=HB
   have HG:=HG2
   have HLN:=HL2
   clear HB HG2 HL2
   have HLS:=HS2
   clear HS2
   simp only [stC]
   have zv:=thirt_of (HA.out.at 0 rfl)
   replace HA:=Hd (Au.puts 0 [Vi x4.kind,.string x4.table,.string x4.join,.slice a0 x4.on.length c0,.slice a1 x4.whr.length c1,.slice a2 x4.items.length c2,.bool x4.star,.slice a3 x4.sets.length c3,.slice a4 x4.groups.length c4,.slice a5 x4.sorts.length c5,.slice a6 x4.limit.length c6,Vi x4.place,Vi x4.joinAt] 0 HA.out rfl)
   simp only [putsA,Nat.reduceAdd,Sa,Sb,Sc] at HA
   obtain ⟨W5,hW5⟩:=Vx (setsL w4 (W1.heap.size) 0 [Vi x4.kind,.string x4.table,.string x4.join,.slice a0 x4.on.length c0,.slice a1 x4.whr.length c1,.slice a2 x4.items.length c2,.bool x4.star,.slice a3 x4.sets.length c3,.slice a4 x4.groups.length c4,.slice a5 x4.sorts.length c5,.slice a6 x4.limit.length c6,Vi x4.place,Vi x4.joinAt])
   rw [hW5] at HA
   simp only [setsL,Nat.reduceAdd] at hW5
   have zu:=thirt_of (HA.out.at 0 rfl)
   replace HA:=Hd (Au.puts 0 [Vi (p0 : Int)] 11 HA.out rfl)
   simp only [putsA,Sa,Sb,Sc] at HA
   obtain ⟨W6,hW6⟩:=Vx (setsL W5 (W1.heap.size) 11 [Vi (p0 : Int)])
   rw [hW6] at HA
   simp only [setsL] at hW6
   have zd:=thirt_of (HA.out.at 0 rfl)
   have zr:=thirt_of (HA.out.at 1 rfl)
   have HST:=Hd HA.out.inv
   clear HST
   have HV:=Hd (HG.out _ rfl)
   go_wp2
   clear hW5 hW6
   have HD:=Hd (HA.out.fill 1 rfl [Vi x4.kind,.string x4.table,.string x4.join,.slice a0 x4.on.length c0,.slice a1 x4.whr.length c1,.slice a2 x4.items.length c2,.bool x4.star,.slice a3 x4.sets.length c3,.slice a4 x4.groups.length c4,.slice a5 x4.sorts.length c5,.slice a6 x4.limit.length c6,Vi (p0 : Int),Vi x4.joinAt] rfl)
   obtain ⟨W99,hW99⟩:=Vx (setsL W6 w.heap.size 0 [Vi x4.kind,.string x4.table,.string x4.join,.slice a0 x4.on.length c0,.slice a1 x4.whr.length c1,.slice a2 x4.items.length c2,.bool x4.star,.slice a3 x4.sets.length c3,.slice a4 x4.groups.length c4,.slice a5 x4.sorts.length c5,.slice a6 x4.limit.length c6,Vi (p0 : Int),Vi x4.joinAt])
   rw [hW99] at HD
   simp only [setsL,Nat.reduceAdd] at hW99
   rw [hW99]
   have zy:=(thirt_of (HD.out.at 1 rfl)).1
   clear hW99
   exact bodyPost_ret (v:=.agg (Vt x4.kind x4.table x4.join (.slice a0 x4.on.length c0) (.slice a1 x4.whr.length c1) (.slice a2 x4.items.length c2) x4.star (.slice a3 x4.sets.length c3) (.slice a4 x4.groups.length c4) (.slice a5 x4.sorts.length c5) (.slice a6 x4.limit.length c6) p0 x4.joinAt)) (by simp [results,Tryz.results69,go_sem,zy]) rfl (pp_ok HV.out HD.out.only (show StV _ _ ({ x4 with place:=(p0 : Int) } : St) _ from ⟨a0,a1,a2,a3,a4,a5,a6,c0,c1,c2,c3,c4,c5,c6,rfl,⟨HD.out.inv.out.2.on,HD.out.inv.out.2.whr,HD.out.inv.out.2.items,HD.out.inv.out.2.sets,HD.out.inv.out.2.groups,HD.out.inv.out.2.sorts,HD.out.inv.out.2.limit⟩⟩) HD.out.pa HLN.out)
 | false =>
  rw [show (s).sees (⟨#[73,78,83,69,82,84]⟩ : ByteArray).data.toList = false from hS] at hp ⊢
  rw [if_neg (by decide)] at hp
  have HB:=Hd (HA.out.call ho hp)
  have HG2:=Hd (then_not hS HG.out)
  have HL2 : Hid ((s).rest.length ≤ s.rest.length):=Nat.le_trans (Nat.le_refl _) HLN.out
  clear hp ho HA HLN HG
  have HA:=HB
  have HG:=HG2
  clear HG2
  have HLN:=HL2
  clear HB HL2 hS
  go_wp2_with fail
  refine (skip_any P (s) ⟨#[85,80,68,65,84,69]⟩ _ HA.out.pa).mono ?_
  rintro e w7 ⟨rfl,hp,ho⟩
  cases hS : (s).sees wUPDATE with
  | true =>
   rw [show (s).sees (⟨#[85,80,68,65,84,69]⟩ : ByteArray).data.toList = true from hS] at hp ⊢
   rw [if_pos rfl] at hp
   have HB:=Hd (HA.out.call ho hp)
   have HG2:=Hd (then_yes hS HG.out)
   have HL2 : Hid ((s.next).rest.length ≤ s.rest.length):=Nat.le_trans (tail_le _) HLN.out
   have HS2 : Hid ((s.next).rest.length < s.rest.length):=Nat.lt_of_lt_of_le HA.out.pa.shorter HLN.out
   clear hp ho HA HLN HG
   have HA:=HB
   have HG:=HG2
   clear HG2
   have HLN:=HL2
   clear HB HL2 hS
   have HLS:=HS2
   clear HS2
   go_wp2_with fail
   refine (upd_pp P (s.next) _ HA.out.pa).mono ?_
   rintro e w8 ⟨r,hr,ho,hm⟩
   cases r with
   | bad p =>
    have HV:=Hd (HG.out _ (thenR_bad hr))
    have HO:=Hd (HA.out.only.trans ho)
    rw [hm]
    clear hm hr ho
    go_wp2
    exact ⟨rfl,pp_bad HV.out HO.out⟩
   | ok x8 s8 =>
    obtain ⟨v,rfl,⟨a0,a1,a2,a3,a4,a5,a6,c0,c1,c2,c3,c4,c5,c6,rfl,hx⟩,hp,hl⟩:=hm
    have HB:=Hd (HA.out.gain ho hp (fun W => StO W w.heap.size _ (.slice a0 x8.on.length c0) (.slice a1 x8.whr.length c1) (.slice a2 x8.items.length c2) (.slice a3 x8.sets.length c3) (.slice a4 x8.groups.length c4) (.slice a5 x8.sorts.length c5) (.slice a6 x8.limit.length c6)) fun _ hW => (hx.keep hW).mono HA.out.only.size)
    have HG2:=Hd (fun r k => HG.out r (thenR_ok hr k))
    have HL2 : Hid (s8.rest.length ≤ s.rest.length):=Nat.le_trans hl HLN.out
    have HS2 : Hid (s8.rest.length < s.rest.length):=Nat.lt_of_le_of_lt hl HLS.out
    clear ho hp hl hr HA HG HLN hx HLS
    have HA:=HB
    have HG:=HG2
    have HLN:=HL2
    clear HB HG2 HL2
    have HLS:=HS2
    clear HS2
    simp only [stC]
    have zv:=thirt_of (HA.out.at 0 rfl)
    replace HA:=Hd (Au.puts 0 [Vi x8.kind,.string x8.table,.string x8.join,.slice a0 x8.on.length c0,.slice a1 x8.whr.length c1,.slice a2 x8.items.length c2,.bool x8.star,.slice a3 x8.sets.length c3,.slice a4 x8.groups.length c4,.slice a5 x8.sorts.length c5,.slice a6 x8.limit.length c6,Vi x8.place,Vi x8.joinAt] 0 HA.out rfl)
    simp only [putsA,Nat.reduceAdd,Sa,Sb,Sc] at HA
    obtain ⟨W9,hW9⟩:=Vx (setsL w8 (W1.heap.size) 0 [Vi x8.kind,.string x8.table,.string x8.join,.slice a0 x8.on.length c0,.slice a1 x8.whr.length c1,.slice a2 x8.items.length c2,.bool x8.star,.slice a3 x8.sets.length c3,.slice a4 x8.groups.length c4,.slice a5 x8.sorts.length c5,.slice a6 x8.limit.length c6,Vi x8.place,Vi x8.joinAt])
    rw [hW9] at HA
    simp only [setsL,Nat.reduceAdd] at hW9
    have zu:=thirt_of (HA.out.at 0 rfl)
    replace HA:=Hd (Au.puts 0 [Vi (p0 : Int)] 11 HA.out rfl)
    simp only [putsA,Sa,Sb,Sc] at HA
    obtain ⟨W10,hW10⟩:=Vx (setsL W9 (W1.heap.size) 11 [Vi (p0 : Int)])
    rw [hW10] at HA
    simp only [setsL] at hW10
    have zd:=thirt_of (HA.out.at 0 rfl)
    have zr:=thirt_of (HA.out.at 1 rfl)
    have HST:=Hd HA.out.inv
    clear HST
    have HV:=Hd (HG.out _ rfl)
    go_wp2
    clear hW9 hW10
    have HD:=Hd (HA.out.fill 1 rfl [Vi x8.kind,.string x8.table,.string x8.join,.slice a0 x8.on.length c0,.slice a1 x8.whr.length c1,.slice a2 x8.items.length c2,.bool x8.star,.slice a3 x8.sets.length c3,.slice a4 x8.groups.length c4,.slice a5 x8.sorts.length c5,.slice a6 x8.limit.length c6,Vi (p0 : Int),Vi x8.joinAt] rfl)
    obtain ⟨W99,hW99⟩:=Vx (setsL W10 w.heap.size 0 [Vi x8.kind,.string x8.table,.string x8.join,.slice a0 x8.on.length c0,.slice a1 x8.whr.length c1,.slice a2 x8.items.length c2,.bool x8.star,.slice a3 x8.sets.length c3,.slice a4 x8.groups.length c4,.slice a5 x8.sorts.length c5,.slice a6 x8.limit.length c6,Vi (p0 : Int),Vi x8.joinAt])
    rw [hW99] at HD
    simp only [setsL,Nat.reduceAdd] at hW99
    rw [hW99]
    have zy:=(thirt_of (HD.out.at 1 rfl)).1
    clear hW99
    exact bodyPost_ret (v:=.agg (Vt x8.kind x8.table x8.join (.slice a0 x8.on.length c0) (.slice a1 x8.whr.length c1) (.slice a2 x8.items.length c2) x8.star (.slice a3 x8.sets.length c3) (.slice a4 x8.groups.length c4) (.slice a5 x8.sorts.length c5) (.slice a6 x8.limit.length c6) p0 x8.joinAt)) (by simp [results,Tryz.results69,go_sem,zy]) rfl (pp_ok HV.out HD.out.only (show StV _ _ ({ x8 with place:=(p0 : Int) } : St) _ from ⟨a0,a1,a2,a3,a4,a5,a6,c0,c1,c2,c3,c4,c5,c6,rfl,⟨HD.out.inv.out.2.on,HD.out.inv.out.2.whr,HD.out.inv.out.2.items,HD.out.inv.out.2.sets,HD.out.inv.out.2.groups,HD.out.inv.out.2.sorts,HD.out.inv.out.2.limit⟩⟩) HD.out.pa HLN.out)
  | false =>
   rw [show (s).sees (⟨#[85,80,68,65,84,69]⟩ : ByteArray).data.toList = false from hS] at hp ⊢
   rw [if_neg (by decide)] at hp
   have HB:=Hd (HA.out.call ho hp)
   have HG2:=Hd (then_not hS HG.out)
   have HL2 : Hid ((s).rest.length ≤ s.rest.length):=Nat.le_trans (Nat.le_refl _) HLN.out
   clear hp ho HA HLN HG
   have HA:=HB
   have HG:=HG2
   clear HG2
   have HLN:=HL2
   clear HB HL2 hS
   go_wp2_with fail
   refine (skip_any P (s) ⟨#[68,69,76,69,84,69]⟩ _ HA.out.pa).mono ?_
   rintro e w11 ⟨rfl,hp,ho⟩
   cases hS : (s).sees wDELETE with
   | true =>
    rw [show (s).sees (⟨#[68,69,76,69,84,69]⟩ : ByteArray).data.toList = true from hS] at hp ⊢
    rw [if_pos rfl] at hp
    have HB:=Hd (HA.out.call ho hp)
    have HG2:=Hd (then_yes hS HG.out)
    have HL2 : Hid ((s.next).rest.length ≤ s.rest.length):=Nat.le_trans (tail_le _) HLN.out
    have HS2 : Hid ((s.next).rest.length < s.rest.length):=Nat.lt_of_lt_of_le HA.out.pa.shorter HLN.out
    clear hp ho HA HLN HG
    have HA:=HB
    have HG:=HG2
    clear HG2
    have HLN:=HL2
    clear HB HL2 hS
    have HLS:=HS2
    clear HS2
    go_wp2_with fail
    refine (del_pp P (s.next) _ HA.out.pa).mono ?_
    rintro e w12 ⟨r,hr,ho,hm⟩
    cases r with
    | bad p =>
     have HV:=Hd (HG.out _ (thenR_bad hr))
     have HO:=Hd (HA.out.only.trans ho)
     rw [hm]
     clear hm hr ho
     go_wp2
     exact ⟨rfl,pp_bad HV.out HO.out⟩
    | ok x12 s12 =>
     obtain ⟨v,rfl,⟨a0,a1,a2,a3,a4,a5,a6,c0,c1,c2,c3,c4,c5,c6,rfl,hx⟩,hp,hl⟩:=hm
     have HB:=Hd (HA.out.gain ho hp (fun W => StO W w.heap.size _ (.slice a0 x12.on.length c0) (.slice a1 x12.whr.length c1) (.slice a2 x12.items.length c2) (.slice a3 x12.sets.length c3) (.slice a4 x12.groups.length c4) (.slice a5 x12.sorts.length c5) (.slice a6 x12.limit.length c6)) fun _ hW => (hx.keep hW).mono HA.out.only.size)
     have HG2:=Hd (fun r k => HG.out r (thenR_ok hr k))
     have HL2 : Hid (s12.rest.length ≤ s.rest.length):=Nat.le_trans hl HLN.out
     have HS2 : Hid (s12.rest.length < s.rest.length):=Nat.lt_of_le_of_lt hl HLS.out
     clear ho hp hl hr HA HG HLN hx HLS
     have HA:=HB
     have HG:=HG2
     have HLN:=HL2
     clear HB HG2 HL2
     have HLS:=HS2
     clear HS2
     simp only [stC]
     have zv:=thirt_of (HA.out.at 0 rfl)
     replace HA:=Hd (Au.puts 0 [Vi x12.kind,.string x12.table,.string x12.join,.slice a0 x12.on.length c0,.slice a1 x12.whr.length c1,.slice a2 x12.items.length c2,.bool x12.star,.slice a3 x12.sets.length c3,.slice a4 x12.groups.length c4,.slice a5 x12.sorts.length c5,.slice a6 x12.limit.length c6,Vi x12.place,Vi x12.joinAt] 0 HA.out rfl)
     simp only [putsA,Nat.reduceAdd,Sa,Sb,Sc] at HA
     obtain ⟨W13,hW13⟩:=Vx (setsL w12 (W1.heap.size) 0 [Vi x12.kind,.string x12.table,.string x12.join,.slice a0 x12.on.length c0,.slice a1 x12.whr.length c1,.slice a2 x12.items.length c2,.bool x12.star,.slice a3 x12.sets.length c3,.slice a4 x12.groups.length c4,.slice a5 x12.sorts.length c5,.slice a6 x12.limit.length c6,Vi x12.place,Vi x12.joinAt])
     rw [hW13] at HA
     simp only [setsL,Nat.reduceAdd] at hW13
     have zu:=thirt_of (HA.out.at 0 rfl)
     replace HA:=Hd (Au.puts 0 [Vi (p0 : Int)] 11 HA.out rfl)
     simp only [putsA,Sa,Sb,Sc] at HA
     obtain ⟨W14,hW14⟩:=Vx (setsL W13 (W1.heap.size) 11 [Vi (p0 : Int)])
     rw [hW14] at HA
     simp only [setsL] at hW14
     have zd:=thirt_of (HA.out.at 0 rfl)
     have zr:=thirt_of (HA.out.at 1 rfl)
     have HST:=Hd HA.out.inv
     clear HST
     have HV:=Hd (HG.out _ rfl)
     go_wp2
     clear hW13 hW14
     have HD:=Hd (HA.out.fill 1 rfl [Vi x12.kind,.string x12.table,.string x12.join,.slice a0 x12.on.length c0,.slice a1 x12.whr.length c1,.slice a2 x12.items.length c2,.bool x12.star,.slice a3 x12.sets.length c3,.slice a4 x12.groups.length c4,.slice a5 x12.sorts.length c5,.slice a6 x12.limit.length c6,Vi (p0 : Int),Vi x12.joinAt] rfl)
     obtain ⟨W99,hW99⟩:=Vx (setsL W14 w.heap.size 0 [Vi x12.kind,.string x12.table,.string x12.join,.slice a0 x12.on.length c0,.slice a1 x12.whr.length c1,.slice a2 x12.items.length c2,.bool x12.star,.slice a3 x12.sets.length c3,.slice a4 x12.groups.length c4,.slice a5 x12.sorts.length c5,.slice a6 x12.limit.length c6,Vi (p0 : Int),Vi x12.joinAt])
     rw [hW99] at HD
     simp only [setsL,Nat.reduceAdd] at hW99
     rw [hW99]
     have zy:=(thirt_of (HD.out.at 1 rfl)).1
     clear hW99
     exact bodyPost_ret (v:=.agg (Vt x12.kind x12.table x12.join (.slice a0 x12.on.length c0) (.slice a1 x12.whr.length c1) (.slice a2 x12.items.length c2) x12.star (.slice a3 x12.sets.length c3) (.slice a4 x12.groups.length c4) (.slice a5 x12.sorts.length c5) (.slice a6 x12.limit.length c6) p0 x12.joinAt)) (by simp [results,Tryz.results69,go_sem,zy]) rfl (pp_ok HV.out HD.out.only (show StV _ _ ({ x12 with place:=(p0 : Int) } : St) _ from ⟨a0,a1,a2,a3,a4,a5,a6,c0,c1,c2,c3,c4,c5,c6,rfl,⟨HD.out.inv.out.2.on,HD.out.inv.out.2.whr,HD.out.inv.out.2.items,HD.out.inv.out.2.sets,HD.out.inv.out.2.groups,HD.out.inv.out.2.sorts,HD.out.inv.out.2.limit⟩⟩) HD.out.pa HLN.out)
   | false =>
    rw [show (s).sees (⟨#[68,69,76,69,84,69]⟩ : ByteArray).data.toList = false from hS] at hp ⊢
    rw [if_neg (by decide)] at hp
    have HB:=Hd (HA.out.call ho hp)
    have HG2:=Hd (then_not hS HG.out)
    have HL2 : Hid ((s).rest.length ≤ s.rest.length):=Nat.le_trans (Nat.le_refl _) HLN.out
    clear hp ho HA HLN HG
    have HA:=HB
    have HG:=HG2
    clear HG2
    have HLN:=HL2
    clear HB HL2 hS
    go_wp2_with fail
    refine (skip_any P (s) ⟨#[83,69,76,69,67,84]⟩ _ HA.out.pa).mono ?_
    rintro e w15 ⟨rfl,hp,ho⟩
    cases hS : (s).sees wSELECT with
    | true =>
     rw [show (s).sees (⟨#[83,69,76,69,67,84]⟩ : ByteArray).data.toList = true from hS] at hp ⊢
     rw [if_pos rfl] at hp
     have HB:=Hd (HA.out.call ho hp)
     have HG2:=Hd (then_yes hS HG.out)
     have HL2 : Hid ((s.next).rest.length ≤ s.rest.length):=Nat.le_trans (tail_le _) HLN.out
     have HS2 : Hid ((s.next).rest.length < s.rest.length):=Nat.lt_of_lt_of_le HA.out.pa.shorter HLN.out
     clear hp ho HA HLN HG
     have HA:=HB
     have HG:=HG2
     clear HG2
     have HLN:=HL2
     clear HB HL2 hS
     have HLS:=HS2
     clear HS2
     go_wp2_with fail
     refine (sel_pp P (s.next) _ HA.out.pa).mono ?_
     rintro e w16 ⟨r,hr,ho,hm⟩
     cases r with
     | bad p =>
      have HV:=Hd (HG.out _ (thenR_bad hr))
      have HO:=Hd (HA.out.only.trans ho)
      rw [hm]
      clear hm hr ho
      go_wp2
      exact ⟨rfl,pp_bad HV.out HO.out⟩
     | ok x16 s16 =>
      obtain ⟨v,rfl,⟨a0,a1,a2,a3,a4,a5,a6,c0,c1,c2,c3,c4,c5,c6,rfl,hx⟩,hp,hl⟩:=hm
      have HB:=Hd (HA.out.gain ho hp (fun W => StO W w.heap.size _ (.slice a0 x16.on.length c0) (.slice a1 x16.whr.length c1) (.slice a2 x16.items.length c2) (.slice a3 x16.sets.length c3) (.slice a4 x16.groups.length c4) (.slice a5 x16.sorts.length c5) (.slice a6 x16.limit.length c6)) fun _ hW => (hx.keep hW).mono HA.out.only.size)
      have HG2:=Hd (fun r k => HG.out r (thenR_ok hr k))
      have HL2 : Hid (s16.rest.length ≤ s.rest.length):=Nat.le_trans hl HLN.out
      have HS2 : Hid (s16.rest.length < s.rest.length):=Nat.lt_of_le_of_lt hl HLS.out
      clear ho hp hl hr HA HG HLN hx HLS
      have HA:=HB
      have HG:=HG2
      have HLN:=HL2
      clear HB HG2 HL2
      have HLS:=HS2
      clear HS2
      simp only [stC]
      have zv:=thirt_of (HA.out.at 0 rfl)
      replace HA:=Hd (Au.puts 0 [Vi x16.kind,.string x16.table,.string x16.join,.slice a0 x16.on.length c0,.slice a1 x16.whr.length c1,.slice a2 x16.items.length c2,.bool x16.star,.slice a3 x16.sets.length c3,.slice a4 x16.groups.length c4,.slice a5 x16.sorts.length c5,.slice a6 x16.limit.length c6,Vi x16.place,Vi x16.joinAt] 0 HA.out rfl)
      simp only [putsA,Nat.reduceAdd,Sa,Sb,Sc] at HA
      obtain ⟨W17,hW17⟩:=Vx (setsL w16 (W1.heap.size) 0 [Vi x16.kind,.string x16.table,.string x16.join,.slice a0 x16.on.length c0,.slice a1 x16.whr.length c1,.slice a2 x16.items.length c2,.bool x16.star,.slice a3 x16.sets.length c3,.slice a4 x16.groups.length c4,.slice a5 x16.sorts.length c5,.slice a6 x16.limit.length c6,Vi x16.place,Vi x16.joinAt])
      rw [hW17] at HA
      simp only [setsL,Nat.reduceAdd] at hW17
      have zu:=thirt_of (HA.out.at 0 rfl)
      replace HA:=Hd (Au.puts 0 [Vi (p0 : Int)] 11 HA.out rfl)
      simp only [putsA,Sa,Sb,Sc] at HA
      obtain ⟨W18,hW18⟩:=Vx (setsL W17 (W1.heap.size) 11 [Vi (p0 : Int)])
      rw [hW18] at HA
      simp only [setsL] at hW18
      have zd:=thirt_of (HA.out.at 0 rfl)
      have zr:=thirt_of (HA.out.at 1 rfl)
      have HST:=Hd HA.out.inv
      clear HST
      have HV:=Hd (HG.out _ rfl)
      go_wp2
      clear hW17 hW18
      have HD:=Hd (HA.out.fill 1 rfl [Vi x16.kind,.string x16.table,.string x16.join,.slice a0 x16.on.length c0,.slice a1 x16.whr.length c1,.slice a2 x16.items.length c2,.bool x16.star,.slice a3 x16.sets.length c3,.slice a4 x16.groups.length c4,.slice a5 x16.sorts.length c5,.slice a6 x16.limit.length c6,Vi (p0 : Int),Vi x16.joinAt] rfl)
      obtain ⟨W99,hW99⟩:=Vx (setsL W18 w.heap.size 0 [Vi x16.kind,.string x16.table,.string x16.join,.slice a0 x16.on.length c0,.slice a1 x16.whr.length c1,.slice a2 x16.items.length c2,.bool x16.star,.slice a3 x16.sets.length c3,.slice a4 x16.groups.length c4,.slice a5 x16.sorts.length c5,.slice a6 x16.limit.length c6,Vi (p0 : Int),Vi x16.joinAt])
      rw [hW99] at HD
      simp only [setsL,Nat.reduceAdd] at hW99
      rw [hW99]
      have zy:=(thirt_of (HD.out.at 1 rfl)).1
      clear hW99
      exact bodyPost_ret (v:=.agg (Vt x16.kind x16.table x16.join (.slice a0 x16.on.length c0) (.slice a1 x16.whr.length c1) (.slice a2 x16.items.length c2) x16.star (.slice a3 x16.sets.length c3) (.slice a4 x16.groups.length c4) (.slice a5 x16.sorts.length c5) (.slice a6 x16.limit.length c6) p0 x16.joinAt)) (by simp [results,Tryz.results69,go_sem,zy]) rfl (pp_ok HV.out HD.out.only (show StV _ _ ({ x16 with place:=(p0 : Int) } : St) _ from ⟨a0,a1,a2,a3,a4,a5,a6,c0,c1,c2,c3,c4,c5,c6,rfl,⟨HD.out.inv.out.2.on,HD.out.inv.out.2.whr,HD.out.inv.out.2.items,HD.out.inv.out.2.sets,HD.out.inv.out.2.groups,HD.out.inv.out.2.sorts,HD.out.inv.out.2.limit⟩⟩) HD.out.pa HLN.out)
    | false =>
     rw [show (s).sees (⟨#[83,69,76,69,67,84]⟩ : ByteArray).data.toList = false from hS] at hp ⊢
     rw [if_neg (by decide)] at hp
     have HB:=Hd (HA.out.call ho hp)
     have HG2:=Hd (then_not hS HG.out)
     have HL2 : Hid ((s).rest.length ≤ s.rest.length):=Nat.le_trans (Nat.le_refl _) HLN.out
     clear hp ho HA HLN HG
     have HA:=HB
     have HG:=HG2
     clear HG2
     have HLN:=HL2
     clear HB HL2 hS
     go_wp2_with fail
     refine (giveUp_any P (s) _ HA.out.pa).mono ?_
     rintro e w' ⟨rfl,hw⟩
     replace hw:=hw.symm
     subst hw
     have HV:=Hd (HG.out _ (thenR_bad rfl))
     go_wp2
     exact ⟨rfl,pp_bad HV.out HA.out.only⟩
end Go.Proofs.YtbfjmccpcbhljaaGreatDoor
