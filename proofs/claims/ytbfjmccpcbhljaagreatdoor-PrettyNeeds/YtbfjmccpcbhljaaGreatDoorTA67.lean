/- A67 -/
import Derived.Test.YtbfjmccpcbhljaaGreatDoorTA47
import Derived.RegionDies
set_option maxHeartbeats 16000000
set_option maxRecDepth 100000
namespace Go.Proofs.YtbfjmccpcbhljaaGreatDoor
open Go.RowKit
theorem SgnP.six {w : World} {P b : Nat} {x1 x2 x3 x4 x5 x6 : ByteArray} {i1 i2 i3 i4 i5 i6 : Int} {t : TypeId} (h : w.heap[b]? = some (.cells #[.string x1,Vi i1,.string x2,Vi i2,.string x3,Vi i3,.string x4,Vi i4,.string x5,Vi i5,.string x6,Vi i6] t (0,0))) (hb : P < b) : SgnP w P (some ⟨b,0,none⟩) [(x1,i1),(x2,i2),(x3,i3),(x4,i4),(x5,i5),(x6,i6)]:=by
 intro n hn
 match n,hn with
 | 0,_ => exact ⟨b,0,rfl,hb,by simp [World.cell?,h],by simp [World.cell?,h]⟩
 | 1,_ => exact ⟨b,0,rfl,hb,by simp [World.cell?,h],by simp [World.cell?,h]⟩
 | 2,_ => exact ⟨b,0,rfl,hb,by simp [World.cell?,h],by simp [World.cell?,h]⟩
 | 3,_ => exact ⟨b,0,rfl,hb,by simp [World.cell?,h],by simp [World.cell?,h]⟩
 | 4,_ => exact ⟨b,0,rfl,hb,by simp [World.cell?,h],by simp [World.cell?,h]⟩
 | 5,_ => exact ⟨b,0,rfl,hb,by simp [World.cell?,h],by simp [World.cell?,h]⟩

theorem test_any (P : Nat) (s : PS) (w : World) (h : PA w P s) (hI : Upto_ s.rest.length P 187 .sum) : Calls Tryz.prog 178 #[.pointer (some ⟨P,0,none⟩)] w (PXP .test P s w):=by
 have HP:=Hd h
 have hPw:=h.lt
 have HI:=Hd hI
 clear h hI
 go_enter Tryz.func178,Tryz.ntmps178
 have H0 : Hid (PA (w.alloc (.cells Vo 49)) P s):=HP.out.later ((Below.refl _ _).alloc (Nat.le_refl _) _)
 have O0 : Hid (Only (· = P) w (w.alloc (.cells Vo 49))):=(Only.refl _ _).alloc _
 have R0 : Hid ((w.alloc (.cells Vo 49)).heap[w.heap.size]? = some (.cells Vo 49 (0,0))):=heap_alloc_new w _
 have S0 : Hid ((w.alloc (.cells Vo 49)).heap.size = w.heap.size + 1):=Hd (by simp)
 obtain ⟨W0,hW0⟩:=Vx (w.alloc (.cells Vo 49))
 rw [hW0] at H0 O0 R0 S0
 go_wp2_with fail
 clear hW0
 refine (HI.out s _ (Nat.le_refl _) H0.out).mono ?_
 rintro e w1 ⟨r,hr,ho,hm⟩
 have R1:=Hd (ho.at R0.out (by omega))
 have O1:=Hd (O0.out.trans ho)
 have hsz : w.heap.size + 1 ≤ w1.heap.size:=by have h1:=ho.size; have h2:=S0.out; omega
 clear ho H0 R0 O0
 cases r with
 | bad p =>
  have HV : Hid (Pr .test s (.bad p)):=Pr.bad (fun n => by rw [pX]) hr
  rw [hm]
  clear hm hr
  go_wp2
  exact ⟨rfl,px_bad HV.out O1.out⟩
 | ok x s1 =>
  obtain ⟨a,m,c,rfl,hx,hp,hlt⟩:=hm
  rw [S0.out] at hx
  have HR:=Hd hr
  have HX:=Hd hx
  have H1:=Hd hp
  have HLT:=Hd hlt
  clear hx hp hlt hr S0
  obtain ⟨kk,oo,⟨v1,v2,v3⟩,tt,nn,ks,pp⟩:=x
  simp only [exV,exC]
  obtain ⟨p0,hp0⟩:=Vx s1.hd.2
  have HAT:=ath P hp0
  have HP0:=Hd hp0
  clear hp0
  go_wp2_with fail
  obtain ⟨WA,hWA⟩:=Vx (w1.alloc (.cells (Ve kk oo v1 v2 v3 tt nn (.slice a m c) pp) 49))
  rw [hWA]
  have HBA : Hid (Below w1.heap.size w1 WA):=hWA ▸ (Below.refl _ _).alloc (Nat.le_refl _) _
  have RA : Hid (WA.heap[w1.heap.size]? = some (.cells (Ve kk oo v1 v2 v3 tt nn (.slice a m c) pp) 49 (0,0))):=hWA ▸ heap_alloc_new w1 _
  clear hWA
  have HA:=Hd (H1.out.later HBA.out)
  have R1A:=Hd ((HBA.out.block _ (Gx R1.out)).trans R1.out)
  have OA:=Hd (O1.out.trans (Only.of HBA.out))
  have HXA:=Hd (HX.out.later HBA.out)
  clear H1 R1 O1 HX HBA
  refine (HAT.out _ HA.out).mono ?_
  rintro e w' ⟨rfl,rfl⟩
  clear HAT
  go_wp2_with fail
  refine (skip_any P s1 ⟨#[73,83]⟩ _ HA.out).mono ?_
  rintro e w2 ⟨rfl,hp,ho⟩
  have R2:=Hd (ho.at R1A.out (by omega))
  have RL2:=Hd (ho.at RA.out (by omega))
  have O2:=Hd (OA.out.trans ho)
  have HX2:=Hd (HXA.out.only ho (by omega))
  have hsw2 : w1.heap.size < w2.heap.size:=(Gx RL2.out)
  clear ho R1A RA OA HXA HA
  cases hS : s1.sees wIs with
  | true =>
   rw [show s1.sees (⟨#[73,83]⟩ : ByteArray).data.toList = true from hS] at hp ⊢
   rw [if_pos rfl] at hp
   have H2:=Hd hp
   have HG : Hid (∀ r,(let s2:=s1.next; let op : Int:=if s2.sees wNot = true then 1 else 0; let s3:=if s2.sees wNot = true then s2.next else s2; (if s3.sees wNull = true then some (Res.ok (over 7 op s1.hd.2 [(.mk kk oo (v1,v2,v3) tt nn ks pp)]) s3.next) else some (.bad s3.hd.2)) = some r) → Pr .test s r):=fun r h => Pr.bind (fun n => by rw [pX]) HR.out ⟨0,fun _ _ => by rw [if_pos hS]; exact h⟩
   rw [HP0.out] at HG
   clear hp hS HR
   go_wp2_with fail
   refine (skip_any P s1.next ⟨#[78,79,84]⟩ _ H2.out).mono ?_
   rintro e w3 ⟨rfl,hp,ho⟩
   have R3:=Hd (ho.at R2.out (by omega))
   have RL3:=Hd (ho.at RL2.out (by omega))
   have O3:=Hd (O2.out.trans ho)
   have HX3:=Hd (HX2.out.only ho (by omega))
   clear ho R2 RL2 O2 HX2 H2
   cases hN : s1.next.sees wNot with
   | true =>
    rw [show s1.next.sees (⟨#[78,79,84]⟩ : ByteArray).data.toList = true from hN] at hp ⊢
    rw [if_pos rfl] at hp
    have H3:=Hd hp
    have HG3 : Hid (∀ r,(if (s1.next.next).sees wNull = true then some (Res.ok (over 7 1 p0 [(.mk kk oo (v1,v2,v3) tt nn ks pp)]) (s1.next.next).next) else some (.bad (s1.next.next).hd.2)) = some r → Pr .test s r):=fun r h => HG.out r (by show (if (if s1.next.sees wNot = true then s1.next.next else s1.next).sees wNull = true then _ else _) = _; rw [hN]; exact h)
    clear hp hN HG
    go_wp2_with fail
    obtain ⟨WB,hWB⟩:=Vx (w3.alloc (.cells #[.string ⟨#[78,85,76,76]⟩] 9))
    rw [hWB]
    have HBB : Hid (Below w3.heap.size w3 WB):=hWB ▸ (Below.refl _ _).alloc (Nat.le_refl _) _
    have RS : Hid (WB.heap[w3.heap.size]? = some (.cells #[.string ⟨#[78,85,76,76]⟩] 9 (0,0))):=hWB ▸ heap_alloc_new w3 _
    clear hWB
    have H4:=Hd (H3.out.later HBB.out)
    have R4:=Hd ((HBB.out.block _ (Gx R3.out)).trans R3.out)
    have RL4:=Hd ((HBB.out.block _ (Gx RL3.out)).trans RL3.out)
    have O4:=Hd (O3.out.trans (Only.of HBB.out))
    have HX4:=Hd (HX3.out.later HBB.out)
    have hP3:=H3.out.lt
    clear H3 R3 RL3 O3 HX3 HBB
    refine (need_any P (s1.next.next) (some ⟨w3.heap.size,0,none⟩) [⟨#[78,85,76,76]⟩] 1 WB H4.out (StrsP.one RS.out (by omega)) (by decide)).mono ?_
    rintro e w5 ⟨ho,hm⟩
    have RL:=Hd (ho.at RL4.out (by omega))
    have R5:=Hd (ho.at R4.out (by omega))
    have O5:=Hd (O4.out.trans ho)
    have HX5:=Hd (HX4.out.only ho (by omega))
    have hs5 : w1.heap.size < w5.heap.size:=(Gx RL.out)
    clear ho RL4 R4 O4 H4 RS HX4
    have hU : needR [⟨#[78,85,76,76]⟩] (s1.next.next) = if (s1.next.next).sees wNull = true then .ok () (s1.next.next).next else .bad (s1.next.next).hd.2:=rfl
    cases hs : (s1.next.next).sees wNull with
    | false =>
     rw [hU,if_neg (by rw [hs]; simp)] at hm
     have HV : Hid (Pr .test s (.bad (s1.next.next).hd.2)):=HG3.out _ (by rw [if_neg (by rw [hs]; simp)])
     rw [hm]
     clear hm hU hs
     go_wp2
     exact ⟨rfl,px_bad HV.out O5.out⟩
    | true =>
     rw [hU,if_pos hs] at hm
     have HV : Hid (Pr .test s (.ok (over 7 1 p0 [(.mk kk oo (v1,v2,v3) tt nn ks pp)]) (s1.next.next).next)):=HG3.out _ (by rw [if_pos hs])
     obtain ⟨rfl,hp⟩:=hm
     have H5:=Hd hp
     clear hp hU hs
     have zl:=(nine_of RL.out).1
     go_wp2_with fail
     obtain ⟨WC,hWC⟩:=Vx (w5.alloc (.cells (Ve kk oo v1 v2 v3 tt nn (.slice a m c) pp) 49))
     rw [hWC]
     have HBC : Hid (Below w5.heap.size w5 WC):=hWC ▸ (Below.refl _ _).alloc (Nat.le_refl _) _
     have RC : Hid (WC.heap[w5.heap.size]? = some (.cells (Ve kk oo v1 v2 v3 tt nn (.slice a m c) pp) 49 (0,0))):=hWC ▸ heap_alloc_new w5 _
     clear hWC
     refine (over_any 7 1 p0 (some ⟨w5.heap.size,0,none⟩) 1 1 [(.mk kk oo (v1,v2,v3) tt nn ks pp)] _).mono ?_
     rintro e w6 ⟨rfl,hb⟩
     have RD:=Hd ((hb.block w5.heap.size (Gx RC.out)).trans RC.out)
     have HBD:=Hd (HBC.out.trans (hb.mono HBC.out.size))
     clear hb RC HBC
     have HH:=Hd (H5.out.later HBD.out)
     have RR:=Hd ((HBD.out.block w.heap.size (Gx R5.out)).trans R5.out)
     have OO:=Hd (O5.out.trans (Only.of HBD.out))
     have HX7 : Hid (XO w6 (w.heap.size + 1) (over 7 1 p0 [(.mk kk oo (v1,v2,v3) tt nn ks pp)]) (.slice (some ⟨w5.heap.size,0,none⟩) 1 1)):=XO.one HX5.out (fun g _ hl => HBD.out.block g hl) RD.out (by omega)
     clear H5 R5 O5 HX5
     simp only [over,exV,exC,v0]
     have zn:=nine_of RR.out
     go_wp2
     obtain ⟨W6,hW6⟩:=Vx (((((((((w6.setCell ⟨w.heap.size,0,none⟩ (Vi 7)).setCell ⟨w.heap.size,1,none⟩ (Vi 1)).setCell ⟨w.heap.size,2,none⟩ (Vi 0)).setCell ⟨w.heap.size,3,none⟩ (Vi 0)).setCell ⟨w.heap.size,4,none⟩ Vs).setCell ⟨w.heap.size,5,none⟩ Vs).setCell ⟨w.heap.size,6,none⟩ Vs).setCell ⟨w.heap.size,7,none⟩ (.slice (some ⟨w5.heap.size,0,none⟩) 1 1)).setCell ⟨w.heap.size,8,none⟩ (Vi (p0 : Int)))
     rw [hW6]
     have zy:=(nine_of (hW6 ▸ nine_set RR.out (Vi 7) (Vi 1) (Vi 0) (Vi 0) Vs Vs Vs (.slice (some ⟨w5.heap.size,0,none⟩) 1 1) (Vi (p0 : Int)))).1
     have HOO : Hid (Only (· = P) w W6):=hW6 ▸ OO.out.nine (Nat.le_refl _) (Vi 7) (Vi 1) (Vi 0) (Vi 0) Vs Vs Vs (.slice (some ⟨w5.heap.size,0,none⟩) 1 1) (Vi (p0 : Int))
     have HQ:=Hd (hW6 ▸ HH.out.nine hPw (Vi 7) (Vi 1) (Vi 0) (Vi 0) Vs Vs Vs (.slice (some ⟨w5.heap.size,0,none⟩) 1 1) (Vi (p0 : Int)) : PA W6 P _)
     have HX6 : Hid (XO W6 w.heap.size (over 7 1 p0 [(.mk kk oo (v1,v2,v3) tt nn ks pp)]) (.slice (some ⟨w5.heap.size,0,none⟩) 1 1)):=hW6 ▸ (HX7.out.nine (Nat.lt_succ_self _) (Vi 7) (Vi 1) (Vi 0) (Vi 0) Vs Vs Vs (.slice (some ⟨w5.heap.size,0,none⟩) 1 1) (Vi (p0 : Int))).mono (Nat.le_succ _)
     clear hW6
     exact bodyPost_ret (v:=exV (over 7 1 p0 [(.mk kk oo (v1,v2,v3) tt nn ks pp)]) (.slice (some ⟨w5.heap.size,0,none⟩) 1 1)) (by simp [results,Tryz.results178,go_sem,exV,exC,over,v0,zy]) rfl (px_ok HV.out HOO.out HX6.out HQ.out (Nat.lt_of_le_of_lt (tail_le _) (Nat.lt_of_le_of_lt (tail_le _) (Nat.lt_of_le_of_lt (tail_le _) HLT.out))))
   | false =>
    rw [show s1.next.sees (⟨#[78,79,84]⟩ : ByteArray).data.toList = false from hN] at hp ⊢
    rw [if_neg (by decide)] at hp
    have H3:=Hd hp
    have HG3 : Hid (∀ r,(if (s1.next).sees wNull = true then some (Res.ok (over 7 0 p0 [(.mk kk oo (v1,v2,v3) tt nn ks pp)]) (s1.next).next) else some (.bad (s1.next).hd.2)) = some r → Pr .test s r):=fun r h => HG.out r (by show (if (if s1.next.sees wNot = true then s1.next.next else s1.next).sees wNull = true then _ else _) = _; rw [hN]; exact h)
    clear hp hN HG
    go_wp2_with fail
    obtain ⟨WB,hWB⟩:=Vx (w3.alloc (.cells #[.string ⟨#[78,85,76,76]⟩] 9))
    rw [hWB]
    have HBB : Hid (Below w3.heap.size w3 WB):=hWB ▸ (Below.refl _ _).alloc (Nat.le_refl _) _
    have RS : Hid (WB.heap[w3.heap.size]? = some (.cells #[.string ⟨#[78,85,76,76]⟩] 9 (0,0))):=hWB ▸ heap_alloc_new w3 _
    clear hWB
    have H4:=Hd (H3.out.later HBB.out)
    have R4:=Hd ((HBB.out.block _ (Gx R3.out)).trans R3.out)
    have RL4:=Hd ((HBB.out.block _ (Gx RL3.out)).trans RL3.out)
    have O4:=Hd (O3.out.trans (Only.of HBB.out))
    have HX4:=Hd (HX3.out.later HBB.out)
    have hP3:=H3.out.lt
    clear H3 R3 RL3 O3 HX3 HBB
    refine (need_any P (s1.next) (some ⟨w3.heap.size,0,none⟩) [⟨#[78,85,76,76]⟩] 1 WB H4.out (StrsP.one RS.out (by omega)) (by decide)).mono ?_
    rintro e w5 ⟨ho,hm⟩
    have RL:=Hd (ho.at RL4.out (by omega))
    have R5:=Hd (ho.at R4.out (by omega))
    have O5:=Hd (O4.out.trans ho)
    have HX5:=Hd (HX4.out.only ho (by omega))
    have hs5 : w1.heap.size < w5.heap.size:=(Gx RL.out)
    clear ho RL4 R4 O4 H4 RS HX4
    have hU : needR [⟨#[78,85,76,76]⟩] (s1.next) = if (s1.next).sees wNull = true then .ok () (s1.next).next else .bad (s1.next).hd.2:=rfl
    cases hs : (s1.next).sees wNull with
    | false =>
     rw [hU,if_neg (by rw [hs]; simp)] at hm
     have HV : Hid (Pr .test s (.bad (s1.next).hd.2)):=HG3.out _ (by rw [if_neg (by rw [hs]; simp)])
     rw [hm]
     clear hm hU hs
     go_wp2
     exact ⟨rfl,px_bad HV.out O5.out⟩
    | true =>
     rw [hU,if_pos hs] at hm
     have HV : Hid (Pr .test s (.ok (over 7 0 p0 [(.mk kk oo (v1,v2,v3) tt nn ks pp)]) (s1.next).next)):=HG3.out _ (by rw [if_pos hs])
     obtain ⟨rfl,hp⟩:=hm
     have H5:=Hd hp
     clear hp hU hs
     have zl:=(nine_of RL.out).1
     go_wp2_with fail
     obtain ⟨WC,hWC⟩:=Vx (w5.alloc (.cells (Ve kk oo v1 v2 v3 tt nn (.slice a m c) pp) 49))
     rw [hWC]
     have HBC : Hid (Below w5.heap.size w5 WC):=hWC ▸ (Below.refl _ _).alloc (Nat.le_refl _) _
     have RC : Hid (WC.heap[w5.heap.size]? = some (.cells (Ve kk oo v1 v2 v3 tt nn (.slice a m c) pp) 49 (0,0))):=hWC ▸ heap_alloc_new w5 _
     clear hWC
     refine (over_any 7 0 p0 (some ⟨w5.heap.size,0,none⟩) 1 1 [(.mk kk oo (v1,v2,v3) tt nn ks pp)] _).mono ?_
     rintro e w6 ⟨rfl,hb⟩
     have RD:=Hd ((hb.block w5.heap.size (Gx RC.out)).trans RC.out)
     have HBD:=Hd (HBC.out.trans (hb.mono HBC.out.size))
     clear hb RC HBC
     have HH:=Hd (H5.out.later HBD.out)
     have RR:=Hd ((HBD.out.block w.heap.size (Gx R5.out)).trans R5.out)
     have OO:=Hd (O5.out.trans (Only.of HBD.out))
     have HX7 : Hid (XO w6 (w.heap.size + 1) (over 7 0 p0 [(.mk kk oo (v1,v2,v3) tt nn ks pp)]) (.slice (some ⟨w5.heap.size,0,none⟩) 1 1)):=XO.one HX5.out (fun g _ hl => HBD.out.block g hl) RD.out (by omega)
     clear H5 R5 O5 HX5
     simp only [over,exV,exC,v0]
     have zn:=nine_of RR.out
     go_wp2
     obtain ⟨W6,hW6⟩:=Vx (((((((((w6.setCell ⟨w.heap.size,0,none⟩ (Vi 7)).setCell ⟨w.heap.size,1,none⟩ (Vi 0)).setCell ⟨w.heap.size,2,none⟩ (Vi 0)).setCell ⟨w.heap.size,3,none⟩ (Vi 0)).setCell ⟨w.heap.size,4,none⟩ Vs).setCell ⟨w.heap.size,5,none⟩ Vs).setCell ⟨w.heap.size,6,none⟩ Vs).setCell ⟨w.heap.size,7,none⟩ (.slice (some ⟨w5.heap.size,0,none⟩) 1 1)).setCell ⟨w.heap.size,8,none⟩ (Vi (p0 : Int)))
     rw [hW6]
     have zy:=(nine_of (hW6 ▸ nine_set RR.out (Vi 7) (Vi 0) (Vi 0) (Vi 0) Vs Vs Vs (.slice (some ⟨w5.heap.size,0,none⟩) 1 1) (Vi (p0 : Int)))).1
     have HOO : Hid (Only (· = P) w W6):=hW6 ▸ OO.out.nine (Nat.le_refl _) (Vi 7) (Vi 0) (Vi 0) (Vi 0) Vs Vs Vs (.slice (some ⟨w5.heap.size,0,none⟩) 1 1) (Vi (p0 : Int))
     have HQ:=Hd (hW6 ▸ HH.out.nine hPw (Vi 7) (Vi 0) (Vi 0) (Vi 0) Vs Vs Vs (.slice (some ⟨w5.heap.size,0,none⟩) 1 1) (Vi (p0 : Int)) : PA W6 P _)
     have HX6 : Hid (XO W6 w.heap.size (over 7 0 p0 [(.mk kk oo (v1,v2,v3) tt nn ks pp)]) (.slice (some ⟨w5.heap.size,0,none⟩) 1 1)):=hW6 ▸ (HX7.out.nine (Nat.lt_succ_self _) (Vi 7) (Vi 0) (Vi 0) (Vi 0) Vs Vs Vs (.slice (some ⟨w5.heap.size,0,none⟩) 1 1) (Vi (p0 : Int))).mono (Nat.le_succ _)
     clear hW6
     exact bodyPost_ret (v:=exV (over 7 0 p0 [(.mk kk oo (v1,v2,v3) tt nn ks pp)]) (.slice (some ⟨w5.heap.size,0,none⟩) 1 1)) (by simp [results,Tryz.results178,go_sem,exV,exC,over,v0,zy]) rfl (px_ok HV.out HOO.out HX6.out HQ.out (Nat.lt_of_le_of_lt (tail_le _) (Nat.lt_of_le_of_lt (tail_le _) HLT.out)))
  | false =>
   rw [show s1.sees (⟨#[73,83]⟩ : ByteArray).data.toList = false from hS] at hp ⊢
   rw [if_neg (by decide)] at hp
   have H2:=Hd hp
   have HG : Hid (∀ r,(∃ k,∀ n,k ≤ n → (if opOf s1 cmpO = 0 then some (.ok (.mk kk oo (v1,v2,v3) tt nn ks pp) s1) else bindR (pX n .sum s1.next) fun r s2 => some (.ok (over 6 (opOf s1 cmpO) s1.hd.2 [(.mk kk oo (v1,v2,v3) tt nn ks pp),r]) s2)) = some r) → Pr .test s r):=fun r ⟨k,h⟩ => Pr.bind (fun n => by rw [pX]) HR.out ⟨k,fun n hn => by rw [if_neg (by rw [hS]; simp)]; exact h n hn⟩
   rw [HP0.out] at HG
   clear hp hS HR
   go_wp2_with fail
   obtain ⟨WB,hWB⟩:=Vx (w2.alloc (.cells #[.string ⟨#[61]⟩,Vi 1,.string ⟨#[60,62]⟩,Vi 2,.string ⟨#[60]⟩,Vi 3,.string ⟨#[60,61]⟩,Vi 4,.string ⟨#[62]⟩,Vi 5,.string ⟨#[62,61]⟩,Vi 6] 190))
   rw [hWB]
   have HBB : Hid (Below w2.heap.size w2 WB):=hWB ▸ (Below.refl _ _).alloc (Nat.le_refl _) _
   have RS : Hid (WB.heap[w2.heap.size]? = some (.cells #[.string ⟨#[61]⟩,Vi 1,.string ⟨#[60,62]⟩,Vi 2,.string ⟨#[60]⟩,Vi 3,.string ⟨#[60,61]⟩,Vi 4,.string ⟨#[62]⟩,Vi 5,.string ⟨#[62,61]⟩,Vi 6] 190 (0,0))):=hWB ▸ heap_alloc_new w2 _
   clear hWB
   have H4:=Hd (H2.out.later HBB.out)
   have R4:=Hd ((HBB.out.block _ (Gx R2.out)).trans R2.out)
   have RL4:=Hd ((HBB.out.block _ (Gx RL2.out)).trans RL2.out)
   have O4:=Hd (O2.out.trans (Only.of HBB.out))
   have HX4:=Hd (HX2.out.later HBB.out)
   have hP2:=H2.out.lt
   clear H2 R2 RL2 O2 HX2 HBB
   have hop:=operation_any P s1 (some ⟨w2.heap.size,0,none⟩) [(⟨#[61]⟩,1),(⟨#[60,62]⟩,2),(⟨#[60]⟩,3),(⟨#[60,61]⟩,4),(⟨#[62]⟩,5),(⟨#[62,61]⟩,6)] 6
   unfold OpP at hop
   rw [show sgl [(⟨#[61]⟩,1),(⟨#[60,62]⟩,2),(⟨#[60]⟩,3),(⟨#[60,61]⟩,4),(⟨#[62]⟩,5),(⟨#[62,61]⟩,6)] = cmpO from rfl] at hop
   refine (hop WB H4.out (SgnP.six RS.out (by omega)) (by decide) (by decide)).mono ?_
   rintro e w3 ⟨rfl,hp,ho⟩
   clear hop
   have R3:=Hd (ho.at R4.out (by omega))
   have RL3:=Hd (ho.at RL4.out (by omega))
   have O3:=Hd (O4.out.trans ho)
   have HX3:=Hd (HX4.out.only ho (by omega))
   have hsw3 : w1.heap.size < w3.heap.size:=(Gx RL3.out)
   clear ho R4 RL4 O4 HX4 H4 RS
   by_cases hz : opOf s1 cmpO = 0
   ·rw [hz] at hp ⊢
    rw [if_pos rfl] at hp
    have HH:=Hd hp
    have HV : Hid (Pr .test s (.ok (.mk kk oo (v1,v2,v3) tt nn ks pp) s1)):=HG.out _ ⟨0,fun n _ => by rw [if_pos hz]⟩
    clear hp hz
    have RR:=R3
    have OO:=O3
    have zn:=nine_of RR.out
    have zl:=(nine_of RL3.out).1
    go_wp2
    obtain ⟨W6,hW6⟩:=Vx (((((((((w3.setCell ⟨w.heap.size,0,none⟩ (Vi kk)).setCell ⟨w.heap.size,1,none⟩ (Vi oo)).setCell ⟨w.heap.size,2,none⟩ (Vi v1)).setCell ⟨w.heap.size,3,none⟩ (Vi v2)).setCell ⟨w.heap.size,4,none⟩ (.string v3)).setCell ⟨w.heap.size,5,none⟩ (.string tt)).setCell ⟨w.heap.size,6,none⟩ (.string nn)).setCell ⟨w.heap.size,7,none⟩ (.slice a m c)).setCell ⟨w.heap.size,8,none⟩ (Vi pp))
    rw [hW6]
    have zy:=(nine_of (hW6 ▸ nine_set RR.out (Vi kk) (Vi oo) (Vi v1) (Vi v2) (.string v3) (.string tt) (.string nn) (.slice a m c) (Vi pp))).1
    have HOO : Hid (Only (· = P) w W6):=hW6 ▸ OO.out.nine (Nat.le_refl _) (Vi kk) (Vi oo) (Vi v1) (Vi v2) (.string v3) (.string tt) (.string nn) (.slice a m c) (Vi pp)
    have HQ:=Hd (hW6 ▸ HH.out.nine hPw (Vi kk) (Vi oo) (Vi v1) (Vi v2) (.string v3) (.string tt) (.string nn) (.slice a m c) (Vi pp) : PA W6 P _)
    have HX6 : Hid (XO W6 w.heap.size (.mk kk oo (v1,v2,v3) tt nn ks pp) (.slice a m c)):=hW6 ▸ (HX3.out.nine (Nat.lt_succ_self _) (Vi kk) (Vi oo) (Vi v1) (Vi v2) (.string v3) (.string tt) (.string nn) (.slice a m c) (Vi pp)).mono (Nat.le_succ _)
    clear hW6
    exact bodyPost_ret (v:=exV (.mk kk oo (v1,v2,v3) tt nn ks pp) (.slice a m c)) (by simp [results,Tryz.results178,go_sem,exV,exC,zy]) rfl (px_ok HV.out HOO.out HX6.out HQ.out HLT.out)
   ·rw [if_neg hz] at hp
    have H3:=Hd hp
    have HSL : Hid (s1.next.rest.length < s1.rest.length):=Hd (by have h1:=hp.wf.ne; have h2 : s1.rest ≠ []:=fun e => h1 (by show s1.rest.tail = []; rw [e]; rfl); have h3:=List.length_pos_iff.2 h2; show s1.rest.tail.length < _; simp; omega)
    have HGB : Hid (∀ r,(∃ k,∀ n,k ≤ n → (bindR (pX n .sum s1.next) fun r s2 => some (.ok (over 6 (opOf s1 cmpO) p0 [(.mk kk oo (v1,v2,v3) tt nn ks pp),r]) s2)) = some r) → Pr .test s r):=fun r ⟨k,h⟩ => HG.out r ⟨k,fun n hn => by rw [if_neg hz]; exact h n hn⟩
    obtain ⟨z,hzz⟩:=Vx (opOf s1 cmpO)
    rw [hzz] at hz HGB ⊢
    have hze : (z == 0) = false:=by simpa using hz
    clear hp hz hzz HG
    have zn:=nine_of RL3.out
    go_wp2
    obtain ⟨r,hr⟩ : ∃ r,Pr .sum s1.next r:=by
     obtain ⟨e,w9,fr,⟨r,hr,_⟩,-⟩:=HI.out s1.next w3 (by have h1:=HLT.out; have h2:=HSL.out; omega) H3.out []
     exact ⟨r,hr⟩
    cases r with
    | bad p =>
     have HC : Hid (∀ W,PA W P s1.next → Calls Tryz.prog 187 #[.pointer (some ⟨P,0,none⟩)] W fun e w' => e = .panicked (wrongV 110 p) ∧ Only (· = P) W w'):=fun W hW => (HI.out s1.next W (by have h1:=HLT.out; have h2:=HSL.out; omega) hW).mono fun e w' ⟨r',hr',ho,hm⟩ => by
      obtain rfl:=Pr.one hr hr'
      exact ⟨hm,ho⟩
     have HV : Hid (Pr .test s (.bad p)):=HGB.out _ (by obtain ⟨k,hk⟩:=hr; exact ⟨k,fun n hn => bindR_bad (pX_le hn hk)⟩)
     clear hr
     go_region_dies
     all_goals (refine (HC.out _ (H3.out.later (below_draws _ _))).mono ?_; rintro e w4 ⟨rfl,ho⟩; exact ⟨rfl,px_bad HV.out (O3.out.trans ((Only.of (below_draws _ _)).trans ho))⟩)
    | ok y s2 =>
     have HC : Hid (∀ W,PA W P s1.next → Calls Tryz.prog 187 #[.pointer (some ⟨P,0,none⟩)] W fun e w' => ∃ a m c,e = .returned (exV y (.slice a m c)) ∧ XO w' W.heap.size y (.slice a m c) ∧ PA w' P s2 ∧ s2.rest.length < s1.next.rest.length ∧ Only (· = P) W w'):=fun W hW => (HI.out s1.next W (by have h1:=HLT.out; have h2:=HSL.out; omega) hW).mono fun e w' ⟨r',hr',ho,hm⟩ => by
      obtain rfl:=Pr.one hr hr'
      obtain ⟨a,m,c,e1,e2,e3,e4⟩:=hm
      exact ⟨a,m,c,e1,e2,e3,e4,ho⟩
     have HV : Hid (Pr .test s (.ok (over 6 z p0 [(.mk kk oo (v1,v2,v3) tt nn ks pp),y]) s2)):=HGB.out _ (by obtain ⟨k,hk⟩:=hr; exact ⟨k,fun n hn => bindR_ok (pX_le hn hk)⟩)
     clear hr
     obtain ⟨kk2,oo2,⟨u1,u2,u3⟩,tt2,nn2,ks2,pp2⟩:=y
     simp only [exV,exC] at HC
     go_region_law (first
      | (go_simp; go_at_call 187; refine (HC.out _ (H3.out.later (below_draws _ _))).mono ?_; rintro e w4 ⟨a2,m2,c2,rfl,hx,hp,hlt,ho⟩; have RL5:=Hd (ho.at (((below_draws _ _).block _ (Gx RL3.out)).trans RL3.out) (by omega)); have R5:=Hd (ho.at (((below_draws _ _).block _ (Gx R3.out)).trans R3.out) (by omega)); have HY:=Hd hx; have H5:=Hd hp; have HL5:=Hd hlt; have HO5:=Hd ((Only.of (below_draws _ _)).trans ho); clear hx hp hlt ho; obtain ⟨⟨b0,b1,b2,b3,b4,b5,b6,b7,b8⟩,-⟩:=nine_of RL5.out)
      | (go_simp; go_at_call 166; refine (over_any 6 z p0 _ 2 2 [(.mk kk oo (v1,v2,v3) tt nn ks pp),(.mk kk2 oo2 (u1,u2,u3) tt2 nn2 ks2 pp2)] _).mono ?_; rintro e w6 ⟨rfl,hb⟩; have HB4:=Hd hb; have RR:=Hd ((hb.block w.heap.size (by have:=(Gx R5.out); simp; omega)).trans ((alloc_off (Gx R5.out) _).trans R5.out)); clear hb; obtain ⟨⟨t0,t1,t2,t3,t4,t5,t6,t7,t8⟩,g0,g1,g2,g3,g4,g5,g6,g7,g8⟩:=nine_of RR.out; simp only [over,exV,exC,v0]))
     all_goals
      have HB5 : Hid (Below w4.heap.size w4 w6):=((Below.refl _ _).alloc (Nat.le_refl _) _).trans (HB4.out.mono (by simp))
      have RN : Hid (w6.heap[w4.heap.size]? = some (.cells (exC (.mk kk oo (v1,v2,v3) tt nn ks pp) (.slice a m c) ++ exC (.mk kk2 oo2 (u1,u2,u3) tt2 nn2 ks2 pp2) (.slice a2 m2 c2)).toArray 49 (0,0))):=(HB4.out.block _ (by simp)).trans (heap_alloc_new w4 _)
      have hs4 : w1.heap.size < w4.heap.size:=(Gx RL5.out)
      have HXX:=Hd ((HX3.out.only HO5.out (by omega)).later HB5.out)
      have HYY:=Hd ((HY.out.mono (B':=w.heap.size + 1) (Nat.le_trans (Nat.le_trans hsz (Nat.le_of_lt hsw3)) (below_draws _ _).size)).later HB5.out)
      have HH:=Hd (H5.out.later HB5.out)
      have OO:=Hd ((O3.out.trans HO5.out).trans (Only.of HB5.out))
      have HXZ : Hid (XO w6 (w.heap.size + 1) (over 6 z p0 [(.mk kk oo (v1,v2,v3) tt nn ks pp),(.mk kk2 oo2 (u1,u2,u3) tt2 nn2 ks2 pp2)]) (.slice (some ⟨w4.heap.size,0,none⟩) 2 2)):=XO.two HXX.out HYY.out RN.out (by omega)
      go_wp2
      obtain ⟨W6,hW6⟩:=Vx (((((((((w6.setCell ⟨w.heap.size,0,none⟩ (Vi 6)).setCell ⟨w.heap.size,1,none⟩ (Vi z)).setCell ⟨w.heap.size,2,none⟩ (Vi 0)).setCell ⟨w.heap.size,3,none⟩ (Vi 0)).setCell ⟨w.heap.size,4,none⟩ Vs).setCell ⟨w.heap.size,5,none⟩ Vs).setCell ⟨w.heap.size,6,none⟩ Vs).setCell ⟨w.heap.size,7,none⟩ (.slice (some ⟨w4.heap.size,0,none⟩) 2 2)).setCell ⟨w.heap.size,8,none⟩ (Vi (p0 : Int)))
      rw [hW6]
      have zy:=(nine_of (hW6 ▸ nine_set RR.out (Vi 6) (Vi z) (Vi 0) (Vi 0) Vs Vs Vs (.slice (some ⟨w4.heap.size,0,none⟩) 2 2) (Vi (p0 : Int)))).1
      have HOO : Hid (Only (· = P) w W6):=hW6 ▸ OO.out.nine (Nat.le_refl _) (Vi 6) (Vi z) (Vi 0) (Vi 0) Vs Vs Vs (.slice (some ⟨w4.heap.size,0,none⟩) 2 2) (Vi (p0 : Int))
      have HQ:=Hd (hW6 ▸ HH.out.nine hPw (Vi 6) (Vi z) (Vi 0) (Vi 0) Vs Vs Vs (.slice (some ⟨w4.heap.size,0,none⟩) 2 2) (Vi (p0 : Int)) : PA W6 P _)
      have HX6 : Hid (XO W6 w.heap.size (over 6 z p0 [(.mk kk oo (v1,v2,v3) tt nn ks pp),(.mk kk2 oo2 (u1,u2,u3) tt2 nn2 ks2 pp2)]) (.slice (some ⟨w4.heap.size,0,none⟩) 2 2)):=hW6 ▸ (HXZ.out.nine (Nat.lt_succ_self _) (Vi 6) (Vi z) (Vi 0) (Vi 0) Vs Vs Vs (.slice (some ⟨w4.heap.size,0,none⟩) 2 2) (Vi (p0 : Int))).mono (Nat.le_succ _)
      clear hW6
      exact bodyPost_ret (v:=exV (over 6 z p0 [(.mk kk oo (v1,v2,v3) tt nn ks pp),(.mk kk2 oo2 (u1,u2,u3) tt2 nn2 ks2 pp2)]) (.slice (some ⟨w4.heap.size,0,none⟩) 2 2)) (by simp [results,Tryz.results178,go_sem,exV,exC,over,v0,zy]) rfl (px_ok HV.out HOO.out HX6.out HQ.out (by have h1:=HLT.out; have h2:=HSL.out; have h3:=HL5.out; omega))
end Go.Proofs.YtbfjmccpcbhljaaGreatDoor
