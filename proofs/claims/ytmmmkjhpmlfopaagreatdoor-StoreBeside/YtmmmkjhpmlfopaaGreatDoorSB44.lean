/- O62 -/
import Derived.Test.YtmmmkjhpmlfopaaGreatDoorSB43
set_option maxHeartbeats 16000000
set_option maxRecDepth 100000
namespace Go.Proofs.YtmmmkjhpmlfopaaGreatDoor
open Go.RowKit
section
open Go.RowKit BB
theorem storeBeside_any (a0 : Option Addr) (c0 : Nat) (l : List PutV) (pn : Int) (w : World) (hrow : PutRow w a0 l) (hm : Env w w.heap.size) :
  Calls Tryz.prog 5 #[.slice a0 l.length c0,.int .i64 pn] w fun e w' => e = .returned (.bool true) ∧ Below w.heap.size w w':=by
 have HM:=Hd hm
 have HR:=Hd hrow
 have HAW:=Hd (awake9_any w hm)
 obtain ⟨n,hn⟩:=Vx l.length
 have HN:=Hd hn
 rw [hn]
 clear hm hrow hn
 go_enter Tryz.func5,Tryz.ntmps5
 by_cases h1 : (n : Int) > 2147483647
 ·go_wp2
  go_ret
  exact ⟨rfl,Bz⟩
 by_cases h2 : pn < 1
 ·go_wp2
  go_ret
  exact ⟨rfl,Bz⟩
 by_cases h3 : pn > 16
 ·go_wp2
  go_ret
  exact ⟨rfl,Bz⟩
 have HNB : Hid (n ≤ 2147483647):=Hd Om
 go_wp2_with fail
 refine HAW.out.mono ?_
 rintro e w1 ⟨rfl,hb1⟩
 have HB1:=Hd hb1
 clear hb1
 obtain ⟨W2,hW2,hb2,hct,k2⟩:=bc_mem w1
 have HW2:=Hd hW2
 have HB2:=Hbt HB1 hb2
 have HK2:=Hd k2
 have HCT:=Hd hct
 have HN1:=Hd (new9_any W2 bC _ hct bC_fits pn)
 clear hW2 hb2 hct k2
 go_wp2_with fail
 rw [HW2.out]
 refine HN1.out.mono ?_
 rintro e w3 ⟨hb3,hc | ⟨_,hc,_⟩ | ⟨P,s,T1,U1,tv1,L1,hP,rfl,hst1,hemp1⟩⟩
 ·exact absurd hc.1 (by rw [bC_right]; simp)
 ·omega
 obtain ⟨D1,hD1,rfl⟩:=one_tab hst1.defs.1 hemp1
 have HB3:=Hbt HB2 hb3
 have HS3:=Hd hst1
 have HN2:=Hd (new9_any w3 bC _ (TT.CtR.later hb3 _ _ HCT.out) bC_fits 1)
 have kc:=heap_of HK2.out hb3
 have q0 : w3.cell? ⟨w1.heap.size + 1 + 1 + 1 + 1 + 1,0,none⟩ = some (.slice (some ⟨w1.heap.size + 1 + 1 + 1 + 1,0,none⟩) 1 1):=cell_blk kc rfl
 have q1 : w3.cell? ⟨w1.heap.size + 1 + 1 + 1 + 1 + 1,1,none⟩ = some (.slice none 0 0):=cell_blk kc rfl
 clear hb3 hst1 hemp1 hP kc HN1
 go_wp2_with fail
 refine HN2.out.mono ?_
 rintro e w4 ⟨hb4,hc | ⟨_,hc,_⟩ | ⟨P2,t,T2,U2,tv2,L2,hP,rfl,hst2,hemp2⟩⟩
 ·exact absurd hc.1 (by rw [bC_right]; simp)
 ·omega
 obtain rfl : P2 = 1:=by omega
 obtain ⟨D2,hD2,rfl⟩:=one_tab hst2.defs.1 hemp2
 have HB4:=Hbt HB3 hb4
 have HS4:=Hd (Zai ((HS3.out.later hb4).mono HB2.out.size) (hst2.mono HB3.out.size))
 have HDI : Hid (Dis (SZ T1 U1 s tv1) (SZ T2 U2 t tv2)):=Hd fun q a b => by
  have h1:=HS3.out.lt q a
  have h2:=hst2.ge q b
  omega
 clear hb4 hst2 hemp2 hP q0 q1 HN2
 have HG1:=Hd (begin9_any w4 s bC P tv1 0 [(D1,[])] HS4.out.1)
 go_wp2_with fail
 refine HG1.out.mono ?_
 rintro e w5 ⟨rfl,hwk5,hb5,hs5⟩
 have HK5:=Hd hwk5
 have HB5:=Hd hb5
 have HZ5:=Hd hs5
 have HG2:=Hd (begin9_any w5 s bC P tv1 0 [(D1,[])] (HS4.out.1.later hb5))
 clear hwk5 hb5 hs5 HG1
 go_wp2_with fail
 refine HG2.out.mono ?_
 rintro e w6 ⟨rfl,hwk6,hb6,hs6⟩
 have HK6:=Hd hwk6
 have HB6:=Hd hb6
 have HZ6:=Hd hs6
 have HG3:=Hd (begin9_any w6 t bC 1 tv2 0 [(D2,[])] (HS4.out.2.later (below_call9 HB5.out hb6)))
 clear hwk6 hb6 hs6 HG2
 go_wp2_with fail
 refine HG3.out.mono ?_
 rintro e w7 ⟨rfl,hwk7,hb7,hs7⟩
 have hb57:=below_call9 HB6.out hb7
 have hb47:=below_call9 HB5.out hb57
 have HB7:=Hbt HB4 hb47
 have HDQ : Hid (Dq w7 w.heap.size P s t w4.heap.size w5.heap.size w6.heap.size tv1 tv2 D1 D2 U1 U2 T1 T2 (fun q => q = w4.heap.size) (fun q => q = w5.heap.size) (fun q => q = w6.heap.size) (.slice none 0 0) (.slice none 0 0) (.slice none 0 0) [] [] [] [] []):=Hd (by
  have e1:=HZ5.out
  have e2:=HZ6.out
  rw [e1] at e2
  have f2:=HK6.out
  have f3:=hwk7
  rw [e2] at f3
  rw [e1] at f2
  rw [e2,e1]
  exact Dq.begun (HS4.out.1.later hb47) (HS4.out.2.later hb47) HDI.out HB4.out.size HS4.out.1.lt HS4.out.2.lt (HK5.out.later hb57) (f2.later hb7) f3)
 clear hwk7 hb7 hs7 hb57 hb47 HG3 HK5 HK6 HB5 HB6 HZ5 HZ6 HS4 HS3 HDI
 go_wp2_with fail
 go_loopw [8,10,14] (fun _ _ q wr => ∃ (k : Nat) (T1 T2 A1 A2 A3 : Nat → Prop) (dv1 dv2 dv3 : Value) (S1 S2 S3 : List Strk) (r1 r2 : List Row3),k ≤ n ∧ q = .int .i64 (k : Int) ∧ Dq wr w.heap.size P s t w4.heap.size w5.heap.size w6.heap.size tv1 tv2 D1 D2 U1 U2 T1 T2 A1 A2 A3 dv1 dv2 dv3 S1 S2 S3 r1 r2 ∧ Rw S1 S2 S3 r1 r2 k ∧ Below w.heap.size w wr) (fun _ _ q _ => n - (intOf q).toNat)
 case atStart => exact ⟨0,_,_,_,_,_,_,_,_,_,_,_,_,_,Nat.zero_le _,rfl,HDQ.out,Rw.nil,HB7.out⟩
 case round =>
  obtain ⟨k,T1',T2',A1,A2,A3,dv1,dv2,dv3,S1,S2,S3,r1,r2,hk,rfl,hdq,hrw,hb⟩:=hrel
  have HDQ2:=Hd hdq
  have HRW:=Hd hrw
  have HB:=Hd hb
  clear hdq hrw
  by_cases hlt : k < n
  ·have hlti : (k : Int) < (n : Int):=by omega
   have hkl : k < l.length:=by rw [HN.out]; exact hlt
   obtain ⟨b0,o0,rfl,d0,d1,d2,d3⟩:=(HR.out.later hb) k hkl
   have HCL : Hid (∀ W,Below w.heap.size w W → W.cell? ⟨b0,o0 + k * 4,none⟩ = some (.bool (l[k]).sec) ∧ W.cell? ⟨b0,o0 + k * 4 + 1,none⟩ = some (.int .i64 (l[k]).key) ∧ W.cell? ⟨b0,o0 + k * 4 + 2,none⟩ = some (.int .i64 (l[k]).val) ∧ W.cell? ⟨b0,o0 + k * 4 + 3,none⟩ = some (.bool (l[k]).gone)):=Hd fun W hW => by
    obtain ⟨b',o',e,f⟩:=(HR.out.later hW) k hkl
    cases e
    exact f
   obtain ⟨x,hx⟩:=Vx (l[k])
   rw [hx] at d0 d1 d2 d3
   simp only [hx] at HCL
   clear hb hx hkl
   obtain ⟨sec,key,val,gone⟩:=x
   cases sec with
   | true =>
    have HP1:=Hd (puts9_any wr w5.heap.size s dv2 P tv1 D1 r1 S2 HDQ2.out.wb HDQ2.out.st1 (HM.out.later HB.out Zlr) Zlr HDQ2.out.a2 (by have:=HRW.out.few.1.len; omega) (by have:=HRW.out.strokes.2.1; have:=HNB.out; omega) ⟨true,key,val,gone⟩)
    go_wp2_with fail
    refine HP1.out.mono ?_
    rintro e wa ⟨rfl,out1,Ta,Aa,dva,ta,ba,hrep1,hsa,hwa,hpz⟩
    have HDQ3:=Hd (HDQ2.out.putB hpz hsa hwa)
    have HREP1:=Hd hrep1
    have HBa:=Hd (HB.out.trans (hpz.below HDQ2.out.st1 HDQ2.out.wb))
    obtain ⟨f0,f1,f2,f3⟩:=HCL.out wa HBa.out
    have HP2:=Hd (puts9_any wa w6.heap.size t dv3 1 tv2 D2 r2 S3 HDQ3.out.wx HDQ3.out.st2 (HM.out.later HBa.out Zlr) Zlr HDQ3.out.b3 (by have:=HRW.out.few.2.len; omega) (by have:=HRW.out.strokes.2.2; have:=HNB.out; omega) ⟨true,key,val,gone⟩)
    clear d0 d1 d2 d3 hrep1 hsa hwa hpz HP1
    go_wp2_with fail
    refine HP2.out.mono ?_
    rintro e wb ⟨rfl,out2,Tb,Ab,dvb,tb,bb,hrep2,hsb,hwb,hpz⟩
    have HDQ4:=Hd (HDQ3.out.putX hpz hsb hwb)
    have HBb:=Hd (HBa.out.trans (hpz.below HDQ3.out.st2 HDQ3.out.wx))
    have HRW2:=Hd (HRW.out.odd (kOf_odd rfl) (kOf_in _) HREP1.out hrep2 ⟨0,out1,keysL bT (innR ⟨true,key,val,gone⟩),ta,ba⟩ ⟨0,out2,keysL bT (innR ⟨true,key,val,gone⟩),tb,bb⟩)
    clear f0 f1 f2 f3 hrep2 hsb hwb hpz HP2
    go_wp2
    go_roundw
    case rel => exact ⟨k + 1,_,_,_,_,_,_,_,_,_,_,_,_,_,by omega,by go_num,HDQ4.out,HRW2.out,HBb.out⟩
    case measure => simp [intOf]; omega
   | false =>
    have HP1:=Hd (puts9_any wr w4.heap.size s dv1 P tv1 D1 r1 S1 HDQ2.out.wa HDQ2.out.st1 (HM.out.later HB.out Zlr) Zlr HDQ2.out.a1 (by have:=HRW.out.few.1.len; omega) (by have:=HRW.out.strokes.1; have:=HNB.out; omega) ⟨false,key,val,gone⟩)
    go_wp2_with fail
    refine HP1.out.mono ?_
    rintro e wa ⟨rfl,out1,Ta,Aa,dva,ta,ba,hrep1,hsa,hwa,hpz⟩
    have HDQ3:=Hd (HDQ2.out.putA hpz hsa hwa)
    have HBa:=Hd (HB.out.trans (hpz.below HDQ2.out.st1 HDQ2.out.wa))
    have HRW2:=Hd (HRW.out.even (by have:=(HDQ2.out.st1.tabs.ok 0 Si).1; rwa [show ([(D1,r1)] : TabL)[0].1.t = bT from dD HDQ2.out.st1] at this) (kOf_even rfl) (kOf_in _) hrep1 ta ba)
    clear d0 d1 d2 d3 hrep1 hsa hwa hpz HP1
    go_wp2
    go_roundw
    case rel => exact ⟨k + 1,_,_,_,_,_,_,_,_,_,_,_,_,_,by omega,by go_num,HDQ3.out,HRW2.out,HBa.out⟩
    case measure => simp [intOf]; omega
  ·have hlti : ¬ (k : Int) < (n : Int):=by omega
   obtain rfl : k = n:=by omega
   clear hb
   have HUN:=Hd (beside_undo HDQ2.out HRW.out (Zlt HNB.out (by decide)) (HM.out.later HB.out Zlr) Zlr)
   go_wp2_with fail
   refine HUN.out.mono ?_
   rintro e w8 ⟨rfl,_,hwb8,hkeep,hb8,hbb⟩
   have HKP:=Hd hkeep
   have HB8:=Hd (HB.out.trans hb8)
   have HBB:=Hd hbb
   have HDO:=Hd (done9_any w8 w5.heap.size s 0 false dv2 hwb8)
   clear hwb8 hkeep hb8 hbb HUN
   go_wp2_with fail
   refine HDO.out.mono ?_
   rintro e w9 ⟨rfl,hon,_,_⟩
   have he9:=HKP.out w9 hon
   obtain ⟨Tz,r,hst,hrr⟩:=he9.ex
   have HS9:=Hd hst
   have HRR:=Hd hrr
   have HT9:=Hd he9.st2
   have HX9:=Hd he9.wx
   have HB9:=Hd (HB8.out.trans (hon.below HB8.out.size fun q hq e => by have:=HBB.out; omega))
   have HSA:=Hd (st_state_any w9 s P bC tv1 D1 r hst (HM.out.later HB9.out Zlr))
   clear hon he9 hst hrr HDO
   go_wp2_with fail
   refine HSA.out.mono ?_
   rintro e w10 ⟨hb10,g10,c10,R1,rfl,ho10,hs10⟩
   obtain ⟨W11,hW11⟩:=Vx (w10.alloc (Obj.cells #[.slice (some ⟨g10,0,none⟩) 1 c10] 56))
   have hb11 : Below w10.heap.size w10 W11:=by rw [← hW11]; exact (Bxr _ w10).alloc Zlr _
   have k11 : W11.heap[w10.heap.size]? = some (.cells #[.slice (some ⟨g10,0,none⟩) 1 c10] 56 (0,0)):=by rw [← hW11]; exact heap_alloc_new w10 _
   have HW11:=Hd hW11
   have h911:=below_call9 hb10 hb11
   have HB911:=Hd h911
   have HB11:=Hbt HB9 h911
   have HO11:=Hd (ho10.later hb11)
   have HSC1:=Hd hs10
   have HSB:=Hd (st_state_any W11 t 1 bC tv2 D2 r2 (HT9.out.later h911) (HM.out.later HB11.out Zlr))
   have HK11:=Hd k11
   clear hb10 ho10 hs10 hW11 hb11 k11 h911 HSA
   go_wp2_with fail
   rw [HW11.out]
   refine HSB.out.mono ?_
   rintro e w12 ⟨hb12,g12,c12,R2,rfl,ho12,hs12⟩
   obtain ⟨W13,hW13⟩:=Vx (w12.alloc (Obj.cells #[.slice (some ⟨g12,0,none⟩) 1 c12] 56))
   have hb13 : Below w12.heap.size w12 W13:=by rw [← hW13]; exact (Bxr _ w12).alloc Zlr _
   have HW13:=Hd hW13
   have h1113:=below_call9 hb12 hb13
   have HB913:=Hd (below_call9 HB911.out h1113)
   have HB13:=Hbt HB11 h1113
   have q0 : w12.cell? ⟨w10.heap.size,0,none⟩ = some (.slice (some ⟨g10,0,none⟩) 1 c10):=cell_blk (below_block HK11.out hb12) rfl
   have l0:=cell_lt q0
   have HSM:=Hd (hs10_same HS9.out HT9.out HRR.out HSC1.out hs12)
   have HSS:=Hd (sameState_any W13 (some ⟨g10,0,none⟩) (some ⟨g12,0,none⟩) c10 c12 [R1] [R2] (HO11.out.later h1113).reads (ho12.later hb13).reads Si (fun y hy => by rw [List.mem_singleton.1 hy]; exact scan_small HS9.out HSC1.out))
   clear hb12 ho12 hs12 hW13 hb13 h1113 HSB
   go_wp2_with fail
   rw [HW13.out]
   refine HSS.out.mono ?_
   rintro e w14 ⟨⟨bq,rfl,hbq⟩,hb14⟩
   obtain rfl : bq = true:=hbq.2 (by rw [HSM.out])
   have HB914:=Hd (below_call9 HB913.out hb14)
   have HB14:=Hbt HB13 hb14
   have HBE:=Hd (begin9_any w14 s bC P tv1 0 [(D1,r)] (HS9.out.later HB914.out))
   clear hbq hb14 q0 l0 HSS
   go_wp2_with fail
   refine HBE.out.mono ?_
   rintro e w15 ⟨rfl,hwk15,hb15,_⟩
   have HB915:=Hd (below_call9 HB914.out hb15)
   have HB15:=Hbt HB14 hb15
   have HQA:=Hd (st_scan_any w15 w14.heap.size s P tv1 _ D1 (dD HS9.out) r hwk15 (HS9.out.later HB915.out) (HM.out.later HB15.out Zlr))
   clear hwk15 hb15 HBE
   go_wp2_with fail
   refine HQA.out.mono ?_
   rintro e w16 ⟨hb16,p16,c16,Q1,rfl,ho16,hs16⟩
   have HB916:=Hd (below_call9 HB915.out hb16)
   have HB16:=Hbt HB15 hb16
   have HO16:=Hd (Zai ho16 hs16)
   have HQB:=Hd (st_scan_any w16 w6.heap.size t 1 tv2 dv3 D2 (dD HT9.out) r2 (HX9.out.later HB916.out) (HT9.out.later HB916.out) (HM.out.later HB16.out Zlr))
   clear hb16 ho16 hs16 HQA
   go_wp2_with fail
   refine HQB.out.mono ?_
   rintro e w17 ⟨hb17,p17,c17,Q2,rfl,ho17,hs17⟩
   have HB17:=Hbt HB16 hb17
   have HSM2:=Hd (hs10_same HS9.out HT9.out HRR.out HO16.out.2 hs17)
   have HSR:=Hd (sameRows_any w17 p16 p17 c16 c17 Q1 Q2 (HO16.out.1.later hb17).rows ho17.rows (scan_small HS9.out HO16.out.2).1 (scan_small HS9.out HO16.out.2).2)
   clear hb17 ho17 hs17 HQB
   go_wp2_with fail
   refine HSR.out.mono ?_
   rintro e w18 ⟨⟨bq,rfl,hbq⟩,hb18⟩
   obtain rfl : bq = true:=hbq.2 HSM2.out
   have HB18:=Hbt HB17 hb18
   clear hbq hb18 HSR
   go_wp2
   go_ret
   exact ⟨rfl,HB18.out⟩
end
end Go.Proofs.YtmmmkjhpmlfopaaGreatDoor
