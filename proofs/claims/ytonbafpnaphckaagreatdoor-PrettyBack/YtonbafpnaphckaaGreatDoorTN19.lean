/- N19 -/
import Derived.Test.YtonbafpnaphckaaGreatDoorTN17
import Derived.Test.YtonbafpnaphckaaGreatDoorTF70
set_option maxHeartbeats 8000000
set_option maxRecDepth 100000
namespace Go.Proofs.YtonbafpnaphckaaGreatDoor
open Go.RowKit
theorem prettyBack_law (x : St) (v : Value) (y : St) (u : Value) (w : World) (h1 : StIn w x v) (h2 : StIn w y u) (hv : SV w) : Calls Tryz.prog 4 #[v,u] w fun e w' => e = .returned (.bool true) ∧ Below w.heap.size w w':=by
 obtain ⟨a0,a1,a2,a3,a4,a5,a6,c0,c1,c2,c3,c4,c5,c6,rfl,h1⟩:=h1
 obtain ⟨b0,b1,b2,b3,b4,b5,b6,d0,d1,d2,d3,d4,d5,d6,rfl,h2⟩:=h2
 have HV:=Lib.hid hv
 have HX:=Lib.hid h1
 have HY:=Lib.hid h2
 clear hv h1 h2
 obtain ⟨W,hW⟩ : ∃ W,(w.alloc (.cells #[.int .i64 x.kind,.string x.table,.string x.join,.slice a0 x.on.length c0,.slice a1 x.whr.length c1,.slice a2 x.items.length c2,.bool x.star,.slice a3 x.sets.length c3,.slice a4 x.groups.length c4,.slice a5 x.sorts.length c5,.slice a6 x.limit.length c6,.int .i64 x.place,.int .i64 x.joinAt] 27)).alloc (.cells #[.int .i64 y.kind,.string y.table,.string y.join,.slice b0 y.on.length d0,.slice b1 y.whr.length d1,.slice b2 y.items.length d2,.bool y.star,.slice b3 y.sets.length d3,.slice b4 y.groups.length d4,.slice b5 y.sorts.length d5,.slice b6 y.limit.length d6,.int .i64 y.place,.int .i64 y.joinAt] 27) = W:=⟨_,rfl⟩
 obtain ⟨ra,rb,kb⟩:=hW ▸ two_new (w:=w) (o:=.cells #[.int .i64 x.kind,.string x.table,.string x.join,.slice a0 x.on.length c0,.slice a1 x.whr.length c1,.slice a2 x.items.length c2,.bool x.star,.slice a3 x.sets.length c3,.slice a4 x.groups.length c4,.slice a5 x.sorts.length c5,.slice a6 x.limit.length c6,.int .i64 x.place,.int .i64 x.joinAt] 27) (p:=.cells #[.int .i64 y.kind,.string y.table,.string y.join,.slice b0 y.on.length d0,.slice b1 y.whr.length d1,.slice b2 y.items.length d2,.bool y.star,.slice b3 y.sets.length d3,.slice b4 y.groups.length d4,.slice b5 y.sorts.length d5,.slice b6 y.limit.length d6,.int .i64 y.place,.int .i64 y.joinAt] 27)
 have HB0:=Lib.hid kb
 have RA0:=Lib.hid ra
 have RB0:=Lib.hid rb
 clear ra rb kb
 go_enter Tryz.func4,Tryz.ntmps4
 go_wp2_with fail
 clear hW
 refine (awake12_any _ (HV.out.later HB0.out)).mono ?_
 rintro e w1 ⟨rfl,hb⟩
 have HB1:=Lib.hid (HB0.out.trans (hb.mono HB0.out.size))
 have RA1:=Lib.hid ((hb.block _ (Array.getElem?_eq_some_iff.1 RA0.out).1).trans RA0.out)
 have RB1:=Lib.hid ((hb.block _ (Array.getElem?_eq_some_iff.1 RB0.out).1).trans RB0.out)
 clear hb RA0 RB0 HB0
 have z1:=thirt_of RA1.out
 go_wp2_with fail
 refine (synRight_any x a0 a1 a2 a3 a4 a5 a6 c0 c1 c2 c3 c4 c5 c6 _ (HX.out.later HB1.out)).mono ?_
 rintro e w2 ⟨⟨ok,rfl,hq⟩,hb⟩
 have HQ:=Lib.hid hq
 have HB2:=Lib.hid (HB1.out.trans (hb.mono HB1.out.size))
 have RA2:=Lib.hid ((hb.block _ (Array.getElem?_eq_some_iff.1 RA1.out).1).trans RA1.out)
 have RB2:=Lib.hid ((hb.block _ (Array.getElem?_eq_some_iff.1 RB1.out).1).trans RB1.out)
 clear hb hq RA1 RB1 HB1 z1
 have z1:=thirt_of RA2.out
 go_wp2_with fail
 refine (print_st x a0 a1 a2 a3 a4 a5 a6 c0 c1 c2 c3 c4 c5 c6 _ (HV.out.later HB2.out) (HX.out.later HB2.out)).mono ?_
 rintro e w3 ⟨hb,hor⟩
 have HB3:=Lib.hid (HB2.out.trans (hb.mono HB2.out.size))
 have RA3:=Lib.hid ((hb.block _ (Array.getElem?_eq_some_iff.1 RA2.out).1).trans RA2.out)
 have RB3:=Lib.hid ((hb.block _ (Array.getElem?_eq_some_iff.1 RB2.out).1).trans RB2.out)
 clear hb RA2 RB2 HB2 z1
 rcases hor with ⟨h,rfl⟩ | ⟨h,-,rfl⟩ | ⟨h,hl,rfl⟩
 ·have hok : ok = false:=by
   cases ok with
   | false => rfl
   | true => exact absurd (HQ.out.1 rfl) h
  subst hok
  clear h
  go_wp2
  exact bodyPost_ret (v:=.bool true) (by simp [results,Tryz.results4,go_sem]) rfl ⟨rfl,HB3.out⟩
 ·have hok : ok = true:=HQ.out.2 h
  subst hok
  clear h
  go_wp2
  exact bodyPost_ret (v:=.bool true) (by simp [results,Tryz.results4,go_sem]) rfl ⟨rfl,HB3.out⟩
 have hok : ok = true:=HQ.out.2 h
 subst hok
 have HRT:=Lib.hid h
 obtain ⟨U,hU⟩ : ∃ U,(⟨(xS x).toArray⟩ : ByteArray) = U:=⟨_,rfl⟩
 have HU : Hid (U.data.toList = xS x):=by
  show _ = _
  rw [← hU]
 have hus : U.size ≤ 1000:=by
  have e1 : U.data.toList.length = U.size:=by simp
  rw [← e1,HU.out]
  exact hl
 have HUS:=Lib.hid hus
 have HUA : Hid ((⟨(xS x).toArray⟩ : ByteArray) = U):=hU
 have husi : (U.size : Int) ≤ 1000:=by omega
 rw [hU]
 clear hU hl h hus
 go_wp2_with fail
 refine (synParse_any U _ (HV.out.later HB3.out)).mono ?_
 intro e w6 hpp
 obtain ⟨fd,fq,z,v,o,rfl,⟨p0,p1,p2,p3,p4,p5,p6,q0,q1,q2,q3,q4,q5,q6,rfl,hy⟩,hb,hpi,hor⟩:=parse_all hpp
 obtain ⟨y2,rfl,hz,hsm⟩:=form_read HRT.out HU.out HUS.out hpi
 have hokk:=parse_right hpi
 have HFR : Hid (∀ t,RtSt t → xS t = xS x → SmSt x t):=fun t ht e => by
  obtain ⟨y3,e3,hz3,-⟩:=form_read ht (HU.out.trans e.symm) HUS.out hpi
  injection e3 with e3
  subst e3
  exact smst_z (hz.symm.trans hz3)
 rcases hor with ⟨-,-,h⟩ | ⟨rfl,rfl,h⟩
 ·cases h
 injection h with h
 subst h
 have HSM:=Lib.hid hsm
 have HRY : Hid (RtSt y2):=hokk.1
 have HXY : Hid (xS y2 = xS x):=by
  show _ = _
  rw [← xS_z y2,hz,xS_z]
 have HZ:=Lib.hid hy.ra
 have HB6:=Lib.hid (HB3.out.trans (hb.mono HB3.out.size))
 have RA6:=Lib.hid ((hb.block _ (Array.getElem?_eq_some_iff.1 RA3.out).1).trans RA3.out)
 have RB6:=Lib.hid ((hb.block _ (Array.getElem?_eq_some_iff.1 RB3.out).1).trans RB3.out)
 clear hpp hy hb hpi hz hsm hokk RA3 RB3 HB3
 simp only [stC]
 go_upto_region 7 with fail
 obtain ⟨W7,hW⟩ : ∃ W,(w6.alloc (.cells #[.int .i64 y2.kind,.string y2.table,.string y2.join,.slice p0 y2.on.length q0,.slice p1 y2.whr.length q1,.slice p2 y2.items.length q2,.bool y2.star,.slice p3 y2.sets.length q3,.slice p4 y2.groups.length q4,.slice p5 y2.sorts.length q5,.slice p6 y2.limit.length q6,.int .i64 y2.place,.int .i64 y2.joinAt] 27)).alloc (.cells #[.int .i64 0,.int .i64 0] 35) = W:=⟨_,rfl⟩
 rw [hW]
 obtain ⟨r3,r4,k4⟩:=hW ▸ two_new (w:=w6) (o:=.cells #[.int .i64 y2.kind,.string y2.table,.string y2.join,.slice p0 y2.on.length q0,.slice p1 y2.whr.length q1,.slice p2 y2.items.length q2,.bool y2.star,.slice p3 y2.sets.length q3,.slice p4 y2.groups.length q4,.slice p5 y2.sorts.length q5,.slice p6 y2.limit.length q6,.int .i64 y2.place,.int .i64 y2.joinAt] 27) (p:=.cells #[.int .i64 0,.int .i64 0] 35)
 clear hW
 have HB7:=Lib.hid (HB6.out.trans (k4.mono HB6.out.size))
 have RA7:=Lib.hid ((k4.block _ (Array.getElem?_eq_some_iff.1 RA6.out).1).trans RA6.out)
 have RB7:=Lib.hid ((k4.block _ (Array.getElem?_eq_some_iff.1 RB6.out).1).trans RB6.out)
 have HZ7:=Lib.hid (HZ.out.later k4)
 have S7:=Lib.hid r3
 have T7:=Lib.hid r4
 have z1:=thirt_of RA7.out
 have z2:=thirt_of r3
 clear r3 r4 k4 HZ RA6 RB6 HB6
 go_wp2_with fail
 refine (same_st y2 x p0 p1 p2 p3 p4 p5 p6 a0 a1 a2 a3 a4 a5 a6 q0 q1 q2 q3 q4 q5 q6 c0 c1 c2 c3 c4 c5 c6 _ HZ7.out (HX.out.later HB7.out)).mono ?_
 rintro e w8 ⟨⟨b,rfl,hbb⟩,hb⟩
 have hbt : b = true:=hbb.2 HSM.out
 subst hbt
 have HB8:=Lib.hid (HB7.out.trans (hb.mono HB7.out.size))
 have RA8:=Lib.hid ((hb.block _ (Array.getElem?_eq_some_iff.1 RA7.out).1).trans RA7.out)
 have RB8:=Lib.hid ((hb.block _ (Array.getElem?_eq_some_iff.1 RB7.out).1).trans RB7.out)
 have S8:=Lib.hid ((hb.block _ (Array.getElem?_eq_some_iff.1 S7.out).1).trans S7.out)
 have T8:=Lib.hid ((hb.block _ (Array.getElem?_eq_some_iff.1 T7.out).1).trans T7.out)
 have HZ8:=Lib.hid (HZ7.out.later hb)
 clear hbb hb z1 z2 RA7 RB7 HB7 S7 T7 HZ7
 have z2:=thirt_of S8.out
 go_wp2_with fail
 refine (print_st y2 p0 p1 p2 p3 p4 p5 p6 q0 q1 q2 q3 q4 q5 q6 _ (HV.out.later HB8.out) HZ8.out).mono ?_
 rintro e w9 ⟨hb,hor⟩
 have he : e = .returned (.tuple #[.string U,.int .i64 0]):=by
  rcases hor with ⟨h,-⟩ | ⟨-,h,-⟩ | ⟨-,-,h⟩
  ·exact absurd HRY.out h
  ·rw [HXY.out,← HU.out] at h
   have e1 : U.data.toList.length = U.size:=by simp
   have:=HUS.out
   omega
  ·rw [h,HXY.out,HUA.out]
 subst he
 have HB9:=Lib.hid (HB8.out.trans (hb.mono HB8.out.size))
 have RA9:=Lib.hid ((hb.block _ (Array.getElem?_eq_some_iff.1 RA8.out).1).trans RA8.out)
 have RB9:=Lib.hid ((hb.block _ (Array.getElem?_eq_some_iff.1 RB8.out).1).trans RB8.out)
 have S9:=Lib.hid ((hb.block _ (Array.getElem?_eq_some_iff.1 S8.out).1).trans S8.out)
 have T9:=Lib.hid ((hb.block _ (Array.getElem?_eq_some_iff.1 T8.out).1).trans T8.out)
 clear hb hor z2 RA8 RB8 HB8 S8 T8 HZ8
 have z2:=thirt_of RB9.out
 go_wp2_with fail
 refine (print_st y b0 b1 b2 b3 b4 b5 b6 d0 d1 d2 d3 d4 d5 d6 _ (HV.out.later HB9.out) (HY.out.later HB9.out)).mono ?_
 rintro e w10 ⟨hb,hor⟩
 have HB10:=Lib.hid (HB9.out.trans (hb.mono HB9.out.size))
 have RA10:=Lib.hid ((hb.block _ (Array.getElem?_eq_some_iff.1 RA9.out).1).trans RA9.out)
 have RB10:=Lib.hid ((hb.block _ (Array.getElem?_eq_some_iff.1 RB9.out).1).trans RB9.out)
 have S10:=Lib.hid ((hb.block _ (Array.getElem?_eq_some_iff.1 S9.out).1).trans S9.out)
 have T10:=Lib.hid ((hb.block _ (Array.getElem?_eq_some_iff.1 T9.out).1).trans T9.out)
 clear hb z2 RA9 RB9 HB9 S9 T9
 have g0 : w10.cell? ⟨w6.heap.size + 1,0,none⟩ = some (.int .i64 0):=by have:=T10.out; simp [World.cell?,this]
 rcases hor with ⟨-,rfl⟩ | ⟨-,-,rfl⟩ | ⟨hry,-,rfl⟩
 ·go_wp2
  exact bodyPost_ret (v:=.bool true) (by simp [results,Tryz.results4,go_sem]) rfl ⟨rfl,HB10.out⟩
 ·go_wp2
  exact bodyPost_ret (v:=.bool true) (by simp [results,Tryz.results4,go_sem]) rfl ⟨rfl,HB10.out⟩
 obtain ⟨V,hV⟩ : ∃ V,(⟨(xS y).toArray⟩ : ByteArray) = V:=⟨_,rfl⟩
 rw [hV]
 by_cases q : V = U
 ·have HSA : Hid (SmSt x y):=HFR.out y hry (by
   have e1 : V.data.toList = xS y:=by rw [← hV]
   rw [← e1,q,HU.out])
  subst q
  have z1:=thirt_of RA10.out
  have z2:=thirt_of RB10.out
  clear hV hry
  go_wp2_with fail
  refine (same_st x y a0 a1 a2 a3 a4 a5 a6 b0 b1 b2 b3 b4 b5 b6 c0 c1 c2 c3 c4 c5 c6 d0 d1 d2 d3 d4 d5 d6 _ (HX.out.later HB10.out) (HY.out.later HB10.out)).mono ?_
  rintro e w11 ⟨⟨b,rfl,hbb⟩,hb⟩
  have hbt : b = true:=hbb.2 HSA.out
  subst hbt
  have HB11:=Lib.hid (HB10.out.trans (hb.mono HB10.out.size))
  have T11:=(hb.block _ (Array.getElem?_eq_some_iff.1 T10.out).1).trans T10.out
  have g1 : w11.cell? ⟨w6.heap.size + 1,0,none⟩ = some (.int .i64 0):=by simp [World.cell?,T11]
  clear hbb hb z1 z2 g0 T11
  go_wp2
  exact bodyPost_ret (v:=.bool true) (by simp [results,Tryz.results4,go_sem]) rfl ⟨rfl,HB11.out⟩
 ·have hne:=str_ne q
  clear q hV hry
  go_wp2
  exact bodyPost_ret (v:=.bool true) (by simp [results,Tryz.results4,go_sem]) rfl ⟨rfl,HB10.out⟩
end Go.Proofs.YtonbafpnaphckaaGreatDoor
