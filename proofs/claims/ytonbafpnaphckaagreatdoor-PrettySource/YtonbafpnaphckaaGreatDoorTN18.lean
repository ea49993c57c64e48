/- N18 -/
import Derived.Test.YtonbafpnaphckaaGreatDoorTN17
set_option maxHeartbeats 8000000
set_option maxRecDepth 100000
namespace Go.Proofs.YtonbafpnaphckaaGreatDoor
open Go.RowKit
theorem prettySource_law (s : ByteArray) (w : World) (hv : SV w) : Calls Tryz.prog 5 #[.string s] w fun e w' => e = .returned (.bool true) ∧ Below w.heap.size w w':=by
 have HV:=Lib.hid hv
 clear hv
 go_enter Tryz.func5,Tryz.ntmps5
 go_wp2_with fail
 refine (awake12_any w HV.out).mono ?_
 rintro e w1 ⟨rfl,hb⟩
 have HB:=Lib.hid hb
 clear hb
 go_wp2_with fail
 refine (synParse_any s _ (HV.out.later HB.out)).mono ?_
 intro e w3 hpp
 obtain ⟨fc,fp,x,v,o,rfl,⟨a0,a1,a2,a3,a4,a5,a6,c0,c1,c2,c3,c4,c5,c6,rfl,hx⟩,hb3,hpi,hor⟩:=parse_all hpp
 have HOK:=Lib.hid (parse_right hpi)
 have HOR:=Lib.hid hor
 have HB3:=Lib.hid (HB.out.trans (hb3.mono HB.out.size))
 have HX:=Lib.hid hx.ra
 clear hpp hx hb3 hpi hor
 simp only [stC]
 go_upto_region 3 with fail
 obtain ⟨W4,hW⟩ : ∃ W,(w3.alloc (.cells #[.int .i64 x.kind,.string x.table,.string x.join,.slice a0 x.on.length c0,.slice a1 x.whr.length c1,.slice a2 x.items.length c2,.bool x.star,.slice a3 x.sets.length c3,.slice a4 x.groups.length c4,.slice a5 x.sorts.length c5,.slice a6 x.limit.length c6,.int .i64 x.place,.int .i64 x.joinAt] 27)).alloc (.cells #[.int .i64 fc,.int .i64 fp] 35) = W:=⟨_,rfl⟩
 rw [hW]
 obtain ⟨r3,r4,k4⟩:=hW ▸ two_new (w:=w3) (o:=.cells #[.int .i64 x.kind,.string x.table,.string x.join,.slice a0 x.on.length c0,.slice a1 x.whr.length c1,.slice a2 x.items.length c2,.bool x.star,.slice a3 x.sets.length c3,.slice a4 x.groups.length c4,.slice a5 x.sorts.length c5,.slice a6 x.limit.length c6,.int .i64 x.place,.int .i64 x.joinAt] 27) (p:=.cells #[.int .i64 fc,.int .i64 fp] 35)
 clear hW
 have R3:=Lib.hid r3
 have HB4:=Lib.hid (HB3.out.trans (k4.mono HB3.out.size))
 have HX4:=Lib.hid (HX.out.later k4)
 have g0 : W4.cell? ⟨w3.heap.size + 1,0,none⟩ = some (.int .i64 fc):=by simp [World.cell?,r4]
 have z1:=thirt_of r3
 clear r3 r4 k4 HX
 rcases HOR.out with ⟨hc,-,-⟩ | ⟨rfl,rfl,rfl⟩
 ·have hce : (fc != 0) = true:=by simpa using hc
  clear hc
  go_wp2
  exact bodyPost_ret (v:=.bool true) (by simp [results,Tryz.results5,go_sem]) rfl ⟨rfl,HB4.out⟩
 have HRT : Hid (RtSt x):=HOK.out.1
 clear HOR
 go_wp2_with fail
 refine (print_st x a0 a1 a2 a3 a4 a5 a6 c0 c1 c2 c3 c4 c5 c6 _ (HV.out.later HB4.out) HX4.out).mono ?_
 rintro e w5 ⟨hb5,hor⟩
 have HB5:=Lib.hid (HB4.out.trans (hb5.mono HB4.out.size))
 have R5:=Lib.hid ((hb5.block _ (Array.getElem?_eq_some_iff.1 R3.out).1).trans R3.out)
 have HX5:=Lib.hid (HX4.out.later hb5)
 clear hb5 g0 z1 R3 HX4
 have z1:=thirt_of R5.out
 rcases hor with ⟨h,-⟩ | ⟨-,-,rfl⟩ | ⟨-,hl,rfl⟩
 ·exact absurd HRT.out h
 ·go_wp2
  exact bodyPost_ret (v:=.bool true) (by simp [results,Tryz.results5,go_sem]) rfl ⟨rfl,HB5.out⟩
 obtain ⟨U,hU⟩ : ∃ U,(⟨(xS x).toArray⟩ : ByteArray) = U:=⟨_,rfl⟩
 have HU : Hid (U.data.toList = xS x):=by
  show _ = _
  rw [← hU]
 have HUS : Hid (U.size ≤ 1000):=by
  show _ ≤ _
  have e1 : U.data.toList.length = U.size:=by simp
  rw [← e1,HU.out]
  exact hl
 have HUA : Hid ((⟨(xS x).toArray⟩ : ByteArray) = U):=hU
 rw [hU]
 clear hU hl
 go_wp2_with fail
 refine (synParse_any U _ (HV.out.later HB5.out)).mono ?_
 intro e w6 hpp
 obtain ⟨fd,fq,y,v,o,rfl,⟨b0,b1,b2,b3,b4,b5,b6,d0,d1,d2,d3,d4,d5,d6,rfl,hy⟩,hb6,hpi,hor⟩:=parse_all hpp
 obtain ⟨y2,rfl,hz,hsm⟩:=form_read HRT.out HU.out HUS.out hpi
 have hok:=parse_right hpi
 rcases hor with ⟨-,-,h⟩ | ⟨rfl,rfl,h⟩
 ·cases h
 injection h with h
 subst h
 have HSM:=Lib.hid hsm
 have HRY : Hid (RtSt y2):=hok.1
 have HXY : Hid (xS y2 = xS x):=by
  show _ = _
  rw [← xS_z y2,hz,xS_z]
 have HB6:=Lib.hid (HB5.out.trans (hb6.mono HB5.out.size))
 have HX6:=Lib.hid (HX5.out.later hb6)
 have R6:=Lib.hid ((hb6.block _ (Array.getElem?_eq_some_iff.1 R5.out).1).trans R5.out)
 have HY:=Lib.hid hy.ra
 clear hpp hy hb6 hpi hz hsm hok z1 R5 HX5
 simp only [stC]
 go_upto_region 9 with fail
 obtain ⟨W7,hW⟩ : ∃ W,(w6.alloc (.cells #[.int .i64 y2.kind,.string y2.table,.string y2.join,.slice b0 y2.on.length d0,.slice b1 y2.whr.length d1,.slice b2 y2.items.length d2,.bool y2.star,.slice b3 y2.sets.length d3,.slice b4 y2.groups.length d4,.slice b5 y2.sorts.length d5,.slice b6 y2.limit.length d6,.int .i64 y2.place,.int .i64 y2.joinAt] 27)).alloc (.cells #[.int .i64 0,.int .i64 0] 35) = W:=⟨_,rfl⟩
 rw [hW]
 obtain ⟨r3,r4,k4⟩:=hW ▸ two_new (w:=w6) (o:=.cells #[.int .i64 y2.kind,.string y2.table,.string y2.join,.slice b0 y2.on.length d0,.slice b1 y2.whr.length d1,.slice b2 y2.items.length d2,.bool y2.star,.slice b3 y2.sets.length d3,.slice b4 y2.groups.length d4,.slice b5 y2.sorts.length d5,.slice b6 y2.limit.length d6,.int .i64 y2.place,.int .i64 y2.joinAt] 27) (p:=.cells #[.int .i64 0,.int .i64 0] 35)
 clear hW
 have HB7:=Lib.hid (HB6.out.trans (k4.mono HB6.out.size))
 have HX7:=Lib.hid (HX6.out.later k4)
 have HY7:=Lib.hid (HY.out.later k4)
 have R7:=Lib.hid ((k4.block _ (Array.getElem?_eq_some_iff.1 R6.out).1).trans R6.out)
 have S7:=Lib.hid r3
 have T7:=Lib.hid r4
 have z1:=thirt_of R7.out
 have z2:=thirt_of r3
 clear r3 r4 k4 HX6 HY R6
 go_wp2_with fail
 refine (same_st y2 x b0 b1 b2 b3 b4 b5 b6 a0 a1 a2 a3 a4 a5 a6 d0 d1 d2 d3 d4 d5 d6 c0 c1 c2 c3 c4 c5 c6 _ HY7.out HX7.out).mono ?_
 rintro e w8 ⟨⟨b,rfl,hbb⟩,hl8⟩
 have hbt : b = true:=hbb.2 HSM.out
 subst hbt
 have HB8:=Lib.hid (HB7.out.trans (hl8.mono HB7.out.size))
 have HY8:=Lib.hid (HY7.out.later hl8)
 have S8:=Lib.hid ((hl8.block _ (Array.getElem?_eq_some_iff.1 S7.out).1).trans S7.out)
 have T8:=Lib.hid ((hl8.block _ (Array.getElem?_eq_some_iff.1 T7.out).1).trans T7.out)
 clear hbb hl8 z1 z2 R7 S7 T7 HX7 HY7
 have z2:=thirt_of S8.out
 go_wp2_with fail
 refine (print_st y2 b0 b1 b2 b3 b4 b5 b6 d0 d1 d2 d3 d4 d5 d6 _ (HV.out.later HB8.out) HY8.out).mono ?_
 rintro e w9 ⟨hb9,hor⟩
 have he : e = .returned (.tuple #[.string U,.int .i64 0]):=by
  rcases hor with ⟨h,-⟩ | ⟨-,h,-⟩ | ⟨-,-,h⟩
  ·exact absurd HRY.out h
  ·rw [HXY.out,← HU.out] at h
   have e1 : U.data.toList.length = U.size:=by simp
   have:=HUS.out
   omega
  ·rw [h,HXY.out,HUA.out]
 subst he
 have HB9:=Lib.hid (HB8.out.trans (hb9.mono HB8.out.size))
 have r9:=(hb9.block _ (Array.getElem?_eq_some_iff.1 T8.out).1).trans T8.out
 have g0 : w9.cell? ⟨w6.heap.size + 1,0,none⟩ = some (.int .i64 0):=by simp [World.cell?,r9]
 clear hb9 hor r9 z2 S8 T8
 go_wp2
 exact bodyPost_ret (v:=.bool true) (by simp [results,Tryz.results5,go_sem]) rfl ⟨rfl,HB9.out⟩
end Go.Proofs.YtonbafpnaphckaaGreatDoor
