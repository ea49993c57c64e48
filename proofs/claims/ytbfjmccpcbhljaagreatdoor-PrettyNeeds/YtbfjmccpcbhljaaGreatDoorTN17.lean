/- N17 -/
import Derived.Test.YtbfjmccpcbhljaaGreatDoorTN15
import Derived.Test.YtbfjmccpcbhljaaGreatDoorTM155
set_option maxHeartbeats 4000000
set_option maxRecDepth 100000
namespace Go.Proofs.YtbfjmccpcbhljaaGreatDoor
open Go.RowKit
theorem xlr_nil (w : World) : XLR w [] (.slice none 0 0):=⟨none,0,[],rfl,Nat.le_refl _,Nat.zero_le _,rfl,fun i h => absurd h (by simp),fun i h => absurd h (by simp)⟩

theorem st0_ra (w : World) : StRA w st0 (.slice none 0 0) (.slice none 0 0) (.slice none 0 0) (.slice none 0 0) (.slice none 0 0) (.slice none 0 0) (.slice none 0 0) :=
 ⟨⟨xlr_nil w,xlr_nil w,xlr_nil w,⟨none,0,[],rfl,Nat.le_refl _,Nat.zero_le _,rfl,fun i h => absurd h (by simp [st0]),fun i h => absurd h (by simp [st0])⟩,xlr_nil w⟩,⟨none,0,rfl,Nat.le_refl _,Nat.zero_le _,fun i h => absurd h (by simp [st0])⟩,⟨none,0,rfl,Nat.le_refl _,Nat.zero_le _,fun i h => absurd h (by simp [st0])⟩⟩

theorem print_0 (w : World) (hv : SV w) : Calls Tryz.prog 8 #[.agg #[.int .i64 0,.string ⟨#[]⟩,.string ⟨#[]⟩,.slice none 0 0,.slice none 0 0,.slice none 0 0,.bool false,.slice none 0 0,.slice none 0 0,.slice none 0 0,.slice none 0 0,.int .i64 0,.int .i64 0]] w fun e w' => e = .returned (.tuple #[.string ⟨#[]⟩,.int .i64 120]) ∧ Below w.heap.size w w':=by
 refine (print_st st0 none none none none none none none 0 0 0 0 0 0 0 w hv (st0_ra w)).mono ?_
 rintro e w' ⟨hb,⟨-,h⟩ | ⟨h,-⟩ | ⟨h,-⟩⟩
 ·exact ⟨h,hb⟩
 ·exact absurd h not_rt0
 ·exact absurd h not_rt0

theorem awake12_any (w : World) (hv : SV w) : Calls Tryz.prog 7 #[] w fun e w' => e = .returned (.bool true) ∧ Below w.heap.size w w':=by
 have HV:=Lib.hid hv
 clear hv
 go_enter Tryz.func7,Tryz.ntmps7
 go_wp2_with fail
 refine (synParse_any ⟨#[85,80,68,65,84,69,32,116,32,83,69,84,32,97,32,61,32,97,45,40,98,45,49,41,44,32,98,32,61,32,45,40,45,49,41,42,50]⟩ _ HV.out).mono ?_
 intro e w3 hpp
 obtain ⟨fc,fp,x,v,o,rfl,⟨a0,a1,a2,a3,a4,a5,a6,c0,c1,c2,c3,c4,c5,c6,rfl,hx⟩,hb3,hpi,hor⟩:=parse_all hpp
 have ho:=parse_A hpi
 subst ho
 have hrt:=parse_right hpi
 rcases hor with ⟨-,-,h⟩ | ⟨rfl,rfl,h⟩
 ·cases h
 injection h with h
 have HTX : Hid (xS x = [85,80,68,65,84,69,32,116,32,83,69,84,32,97,32,61,32,97,32,45,32,40,98,32,45,32,49,41,44,32,98,32,61,32,45,32,45,49,32,42,32,50]):=by
  show _ = _
  rw [← h]
  exact xS_A
 have HRT : Hid (RtSt x):=by
  show RtSt x
  rw [← h]
  exact hrt.1
 have HB3:=Lib.hid hb3
 have HX:=Lib.hid hx.ra
 clear hpp hx hb3 hpi hrt h
 simp only [stC]
 go_upto_region 2 with fail
 obtain ⟨W4,hW⟩ : ∃ W,(w3.alloc (.cells #[.int .i64 x.kind,.string x.table,.string x.join,.slice a0 x.on.length c0,.slice a1 x.whr.length c1,.slice a2 x.items.length c2,.bool x.star,.slice a3 x.sets.length c3,.slice a4 x.groups.length c4,.slice a5 x.sorts.length c5,.slice a6 x.limit.length c6,.int .i64 x.place,.int .i64 x.joinAt] 27)).alloc (.cells #[.int .i64 0,.int .i64 0] 35) = W:=⟨_,rfl⟩
 rw [hW]
 obtain ⟨r3,r4,k4⟩:=hW ▸ two_new (w:=w3) (o:=.cells #[.int .i64 x.kind,.string x.table,.string x.join,.slice a0 x.on.length c0,.slice a1 x.whr.length c1,.slice a2 x.items.length c2,.bool x.star,.slice a3 x.sets.length c3,.slice a4 x.groups.length c4,.slice a5 x.sorts.length c5,.slice a6 x.limit.length c6,.int .i64 x.place,.int .i64 x.joinAt] 27) (p:=.cells #[.int .i64 0,.int .i64 0] 35)
 clear hW
 have HB4:=Hbt HB3 k4
 have HX4:=Lib.hid (HX.out.later k4)
 have R4:=Lib.hid r4
 have s1:=thirt_of r3
 clear r3 r4 k4 HX
 go_wp2_with fail
 refine (print_st x a0 a1 a2 a3 a4 a5 a6 c0 c1 c2 c3 c4 c5 c6 _ (HV.out.later HB4.out) HX4.out).mono ?_
 rintro e w5 ⟨hb5,hor⟩
 have he : e = .returned (.tuple #[.string ⟨#[85,80,68,65,84,69,32,116,32,83,69,84,32,97,32,61,32,97,32,45,32,40,98,32,45,32,49,41,44,32,98,32,61,32,45,32,45,49,32,42,32,50]⟩,.int .i64 0]):=by
  rcases hor with ⟨h,-⟩ | ⟨-,h,-⟩ | ⟨-,-,h⟩
  ·exact absurd HRT.out h
  ·rw [HTX.out] at h
   exact absurd h (by decide)
  ·rw [h,HTX.out]
 subst he
 have HB5:=Hbt HB4 hb5
 have R5:=Hbk hb5 R4
 clear hb5 hor s1 R4
 go_wp2_with fail
 refine (print_0 _ (HV.out.later HB5.out)).mono ?_
 rintro e w6 ⟨rfl,hb6⟩
 have HB6:=Hbt HB5 hb6
 have r6:=(hb6.block _ (Gx R5.out)).trans R5.out
 have g0 : w6.cell? ⟨w3.heap.size + 1,0,none⟩ = some (.int .i64 0):=by simp [World.cell?,r6]
 clear hb6 r6 R5
 go_wp2
 exact bodyPost_ret (v:=.bool true) (by simp [results,Tryz.results7,go_sem]) rfl ⟨rfl,HB6.out⟩
end Go.Proofs.YtbfjmccpcbhljaaGreatDoor
