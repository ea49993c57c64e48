/- A94 -/
import Derived.Test.YtbfjmccpcbhljaaGreatDoorTA90
set_option maxHeartbeats 64000000
set_option maxRecDepth 100000
namespace Go.Proofs.YtbfjmccpcbhljaaGreatDoor
open Go.RowKit
theorem same_st (x y : St) (a0 a1 a2 a3 a4 a5 a6 b0 b1 b2 b3 b4 b5 b6 : Option Addr) (c0 c1 c2 c3 c4 c5 c6 d0 d1 d2 d3 d4 d5 d6 : Nat) (w : World) (h1 : StRA w x (.slice a0 x.on.length c0) (.slice a1 x.whr.length c1) (.slice a2 x.items.length c2) (.slice a3 x.sets.length c3) (.slice a4 x.groups.length c4) (.slice a5 x.sorts.length c5) (.slice a6 x.limit.length c6)) (h2 : StRA w y (.slice b0 y.on.length d0) (.slice b1 y.whr.length d1) (.slice b2 y.items.length d2) (.slice b3 y.sets.length d3) (.slice b4 y.groups.length d4) (.slice b5 y.sorts.length d5) (.slice b6 y.limit.length d6)) : Calls Tryz.prog 12 #[.agg #[.int .i64 x.kind,.string x.table,.string x.join,.slice a0 x.on.length c0,.slice a1 x.whr.length c1,.slice a2 x.items.length c2,.bool x.star,.slice a3 x.sets.length c3,.slice a4 x.groups.length c4,.slice a5 x.sorts.length c5,.slice a6 x.limit.length c6,.int .i64 x.place,.int .i64 x.joinAt],.agg #[.int .i64 y.kind,.string y.table,.string y.join,.slice b0 y.on.length d0,.slice b1 y.whr.length d1,.slice b2 y.items.length d2,.bool y.star,.slice b3 y.sets.length d3,.slice b4 y.groups.length d4,.slice b5 y.sorts.length d5,.slice b6 y.limit.length d6,.int .i64 y.place,.int .i64 y.joinAt]] w (EqPost (SmSt x y) w):=by
 obtain ⟨Q,hQ⟩ : ∃ Q,SmSt x y = Q:=⟨_,rfl⟩
 have HQ : Hid (Q ↔ SmSt x y):=Lib.hid (hQ ▸ Iff.rfl)
 rw [hQ]
 clear hQ
 have HA1:=Lib.hid h1
 have HA2:=Lib.hid h2
 clear h1 h2
 obtain ⟨kind_x,ekindx⟩ : ∃ z,x.kind = z:=⟨_,rfl⟩
 obtain ⟨kind_y,ekindy⟩ : ∃ z,y.kind = z:=⟨_,rfl⟩
 obtain ⟨table_x,etablex⟩ : ∃ z,x.table = z:=⟨_,rfl⟩
 obtain ⟨table_y,etabley⟩ : ∃ z,y.table = z:=⟨_,rfl⟩
 obtain ⟨join_x,ejoinx⟩ : ∃ z,x.join = z:=⟨_,rfl⟩
 obtain ⟨join_y,ejoiny⟩ : ∃ z,y.join = z:=⟨_,rfl⟩
 obtain ⟨star_x,estarx⟩ : ∃ z,x.star = z:=⟨_,rfl⟩
 obtain ⟨star_y,estary⟩ : ∃ z,y.star = z:=⟨_,rfl⟩
 have HF : Hid (x.kind = kind_x ∧ y.kind = kind_y ∧ x.table = table_x ∧ y.table = table_y ∧ x.join = join_x ∧ y.join = join_y ∧ x.star = star_x ∧ y.star = star_y):=⟨ekindx,ekindy,etablex,etabley,ejoinx,ejoiny,estarx,estary⟩
 rw [ekindx,ekindy,etablex,etabley,ejoinx,ejoiny,estarx,estary]
 clear ekindx ekindy etablex etabley ejoinx ejoiny estarx estary
 obtain ⟨W,hW⟩ : ∃ W,(w.alloc (.cells #[.int .i64 kind_x,.string table_x,.string join_x,.slice a0 x.on.length c0,.slice a1 x.whr.length c1,.slice a2 x.items.length c2,.bool star_x,.slice a3 x.sets.length c3,.slice a4 x.groups.length c4,.slice a5 x.sorts.length c5,.slice a6 x.limit.length c6,.int .i64 x.place,.int .i64 x.joinAt] 27)).alloc (.cells #[.int .i64 kind_y,.string table_y,.string join_y,.slice b0 y.on.length d0,.slice b1 y.whr.length d1,.slice b2 y.items.length d2,.bool star_y,.slice b3 y.sets.length d3,.slice b4 y.groups.length d4,.slice b5 y.sorts.length d5,.slice b6 y.limit.length d6,.int .i64 y.place,.int .i64 y.joinAt] 27) = W:=⟨_,rfl⟩
 obtain ⟨ra,rb,kb⟩:=hW ▸ two_new (w:=w) (o:=.cells #[.int .i64 kind_x,.string table_x,.string join_x,.slice a0 x.on.length c0,.slice a1 x.whr.length c1,.slice a2 x.items.length c2,.bool star_x,.slice a3 x.sets.length c3,.slice a4 x.groups.length c4,.slice a5 x.sorts.length c5,.slice a6 x.limit.length c6,.int .i64 x.place,.int .i64 x.joinAt] 27) (p:=.cells #[.int .i64 kind_y,.string table_y,.string join_y,.slice b0 y.on.length d0,.slice b1 y.whr.length d1,.slice b2 y.items.length d2,.bool star_y,.slice b3 y.sets.length d3,.slice b4 y.groups.length d4,.slice b5 y.sorts.length d5,.slice b6 y.limit.length d6,.int .i64 y.place,.int .i64 y.joinAt] 27)
 have HB:=Lib.hid kb
 have RA:=Lib.hid ra
 have RB:=Lib.hid rb
 obtain ⟨⟨s0,s1,s2,s3,s4,s5,s6,s7,s8,s9,s10,s11,s12⟩,-⟩:=thirt_of ra
 obtain ⟨⟨t0,t1,t2,t3,t4,t5,t6,t7,t8,t9,t10,t11,t12⟩,-⟩:=thirt_of rb
 clear ra rb kb
 go_enter Tryz.func12,Tryz.ntmps12
 by_cases n : kind_x = kind_y
 rotate_left
 ·have d : (kind_x == kind_y) = false:=by simpa using n
  have HE : Hid (¬ Q):=Lib.hid (fun h => n (HF.out.1.symm.trans ((HQ.out.1 h).1.trans HF.out.2.1)))
  go_wp2
  exact bodyPost_ret (v:=.bool false) (by simp [results,Tryz.results12,go_sem]) rfl (eq_no HE.out HB.out)
 subst n
 by_cases n : table_x = table_y
 rotate_left
 ·have d:=str_ne n
  have HE : Hid (¬ Q):=Lib.hid (fun h => n (HF.out.2.2.1.symm.trans ((HQ.out.1 h).2.1.trans HF.out.2.2.2.1)))
  go_wp2
  exact bodyPost_ret (v:=.bool false) (by simp [results,Tryz.results12,go_sem]) rfl (eq_no HE.out HB.out)
 subst n
 by_cases n : join_x = join_y
 rotate_left
 ·have d:=str_ne n
  have HE : Hid (¬ Q):=Lib.hid (fun h => n (HF.out.2.2.2.2.1.symm.trans ((HQ.out.1 h).2.2.1.trans HF.out.2.2.2.2.2.1)))
  go_wp2
  exact bodyPost_ret (v:=.bool false) (by simp [results,Tryz.results12,go_sem]) rfl (eq_no HE.out HB.out)
 subst n
 by_cases n : star_x = star_y
 rotate_left
 ·have HE : Hid (¬ Q):=Lib.hid (fun h => n (HF.out.2.2.2.2.2.2.1.symm.trans ((HQ.out.1 h).2.2.2.1.trans HF.out.2.2.2.2.2.2.2)))
  cases star_x <;> cases star_y <;> (first | exact absurd rfl n | (clear n; go_wp2; exact bodyPost_ret (v:=.bool false) (by simp [results,Tryz.results12,go_sem]) rfl (eq_no HE.out HB.out)))
 subst n
 go_wp2_with fail
 clear hW
 refine (sameExprs_any x.on y.on a0 b0 c0 d0 _ (HA1.out.later HB.out).rd.on (HA2.out.later HB.out).rd.on).mono ?_
 rintro e w0 ⟨⟨b,rfl,hb⟩,hl⟩
 have HB0:=Hbt HB hl
 have HL0:=Lib.hid hl
 have HE0 : Hid (b = true ↔ SmXs x.on y.on):=hb
 clear hb hl
 cases b with
 | false =>
  have HE : Hid (¬ Q):=Lib.hid (fun h => absurd (HE0.out.2 (HQ.out.1 h).2.2.2.2.1) (by simp))
  go_wp2
  exact bodyPost_ret (v:=.bool false) (by simp [results,Tryz.results12,go_sem]) rfl (eq_no HE.out HB0.out)
 | true =>
  have HT0 : Hid (SmXs x.on y.on):=HE0.out.1 rfl
  clear HE0
  have RA0:=Lib.hid ((HL0.out.block _ (Gx RA.out)).trans RA.out)
  have RB0:=Lib.hid ((HL0.out.block _ (Gx RB.out)).trans RB.out)
  clear s0 s1 s2 s3 s4 s5 s6 s7 s8 s9 s10 s11 s12 t0 t1 t2 t3 t4 t5 t6 t7 t8 t9 t10 t11 t12
  obtain ⟨⟨s0,s1,s2,s3,s4,s5,s6,s7,s8,s9,s10,s11,s12⟩,-⟩:=thirt_of RA0.out
  obtain ⟨⟨t0,t1,t2,t3,t4,t5,t6,t7,t8,t9,t10,t11,t12⟩,-⟩:=thirt_of RB0.out
  go_wp2_with fail
  refine (sameExprs_any x.whr y.whr a1 b1 c1 d1 _ (HA1.out.later HB0.out).rd.whr (HA2.out.later HB0.out).rd.whr).mono ?_
  rintro e w1 ⟨⟨b,rfl,hb⟩,hl⟩
  have HB1:=Hbt HB0 hl
  have HL1:=Lib.hid hl
  have HE1 : Hid (b = true ↔ SmXs x.whr y.whr):=hb
  clear hb hl
  cases b with
  | false =>
   have HE : Hid (¬ Q):=Lib.hid (fun h => absurd (HE1.out.2 (HQ.out.1 h).2.2.2.2.2.1) (by simp))
   go_wp2
   exact bodyPost_ret (v:=.bool false) (by simp [results,Tryz.results12,go_sem]) rfl (eq_no HE.out HB1.out)
  | true =>
   have HT1 : Hid (SmXs x.whr y.whr):=HE1.out.1 rfl
   clear HE1
   have RA1:=Lib.hid ((HL1.out.block _ (Gx RA0.out)).trans RA0.out)
   have RB1:=Lib.hid ((HL1.out.block _ (Gx RB0.out)).trans RB0.out)
   clear s0 s1 s2 s3 s4 s5 s6 s7 s8 s9 s10 s11 s12 t0 t1 t2 t3 t4 t5 t6 t7 t8 t9 t10 t11 t12
   obtain ⟨⟨s0,s1,s2,s3,s4,s5,s6,s7,s8,s9,s10,s11,s12⟩,-⟩:=thirt_of RA1.out
   obtain ⟨⟨t0,t1,t2,t3,t4,t5,t6,t7,t8,t9,t10,t11,t12⟩,-⟩:=thirt_of RB1.out
   go_wp2_with fail
   refine (sameExprs_any x.items y.items a2 b2 c2 d2 _ (HA1.out.later HB1.out).rd.items (HA2.out.later HB1.out).rd.items).mono ?_
   rintro e w2 ⟨⟨b,rfl,hb⟩,hl⟩
   have HB2:=Hbt HB1 hl
   have HL2:=Lib.hid hl
   have HE2 : Hid (b = true ↔ SmXs x.items y.items):=hb
   clear hb hl
   cases b with
   | false =>
    have HE : Hid (¬ Q):=Lib.hid (fun h => absurd (HE2.out.2 (HQ.out.1 h).2.2.2.2.2.2.1) (by simp))
    go_wp2
    exact bodyPost_ret (v:=.bool false) (by simp [results,Tryz.results12,go_sem]) rfl (eq_no HE.out HB2.out)
   | true =>
    have HT2 : Hid (SmXs x.items y.items):=HE2.out.1 rfl
    clear HE2
    have RA2:=Lib.hid ((HL2.out.block _ (Gx RA1.out)).trans RA1.out)
    have RB2:=Lib.hid ((HL2.out.block _ (Gx RB1.out)).trans RB1.out)
    clear s0 s1 s2 s3 s4 s5 s6 s7 s8 s9 s10 s11 s12 t0 t1 t2 t3 t4 t5 t6 t7 t8 t9 t10 t11 t12
    obtain ⟨⟨s0,s1,s2,s3,s4,s5,s6,s7,s8,s9,s10,s11,s12⟩,-⟩:=thirt_of RA2.out
    obtain ⟨⟨t0,t1,t2,t3,t4,t5,t6,t7,t8,t9,t10,t11,t12⟩,-⟩:=thirt_of RB2.out
    go_wp2_with fail
    refine (sameExprs_any x.groups y.groups a4 b4 c4 d4 _ (HA1.out.later HB2.out).rd.groups (HA2.out.later HB2.out).rd.groups).mono ?_
    rintro e w3 ⟨⟨b,rfl,hb⟩,hl⟩
    have HB3:=Hbt HB2 hl
    have HL3:=Lib.hid hl
    have HE3 : Hid (b = true ↔ SmXs x.groups y.groups):=hb
    clear hb hl
    cases b with
    | false =>
     have HE : Hid (¬ Q):=Lib.hid (fun h => absurd (HE3.out.2 (HQ.out.1 h).2.2.2.2.2.2.2.1) (by simp))
     go_wp2
     exact bodyPost_ret (v:=.bool false) (by simp [results,Tryz.results12,go_sem]) rfl (eq_no HE.out HB3.out)
    | true =>
     have HT3 : Hid (SmXs x.groups y.groups):=HE3.out.1 rfl
     clear HE3
     have RA3:=Lib.hid ((HL3.out.block _ (Gx RA2.out)).trans RA2.out)
     have RB3:=Lib.hid ((HL3.out.block _ (Gx RB2.out)).trans RB2.out)
     clear s0 s1 s2 s3 s4 s5 s6 s7 s8 s9 s10 s11 s12 t0 t1 t2 t3 t4 t5 t6 t7 t8 t9 t10 t11 t12
     obtain ⟨⟨s0,s1,s2,s3,s4,s5,s6,s7,s8,s9,s10,s11,s12⟩,-⟩:=thirt_of RA3.out
     obtain ⟨⟨t0,t1,t2,t3,t4,t5,t6,t7,t8,t9,t10,t11,t12⟩,-⟩:=thirt_of RB3.out
     go_wp2_with fail
     refine (eq_sets x.sets y.sets a3 b3 c3 d3 _ (HA1.out.later HB3.out).rd.sets (HA2.out.later HB3.out).rd.sets).mono ?_
     rintro e w4 ⟨⟨b,rfl,hb⟩,hl⟩
     have HB4:=Hbt HB3 hl
     have HL4:=Lib.hid hl
     have HE4 : Hid (b = true ↔ SmSes x.sets y.sets):=hb
     clear hb hl
     cases b with
     | false =>
      have HE : Hid (¬ Q):=Lib.hid (fun h => absurd (HE4.out.2 (HQ.out.1 h).2.2.2.2.2.2.2.2.1) (by simp))
      go_wp2
      exact bodyPost_ret (v:=.bool false) (by simp [results,Tryz.results12,go_sem]) rfl (eq_no HE.out HB4.out)
     | true =>
      have HT4 : Hid (SmSes x.sets y.sets):=HE4.out.1 rfl
      clear HE4
      have RA4:=Lib.hid ((HL4.out.block _ (Gx RA3.out)).trans RA3.out)
      have RB4:=Lib.hid ((HL4.out.block _ (Gx RB3.out)).trans RB3.out)
      clear s0 s1 s2 s3 s4 s5 s6 s7 s8 s9 s10 s11 s12 t0 t1 t2 t3 t4 t5 t6 t7 t8 t9 t10 t11 t12
      obtain ⟨⟨s0,s1,s2,s3,s4,s5,s6,s7,s8,s9,s10,s11,s12⟩,-⟩:=thirt_of RA4.out
      obtain ⟨⟨t0,t1,t2,t3,t4,t5,t6,t7,t8,t9,t10,t11,t12⟩,-⟩:=thirt_of RB4.out
      go_wp2_with fail
      refine (eq_sorts x.sorts y.sorts a5 b5 c5 d5 _ (HA1.out.later HB4.out).sorts (HA2.out.later HB4.out).sorts).mono ?_
      rintro e w5 ⟨⟨b,rfl,hb⟩,hl⟩
      have HB5:=Hbt HB4 hl
      have HL5:=Lib.hid hl
      have HE5 : Hid (b = true ↔ SmSos x.sorts y.sorts):=hb
      clear hb hl
      cases b with
      | false =>
       have HE : Hid (¬ Q):=Lib.hid (fun h => absurd (HE5.out.2 (HQ.out.1 h).2.2.2.2.2.2.2.2.2.1) (by simp))
       go_wp2
       exact bodyPost_ret (v:=.bool false) (by simp [results,Tryz.results12,go_sem]) rfl (eq_no HE.out HB5.out)
      | true =>
       have HT5 : Hid (SmSos x.sorts y.sorts):=HE5.out.1 rfl
       clear HE5
       have RA5:=Lib.hid ((HL5.out.block _ (Gx RA4.out)).trans RA4.out)
       have RB5:=Lib.hid ((HL5.out.block _ (Gx RB4.out)).trans RB4.out)
       clear s0 s1 s2 s3 s4 s5 s6 s7 s8 s9 s10 s11 s12 t0 t1 t2 t3 t4 t5 t6 t7 t8 t9 t10 t11 t12
       obtain ⟨⟨s0,s1,s2,s3,s4,s5,s6,s7,s8,s9,s10,s11,s12⟩,-⟩:=thirt_of RA5.out
       obtain ⟨⟨t0,t1,t2,t3,t4,t5,t6,t7,t8,t9,t10,t11,t12⟩,-⟩:=thirt_of RB5.out
       go_wp2_with fail
       refine (eq_ints x.limit y.limit a6 b6 c6 d6 _ (HA1.out.later HB5.out).limit (HA2.out.later HB5.out).limit).mono ?_
       rintro e w6 ⟨⟨b,rfl,hb⟩,hl⟩
       have HB6:=Hbt HB5 hl
       have HL6:=Lib.hid hl
       have HE6 : Hid (b = true ↔ x.limit = y.limit):=hb
       clear hb hl
       cases b with
       | false =>
        have HE : Hid (¬ Q):=Lib.hid (fun h => absurd (HE6.out.2 (HQ.out.1 h).2.2.2.2.2.2.2.2.2.2) (by simp))
        go_wp2
        exact bodyPost_ret (v:=.bool false) (by simp [results,Tryz.results12,go_sem]) rfl (eq_no HE.out HB6.out)
       | true =>
        have HT6 : Hid (x.limit = y.limit):=HE6.out.1 rfl
        clear HE6
        have HE : Hid Q:=Lib.hid (HQ.out.2 ⟨HF.out.1.trans HF.out.2.1.symm,HF.out.2.2.1.trans HF.out.2.2.2.1.symm,HF.out.2.2.2.2.1.trans HF.out.2.2.2.2.2.1.symm,HF.out.2.2.2.2.2.2.1.trans HF.out.2.2.2.2.2.2.2.symm,HT0.out,HT1.out,HT2.out,HT3.out,HT4.out,HT5.out,HT6.out⟩)
        go_wp2
        exact bodyPost_ret (v:=.bool true) (by simp [results,Tryz.results12,go_sem]) rfl (eq_yes HE.out HB6.out)
end Go.Proofs.YtbfjmccpcbhljaaGreatDoor
