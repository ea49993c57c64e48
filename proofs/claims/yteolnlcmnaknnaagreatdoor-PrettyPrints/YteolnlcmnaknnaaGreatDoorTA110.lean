/- A110 -/
import Derived.Test.YteolnlcmnaknnaaGreatDoorTA108p
set_option maxHeartbeats 64000000
set_option maxRecDepth 100000
namespace Go.Proofs.YteolnlcmnaknnaaGreatDoor
open Go.RowKit
structure DSel (t : St) : Prop where
 items : ∀ i (h : i < t.items.length),DIt t.items[i]
 groups : ∀ i (h : i < t.groups.length),DRt 16 t.groups[i] ∧ kindOf t.groups[i] = 3
 sorts : ∀ i (h : i < t.sorts.length),RtSo t.sorts[i]
 limit : ∀ i (h : i < t.limit.length),RtN t.limit[i]
 on : ∀ i (h : i < t.on.length),DRt 16 t.on[i]
 joined : (isName t.join = true ∧ t.on.length = 1) ∨ (t.join = ⟨#[]⟩ ∧ t.on.length = 0)
 star : t.star = decide (t.items.length = 0)
 items8 : t.items.length ≤ 8
 groups8 : t.groups.length ≤ 8
 sorts8 : t.sorts.length ≤ 8
 limit1 : t.limit.length ≤ 1
 sets : t.sets.length = 0

theorem dRightSelect_any (t : St) (a0 a1 a2 a3 a4 a5 a6 : Option Addr) (c0 c1 c2 c3 c4 c5 c6 : Nat) (w : World) (h : StRA w t (.slice a0 t.on.length c0) (.slice a1 t.whr.length c1) (.slice a2 t.items.length c2) (.slice a3 t.sets.length c3) (.slice a4 t.groups.length c4) (.slice a5 t.sorts.length c5) (.slice a6 t.limit.length c6)) : Calls Tryz.prog 46 #[.agg #[.int .i64 t.kind,.string t.table,.string t.join,.slice a0 t.on.length c0,.slice a1 t.whr.length c1,.slice a2 t.items.length c2,.bool t.star,.slice a3 t.sets.length c3,.slice a4 t.groups.length c4,.slice a5 t.sorts.length c5,.slice a6 t.limit.length c6,.int .i64 t.place,.int .i64 t.joinAt]] w (EqPost (DSel t) w):=by
 obtain ⟨Q,hQ⟩ : ∃ Q,DSel t = Q:=⟨_,rfl⟩
 have HQ : Hid (Q ↔ DSel t):=Lib.hid (hQ ▸ Iff.rfl)
 rw [hQ]
 clear hQ
 have HA:=Lib.hid h
 clear h
 obtain ⟨join_,ej⟩ : ∃ z,t.join = z:=⟨_,rfl⟩
 obtain ⟨star_,es⟩ : ∃ z,t.star = z:=⟨_,rfl⟩
 have HF : Hid (t.join = join_ ∧ t.star = star_):=⟨ej,es⟩
 rw [ej,es]
 clear ej es
 obtain ⟨W,hW⟩ : ∃ W,w.alloc (.cells #[.int .i64 t.kind,.string t.table,.string join_,.slice a0 t.on.length c0,.slice a1 t.whr.length c1,.slice a2 t.items.length c2,.bool star_,.slice a3 t.sets.length c3,.slice a4 t.groups.length c4,.slice a5 t.sorts.length c5,.slice a6 t.limit.length c6,.int .i64 t.place,.int .i64 t.joinAt] 27) = W:=⟨_,rfl⟩
 have hb : Below w.heap.size w W:=hW ▸ (Below.refl _ _).alloc (Nat.le_refl _) _
 have hr : W.heap[w.heap.size]? = some (.cells #[.int .i64 t.kind,.string t.table,.string join_,.slice a0 t.on.length c0,.slice a1 t.whr.length c1,.slice a2 t.items.length c2,.bool star_,.slice a3 t.sets.length c3,.slice a4 t.groups.length c4,.slice a5 t.sorts.length c5,.slice a6 t.limit.length c6,.int .i64 t.place,.int .i64 t.joinAt] 27 (0,0)):=hW ▸ heap_alloc_new w _
 have HB:=Lib.hid hb
 have RE:=Lib.hid hr
 have hsz : w.heap.size < W.heap.size:=(Gx hr)
 clear hb hr
 go_enter Tryz.func46,Tryz.ntmps46
 go_wp2_with fail
 clear hW
 go_loopw [3] (fun i wr => ∃ k : Nat,k ≤ t.items.length ∧ i = .int .i64 (k : Int) ∧ (∀ j (h : j < t.items.length),j < k → DIt t.items[j]) ∧ Below W.heap.size W wr) (fun i _ => t.items.length - (intOf i).toNat)
 case atStart => exact ⟨0,Nat.zero_le _,rfl,fun _ _ h => absurd h (Nat.not_lt_zero _),by first | exact Below.refl _ _ | exact (Below.refl _ _).drew⟩
 case round =>
  rename World => R
  obtain ⟨k,hk,rfl,hall,hb⟩:=hrel
  have HALL:=Lib.hid hall
  have HW:=Lib.hid hb
  have hin : Below w.heap.size w R:=HB.out.trans (hb.mono HB.out.size)
  have HBW:=Lib.hid hin
  obtain ⟨⟨y0,y1,y2,y3,y4,y5,y6,y7,y8,y9,y10,y11,y12⟩,-⟩:=thirt_of ((hb.block _ hsz).trans RE.out)
  clear hall hb hin
  by_cases hlt : k < t.items.length
  ·have hlti : (k : Int) < (t.items.length : Int):=by omega
   obtain ⟨p',c',ks,e,_,_,hlk,hrow,hxs⟩:=HA.out.rd.items
   injection e with e1 _ e3
   subst e1 e3
   have hlt' : k < ks.length:=by rw [← hlk]; exact hlt
   obtain ⟨b,off,e4,hcs⟩:=hrow k hlt hlt'
   subst e4
   have hxk:=hxs k hlt hlt'
   clear hrow hxs hlk
   obtain ⟨a2,m2,c2,hks⟩:=hxk.slice
   rw [hks] at hcs hxk
   obtain ⟨⟨kk2,oo2,⟨u1,u2,u3⟩,tt2,nn2,ks2,pp2⟩,hxx⟩ : ∃ x,t.items[k] = x:=⟨_,rfl⟩
   rw [hxx] at hcs hxk
   have HXK:=Lib.hid hxk
   have HXE:=Lib.hid hxx
   clear hks hxk hxx
   have HCS : Hid (∀ j u,[.int .i64 kk2,.int .i64 oo2,.int .i64 u1,.int .i64 u2,.string u3,.string tt2,.string nn2,.slice a2 m2 c2,.int .i64 pp2][j]? = some u → w.cell? ⟨b,off + k * 9 + j,none⟩ = some u):=hcs
   clear hcs
   have q0:=Cl HBW.out (HCS.out 0 _ rfl)
   have q1:=Cl HBW.out (HCS.out 1 _ rfl)
   have q2:=Cl HBW.out (HCS.out 2 _ rfl)
   have q3:=Cl HBW.out (HCS.out 3 _ rfl)
   have q4:=Cl HBW.out (HCS.out 4 _ rfl)
   have q5:=Cl HBW.out (HCS.out 5 _ rfl)
   have q6:=Cl HBW.out (HCS.out 6 _ rfl)
   have q7:=Cl HBW.out (HCS.out 7 _ rfl)
   have q8:=Cl HBW.out (HCS.out 8 _ rfl)
   simp only [Nat.add_zero] at q0
   go_wp2_with fail
   refine (dRightItem_any (Ex.mk kk2 oo2 (u1,u2,u3) tt2 nn2 ks2 pp2) _ _ (HXK.out.later HBW.out)).mono ?_
   rintro e w3 ⟨⟨fine,rfl,hf⟩,hl⟩
   have HFI : Hid (fine = true ↔ DIt t.items[k]):=Lib.hid (hf.trans (by rw [HXE.out]))
   have HW2:=Hbt HW hl
   have HBW2:=Hbt HBW hl
   clear hf hl q0 q1 q2 q3 q4 q5 q6 q7 q8 y0 y1 y2 y3 y4 y5 y6 y7 y8 y9 y10 y11 y12
   cases fine with
   | false =>
    have HE : Hid (¬ Q):=Lib.hid (fun h => absurd (HFI.out.2 ((HQ.out.1 h).items k hlt)) (by simp))
    go_wp2
    exact bodyPost_ret (v:=.bool false) (by simp [results,Tryz.results46,go_sem]) rfl (eq_no HE.out HBW2.out)
   | true =>
    have HALL2 : Hid (∀ j (h : j < t.items.length),j < k + 1 → DIt t.items[j]):=fun j h hj => by
     by_cases e : j = k
     ·subst e; exact HFI.out.1 rfl
     ·exact HALL.out j h (by omega)
    go_wp2
    go_roundw
    case rel => exact ⟨k + 1,by omega,by go_num,HALL2.out,HW2.out⟩
    case measure => simp [intOf]; omega
  ·have hnlt : ¬ (k : Int) < (t.items.length : Int):=by omega
   have HG1 : Hid (∀ i (h : i < t.items.length),DIt t.items[i]):=fun i h => HALL.out i h (by omega)
   clear HALL hk hlt
   go_wp2
   clear hnlt
   go_loopw [5] (fun i wr => ∃ k : Nat,k ≤ t.groups.length ∧ i = .int .i64 (k : Int) ∧ (∀ j (h : j < t.groups.length),j < k → DRt 16 t.groups[j] ∧ kindOf t.groups[j] = 3) ∧ Below W.heap.size W wr) (fun i _ => t.groups.length - (intOf i).toNat)
   case atStart => exact ⟨0,Nat.zero_le _,rfl,fun _ _ h => absurd h (Nat.not_lt_zero _),HW.out⟩
   case round =>
    clear HW HBW y0 y1 y2 y3 y4 y5 y6 y7 y8 y9 y10 y11 y12
    rename World => R
    obtain ⟨k,hk,rfl,hall,hb⟩:=hrel
    have HALL:=Lib.hid hall
    have HW:=Lib.hid hb
    have hin : Below w.heap.size w R:=HB.out.trans (hb.mono HB.out.size)
    have HBW:=Lib.hid hin
    obtain ⟨⟨y0,y1,y2,y3,y4,y5,y6,y7,y8,y9,y10,y11,y12⟩,-⟩:=thirt_of ((hb.block _ hsz).trans RE.out)
    clear hall hb hin
    by_cases hlt : k < t.groups.length
    ·have hlti : (k : Int) < (t.groups.length : Int):=by omega
     obtain ⟨p',c',ks,e,_,_,hlk,hrow,hxs⟩:=HA.out.rd.groups
     injection e with e1 _ e3
     subst e1 e3
     have hlt' : k < ks.length:=by rw [← hlk]; exact hlt
     obtain ⟨b,off,e4,hcs⟩:=hrow k hlt hlt'
     subst e4
     have hxk:=hxs k hlt hlt'
     clear hrow hxs hlk
     obtain ⟨a2,m2,c2,hks⟩:=hxk.slice
     rw [hks] at hcs hxk
     obtain ⟨⟨kk2,oo2,⟨u1,u2,u3⟩,tt2,nn2,ks2,pp2⟩,hxx⟩ : ∃ x,t.groups[k] = x:=⟨_,rfl⟩
     rw [hxx] at hcs hxk
     have HXK:=Lib.hid hxk
     have HXE:=Lib.hid hxx
     clear hks hxk hxx
     have HCS : Hid (∀ j u,[.int .i64 kk2,.int .i64 oo2,.int .i64 u1,.int .i64 u2,.string u3,.string tt2,.string nn2,.slice a2 m2 c2,.int .i64 pp2][j]? = some u → w.cell? ⟨b,off + k * 9 + j,none⟩ = some u):=hcs
     clear hcs
     have q0:=Cl HBW.out (HCS.out 0 _ rfl)
     have q1:=Cl HBW.out (HCS.out 1 _ rfl)
     have q2:=Cl HBW.out (HCS.out 2 _ rfl)
     have q3:=Cl HBW.out (HCS.out 3 _ rfl)
     have q4:=Cl HBW.out (HCS.out 4 _ rfl)
     have q5:=Cl HBW.out (HCS.out 5 _ rfl)
     have q6:=Cl HBW.out (HCS.out 6 _ rfl)
     have q7:=Cl HBW.out (HCS.out 7 _ rfl)
     have q8:=Cl HBW.out (HCS.out 8 _ rfl)
     simp only [Nat.add_zero] at q0
     go_wp2_with fail
     refine (dRight1 (Ex.mk kk2 oo2 (u1,u2,u3) tt2 nn2 ks2 pp2) _ _ (HXK.out.later HBW.out)).mono ?_
     rintro e w3 ⟨⟨fine,rfl,hf⟩,hl⟩
     have HFI : Hid (fine = true ↔ DRt 16 t.groups[k]):=Lib.hid (hf.trans (by rw [HXE.out]))
     have HW2:=Hbt HW hl
     have HBW2:=Hbt HBW hl
     have r0:=(hl.cell (World.block_lt_of_cell? _ _ q0)).trans q0
     obtain ⟨⟨z0,z1,z2,z3,z4,z5,z6,z7,z8,z9,z10,z11,z12⟩,-⟩:=thirt_of ((HW2.out.block _ hsz).trans RE.out)
     clear hf hl q0 q1 q2 q3 q4 q5 q6 q7 q8 y0 y1 y2 y3 y4 y5 y6 y7 y8 y9 y10 y11 y12
     cases fine with
     | false =>
      have HE : Hid (¬ Q):=Lib.hid (fun h => absurd (HFI.out.2 ((HQ.out.1 h).groups k hlt).1) (by simp))
      go_wp2
      exact bodyPost_ret (v:=.bool false) (by simp [results,Tryz.results46,go_sem]) rfl (eq_no HE.out HBW2.out)
     | true =>
      by_cases h3 : kk2 = 3
      rotate_left
      ·have d3 : (kk2 != 3) = true:=by simpa using h3
       have HE : Hid (¬ Q):=Lib.hid (fun h => h3 (by have:=((HQ.out.1 h).groups k hlt).2; rw [HXE.out] at this; exact this))
       go_wp2
       exact bodyPost_ret (v:=.bool false) (by simp [results,Tryz.results46,go_sem]) rfl (eq_no HE.out HBW2.out)
      have H3 : Hid (kindOf t.groups[k] = 3):=Lib.hid (by rw [HXE.out]; exact h3)
      subst h3
      have HALL2 : Hid (∀ j (h : j < t.groups.length),j < k + 1 → DRt 16 t.groups[j] ∧ kindOf t.groups[j] = 3):=fun j h hj => by
       by_cases e : j = k
       ·subst e; exact ⟨HFI.out.1 rfl,H3.out⟩
       ·exact HALL.out j h (by omega)
      go_wp2
      go_roundw
      case rel => exact ⟨k + 1,by omega,by go_num,HALL2.out,HW2.out⟩
      case measure => simp [intOf]; omega
    ·have hnlt : ¬ (k : Int) < (t.groups.length : Int):=by omega
     have HG2 : Hid (∀ i (h : i < t.groups.length),DRt 16 t.groups[i] ∧ kindOf t.groups[i] = 3):=fun i h => HALL.out i h (by omega)
     clear HALL hk hlt
     go_wp2
     clear hnlt
     go_loopw [7] (fun i wr => ∃ k : Nat,k ≤ t.sorts.length ∧ i = .int .i64 (k : Int) ∧ (∀ j (h : j < t.sorts.length),j < k → RtSo t.sorts[j]) ∧ Below W.heap.size W wr) (fun i _ => t.sorts.length - (intOf i).toNat)
     case atStart => exact ⟨0,Nat.zero_le _,rfl,fun _ _ h => absurd h (Nat.not_lt_zero _),HW.out⟩
     case round =>
      clear HW HBW y0 y1 y2 y3 y4 y5 y6 y7 y8 y9 y10 y11 y12
      rename World => R
      obtain ⟨k,hk,rfl,hall,hb⟩:=hrel
      have HALL:=Lib.hid hall
      have HW:=Lib.hid hb
      have hin : Below w.heap.size w R:=HB.out.trans (hb.mono HB.out.size)
      have HBW:=Lib.hid hin
      obtain ⟨⟨y0,y1,y2,y3,y4,y5,y6,y7,y8,y9,y10,y11,y12⟩,-⟩:=thirt_of ((hb.block _ hsz).trans RE.out)
      clear hall hb hin
      by_cases hlt : k < t.sorts.length
      ·have hlti : (k : Int) < (t.sorts.length : Int):=by omega
       obtain ⟨p',c',e,_,_,hrow⟩:=HA.out.sorts
       injection e with e1 _ e3
       subst e1 e3
       obtain ⟨b,off,e4,hcs⟩:=hrow k hlt
       subst e4
       clear hrow
       obtain ⟨⟨it,ds,pl⟩,hxx⟩ : ∃ x,t.sorts[k] = x:=⟨_,rfl⟩
       rw [hxx] at hcs
       have h0:=hcs 0 (.int .i64 it) rfl
       simp only [Nat.add_zero] at h0
       have q0:=(HBW.out.cell (World.block_lt_of_cell? _ _ h0)).trans h0
       clear hcs h0
       have HXE : Hid (RtSo t.sorts[k] ↔ 0 ≤ it ∧ it ≤ 4611686018427387904):=Lib.hid (by rw [hxx]; exact Iff.rfl)
       clear hxx
       by_cases h1 : it < 0
       ·have HE : Hid (¬ Q):=Lib.hid (fun h => absurd (HXE.out.1 ((HQ.out.1 h).sorts k hlt)).1 (by omega))
        go_wp2
        exact bodyPost_ret (v:=.bool false) (by simp [results,Tryz.results46,go_sem]) rfl (eq_no HE.out HBW.out)
       by_cases h2 : 4611686018427387904 < it
       ·have HE : Hid (¬ Q):=Lib.hid (fun h => absurd (HXE.out.1 ((HQ.out.1 h).sorts k hlt)).2 (by omega))
        go_wp2
        exact bodyPost_ret (v:=.bool false) (by simp [results,Tryz.results46,go_sem]) rfl (eq_no HE.out HBW.out)
       have HOK : Hid (RtSo t.sorts[k]):=HXE.out.2 ⟨by omega,by omega⟩
       have HALL2 : Hid (∀ j (h : j < t.sorts.length),j < k + 1 → RtSo t.sorts[j]):=fun j h hj => by
        by_cases e : j = k
        ·subst e; exact HOK.out
        ·exact HALL.out j h (by omega)
       go_wp2
       go_roundw
       case rel => exact ⟨k + 1,by omega,by go_num,HALL2.out,HW.out⟩
       case measure => simp [intOf]; omega
      ·have hnlt : ¬ (k : Int) < (t.sorts.length : Int):=by omega
       have HG3 : Hid (∀ i (h : i < t.sorts.length),RtSo t.sorts[i]):=fun i h => HALL.out i h (by omega)
       clear HALL hk hlt
       go_wp2
       clear hnlt
       go_loopw [8] (fun i wr => ∃ k : Nat,k ≤ t.limit.length ∧ i = .int .i64 (k : Int) ∧ (∀ j (h : j < t.limit.length),j < k → RtN t.limit[j]) ∧ Below W.heap.size W wr) (fun i _ => t.limit.length - (intOf i).toNat)
       case atStart => exact ⟨0,Nat.zero_le _,rfl,fun _ _ h => absurd h (Nat.not_lt_zero _),HW.out⟩
       case round =>
        clear HW HBW y0 y1 y2 y3 y4 y5 y6 y7 y8 y9 y10 y11 y12
        rename World => R
        obtain ⟨k,hk,rfl,hall,hb⟩:=hrel
        have HALL:=Lib.hid hall
        have HW:=Lib.hid hb
        have hin : Below w.heap.size w R:=HB.out.trans (hb.mono HB.out.size)
        have HBW:=Lib.hid hin
        obtain ⟨⟨y0,y1,y2,y3,y4,y5,y6,y7,y8,y9,y10,y11,y12⟩,-⟩:=thirt_of ((hb.block _ hsz).trans RE.out)
        clear hall hb hin
        by_cases hlt : k < t.limit.length
        ·have hlti : (k : Int) < (t.limit.length : Int):=by omega
         obtain ⟨p',c',e,_,_,hrow⟩:=HA.out.limit
         injection e with e1 _ e3
         subst e1 e3
         obtain ⟨b,off,e4,hcs⟩:=hrow k hlt
         subst e4
         clear hrow
         obtain ⟨it,hxx⟩ : ∃ x,t.limit[k] = x:=⟨_,rfl⟩
         rw [hxx] at hcs
         have q0:=(HBW.out.cell (World.block_lt_of_cell? _ _ hcs)).trans hcs
         clear hcs
         have HXE : Hid (RtN t.limit[k] ↔ 0 ≤ it ∧ it ≤ 4611686018427387904):=Lib.hid (by rw [hxx]; exact Iff.rfl)
         clear hxx
         by_cases h1 : it < 0
         ·have HE : Hid (¬ Q):=Lib.hid (fun h => absurd (HXE.out.1 ((HQ.out.1 h).limit k hlt)).1 (by omega))
          go_wp2
          exact bodyPost_ret (v:=.bool false) (by simp [results,Tryz.results46,go_sem]) rfl (eq_no HE.out HBW.out)
         by_cases h2 : 4611686018427387904 < it
         ·have HE : Hid (¬ Q):=Lib.hid (fun h => absurd (HXE.out.1 ((HQ.out.1 h).limit k hlt)).2 (by omega))
          go_wp2
          exact bodyPost_ret (v:=.bool false) (by simp [results,Tryz.results46,go_sem]) rfl (eq_no HE.out HBW.out)
         have HOK : Hid (RtN t.limit[k]):=HXE.out.2 ⟨by omega,by omega⟩
         have HALL2 : Hid (∀ j (h : j < t.limit.length),j < k + 1 → RtN t.limit[j]):=fun j h hj => by
          by_cases e : j = k
          ·subst e; exact HOK.out
          ·exact HALL.out j h (by omega)
         go_wp2
         go_roundw
         case rel => exact ⟨k + 1,by omega,by go_num,HALL2.out,HW.out⟩
         case measure => simp [intOf]; omega
        ·have hnlt : ¬ (k : Int) < (t.limit.length : Int):=by omega
         have HG4 : Hid (∀ i (h : i < t.limit.length),RtN t.limit[i]):=fun i h => HALL.out i h (by omega)
         clear HALL hk hlt
         go_wp2_with fail
         clear hnlt
         refine (dIsName_any join_ _).mono ?_
         rintro e w' ⟨rfl,hw⟩
         replace hw:=hw.symm
         subst hw
         obtain ⟨bj,hbj⟩ : ∃ b,isName join_ = b:=⟨_,rfl⟩
         rw [hbj]
         have HBJ:=Lib.hid hbj
         clear hbj
         go_wp2_with fail
         refine (dRights_any t.on a0 c0 _ (HA.out.later HBW.out).rd.on).mono ?_
         rintro e w3 ⟨⟨bo,rfl,hbo⟩,hl⟩
         have HBO:=Lib.hid hbo
         have HB3:=Hbt HBW hl
         have R3:=Lib.hid ((hl.block _ (Array.getElem?_eq_some_iff.1 ((HW.out.block _ hsz).trans RE.out)).1).trans ((HW.out.block _ hsz).trans RE.out))
         clear hbo hl y0 y1 y2 y3 y4 y5 y6 y7 y8 y9 y10 y11 y12
         obtain ⟨⟨y0,y1,y2,y3,y4,y5,y6,y7,y8,y9,y10,y11,y12⟩,-⟩:=thirt_of R3.out
         obtain ⟨z1,hz1⟩ : ∃ z,((t.items.length : Int) == 0) = z:=⟨_,rfl⟩
         have HZ1 : Hid (decide (t.items.length = 0) = z1):=Lib.hid (by rw [← hz1,Bool.eq_iff_iff]; simp)
         cases bj with
         | true =>
          have hjn : ¬ join_ = ⟨#[]⟩:=fun e => by have:=HBJ.out; rw [e,name_empty] at this; cases this
          obtain ⟨e1,e2⟩:=not_nil hjn
          have e3:=str_ne hjn
          have HJN:=Lib.hid hjn
          clear hjn
          by_cases o1 : t.on.length = 1
          ·have d1 : ((t.on.length : Int) == 1) = true:=by simp [o1]
           have HO1:=Lib.hid o1
           clear o1
           cases bo with
           | false =>
            have HE : Hid (¬ Q):=Lib.hid (fun h => absurd (HBO.out.2 (HQ.out.1 h).on) (by simp))
            go_wp2
            exact bodyPost_ret (v:=.bool false) (by simp [results,Tryz.results46,go_sem]) rfl (eq_no HE.out HB3.out)
           | true =>
            by_cases n1 : star_ = z1
            rotate_left
            ·have HE : Hid (¬ Q):=Lib.hid (fun h => n1 (HF.out.2.symm.trans ((HQ.out.1 h).star.trans HZ1.out)))
             cases star_ <;> cases z1 <;> (first | exact absurd rfl n1 | (clear n1; go_wp2; exact bodyPost_ret (v:=.bool false) (by simp [results,Tryz.results46,go_sem]) rfl (eq_no HE.out HB3.out)))
            have HN1 : Hid (t.star = decide (t.items.length = 0)):=Lib.hid (HF.out.2.trans (n1.trans HZ1.out.symm))
            subst n1
            by_cases m0 : (t.items.length : Int) ≤ 8
            rotate_left
            ·have HE : Hid (¬ Q):=Lib.hid (fun h => absurd (HQ.out.1 h).items8 (by omega))
             go_wp2
             exact bodyPost_ret (v:=.bool false) (by simp [results,Tryz.results46,go_sem]) rfl (eq_no HE.out HB3.out)
            by_cases m1 : (t.groups.length : Int) ≤ 8
            rotate_left
            ·have HE : Hid (¬ Q):=Lib.hid (fun h => absurd (HQ.out.1 h).groups8 (by omega))
             go_wp2
             exact bodyPost_ret (v:=.bool false) (by simp [results,Tryz.results46,go_sem]) rfl (eq_no HE.out HB3.out)
            by_cases m2 : (t.sorts.length : Int) ≤ 8
            rotate_left
            ·have HE : Hid (¬ Q):=Lib.hid (fun h => absurd (HQ.out.1 h).sorts8 (by omega))
             go_wp2
             exact bodyPost_ret (v:=.bool false) (by simp [results,Tryz.results46,go_sem]) rfl (eq_no HE.out HB3.out)
            by_cases m3 : (t.limit.length : Int) ≤ 1
            rotate_left
            ·have HE : Hid (¬ Q):=Lib.hid (fun h => absurd (HQ.out.1 h).limit1 (by omega))
             go_wp2
             exact bodyPost_ret (v:=.bool false) (by simp [results,Tryz.results46,go_sem]) rfl (eq_no HE.out HB3.out)
            by_cases m4 : t.sets.length = 0
            rotate_left
            ·have d4 : ((t.sets.length : Int) == 0) = false:=by simpa using m4
             have HE : Hid (¬ Q):=Lib.hid (fun h => m4 (HQ.out.1 h).sets)
             go_wp2
             exact bodyPost_ret (v:=.bool false) (by simp [results,Tryz.results46,go_sem]) rfl (eq_no HE.out HB3.out)
            have d4 : ((t.sets.length : Int) == 0) = true:=by simpa using m4
            have HE : Hid Q:=HQ.out.2 ⟨HG1.out,HG2.out,HG3.out,HG4.out,HBO.out.1 rfl,Or.inl ⟨HF.out.1 ▸ HBJ.out,HO1.out⟩,HN1.out,by omega,by omega,by omega,by omega,m4⟩
            clear m4
            go_wp2
            exact bodyPost_ret (v:=.bool true) (by simp [results,Tryz.results46,go_sem]) rfl (eq_yes HE.out HB3.out)
          ·have d1 : ((t.on.length : Int) == 1) = false:=by simp; omega
           have HE : Hid (¬ Q):=Lib.hid (fun h => by
            rcases (HQ.out.1 h).joined with ⟨_,e⟩ | ⟨e,_⟩
            ·exact o1 e
            ·exact HJN.out (HF.out.1.symm.trans e))
           clear o1
           cases bo <;> (go_wp2; exact bodyPost_ret (v:=.bool false) (by simp [results,Tryz.results46,go_sem]) rfl (eq_no HE.out HB3.out))
         | false =>
          by_cases hj : join_ = ⟨#[]⟩
          rotate_left
          ·obtain ⟨e1,e2⟩:=not_nil hj
           have e3:=str_ne hj
           have HE : Hid (¬ Q):=Lib.hid (fun h => by
            rcases (HQ.out.1 h).joined with ⟨e,_⟩ | ⟨e,_⟩
            ·rw [HF.out.1,HBJ.out] at e; cases e
            ·exact hj (HF.out.1.symm.trans e))
           clear hj
           cases bo <;> (go_wp2; exact bodyPost_ret (v:=.bool false) (by simp [results,Tryz.results46,go_sem]) rfl (eq_no HE.out HB3.out))
          have HJ : Hid (t.join = ⟨#[]⟩):=Lib.hid (HF.out.1.trans hj)
          subst hj
          by_cases o1 : t.on.length = 0
          ·have d1 : ((t.on.length : Int) == 0) = true:=by simp [o1]
           have HO1:=Lib.hid o1
           clear o1
           cases bo with
           | false =>
            have HE : Hid (¬ Q):=Lib.hid (fun h => absurd (HBO.out.2 (HQ.out.1 h).on) (by simp))
            go_wp2
            exact bodyPost_ret (v:=.bool false) (by simp [results,Tryz.results46,go_sem]) rfl (eq_no HE.out HB3.out)
           | true =>
            by_cases n1 : star_ = z1
            rotate_left
            ·have HE : Hid (¬ Q):=Lib.hid (fun h => n1 (HF.out.2.symm.trans ((HQ.out.1 h).star.trans HZ1.out)))
             cases star_ <;> cases z1 <;> (first | exact absurd rfl n1 | (clear n1; go_wp2; exact bodyPost_ret (v:=.bool false) (by simp [results,Tryz.results46,go_sem]) rfl (eq_no HE.out HB3.out)))
            have HN1 : Hid (t.star = decide (t.items.length = 0)):=Lib.hid (HF.out.2.trans (n1.trans HZ1.out.symm))
            subst n1
            by_cases m0 : (t.items.length : Int) ≤ 8
            rotate_left
            ·have HE : Hid (¬ Q):=Lib.hid (fun h => absurd (HQ.out.1 h).items8 (by omega))
             go_wp2
             exact bodyPost_ret (v:=.bool false) (by simp [results,Tryz.results46,go_sem]) rfl (eq_no HE.out HB3.out)
            by_cases m1 : (t.groups.length : Int) ≤ 8
            rotate_left
            ·have HE : Hid (¬ Q):=Lib.hid (fun h => absurd (HQ.out.1 h).groups8 (by omega))
             go_wp2
             exact bodyPost_ret (v:=.bool false) (by simp [results,Tryz.results46,go_sem]) rfl (eq_no HE.out HB3.out)
            by_cases m2 : (t.sorts.length : Int) ≤ 8
            rotate_left
            ·have HE : Hid (¬ Q):=Lib.hid (fun h => absurd (HQ.out.1 h).sorts8 (by omega))
             go_wp2
             exact bodyPost_ret (v:=.bool false) (by simp [results,Tryz.results46,go_sem]) rfl (eq_no HE.out HB3.out)
            by_cases m3 : (t.limit.length : Int) ≤ 1
            rotate_left
            ·have HE : Hid (¬ Q):=Lib.hid (fun h => absurd (HQ.out.1 h).limit1 (by omega))
             go_wp2
             exact bodyPost_ret (v:=.bool false) (by simp [results,Tryz.results46,go_sem]) rfl (eq_no HE.out HB3.out)
            by_cases m4 : t.sets.length = 0
            rotate_left
            ·have d4 : ((t.sets.length : Int) == 0) = false:=by simpa using m4
             have HE : Hid (¬ Q):=Lib.hid (fun h => m4 (HQ.out.1 h).sets)
             go_wp2
             exact bodyPost_ret (v:=.bool false) (by simp [results,Tryz.results46,go_sem]) rfl (eq_no HE.out HB3.out)
            have d4 : ((t.sets.length : Int) == 0) = true:=by simpa using m4
            have HE : Hid Q:=HQ.out.2 ⟨HG1.out,HG2.out,HG3.out,HG4.out,HBO.out.1 rfl,Or.inr ⟨HJ.out,HO1.out⟩,HN1.out,by omega,by omega,by omega,by omega,m4⟩
            clear m4
            go_wp2
            exact bodyPost_ret (v:=.bool true) (by simp [results,Tryz.results46,go_sem]) rfl (eq_yes HE.out HB3.out)
          ·have d1 : ((t.on.length : Int) == 0) = false:=by simpa using o1
           have HE : Hid (¬ Q):=Lib.hid (fun h => by
            rcases (HQ.out.1 h).joined with ⟨e,_⟩ | ⟨_,e⟩
            ·rw [HF.out.1,HBJ.out] at e; cases e
            ·exact o1 e)
           clear o1
           cases bo <;> (go_wp2; exact bodyPost_ret (v:=.bool false) (by simp [results,Tryz.results46,go_sem]) rfl (eq_no HE.out HB3.out))
end Go.Proofs.YteolnlcmnaknnaaGreatDoor
