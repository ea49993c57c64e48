/- A113 -/
import Derived.Test.YtffalonhkemieaaGreatDoorSA112
set_option maxHeartbeats 64000000
set_option maxRecDepth 100000
namespace Go.Proofs.YtffalonhkemieaaGreatDoor
open Go.RowKit
theorem dSame_any (x y : St) (a0 a1 a2 a3 a4 a5 a6 b0 b1 b2 b3 b4 b5 b6 : Option Addr) (c0 c1 c2 c3 c4 c5 c6 d0 d1 d2 d3 d4 d5 d6 : Nat) (w : World) (h1 : StRA w x (.slice a0 x.on.length c0) (.slice a1 x.whr.length c1) (.slice a2 x.items.length c2) (.slice a3 x.sets.length c3) (.slice a4 x.groups.length c4) (.slice a5 x.sorts.length c5) (.slice a6 x.limit.length c6)) (h2 : StRA w y (.slice b0 y.on.length d0) (.slice b1 y.whr.length d1) (.slice b2 y.items.length d2) (.slice b3 y.sets.length d3) (.slice b4 y.groups.length d4) (.slice b5 y.sorts.length d5) (.slice b6 y.limit.length d6)) : Calls Tryz.prog 17 #[.agg (Vt x.kind x.table x.join (.slice a0 x.on.length c0) (.slice a1 x.whr.length c1) (.slice a2 x.items.length c2) x.star (.slice a3 x.sets.length c3) (.slice a4 x.groups.length c4) (.slice a5 x.sorts.length c5) (.slice a6 x.limit.length c6) x.place x.joinAt),.agg (Vt y.kind y.table y.join (.slice b0 y.on.length d0) (.slice b1 y.whr.length d1) (.slice b2 y.items.length d2) y.star (.slice b3 y.sets.length d3) (.slice b4 y.groups.length d4) (.slice b5 y.sorts.length d5) (.slice b6 y.limit.length d6) y.place y.joinAt)] w (EqPost (SmSt x y) w):=by
 obtain ⟨Q,hQ⟩:=Vx (SmSt x y)
 have HQ : Hid (Q ↔ SmSt x y):=Hd (hQ ▸ Iff.rfl)
 rw [hQ]
 clear hQ
 have HA1:=Hd h1
 have HA2:=Hd h2
 clear h1 h2
 obtain ⟨kind_x,ekindx⟩:=Vx x.kind
 obtain ⟨kind_y,ekindy⟩:=Vx y.kind
 obtain ⟨table_x,etablex⟩:=Vx x.table
 obtain ⟨table_y,etabley⟩:=Vx y.table
 obtain ⟨join_x,ejoinx⟩:=Vx x.join
 obtain ⟨join_y,ejoiny⟩:=Vx y.join
 obtain ⟨star_x,estarx⟩:=Vx x.star
 obtain ⟨star_y,estary⟩:=Vx y.star
 have HF : Hid (x.kind = kind_x ∧ y.kind = kind_y ∧ x.table = table_x ∧ y.table = table_y ∧ x.join = join_x ∧ y.join = join_y ∧ x.star = star_x ∧ y.star = star_y):=⟨ekindx,ekindy,etablex,etabley,ejoinx,ejoiny,estarx,estary⟩
 rw [ekindx,ekindy,etablex,etabley,ejoinx,ejoiny,estarx,estary]
 clear ekindx ekindy etablex etabley ejoinx ejoiny estarx estary
 obtain ⟨W,hW⟩:=Vx ((w.alloc (.cells (Vt kind_x table_x join_x (.slice a0 x.on.length c0) (.slice a1 x.whr.length c1) (.slice a2 x.items.length c2) star_x (.slice a3 x.sets.length c3) (.slice a4 x.groups.length c4) (.slice a5 x.sorts.length c5) (.slice a6 x.limit.length c6) x.place x.joinAt) 27)).alloc (.cells (Vt kind_y table_y join_y (.slice b0 y.on.length d0) (.slice b1 y.whr.length d1) (.slice b2 y.items.length d2) star_y (.slice b3 y.sets.length d3) (.slice b4 y.groups.length d4) (.slice b5 y.sorts.length d5) (.slice b6 y.limit.length d6) y.place y.joinAt) 27))
 obtain ⟨ra,rb,kb⟩:=hW ▸ two_new (w:=w) (o:=.cells (Vt kind_x table_x join_x (.slice a0 x.on.length c0) (.slice a1 x.whr.length c1) (.slice a2 x.items.length c2) star_x (.slice a3 x.sets.length c3) (.slice a4 x.groups.length c4) (.slice a5 x.sorts.length c5) (.slice a6 x.limit.length c6) x.place x.joinAt) 27) (p:=.cells (Vt kind_y table_y join_y (.slice b0 y.on.length d0) (.slice b1 y.whr.length d1) (.slice b2 y.items.length d2) star_y (.slice b3 y.sets.length d3) (.slice b4 y.groups.length d4) (.slice b5 y.sorts.length d5) (.slice b6 y.limit.length d6) y.place y.joinAt) 27)
 have HB:=Hd kb
 have RA:=Hd ra
 have RB:=Hd rb
 clear ra rb kb
 have zs:=(thirt_of RA.out).1
 have zt:=(thirt_of RB.out).1
 go_enter Tryz.func17,Tryz.ntmps17
 go_wp2_with fail
 clear hW
 refine (dSameExprs_any x.on y.on a0 b0 c0 d0 _ (HA1.out.later HB.out).rd.on (HA2.out.later HB.out).rd.on).mono ?_
 rintro e w0 ⟨⟨q0,rfl,hq⟩,hl⟩
 have HE0 : Hid (q0 = true ↔ SmXs x.on y.on):=hq
 have HB0:=Hd (HB.out.trans (hl.mono HB.out.size))
 have RA0:=Hd ((hl.block _ (Gx RA.out)).trans RA.out)
 have RB0:=Hd ((hl.block _ (Gx RB.out)).trans RB.out)
 clear hq hl zs zt
 have zs:=(thirt_of RA0.out).1
 have zt:=(thirt_of RB0.out).1
 go_wp2_with fail
 refine (dSameExprs_any x.whr y.whr a1 b1 c1 d1 _ (HA1.out.later HB0.out).rd.whr (HA2.out.later HB0.out).rd.whr).mono ?_
 rintro e w1 ⟨⟨q1,rfl,hq⟩,hl⟩
 have HE1 : Hid (q1 = true ↔ SmXs x.whr y.whr):=hq
 have HB1:=Hd (HB0.out.trans (hl.mono HB0.out.size))
 have RA1:=Hd ((hl.block _ (Gx RA0.out)).trans RA0.out)
 have RB1:=Hd ((hl.block _ (Gx RB0.out)).trans RB0.out)
 clear hq hl zs zt
 have zs:=(thirt_of RA1.out).1
 have zt:=(thirt_of RB1.out).1
 go_wp2_with fail
 refine (dSameExprs_any x.items y.items a2 b2 c2 d2 _ (HA1.out.later HB1.out).rd.items (HA2.out.later HB1.out).rd.items).mono ?_
 rintro e w2 ⟨⟨q2,rfl,hq⟩,hl⟩
 have HE2 : Hid (q2 = true ↔ SmXs x.items y.items):=hq
 have HB2:=Hd (HB1.out.trans (hl.mono HB1.out.size))
 have RA2:=Hd ((hl.block _ (Gx RA1.out)).trans RA1.out)
 have RB2:=Hd ((hl.block _ (Gx RB1.out)).trans RB1.out)
 clear hq hl zs zt
 have zs:=(thirt_of RA2.out).1
 have zt:=(thirt_of RB2.out).1
 go_wp2_with fail
 refine (dSameExprs_any x.groups y.groups a4 b4 c4 d4 _ (HA1.out.later HB2.out).rd.groups (HA2.out.later HB2.out).rd.groups).mono ?_
 rintro e w3 ⟨⟨q3,rfl,hq⟩,hl⟩
 have HE3 : Hid (q3 = true ↔ SmXs x.groups y.groups):=hq
 have HB3:=Hd (HB2.out.trans (hl.mono HB2.out.size))
 have RA3:=Hd ((hl.block _ (Gx RA2.out)).trans RA2.out)
 have RB3:=Hd ((hl.block _ (Gx RB2.out)).trans RB2.out)
 clear hq hl zs zt
 have zs:=(thirt_of RA3.out).1
 have zt:=(thirt_of RB3.out).1
 cases q0 with
 | false =>
  have HE : Hid (¬ Q):=Hd (fun h => absurd (HE0.out.2 (HQ.out.1 h).2.2.2.2.1) (by simp))
  go_wp2
  exact bodyPost_ret (v:=.bool false) (by simp [results,Tryz.results17,go_sem]) rfl (eq_no HE.out HB3.out)
 | true =>
  have HT0 : Hid (SmXs x.on y.on):=HE0.out.1 rfl
  cases q1 with
  | false =>
   have HE : Hid (¬ Q):=Hd (fun h => absurd (HE1.out.2 (HQ.out.1 h).2.2.2.2.2.1) (by simp))
   go_wp2
   exact bodyPost_ret (v:=.bool false) (by simp [results,Tryz.results17,go_sem]) rfl (eq_no HE.out HB3.out)
  | true =>
   have HT1 : Hid (SmXs x.whr y.whr):=HE1.out.1 rfl
   cases q2 with
   | false =>
    have HE : Hid (¬ Q):=Hd (fun h => absurd (HE2.out.2 (HQ.out.1 h).2.2.2.2.2.2.1) (by simp))
    go_wp2
    exact bodyPost_ret (v:=.bool false) (by simp [results,Tryz.results17,go_sem]) rfl (eq_no HE.out HB3.out)
   | true =>
    have HT2 : Hid (SmXs x.items y.items):=HE2.out.1 rfl
    cases q3 with
    | false =>
     have HE : Hid (¬ Q):=Hd (fun h => absurd (HE3.out.2 (HQ.out.1 h).2.2.2.2.2.2.2.1) (by simp))
     go_wp2
     exact bodyPost_ret (v:=.bool false) (by simp [results,Tryz.results17,go_sem]) rfl (eq_no HE.out HB3.out)
    | true =>
     have HT3 : Hid (SmXs x.groups y.groups):=HE3.out.1 rfl
     by_cases l0 : x.sets.length = y.sets.length
     rotate_left
     ·have d : ((x.sets.length : Int) != (y.sets.length : Int)) = true:=by simp; omega
      have HE : Hid (¬ Q):=Hd (fun h => l0 (HQ.out.1 h).2.2.2.2.2.2.2.2.1.1)
      clear l0
      go_wp2
      exact bodyPost_ret (v:=.bool false) (by simp [results,Tryz.results17,go_sem]) rfl (eq_no HE.out HB3.out)
     have g0 : ((x.sets.length : Int) != (y.sets.length : Int)) = false:=by simp; omega
     have L0:=Hd l0
     clear l0
     by_cases l1 : x.sorts.length = y.sorts.length
     rotate_left
     ·have d : ((x.sorts.length : Int) != (y.sorts.length : Int)) = true:=by simp; omega
      have HE : Hid (¬ Q):=Hd (fun h => l1 (HQ.out.1 h).2.2.2.2.2.2.2.2.2.1.1)
      clear l1
      go_wp2
      exact bodyPost_ret (v:=.bool false) (by simp [results,Tryz.results17,go_sem]) rfl (eq_no HE.out HB3.out)
     have g1 : ((x.sorts.length : Int) != (y.sorts.length : Int)) = false:=by simp; omega
     have L1:=Hd l1
     clear l1
     by_cases l2 : x.limit.length = y.limit.length
     rotate_left
     ·have d : ((x.limit.length : Int) != (y.limit.length : Int)) = true:=by simp; omega
      have HE : Hid (¬ Q):=Hd (fun h => l2 (by rw [(HQ.out.1 h).2.2.2.2.2.2.2.2.2.2]))
      clear l2
      go_wp2
      exact bodyPost_ret (v:=.bool false) (by simp [results,Tryz.results17,go_sem]) rfl (eq_no HE.out HB3.out)
     have g2 : ((x.limit.length : Int) != (y.limit.length : Int)) = false:=by simp; omega
     have L2:=Hd l2
     clear l2
     have hsa : w.heap.size < w3.heap.size:=(Gx RA3.out)
     have hsb : w.heap.size + 1 < w3.heap.size:=(Gx RB3.out)
     go_wp2
     clear g0 g1 g2 zs zt
     go_loopw [9] (fun i wr => ∃ k : Nat,k ≤ x.sets.length ∧ i = Vi (k : Int) ∧ (∀ j (h : j < x.sets.length) (h2 : j < y.sets.length),j < k → SmSe x.sets[j] y.sets[j]) ∧ Below w3.heap.size w3 wr) (fun i _ => x.sets.length - (intOf i).toNat)
     case atStart => exact ⟨0,Nat.zero_le _,rfl,fun _ _ _ h => absurd h (Nat.not_lt_zero _),by first | exact Below.refl _ _ | exact (Below.refl _ _).drew⟩
     case round =>
      rename World => R
      obtain ⟨k,hk,rfl,hall,hb⟩:=hrel
      have HALL:=Hd hall
      have HW:=Hd hb
      have hin : Below w.heap.size w R:=HB3.out.trans (hb.mono HB3.out.size)
      have HBW:=Hd hin
      have zs:=(thirt_of ((hb.block _ hsa).trans RA3.out)).1
      have zt:=(thirt_of ((hb.block _ hsb).trans RB3.out)).1
      clear hall hb hin
      by_cases hlt : k < x.sets.length
      ·have hlti : (k : Int) < (x.sets.length : Int):=by omega
       have x2 : k < y.sets.length:=by rw [← L0.out]; exact hlt
       have hltf : (k : Int) < (y.sets.length : Int):=by omega
       obtain ⟨p_,c_,ksc,e,_,_,hlkc,hrowc,hxsc⟩:=HA1.out.rd.sets
       injection e with e1 _ e3
       subst e1 e3
       have zc : k < ksc.length:=by rw [← hlkc]; exact hlt
       obtain ⟨bc_,oc_,e4,gc⟩:=hrowc k hlt zc
       subst e4
       have hxc:=hxsc k hlt zc
       obtain ⟨pc,mc,cc,hksc⟩:=hxc.slice
       rw [hksc] at gc hxc
       obtain ⟨⟨nmc,⟨kkc,ooc,⟨v1c,v2c,v3c⟩,ttc,nnc,kskc,ppc⟩,plc⟩,ec⟩ : ∃ z,x.sets[k] = z:=⟨_,rfl⟩
       rw [ec] at gc hxc
       have Xc:=Hd hxc
       clear hrowc hxsc hlkc hksc hxc
       have Gc : Hid (∀ j u,[.string nmc,Vi kkc,Vi ooc,Vi v1c,Vi v2c,.string v3c,.string ttc,.string nnc,.slice pc mc cc,Vi ppc,Vi plc][j]? = some u → w.cell? ⟨bc_,oc_ + k * 11 + j,none⟩ = some u):=gc
       clear gc
       obtain ⟨p_,c_,ksd,e,_,_,hlkd,hrowd,hxsd⟩:=HA2.out.rd.sets
       injection e with e1 _ e3
       subst e1 e3
       have zd : k < ksd.length:=by rw [← hlkd]; exact x2
       obtain ⟨bd_,od_,e4,gd⟩:=hrowd k x2 zd
       subst e4
       have hxd:=hxsd k x2 zd
       obtain ⟨pd,md,cd,hksd⟩:=hxd.slice
       rw [hksd] at gd hxd
       obtain ⟨⟨nmd,⟨kkd,ood,⟨v1d,v2d,v3d⟩,ttd,nnd,kskd,ppd⟩,pld⟩,ed⟩ : ∃ z,y.sets[k] = z:=⟨_,rfl⟩
       rw [ed] at gd hxd
       have Xd:=Hd hxd
       clear hrowd hxsd hlkd hksd hxd
       have Gd : Hid (∀ j u,[.string nmd,Vi kkd,Vi ood,Vi v1d,Vi v2d,.string v3d,.string ttd,.string nnd,.slice pd md cd,Vi ppd,Vi pld][j]? = some u → w.cell? ⟨bd_,od_ + k * 11 + j,none⟩ = some u):=gd
       clear gd
       have p0:=Cl HBW.out (Gc.out 0 _ rfl)
       have r0:=Cl HBW.out (Gd.out 0 _ rfl)
       have p1:=Cl HBW.out (Gc.out 1 _ rfl)
       have r1:=Cl HBW.out (Gd.out 1 _ rfl)
       have p2:=Cl HBW.out (Gc.out 2 _ rfl)
       have r2:=Cl HBW.out (Gd.out 2 _ rfl)
       have p3:=Cl HBW.out (Gc.out 3 _ rfl)
       have r3:=Cl HBW.out (Gd.out 3 _ rfl)
       have p4:=Cl HBW.out (Gc.out 4 _ rfl)
       have r4:=Cl HBW.out (Gd.out 4 _ rfl)
       have p5:=Cl HBW.out (Gc.out 5 _ rfl)
       have r5:=Cl HBW.out (Gd.out 5 _ rfl)
       have p6:=Cl HBW.out (Gc.out 6 _ rfl)
       have r6:=Cl HBW.out (Gd.out 6 _ rfl)
       have p7:=Cl HBW.out (Gc.out 7 _ rfl)
       have r7:=Cl HBW.out (Gd.out 7 _ rfl)
       have p8:=Cl HBW.out (Gc.out 8 _ rfl)
       have r8:=Cl HBW.out (Gd.out 8 _ rfl)
       have p9:=Cl HBW.out (Gc.out 9 _ rfl)
       have r9:=Cl HBW.out (Gd.out 9 _ rfl)
       have p10:=Cl HBW.out (Gc.out 10 _ rfl)
       have r10:=Cl HBW.out (Gd.out 10 _ rfl)
       simp only [Nat.add_zero] at p0 r0
       have HCk:=Hd (fun w => dSameExpr_any (Ex.mk kkc ooc (v1c,v2c,v3c) ttc nnc kskc ppc) (Ex.mk kkd ood (v1d,v2d,v3d) ttd nnd kskd ppd) (.slice pc mc cc) (.slice pd md cd) w)
       simp only [exC] at HCk
       have HSE : Hid (SmSe x.sets[k] y.sets[k] ↔ nmc = nmd ∧ SmX (Ex.mk kkc ooc (v1c,v2c,v3c) ttc nnc kskc ppc) (Ex.mk kkd ood (v1d,v2d,v3d) ttd nnd kskd ppd)):=Hd (by rw [ec,ed]; exact Iff.rfl)
       clear ec ed
       go_wp2
       go_region_law (go_simp; go_at_call 46; refine (HCk.out _ (Xc.out.later (by have h0:=HBW.out; have hz:=h0.size; (repeat (first | exact Below.refl _ _ | assumption | refine Below.drew ?_ | refine below_drewN ?_ _ | refine Below.alloc ?_ (by first | omega | (simp; done) | (simp; omega)) _ | refine Below.setCell ?_ (by first | omega | (simp; done) | (simp; omega)) _ | refine Below.trans ?_ (Below.mono (by assumption) (by first | omega | (simp; done) | (simp; omega))))))) (Xd.out.later (by have h0:=HBW.out; have hz:=h0.size; (repeat (first | exact Below.refl _ _ | assumption | refine Below.drew ?_ | refine below_drewN ?_ _ | refine Below.alloc ?_ (by first | omega | (simp; done) | (simp; omega)) _ | refine Below.setCell ?_ (by first | omega | (simp; done) | (simp; omega)) _ | refine Below.trans ?_ (Below.mono (by assumption) (by first | omega | (simp; done) | (simp; omega)))))))).mono ?_; rintro e w4 ⟨⟨fine,rfl,hf⟩,hl⟩)
       all_goals
        have HFI:=Hd hf
        have HW2 : Hid (Below w3.heap.size w3 w4):=by
         have h0:=HW.out
         have hz:=h0.size
         have hz6:=hl.size
         (repeat (first | exact Below.refl _ _ | assumption | refine Below.drew ?_ | refine below_drewN ?_ _ | refine Below.alloc ?_ (by first | omega | (simp; done) | (simp; omega)) _ | refine Below.setCell ?_ (by first | omega | (simp; done) | (simp; omega)) _ | refine Below.trans ?_ (Below.mono (by assumption) (by first | omega | (simp; done) | (simp; omega)))))
        have HBW2:=Hd (HB3.out.trans (HW2.out.mono HB3.out.size))
        clear hf hl zs zt p0 p1 p2 p3 p4 p5 p6 p7 p8 p9 p10 r0 r1 r2 r3 r4 r5 r6 r7 r8 r9 r10
        have zs:=(thirt_of ((HW2.out.block _ hsa).trans RA3.out)).1
        have zt:=(thirt_of ((HW2.out.block _ hsb).trans RB3.out)).1
        have p0:=Cl HBW2.out (Gc.out 0 _ rfl)
        have r0:=Cl HBW2.out (Gd.out 0 _ rfl)
        simp only [Nat.add_zero] at p0 r0
        cases fine with
        | false =>
         have HE : Hid (¬ Q):=Hd (fun h => absurd (HFI.out.2 (HSE.out.1 ((HQ.out.1 h).2.2.2.2.2.2.2.2.1.2 k hlt x2)).2) (by simp))
         go_wp2_with fail
         go_simp
         go_big_quiet (fail)
         go_wp2
         exact bodyPost_ret (v:=.bool false) (by simp [results,Tryz.results17,go_sem]) rfl (eq_no HE.out (by have h0:=HBW2.out; have hz:=h0.size; (repeat (first | exact Below.refl _ _ | assumption | refine Below.drew ?_ | refine below_drewN ?_ _ | refine Below.alloc ?_ (by first | omega | (simp; done) | (simp; omega)) _ | refine Below.setCell ?_ (by first | omega | (simp; done) | (simp; omega)) _ | refine Below.trans ?_ (Below.mono (by assumption) (by first | omega | (simp; done) | (simp; omega)))))))
        | true =>
         by_cases en : nmc = nmd
         rotate_left
         ·have d:=str_ne en
          have HE : Hid (¬ Q):=Hd (fun h => en (HSE.out.1 ((HQ.out.1 h).2.2.2.2.2.2.2.2.1.2 k hlt x2)).1)
          go_wp2_with fail
          go_simp
          go_big_quiet (fail)
          go_wp2
          exact bodyPost_ret (v:=.bool false) (by simp [results,Tryz.results17,go_sem]) rfl (eq_no HE.out (by have h0:=HBW2.out; have hz:=h0.size; (repeat (first | exact Below.refl _ _ | assumption | refine Below.drew ?_ | refine below_drewN ?_ _ | refine Below.alloc ?_ (by first | omega | (simp; done) | (simp; omega)) _ | refine Below.setCell ?_ (by first | omega | (simp; done) | (simp; omega)) _ | refine Below.trans ?_ (Below.mono (by assumption) (by first | omega | (simp; done) | (simp; omega)))))))
         have HOK : Hid (SmSe x.sets[k] y.sets[k]):=HSE.out.2 ⟨en,HFI.out.1 rfl⟩
         subst en
         have HALL2 : Hid (∀ j (h : j < x.sets.length) (h2 : j < y.sets.length),j < k + 1 → SmSe x.sets[j] y.sets[j]):=fun j h h2 hj => by
          by_cases e : j = k
          ·subst e; exact HOK.out
          ·exact HALL.out j h h2 (by omega)
         go_wp2_with fail
         go_simp
         go_big_quiet (fail)
         go_wp2
         go_roundw
         case rel => exact ⟨k + 1,by omega,by go_num,HALL2.out,by have h0:=HW2.out; have hz:=h0.size; (repeat (first | exact Below.refl _ _ | assumption | refine Below.drew ?_ | refine below_drewN ?_ _ | refine Below.alloc ?_ (by first | omega | (simp; done) | (simp; omega)) _ | refine Below.setCell ?_ (by first | omega | (simp; done) | (simp; omega)) _ | refine Below.trans ?_ (Below.mono (by assumption) (by first | omega | (simp; done) | (simp; omega)))))⟩
         case measure => simp [intOf]; omega
      ·have hnlt : ¬ (k : Int) < (x.sets.length : Int):=by omega
       have HG0 : Hid (∀ j (h : j < x.sets.length) (h2 : j < y.sets.length),SmSe x.sets[j] y.sets[j]):=fun i h h2 => HALL.out i h h2 (by omega)
       clear HALL hk hlt
       go_wp2
       clear hnlt
       go_loopw [11] (fun i wr => ∃ k : Nat,k ≤ x.sorts.length ∧ i = Vi (k : Int) ∧ (∀ j (h : j < x.sorts.length) (h2 : j < y.sorts.length),j < k → SmSo x.sorts[j] y.sorts[j]) ∧ Below w3.heap.size w3 wr) (fun i _ => x.sorts.length - (intOf i).toNat)
       case atStart => exact ⟨0,Nat.zero_le _,rfl,fun _ _ _ h => absurd h (Nat.not_lt_zero _),HW.out⟩
       case round =>
        clear HW HBW zs zt
        rename World => R
        obtain ⟨k,hk,rfl,hall,hb⟩:=hrel
        have HALL:=Hd hall
        have HW:=Hd hb
        have hin : Below w.heap.size w R:=HB3.out.trans (hb.mono HB3.out.size)
        have HBW:=Hd hin
        have zs:=(thirt_of ((hb.block _ hsa).trans RA3.out)).1
        have zt:=(thirt_of ((hb.block _ hsb).trans RB3.out)).1
        clear hall hb hin
        by_cases hlt : k < x.sorts.length
        ·have hlti : (k : Int) < (x.sorts.length : Int):=by omega
         have x2 : k < y.sorts.length:=by rw [← L1.out]; exact hlt
         have hltf : (k : Int) < (y.sorts.length : Int):=by omega
         obtain ⟨p_,c_,e,_,_,hrowc⟩:=HA1.out.sorts
         injection e with e1 _ e3
         subst e1 e3
         obtain ⟨bc_,oc_,e4,gc⟩:=hrowc k hlt
         subst e4
         obtain ⟨⟨itc,dsc,plc⟩,ec⟩ : ∃ z,x.sorts[k] = z:=⟨_,rfl⟩
         rw [ec] at gc
         have m0c:=gc 0 (Vi itc) rfl
         have m1c:=gc 1 (.bool dsc) rfl
         simp only [Nat.add_zero] at m0c
         have n0c:=(HBW.out.cell (World.block_lt_of_cell? _ _ m0c)).trans m0c
         have n1c:=(HBW.out.cell (World.block_lt_of_cell? _ _ m1c)).trans m1c
         clear hrowc gc m0c m1c
         obtain ⟨p_,c_,e,_,_,hrowd⟩:=HA2.out.sorts
         injection e with e1 _ e3
         subst e1 e3
         obtain ⟨bd_,od_,e4,gd⟩:=hrowd k x2
         subst e4
         obtain ⟨⟨itd,dsd,pld⟩,ed⟩ : ∃ z,y.sorts[k] = z:=⟨_,rfl⟩
         rw [ed] at gd
         have m0d:=gd 0 (Vi itd) rfl
         have m1d:=gd 1 (.bool dsd) rfl
         simp only [Nat.add_zero] at m0d
         have n0d:=(HBW.out.cell (World.block_lt_of_cell? _ _ m0d)).trans m0d
         have n1d:=(HBW.out.cell (World.block_lt_of_cell? _ _ m1d)).trans m1d
         clear hrowd gd m0d m1d
         have HSE : Hid (SmSo x.sorts[k] y.sorts[k] ↔ itc = itd ∧ dsc = dsd):=Hd (by rw [ec,ed]; exact Iff.rfl)
         clear ec ed
         by_cases en : itc = itd
         rotate_left
         ·have d : (itc != itd) = true:=by simpa using en
          have dd : (itc == itd) = false:=by simpa using en
          have HE : Hid (¬ Q):=Hd (fun h => en (HSE.out.1 ((HQ.out.1 h).2.2.2.2.2.2.2.2.2.1.2 k hlt x2)).1)
          go_wp2_with fail
          go_big_quiet (fail)
          go_wp2
          exact bodyPost_ret (v:=.bool false) (by simp [results,Tryz.results17,go_sem]) rfl (eq_no HE.out (by have h0:=HBW.out; have hz:=h0.size; (repeat (first | exact Below.refl _ _ | assumption | refine Below.drew ?_ | refine below_drewN ?_ _ | refine Below.alloc ?_ (by first | omega | (simp; done) | (simp; omega)) _ | refine Below.setCell ?_ (by first | omega | (simp; done) | (simp; omega)) _ | refine Below.trans ?_ (Below.mono (by assumption) (by first | omega | (simp; done) | (simp; omega)))))))
         subst en
         by_cases ed : dsc = dsd
         rotate_left
         ·have HE : Hid (¬ Q):=Hd (fun h => ed (HSE.out.1 ((HQ.out.1 h).2.2.2.2.2.2.2.2.2.1.2 k hlt x2)).2)
          cases dsc <;> cases dsd <;> (first | exact absurd rfl ed | (clear ed; go_wp2_with fail; go_big_quiet (fail); go_wp2; exact bodyPost_ret (v:=.bool false) (by simp [results,Tryz.results17,go_sem]) rfl (eq_no HE.out (by have h0:=HBW.out; have hz:=h0.size; (repeat (first | exact Below.refl _ _ | assumption | refine Below.drew ?_ | refine below_drewN ?_ _ | refine Below.alloc ?_ (by first | omega | (simp; done) | (simp; omega)) _ | refine Below.setCell ?_ (by first | omega | (simp; done) | (simp; omega)) _ | refine Below.trans ?_ (Below.mono (by assumption) (by first | omega | (simp; done) | (simp; omega)))))))))
         have HOK : Hid (SmSo x.sorts[k] y.sorts[k]):=HSE.out.2 ⟨rfl,ed⟩
         subst ed
         have HALL2 : Hid (∀ j (h : j < x.sorts.length) (h2 : j < y.sorts.length),j < k + 1 → SmSo x.sorts[j] y.sorts[j]):=fun j h h2 hj => by
          by_cases e : j = k
          ·subst e; exact HOK.out
          ·exact HALL.out j h h2 (by omega)
         go_wp2_with fail
         go_big_quiet (fail)
         go_wp2
         go_roundw
         case rel => exact ⟨k + 1,by omega,by go_num,HALL2.out,by have h0:=HW.out; have hz:=h0.size; (repeat (first | exact Below.refl _ _ | assumption | refine Below.drew ?_ | refine below_drewN ?_ _ | refine Below.alloc ?_ (by first | omega | (simp; done) | (simp; omega)) _ | refine Below.setCell ?_ (by first | omega | (simp; done) | (simp; omega)) _ | refine Below.trans ?_ (Below.mono (by assumption) (by first | omega | (simp; done) | (simp; omega)))))⟩
         case measure => simp [intOf]; omega
        ·have hnlt : ¬ (k : Int) < (x.sorts.length : Int):=by omega
         have HG1 : Hid (∀ j (h : j < x.sorts.length) (h2 : j < y.sorts.length),SmSo x.sorts[j] y.sorts[j]):=fun i h h2 => HALL.out i h h2 (by omega)
         clear HALL hk hlt
         go_wp2
         clear hnlt
         go_loopw [12] (fun i wr => ∃ k : Nat,k ≤ x.limit.length ∧ i = Vi (k : Int) ∧ (∀ j (h : j < x.limit.length) (h2 : j < y.limit.length),j < k → x.limit[j] = y.limit[j]) ∧ Below w3.heap.size w3 wr) (fun i _ => x.limit.length - (intOf i).toNat)
         case atStart => exact ⟨0,Nat.zero_le _,rfl,fun _ _ _ h => absurd h (Nat.not_lt_zero _),HW.out⟩
         case round =>
          clear HW HBW zs zt
          rename World => R
          obtain ⟨k,hk,rfl,hall,hb⟩:=hrel
          have HALL:=Hd hall
          have HW:=Hd hb
          have hin : Below w.heap.size w R:=HB3.out.trans (hb.mono HB3.out.size)
          have HBW:=Hd hin
          have zs:=(thirt_of ((hb.block _ hsa).trans RA3.out)).1
          have zt:=(thirt_of ((hb.block _ hsb).trans RB3.out)).1
          clear hall hb hin
          by_cases hlt : k < x.limit.length
          ·have hlti : (k : Int) < (x.limit.length : Int):=by omega
           have x2 : k < y.limit.length:=by rw [← L2.out]; exact hlt
           have hltf : (k : Int) < (y.limit.length : Int):=by omega
           obtain ⟨p_,c_,e,_,_,hrowc⟩:=HA1.out.limit
           injection e with e1 _ e3
           subst e1 e3
           obtain ⟨bc_,oc_,e4,gc⟩:=hrowc k hlt
           subst e4
           obtain ⟨itc,ec⟩:=Vx (x.limit[k])
           rw [ec] at gc
           have n0c:=(HBW.out.cell (World.block_lt_of_cell? _ _ gc)).trans gc
           clear hrowc gc
           obtain ⟨p_,c_,e,_,_,hrowd⟩:=HA2.out.limit
           injection e with e1 _ e3
           subst e1 e3
           obtain ⟨bd_,od_,e4,gd⟩:=hrowd k x2
           subst e4
           obtain ⟨itd,ed⟩:=Vx (y.limit[k])
           rw [ed] at gd
           have n0d:=(HBW.out.cell (World.block_lt_of_cell? _ _ gd)).trans gd
           clear hrowd gd
           have HSE : Hid (x.limit[k] = y.limit[k] ↔ itc = itd):=Hd (by rw [ec,ed])
           clear ec ed
           by_cases en : itc = itd
           rotate_left
           ·have d : (itc != itd) = true:=by simpa using en
            have dd : (itc == itd) = false:=by simpa using en
            have HE : Hid (¬ Q):=Hd (fun h => en (HSE.out.1 (by have:=(HQ.out.1 h).2.2.2.2.2.2.2.2.2.2; simp only [this])))
            go_wp2_with fail
            go_big_quiet (fail)
            go_wp2
            exact bodyPost_ret (v:=.bool false) (by simp [results,Tryz.results17,go_sem]) rfl (eq_no HE.out (by have h0:=HBW.out; have hz:=h0.size; (repeat (first | exact Below.refl _ _ | assumption | refine Below.drew ?_ | refine below_drewN ?_ _ | refine Below.alloc ?_ (by first | omega | (simp; done) | (simp; omega)) _ | refine Below.setCell ?_ (by first | omega | (simp; done) | (simp; omega)) _ | refine Below.trans ?_ (Below.mono (by assumption) (by first | omega | (simp; done) | (simp; omega)))))))
           have HOK : Hid (x.limit[k] = y.limit[k]):=HSE.out.2 en
           subst en
           have HALL2 : Hid (∀ j (h : j < x.limit.length) (h2 : j < y.limit.length),j < k + 1 → x.limit[j] = y.limit[j]):=fun j h h2 hj => by
            by_cases e : j = k
            ·subst e; exact HOK.out
            ·exact HALL.out j h h2 (by omega)
           go_wp2_with fail
           go_big_quiet (fail)
           go_wp2
           go_roundw
           case rel => exact ⟨k + 1,by omega,by go_num,HALL2.out,by have h0:=HW.out; have hz:=h0.size; (repeat (first | exact Below.refl _ _ | assumption | refine Below.drew ?_ | refine below_drewN ?_ _ | refine Below.alloc ?_ (by first | omega | (simp; done) | (simp; omega)) _ | refine Below.setCell ?_ (by first | omega | (simp; done) | (simp; omega)) _ | refine Below.trans ?_ (Below.mono (by assumption) (by first | omega | (simp; done) | (simp; omega)))))⟩
           case measure => simp [intOf]; omega
          ·have hnlt : ¬ (k : Int) < (x.limit.length : Int):=by omega
           have HG2 : Hid (∀ j (h : j < x.limit.length) (h2 : j < y.limit.length),x.limit[j] = y.limit[j]):=fun i h h2 => HALL.out i h h2 (by omega)
           clear HALL hk hlt
           skip
           by_cases n : kind_x = kind_y
           rotate_left
           ·have HE : Hid (¬ Q):=Hd (fun h => n (HF.out.1.symm.trans ((HQ.out.1 h).1.trans HF.out.2.1)))
            have d : (kind_x == kind_y) = false:=by simpa using n
            clear n
            go_wp2
            exact bodyPost_ret (v:=.bool false) (by simp [results,Tryz.results17,go_sem]) rfl (eq_no HE.out HBW.out)
           have HNkind : Hid (x.kind = y.kind):=Hd (HF.out.1.trans (n.trans HF.out.2.1.symm))
           subst n
           by_cases n : table_x = table_y
           rotate_left
           ·have HE : Hid (¬ Q):=Hd (fun h => n (HF.out.2.2.1.symm.trans ((HQ.out.1 h).2.1.trans HF.out.2.2.2.1)))
            have d:=str_ne n
            clear n
            go_wp2
            exact bodyPost_ret (v:=.bool false) (by simp [results,Tryz.results17,go_sem]) rfl (eq_no HE.out HBW.out)
           have HNtable : Hid (x.table = y.table):=Hd (HF.out.2.2.1.trans (n.trans HF.out.2.2.2.1.symm))
           subst n
           by_cases n : join_x = join_y
           rotate_left
           ·have HE : Hid (¬ Q):=Hd (fun h => n (HF.out.2.2.2.2.1.symm.trans ((HQ.out.1 h).2.2.1.trans HF.out.2.2.2.2.2.1)))
            have d:=str_ne n
            clear n
            go_wp2
            exact bodyPost_ret (v:=.bool false) (by simp [results,Tryz.results17,go_sem]) rfl (eq_no HE.out HBW.out)
           have HNjoin : Hid (x.join = y.join):=Hd (HF.out.2.2.2.2.1.trans (n.trans HF.out.2.2.2.2.2.1.symm))
           subst n
           by_cases n : star_x = star_y
           rotate_left
           ·have HE : Hid (¬ Q):=Hd (fun h => n (HF.out.2.2.2.2.2.2.1.symm.trans ((HQ.out.1 h).2.2.2.1.trans HF.out.2.2.2.2.2.2.2)))
            cases star_x <;> cases star_y <;> (first | exact absurd rfl n | (clear n; go_wp2; exact bodyPost_ret (v:=.bool false) (by simp [results,Tryz.results17,go_sem]) rfl (eq_no HE.out HBW.out)))
           have HNstar : Hid (x.star = y.star):=Hd (HF.out.2.2.2.2.2.2.1.trans (n.trans HF.out.2.2.2.2.2.2.2.symm))
           subst n
           have HE : Hid Q:=HQ.out.2 ⟨HNkind.out,HNtable.out,HNjoin.out,HNstar.out,HT0.out,HT1.out,HT2.out,HT3.out,⟨L0.out,HG0.out⟩,⟨L1.out,HG1.out⟩,List.ext_getElem L2.out HG2.out⟩
           go_wp2
           exact bodyPost_ret (v:=.bool true) (by simp [results,Tryz.results17,go_sem]) rfl (eq_yes HE.out HBW.out)
end Go.Proofs.YtffalonhkemieaaGreatDoor
