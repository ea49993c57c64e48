/- A130 -/
import Derived.Test.YtffalonhkemieaaGreatDoorSA113
import Derived.Test.YtffalonhkemieaaGreatDoorSM139
set_option maxHeartbeats 16000000
set_option maxRecDepth 100000
namespace Go.Proofs.YtffalonhkemieaaGreatDoor
open Go.RowKit
theorem seC_last (nm : ByteArray) (ex : Ex) (pl : Int) (k : Value) : (seC (nm,ex,pl) k)[10]? = some (Vi pl):=by
 obtain ⟨kk,oo,v,tt,nn,ks,pp⟩:=ex
 rfl

theorem SmX.reflQ (e : Ex) : SmX e e:=by
 induction e using Ex.rec (motive_2:=fun l => ∀ i (h : i < l.length),SmX l[i] l[i]) with
 | mk k o v t n ks p ih => exact SmX.mk rfl fun i h _ => ih i h
 | nil => rename_i i h; exact absurd h (Nat.not_lt_zero _)
 | cons e l h1 h2 =>
  rename_i i h
  cases i with
  | zero => exact h1
  | succ i => exact h2 i (by simpa using h)

theorem SmSt.reflQ (t : St) : SmSt t t:=⟨rfl,rfl,rfl,rfl,⟨rfl,fun _ _ _ => SmX.reflQ _⟩,⟨rfl,fun _ _ _ => SmX.reflQ _⟩,⟨rfl,fun _ _ _ => SmX.reflQ _⟩,⟨rfl,fun _ _ _ => SmX.reflQ _⟩,⟨rfl,fun _ _ _ => ⟨rfl,SmX.reflQ _⟩⟩,⟨rfl,fun _ _ _ => ⟨rfl,rfl⟩⟩,rfl⟩

theorem qPlaces_all (e : Ex) (hA : AllK e) : ∀ (k1 k2 : Value) (w : World),XR w e k1 → XR w e k2 → Calls Tryz.prog 61 #[.agg (exC e k1).toArray,.agg (exC e k2).toArray] w fun r w' => r = .returned (.bool true) ∧ Below w.heap.size w w':=by
 induction hA with
 | @mk kka ooa va tta nna es ppa _ ih =>
  intro k1 k2 w hx1 hx2
  have HIH:=Hd ih
  clear ih
  obtain ⟨v1a,v2a,v3a⟩:=va
  cases hx1 with
  | @mk _ _ _ _ _ _ _ pa ca ks h1 hc1 hm1 hr1 hs1 =>
   cases hx2 with
   | @mk _ _ _ _ _ _ _ pb cb ls h2 hc2 hm2 hr2 hs2 =>
    have HR1:=Hd hr1
    have HR2:=Hd hr2
    have HX1:=Hd hs1
    have HX2:=Hd hs2
    have HK1:=Hd h1
    have HK2:=Hd h2
    clear h1 hr1 hs1 h2 hr2 hs2
    simp only [exC]
    obtain ⟨W,hW⟩:=Vx ((w.alloc (.cells (Ve kka ooa v1a v2a v3a tta nna (.slice pa es.length ca) ppa) 48)).alloc (.cells (Ve kka ooa v1a v2a v3a tta nna (.slice pb es.length cb) ppa) 48))
    obtain ⟨ra,rb,kb⟩:=hW ▸ two_new (w:=w) (o:=.cells (Ve kka ooa v1a v2a v3a tta nna (.slice pa es.length ca) ppa) 48) (p:=.cells (Ve kka ooa v1a v2a v3a tta nna (.slice pb es.length cb) ppa) 48)
    have HB:=Hd kb
    have RA:=Hd ra
    have RB:=Hd rb
    have hsa : w.heap.size < W.heap.size:=(Gx ra)
    have hsb : w.heap.size + 1 < W.heap.size:=(Gx rb)
    have zs:=(nine_of ra).1
    have zt:=(nine_of rb).1
    clear kb ra rb
    go_enter Tryz.func61,Tryz.ntmps61
    go_wp2
    clear hW zs zt
    go_loopw [5] (fun i wr => ∃ k : Nat,k ≤ es.length ∧ i = Vi (k : Int) ∧ Below W.heap.size W wr) (fun i _ => es.length - (intOf i).toNat)
    case atStart => exact ⟨0,Nat.zero_le _,rfl,by first | exact Below.refl _ _ | exact (Below.refl _ _).drew⟩
    case round =>
     rename World => R
     obtain ⟨k,hk,rfl,hb⟩:=hrel
     have HW:=Hd hb
     have HBW : Hid (Below w.heap.size w R):=HB.out.trans (hb.mono HB.out.size)
     have zs:=(nine_of ((hb.block _ hsa).trans RA.out)).1
     have zt:=(nine_of ((hb.block _ hsb).trans RB.out)).1
     clear hb
     by_cases hlt : k < es.length
     ·have hlti : (k : Int) < (es.length : Int):=by omega
      have y1 : k < ks.length:=by rw [← HK1.out]; exact hlt
      have y2 : k < ls.length:=by rw [← HK2.out]; exact hlt
      obtain ⟨b1,f1,e1,g1⟩:=HR1.out k hlt y1
      obtain ⟨b2,f2,e2,g2⟩:=HR2.out k hlt y2
      subst e1 e2
      have ha1:=HX1.out k hlt y1
      have hb1:=HX2.out k hlt y2
      obtain ⟨pc,mc,cc,hac⟩:=ha1.slice
      obtain ⟨pd,md,cd,hbd⟩:=hb1.slice
      rw [hac] at g1 ha1
      rw [hbd] at g2 hb1
      have HCk:=Hd (fun w => HIH.out k hlt (.slice pc mc cc) (.slice pd md cd) w)
      obtain ⟨⟨kkc,ooc,⟨v1c,v2c,v3c⟩,ttc,nnc,ksc,ppc⟩,ea⟩ : ∃ x,es[k] = x:=⟨_,rfl⟩
      rw [ea] at g1 ha1 g2 hb1 HCk
      have XA:=Hd ha1
      have XB:=Hd hb1
      clear ea hac hbd y1 y2 ha1 hb1
      simp only [exC] at HCk
      have G1 : Hid (∀ j u,[Vi kkc,Vi ooc,Vi v1c,Vi v2c,.string v3c,.string ttc,.string nnc,.slice pc mc cc,Vi ppc][j]? = some u → w.cell? ⟨b1,f1 + k * 9 + j,none⟩ = some u):=g1
      have G2 : Hid (∀ j u,[Vi kkc,Vi ooc,Vi v1c,Vi v2c,.string v3c,.string ttc,.string nnc,.slice pd md cd,Vi ppc][j]? = some u → w.cell? ⟨b2,f2 + k * 9 + j,none⟩ = some u):=g2
      clear g1 g2
      have p0:=Cl HBW.out (G1.out 0 _ rfl)
      have p1:=Cl HBW.out (G1.out 1 _ rfl)
      have p2:=Cl HBW.out (G1.out 2 _ rfl)
      have p3:=Cl HBW.out (G1.out 3 _ rfl)
      have p4:=Cl HBW.out (G1.out 4 _ rfl)
      have p5:=Cl HBW.out (G1.out 5 _ rfl)
      have p6:=Cl HBW.out (G1.out 6 _ rfl)
      have p7:=Cl HBW.out (G1.out 7 _ rfl)
      have p8:=Cl HBW.out (G1.out 8 _ rfl)
      have q0:=Cl HBW.out (G2.out 0 _ rfl)
      have q1:=Cl HBW.out (G2.out 1 _ rfl)
      have q2:=Cl HBW.out (G2.out 2 _ rfl)
      have q3:=Cl HBW.out (G2.out 3 _ rfl)
      have q4:=Cl HBW.out (G2.out 4 _ rfl)
      have q5:=Cl HBW.out (G2.out 5 _ rfl)
      have q6:=Cl HBW.out (G2.out 6 _ rfl)
      have q7:=Cl HBW.out (G2.out 7 _ rfl)
      have q8:=Cl HBW.out (G2.out 8 _ rfl)
      simp only [Nat.add_zero] at p0 q0
      go_wp2
      go_region_law (go_simp; go_at_call 61; refine (HCk.out _ (XA.out.later (by have h0:=HBW.out; have hz:=h0.size; (repeat (first | exact Below.refl _ _ | assumption | refine Below.drew ?_ | refine below_drewN ?_ _ | refine Below.alloc ?_ (by first | omega | (simp; done) | (simp; omega)) _ | refine Below.setCell ?_ (by first | omega | (simp; done) | (simp; omega)) _ | refine Below.trans ?_ (Below.mono (by assumption) (by first | omega | (simp; done) | (simp; omega))))))) (XB.out.later (by have h0:=HBW.out; have hz:=h0.size; (repeat (first | exact Below.refl _ _ | assumption | refine Below.drew ?_ | refine below_drewN ?_ _ | refine Below.alloc ?_ (by first | omega | (simp; done) | (simp; omega)) _ | refine Below.setCell ?_ (by first | omega | (simp; done) | (simp; omega)) _ | refine Below.trans ?_ (Below.mono (by assumption) (by first | omega | (simp; done) | (simp; omega)))))))).mono ?_; rintro e w3 ⟨rfl,hl⟩)
      all_goals
       have HW2 : Hid (Below W.heap.size W w3):=by
        have h0:=HW.out
        have hz:=h0.size
        have hz6:=hl.size
        (repeat (first | exact Below.refl _ _ | assumption | refine Below.drew ?_ | refine below_drewN ?_ _ | refine Below.alloc ?_ (by first | omega | (simp; done) | (simp; omega)) _ | refine Below.setCell ?_ (by first | omega | (simp; done) | (simp; omega)) _ | refine Below.trans ?_ (Below.mono (by assumption) (by first | omega | (simp; done) | (simp; omega)))))
       clear hl
       go_wp2
       go_roundw
       case rel => exact ⟨k + 1,by omega,by go_num,HW2.out⟩
       case measure => simp [intOf]; omega
     ·have hnlt : ¬ (k : Int) < (es.length : Int):=by omega
      go_wp2
      exact bodyPost_ret (v:=.bool true) (by simp [results,Tryz.results61,go_sem]) rfl ⟨rfl,HBW.out⟩

theorem qPlacesExpr_any (e : Ex) (k1 k2 : Value) (w : World) (h1 : XR w e k1) (h2 : XR w e k2) : Calls Tryz.prog 61 #[.agg (exC e k1).toArray,.agg (exC e k2).toArray] w fun r w' => r = .returned (.bool true) ∧ Below w.heap.size w w':=qPlaces_all e h1.all k1 k2 w h1 h2

theorem qPlaces_any (t : St) (a0 a1 a2 a3 a4 a5 a6 b0 b1 b2 b3 b4 b5 b6 : Option Addr) (c0 c1 c2 c3 c4 c5 c6 d0 d1 d2 d3 d4 d5 d6 : Nat) (w : World) (h1 : StRA w t (.slice a0 t.on.length c0) (.slice a1 t.whr.length c1) (.slice a2 t.items.length c2) (.slice a3 t.sets.length c3) (.slice a4 t.groups.length c4) (.slice a5 t.sorts.length c5) (.slice a6 t.limit.length c6)) (h2 : StRA w t (.slice b0 t.on.length d0) (.slice b1 t.whr.length d1) (.slice b2 t.items.length d2) (.slice b3 t.sets.length d3) (.slice b4 t.groups.length d4) (.slice b5 t.sorts.length d5) (.slice b6 t.limit.length d6)) (hb : StB 1001 t) : Calls Tryz.prog 26 #[.agg (Vt t.kind t.table t.join (.slice a0 t.on.length c0) (.slice a1 t.whr.length c1) (.slice a2 t.items.length c2) t.star (.slice a3 t.sets.length c3) (.slice a4 t.groups.length c4) (.slice a5 t.sorts.length c5) (.slice a6 t.limit.length c6) t.place t.joinAt),.agg (Vt t.kind t.table t.join (.slice b0 t.on.length d0) (.slice b1 t.whr.length d1) (.slice b2 t.items.length d2) t.star (.slice b3 t.sets.length d3) (.slice b4 t.groups.length d4) (.slice b5 t.sorts.length d5) (.slice b6 t.limit.length d6) t.place t.joinAt)] w fun r w' => r = .returned (.bool true) ∧ Below w.heap.size w w':=by
 have HA1:=Hd h1
 have HA2:=Hd h2
 have HSB:=Hd hb
 clear h1 h2 hb
 obtain ⟨W,hW⟩:=Vx ((w.alloc (.cells (Vt t.kind t.table t.join (.slice a0 t.on.length c0) (.slice a1 t.whr.length c1) (.slice a2 t.items.length c2) t.star (.slice a3 t.sets.length c3) (.slice a4 t.groups.length c4) (.slice a5 t.sorts.length c5) (.slice a6 t.limit.length c6) t.place t.joinAt) 27)).alloc (.cells (Vt t.kind t.table t.join (.slice b0 t.on.length d0) (.slice b1 t.whr.length d1) (.slice b2 t.items.length d2) t.star (.slice b3 t.sets.length d3) (.slice b4 t.groups.length d4) (.slice b5 t.sorts.length d5) (.slice b6 t.limit.length d6) t.place t.joinAt) 27))
 obtain ⟨ra,rb,kb⟩:=hW ▸ two_new (w:=w) (o:=.cells (Vt t.kind t.table t.join (.slice a0 t.on.length c0) (.slice a1 t.whr.length c1) (.slice a2 t.items.length c2) t.star (.slice a3 t.sets.length c3) (.slice a4 t.groups.length c4) (.slice a5 t.sorts.length c5) (.slice a6 t.limit.length c6) t.place t.joinAt) 27) (p:=.cells (Vt t.kind t.table t.join (.slice b0 t.on.length d0) (.slice b1 t.whr.length d1) (.slice b2 t.items.length d2) t.star (.slice b3 t.sets.length d3) (.slice b4 t.groups.length d4) (.slice b5 t.sorts.length d5) (.slice b6 t.limit.length d6) t.place t.joinAt) 27)
 have HB:=Hd kb
 have RA:=Hd ra
 have RB:=Hd rb
 clear ra rb kb
 have zs:=(thirt_of RA.out).1
 have zt:=(thirt_of RB.out).1
 go_enter Tryz.func26,Tryz.ntmps26
 go_wp2_with fail
 clear hW
 refine (qExprs_any t a0 a1 a2 a3 a4 a5 a6 c0 c1 c2 c3 c4 c5 c6 _ (HA1.out.later HB.out).rd HSB.out).mono ?_
 rintro e w0 ⟨ks,p0,q0,rfl,hlk,hlc0,hlm0,hrow,hb1,hxr⟩
 have HK1:=Hd hlk
 have HRW0:=Hd hrow
 have HXW0 : Hid (∀ i (h : i < (exE t).length) (h' : i < ks.length),XR w0 (exE t)[i] ks[i]):=fun i h h' => (hxr i h h').later hb1
 have HB0:=Hd (HB.out.trans (hb1.mono HB.out.size))
 have RA0:=Hd ((hb1.block _ (Gx RA.out)).trans RA.out)
 have RB0:=Hd ((hb1.block _ (Gx RB.out)).trans RB.out)
 clear hlk hrow hxr hb1 zs zt
 have zs:=(thirt_of RA0.out).1
 have zt:=(thirt_of RB0.out).1
 go_wp2_with fail
 refine (qExprs_any t b0 b1 b2 b3 b4 b5 b6 d0 d1 d2 d3 d4 d5 d6 _ (HA2.out.later HB0.out).rd HSB.out).mono ?_
 rintro e w1 ⟨ls,p1,q1,rfl,hlk,hlc1,hlm1,hrow,hb1,hxr⟩
 have HK2:=Hd hlk
 have HRW1:=Hd hrow
 have HXW1 : Hid (∀ i (h : i < (exE t).length) (h' : i < ls.length),XR w1 (exE t)[i] ls[i]):=fun i h h' => (hxr i h h').later hb1
 have HB1:=Hd (HB0.out.trans (hb1.mono HB0.out.size))
 have RA1:=Hd ((hb1.block _ (Gx RA0.out)).trans RA0.out)
 have RB1:=Hd ((hb1.block _ (Gx RB0.out)).trans RB0.out)
 have HX1 : Hid (∀ i (h : i < (exE t).length) (h' : i < ks.length),XR w1 (exE t)[i] ks[i]):=fun i h h' => (HXW0.out i h h').later hb1
 have HR1:=Hd (HRW0.out.later hb1)
 clear hlk hrow hxr hb1 zs zt
 have zs:=(thirt_of RA1.out).1
 have zt:=(thirt_of RB1.out).1
 have HR2:=HRW1
 have HX2:=HXW1
 clear HRW0 HRW1 HXW0 HXW1
 have hsa : w.heap.size < w1.heap.size:=(Gx RA1.out)
 have hsb : w.heap.size + 1 < w1.heap.size:=(Gx RB1.out)
 obtain ⟨es,hes⟩:=Vx (exE t)
 rw [hes] at HK1 HK2 HR1 HR2 HX1 HX2 hlc0 hlc1 hlm0 hlm1 ⊢
 clear hes
 go_wp2
 clear zs zt
 go_loopw [7] (fun i wr => ∃ k : Nat,k ≤ es.length ∧ i = Vi (k : Int) ∧ Below w1.heap.size w1 wr) (fun i _ => es.length - (intOf i).toNat)
 case atStart => exact ⟨0,Nat.zero_le _,rfl,by first | exact Below.refl _ _ | exact (Below.refl _ _).drew⟩
 case round =>
  rename World => R
  obtain ⟨k,hk,rfl,hb⟩:=hrel
  have HW:=Hd hb
  clear hb
  by_cases hlt : k < es.length
  ·have hlti : (k : Int) < (es.length : Int):=by omega
   have y1 : k < ks.length:=by rw [← HK1.out]; exact hlt
   have y2 : k < ls.length:=by rw [← HK2.out]; exact hlt
   obtain ⟨b1,f1,e1,g1⟩:=HR1.out k hlt y1
   obtain ⟨b2,f2,e2,g2⟩:=HR2.out k hlt y2
   subst e1 e2
   have ha1:=HX1.out k hlt y1
   have hb1:=HX2.out k hlt y2
   obtain ⟨pc,mc,cc,hac⟩:=ha1.slice
   obtain ⟨pd,md,cd,hbd⟩:=hb1.slice
   rw [hac] at g1 ha1
   rw [hbd] at g2 hb1
   have HCk:=Hd (fun w => qPlacesExpr_any es[k] (.slice pc mc cc) (.slice pd md cd) w)
   obtain ⟨⟨kkc,ooc,⟨v1c,v2c,v3c⟩,ttc,nnc,ksc,ppc⟩,ea⟩ : ∃ x,es[k] = x:=⟨_,rfl⟩
   rw [ea] at g1 ha1 g2 hb1 HCk
   have XA:=Hd ha1
   have XB:=Hd hb1
   clear ea hac hbd y1 y2 ha1 hb1
   simp only [exC] at HCk
   have G1 : Hid (∀ j u,[Vi kkc,Vi ooc,Vi v1c,Vi v2c,.string v3c,.string ttc,.string nnc,.slice pc mc cc,Vi ppc][j]? = some u → w1.cell? ⟨b1,f1 + k * 9 + j,none⟩ = some u):=g1
   have G2 : Hid (∀ j u,[Vi kkc,Vi ooc,Vi v1c,Vi v2c,.string v3c,.string ttc,.string nnc,.slice pd md cd,Vi ppc][j]? = some u → w1.cell? ⟨b2,f2 + k * 9 + j,none⟩ = some u):=g2
   clear g1 g2
   have p0:=Cl HW.out (G1.out 0 _ rfl)
   have p1:=Cl HW.out (G1.out 1 _ rfl)
   have p2:=Cl HW.out (G1.out 2 _ rfl)
   have p3:=Cl HW.out (G1.out 3 _ rfl)
   have p4:=Cl HW.out (G1.out 4 _ rfl)
   have p5:=Cl HW.out (G1.out 5 _ rfl)
   have p6:=Cl HW.out (G1.out 6 _ rfl)
   have p7:=Cl HW.out (G1.out 7 _ rfl)
   have p8:=Cl HW.out (G1.out 8 _ rfl)
   have q0:=Cl HW.out (G2.out 0 _ rfl)
   have q1:=Cl HW.out (G2.out 1 _ rfl)
   have q2:=Cl HW.out (G2.out 2 _ rfl)
   have q3:=Cl HW.out (G2.out 3 _ rfl)
   have q4:=Cl HW.out (G2.out 4 _ rfl)
   have q5:=Cl HW.out (G2.out 5 _ rfl)
   have q6:=Cl HW.out (G2.out 6 _ rfl)
   have q7:=Cl HW.out (G2.out 7 _ rfl)
   have q8:=Cl HW.out (G2.out 8 _ rfl)
   simp only [Nat.add_zero] at p0 q0
   go_wp2
   go_region_law (go_simp; go_at_call 61; refine (HCk.out _ (XA.out.later (by have h0:=HW.out; have hz:=h0.size; (repeat (first | exact Below.refl _ _ | assumption | refine Below.drew ?_ | refine below_drewN ?_ _ | refine Below.alloc ?_ (by first | omega | (simp; done) | (simp; omega)) _ | refine Below.setCell ?_ (by first | omega | (simp; done) | (simp; omega)) _ | refine Below.trans ?_ (Below.mono (by assumption) (by first | omega | (simp; done) | (simp; omega))))))) (XB.out.later (by have h0:=HW.out; have hz:=h0.size; (repeat (first | exact Below.refl _ _ | assumption | refine Below.drew ?_ | refine below_drewN ?_ _ | refine Below.alloc ?_ (by first | omega | (simp; done) | (simp; omega)) _ | refine Below.setCell ?_ (by first | omega | (simp; done) | (simp; omega)) _ | refine Below.trans ?_ (Below.mono (by assumption) (by first | omega | (simp; done) | (simp; omega)))))))).mono ?_; rintro e w3 ⟨rfl,hl⟩)
   all_goals
    have HW2 : Hid (Below w1.heap.size w1 w3):=by
     have h0:=HW.out
     have hz:=h0.size
     have hz6:=hl.size
     (repeat (first | exact Below.refl _ _ | assumption | refine Below.drew ?_ | refine below_drewN ?_ _ | refine Below.alloc ?_ (by first | omega | (simp; done) | (simp; omega)) _ | refine Below.setCell ?_ (by first | omega | (simp; done) | (simp; omega)) _ | refine Below.trans ?_ (Below.mono (by assumption) (by first | omega | (simp; done) | (simp; omega)))))
    clear hl
    go_wp2
    go_roundw
    case rel => exact ⟨k + 1,by omega,by go_num,HW2.out⟩
    case measure => simp [intOf]; omega
  ·have hnlt : ¬ (k : Int) < (es.length : Int):=by omega
   clear hk hlt
   have zs:=(thirt_of ((HW.out.block _ hsa).trans RA1.out)).1
   have zt:=(thirt_of ((HW.out.block _ hsb).trans RB1.out)).1
   go_wp2
   clear hnlt zs zt
   go_loopw [9] (fun i wr => ∃ k : Nat,k ≤ t.sets.length ∧ i = Vi (k : Int) ∧ Below w1.heap.size w1 wr) (fun i _ => t.sets.length - (intOf i).toNat)
   case atStart => exact ⟨0,Nat.zero_le _,rfl,HW.out⟩
   case round =>
    clear HW
    rename World => R1
    obtain ⟨k,hk,rfl,hb⟩:=hrel
    have HW:=Hd hb
    have HBW : Hid (Below w.heap.size w R1):=HB1.out.trans (hb.mono HB1.out.size)
    have zs:=(thirt_of ((hb.block _ hsa).trans RA1.out)).1
    have zt:=(thirt_of ((hb.block _ hsb).trans RB1.out)).1
    clear hb
    by_cases hlt : k < t.sets.length
    ·have hlti : (k : Int) < (t.sets.length : Int):=by omega
     obtain ⟨p_,c_,ksc,e,_,_,hlkc,hrowc,_⟩:=HA1.out.rd.sets
     injection e with e1 _ e3
     subst e1 e3
     obtain ⟨bc_,oc_,e4,gc⟩:=hrowc k hlt (by rw [← hlkc]; exact hlt)
     subst e4
     obtain ⟨p_,c_,ksd,e,_,_,hlkd,hrowd,_⟩:=HA2.out.rd.sets
     injection e with e1 _ e3
     subst e1 e3
     obtain ⟨bd_,od_,e4,gd⟩:=hrowd k hlt (by rw [← hlkd]; exact hlt)
     subst e4
     obtain ⟨⟨nm,ex,pl⟩,ek⟩ : ∃ z,t.sets[k] = z:=⟨_,rfl⟩
     rw [ek] at gc gd
     have P1:=(HBW.out.cell (World.block_lt_of_cell? _ _ (gc 10 (Vi pl) (seC_last _ _ _ _)))).trans (gc 10 (Vi pl) (seC_last _ _ _ _))
     have P2:=(HBW.out.cell (World.block_lt_of_cell? _ _ (gd 10 (Vi pl) (seC_last _ _ _ _)))).trans (gd 10 (Vi pl) (seC_last _ _ _ _))
     clear gc gd hrowc hrowd hlkc hlkd ek
     go_wp2_with fail
     go_big_quiet (fail)
     go_wp2
     go_roundw
     case rel => exact ⟨k + 1,by omega,by go_num,by have h0:=HW.out; have hz:=h0.size; (repeat (first | exact Below.refl _ _ | assumption | refine Below.drew ?_ | refine below_drewN ?_ _ | refine Below.alloc ?_ (by first | omega | (simp; done) | (simp; omega)) _ | refine Below.setCell ?_ (by first | omega | (simp; done) | (simp; omega)) _ | refine Below.trans ?_ (Below.mono (by assumption) (by first | omega | (simp; done) | (simp; omega)))))⟩
     case measure => simp [intOf]; omega
    ·have hnlt : ¬ (k : Int) < (t.sets.length : Int):=by omega
     clear hk hlt
     go_wp2
     clear hnlt zs zt HBW
     go_loopw [10] (fun i wr => ∃ k : Nat,k ≤ t.sorts.length ∧ i = Vi (k : Int) ∧ Below w1.heap.size w1 wr) (fun i _ => t.sorts.length - (intOf i).toNat)
     case atStart => exact ⟨0,Nat.zero_le _,rfl,HW.out⟩
     case round =>
      clear HW
      rename World => R2
      obtain ⟨k,hk,rfl,hb⟩:=hrel
      have HW:=Hd hb
      have HBW : Hid (Below w.heap.size w R2):=HB1.out.trans (hb.mono HB1.out.size)
      have zs:=(thirt_of ((hb.block _ hsa).trans RA1.out)).1
      have zt:=(thirt_of ((hb.block _ hsb).trans RB1.out)).1
      clear hb
      by_cases hlt : k < t.sorts.length
      ·have hlti : (k : Int) < (t.sorts.length : Int):=by omega
       obtain ⟨p_,c_,e,_,_,hrowc⟩:=HA1.out.sorts
       injection e with e1 _ e3
       subst e1 e3
       obtain ⟨bc_,oc_,e4,gc⟩:=hrowc k hlt
       subst e4
       obtain ⟨p_,c_,e,_,_,hrowd⟩:=HA2.out.sorts
       injection e with e1 _ e3
       subst e1 e3
       obtain ⟨bd_,od_,e4,gd⟩:=hrowd k hlt
       subst e4
       obtain ⟨⟨it,ds,pl⟩,ek⟩ : ∃ z,t.sorts[k] = z:=⟨_,rfl⟩
       rw [ek] at gc gd
       have P1:=Cl HBW.out (gc 2 _ rfl)
       have P2:=Cl HBW.out (gd 2 _ rfl)
       clear gc gd hrowc hrowd ek
       go_wp2_with fail
       go_big_quiet (fail)
       go_wp2
       go_roundw
       case rel => exact ⟨k + 1,by omega,by go_num,by have h0:=HW.out; have hz:=h0.size; (repeat (first | exact Below.refl _ _ | assumption | refine Below.drew ?_ | refine below_drewN ?_ _ | refine Below.alloc ?_ (by first | omega | (simp; done) | (simp; omega)) _ | refine Below.setCell ?_ (by first | omega | (simp; done) | (simp; omega)) _ | refine Below.trans ?_ (Below.mono (by assumption) (by first | omega | (simp; done) | (simp; omega)))))⟩
       case measure => simp [intOf]; omega
      ·have hnlt : ¬ (k : Int) < (t.sorts.length : Int):=by omega
       clear hk hlt
       go_wp2
       exact bodyPost_ret (v:=.bool true) (by simp [results,Tryz.results26,go_sem]) rfl ⟨rfl,by have h0:=HBW.out; have hz:=h0.size; (repeat (first | exact Below.refl _ _ | assumption | refine Below.drew ?_ | refine below_drewN ?_ _ | refine Below.alloc ?_ (by first | omega | (simp; done) | (simp; omega)) _ | refine Below.setCell ?_ (by first | omega | (simp; done) | (simp; omega)) _ | refine Below.trans ?_ (Below.mono (by assumption) (by first | omega | (simp; done) | (simp; omega)))))⟩

theorem whole_any (t : St) (a0 a1 a2 a3 a4 a5 a6 b0 b1 b2 b3 b4 b5 b6 : Option Addr) (c0 c1 c2 c3 c4 c5 c6 d0 d1 d2 d3 d4 d5 d6 : Nat) (w : World) (h1 : StRA w t (.slice a0 t.on.length c0) (.slice a1 t.whr.length c1) (.slice a2 t.items.length c2) (.slice a3 t.sets.length c3) (.slice a4 t.groups.length c4) (.slice a5 t.sorts.length c5) (.slice a6 t.limit.length c6)) (h2 : StRA w t (.slice b0 t.on.length d0) (.slice b1 t.whr.length d1) (.slice b2 t.items.length d2) (.slice b3 t.sets.length d3) (.slice b4 t.groups.length d4) (.slice b5 t.sorts.length d5) (.slice b6 t.limit.length d6)) (hb : StB 1001 t) : Calls Tryz.prog 11 #[.agg (Vt t.kind t.table t.join (.slice a0 t.on.length c0) (.slice a1 t.whr.length c1) (.slice a2 t.items.length c2) t.star (.slice a3 t.sets.length c3) (.slice a4 t.groups.length c4) (.slice a5 t.sorts.length c5) (.slice a6 t.limit.length c6) t.place t.joinAt),.agg (Vt t.kind t.table t.join (.slice b0 t.on.length d0) (.slice b1 t.whr.length d1) (.slice b2 t.items.length d2) t.star (.slice b3 t.sets.length d3) (.slice b4 t.groups.length d4) (.slice b5 t.sorts.length d5) (.slice b6 t.limit.length d6) t.place t.joinAt)] w fun r w' => r = .returned (.bool true) ∧ Below w.heap.size w w':=by
 have HA1:=Hd h1
 have HA2:=Hd h2
 have HSB:=Hd hb
 clear h1 h2 hb
 obtain ⟨W,hW⟩:=Vx ((w.alloc (.cells (Vt t.kind t.table t.join (.slice a0 t.on.length c0) (.slice a1 t.whr.length c1) (.slice a2 t.items.length c2) t.star (.slice a3 t.sets.length c3) (.slice a4 t.groups.length c4) (.slice a5 t.sorts.length c5) (.slice a6 t.limit.length c6) t.place t.joinAt) 27)).alloc (.cells (Vt t.kind t.table t.join (.slice b0 t.on.length d0) (.slice b1 t.whr.length d1) (.slice b2 t.items.length d2) t.star (.slice b3 t.sets.length d3) (.slice b4 t.groups.length d4) (.slice b5 t.sorts.length d5) (.slice b6 t.limit.length d6) t.place t.joinAt) 27))
 obtain ⟨ra,rb,kb⟩:=hW ▸ two_new (w:=w) (o:=.cells (Vt t.kind t.table t.join (.slice a0 t.on.length c0) (.slice a1 t.whr.length c1) (.slice a2 t.items.length c2) t.star (.slice a3 t.sets.length c3) (.slice a4 t.groups.length c4) (.slice a5 t.sorts.length c5) (.slice a6 t.limit.length c6) t.place t.joinAt) 27) (p:=.cells (Vt t.kind t.table t.join (.slice b0 t.on.length d0) (.slice b1 t.whr.length d1) (.slice b2 t.items.length d2) t.star (.slice b3 t.sets.length d3) (.slice b4 t.groups.length d4) (.slice b5 t.sorts.length d5) (.slice b6 t.limit.length d6) t.place t.joinAt) 27)
 have HB:=Hd kb
 have RA:=Hd ra
 have RB:=Hd rb
 clear ra rb kb
 have zs:=(thirt_of RA.out).1
 have zt:=(thirt_of RB.out).1
 go_enter Tryz.func11,Tryz.ntmps11
 go_wp2_with fail
 clear hW
 refine (dSame_any t t a0 a1 a2 a3 a4 a5 a6 b0 b1 b2 b3 b4 b5 b6 c0 c1 c2 c3 c4 c5 c6 d0 d1 d2 d3 d4 d5 d6 _ (HA1.out.later HB.out) (HA2.out.later HB.out)).mono ?_
 rintro e w1 ⟨⟨b,rfl,hq⟩,hl⟩
 have hbt : b = true:=hq.2 (SmSt.reflQ t)
 subst hbt
 have HB1:=Hd (HB.out.trans (hl.mono HB.out.size))
 have RA1:=Hd ((hl.block _ (Gx RA.out)).trans RA.out)
 have RB1:=Hd ((hl.block _ (Gx RB.out)).trans RB.out)
 clear hq hl zs zt
 have zs:=(thirt_of RA1.out).1
 have zt:=(thirt_of RB1.out).1
 go_wp2_with fail
 refine (qPlaces_any t a0 a1 a2 a3 a4 a5 a6 b0 b1 b2 b3 b4 b5 b6 c0 c1 c2 c3 c4 c5 c6 d0 d1 d2 d3 d4 d5 d6 _ (HA1.out.later HB1.out) (HA2.out.later HB1.out) HSB.out).mono ?_
 rintro e w2 ⟨rfl,hl⟩
 have HB2:=Hd (HB1.out.trans (hl.mono HB1.out.size))
 clear hl
 go_wp2
 exact bodyPost_ret (v:=.bool true) (by simp [results,Tryz.results11,go_sem]) rfl ⟨rfl,HB2.out⟩
end Go.Proofs.YtffalonhkemieaaGreatDoor
