/- A112 -/
import Derived.Test.YtffalonhkemieaaGreatDoorSA78
set_option maxHeartbeats 16000000
set_option maxRecDepth 100000
namespace Go.Proofs.YtffalonhkemieaaGreatDoor
open Go.RowKit
theorem dSameExpr_all (e : Ex) (hA : AllK e) : ∀ (f : Ex) (k1 k2 : Value) (w : World),XR w e k1 → XR w f k2 → Calls Tryz.prog 46 #[.agg (exC e k1).toArray,.agg (exC f k2).toArray] w (EqPost (SmX e f) w):=by
 induction hA with
 | @mk kka ooa va tta nna es ppa _ ih =>
  intro f k1 k2 w hx1 hx2
  have HIH:=Hd ih
  clear ih
  obtain ⟨v1a,v2a,v3a⟩:=va
  cases hx1 with
  | @mk _ _ _ _ _ _ _ pa ca ks h1 hc1 hm1 hr1 hs1 =>
   cases hx2 with
   | @mk kkb oob vb ttb nnb fs ppb pb cb ls h2 hc2 hm2 hr2 hs2 =>
    obtain ⟨v1b,v2b,v3b⟩:=vb
    have HR1:=Hd hr1
    have HR2:=Hd hr2
    have HX1:=Hd hs1
    have HX2:=Hd hs2
    have HK1:=Hd h1
    have HK2:=Hd h2
    clear h1 hr1 hs1 h2 hr2 hs2
    obtain ⟨Q,hQ⟩:=Vx (SmX (.mk kka ooa (v1a,v2a,v3a) tta nna es ppa) (.mk kkb oob (v1b,v2b,v3b) ttb nnb fs ppb))
    have HQ : Hid (Q ↔ kka = kkb ∧ ooa = oob ∧ (v1a,v2a,v3a) = (v1b,v2b,v3b) ∧ tta = ttb ∧ nna = nnb ∧ SmXs es fs):=Hd (hQ ▸ SmX.iff)
    rw [hQ]
    clear hQ
    simp only [exC]
    obtain ⟨W,hW⟩:=Vx ((w.alloc (.cells (Ve kka ooa v1a v2a v3a tta nna (.slice pa es.length ca) ppa) 48)).alloc (.cells (Ve kkb oob v1b v2b v3b ttb nnb (.slice pb fs.length cb) ppb) 48))
    obtain ⟨ra,rb,kb⟩:=hW ▸ two_new (w:=w) (o:=.cells (Ve kka ooa v1a v2a v3a tta nna (.slice pa es.length ca) ppa) 48) (p:=.cells (Ve kkb oob v1b v2b v3b ttb nnb (.slice pb fs.length cb) ppb) 48)
    have HB:=Hd kb
    have zs:=(nine_of ra).1
    have zt:=(nine_of rb).1
    clear kb
    go_enter Tryz.func46,Tryz.ntmps46
    go_upto_region 1 with fail
    clear hW
    by_cases n : kka = kkb
    rotate_left
    ·have d : (kka == kkb) = false:=by simpa using n
     have HE : Hid (¬ Q):=Hd (fun h => n (HQ.out.1 h).1)
     have d2 : (kka != kkb) = true:=by simpa using n
     clear n
     go_wp2
     exact bodyPost_ret (v:=.bool false) (by simp [results,Tryz.results46,go_sem]) rfl (eq_no HE.out HB.out)
    subst n
    by_cases n : ooa = oob
    rotate_left
    ·have d : (ooa == oob) = false:=by simpa using n
     have HE : Hid (¬ Q):=Hd (fun h => n (HQ.out.1 h).2.1)
     have d2 : (ooa != oob) = true:=by simpa using n
     clear n
     go_wp2
     exact bodyPost_ret (v:=.bool false) (by simp [results,Tryz.results46,go_sem]) rfl (eq_no HE.out HB.out)
    subst n
    by_cases n : v1a = v1b
    rotate_left
    ·have d : (v1a == v1b) = false:=by simpa using n
     have HE : Hid (¬ Q):=Hd (fun h => n (Prod.mk.inj (HQ.out.1 h).2.2.1).1)
     have d2 : (v1a != v1b) = true:=by simpa using n
     clear n
     go_wp2
     exact bodyPost_ret (v:=.bool false) (by simp [results,Tryz.results46,go_sem]) rfl (eq_no HE.out HB.out)
    subst n
    by_cases n : v2a = v2b
    rotate_left
    ·have d : (v2a == v2b) = false:=by simpa using n
     have HE : Hid (¬ Q):=Hd (fun h => n (Prod.mk.inj (Prod.mk.inj (HQ.out.1 h).2.2.1).2).1)
     have d2 : (v2a != v2b) = true:=by simpa using n
     clear n
     go_wp2
     exact bodyPost_ret (v:=.bool false) (by simp [results,Tryz.results46,go_sem]) rfl (eq_no HE.out HB.out)
    subst n
    by_cases n : v3a = v3b
    rotate_left
    ·have d:=str_ne n
     have HE : Hid (¬ Q):=Hd (fun h => n (Prod.mk.inj (Prod.mk.inj (HQ.out.1 h).2.2.1).2).2)
     clear n
     go_wp2
     exact bodyPost_ret (v:=.bool false) (by simp [results,Tryz.results46,go_sem]) rfl (eq_no HE.out HB.out)
    subst n
    by_cases n : tta = ttb
    rotate_left
    ·have d:=str_ne n
     have HE : Hid (¬ Q):=Hd (fun h => n (HQ.out.1 h).2.2.2.1)
     clear n
     go_wp2
     exact bodyPost_ret (v:=.bool false) (by simp [results,Tryz.results46,go_sem]) rfl (eq_no HE.out HB.out)
    subst n
    by_cases n : nna = nnb
    rotate_left
    ·have d:=str_ne n
     have HE : Hid (¬ Q):=Hd (fun h => n (HQ.out.1 h).2.2.2.2.1)
     clear n
     go_wp2
     exact bodyPost_ret (v:=.bool false) (by simp [results,Tryz.results46,go_sem]) rfl (eq_no HE.out HB.out)
    subst n
    by_cases hlen : es.length = fs.length
    rotate_left
    ·have hle : ((es.length : Int) != (fs.length : Int)) = true:=by simp; omega
     have HE : Hid (¬ Q):=Hd (fun h => hlen (HQ.out.1 h).2.2.2.2.2.1)
     clear hlen
     go_wp2
     exact bodyPost_ret (v:=.bool false) (by simp [results,Tryz.results46,go_sem]) rfl (eq_no HE.out HB.out)
    have hle : ((es.length : Int) != (fs.length : Int)) = false:=by simp; omega
    have HLN:=Hd hlen
    have HQ2 : Hid (Q ↔ SmXs es fs):=Hd (HQ.out.trans ⟨fun h => h.2.2.2.2.2,fun h => ⟨rfl,rfl,rfl,rfl,rfl,h⟩⟩)
    have RA:=Hd ra
    have RB:=Hd rb
    have hsa : w.heap.size < W.heap.size:=(Gx ra)
    have hsb : w.heap.size + 1 < W.heap.size:=(Gx rb)
    clear hlen ra rb HQ
    go_wp2
    clear hle zs zt
    go_loopw [5] (fun i wr => ∃ k : Nat,k ≤ es.length ∧ i = Vi (k : Int) ∧ (∀ j (h : j < es.length) (h2 : j < fs.length),j < k → SmX es[j] fs[j]) ∧ Below W.heap.size W wr) (fun i _ => es.length - (intOf i).toNat)
    case atStart => exact ⟨0,Nat.zero_le _,rfl,fun _ _ _ h => absurd h (Nat.not_lt_zero _),by first | exact Below.refl _ _ | exact (Below.refl _ _).drew⟩
    case round =>
     rename World => R
     obtain ⟨k,hk,rfl,hall,hb⟩:=hrel
     have HALL:=Hd hall
     have HW:=Hd hb
     have hin : Below w.heap.size w R:=HB.out.trans (hb.mono HB.out.size)
     have HBW:=Hd hin
     have zs:=(nine_of ((hb.block _ hsa).trans RA.out)).1
     have zt:=(nine_of ((hb.block _ hsb).trans RB.out)).1
     clear hall hb hin
     by_cases hlt : k < es.length
     ·have hlti : (k : Int) < (es.length : Int):=by omega
      have x1 : k < es.length:=hlt
      have x2 : k < fs.length:=by rw [← HLN.out]; exact hlt
      have y1 : k < ks.length:=by rw [← HK1.out]; exact x1
      have y2 : k < ls.length:=by rw [← HK2.out]; exact x2
      have hltf : (k : Int) < (fs.length : Int):=by omega
      obtain ⟨b1,f1,rfl,g1⟩:=HR1.out k x1 y1
      obtain ⟨b2,f2,rfl,g2⟩:=HR2.out k x2 y2
      have ha1:=HX1.out k x1 y1
      have hb1:=HX2.out k x2 y2
      obtain ⟨pc,mc,cc,hac⟩:=ha1.slice
      obtain ⟨pd,md,cd,hbd⟩:=hb1.slice
      rw [hac] at g1 ha1
      rw [hbd] at g2 hb1
      obtain ⟨⟨kkc,ooc,⟨v1c,v2c,v3c⟩,ttc,nnc,ksc,ppc⟩,ea⟩ : ∃ x,es[k] = x:=⟨_,rfl⟩
      obtain ⟨⟨kkd,ood,⟨v1d,v2d,v3d⟩,ttd,nnd,ksd,ppd⟩,eb⟩ : ∃ x,fs[k] = x:=⟨_,rfl⟩
      have HCk:=Hd (fun w => HIH.out k x1 fs[k] (.slice pc mc cc) (.slice pd md cd) w)
      rw [ea] at g1 ha1 HCk
      rw [eb] at g2 hb1 HCk
      have HSE : Hid (SmX (Ex.mk kkc ooc (v1c,v2c,v3c) ttc nnc ksc ppc) (Ex.mk kkd ood (v1d,v2d,v3d) ttd nnd ksd ppd) ↔ SmX es[k] fs[k]):=Hd (by rw [ea,eb])
      have XA:=Hd ha1
      have XB:=Hd hb1
      clear ea eb hac hbd y1 y2 ha1 hb1
      simp only [exC] at HCk
      have G1 : Hid (∀ j u,[Vi kkc,Vi ooc,Vi v1c,Vi v2c,.string v3c,.string ttc,.string nnc,.slice pc mc cc,Vi ppc][j]? = some u → w.cell? ⟨b1,f1 + k * 9 + j,none⟩ = some u):=g1
      have G2 : Hid (∀ j u,[Vi kkd,Vi ood,Vi v1d,Vi v2d,.string v3d,.string ttd,.string nnd,.slice pd md cd,Vi ppd][j]? = some u → w.cell? ⟨b2,f2 + k * 9 + j,none⟩ = some u):=g2
      clear g1 g2
      have p0:=Cl HBW.out (G1.out 0 _ rfl)
      have p1:=Cl HBW.out (G1.out 1 _ rfl)
      have p2:=Cl HBW.out (G1.out 2 _ rfl)
      have p3:=Cl HBW.out (G1.out 3 _ rfl)
      have p4:=Cl HBW.out (G1.out 4 _ rfl)
      have p5:=Cl HBW.out (G1.out 5 _ rfl)
      have p6:=Cl HBW.out (G1.out 6 _ rfl)
      have p7:=Cl HBW.out (G1.out 7 _ rfl)
      have p8:=Cl HBW.out (G1.out 8 _ rfl)
      have q0:=Cl HBW.out (G2.out 0 _ rfl)
      have q1:=Cl HBW.out (G2.out 1 _ rfl)
      have q2:=Cl HBW.out (G2.out 2 _ rfl)
      have q3:=Cl HBW.out (G2.out 3 _ rfl)
      have q4:=Cl HBW.out (G2.out 4 _ rfl)
      have q5:=Cl HBW.out (G2.out 5 _ rfl)
      have q6:=Cl HBW.out (G2.out 6 _ rfl)
      have q7:=Cl HBW.out (G2.out 7 _ rfl)
      have q8:=Cl HBW.out (G2.out 8 _ rfl)
      simp only [Nat.add_zero] at p0 q0
      go_wp2
      go_region_law (go_simp; go_at_call 46; refine (HCk.out _ (XA.out.later (by have h0:=HBW.out; have hz:=h0.size; (repeat (first|exact Bxr _ _|assumption|apply Bxd|apply Bxa|apply Bxs|refine Bxt ?_ (by assumption) ?_|omega|simp)))) (XB.out.later (by have h0:=HBW.out; have hz:=h0.size; (repeat (first|exact Bxr _ _|assumption|apply Bxd|apply Bxa|apply Bxs|refine Bxt ?_ (by assumption) ?_|omega|simp))))).mono ?_; rintro e w3 ⟨⟨fine,rfl,hf⟩,hl⟩)
      all_goals
       have HFI:=Hd (hf.trans HSE.out)
       have HW2 : Hid (Below W.heap.size W w3):=by
        have h0:=HW.out
        have hz:=h0.size
        have hz6:=hl.size
        (repeat (first|exact Bxr _ _|assumption|apply Bxd|apply Bxa|apply Bxs|refine Bxt ?_ (by assumption) ?_|omega|simp))
       have HBW2 : Hid (Below w.heap.size w w3):=HB.out.trans (HW2.out.mono HB.out.size)
       clear hf hl p0 p1 p2 p3 p4 p5 p6 p7 p8 q0 q1 q2 q3 q4 q5 q6 q7 q8 zs zt
       cases fine with
       | false =>
        have HE : Hid (¬ Q):=Hd (fun h => absurd (HFI.out.2 ((HQ2.out.1 h).2 k x1 x2)) (by simp))
        go_wp2
        exact bodyPost_ret (v:=.bool false) (by simp [results,Tryz.results46,go_sem]) rfl (eq_no HE.out HBW2.out)
       | true =>
        have HALL2 : Hid (∀ j (h : j < es.length) (h2 : j < fs.length),j < k + 1 → SmX es[j] fs[j]):=fun j h h2 hj => by
         by_cases e : j = k
         ·subst e; exact HFI.out.1 rfl
         ·exact HALL.out j h h2 (by omega)
        go_wp2
        go_roundw
        case rel => exact ⟨k + 1,by omega,by go_num,HALL2.out,HW2.out⟩
        case measure => simp [intOf]; omega
     ·have hnlt : ¬ (k : Int) < (es.length : Int):=by omega
      have HE : Hid Q:=HQ2.out.2 ⟨HLN.out,fun i h h2 => HALL.out i h h2 (by omega)⟩
      go_wp2
      exact bodyPost_ret (v:=.bool true) (by simp [results,Tryz.results46,go_sem]) rfl (eq_yes HE.out HBW.out)

theorem dSameExpr_any (e f : Ex) (k1 k2 : Value) (w : World) (h1 : XR w e k1) (h2 : XR w f k2) : Calls Tryz.prog 46 #[.agg (exC e k1).toArray,.agg (exC f k2).toArray] w (EqPost (SmX e f) w):=dSameExpr_all e h1.all f k1 k2 w h1 h2

theorem dSameExprs_any (es fs : List Ex) (a1 a2 : Option Addr) (c1 c2 : Nat) (w : World) (h1 : XLR w es (.slice a1 es.length c1)) (h2 : XLR w fs (.slice a2 fs.length c2)) : Calls Tryz.prog 45 #[.slice a1 es.length c1,.slice a2 fs.length c2] w (EqPost (SmXs es fs) w):=by
 obtain ⟨p1,q1,ks,e1,_,hm1,hk1,hr1,hx1⟩:=h1
 obtain ⟨p2,q2,ls,e2,_,hm2,hk2,hr2,hx2⟩:=h2
 injection e1 with e11 _ e13
 subst e11 e13
 injection e2 with e21 _ e23
 subst e21 e23
 have HR1:=Hd hr1
 have HR2:=Hd hr2
 have HX1:=Hd hx1
 have HX2:=Hd hx2
 have HK1:=Hd hk1
 have HK2:=Hd hk2
 clear hr1 hr2 hx1 hx2 hk1 hk2
 obtain ⟨Q,hQ⟩:=Vx (SmXs es fs)
 have HQ2 : Hid (Q ↔ SmXs es fs):=Hd (hQ ▸ Iff.rfl)
 rw [hQ]
 clear hQ
 have HB0 : Hid (Below w.heap.size w w):=Below.refl _ _
 go_enter Tryz.func45,Tryz.ntmps45
 by_cases hlen : es.length = fs.length
 rotate_left
 ·have hle : ((es.length : Int) != (fs.length : Int)) = true:=by simp; omega
  have HE : Hid (¬ Q):=Hd (fun h => hlen (HQ2.out.1 h).1)
  clear hlen
  go_wp2
  exact bodyPost_ret (v:=.bool false) (by simp [results,Tryz.results45,go_sem]) rfl (eq_no HE.out HB0.out)
 have hle : ((es.length : Int) != (fs.length : Int)) = false:=by simp; omega
 have HLN:=Hd hlen
 clear hlen
 go_wp2
 clear hle
 go_loopw [5] (fun i wr => ∃ k : Nat,k ≤ es.length ∧ i = Vi (k : Int) ∧ (∀ j (h : j < es.length) (h2 : j < fs.length),j < k → SmX es[j] fs[j]) ∧ Below w.heap.size w wr) (fun i _ => es.length - (intOf i).toNat)
 case atStart => exact ⟨0,Nat.zero_le _,rfl,fun _ _ _ h => absurd h (Nat.not_lt_zero _),by first | exact Below.refl _ _ | exact (Below.refl _ _).drew⟩
 case round =>
  rename World => R
  obtain ⟨k,hk,rfl,hall,hb⟩:=hrel
  have HALL:=Hd hall
  have HW:=Hd hb
  have hin : Below w.heap.size w R:=hb
  have HBW:=Hd hin
  clear hall hb hin
  by_cases hlt : k < es.length
  ·have hlti : (k : Int) < (es.length : Int):=by omega
   have x1 : k < es.length:=hlt
   have x2 : k < fs.length:=by rw [← HLN.out]; exact hlt
   have y1 : k < ks.length:=by rw [← HK1.out]; exact x1
   have y2 : k < ls.length:=by rw [← HK2.out]; exact x2
   have hltf : (k : Int) < (fs.length : Int):=by omega
   obtain ⟨b1,f1,rfl,g1⟩:=HR1.out k x1 y1
   obtain ⟨b2,f2,rfl,g2⟩:=HR2.out k x2 y2
   have ha1:=HX1.out k x1 y1
   have hb1:=HX2.out k x2 y2
   obtain ⟨pc,mc,cc,hac⟩:=ha1.slice
   obtain ⟨pd,md,cd,hbd⟩:=hb1.slice
   rw [hac] at g1 ha1
   rw [hbd] at g2 hb1
   obtain ⟨⟨kkc,ooc,⟨v1c,v2c,v3c⟩,ttc,nnc,ksc,ppc⟩,ea⟩ : ∃ x,es[k] = x:=⟨_,rfl⟩
   obtain ⟨⟨kkd,ood,⟨v1d,v2d,v3d⟩,ttd,nnd,ksd,ppd⟩,eb⟩ : ∃ x,fs[k] = x:=⟨_,rfl⟩
   have HCk:=Hd (fun w => dSameExpr_any es[k] fs[k] (.slice pc mc cc) (.slice pd md cd) w)
   rw [ea] at g1 ha1 HCk
   rw [eb] at g2 hb1 HCk
   have HSE : Hid (SmX (Ex.mk kkc ooc (v1c,v2c,v3c) ttc nnc ksc ppc) (Ex.mk kkd ood (v1d,v2d,v3d) ttd nnd ksd ppd) ↔ SmX es[k] fs[k]):=Hd (by rw [ea,eb])
   have XA:=Hd ha1
   have XB:=Hd hb1
   clear ea eb hac hbd y1 y2 ha1 hb1
   simp only [exC] at HCk
   have G1 : Hid (∀ j u,[Vi kkc,Vi ooc,Vi v1c,Vi v2c,.string v3c,.string ttc,.string nnc,.slice pc mc cc,Vi ppc][j]? = some u → w.cell? ⟨b1,f1 + k * 9 + j,none⟩ = some u):=g1
   have G2 : Hid (∀ j u,[Vi kkd,Vi ood,Vi v1d,Vi v2d,.string v3d,.string ttd,.string nnd,.slice pd md cd,Vi ppd][j]? = some u → w.cell? ⟨b2,f2 + k * 9 + j,none⟩ = some u):=g2
   clear g1 g2
   have p0:=Cl HBW.out (G1.out 0 _ rfl)
   have p1:=Cl HBW.out (G1.out 1 _ rfl)
   have p2:=Cl HBW.out (G1.out 2 _ rfl)
   have p3:=Cl HBW.out (G1.out 3 _ rfl)
   have p4:=Cl HBW.out (G1.out 4 _ rfl)
   have p5:=Cl HBW.out (G1.out 5 _ rfl)
   have p6:=Cl HBW.out (G1.out 6 _ rfl)
   have p7:=Cl HBW.out (G1.out 7 _ rfl)
   have p8:=Cl HBW.out (G1.out 8 _ rfl)
   have q0:=Cl HBW.out (G2.out 0 _ rfl)
   have q1:=Cl HBW.out (G2.out 1 _ rfl)
   have q2:=Cl HBW.out (G2.out 2 _ rfl)
   have q3:=Cl HBW.out (G2.out 3 _ rfl)
   have q4:=Cl HBW.out (G2.out 4 _ rfl)
   have q5:=Cl HBW.out (G2.out 5 _ rfl)
   have q6:=Cl HBW.out (G2.out 6 _ rfl)
   have q7:=Cl HBW.out (G2.out 7 _ rfl)
   have q8:=Cl HBW.out (G2.out 8 _ rfl)
   simp only [Nat.add_zero] at p0 q0
   go_wp2
   go_region_law (go_simp; go_at_call 46; refine (HCk.out _ (XA.out.later (by have h0:=HBW.out; have hz:=h0.size; (repeat (first|exact Bxr _ _|assumption|apply Bxd|apply Bxa|apply Bxs|refine Bxt ?_ (by assumption) ?_|omega|simp)))) (XB.out.later (by have h0:=HBW.out; have hz:=h0.size; (repeat (first|exact Bxr _ _|assumption|apply Bxd|apply Bxa|apply Bxs|refine Bxt ?_ (by assumption) ?_|omega|simp))))).mono ?_; rintro e w3 ⟨⟨fine,rfl,hf⟩,hl⟩)
   all_goals
    have HFI:=Hd (hf.trans HSE.out)
    have HW2 : Hid (Below w.heap.size w w3):=by
     have h0:=HW.out
     have hz:=h0.size
     have hz6:=hl.size
     (repeat (first|exact Bxr _ _|assumption|apply Bxd|apply Bxa|apply Bxs|refine Bxt ?_ (by assumption) ?_|omega|simp))
    have HBW2 : Hid (Below w.heap.size w w3):=HW2
    clear hf hl p0 p1 p2 p3 p4 p5 p6 p7 p8 q0 q1 q2 q3 q4 q5 q6 q7 q8
    cases fine with
    | false =>
     have HE : Hid (¬ Q):=Hd (fun h => absurd (HFI.out.2 ((HQ2.out.1 h).2 k x1 x2)) (by simp))
     go_wp2
     exact bodyPost_ret (v:=.bool false) (by simp [results,Tryz.results45,go_sem]) rfl (eq_no HE.out HBW2.out)
    | true =>
     have HALL2 : Hid (∀ j (h : j < es.length) (h2 : j < fs.length),j < k + 1 → SmX es[j] fs[j]):=fun j h h2 hj => by
      by_cases e : j = k
      ·subst e; exact HFI.out.1 rfl
      ·exact HALL.out j h h2 (by omega)
     go_wp2
     go_roundw
     case rel => exact ⟨k + 1,by omega,by go_num,HALL2.out,HW2.out⟩
     case measure => simp [intOf]; omega
  ·have hnlt : ¬ (k : Int) < (es.length : Int):=by omega
   have HE : Hid Q:=HQ2.out.2 ⟨HLN.out,fun i h h2 => HALL.out i h h2 (by omega)⟩
   go_wp2
   exact bodyPost_ret (v:=.bool true) (by simp [results,Tryz.results45,go_sem]) rfl (eq_yes HE.out HBW.out)
end Go.Proofs.YtffalonhkemieaaGreatDoor
