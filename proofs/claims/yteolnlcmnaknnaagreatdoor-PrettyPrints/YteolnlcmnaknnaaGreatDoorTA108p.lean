/- A108p A108 A109 -/
import Derived.Test.YteolnlcmnaknnaaGreatDoorTA107
set_option maxHeartbeats 16000000
set_option maxRecDepth 100000
namespace Go.Proofs.YteolnlcmnaknnaaGreatDoor
open Go.RowKit
def DRt (m : Nat) (e : Ex) : Prop:=RtE e ∧ dpr m e = false

theorem dk_form {k : Int} {n : Nat} (ho : ¬ (k = 11 ∨ k = 12 ∨ k = 13 ∨ k = 14)) : ((dk k).1 ≤ (n : Int) ∧ (n : Int) ≤ (dk k).2) ↔ ((formK k).2.2.1 ≤ n ∧ n ≤ (formK k).2.2.2):=by
 by_cases n1 : k = 1
 ·subst n1
  rw [show dk 1 = (0,0) from by decide,show formK 1 = (0,0,0,0) from by decide]
  simp only
  omega
 by_cases n2 : k = 2
 ·subst n2
  rw [show dk 2 = (0,0) from by decide,show formK 2 = (0,0,0,0) from by decide]
  simp only
  omega
 by_cases n3 : k = 3
 ·subst n3
  rw [show dk 3 = (0,0) from by decide,show formK 3 = (0,0,0,0) from by decide]
  simp only
  omega
 by_cases n4 : k = 4
 ·subst n4
  rw [show dk 4 = (1,1) from by decide,show formK 4 = (0,0,1,1) from by decide]
  simp only
  omega
 by_cases n5 : k = 5
 ·subst n5
  rw [show dk 5 = (2,2) from by decide,show formK 5 = (1,5,2,2) from by decide]
  simp only
  omega
 by_cases n6 : k = 6
 ·subst n6
  rw [show dk 6 = (2,2) from by decide,show formK 6 = (1,6,2,2) from by decide]
  simp only
  omega
 by_cases n7 : k = 7
 ·subst n7
  rw [show dk 7 = (1,1) from by decide,show formK 7 = (0,1,1,1) from by decide]
  simp only
  omega
 by_cases n8 : k = 8
 ·subst n8
  rw [show dk 8 = (1,1) from by decide,show formK 8 = (0,0,1,1) from by decide]
  simp only
  omega
 by_cases n9 : k = 9
 ·subst n9
  rw [show dk 9 = (2,8) from by decide,show formK 9 = (0,0,2,8) from by decide]
  simp only
  omega
 by_cases n10 : k = 10
 ·subst n10
  rw [show dk 10 = (2,8) from by decide,show formK 10 = (0,0,2,8) from by decide]
  simp only
  omega
 have e1 : dk k = (0,-1):=by unfold dk; simp [n1,n2,n3,n4,n5,n6,n7,n8,n9,n10]
 have e2 : formK k = (0,0,1,0):=by
  have h11 : ¬ k = 11:=fun e => ho (Or.inl e)
  have h12 : ¬ k = 12:=fun e => ho (Or.inr (Or.inl e))
  have h13 : ¬ k = 13:=fun e => ho (Or.inr (Or.inr (Or.inl e)))
  have h14 : ¬ k = 14:=fun e => ho (Or.inr (Or.inr (Or.inr e)))
  unfold formK
  simp [n1,n2,n3,n4,n5,n6,n7,n8,n9,n10,h11,h12,h13,h14]
 rw [e1,e2]
 simp only
 omega

theorem dk_over {k : Int} {n : Nat} (ho : k = 11 ∨ k = 12 ∨ k = 13 ∨ k = 14) : ¬ (n : Int) ≤ (dk k).2:=by
 have e : dk k = (0,-1):=by rcases ho with rfl | rfl | rfl | rfl <;> decide
 rw [e]
 show ¬ (n : Int) ≤ -1
 omega

theorem dpr_kidD {n : Nat} {k o : Int} {v : V3} {t m : ByteArray} {ks : List Ex} {p : Int} : dpr (n + 1) (.mk k o v t m ks p) = false ↔ ∀ i (h : i < ks.length),dpr n ks[i] = false:=by
 show ks.any (dpr n) = false ↔ _
 rw [List.any_eq_false]
 constructor
 ·intro h i hi
  simpa using h _ (List.getElem_mem hi)
 ·intro h x hx
  obtain ⟨i,hi,rfl⟩:=List.getElem_of_mem hx
  rw [h i hi]
  simp

theorem drt_iff {n : Nat} {k o : Int} {v : V3} {t m : ByteArray} {ks : List Ex} {p : Int} : DRt (n + 1) (.mk k o v t m ks p) ↔ DF (.mk k o v t m ks p) ∧ (dk k).1 ≤ (ks.length : Int) ∧ (ks.length : Int) ≤ (dk k).2 ∧ ∀ i (h : i < ks.length),DRt n ks[i]:=by
 constructor
 ·rintro ⟨⟨h1,h2⟩,h3⟩
  obtain ⟨a,b,⟨c,d,e⟩,f⟩:=RtI.iff.1 h2
  have h4:=(dk_form (n:=ks.length) h1).2 ⟨c,d⟩
  exact ⟨⟨a,b,f⟩,h4.1,h4.2,fun i hi => ⟨e i hi,dpr_kidD.1 h3 i hi⟩⟩
 ·rintro ⟨⟨a,b,f⟩,h1,h2,h3⟩
  have ho : ¬ (k = 11 ∨ k = 12 ∨ k = 13 ∨ k = 14):=fun ho => dk_over ho h2
  have h4:=(dk_form ho).1 ⟨h1,h2⟩
  exact ⟨⟨ho,RtI.iff.2 ⟨a,b,⟨h4.1,h4.2,fun i hi => (h3 i hi).1⟩,f⟩⟩,dpr_kidD.2 fun i hi => (h3 i hi).2⟩

theorem dRightExpr_any : ∀ (m : Nat) (_ : m ≤ 16) (e : Ex) (k : Value) (w : World),XR w e k → Calls Tryz.prog 47 #[.agg (exC e k).toArray,.int .i64 (17 - (m : Int))] w (EqPost (DRt m e) w):=by
 intro m
 induction m with
 | zero =>
  intro hm16 e k w hx
  have HF:=Lib.hid (fun W (hb : Below w.heap.size w W) => dFields_any e k W (hx.later hb))
  obtain ⟨kk,oo,⟨v1,v2,v3⟩,tt,nn,kids,pp⟩:=e
  cases hx with
  | @mk _ _ _ _ _ _ _ p c ks h1 hc hm h2 h3 =>
   have HR:=Lib.hid h2
   have HXs:=Lib.hid h3
   have HLK:=Lib.hid h1
   clear h1 h2 h3
   obtain ⟨Q,hQ⟩ : ∃ Q,DRt 0 (.mk kk oo (v1,v2,v3) tt nn kids pp) = Q:=⟨_,rfl⟩
   have HQ : Hid (¬ Q):=Lib.hid (by rw [← hQ]; exact fun h => by have:=h.2; simp [dpr] at this)
   rw [hQ]
   clear hQ
   obtain ⟨D,hD⟩ : ∃ D,DF (.mk kk oo (v1,v2,v3) tt nn kids pp) = D:=⟨_,rfl⟩
   rw [hD] at HF
   clear hD
   simp only [exC] at HF ⊢
   obtain ⟨dp,hdp⟩ : ∃ dp : Int,17 - ((0 : Nat) : Int) = dp:=⟨_,rfl⟩
   have hdp2 : dp = 17:=by omega
   rw [hdp]
   clear hdp
   obtain ⟨W,hW⟩ : ∃ W,w.alloc (.cells #[.int .i64 kk,.int .i64 oo,.int .i64 v1,.int .i64 v2,.string v3,.string tt,.string nn,.slice p kids.length c,.int .i64 pp] 49) = W:=⟨_,rfl⟩
   have hb : Below w.heap.size w W:=hW ▸ (Below.refl _ _).alloc (Nat.le_refl _) _
   have hr : W.heap[w.heap.size]? = some (.cells #[.int .i64 kk,.int .i64 oo,.int .i64 v1,.int .i64 v2,.string v3,.string tt,.string nn,.slice p kids.length c,.int .i64 pp] 49 (0,0)):=hW ▸ heap_alloc_new w _
   have HB:=Lib.hid hb
   have RE:=Lib.hid hr
   obtain ⟨⟨y0,y1,y2,y3,y4,y5,y6,y7,y8⟩,-⟩:=nine_of hr
   clear hb hr
   go_enter Tryz.func47,Tryz.ntmps47
   go_wp2_with fail
   clear hW
   refine (dKids_any kk _).mono ?_
   rintro e w1 ⟨rfl,hl⟩
   obtain ⟨least,hle⟩ : ∃ z,(dk kk).1 = z:=⟨_,rfl⟩
   obtain ⟨most,hmo⟩ : ∃ z,(dk kk).2 = z:=⟨_,rfl⟩
   rw [hle,hmo]
   clear hle hmo
   have HB1:=Hbt HB hl
   have RE1:=Hbk hl RE
   clear hl y0 y1 y2 y3 y4 y5 y6 y7 y8
   obtain ⟨⟨y0,y1,y2,y3,y4,y5,y6,y7,y8⟩,-⟩:=nine_of RE1.out
   go_wp2_with fail
   refine (HF.out _ HB1.out).mono ?_
   rintro e w2 ⟨⟨ok,rfl,hok⟩,hl⟩
   have HOK:=Lib.hid hok
   have HB2:=Hbt HB1 hl
   have RE2:=Hbk hl RE1
   clear hl hok y0 y1 y2 y3 y4 y5 y6 y7 y8
   obtain ⟨⟨y0,y1,y2,y3,y4,y5,y6,y7,y8⟩,-⟩:=nine_of RE2.out
   subst hdp2
   have HE:=HQ
   go_wp2
   exact bodyPost_ret (v:=.bool false) (by simp [results,Tryz.results47,go_sem]) rfl (eq_no HE.out HB2.out)
 | succ n ih =>
  intro hm16 e k w hx
  have HF:=Lib.hid (fun W (hb : Below w.heap.size w W) => dFields_any e k W (hx.later hb))
  obtain ⟨kk,oo,⟨v1,v2,v3⟩,tt,nn,kids,pp⟩:=e
  cases hx with
  | @mk _ _ _ _ _ _ _ p c ks h1 hc hm h2 h3 =>
   have HR:=Lib.hid h2
   have HXs:=Lib.hid h3
   have HLK:=Lib.hid h1
   clear h1 h2 h3
   obtain ⟨Q,hQ⟩ : ∃ Q,DRt (n + 1) (.mk kk oo (v1,v2,v3) tt nn kids pp) = Q:=⟨_,rfl⟩
   have HQ : Hid (Q ↔ DF (.mk kk oo (v1,v2,v3) tt nn kids pp) ∧ (dk kk).1 ≤ (kids.length : Int) ∧ (kids.length : Int) ≤ (dk kk).2 ∧ ∀ i (h : i < kids.length),DRt n kids[i]):=Lib.hid (by rw [← hQ]; exact drt_iff)
   rw [hQ]
   clear hQ
   obtain ⟨D,hD⟩ : ∃ D,DF (.mk kk oo (v1,v2,v3) tt nn kids pp) = D:=⟨_,rfl⟩
   rw [hD] at HF HQ
   clear hD
   simp only [exC] at HF ⊢
   obtain ⟨dp,hdp⟩ : ∃ dp : Int,17 - (((n + 1) : Nat) : Int) = dp:=⟨_,rfl⟩
   have hdp2 : dp = 16 - (n : Int):=by omega
   rw [hdp]
   clear hdp
   obtain ⟨W,hW⟩ : ∃ W,w.alloc (.cells #[.int .i64 kk,.int .i64 oo,.int .i64 v1,.int .i64 v2,.string v3,.string tt,.string nn,.slice p kids.length c,.int .i64 pp] 49) = W:=⟨_,rfl⟩
   have hb : Below w.heap.size w W:=hW ▸ (Below.refl _ _).alloc (Nat.le_refl _) _
   have hr : W.heap[w.heap.size]? = some (.cells #[.int .i64 kk,.int .i64 oo,.int .i64 v1,.int .i64 v2,.string v3,.string tt,.string nn,.slice p kids.length c,.int .i64 pp] 49 (0,0)):=hW ▸ heap_alloc_new w _
   have HB:=Lib.hid hb
   have RE:=Lib.hid hr
   obtain ⟨⟨y0,y1,y2,y3,y4,y5,y6,y7,y8⟩,-⟩:=nine_of hr
   clear hb hr
   go_enter Tryz.func47,Tryz.ntmps47
   go_wp2_with fail
   clear hW
   refine (dKids_any kk _).mono ?_
   rintro e w1 ⟨rfl,hl⟩
   obtain ⟨least,hle⟩ : ∃ z,(dk kk).1 = z:=⟨_,rfl⟩
   obtain ⟨most,hmo⟩ : ∃ z,(dk kk).2 = z:=⟨_,rfl⟩
   rw [hle,hmo]
   rw [hle,hmo] at HQ
   clear hle hmo
   have HB1:=Hbt HB hl
   have RE1:=Hbk hl RE
   clear hl y0 y1 y2 y3 y4 y5 y6 y7 y8
   obtain ⟨⟨y0,y1,y2,y3,y4,y5,y6,y7,y8⟩,-⟩:=nine_of RE1.out
   go_wp2_with fail
   refine (HF.out _ HB1.out).mono ?_
   rintro e w2 ⟨⟨ok,rfl,hok⟩,hl⟩
   have HOK:=Lib.hid hok
   have HB2:=Hbt HB1 hl
   have RE2:=Hbk hl RE1
   clear hl hok y0 y1 y2 y3 y4 y5 y6 y7 y8
   obtain ⟨⟨y0,y1,y2,y3,y4,y5,y6,y7,y8⟩,-⟩:=nine_of RE2.out
   have IH:=Lib.hid (ih (by omega))
   clear ih
   have hd1 : ¬ (16 : Int) < dp:=by omega
   have hd2 : IntKind.i64.wrap (dp + 1) = dp + 1:=by rw [IntKind.wrap_i64]; omega
   have HDP:=Lib.hid hdp2
   have IH2 : Hid (∀ (d : Int),d = 17 - (n : Int) → ∀ (e : Ex) (k : Value) (w : World),XR w e k → Calls Tryz.prog 47 #[.agg (exC e k).toArray,.int .i64 d] w (EqPost (DRt n e) w)):=fun d hd e k w hx => by rw [hd]; exact IH.out e k w hx
   clear hdp2 IH
   cases ok with
   | false =>
    have HE : Hid (¬ Q):=Lib.hid (fun h => absurd (HOK.out.2 (HQ.out.1 h).1) (by simp))
    go_wp2
    exact bodyPost_ret (v:=.bool false) (by simp [results,Tryz.results47,go_sem]) rfl (eq_no HE.out HB2.out)
   | true =>
    by_cases n1 : least ≤ (kids.length : Int)
    rotate_left
    ·have d1 : (kids.length : Int) < least:=by omega
     have HE : Hid (¬ Q):=Lib.hid (fun h => n1 (HQ.out.1 h).2.1)
     go_wp2
     exact bodyPost_ret (v:=.bool false) (by simp [results,Tryz.results47,go_sem]) rfl (eq_no HE.out HB2.out)
    by_cases n2 : (kids.length : Int) ≤ most
    rotate_left
    ·have d1 : ¬ (kids.length : Int) < least:=by omega
     have d2 : most < (kids.length : Int):=by omega
     have HE : Hid (¬ Q):=Lib.hid (fun h => n2 (HQ.out.1 h).2.2.1)
     go_wp2
     exact bodyPost_ret (v:=.bool false) (by simp [results,Tryz.results47,go_sem]) rfl (eq_no HE.out HB2.out)
    have d1 : ¬ (kids.length : Int) < least:=by omega
    have d2 : ¬ most < (kids.length : Int):=by omega
    have HQ2 : Hid (Q ↔ ∀ i (h : i < kids.length),DRt n kids[i]):=Lib.hid (HQ.out.trans ⟨fun h => h.2.2.2,fun h => ⟨HOK.out.1 rfl,n1,n2,h⟩⟩)
    clear HQ HOK n1 n2
    have hsz : w.heap.size < w2.heap.size:=(Gx RE2.out)
    go_wp2
    clear d1 d2 hd1 y0 y1 y2 y3 y4 y5 y6 y7 y8
    go_loopw [8] (fun i wr => ∃ k : Nat,k ≤ kids.length ∧ i = .int .i64 (k : Int) ∧ (∀ j (h : j < kids.length),j < k → DRt n kids[j]) ∧ Below w2.heap.size w2 wr) (fun i _ => kids.length - (intOf i).toNat)
    case atStart => exact ⟨0,Nat.zero_le _,rfl,fun _ _ h => absurd h (Nat.not_lt_zero _),by first | exact Below.refl _ _ | exact (Below.refl _ _).drew⟩
    case round =>
     obtain ⟨k,hk,rfl,hall,hb⟩:=hrel
     have HALL:=Lib.hid hall
     have HW:=Lib.hid hb
     obtain ⟨⟨y0,y1,y2,y3,y4,y5,y6,y7,y8⟩,-⟩:=nine_of ((hb.block _ hsz).trans RE2.out)
     have HBW:=Hbt HB2 hb
     clear hall hb
     by_cases hlt : k < kids.length
     ·have hlti : (k : Int) < (kids.length : Int):=by omega
      have hlt' : k < ks.length:=by rw [← HLK.out]; exact hlt
      obtain ⟨b,off,rfl,hcs⟩:=HR.out k hlt hlt'
      have hxk:=HXs.out k hlt hlt'
      obtain ⟨a2,m2,c2,hks⟩:=hxk.slice
      rw [hks] at hcs hxk
      obtain ⟨⟨kk2,oo2,⟨u1,u2,u3⟩,tt2,nn2,ks2,pp2⟩,hxx⟩ : ∃ x,kids[k] = x:=⟨_,rfl⟩
      rw [hxx] at hcs hxk
      have HXK:=Lib.hid hxk
      have HXE:=Lib.hid hxx
      clear hks hxk hxx
      have HCS : Hid (∀ j u,[.int .i64 kk2,.int .i64 oo2,.int .i64 u1,.int .i64 u2,.string u3,.string tt2,.string nn2,.slice a2 m2 c2,.int .i64 pp2][j]? = some u → w.cell? ⟨b,off + k * 9 + j,none⟩ = some u):=hcs
      clear hcs
      have q0:=Cl HBW.out (HCS.out 0 _ rfl)
      have q1:=Cl HBW.out (HCS.out 1 _ rfl)
      have q2:=Cl HBW.out (HCS.out 2 _ rfl)
      have q3:=Cl HBW.out (HCS.out 3 _ rfl)
      have q4:=Cl HBW.out (HCS.out 4 _ rfl)
      have q5:=Cl HBW.out (HCS.out 5 _ rfl)
      have q6:=Cl HBW.out (HCS.out 6 _ rfl)
      have q7:=Cl HBW.out (HCS.out 7 _ rfl)
      have q8:=Cl HBW.out (HCS.out 8 _ rfl)
      simp only [Nat.add_zero] at q0
      go_wp2_with fail
      refine (IH2.out _ (by have:=HDP.out; omega) (Ex.mk kk2 oo2 (u1,u2,u3) tt2 nn2 ks2 pp2) _ _ (HXK.out.later HBW.out)).mono ?_
      rintro e w3 ⟨⟨fine,rfl,hf⟩,hl⟩
      have HFI : Hid (fine = true ↔ DRt n kids[k]):=Lib.hid (hf.trans (by rw [HXE.out]))
      have HW2:=Hbt HW hl
      have HBW2:=Hbt HBW hl
      clear hf hl q0 q1 q2 q3 q4 q5 q6 q7 q8 y0 y1 y2 y3 y4 y5 y6 y7 y8
      cases fine with
      | false =>
       have HE : Hid (¬ Q):=Lib.hid (fun h => absurd (HFI.out.2 (HQ2.out.1 h k hlt)) (by simp))
       go_wp2
       exact bodyPost_ret (v:=.bool false) (by simp [results,Tryz.results47,go_sem]) rfl (eq_no HE.out HBW2.out)
      | true =>
       have HALL2 : Hid (∀ j (h : j < kids.length),j < k + 1 → DRt n kids[j]):=fun j h hj => by
        by_cases e : j = k
        ·subst e; exact HFI.out.1 rfl
        ·exact HALL.out j h (by omega)
       go_wp2
       go_roundw
       case rel => exact ⟨k + 1,by omega,by go_num,HALL2.out,HW2.out⟩
       case measure => simp [intOf]; omega
     ·have hnlt : ¬ (k : Int) < (kids.length : Int):=by omega
      have HE : Hid Q:=HQ2.out.2 fun i h => HALL.out i h (by omega)
      go_wp2
      exact bodyPost_ret (v:=.bool true) (by simp [results,Tryz.results47,go_sem]) rfl (eq_yes HE.out HBW.out)

theorem dRight1 (e : Ex) (k : Value) (w : World) (hx : XR w e k) : Calls Tryz.prog 47 #[.agg (exC e k).toArray,.int .i64 1] w (EqPost (DRt 16 e) w):=by
 have h:=dRightExpr_any 16 (Nat.le_refl _) e k w hx
 rw [show (17 : Int) - ((16 : Nat) : Int) = 1 from rfl] at h
 exact h

theorem dRight2 (e : Ex) (k : Value) (w : World) (hx : XR w e k) : Calls Tryz.prog 47 #[.agg (exC e k).toArray,.int .i64 2] w (EqPost (DRt 15 e) w):=by
 have h:=dRightExpr_any 15 (by decide) e k w hx
 rw [show (17 : Int) - ((15 : Nat) : Int) = 2 from rfl] at h
 exact h

theorem dRights_any (l : List Ex) (p : Option Addr) (c : Nat) (w : World) (h : XLR w l (.slice p l.length c)) : Calls Tryz.prog 45 #[.slice p l.length c] w (EqPost (∀ i (h : i < l.length),DRt 16 l[i]) w):=by
 obtain ⟨p',c',ks,e,h1,h2,h3,h4,h5⟩:=h
 injection e with e1 e2 e3
 subst e1 e3
 have HR:=Lib.hid h4
 have HXs:=Lib.hid h5
 have HLK:=Lib.hid h3
 clear h3 h4 h5 e2
 obtain ⟨Q,hQ⟩ : ∃ Q,(∀ i (h : i < l.length),DRt 16 l[i]) = Q:=⟨_,rfl⟩
 have HQ : Hid (Q ↔ ∀ i (h : i < l.length),DRt 16 l[i]):=Lib.hid (hQ ▸ Iff.rfl)
 rw [hQ]
 clear hQ
 have HB0 : Hid (Below w.heap.size w w):=Below.refl _ _
 go_enter Tryz.func45,Tryz.ntmps45
 go_wp2
 go_loopw [3] (fun i wr => ∃ k : Nat,k ≤ l.length ∧ i = .int .i64 (k : Int) ∧ (∀ j (h : j < l.length),j < k → DRt 16 l[j]) ∧ Below w.heap.size w wr) (fun i _ => l.length - (intOf i).toNat)
 case atStart => exact ⟨0,Nat.zero_le _,rfl,fun _ _ h => absurd h (Nat.not_lt_zero _),by first | exact Below.refl _ _ | exact (Below.refl _ _).drew⟩
 case round =>
  obtain ⟨k,hk,rfl,hall,hb⟩:=hrel
  have HALL:=Lib.hid hall
  have HW:=Lib.hid hb
  have HBW:=Hbt HB0 hb
  clear hall hb
  by_cases hlt : k < l.length
  ·have hlti : (k : Int) < (l.length : Int):=by omega
   have hlt' : k < ks.length:=by rw [← HLK.out]; exact hlt
   obtain ⟨b,off,rfl,hcs⟩:=HR.out k hlt hlt'
   have hxk:=HXs.out k hlt hlt'
   obtain ⟨a2,m2,c2,hks⟩:=hxk.slice
   rw [hks] at hcs hxk
   obtain ⟨⟨kk2,oo2,⟨u1,u2,u3⟩,tt2,nn2,ks2,pp2⟩,hxx⟩ : ∃ x,l[k] = x:=⟨_,rfl⟩
   rw [hxx] at hcs hxk
   have HXK:=Lib.hid hxk
   have HXE:=Lib.hid hxx
   clear hks hxk hxx
   have HCS : Hid (∀ j u,[.int .i64 kk2,.int .i64 oo2,.int .i64 u1,.int .i64 u2,.string u3,.string tt2,.string nn2,.slice a2 m2 c2,.int .i64 pp2][j]? = some u → w.cell? ⟨b,off + k * 9 + j,none⟩ = some u):=hcs
   clear hcs
   have q0:=Cl HBW.out (HCS.out 0 _ rfl)
   have q1:=Cl HBW.out (HCS.out 1 _ rfl)
   have q2:=Cl HBW.out (HCS.out 2 _ rfl)
   have q3:=Cl HBW.out (HCS.out 3 _ rfl)
   have q4:=Cl HBW.out (HCS.out 4 _ rfl)
   have q5:=Cl HBW.out (HCS.out 5 _ rfl)
   have q6:=Cl HBW.out (HCS.out 6 _ rfl)
   have q7:=Cl HBW.out (HCS.out 7 _ rfl)
   have q8:=Cl HBW.out (HCS.out 8 _ rfl)
   simp only [Nat.add_zero] at q0
   go_wp2_with fail
   refine (dRight1 (Ex.mk kk2 oo2 (u1,u2,u3) tt2 nn2 ks2 pp2) _ _ (HXK.out.later HBW.out)).mono ?_
   rintro e w3 ⟨⟨fine,rfl,hf⟩,hl⟩
   have HFI : Hid (fine = true ↔ DRt 16 l[k]):=Lib.hid (hf.trans (by rw [HXE.out]))
   have HW2:=Hbt HW hl
   have HBW2:=Hbt HBW hl
   clear hf hl q0 q1 q2 q3 q4 q5 q6 q7 q8
   cases fine with
   | false =>
    have HE : Hid (¬ Q):=Lib.hid (fun h => absurd (HFI.out.2 (HQ.out.1 h k hlt)) (by simp))
    go_wp2
    exact bodyPost_ret (v:=.bool false) (by simp [results,Tryz.results45,go_sem]) rfl (eq_no HE.out HBW2.out)
   | true =>
    have HALL2 : Hid (∀ j (h : j < l.length),j < k + 1 → DRt 16 l[j]):=fun j h hj => by
     by_cases e : j = k
     ·subst e; exact HFI.out.1 rfl
     ·exact HALL.out j h (by omega)
    go_wp2
    go_roundw
    case rel => exact ⟨k + 1,by omega,by go_num,HALL2.out,HW2.out⟩
    case measure => simp [intOf]; omega
  ·have hnlt : ¬ (k : Int) < (l.length : Int):=by omega
   have HE : Hid Q:=HQ.out.2 fun i h => HALL.out i h (by omega)
   go_wp2
   exact bodyPost_ret (v:=.bool true) (by simp [results,Tryz.results45,go_sem]) rfl (eq_yes HE.out HBW.out)

def DIt (e : Ex) : Prop:=RtI e ∧ dpr 16 e = false

def z7 (o : Int) (v1 v2 : Int) (v3 t n : ByteArray) : Prop:=o = 0 ∧ n = ⟨#[]⟩ ∧ t = ⟨#[]⟩ ∧ v1 = 0 ∧ v2 = 0 ∧ v3 = ⟨#[]⟩

theorem item_plain {e : Ex} (h : ¬ isOver e) : DIt e ↔ DRt 16 e:=⟨fun k => ⟨⟨h,k.1⟩,k.2⟩,fun k => ⟨k.1.2,k.2⟩⟩

theorem item_count {o v1 v2 : Int} {v3 t n : ByteArray} {ks : List Ex} {p : Int} : DIt (.mk 11 o (v1,v2,v3) t n ks p) ↔ z7 o v1 v2 v3 t n ∧ ks.length = 0:=by
 constructor
 ·rintro ⟨h,_⟩
  obtain ⟨a,b,⟨_,d,_⟩,f⟩:=RtI.iff.1 h
  rw [show formK 11 = (0,0,0,0) from by decide] at a b d
  obtain ⟨f1,f2,f3,f4,f5⟩:=f.2.2.2 (by decide) (by decide) (by decide)
  exact ⟨⟨Int.le_antisymm b a,f2,f1,f3,f4,f5⟩,Nat.le_zero.1 d⟩
 ·rintro ⟨⟨rfl,rfl,rfl,rfl,rfl,rfl⟩,hl⟩
  refine ⟨RtI.iff.2 ?_,?_⟩
  ·rw [show formK 11 = (0,0,0,0) from by decide]
   exact ⟨Int.le_refl _,Int.le_refl _,⟨Nat.zero_le _,by show ks.length ≤ 0; omega,fun i hi => by omega⟩,fun e => absurd e (by decide),fun e => absurd e (by decide),fun e => absurd e (by decide),fun _ _ _ => ⟨rfl,rfl,rfl,rfl,rfl⟩⟩
  ·exact dpr_kidD.2 fun i hi => by omega

theorem item_over {k o v1 v2 : Int} {v3 t n : ByteArray} {ks : List Ex} {p : Int} (hk : k = 12 ∨ k = 13 ∨ k = 14) : DIt (.mk k o (v1,v2,v3) t n ks p) ↔ z7 o v1 v2 v3 t n ∧ ∃ h : ks.length = 1,DRt 15 (ks[0]'(by omega)):=by
 have hf : formK k = (0,0,1,1):=by rcases hk with rfl | rfl | rfl <;> decide
 constructor
 ·rintro ⟨h,hd⟩
  obtain ⟨a,b,⟨c,d,e⟩,f⟩:=RtI.iff.1 h
  rw [hf] at a b c d
  obtain ⟨f1,f2,f3,f4,f5⟩:=f.2.2.2 (by omega) (by omega) (by omega)
  have hl : ks.length = 1:=Nat.le_antisymm d c
  exact ⟨⟨Int.le_antisymm b a,f2,f1,f3,f4,f5⟩,hl,e 0 (by omega),dpr_kidD.1 hd 0 (by omega)⟩
 ·rintro ⟨⟨rfl,rfl,rfl,rfl,rfl,rfl⟩,hl,h1,h2⟩
  refine ⟨RtI.iff.2 ?_,dpr_kidD.2 fun i hi => ?_⟩
  ·rw [hf]
   refine ⟨Int.le_refl _,Int.le_refl _,⟨by show 1 ≤ ks.length; omega,by show ks.length ≤ 1; omega,fun i hi => ?_⟩,fun e => absurd e (by omega),fun e => absurd e (by omega),fun e => absurd e (by omega),fun _ _ _ => ⟨rfl,rfl,rfl,rfl,rfl⟩⟩
   have : i = 0:=by omega
   subst this
   exact h1
  ·have : i = 0:=by omega
   subst this
   exact h2

theorem dRightItem_any (e : Ex) (k : Value) (w : World) (hx : XR w e k) : Calls Tryz.prog 79 #[.agg (exC e k).toArray] w (EqPost (DIt e) w):=by
 have H1:=Lib.hid (fun W (hb : Below w.heap.size w W) => dRight1 e k W (hx.later hb))
 have HP : Hid (¬ isOver e → (DIt e ↔ DRt 16 e)):=Lib.hid item_plain
 obtain ⟨kk,oo,⟨v1,v2,v3⟩,tt,nn,kids,pp⟩:=e
 cases hx with
 | @mk _ _ _ _ _ _ _ p c ks h1 hc hm h2 h3 =>
  have HR:=Lib.hid h2
  have HXs:=Lib.hid h3
  have HLK:=Lib.hid h1
  clear h1 h2 h3
  have HC : Hid (kk = 11 → (DIt (.mk kk oo (v1,v2,v3) tt nn kids pp) ↔ z7 oo v1 v2 v3 tt nn ∧ kids.length = 0)):=Lib.hid (fun e => by subst e; exact item_count)
  have HO : Hid (kk = 12 ∨ kk = 13 ∨ kk = 14 → (DIt (.mk kk oo (v1,v2,v3) tt nn kids pp) ↔ z7 oo v1 v2 v3 tt nn ∧ ∃ h : kids.length = 1,DRt 15 (kids[0]'(by omega)))):=Lib.hid (fun e => item_over e)
  have HOV : Hid (isOver (.mk kk oo (v1,v2,v3) tt nn kids pp) ↔ kk = 11 ∨ kk = 12 ∨ kk = 13 ∨ kk = 14):=Lib.hid Iff.rfl
  obtain ⟨Q,hQ⟩ : ∃ Q,DIt (.mk kk oo (v1,v2,v3) tt nn kids pp) = Q:=⟨_,rfl⟩
  rw [hQ] at HP HC HO ⊢
  clear hQ
  obtain ⟨D,hD⟩ : ∃ D,DRt 16 (.mk kk oo (v1,v2,v3) tt nn kids pp) = D:=⟨_,rfl⟩
  rw [hD] at H1 HP
  clear hD
  simp only [exC] at H1 ⊢
  obtain ⟨W,hW⟩ : ∃ W,w.alloc (.cells #[.int .i64 kk,.int .i64 oo,.int .i64 v1,.int .i64 v2,.string v3,.string tt,.string nn,.slice p kids.length c,.int .i64 pp] 49) = W:=⟨_,rfl⟩
  have hb : Below w.heap.size w W:=hW ▸ (Below.refl _ _).alloc (Nat.le_refl _) _
  have hr : W.heap[w.heap.size]? = some (.cells #[.int .i64 kk,.int .i64 oo,.int .i64 v1,.int .i64 v2,.string v3,.string tt,.string nn,.slice p kids.length c,.int .i64 pp] 49 (0,0)):=hW ▸ heap_alloc_new w _
  have HB:=Lib.hid hb
  obtain ⟨⟨y0,y1,y2,y3,y4,y5,y6,y7,y8⟩,-⟩:=nine_of hr
  clear hb hr
  go_enter Tryz.func79,Tryz.ntmps79
  go_upto_region 1 with fail
  clear hW
  by_cases hov : kk = 11 ∨ kk = 12 ∨ kk = 13 ∨ kk = 14
  rotate_left
  ·have HE0:=Lib.hid (HP.out (fun h => hov (HOV.out.1 h)))
   by_cases c1 : kk < 11
   ·clear hov
    go_wp2_with fail
    refine (H1.out _ HB.out).mono ?_
    rintro e w1 ⟨⟨b,rfl,hbb⟩,hl⟩
    have HB1:=Hbt HB hl
    have HE:=Lib.hid (hbb.trans HE0.out.symm)
    clear hbb hl
    go_wp2
    exact bodyPost_ret (v:=.bool b) (by simp [results,Tryz.results79,go_sem]) rfl ⟨⟨b,rfl,HE.out⟩,HB1.out⟩
   ·have c2 : 14 < kk:=by omega
    clear hov
    go_wp2_with fail
    refine (H1.out _ HB.out).mono ?_
    rintro e w1 ⟨⟨b,rfl,hbb⟩,hl⟩
    have HB1:=Hbt HB hl
    have HE:=Lib.hid (hbb.trans HE0.out.symm)
    clear hbb hl
    go_wp2
    exact bodyPost_ret (v:=.bool b) (by simp [results,Tryz.results79,go_sem]) rfl ⟨⟨b,rfl,HE.out⟩,HB1.out⟩
  have c1 : ¬ kk < 11:=by omega
  have c2 : ¬ 14 < kk:=by omega
  have HZ : Hid (Q → z7 oo v1 v2 v3 tt nn):=Lib.hid (fun h => by
   rcases hov with e | e
   ·exact ((HC.out e).1 h).1
   ·exact ((HO.out e).1 h).1)
  have HOVV:=Lib.hid hov
  clear hov
  by_cases n0 : oo = 0
  rotate_left
  ·have HE : Hid (¬ Q):=Lib.hid (fun h => n0 (HZ.out h).1)
   have d1 : (oo != 0) = true:=by simpa using n0
   have d2 : (oo == 0) = false:=by simpa using n0
   go_wp2
   exact bodyPost_ret (v:=.bool false) (by simp [results,Tryz.results79,go_sem]) rfl (eq_no HE.out HB.out)
  subst n0
  by_cases n1 : nn = ⟨#[]⟩
  rotate_left
  ·have HE : Hid (¬ Q):=Lib.hid (fun h => n1 (HZ.out h).2.1)
   obtain ⟨d1,d2⟩:=not_nil n1
   have d3:=str_ne n1
   go_wp2
   exact bodyPost_ret (v:=.bool false) (by simp [results,Tryz.results79,go_sem]) rfl (eq_no HE.out HB.out)
  subst n1
  by_cases n2 : tt = ⟨#[]⟩
  rotate_left
  ·have HE : Hid (¬ Q):=Lib.hid (fun h => n2 (HZ.out h).2.2.1)
   obtain ⟨d1,d2⟩:=not_nil n2
   have d3:=str_ne n2
   go_wp2
   exact bodyPost_ret (v:=.bool false) (by simp [results,Tryz.results79,go_sem]) rfl (eq_no HE.out HB.out)
  subst n2
  by_cases n3 : v1 = 0
  rotate_left
  ·have HE : Hid (¬ Q):=Lib.hid (fun h => n3 (HZ.out h).2.2.2.1)
   have d1 : (v1 != 0) = true:=by simpa using n3
   have d2 : (v1 == 0) = false:=by simpa using n3
   go_wp2
   exact bodyPost_ret (v:=.bool false) (by simp [results,Tryz.results79,go_sem]) rfl (eq_no HE.out HB.out)
  subst n3
  by_cases n4 : v2 = 0
  rotate_left
  ·have HE : Hid (¬ Q):=Lib.hid (fun h => n4 (HZ.out h).2.2.2.2.1)
   have d1 : (v2 != 0) = true:=by simpa using n4
   have d2 : (v2 == 0) = false:=by simpa using n4
   go_wp2
   exact bodyPost_ret (v:=.bool false) (by simp [results,Tryz.results79,go_sem]) rfl (eq_no HE.out HB.out)
  subst n4
  by_cases n5 : v3 = ⟨#[]⟩
  rotate_left
  ·have HE : Hid (¬ Q):=Lib.hid (fun h => n5 (HZ.out h).2.2.2.2.2)
   obtain ⟨d1,d2⟩:=not_nil n5
   have d3:=str_ne n5
   go_wp2
   exact bodyPost_ret (v:=.bool false) (by simp [results,Tryz.results79,go_sem]) rfl (eq_no HE.out HB.out)
  subst n5
  have HZ7 : Hid (z7 0 0 0 ⟨#[]⟩ ⟨#[]⟩ ⟨#[]⟩):=⟨rfl,rfl,rfl,rfl,rfl,rfl⟩
  by_cases k11 : kk = 11
  ·have HE0:=Lib.hid (HC.out k11)
   subst k11
   by_cases hl0 : kids.length = 0
   ·have d : ((kids.length : Int) == 0) = true:=by simpa using hl0
    have HE : Hid Q:=HE0.out.2 ⟨HZ7.out,hl0⟩
    clear hl0
    go_wp2
    exact bodyPost_ret (v:=.bool true) (by simp [results,Tryz.results79,go_sem]) rfl (eq_yes HE.out HB.out)
   ·have d : ((kids.length : Int) == 0) = false:=by simpa using hl0
    have HE : Hid (¬ Q):=Lib.hid (fun h => hl0 (HE0.out.1 h).2)
    clear hl0
    go_wp2
    exact bodyPost_ret (v:=.bool false) (by simp [results,Tryz.results79,go_sem]) rfl (eq_no HE.out HB.out)
  have d11 : (kk == 11) = false:=by simpa using k11
  have HE0:=Lib.hid (HO.out (HOVV.out.resolve_left k11))
  clear k11
  by_cases hl1 : kids.length = 1
  rotate_left
  ·have d : ((kids.length : Int) != 1) = true:=by simp; omega
   have HE : Hid (¬ Q):=Lib.hid (fun h => hl1 (HE0.out.1 h).2.1)
   clear hl1
   go_wp2
   exact bodyPost_ret (v:=.bool false) (by simp [results,Tryz.results79,go_sem]) rfl (eq_no HE.out HB.out)
  have HL1:=Lib.hid hl1
  have hlt : 0 < kids.length:=by omega
  have hlt' : 0 < ks.length:=by rw [← HLK.out]; exact hlt
  have hlti : (0 : Int) < (kids.length : Int):=by omega
  have d : ((kids.length : Int) != 1) = false:=by simp [hl1]
  clear hl1
  obtain ⟨b,off,rfl,hcs⟩:=HR.out 0 hlt hlt'
  have hxk:=HXs.out 0 hlt hlt'
  obtain ⟨a2,m2,c2,hks⟩:=hxk.slice
  rw [hks] at hcs hxk
  obtain ⟨⟨kk2,oo2,⟨u1,u2,u3⟩,tt2,nn2,ks2,pp2⟩,hxx⟩ : ∃ x,kids[0] = x:=⟨_,rfl⟩
  rw [hxx] at hcs hxk
  have HXK:=Lib.hid hxk
  have HE1 : Hid (Q ↔ DRt 15 (Ex.mk kk2 oo2 (u1,u2,u3) tt2 nn2 ks2 pp2)):=Lib.hid (HE0.out.trans ⟨fun h => hxx ▸ h.2.2,fun h => ⟨HZ7.out,HL1.out,hxx ▸ h⟩⟩)
  clear hks hxk hxx HE0 HR HXs HC HO
  have HCS : Hid (∀ j u,[.int .i64 kk2,.int .i64 oo2,.int .i64 u1,.int .i64 u2,.string u3,.string tt2,.string nn2,.slice a2 m2 c2,.int .i64 pp2][j]? = some u → w.cell? ⟨b,off + 0 * 9 + j,none⟩ = some u):=hcs
  clear hcs
  have q0:=Cl HB.out (HCS.out 0 _ rfl)
  have q1:=Cl HB.out (HCS.out 1 _ rfl)
  have q2:=Cl HB.out (HCS.out 2 _ rfl)
  have q3:=Cl HB.out (HCS.out 3 _ rfl)
  have q4:=Cl HB.out (HCS.out 4 _ rfl)
  have q5:=Cl HB.out (HCS.out 5 _ rfl)
  have q6:=Cl HB.out (HCS.out 6 _ rfl)
  have q7:=Cl HB.out (HCS.out 7 _ rfl)
  have q8:=Cl HB.out (HCS.out 8 _ rfl)
  simp only [Nat.zero_mul,Nat.add_zero] at q0 q1 q2 q3 q4 q5 q6 q7 q8
  go_wp2_with fail
  refine (dRight2 (Ex.mk kk2 oo2 (u1,u2,u3) tt2 nn2 ks2 pp2) _ _ (HXK.out.later HB.out)).mono ?_
  rintro e w1 ⟨⟨b,rfl,hbb⟩,hl⟩
  have HB1:=Hbt HB hl
  have HE:=Lib.hid (hbb.trans HE1.out.symm)
  clear hbb hl
  go_wp2
  exact bodyPost_ret (v:=.bool b) (by simp [results,Tryz.results79,go_sem]) rfl ⟨⟨b,rfl,HE.out⟩,HB1.out⟩
end Go.Proofs.YteolnlcmnaknnaaGreatDoor
