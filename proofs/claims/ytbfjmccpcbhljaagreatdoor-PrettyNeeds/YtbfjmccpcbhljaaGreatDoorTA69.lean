/- A69 A70 -/
import Derived.Test.YtbfjmccpcbhljaaGreatDoorTA68
import Derived.RegionDies
import Derived.Deep.AppendLies
import Derived.Deep.CutRange
set_option maxHeartbeats 16000000
set_option maxRecDepth 100000
namespace Go.Proofs.YtbfjmccpcbhljaaGreatDoor
open Go.RowKit
theorem row_or (P : Nat) (s : PS) (w : World) (h : PA w P s) (hI : Upto_ s.rest.length P 151 .and) : Calls Tryz.prog 150 #[.pointer (some ⟨P,0,none⟩),Vi 10,.string ⟨#[79,82]⟩,.func (.func 151) #[] #[]] w (PXP .or P s w):=by
 have HP:=Hd h
 have hPw:=h.lt
 have hRL : s.rest.length ≤ 1001:=by obtain ⟨_,_,_,_,_,_,_,h5⟩:=h.mem; exact h5
 have HI:=Hd hI
 clear h hI
 obtain ⟨i0,hi,hz0,hz1,hz2⟩:=info_parts Tryz.infoExpr
 go_enter Tryz.func150,Tryz.ntmps150
 have H0 : Hid (PA (w.alloc (.cells Vo 49)) P s):=HP.out.later ((Below.refl _ _).alloc (Nat.le_refl _) _)
 have O0 : Hid (Only (· = P) w (w.alloc (.cells Vo 49))):=(Only.refl _ _).alloc _
 have R0 : Hid ((w.alloc (.cells Vo 49)).heap[w.heap.size]? = some (.cells Vo 49 (0,0))):=heap_alloc_new w _
 have S0 : Hid ((w.alloc (.cells Vo 49)).heap.size = w.heap.size + 1):=Hd (by simp)
 obtain ⟨W0,hW0⟩:=Vx (w.alloc (.cells Vo 49))
 rw [hW0] at H0 O0 R0 S0
 go_wp2_with fail
 clear hW0
 refine (HI.out s _ (Nat.le_refl _) H0.out).mono ?_
 rintro e w1 ⟨r,hr,ho,hm⟩
 have R1:=Hd (ho.at R0.out (by omega))
 have O1:=Hd (O0.out.trans ho)
 have hsz : w.heap.size + 1 ≤ w1.heap.size:=by have h1:=ho.size; have h2:=S0.out; omega
 clear ho H0 R0 O0
 cases r with
 | bad p =>
  have HV : Hid (Pr .or s (.bad p)):=Pr.bad (fun n => by rw [pX]) hr
  rw [hm]
  clear hm hr
  go_wp2
  exact ⟨rfl,px_bad HV.out O1.out⟩
 | ok x s1 =>
  obtain ⟨a,m,c,rfl,hx,hp,hlt⟩:=hm
  rw [S0.out] at hx
  have HR:=Hd hr
  have HX:=Hd hx
  have H1:=Hd hp
  have HLT:=Hd hlt
  clear hx hp hlt hr S0
  obtain ⟨kk,oo,⟨v1,v2,v3⟩,tt,nn,ks,pp⟩:=x
  simp only [exV,exC]
  go_wp2_with fail
  obtain ⟨WA,hWA⟩:=Vx (w1.alloc (.cells (Ve kk oo v1 v2 v3 tt nn (.slice a m c) pp) 49))
  rw [hWA]
  have HBA : Hid (Below w1.heap.size w1 WA):=hWA ▸ (Below.refl _ _).alloc (Nat.le_refl _) _
  have RA : Hid (WA.heap[w1.heap.size]? = some (.cells (Ve kk oo v1 v2 v3 tt nn (.slice a m c) pp) 49 (0,0))):=hWA ▸ heap_alloc_new w1 _
  clear hWA
  have HA:=Hd (H1.out.later HBA.out)
  refine (sees_any P s1 ⟨#[79,82]⟩ _ HA.out).mono ?_
  rintro e w2 ⟨rfl,hb⟩
  have HBB:=Hd (HBA.out.trans (hb.mono HBA.out.size))
  have RL2:=Hd ((hb.block _ (Gx RA.out)).trans RA.out)
  clear hb HA RA HBA
  have H2:=Hd (H1.out.later HBB.out)
  have R2:=Hd ((HBB.out.block _ (Gx R1.out)).trans R1.out)
  have O2:=Hd (O1.out.trans (Only.of HBB.out))
  have HX2:=Hd (HX.out.later HBB.out)
  have hsw2 : w1.heap.size < w2.heap.size:=(Gx RL2.out)
  clear H1 R1 O1 HX HBB
  cases hS : s1.sees wOr with
  | false =>
   rw [show s1.sees (⟨#[79,82]⟩ : ByteArray).data.toList = false from hS]
   have HV : Hid (Pr .or s (.ok (.mk kk oo (v1,v2,v3) tt nn ks pp) s1)):=Pr.bind (fun n => by rw [pX]) HR.out ⟨0,fun _ _ => by rw [if_neg (by rw [hS]; simp)]⟩
   clear hS
   have RR:=R2
   have OO:=O2
   have HH:=H2
   have zn:=nine_of RR.out
   obtain ⟨⟨l0,l1,l2,l3,l4,l5,l6,l7,l8⟩,-⟩:=nine_of RL2.out
   go_wp2
   obtain ⟨W6,hW6⟩:=Vx (((((((((w2.setCell ⟨w.heap.size,0,none⟩ (Vi kk)).setCell ⟨w.heap.size,1,none⟩ (Vi oo)).setCell ⟨w.heap.size,2,none⟩ (Vi v1)).setCell ⟨w.heap.size,3,none⟩ (Vi v2)).setCell ⟨w.heap.size,4,none⟩ (.string v3)).setCell ⟨w.heap.size,5,none⟩ (.string tt)).setCell ⟨w.heap.size,6,none⟩ (.string nn)).setCell ⟨w.heap.size,7,none⟩ (.slice a m c)).setCell ⟨w.heap.size,8,none⟩ (Vi pp))
   rw [hW6]
   have zy:=(nine_of (hW6 ▸ nine_set RR.out (Vi kk) (Vi oo) (Vi v1) (Vi v2) (.string v3) (.string tt) (.string nn) (.slice a m c) (Vi pp))).1
   have HOO : Hid (Only (· = P) w W6):=hW6 ▸ OO.out.nine (Nat.le_refl _) (Vi kk) (Vi oo) (Vi v1) (Vi v2) (.string v3) (.string tt) (.string nn) (.slice a m c) (Vi pp)
   have HQ:=Hd (hW6 ▸ HH.out.nine hPw (Vi kk) (Vi oo) (Vi v1) (Vi v2) (.string v3) (.string tt) (.string nn) (.slice a m c) (Vi pp) : PA W6 P _)
   have HX6 : Hid (XO W6 w.heap.size (.mk kk oo (v1,v2,v3) tt nn ks pp) (.slice a m c)):=hW6 ▸ (HX2.out.nine (Nat.lt_succ_self _) (Vi kk) (Vi oo) (Vi v1) (Vi v2) (.string v3) (.string tt) (.string nn) (.slice a m c) (Vi pp)).mono (Nat.le_succ _)
   clear hW6
   exact bodyPost_ret (v:=exV (.mk kk oo (v1,v2,v3) tt nn ks pp) (.slice a m c)) (by simp [results,Tryz.results150,go_sem,exV,exC,zy]) rfl (px_ok HV.out HOO.out HX6.out HQ.out HLT.out)
  | true =>
   rw [show s1.sees (⟨#[79,82]⟩ : ByteArray).data.toList = true from hS]
   obtain ⟨p0,hp0⟩:=Vx s1.hd.2
   have HAT:=ath P hp0
   have HG : Hid (∀ r,Pr (.rowL true p0 [(.mk kk oo (v1,v2,v3) tt nn ks pp)]) s1 r → Pr .or s r):=fun r ⟨k,h⟩ => Pr.bind (fun n => by rw [pX]) HR.out ⟨k,fun n hn => by rw [if_pos hS,hp0]; exact pX_le hn h⟩
   clear hS hp0 HR
   obtain ⟨⟨l0,l1,l2,l3,l4,l5,l6,l7,l8⟩,-⟩:=nine_of RL2.out
   go_wp2
   have HD1 : Hid (((w2.alloc (.cells (Ve kk oo v1 v2 v3 tt nn (.slice a m c) pp) 49)).alloc (.cells Vo 49)).heap[w2.heap.size + 1]? = some (.cells Vo 49 (0,0))):=Hd (by have:=heap_alloc_new (w2.alloc (.cells (Ve kk oo v1 v2 v3 tt nn (.slice a m c) pp) 49)) (.cells Vo 49); simpa using this)
   have HD2 : Hid (((w2.alloc (.cells Vo 49)).alloc (.cells (Ve kk oo v1 v2 v3 tt nn (.slice a m c) pp) 49)).heap[w2.heap.size]? = some (.cells Vo 49 (0,0))):=Hd ((alloc_off (by simp) _).trans (heap_alloc_new w2 _))
   go_cut [10] from 11 to 47 (fun v wx => ∃ r q,v = .pointer (some ⟨r,0,none⟩) ∧ RowB w2 wx r q (Ve 10 0 0 0 Vz Vz Vz (.slice (some ⟨q,0,none⟩) 1 1) p0) (Ve kk oo v1 v2 v3 tt nn (.slice a m c) pp))
   case first =>
    go_region_law (first
    | (go_simp; go_at_call 101; refine (HAT.out _ (H2.out.later (by first | exact (Below.refl _ _).drew | exact ((Below.refl _ _).alloc (Nat.le_refl _) _).drew | exact (((Below.refl _ _).alloc (Nat.le_refl _) _).alloc (by simp) _).drew | exact below_draws _ _))).mono ?_; rintro e w' ⟨rfl,rfl⟩)
    | (go_simp; go_at_call 166; with_reducible refine (over_any 10 0 p0 _ 1 1 [(.mk kk oo (v1,v2,v3) tt nn ks pp)] (w2.alloc (.cells (Ve kk oo v1 v2 v3 tt nn (.slice a m c) pp) 49)).drew).mono ?_; rintro e w3 ⟨rfl,hb⟩; have HRB:=Hd (rowB_i (kind:=10) (p0:=p0) hb); clear hb; simp only [over,exV,exC,v0])
    | (go_simp; go_at_call 166; with_reducible refine (over_any 10 0 p0 _ 1 1 [(.mk kk oo (v1,v2,v3) tt nn ks pp)] ((w2.alloc (.cells (Ve kk oo v1 v2 v3 tt nn (.slice a m c) pp) 49)).alloc (.cells Vo 49)).drew).mono ?_; rintro e w3 ⟨rfl,hb⟩; obtain ⟨⟨t0,t1,t2,t3,t4,t5,t6,t7,t8⟩,g0,g1,g2,g3,g4,g5,g6,g7,g8⟩:=nine_of (drew_at hb HD1.out); have HRB:=Hd (rowB_ii (kind:=10) (p0:=p0) hb); clear hb; simp only [over,exV,exC,v0])
    | (go_simp; go_at_call 166; with_reducible refine (over_any 10 0 p0 _ 1 1 [(.mk kk oo (v1,v2,v3) tt nn ks pp)] ((w2.alloc (.cells Vo 49)).alloc (.cells (Ve kk oo v1 v2 v3 tt nn (.slice a m c) pp) 49)).drew).mono ?_; rintro e w3 ⟨rfl,hb⟩; obtain ⟨⟨t0,t1,t2,t3,t4,t5,t6,t7,t8⟩,g0,g1,g2,g3,g4,g5,g6,g7,g8⟩:=nine_of (drew_at hb HD2.out); have HRB:=Hd (rowB_iii (kind:=10) (p0:=p0) hb); clear hb; simp only [over,exV,exC,v0]))
    all_goals
     go_wp2
     go_meet
     case rel => exact ⟨_,_,rfl,HRB.out⟩
   case rest =>
    obtain ⟨r,q,rfl,hrb⟩:=hcut
    have HBT:=Hd hrb.bel
    have RV:=Hd hrb.row
    have RN2:=Hd hrb.kid
    have hrq:=hrb.ne
    have hlr:=hrb.lr
    have hlq:=hrb.lq
    have hs3 : r < wc.heap.size:=(Gx RV.out)
    clear hrb HD1 HD2
    have H3:=Hd (H2.out.later HBT.out)
    have R3:=Hd ((HBT.out.block _ (Gx R2.out)).trans R2.out)
    have O3:=Hd (O2.out.trans (Only.of HBT.out))
    have HX3:=Hd (HX2.out.later HBT.out)
    have HK : Hid (RowK wc (w.heap.size + 1) r [(.mk kk oo (v1,v2,v3) tt nn ks pp)] [.slice a m c] q 1):=⟨rfl,⟨rfl,Or.inr ⟨q,1,_,rfl,by omega,RN2.out,Nat.le_refl _,by unfold maxLen; omega,rfl,rfl⟩⟩,by omega,(FS.new HX2.out (Z:=Zr r (some q)) (fun g hg k => k.elim (fun k => by omega) (fun k => by injection k with k; omega))).keep HBT.out.size (fun g _ _ hl => HBT.out.block g hl) (fun _ _ k => k) |>.imp fun W h => XsO.one h⟩
    clear HX3 HBT RN2 H2 R2 O2 HX2 RL2 HAT
    go_wp2_with fail
    go_loopw [] (fun wr => ∃ (es : List Ex) (qs : List Value) (s1 : PS) (q c : Nat),RowK wr (w.heap.size + 1) r es qs q c ∧ PA wr P s1 ∧ s1.rest.length + es.length ≤ s.rest.length ∧ 0 < es.length ∧ Only (· = P) w wr ∧ wr.heap[w.heap.size]? = some (.cells Vo 49 (0,0)) ∧ wr.heap[r]? = some (.cells (Ve 10 0 0 0 Vz Vz Vz (.slice (some ⟨q,0,none⟩) es.length c) p0) 49 (0,0)) ∧ ∀ r,Pr (.rowL true p0 es) s1 r → Pr .or s r) (fun wr => restN wr P)
    case atStart => exact ⟨_,_,s1,_,_,HK.out,H3.out,HLT.out,Nat.one_pos,O3.out,R3.out,RV.out,HG.out⟩
    case round =>
     clear HK H3 HLT HG O3 R3 RV
     obtain ⟨es,qs,s1,q,c,hk,hp,hlt,hpos,ho,hr0,hrv,hg⟩:=hrel
     have HK:=Hd hk
     have H1:=Hd hp
     have HLT:=Hd hlt
     have HG:=Hd hg
     have O1:=Hd ho
     have R1:=Hd hr0
     have RV:=Hd hrv
     have HRN:=Hd hp.restN
     have HPS:=Hd hpos
     clear hk hp hlt hg ho hr0 hrv hpos
     go_wp2_with fail
     refine (skip_any P s1 ⟨#[79,82]⟩ _ H1.out).mono ?_
     rintro e w4 ⟨rfl,hp,ho⟩
     have R4:=Hd (ho.at R1.out (by omega))
     have RV4:=Hd (ho.at RV.out (by omega))
     have O4:=Hd (O1.out.trans ho)
     have HK4:=Hd (HK.out.only ho (by omega))
     clear ho R1 RV O1 HK H1
     cases hS : s1.sees wOr with
     | false =>
      rw [show s1.sees (⟨#[79,82]⟩ : ByteArray).data.toList = false from hS] at hp ⊢
      rw [if_neg (by decide)] at hp
      have HH:=Hd hp
      have HV : Hid (Pr .or s (.ok (over 10 0 p0 es) s1)):=HG.out _ ⟨1,by rw [pX]; exact if_neg (by rw [show (if true = true then wOr else wAnd) = wOr from rfl,hS]; simp)⟩
      clear hp hS HG
      have RR:=R4
      have OO:=O4
      have zn:=nine_of RR.out
      obtain ⟨⟨l0,l1,l2,l3,l4,l5,l6,l7,l8⟩,-⟩:=nine_of RV4.out
      go_wp2
      obtain ⟨W6,hW6⟩:=Vx (((((((((w4.setCell ⟨w.heap.size,0,none⟩ (Vi 10)).setCell ⟨w.heap.size,1,none⟩ (Vi 0)).setCell ⟨w.heap.size,2,none⟩ (Vi 0)).setCell ⟨w.heap.size,3,none⟩ (Vi 0)).setCell ⟨w.heap.size,4,none⟩ Vs).setCell ⟨w.heap.size,5,none⟩ Vs).setCell ⟨w.heap.size,6,none⟩ Vs).setCell ⟨w.heap.size,7,none⟩ (.slice (some ⟨q,0,none⟩) es.length c)).setCell ⟨w.heap.size,8,none⟩ (Vi (p0 : Int)))
      rw [hW6]
      have zy:=(nine_of (hW6 ▸ nine_set RR.out (Vi 10) (Vi 0) (Vi 0) (Vi 0) Vs Vs Vs (.slice (some ⟨q,0,none⟩) es.length c) (Vi (p0 : Int)))).1
      have HOO : Hid (Only (· = P) w W6):=hW6 ▸ OO.out.nine (Nat.le_refl _) (Vi 10) (Vi 0) (Vi 0) (Vi 0) Vs Vs Vs (.slice (some ⟨q,0,none⟩) es.length c) (Vi (p0 : Int))
      have HQ:=Hd (hW6 ▸ HH.out.nine hPw (Vi 10) (Vi 0) (Vi 0) (Vi 0) Vs Vs Vs (.slice (some ⟨q,0,none⟩) es.length c) (Vi (p0 : Int)) : PA W6 P _)
      have HX6 : Hid (XO W6 w.heap.size (over 10 0 p0 es) (.slice (some ⟨q,0,none⟩) es.length c)):=hW6 ▸ (HK4.out.xo.nine (Nat.lt_succ_self _) (Vi 10) (Vi 0) (Vi 0) (Vi 0) Vs Vs Vs (.slice (some ⟨q,0,none⟩) es.length c) (Vi (p0 : Int))).mono (Nat.le_succ _)
      clear hW6
      exact bodyPost_ret (v:=exV (over 10 0 p0 es) (.slice (some ⟨q,0,none⟩) es.length c)) (by simp [results,Tryz.results150,go_sem,exV,exC,over,v0,zy]) rfl (px_ok HV.out HOO.out HX6.out HQ.out (by have h1:=HLT.out; have h2:=HPS.out; omega))
     | true =>
      rw [show s1.sees (⟨#[79,82]⟩ : ByteArray).data.toList = true from hS] at hp ⊢
      rw [if_pos rfl] at hp
      have H4:=Hd hp
      have HSL : Hid (s1.next.rest.length < s1.rest.length):=Hd (by have h1:=hp.wf.ne; have h2 : s1.rest ≠ []:=fun e => h1 (by show s1.rest.tail = []; rw [e]; rfl); have h3:=List.length_pos_iff.2 h2; show s1.rest.tail.length < _; simp; omega)
      have HGB : Hid (∀ n,pX (n + 1) (.rowL true p0 es) s1 = bindR (pX n .and (s1.next.cnt es.length 8)) fun e s2 => pX n (.rowL true p0 (es ++ [e])) s2):=fun n => by rw [pX]; exact if_pos hS
      clear hp hS
      obtain ⟨⟨l0,l1,l2,l3,l4,l5,l6,l7,l8⟩,lf⟩:=nine_of RV4.out
      go_wp2_with fail
      refine (counted_any P s1.next es.length 8 _ H4.out).mono ?_
      rintro e w5 ⟨rfl,hp,ho⟩
      have R5:=Hd (ho.at R4.out (by omega))
      have RV5:=Hd (ho.at RV4.out (by omega))
      have O5:=Hd (O4.out.trans ho)
      have HK5:=Hd (HK4.out.only ho (by omega))
      have H5:=Hd hp
      have HSC : Hid ((s1.next.cnt es.length 8).rest = s1.next.rest):=Hd (by unfold PS.cnt; split <;> rfl)
      clear hp ho R4 RV4 O4 HK4 H4 l0 l1 l2 l3 l4 l5 l6 l7 l8 lf
      obtain ⟨s3,hs3e⟩:=Vx (s1.next.cnt es.length 8)
      rw [hs3e] at H5 HSC HGB
      clear hs3e
      have HL3 : Hid (s3.rest.length < s1.rest.length):=Hd (by rw [HSC.out]; exact HSL.out)
      obtain ⟨⟨l0,l1,l2,l3,l4,l5,l6,l7,l8⟩,k0,k1,k2,k3,k4,k5,k6,k7,k8⟩:=nine_of RV5.out
      go_wp2
      obtain ⟨r,hr⟩ : ∃ r,Pr .and s3 r:=by
       obtain ⟨e,w9,fr,⟨r,hr,_⟩,-⟩:=HI.out s3 w5 (by have h1:=HLT.out; have h2:=HL3.out; omega) H5.out []
       exact ⟨r,hr⟩
      cases r with
      | bad p =>
       have HC : Hid (∀ W,PA W P s3 → Calls Tryz.prog 151 #[.pointer (some ⟨P,0,none⟩)] W fun e w' => e = .panicked (wrongV 110 p) ∧ Only (· = P) W w'):=fun W hW => (HI.out s3 W (by have h1:=HLT.out; have h2:=HL3.out; omega) hW).mono fun e w' ⟨r',hr',ho,hm⟩ => by
        obtain rfl:=Pr.one hr hr'
        exact ⟨hm,ho⟩
       have HV : Hid (Pr .or s (.bad p)):=HG.out _ (Pr.bad HGB.out hr)
       clear hr
       go_region_dies
       all_goals (refine (HC.out _ (H5.out.later (below_draws _ _))).mono ?_; rintro e w6 ⟨rfl,ho⟩; exact ⟨rfl,px_bad HV.out (O5.out.trans ((Only.of (below_draws _ _)).trans ho))⟩)
      | ok y s2 =>
       have HC : Hid (∀ W,PA W P s3 → Calls Tryz.prog 151 #[.pointer (some ⟨P,0,none⟩)] W fun e w' => ∃ a m c,e = .returned (exV y (.slice a m c)) ∧ XO w' W.heap.size y (.slice a m c) ∧ PA w' P s2 ∧ s2.rest.length < s3.rest.length ∧ Only (· = P) W w'):=fun W hW => (HI.out s3 W (by have h1:=HLT.out; have h2:=HL3.out; omega) hW).mono fun e w' ⟨r',hr',ho,hm⟩ => by
        obtain rfl:=Pr.one hr hr'
        obtain ⟨a,m,c,e1,e2,e3,e4⟩:=hm
        exact ⟨a,m,c,e1,e2,e3,e4,ho⟩
       have HGO : Hid (∀ r,Pr (.rowL true p0 (es ++ [y])) s2 r → Pr .or s r):=fun r h => by
        obtain ⟨n,hn⟩:=h
        exact HG.out _ (Pr.bind HGB.out hr ⟨n,fun k hk => pX_le hk hn⟩)
       clear hr HG HGB
       obtain ⟨kk2,oo2,⟨u1,u2,u3⟩,tt2,nn2,ks2,pp2⟩:=y
       simp only [exV,exC] at HC
       go_region_law (first
        | (go_simp; go_at_call 151; refine (HC.out _ (H5.out.later (below_draws _ _))).mono ?_; rintro e w6 ⟨a2,m2,c2,rfl,hx,hp,hlt,ho⟩; have RV6:=Hd (ho.at (((below_draws _ _).block _ (Gx RV5.out)).trans RV5.out) (by omega)); have R6:=Hd (ho.at (((below_draws _ _).block _ (Gx R5.out)).trans R5.out) (by omega)); have HY:=Hd hx; have H6:=Hd hp; have HL6:=Hd hlt; have HO6:=Hd ((Only.of (below_draws _ _)).trans ho); have HK6:=Hd (HK5.out.only ((Only.of (below_draws _ _)).trans ho) (by omega)); clear hx hp hlt ho; (have e7:=(nine_of ((alloc_off (Gx RV6.out) (.cells (Ve kk2 oo2 u1 u2 u3 tt2 nn2 (.slice a2 m2 c2) pp2) 49)).trans RV6.out)).1.2.2.2.2.2.2.2.1); obtain ⟨⟨b0,b1,b2,b3,b4,b5,b6,b7,b8⟩,-⟩:=nine_of RV6.out)
        | (refine step_append_lies _ rfl _ _ 22 rfl (w.heap.size + 1) 49 i0 _ 9 112 Tryz.underlying22 hi hz0 hz1 hz2 rfl (by decide) (.slice (some ⟨q,0,none⟩) es.length c) es.length (xcs es qs) rfl (HK6.out.own.alloc _) ⟨w6.heap.size,0,none⟩ 1 1 (exC (.mk kk2 oo2 (u1,u2,u3) tt2 nn2 ks2 pp2) (.slice a2 m2 c2)) rfl rfl (World.news_of_block (heap_alloc_new w6 _)) (exC_one _ _ rfl) (by decide) (by unfold maxLen; have h1:=HLT.out; omega) (by have h1:=HLT.out; omega) (by have h1:=(Gx R6.out); simp; omega) _ rfl ?_; intro q2 c3 w7 hown hgrow hor hq7; (have HGR:=Hd hgrow); (have HOR:=Hd hor); (have HOW:=Hd hown); (have RV7:=Hd ((hgrow.block _ (by have:=(Gx RV6.out); simp; omega) (fun e => HK6.out.far (by injection e with e; exact e.symm))).trans ((alloc_off (Gx RV6.out) _).trans RV6.out))); clear hown hgrow hor; obtain ⟨⟨d0,d1,d2,d3,d4,d5,d6,d7,d8⟩,g0,g1,g2,g3,g4,g5,g6,g7,g8⟩:=nine_of RV7.out))
       all_goals
        have hs6 : r < w6.heap.size:=(Gx RV6.out)
        have hq6 : q < w6.heap.size:=(HK6.out.own.lt q rfl).2
        have hqB : w.heap.size + 1 ≤ q:=(HK6.out.own.lt q rfl).1
        have K7 : Hid (∀ g,g < w6.heap.size → g ≠ q → w7.heap[g]? = w6.heap[g]?):=fun g hg hn => (HGR.out.block g (by simp; omega) (fun e => hn (by injection e with e))).trans (alloc_off hg _)
        have S7 : w6.heap.size < w7.heap.size:=by have h1:=HGR.out.size; simp at h1; omega
        have hPq : P < q:=by omega
        have HR : Hid (RowK w7 (w.heap.size + 1) r (es ++ [(.mk kk2 oo2 (u1,u2,u3) tt2 nn2 ks2 pp2)]) (qs ++ [.slice a2 m2 c2]) q2 c3):=by
         have hfs:=((HK6.out.all.below ((Below.refl _ _).alloc (Nat.le_refl _) (.cells (Ve kk2 oo2 u1 u2 u3 tt2 nn2 (.slice a2 m2 c2) pp2) 49))).and ((FS.high HY.out (Z:=Zr r (some q)) (B:=w.heap.size + 1) (fun g hg k => by have h1:=(below_draws w5 1).size; have h2 : r < w5.heap.size:=(Gx RV5.out); have h3 : q < w5.heap.size:=(HK5.out.own.lt q rfl).2; exact k.elim (fun k => by simp [World.drewN] at hg; omega) (fun k => by injection k with k; simp [World.drewN] at hg; omega)) (by have h2 : r < w5.heap.size:=(Gx RV5.out); simp [World.drewN]; omega)).below ((Below.refl _ _).alloc (Nat.le_refl _) (.cells (Ve kk2 oo2 u1 u2 u3 tt2 nn2 (.slice a2 m2 c2) pp2) 49)))).grow (v:=.slice (some ⟨q,0,none⟩) es.length c) (v':=.slice (some ⟨q2,0,none⟩) (es.length + 1) c3) HGR.out (HOR.out.elim (fun e => Or.inl e.symm) (fun e => Or.inr (by rw [e]; rfl)))
         refine ⟨by simp [HK6.out.len],?_,?_,hfs.imp fun W h => XsO.snoc h.1 HK6.out.len h.2⟩
         ·have:=HOW.out
          rw [List.length_append,xcs_append _ _ _ _ HK6.out.len]
          simpa [xcs] using this
         ·rcases HOR.out with e | e
          ·injection e with e; rw [← e]; exact HK6.out.far
          ·rw [e]; simp; omega
        obtain ⟨W8,hW8⟩:=Vx (w7.setCell ⟨r,7,none⟩ (.slice (some ⟨q2,0,none⟩) (es.length + 1) c3))
        rw [hW8]
        have K8 : Hid (∀ g,g ≠ r → W8.heap[g]? = w7.heap[g]?):=hW8 ▸ fun g hg => set_off _ hg
        have S8 : Hid (W8.heap.size = w7.heap.size):=Hd (hW8 ▸ set_size _ _ _)
        have RV8 : Hid (W8.heap[r]? = some (.cells (Ve 10 0 0 0 Vz Vz Vz (.slice (some ⟨q2,0,none⟩) (es.length + 1) c3) p0) 49 (0,0))):=Hd (hW8 ▸ (by have:=set_at (i:=7) RV7.out (.slice (some ⟨q2,0,none⟩) (es.length + 1) c3); simpa using this))
        have O7 : Hid (Only (· = P) w w7):=⟨HGR.out.os.trans ((O5.out.trans HO6.out).os),HGR.out.tape.trans ((O5.out.trans HO6.out).tape),HGR.out.output.trans ((O5.out.trans HO6.out).output),Nat.le_trans (O5.out.trans HO6.out).size (Nat.le_of_lt S7),fun k hk hn => (K7.out k (Nat.lt_of_lt_of_le hk (O5.out.trans HO6.out).size) (by omega)).trans ((O5.out.trans HO6.out).block k hk hn)⟩
        have O8 : Hid (Only (· = P) w W8):=hW8 ▸ O7.out.setNew (p:=⟨r,7,none⟩) (by show w.heap.size ≤ r; omega) _
        clear hW8
        have H8 : Hid (PA W8 P s2):=H6.out.keep fun k hk => (K8.out k (by omega)).trans (K7.out k (by omega) (by omega))
        have R8 : Hid (W8.heap[w.heap.size]? = some (.cells Vo 49 (0,0))):=(K8.out _ (by omega)).trans ((K7.out _ (by omega) (by omega)).trans R6.out)
        have HK8 : Hid (RowK W8 (w.heap.size + 1) r (es ++ [(.mk kk2 oo2 (u1,u2,u3) tt2 nn2 ks2 pp2)]) (qs ++ [.slice a2 m2 c2]) q2 c3):=HR.out.keep (Nat.le_of_eq S8.out.symm) fun g _ hn _ => K8.out g hn
        go_wp2
        go_roundw
        case rel => exact ⟨_,_,s2,_,_,HK8.out,H8.out,by have h1:=HLT.out; have h2:=HL3.out; have h3:=HL6.out; simp; omega,by simp,O8.out,R8.out,by simpa using RV8.out,HGO.out⟩
        case measure => rw [H8.out.restN,HRN.out]; have h2:=HL3.out; have h3:=HL6.out; omega

structure Au (w0 : World) (P : Nat) (s : PS) (L : List (Nat × Obj)) (I : World → Prop) (w : World) : Prop where
 low : P < w0.heap.size
 pa : PA w P s
 only : Only (· = P) w0 w
 has : ∀ x ∈ L,w0.heap.size ≤ x.1 ∧ w.heap[x.1]? = some x.2
 nodup : (L.map Prod.fst).Nodup
 inv : FS w w0.heap.size (fun g => g ∈ L.map Prod.fst) I

theorem Au.lt {w0 w : World} {P : Nat} {s : PS} {L : List (Nat × Obj)} {I : World → Prop} (h : Au w0 P s L I w) {g : Nat} (hg : g ∈ L.map Prod.fst) : g < w.heap.size:=by
 obtain ⟨x,hx,rfl⟩:=List.mem_map.1 hg
 exact (Array.getElem?_eq_some_iff.1 (h.has x hx).2).1

theorem Au.start {w : World} {P : Nat} {s : PS} (h : PA w P s) : Au w P s [] (fun _ => True) w:=⟨h.lt,h,Only.refl _ _,fun _ h => absurd h (by simp),List.nodup_nil,fun _ _ => trivial⟩

theorem Au.gain {w0 w w' : World} {P : Nat} {s s' : PS} {L : List (Nat × Obj)} {I : World → Prop} (h : Au w0 P s L I w) (ho : Only (· = P) w w') (hp : PA w' P s') (J : World → Prop) (hJ : ∀ W : World,(∀ g,w.heap.size ≤ g → g < w'.heap.size → W.heap[g]? = w'.heap[g]?) → J W) : Au w0 P s' L (fun W => I W ∧ J W) w':=by
 refine ⟨h.low,hp,h.only.trans ho,fun x hx => ⟨(h.has x hx).1,ho.at (h.has x hx).2 ?_⟩,h.nodup,(h.inv.only ho h.low).and fun W hW => hJ W fun g hg hl => hW g (Nat.le_trans h.only.size hg) (fun m => ?_) hl⟩
 ·have h1:=(h.has x hx).1
  have h2:=h.low
  omega
 ·have:=h.lt m
  omega

theorem Au.imp {w0 w : World} {P : Nat} {s : PS} {L : List (Nat × Obj)} {I J : World → Prop} (h : Au w0 P s L I w) (k : ∀ W,I W → J W) : Au w0 P s L J w:=⟨h.low,h.pa,h.only,h.has,h.nodup,h.inv.imp k⟩

theorem Au.call {w0 w w' : World} {P : Nat} {s s' : PS} {L : List (Nat × Obj)} {I : World → Prop} (h : Au w0 P s L I w) (ho : Only (· = P) w w') (hp : PA w' P s') : Au w0 P s' L I w':=(h.gain ho hp (fun _ => True) fun _ _ => trivial).imp fun _ k => k.1

theorem Au.bel {w0 w w' : World} {P : Nat} {s : PS} {L : List (Nat × Obj)} {I : World → Prop} (h : Au w0 P s L I w) (hb : Below w.heap.size w w') : Au w0 P s L I w':=h.call (Only.of hb) (h.pa.later hb)

theorem Au.push {w0 w : World} {P : Nat} {s : PS} {L : List (Nat × Obj)} {I : World → Prop} (h : Au w0 P s L I w) (cs : Array Value) (t : TypeId) : Au w0 P s ((w.heap.size,.cells cs t (0,0)) :: L) I (w.alloc (.cells cs t)):=by
 have hb : Below w.heap.size w (w.alloc (.cells cs t)):=(Below.refl _ _).alloc (Nat.le_refl _) _
 have k:=h.bel hb
 refine ⟨h.low,k.pa,k.only,?_,?_,?_⟩
 ·intro x hx
  rcases List.mem_cons.1 hx with rfl | hx
  ·exact ⟨h.only.size,heap_alloc_new w _⟩
  ·exact k.has x hx
 ·rw [List.map_cons,List.nodup_cons]
  refine ⟨fun m => ?_,h.nodup⟩
  have:=h.lt m
  simp at this
 ·exact h.inv.keep hb.size (fun g _ _ hl => hb.block g hl) fun g hl m => by
   rw [List.map_cons,List.mem_cons] at m
   rcases m with m | m
   ·simp at m
    omega
   ·exact m

theorem Au.pushE {w0 w : World} {P : Nat} {s : PS} {L : List (Nat × Obj)} {I : World → Prop} (h : Au w0 P s L I w) (cs : Array Value) (t : TypeId) : ∃ W,w.alloc (.cells cs t) = W ∧ Hid (Au w0 P s ((w.heap.size,.cells cs t (0,0)) :: L) I W):=⟨_,rfl,h.push cs t⟩

theorem Au.at {w0 w : World} {P : Nat} {s : PS} {L : List (Nat × Obj)} {I : World → Prop} (h : Au w0 P s L I w) (k : Nat) {b : Nat} {o : Obj} (hk : L[k]? = some (b,o)) : w.heap[b]? = some o:=(h.has _ (List.mem_of_getElem? hk)).2

theorem map_set {L : List (Nat × Obj)} {k b : Nat} {o o' : Obj} (hk : L[k]? = some (b,o)) : (L.set k (b,o')).map Prod.fst = L.map Prod.fst:=by
 rw [List.map_set]
 apply List.ext_getElem?
 intro i
 rw [List.getElem?_set]
 split
 ·rename_i e
  subst e
  obtain ⟨hl,e⟩:=List.getElem?_eq_some_iff.1 hk
  simp [hl,e]
 ·rfl

theorem Au.put {w0 w : World} {P : Nat} {s : PS} {L : List (Nat × Obj)} {I : World → Prop} (h : Au w0 P s L I w) (k : Nat) {b : Nat} {cs : Array Value} {t : TypeId} (hk : L[k]? = some (b,.cells cs t (0,0))) (i : Nat) (v : Value) : Au w0 P s (L.set k (b,.cells (cs.setIfInBounds i v) t (0,0))) I (w.setCell ⟨b,i,none⟩ v):=by
 have hm:=List.mem_of_getElem? hk
 have hb:=h.has _ hm
 have hlow:=h.low
 have hmm:=map_set (o':=.cells (cs.setIfInBounds i v) t (0,0)) hk
 refine ⟨h.low,h.pa.set (p:=⟨b,i,none⟩) (Nat.lt_of_lt_of_le hlow hb.1) _,h.only.setNew (p:=⟨b,i,none⟩) hb.1 _,?_,?_,?_⟩
 ·intro x hx
  obtain ⟨j,hj⟩:=List.mem_iff_getElem?.1 hx
  rw [List.getElem?_set] at hj
  by_cases e : k = j
  ·rw [if_pos e] at hj
   split at hj
   ·injection hj with hj
    subst hj
    exact ⟨hb.1,set_at hb.2 v⟩
   ·exact absurd hj (by simp)
  ·rw [if_neg e] at hj
   have hx':=h.has x (List.mem_of_getElem? hj)
   refine ⟨hx'.1,(set_off v fun eb => e ?_).trans hx'.2⟩
   have h1 : (L.map Prod.fst)[k]? = some b:=by simp [hk]
   have h2 : (L.map Prod.fst)[j]? = some b:=by simp [hj,eb]
   exact (List.getElem?_inj (List.getElem?_eq_some_iff.1 h1).1 h.nodup).1 (h1.trans h2.symm)
 ·rw [hmm]
  exact h.nodup
 ·rw [hmm]
  exact h.inv.keep (Nat.le_of_eq (set_size _ _ _).symm) (fun g _ hn _ => set_off v fun e => hn (by rw [e]; exact List.mem_map.2 ⟨_,hm,rfl⟩)) fun _ _ m => m

def setsL (w : World) (b : Nat) : Nat → List Value → World
 | _,[] => w
 | i,v :: vs => setsL (w.setCell ⟨b,i,none⟩ v) b (i + 1) vs

def putsA (cs : Array Value) : Nat → List Value → Array Value
 | _,[] => cs
 | i,v :: vs => putsA (cs.setIfInBounds i v) (i + 1) vs

theorem Au.puts {w0 : World} {P : Nat} {s : PS} {I : World → Prop} (k : Nat) {b : Nat} {t : TypeId} : ∀ (vs : List Value) {w : World} {L : List (Nat × Obj)} {cs : Array Value} (i : Nat),Au w0 P s L I w → L[k]? = some (b,.cells cs t (0,0)) → Au w0 P s (L.set k (b,.cells (putsA cs i vs) t (0,0))) I (setsL w b i vs)
 | [],w,L,cs,i,h,hk => by
  have e : L.set k (b,.cells (putsA cs i []) t (0,0)) = L:=by
   apply List.ext_getElem?
   intro j
   rw [List.getElem?_set]
   split
   ·rename_i e
    subst e
    rw [hk]
    simp [(List.getElem?_eq_some_iff.1 hk).1,putsA]
   ·rfl
  rw [e]
  exact h
 | v :: vs,w,L,cs,i,h,hk => by
  have h1:=h.put k hk i v
  have hl:=(List.getElem?_eq_some_iff.1 hk).1
  have h2:=Au.puts (b:=b) (t:=t) (cs:=cs.setIfInBounds i v) k vs (i + 1) h1 (by rw [List.getElem?_set]; simp [hl])
  rw [List.set_set] at h2
  exact h2

theorem putsA_list : ∀ (vs : List Value) (cs : Array Value) (i : Nat),i + vs.length ≤ cs.size → (putsA cs i vs).toList = cs.toList.take i ++ vs ++ cs.toList.drop (i + vs.length)
 | [],cs,i,_ => by simp [putsA]
 | v :: vs,cs,i,h => by
  simp at h
  rw [putsA,putsA_list vs _ _ (by simp; omega)]
  rw [Array.toList_setIfInBounds]
  apply List.ext_getElem?
  intro j
  simp only [List.getElem?_append,List.getElem?_take,List.getElem?_drop,List.length_append,List.length_take,List.length_set,List.length_cons,Array.length_toList,List.getElem?_set]
  have hm : min i cs.size = i:=by omega
  have hm1 : min (i + 1) cs.size = i + 1:=by omega
  rw [hm,hm1]
  by_cases h1 : j < i
  ·simp [h1,show j < i + 1 + vs.length by omega,show j < i + 1 by omega,show j < i + (vs.length + 1) by omega,show i ≠ j by omega]
  ·by_cases h2 : j = i
   ·subst h2
    simp [show j < j + 1 + vs.length by omega,show j < cs.size by omega]
   ·by_cases h3 : j < i + 1 + vs.length
    ·have e : j - i = (j - (i + 1)) + 1:=by omega
     simp [h1,h3,show ¬ j < i + 1 by omega,show j < i + (vs.length + 1) by omega,e]
    ·simp [h3,show ¬ j < i + (vs.length + 1) by omega,show i + 1 + vs.length + (j - (i + 1 + vs.length)) = i + (vs.length + 1) + (j - (i + (vs.length + 1))) by omega,show i ≠ i + (vs.length + 1) + (j - (i + (vs.length + 1))) by omega]

theorem Au.fill {w0 w : World} {P : Nat} {s : PS} {L : List (Nat × Obj)} {I : World → Prop} (h : Au w0 P s L I w) (k : Nat) {b : Nat} {cs : Array Value} {t : TypeId} (hk : L[k]? = some (b,.cells cs t (0,0))) (vs : List Value) (hl : vs.length = cs.size) : Au w0 P s (L.set k (b,.cells vs.toArray t (0,0))) I (setsL w b 0 vs):=by
 have e : putsA cs 0 vs = vs.toArray:=by
  apply Array.toList_inj.1
  rw [putsA_list vs cs 0 (by omega)]
  simp [hl]
 have:=Au.puts k vs 0 h hk
 rw [e] at this
 exact this

theorem Au.own {w0 w : World} {P : Nat} {s : PS} {L : List (Nat × Obj)} {I J : World → Prop} {b : Nat} {o : Obj} (h : Au w0 P s ((b,o) :: L) I w) (k : ∀ W,I W → W.heap[b]? = some o → J W) : Au w0 P s L J w:=by
 have hn:=h.nodup
 rw [List.map_cons,List.nodup_cons] at hn
 have hb:=h.has (b,o) (by simp)
 refine ⟨h.low,h.pa,h.only,fun x hx => h.has x (List.mem_cons_of_mem _ hx),hn.2,fun W hW => k W (h.inv W fun g hg hm hl => hW g hg (fun m => hm ?_) hl) ?_⟩
 ·rw [List.map_cons]
  exact List.mem_cons_of_mem _ m
 ·exact (hW b hb.1 hn.1 (Gx hb.2)).trans hb.2

theorem Au.drop {w0 w : World} {P : Nat} {s : PS} {L : List (Nat × Obj)} {I : World → Prop} {b : Nat} {o : Obj} (h : Au w0 P s ((b,o) :: L) I w) : Au w0 P s L I w:=h.own fun _ h _ => h

theorem Au.gainX {w0 w w' : World} {P : Nat} {s s' : PS} {L : List (Nat × Obj)} {I : World → Prop} {e : Ex} {k : Value} (h : Au w0 P s L I w) (ho : Only (· = P) w w') (hp : PA w' P s') (hx : XO w' w.heap.size e k) : Au w0 P s' L (fun W => I W ∧ XO W w0.heap.size e k) w':=h.gain ho hp _ fun _ hW => (hx.keep hW).mono h.only.size
end Go.Proofs.YtbfjmccpcbhljaaGreatDoor
