/- A122 A123 -/
import Derived.Test.YtffalonhkemieaaGreatDoorSA120
import Derived.Test.YtffalonhkemieaaGreatDoorSA121
set_option maxHeartbeats 8000000
set_option maxRecDepth 100000
namespace Go.Proofs.YtffalonhkemieaaGreatDoor
open Go.RowKit
theorem RS.Ok.room {r : RS} (h : r.Ok) : r.step.many.length < r.step.pos:=Nat.lt_succ_of_le h.cap

def rowL (v : Value) (o : Obj) : List (Nat × Obj):=match v.ownBlock with
 | none => []
 | some q => [(q,o)]

theorem Aq.grow {w0 w w' : World} {P M0 M g : Nat} {r : RS} {v : Value} {o : Obj} {L : List (Nat × Obj)} {I : World → Prop} (h : Aq w0 P M0 M r (rowL v o ++ L) I w) (hg : w.grownBy w' v.ownBlock) (hq : v.ownBlock = some g ∨ w.heap.size ≤ g) (hlt : g < w'.heap.size) : ∃ o',w'.heap[g]? = some o' ∧ Aq w0 P M0 M r ((g,o') :: L) I w':=by
 have hsz:=h.only.size
 have hnd:=h.nodup
 rw [List.map_append] at hnd
 have hown : ∀ q,v.ownBlock = some q → w0.heap.size ≤ q ∧ q ≠ M ∧ q < w.heap.size ∧ q ∉ L.map Prod.fst:=by
  intro q hv
  have hm : (q,o) ∈ rowL v o ++ L:=by unfold rowL; rw [hv]; simp
  obtain ⟨h1,h2,h3⟩:=h.has _ hm
  refine ⟨h1,h2,(Gx h3),fun k => ?_⟩
  have:=(List.nodup_append.1 hnd).2.2 q (by unfold rowL; rw [hv]; simp) q k
  exact this rfl
 have hgd : w0.heap.size ≤ g ∧ g ≠ M ∧ g ∉ L.map Prod.fst:=by
  rcases hq with hq | hq
  ·obtain ⟨a,b,_,d⟩:=hown g hq
   exact ⟨a,b,d⟩
  ·refine ⟨Nat.le_trans hsz hq,fun e => ?_,fun k => ?_⟩
   ·have:=h.ra.ltM
    omega
   ·have:=h.lt (g:=g) (by rw [List.map_append]; exact List.mem_append_right _ k)
    omega
 refine ⟨w'.heap[g],Array.getElem?_eq_some_iff.2 ⟨hlt,rfl⟩,h.low,h.lowM,?_,?_,h.mm,?_,?_,?_⟩
 ·refine h.ra.keep (fun k hk => hg.block k (Nat.lt_of_le_of_lt hk h.ra.lt) fun e => ?_) (hg.block M h.ra.ltM fun e => (hown M e.symm).2.1 rfl)
  have:=(hown k e.symm).1
  have:=h.low
  omega
 ·refine ⟨hg.os.trans h.only.os,hg.tape.trans h.only.tape,hg.output.trans h.only.output,Nat.le_trans hsz hg.size,fun k hk hz => (hg.block k (by omega) fun e => ?_).trans (h.only.block k hk hz)⟩
  have:=(hown k e.symm).1
  omega
 ·intro x hx
  rcases List.mem_cons.1 hx with rfl | hx
  ·exact ⟨hgd.1,hgd.2.1,Array.getElem?_eq_some_iff.2 ⟨hlt,rfl⟩⟩
  ·obtain ⟨a,b,c⟩:=h.has x (List.mem_append_right _ hx)
   refine ⟨a,b,(hg.block x.1 (Gx c) fun e => ?_).trans c⟩
   exact (hown x.1 e.symm).2.2.2 (List.mem_map.2 ⟨x,hx,rfl⟩)
 ·rw [List.map_cons,List.nodup_cons]
  exact ⟨hgd.2.2,(List.nodup_append.1 hnd).2.1⟩
 ·refine h.inv.keep hg.size (fun k _ hn hl => hg.block k hl fun e => hn (Or.inl ?_)) fun k hl z => ?_
  ·rw [List.map_append]
   refine List.mem_append_left _ ?_
   unfold rowL
   rw [← e]
   simp
  ·rcases z with z | z
   ·rw [List.map_cons,List.mem_cons] at z
    rcases z with z | z
    ·rcases hq with hq | hq
     ·refine Or.inl ?_
      rw [List.map_append]
      refine List.mem_append_left _ ?_
      unfold rowL
      rw [hq,z]
      simp
     ·have z' : k = g:=z
      omega
    ·exact Or.inl (by rw [List.map_append]; exact List.mem_append_right _ z)
   ·exact Or.inr z

theorem xs_one {W : World} {B b : Nat} {x : Ex} {k : Value} (hb : W.heap[b]? = some (.cells (exC x k).toArray 48 (0,0))) (hB : B ≤ b) : W.ownsRow B 48 9 (.slice (some ⟨b,0,none⟩) 1 1) 1 (xcs [x] [k]):=by
 have e : xcs [x] [k] = exC x k:=by simp [xcs]
 rw [e]
 obtain ⟨kk,oo,vv,tt,nn,ks,pp⟩:=x
 exact ⟨rfl,Or.inr ⟨b,1,_,rfl,hB,hb,Nat.le_refl _,by unfold maxLen; omega,rfl,rfl⟩⟩

theorem xs_more (x0 x : Ex) (k0 k : Value) (es : List Ex) (qs : List Value) (h : es.length = qs.length) : xcs (x0 :: (es ++ [x])) (k0 :: (qs ++ [k])) = xcs (x0 :: es) (k0 :: qs) ++ exC x k:=by
 have:=xcs_append (x0 :: es) (k0 :: qs) [x] [k] (by simp [h])
 simpa [xcs] using this

def rowX (kind : Int) (p : Nat) (x : Ex) (es : List Ex) : Ex:=if es.length = 0 then x else over kind 0 p (x :: es)

theorem qand_step (P M : Nat) (r : RS) (w : World) (h : RA w P M r) (n : Nat) (hn : r.ps.rest.length ≤ n) (hf : QUpto n P 160 .not) : Calls Tryz.prog 141 #[.pointer (some ⟨P,0,none⟩)] w (QX (Pr .and) P M r w):=by
 have HA:=Hd (Aq.start h)
 have hPw:=h.lt
 have HLN : Hid (r.ps.rest.length ≤ r.ps.rest.length):=Nat.le_refl _
 clear h
 have HF:=Hd hf
 have hRL : r.ps.rest.length ≤ 1001:=Nat.le_trans (by show (r.all.drop r.pos).length ≤ r.all.length; simp) HA.out.ra.ok.len
 clear hf
 go_enter Tryz.func141,Tryz.ntmps141
 obtain ⟨W1,hW1,HA⟩:=HA.out.pushE Vo 48
 go_wp2_with fail
 clear hW1
 refine (HF.out _ r _ hn HA.out.ra).mono ?_
 rintro e w2 ⟨x2,a2,m2,c2,M2,r2,rfl,hk,hp,ho,hm,hl,hx⟩
 have HK2:=Hd hk
 have HLL2:=Hd hl
 replace HA:=Hd (HA.out.gainX ho hm hp hk.right hx)
 replace HLN:=Hd (Nat.le_trans hl HLN.out)
 clear ho hp hl hk hm hx
 obtain ⟨kk2,oo2,⟨v12,v22,v32⟩,tt2,nn2,ks2,pp2⟩:=x2
 simp only [exV,exC]
 obtain ⟨W3,hW3,HA⟩:=HA.out.pushE (Ve kk2 oo2 v12 v22 v32 tt2 nn2 (.slice a2 m2 c2) pp2) 48
 obtain ⟨⟨⟨tk1,tn1,tt1⟩,ta1⟩,hh⟩ : ∃ x,(r2).ps.hd = x:=⟨_,rfl⟩
 have HT:=qnh P M2 hh
 have HH1:=Hd hh
 clear hh
 go_wp2_with fail
 clear hW3
 refine (HT.out _ HA.out.ra).mono ?_
 rintro e w4 ⟨rfl,hb⟩
 replace HA:=Hd (HA.out.bel hb)
 clear hb HT
 obtain ⟨W5,hW5,HA⟩:=HA.out.pushE (Vk tk1 tn1 tt1 ta1) 43
 obtain ⟨⟨e0,e1,e2,e3,e4,e5,e6,e7,e8⟩,ef0,ef1,ef2,ef3,ef4,ef5,ef6,ef7,ef8⟩:=nine_of (HA.out.at 1 rfl)
 obtain ⟨W6,hW6,HA⟩:=HA.out.pushE (Ve kk2 oo2 v12 v22 v32 tt2 nn2 (.slice a2 m2 c2) pp2) 48
 have hlb : w.heap.size ≤ W5.heap.size:=(HA.out.has _ (List.mem_cons_self)).1
 go_wp2_with fail
 clear hW5 hW6
 go_loopw [5] (fun v wr => ∃ (es : List Ex) (qs : List Value) (q N c : Nat) (o : Obj) (M1 : Nat) (r1 : RS),v = .slice (some ⟨q,0,none⟩) N c ∧ es.length = qs.length ∧ (∀ W : World,W.heap[q]? = some o → W.ownsRow w.heap.size 48 9 (.slice (some ⟨q,0,none⟩) N c) N (xcs ((Ex.mk kk2 oo2 (v12,v22,v32) tt2 nn2 ks2 pp2) :: es) ((Value.slice a2 m2 c2) :: qs))) ∧ Aq w P M M1 r1 [(q,o),(w4.heap.size,.cells (Vk tk1 tn1 tt1 ta1) 43 (0,0)),(w2.heap.size,.cells (Ve kk2 oo2 v12 v22 v32 tt2 nn2 (.slice a2 m2 c2) pp2) 48 (0,0)),(w.heap.size,.cells Vo 48 (0,0))] (fun W => XsO W w.heap.size ((Ex.mk kk2 oo2 (v12,v22,v32) tt2 nn2 ks2 pp2) :: es) ((Value.slice a2 m2 c2) :: qs)) wr ∧ r1.ps.rest.length ≤ r.ps.rest.length ∧ ((N = es.length + 1 ∧ r1.ps.rest.length + es.length ≤ r.ps.rest.length) ∧ (∀ y r',r1.sees wAnd = true → Lk (Pr (.rowL false ta1 ((Ex.mk kk2 oo2 (v12,v22,v32) tt2 nn2 ks2 pp2) :: es))) r1 y r' → Lk (Pr .and) r y r') ∧ (r1.sees wAnd = false → Lk (Pr .and) r (rowX 9 ta1 (Ex.mk kk2 oo2 (v12,v22,v32) tt2 nn2 ks2 pp2) es) r1))) (fun _ wr => restQ wr P)
 case atStart => exact ⟨[],[],W5.heap.size,1,1,_,M2,r2,rfl,rfl,fun W hW => xs_one hW hlb,HA.out.imp fun _ _ h => XsO.one h.2,HLN.out,⟨rfl,HLN.out⟩,fun y r' hs q => Lk.and_more HK2.out hs (by rw [HH1.out]; exact q),fun hs => Lk.and_one HK2.out hs⟩
 case round =>
  obtain ⟨es,qs,q,N,c,o,M1,r1,rfl,hlq,how,ha,hl,⟨hN,hlN⟩,hg1,hg2⟩:=hrel
  have HRN:=Hd ha.ra.restQ
  have HOK1:=Hd ha.ra.ok
  have HLQ:=Hd hlq
  have HOW:=Hd how
  have HN:=Hd hN
  have HLN2:=Hd hlN
  have HG1:=Hd hg1
  have HG2x:=Hd hg2
  have hN9 : N ≤ 1002:=by omega
  clear HA HLN HK2 HLL2 hlb
  have HA:=Hd ha
  have HLN:=Hd hl
  clear ha hl hlq how hN hlN hg1 hg2
  go_wp2_with fail
  refine (qtakes_any P (M1) (r1) ⟨#[65,78,68]⟩ _ HA.out.ra).mono ?_
  rintro e w7 ⟨rfl,hp,ho⟩
  cases hS : (r1).sees wAnd with
  | false =>
   rw [show (r1).sees (⟨#[65,78,68]⟩ : ByteArray).data.toList = false from hS] at hp
   try rw [show (r1).sees (⟨#[65,78,68]⟩ : ByteArray).data.toList = false from hS]
   rw [if_neg (by decide)] at hp
   have HS7:=Hd hS
   replace HA:=Hd (HA.out.call ho (Or.inl rfl) hp fun k => k)
   clear hp ho hS
   cases es with
   | nil =>
    have hN1 : N = 1:=HN.out
    subst hN1
    have HLK0 : Hid (Lk (Pr .and) r (Ex.mk kk2 oo2 (v12,v22,v32) tt2 nn2 ks2 pp2) r1):=HG2x.out HS7.out
    have zf:=nine_of (HA.out.at 2 rfl)
    have zzr:=nine_of (HA.out.at 3 rfl)
    have HLK:=Hd (HLK0.out)
    go_wp2
    have HD:=Hd (HA.out.fill 3 rfl [Vi kk2,Vi oo2,Vi v12,Vi v22,.string v32,.string tt2,.string nn2,.slice a2 m2 c2,Vi pp2] rfl)
    obtain ⟨W99,hW99⟩:=Vx (setsL w7 w.heap.size 0 [Vi kk2,Vi oo2,Vi v12,Vi v22,.string v32,.string tt2,.string nn2,.slice a2 m2 c2,Vi pp2])
    rw [hW99] at HD
    simp only [setsL,Nat.reduceAdd] at hW99
    rw [hW99]
    have zy:=(nine_of (HD.out.at 3 rfl)).1
    clear hW99
    exact bodyPost_ret (v:=exV (Ex.mk kk2 oo2 (v12,v22,v32) tt2 nn2 ks2 pp2) (Value.slice a2 m2 c2)) (by simp [results,Tryz.results141,go_sem,exV,exC,zy]) rfl (HD.out.qx HLK.out HLN.out (fun _ _ h => h 0 (by simp) (by simp)))
   | cons e1 es2 =>
    have hN1 : ((N : Int) == 1) = false:=by have:=HN.out; simp at this ⊢; omega
    have HLK0 : Hid (Lk (Pr .and) r (over 9 0 ta1 ((Ex.mk kk2 oo2 (v12,v22,v32) tt2 nn2 ks2 pp2) :: e1 :: es2)) r1):=HG2x.out HS7.out
    have zt:=four_of (HA.out.at 1 rfl)
    have zzr:=nine_of (HA.out.at 3 rfl)
    have HLK:=Hd (HLK0.out)
    go_wp2
    have HD:=Hd (HA.out.fill 3 rfl [Vi 9,Vi 0,Vi 0,Vi 0,Vs,Vs,Vs,.slice (some ⟨q,0,none⟩) N c,Vi (ta1 : Int)] rfl)
    obtain ⟨W99,hW99⟩:=Vx (setsL w7 w.heap.size 0 [Vi 9,Vi 0,Vi 0,Vi 0,Vs,Vs,Vs,.slice (some ⟨q,0,none⟩) N c,Vi (ta1 : Int)])
    rw [hW99] at HD
    simp only [setsL,Nat.reduceAdd] at hW99
    rw [hW99]
    have zy:=(nine_of (HD.out.at 3 rfl)).1
    clear hW99
    exact bodyPost_ret (v:=exV (over 9 0 ta1 ((Ex.mk kk2 oo2 (v12,v22,v32) tt2 nn2 ks2 pp2) :: e1 :: es2)) (.slice (some ⟨q,0,none⟩) N c)) (by simp [results,Tryz.results141,go_sem,exV,exC,over,v0,zy]) rfl (HD.out.qx HLK.out HLN.out (fun W hL h => XO.mk _ (by simpa using HLQ.out) (by have:=HOW.out W (hL _ (List.mem_of_getElem? (i:=0) rfl)); rw [HN.out] at this ⊢; exact this) h))
  | true =>
   rw [show (r1).sees (⟨#[65,78,68]⟩ : ByteArray).data.toList = true from hS] at hp
   try rw [show (r1).sees (⟨#[65,78,68]⟩ : ByteArray).data.toList = true from hS]
   rw [if_pos rfl] at hp
   have HS7:=Hd hS
   replace HA:=Hd (HA.out.call ho (Or.inl rfl) hp fun k => k)
   replace HLN:=Hd (Nat.le_trans (RS.step_le _) HLN.out)
   clear hp ho hS
   go_wp2_with fail
   refine (qcounts_any P (M1) ((r1).step) N 8 _ HA.out.ra (fun _ => HOK1.out.room)).mono ?_
   rintro e w8 ⟨rfl,M8,hp,ho,hm⟩
   replace HA:=Hd (HA.out.call ho hm hp (fun k => by rw [RS.cnt_wrong] at k; exact k))
   replace HLN : Hid (((((r1).step).cnt N 8)).ps.rest.length ≤ r.ps.rest.length):=Nat.le_trans (Nat.le_of_eq (congrArg List.length (RS.cnt_rest _ _ _))) HLN.out
   clear ho hp hm
   go_wp2_with fail
   refine (HF.out _ (((r1).step).cnt N 8) _ (Nat.le_trans HLN.out hn) HA.out.ra).mono ?_
   rintro e w9 ⟨x9,a9,m9,c9,M9,r9,rfl,hk,hp,ho,hm,hl,hx⟩
   have HK9:=Hd hk
   have HLL9:=Hd hl
   replace HA:=Hd (HA.out.gainX ho hm hp hk.right hx)
   replace HLN:=Hd (Nat.le_trans hl HLN.out)
   clear ho hp hl hk hm hx
   obtain ⟨kk9,oo9,⟨v19,v29,v39⟩,tt9,nn9,ks9,pp9⟩:=x9
   simp only [exV,exC]
   obtain ⟨W10,hW10,HA⟩:=HA.out.pushE (Ve kk9 oo9 v19 v29 v39 tt9 nn9 (.slice a9 m9 c9) pp9) 48
   have zl:=nine_of (HA.out.at 0 rfl)
   obtain ⟨W11,hW11,HA⟩:=HA.out.pushE (Ve kk9 oo9 v19 v29 v39 tt9 nn9 (.slice a9 m9 c9) pp9) 48
   obtain ⟨i0,hi,hz0,hz1,hz2⟩:=info_parts Tryz.infoExpr
   go_wp2_with (first | (at_builtin; refine wpList_append_lies _ rfl _ _ 22 rfl w.heap.size 48 i0 _ 9 112 Tryz.underlying22 hi hz0 hz1 hz2 rfl (by decide) (.slice (some ⟨q,0,none⟩) N c) (N) (xcs ((Ex.mk kk2 oo2 (v12,v22,v32) tt2 nn2 ks2 pp2) :: es) ((Value.slice a2 m2 c2) :: qs)) rfl ?c0 ⟨W10.heap.size,0,none⟩ 1 1 (exC (Ex.mk kk9 oo9 (v19,v29,v39) tt9 nn9 ks9 pp9) (Value.slice a9 m9 c9)) rfl rfl ?c1 ?c2 (by decide) ?c3 ?c4 ?c5 _ rfl ?_))
   case c0 => exact HOW.out _ (HA.out.at 2 rfl)
   case c1 => exact World.news_of_block (HA.out.at 0 rfl)
   case c2 => exact exC_one _ _ rfl
   case c3 => unfold maxLen; omega
   case c4 => omega
   case c5 => exact HA.out.only.size
   intro g8 cap8 w8 hown8 hgrow8 hor8 hlt8
   clear hi hz0 hz1 hz2 hW10 hW11
   obtain ⟨o8,ho8,hA8⟩:=Aq.grow HA.out.drop.drop hgrow8 (hor8.imp id fun e => Nat.le_of_eq e.symm) hlt8
   have HOWN : Hid (∀ W : World,W.heap[g8]? = some o8 → W.ownsRow w.heap.size 48 9 (.slice (some ⟨g8,0,none⟩) (N + 1) cap8) (N + 1) (xcs ((Ex.mk kk2 oo2 (v12,v22,v32) tt2 nn2 ks2 pp2) :: es) ((Value.slice a2 m2 c2) :: qs) ++ exC (Ex.mk kk9 oo9 (v19,v29,v39) tt9 nn9 ks9 pp9) (Value.slice a9 m9 c9))):=fun W hW => own_kept hown8 fun b hb => by (obtain rfl : g8 = b:=by simpa [Value.ownBlock] using hb); exact hW.trans ho8.symm
   replace HA:=Hd (hA8.imp fun W _ h => XsO.snoc h.1 (by simp [HLQ.out]) h.2)
   clear hown8 hgrow8 hor8 hlt8 ho8 hA8
   go_wp2
   go_roundw
   case rel => exact ⟨es ++ [(Ex.mk kk9 oo9 (v19,v29,v39) tt9 nn9 ks9 pp9)],qs ++ [(Value.slice a9 m9 c9)],g8,N + 1,cap8,o8,M9,r9,rfl,by simp [HLQ.out],(fun W hW => by rw [xs_more _ _ _ _ _ _ HLQ.out]; exact HOWN.out W hW),HA.out,HLN.out,⟨by simp [HN.out],by have h1:=HLL9.out; rw [RS.cnt_rest] at h1; have h2:=RS.step_lt HOK1.out; have h3:=HLN2.out; simp; omega⟩,(fun y r' hs q => HG1.out y r' HS7.out (Lk.row_more (b:=false) HS7.out (by have:=HK9.out; rw [HN.out] at this; exact this) q)),fun hs => by have:=HG1.out _ _ HS7.out (Lk.row_more (b:=false) HS7.out (by have:=HK9.out; rw [HN.out] at this; exact this) (Lk.row_end (b:=false) hs)); unfold rowX; rw [if_neg (by simp)]; exact this⟩
   case measure => rw [HA.out.ra.restQ,HRN.out]; have h1:=HLL9.out; rw [RS.cnt_rest] at h1; exact Nat.lt_of_le_of_lt h1 (RS.step_lt HOK1.out)

theorem qexpr_step (P M : Nat) (r : RS) (w : World) (h : RA w P M r) (n : Nat) (hn : r.ps.rest.length ≤ n) (hf : QUpto n P 141 .and) : Calls Tryz.prog 103 #[.pointer (some ⟨P,0,none⟩)] w (QX (Pr .or) P M r w):=by
 have HA:=Hd (Aq.start h)
 have hPw:=h.lt
 have HLN : Hid (r.ps.rest.length ≤ r.ps.rest.length):=Nat.le_refl _
 clear h
 have HF:=Hd hf
 have hRL : r.ps.rest.length ≤ 1001:=Nat.le_trans (by show (r.all.drop r.pos).length ≤ r.all.length; simp) HA.out.ra.ok.len
 clear hf
 go_enter Tryz.func103,Tryz.ntmps103
 obtain ⟨W1,hW1,HA⟩:=HA.out.pushE Vo 48
 go_wp2_with fail
 clear hW1
 refine (HF.out _ r _ hn HA.out.ra).mono ?_
 rintro e w2 ⟨x2,a2,m2,c2,M2,r2,rfl,hk,hp,ho,hm,hl,hx⟩
 have HK2:=Hd hk
 have HLL2:=Hd hl
 replace HA:=Hd (HA.out.gainX ho hm hp hk.right hx)
 replace HLN:=Hd (Nat.le_trans hl HLN.out)
 clear ho hp hl hk hm hx
 obtain ⟨kk2,oo2,⟨v12,v22,v32⟩,tt2,nn2,ks2,pp2⟩:=x2
 simp only [exV,exC]
 obtain ⟨W3,hW3,HA⟩:=HA.out.pushE (Ve kk2 oo2 v12 v22 v32 tt2 nn2 (.slice a2 m2 c2) pp2) 48
 obtain ⟨⟨⟨tk1,tn1,tt1⟩,ta1⟩,hh⟩ : ∃ x,(r2).ps.hd = x:=⟨_,rfl⟩
 have HT:=qnh P M2 hh
 have HH1:=Hd hh
 clear hh
 go_wp2_with fail
 clear hW3
 refine (HT.out _ HA.out.ra).mono ?_
 rintro e w4 ⟨rfl,hb⟩
 replace HA:=Hd (HA.out.bel hb)
 clear hb HT
 obtain ⟨W5,hW5,HA⟩:=HA.out.pushE (Vk tk1 tn1 tt1 ta1) 43
 obtain ⟨⟨e0,e1,e2,e3,e4,e5,e6,e7,e8⟩,ef0,ef1,ef2,ef3,ef4,ef5,ef6,ef7,ef8⟩:=nine_of (HA.out.at 1 rfl)
 obtain ⟨W6,hW6,HA⟩:=HA.out.pushE (Ve kk2 oo2 v12 v22 v32 tt2 nn2 (.slice a2 m2 c2) pp2) 48
 have hlb : w.heap.size ≤ W5.heap.size:=(HA.out.has _ (List.mem_cons_self)).1
 go_wp2_with fail
 clear hW5 hW6
 go_loopw [5] (fun v wr => ∃ (es : List Ex) (qs : List Value) (q N c : Nat) (o : Obj) (M1 : Nat) (r1 : RS),v = .slice (some ⟨q,0,none⟩) N c ∧ es.length = qs.length ∧ (∀ W : World,W.heap[q]? = some o → W.ownsRow w.heap.size 48 9 (.slice (some ⟨q,0,none⟩) N c) N (xcs ((Ex.mk kk2 oo2 (v12,v22,v32) tt2 nn2 ks2 pp2) :: es) ((Value.slice a2 m2 c2) :: qs))) ∧ Aq w P M M1 r1 [(q,o),(w4.heap.size,.cells (Vk tk1 tn1 tt1 ta1) 43 (0,0)),(w2.heap.size,.cells (Ve kk2 oo2 v12 v22 v32 tt2 nn2 (.slice a2 m2 c2) pp2) 48 (0,0)),(w.heap.size,.cells Vo 48 (0,0))] (fun W => XsO W w.heap.size ((Ex.mk kk2 oo2 (v12,v22,v32) tt2 nn2 ks2 pp2) :: es) ((Value.slice a2 m2 c2) :: qs)) wr ∧ r1.ps.rest.length ≤ r.ps.rest.length ∧ ((N = es.length + 1 ∧ r1.ps.rest.length + es.length ≤ r.ps.rest.length) ∧ (∀ y r',r1.sees wOr = true → Lk (Pr (.rowL true ta1 ((Ex.mk kk2 oo2 (v12,v22,v32) tt2 nn2 ks2 pp2) :: es))) r1 y r' → Lk (Pr .or) r y r') ∧ (r1.sees wOr = false → Lk (Pr .or) r (rowX 10 ta1 (Ex.mk kk2 oo2 (v12,v22,v32) tt2 nn2 ks2 pp2) es) r1))) (fun _ wr => restQ wr P)
 case atStart => exact ⟨[],[],W5.heap.size,1,1,_,M2,r2,rfl,rfl,fun W hW => xs_one hW hlb,HA.out.imp fun _ _ h => XsO.one h.2,HLN.out,⟨rfl,HLN.out⟩,fun y r' hs q => Lk.or_more HK2.out hs (by rw [HH1.out]; exact q),fun hs => Lk.or_one HK2.out hs⟩
 case round =>
  obtain ⟨es,qs,q,N,c,o,M1,r1,rfl,hlq,how,ha,hl,⟨hN,hlN⟩,hg1,hg2⟩:=hrel
  have HRN:=Hd ha.ra.restQ
  have HOK1:=Hd ha.ra.ok
  have HLQ:=Hd hlq
  have HOW:=Hd how
  have HN:=Hd hN
  have HLN2:=Hd hlN
  have HG1:=Hd hg1
  have HG2x:=Hd hg2
  have hN9 : N ≤ 1002:=by omega
  clear HA HLN HK2 HLL2 hlb
  have HA:=Hd ha
  have HLN:=Hd hl
  clear ha hl hlq how hN hlN hg1 hg2
  go_wp2_with fail
  refine (qtakes_any P (M1) (r1) ⟨#[79,82]⟩ _ HA.out.ra).mono ?_
  rintro e w7 ⟨rfl,hp,ho⟩
  cases hS : (r1).sees wOr with
  | false =>
   rw [show (r1).sees (⟨#[79,82]⟩ : ByteArray).data.toList = false from hS] at hp
   try rw [show (r1).sees (⟨#[79,82]⟩ : ByteArray).data.toList = false from hS]
   rw [if_neg (by decide)] at hp
   have HS7:=Hd hS
   replace HA:=Hd (HA.out.call ho (Or.inl rfl) hp fun k => k)
   clear hp ho hS
   cases es with
   | nil =>
    have hN1 : N = 1:=HN.out
    subst hN1
    have HLK0 : Hid (Lk (Pr .or) r (Ex.mk kk2 oo2 (v12,v22,v32) tt2 nn2 ks2 pp2) r1):=HG2x.out HS7.out
    have zf:=nine_of (HA.out.at 2 rfl)
    have zzr:=nine_of (HA.out.at 3 rfl)
    have HLK:=Hd (HLK0.out)
    go_wp2
    have HD:=Hd (HA.out.fill 3 rfl [Vi kk2,Vi oo2,Vi v12,Vi v22,.string v32,.string tt2,.string nn2,.slice a2 m2 c2,Vi pp2] rfl)
    obtain ⟨W99,hW99⟩:=Vx (setsL w7 w.heap.size 0 [Vi kk2,Vi oo2,Vi v12,Vi v22,.string v32,.string tt2,.string nn2,.slice a2 m2 c2,Vi pp2])
    rw [hW99] at HD
    simp only [setsL,Nat.reduceAdd] at hW99
    rw [hW99]
    have zy:=(nine_of (HD.out.at 3 rfl)).1
    clear hW99
    exact bodyPost_ret (v:=exV (Ex.mk kk2 oo2 (v12,v22,v32) tt2 nn2 ks2 pp2) (Value.slice a2 m2 c2)) (by simp [results,Tryz.results103,go_sem,exV,exC,zy]) rfl (HD.out.qx HLK.out HLN.out (fun _ _ h => h 0 (by simp) (by simp)))
   | cons e1 es2 =>
    have hN1 : ((N : Int) == 1) = false:=by have:=HN.out; simp at this ⊢; omega
    have HLK0 : Hid (Lk (Pr .or) r (over 10 0 ta1 ((Ex.mk kk2 oo2 (v12,v22,v32) tt2 nn2 ks2 pp2) :: e1 :: es2)) r1):=HG2x.out HS7.out
    have zt:=four_of (HA.out.at 1 rfl)
    have zzr:=nine_of (HA.out.at 3 rfl)
    have HLK:=Hd (HLK0.out)
    go_wp2
    have HD:=Hd (HA.out.fill 3 rfl [Vi 10,Vi 0,Vi 0,Vi 0,Vs,Vs,Vs,.slice (some ⟨q,0,none⟩) N c,Vi (ta1 : Int)] rfl)
    obtain ⟨W99,hW99⟩:=Vx (setsL w7 w.heap.size 0 [Vi 10,Vi 0,Vi 0,Vi 0,Vs,Vs,Vs,.slice (some ⟨q,0,none⟩) N c,Vi (ta1 : Int)])
    rw [hW99] at HD
    simp only [setsL,Nat.reduceAdd] at hW99
    rw [hW99]
    have zy:=(nine_of (HD.out.at 3 rfl)).1
    clear hW99
    exact bodyPost_ret (v:=exV (over 10 0 ta1 ((Ex.mk kk2 oo2 (v12,v22,v32) tt2 nn2 ks2 pp2) :: e1 :: es2)) (.slice (some ⟨q,0,none⟩) N c)) (by simp [results,Tryz.results103,go_sem,exV,exC,over,v0,zy]) rfl (HD.out.qx HLK.out HLN.out (fun W hL h => XO.mk _ (by simpa using HLQ.out) (by have:=HOW.out W (hL _ (List.mem_of_getElem? (i:=0) rfl)); rw [HN.out] at this ⊢; exact this) h))
  | true =>
   rw [show (r1).sees (⟨#[79,82]⟩ : ByteArray).data.toList = true from hS] at hp
   try rw [show (r1).sees (⟨#[79,82]⟩ : ByteArray).data.toList = true from hS]
   rw [if_pos rfl] at hp
   have HS7:=Hd hS
   replace HA:=Hd (HA.out.call ho (Or.inl rfl) hp fun k => k)
   replace HLN:=Hd (Nat.le_trans (RS.step_le _) HLN.out)
   clear hp ho hS
   go_wp2_with fail
   refine (qcounts_any P (M1) ((r1).step) N 8 _ HA.out.ra (fun _ => HOK1.out.room)).mono ?_
   rintro e w8 ⟨rfl,M8,hp,ho,hm⟩
   replace HA:=Hd (HA.out.call ho hm hp (fun k => by rw [RS.cnt_wrong] at k; exact k))
   replace HLN : Hid (((((r1).step).cnt N 8)).ps.rest.length ≤ r.ps.rest.length):=Nat.le_trans (Nat.le_of_eq (congrArg List.length (RS.cnt_rest _ _ _))) HLN.out
   clear ho hp hm
   go_wp2_with fail
   refine (HF.out _ (((r1).step).cnt N 8) _ (Nat.le_trans HLN.out hn) HA.out.ra).mono ?_
   rintro e w9 ⟨x9,a9,m9,c9,M9,r9,rfl,hk,hp,ho,hm,hl,hx⟩
   have HK9:=Hd hk
   have HLL9:=Hd hl
   replace HA:=Hd (HA.out.gainX ho hm hp hk.right hx)
   replace HLN:=Hd (Nat.le_trans hl HLN.out)
   clear ho hp hl hk hm hx
   obtain ⟨kk9,oo9,⟨v19,v29,v39⟩,tt9,nn9,ks9,pp9⟩:=x9
   simp only [exV,exC]
   obtain ⟨W10,hW10,HA⟩:=HA.out.pushE (Ve kk9 oo9 v19 v29 v39 tt9 nn9 (.slice a9 m9 c9) pp9) 48
   have zl:=nine_of (HA.out.at 0 rfl)
   obtain ⟨W11,hW11,HA⟩:=HA.out.pushE (Ve kk9 oo9 v19 v29 v39 tt9 nn9 (.slice a9 m9 c9) pp9) 48
   obtain ⟨i0,hi,hz0,hz1,hz2⟩:=info_parts Tryz.infoExpr
   go_wp2_with (first | (at_builtin; refine wpList_append_lies _ rfl _ _ 22 rfl w.heap.size 48 i0 _ 9 112 Tryz.underlying22 hi hz0 hz1 hz2 rfl (by decide) (.slice (some ⟨q,0,none⟩) N c) (N) (xcs ((Ex.mk kk2 oo2 (v12,v22,v32) tt2 nn2 ks2 pp2) :: es) ((Value.slice a2 m2 c2) :: qs)) rfl ?c0 ⟨W10.heap.size,0,none⟩ 1 1 (exC (Ex.mk kk9 oo9 (v19,v29,v39) tt9 nn9 ks9 pp9) (Value.slice a9 m9 c9)) rfl rfl ?c1 ?c2 (by decide) ?c3 ?c4 ?c5 _ rfl ?_))
   case c0 => exact HOW.out _ (HA.out.at 2 rfl)
   case c1 => exact World.news_of_block (HA.out.at 0 rfl)
   case c2 => exact exC_one _ _ rfl
   case c3 => unfold maxLen; omega
   case c4 => omega
   case c5 => exact HA.out.only.size
   intro g8 cap8 w8 hown8 hgrow8 hor8 hlt8
   clear hi hz0 hz1 hz2 hW10 hW11
   obtain ⟨o8,ho8,hA8⟩:=Aq.grow HA.out.drop.drop hgrow8 (hor8.imp id fun e => Nat.le_of_eq e.symm) hlt8
   have HOWN : Hid (∀ W : World,W.heap[g8]? = some o8 → W.ownsRow w.heap.size 48 9 (.slice (some ⟨g8,0,none⟩) (N + 1) cap8) (N + 1) (xcs ((Ex.mk kk2 oo2 (v12,v22,v32) tt2 nn2 ks2 pp2) :: es) ((Value.slice a2 m2 c2) :: qs) ++ exC (Ex.mk kk9 oo9 (v19,v29,v39) tt9 nn9 ks9 pp9) (Value.slice a9 m9 c9))):=fun W hW => own_kept hown8 fun b hb => by (obtain rfl : g8 = b:=by simpa [Value.ownBlock] using hb); exact hW.trans ho8.symm
   replace HA:=Hd (hA8.imp fun W _ h => XsO.snoc h.1 (by simp [HLQ.out]) h.2)
   clear hown8 hgrow8 hor8 hlt8 ho8 hA8
   go_wp2
   go_roundw
   case rel => exact ⟨es ++ [(Ex.mk kk9 oo9 (v19,v29,v39) tt9 nn9 ks9 pp9)],qs ++ [(Value.slice a9 m9 c9)],g8,N + 1,cap8,o8,M9,r9,rfl,by simp [HLQ.out],(fun W hW => by rw [xs_more _ _ _ _ _ _ HLQ.out]; exact HOWN.out W hW),HA.out,HLN.out,⟨by simp [HN.out],by have h1:=HLL9.out; rw [RS.cnt_rest] at h1; have h2:=RS.step_lt HOK1.out; have h3:=HLN2.out; simp; omega⟩,(fun y r' hs q => HG1.out y r' HS7.out (Lk.row_more (b:=true) HS7.out (by have:=HK9.out; rw [HN.out] at this; exact this) q)),fun hs => by have:=HG1.out _ _ HS7.out (Lk.row_more (b:=true) HS7.out (by have:=HK9.out; rw [HN.out] at this; exact this) (Lk.row_end (b:=true) hs)); unfold rowX; rw [if_neg (by simp)]; exact this⟩
   case measure => rw [HA.out.ra.restQ,HRN.out]; have h1:=HLL9.out; rw [RS.cnt_rest] at h1; exact Nat.lt_of_le_of_lt h1 (RS.step_lt HOK1.out)

theorem qexprs_all (P : Nat) (n : Nat) : QUpto n P 201 .fact ∧ QUpto n P 160 .not ∧ QUpto n P 103 .or:=by
 induction n using Nat.strongRecOn with
 | _ n ih =>
  have F : QUpto n P 201 .fact:=fun M r w hr h => qfactor_step P M r w h (fun M' r' w' hl h' => (ih r'.ps.rest.length (by omega)).1 M' r' w' (Nat.le_refl _) h') fun M' r' w' hl h' => (ih r'.ps.rest.length (by omega)).2.2 M' r' w' (Nat.le_refl _) h'
  have X : QUpto n P 192 .prod:=fun M r w hr h => qproduct_step P M r w h n hr F
  have S : QUpto n P 182 .sum:=fun M r w hr h => qsum_step P M r w h n hr X
  have T : QUpto n P 173 .test:=fun M r w hr h => qtest_step P M r w h n hr S
  have N : QUpto n P 160 .not:=fun M r w hr h => qnot_step P M r w h n hr T fun M' r' w' hl h' => (ih r'.ps.rest.length (by omega)).2.1 M' r' w' (Nat.le_refl _) h'
  have A : QUpto n P 141 .and:=fun M r w hr h => qand_step P M r w h n hr N
  exact ⟨F,N,fun M r w hr h => qexpr_step P M r w h n hr A⟩

theorem qexpr_x (P M : Nat) (r : RS) (w : World) (h : RA w P M r) : Calls Tryz.prog 103 #[.pointer (some ⟨P,0,none⟩)] w (QX exprR P M r w):=(qexprs_all P r.ps.rest.length).2.2 M r w (Nat.le_refl _) h
end Go.Proofs.YtffalonhkemieaaGreatDoor
