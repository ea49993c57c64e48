/- N31 N32 -/
import Derived.Test.YteolnlcmnaknnaaGreatDoorTN30u
import Derived.Test.YteolnlcmnaknnaaGreatDoorTA111p
import Derived.Test.YteolnlcmnaknnaaGreatDoorTN17
import Derived.Test.YteolnlcmnaknnaaGreatDoorTF70
set_option maxHeartbeats 8000000
set_option maxRecDepth 100000
namespace Go.Proofs.YteolnlcmnaknnaaGreatDoor
open Go.RowKit
theorem wh_len {l : List Ex} (h : Wi 0 1 RtE l) (hd : ∀ e ∈ l,dpr 16 e = false) : (xWh l).length ≤ 400000000000000000:=by
 match l,h,hd with
 | [],_,_ => exact Nat.zero_le _
 | e :: l,h,hd =>
  have:=xE_len (n:=16) (by decide) (hd e (by simp)) (wi_all h e (by simp)) 1
  simp [xWh,wWHERE]
  omega

theorem num_len {n : Int} (h : RtN n) : (lit (1,n,⟨#[]⟩)).length ≤ 20:=by
 obtain ⟨s,e,hz,-⟩:=rdigits_eq h
 rw [← e]
 simpa using hz

theorem so_len {l : List So} (h : Wi 0 8 RtSo l) : (xOr l).length ≤ 1000:=by
 have h1:=laid_lenA (ah:=[32,79,82,68,69,82,32,66,89,32]) (se:=[44,32]) (f:=xSo) (L:=30) l fun x hx => by
  have:=num_len (wi_all h x hx)
  unfold xSo
  split <;> simp [wDESC] <;> omega
 rw [or_laid] at h1
 have h2 : l.length * (30 + [44,32].length) ≤ 8 * 32:=Nat.mul_le_mul_right 32 h.2.1
 have h3 : ([32,79,82,68,69,82,32,66,89,32] : List UInt8).length = 10:=rfl
 omega

theorem li_len {l : List Int} (h : Wi 0 1 RtN l) : (xLi l).length ≤ 100:=by
 match l,h with
 | [],_ => exact Nat.zero_le _
 | n :: l,h =>
  have:=num_len (wi_all h n (by simp))
  simp [xLi,wLIMIT]
  omega

theorem wi_nil {α : Type} {hi : Nat} {Q : α → Prop} : Wi 0 hi Q ([] : List α):=⟨Nat.zero_le _,Nat.zero_le _,fun _ h => absurd h (Nat.not_lt_zero _)⟩

theorem rstatement_all (t : St) (hr : RtSt t) (a0 a1 a2 a3 a4 a5 a6 : Option Addr) (c0 c1 c2 c3 c4 c5 c6 : Nat) (w : World) (h : StRA w t (.slice a0 t.on.length c0) (.slice a1 t.whr.length c1) (.slice a2 t.items.length c2) (.slice a3 t.sets.length c3) (.slice a4 t.groups.length c4) (.slice a5 t.sorts.length c5) (.slice a6 t.limit.length c6)) : Calls Tryz.prog 17 #[.agg #[.int .i64 t.kind,.string t.table,.string t.join,.slice a0 t.on.length c0,.slice a1 t.whr.length c1,.slice a2 t.items.length c2,.bool t.star,.slice a3 t.sets.length c3,.slice a4 t.groups.length c4,.slice a5 t.sorts.length c5,.slice a6 t.limit.length c6,.int .i64 t.place,.int .i64 t.joinAt]] w (RP (xS t) w):=by
 obtain ⟨hdp,hnm,hk⟩:=hr
 have hd:=hdp
 unfold deepS at hd
 simp only [Bool.or_eq_false_iff] at hd
 obtain ⟨⟨⟨⟨d0,d1⟩,d2⟩,d4⟩,d3⟩:=hd
 have d3' : ∀ x ∈ t.sets,dpr 16 x.2.1 = false:=fun x hx => by
  rw [List.any_eq_false] at d3
  simpa using d3 x hx
 have d0' : ∀ e ∈ t.on,dpr 16 e = false:=fun e he => any_false d0 he
 have d1' : ∀ e ∈ t.whr,dpr 16 e = false:=fun e he => any_false d1 he
 have d2' : ∀ e ∈ t.items,dpr 16 e = false:=fun e he => any_false d2 he
 have d4' : ∀ e ∈ t.groups,dpr 16 e = false:=fun e he => any_false d4 he
 obtain ⟨⟨r0,r1,r2,r3,r4⟩,r5,r6⟩:=h
 have htb:=name16 hnm
 clear d0 d1 d2 d4 d3 hdp hnm
 obtain ⟨K,tb,jn,lo,lw,li,st,ls,lg,lq,ll,pl,ja⟩:=t
 simp only at *
 rcases hk with ⟨rfl,hs,hi⟩ | ⟨rfl,hs,hi,hw⟩ | ⟨rfl,hs,hw⟩ | ⟨rfl,hs⟩
 ·obtain ⟨-,-,-,-,-,s1,-⟩:=hs
  have e1 : lw = []:=sm_nil s1
  have hne : li ≠ []:=fun e => by have:=hi.1; rw [e] at this; simp at this
  have hdi : ∀ e ∈ li,dpr 16 e = false ∧ RtI e:=fun e he => ⟨d2' e he,(wi_all hi e he).2⟩
  have hW : Wi 0 1 RtE lw:=e1 ▸ wi_nil
  refine of_rp (rstmt_1 w tb jn lo lw li st ls lg lq ll pl ja a0 a1 a2 a3 a4 a5 a6 c0 c1 c2 c3 c4 c5 c6 htb (xWh lw) (wh_len hW d1') (fun W hb => rwhere_any W 1 tb jn lo lw li st ls lg lq ll pl ja a0 a1 a2 a3 a4 a5 a6 c0 c1 c2 c3 c4 c5 c6 (r1.later hb) hW d1') _ (Nat.le_trans (items_len hi.2.1 hdi) (by decide)) (fun W hb => rlist_any (r2.later hb) hi.2.1 hdi)) ?_
  rw [laid_sep _ _ hne,xsep_congr fun x hx => xIt_E (wi_all hi x hx).1]
  simp [xS,wINSERT,wINTO,wVALUES]
 ·have hne : ls ≠ []:=fun e => by have:=hi.1; rw [e] at this; simp at this
  obtain ⟨p,c',ks,e,-,-,hlk,hrow,hx⟩:=r3
  injection e with e1 _ e2
  subst e1 e2
  refine of_rp (rstmt_2 w tb jn lo lw li st ls lg lq ll pl ja a0 a1 a2 a3 a4 a5 a6 c0 c1 c2 c3 c4 c5 c6 htb (xWh lw) (wh_len hw d1') (fun W hb => rwhere_any W 2 tb jn lo lw li st ls lg lq ll pl ja a0 a1 a2 a3 a4 a5 a6 c0 c1 c2 c3 c4 c5 c6 (r1.later hb) hw d1') ks hlk hrow (fun i h' => (hx i (by omega) h').slice) hi.2.1 (fun x hx => ⟨name16 (wi_all hi x hx).1,xE_len (n:=16) (by decide) (d3' x hx) (wi_all hi x hx).2 1⟩) fun k hk hk' W hb => ?_) ?_
  ·rw [xE_one]
   exact rc_all 16 (by decide) _ (d3' _ (List.getElem_mem hk)) (wi_all hi _ (List.getElem_mem hk)).2 W _ ((hx k hk hk').later hb)
  ·rw [laid_sep _ _ hne]
   simp [xS,wUPDATE,wSET]
 ·refine of_rp (rstmt_3 w tb jn lo lw li st ls lg lq ll pl ja a0 a1 a2 a3 a4 a5 a6 c0 c1 c2 c3 c4 c5 c6 htb (xWh lw) (wh_len hw d1') (fun W hb => rwhere_any W 3 tb jn lo lw li st ls lg lq ll pl ja a0 a1 a2 a3 a4 a5 a6 c0 c1 c2 c3 c4 c5 c6 (r1.later hb) hw d1')) ?_
  simp [xS,wDELETE,wFROM]
 ·obtain ⟨-,hst,hi,hj,hjo,ho,hw,hg,hq,hl⟩:=hs
  simp only at hst hi hj hjo ho hw hg hq hl
  have hdi : ∀ e ∈ li,dpr 16 e = false ∧ RtI e:=fun e he => ⟨d2' e he,wi_all hi e he⟩
  have hdg : ∀ e ∈ lg,dpr 16 e = false ∧ RtI e:=fun e he => ⟨d4' e he,(wi_all hg e he).2.2⟩
  have hgo : ∀ e ∈ lg,¬ isOver e:=fun e he => (wi_all hg e he).2.1
  have hiL : (laid [] [44,32] xIt li).length ≤ 2000000000000000000:=Nat.le_trans (items_len hi.2.1 hdi) (by decide)
  have hgL : (laid [] [44,32] xIt lg).length ≤ 2000000000000000000:=Nat.le_trans (items_len hg.2.1 hdg) (by decide)
  have hi16 : li.length ≤ 16:=by have:=hi.2.1; omega
  have hg16 : lg.length ≤ 16:=by have:=hg.2.1; omega
  have hxr : (xOr lq ++ xLi ll).length ≤ 100000:=by
   have h1:=so_len hq
   have h2:=li_len hl
   rw [List.length_append]
   omega
  have hwx:=wh_len hw d1'
  have hjn : jn.size ≤ 16:=by
   rcases hj with e | e
   ·rw [e]; decide
   ·exact name16 e
  have HO : ∃ xo : List UInt8,xo.length ≤ 400000000000000000 ∧ xJo ⟨4,tb,jn,lo,lw,li,st,ls,lg,lq,ll,pl,ja⟩ = (if jn = ⟨#[]⟩ then [] else ([32,74,79,73,78,32] : List UInt8) ++ jn.data.toList ++ ([32,79,78,32] : List UInt8) ++ xo) ∧ (¬ jn = ⟨#[]⟩ → lo.length = 1 ∧ ∃ b off,a0 = some ⟨b,off,none⟩ ∧ ∃ k1 o1 x1 x2 x3 t1 n1 b1 m1 d1 p1,(∀ j u,[.int .i64 k1,.int .i64 o1,.int .i64 x1,.int .i64 x2,.string x3,.string t1,.string n1,.slice b1 m1 d1,.int .i64 p1][j]? = some u → w.cell? ⟨b,off + j,none⟩ = some u) ∧ ∀ W,Below w.heap.size w W → Calls Tryz.prog 50 #[.agg #[.int .i64 k1,.int .i64 o1,.int .i64 x1,.int .i64 x2,.string x3,.string t1,.string n1,.slice b1 m1 d1,.int .i64 p1]] W (RP xo W)):=by
   by_cases qj : jn = ⟨#[]⟩
   ·have hlo : lo = []:=by
     rw [decide_eq_true qj] at hjo
     exact List.length_eq_zero_iff.1 (of_decide_eq_true hjo.symm)
    refine ⟨[],Nat.zero_le _,?_,fun h => absurd qj h⟩
    rw [if_pos qj]
    unfold xJo
    simp only [hlo]
   ·have hlo : lo ≠ []:=fun e => by
     rw [e,decide_eq_false qj] at hjo
     cases hjo
    obtain ⟨e,b,off,rfl,ea,hxo,-,k1,o1,x1,x2,x3,t1,n1,b1,m1,d1,p1,hc,hu⟩:=rone_use r0 ho d0' hlo
    refine ⟨xE 1 e,by omega,?_,fun _ => ⟨rfl,b,off,ea,k1,o1,x1,x2,x3,t1,n1,b1,m1,d1,p1,hc,hu⟩⟩
    rw [if_neg qj]
    unfold xJo
    simp [wJOIN,wON]
  obtain ⟨xo,hxo,hJo,hu⟩:=HO
  have hGr : (if lg = [] then [] else ([32,71,82,79,85,80,32,66,89,32] : List UInt8) ++ laid [] [44,32] xIt lg) = xGr lg:=by
   by_cases q : lg = []
   ·rw [if_pos q,q]
    rfl
   ·rw [if_neg q,← gr_laid hgo,laid_sep _ _ q,laid_sep _ _ q]
    simp
  have hIt : (if st = true then ([83,69,76,69,67,84,32,42] : List UInt8) else ([83,69,76,69,67,84,32] : List UInt8) ++ laid [] [44,32] xIt li) = wSELECT ++ 32 :: (if st then [42] else xsep xIt li):=by
   cases st with
   | true => rfl
   | false =>
    have hne : li ≠ []:=fun e => by rw [e] at hst; cases hst
    rw [laid_sep _ _ hne]
    rfl
  refine of_rp (rstmt_4 w tb jn lo lw li st ls lg lq ll pl ja a0 a1 a2 a3 a4 a5 a6 c0 c1 c2 c3 c4 c5 c6 htb (xWh lw) hwx (fun W hb => rwhere_any W 4 tb jn lo lw li st ls lg lq ll pl ja a0 a1 a2 a3 a4 a5 a6 c0 c1 c2 c3 c4 c5 c6 (r1.later hb) hw d1') _ hxr (fun W hb => rsorts_any W 4 tb jn lo lw li st ls lg lq ll pl ja a0 a1 a2 a3 a4 a5 a6 c0 c1 c2 c3 c4 c5 c6 (r5.later hb) (r6.later hb) hq hl) _ hiL (fun _ W hb => rlist_any (r2.later hb) hi16 hdi) hjn xo hxo hu _ hgL (fun _ W hb => rlist_any (r4.later hb) hg16 hdg)) ?_
  rw [hIt,hGr,← hJo]
  simp [xS,wFROM]

theorem rprint_st (t : St) (a0 a1 a2 a3 a4 a5 a6 : Option Addr) (c0 c1 c2 c3 c4 c5 c6 : Nat) (w : World) (h : StRA w t (.slice a0 t.on.length c0) (.slice a1 t.whr.length c1) (.slice a2 t.items.length c2) (.slice a3 t.sets.length c3) (.slice a4 t.groups.length c4) (.slice a5 t.sorts.length c5) (.slice a6 t.limit.length c6)) : Calls Tryz.prog 9 #[.agg #[.int .i64 t.kind,.string t.table,.string t.join,.slice a0 t.on.length c0,.slice a1 t.whr.length c1,.slice a2 t.items.length c2,.bool t.star,.slice a3 t.sets.length c3,.slice a4 t.groups.length c4,.slice a5 t.sorts.length c5,.slice a6 t.limit.length c6,.int .i64 t.place,.int .i64 t.joinAt]] w (PrP t w):=by
 have HR:=Lib.hid (fun W hb => dRight_any t a0 a1 a2 a3 a4 a5 a6 c0 c1 c2 c3 c4 c5 c6 W (h.later hb))
 have HS:=Lib.hid (fun (W : World) (hb : Below w.heap.size w W) hr => rstatement_all t hr a0 a1 a2 a3 a4 a5 a6 c0 c1 c2 c3 c4 c5 c6 W (h.later hb))
 obtain ⟨X,hX⟩ : ∃ X,xS t = X:=⟨_,rfl⟩
 have hdoc:=rt_doc (t:=t)
 unfold PrP
 rw [hX] at HS ⊢
 obtain ⟨R,hR⟩ : ∃ R,RtSt t = R:=⟨_,rfl⟩
 obtain ⟨Q,hQ⟩ : ∃ Q,DSt t = Q:=⟨_,rfl⟩
 rw [hR] at HS hdoc ⊢
 rw [hQ] at HR hdoc
 have HDOC:=Lib.hid hdoc
 clear hX hR hQ h hdoc
 obtain ⟨kd,tb,jn,lo,lw,li,st,ls,lg,lq,ll,pl,ja⟩:=t
 simp only at HR HS
 obtain ⟨W1,hW1⟩ : ∃ W,w.alloc (.cells #[.int .i64 kd,.string tb,.string jn,.slice a0 lo.length c0,.slice a1 lw.length c1,.slice a2 li.length c2,.bool st,.slice a3 ls.length c3,.slice a4 lg.length c4,.slice a5 lq.length c5,.slice a6 ll.length c6,.int .i64 pl,.int .i64 ja] 27) = W:=⟨_,rfl⟩
 have HB1 : Hid (Below w.heap.size w W1):=Lib.hid (hW1 ▸ (Below.refl _ _).alloc (Nat.le_refl _) _)
 have HN1 : Hid (W1.heap[w.heap.size]? = some (.cells #[.int .i64 kd,.string tb,.string jn,.slice a0 lo.length c0,.slice a1 lw.length c1,.slice a2 li.length c2,.bool st,.slice a3 ls.length c3,.slice a4 lg.length c4,.slice a5 lq.length c5,.slice a6 ll.length c6,.int .i64 pl,.int .i64 ja] 27 (0,0))):=Lib.hid (hW1 ▸ heap_alloc_new w _)
 have z1:=thirt_of HN1.out
 go_enter Tryz.func9,Tryz.ntmps9
 go_wp2_with fail
 clear hW1
 refine (HR.out _ HB1.out).mono ?_
 rintro e w2 ⟨⟨ok,rfl,hq⟩,hb2⟩
 have HB2:=Hbt HB1 hb2
 have HN2:=Hbk hb2 HN1
 have HQ:=Lib.hid hq
 clear z1 hb2 hq HB1 HN1
 cases ok with
 | false =>
  have HNR : Hid (¬ R):=fun r => by have:=HQ.out.2 (HDOC.out.1 r); cases this
  go_wp2
  exact bodyPost_ret (v:=.tuple #[.string ⟨#[]⟩,.int .i64 120]) (by simp [results,Tryz.results9,go_sem]) rfl ⟨HB2.out,Or.inl ⟨HNR.out,rfl⟩⟩
 | true =>
  have HYR : Hid R:=HDOC.out.2 (HQ.out.1 rfl)
  have z1:=thirt_of HN2.out
  go_wp2_with fail
  refine (HS.out w2 HB2.out HYR.out).mono ?_
  rintro e w3 ⟨s,rfl,hs,hb⟩
  have HB3:=Hbt HB2 hb
  have e1 : s.data.toList.length = s.size:=by simp
  have hxs : X.length = s.size:=by rw [← hs,e1]
  have HSX : Hid (s = ⟨X.toArray⟩):=by
   show _ = _
   rw [← hs]
  clear hb hs e1 z1
  by_cases q : 1000 < s.size
  ·have hq1 : (1000 : Int) < (s.size : Int):=by omega
   have HQ2 : Hid (1000 < X.length):=by show _ < _; omega
   clear q hxs
   go_wp2
   exact bodyPost_ret (v:=.tuple #[.string ⟨#[]⟩,.int .i64 2]) (by simp [results,Tryz.results9,go_sem]) rfl ⟨HB3.out,Or.inr (Or.inl ⟨HYR.out,HQ2.out,rfl⟩)⟩
  ·have hq1 : ¬ (1000 : Int) < (s.size : Int):=by omega
   have HQ2 : Hid (X.length ≤ 1000):=by show _ ≤ _; omega
   clear q hxs
   go_wp2
   exact bodyPost_ret (v:=.tuple #[.string s,.int .i64 0]) (by simp [results,Tryz.results9,go_sem]) rfl ⟨HB3.out,Or.inr (Or.inr ⟨HYR.out,HQ2.out,by rw [HSX.out]⟩)⟩

def PO (t : St) (s : ByteArray) (c : Int) : Prop:=(¬ RtSt t ∧ s = ⟨#[]⟩ ∧ c = 120) ∨ (RtSt t ∧ 1000 < (xS t).length ∧ s = ⟨#[]⟩ ∧ c = 2) ∨ (RtSt t ∧ (xS t).length ≤ 1000 ∧ s = ⟨(xS t).toArray⟩ ∧ c = 0)

theorem PrP.po {t : St} {w w' : World} {e : Ending} (h : PrP t w e w') : ∃ s c,e = .returned (.tuple #[.string s,.int .i64 c]) ∧ PO t s c ∧ Below w.heap.size w w':=by
 obtain ⟨hb,h⟩:=h
 rcases h with ⟨h1,h2⟩ | ⟨h1,h2,h3⟩ | ⟨h1,h2,h3⟩
 ·exact ⟨_,_,h2,Or.inl ⟨h1,rfl,rfl⟩,hb⟩
 ·exact ⟨_,_,h3,Or.inr (Or.inl ⟨h1,h2,rfl,rfl⟩),hb⟩
 ·exact ⟨_,_,h3,Or.inr (Or.inr ⟨h1,h2,rfl,rfl⟩),hb⟩

theorem PO.one {t : St} {s s' : ByteArray} {c c' : Int} (h : PO t s c) (g : PO t s' c') : s' = s ∧ c' = c:=by
 rcases h with ⟨h1,h2,h3⟩ | ⟨h1,h2,h3,h4⟩ | ⟨h1,h2,h3,h4⟩ <;> rcases g with ⟨g1,g2,g3⟩ | ⟨g1,g2,g3,g4⟩ | ⟨g1,g2,g3,g4⟩
 ·exact ⟨g2.trans h2.symm,g3.trans h3.symm⟩
 ·exact absurd g1 h1
 ·exact absurd g1 h1
 ·exact absurd h1 g1
 ·exact ⟨g3.trans h3.symm,g4.trans h4.symm⟩
 ·omega
 ·exact absurd h1 g1
 ·omega
 ·exact ⟨g3.trans h3.symm,g4.trans h4.symm⟩

theorem prettyPrints_law (x : St) (v : Value) (y : St) (u : Value) (w : World) (h1 : StIn w x v) (h2 : StIn w y u) (hv : SV w) : Calls Tryz.prog 3 #[v,u] w fun e w' => e = .returned (.bool true) ∧ Below w.heap.size w w':=by
 obtain ⟨a0,a1,a2,a3,a4,a5,a6,c0,c1,c2,c3,c4,c5,c6,rfl,h1⟩:=h1
 obtain ⟨b0,b1,b2,b3,b4,b5,b6,d0,d1,d2,d3,d4,d5,d6,rfl,h2⟩:=h2
 have HV:=Lib.hid hv
 have HX:=Lib.hid h1
 have HY:=Lib.hid h2
 clear hv h1 h2
 obtain ⟨W,hW⟩ : ∃ W,(w.alloc (.cells #[.int .i64 x.kind,.string x.table,.string x.join,.slice a0 x.on.length c0,.slice a1 x.whr.length c1,.slice a2 x.items.length c2,.bool x.star,.slice a3 x.sets.length c3,.slice a4 x.groups.length c4,.slice a5 x.sorts.length c5,.slice a6 x.limit.length c6,.int .i64 x.place,.int .i64 x.joinAt] 27)).alloc (.cells #[.int .i64 y.kind,.string y.table,.string y.join,.slice b0 y.on.length d0,.slice b1 y.whr.length d1,.slice b2 y.items.length d2,.bool y.star,.slice b3 y.sets.length d3,.slice b4 y.groups.length d4,.slice b5 y.sorts.length d5,.slice b6 y.limit.length d6,.int .i64 y.place,.int .i64 y.joinAt] 27) = W:=⟨_,rfl⟩
 obtain ⟨ra,rb,kb⟩:=hW ▸ two_new (w:=w) (o:=.cells #[.int .i64 x.kind,.string x.table,.string x.join,.slice a0 x.on.length c0,.slice a1 x.whr.length c1,.slice a2 x.items.length c2,.bool x.star,.slice a3 x.sets.length c3,.slice a4 x.groups.length c4,.slice a5 x.sorts.length c5,.slice a6 x.limit.length c6,.int .i64 x.place,.int .i64 x.joinAt] 27) (p:=.cells #[.int .i64 y.kind,.string y.table,.string y.join,.slice b0 y.on.length d0,.slice b1 y.whr.length d1,.slice b2 y.items.length d2,.bool y.star,.slice b3 y.sets.length d3,.slice b4 y.groups.length d4,.slice b5 y.sorts.length d5,.slice b6 y.limit.length d6,.int .i64 y.place,.int .i64 y.joinAt] 27)
 have HB0:=Lib.hid kb
 have RA0:=Lib.hid ra
 have RB0:=Lib.hid rb
 clear ra rb kb
 go_enter Tryz.func3,Tryz.ntmps3
 go_wp2_with fail
 clear hW
 refine (awake12_any _ (HV.out.later HB0.out)).mono ?_
 rintro e w1 ⟨rfl,hb⟩
 have HB1:=Hbt HB0 hb
 have RA1:=Hbk hb RA0
 have RB1:=Hbk hb RB0
 clear hb RA0 RB0 HB0
 have z1:=thirt_of RA1.out
 go_wp2_with fail
 refine (print_st x a0 a1 a2 a3 a4 a5 a6 c0 c1 c2 c3 c4 c5 c6 _ (HV.out.later HB1.out) (HX.out.later HB1.out)).mono ?_
 intro e w2 hp
 obtain ⟨s0,k0,rfl,hpo,hb⟩:=hp.po
 clear hp
 have HP0:=Lib.hid hpo
 have HB2:=Hbt HB1 hb
 have RA2:=Hbk hb RA1
 have RB2:=Hbk hb RB1
 clear hb hpo z1 RA1 RB1 HB1
 have z1:=thirt_of RB2.out
 go_wp2_with fail
 refine (print_st y b0 b1 b2 b3 b4 b5 b6 d0 d1 d2 d3 d4 d5 d6 _ (HV.out.later HB2.out) (HY.out.later HB2.out)).mono ?_
 intro e w3 hp
 obtain ⟨s1,k1,rfl,hpo,hb⟩:=hp.po
 clear hp
 have HP1:=Lib.hid hpo
 have HB3:=Hbt HB2 hb
 have RA3:=Hbk hb RA2
 have RB3:=Hbk hb RB2
 clear hb hpo z1 RA2 RB2 HB2
 have z1:=thirt_of RA3.out
 go_wp2_with fail
 refine (print_st x a0 a1 a2 a3 a4 a5 a6 c0 c1 c2 c3 c4 c5 c6 _ (HV.out.later HB3.out) (HX.out.later HB3.out)).mono ?_
 intro e w4 hp
 obtain ⟨s2,k2,rfl,hpo,hb⟩:=hp.po
 clear hp
 obtain ⟨es,ek⟩:=HP0.out.one hpo
 subst es ek
 have HB4:=Hbt HB3 hb
 have RA4:=Hbk hb RA3
 have RB4:=Hbk hb RB3
 clear hb hpo z1 RA3 RB3 HB3
 have z1:=thirt_of RA4.out
 go_wp2_with fail
 refine (rprint_st x a0 a1 a2 a3 a4 a5 a6 c0 c1 c2 c3 c4 c5 c6 _ (HX.out.later HB4.out)).mono ?_
 intro e w5 hp
 obtain ⟨s3,k3,rfl,hpo,hb⟩:=hp.po
 clear hp
 obtain ⟨es,ek⟩:=HP0.out.one hpo
 subst es ek
 have HB5:=Hbt HB4 hb
 have RA5:=Hbk hb RA4
 have RB5:=Hbk hb RB4
 clear hb hpo z1 RA4 RB4 HB4
 have z1:=thirt_of RB5.out
 go_wp2_with fail
 refine (rprint_st y b0 b1 b2 b3 b4 b5 b6 d0 d1 d2 d3 d4 d5 d6 _ (HY.out.later HB5.out)).mono ?_
 intro e w6 hp
 obtain ⟨s4,k4,rfl,hpo,hb⟩:=hp.po
 clear hp
 obtain ⟨es,ek⟩:=HP1.out.one hpo
 subst es ek
 have HB6:=Hbt HB5 hb
 have RA6:=Hbk hb RA5
 have RB6:=Hbk hb RB5
 clear hb hpo z1 RA5 RB5 HB5
 go_wp2
 exact bodyPost_ret (v:=.bool true) (by simp [results,Tryz.results3,go_sem]) rfl ⟨rfl,HB6.out⟩
end Go.Proofs.YteolnlcmnaknnaaGreatDoor
