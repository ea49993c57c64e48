/- N15 N16 -/
import Derived.Test.YtbfjmccpcbhljaaGreatDoorTN13
import Derived.Test.YtbfjmccpcbhljaaGreatDoorTA102
set_option maxHeartbeats 4000000
set_option maxRecDepth 100000
namespace Go.Proofs.YtbfjmccpcbhljaaGreatDoor
open Go.RowKit
theorem xsep_flat {α : Type} (f : α → List UInt8) : ∀ (l : List α) (a : α),xsep f (a :: l) = f a ++ (l.map fun x => ([44,32] : List UInt8) ++ f x).flatten
 | [],a => by simp [xsep]
 | b :: l,a => by
  have:=xsep_flat f l b
  rw [xsep,this]
  simp

theorem laid_sep {α : Type} (ah : List UInt8) (f : α → List UInt8) {l : List α} (h : l ≠ []) : laid ah [44,32] f l = ah ++ xsep f l:=by
 match l,h with
 | a :: l,_ => rw [laid_cons,xsep_flat,List.append_assoc]

theorem xsep_congr {α : Type} {f g : α → List UInt8} : ∀ {l : List α},(∀ x ∈ l,f x = g x) → xsep f l = xsep g l
 | [],_ => rfl
 | a :: l,h => by
  rw [xsep_flat,xsep_flat,h a (by simp),List.map_congr_left fun x hx => by rw [h x (by simp [hx])]]

theorem xIt_E {e : Ex} (h : ¬ isOver e) : xIt e = xE 1 e:=by rw [xIt_xI,xI_B h,xE_one]

theorem wh_laid {l : List Ex} (h : Wi 0 1 RtE l) : laid [32,87,72,69,82,69,32] [] xIt l = xWh l:=by
 obtain ⟨-,h1,h2⟩:=h
 match l,h1,h2 with
 | [],_,_ => rfl
 | [e],_,h2 =>
  have : RtE e:=h2 0 (by simp)
  rw [laid_cons,xIt_E this.1]
  simp [xWh,wWHERE]

theorem jo_laid {t : St} (h : Wi 0 1 RtE t.on) : laid ([32,74,79,73,78,32] ++ t.join.data.toList ++ [32,79,78,32]) [] xIt t.on = xJo t:=by
 obtain ⟨-,h1,h2⟩:=h
 unfold xJo
 revert h1 h2
 match t.on with
 | [] => intro _ _; rfl
 | [e] =>
  intro _ h2
  have : RtE e:=h2 0 (by simp)
  rw [laid_cons,xIt_E this.1]
  simp [wJOIN,wON]
 | a :: b :: l => intro h1 _; simp at h1

theorem gr_laid {l : List Ex} (h : ∀ e ∈ l,¬ isOver e) : laid [32,71,82,79,85,80,32,66,89,32] [44,32] xIt l = xGr l:=by
 unfold xGr
 by_cases q : l = []
 ·rw [if_pos q,q]
  rfl
 ·rw [if_neg q,laid_sep _ _ q,xsep_congr fun x hx => xIt_E (h x hx)]
  simp [wGROUP,wBY]

theorem or_laid (l : List So) : laid [32,79,82,68,69,82,32,66,89,32] [44,32] xSo l = xOr l:=by
 unfold xOr
 by_cases q : l = []
 ·rw [if_pos q,q]
  rfl
 ·rw [if_neg q,laid_sep _ _ q]
  simp [wORDER,wBY]

theorem li_laid {l : List Int} (h : l.length ≤ 1) : laid [32,76,73,77,73,84,32] [] (fun n => lit (1,n,⟨#[]⟩)) l = xLi l:=by
 match l,h with
 | [],_ => rfl
 | [e],_ =>
  rw [laid_cons]
  simp [xLi,wLIMIT]

theorem sm_nil {a : List Ex} (h : SmXs a []) : a = []:=List.length_eq_zero_iff.1 h.1

theorem any_false {l : List Ex} (h : deepL l = false) {e : Ex} (he : e ∈ l) : dpr 16 e = false:=by
 unfold deepL at h
 rw [List.any_eq_false] at h
 simpa using h e he

theorem wi_all {lo hi : Nat} {α : Type} {Q : α → Prop} {l : List α} (h : Wi lo hi Q l) : ∀ x ∈ l,Q x:=fun x hx => by
 obtain ⟨i,hi,rfl⟩:=List.getElem_of_mem hx
 exact h.2.2 i hi

theorem stmt_all {w0 : World} (hv : SV w0) (t : St) (hr : RtSt t) (a0 a1 a2 a3 a4 a5 a6 : Option Addr) (c0 c1 c2 c3 c4 c5 c6 : Nat) (h : StRA w0 t (.slice a0 t.on.length c0) (.slice a1 t.whr.length c1) (.slice a2 t.items.length c2) (.slice a3 t.sets.length c3) (.slice a4 t.groups.length c4) (.slice a5 t.sorts.length c5) (.slice a6 t.limit.length c6)) (P M : Nat) (bs : List UInt8) (w : World) (hla : LA w0 w P M bs) (hbs : bs.length ≤ 1000) : Calls Tryz.prog 14 #[.pointer (some ⟨P,0,none⟩),.agg #[.int .i64 t.kind,.string t.table,.string t.join,.slice a0 t.on.length c0,.slice a1 t.whr.length c1,.slice a2 t.items.length c2,.bool t.star,.slice a3 t.sets.length c3,.slice a4 t.groups.length c4,.slice a5 t.sorts.length c5,.slice a6 t.limit.length c6,.int .i64 t.place,.int .i64 t.joinAt]] w (LP w0 (Ly 500000 (xS t) bs) P M w):=by
 obtain ⟨hdp,hnm,hk⟩:=hr
 have hd:=hdp
 unfold deepS at hd
 simp only [Bool.or_eq_false_iff] at hd
 obtain ⟨⟨⟨⟨d0,d1⟩,d2⟩,d4⟩,d3⟩:=hd
 have d3' : ∀ x ∈ t.sets,dpr 16 x.2.1 = false:=fun x hx => by
  rw [List.any_eq_false] at d3
  simpa using d3 x hx
 obtain ⟨⟨r0,r1,r2,r3,r4⟩,r5,r6⟩:=h
 have L1 : t.whr.length ≤ 16 → (∀ e ∈ t.whr,RtI e) → LsP w0 35 36 (.slice a1 t.whr.length c1) P 21040 (fun ah se => laid ah se xIt t.whr) 10000000:=fun hl hi M1 b1 w1 h1 h2 ah se h3 h4 => lsE hv r1 hl (fun e he => ⟨any_false d1 he,hi e he⟩) P M1 b1 w1 h1 h2 ah se h3 h4
 have L0 : t.on.length ≤ 16 → (∀ e ∈ t.on,RtI e) → LsP w0 35 36 (.slice a0 t.on.length c0) P 21040 (fun ah se => laid ah se xIt t.on) 10000000:=fun hl hi M1 b1 w1 h1 h2 ah se h3 h4 => lsE hv r0 hl (fun e he => ⟨any_false d0 he,hi e he⟩) P M1 b1 w1 h1 h2 ah se h3 h4
 have L2 : t.items.length ≤ 16 → (∀ e ∈ t.items,RtI e) → LsP w0 35 36 (.slice a2 t.items.length c2) P 21040 (fun ah se => laid ah se xIt t.items) 10000000:=fun hl hi M1 b1 w1 h1 h2 ah se h3 h4 => lsE hv r2 hl (fun e he => ⟨any_false d2 he,hi e he⟩) P M1 b1 w1 h1 h2 ah se h3 h4
 have L4 : t.groups.length ≤ 16 → (∀ e ∈ t.groups,RtI e) → LsP w0 35 36 (.slice a4 t.groups.length c4) P 21040 (fun ah se => laid ah se xIt t.groups) 10000000:=fun hl hi M1 b1 w1 h1 h2 ah se h3 h4 => lsE hv r4 hl (fun e he => ⟨any_false d4 he,hi e he⟩) P M1 b1 w1 h1 h2 ah se h3 h4
 have L3 : t.sets.length ≤ 16 → (∀ x ∈ t.sets,RtSe x) → LsP w0 37 38 (.slice a3 t.sets.length c3) P 340000 (fun ah se => laid ah se xSe t.sets) 100000:=fun hl hi M1 b1 w1 h1 h2 ah se h3 h4 => lsSe hv r3 hl (fun e he => ⟨d3' e he,hi e he⟩) P M1 b1 w1 h1 h2 ah se h3 h4
 have L5 : t.sorts.length ≤ 16 → (∀ x ∈ t.sorts,RtSo x) → LsP w0 40 41 (.slice a5 t.sorts.length c5) P 2000 (fun ah se => laid ah se xSo t.sorts) 10000000:=fun hl hi M1 b1 w1 h1 h2 ah se h3 h4 => lsSo hv r5 hl hi P M1 b1 w1 h1 h2 ah se h3 h4
 have L6 : t.limit.length ≤ 16 → (∀ x ∈ t.limit,RtN x) → LsP w0 42 43 (.slice a6 t.limit.length c6) P 2000 (fun ah se => laid ah se (fun n => lit (1,n,⟨#[]⟩)) t.limit) 10000000:=fun hl hi M1 b1 w1 h1 h2 ah se h3 h4 => lsI hv r6 hl hi P M1 b1 w1 h1 h2 ah se h3 h4
 have htb:=name16 hnm
 clear r0 r1 r2 r3 r4 r5 r6 d0 d1 d2 d3 d4 d3' hdp hnm
 obtain ⟨K,tb,jn,lo,lw,li,st,ls,lg,lq,ll,pl,ja⟩:=t
 simp only at *
 rcases hk with ⟨rfl,hs,hi⟩ | ⟨rfl,hs,hi,hw⟩ | ⟨rfl,hs,hw⟩ | ⟨rfl,hs⟩
 ·obtain ⟨-,-,-,-,-,s1,-,s4,-,s5,s6⟩:=hs
  have e1 : lw = []:=sm_nil s1
  have e4 : lg = []:=sm_nil s4
  have e5 : lq = []:=List.length_eq_zero_iff.1 s5.1
  have e6 : ll = []:=s6
  subst e1 e4 e5 e6
  have hne : li ≠ []:=fun e => by have:=hi.1; rw [e] at this; simp at this
  refine (stmt_1 w0 P M bs w hla hbs tb jn lo [] li st ls [] [] [] pl ja a0 a1 a2 a3 a4 a5 a6 c0 c1 c2 c3 c4 c5 c6 htb _ _ _ _ _ (L2 hi.2.1 fun e he => (wi_all hi e he).2) (L1 (by decide) (fun e he => absurd he (by simp))) (L4 (by decide) (fun e he => absurd he (by simp))) (L5 (by decide) (fun e he => absurd he (by simp))) (L6 (by decide) (fun e he => absurd he (by simp)))).mono fun e w' q => q.mono fun b hb => hb.conv (by decide) ?_
  simp only [laid_nil]
  rw [laid_sep _ _ hne,xsep_congr fun x hx => xIt_E (wi_all hi x hx).1]
  simp [xS,wINSERT,wINTO,wVALUES]
 ·obtain ⟨-,-,-,-,-,-,-,s4,-,s5,s6⟩:=hs
  have e4 : lg = []:=sm_nil s4
  have e5 : lq = []:=List.length_eq_zero_iff.1 s5.1
  have e6 : ll = []:=s6
  subst e4 e5 e6
  have hne : ls ≠ []:=fun e => by have:=hi.1; rw [e] at this; simp at this
  have hw1:=hw.2.1
  refine (stmt_2 w0 P M bs w hla hbs tb jn lo lw li st ls [] [] [] pl ja a0 a1 a2 a3 a4 a5 a6 c0 c1 c2 c3 c4 c5 c6 htb _ _ _ _ _ (L3 hi.2.1 (wi_all hi)) (L1 (by omega) (fun e he => (wi_all hw e he).2)) (L4 (by decide) (fun e he => absurd he (by simp))) (L5 (by decide) (fun e he => absurd he (by simp))) (L6 (by decide) (fun e he => absurd he (by simp)))).mono fun e w' q => q.mono fun b hb => hb.conv (by decide) ?_
  simp only [laid_nil]
  rw [laid_sep _ _ hne,wh_laid hw]
  simp [xS,wUPDATE,wSET]
 ·obtain ⟨-,-,-,-,-,-,-,s4,-,s5,s6⟩:=hs
  have e4 : lg = []:=sm_nil s4
  have e5 : lq = []:=List.length_eq_zero_iff.1 s5.1
  have e6 : ll = []:=s6
  subst e4 e5 e6
  have hw1:=hw.2.1
  refine (stmt_3 w0 P M bs w hla hbs tb jn lo lw li st ls [] [] [] pl ja a0 a1 a2 a3 a4 a5 a6 c0 c1 c2 c3 c4 c5 c6 htb _ _ _ _ (L1 (by omega) (fun e he => (wi_all hw e he).2)) (L4 (by decide) (fun e he => absurd he (by simp))) (L5 (by decide) (fun e he => absurd he (by simp))) (L6 (by decide) (fun e he => absurd he (by simp)))).mono fun e w' q => q.mono fun b hb => hb.conv (by decide) ?_
  simp only [laid_nil]
  rw [wh_laid hw]
  simp [xS,wDELETE,wFROM]
 ·obtain ⟨-,hst,hi,hj,-,ho,hw,hg,hq,hl⟩:=hs
  simp only at hst hi hj ho hw hg hq hl
  have hw1:=hw.2.1
  have ho1:=ho.2.1
  have hi1:=hi.2.1
  have hg1:=hg.2.1
  have hq1:=hq.2.1
  have hl1:=hl.2.1
  have hjn : jn.size ≤ 16:=by
   rcases hj with e | e
   ·rw [e]; decide
   ·exact name16 e
  have key : ∀ y,(∀ M1 b1 W,LA w0 W P M1 b1 → b1.length ≤ 1000 → Calls Tryz.prog 39 #[.pointer (some ⟨P,0,none⟩),.agg #[.int .i64 4,.string tb,.string jn,.slice a0 lo.length c0,.slice a1 lw.length c1,.slice a2 li.length c2,.bool st,.slice a3 ls.length c3,.slice a4 lg.length c4,.slice a5 lq.length c5,.slice a6 ll.length c6,.int .i64 pl,.int .i64 ja]] W (LP w0 (Ly 21050 y b1) P M1 W)) → y = [83,69,76,69,67,84,32] ++ (if st then [42] else xsep xIt li) → Calls Tryz.prog 14 #[.pointer (some ⟨P,0,none⟩),.agg #[.int .i64 4,.string tb,.string jn,.slice a0 lo.length c0,.slice a1 lw.length c1,.slice a2 li.length c2,.bool st,.slice a3 ls.length c3,.slice a4 lg.length c4,.slice a5 lq.length c5,.slice a6 ll.length c6,.int .i64 pl,.int .i64 ja]] w (LP w0 (Ly 500000 (xS ⟨4,tb,jn,lo,lw,li,st,ls,lg,lq,ll,pl,ja⟩) bs) P M w):=fun y hy ey => by
   refine (stmt_4 w0 P M bs w hla hbs tb jn lo lw li st ls lg lq ll pl ja a0 a1 a2 a3 a4 a5 a6 c0 c1 c2 c3 c4 c5 c6 htb hjn _ _ _ _ _ (L0 (by omega) (fun e he => (wi_all ho e he).2)) (L1 (by omega) (fun e he => (wi_all hw e he).2)) (L4 (by omega) (fun e he => (wi_all hg e he).2.2)) (L5 (by omega) (wi_all hq)) (L6 (by omega) (wi_all hl)) y hy).mono fun e w' q => q.mono fun b hb => hb.conv (by decide) ?_
   have ej:=jo_laid (t:=⟨4,tb,jn,lo,lw,li,st,ls,lg,lq,ll,pl,ja⟩) ho
   simp only at ej
   rw [ej,wh_laid hw,gr_laid fun e he => (wi_all hg e he).2.1,or_laid,li_laid hl1,ey]
   simp [xS,wSELECT,wFROM]
  have hli:=L2 (by omega) (wi_all hi)
  cases st with
  | true =>
   have e0 : li = []:=by
    have:=hst
    simp only [Bool.true_eq,decide_eq_true_eq] at this
    exact List.length_eq_zero_iff.1 this
   subst e0
   refine key _ (fun M1 b1 W h1 h2 => items_star w0 P M1 b1 W h1 h2 tb jn lo lw [] ls lg lq ll pl ja a0 a1 a2 a3 a4 a5 a6 c0 c1 c2 c3 c4 c5 c6 _ hli) ?_
   rfl
  | false =>
   have hne : li ≠ []:=fun e => by rw [e] at hst; simp at hst
   refine key _ (fun M1 b1 W h1 h2 => items_some w0 P M1 b1 W h1 h2 tb jn lo lw li ls lg lq ll pl ja a0 a1 a2 a3 a4 a5 a6 c0 c1 c2 c3 c4 c5 c6 _ hli) ?_
   show laid _ [44,32] xIt li = _
   rw [laid_sep _ _ hne]
   rfl

def PrP (t : St) (w : World) (e : Ending) (w' : World) : Prop:=Below w.heap.size w w' ∧ ((¬ RtSt t ∧ e = .returned (.tuple #[.string ⟨#[]⟩,.int .i64 120])) ∨ (RtSt t ∧ 1000 < (xS t).length ∧ e = .returned (.tuple #[.string ⟨#[]⟩,.int .i64 2])) ∨ (RtSt t ∧ (xS t).length ≤ 1000 ∧ e = .returned (.tuple #[.string ⟨(xS t).toArray⟩,.int .i64 0])))

theorem xS_pos (t : St) : 0 < (xS t).length:=by
 unfold xS
 split
 ·simp [wINSERT]
 ·split
  ·simp [wUPDATE]
  ·split
   ·simp [wDELETE]
   ·simp [wSELECT]

theorem LA.new {w : World} : LA w (w.alloc (.cells #[.slice none 0 0] 42)) w.heap.size w.heap.size [] :=
 ⟨Nat.le_refl _,fun _ hg => alloc_off hg _,none,0,heap_alloc_new w _,World.ownsRow_nil _ _ _ _,rfl⟩

theorem Only.below {P M : Nat} {a b w : World} (h : Only (Zl P M) a b) (hb : Below w.heap.size w a) (hP : w.heap.size ≤ P) (hM : w.heap.size ≤ M) : Below w.heap.size w b :=
 ⟨h.os.trans hb.os,h.tape.trans hb.tape,h.output.trans hb.output,Nat.le_trans hb.size h.size,fun k hk => (h.block k (Nat.lt_of_lt_of_le hk hb.size) fun z => by rcases z with z | z <;> omega).trans (hb.block k hk)⟩

theorem print_st (t : St) (a0 a1 a2 a3 a4 a5 a6 : Option Addr) (c0 c1 c2 c3 c4 c5 c6 : Nat) (w : World) (hv : SV w) (h : StRA w t (.slice a0 t.on.length c0) (.slice a1 t.whr.length c1) (.slice a2 t.items.length c2) (.slice a3 t.sets.length c3) (.slice a4 t.groups.length c4) (.slice a5 t.sorts.length c5) (.slice a6 t.limit.length c6)) : Calls Tryz.prog 8 #[.agg #[.int .i64 t.kind,.string t.table,.string t.join,.slice a0 t.on.length c0,.slice a1 t.whr.length c1,.slice a2 t.items.length c2,.bool t.star,.slice a3 t.sets.length c3,.slice a4 t.groups.length c4,.slice a5 t.sorts.length c5,.slice a6 t.limit.length c6,.int .i64 t.place,.int .i64 t.joinAt]] w (PrP t w):=by
 have HR:=Lib.hid (fun W hb => synRight_any t a0 a1 a2 a3 a4 a5 a6 c0 c1 c2 c3 c4 c5 c6 W (h.later hb))
 have HS:=Lib.hid (fun (W : World) (hb : Below w.heap.size w W) hr => stmt_all (hv.later hb) t hr a0 a1 a2 a3 a4 a5 a6 c0 c1 c2 c3 c4 c5 c6 (h.later hb))
 obtain ⟨X,hX⟩ : ∃ X,xS t = X:=⟨_,rfl⟩
 have hxp:=xS_pos t
 unfold PrP
 rw [hX] at HS hxp ⊢
 obtain ⟨R,hR⟩ : ∃ R,RtSt t = R:=⟨_,rfl⟩
 rw [hR] at HR HS ⊢
 clear hX hR hv h
 obtain ⟨kd,tb,jn,lo,lw,li,st,ls,lg,lq,ll,pl,ja⟩:=t
 simp only at HR HS
 obtain ⟨W1,hW1⟩ : ∃ W,w.alloc (.cells #[.int .i64 kd,.string tb,.string jn,.slice a0 lo.length c0,.slice a1 lw.length c1,.slice a2 li.length c2,.bool st,.slice a3 ls.length c3,.slice a4 lg.length c4,.slice a5 lq.length c5,.slice a6 ll.length c6,.int .i64 pl,.int .i64 ja] 27) = W:=⟨_,rfl⟩
 have hb1 : Below w.heap.size w W1:=hW1 ▸ (Below.refl _ _).alloc (Nat.le_refl _) _
 have hn1 : W1.heap[w.heap.size]? = some (.cells #[.int .i64 kd,.string tb,.string jn,.slice a0 lo.length c0,.slice a1 lw.length c1,.slice a2 li.length c2,.bool st,.slice a3 ls.length c3,.slice a4 lg.length c4,.slice a5 lq.length c5,.slice a6 ll.length c6,.int .i64 pl,.int .i64 ja] 27 (0,0)):=hW1 ▸ heap_alloc_new w _
 have HB1:=Lib.hid hb1
 have HN1:=Lib.hid hn1
 have z1:=thirt_of hn1
 clear hb1 hn1
 go_enter Tryz.func8,Tryz.ntmps8
 go_wp2_with fail
 clear hW1
 refine (HR.out _ HB1.out).mono ?_
 rintro e w2 ⟨⟨ok,rfl,hq⟩,hb2⟩
 have HB2:=Hbt HB1 hb2
 have HN2:=Hbk hb2 HN1
 have HQ:=Lib.hid hq
 clear z1 hb2 hq HB1 HN1
 cases ok with
 | false =>
  have HNR : Hid (¬ R):=fun r => by have:=HQ.out.2 r; cases this
  go_wp2
  exact bodyPost_ret (v:=.tuple #[.string ⟨#[]⟩,.int .i64 120]) (by simp [results,Tryz.results8,go_sem]) rfl ⟨HB2.out,Or.inl ⟨HNR.out,rfl⟩⟩
 | true =>
  have HYR : Hid R:=HQ.out.1 rfl
  obtain ⟨W3,hW3⟩ : ∃ W,w2.alloc (.cells #[.slice none 0 0] 42) = W:=⟨_,rfl⟩
  have HLA : Hid (LA w2 W3 w2.heap.size w2.heap.size []):=Lib.hid (hW3 ▸ LA.new)
  have HB3 : Hid (Below w.heap.size w W3):=Lib.hid (hW3 ▸ HB2.out.alloc HB2.out.size _)
  have z1:=thirt_of (show W3.heap[w.heap.size]? = _ from hW3 ▸ (alloc_off (Gx HN2.out) _).trans HN2.out)
  go_wp2_with fail
  clear hW3
  refine (HS.out w2 HB2.out HYR.out _ _ [] _ HLA.out (by decide)).mono ?_
  rintro e w4 ⟨M4,b4,rfl,hla,hly,ho,hm⟩
  have HB4:=Lib.hid (ho.below HB3.out HB2.out.size HB2.out.size)
  have HL4:=Lib.hid hla
  have HLY:=Lib.hid hly
  have HTL:=Lib.hid (fun W hW => tooLong_any w2 w2.heap.size M4 b4 W hW (by have:=hly.size; simp at this; omega))
  obtain ⟨ka,kc,h1,hrow,-⟩:=hla.mem
  have p0 : w4.cell? ⟨w2.heap.size,0,none⟩ = some (.slice ka b4.length kc):=by simp [World.cell?,h1]
  clear z1 hla hly ho hm h1
  by_cases q : 1000 < X.length
  ·have HQ2:=Lib.hid q
   have hq4 : 1000 < b4.length:=HLY.out.long (by simpa using q)
   rw [show decide (1000 < b4.length) = true from by simp [hq4]] at HTL
   clear q hq4 hrow
   go_wp2_with (first | (go_at_call 15; refine (HTL.out _ HL4.out).mono ?_; rintro e w5 ⟨rfl,rfl⟩))
   exact bodyPost_ret (v:=.tuple #[.string ⟨#[]⟩,.int .i64 2]) (by simp [results,Tryz.results8,go_sem]) rfl ⟨HB4.out,Or.inr (Or.inl ⟨HYR.out,HQ2.out,rfl⟩)⟩
  ·have HQ2 : Hid (X.length ≤ 1000):=by show _ ≤ _; omega
   have e4 : b4 = X:=by
    have:=HLY.out.short (by simpa using HQ2.out)
    simpa using this
   subst e4
   rw [show decide (1000 < b4.length) = false from by simp [q]] at HTL
   obtain ⟨g,cap,ev,hcv⟩:=own_string hrow hxp
   injection ev with ev1 _ ev2
   subst ev1 ev2
   clear q hrow
   go_wp2_with (first | (go_at_call 15; refine (HTL.out _ HL4.out).mono ?_; rintro e w5 ⟨rfl,rfl⟩))
   exact bodyPost_ret (v:=.tuple #[.string ⟨b4.toArray⟩,.int .i64 0]) (by simp [results,Tryz.results8,go_sem]) rfl ⟨HB4.out,Or.inr (Or.inr ⟨HYR.out,HQ2.out,rfl⟩)⟩
end Go.Proofs.YtbfjmccpcbhljaaGreatDoor
