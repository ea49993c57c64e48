/- M196 O45 O46 O47 -/
import Derived.Test.YtmmmkjhpmlfopaaGreatDoorSB39
set_option maxHeartbeats 16000000
set_option maxRecDepth 100000
namespace Go.Proofs.YtmmmkjhpmlfopaaGreatDoor
open Go.RowKit
section
open Go.RowKit BB
def Keep2 (b : Nat) (W W' : World) : Prop:=∀ k o,(k = b ∨ k = b + 1) → W.heap[k]? = some o → W'.heap[k]? = some o
variable {F : Fence} {n : Nat} {P : Program}
theorem wpIn_rangeC {α : Type} {g : Operand} {ps : Array Tmp} {assign body : Code} {Q : Exit → Act → World → Prop} {a : Act} {w : World}
  (hro : F.round = none) (h1 : 1 ≤ n) {gf : Nat} {lb : Array Value} (hg : a.eval g = .func (.func gf) #[] lb) (hFg : F.fn gf) (eg : ∀ args w,(callFunc gf args).run P w = .ok (.enter gf args) w)
  {encs : α → Array Value} {Kp : World → World → Prop} {S Sp : List α → Prop} {V : List α → α → Prop} {w0 : World} (hseq : SeqB F (n - 1) P gf lb encs Kp S Sp V w0)
  (hKt : ∀ {A B C : World},Kp A B → Kp B C → Kp A C) (hKb : ∀ (W : World) (l : Nat) (o o' : Obj),w.heap.size ≤ l → W.heap[l]? = some o → o.isCells = false → Kp W (W.putObj l o')) (hb0 : Below w0.heap.size w0 w) (hps : ∀ x,(encs x).size = ps.size)
  (I : List α → World → Prop) (hI : OwnFrom w.heap.size I) (hIb : ∀ pre W W',I pre W → Below W.heap.size W W' → I pre W') (h0 : I [] w) (Ax : α → Act → World → Prop) (hAx : ∀ x a',OwnFrom w.heap.size (fun (_ : Unit) W => Ax x a' W))
  (hassign : ∀ (l : Nat) (pre : List α) (x : α) (W : World) (K : Act → World → Prop),w.heap.size + 2 ≤ W.heap.size → I pre W → V pre x → (∀ a' W',Keep2 w.heap.size W W' → Kp W W' → I pre W' → Ax x a' W' → K a' W') →
   assign.wpIn (F.inRound l) (n - 1 - 1) P (Exit.then K (fun _ _ _ => False)) { tmps:=(ps.zip (encs x)).foldl (fun t (p,v) => t.setIfInBounds p v) a.tmps,defers:=[] } W)
  (hbody : ∀ (l : Nat) (pre : List α) (x : α) (a' : Act) (W : World),I pre W → Ax x a' W → V pre x → body.wpIn (F.inRound l) (n - 1 - 1) P (fun e _ W' => e = .normal ∧ Keep2 w.heap.size W W' ∧ Kp W W' ∧ I (pre ++ [x]) W') a' W)
  (hdone : ∀ (D : Nat) (xs : List α) (W : World),w.heap.size ≤ D → S xs → I xs W → W.heap[D]? = some (.deferred (some [])) → Q .normal { a with defers:={ target:=.collected D,args:=#[] } :: a.defers } W) :
  (Code.rangeFunc g ps assign body).wpIn F n P Q a w:=by
 refine wpIn_rangeFunc ?_
 intro fn hfn
 rw [hro]
 obtain ⟨W1,hW1⟩:=Vx ((w.alloc (.deferred (some []))).alloc (.loop (lrec fn a.tmps ps assign body w.heap.size .ready none)))
 have hL1 : W1.heap[w.heap.size + 1]? = some (.loop (lrec fn a.tmps ps assign body w.heap.size .ready none)):=by
  have:=World.alloc_heap_new (w.alloc (.deferred (some []))) (.loop (lrec fn a.tmps ps assign body w.heap.size .ready none))
  rw [World.size_alloc,hW1] at this
  exact this
 have hK1 : W1.heap[w.heap.size]? = some (.deferred (some [])):=by
  rw [← hW1]
  exact (Below.heap_alloc _ _ _ Si).trans (World.alloc_heap_new w _)
 have hb1 : Below w0.heap.size w0 W1:=by
  rw [← hW1]
  exact hb0.trans ((((Bxr _ w).alloc Zlr _).alloc Si _).mono hb0.size)
 refine ⟨w.heap.size + 1,[{ target:=.collected w.heap.size,args:=#[] }],W1,{ target:=.fn (.func gf) lb,args:=#[.func (.yield (w.heap.size + 1)) #[] #[]] },W1,gf,#[.func (.yield (w.heap.size + 1)) #[] #[]] ++ lb,W1,by rw [← hW1]; exact run_enterLoop_outer _ _ _ _ _,by simp only [resolve,hg]; simp [go_sem],fun f' hf' => by simp [Target.leads] at hf'; subst hf'; exact hFg,by simp [invoke,go_sem,eg],fun _ => h1,?_⟩
 refine (hseq (w.heap.size + 1) (fun pre W => I pre W ∧ W.heap[w.heap.size + 1]? = some (.loop (lrec fn a.tmps ps assign body w.heap.size .ready none)) ∧ W.heap[w.heap.size]? = some (.deferred (some [])))
  (fun _ _ => False)
  W1 hb1 (fun pre W W' h hb => ⟨hIb pre W W' h.1 hb,(hb.block _ (Gx h.2.1)).trans h.2.1,(hb.block _ (Gx h.2.2)).trans h.2.2⟩) ?_ ⟨by rw [← hW1]; exact hI.alloc _ (hI.alloc _ h0),hL1,hK1⟩).mono ?_
 ·rintro pre x W ⟨hi,hl,hk⟩ hV
  refine ⟨fn,_,assign,body,run_yield (P:=P) (args:=encs x) hl (hps x),roundIn_of_wpIn hfn (hassign _ pre x W _ (by have:=(Gx hl); omega) hi hV ?_)⟩
  intro a' Wa hkfa hkpa hia hax
  have hla:=hkfa _ _ (Or.inr rfl) hl
  have hka:=hkfa _ _ (Or.inl rfl) hk
  have hlt : w.heap.size + 1 < Wa.heap.size:=(Gx hla)
  refine ⟨_,run_beginRound hla rfl,?_⟩
  have hl2 : (Wa.putObj (w.heap.size + 1) (.loop (lrec fn a.tmps ps assign body w.heap.size .busy none))).heap[w.heap.size + 1]? = some (.loop (lrec fn a.tmps ps assign body w.heap.size .busy none)):=World.putObj_heap_same hlt
  have hk2 : (Wa.putObj (w.heap.size + 1) (.loop (lrec fn a.tmps ps assign body w.heap.size .busy none))).heap[w.heap.size]? = some (.deferred (some [])):=(World.putObj_heap_other Om).trans hka
  have hw2 : Kp Wa (Wa.putObj (w.heap.size + 1) (.loop (lrec fn a.tmps ps assign body w.heap.size .busy none))):=hKb _ _ _ _ Om hla rfl
  refine wpIn_mono (hbody _ pre x a' _ (hI.putObj _ hia Om hla rfl) ((hAx x a').putObj (s:=()) _ hax Om hla rfl) hV) ?_
  rintro e a3 W3 hp
  obtain ⟨rfl,hk3,hkp3,hi3⟩:=hp
  have hl3:=hk3 _ _ (Or.inr rfl) hl2
  obtain ⟨hr,hl4,hk4⟩:=round_over (P:=P) none hl3 (hk3 _ _ (Or.inl rfl) hk2)
  exact ⟨_,_,hr,.inl ⟨rfl,⟨hI.putObj _ hi3 Om hl3 rfl,hl4,hk4⟩,hKt hkpa (hKt (hKt hw2 hkp3) (hKb _ _ _ _ Om hl3 rfl))⟩⟩
 ·rintro e W2 ⟨⟨v,rfl⟩,(⟨xs,hS,hi,hl,hk⟩ | ⟨pre,hSp,hi⟩)⟩
  ·exact ⟨none,_,run_endLoop (P:=P) hl (by simp [lrec]),hdone _ xs _ Zlr hS (hI.putObj _ hi Om hl rfl) ((World.putObj_heap_other Om).trans hk)⟩
  ·exact hi.elim
end
section
open Go.RowKit Go.Shelf BB
attribute [local go_sem] Oper.semAt_some
theorem backward_any (w : World) (pd : Option Addr) (n cd : Nat) :
  Calls Tryz.prog 44 #[.slice pd n cd] w fun e w' => e = .returned (.func (.func 81) #[] #[.pointer (some ⟨w.heap.size,0,none⟩)]) ∧ w' = w.alloc (Obj.cells #[.slice pd n cd] 88):=by
 go_enter Tryz.func44,Tryz.ntmps44
 go_wp2
 go_ret
 exact ⟨rfl,rfl⟩
theorem backL_pos {n : Nat} {pre rest : List Nat} {x : Nat} (h : backL n = pre ++ x :: rest) : x < n ∧ pre = (backL n).take (n - 1 - x) ∧ n - 1 - (n - 1 - x) = x:=by
 have hl : (backL n).length = n:=by unfold backL; simp
 have hm : pre.length < n:=by
  rw [← hl,h]
  simp
 have hx:=backL_at hm
 rw [h,List.getElem?_append_right Zlr] at hx
 simp at hx
 refine ⟨by omega,?_,by omega⟩
 rw [show n - 1 - x = pre.length by omega,h,List.take_left]
theorem RowsA.at {w : World} {B : Nat} {A : Nat → Prop} {v : Value} {L : List (List V3)} (h : RowsA w B A v L) {i : Nat} (hi : i < L.length) : ∃ g cap p c,v = .slice (some ⟨g,0,none⟩) L.length cap ∧ w.cell? ⟨g,i,none⟩ = some (.slice p (L[i]).length c) ∧ w.ownsRow B 73 3 (.slice p (L[i]).length c) (L[i]).length (vc L[i]) ∧ ∀ q,(Value.slice p (L[i]).length c).ownBlock = some q → A q:=by
 obtain ⟨us,h1,h2,h3,h4,h5⟩:=h.own
 obtain ⟨e,-⟩:=own_some h2 Om
 have hu : i < us.length:=by omega
 have h6:=h3 i hu hi
 obtain ⟨p,c,e2⟩:=ownF h6
 rw [e] at h2
 refine ⟨vBlk v,vCap v,p,c,e,?_,e2 ▸ h6,fun q hq => h5 i hu q (by rw [e2]; exact hq)⟩
 rw [h2.cellAt i Om,List.getElem?_eq_getElem hu,e2]
theorem cell_other9 {W : World} {l : Nat} {a : Addr} {v : Value} {o : Obj} (h : W.cell? a = some v) (ho : W.heap[l]? = some o) (hc : o.isCells = false) (o' : Obj) : (W.putObj l o').cell? a = some v:=Grows.put ho hc o' a v h
theorem undo9_any {B C : Nat} {T U A : Nat → Prop} (w : World) (k s : Nat) (l : Int) (en : Bool) (dv : Value) (c : TT.Ct) (P : Nat) (tv : Value) (ld : Int) (L : TabL) (S : List Strk) (hk : WkM w B A k s l en dv S) (h : StM w B T U s c P tv ld L) (hm : Env w C) (hCB : C ≤ B) (hz : ∀ q,A q → ¬ T q ∧ ¬ U q ∧ q ≠ s ∧ tv.ownBlock ≠ some q) (hS : S.length ≤ 3000000000) (hj : ∀ x ∈ S,x.j < L.length)
  (hok : ∀ (m : Nat) (x : Strk) (D : TD) (rs : List Row3),S[S.length - 1 - m]? = some x → (undoL L S ((backL S.length).take m))[x.j]? = some (D,rs) → (∀ r ∈ x.tk,fitR D.t r) ∧ rs.length + x.tk.length ≤ 3000000000 ∧ x.tk.length ≤ 3000000000 ∧ x.br.length ≤ 3000000000 ∧ ∀ l ∈ x.br,l.length ≤ 2147483648) :
  Calls Tryz.prog 19 #[.pointer (some ⟨k,0,none⟩)] w fun e w' => e = .returned (.tuple #[]) ∧ ((¬ (en = false ∧ l = ld) ∧ Below w.heap.size w w') ∨ ((en = false ∧ l = ld) ∧ ∃ T',StM w' B T' U s c P tv ld (undoL L S (backL S.length)) ∧ (∀ q,T' q → T q ∨ w.heap.size ≤ q) ∧ Only (fun q => T q ∨ q = k) w w' ∧ WkB w' k s l true (.slice none 0 0) ∧ ∀ q,A q → ¬ T' q)):=by
 have HS:=Hd h
 have HK:=Hd hk
 have HM:=Hd (Zai hm hCB)
 have HZ:=Hd hz
 have HJ:=Hd (Zai hj hok)
 obtain ⟨W0,hW0⟩:=Vx (w.alloc (Obj.cells #[.pointer (some ⟨k,0,none⟩)] 40))
 have hb0 : Below w.heap.size w W0:=by rw [← hW0]; exact (Bxr _ w).alloc Zlr _
 have k0 : W0.heap[w.heap.size]? = some (.cells #[.pointer (some ⟨k,0,none⟩)] 40 (0,0)):=by rw [← hW0]; exact heap_alloc_new w _
 have HOV:=Hd (over9_any W0 k s l en dv _ _ _ ld (hk.later hb0).blk (h.later hb0).blk)
 have HB0:=Hd hb0
 have HK0:=Hd k0
 have c0 : W0.cell? ⟨w.heap.size,0,none⟩ = some (.pointer (some ⟨k,0,none⟩)):=cell_blk k0 rfl
 clear h hk hm hCB hz hj hok hb0 k0
 refine (callsIn_wide (n:=8)).1 ?_
 refine callsIn_of_wp_marks Tryz.func19 rfl trivial ?_ rfl
 simp only [Tryz.ntmps19,List.size_toArray,List.length_cons,List.length_nil,Nat.reduceAdd,Nat.reduceSub,Array.replicate_succ,Array.replicate_zero,List.push_toArray,List.append_toArray,List.nil_append,List.cons_append]
 have HW0:=Hd hW0
 clear hW0
 gi_wp2_with fail
 try rw [HW0.out]
 have hW0:=HW0.out
 gi_wp2_with fail
 refine ⟨trivial,?_⟩
 refine (callsIn_wide.2 HOV.out).mono ?_
 rintro e w1 ⟨rfl,hb1⟩
 have HB1:=Hbt HB0 hb1
 have k1:=heap_of HK0.out hb1
 have HK1:=Hd k1
 have c1 : w1.cell? ⟨w.heap.size,0,none⟩ = some (.pointer (some ⟨k,0,none⟩)):=cell_blk k1 rfl
 clear hb1 k1 hW0
 by_cases ho : (en || decide (l ≠ ld)) = true
 ·rw [ho]
  have ho2 : ¬ (en = false ∧ l = ld):=by
   rintro ⟨rfl,rfl⟩
   simp at ho
  clear ho
  gi_wp2
  exact ⟨.tuple #[],by simp [results,Tryz.results19,go_sem],rfl,Or.inl ⟨ho2,HB1.out⟩⟩
 ·rw [Bool.not_eq_true] at ho
  rw [ho]
  have ho2 : en = false ∧ l = ld:=by simpa using ho
  clear ho
  have hk1:=HK.out.later HB1.out
  obtain ⟨pd,cd,rfl⟩:=ownF hk1.row
  have d3 : w1.cell? ⟨k,3,none⟩ = some (.slice pd S.length cd):=cell_blk hk1.blk rfl
  have hun : StM w1 B T U s c P tv ld L:=HS.out.later HB1.out
  have hform : ∀ x ∈ S,(∃ a b c,x.tv = .slice a b c) ∧ ∃ a b c,x.bv = .slice a b c:=fun x hx => by
   obtain ⟨p1,p2⟩:=hk1.parts x hx
   obtain ⟨_,_,q1,_⟩:=p1.own
   obtain ⟨_,_,q2,_⟩:=p2.own
   obtain ⟨a,b,e⟩:=ownF q1
   obtain ⟨a',b',e'⟩:=ownF q2
   exact ⟨⟨a,_,b,e⟩,a',_,b',e'⟩
  have HF:=Hd hform
  have HK1w:=Hd hk1
  have HUN:=Hd hun
  clear hk1 hun hform
  gi_wp2_with fail
  refine ⟨trivial,?_⟩
  refine (callsIn_wide.2 (backward_any _ _ _ _)).mono ?_
  rintro e w2 ⟨rfl,rfl⟩
  gi_wp2
  obtain ⟨W2,hW2⟩:=Vx (w1.alloc (Obj.cells #[.slice pd S.length cd] 88))
  have hb2 : Below w1.heap.size w1 W2:=by rw [← hW2]; exact (Bxr _ _).alloc Zlr _
  have kx : W2.heap[w1.heap.size]? = some (.cells #[.slice pd S.length cd] 88 (0,0)):=by rw [← hW2]; exact heap_alloc_new w1 _
  have hs2 : W2.heap.size = w1.heap.size + 1:=by rw [← hW2]; simp
  rw [hW2]
  obtain ⟨M,hM⟩:=Vx W2.heap.size
  obtain ⟨bx,hbx⟩:=Vx w1.heap.size
  have HSZ : Hid (w.heap.size ≤ bx ∧ bx < M):=Hd (by have:=HB1.out.size; omega)
  have hTl : Hid (∀ q,T q → q < w.heap.size):=Hd fun q hq => (HS.out.tabs.lo q hq).2
  have hAl : Hid (∀ q,A q → ¬ T q ∧ q < w.heap.size):=Hd fun q hq => ⟨(HZ.out q hq).1,(HK.out.lo q hq).2⟩
  have hUl : Hid (∀ q,U q → q < w.heap.size):=Hd fun q hq => (HS.out.tabs.un q hq).1
  have h0 : UnT w M bx B T U A k s l en (.slice pd S.length cd) c P tv ld S T (undoL L S []) W2:=⟨HUN.out.later hb2,fun _ q => Or.inl q,HK1w.out.later hb2,Only.of (HB1.out.trans (hb2.mono HB1.out.size)),heap_of HK1.out hb2,by rw [← hbx]; exact kx⟩
  have H0:=Hd h0
  have hbk : BkM bx pd cd S W2:=⟨cell_blk (h0.b2) rfl,h0.wk.read⟩
  have HBK:=Hd hbk
  have HMW:=Hd hM
  have HEN:=Hd ho2
  rw [hbx]
  clear hW2 hb2 kx hs2 hM hbx h0 hbk c1 d3 ho2
  refine wpIn_rangeC rfl Om (gf:=81) (lb:=#[.pointer (some ⟨bx,0,none⟩)]) rfl trivial (enters_of Tryz.func81 Kr rfl)
   (back_seq _ bx pd cd S HF.out hS W2 HBK.out)
   (fun h1 h2 h => h2 (h1 h))
   (fun W l2 o o' hl ho hc h => ⟨cell_other9 h.1 ho hc o',fun i hi => by
    obtain ⟨g,off,a,b,c',d⟩:=h.2 i hi
    exact ⟨g,off,a,cell_other9 b ho hc o',cell_other9 c' ho hc o',cell_other9 d ho hc o'⟩⟩)
   (Bxr _ _) (fun _ => rfl)
   (fun pre W => ∃ T',UnT w M bx B T U A k s l en (.slice pd S.length cd) c P tv ld S T' (undoL L S pre) W)
   (fun pre W W' row h hg hr => by
    obtain ⟨T',h⟩:=h
    exact ⟨T',h.other hg hr (by have:=HSZ.out; have:=HMW.out; omega) hUl.out⟩)
   (fun pre W W' h hb => by
    obtain ⟨T',h⟩:=h
    exact ⟨T',h.later hb⟩)
   ⟨T,H0.out⟩
   (fun x a' W => ∃ (Nb : Nat) (T' : Nat → Prop) (y : Strk),S[x]? = some y ∧ a' = { tmps:=#[.pointer (some ⟨k,0,none⟩),.pointer (some ⟨w.heap.size,0,none⟩),undef,.pointer (some ⟨Nb,0,none⟩),undef,undef,undef,undef,undef,.pointer (some ⟨k,0,none⟩),.bool false,.pointer (some ⟨k,0,none⟩),.pointer (some ⟨k,0,none⟩),.pointer (some ⟨k,3,none⟩),.slice pd S.length cd,.func (.func 81) #[] #[.pointer (some ⟨bx,0,none⟩)],.int .i64 (x : Int),.agg #[.int .i64 (y.j : Int),y.tv,y.bv],undef,undef,undef,undef,undef,undef,undef,undef,undef,undef,undef,undef,undef,undef,undef,undef,undef,undef,undef,undef,undef,undef,undef,undef,undef,undef,undef,undef,undef,undef,undef,undef,undef,undef,undef],defers:=[] } ∧ W.heap[Nb]? = some (.cells #[.int .i64 (y.j : Int),y.tv,y.bv] 100 (0,0)) ∧ M + 2 ≤ Nb ∧ ¬ T' Nb ∧ UnT w M bx B T U A k s l en (.slice pd S.length cd) c P tv ld S T' (undoL L S ((backL S.length).take (S.length - 1 - x))) W)
   (fun x a' _ X Y row hs hg hr => by
    obtain ⟨Nb,T',y,e1,e2,e3,e4,e5,e6⟩:=hs
    exact ⟨Nb,T',y,e1,e2,(hg.block _ (Gx e3) fun e => not_cells e3 (fun r q => (hr r q).2) e.symm).trans e3,e4,e5,e6.other hg hr (by have:=HSZ.out; have:=HMW.out; omega) hUl.out⟩)
   ?assign ?body ?done
  case assign =>
   rintro l2 pre x W K hsz ⟨T',hi⟩ hV hK
   obtain ⟨rest,hr⟩:=hV
   obtain ⟨hxn,hpre,-⟩:=backL_pos hr
   have hyx:=List.getElem?_eq_getElem hxn
   obtain ⟨⟨x1,x2,x3,e1⟩,y1,y2,y3,e2⟩:=HF.out _ (List.getElem_mem hxn)
   obtain ⟨y,hy⟩:=Vx (S[x])
   rw [hy] at hyx e1 e2
   have henc : encB S x = #[.int .i64 (x : Int),.agg #[.int .i64 (y.j : Int),.slice x1 x2 x3,.slice y1 y2 y3]]:=by
    unfold encB
    rw [hyx]
    simp [e1,e2]
   have HI2:=Hd (Zai hi (Zai hpre (Zai hyx (Zai e1 e2))))
   have hMs:=HMW.out
   rw [henc]
   clear hi hr hpre hyx hy e1 e2 henc
   gi_wp2
   refine hK _ _ (fun q o hq ho => (alloc_low9 (Gx ho)).trans ho) (fun hb => hb.later ((Bxr _ _).alloc Zlr _)) ⟨T',HI2.out.1.later ((Bxr _ _).alloc Zlr _)⟩ ⟨W.heap.size,T',y,HI2.out.2.2.1,by rw [HI2.out.2.2.2.1,HI2.out.2.2.2.2],by rw [HI2.out.2.2.2.1,HI2.out.2.2.2.2]; exact heap_alloc_new W _,by omega,fun ht => by have:=(HI2.out.1.st.tabs.lo _ ht).2; omega,by rw [← HI2.out.2.1]; exact HI2.out.1.later ((Bxr _ _).alloc Zlr _)⟩
  case body =>
   rintro l2 pre x a' W - ⟨Nb,T',y,hyx,rfl,hNb,hM2,hNT,hU⟩ hV
   obtain ⟨rest,hr⟩:=hV
   obtain ⟨hxn,hpre,hpos⟩:=backL_pos hr
   have hym:=List.mem_of_getElem? hyx
   obtain ⟨⟨x1,x2,x3,e1⟩,y1,y2,y3,e2⟩:=HF.out y hym
   obtain ⟨LL,hLL⟩:=Vx (undoL L S ((backL S.length).take (S.length - 1 - x)))
   rw [hLL] at hU
   have hlen : LL.length = L.length:=by
    have h1:=congrArg List.length hU.st.defs.1
    have h2:=congrArg List.length HS.out.defs.1
    rw [List.length_map] at h1 h2
    omega
   have hjl : y.j < LL.length:=by rw [hlen]; exact HJ.out.1 y hym
   obtain ⟨⟨D,rs⟩,hD⟩ : ∃ x,LL[y.j]? = some x:=⟨_,List.getElem?_eq_getElem hjl⟩
   have hok:=HJ.out.2 (S.length - 1 - x) y D rs (by rw [hpos]; exact hyx) (by rw [hLL]; exact hD)
   have hnx : undoL L S (pre ++ [x]) = LL.set y.j (D,putKs D.t y.tk (dropKs D.t y.br rs)):=by
    rw [undoL_snoc hyx,hpre,hLL,undo1_at hD]
   rw [e1,e2] at hNb ⊢
   obtain ⟨p1,p2⟩:=hU.wk.parts y hym
   have hn1 : x2 = y.tk.length:=by
    obtain ⟨_,_,q,_⟩:=p1.own
    rw [e1] at q
    obtain ⟨a,b,e⟩:=ownF q
    cases e
    rfl
   have hn2 : y2 = y.br.length:=by
    obtain ⟨_,_,q,_⟩:=p2.own
    rw [e2] at q
    obtain ⟨a,b,e⟩:=ownF q
    cases e
    rfl
   subst hn1 hn2
   have htb:=hU.st.row
   obtain ⟨g,cg,rfl⟩ : ∃ g cg,tv = .slice (some ⟨g,0,none⟩) LL.length cg:=⟨_,_,(own_some htb Om).1⟩
   have ct : W.cell? ⟨g,y.j,none⟩ = some (.pointer (some ⟨D.r,0,none⟩)):=by
    rw [htb.cellAt _ Om]
    unfold tabPs
    simp [hD,ptr9]
   have c1 : W.cell? ⟨w.heap.size,0,none⟩ = some (.pointer (some ⟨k,0,none⟩)):=cell_blk hU.b1 rfl
   have c2 : W.cell? ⟨k,0,none⟩ = some (.pointer (some ⟨s,0,none⟩)):=cell_blk hU.wk.blk rfl
   have c3 : W.cell? ⟨s,2,none⟩ = some (.slice (some ⟨g,0,none⟩) LL.length cg):=cell_blk hU.st.blk rfl
   have c4 : W.cell? ⟨Nb,0,none⟩ = some (.int .i64 (y.j : Int)):=cell_blk hNb rfl
   have c5 : W.cell? ⟨Nb,1,none⟩ = some (.slice x1 y.tk.length x3):=cell_blk hNb rfl
   have c6 : W.cell? ⟨Nb,2,none⟩ = some (.slice y1 y.br.length y3):=cell_blk hNb rfl
   obtain ⟨nl,hnl⟩:=Vx LL.length
   rw [hnl] at c3
   have hji : (y.j : Int) < (nl : Int):=by omega
   have hmx : Tryz.prog.follows .mixedOrders = true:=by kernel_rfl
   have HU:=Hd hU
   have HNB:=Hd (Zai hNb (Zai hM2 hNT))
   have HOK:=Hd hok
   have HNX:=Hd hnx
   have HDD:=Hd hD
   have HEE:=Hd (Zai e1 (Zai e2 hym))
   clear hU hNb hok hnx hD e1 e2 p1 p2 htb hr hpre hLL hlen hyx hnl hjl
   gi_wp2
   apply wpIn_once
   case h =>
    gi_region_with_o (fail)
    all_goals exact ⟨rfl,rfl⟩
   case k =>
    gi_wp2
    have hjl:=(List.getElem?_eq_some_iff.1 HDD.out).1
    have hb3 : y.br.length ≤ 3000000000:=HOK.out.2.2.2.1
    have hb4 : y.tk.length ≤ 3000000000:=HOK.out.2.2.1
    have hNT1 : ∀ (T1 : Nat → Prop),(∀ q,T1 q → T q ∨ M + 2 ≤ q) → ∀ q,q < w.heap.size ∨ M ≤ q ∧ q < M + 2 → ¬ T q → ¬ T1 q:=fun T1 h q hq hn ht => by
     have:=HSZ.out
     rcases h q ht with e | e
     ·exact hn e
     ·omega
    have HNT1:=Hd hNT1
    clear hNT1
    gi_loopw [32] (fun q wr => ∃ (m : Nat) (T1 : Nat → Prop),m ≤ y.br.length ∧ q = .int .i64 (m : Int) ∧ UnT w M bx B T U A k s l en (.slice pd S.length cd) c P (.slice (some ⟨g,0,none⟩) LL.length cg) ld S T1 (LL.set y.j (D,dropKs D.t (y.br.take m) rs)) wr ∧ wr.heap[Nb]? = some (.cells #[.int .i64 (y.j : Int),.slice x1 y.tk.length x3,.slice y1 y.br.length y3] 100 (0,0)) ∧ ¬ T1 Nb ∧ Keep2 M W wr) (fun q _ => y.br.length - (intOf q).toNat)
    case atStart =>
     refine ⟨0,T',Nat.zero_le _,rfl,?_,heap_of HNB.out.1 (Bxr _ _).drew,HNB.out.2.2,fun q o _ ho => heap_of ho (Bxr _ _).drew⟩
     rw [List.take_zero,dropKs_nil,set_self HDD.out]
     exact HU.out.later (Bxr _ _).drew
    case round =>
     obtain ⟨m,T1,hm,rfl,hu,hnb,hnt,hkp⟩:=hrel
     have hsz : M + 2 ≤ wr.heap.size:=by
      have:=(Gx hnb)
      have:=HNB.out.2.1
      omega
     by_cases hlt : m < y.br.length
     ·have hlti : (m : Int) < (y.br.length : Int):=by omega
      obtain ⟨gb,cap,p,cc,e,hcell,hown,hzn⟩:=(hu.wk.parts y HEE.out.2.2).2.at hlt
      have e2:=HEE.out.2.1
      rw [e2] at e
      cases e
      have hD' : (LL.set y.j (D,dropKs D.t (y.br.take m) rs))[y.j]? = some (D,dropKs D.t (y.br.take m) rs):=List.getElem?_set_self hjl
      have henv : Env wr C:=HM.out.1.only hu.only HM.out.2 HS.out.tabs.lo
      have hnx : dropK D.t y.br[m] (dropKs D.t (y.br.take m) rs) = dropKs D.t (y.br.take (m + 1)) rs:=by
       rw [dropKs_snoc,List.take_add_one,List.getElem?_eq_getElem hlt]
       rfl
      have HDR:=Hd (drop_st wr s c P _ ld _ hu.st henv HM.out.2 y.j D _ hD' p cc y.br[m] (fun X hX => row_keep hown hX fun q hq ht => by
       have h1:=hAl.out q (hzn q hq)
       exact HNT1.out T1 hu.tz q (Or.inl h1.2) h1.1 ht) (HOK.out.2.2.2.2 _ (List.getElem_mem hlt)))
      have HR:=Hd (Zai hu (Zai hnb (Zai hnt (Zai hkp hnx))))
      obtain ⟨ln,hln⟩:=Vx ((y.br[m]).length)
      rw [hln] at hcell HDR
      clear hu hnb hnt hkp hown hzn hD' henv hnx hln
      gi_wp2_with fail
      refine ⟨trivial,?_⟩
      refine (callsIn_wide.2 HDR.out).mono ?_
      rintro e w5 ⟨v,T2,rfl,-,ho5,hS5,hto5,-⟩
      rw [List.set_set,HR.out.2.2.2.2] at hS5
      have hu5:=HR.out.1.turn ⟨HSZ.out.1,HSZ.out.2,hsz⟩ hTl.out hAl.out ho5 hS5 hto5
      have HU5:=Hd (Zai hu5 (Zai ho5 hto5))
      clear ho5 hS5 hto5 hu5
      gi_wp2
      go_roundw
      case rel =>
       have hnbl:=(Gx HR.out.2.1)
       refine ⟨m + 1,T2,by omega,by go_num,HU5.out.1,(HU5.out.2.1.block Nb hnbl HR.out.2.2.1).trans HR.out.2.1,fun ht => ?_,fun q o hq ho => ?_⟩
       ·rcases HU5.out.2.2 Nb ht with e | e
        ·exact HR.out.2.2.1 e
        ·omega
       ·have h1:=HR.out.2.2.2.1 q o hq ho
        refine (HU5.out.2.1.block q (Gx h1) (HNT1.out T1 HR.out.1.tz q (Or.inr Om) fun e => ?_)).trans h1
        have:=hTl.out q e
        have:=HSZ.out
        omega
      case measure => simp [intOf]; omega
     ·have hlti : ¬ (m : Int) < (y.br.length : Int):=by omega
      obtain rfl : m = y.br.length:=by omega
      rw [List.take_length] at hu
      obtain ⟨rs1,hrs1⟩:=Vx (dropKs D.t y.br rs)
      have HRS:=Hd hrs1
      have hrl : rs1.length ≤ rs.length:=by rw [← hrs1]; exact dropKs_len _ _ _
      rw [hrs1] at hu
      have HU1:=Hd (Zai hu (Zai hnb (Zai hnt hkp)))
      have c51 : wr.cell? ⟨Nb,1,none⟩ = some (.slice x1 y.tk.length x3):=cell_blk hnb rfl
      clear hu hnb hnt hkp hrs1
      gi_wp2
      gi_loopw [43] (fun q wq => ∃ (m : Nat) (T1 : Nat → Prop),m ≤ y.tk.length ∧ q = .int .i64 (m : Int) ∧ UnT w M bx B T U A k s l en (.slice pd S.length cd) c P (.slice (some ⟨g,0,none⟩) LL.length cg) ld S T1 (LL.set y.j (D,putKs D.t (y.tk.take m) rs1)) wq ∧ wq.heap[Nb]? = some (.cells #[.int .i64 (y.j : Int),.slice x1 y.tk.length x3,.slice y1 y.br.length y3] 100 (0,0)) ∧ ¬ T1 Nb ∧ Keep2 M W wq) (fun q _ => y.tk.length - (intOf q).toNat)
      case atStart => exact ⟨0,T1,Nat.zero_le _,rfl,HU1.out.1,HU1.out.2.1,HU1.out.2.2.1,HU1.out.2.2.2⟩
      case round =>
       obtain ⟨m,T1,hm,rfl,hu,hnb,hnt,hkp⟩:=hrel
       have hsz2 : M + 2 ≤ wr.heap.size:=by
        have:=(Gx hnb)
        have:=HNB.out.2.1
        omega
       by_cases hlt2 : m < y.tk.length
       ·have hlti2 : (m : Int) < (y.tk.length : Int):=by omega
        obtain ⟨gb,cap,p,cc,e,hcell,hown,hzn⟩:=(hu.wk.parts y HEE.out.2.2).1.at hlt2
        have e2:=HEE.out.1
        rw [e2] at e
        cases e
        have hD' : (LL.set y.j (D,putKs D.t (y.tk.take m) rs1))[y.j]? = some (D,putKs D.t (y.tk.take m) rs1):=List.getElem?_set_self hjl
        have henv : Env wr C:=HM.out.1.only hu.only HM.out.2 HS.out.tabs.lo
        have hnx:=putKs_snoc (t:=D.t) (rs:=rs1) hlt2
        have HDR:=Hd (put_st wr s c P _ ld _ hu.st henv HM.out.2 y.j D _ hD' p cc y.tk[m] (fun X hX => row_keep hown hX fun q hq ht => by
         have h1:=hAl.out q (hzn q hq)
         exact HNT1.out T1 hu.tz q (Or.inl h1.2) h1.1 ht) (HOK.out.1 _ (List.getElem_mem hlt2)) (by
         have h1:=putKs_len D.t (y.tk.take m) rs1
         have h2:=HOK.out.2.1
         rw [List.length_take] at h1
         omega))
        have HR:=Hd (Zai hu (Zai hnb (Zai hnt (Zai hkp hnx))))
        obtain ⟨ln,hln⟩:=Vx ((y.tk[m]).length)
        rw [hln] at hcell HDR
        clear hu hnb hnt hkp hown hzn hD' henv hnx hln
        gi_wp2_with fail
        refine ⟨trivial,?_⟩
        refine (callsIn_wide.2 HDR.out).mono ?_
        rintro e w5 ⟨v,T2,rfl,-,ho5,hS5,hto5,-⟩
        rw [List.set_set,← HR.out.2.2.2.2] at hS5
        have hu5:=HR.out.1.turn ⟨HSZ.out.1,HSZ.out.2,hsz2⟩ hTl.out hAl.out ho5 hS5 hto5
        have HU5:=Hd (Zai hu5 (Zai ho5 hto5))
        clear ho5 hS5 hto5 hu5
        gi_wp2
        go_roundw
        case rel =>
         have hnbl:=(Gx HR.out.2.1)
         refine ⟨m + 1,T2,by omega,by go_num,HU5.out.1,(HU5.out.2.1.block Nb hnbl HR.out.2.2.1).trans HR.out.2.1,fun ht => ?_,fun q o hq ho => ?_⟩
         ·rcases HU5.out.2.2 Nb ht with e | e
          ·exact HR.out.2.2.1 e
          ·omega
         ·have h1:=HR.out.2.2.2.1 q o hq ho
          refine (HU5.out.2.1.block q (Gx h1) (HNT1.out T1 HR.out.1.tz q (Or.inr Om) fun e => ?_)).trans h1
          have:=hTl.out q e
          have:=HSZ.out
          omega
        case measure => simp [intOf]; omega
       ·have hlti2 : ¬ (m : Int) < (y.tk.length : Int):=by omega
        obtain rfl : m = y.tk.length:=by omega
        rw [List.take_length] at hu
        have HR:=Hd (Zai hu hkp)
        clear hu hnb hnt hkp
        gi_wp2
        have hMs:=HMW.out
        refine ⟨by rw [hMs]; exact HR.out.2,fun _ => ⟨cell_blk HR.out.1.b2 rfl,HR.out.1.wk.read⟩,T1,?_⟩
        rw [HNX.out,HRS.out]
        exact HR.out.1
  case done =>
   rintro D2 xs W hD hS2 ⟨T',hI⟩ hK2
   rename_i Q2 K3 ha2
   subst hS2
   have c1 : W.cell? ⟨w.heap.size,0,none⟩ = some (.pointer (some ⟨k,0,none⟩)):=cell_blk hI.b1 rfl
   have HDN:=Hd (done9_any W k s l en (.slice pd S.length cd) hI.wk.blk)
   have HI9:=Hd (Zai hI hK2)
   have HDD:=Hd hD
   have hkA:=HK.out.lo k HK.out.zone.1
   clear hI hK2 hD
   refine ha2 _ _ (wpIn_wide.2 ?_)
   go_wp2_with fail
   refine HDN.out.mono ?_
   rintro e w5 ⟨rfl,ho5,hs5,hwk5⟩
   have HW5:=Hd (Zai ho5 (Zai hs5 hwk5))
   clear ho5 hs5 hwk5
   have hDk : D2 ≠ k:=by
    have:=HDD.out
    have:=HMW.out
    have:=HSZ.out
    omega
   have HD5 : Hid (w5.heap[D2]? = some (.deferred (some []))):=Hd ((HW5.out.1.block D2 (Gx HI9.out.2) hDk).trans HI9.out.2)
   go_wp2
   refine ⟨by simp,.inl ⟨_,_,rfl,run_takeDeferred HD5.out,?_⟩⟩
   refine ⟨.tuple #[],by simp [results,Tryz.results19,go_sem],rfl,Or.inr ⟨HEN.out,?_⟩⟩
   have hI:=HI9.out.1
   have hTA : ∀ q,A q → ¬ T' q:=fun q hq ht => by
    have h1:=hAl.out q hq
    have:=HSZ.out
    rcases hI.tz q ht with e | e
    ·exact h1.1 e
    ·omega
   have hS5 : StM w5 B T' U s c P tv ld (undoL L S (backL S.length)):=hI.st.kept HW5.out.1 fun q hq e => by
    subst e
    obtain ⟨z1,z2,z3,z4⟩:=HZ.out _ HK.out.zone.1
    rcases hq with e | e | e | e
    ·exact hTA _ HK.out.zone.1 e
    ·exact z2 e
    ·exact z3 e
    ·exact z4 e
   have hr2 : ∀ r,some D2 = some r → ∃ o : Obj,w5.heap[r]? = some o ∧ o.isCells = false:=fun r e => by
    cases e
    exact ⟨_,HD5.out,rfl⟩
   have hg:=grownBy_putObj' w5 D2 (.deferred none)
   refine ⟨T',hS5.other hg hr2 fun q hq e => ?_,fun q hq => ?_,?_,(hg.block k (Gx HW5.out.2.2) fun e => hDk (by cases e; rfl)).trans HW5.out.2.2,hTA⟩
   ·cases e
    have:=hUl.out _ hq
    have:=HDD.out
    have:=HMW.out
    have:=HSZ.out
    omega
   ·rcases hI.tz q hq with e | e
    ·exact Or.inl e
    ·have:=HSZ.out
     exact Or.inr Om
   ·exact only_other ((hI.only.mono fun _ e => Or.inl e).trans (HW5.out.1.mono fun _ e => Or.inr e)) hg (fun r e => ⟨by cases e; have:=HDD.out; have:=HMW.out; have:=HSZ.out; omega,hr2 r e⟩) Zlr
end
section
open Go.RowKit BB
theorem sameRow_any (a a' : Option Addr) (cap cap' : Nat) (us vs : List V3) (w : World) (hl : us.length ≤ 2147483648) (hr : Row w a us) (hr' : Row w a' vs) :
  Calls Tryz.prog 26 #[.slice a us.length cap,.slice a' vs.length cap'] w fun e w' => e = .returned (.bool (eqL us vs)) ∧ Below w.heap.size w w':=by
 have HR : Hid (Row w a us):=hr
 have HR' : Hid (Row w a' vs):=hr'
 clear hr hr'
 by_cases hln : us.length = vs.length
 ·have hb0 : ((us.length : Int) != (vs.length : Int)) = false:=by simp [hln]
  have HL : Hid (us.length = vs.length):=hln
  clear hln
  go_enter Tryz.func26,Tryz.ntmps26
  go_wp2
  go_loopw [5] (fun i wr => ∃ k : Nat,k ≤ us.length ∧ i = .int .i64 k ∧ (∀ j (h : j < us.length) (h' : j < vs.length),j < k → us[j] = vs[j]) ∧ Below w.heap.size w wr) (fun i _ => us.length - (intOf i).toNat)
  case atStart => exact ⟨0,Nat.zero_le _,rfl,fun j _ _ g => absurd g (Nat.not_lt_zero _),Bxr _ _⟩
  case round =>
   obtain ⟨k,hk,rfl,hall,hb⟩:=hrel
   have HA : Hid (∀ j (h : j < us.length) (h' : j < vs.length),j < k → us[j] = vs[j]):=hall
   clear hall
   by_cases hlt : k < us.length
   ·have hltv : k < vs.length:=by have:=HL.out; omega
    obtain ⟨b,off,rfl,c0,c1,c2⟩:=HR.out k hlt
    obtain ⟨b',off',rfl,p0,p1,p2⟩:=HR'.out k hltv
    have d0:=cell_later hb c0
    have d1:=cell_later hb c1
    have d2:=cell_later hb c2
    have q0:=cell_later hb p0
    have q1:=cell_later hb p1
    have q2:=cell_later hb p2
    clear c0 c1 c2 p0 p1 p2
    have hlt1 : (k : Int) < (us.length : Int):=by omega
    have hlt2 : (k : Int) < (vs.length : Int):=by omega
    by_cases hkv : us[k] = vs[k]
    ·have HK : Hid (us[k] = vs[k]):=hkv
     rw [← hkv] at q0 q1 q2
     clear hkv
     go_wp2
     go_quiet (fail)
     go_wp2
     go_roundw
     case rel => exact ⟨k + 1,by omega,by go_num,upto2 HA.out HK.out,Bw⟩
     case measure => simp [intOf]; omega
    ·have HE : Hid (eqL us vs = false):=eqL_at k hlt hltv hkv
     obtain ⟨u,hu⟩:=Vx (us[k])
     obtain ⟨v,hv⟩:=Vx (vs[k])
     rw [hu] at d0 d1 d2 hkv
     rw [hv] at q0 q1 q2 hkv
     clear hu hv HA
     have hne : (u.1 == v.1) = false ∨ ((u.1 == v.1) = true ∧ (u.2.1 == v.2.1) = false) ∨ ((u.1 == v.1) = true ∧ (u.2.1 == v.2.1) = true ∧ (u.2.2.toList == v.2.2.toList) = false):=by
      by_cases e1 : u.1 = v.1
      ·by_cases e2 : u.2.1 = v.2.1
       ·by_cases e3 : u.2.2 = v.2.2
        ·exact absurd (v3_ext e1 e2 e3) hkv
        ·refine Or.inr (Or.inr ⟨by simpa using e1,by simpa using e2,?_⟩)
         rw [beq_eq_false_iff_ne,ByteArray.toList_eq,ByteArray.toList_eq]
         exact fun h => e3 (ba_ext h)
       ·exact Or.inr (Or.inl ⟨by simpa using e1,by simpa using e2⟩)
      ·exact Or.inl (by simpa using e1)
     clear hkv
     rcases hne with e1 | ⟨e1,e2⟩ | ⟨e1,e2,e3⟩
     all_goals
      go_wp2
      go_quiet (fail)
      go_wp2
      go_ret
      exact ⟨ret_bool HE.out.symm,Bw⟩
   ·have hk' : k = us.length:=by omega
    subst hk'
    go_wp2
    go_ret
    exact ⟨ret_bool (eqL_all HL.out (fun j h h' => HA.out j h h' h)).symm,Bw⟩
 ·have hb0 : ((us.length : Int) != (vs.length : Int)) = true:=by simp; omega
  rw [eqL_len hln]
  clear hln
  go_enter Tryz.func26,Tryz.ntmps26
  go_wp2
  go_ret
  exact ⟨rfl,Bw⟩
end
section
open Go.RowKit BB
theorem sameRows_any (w : World) (a a' : Option Addr) (cap cap' : Nat) (L M : List Row3) (hr : RowsIn w a L) (hr' : RowsIn w a' M) (hl : L.length ≤ 4000000000) (hll : ∀ r ∈ L,r.length ≤ 2147483648) :
  Calls Tryz.prog 14 #[.slice a L.length cap,.slice a' M.length cap'] w fun e w' => (∃ b,e = .returned (.bool b) ∧ (b = true ↔ L = M)) ∧ Below w.heap.size w w':=by
 have HR:=Hd (Zai hr hr')
 have HLL:=Hd hll
 clear hr hr' hll
 obtain ⟨n,hn⟩:=Vx L.length
 obtain ⟨n',hn'⟩ : ∃ n',M.length = n':=⟨_,rfl⟩
 have HN:=Hd (Zai hn hn')
 rw [hn,hn']
 rw [hn] at hl
 clear hn hn'
 by_cases hln : n = n'
 ·subst hln
  have hb0 : ((n : Int) != (n : Int)) = false:=by simp
  go_enter Tryz.func14,Tryz.ntmps14
  go_wp2
  go_loopw [5] (fun q wr => ∃ k : Nat,k ≤ n ∧ q = .int .i64 (k : Int) ∧ (∀ j (h : j < L.length) (h' : j < M.length),j < k → L[j] = M[j]) ∧ Below w.heap.size w wr) (fun q _ => n - (intOf q).toNat)
  case atStart => exact ⟨0,Nat.zero_le _,rfl,fun _ _ _ h => absurd h (Nat.not_lt_zero _),Bxr _ _⟩
  case round =>
   obtain ⟨k,hk,rfl,hall,hb⟩:=hrel
   have HA:=Hd hall
   have HB:=Hd hb
   clear hall
   by_cases hlt : k < n
   ·have hlti : (k : Int) < (n : Int):=by omega
    have h1 : k < L.length:=by rw [HN.out.1]; exact hlt
    have h2 : k < M.length:=by rw [HN.out.2]; exact hlt
    obtain ⟨b0,o0,p0,c0,rfl,d0,r0⟩:=HR.out.1 k h1
    obtain ⟨b1,o1,p1,c1,rfl,d1,r1⟩:=HR.out.2 k h2
    have HY:=Hd (HLL.out _ (List.getElem_mem h1))
    have f0:=cell_later hb d0
    have f1:=cell_later hb d1
    have HR0:=Hd (r0.later hb)
    have HR1:=Hd (r1.later hb)
    obtain ⟨x,hx⟩:=Vx (L[k])
    obtain ⟨y,hy⟩:=Vx (M[k])
    rw [hx] at f0 HR0 HY
    rw [hy] at f1 HR1
    have HXY:=Hd (Zai hx hy)
    clear d0 d1 r0 r1 hb hx hy
    go_wp2_with fail
    go_region_held3 (fun w' => w'.cell? ⟨b0,o0 + k,none⟩ = some (.slice p0 x.length c0) ∧ w'.cell? ⟨b1,o1 + k,none⟩ = some (.slice p1 y.length c1)) (go_simp) (first | (go_at_call 26; (have hd : Below wr.heap.size wr wr.drew:=(Bxr _ _).drew); refine (sameRow_any p0 p1 c0 c1 x y _ HY.out (HR0.out.later hd) (HR1.out.later hd)).mono ?_; rintro e wv ⟨rfl,hq9⟩; (have hbb:=hd.trans (hq9.mono hd.size)); (have HB3:=Hbt HB hbb); (have s0:=cell_later hbb f0); (have s1:=cell_later hbb f1); clear hd hbb hq9))
    rename_i hHeld
    clear hHeld s0 s1
    cases hxy : eqL x y with
    | true =>
     have e:=eqL_iff.1 hxy
     have HE:=Hd (HXY.out.1.trans (e.trans HXY.out.2.symm))
     clear e hxy
     go_wp2
     go_roundw
     case rel =>
      refine ⟨k + 1,by omega,by go_num,fun j h h' hj => ?_,HB3.out⟩
      by_cases c : j = k
      ·subst c
       exact HE.out
      ·exact HA.out j h h' Om
     case measure => simp [intOf]; omega
    | false =>
     have HE : Hid (L ≠ M):=Hd fun e => by
      subst e
      have:=HXY.out.1.symm.trans HXY.out.2
      rw [eqL_iff.2 this] at hxy
      cases hxy
     clear hxy
     go_wp2
     go_ret
     exact ⟨⟨false,rfl,by simp [HE.out]⟩,HB3.out⟩
   ·have hlti : ¬ (k : Int) < (n : Int):=by omega
    obtain rfl : k = n:=by omega
    clear hb
    go_wp2
    go_ret
    exact ⟨Or.inr ⟨rfl,List.ext_getElem (HN.out.1.trans HN.out.2.symm) fun j h h' => HA.out j h h' (by rw [← HN.out.1]; exact h)⟩,HB.out⟩
 ·have hne : ((n : Int) != (n' : Int)) = true:=by simp; omega
  go_enter Tryz.func14,Tryz.ntmps14
  go_wp2
  go_ret
  exact ⟨⟨false,rfl,by simp; rintro rfl; exact hln (HN.out.1.symm.trans HN.out.2)⟩,Bxr _ _⟩
end
end Go.Proofs.YtmmmkjhpmlfopaaGreatDoor
