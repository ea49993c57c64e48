/- O48 O49 O50 O51 O52 O53 O54 O55 -/
import Derived.Test.YtmmmkjhpmlfopaaGreatDoorSB40
set_option maxHeartbeats 8000000
set_option maxRecDepth 100000
namespace Go.Proofs.YtmmmkjhpmlfopaaGreatDoor
open Go.RowKit
section
open Go.RowKit BB
def StIn (w : World) (a : Option Addr) (Ls : List (List Row3)) : Prop:=∀ i (h : i < Ls.length),∃ b off p cap,a = some ⟨b,off,none⟩ ∧ w.cell? ⟨b,off + i,none⟩ = some (.slice p (Ls[i]).length cap) ∧ RowsIn w p Ls[i]
theorem RowsO.rows {w : World} {B : Nat} {p : Option Addr} {n cap : Nat} {L : List Row3} (h : RowsO w B (.slice p n cap) L) : RowsIn w p L:=fun i hi => by
 obtain ⟨us,h1,h2,h3,-⟩:=h.own
 obtain ⟨e,-⟩:=own_some h2 Om
 have hu : i < us.length:=by omega
 obtain ⟨q,c,e2,hr⟩:=Row.of_own (h3 i hu hi)
 rw [e] at h2
 have ha : p = some ⟨vBlk (.slice p n cap),0,none⟩:=by
  have:=e
  simp only [Value.slice.injEq] at this
  exact this.1
 refine ⟨_,0,q,c,ha,?_,hr⟩
 rw [Nat.zero_add,h2.cellAt i Om,List.getElem?_eq_getElem hu,e2]
theorem StO.reads {w : World} {B : Nat} {p : Option Addr} {n cap : Nat} {Ls : List (List Row3)} (h : StO w B (.slice p n cap) Ls) : StIn w p Ls:=fun i hi => by
 obtain ⟨us,h1,h2,h3⟩:=h.own
 obtain ⟨e,-⟩:=own_some h2 Om
 have hu : i < us.length:=by omega
 have h4:=h3 i hu hi
 obtain ⟨_,_,q2,_⟩:=h4.own
 obtain ⟨q,c,e2⟩:=ownF q2
 rw [e2] at h4
 rw [e] at h2
 have ha : p = some ⟨vBlk (.slice p n cap),0,none⟩:=by
  have:=e
  simp only [Value.slice.injEq] at this
  exact this.1
 refine ⟨_,0,q,c,ha,?_,h4.rows⟩
 rw [Nat.zero_add,h2.cellAt i Om,List.getElem?_eq_getElem hu,e2]
theorem sameState_any (w : World) (a a' : Option Addr) (cap cap' : Nat) (L M : List (List Row3)) (hr : StIn w a L) (hr' : StIn w a' M) (hl : L.length ≤ 4000000000) (hll : ∀ l ∈ L,l.length ≤ 4000000000 ∧ ∀ r ∈ l,r.length ≤ 2147483648) :
  Calls Tryz.prog 21 #[.agg #[.slice a L.length cap],.agg #[.slice a' M.length cap']] w fun e w' => (∃ b,e = .returned (.bool b) ∧ (b = true ↔ L = M)) ∧ Below w.heap.size w w':=by
 have HR:=Hd (Zai hr hr')
 have HLL:=Hd hll
 clear hr hr' hll
 obtain ⟨n,hn⟩:=Vx L.length
 obtain ⟨n',hn'⟩ : ∃ n',M.length = n':=⟨_,rfl⟩
 have HN:=Hd (Zai hn hn')
 rw [hn,hn']
 rw [hn] at hl
 clear hn hn'
 obtain ⟨W0,hW0⟩:=Vx ((w.alloc (Obj.cells #[.slice a n cap] 56)).alloc (Obj.cells #[.slice a' n' cap'] 56))
 have hb0 : Below w.heap.size w W0:=by rw [← hW0]; exact ((Bxr _ w).alloc Zlr _).alloc Si _
 have k0 : W0.heap[w.heap.size]? = some (.cells #[.slice a n cap] 56 (0,0)):=by
  rw [← hW0]
  exact (alloc_low9 Si).trans (heap_alloc_new w _)
 have k1 : W0.heap[w.heap.size + 1]? = some (.cells #[.slice a' n' cap'] 56 (0,0)):=by
  rw [← hW0]
  have:=heap_alloc_new (w.alloc (Obj.cells #[.slice a n cap] 56)) (Obj.cells #[.slice a' n' cap'] 56)
  rwa [World.size_alloc] at this
 have c0 : W0.cell? ⟨w.heap.size,0,none⟩ = some (.slice a n cap):=cell_blk k0 rfl
 have c1 : W0.cell? ⟨w.heap.size + 1,0,none⟩ = some (.slice a' n' cap'):=cell_blk k1 rfl
 have HB0:=Hd hb0
 have HC:=Hd (Zai c0 c1)
 have HW0:=Hd hW0
 clear k0 k1 hb0 hW0
 by_cases hln : n = n'
 ·subst hln
  have hb0 : ((n : Int) != (n : Int)) = false:=by simp
  go_enter Tryz.func21,Tryz.ntmps21
  have hW0:=HW0.out
  go_wp2
  try rw [hW0]
  clear hW0
  go_wp2
  go_loopw [5] (fun q wr => ∃ k : Nat,k ≤ n ∧ q = .int .i64 (k : Int) ∧ (∀ j (h : j < L.length) (h' : j < M.length),j < k → L[j] = M[j]) ∧ Below W0.heap.size W0 wr) (fun q _ => n - (intOf q).toNat)
  case atStart => exact ⟨0,Nat.zero_le _,rfl,fun _ _ _ h => absurd h (Nat.not_lt_zero _),Bz⟩
  case round =>
   obtain ⟨k,hk,rfl,hall,hb⟩:=hrel
   have HA:=Hd hall
   have HB:=Hd hb
   have e0:=cell_later hb HC.out.1
   have e1:=cell_later hb HC.out.2
   clear hall
   by_cases hlt : k < n
   ·have hlti : (k : Int) < (n : Int):=by omega
    have h1 : k < L.length:=by rw [HN.out.1]; exact hlt
    have h2 : k < M.length:=by rw [HN.out.2]; exact hlt
    have hbw:=HB0.out.trans (hb.mono HB0.out.size)
    obtain ⟨b0,o0,p0,q0,rfl,d0,r0⟩:=HR.out.1 k h1
    obtain ⟨b1,o1,p1,q1,rfl,d1,r1⟩:=HR.out.2 k h2
    have HY:=Hd (HLL.out _ (List.getElem_mem h1))
    have f0:=cell_later hbw d0
    have f1:=cell_later hbw d1
    have HR0:=Hd (r0.later hbw)
    have HR1:=Hd (r1.later hbw)
    obtain ⟨x,hx⟩:=Vx (L[k])
    obtain ⟨y,hy⟩:=Vx (M[k])
    rw [hx] at f0 HR0 HY
    rw [hy] at f1 HR1
    have HXY:=Hd (Zai hx hy)
    clear d0 d1 r0 r1 hb hx hy hbw
    go_wp2_with fail
    go_region_held3 (fun w' => w'.cell? ⟨b0,o0 + k,none⟩ = some (.slice p0 x.length q0) ∧ w'.cell? ⟨b1,o1 + k,none⟩ = some (.slice p1 y.length q1) ∧ w'.cell? ⟨w.heap.size,0,none⟩ = some (.slice (some ⟨b0,o0,none⟩) n cap) ∧ w'.cell? ⟨w.heap.size + 1,0,none⟩ = some (.slice (some ⟨b1,o1,none⟩) n cap')) (go_simp) (first | (go_at_call 14; (have hd : Below wr.heap.size wr wr.drew:=(Bxr _ _).drew); refine (sameRows_any _ p0 p1 q0 q1 x y (HR0.out.later hd) (HR1.out.later hd) HY.out.1 HY.out.2).mono ?_; rintro e wv ⟨⟨bb,rfl,hbb2⟩,hq9⟩; (have HBB:=Hd hbb2); (have hbb:=hd.trans (hq9.mono hd.size)); (have HB3:=Hbt HB hbb); (have s0:=cell_later hbb f0); (have s1:=cell_later hbb f1); (have s2:=cell_later hbb e0); (have s3:=cell_later hbb e1); clear hd hbb hq9 hbb2))
    rename_i hHeld
    clear hHeld s0 s1 s2 s3
    cases bb with
    | true =>
     have HE:=Hd (HXY.out.1.trans ((HBB.out.1 rfl).trans HXY.out.2.symm))
     go_wp2
     go_roundw
     case rel =>
      refine ⟨k + 1,by omega,by go_num,fun j h h' hj => ?_,HB3.out⟩
      by_cases c : j = k
      ·subst c
       exact HE.out
      ·exact HA.out j h h' Om
     case measure => simp [intOf]; omega
    | false =>
     have HE : Hid (L ≠ M):=Hd fun e => by
      subst e
      have h9:=HXY.out.1.symm.trans HXY.out.2
      exact absurd (HBB.out.2 h9) Si
     go_wp2
     go_ret
     exact ⟨⟨false,rfl,by simp [HE.out]⟩,HB0.out.trans (HB3.out.mono HB0.out.size)⟩
   ·have hlti : ¬ (k : Int) < (n : Int):=by omega
    obtain rfl : k = n:=by omega
    clear hb
    go_wp2
    go_ret
    exact ⟨Or.inr ⟨rfl,List.ext_getElem (HN.out.1.trans HN.out.2.symm) fun j h h' => HA.out j h h' (by rw [← HN.out.1]; exact h)⟩,HB0.out.trans (HB.out.mono HB0.out.size)⟩
 ·have hne : ((n : Int) != (n' : Int)) = true:=by simp; omega
  go_enter Tryz.func21,Tryz.ntmps21
  go_wp2
  go_ret
  exact ⟨⟨false,rfl,by simp; rintro rfl; exact hln (HN.out.1.symm.trans HN.out.2)⟩,Bz⟩
end
section
open Go.RowKit BB
theorem number9_any (n : Int) (w : World) :
  Calls Tryz.prog 24 #[.int .i64 n] w fun e w' => e = .returned (.agg #[.int .i64 1,.int .i64 n,.string ⟨#[]⟩]) ∧ Below w.heap.size w w':=by
 go_enter Tryz.func24,Tryz.ntmps24
 go_wp2
 exact bodyPost_ret (v:=.agg #[.int .i64 1,.int .i64 n,.string ⟨#[]⟩]) (by simp [results,Tryz.results24,go_sem]) rfl ⟨rfl,Bz⟩
theorem alloc_at {w : World} {o : Obj} {k : Nat} (h : k = w.heap.size) : (w.alloc o).heap[k]? = some o:=by
 subst h
 exact World.alloc_heap_new w o
theorem rowR_block {α : Type} {n : Nat} {R : α → List Value → Prop} {w : World} {g : Nat} {cs : Array Value} {t : TypeId} {fr : Nat × Nat} {l : List α} (h : w.heap[g]? = some (.cells cs t fr)) (hl : ∀ i (hi : i < l.length),∃ vs,R l[i] vs ∧ vs.length = n ∧ ∀ j (hj : j < vs.length),cs[i * n + j]? = some vs[j]) : TT.RowR n R w (some ⟨g,0,none⟩) l:=by
 intro i hi
 obtain ⟨vs,h1,h2,h3⟩:=hl i hi
 refine ⟨g,0,vs,rfl,h1,h2,fun j hj => ?_⟩
 have:=h3 j hj
 simp only [World.cell?,h,Nat.zero_add]
 exact this
theorem ex_blocks (w : World) (a b c d e f : Obj) : (((((((w.alloc a).alloc b).alloc c).alloc d).alloc e).alloc f).heap[w.heap.size + 1]? = some b ∧ ((((((w.alloc a).alloc b).alloc c).alloc d).alloc e).alloc f).heap[w.heap.size + 1 + 1]? = some c ∧ ((((((w.alloc a).alloc b).alloc c).alloc d).alloc e).alloc f).heap[w.heap.size + 1 + 1 + 1]? = some d ∧ ((((((w.alloc a).alloc b).alloc c).alloc d).alloc e).alloc f).heap[w.heap.size + 1 + 1 + 1 + 1]? = some e ∧ ((((((w.alloc a).alloc b).alloc c).alloc d).alloc e).alloc f).heap[w.heap.size + 1 + 1 + 1 + 1 + 1]? = some f):=by
 refine ⟨?_,?_,?_,?_,?_⟩
 ·exact (alloc_low9 Si).trans ((alloc_low9 Si).trans ((alloc_low9 Si).trans ((alloc_low9 Si).trans (alloc_at Si))))
 ·exact (alloc_low9 Si).trans ((alloc_low9 Si).trans ((alloc_low9 Si).trans (alloc_at Si)))
 ·exact (alloc_low9 Si).trans ((alloc_low9 Si).trans (alloc_at Si))
 ·exact (alloc_low9 Si).trans (alloc_at Si)
 ·exact alloc_at Si
def exT : TT.Tb:=⟨⟨#[116]⟩,[⟨⟨#[105,100]⟩,1,true⟩,⟨⟨#[118]⟩,3,false⟩],[0],0,[⟨⟨#[98,121,95,118]⟩,[1],true⟩]⟩
def exC : TT.Ct:=⟨[exT],[]⟩
theorem exC_right : TT.rightC exC = true:=by decide +kernel
theorem example9_any (w : World) : Calls Tryz.prog 23 #[] w fun e w' => ∃ vs,e = .returned (.agg vs.toArray) ∧ TT.CtR w' exC vs ∧ Below w.heap.size w w':=by
 go_enter Tryz.func23,Tryz.ntmps23
 go_wp2
 refine bodyPost_ret (v:=.agg #[.slice (some ⟨w.heap.size + 1 + 1 + 1 + 1 + 1,0,none⟩) 1 1,.slice none 0 0]) (by simp [results,Tryz.results23,go_sem]) rfl ?_
 refine ⟨[.slice (some ⟨w.heap.size + 1 + 1 + 1 + 1 + 1,0,none⟩) 1 1,.slice none 0 0],rfl,⟨_,1,none,0,rfl,rowR_block (ex_blocks w _ _ _ _ _ _).2.2.2.2 ?_,TT.RowR.nil⟩,Bz⟩
 intro i hi
 match i,hi with
 | 0,_ =>
  refine ⟨[.string ⟨#[116]⟩,.slice (some ⟨w.heap.size + 1,0,none⟩) 2 2,.slice (some ⟨w.heap.size + 1 + 1,0,none⟩) 1 1,.int .i64 0,.slice (some ⟨w.heap.size + 1 + 1 + 1 + 1,0,none⟩) 1 1],⟨_,_,_,_,_,_,rfl,rowR_block (ex_blocks w _ _ _ _ _ _).1 ?_,rowR_block (ex_blocks w _ _ _ _ _ _).2.1 ?_,rowR_block (ex_blocks w _ _ _ _ _ _).2.2.2.1 ?_⟩,rfl,fun j hj => match j,hj with | 0,_ => rfl | 1,_ => rfl | 2,_ => rfl | 3,_ => rfl | 4,_ => rfl⟩
  ·intro i hi
   match i,hi with
   | 0,_ => exact ⟨_,rfl,rfl,fun j hj => match j,hj with | 0,_ => rfl | 1,_ => rfl | 2,_ => rfl⟩
   | 1,_ => exact ⟨_,rfl,rfl,fun j hj => match j,hj with | 0,_ => rfl | 1,_ => rfl | 2,_ => rfl⟩
  ·intro i hi
   match i,hi with
   | 0,_ => exact ⟨_,rfl,rfl,fun j hj => match j,hj with | 0,_ => rfl⟩
  ·intro i hi
   match i,hi with
   | 0,_ =>
    refine ⟨[.string ⟨#[98,121,95,118]⟩,.slice (some ⟨w.heap.size + 1 + 1 + 1,0,none⟩) 1 1,.bool true],⟨_,_,rfl,rowR_block (ex_blocks w _ _ _ _ _ _).2.2.1 ?_⟩,rfl,fun j hj => match j,hj with | 0,_ => rfl | 1,_ => rfl | 2,_ => rfl⟩
    intro i hi
    match i,hi with
    | 0,_ => exact ⟨_,rfl,rfl,fun j hj => match j,hj with | 0,_ => rfl⟩
end
section
open Go.RowKit BB
theorem sorted_same {α : Type} {R : α → α → Prop} (hi : ∀ a,¬ R a a) (ht : ∀ a b c,R a b → R b c → R a c) : ∀ (l m : List α),l.Pairwise R → m.Pairwise R → (∀ x,x ∈ l ↔ x ∈ m) → l = m
 | [],[],_,_,_ => rfl
 | [],b :: m,_,_,h => absurd ((h b).2 List.mem_cons_self) Si
 | a :: l,[],_,_,h => absurd ((h a).1 List.mem_cons_self) Si
 | a :: l,b :: m,h1,h2,h => by
  obtain ⟨g1,p1⟩:=List.pairwise_cons.1 h1
  obtain ⟨g2,p2⟩:=List.pairwise_cons.1 h2
  have e : a = b:=by
   rcases Zmc ((h a).1 List.mem_cons_self) with e | e
   ·exact e
   ·rcases Zmc ((h b).2 List.mem_cons_self) with e2 | e2
    ·exact e2.symm
    ·exact absurd (ht _ _ _ (g1 b e2) (g2 a e)) (hi a)
  subst e
  rw [sorted_same hi ht l m p1 p2 fun x => ⟨fun hx => ?_,fun hx => ?_⟩]
  ·rcases Zmc ((h x).1 (List.mem_cons_of_mem _ hx)) with e | e
   ·subst e
    exact absurd (g1 x hx) (hi x)
   ·exact e
  ·rcases Zmc ((h x).2 (List.mem_cons_of_mem _ hx)) with e | e
   ·subst e
    exact absurd (g2 x hx) (hi x)
   ·exact e
theorem ScanP.same {D D' : TD} {j : Nat} {rs rs' : List Row3} {lo hi : ByteArray} {L L' : List Row3} (h : ScanP D j rs lo hi L) (h' : ScanP D' j rs' lo hi L') (ht : D'.t = D.t) (hr : ∀ r,r ∈ rs ↔ r ∈ rs') : L = L':=by
 obtain ⟨a1,a2⟩:=h
 obtain ⟨b1,b2⟩:=h'
 rw [ht] at b1 b2
 refine sorted_same (R:=fun a b => kl (skJ D.t j a) (skJ D.t j b) = true) (fun a => ?_) (fun a b c => ?_) L L' a1 b1 fun x => ?_
 ·simp [kl_irrefl]
 ·exact kl_trans
 ·rw [a2,b2,hr]
end
section
open Go.RowKit BB
theorem undoL_take (L : TabL) (S : List Strk) : ∀ m,m ≤ S.length → undoL L S ((backL S.length).take m) = (S.reverse.take m).foldl undo1 L
 | 0,_ => rfl
 | m + 1,h => by
  have hx : S[S.length - 1 - m]? = some (S[S.length - 1 - m]'Om):=List.getElem?_eq_getElem _
  have hr : S.reverse[m]? = some (S[S.length - 1 - m]'Om):=by
   rw [List.getElem?_reverse Om,hx]
  rw [backL_next Om,undoL_snoc hx,undoL_take L S m Om,List.take_add_one,hr,List.foldl_append]
  rfl
theorem undoL_all (L : TabL) (S : List Strk) : undoL L S (backL S.length) = S.reverse.foldl undo1 L:=by
 have:=undoL_take L S S.length Zlr
 rw [backL_all] at this
 rw [this,← List.length_reverse,List.take_length]
theorem mem_dropK {t : TT.Tb} {l : List V3} {rs : List Row3} {r : Row3} : r ∈ dropK t l rs ↔ r ∈ rs ∧ pick3 r t.key ≠ l:=by simp [dropK]
theorem mem_putK {t : TT.Tb} {q : Row3} {rs : List Row3} {r : Row3} : r ∈ putK t q rs ↔ (r ∈ rs ∧ pick3 r t.key ≠ pick3 q t.key) ∨ r = q:=by
 unfold putK
 rw [List.mem_append,mem_dropK,List.mem_singleton]
def undoR (t : TT.Tb) (rs : List Row3) (x : Strk) : List Row3:=putKs t x.tk (dropKs t x.br rs)
theorem undo_one (D : TD) (rs : List Row3) : ∀ S : List Strk,(∀ x ∈ S,x.j = 0) → S.foldl undo1 [(D,rs)] = [(D,S.foldl (undoR D.t) rs)]
 | [],_ => rfl
 | x :: S,h => by
  have e : undo1 [(D,rs)] x = [(D,undoR D.t rs x)]:=by
   have hj:=h x List.mem_cons_self
   rw [undo1_at (D:=D) (rs:=rs) (by rw [hj]; rfl),hj]
   rfl
  rw [List.foldl_cons,e,undo_one D _ S fun y hy => h y (List.mem_cons_of_mem _ hy)]
  rfl
inductive Hist (t : TT.Tb) (own : List V3 → Prop) : List Strk → (Row3 → Prop) → Prop
 | nil : Hist t own [] fun _ => False
 | snoc {S : List Strk} {E : Row3 → Prop} (h : Hist t own S E) (x : Strk) (k : List V3) (new : List Row3) (hk : own k) (h1 : x.tk = [] ∧ (∀ r,E r → pick3 r t.key ≠ k) ∨ ∃ r,x.tk = [r] ∧ E r ∧ pick3 r t.key = k ∧ ∀ q,E q → pick3 q t.key = k → q = r) (h2 : new = [] ∧ x.br = [] ∨ ∃ r,new = [r] ∧ pick3 r t.key = k ∧ x.br = [k]) : Hist t own (S ++ [x]) fun r => (E r ∧ pick3 r t.key ≠ k) ∨ r ∈ new
theorem undoR_mem {t : TT.Tb} {own : List V3 → Prop} {E : Row3 → Prop} {x : Strk} {k : List V3} {new rs : List Row3} (hk : own k) (h1 : x.tk = [] ∧ (∀ r,E r → pick3 r t.key ≠ k) ∨ ∃ r,x.tk = [r] ∧ E r ∧ pick3 r t.key = k ∧ ∀ q,E q → pick3 q t.key = k → q = r) (h2 : new = [] ∧ x.br = [] ∨ ∃ r,new = [r] ∧ pick3 r t.key = k ∧ x.br = [k]) (hrs : ∀ r,(r ∈ rs ∧ own (pick3 r t.key)) ↔ ((E r ∧ pick3 r t.key ≠ k) ∨ r ∈ new)) (hE : ∀ r,E r → own (pick3 r t.key)) :
  (∀ r,(r ∈ undoR t rs x ∧ own (pick3 r t.key)) ↔ E r) ∧ ∀ r,¬ own (pick3 r t.key) → (r ∈ undoR t rs x ↔ r ∈ rs):=by
 have hd : ∀ r,r ∈ dropKs t x.br rs ↔ r ∈ rs ∧ (x.br = [k] → pick3 r t.key ≠ k):=fun r => by
  rw [mem_dropKs]
  rcases h2 with ⟨_,e⟩ | ⟨_,_,_,e⟩ <;> simp [e]
 have hown : ∀ r,r ∈ dropKs t x.br rs ∧ own (pick3 r t.key) ↔ E r ∧ pick3 r t.key ≠ k:=fun r => by
  rw [hd]
  have:=hrs r
  rcases h2 with ⟨rfl,e⟩ | ⟨q,rfl,hq,e⟩
  ·simp only [e,List.not_mem_nil,or_false] at this ⊢
   simpa using this
  ·constructor
   ·rintro ⟨⟨a,b⟩,c⟩
    rcases this.1 ⟨a,c⟩ with d | d
    ·exact d
    ·rw [Zms d] at b
     exact absurd hq (b e)
   ·intro d
    have:=this.2 (Or.inl d)
    exact ⟨⟨this.1,fun _ => d.2⟩,this.2⟩
 unfold undoR
 rcases h1 with ⟨e,hno⟩ | ⟨q,e,hq,hqk,hone⟩
 ·rw [e]
  show (∀ r,(r ∈ dropKs t x.br rs ∧ own (pick3 r t.key)) ↔ E r) ∧ _
  refine ⟨fun r => (hown r).trans ⟨And.left,fun h => ⟨h,hno r h⟩⟩,fun r hr => ?_⟩
  show r ∈ dropKs t x.br rs ↔ _
  rw [hd]
  exact ⟨And.left,fun h => ⟨h,fun _ e2 => hr (e2 ▸ hk)⟩⟩
 ·rw [e]
  show (∀ r,(r ∈ putK t q (dropKs t x.br rs) ∧ own (pick3 r t.key)) ↔ E r) ∧ ∀ r,¬ own (pick3 r t.key) → (r ∈ putK t q (dropKs t x.br rs) ↔ r ∈ rs)
  refine ⟨fun r => ?_,fun r hr => ?_⟩
  ·rw [mem_putK,hqk]
   constructor
   ·rintro ⟨⟨a,b⟩ | rfl,c⟩
    ·exact ((hown r).1 ⟨a,c⟩).1
    ·exact hq
   ·intro h
    by_cases c : pick3 r t.key = k
    ·exact ⟨Or.inr (hone r h c),hE r h⟩
    ·have:=(hown r).2 ⟨h,c⟩
     exact ⟨Or.inl ⟨this.1,c⟩,this.2⟩
  ·rw [mem_putK,hqk,hd]
   constructor
   ·rintro (⟨⟨a,_⟩,_⟩ | rfl)
    ·exact a
    ·exact absurd (hqk ▸ hk) hr
   ·intro a
    have hne : pick3 r t.key ≠ k:=fun e2 => hr (e2 ▸ hk)
    exact Or.inl ⟨⟨a,fun _ => hne⟩,hne⟩
theorem Hist.own {t : TT.Tb} {own : List V3 → Prop} {S : List Strk} {E : Row3 → Prop} (h : Hist t own S E) : ∀ r,E r → own (pick3 r t.key):=by
 induction h with
 | nil => exact fun _ h => h.elim
 | snoc h x k new hk h1 h2 ih =>
  rintro r (⟨a,_⟩ | a)
  ·exact ih r a
  ·rcases h2 with ⟨rfl,_⟩ | ⟨q,rfl,hq,_⟩
   ·cases a
   ·rw [Zms a,hq]
    exact hk
theorem Hist.undone {t : TT.Tb} {own : List V3 → Prop} {S : List Strk} {E : Row3 → Prop} (h : Hist t own S E) : ∀ rs : List Row3,(∀ r,(r ∈ rs ∧ own (pick3 r t.key)) ↔ E r) → ∀ r,r ∈ S.reverse.foldl (undoR t) rs ↔ r ∈ rs ∧ ¬ own (pick3 r t.key):=by
 induction h with
 | nil => exact fun rs h r => ⟨fun a => ⟨a,fun b => (h r).1 ⟨a,b⟩⟩,And.left⟩
 | snoc h x k new hk h1 h2 ih =>
  intro rs hrs r
  obtain ⟨a,b⟩:=undoR_mem hk h1 h2 hrs h.own
  rw [List.reverse_append,List.reverse_singleton,List.singleton_append,List.foldl_cons,ih _ a r]
  constructor
  ·rintro ⟨c,d⟩
   exact ⟨(b r d).1 c,d⟩
  ·rintro ⟨c,d⟩
   exact ⟨(b r d).2 c,d⟩
end
section
open Go.RowKit BB
def bT : TT.Tb:=⟨⟨#[116]⟩,[⟨⟨#[107]⟩,1,true⟩,⟨⟨#[118]⟩,1,false⟩],[0],0,[⟨⟨#[105]⟩,[1],false⟩]⟩
def bC : TT.Ct:=⟨[bT],[]⟩
theorem bC_right : TT.rightC bC = true:=by decide +kernel
def nV (n : Int) : V3:=(1,n,⟨#[]⟩)
def rw2 (k v : Int) : Row3:=[nV k,nV v]
theorem nV_right {n : Int} (h : -4000 ≤ n ∧ n ≤ 4000) : V3.right (nV n) = true:=by
 have h1 : -4611686018427387904 ≤ n:=by omega
 have h2 : n ≤ 4611686018427387904:=by omega
 simp [V3.right,rgt,nV,h1,h2]
theorem rw2_fit {k v : Int} (hk : V3.right (nV k) = true) (hv : V3.right (nV v) = true) : fitR bT (rw2 k v):=by
 refine ⟨rfl,fun i h h' => ?_⟩
 match i,h with
 | 0,_ => simp [rw2,fitsV,bT,hk]; simp [nV]
 | 1,_ => simp [rw2,fitsV,bT,hv]; simp [nV]
theorem rw2_full (k v : Int) : ¬ lackR bT (rw2 k v):=by
 rintro ⟨i,h,h',e,_⟩
 match i,h with
 | 0,_ => simp [rw2,nV] at e
 | 1,_ => simp [rw2,nV] at e
theorem rw2_key (k v : Int) : pick3 (rw2 k v) bT.key = [nV k]:=rfl
theorem come_zero {D : TD} {rs inn : List Row3} {ks : List (List UInt8)} {n : Int} (hD : D.t = bT) (h : ComeP D rs ks inn n) (hin : inn = [] ∨ ∃ k v,inn = [rw2 k v] ∧ V3.right (nV k) = true ∧ V3.right (nV v) = true) (hno : ∀ r ∈ inn,∀ q ∈ rs,TT.bs (nmR bT q) ∉ ks → pick3 q bT.key ≠ pick3 r bT.key) : n = 0:=by
 unfold ComeP at h
 rw [hD] at h
 have hf : ∀ r ∈ inn,fitR bT r ∧ ¬ lackR bT r:=fun r hr => by
  rcases hin with rfl | ⟨k,v,rfl,h1,h2⟩
  ·cases hr
  ·rw [Zms hr]
   exact ⟨rw2_fit h1 h2,rw2_full k v⟩
 have hl : inn.length ≤ 1:=by
  rcases hin with rfl | ⟨k,v,rfl,_⟩ <;> simp
 rcases h with ⟨⟨r,hr,hn⟩,_⟩ | ⟨_,⟨⟨r,hr,hn⟩,_⟩ | ⟨_,⟨⟨j,hj,hu,k,hk,_,hc⟩,_⟩ | ⟨_,e⟩⟩⟩
 ·exact absurd (hf r hr).1 hn
 ·exact absurd hn (hf r hr).2
 ·exfalso
  have hK : D.K = 2:=by unfold TD.K; rw [hD]; rfl
  obtain rfl : k = 0:=by omega
  rw [hD] at hu hc
  match j,(by omega : j < 2) with
  | 0,_ =>
   rcases hc with hc | ⟨q,hq,h1,h2⟩
   ·simp [metJ] at hc
   ·exact hno _ (List.getElem_mem hk) q hq h1 h2
  | 1,_ => cases hu
 ·exact e
end
section
open Go.RowKit BB
structure Rep (rs out inn : List Row3) (k : Int) : Prop where
 out : out = [] ∧ (∀ r ∈ rs,pick3 r bT.key ≠ [nV k]) ∨ ∃ q,out = [q] ∧ q ∈ rs ∧ pick3 q bT.key = [nV k]
 inn : inn = [] ∨ ∃ v,inn = [rw2 k v] ∧ V3.right (nV k) = true ∧ V3.right (nV v) = true
theorem Rep.mem {rs out inn : List Row3} {k : Int} (h : Rep rs out inn k) (r : Row3) : r ∈ putKs bT inn (dropKs bT (keysL bT out) rs) ↔ (r ∈ rs ∧ pick3 r bT.key ≠ [nV k]) ∨ r ∈ inn:=by
 have hd : ∀ r,(r ∈ dropKs bT (keysL bT out) rs ∧ pick3 r bT.key ≠ [nV k]) ↔ r ∈ rs ∧ pick3 r bT.key ≠ [nV k]:=fun r => by
  rw [mem_dropKs]
  rcases h.out with ⟨rfl,hno⟩ | ⟨q,rfl,_,hq⟩
  ·simp [keysL]
  ·simp [keysL,hq]
 have hd2 : ∀ r,r ∈ dropKs bT (keysL bT out) rs → pick3 r bT.key ≠ [nV k]:=fun r hr => by
  rw [mem_dropKs] at hr
  rcases h.out with ⟨rfl,hno⟩ | ⟨q,rfl,_,hq⟩
  ·exact hno r hr.1
  ·exact hr.2 _ (by simp [keysL,hq])
 rcases h.inn with rfl | ⟨v,rfl,_⟩
 ·show r ∈ dropKs bT (keysL bT out) rs ↔ _
  simp only [List.not_mem_nil,or_false]
  exact ⟨fun a => (hd r).1 ⟨a,hd2 r a⟩,fun a => ((hd r).2 a).1⟩
 ·show r ∈ putK bT (rw2 k v) (dropKs bT (keysL bT out) rs) ↔ _
  rw [mem_putK,rw2_key,hd,List.mem_singleton]
theorem Rep.leaves {D : TD} {rs out inn : List Row3} {k : Int} (hok : TabOk D.t rs) (h : Rep rs out inn k) : ∀ i,i < out.length → leavesAt D rs out i:=fun i hi => by
 rcases h.out with ⟨rfl,_⟩ | ⟨q,rfl,hq,_⟩
 ·cases hi
 ·obtain rfl : i = 0:=by simp at hi; omega
  exact ⟨hi,hok.fit q hq,by simp [namesL],q,hq,rfl⟩
theorem Rep.come {D : TD} {rs out inn : List Row3} {k n : Int} (hD : D.t = bT) (h : Rep rs out inn k) (hc : ComeP D rs (namesL D.t out) inn n) : n = 0:=by
 refine come_zero hD hc (h.inn.imp id fun ⟨v,a,b,c⟩ => ⟨k,v,a,b,c⟩) fun r hr q hq hn => ?_
 rcases h.inn with rfl | ⟨v,rfl,_⟩
 ·cases hr
 ·rw [Zms hr,rw2_key]
  rcases h.out with ⟨_,hno⟩ | ⟨q2,rfl,hq2,hk2⟩
  ·exact hno q hq
  ·intro e
   refine hn ?_
   rw [hD]
   simp only [namesL,List.map_cons,List.map_nil,List.mem_singleton]
   unfold nmR
   rw [e,hk2]
theorem Rep.took {D : TD} {rs out inn tk : List Row3} {k : Int} (hok : TabOk D.t rs) (h : Rep rs out inn k) (hm : MatchK D.t rs (keysL D.t out) tk) : tk = out:=by
 obtain ⟨h1,h2⟩:=hm
 rcases h.out with ⟨rfl,_⟩ | ⟨q,rfl,hq,hk⟩
 ·exact List.eq_nil_of_length_eq_zero h1
 ·match tk,h1 with
  | [x],_ =>
   obtain ⟨a,b⟩:=h2 0 Si (by simp [keysL])
   have e : nmR D.t x = nmR D.t q:=by
    unfold nmR
    exact congrArg kE b
   rw [hok.one x a q hq e]
end
section
open Go.RowKit BB
def evk (l : List V3) : Prop:=∃ m : Int,l = [nV (2 * m)]
def SZ (T U : Nat → Prop) (s : Nat) (tv : Value) (q : Nat) : Prop:=T q ∨ U q ∨ q = s ∨ tv.ownBlock = some q
def Dis (X Y : Nat → Prop) : Prop:=∀ q,X q → ¬ Y q
theorem Dis.symm {X Y : Nat → Prop} (h : Dis X Y) : Dis Y X:=fun q a b => h q b a
theorem Dis.new {X X' Y : Nat → Prop} {n : Nat} (h : Dis X Y) (hx : ∀ q,X' q → X q ∨ n ≤ q) (hy : ∀ q,Y q → q < n) : Dis X' Y:=fun q a b => by
 rcases hx q a with c | c
 ·exact h q c b
 ·have:=hy q b
  omega
theorem StM.lt {w : World} {B : Nat} {T U : Nat → Prop} {s : Nat} {c : TT.Ct} {P : Nat} {tv : Value} {ld : Int} {L : TabL} (h : StM w B T U s c P tv ld L) : ∀ q,SZ T U s tv q → q < w.heap.size:=fun q hq => by
 rcases hq with e | e | rfl | e
 ·exact (h.tabs.lo q e).2
 ·exact (h.tabs.un q e).1
 ·exact (Gx h.blk)
 ·exact (h.row.lt q e).2
theorem StM.keep {w w' : World} {B : Nat} {T U Y : Nat → Prop} {s : Nat} {c : TT.Ct} {P : Nat} {tv : Value} {ld : Int} {L : TabL} (h : StM w B T U s c P tv ld L) (ho : Only Y w w') (hy : Dis Y (SZ T U s tv)) : StM w' B T U s c P tv ld L:=h.kept ho fun q a b => hy q b a
structure PutZ (w w' : World) (T U : Nat → Prop) (s : Nat) (tv : Value) (A T' A' : Nat → Prop) : Prop where
 only : Only (fun q => T q ∨ A q) w w'
 t : ∀ q,T' q → T q ∨ w.heap.size ≤ q
 a : ∀ q,A' q → A q ∨ w.heap.size ≤ q
 n : ∀ q,A' q → ¬ T' q
section
variable {w w' : World} {B P s : Nat} {T U A T' A' Y : Nat → Prop} {c : TT.Ct} {tv : Value} {ld : Int} {L : TabL}
theorem PutZ.sz (h : PutZ w w' T U s tv A T' A') : ∀ q,SZ T' U s tv q → SZ T U s tv q ∨ w.heap.size ≤ q:=fun q hq => by
 rcases hq with e | e
 ·exact (h.t q e).imp Or.inl id
 ·exact Or.inl (Or.inr e)
theorem PutZ.off (h : PutZ w w' T U s tv A T' A') (hs : StM w B T U s c P tv ld L) (hd : Dis A (SZ T U s tv)) : Dis A' (SZ T' U s tv):=fun q hq hz => by
 rcases hz with e | e
 ·exact h.n q hq e
 ·rcases h.a q hq with a | a
  ·exact hd q a (Or.inr e)
  ·have:=hs.lt q (Or.inr e)
   omega
theorem turns_dis (h1 : Dis Y (SZ T U s tv)) (h2 : Dis Y A) : Dis (fun q => T q ∨ A q) Y:=fun q a b => by
 rcases a with e | e
 ·exact h1 q b (Or.inl e)
 ·exact h2 q b e
end
structure Dq (w : World) (B P s t a b x : Nat) (tv1 tv2 : Value) (D1 D2 : TD) (U1 U2 T1 T2 A1 A2 A3 : Nat → Prop) (dv1 dv2 dv3 : Value) (S1 S2 S3 : List Strk) (r1 r2 : List Row3) : Prop where
 st1 : StM w B T1 U1 s bC P tv1 0 [(D1,r1)]
 st2 : StM w B T2 U2 t bC 1 tv2 0 [(D2,r2)]
 wa : WkM w B A1 a s 0 false dv1 S1
 wb : WkM w B A2 b s 0 false dv2 S2
 wx : WkM w B A3 x t 0 false dv3 S3
 d : Dis (SZ T1 U1 s tv1) (SZ T2 U2 t tv2)
 a1 : Dis A1 (SZ T1 U1 s tv1)
 a2 : Dis A2 (SZ T1 U1 s tv1)
 a3 : Dis A3 (SZ T1 U1 s tv1)
 b1 : Dis A1 (SZ T2 U2 t tv2)
 b2 : Dis A2 (SZ T2 U2 t tv2)
 b3 : Dis A3 (SZ T2 U2 t tv2)
 c12 : Dis A1 A2
 c13 : Dis A1 A3
 c23 : Dis A2 A3
section
variable {w w' : World} {B P s t a b x : Nat} {tv1 tv2 : Value} {D1 D2 : TD} {U1 U2 T1 T2 A1 A2 A3 T' A' : Nat → Prop} {dv1 dv2 dv3 dv' : Value} {S1 S2 S3 S' : List Strk} {r1 r2 r' : List Row3}
theorem Dq.putA (h : Dq w B P s t a b x tv1 tv2 D1 D2 U1 U2 T1 T2 A1 A2 A3 dv1 dv2 dv3 S1 S2 S3 r1 r2) (hp : PutZ w w' T1 U1 s tv1 A1 T' A') (hs : StM w' B T' U1 s bC P tv1 0 [(D1,r')]) (hw : WkM w' B A' a s 0 false dv' S') : Dq w' B P s t a b x tv1 tv2 D1 D2 U1 U2 T' T2 A' A2 A3 dv' dv2 dv3 S' S2 S3 r' r2:=by
 have l2:=h.st2.lt
 have k2:=h.wb.lo
 have k3:=h.wx.lo
 have e2:=turns_dis h.a2 h.c12.symm
 have e3:=turns_dis h.a3 h.c13.symm
 exact ⟨hs,h.st2.keep hp.only (turns_dis h.d.symm h.b1.symm),hw,h.wb.kept hp.only e2.symm,h.wx.kept hp.only e3.symm,h.d.new hp.sz l2,hp.off h.st1 h.a1,(h.a2.symm.new hp.sz fun q e => (k2 q e).2).symm,(h.a3.symm.new hp.sz fun q e => (k3 q e).2).symm,h.b1.new hp.a l2,h.b2,h.b3,h.c12.new hp.a fun q e => (k2 q e).2,h.c13.new hp.a fun q e => (k3 q e).2,h.c23⟩
theorem Dq.putB (h : Dq w B P s t a b x tv1 tv2 D1 D2 U1 U2 T1 T2 A1 A2 A3 dv1 dv2 dv3 S1 S2 S3 r1 r2) (hp : PutZ w w' T1 U1 s tv1 A2 T' A') (hs : StM w' B T' U1 s bC P tv1 0 [(D1,r')]) (hw : WkM w' B A' b s 0 false dv' S') : Dq w' B P s t a b x tv1 tv2 D1 D2 U1 U2 T' T2 A1 A' A3 dv1 dv' dv3 S1 S' S3 r' r2:=by
 have l2:=h.st2.lt
 have k1:=h.wa.lo
 have k3:=h.wx.lo
 have e1:=turns_dis h.a1 h.c12
 have e3:=turns_dis h.a3 h.c23.symm
 exact ⟨hs,h.st2.keep hp.only (turns_dis h.d.symm h.b2.symm),h.wa.kept hp.only e1.symm,hw,h.wx.kept hp.only e3.symm,h.d.new hp.sz l2,(h.a1.symm.new hp.sz fun q e => (k1 q e).2).symm,hp.off h.st1 h.a2,(h.a3.symm.new hp.sz fun q e => (k3 q e).2).symm,h.b1,h.b2.new hp.a l2,h.b3,(h.c12.symm.new hp.a fun q e => (k1 q e).2).symm,h.c13,h.c23.new hp.a fun q e => (k3 q e).2⟩
theorem Dq.putX (h : Dq w B P s t a b x tv1 tv2 D1 D2 U1 U2 T1 T2 A1 A2 A3 dv1 dv2 dv3 S1 S2 S3 r1 r2) (hp : PutZ w w' T2 U2 t tv2 A3 T' A') (hs : StM w' B T' U2 t bC 1 tv2 0 [(D2,r')]) (hw : WkM w' B A' x t 0 false dv' S') : Dq w' B P s t a b x tv1 tv2 D1 D2 U1 U2 T1 T' A1 A2 A' dv1 dv2 dv' S1 S2 S' r1 r':=by
 have l1:=h.st1.lt
 have k1:=h.wa.lo
 have k2:=h.wb.lo
 have e1:=turns_dis h.b1 h.c13
 have e2:=turns_dis h.b2 h.c23
 exact ⟨h.st1.keep hp.only (turns_dis h.d h.a3.symm),hs,h.wa.kept hp.only e1.symm,h.wb.kept hp.only e2.symm,hw,(h.d.symm.new hp.sz l1).symm,h.a1,h.a2,h.a3.new hp.a l1,(h.b1.symm.new hp.sz fun q e => (k1 q e).2).symm,(h.b2.symm.new hp.sz fun q e => (k2 q e).2).symm,hp.off h.st2 h.b3,h.c12,(h.c13.symm.new hp.a fun q e => (k1 q e).2).symm,(h.c23.symm.new hp.a fun q e => (k2 q e).2).symm⟩
end
end
section
open Go.RowKit BB
theorem evk_even (m : Int) : evk [nV (2 * m)]:=⟨m,rfl⟩
theorem evk_odd {k : Int} (h : ∀ m,k ≠ 2 * m) : ¬ evk [nV k]:=fun ⟨m,e⟩ => by
 simp only [nV,List.cons.injEq,Prod.mk.injEq] at e
 exact h m e.1.2.1
def inK (l : List V3) : Prop:=∃ k : Int,-2000 ≤ k ∧ k < 2000 ∧ l = [nV k]
structure Kn (rs : List Row3) : Prop where
 nd : (rs.map fun r => pick3 r bT.key).Nodup
 key : ∀ r ∈ rs,inK (pick3 r bT.key)
theorem Kn.len {rs : List Row3} (h : Kn rs) : rs.length ≤ 4000:=by
 have:=nodup_len (m:=(List.range 4000).map fun i : Nat => [nV ((i : Int) - 2000)]) h.nd fun l hl => by
  obtain ⟨r,hr,rfl⟩:=List.mem_map.1 hl
  obtain ⟨k,h1,h2,e⟩:=h.key r hr
  refine List.mem_map.2 ⟨(k + 2000).toNat,by simp; omega,?_⟩
  simp only [e]
  rw [show (((k + 2000).toNat : Nat) : Int) - 2000 = k by omega]
 simpa using this
theorem Kn.nil : Kn []:=⟨List.nodup_nil,fun _ h => by cases h⟩
theorem Kn.drops {rs : List Row3} (h : Kn rs) (ls : List (List V3)) : Kn (dropKs bT ls rs):=⟨h.nd.sublist (List.filter_sublist.map _),fun r hr => h.key r (mem_dropKs.1 hr).1⟩
theorem Kn.put {rs : List Row3} (h : Kn rs) {r : Row3} (hr : inK (pick3 r bT.key)) : Kn (putK bT r rs):=by
 have hd : Kn (dropK bT (pick3 r bT.key) rs):=⟨h.nd.sublist (List.filter_sublist.map _),fun q hq => h.key q (mem_dropK.1 hq).1⟩
 refine ⟨?_,fun q hq => ?_⟩
 ·unfold putK
  rw [List.map_append,List.nodup_append]
  refine ⟨hd.nd,by simp,fun a ha b hb e => ?_⟩
  obtain ⟨q,hq,rfl⟩:=List.mem_map.1 ha
  simp only [List.map_cons,List.map_nil,List.mem_singleton] at hb
  exact (mem_dropK.1 hq).2 (e.trans hb)
 ·rcases mem_putK.1 hq with ⟨a,_⟩ | rfl
  ·exact h.key q a
  ·exact hr
theorem Kn.puts : ∀ (l rs : List Row3),Kn rs → (∀ r ∈ l,inK (pick3 r bT.key)) → Kn (putKs bT l rs)
 | [],_,h,_ => h
 | x :: l,rs,h,hl => Kn.puts l (putK bT x rs) (h.put (hl x List.mem_cons_self)) fun r hr => hl r (List.mem_cons_of_mem _ hr)
theorem Kn.undo : ∀ (S : List Strk) (rs : List Row3),Kn rs → (∀ x ∈ S,∀ r ∈ x.tk,inK (pick3 r bT.key)) → Kn (S.foldl (undoR bT) rs)
 | [],_,h,_ => h
 | x :: S,rs,h,hl => Kn.undo S (undoR bT rs x) ((h.drops x.br).puts _ _ (hl x List.mem_cons_self)) fun y hy => hl y (List.mem_cons_of_mem _ hy)
structure Rw (S1 S2 S3 : List Strk) (r1 r2 : List Row3) (n : Nat) : Prop where
 hist : Hist bT evk S1 fun r => r ∈ r1 ∧ evk (pick3 r bT.key)
 rows : ∀ r,r ∈ r2 ↔ r ∈ r1 ∧ ¬ evk (pick3 r bT.key)
 few : Kn r1 ∧ Kn r2
 strokes : S1.length ≤ n ∧ S2.length ≤ n ∧ S3.length ≤ n
 small : ∀ x ∈ S1,x.j = 0 ∧ x.tk.length ≤ 1 ∧ (∀ r ∈ x.tk,fitR bT r ∧ inK (pick3 r bT.key)) ∧ x.br.length ≤ 1 ∧ ∀ l ∈ x.br,l.length ≤ 1
theorem Rw.nil : Rw [] [] [] [] [] 0:=⟨by
 have e : (fun r : Row3 => r ∈ ([] : List Row3) ∧ evk (pick3 r bT.key)) = fun _ => False:=by funext r; simp
 rw [e]
 exact Hist.nil,by simp,⟨Kn.nil,Kn.nil⟩,by simp,fun _ h => by cases h⟩
theorem Rep.inn_key {rs out inn : List Row3} {k : Int} (h : Rep rs out inn k) : ∀ r ∈ inn,pick3 r bT.key = [nV k]:=fun r hr => by
 rcases h.inn with rfl | ⟨v,rfl,_⟩
 ·cases hr
 ·rw [Zms hr,rw2_key]
theorem Rep.few {rs out inn : List Row3} {k : Int} (h : Rep rs out inn k) (hk : -2000 ≤ k ∧ k < 2000) (hn : Kn rs) : Kn (putKs bT inn (dropKs bT (keysL bT out) rs)):=(hn.drops _).puts _ _ fun r hr => ⟨k,hk.1,hk.2,h.inn_key r hr⟩
theorem Rw.even {S1 S2 S3 : List Strk} {r1 r2 out inn : List Row3} {n : Nat} {k m : Int} (h : Rw S1 S2 S3 r1 r2 n) (hok : TabOk bT r1) (hk : k = 2 * m) (hb : -2000 ≤ k ∧ k < 2000) (hr : Rep r1 out inn k) (t' b' : Value) : Rw (S1 ++ [⟨0,out,keysL bT inn,t',b'⟩]) S2 S3 (putKs bT inn (dropKs bT (keysL bT out) r1)) r2 (n + 1):=by
 have hev : evk [nV k]:=hk ▸ evk_even m
 have hin:=hr.inn_key
 refine ⟨?_,fun r => ?_,⟨hr.few hb h.few.1,h.few.2⟩,⟨by simpa using h.strokes.1,Nat.le_succ_of_le h.strokes.2.1,Nat.le_succ_of_le h.strokes.2.2⟩,fun x hx => ?_⟩
 ·have e : (fun r : Row3 => r ∈ putKs bT inn (dropKs bT (keysL bT out) r1) ∧ evk (pick3 r bT.key)) = fun r => ((r ∈ r1 ∧ evk (pick3 r bT.key)) ∧ pick3 r bT.key ≠ [nV k]) ∨ r ∈ inn:=by
   funext r
   apply propext
   rw [hr.mem r]
   constructor
   ·rintro ⟨⟨a,b⟩ | a,c⟩
    ·exact Or.inl ⟨⟨a,c⟩,b⟩
    ·exact Or.inr a
   ·rintro (⟨⟨a,c⟩,b⟩ | a)
    ·exact ⟨Or.inl ⟨a,b⟩,c⟩
    ·exact ⟨Or.inr a,by rw [hin r a]; exact hev⟩
  rw [e]
  refine Hist.snoc h.hist ⟨0,out,keysL bT inn,t',b'⟩ [nV k] inn hev ?_ ?_
  ·rcases hr.out with ⟨rfl,hno⟩ | ⟨q,rfl,hq,hqk⟩
   ·exact Or.inl ⟨rfl,fun r a => hno r a.1⟩
   ·refine Or.inr ⟨q,rfl,⟨hq,by rw [hqk]; exact hev⟩,hqk,fun r a e2 => hok.one r a.1 q hq ?_⟩
    unfold nmR
    rw [e2,hqk]
  ·rcases hr.inn with rfl | ⟨v,rfl,_⟩
   ·exact Or.inl ⟨rfl,rfl⟩
   ·exact Or.inr ⟨_,rfl,rw2_key k v,rfl⟩
 ·rw [h.rows,hr.mem r]
  constructor
  ·rintro ⟨a,b⟩
   exact ⟨Or.inl ⟨a,fun e => b (e ▸ hev)⟩,b⟩
  ·rintro ⟨⟨a,_⟩ | a,b⟩
   ·exact ⟨a,b⟩
   ·exact absurd (by rw [hin r a]; exact hev) b
 ·rcases Zma hx with hx | hx
  ·exact h.small x hx
  ·rw [Zms hx]
   refine ⟨rfl,?_,fun r a => ?_,?_,fun l hl => ?_⟩
   ·rcases hr.out with ⟨rfl,_⟩ | ⟨q,rfl,_⟩ <;> simp
   ·rcases hr.out with ⟨rfl,_⟩ | ⟨q,rfl,hq,_⟩
    ·cases a
    ·rw [Zms a]
     exact ⟨hok.fit q hq,h.few.1.key q hq⟩
   ·rcases hr.inn with rfl | ⟨v,rfl,_⟩ <;> simp [keysL]
   ·rcases hr.inn with rfl | ⟨v,rfl,_⟩
    ·cases hl
    ·simp only [keysL,List.map_cons,List.map_nil,List.mem_singleton] at hl
     rw [hl,rw2_key]
     simp
theorem Rw.odd {S1 S2 S3 : List Strk} {r1 r2 out1 out2 inn : List Row3} {n : Nat} {k : Int} (h : Rw S1 S2 S3 r1 r2 n) (hk : ∀ m,k ≠ 2 * m) (hb : -2000 ≤ k ∧ k < 2000) (h1 : Rep r1 out1 inn k) (h2 : Rep r2 out2 inn k) (x y : Strk) : Rw S1 (S2 ++ [x]) (S3 ++ [y]) (putKs bT inn (dropKs bT (keysL bT out1) r1)) (putKs bT inn (dropKs bT (keysL bT out2) r2)) (n + 1):=by
 have hod:=evk_odd hk
 have hin:=h1.inn_key
 refine ⟨?_,fun r => ?_,⟨h1.few hb h.few.1,h2.few hb h.few.2⟩,⟨Nat.le_succ_of_le h.strokes.1,by simpa using h.strokes.2.1,by simpa using h.strokes.2.2⟩,h.small⟩
 ·have e : (fun r : Row3 => r ∈ putKs bT inn (dropKs bT (keysL bT out1) r1) ∧ evk (pick3 r bT.key)) = fun r => r ∈ r1 ∧ evk (pick3 r bT.key):=by
   funext r
   apply propext
   rw [h1.mem r]
   constructor
   ·rintro ⟨⟨a,b⟩ | a,c⟩
    ·exact ⟨a,c⟩
    ·exact absurd (by rw [← hin r a]; exact c) hod
   ·rintro ⟨a,c⟩
    exact ⟨Or.inl ⟨a,fun e => hod (e ▸ c)⟩,c⟩
  rw [e]
  exact h.hist
 ·rw [h2.mem r,h1.mem r,h.rows r]
  constructor
  ·rintro (⟨⟨a,b⟩,c⟩ | a)
   ·exact ⟨Or.inl ⟨a,c⟩,b⟩
   ·exact ⟨Or.inr a,by rw [hin r a]; exact hod⟩
  ·rintro ⟨⟨a,c⟩ | a,b⟩
   ·exact Or.inl ⟨⟨a,b⟩,c⟩
   ·exact Or.inr a
theorem Rw.undo {S1 S2 S3 : List Strk} {r1 r2 : List Row3} {n : Nat} (h : Rw S1 S2 S3 r1 r2 n) (D : TD) (hD : D.t = bT) : ∃ r,undoL [(D,r1)] S1 (backL S1.length) = [(D,r)] ∧ ∀ q,q ∈ r ↔ q ∈ r2:=by
 refine ⟨S1.reverse.foldl (undoR bT) r1,?_,fun q => ?_⟩
 ·rw [undoL_all,undo_one D r1 _ fun x hx => (h.small x (List.mem_reverse.1 hx)).1,hD]
 ·rw [h.hist.undone r1 (fun _ => Iff.rfl) q,h.rows]
theorem Rw.back {S1 S2 S3 : List Strk} {r1 r2 : List Row3} {n : Nat} (h : Rw S1 S2 S3 r1 r2 n) (D : TD) (hD : D.t = bT) : ∀ (m : Nat) (x : Strk) (D' : TD) (rs : List Row3),S1[S1.length - 1 - m]? = some x → (undoL [(D,r1)] S1 ((backL S1.length).take m))[x.j]? = some (D',rs) → (∀ r ∈ x.tk,fitR D'.t r) ∧ rs.length + x.tk.length ≤ 3000000000 ∧ x.tk.length ≤ 3000000000 ∧ x.br.length ≤ 3000000000 ∧ ∀ l ∈ x.br,l.length ≤ 2147483648:=by
 intro m x D' rs hx hu
 obtain ⟨m',hm',e⟩ : ∃ m',m' ≤ S1.length ∧ (backL S1.length).take m = (backL S1.length).take m':=by
  by_cases c : m ≤ S1.length
  ·exact ⟨m,c,rfl⟩
  ·refine ⟨S1.length,Nat.le_refl _,?_⟩
   have hl : (backL S1.length).length = S1.length:=by simp [backL]
   rw [List.take_of_length_le Om,List.take_of_length_le Om]
 have hxm : x ∈ S1:=List.mem_of_getElem? hx
 obtain ⟨s1,s2,s3,s4,s5⟩:=h.small x hxm
 rw [e,undoL_take _ _ _ hm',undo_one D r1 _ fun y hy => (h.small y (List.mem_reverse.1 (List.mem_of_mem_take hy))).1,s1] at hu
 simp only [List.getElem?_cons_zero,Option.some.injEq,Prod.mk.injEq] at hu
 obtain ⟨rfl,rfl⟩:=hu
 have hlen:=(Kn.undo (S1.reverse.take m') r1 h.few.1 fun y hy r hr => ((h.small y (List.mem_reverse.1 (List.mem_of_mem_take hy))).2.2.1 r hr).2).len
 rw [← hD] at hlen
 refine ⟨fun r hr => by rw [hD]; exact (s3 r hr).1,by omega,by omega,by omega,fun l hl => by have:=s5 l hl; omega⟩
end
end Go.Proofs.YtmmmkjhpmlfopaaGreatDoor
