/- O11 O15 O20 -/
import Derived.Test.YtmmmkjhpmlfopaaGreatDoorSB21
import Derived.Maps.AppendAt
set_option maxHeartbeats 8000000
set_option maxRecDepth 100000
namespace Go.Proofs.YtmmmkjhpmlfopaaGreatDoor
open Go.RowKit
section
open Go.RowKit Go.Shelf BB
attribute [local go_sem] Oper.semAt_some
theorem treeZ_other {W W' : World} {B : Nat} {Z : Nat → Prop} {t m : Nat} {l : List It} {row : Option Nat} (h : TreeZ W B Z t m l) (hg : W.grownBy W' row) (hr : ∀ r,row = some r → ∃ o : Obj,W.heap[r]? = some o ∧ o.isCells = false) : TreeZ W' B Z t m l:=by
 obtain ⟨ls,h1⟩:=h.is
 obtain ⟨⟨rb,h2,h3⟩,h4,h5,h6,h7⟩:=h1
 refine ⟨⟨ls,⟨⟨rb,h2.kept (hg.block t h2.lt fun e => ?_),h3⟩,h4.grown hg hr,h5,h6,h7⟩⟩,fun k hk => ⟨(h.lo k hk).1,Zll (h.lo k hk).2 hg.size⟩,h.tz⟩
 obtain ⟨o,ho,hc⟩:=hr t e.symm
 rw [h2.cells] at ho
 obtain rfl:=Option.some.inj ho
 cases hc
theorem trs_other {W W' : World} {B : Nat} {Z : Nat → Prop} {D : TD} {R : Nat → Nat → List Row3} {row : Option Nat} (h : Trs W B Z D R) (hg : W.grownBy W' row) (hr : ∀ r,row = some r → ∃ o : Obj,W.heap[r]? = some o ∧ o.isCells = false) : Trs W' B Z D R:=by
 obtain ⟨⟨zp,h1,h2,h3⟩,h4⟩:=h
 refine ⟨⟨zp,h1,h2,fun p hp j hj => ?_⟩,fun k hk => ⟨(h4 k hk).1,Zll (h4 k hk).2 hg.size⟩⟩
 obtain ⟨l,a,b⟩:=h3 p hp j hj
 exact ⟨l,treeZ_other a hg hr,b⟩
theorem only_other {w W W' : World} {Z : Nat → Prop} {row : Option Nat} {b : Nat} (h : Only Z w W) (hg : W.grownBy W' row) (hr : ∀ r,row = some r → b ≤ r ∧ ∃ o : Obj,W.heap[r]? = some o ∧ o.isCells = false) (hb : w.heap.size ≤ b) : Only Z w W' :=
 ⟨hg.os.trans h.os,hg.tape.trans h.tape,hg.output.trans h.output,Zlt h.size hg.size,fun k hk hn => (hg.block k (Zll hk h.size) fun e => by have:=(hr k e.symm).1; omega).trans (h.block k hk hn)⟩
structure Tid (w W1 : World) (B : Nat) (Z : Nat → Prop) (D : TD) (R : Nat → Nat → List Row3) (W : World) : Prop where
 only : Only Z w W
 size : W1.heap.size ≤ W.heap.size
 keep : ∀ k,w.heap.size ≤ k → k < W1.heap.size → W.heap[k]? = W1.heap[k]?
 trs : ∃ Zc,Trs W B Zc D R ∧ ∀ k,Zc k → Z k ∨ W1.heap.size ≤ k
theorem Tid.other {w W1 W W' : World} {B : Nat} {Z : Nat → Prop} {D : TD} {R : Nat → Nat → List Row3} {row : Option Nat} (h : Tid w W1 B Z D R W) (hg : W.grownBy W' row) (hr : ∀ r,row = some r → W1.heap.size ≤ r ∧ ∃ o : Obj,W.heap[r]? = some o ∧ o.isCells = false) (hw : w.heap.size ≤ W1.heap.size) : Tid w W1 B Z D R W':=by
 obtain ⟨Zc,h1,h2⟩:=h.trs
 exact ⟨only_other h.only hg hr hw,Zlt h.size hg.size,fun k hk hl => (hg.block k (Zll hl h.size) fun e => by have:=(hr k e.symm).1; omega).trans (h.keep k hk hl),Zc,trs_other h1 hg fun r e => (hr r e).2,h2⟩
theorem Tid.later {w W1 W W' : World} {B : Nat} {Z : Nat → Prop} {D : TD} {R : Nat → Nat → List Row3} (h : Tid w W1 B Z D R W) (hb : Below W.heap.size W W') : Tid w W1 B Z D R W':=by
 obtain ⟨Zc,h1,h2⟩:=h.trs
 exact ⟨h.only.later hb,Zlt h.size hb.size,fun k hk hl => (hb.block k (Zll hl h.size)).trans (h.keep k hk hl),Zc,h1.later hb,h2⟩
theorem Tid.turn {w W1 W W' : World} {B : Nat} {Z Zc : Nat → Prop} {D : TD} {R R' : Nat → Nat → List Row3} (h : Tid w W1 B Z D R W) (hz : ∀ k,Zc k → Z k ∨ W1.heap.size ≤ k) (hZ : ∀ k,Z k → k < w.heap.size) (hw : w.heap.size ≤ W1.heap.size) (ht : TurnP W B Zc D R' W') : Tid w W1 B Z D R' W':=by
 obtain ⟨ho,Z',h3,h4⟩:=ht
 refine ⟨only_two h.only ho fun i hi => (hz i hi).imp id fun q => by omega,Zlt h.size ho.size,fun k hk hl => (ho.block k (Zll hl h.size) fun q => ?_).trans (h.keep k hk hl),Z',h3,fun k hk => (h4 k hk).elim (hz k) fun q => Or.inr (Zlt h.size q)⟩
 rcases hz k q with q | q
 ·have:=hZ k q
  omega
 ·omega
theorem Tid.block {w W1 W : World} {B : Nat} {Z : Nat → Prop} {D : TD} {R : Nat → Nat → List Row3} (h : Tid w W1 B Z D R W) {k : Nat} {o : Obj} (hk : w.heap.size ≤ k) (ho : W1.heap[k]? = some o) : W.heap[k]? = some o:=(h.keep k hk (Gx ho)).trans ho
theorem Tid.weaken {w W1 W V : World} {B : Nat} {Z : Nat → Prop} {D : TD} {R : Nat → Nat → List Row3} (h : Tid w W B Z D R V) (hs : W1.heap.size ≤ W.heap.size) (hk : ∀ k,w.heap.size ≤ k → k < W1.heap.size → W.heap[k]? = W1.heap[k]?) : Tid w W1 B Z D R V:=by
 obtain ⟨Zc,h1,h2⟩:=h.trs
 exact ⟨h.only,Zlt hs h.size,fun k a b => (h.keep k a Om).trans (hk k a b),Zc,h1,fun k q => (h2 k q).imp id fun q => Zlt hs q⟩
theorem Tid.keeps {w W1 V : World} {B : Nat} {Z : Nat → Prop} {D : TD} {R : Nat → Nat → List Row3} (h : Tid w W1 B Z D R V) {b : Nat} (hb : w.heap.size ≤ b) : KeepsFrom b W1 V:=⟨h.size,fun k _ hk ho _ => (h.keep k (Zlt hb hk) (Gx ho)).trans ho⟩
theorem Tid.am {w W1 W : World} {B : Nat} {Z : Nat → Prop} {D : TD} {R : Nat → Nat → List Row3} (h : Tid w W1 B Z D R W) (hF : FixZ w Z D) {bc bt bl cc cl : Nat} {al : Option Addr} {vs : List V3} (hc : w.heap.size ≤ bc) (ht : w.heap.size ≤ bt) (hl : w.heap.size ≤ bl) (hA : AM W1 D bc bt bl D.pk D.t.key cc al vs cl) (hv : ∀ W,Only Z w W → Row W al vs) : AM W D bc bt bl D.pk D.t.key cc al vs cl:=by
 have f:=hF W h.only
 refine ⟨?_,?_,?_,f,f.key,hv W h.only⟩
 ·rw [World.cell?_of_block (a:=⟨bc,0,none⟩) (h.keep bc hc (cell_lt hA.c))]; exact hA.c
 ·rw [World.cell?_of_block (a:=⟨bt,0,none⟩) (h.keep bt ht (cell_lt hA.t))]; exact hA.t
 ·rw [World.cell?_of_block (a:=⟨bl,0,none⟩) (h.keep bl hl (cell_lt hA.l))]; exact hA.l
theorem Env.only {w V : World} {B C : Nat} {Z : Nat → Prop} (h : Env w C) (ho : Only Z w V) (hCB : C ≤ B) (hlo : ∀ k,Z k → B ≤ k ∧ k < w.heap.size) : Env V C:=by
 refine ⟨h.lt,Zlt h.le ho.size,?_⟩
 obtain ⟨m,hm⟩:=h.ml
 refine ⟨m,?_⟩
 have hlt:=h.lt
 rw [World.cell?_of_block (a:=⟨0,0,none⟩) (ho.block _ (cell_lt hm) fun q => by have h3 : B ≤ 0:=(hlo _ q).1; omega)]
 exact hm
def dropS (D : TD) (h n : Nat) (nm : ByteArray) (rs : List Row3) : Nat → Nat → List Row3:=fun p j => if p = h ∧ j < n then dropR D.t nm rs else rs
theorem dropS_at (D : TD) (h n : Nat) (nm : ByteArray) (rs : List Row3) : dropS D h n nm rs h n = rs:=if_neg Om
theorem dropS_next (D : TD) (h n : Nat) (nm : ByteArray) (rs : List Row3) : updR (dropS D h n nm rs) h n (dropR D.t nm rs) = dropS D h (n + 1) nm rs:=by
 funext p j
 unfold updR dropS
 by_cases c : p = h ∧ j = n
 ·rw [if_pos c,if_pos ⟨c.1,by omega⟩]
 ·rw [if_neg c]
  by_cases c2 : p = h ∧ j < n
  ·rw [if_pos c2,if_pos ⟨c2.1,by omega⟩]
  ·rw [if_neg c2,if_neg Om]
theorem dropS_all {D : TD} {rs : List Row3} (h : TabOk D.t rs) {r : Row3} (hr : r ∈ rs) {p j : Nat} (hj : j < D.K) (k v : ByteArray) : SJ D.t D.P p j (dropS D (homeR D.P D.t r) D.K (nmR D.t r) rs p j) k v ↔ SJ D.t D.P p j (dropR D.t (nmR D.t r) rs) k v:=by
 unfold dropS
 by_cases c : p = homeR D.P D.t r
 ·rw [if_pos ⟨c,hj⟩]
 ·rw [if_neg fun q => c q.1]
  exact (SJ_drop_other h hr c k v).symm
def DropP (D : TD) (rs : List Row3) (k : List V3) (w : World) (B : Nat) (Z : Nat → Prop) (e : Ending) (w' : World) : Prop :=
 (∃ r ∈ rs,pick3 r D.t.key = k ∧ ∃ v Z',e = .returned v ∧ w'.ownsRow w.heap.size 73 3 v r.length (vc r) ∧ Only Z w w' ∧ Tab w' B Z' D (dropR D.t (nmR D.t r) rs) ∧ (∀ i,Z' i → Z i ∨ w.heap.size ≤ i) ∧ ∀ g,v.ownBlock = some g → ¬ Z' g) ∨ ((∀ r ∈ rs,pick3 r D.t.key ≠ k) ∧ e = .returned (.slice none 0 0) ∧ Below w.heap.size w w')
theorem drop_any {B C : Nat} {Z : Nat → Prop} (w : World) (D : TD) (rs : List Row3) (a : Option Addr) (cap : Nat) (l : List V3) (hT : Tab w B Z D rs) (hm : Env w C) (hCB : C ≤ B) (hrow : ∀ W,Only Z w W → Row W a l) (hl : l.length ≤ 2147483648) :
  Calls Tryz.prog 35 #[.pointer (some ⟨D.r,0,none⟩),.slice a l.length cap] w (DropP D rs l w B Z):=by
 have HT:=Hd hT
 have HM:=Hd hm
 have HR:=Hd hrow
 have HL:=Hd hl
 have HCB:=Hd hCB
 obtain ⟨W0,hW0⟩:=Vx (w.alloc (Obj.cells #[.pointer (some ⟨D.r,0,none⟩)] 91))
 have hb0 : Below w.heap.size w W0:=by rw [← hW0]; exact (Bxr _ w).alloc Zlr _
 have k0 : W0.heap[w.heap.size]? = some (.cells #[.pointer (some ⟨D.r,0,none⟩)] 91 (0,0)):=by rw [← hW0]; exact heap_alloc_new w _
 have HF:=Hd (find_any W0 D rs a cap l (hT.later hb0) (hm.later hb0 hm.le) (hrow W0 (Only.of hb0)) hl)
 have HB0:=Hd hb0
 have K0:=Hd k0
 have c0 : W0.cell? ⟨w.heap.size,0,none⟩ = some (.pointer (some ⟨D.r,0,none⟩)):=cell_blk k0 rfl
 have l0:=cell_lt c0
 clear hT hm hrow hCB hb0 k0
 refine (callsIn_wide (n:=8)).1 ?_
 refine callsIn_of_wp_marks Tryz.func35 rfl trivial ?_ rfl
 simp only [Tryz.ntmps35,List.size_toArray,List.length_cons,List.length_nil,Nat.reduceAdd,Nat.reduceSub,Array.replicate_succ,Array.replicate_zero,List.push_toArray,List.append_toArray,List.nil_append,List.cons_append]
 gi_wp2_with fail
 refine ⟨trivial,?_⟩
 refine (callsIn_wide.2 HF.out).mono ?_
 rintro e w1 ⟨hb1,⟨r,hr,hk,v,rfl,ho⟩ | ⟨hno,rfl⟩⟩
 ·obtain ⟨pv,cv,rfl⟩:=ownF ho
  have HR0 : Hid (r ∈ rs ∧ pick3 r D.t.key = l):=Hd ⟨hr,hk⟩
  have HB1 : Hid (Below w.heap.size w w1):=Hbt HB0 hb1
  obtain ⟨V,hV⟩:=Vx (w1.alloc (Obj.cells #[.slice pv r.length cv] 26))
  have hbV1 : Below w1.heap.size w1 V:=by rw [← hV]; exact (Bxr _ _).alloc Zlr _
  have HO:=Hd (own_mono9 (own_kept ho fun g hg => hbV1.block g (ho.lt g hg).2) HB0.out.size)
  have hbV : Below w.heap.size w V:=HB1.out.trans (hbV1.mono HB1.out.size)
  have fV:=HT.out.fix.now.later hbV
  have e2 : V.cell? ⟨D.r,2,none⟩ = some (.slice D.pk D.t.key.length D.ck):=fV.cells 2 _ rfl
  have k0:=heap_of (heap_of K0.out hb1) hbV1
  have k5 : V.heap[w1.heap.size]? = some (.cells #[.slice pv r.length cv] 26 (0,0)):=by rw [← hV]; exact heap_alloc_new w1 _
  have d0 : V.cell? ⟨w.heap.size,0,none⟩ = some (.pointer (some ⟨D.r,0,none⟩)):=cell_blk k0 rfl
  have hAM:=asked_am V D D.pk D.t.key D.ck a l cap fV fV.key (HR.out V (Only.of hbV))
  have HBV:=Hd hbV
  have HK5:=Hd k5
  have HK0:=Hd k0
  have HM1 : Hid (w.heap.size < w1.heap.size):=Hd (Zll (Gx K0.out) hb1.size)
  have hmx : Tryz.prog.follows .mixedOrders = true:=by kernel_rfl
  have HAM:=Hd hAM
  clear hr hk hb1 hbV1 hbV k0 k5 c0 l0 ho fV hAM
  obtain ⟨M,hM⟩:=Vx w1.heap.size
  rw [hM] at HK5 HM1
  gi_wp2
  apply wpIn_once
  case h =>
   gi_region_with_o (refine ⟨trivial,?_⟩; gi_at_call 65; refine (callsIn_wide.2 (asked_any _ D D.pk a D.t.key.length D.ck l.length cap)).mono ?_; rintro e w2 ⟨rfl,rfl⟩)
   all_goals exact ⟨rfl,rfl⟩
  case k =>
   gi_wp2
   obtain ⟨W1,hW1⟩:=Vx ((((V.alloc (Obj.cells #[.pointer (some ⟨D.r,0,none⟩)] 91)).alloc (Obj.cells #[.slice D.pk D.t.key.length D.ck] 44)).alloc (Obj.cells #[.slice a l.length cap] 26)).drew)
   have hbW1 : Below V.heap.size V W1:=by rw [← hW1]; exact ((((Bxr _ V).alloc Zlr _).alloc Si _).alloc (by simp; omega) _).drew
   have hAM2 : AM W1 D (V.heap.size + 1) V.heap.size (V.heap.size + 1 + 1) D.pk D.t.key D.ck a l cap:=by
    rw [← hW1]
    exact HAM.out.later (Bxr _ _).drew
   rw [hW1]
   have hbw : Below w.heap.size w W1:=HBV.out.trans (hbW1.mono HBV.out.size)
   have HBW:=Hd hbw
   have HA2:=Hd hAM2
   have HMW:=Hd (HM.out.later hbw HM.out.le)
   have k0:=heap_of HK0.out hbW1
   have k5:=heap_of HK5.out hbW1
   have HO1:=Hd (own_kept HO.out fun g hg => hbW1.block g (HO.out.lt g hg).2)
   have HVB : Hid (∀ g,(Value.slice pv r.length cv).ownBlock = some g → g < W1.heap.size ∧ w.heap.size ≤ g):=Hd fun g hg => ⟨Zll (HO.out.lt g hg).2 hbW1.size,(HO.out.lt g hg).1⟩
   have HVS : Hid (w.heap.size ≤ V.heap.size):=Hd HBV.out.size
   have HZ : Hid (∀ k,Z k → k < w.heap.size):=Hd fun k hk => (HT.out.trs.lo k hk).2
   have hlr : ∀ v ∈ l,V3.right v = true:=by rw [← HR0.out.2]; exact pick3_right (HT.out.ok.right HR0.out.1) _
   have hask : askL D D.t.key l = [homeR D.P D.t r]:=by rw [← HR0.out.2]; exact ask_home HT.out.tr.part
   have HASK:=Hd hask
   have HK01:=Hd k0
   have HK51:=Hd k5
   generalize V.heap.size = N at HA2 HVS hAM2 ⊢
   clear hM hW1 hbW1 hbw hAM2 k0 k5 hask e2 d0 hV
   refine wpIn_rangeB rfl Om (gf:=114) (lb:=#[.pointer (some ⟨N + 1,0,none⟩),.pointer (some ⟨N,0,none⟩),.pointer (some ⟨N + 1 + 1,0,none⟩)]) rfl trivial (enters_of Tryz.func114 Kr rfl)
    (asked_seq (B:=C) _ D (N + 1) N (N + 1 + 1) D.pk D.t.key D.ck a l cap HT.out.parts (by have:=HT.out.tr.key; omega) hlr W1 HMW.out HA2.out)
    KpP.trans
    (fun W l o o' hl ho hc => ⟨fun h => h.grows (Grows.put ho hc o'),fun h => h.grows (Grows.put ho hc o') (by simp [World.putObj])⟩)
    (Bxr _ _) (fun _ => rfl)
    (fun pre W => (pre = [] ∧ Below w.heap.size w W ∧ W1.heap.size ≤ W.heap.size ∧ ∀ k,w.heap.size ≤ k → k < W1.heap.size → W.heap[k]? = W1.heap[k]?) ∨ (pre = [homeR D.P D.t r] ∧ Tid w W1 B Z D (dropS D (homeR D.P D.t r) D.K (nmR D.t r) rs) W))
    (fun _ _ _ => False)
    (fun pre W W' row h hg hr => h.imp (fun q => ⟨q.1,below_own q.2.1 hg hr HBW.out.size q.2.1.size,Zlt q.2.2.1 hg.size,fun k hk hl => (hg.block k (Zll hl q.2.2.1) fun e => by have:=(hr k e.symm).1; omega).trans (q.2.2.2 k hk hl)⟩) fun q => ⟨q.1,q.2.other hg hr HBW.out.size⟩)
    (fun _ _ _ _ _ hs _ _ => hs)
    (fun pre W W' h hb => h.imp (fun q => ⟨q.1,q.2.1.trans (hb.mono q.2.1.size),Zlt q.2.2.1 hb.size,fun k hk hl => (hb.block k (Zll hl q.2.2.1)).trans (q.2.2.2 k hk hl)⟩) fun q => ⟨q.1,q.2.later hb⟩)
    (Or.inl ⟨rfl,HBW.out,Nat.le_refl _,fun _ _ _ => rfl⟩)
    (fun x a' W => a' = { tmps:=#[.pointer (some ⟨D.r,0,none⟩),.slice a l.length cap,.pointer (some ⟨w.heap.size,0,none⟩),undef,.slice none 0 0,.pointer (some ⟨M,0,none⟩),.bool true,D.pv x,undef,.tuple #[.slice pv r.length cv,.bool true],.pointer (some ⟨D.r,0,none⟩),.slice a l.length cap,.tuple #[.slice pv r.length cv,.bool true],.slice pv r.length cv,.bool true,.bool true,.bool false,.pointer (some ⟨D.r,0,none⟩),.pointer (some ⟨D.r,0,none⟩),.pointer (some ⟨D.r,0,none⟩),.pointer (some ⟨D.r,0,none⟩),.pointer (some ⟨D.r,2,none⟩),.slice D.pk D.t.key.length D.ck,.slice a l.length cap,.func (.func 114) #[] #[.pointer (some ⟨N + 1,0,none⟩),.pointer (some ⟨N,0,none⟩),.pointer (some ⟨N + 1 + 1,0,none⟩)],D.pv x,undef,undef,undef,undef,undef,undef,undef,undef,undef,undef,undef,undef,undef,undef,undef,undef,undef,undef,undef],defers:=[] })
    (fun x a' _ X Y row hs _ _ => hs)
    ?assign ?body ?done ?stop
   case assign =>
    rintro l2 pre x W K hi hV hK
    have HI:=Hd hi
    clear hi
    unfold encP
    gi_wp2
    exact hK _ _ (KeepsFrom.refl _ _) ⟨fun h => h,fun h => h⟩ HI.out rfl
   case body =>
    rintro l2 pre x a' W hi rfl hV
    obtain ⟨rest,hr⟩:=hV
    rw [HASK.out] at hr
    obtain ⟨hpre,hx⟩:=one_only hr
    subst hpre
    obtain ⟨-,hbwW,hsW,hkW⟩ | ⟨hp,-⟩:=hi
    rotate_left
    ·cases hp
    obtain ⟨h,hh⟩:=Vx (homeR D.P D.t r)
    have HH:=Hd hh
    rw [hh] at hx ⊢
    subst hx
    have hhP : x < D.P:=by rw [← hh]; exact homeR_lt HT.out.parts.1 _ _
    have HHP:=Hd hhP
    have HBWW:=Hd hbwW
    have HKW:=Hd (Zai hsW hkW)
    have HWW : Hid (w.heap.size ≤ W.heap.size):=Hd hbwW.size
    have HK0W:=Hd ((hkW _ Zlr (Zll (Nat.lt_succ_self _) (show w.heap.size + 1 ≤ W1.heap.size from (Gx HK01.out)))).trans HK01.out)
    have HK5W:=Hd ((hkW M (Nat.le_of_lt HM1.out) (Gx HK51.out)).trans HK51.out)
    have HOW:=Hd (own_kept HO1.out fun g hg => hkW g (HVB.out g hg).2 (HVB.out g hg).1)
    have hs0 : Tid w W B Z D (dropS D x 0 (nmR D.t r) rs) W:=⟨Only.of hbwW,Nat.le_refl _,fun _ _ _ => rfl,Z,(HT.out.trs.later hbwW).congr fun p _ j _ k v => by rw [dropS,if_neg Om],fun k hk => Or.inl hk⟩
    have HS0:=Hd hs0
    have hmx : Tryz.prog.follows .mixedOrders = true:=by kernel_rfl
    have HKK : Hid (D.K = D.t.ixs.length + 1 ∧ D.t.ixs.length ≤ 4):=Hd ⟨rfl,HT.out.tr.ixs⟩
    clear hr hh hhP hbwW hsW hkW hs0
    gi_wp2
    gi_loopw [8] (fun i wr => ∃ n : Nat,n ≤ D.K ∧ i = .int .i64 ((n : Int) - 1) ∧ Tid w W B Z D (dropS D x n (nmR D.t r) rs) wr) (fun i _ => D.K - (intOf i + 1).toNat)
    case atStart => exact ⟨0,Nat.zero_le _,rfl,HS0.out⟩
    case round =>
     obtain ⟨n,hn,rfl,hI⟩:=hrel
     have HI:=Hd hI
     have e0 : wr.cell? ⟨w.heap.size,0,none⟩ = some (.pointer (some ⟨D.r,0,none⟩)):=cell_blk (hI.block Zlr HK0W.out) rfl
     have e5 : wr.cell? ⟨M,0,none⟩ = some (.slice pv r.length cv):=cell_blk (hI.block (Nat.le_of_lt HM1.out) HK5W.out) rfl
     have fw:=HT.out.fix wr hI.only
     have e4 : wr.cell? ⟨D.r,4,none⟩ = some (.slice D.px D.t.ixs.length D.cx):=fw.cells 4 _ rfl
     have HFW:=Hd fw
     obtain ⟨ixn,hixn⟩:=Vx D.t.ixs.length
     have HIX:=Hd hixn
     rw [hixn] at e4
     obtain ⟨i,hi⟩ : ∃ i : Int,(n : Int) - 1 = i:=⟨_,rfl⟩
     have HIN:=Hd hi
     rw [hi]
     have hkk:=HKK.out
     clear hI fw hi
     by_cases hlt : n < D.K
     ·have hlti : i < (ixn : Int):=by have:=HIN.out; omega
      have hwi : IntKind.i64.wrap (i + 1) = i + 1:=by have:=HIN.out; rw [IntKind.wrap_i64] <;> omega
      have HLT:=Hd hlt
      clear hkk hlt hn hixn
      have HTR : Hid (∀ W',Below wr.heap.size wr W' → Calls Tryz.prog 66 #[.slice (some ⟨D.bs x,0,none⟩) D.K (D.cq x),.int .i64 i] W' fun e w' => e = .returned (.pointer (some ⟨D.tp x n,0,none⟩)) ∧ w' = W'):=Hd fun W' hb => tree_any W' D x n i HIN.out.symm HLT.out (by have:=HKK.out; omega) ((HFW.out.later hb).trees x HHP.out n HLT.out)
      have HSK : Hid (∀ W',Below wr.heap.size wr W' → Calls Tryz.prog 61 #[.pointer (some ⟨D.r,0,none⟩),.int .i64 i,.slice pv r.length cv] W' fun e w' => e = .returned (.string (skJ D.t n r)) ∧ Below W'.heap.size W' w'):=Hd fun W' hb => by
       have ow : wr.ownsRow w.heap.size 73 3 (.slice pv r.length cv) r.length (vc r):=own_kept HOW.out fun g hg => HI.out.keep g (HVB.out g hg).2 (HOW.out.lt g hg).2
       obtain ⟨p2,c2,e,hrw⟩:=Row.of_own ow
       simp only [Value.slice.injEq,true_and] at e
       obtain ⟨rfl,rfl⟩:=e
       refine sortKey_any (B:=C) W' D n i HIN.out.symm pv cv r (HFW.out.later hb) HT.out.tr (by have:=HKK.out; have:=HLT.out; omega) (hrw.later hb) (HT.out.ok.fit r HR0.out.1) ?_
       exact (HM.out.only HI.out.only HCB.out HT.out.trs.lo).later hb (Zlt HM.out.le HI.out.only.size)
      have HDL : Hid (∀ W',Below wr.heap.size wr W' → Calls Tryz.prog 67 #[.pointer (some ⟨D.tp x n,0,none⟩),.string (skJ D.t n r)] W' fun e w' => (∃ v,e = .returned v) ∧ Tid w W B Z D (dropS D x (n + 1) (nmR D.t r) rs) w'):=Hd fun W' hb => by
       have hI2:=HI.out.later hb
       obtain ⟨Zc,h1,h2⟩:=hI2.trs
       have hd:=del_t h1 HHP.out HLT.out (by rw [dropS_at]; exact HT.out.ok) (by rw [dropS_at]; have:=HT.out.cnt; omega) (by rw [dropS_at]; exact HR0.out.1) HH.out
       rw [dropS_at] at hd
       refine hd.mono fun e w' hq => ⟨hq.1,hI2.turn h2 HZ.out HWW.out ?_⟩
       rw [← dropS_next]
       exact hq.2
      unfold TD.pv
      gi_wp2
      have hS : wr.drew.cell? ⟨w.heap.size,0,none⟩ = some (.pointer (some ⟨D.r,0,none⟩)) ∧ wr.drew.cell? ⟨M,0,none⟩ = some (.slice pv r.length cv):=⟨e0,e5⟩
      refine held_round (fun W' => W'.cell? ⟨w.heap.size,0,none⟩ = some (.pointer (some ⟨D.r,0,none⟩)) ∧ W'.cell? ⟨M,0,none⟩ = some (.slice pv r.length cv)) l2 Kr hmx (fun ⟨_,_,h⟩ => by cases h) ?_
      refine held_take 0 rfl Kr (fun _ _ _ h => h) hS (by intro w h; go_simp; all_goals with_reducible rfl) ?_
      refine held_take 1 rfl Kr (fun _ _ _ h => h) hS (by intro w h; go_simp; all_goals with_reducible rfl) ?_
      refine held_take 4 rfl Kr (fun _ _ _ h => h) hS (by intro w h; go_simp; all_goals with_reducible rfl) ?_
      refine held_take 3 rfl Kr (fun _ _ _ h => h) hS (by intro w h; go_simp; all_goals with_reducible rfl) ?_
      refine held_take 5 rfl Kr (fun _ _ _ h => h) hS (by intro w h; go_simp; all_goals with_reducible rfl) ?_
      refine held_one 2 rfl Kr Kr fun K hK => ?_
      go_simp
      go_at_call 66
      refine (HTR.out _ (Bxr _ _).drew).mono ?_
      rintro e w' ⟨rfl,rfl⟩
      refine hK _ _ hS ?_
      clear hK K
      refine held_one 6 rfl Kr Kr fun K hK => ?_
      go_simp
      go_at_call 61
      refine (HSK.out _ (Bxr _ _).drew).mono ?_
      rintro e w6 ⟨rfl,hb6⟩
      refine hK _ _ ⟨cell_later hb6 hS.1,cell_later hb6 hS.2⟩ ?_
      clear hK K
      refine held_one 7 rfl Kr Kr fun K hK => ?_
      go_simp
      go_at_call 67
      have hd : Below wr.heap.size wr wr.drew:=(Bxr _ _).drew
      refine (HDL.out _ (hd.trans (hb6.mono hd.size))).mono ?_
      rintro e w7 ⟨⟨v7,rfl⟩,hI7⟩
      have HI7:=Hd hI7
      refine hK _ _ ⟨cell_blk (hI7.block Zlr HK0W.out) rfl,cell_blk (hI7.block (Nat.le_of_lt HM1.out) HK5W.out) rfl⟩ ?_
      clear hI7 hd hb6 hS hK K
      refine wpAnyH_done Kr ?_ _
      gi_wp2
      go_roundw
      case rel => exact ⟨n + 1,HLT.out,by rw [← HIN.out]; congr 1; omega,HI7.out⟩
      case measure => have:=HIN.out; have:=HLT.out; simp [intOf]; omega
     ·have hlti : ¬ i < (ixn : Int):=by have:=HIN.out; have:=HIX.out; omega
      have hnK : n = D.K:=by omega
      have HNK:=Hd hnK
      clear hkk hlt hn hixn hnK
      gi_wp2
      have hI:=HI.out
      rw [HNK.out] at hI
      exact ⟨hI.keeps HBW.out.size,⟨fun hA => hI.am HT.out.fix (by have:=HVS.out; omega) HVS.out (by have:=HVS.out; omega) hA HR.out,fun _ => HM.out.only hI.only HCB.out HT.out.trs.lo⟩,Or.inr ⟨rfl,hI.weaken HKW.out.1 HKW.out.2⟩⟩
   case done =>
    rintro D2 xs W hD hS hi hK
    rw [HASK.out] at hS
    obtain ⟨hp,-⟩ | ⟨-,hI⟩:=hi
    ·rw [hS] at hp
     cases hp
    have e5 : W.cell? ⟨M,0,none⟩ = some (.slice pv r.length cv):=cell_blk (hI.block (Nat.le_of_lt HM1.out) HK51.out) rfl
    have HI:=Hd hI
    have HD:=Hd hD
    clear hI hS hD
    gi_wp2
    refine ⟨by simp,.inl ⟨_,_,rfl,run_takeDeferred hK,?_⟩⟩
    refine ⟨.slice pv r.length cv,by simp [results,Tryz.results35,go_sem],?_⟩
    have hU:=HI.out.other (grownBy_putObj' W D2 (.deferred none)) (fun q e => by cases e; exact ⟨HD.out,_,hK,rfl⟩) HBW.out.size
    obtain ⟨Zc,h1,h2⟩:=hU.trs
    exact Or.inl ⟨r,HR0.out.1,HR0.out.2,_,Zc,rfl,own_kept HO1.out fun g hg => hU.keep g (HVB.out g hg).2 (HVB.out g hg).1,hU.only,⟨HT.out.fix.next hU.only fun k hk => (h2 k hk).imp id fun q => Zlt HBW.out.size q,h1.congr (fun p _ j hj k v => dropS_all HT.out.ok HR0.out.1 hj k v),HT.out.ok.drop _,HT.out.tr,HT.out.parts,Zlt (List.length_filter_le _ _) HT.out.cnt⟩,fun k hk => (h2 k hk).imp id fun q => Zlt HBW.out.size q,fun g hg hz => (h2 g hz).elim (fun q => by have:=HZ.out g q; have:=(HVB.out g hg).2; omega) fun q => by have:=(HVB.out g hg).1; omega⟩
   case stop =>
    rintro D2 c pre W _ _ h _
    exact h.elim
 ·have HN:=Hd hno
  have HB1 : Hid (Below w.heap.size w w1):=Hbt HB0 hb1
  clear hno hb1
  gi_wp2
  refine ⟨.slice none 0 0,by simp [results,Tryz.results35,go_sem],?_⟩
  exact Or.inr ⟨HN.out,rfl,HB1.out.alloc HB1.out.size _⟩
end
section
open Go.RowKit BB
theorem Tryz.infoTr : (Tryz.prog.info? 140).map (fun i => (i.zero,i.size,i.bytes)) = some (some (.pointer none),1,8):=by kernel_rfl
theorem treeZ_mono9 {w : World} {B C : Nat} {Z : Nat → Prop} {t m : Nat} {l : List It} (h : TreeZ w B Z t m l) (hC : C ≤ B) : TreeZ w C Z t m l:=⟨h.is,fun k hk => ⟨Zlt hC (h.lo k hk).1,(h.lo k hk).2⟩,h.tz⟩
end
section
open Go.RowKit BB
theorem own_later9 {w w' : World} {B : Nat} {e : TypeId} {size : Nat} {v : Value} {n : Nat} {xs : List Value} (h : w.ownsRow B e size v n xs) (hb : Below w.heap.size w w') : w'.ownsRow B e size v n xs:=own_kept h fun g hg => hb.block g (h.lt g hg).2
def ptr9 (t : Nat) : Value:=.pointer (some ⟨t,0,none⟩)
structure MadeR (w : World) (b : Nat) (ts : List Nat) (u : Value) : Prop where
 zp : ∃ zp : Nat → Nat → Prop,(∀ i (h : i < ts.length),TreeZ w b (zp i) ts[i] 32 []) ∧ (∀ i j k,i < ts.length → j < ts.length → zp i k → zp j k → i = j) ∧ ∀ g,u.ownBlock = some g → ∀ i,i < ts.length → ¬ zp i g
theorem MadeR.nil (w : World) (b : Nat) (u : Value) : MadeR w b [] u:=⟨⟨fun _ _ => False,fun _ h => absurd h (Nat.not_lt_zero _),fun _ _ _ h => absurd h (Nat.not_lt_zero _),fun _ _ _ h => absurd h (Nat.not_lt_zero _)⟩⟩
theorem MadeR.later {w w' : World} {b : Nat} {ts : List Nat} {u : Value} (h : MadeR w b ts u) (hb : Below w.heap.size w w') : MadeR w' b ts u:=by
 obtain ⟨zp,h1,h2,h3⟩:=h.zp
 exact ⟨zp,fun i hi => (h1 i hi).later hb,h2,h3⟩
theorem MadeR.grown {w w' : World} {b : Nat} {ts : List Nat} {u u' : Value} (h : MadeR w b ts u) (hg : w.grownBy w' u.ownBlock) (hu : u'.ownBlock = u.ownBlock ∨ u'.ownBlock = some w.heap.size) : MadeR w' b ts u':=by
 obtain ⟨zp,h1,h2,h3⟩:=h.zp
 refine ⟨zp,fun i hi => (h1 i hi).kept ((Only.refl (fun k => u.ownBlock = some k) _).grown hg fun _ e => e) fun k hk e => h3 k e i hi hk,h2,fun g he i hi hz => ?_⟩
 rcases hu with e | e
 ·exact h3 g (e ▸ he) i hi hz
 ·rw [e] at he
  have:=((h1 i hi).lo g hz).2
  have:=Option.some.inj he
  omega
theorem MadeR.snoc {w w' : World} {b : Nat} {ts : List Nat} {t : Nat} {u : Value} (h : MadeR w b ts u) (hb : Below w.heap.size w w') (ht : TreeZ w' w.heap.size (fun k => w.heap.size ≤ k ∧ k < w'.heap.size) t 32 []) (hs : b ≤ w.heap.size) (hu : ∀ g,u.ownBlock = some g → g < w.heap.size) : MadeR w' b (ts ++ [t]) u:=by
 obtain ⟨zp,h1,h2,h3⟩:=h.zp
 refine ⟨⟨fun i k => if i < ts.length then zp i k else w.heap.size ≤ k ∧ k < w'.heap.size,fun i hi => ?_,fun i j k hi hj ha hb2 => ?_,fun g he i hi hz => ?_⟩⟩
 ·by_cases c : i < ts.length
  ·simp only [if_pos c]
   rw [List.getElem_append_left c]
   exact (h1 i c).later hb
  ·simp only [if_neg c]
   rw [Zla,List.length_singleton] at hi
   have e : (ts ++ [t])[i]'(by simpa using hi) = t:=by
    rw [List.getElem_append_right Om]
    simp
   rw [e]
   exact treeZ_mono9 ht hs
 ·rw [Zla,List.length_singleton] at hi hj
  by_cases c : i < ts.length <;> by_cases c' : j < ts.length
  ·simp only [if_pos c] at ha
   simp only [if_pos c'] at hb2
   exact h2 i j k c c' ha hb2
  ·simp only [if_pos c] at ha
   simp only [if_neg c'] at hb2
   have:=((h1 i c).lo k ha).2
   omega
  ·simp only [if_neg c] at ha
   simp only [if_pos c'] at hb2
   have:=((h1 j c').lo k hb2).2
   omega
  ·omega
 ·by_cases c : i < ts.length
  ·simp only [if_pos c] at hz
   exact h3 g he i c hz
  ·simp only [if_neg c] at hz
   have:=hu g he
   omega
def NewP (w : World) (n : Nat) (e : Ending) (w' : World) : Prop:=∃ v ts,e = .returned v ∧ ts.length = n + 1 ∧ MadeR w' w.heap.size ts v ∧ w'.ownsRow w.heap.size 140 1 v (n + 1) (ts.map ptr9)
theorem newPart_any (w : World) (n : Nat) (hn : n ≤ 1000) :
  Calls Tryz.prog 102 #[.int .i64 (n : Int)] w fun e w' => Below w.heap.size w w' ∧ NewP w n e w':=by
 obtain ⟨i0,hi0,hz0,hz1,hz2⟩:=info_parts Tryz.infoTr
 have hwr : IntKind.i64.wrap (1 + (n : Int)) = 1 + (n : Int):=by rw [IntKind.wrap_i64] <;> omega
 go_enter Tryz.func102,Tryz.ntmps102
 go_wp2
 go_loopw [3,8] (fun u q wr => ∃ k : Nat,k ≤ n + 1 ∧ q = .int .i64 (k : Int) ∧ ∃ ts : List Nat,ts.length = k ∧ wr.ownsRow w.heap.size 140 1 u k (ts.map ptr9) ∧ MadeR wr w.heap.size ts u ∧ Below w.heap.size w wr) (fun _ q _ => n + 1 - (intOf q).toNat)
 case atStart => exact ⟨0,Nat.zero_le _,rfl,[],rfl,World.ownsRow_nil _ _ _ _,MadeR.nil _ _ _,Bxr _ _⟩
 case round =>
  obtain ⟨k,hk,rfl,ts,htl,hown,hmade,hb⟩:=hrel
  have hsz:=hb.size
  by_cases hlt : k < n + 1
  ·have hlti : (k : Int) < 1 + (n : Int):=by omega
   have HN:=Hd (new_z wr 32 none 0 [] Om Om (fun i hi => absurd hi (Nat.not_lt_zero _)) (Nat.zero_le _) (fun x hx => absurd hx Si) rfl)
   have HM:=Hd hmade
   have HB:=Hd hb
   have HO:=Hd hown
   obtain ⟨la,lc,rfl⟩:=ownF hown
   have HTL:=Hd htl
   clear hmade hb hown htl
   go_wp2_with (first
    | (go_at_call 147; refine HN.out.mono ?_; rintro e w1 ⟨hb1,t,rfl,_,ht⟩; have HT:=Hd ht; have HB1:=Hd hb1; have HOW1:=Hd (own_later9 HO.out hb1); have hs1:=hb1.size; have hso:=HB.out.size; clear ht hb1)
    | (at_builtin; refine wpList_append_own_at _ rfl _ _ 138 rfl w.heap.size 140 i0 (.pointer none) 1 8 Tryz.underlying138 hi0 hz0 hz1 hz2 rfl (by decide) _ _ _ rfl (HOW1.out.alloc _) ⟨w1.heap.size,0,none⟩ 1 1 [ptr9 t] rfl rfl ?c1 ?c2 ?c3 ?c4 ?c5 ?_))
   case c1 => exact cell_one_new _ _ _
   case c2 => intro u hu; rw [Zms hu]; rfl
   case c3 => unfold maxLen; omega
   case c4 => omega
   case c5 => simp; omega
   ·intro v' w3 hown3 hgrow _ hat
    have HM1:=Hd (HM.out.snoc HB1.out HT.out HB.out.size (fun g hg => (HO.out.lt g hg).2))
    have hlt2:=HOW1.out.lt
    have hal : Below w1.heap.size w1 (w1.alloc (Obj.cells #[ptr9 t] 140)):=(Bxr _ w1).alloc Zlr _
    have hbb : Below w.heap.size w w3:=((HB.out.trans (HB1.out.mono HB.out.size)).trans (hal.mono (Zlt HB.out.size HB1.out.size))).grown hgrow (by simp; omega) fun q hq => (hlt2 q hq).1
    have hm3:=(HM1.out.later hal).grown hgrow (by rw [World.size_alloc]; exact hat)
    have e : ts.map ptr9 ++ [ptr9 t] = (ts ++ [t]).map ptr9:=by simp
    rw [e] at hown3
    have HX:=Hd hown3
    have HBB:=Hd hbb
    have HM3:=Hd hm3
    clear hgrow hown3 hbb hm3 hat hlt2 hal e
    go_wp2
    go_roundw
    case rel => exact ⟨k + 1,by omega,by go_num,ts ++ [t],by rw [Zla,HTL.out]; rfl,HX.out,HM3.out,HBB.out⟩
    case measure => simp [intOf]; omega
  ·have hlti : ¬ (k : Int) < 1 + (n : Int):=by omega
   have hkl : k = n + 1:=by omega
   subst hkl
   have HM:=Hd hmade
   have HO:=Hd hown
   clear hmade hown
   go_wp2
   go_ret
   exact ⟨hb,_,ts,rfl,htl,HM.out,HO.out⟩
end
end Go.Proofs.YtmmmkjhpmlfopaaGreatDoor
