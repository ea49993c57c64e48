/- A131 A132 -/
import Derived.Test.YtffalonhkemieaaGreatDoorSM151
import Derived.Deep.MidRow
set_option maxHeartbeats 32000000
set_option maxRecDepth 100000
namespace Go.Proofs.YtffalonhkemieaaGreatDoor
open Go.RowKit
theorem Spl.far {Z : Nat → Prop} {w w' : World} (h : Spl Z w w') {k : Nat} {o : Obj} (hk : w.heap[k]? = some o) (hz : ¬ Z k) : w'.heap[k]? = some o:=(h.block k (Gx hk) hz).trans hk

theorem Spl.lt {Z : Nat → Prop} {w w' : World} (h : Spl Z w w') (hz : ∀ z,Z z → z < w.heap.size) : ∀ z,Z z → z < w'.heap.size:=fun z k => Nat.lt_of_lt_of_le (hz z k) h.size

theorem row_st {w : World} {b x : Nat} {cs : Array Value} {t : TypeId} (h : w.heap[b]? = some (.cells cs t (0,0))) (hx : x < cs.size) : (∃ u,w.cell? ⟨b,x,none⟩ = some u) ∧ w.frozen? ⟨b,x,none⟩ = false:=by
 refine ⟨⟨cs[x],?_⟩,by simp [World.frozen?,h]⟩
 rw [cell_of_row w b x cs t _ h]
 exact Array.getElem?_eq_some_iff.2 ⟨hx,rfl⟩

theorem spoil_none (Z : Nat → Prop) (kk oo v1 v2 : Int) (v3 tt nn : ByteArray) (p : Option Addr) (c : Nat) (pp : Int) (w : World) : Calls Tryz.prog 27 #[.agg (Ve kk oo v1 v2 v3 tt nn (.slice p 0 c) pp)] w fun e w' => e = .returned (.tuple #[]) ∧ Spl Z w w':=by
 obtain ⟨W,hW⟩:=Vx (w.alloc (.cells (Ve kk oo v1 v2 v3 tt nn (.slice p 0 c) pp) 48))
 have hb : Below w.heap.size w W:=hW ▸ (Below.refl _ _).alloc (Nat.le_refl _) _
 have he : W.heap[w.heap.size]? = some (.cells (Ve kk oo v1 v2 v3 tt nn (.slice p 0 c) pp) 48 (0,0)):=hW ▸ heap_alloc_new w _
 have HB:=Hd hb
 have zs:=(nine_of he).1
 clear hb he
 go_enter Tryz.func27,Tryz.ntmps27
 go_wp2_with fail
 try rw [hW]
 clear hW
 go_loopw [2] (fun i wr => i = Vi 0 ∧ wr = W) (fun _ _ => 0)
 case atStart => exact ⟨rfl,rfl⟩
 case round =>
  obtain ⟨rfl,hwr⟩:=hrel
  subst hwr
  go_wp2
  go_end0
  exact ⟨rfl,Spl.below HB.out⟩

theorem spoilExpr_any (Z : Nat → Prop) : ∀ (n : Nat) (kk oo v1 v2 : Int) (v3 tt nn : ByteArray) (k : Value) (pp : Int) (w : World),SpK Z w n k → (∀ z,Z z → z < w.heap.size) → Calls Tryz.prog 27 #[.agg #[Vi kk,Vi oo,Vi v1,Vi v2,.string v3,.string tt,.string nn,k,Vi pp]] w fun e w' => e = .returned (.tuple #[]) ∧ Spl Z w w':=by
 intro n
 induction n with
 | zero =>
  intro kk oo v1 v2 v3 tt nn k pp w hk _
  obtain ⟨p,c,rfl⟩:=hk
  exact spoil_none Z kk oo v1 v2 v3 tt nn p c pp w
 | succ n ih =>
  intro kk oo v1 v2 v3 tt nn k pp w hk hz
  have HK:=Hd hk
  obtain ⟨p,m,c,rfl,hmc,hm63,hrow⟩:=hk
  rcases hrow with rfl | ⟨b,cs0,rfl,hzb,_,_⟩
  ·exact spoil_none Z kk oo v1 v2 v3 tt nn p c pp w
  have HIH:=Hd ih
  have HZ:=Hd hz
  clear ih hz
  obtain ⟨W,hW⟩:=Vx (w.alloc (.cells (Ve kk oo v1 v2 v3 tt nn (.slice (some ⟨b,0,none⟩) m c) pp) 48))
  have hb : Below w.heap.size w W:=hW ▸ (Below.refl _ _).alloc (Nat.le_refl _) _
  have he : W.heap[w.heap.size]? = some (.cells (Ve kk oo v1 v2 v3 tt nn (.slice (some ⟨b,0,none⟩) m c) pp) 48 (0,0)):=hW ▸ heap_alloc_new w _
  have HB:=Hd (Spl.below (Z:=Z) hb)
  have HE:=Hd he
  have hnz : ¬ Z w.heap.size:=fun z => by have:=HZ.out _ z; omega
  clear hb he
  go_enter Tryz.func27,Tryz.ntmps27
  go_wp2_with fail
  try rw [hW]
  clear hW
  go_loopw [2] (fun v wr => ∃ i : Nat,i ≤ m ∧ v = Vi (i : Int) ∧ Spl Z w wr ∧ wr.heap[w.heap.size]? = some (.cells (Ve kk oo v1 v2 v3 tt nn (.slice (some ⟨b,0,none⟩) m c) pp) 48 (0,0))) (fun v _ => m - (intOf v).toNat)
  case atStart => exact ⟨0,Nat.zero_le _,rfl,HB.out,HE.out⟩
  case round =>
   obtain ⟨i,hi,rfl,hs,he⟩:=hrel
   have HS:=Hd hs
   have HE2:=Hd he
   have zs:=(nine_of he).1
   clear hs he
   by_cases hlt : i < m
   ·have hlti : (i : Int) < (m : Int):=by omega
    obtain ⟨p',m',c',e1,_,_,hr⟩:=SpK.keep HS.out HK.out
    injection e1 with e1 e2 e3
    subst e1 e2 e3
    rcases hr with h0 | ⟨b2,cs,e4,_,hb2,hall⟩
    ·omega
    injection e4 with e4
    injection e4 with e4 _ _
    subst e4
    obtain ⟨h9,kk2,oo2,u1,u2,u3,tt2,nn2,k2,pp2,hc,hk2⟩:=hall i hlt
    obtain ⟨pq,mq,cq,rfl⟩:=hk2.slice
    have p0 : _ = _:=(cell_of_row _ b (i * 9 + 0) cs _ _ hb2).trans (hc 0 _ rfl)
    have p1 : _ = _:=(cell_of_row _ b (i * 9 + 1) cs _ _ hb2).trans (hc 1 _ rfl)
    have p2 : _ = _:=(cell_of_row _ b (i * 9 + 2) cs _ _ hb2).trans (hc 2 _ rfl)
    have p3 : _ = _:=(cell_of_row _ b (i * 9 + 3) cs _ _ hb2).trans (hc 3 _ rfl)
    have p4 : _ = _:=(cell_of_row _ b (i * 9 + 4) cs _ _ hb2).trans (hc 4 _ rfl)
    have p5 : _ = _:=(cell_of_row _ b (i * 9 + 5) cs _ _ hb2).trans (hc 5 _ rfl)
    have p6 : _ = _:=(cell_of_row _ b (i * 9 + 6) cs _ _ hb2).trans (hc 6 _ rfl)
    have p7 : _ = _:=(cell_of_row _ b (i * 9 + 7) cs _ _ hb2).trans (hc 7 _ rfl)
    have p8 : _ = _:=(cell_of_row _ b (i * 9 + 8) cs _ _ hb2).trans (hc 8 _ rfl)
    simp only [Nat.add_zero] at p0
    have HK2:=Hd hk2
    have HB2:=Hd hb2
    have hZr:=HS.out.lt HZ.out
    have HZR:=Hd hZr
    clear hc hk2 hall hb2 hZr
    go_wp2_with fail
    refine (HIH.out kk2 oo2 u1 u2 u3 tt2 nn2 (.slice pq mq cq) pp2 _ HK2.out HZR.out).mono ?_
    rintro e w2 ⟨rfl,hs2⟩
    obtain ⟨cs2,hb3,hsz,_,_⟩:=hs2.zone b cs _ _ hzb HB2.out
    have HS2:=Hd (HS.out.trans hs2)
    have he2:=hs2.far HE2.out hnz
    have HE3:=Hd he2
    have HB3:=Hd hb3
    clear zs p0 p1 p2 p3 p4 p5 p6 p7 p8
    have zs:=(nine_of he2).1
    have hbne : b ≠ w.heap.size:=fun e => hnz (e ▸ hzb)
    have HPC:=Hd (Spl.piece (Z:=Z) (i:=i) (n:=9) (sp:=spX) hzb hb3 rfl (by decide) (by omega) (fun _ => ⟨rfl,rfl⟩) (fun e => absurd e (by decide)))
    have HVE : Hid ((setsL w2 b (i * 9) spX).heap[w.heap.size]? = some (.cells (Ve kk oo v1 v2 v3 tt nn (.slice (some ⟨b,0,none⟩) m c) pp) 48 (0,0))):=(setsQ_off spX (i * 9) w2 (Ne.symm hbne)).trans HE3.out
    have h9b : i * 9 + 9 ≤ cs2.size:=by omega
    obtain ⟨⟨x0,q0⟩,f0⟩:=row_st hb3 (x:=i * 9 + 0) (by omega)
    obtain ⟨⟨x1,q1⟩,f1⟩:=row_st hb3 (x:=i * 9 + 1) (by omega)
    obtain ⟨⟨x2,q2⟩,f2⟩:=row_st hb3 (x:=i * 9 + 2) (by omega)
    obtain ⟨⟨x3,q3⟩,f3⟩:=row_st hb3 (x:=i * 9 + 3) (by omega)
    obtain ⟨⟨x4,q4⟩,f4⟩:=row_st hb3 (x:=i * 9 + 4) (by omega)
    obtain ⟨⟨x5,q5⟩,f5⟩:=row_st hb3 (x:=i * 9 + 5) (by omega)
    obtain ⟨⟨x6,q6⟩,f6⟩:=row_st hb3 (x:=i * 9 + 6) (by omega)
    obtain ⟨⟨x7,q7⟩,f7⟩:=row_st hb3 (x:=i * 9 + 7) (by omega)
    obtain ⟨⟨x8,q8⟩,f8⟩:=row_st hb3 (x:=i * 9 + 8) (by omega)
    simp only [Nat.add_zero] at q0 f0
    clear hs2 he2 hb3 h9b hsz h9 hbne
    go_wp2
    obtain ⟨V,hV⟩:=Vx (setsL w2 b (i * 9) spX)
    rw [hV] at HPC HVE
    simp only [setsL,spX,Nat.add_assoc,Nat.reduceAdd] at hV
    rw [hV]
    clear hV
    go_roundw
    case rel => exact ⟨i + 1,by omega,by go_num,HS2.out.trans HPC.out,HVE.out⟩
    case measure => simp [intOf]; omega
   ·have hnlt : ¬ (i : Int) < (m : Int):=by omega
    go_wp2
    go_end0
    exact ⟨rfl,HS.out⟩

def SpS (Z : Nat → Prop) (w : World) (n : Nat) (v : Value) : Prop:=∃ p m c,v = .slice p m c ∧ m ≤ c ∧ m ≤ 9223372036854775807 ∧ (m = 0 ∨ ∃ b cs,p = some ⟨b,0,none⟩ ∧ Z b ∧ w.heap[b]? = some (.cells cs 65 (0,0)) ∧ ∀ i,i < m → i * 11 + 11 ≤ cs.size ∧ ∃ (nm : ByteArray) (kk oo v1 v2 : Int) (v3 tt nn : ByteArray) (k2 : Value) (pp pl : Int),(∀ j u,[Value.string nm,Vi kk,Vi oo,Vi v1,Vi v2,.string v3,.string tt,.string nn,k2,Vi pp,Vi pl][j]? = some u → cs[i * 11 + j]? = some u) ∧ SpK Z w n k2)

def SpR (Z : Nat → Prop) (w : World) (t : TypeId) (sz : Nat) (v : Value) : Prop:=∃ p m c,v = .slice p m c ∧ m ≤ c ∧ m ≤ 9223372036854775807 ∧ (m = 0 ∨ ∃ b cs,p = some ⟨b,0,none⟩ ∧ Z b ∧ w.heap[b]? = some (.cells cs t (0,0)) ∧ m * sz ≤ cs.size)

theorem SpS.keep {Z : Nat → Prop} {w w' : World} (h : Spl Z w w') {n : Nat} {k : Value} : SpS Z w n k → SpS Z w' n k:=by
 rintro ⟨p,m,c,e,h1,h2,h3⟩
 refine ⟨p,m,c,e,h1,h2,h3.imp id ?_⟩
 rintro ⟨b,cs,e2,hz,hb,hall⟩
 obtain ⟨cs',hb',hsz,_,hch⟩:=h.zone b cs _ _ hz hb
 refine ⟨b,cs',e2,hz,hb',fun i hi => ?_⟩
 obtain ⟨h9,nm,kk,oo,v1,v2,v3,tt,nn,k2,pp,pl,hc,hk2⟩:=hall i hi
 refine ⟨by rw [hsz]; exact h9,?_⟩
 rcases (hch rfl).2 i with hq | hq
 ·refine ⟨nm,kk,oo,v1,v2,v3,tt,nn,k2,pp,pl,fun j u hu => ?_,SpK.keep h hk2⟩
  have hj : j < 11:=(List.getElem?_eq_some_iff.1 hu).1
  rw [hq j hj]
  exact hc j u hu
 ·refine ⟨⟨#[115,112,111,105,108,116]⟩,0,0,0,0,⟨#[]⟩,⟨#[]⟩,⟨#[]⟩,Vn,0,0,fun j u hu => ?_,SpK.nil _ _ _ _ _⟩
  have hj : j < 11:=(List.getElem?_eq_some_iff.1 hu).1
  rw [hq j hj]
  exact hu

theorem SpR.keep {Z : Nat → Prop} {w w' : World} (h : Spl Z w w') {t : TypeId} {sz : Nat} {k : Value} : SpR Z w t sz k → SpR Z w' t sz k:=by
 rintro ⟨p,m,c,e,h1,h2,h3⟩
 refine ⟨p,m,c,e,h1,h2,h3.imp id ?_⟩
 rintro ⟨b,cs,e2,hz,hb,hs⟩
 obtain ⟨cs',hb',hsz,_,_⟩:=h.zone b cs _ _ hz hb
 exact ⟨b,cs',e2,hz,hb',by rw [hsz]; exact hs⟩

theorem SpK.of {Z : Nat → Prop} {w : World} {n m c : Nat} {p : Option Addr} (h : SpK Z w (n + 1) (.slice p m c)) : m ≤ c ∧ m ≤ 9223372036854775807:=by
 obtain ⟨_,_,_,e,h1,h2,_⟩:=h
 injection e with _ e2 e3
 subst e2 e3
 exact ⟨h1,h2⟩

theorem SpS.of {Z : Nat → Prop} {w : World} {n m c : Nat} {p : Option Addr} (h : SpS Z w n (.slice p m c)) : m ≤ c ∧ m ≤ 9223372036854775807:=by
 obtain ⟨_,_,_,e,h1,h2,_⟩:=h
 injection e with _ e2 e3
 subst e2 e3
 exact ⟨h1,h2⟩

theorem SpR.of {Z : Nat → Prop} {w : World} {t : TypeId} {sz m c : Nat} {p : Option Addr} (h : SpR Z w t sz (.slice p m c)) : m ≤ c ∧ m ≤ 9223372036854775807:=by
 obtain ⟨_,_,_,e,h1,h2,_⟩:=h
 injection e with _ e2 e3
 subst e2 e3
 exact ⟨h1,h2⟩

theorem spoil_any (Z : Nat → Prop) (t : St) (a0 a1 a2 a3 a4 a5 a6 : Option Addr) (c0 c1 c2 c3 c4 c5 c6 n : Nat) (w : World) (h0 : SpK Z w (n + 1) (.slice a0 t.on.length c0)) (h1 : SpK Z w (n + 1) (.slice a1 t.whr.length c1)) (h2 : SpK Z w (n + 1) (.slice a2 t.items.length c2)) (h4 : SpK Z w (n + 1) (.slice a4 t.groups.length c4)) (h3 : SpS Z w n (.slice a3 t.sets.length c3)) (h5 : SpR Z w 67 3 (.slice a5 t.sorts.length c5)) (h6 : SpR Z w 3 1 (.slice a6 t.limit.length c6)) (hz : ∀ z,Z z → z < w.heap.size) : Calls Tryz.prog 12 #[.agg (Vt t.kind t.table t.join (.slice a0 t.on.length c0) (.slice a1 t.whr.length c1) (.slice a2 t.items.length c2) t.star (.slice a3 t.sets.length c3) (.slice a4 t.groups.length c4) (.slice a5 t.sorts.length c5) (.slice a6 t.limit.length c6) t.place t.joinAt)] w fun e w' => e = .returned (.tuple #[]) ∧ Spl Z w w':=by
 obtain ⟨hle0,hmx0⟩:=h0.of
 have H0:=Hd h0
 obtain ⟨hle1,hmx1⟩:=h1.of
 have H1:=Hd h1
 obtain ⟨hle2,hmx2⟩:=h2.of
 have H2:=Hd h2
 obtain ⟨hle3,hmx3⟩:=h3.of
 have H3:=Hd h3
 obtain ⟨hle4,hmx4⟩:=h4.of
 have H4:=Hd h4
 obtain ⟨hle5,hmx5⟩:=h5.of
 have H5:=Hd h5
 obtain ⟨hle6,hmx6⟩:=h6.of
 have H6:=Hd h6
 have HZ:=Hd hz
 have hn0 : ¬ Z w.heap.size:=fun z => by have:=hz _ z; omega
 have hn1 : ¬ Z (w.heap.size + 1):=fun z => by have:=hz _ z; omega
 clear h0 h1 h2 h3 h4 h5 h6 hz
 obtain ⟨W,hW⟩:=Vx ((w.alloc (.cells (Vt t.kind t.table t.join (.slice a0 t.on.length c0) (.slice a1 t.whr.length c1) (.slice a2 t.items.length c2) t.star (.slice a3 t.sets.length c3) (.slice a4 t.groups.length c4) (.slice a5 t.sorts.length c5) (.slice a6 t.limit.length c6) t.place t.joinAt) 27)).alloc (.cells #[.slice a0 t.on.length c0,.slice a1 t.whr.length c1,.slice a2 t.items.length c2,.slice a4 t.groups.length c4] 22))
 obtain ⟨ra,rb,kb⟩:=hW ▸ two_new (w:=w) (o:=.cells (Vt t.kind t.table t.join (.slice a0 t.on.length c0) (.slice a1 t.whr.length c1) (.slice a2 t.items.length c2) t.star (.slice a3 t.sets.length c3) (.slice a4 t.groups.length c4) (.slice a5 t.sorts.length c5) (.slice a6 t.limit.length c6) t.place t.joinAt) 27) (p:=.cells #[.slice a0 t.on.length c0,.slice a1 t.whr.length c1,.slice a2 t.items.length c2,.slice a4 t.groups.length c4] 22)
 have HB:=Hd (Spl.below (Z:=Z) kb)
 have RA:=Hd ra
 have RB:=Hd rb
 clear ra rb kb
 have zs:=(thirt_of RA.out).1
 have zt:=(four_of RB.out).1
 go_enter Tryz.func12,Tryz.ntmps12
 go_wp2_with fail
 try rw [hW]
 clear hW zs zt
 go_loopw [3] (fun v wr => ∃ i : Nat,i ≤ 4 ∧ v = Vi (i : Int) ∧ Spl Z w wr ∧ wr.heap[w.heap.size]? = some (.cells (Vt t.kind t.table t.join (.slice a0 t.on.length c0) (.slice a1 t.whr.length c1) (.slice a2 t.items.length c2) t.star (.slice a3 t.sets.length c3) (.slice a4 t.groups.length c4) (.slice a5 t.sorts.length c5) (.slice a6 t.limit.length c6) t.place t.joinAt) 27 (0,0)) ∧ wr.heap[w.heap.size + 1]? = some (.cells #[.slice a0 t.on.length c0,.slice a1 t.whr.length c1,.slice a2 t.items.length c2,.slice a4 t.groups.length c4] 22 (0,0))) (fun v _ => 4 - (intOf v).toNat)
 case atStart => exact ⟨0,Nat.zero_le _,rfl,HB.out,RA.out,RB.out⟩
 case round =>
  clear HB RA RB
  obtain ⟨i,hi,rfl,hs,hra,hrb⟩:=hrel
  have HS:=Hd hs
  have RA:=Hd hra
  have RB:=Hd hrb
  clear hs hra hrb
  by_cases hlt4 : i < 4
  ·rcases (show i = 0 ∨ i = 1 ∨ i = 2 ∨ i = 3 by omega) with rfl | rfl | rfl | rfl
   ·skip
    have zs:=(thirt_of RA.out).1
    have zt:=(four_of RB.out).1
    go_wp2_with fail
    clear zs zt
    go_loopw [4] (fun v wr => ∃ k : Nat,k ≤ t.on.length ∧ v = Vi (k : Int) ∧ Spl Z w wr ∧ wr.heap[w.heap.size]? = some (.cells (Vt t.kind t.table t.join (.slice a0 t.on.length c0) (.slice a1 t.whr.length c1) (.slice a2 t.items.length c2) t.star (.slice a3 t.sets.length c3) (.slice a4 t.groups.length c4) (.slice a5 t.sorts.length c5) (.slice a6 t.limit.length c6) t.place t.joinAt) 27 (0,0)) ∧ wr.heap[w.heap.size + 1]? = some (.cells #[.slice a0 t.on.length c0,.slice a1 t.whr.length c1,.slice a2 t.items.length c2,.slice a4 t.groups.length c4] 22 (0,0))) (fun v _ => t.on.length - (intOf v).toNat)
    case atStart => exact ⟨0,Nat.zero_le _,rfl,HS.out,RA.out,RB.out⟩
    case round =>
     clear HS RA RB
     rename World => R
     obtain ⟨k,hk,rfl,hs,hra,hrb⟩:=hrel
     have HS:=Hd hs
     have RA:=Hd hra
     have RB:=Hd hrb
     clear hs hra hrb
     have zs:=(thirt_of RA.out).1
     have zt:=(four_of RB.out).1
     by_cases hlt : k < t.on.length
     ·have hlti : (k : Int) < (t.on.length : Int):=by omega
      obtain ⟨p',m',c',e1,_,_,hr⟩:=SpK.keep HS.out H0.out
      injection e1 with e1 e2 e3
      subst e1 e2 e3
      rcases hr with h0 | ⟨b,cs,e4,hzb,hb2,hall⟩
      ·omega
      subst e4
      have HB2:=Hd hb2
      obtain ⟨h9,kk2,oo2,u1,u2,u3,tt2,nn2,k2,pp2,hc,hk2⟩:=hall k hlt
      obtain ⟨pq,mq,cq,rfl⟩:=hk2.slice
      have p0 : _ = _:=(cell_of_row _ b (k * 9 + 0) cs _ _ hb2).trans (hc 0 _ rfl)
      have p1 : _ = _:=(cell_of_row _ b (k * 9 + 1) cs _ _ hb2).trans (hc 1 _ rfl)
      have p2 : _ = _:=(cell_of_row _ b (k * 9 + 2) cs _ _ hb2).trans (hc 2 _ rfl)
      have p3 : _ = _:=(cell_of_row _ b (k * 9 + 3) cs _ _ hb2).trans (hc 3 _ rfl)
      have p4 : _ = _:=(cell_of_row _ b (k * 9 + 4) cs _ _ hb2).trans (hc 4 _ rfl)
      have p5 : _ = _:=(cell_of_row _ b (k * 9 + 5) cs _ _ hb2).trans (hc 5 _ rfl)
      have p6 : _ = _:=(cell_of_row _ b (k * 9 + 6) cs _ _ hb2).trans (hc 6 _ rfl)
      have p7 : _ = _:=(cell_of_row _ b (k * 9 + 7) cs _ _ hb2).trans (hc 7 _ rfl)
      have p8 : _ = _:=(cell_of_row _ b (k * 9 + 8) cs _ _ hb2).trans (hc 8 _ rfl)
      simp only [Nat.add_zero] at p0
      have HK2:=Hd hk2
      have HH9:=Hd h9
      have HZR:=Hd (HS.out.lt HZ.out)
      clear hc hk2 hall hb2 h9
      go_wp2_with fail
      refine (spoilExpr_any Z n kk2 oo2 u1 u2 u3 tt2 nn2 (.slice pq mq cq) pp2 _ HK2.out HZR.out).mono ?_
      rintro e w2 ⟨rfl,hs2⟩
      obtain ⟨cs2,hb3,hsz,_,_⟩:=hs2.zone b cs _ _ hzb HB2.out
      have HS2:=Hd (HS.out.trans hs2)
      have RA2:=Hd (hs2.far RA.out hn0)
      have RB2:=Hd (hs2.far RB.out hn1)
      have h9b : k * 9 + 9 ≤ cs2.size:=by have:=HH9.out; omega
      clear hs2 hsz p0 p1 p2 p3 p4 p5 p6 p7 p8 zs zt
      have zs:=(thirt_of RA2.out).1
      have zt:=(four_of RB2.out).1
      have hbne : b ≠ w.heap.size:=fun e => hn0 (e ▸ hzb)
      have hbne1 : b ≠ w.heap.size + 1:=fun e => hn1 (e ▸ hzb)
      have HPC:=Hd (Spl.piece (Z:=Z) (i:=k) (n:=9) (sp:=spX) hzb hb3 rfl (by decide) h9b (fun _ => ⟨rfl,rfl⟩) (fun e => absurd e (by decide)))
      have HV1:=Hd ((setsQ_off spX (k * 9) w2 (Ne.symm hbne)).trans RA2.out)
      have HV2:=Hd ((setsQ_off spX (k * 9) w2 (Ne.symm hbne1)).trans RB2.out)
      obtain ⟨⟨x0,q0⟩,f0⟩:=row_st hb3 (x:=k * 9 + 0) (by omega)
      obtain ⟨⟨x1,q1⟩,f1⟩:=row_st hb3 (x:=k * 9 + 1) (by omega)
      obtain ⟨⟨x2,q2⟩,f2⟩:=row_st hb3 (x:=k * 9 + 2) (by omega)
      obtain ⟨⟨x3,q3⟩,f3⟩:=row_st hb3 (x:=k * 9 + 3) (by omega)
      obtain ⟨⟨x4,q4⟩,f4⟩:=row_st hb3 (x:=k * 9 + 4) (by omega)
      obtain ⟨⟨x5,q5⟩,f5⟩:=row_st hb3 (x:=k * 9 + 5) (by omega)
      obtain ⟨⟨x6,q6⟩,f6⟩:=row_st hb3 (x:=k * 9 + 6) (by omega)
      obtain ⟨⟨x7,q7⟩,f7⟩:=row_st hb3 (x:=k * 9 + 7) (by omega)
      obtain ⟨⟨x8,q8⟩,f8⟩:=row_st hb3 (x:=k * 9 + 8) (by omega)
      simp only [Nat.add_zero] at q0 f0
      clear hb3 h9b hbne hbne1
      go_wp2
      obtain ⟨V,hV⟩:=Vx (setsL w2 b (k * 9) spX)
      rw [hV] at HPC HV1 HV2
      simp only [setsL,spX,Nat.add_assoc,Nat.reduceAdd] at hV
      rw [hV]
      clear hV
      go_roundw
      case rel => first | exact ⟨k + 1,by omega,by go_num,HS2.out.trans HPC.out,HV1.out,HV2.out⟩ | ((repeat apply Exists.intro); exact ⟨⟨k + 1,by omega,by go_num,HS2.out.trans HPC.out,HV1.out,HV2.out⟩,rfl⟩)
      case measure => simp [intOf]; omega
     ·have hnlt : ¬ (k : Int) < (t.on.length : Int):=by omega
      clear hk hlt
      go_wp2
      go_roundw
      case rel => exact ⟨1,by decide,by go_num,HS.out,RA.out,RB.out⟩
      case measure => simp [intOf]
   ·skip
    have zs:=(thirt_of RA.out).1
    have zt:=(four_of RB.out).1
    go_wp2_with fail
    clear zs zt
    go_loopw [4] (fun v wr => ∃ k : Nat,k ≤ t.whr.length ∧ v = Vi (k : Int) ∧ Spl Z w wr ∧ wr.heap[w.heap.size]? = some (.cells (Vt t.kind t.table t.join (.slice a0 t.on.length c0) (.slice a1 t.whr.length c1) (.slice a2 t.items.length c2) t.star (.slice a3 t.sets.length c3) (.slice a4 t.groups.length c4) (.slice a5 t.sorts.length c5) (.slice a6 t.limit.length c6) t.place t.joinAt) 27 (0,0)) ∧ wr.heap[w.heap.size + 1]? = some (.cells #[.slice a0 t.on.length c0,.slice a1 t.whr.length c1,.slice a2 t.items.length c2,.slice a4 t.groups.length c4] 22 (0,0))) (fun v _ => t.whr.length - (intOf v).toNat)
    case atStart => exact ⟨0,Nat.zero_le _,rfl,HS.out,RA.out,RB.out⟩
    case round =>
     clear HS RA RB
     rename World => R
     obtain ⟨k,hk,rfl,hs,hra,hrb⟩:=hrel
     have HS:=Hd hs
     have RA:=Hd hra
     have RB:=Hd hrb
     clear hs hra hrb
     have zs:=(thirt_of RA.out).1
     have zt:=(four_of RB.out).1
     by_cases hlt : k < t.whr.length
     ·have hlti : (k : Int) < (t.whr.length : Int):=by omega
      obtain ⟨p',m',c',e1,_,_,hr⟩:=SpK.keep HS.out H1.out
      injection e1 with e1 e2 e3
      subst e1 e2 e3
      rcases hr with h0 | ⟨b,cs,e4,hzb,hb2,hall⟩
      ·omega
      subst e4
      have HB2:=Hd hb2
      obtain ⟨h9,kk2,oo2,u1,u2,u3,tt2,nn2,k2,pp2,hc,hk2⟩:=hall k hlt
      obtain ⟨pq,mq,cq,rfl⟩:=hk2.slice
      have p0 : _ = _:=(cell_of_row _ b (k * 9 + 0) cs _ _ hb2).trans (hc 0 _ rfl)
      have p1 : _ = _:=(cell_of_row _ b (k * 9 + 1) cs _ _ hb2).trans (hc 1 _ rfl)
      have p2 : _ = _:=(cell_of_row _ b (k * 9 + 2) cs _ _ hb2).trans (hc 2 _ rfl)
      have p3 : _ = _:=(cell_of_row _ b (k * 9 + 3) cs _ _ hb2).trans (hc 3 _ rfl)
      have p4 : _ = _:=(cell_of_row _ b (k * 9 + 4) cs _ _ hb2).trans (hc 4 _ rfl)
      have p5 : _ = _:=(cell_of_row _ b (k * 9 + 5) cs _ _ hb2).trans (hc 5 _ rfl)
      have p6 : _ = _:=(cell_of_row _ b (k * 9 + 6) cs _ _ hb2).trans (hc 6 _ rfl)
      have p7 : _ = _:=(cell_of_row _ b (k * 9 + 7) cs _ _ hb2).trans (hc 7 _ rfl)
      have p8 : _ = _:=(cell_of_row _ b (k * 9 + 8) cs _ _ hb2).trans (hc 8 _ rfl)
      simp only [Nat.add_zero] at p0
      have HK2:=Hd hk2
      have HH9:=Hd h9
      have HZR:=Hd (HS.out.lt HZ.out)
      clear hc hk2 hall hb2 h9
      go_wp2_with fail
      refine (spoilExpr_any Z n kk2 oo2 u1 u2 u3 tt2 nn2 (.slice pq mq cq) pp2 _ HK2.out HZR.out).mono ?_
      rintro e w2 ⟨rfl,hs2⟩
      obtain ⟨cs2,hb3,hsz,_,_⟩:=hs2.zone b cs _ _ hzb HB2.out
      have HS2:=Hd (HS.out.trans hs2)
      have RA2:=Hd (hs2.far RA.out hn0)
      have RB2:=Hd (hs2.far RB.out hn1)
      have h9b : k * 9 + 9 ≤ cs2.size:=by have:=HH9.out; omega
      clear hs2 hsz p0 p1 p2 p3 p4 p5 p6 p7 p8 zs zt
      have zs:=(thirt_of RA2.out).1
      have zt:=(four_of RB2.out).1
      have hbne : b ≠ w.heap.size:=fun e => hn0 (e ▸ hzb)
      have hbne1 : b ≠ w.heap.size + 1:=fun e => hn1 (e ▸ hzb)
      have HPC:=Hd (Spl.piece (Z:=Z) (i:=k) (n:=9) (sp:=spX) hzb hb3 rfl (by decide) h9b (fun _ => ⟨rfl,rfl⟩) (fun e => absurd e (by decide)))
      have HV1:=Hd ((setsQ_off spX (k * 9) w2 (Ne.symm hbne)).trans RA2.out)
      have HV2:=Hd ((setsQ_off spX (k * 9) w2 (Ne.symm hbne1)).trans RB2.out)
      obtain ⟨⟨x0,q0⟩,f0⟩:=row_st hb3 (x:=k * 9 + 0) (by omega)
      obtain ⟨⟨x1,q1⟩,f1⟩:=row_st hb3 (x:=k * 9 + 1) (by omega)
      obtain ⟨⟨x2,q2⟩,f2⟩:=row_st hb3 (x:=k * 9 + 2) (by omega)
      obtain ⟨⟨x3,q3⟩,f3⟩:=row_st hb3 (x:=k * 9 + 3) (by omega)
      obtain ⟨⟨x4,q4⟩,f4⟩:=row_st hb3 (x:=k * 9 + 4) (by omega)
      obtain ⟨⟨x5,q5⟩,f5⟩:=row_st hb3 (x:=k * 9 + 5) (by omega)
      obtain ⟨⟨x6,q6⟩,f6⟩:=row_st hb3 (x:=k * 9 + 6) (by omega)
      obtain ⟨⟨x7,q7⟩,f7⟩:=row_st hb3 (x:=k * 9 + 7) (by omega)
      obtain ⟨⟨x8,q8⟩,f8⟩:=row_st hb3 (x:=k * 9 + 8) (by omega)
      simp only [Nat.add_zero] at q0 f0
      clear hb3 h9b hbne hbne1
      go_wp2
      obtain ⟨V,hV⟩:=Vx (setsL w2 b (k * 9) spX)
      rw [hV] at HPC HV1 HV2
      simp only [setsL,spX,Nat.add_assoc,Nat.reduceAdd] at hV
      rw [hV]
      clear hV
      go_roundw
      case rel => first | exact ⟨k + 1,by omega,by go_num,HS2.out.trans HPC.out,HV1.out,HV2.out⟩ | ((repeat apply Exists.intro); exact ⟨⟨k + 1,by omega,by go_num,HS2.out.trans HPC.out,HV1.out,HV2.out⟩,rfl⟩)
      case measure => simp [intOf]; omega
     ·have hnlt : ¬ (k : Int) < (t.whr.length : Int):=by omega
      clear hk hlt
      go_wp2
      go_roundw
      case rel => exact ⟨2,by decide,by go_num,HS.out,RA.out,RB.out⟩
      case measure => simp [intOf]
   ·skip
    have zs:=(thirt_of RA.out).1
    have zt:=(four_of RB.out).1
    go_wp2_with fail
    clear zs zt
    go_loopw [4] (fun v wr => ∃ k : Nat,k ≤ t.items.length ∧ v = Vi (k : Int) ∧ Spl Z w wr ∧ wr.heap[w.heap.size]? = some (.cells (Vt t.kind t.table t.join (.slice a0 t.on.length c0) (.slice a1 t.whr.length c1) (.slice a2 t.items.length c2) t.star (.slice a3 t.sets.length c3) (.slice a4 t.groups.length c4) (.slice a5 t.sorts.length c5) (.slice a6 t.limit.length c6) t.place t.joinAt) 27 (0,0)) ∧ wr.heap[w.heap.size + 1]? = some (.cells #[.slice a0 t.on.length c0,.slice a1 t.whr.length c1,.slice a2 t.items.length c2,.slice a4 t.groups.length c4] 22 (0,0))) (fun v _ => t.items.length - (intOf v).toNat)
    case atStart => exact ⟨0,Nat.zero_le _,rfl,HS.out,RA.out,RB.out⟩
    case round =>
     clear HS RA RB
     rename World => R
     obtain ⟨k,hk,rfl,hs,hra,hrb⟩:=hrel
     have HS:=Hd hs
     have RA:=Hd hra
     have RB:=Hd hrb
     clear hs hra hrb
     have zs:=(thirt_of RA.out).1
     have zt:=(four_of RB.out).1
     by_cases hlt : k < t.items.length
     ·have hlti : (k : Int) < (t.items.length : Int):=by omega
      obtain ⟨p',m',c',e1,_,_,hr⟩:=SpK.keep HS.out H2.out
      injection e1 with e1 e2 e3
      subst e1 e2 e3
      rcases hr with h0 | ⟨b,cs,e4,hzb,hb2,hall⟩
      ·omega
      subst e4
      have HB2:=Hd hb2
      obtain ⟨h9,kk2,oo2,u1,u2,u3,tt2,nn2,k2,pp2,hc,hk2⟩:=hall k hlt
      obtain ⟨pq,mq,cq,rfl⟩:=hk2.slice
      have p0 : _ = _:=(cell_of_row _ b (k * 9 + 0) cs _ _ hb2).trans (hc 0 _ rfl)
      have p1 : _ = _:=(cell_of_row _ b (k * 9 + 1) cs _ _ hb2).trans (hc 1 _ rfl)
      have p2 : _ = _:=(cell_of_row _ b (k * 9 + 2) cs _ _ hb2).trans (hc 2 _ rfl)
      have p3 : _ = _:=(cell_of_row _ b (k * 9 + 3) cs _ _ hb2).trans (hc 3 _ rfl)
      have p4 : _ = _:=(cell_of_row _ b (k * 9 + 4) cs _ _ hb2).trans (hc 4 _ rfl)
      have p5 : _ = _:=(cell_of_row _ b (k * 9 + 5) cs _ _ hb2).trans (hc 5 _ rfl)
      have p6 : _ = _:=(cell_of_row _ b (k * 9 + 6) cs _ _ hb2).trans (hc 6 _ rfl)
      have p7 : _ = _:=(cell_of_row _ b (k * 9 + 7) cs _ _ hb2).trans (hc 7 _ rfl)
      have p8 : _ = _:=(cell_of_row _ b (k * 9 + 8) cs _ _ hb2).trans (hc 8 _ rfl)
      simp only [Nat.add_zero] at p0
      have HK2:=Hd hk2
      have HH9:=Hd h9
      have HZR:=Hd (HS.out.lt HZ.out)
      clear hc hk2 hall hb2 h9
      go_wp2_with fail
      refine (spoilExpr_any Z n kk2 oo2 u1 u2 u3 tt2 nn2 (.slice pq mq cq) pp2 _ HK2.out HZR.out).mono ?_
      rintro e w2 ⟨rfl,hs2⟩
      obtain ⟨cs2,hb3,hsz,_,_⟩:=hs2.zone b cs _ _ hzb HB2.out
      have HS2:=Hd (HS.out.trans hs2)
      have RA2:=Hd (hs2.far RA.out hn0)
      have RB2:=Hd (hs2.far RB.out hn1)
      have h9b : k * 9 + 9 ≤ cs2.size:=by have:=HH9.out; omega
      clear hs2 hsz p0 p1 p2 p3 p4 p5 p6 p7 p8 zs zt
      have zs:=(thirt_of RA2.out).1
      have zt:=(four_of RB2.out).1
      have hbne : b ≠ w.heap.size:=fun e => hn0 (e ▸ hzb)
      have hbne1 : b ≠ w.heap.size + 1:=fun e => hn1 (e ▸ hzb)
      have HPC:=Hd (Spl.piece (Z:=Z) (i:=k) (n:=9) (sp:=spX) hzb hb3 rfl (by decide) h9b (fun _ => ⟨rfl,rfl⟩) (fun e => absurd e (by decide)))
      have HV1:=Hd ((setsQ_off spX (k * 9) w2 (Ne.symm hbne)).trans RA2.out)
      have HV2:=Hd ((setsQ_off spX (k * 9) w2 (Ne.symm hbne1)).trans RB2.out)
      obtain ⟨⟨x0,q0⟩,f0⟩:=row_st hb3 (x:=k * 9 + 0) (by omega)
      obtain ⟨⟨x1,q1⟩,f1⟩:=row_st hb3 (x:=k * 9 + 1) (by omega)
      obtain ⟨⟨x2,q2⟩,f2⟩:=row_st hb3 (x:=k * 9 + 2) (by omega)
      obtain ⟨⟨x3,q3⟩,f3⟩:=row_st hb3 (x:=k * 9 + 3) (by omega)
      obtain ⟨⟨x4,q4⟩,f4⟩:=row_st hb3 (x:=k * 9 + 4) (by omega)
      obtain ⟨⟨x5,q5⟩,f5⟩:=row_st hb3 (x:=k * 9 + 5) (by omega)
      obtain ⟨⟨x6,q6⟩,f6⟩:=row_st hb3 (x:=k * 9 + 6) (by omega)
      obtain ⟨⟨x7,q7⟩,f7⟩:=row_st hb3 (x:=k * 9 + 7) (by omega)
      obtain ⟨⟨x8,q8⟩,f8⟩:=row_st hb3 (x:=k * 9 + 8) (by omega)
      simp only [Nat.add_zero] at q0 f0
      clear hb3 h9b hbne hbne1
      go_wp2
      obtain ⟨V,hV⟩:=Vx (setsL w2 b (k * 9) spX)
      rw [hV] at HPC HV1 HV2
      simp only [setsL,spX,Nat.add_assoc,Nat.reduceAdd] at hV
      rw [hV]
      clear hV
      go_roundw
      case rel => first | exact ⟨k + 1,by omega,by go_num,HS2.out.trans HPC.out,HV1.out,HV2.out⟩ | ((repeat apply Exists.intro); exact ⟨⟨k + 1,by omega,by go_num,HS2.out.trans HPC.out,HV1.out,HV2.out⟩,rfl⟩)
      case measure => simp [intOf]; omega
     ·have hnlt : ¬ (k : Int) < (t.items.length : Int):=by omega
      clear hk hlt
      go_wp2
      go_roundw
      case rel => exact ⟨3,by decide,by go_num,HS.out,RA.out,RB.out⟩
      case measure => simp [intOf]
   ·skip
    have zs:=(thirt_of RA.out).1
    have zt:=(four_of RB.out).1
    go_wp2_with fail
    clear zs zt
    go_loopw [4] (fun v wr => ∃ k : Nat,k ≤ t.groups.length ∧ v = Vi (k : Int) ∧ Spl Z w wr ∧ wr.heap[w.heap.size]? = some (.cells (Vt t.kind t.table t.join (.slice a0 t.on.length c0) (.slice a1 t.whr.length c1) (.slice a2 t.items.length c2) t.star (.slice a3 t.sets.length c3) (.slice a4 t.groups.length c4) (.slice a5 t.sorts.length c5) (.slice a6 t.limit.length c6) t.place t.joinAt) 27 (0,0)) ∧ wr.heap[w.heap.size + 1]? = some (.cells #[.slice a0 t.on.length c0,.slice a1 t.whr.length c1,.slice a2 t.items.length c2,.slice a4 t.groups.length c4] 22 (0,0))) (fun v _ => t.groups.length - (intOf v).toNat)
    case atStart => exact ⟨0,Nat.zero_le _,rfl,HS.out,RA.out,RB.out⟩
    case round =>
     clear HS RA RB
     rename World => R
     obtain ⟨k,hk,rfl,hs,hra,hrb⟩:=hrel
     have HS:=Hd hs
     have RA:=Hd hra
     have RB:=Hd hrb
     clear hs hra hrb
     have zs:=(thirt_of RA.out).1
     have zt:=(four_of RB.out).1
     by_cases hlt : k < t.groups.length
     ·have hlti : (k : Int) < (t.groups.length : Int):=by omega
      obtain ⟨p',m',c',e1,_,_,hr⟩:=SpK.keep HS.out H4.out
      injection e1 with e1 e2 e3
      subst e1 e2 e3
      rcases hr with h0 | ⟨b,cs,e4,hzb,hb2,hall⟩
      ·omega
      subst e4
      have HB2:=Hd hb2
      obtain ⟨h9,kk2,oo2,u1,u2,u3,tt2,nn2,k2,pp2,hc,hk2⟩:=hall k hlt
      obtain ⟨pq,mq,cq,rfl⟩:=hk2.slice
      have p0 : _ = _:=(cell_of_row _ b (k * 9 + 0) cs _ _ hb2).trans (hc 0 _ rfl)
      have p1 : _ = _:=(cell_of_row _ b (k * 9 + 1) cs _ _ hb2).trans (hc 1 _ rfl)
      have p2 : _ = _:=(cell_of_row _ b (k * 9 + 2) cs _ _ hb2).trans (hc 2 _ rfl)
      have p3 : _ = _:=(cell_of_row _ b (k * 9 + 3) cs _ _ hb2).trans (hc 3 _ rfl)
      have p4 : _ = _:=(cell_of_row _ b (k * 9 + 4) cs _ _ hb2).trans (hc 4 _ rfl)
      have p5 : _ = _:=(cell_of_row _ b (k * 9 + 5) cs _ _ hb2).trans (hc 5 _ rfl)
      have p6 : _ = _:=(cell_of_row _ b (k * 9 + 6) cs _ _ hb2).trans (hc 6 _ rfl)
      have p7 : _ = _:=(cell_of_row _ b (k * 9 + 7) cs _ _ hb2).trans (hc 7 _ rfl)
      have p8 : _ = _:=(cell_of_row _ b (k * 9 + 8) cs _ _ hb2).trans (hc 8 _ rfl)
      simp only [Nat.add_zero] at p0
      have HK2:=Hd hk2
      have HH9:=Hd h9
      have HZR:=Hd (HS.out.lt HZ.out)
      clear hc hk2 hall hb2 h9
      go_wp2_with fail
      refine (spoilExpr_any Z n kk2 oo2 u1 u2 u3 tt2 nn2 (.slice pq mq cq) pp2 _ HK2.out HZR.out).mono ?_
      rintro e w2 ⟨rfl,hs2⟩
      obtain ⟨cs2,hb3,hsz,_,_⟩:=hs2.zone b cs _ _ hzb HB2.out
      have HS2:=Hd (HS.out.trans hs2)
      have RA2:=Hd (hs2.far RA.out hn0)
      have RB2:=Hd (hs2.far RB.out hn1)
      have h9b : k * 9 + 9 ≤ cs2.size:=by have:=HH9.out; omega
      clear hs2 hsz p0 p1 p2 p3 p4 p5 p6 p7 p8 zs zt
      have zs:=(thirt_of RA2.out).1
      have zt:=(four_of RB2.out).1
      have hbne : b ≠ w.heap.size:=fun e => hn0 (e ▸ hzb)
      have hbne1 : b ≠ w.heap.size + 1:=fun e => hn1 (e ▸ hzb)
      have HPC:=Hd (Spl.piece (Z:=Z) (i:=k) (n:=9) (sp:=spX) hzb hb3 rfl (by decide) h9b (fun _ => ⟨rfl,rfl⟩) (fun e => absurd e (by decide)))
      have HV1:=Hd ((setsQ_off spX (k * 9) w2 (Ne.symm hbne)).trans RA2.out)
      have HV2:=Hd ((setsQ_off spX (k * 9) w2 (Ne.symm hbne1)).trans RB2.out)
      obtain ⟨⟨x0,q0⟩,f0⟩:=row_st hb3 (x:=k * 9 + 0) (by omega)
      obtain ⟨⟨x1,q1⟩,f1⟩:=row_st hb3 (x:=k * 9 + 1) (by omega)
      obtain ⟨⟨x2,q2⟩,f2⟩:=row_st hb3 (x:=k * 9 + 2) (by omega)
      obtain ⟨⟨x3,q3⟩,f3⟩:=row_st hb3 (x:=k * 9 + 3) (by omega)
      obtain ⟨⟨x4,q4⟩,f4⟩:=row_st hb3 (x:=k * 9 + 4) (by omega)
      obtain ⟨⟨x5,q5⟩,f5⟩:=row_st hb3 (x:=k * 9 + 5) (by omega)
      obtain ⟨⟨x6,q6⟩,f6⟩:=row_st hb3 (x:=k * 9 + 6) (by omega)
      obtain ⟨⟨x7,q7⟩,f7⟩:=row_st hb3 (x:=k * 9 + 7) (by omega)
      obtain ⟨⟨x8,q8⟩,f8⟩:=row_st hb3 (x:=k * 9 + 8) (by omega)
      simp only [Nat.add_zero] at q0 f0
      clear hb3 h9b hbne hbne1
      go_wp2
      obtain ⟨V,hV⟩:=Vx (setsL w2 b (k * 9) spX)
      rw [hV] at HPC HV1 HV2
      simp only [setsL,spX,Nat.add_assoc,Nat.reduceAdd] at hV
      rw [hV]
      clear hV
      go_roundw
      case rel => first | exact ⟨k + 1,by omega,by go_num,HS2.out.trans HPC.out,HV1.out,HV2.out⟩ | ((repeat apply Exists.intro); exact ⟨⟨k + 1,by omega,by go_num,HS2.out.trans HPC.out,HV1.out,HV2.out⟩,rfl⟩)
      case measure => simp [intOf]; omega
     ·have hnlt : ¬ (k : Int) < (t.groups.length : Int):=by omega
      clear hk hlt
      go_wp2
      go_roundw
      case rel => exact ⟨4,by decide,by go_num,HS.out,RA.out,RB.out⟩
      case measure => simp [intOf]
  ·have hi4 : i = 4:=by omega
   subst hi4
   have zs:=(thirt_of RA.out).1
   have zt:=(four_of RB.out).1
   clear hi hlt4 RB
   go_wp2_with fail
   clear zs zt
   go_loopw [5] (fun v wr => ∃ k : Nat,k ≤ t.sets.length ∧ v = Vi (k : Int) ∧ Spl Z w wr ∧ wr.heap[w.heap.size]? = some (.cells (Vt t.kind t.table t.join (.slice a0 t.on.length c0) (.slice a1 t.whr.length c1) (.slice a2 t.items.length c2) t.star (.slice a3 t.sets.length c3) (.slice a4 t.groups.length c4) (.slice a5 t.sorts.length c5) (.slice a6 t.limit.length c6) t.place t.joinAt) 27 (0,0))) (fun v _ => t.sets.length - (intOf v).toNat)
   case atStart => exact ⟨0,Nat.zero_le _,rfl,HS.out,RA.out⟩
   case round =>
    clear HS RA
    rename World => R
    obtain ⟨k,hk,rfl,hs,hra⟩:=hrel
    have HS:=Hd hs
    have RA:=Hd hra
    clear hs hra
    have zs:=(thirt_of RA.out).1
    by_cases hlt : k < t.sets.length
    ·have hlti : (k : Int) < (t.sets.length : Int):=by omega
     obtain ⟨p',m',c',e1,_,_,hr⟩:=SpS.keep HS.out H3.out
     injection e1 with e1 e2 e3
     subst e1 e2 e3
     rcases hr with h0 | ⟨b,cs,e4,hzb,hb2,hall⟩
     ·omega
     subst e4
     have HB2:=Hd hb2
     obtain ⟨h9,nm2,kk2,oo2,u1,u2,u3,tt2,nn2,k2,pp2,pl2,hc,hk2⟩:=hall k hlt
     obtain ⟨pq,mq,cq,rfl⟩:=hk2.slice
     have p0 : _ = _:=(cell_of_row _ b (k * 11 + 1) cs _ _ hb2).trans (hc 1 _ rfl)
     have p1 : _ = _:=(cell_of_row _ b (k * 11 + 2) cs _ _ hb2).trans (hc 2 _ rfl)
     have p2 : _ = _:=(cell_of_row _ b (k * 11 + 3) cs _ _ hb2).trans (hc 3 _ rfl)
     have p3 : _ = _:=(cell_of_row _ b (k * 11 + 4) cs _ _ hb2).trans (hc 4 _ rfl)
     have p4 : _ = _:=(cell_of_row _ b (k * 11 + 5) cs _ _ hb2).trans (hc 5 _ rfl)
     have p5 : _ = _:=(cell_of_row _ b (k * 11 + 6) cs _ _ hb2).trans (hc 6 _ rfl)
     have p6 : _ = _:=(cell_of_row _ b (k * 11 + 7) cs _ _ hb2).trans (hc 7 _ rfl)
     have p7 : _ = _:=(cell_of_row _ b (k * 11 + 8) cs _ _ hb2).trans (hc 8 _ rfl)
     have p8 : _ = _:=(cell_of_row _ b (k * 11 + 9) cs _ _ hb2).trans (hc 9 _ rfl)
     have HK2:=Hd hk2
     have HH9:=Hd h9
     have HZR:=Hd (HS.out.lt HZ.out)
     clear hc hk2 hall hb2 h9
     go_wp2_with fail
     refine (spoilExpr_any Z n kk2 oo2 u1 u2 u3 tt2 nn2 (.slice pq mq cq) pp2 _ HK2.out HZR.out).mono ?_
     rintro e w2 ⟨rfl,hs2⟩
     obtain ⟨cs2,hb3,hsz,_,_⟩:=hs2.zone b cs _ _ hzb HB2.out
     have HS2:=Hd (HS.out.trans hs2)
     have RA2:=Hd (hs2.far RA.out hn0)
     have h9b : k * 11 + 11 ≤ cs2.size:=by have:=HH9.out; omega
     clear hs2 hsz p0 p1 p2 p3 p4 p5 p6 p7 p8 zs
     have zs:=(thirt_of RA2.out).1
     have hbne : b ≠ w.heap.size:=fun e => hn0 (e ▸ hzb)
     have hbne1 : b ≠ w.heap.size + 1:=fun e => hn1 (e ▸ hzb)
     have HPC:=Hd (Spl.piece (Z:=Z) (i:=k) (n:=11) (sp:=spS) hzb hb3 rfl (by decide) h9b (fun e => absurd e (by decide)) (fun _ => ⟨rfl,rfl⟩))
     have HV1:=Hd ((setsQ_off spS (k * 11) w2 (Ne.symm hbne)).trans RA2.out)
     obtain ⟨⟨x0,q0⟩,f0⟩:=row_st hb3 (x:=k * 11 + 0) (by omega)
     obtain ⟨⟨x1,q1⟩,f1⟩:=row_st hb3 (x:=k * 11 + 1) (by omega)
     obtain ⟨⟨x2,q2⟩,f2⟩:=row_st hb3 (x:=k * 11 + 2) (by omega)
     obtain ⟨⟨x3,q3⟩,f3⟩:=row_st hb3 (x:=k * 11 + 3) (by omega)
     obtain ⟨⟨x4,q4⟩,f4⟩:=row_st hb3 (x:=k * 11 + 4) (by omega)
     obtain ⟨⟨x5,q5⟩,f5⟩:=row_st hb3 (x:=k * 11 + 5) (by omega)
     obtain ⟨⟨x6,q6⟩,f6⟩:=row_st hb3 (x:=k * 11 + 6) (by omega)
     obtain ⟨⟨x7,q7⟩,f7⟩:=row_st hb3 (x:=k * 11 + 7) (by omega)
     obtain ⟨⟨x8,q8⟩,f8⟩:=row_st hb3 (x:=k * 11 + 8) (by omega)
     obtain ⟨⟨x9,q9⟩,f9⟩:=row_st hb3 (x:=k * 11 + 9) (by omega)
     obtain ⟨⟨x10,q10⟩,f10⟩:=row_st hb3 (x:=k * 11 + 10) (by omega)
     simp only [Nat.add_zero] at q0 f0
     clear hb3 h9b hbne hbne1
     go_wp2
     obtain ⟨V,hV⟩:=Vx (setsL w2 b (k * 11) spS)
     rw [hV] at HPC HV1
     simp only [setsL,spS,Nat.add_assoc,Nat.reduceAdd] at hV
     rw [hV]
     clear hV
     go_roundw
     case rel => first | exact ⟨k + 1,by omega,by go_num,HS2.out.trans HPC.out,HV1.out⟩ | ((repeat apply Exists.intro); exact ⟨⟨k + 1,by omega,by go_num,HS2.out.trans HPC.out,HV1.out⟩,rfl⟩)
     case measure => simp [intOf]; omega
    ·have hnlt : ¬ (k : Int) < (t.sets.length : Int):=by omega
     clear hk hlt
     go_wp2_with fail
     clear hnlt zs
     go_loopw [6] (fun v wr => ∃ k : Nat,k ≤ t.sorts.length ∧ v = Vi (k : Int) ∧ Spl Z w wr ∧ wr.heap[w.heap.size]? = some (.cells (Vt t.kind t.table t.join (.slice a0 t.on.length c0) (.slice a1 t.whr.length c1) (.slice a2 t.items.length c2) t.star (.slice a3 t.sets.length c3) (.slice a4 t.groups.length c4) (.slice a5 t.sorts.length c5) (.slice a6 t.limit.length c6) t.place t.joinAt) 27 (0,0))) (fun v _ => t.sorts.length - (intOf v).toNat)
     case atStart => exact ⟨0,Nat.zero_le _,rfl,HS.out,RA.out⟩
     case round =>
      clear HS RA
      rename World => R
      obtain ⟨k,hk,rfl,hs,hra⟩:=hrel
      have HS:=Hd hs
      have RA:=Hd hra
      clear hs hra
      have zs:=(thirt_of RA.out).1
      by_cases hlt : k < t.sorts.length
      ·have hlti : (k : Int) < (t.sorts.length : Int):=by omega
       obtain ⟨p',m',c',e1,_,_,hr⟩:=SpR.keep HS.out H5.out
       injection e1 with e1 e2 e3
       subst e1 e2 e3
       rcases hr with h0 | ⟨b,cs,e4,hzb,hb2,hall⟩
       ·omega
       subst e4
       have HB2:=Hd hb2
       have h9b : k * 3 + 3 ≤ cs.size:=by omega
       have hbne : b ≠ w.heap.size:=fun e => hn0 (e ▸ hzb)
       have hbne1 : b ≠ w.heap.size + 1:=fun e => hn1 (e ▸ hzb)
       have HPC:=Hd (Spl.piece (Z:=Z) (i:=k) (n:=3) (sp:=[Vi (-7),.bool false,Vi 0]) hzb hb2 rfl (by decide) h9b (fun e => absurd e (by decide)) (fun e => absurd e (by decide)))
       have HV1:=Hd ((setsQ_off [Vi (-7),.bool false,Vi 0] (k * 3) R (Ne.symm hbne)).trans RA.out)
       obtain ⟨⟨x0,q0⟩,f0⟩:=row_st hb2 (x:=k * 3 + 0) (by omega)
       obtain ⟨⟨x1,q1⟩,f1⟩:=row_st hb2 (x:=k * 3 + 1) (by omega)
       obtain ⟨⟨x2,q2⟩,f2⟩:=row_st hb2 (x:=k * 3 + 2) (by omega)
       simp only [Nat.add_zero] at q0 f0
       clear hb2 h9b hbne hbne1
       go_wp2
       obtain ⟨V,hV⟩:=Vx (setsL R b (k * 3) [Vi (-7),.bool false,Vi 0])
       rw [hV] at HPC HV1
       simp only [setsL,Nat.add_assoc,Nat.reduceAdd] at hV
       rw [hV]
       clear hV
       go_roundw
       case rel => first | exact ⟨k + 1,by omega,by go_num,HS.out.trans HPC.out,HV1.out⟩ | ((repeat apply Exists.intro); exact ⟨⟨k + 1,by omega,by go_num,HS.out.trans HPC.out,HV1.out⟩,rfl⟩)
       case measure => simp [intOf]; omega
      ·have hnlt : ¬ (k : Int) < (t.sorts.length : Int):=by omega
       clear hk hlt
       go_wp2_with fail
       clear hnlt zs
       go_loopw [7] (fun v wr => ∃ k : Nat,k ≤ t.limit.length ∧ v = Vi (k : Int) ∧ Spl Z w wr ∧ wr.heap[w.heap.size]? = some (.cells (Vt t.kind t.table t.join (.slice a0 t.on.length c0) (.slice a1 t.whr.length c1) (.slice a2 t.items.length c2) t.star (.slice a3 t.sets.length c3) (.slice a4 t.groups.length c4) (.slice a5 t.sorts.length c5) (.slice a6 t.limit.length c6) t.place t.joinAt) 27 (0,0))) (fun v _ => t.limit.length - (intOf v).toNat)
       case atStart => exact ⟨0,Nat.zero_le _,rfl,HS.out,RA.out⟩
       case round =>
        clear HS RA
        rename World => R
        obtain ⟨k,hk,rfl,hs,hra⟩:=hrel
        have HS:=Hd hs
        have RA:=Hd hra
        clear hs hra
        have zs:=(thirt_of RA.out).1
        by_cases hlt : k < t.limit.length
        ·have hlti : (k : Int) < (t.limit.length : Int):=by omega
         obtain ⟨p',m',c',e1,_,_,hr⟩:=SpR.keep HS.out H6.out
         injection e1 with e1 e2 e3
         subst e1 e2 e3
         rcases hr with h0 | ⟨b,cs,e4,hzb,hb2,hall⟩
         ·omega
         subst e4
         have HB2:=Hd hb2
         have h9b : k * 1 + 1 ≤ cs.size:=by omega
         have hbne : b ≠ w.heap.size:=fun e => hn0 (e ▸ hzb)
         have hbne1 : b ≠ w.heap.size + 1:=fun e => hn1 (e ▸ hzb)
         have HPC:=Hd (Spl.piece (Z:=Z) (i:=k) (n:=1) (sp:=[Vi (-7)]) hzb hb2 rfl (by decide) h9b (fun e => absurd e (by decide)) (fun e => absurd e (by decide)))
         have HV1:=Hd ((setsQ_off [Vi (-7)] (k * 1) R (Ne.symm hbne)).trans RA.out)
         obtain ⟨⟨x0,q0⟩,f0⟩:=row_st hb2 (x:=k * 1 + 0) (by omega)
         simp only [Nat.add_zero,Nat.mul_one] at q0 f0
         clear hb2 h9b hbne hbne1
         go_wp2
         obtain ⟨V,hV⟩:=Vx (setsL R b (k * 1) [Vi (-7)])
         rw [hV] at HPC HV1
         simp only [setsL,Nat.mul_one] at hV
         rw [hV]
         clear hV
         go_roundw
         case rel => first | exact ⟨k + 1,by omega,by go_num,HS.out.trans HPC.out,HV1.out⟩ | ((repeat apply Exists.intro); exact ⟨⟨k + 1,by omega,by go_num,HS.out.trans HPC.out,HV1.out⟩,rfl⟩)
         case measure => simp [intOf]; omega
        ·have hnlt : ¬ (k : Int) < (t.limit.length : Int):=by omega
         clear hk hlt
         go_wp2
         go_end0
         exact ⟨rfl,HS.out⟩
end Go.Proofs.YtffalonhkemieaaGreatDoor
