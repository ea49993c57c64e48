/- M154 A133 -/
import Derived.Test.YtffalonhkemieaaGreatDoorSA131
import Derived.Test.YtffalonhkemieaaGreatDoorSA130
set_option maxHeartbeats 32000000
set_option maxRecDepth 100000
namespace Go.Proofs.YtffalonhkemieaaGreatDoor
open Go.RowKit
def OutIs (s : ByteArray) (fc fp : Int) (t : St) : Prop:=∃ o,ParseIs s o ∧ match o with
 | .fault c p => fc = c ∧ fp = p ∧ t = st0
 | .st u => fc = 0 ∧ fp = 0 ∧ t = u

theorem OutIs.one {s : ByteArray} {fc fp gc gp : Int} {t u : St} (h : OutIs s fc fp t) (k : OutIs s gc gp u) : fc = gc ∧ fp = gp ∧ t = u:=by
 obtain ⟨o,ho,h⟩:=h
 obtain ⟨o',ho',k⟩:=k
 obtain rfl:=ho.one ho'
 cases o with
 | fault c p =>
  obtain ⟨rfl,rfl,rfl⟩:=h
  obtain ⟨rfl,rfl,rfl⟩:=k
  exact ⟨rfl,rfl,rfl⟩
 | st v =>
  obtain ⟨rfl,rfl,rfl⟩:=h
  obtain ⟨rfl,rfl,rfl⟩:=k
  exact ⟨rfl,rfl,rfl⟩

theorem ParseP.out {s : ByteArray} {w w' : World} {e : Ending} (h : ParseP s w e w') : ∃ fc fp t v,e = .returned (.tuple #[v,.agg #[Vi fc,Vi fp]]) ∧ StV w' w.heap.size t v ∧ Below w.heap.size w w' ∧ OutIs s fc fp t:=by
 obtain ⟨o,ho,hb,hm⟩:=h
 cases o with
 | fault c p =>
  obtain ⟨v,he,hv⟩:=hm
  exact ⟨c,p,st0,v,he,hv,hb,_,ho,rfl,rfl,rfl⟩
 | st t =>
  obtain ⟨v,he,hv⟩:=hm
  exact ⟨0,0,t,v,he,hv,hb,_,ho,rfl,rfl,rfl⟩

theorem toks_len {l : List UInt8} {a : Nat} {ts : List T} (h : Toks l a ts) : ts.length ≤ l.length + 1:=by
 induction h with
 | fin _ => simp
 | @more l a t ts h1 _ _ ih =>
  obtain ⟨c,q,hq,_⟩:=pce_cons h1
  have hp:=pieceN_pos c q
  rw [← hq] at hp
  have hr : (rst l).length = (skipL l).length - pieceN (skipL l):=by simp [rst]
  have hs:=skipL_len l
  have hne : 0 < (skipL l).length:=List.length_pos_iff.2 h1
  simp
  omega

theorem stb0 : StB 1001 st0:=⟨LnQ.nil,LnQ.nil,LnQ.nil,LnQ.nil,LnQ.nil,Nat.zero_le _,Nat.zero_le _⟩

theorem OutIs.bd {s : ByteArray} {fc fp : Int} {t : St} (h : OutIs s fc fp t) : StB 1001 t:=by
 obtain ⟨o,⟨l,p,c,hs,ho⟩,h⟩:=h
 cases o with
 | fault c p => rw [h.2.2]; exact stb0
 | st u =>
  obtain ⟨_,_,rfl⟩:=h
  rcases ho with ⟨_,e⟩ | ⟨rfl,x,hx,e⟩
  ·exact absurd e (by simp)
  ·have htk : s.size ≤ 1000 ∧ Toks s.data.toList 0 l:=by
    rcases hs with ⟨_,_,_,h⟩ | ⟨h0,⟨_,_,h⟩ | ⟨_,h⟩⟩
    ·exact absurd h (by decide)
    ·exact ⟨h0,h⟩
    ·exact absurd rfl h.ne
   have hl:=toks_len htk.2
   have hz : s.data.toList.length = s.size:=by simp
   cases x with
   | bad p => exact absurd e (by simp [outOf])
   | ok u s1 =>
    have hb:=(Bd.st (n:=1001) ⟨l,0,0⟩ u s1 (by show l.length ≤ 1001; omega) hx).2
    rw [outOf] at e
    split at e
    ·split at e
     ·split at e
      ·exact absurd e (by simp)
      ·injection e with e
       rw [e]
       exact hb
     ·exact absurd e (by simp)
    ·exact absurd e (by simp)

theorem XL.sp {Z : Nat → Prop} {w : World} {B n : Nat} {l : List Ex} {v : Value} (hZ : ∀ g,B ≤ g → g < w.heap.size → Z g) (h : XL w B l v) (hd : ∀ e ∈ l,dep e ≤ n + 1) : SpK Z w (n + 1) v:=by
 obtain ⟨ks,h1,h2,h3⟩:=h
 refine XO.sp hZ (n + 1) (.mk 0 0 v0 ⟨#[]⟩ ⟨#[]⟩ l 0) v (XO.mk ks h1 h2 h3) ?_
 rw [dep_mk]
 have:=(depL_le l (n + 1)).2 hd
 omega

theorem own_sp {w : World} {B n size : Nat} {T : TypeId} {v : Value} {xs : List Value} (h : w.ownsRow B T size v n xs) : ∃ p c,v = .slice p n c ∧ n ≤ c ∧ n ≤ 9223372036854775807 ∧ (n = 0 ∨ ∃ b cs,p = some ⟨b,0,none⟩ ∧ B ≤ b ∧ b < w.heap.size ∧ w.heap[b]? = some (.cells cs T (0,0)) ∧ ∀ (j : Nat) (u : Value),xs[j]? = some u → cs[j]? = some u):=by
 have hh:=h
 obtain ⟨_,⟨rfl,h0⟩ | ⟨g,cap,cur,rfl,hg1,hg2,hg3,hg4,_,_⟩⟩:=h
 ·exact ⟨none,0,by rw [h0],by omega,by omega,Or.inl h0⟩
 ·refine ⟨_,_,rfl,hg3,by unfold maxLen at hg4; omega,Or.inr ⟨g,_,rfl,hg1,(Gx hg2),hg2,fun j u hu => ?_⟩⟩
  have:=hh.cells (g:=g) rfl _ _ hu
  rw [add_lit0] at this
  exact row_cell hg2 this

theorem SeL.sp {Z : Nat → Prop} {w : World} {B n : Nat} {l : List Se} {v : Value} (hZ : ∀ g,B ≤ g → g < w.heap.size → Z g) (h : SeL w B l v) (hd : ∀ e ∈ l,dep e.2.1 ≤ n + 1) : SpS Z w n v:=by
 obtain ⟨ks,h1,h2,h3⟩:=h
 obtain ⟨p,c,e,hc,hm,hr⟩:=own_sp h2
 refine ⟨p,_,c,e,hc,hm,hr.imp id ?_⟩
 rintro ⟨b,cs,e2,hb1,hb2,hb3,hcs⟩
 refine ⟨b,cs,e2,hZ b hb1 hb2,hb3,fun i hi => ?_⟩
 have hi' : i < ks.length:=by rw [← h1]; exact hi
 have hcell : ∀ j u,(seC l[i] ks[i])[j]? = some u → cs[i * 11 + j]? = some u:=fun j u hu => hcs _ _ (getElem?_ses l ks i j u hi hi' hu)
 have hsp:=XO.sp hZ n l[i].2.1 ks[i] (h3 i hi hi') (hd _ (List.getElem_mem hi))
 obtain ⟨⟨nm,⟨kk,oo,⟨v1,v2,v3⟩,tt,nn,kk2,pp⟩,pl⟩,ek⟩ : ∃ x,l[i] = x:=⟨_,rfl⟩
 rw [ek] at hcell
 refine ⟨?_,nm,kk,oo,v1,v2,v3,tt,nn,ks[i],pp,pl,hcell,hsp⟩
 have:=(Array.getElem?_eq_some_iff.1 (hcell 10 (Vi pl) rfl)).1
 omega

theorem own_spr {Z : Nat → Prop} {w : World} {B n size : Nat} {T : TypeId} {v : Value} {xs : List Value} (hZ : ∀ g,B ≤ g → g < w.heap.size → Z g) (h : w.ownsRow B T size v n xs) : SpR Z w T size v:=by
 have hl:=h.1
 obtain ⟨p,c,e,hc,hm,hr⟩:=own_sp h
 refine ⟨p,_,c,e,hc,hm,hr.imp id ?_⟩
 rintro ⟨b,cs,e2,hb1,hb2,hb3,hcs⟩
 refine ⟨b,cs,e2,hZ b hb1 hb2,hb3,?_⟩
 by_cases h0 : n * size = 0
 ·omega
 ·have hx : n * size - 1 < xs.length:=by omega
  have:=(Array.getElem?_eq_some_iff.1 (hcs _ _ (List.getElem?_eq_getElem hx))).1
  omega

def Zs (B C k : Nat) : Prop:=B ≤ k ∧ k < C

theorem Spl.belowZ {B C : Nat} {w w' : World} (h : Spl (Zs B C) w w') (hB : B ≤ w.heap.size) : Below B w w':=⟨h.os,h.tape,h.output,h.size,fun k hk => h.block k (by omega) fun z => by have:=z.1; omega⟩

theorem StO.high {B C D : Nat} {w w' : World} {t : St} {a b c d e f g : Value} (h : StO w D t a b c d e f g) (hs : Spl (Zs B C) w w') (hD : C ≤ D) : StO w' D t a b c d e f g:=h.keep fun k hk hl => hs.block k hl fun z => by have:=z.2; omega

theorem syntaxParses_law (s t : ByteArray) (w : World) (hv : SV w) : Calls Tryz.prog 3 #[.string s,.string t] w fun e w' => e = .returned (.bool true) ∧ Below w.heap.size w w':=by
 have HV:=Hd hv
 clear hv
 have HB : Hid (Below w.heap.size w w):=Below.refl _ _
 go_enter Tryz.func3,Tryz.ntmps3
 go_wp2_with fail
 refine (synParse_any s _ (HV.out.later HB.out)).mono ?_
 intro e p1 hpp
 obtain ⟨fcA,fpA,xA,v,rfl,⟨a0,a1,a2,a3,a4,a5,a6,c0,c1,c2,c3,c4,c5,c6,rfl,hx⟩,hb,ho⟩:=ParseP.out hpp
 clear hpp
 have HOA:=Hd ho
 replace HB:=Hd (HB.out.trans (hb.mono HB.out.size))
 have hz_p1:=hb.size
 have OA:=Hd hx
 clear hx hb ho
 simp only [stC]
 have HXA:=OA
 have SPL : Hid (Spl (Zs w.heap.size p1.heap.size) p1 p1):=Spl.refl _ _
 obtain ⟨q1,hW⟩:=Vx ((p1.alloc (.cells (Vt xA.kind xA.table xA.join (.slice a0 xA.on.length c0) (.slice a1 xA.whr.length c1) (.slice a2 xA.items.length c2) xA.star (.slice a3 xA.sets.length c3) (.slice a4 xA.groups.length c4) (.slice a5 xA.sorts.length c5) (.slice a6 xA.limit.length c6) xA.place xA.joinAt) 27)).alloc (.cells #[Vi fcA,Vi fpA] 30))
 obtain ⟨r1,r2,kb⟩:=hW ▸ two_new (w:=p1) (o:=.cells (Vt xA.kind xA.table xA.join (.slice a0 xA.on.length c0) (.slice a1 xA.whr.length c1) (.slice a2 xA.items.length c2) xA.star (.slice a3 xA.sets.length c3) (.slice a4 xA.groups.length c4) (.slice a5 xA.sorts.length c5) (.slice a6 xA.limit.length c6) xA.place xA.joinAt) 27) (p:=.cells #[Vi fcA,Vi fpA] 30)
 replace OA:=Hd (OA.out.keep fun g _ hg => kb.block g hg)
 replace SPL:=Hd (SPL.out.trans (Spl.below kb))
 replace HB:=Hd (HB.out.trans (kb.mono HB.out.size))
 have hz_q1:=kb.size
 have RA:=Hd r1
 have RAf:=Hd r2
 have hltA : p1.heap.size + 1 < q1.heap.size:=(Gx r2)
 clear r1 r2 kb
 go_wp2_with fail
 clear hW
 refine (qParse_any s _).mono ?_
 intro e p2 hpp
 obtain ⟨fcB,fpB,xB,v,rfl,⟨b0,b1,b2,b3,b4,b5,b6,d0,d1,d2,d3,d4,d5,d6,rfl,hx⟩,hb,ho⟩:=ParseP.out hpp
 clear hpp
 obtain ⟨rfl,rfl,rfl⟩:=HOA.out.one ho
 replace RA:=Hd ((hb.block _ (Gx RA.out)).trans RA.out)
 replace RAf:=Hd ((hb.block _ (Gx RAf.out)).trans RAf.out)
 replace OA:=Hd (OA.out.keep fun g _ hg => hb.block g hg)
 replace SPL:=Hd (SPL.out.trans (Spl.below hb))
 replace HB:=Hd (HB.out.trans (hb.mono HB.out.size))
 have hz_p2:=hb.size
 have OB:=Hd hx
 clear hx hb
 clear ho
 simp only [stC]
 obtain ⟨q2,hW⟩:=Vx ((p2.alloc (.cells (Vt xA.kind xA.table xA.join (.slice b0 xA.on.length d0) (.slice b1 xA.whr.length d1) (.slice b2 xA.items.length d2) xA.star (.slice b3 xA.sets.length d3) (.slice b4 xA.groups.length d4) (.slice b5 xA.sorts.length d5) (.slice b6 xA.limit.length d6) xA.place xA.joinAt) 27)).alloc (.cells #[Vi fcA,Vi fpA] 30))
 obtain ⟨r1,r2,kb⟩:=hW ▸ two_new (w:=p2) (o:=.cells (Vt xA.kind xA.table xA.join (.slice b0 xA.on.length d0) (.slice b1 xA.whr.length d1) (.slice b2 xA.items.length d2) xA.star (.slice b3 xA.sets.length d3) (.slice b4 xA.groups.length d4) (.slice b5 xA.sorts.length d5) (.slice b6 xA.limit.length d6) xA.place xA.joinAt) 27) (p:=.cells #[Vi fcA,Vi fpA] 30)
 replace RA:=Hd ((kb.block _ (Gx RA.out)).trans RA.out)
 replace RAf:=Hd ((kb.block _ (Gx RAf.out)).trans RAf.out)
 replace OA:=Hd (OA.out.keep fun g _ hg => kb.block g hg)
 replace OB:=Hd (OB.out.keep fun g _ hg => kb.block g hg)
 replace SPL:=Hd (SPL.out.trans (Spl.below kb))
 replace HB:=Hd (HB.out.trans (kb.mono HB.out.size))
 have hz_q2:=kb.size
 have RB:=Hd r1
 have RBf:=Hd r2
 have hltB : p2.heap.size + 1 < q2.heap.size:=(Gx r2)
 clear r1 r2 kb
 have zs:=(thirt_of RA.out).1
 have zt:=(thirt_of RB.out).1
 go_wp2_with fail
 clear hW
 refine (whole_any xA a0 a1 a2 a3 a4 a5 a6 b0 b1 b2 b3 b4 b5 b6 c0 c1 c2 c3 c4 c5 c6 d0 d1 d2 d3 d4 d5 d6 _ OA.out.ra OB.out.ra HOA.out.bd).mono ?_
 rintro e u1 ⟨rfl,hb⟩
 clear zs zt
 replace RA:=Hd ((hb.block _ (Gx RA.out)).trans RA.out)
 replace RAf:=Hd ((hb.block _ (Gx RAf.out)).trans RAf.out)
 replace RB:=Hd ((hb.block _ (Gx RB.out)).trans RB.out)
 replace RBf:=Hd ((hb.block _ (Gx RBf.out)).trans RBf.out)
 replace OA:=Hd (OA.out.keep fun g _ hg => hb.block g hg)
 replace OB:=Hd (OB.out.keep fun g _ hg => hb.block g hg)
 replace SPL:=Hd (SPL.out.trans (Spl.below hb))
 replace HB:=Hd (HB.out.trans (hb.mono HB.out.size))
 have hz_u1:=hb.size
 clear hb
 have zs:=(thirt_of RA.out).1
 have HZZ : Hid (∀ g,w.heap.size ≤ g → g < p1.heap.size → Zs w.heap.size p1.heap.size g):=fun g h1 h2 => ⟨h1,h2⟩
 have HZL : Hid (∀ z,Zs w.heap.size p1.heap.size z → z < u1.heap.size):=fun z h => by have:=h.2; omega
 have HBD:=Hd HOA.out.bd
 go_wp2_with fail
 refine (spoil_any (Zs w.heap.size p1.heap.size) xA a0 a1 a2 a3 a4 a5 a6 c0 c1 c2 c3 c4 c5 c6 1001 _ (SpK.keep SPL.out (XL.sp (n:=1001) HZZ.out HXA.out.on HBD.out.on.2)) (SpK.keep SPL.out (XL.sp (n:=1001) HZZ.out HXA.out.whr HBD.out.whr.2)) (SpK.keep SPL.out (XL.sp (n:=1001) HZZ.out HXA.out.items HBD.out.items.2)) (SpK.keep SPL.out (XL.sp (n:=1001) HZZ.out HXA.out.groups HBD.out.groups.2)) (SpS.keep SPL.out (SeL.sp (n:=1001) HZZ.out HXA.out.sets HBD.out.sets.2)) (SpR.keep SPL.out (by obtain ⟨ks,_,h⟩:=HXA.out.sorts; exact own_spr HZZ.out h)) (SpR.keep SPL.out (own_spr HZZ.out HXA.out.limit)) HZL.out).mono ?_
 rintro e u2 ⟨rfl,hs⟩
 clear zs
 clear OA HXA SPL HZZ HZL HBD
 replace RA:=Hd (hs.far RA.out fun z => by have h1:=z.2; have h2 : p1.heap.size ≤ p1.heap.size:=Nat.le_refl _; omega)
 replace RAf:=Hd (hs.far RAf.out fun z => by have h1:=z.2; have h2 : p1.heap.size ≤ p1.heap.size:=Nat.le_refl _; omega)
 replace RB:=Hd (hs.far RB.out fun z => by have h1:=z.2; have h2 : p1.heap.size ≤ p1.heap.size:=Nat.le_refl _; omega)
 replace RBf:=Hd (hs.far RBf.out fun z => by have h1:=z.2; have h2 : p1.heap.size ≤ p1.heap.size:=Nat.le_refl _; omega)
 replace OB:=Hd (OB.out.high hs (by omega))
 replace HB:=Hd (HB.out.trans (hs.belowZ HB.out.size))
 have hz_u2:=hs.size
 clear hs
 go_wp2_with fail
 refine (synParse_any t _ (HV.out.later HB.out)).mono ?_
 intro e p3 hpp
 obtain ⟨fcE,fpE,xE,v,rfl,⟨e0,e1,e2,e3,e4,e5,e6,f0,f1,f2,f3,f4,f5,f6,rfl,hx⟩,hb,ho⟩:=ParseP.out hpp
 clear hpp
 have HOE:=Hd ho
 replace RA:=Hd ((hb.block _ (Gx RA.out)).trans RA.out)
 replace RAf:=Hd ((hb.block _ (Gx RAf.out)).trans RAf.out)
 replace RB:=Hd ((hb.block _ (Gx RB.out)).trans RB.out)
 replace RBf:=Hd ((hb.block _ (Gx RBf.out)).trans RBf.out)
 replace OB:=Hd (OB.out.keep fun g _ hg => hb.block g hg)
 replace HB:=Hd (HB.out.trans (hb.mono HB.out.size))
 have hz_p3:=hb.size
 have OE:=Hd hx
 clear hx hb ho
 simp only [stC]
 obtain ⟨q3,hW⟩:=Vx ((p3.alloc (.cells (Vt xE.kind xE.table xE.join (.slice e0 xE.on.length f0) (.slice e1 xE.whr.length f1) (.slice e2 xE.items.length f2) xE.star (.slice e3 xE.sets.length f3) (.slice e4 xE.groups.length f4) (.slice e5 xE.sorts.length f5) (.slice e6 xE.limit.length f6) xE.place xE.joinAt) 27)).alloc (.cells #[Vi fcE,Vi fpE] 30))
 obtain ⟨r1,r2,kb⟩:=hW ▸ two_new (w:=p3) (o:=.cells (Vt xE.kind xE.table xE.join (.slice e0 xE.on.length f0) (.slice e1 xE.whr.length f1) (.slice e2 xE.items.length f2) xE.star (.slice e3 xE.sets.length f3) (.slice e4 xE.groups.length f4) (.slice e5 xE.sorts.length f5) (.slice e6 xE.limit.length f6) xE.place xE.joinAt) 27) (p:=.cells #[Vi fcE,Vi fpE] 30)
 replace RA:=Hd ((kb.block _ (Gx RA.out)).trans RA.out)
 replace RAf:=Hd ((kb.block _ (Gx RAf.out)).trans RAf.out)
 replace RB:=Hd ((kb.block _ (Gx RB.out)).trans RB.out)
 replace RBf:=Hd ((kb.block _ (Gx RBf.out)).trans RBf.out)
 replace OB:=Hd (OB.out.keep fun g _ hg => kb.block g hg)
 replace OE:=Hd (OE.out.keep fun g _ hg => kb.block g hg)
 replace HB:=Hd (HB.out.trans (kb.mono HB.out.size))
 have hz_q3:=kb.size
 have RE:=Hd r1
 have REf:=Hd r2
 have hltE : p3.heap.size + 1 < q3.heap.size:=(Gx r2)
 clear r1 r2 kb
 go_wp2_with fail
 clear hW
 refine (qParse_any t _).mono ?_
 intro e p4 hpp
 obtain ⟨fcG,fpG,xG,v,rfl,⟨g0,g1,g2,g3,g4,g5,g6,h0,h1,h2,h3,h4,h5,h6,rfl,hx⟩,hb,ho⟩:=ParseP.out hpp
 clear hpp
 obtain ⟨rfl,rfl,rfl⟩:=HOE.out.one ho
 replace RA:=Hd ((hb.block _ (Gx RA.out)).trans RA.out)
 replace RAf:=Hd ((hb.block _ (Gx RAf.out)).trans RAf.out)
 replace RB:=Hd ((hb.block _ (Gx RB.out)).trans RB.out)
 replace RBf:=Hd ((hb.block _ (Gx RBf.out)).trans RBf.out)
 replace RE:=Hd ((hb.block _ (Gx RE.out)).trans RE.out)
 replace REf:=Hd ((hb.block _ (Gx REf.out)).trans REf.out)
 replace OB:=Hd (OB.out.keep fun g _ hg => hb.block g hg)
 replace OE:=Hd (OE.out.keep fun g _ hg => hb.block g hg)
 replace HB:=Hd (HB.out.trans (hb.mono HB.out.size))
 have hz_p4:=hb.size
 have OG:=Hd hx
 clear hx hb
 clear ho
 simp only [stC]
 obtain ⟨q4,hW⟩:=Vx ((p4.alloc (.cells (Vt xE.kind xE.table xE.join (.slice g0 xE.on.length h0) (.slice g1 xE.whr.length h1) (.slice g2 xE.items.length h2) xE.star (.slice g3 xE.sets.length h3) (.slice g4 xE.groups.length h4) (.slice g5 xE.sorts.length h5) (.slice g6 xE.limit.length h6) xE.place xE.joinAt) 27)).alloc (.cells #[Vi fcE,Vi fpE] 30))
 obtain ⟨r1,r2,kb⟩:=hW ▸ two_new (w:=p4) (o:=.cells (Vt xE.kind xE.table xE.join (.slice g0 xE.on.length h0) (.slice g1 xE.whr.length h1) (.slice g2 xE.items.length h2) xE.star (.slice g3 xE.sets.length h3) (.slice g4 xE.groups.length h4) (.slice g5 xE.sorts.length h5) (.slice g6 xE.limit.length h6) xE.place xE.joinAt) 27) (p:=.cells #[Vi fcE,Vi fpE] 30)
 replace RA:=Hd ((kb.block _ (Gx RA.out)).trans RA.out)
 replace RAf:=Hd ((kb.block _ (Gx RAf.out)).trans RAf.out)
 replace RB:=Hd ((kb.block _ (Gx RB.out)).trans RB.out)
 replace RBf:=Hd ((kb.block _ (Gx RBf.out)).trans RBf.out)
 replace RE:=Hd ((kb.block _ (Gx RE.out)).trans RE.out)
 replace REf:=Hd ((kb.block _ (Gx REf.out)).trans REf.out)
 replace OB:=Hd (OB.out.keep fun g _ hg => kb.block g hg)
 replace OE:=Hd (OE.out.keep fun g _ hg => kb.block g hg)
 replace OG:=Hd (OG.out.keep fun g _ hg => kb.block g hg)
 replace HB:=Hd (HB.out.trans (kb.mono HB.out.size))
 have hz_q4:=kb.size
 have RG:=Hd r1
 have RGf:=Hd r2
 have hltG : p4.heap.size + 1 < q4.heap.size:=(Gx r2)
 clear r1 r2 kb
 have zs:=(thirt_of RE.out).1
 have zt:=(thirt_of RG.out).1
 go_wp2_with fail
 clear hW
 refine (whole_any xE e0 e1 e2 e3 e4 e5 e6 g0 g1 g2 g3 g4 g5 g6 f0 f1 f2 f3 f4 f5 f6 h0 h1 h2 h3 h4 h5 h6 _ OE.out.ra OG.out.ra HOE.out.bd).mono ?_
 rintro e u3 ⟨rfl,hb⟩
 clear zs zt
 replace RA:=Hd ((hb.block _ (Gx RA.out)).trans RA.out)
 replace RAf:=Hd ((hb.block _ (Gx RAf.out)).trans RAf.out)
 replace RB:=Hd ((hb.block _ (Gx RB.out)).trans RB.out)
 replace RBf:=Hd ((hb.block _ (Gx RBf.out)).trans RBf.out)
 replace RE:=Hd ((hb.block _ (Gx RE.out)).trans RE.out)
 replace REf:=Hd ((hb.block _ (Gx REf.out)).trans REf.out)
 replace RG:=Hd ((hb.block _ (Gx RG.out)).trans RG.out)
 replace RGf:=Hd ((hb.block _ (Gx RGf.out)).trans RGf.out)
 replace OB:=Hd (OB.out.keep fun g _ hg => hb.block g hg)
 replace OE:=Hd (OE.out.keep fun g _ hg => hb.block g hg)
 replace OG:=Hd (OG.out.keep fun g _ hg => hb.block g hg)
 replace HB:=Hd (HB.out.trans (hb.mono HB.out.size))
 have hz_u3:=hb.size
 clear hb
 go_wp2_with fail
 refine (synParse_any s _ (HV.out.later HB.out)).mono ?_
 intro e p5 hpp
 obtain ⟨fcH,fpH,xH,v,rfl,⟨i0,i1,i2,i3,i4,i5,i6,j0,j1,j2,j3,j4,j5,j6,rfl,hx⟩,hb,ho⟩:=ParseP.out hpp
 clear hpp
 obtain ⟨rfl,rfl,rfl⟩:=HOA.out.one ho
 replace RA:=Hd ((hb.block _ (Gx RA.out)).trans RA.out)
 replace RAf:=Hd ((hb.block _ (Gx RAf.out)).trans RAf.out)
 replace RB:=Hd ((hb.block _ (Gx RB.out)).trans RB.out)
 replace RBf:=Hd ((hb.block _ (Gx RBf.out)).trans RBf.out)
 replace RE:=Hd ((hb.block _ (Gx RE.out)).trans RE.out)
 replace REf:=Hd ((hb.block _ (Gx REf.out)).trans REf.out)
 replace RG:=Hd ((hb.block _ (Gx RG.out)).trans RG.out)
 replace RGf:=Hd ((hb.block _ (Gx RGf.out)).trans RGf.out)
 replace OB:=Hd (OB.out.keep fun g _ hg => hb.block g hg)
 replace OE:=Hd (OE.out.keep fun g _ hg => hb.block g hg)
 replace OG:=Hd (OG.out.keep fun g _ hg => hb.block g hg)
 replace HB:=Hd (HB.out.trans (hb.mono HB.out.size))
 have hz_p5:=hb.size
 have OH:=Hd hx
 clear hx hb
 clear ho
 simp only [stC]
 obtain ⟨q5,hW⟩:=Vx ((p5.alloc (.cells (Vt xA.kind xA.table xA.join (.slice i0 xA.on.length j0) (.slice i1 xA.whr.length j1) (.slice i2 xA.items.length j2) xA.star (.slice i3 xA.sets.length j3) (.slice i4 xA.groups.length j4) (.slice i5 xA.sorts.length j5) (.slice i6 xA.limit.length j6) xA.place xA.joinAt) 27)).alloc (.cells #[Vi fcA,Vi fpA] 30))
 obtain ⟨r1,r2,kb⟩:=hW ▸ two_new (w:=p5) (o:=.cells (Vt xA.kind xA.table xA.join (.slice i0 xA.on.length j0) (.slice i1 xA.whr.length j1) (.slice i2 xA.items.length j2) xA.star (.slice i3 xA.sets.length j3) (.slice i4 xA.groups.length j4) (.slice i5 xA.sorts.length j5) (.slice i6 xA.limit.length j6) xA.place xA.joinAt) 27) (p:=.cells #[Vi fcA,Vi fpA] 30)
 replace RA:=Hd ((kb.block _ (Gx RA.out)).trans RA.out)
 replace RAf:=Hd ((kb.block _ (Gx RAf.out)).trans RAf.out)
 replace RB:=Hd ((kb.block _ (Gx RB.out)).trans RB.out)
 replace RBf:=Hd ((kb.block _ (Gx RBf.out)).trans RBf.out)
 replace RE:=Hd ((kb.block _ (Gx RE.out)).trans RE.out)
 replace REf:=Hd ((kb.block _ (Gx REf.out)).trans REf.out)
 replace RG:=Hd ((kb.block _ (Gx RG.out)).trans RG.out)
 replace RGf:=Hd ((kb.block _ (Gx RGf.out)).trans RGf.out)
 replace OB:=Hd (OB.out.keep fun g _ hg => kb.block g hg)
 replace OE:=Hd (OE.out.keep fun g _ hg => kb.block g hg)
 replace OG:=Hd (OG.out.keep fun g _ hg => kb.block g hg)
 replace OH:=Hd (OH.out.keep fun g _ hg => kb.block g hg)
 replace HB:=Hd (HB.out.trans (kb.mono HB.out.size))
 have hz_q5:=kb.size
 have RH:=Hd r1
 have RHf:=Hd r2
 have hltH : p5.heap.size + 1 < q5.heap.size:=(Gx r2)
 clear r1 r2 kb
 have zs:=(thirt_of RH.out).1
 have zt:=(thirt_of RB.out).1
 go_wp2_with fail
 clear hW
 refine (whole_any xA i0 i1 i2 i3 i4 i5 i6 b0 b1 b2 b3 b4 b5 b6 j0 j1 j2 j3 j4 j5 j6 d0 d1 d2 d3 d4 d5 d6 _ OH.out.ra OB.out.ra HOA.out.bd).mono ?_
 rintro e u4 ⟨rfl,hb⟩
 clear zs zt
 replace RA:=Hd ((hb.block _ (Gx RA.out)).trans RA.out)
 replace RAf:=Hd ((hb.block _ (Gx RAf.out)).trans RAf.out)
 replace RB:=Hd ((hb.block _ (Gx RB.out)).trans RB.out)
 replace RBf:=Hd ((hb.block _ (Gx RBf.out)).trans RBf.out)
 replace RE:=Hd ((hb.block _ (Gx RE.out)).trans RE.out)
 replace REf:=Hd ((hb.block _ (Gx REf.out)).trans REf.out)
 replace RG:=Hd ((hb.block _ (Gx RG.out)).trans RG.out)
 replace RGf:=Hd ((hb.block _ (Gx RGf.out)).trans RGf.out)
 replace RH:=Hd ((hb.block _ (Gx RH.out)).trans RH.out)
 replace RHf:=Hd ((hb.block _ (Gx RHf.out)).trans RHf.out)
 replace OB:=Hd (OB.out.keep fun g _ hg => hb.block g hg)
 replace OE:=Hd (OE.out.keep fun g _ hg => hb.block g hg)
 replace OG:=Hd (OG.out.keep fun g _ hg => hb.block g hg)
 replace OH:=Hd (OH.out.keep fun g _ hg => hb.block g hg)
 replace HB:=Hd (HB.out.trans (hb.mono HB.out.size))
 have hz_u4:=hb.size
 clear hb
 have zAf:=(twoq_of RAf.out).1
 have zBf:=(twoq_of RBf.out).1
 have zEf:=(twoq_of REf.out).1
 have zGf:=(twoq_of RGf.out).1
 have zHf:=(twoq_of RHf.out).1
 go_wp2
 exact bodyPost_ret (v:=.bool true) (by simp [results,Tryz.results3,go_sem]) rfl ⟨rfl,HB.out⟩
end Go.Proofs.YtffalonhkemieaaGreatDoor
