/- O31 O32 ZT1 ZT2 ZT3 -/
import Derived.Test.YtmmmkjhpmlfopaaGreatDoorSB24
set_option maxHeartbeats 16000000
set_option maxRecDepth 100000
namespace Go.Proofs.YtmmmkjhpmlfopaaGreatDoor
open Go.RowKit
section
open Go.RowKit BB
def vBlk : Value → Nat
 | .slice (some a) _ _ => a.block
 | _ => 0
def vCap : Value → Nat
 | .slice _ _ c => c
 | _ => 0
theorem own_some {w : World} {B : Nat} {e : TypeId} {size : Nat} {v : Value} {n : Nat} {xs : List Value} (h : w.ownsRow B e size v n xs) (hn : 0 < n) : v = .slice (some ⟨vBlk v,0,none⟩) n (vCap v) ∧ v.ownBlock = some (vBlk v):=by
 obtain ⟨_,⟨_,h0⟩ | ⟨g,cap,cur,rfl,_⟩⟩:=h
 ·omega
 ·exact ⟨rfl,rfl⟩
def NewT (w : World) (A0 B0 : Nat) (t : TT.Tb) (P : Nat) (e : Ending) (w' : World) : Prop:=∃ D Z,e = .returned (.pointer (some ⟨D.r,0,none⟩)) ∧ D.t = t ∧ D.P = P ∧ Tab w' w.heap.size Z D [] ∧ (w.heap.size ≤ D.r ∧ D.r < w'.heap.size ∧ ¬ Z D.r) ∧ ∀ W : World,(∀ k,k < w'.heap.size → (A0 ≤ k ∧ k < B0 ∨ w.heap.size ≤ k) → ¬ Z k → W.heap[k]? = w'.heap[k]?) → Fix W D
theorem MadeT.tab {w w' : World} {A0 B0 r : Nat} {t : TT.Tb} {P : Nat} (hB0 : B0 ≤ w.heap.size) (hb : Below w.heap.size w w') (ht : TR t) (hP : 1 ≤ P ∧ P ≤ 16) {pc pk px : Option Addr} {cc ck cx : Nat} (hdef : ∀ W : World,(∀ k,A0 ≤ k → k < B0 → W.heap[k]? = w.heap[k]?) → TT.RowR 3 TT.ColR W pc t.cols ∧ TT.RowR 1 TT.IntR W pk t.key ∧ TT.RowR 3 (TT.IxR W) W px t.ixs) {u : Value} {ps : List Pt} (hl : ps.length = P) (hr : w'.heap[r]? = some (.cells #[.string t.nm,.slice pc t.cols.length cc,.slice pk t.key.length ck,.int .i64 t.part,.slice px t.ixs.length cx,u] 104 (0,0))) (hrw : w.heap.size ≤ r) (hu : w'.ownsRow w.heap.size 138 1 u P (ps.map (·.u))) (hm : MadeT w' w.heap.size (t.ixs.length + 1) r u ps) : NewT w A0 B0 t P (.returned (.pointer (some ⟨r,0,none⟩))) w':=by
 obtain ⟨zp,h1,h2,h3⟩:=hm.zp
 obtain ⟨hus,hub⟩:=own_some hu hP.1
 have hrl:=(Gx hr)
 have hpu : ∀ p (h : p < ps.length),(ps[p]).u = .slice (some ⟨vBlk (ps[p]).u,0,none⟩) (t.ixs.length + 1) (vCap (ps[p]).u) ∧ (ps[p]).u.ownBlock = some (vBlk (ps[p]).u):=fun p h => own_some (hm.row p h).2 (Nat.succ_pos _)
 obtain ⟨D,hD⟩ : ∃ D : TD,D = ⟨r,t,P,fun p => vBlk ((ps[p]?).map (·.u) |>.getD .nilFunc),fun p => vCap ((ps[p]?).map (·.u) |>.getD .nilFunc),fun p j => ((ps[p]?).bind (·.ts[j]?)).getD 0,vBlk u,vCap u,pc,cc,pk,ck,px,cx⟩:=⟨_,rfl⟩
 have hDt : D.t = t:=by rw [hD]
 have hDP : D.P = P:=by rw [hD]
 have hDr : D.r = r:=by rw [hD]
 have hDK : D.K = t.ixs.length + 1:=by unfold TD.K; rw [hDt]
 have hDb : ∀ p (h : p < ps.length),D.bs p = vBlk (ps[p]).u ∧ D.cq p = vCap (ps[p]).u:=fun p h => by rw [hD]; simp [List.getElem?_eq_getElem h]
 have hDtp : ∀ p (h : p < ps.length) j (h' : j < (ps[p]).ts.length),D.tp p j = (ps[p]).ts[j]:=fun p h j h' => by rw [hD]; simp [List.getElem?_eq_getElem h,List.getElem?_eq_getElem h']
 obtain ⟨Z,hZ⟩ : ∃ Z : Nat → Prop,Z = fun k => ∃ p j,p < P ∧ j < t.ixs.length + 1 ∧ zp p j k:=⟨_,rfl⟩
 have hZlo : ∀ k,Z k → w.heap.size ≤ k ∧ k < w'.heap.size:=fun k hk => by
  rw [hZ] at hk
  obtain ⟨p,j,hp,hj,hz⟩:=hk
  have hp' : p < ps.length:=by omega
  exact (h1 p hp' j (by rw [(hm.row p hp').1]; exact hj)).lo k hz
 have hZr : ¬ Z r:=fun hk => by
  rw [hZ] at hk
  obtain ⟨p,j,hp,hj,hz⟩:=hk
  exact (h3 p j r Om hj hz).1 rfl
 have hfix : ∀ W : World,(∀ k,k < w'.heap.size → (A0 ≤ k ∧ k < B0 ∨ w.heap.size ≤ k) → ¬ Z k → W.heap[k]? = w'.heap[k]?) → Fix W D:=fun W hW => by
  obtain ⟨d1,d2,d3⟩:=hdef W fun k ha hk => (hW k (by have:=hb.size; omega) (Or.inl ⟨ha,hk⟩) fun hz => by have:=(hZlo k hz).1; omega).trans (hb.block k Om)
  have kr : W.heap[r]? = _:=(hW r hrl (Or.inr hrw) hZr).trans hr
  have ku : ∀ q,u.ownBlock = some q → W.heap[q]? = w'.heap[q]?:=fun q hq => hW q (hu.lt q hq).2 (Or.inr (hu.lt q hq).1) fun hk => by
   rw [hZ] at hk
   obtain ⟨p,j,hp,hj,hz⟩:=hk
   exact (h3 p j q Om hj hz).2.1 hq
  have hu':=own_kept hu ku
  refine ⟨fun i v hv => ?_,by rw [hD]; exact d1,by rw [hD]; exact d2,by rw [hD]; exact d3,fun p hp => ?_,fun p hp j hj => ?_⟩
  ·rw [hDr]
   have e : [Value.string D.t.nm,.slice D.pc D.t.cols.length D.cc,.slice D.pk D.t.key.length D.ck,.int .i64 D.t.part,.slice D.px D.t.ixs.length D.cx,.slice (some ⟨D.pb,0,none⟩) D.P D.cp] = [.string t.nm,.slice pc t.cols.length cc,.slice pk t.key.length ck,.int .i64 t.part,.slice px t.ixs.length cx,u]:=by
    rw [hD]
    simp only [List.cons.injEq,and_true,true_and]
    exact hus.symm
   rw [e] at hv
   exact cell_blk kr (by simpa using hv)
  ·rw [hDP] at hp
   have hp' : p < ps.length:=by omega
   have e : D.pb = vBlk u:=by rw [hD]
   rw [hus] at hu'
   rw [e,hu'.cellAt p Om,List.getElem?_eq_getElem (by simpa using hp'),List.getElem_map]
   unfold TD.pv
   rw [(hDb p hp').1,(hDb p hp').2,hDK]
   exact congrArg some (hpu p hp').1
  ·rw [hDP] at hp
   rw [hDK] at hj
   have hp' : p < ps.length:=by omega
   have hrow:=hm.row p hp'
   have kb : ∀ q,(ps[p]).u.ownBlock = some q → W.heap[q]? = w'.heap[q]?:=fun q hq => hW q (hrow.2.lt q hq).2 (Or.inr (hrow.2.lt q hq).1) fun hk => by
    rw [hZ] at hk
    obtain ⟨p2,j2,hp2,hj2,hz⟩:=hk
    exact (h3 p2 j2 q Om hj2 hz).2.2 p hp' hq
   have ho:=own_kept hrow.2 kb
   rw [(hpu p hp').1] at ho
   have hjl : j < (ps[p]).ts.length:=by rw [hrow.1]; exact hj
   rw [(hDb p hp').1,ho.cellAt j Om,List.getElem?_eq_getElem (by simpa using hjl),List.getElem_map,hDtp p hp' j hjl]
   rfl
 refine ⟨D,Z,by rw [hDr],hDt,hDP,⟨fun W hW => hfix W fun k hk _ hz => hW.block k hk hz,⟨⟨zp,fun p j k hp hj hz => by rw [hZ]; exact ⟨p,j,by omega,by omega,hz⟩,fun p j p' j' k hp hj hp' hj' a b => h2 p j p' j' k Om Om Om Om a b,fun p hp j hj => ?_⟩,hZlo⟩,TabOk.nil _,by rw [hDt]; exact ht,by rw [hDP]; exact hP,by simp⟩,by rw [hDr]; exact ⟨hrw,hrl,hZr⟩,hfix⟩
 have hp' : p < ps.length:=by omega
 have hjl : j < (ps[p]).ts.length:=by rw [(hm.row p hp').1]; omega
 rw [hDtp p hp' j hjl]
 exact ⟨[],h1 p hp' j hjl,Holds.nil fun k v h => by
  obtain ⟨q,hq,_⟩:=h
  exact absurd hq Si⟩
end
section
open Go.RowKit BB
theorem rows_step {w wr w2 w5 : World} {K : Nat} {u : Value} {ps : List Pt} {k : Nat} {a0 a1 a2 a3 a4 : Value} (h0 : wr.heap[w.heap.size]? = some (.cells #[a0,a1,a2,a3,a4] 47 (0,0))) (h1 : wr.heap[w.heap.size + 1]? = some (.cells #[a0,a1,a2,a3,a4,u] 104 (0,0))) (hown : wr.ownsRow w.heap.size 138 1 u k (ps.map (·.u))) (hmade : MadeT wr w.heap.size K (w.heap.size + 1) u ps) (hbel : Below w.heap.size w wr) (hb2 : Below wr.heap.size wr w2) {v : Value} {ts : List Nat} (htl : ts.length = K) (hm2 : MadeR w2 wr.heap.size ts v) (ho2 : w2.ownsRow wr.heap.size 140 1 v K (ts.map ptr9)) {o : Obj} {g cap : Nat} (hX : w5.ownsRow w.heap.size 138 1 (.slice (some ⟨g,0,none⟩) (k + 1) cap) (k + 1) (ps.map (·.u) ++ [v])) (hg : (w2.alloc o).grownBy w5 u.ownBlock) (hor : u.ownBlock = some g ∨ g = (w2.alloc o).heap.size) :
  (w5.setCell ⟨w.heap.size + 1,5,none⟩ (.slice (some ⟨g,0,none⟩) (k + 1) cap)).heap[w.heap.size]? = some (.cells #[a0,a1,a2,a3,a4] 47 (0,0)) ∧ (w5.setCell ⟨w.heap.size + 1,5,none⟩ (.slice (some ⟨g,0,none⟩) (k + 1) cap)).heap[w.heap.size + 1]? = some (.cells #[a0,a1,a2,a3,a4,.slice (some ⟨g,0,none⟩) (k + 1) cap] 104 (0,0)) ∧ (w5.setCell ⟨w.heap.size + 1,5,none⟩ (.slice (some ⟨g,0,none⟩) (k + 1) cap)).ownsRow w.heap.size 138 1 (.slice (some ⟨g,0,none⟩) (k + 1) cap) (k + 1) ((ps ++ [(⟨v,ts⟩ : Pt)]).map (·.u)) ∧ MadeT (w5.setCell ⟨w.heap.size + 1,5,none⟩ (.slice (some ⟨g,0,none⟩) (k + 1) cap)) w.heap.size K (w.heap.size + 1) (.slice (some ⟨g,0,none⟩) (k + 1) cap) (ps ++ [(⟨v,ts⟩ : Pt)]) ∧ Below w.heap.size w (w5.setCell ⟨w.heap.size + 1,5,none⟩ (.slice (some ⟨g,0,none⟩) (k + 1) cap)):=by
 have hst : ∀ (q : Nat) (cs : Array Value) (t : TypeId),wr.heap[q]? = some (.cells cs t (0,0)) → t ≠ 138 → w5.heap[q]? = some (.cells cs t (0,0)):=fun q cs t hq ht => by
  have hl:=(Gx hq)
  have:=hb2.size
  exact (hg.block q (by simp; omega) fun e => own_ne hown hq ht e.symm).trans ((alloc_low9 Om).trans (heap_of hq hb2))
 have j1:=hst _ _ _ h1 (by decide)
 have hbw : Below w.heap.size w w5:=((hbel.trans (hb2.mono hbel.size)).alloc (by have:=hbel.size; have:=hb2.size; omega) o).grown hg (by have:=hbel.size; have:=hb2.size; simp; omega) fun q hq => (hown.lt q hq).1
 refine ⟨(Below.heap_setCell _ _ _ _ Si).trans (hst _ _ _ h0 (by decide)),?_,?_,?_,hbw.grown (setCell_grown9 w5 _ 5 _) hbw.size fun q hq => by cases hq; exact Nat.le_succ _⟩
 ·have:=heap_setCell_at j1 (.slice (some ⟨g,0,none⟩) (k + 1) cap) (i:=5)
  simpa using this
 ·rw [List.map_append]
  exact own_kept hX fun q hq => Below.heap_setCell _ _ _ _ fun e => own_ne hX j1 (by decide) (by rw [hq,e])
 ·exact hmade.snoc h1 hbel.size hb2 htl hm2 ho2 hg (hor.imp (fun e => by rw [e]; rfl) fun e => by rw [e]; rfl) (fun q hq => own_block9 hown hq) _
theorem newRows_any (w : World) (A0 B0 : Nat) (t : TT.Tb) (vs : List Value) (hB0 : B0 ≤ w.heap.size) (hvs : ∀ W : World,(∀ k,A0 ≤ k → k < B0 → W.heap[k]? = w.heap[k]?) → TT.TbR W t vs) (ht : TR t) (P : Nat) (hP : 1 ≤ P ∧ P ≤ 16) :
  Calls Tryz.prog 52 #[.agg vs.toArray,.int .i64 (P : Int)] w fun e w' => Below w.heap.size w w' ∧ NewT w A0 B0 t P e w':=by
 obtain ⟨i2,hi2,hx0,hx1,hx2⟩:=info_parts Tryz.infoPart
 obtain ⟨pc,cc,pk,ck,px,cx,hv,-⟩:=hvs w fun _ _ _ => rfl
 have hdef : Hid (∀ W : World,(∀ k,A0 ≤ k → k < B0 → W.heap[k]? = w.heap[k]?) → TT.RowR 3 TT.ColR W pc t.cols ∧ TT.RowR 1 TT.IntR W pk t.key ∧ TT.RowR 3 (TT.IxR W) W px t.ixs):=Hd fun W hW => by
  obtain ⟨pc2,cc2,pk2,ck2,px2,cx2,hv2,r⟩:=hvs W hW
  rw [hv] at hv2
  simp only [List.cons.injEq,Value.slice.injEq,and_true,true_and] at hv2
  obtain ⟨⟨rfl,rfl⟩,⟨rfl,rfl⟩,rfl,rfl⟩:=hv2
  exact r
 subst hv
 have HTR:=Hd ht
 have HP:=Hd hP
 have HB0:=Hd hB0
 obtain ⟨n,hn⟩:=Vx t.ixs.length
 have HN:=Hd hn
 have hn4 : n ≤ 1000:=by have:=ht.ixs; omega
 obtain ⟨nc,hnc⟩:=Vx t.cols.length
 obtain ⟨nk,hnk⟩:=Vx t.key.length
 have HNC:=Hd (Zai hnc hnk)
 rw [hn,hnc,hnk]
 clear hvs ht hP hB0 hn hnc hnk
 go_enter Tryz.func52,Tryz.ntmps52
 obtain ⟨W0,hW0⟩:=Vx ((w.alloc (Obj.cells #[.string t.nm,.slice pc nc cc,.slice pk nk ck,.int .i64 t.part,.slice px n cx] 47)).alloc (Obj.cells #[.string t.nm,.slice pc nc cc,.slice pk nk ck,.int .i64 t.part,.slice px n cx,.slice none 0 0] 104))
 have hb0 : Below w.heap.size w W0:=by rw [← hW0]; exact ((Bxr _ w).alloc Zlr _).alloc Si _
 have k0 : W0.heap[w.heap.size]? = some (.cells #[.string t.nm,.slice pc nc cc,.slice pk nk ck,.int .i64 t.part,.slice px n cx] 47 (0,0)):=by
  rw [← hW0]
  exact (alloc_low9 Si).trans (heap_alloc_new w _)
 have k1 : W0.heap[w.heap.size + 1]? = some (.cells #[.string t.nm,.slice pc nc cc,.slice pk nk ck,.int .i64 t.part,.slice px n cx,.slice none 0 0] 104 (0,0)):=by
  rw [← hW0]
  have:=heap_alloc_new (w.alloc (Obj.cells #[.string t.nm,.slice pc nc cc,.slice pk nk ck,.int .i64 t.part,.slice px n cx] 47)) (Obj.cells #[.string t.nm,.slice pc nc cc,.slice pk nk ck,.int .i64 t.part,.slice px n cx,.slice none 0 0] 104)
  rwa [World.size_alloc] at this
 have HK:=Hd (Zai k0 (Zai k1 hb0))
 clear k0 k1 hb0
 go_wp2
 try rw [hW0]
 clear hW0
 have hst:=HK.out
 go_loopw [10] (fun q wr => ∃ (k : Nat) (ps : List Pt) (u : Value),k ≤ P ∧ q = .int .i64 (k : Int) ∧ ps.length = k ∧ wr.heap[w.heap.size]? = some (.cells #[.string t.nm,.slice pc nc cc,.slice pk nk ck,.int .i64 t.part,.slice px n cx] 47 (0,0)) ∧ wr.heap[w.heap.size + 1]? = some (.cells #[.string t.nm,.slice pc nc cc,.slice pk nk ck,.int .i64 t.part,.slice px n cx,u] 104 (0,0)) ∧ wr.ownsRow w.heap.size 138 1 u k (ps.map (·.u)) ∧ MadeT wr w.heap.size (n + 1) (w.heap.size + 1) u ps ∧ Below w.heap.size w wr) (fun q _ => P - (intOf q).toNat)
 case atStart => exact ⟨0,[],.slice none 0 0,Nat.zero_le _,rfl,rfl,hst.1,hst.2.1,World.ownsRow_nil _ _ _ _,MadeT.nil _ _ _ _ _,hst.2.2⟩
 case round =>
  obtain ⟨k,ps,u,hk,rfl,hl,h0,h1,hown,hmade,hb⟩:=hrel
  have HL:=Hd hl
  have H01:=Hd (Zai h0 h1)
  have HOW:=Hd hown
  have HM:=Hd hmade
  have HB:=Hd hb
  have hP16:=HP.out.2
  by_cases hlt : k < P
  ·have hlti : (k : Int) < (P : Int):=by omega
   have e0 : wr.cell? ⟨w.heap.size,4,none⟩ = some (.slice px n cx):=cell_blk h0 rfl
   have e1 : wr.cell? ⟨w.heap.size + 1,5,none⟩ = some u:=cell_blk h1 rfl
   have f1 : wr.frozen? ⟨w.heap.size + 1,5,none⟩ = false:=froz_blk h1
   have l0:=cell_lt e0
   have l1:=cell_lt e1
   have hne1:=own_ne hown h1 (by decide)
   have hty : ∀ g,u.ownBlock = some g → ∃ cur,wr.heap[g]? = some (.cells cur 138 (0,0)):=fun g hg => own_block9 hown hg
   have HTY:=Hd (Zai hne1 hty)
   clear hl h0 h1 hown hmade hb hne1 hty
   go_wp2_with fail
   go_region_law (first
    | (go_simp; go_at_call 102; refine (newPart_any _ n hn4).mono ?_; rintro e w2 ⟨hb2,v,ts,rfl,htl,hm2,ho2⟩; (obtain ⟨pv,cv,rfl⟩:=ownF ho2); (have HB2 : Hid (Below wr.heap.size wr w2):=Hd Bz); (have HO2 : Hid (w2.ownsRow wr.heap.size 140 1 (.slice pv (n + 1) cv) (n + 1) (ts.map ptr9)):=Hd ho2); (have HM2 : Hid (MadeR w2 wr.heap.size ts (.slice pv (n + 1) cv)):=Hd hm2); (have HTL:=Hd htl); (have j0:=heap_of H01.out.1 HB2.out); (have j1:=heap_of H01.out.2 HB2.out); (have g0 : w2.cell? ⟨w.heap.size,4,none⟩ = some (.slice px n cx):=cell_blk j0 rfl); (have g1 : w2.cell? ⟨w.heap.size + 1,5,none⟩ = some u:=cell_blk j1 rfl); (have s2:=HB2.out.size); (have n1 : w.heap.size + 1 ≠ w2.heap.size:=by omega); (have n0 : w.heap.size ≠ w2.heap.size:=by omega); (have n3 : w.heap.size + 1 < w2.heap.size:=by omega); (have n2 : w.heap.size < w2.heap.size:=by omega); clear hb2 hm2 ho2 htl j0 j1)
    | (refine step_append_lies _ rfl _ _ 102 rfl w.heap.size 138 i2 _ 1 24 Tryz.underlying102 hi2 hx0 hx1 hx2 rfl (by decide) u k (ps.map (·.u)) rfl ((own_later9 HOW.out HB2.out).alloc _) ⟨w2.heap.size,0,none⟩ 1 1 [.slice pv (n + 1) cv] rfl rfl (World.news_of_block (heap_alloc_new w2 _)) (by intro x hx; rw [Zms hx]; rfl) (by decide) (by unfold maxLen; omega) Om (by have:=HB.out.size; simp; omega) _ rfl ?_; intro g cap' w5 hown5 hgrow5 hor5 hlt5; (have HX5:=Hd (Zai hown5 (Zai hgrow5 hor5))); (have j5 : w5.heap[w.heap.size + 1]? = _:=(hgrow5.block _ (by simp; omega) (fun e => HTY.out.1 e.symm)).trans ((alloc_low9 Om).trans (heap_of H01.out.2 HB2.out))); (have z5 : w5.cell? ⟨w.heap.size + 1,5,none⟩ = some u:=cell_blk j5 rfl); (have y5 : w5.frozen? ⟨w.heap.size + 1,5,none⟩ = false:=froz_blk j5); clear hown5 hgrow5 hor5))
   all_goals
    have hstep:=rows_step H01.out.1 H01.out.2 HOW.out HM.out HB.out HB2.out HTL.out HM2.out HO2.out HX5.out.1 HX5.out.2.1 HX5.out.2.2
    have HST:=Hd hstep
    clear hstep z5 y5
    go_wp2
    go_roundw
    case rel => exact ⟨k + 1,ps ++ [(⟨.slice pv (n + 1) cv,ts⟩ : Pt)],_,by omega,by go_num,by rw [Zla,HL.out]; rfl,HST.out⟩
    case measure => simp [intOf]; omega
  ·have hlti : ¬ (k : Int) < (P : Int):=by omega
   obtain rfl : k = P:=by omega
   clear hl h0 h1 hown hmade hb
   go_wp2
   go_ret
   refine ⟨HB.out,?_⟩
   have h1:=H01.out.2
   rw [← HN.out,← HNC.out.1,← HNC.out.2] at h1
   have hm:=HM.out
   rw [← HN.out] at hm
   exact MadeT.tab HB0.out HB.out HTR.out HP.out hdef.out HL.out h1 (Nat.le_succ _) HOW.out hm
end
namespace TT
def fromB (a b n : Int) : Bool:=decide (a ≤ n) && decide (n ≤ b)
theorem from_any (a b n : Int) (w : World) :
  Calls Tryz.prog 141 #[.int .i64 a,.int .i64 b,.int .i64 n] w fun e w' => e = .returned (.bool (fromB a b n)) ∧ w' = w:=by
 go_enter Tryz.func141,Tryz.ntmps141
 go_wp2
 all_goals go_ret
 ·exact ⟨ret_bool (by simp [fromB, *]),rfl⟩
 ·exact ⟨ret_bool (by simp [fromB]; omega),rfl⟩
theorem small_any (c : UInt8) (w : World) :
  Calls Tryz.prog 187 #[.int .u8 (c.toNat : Int)] w fun e w' => e = .returned (.bool (smallB c)) ∧ w' = w:=by
 go_enter Tryz.func187,Tryz.ntmps187
 go_wp2
 all_goals go_ret
 all_goals (refine ⟨ret_bool ?_,rfl⟩; go_light; rw [Bool.eq_iff_iff]; simp [smallB]; omega)
theorem digit_any (c : UInt8) (w : World) :
  Calls Tryz.prog 188 #[.int .u8 (c.toNat : Int)] w fun e w' => e = .returned (.bool (digitB c)) ∧ w' = w:=by
 go_enter Tryz.func188,Tryz.ntmps188
 go_wp2
 all_goals go_ret
 all_goals (refine ⟨ret_bool ?_,rfl⟩; go_light; rw [Bool.eq_iff_iff]; simp [digitB]; omega)
theorem type_any (n : Int) (w : World) :
  Calls Tryz.prog 191 #[.int .i64 n] w fun e w' => e = .returned (.bool (typB n)) ∧ w' = w:=by
 go_enter Tryz.func191,Tryz.ntmps191
 go_wp2
 all_goals go_ret
 all_goals (refine ⟨ret_bool ?_,rfl⟩; go_light; rw [Bool.eq_iff_iff]; simp [typB]; omega)
theorem isNm_len {s : ByteArray} (h : ¬ (1 ≤ s.size ∧ s.size ≤ 16)) : isNm (bs s) = false:=by
 cases e : isNm (bs s) with
 | false => rfl
 | true =>
  simp only [isNm,Bool.and_eq_true,decide_eq_true_eq,bs_len] at e
  exact absurd e.1.1 h
theorem isNm_size {s : ByteArray} (h : isNm (bs s) = true) : 1 ≤ s.size ∧ s.size ≤ 16:=by
 simp only [isNm,Bool.and_eq_true,decide_eq_true_eq,bs_len] at h
 exact h.1.1
theorem bs_get (s : ByteArray) (k : Nat) (h : k < s.size) : (bs s)[k]'(by rw [bs_len]; exact h) = s[k]:=rfl
theorem isNm_head {s : ByteArray} (h : 0 < s.size) (e : smallB s[0] = false) : isNm (bs s) = false:=by
 have : (bs s).head? = some s[0]:=by
  rw [List.head?_eq_getElem?,List.getElem?_eq_getElem (by rw [bs_len]; exact h)]
  rfl
 simp [isNm,this,e]
theorem isNm_at {s : ByteArray} (k : Nat) (h : k < s.size) (e : nameB s[k] = false) : isNm (bs s) = false:=by
 have : (bs s).all nameB = false:=by
  rw [List.all_eq_false]
  exact ⟨s[k],by rw [← bs_get s k h]; exact List.getElem_mem _,by simp [e]⟩
 simp [isNm,this]
theorem isNm_yes {s : ByteArray} (h1 : 1 ≤ s.size) (h2 : s.size ≤ 16) (e : smallB (s[0]'Om) = true) (ha : ∀ k (h : k < s.size),nameB s[k] = true) : isNm (bs s) = true:=by
 have hh : (bs s).head? = some (s[0]'Om):=by
  rw [List.head?_eq_getElem?,List.getElem?_eq_getElem (by rw [bs_len]; omega)]
  rfl
 have hl:=bs_len s
 have ha' : (bs s).all nameB = true:=by
  rw [List.all_eq_true]
  intro x hx
  obtain ⟨k,hk,rfl⟩:=List.getElem_of_mem hx
  rw [bs_len] at hk
  rw [bs_get s k hk]
  exact ha k hk
 simp only [isNm,hh,ha',hl,Option.any_some,e,decide_eq_true h1,decide_eq_true h2,Bool.and_true]
theorem name_any (s : ByteArray) (w : World) :
  Calls Tryz.prog 135 #[.string s] w fun e w' => e = .returned (.bool (isNm (bs s))) ∧ w' = w:=by
 by_cases h1 : 1 ≤ s.size ∧ s.size ≤ 16
 ·obtain ⟨h1,h2⟩:=h1
  have hf : fromB 1 16 (s.size : Int) = true:=by simp [fromB]; omega
  have h0 : 0 < s.size:=by omega
  cases hs : smallB s[0] with
  | false =>
   have HN : Hid (isNm (bs s) = false):=isNm_head h0 hs
   go_enter Tryz.func135,Tryz.ntmps135
   go_wp2_with (first | (go_at_call 141; refine (from_any _ _ _ _).mono ?_; rintro e w' ⟨rfl,he⟩; rw [hf,he]; clear he) | (go_at_call 187; refine (small_any s[0] _).mono ?_; rintro e w' ⟨rfl,he⟩; rw [hs,he]; clear he))
   go_ret
   exact ⟨ret_bool HN.out.symm,rfl⟩
  | true =>
   have HS : Hid (smallB s[0] = true):=hs
   go_enter Tryz.func135,Tryz.ntmps135
   go_wp2_with (first | (go_at_call 141; refine (from_any _ _ _ _).mono ?_; rintro e w' ⟨rfl,he⟩; rw [hf,he]; clear he) | (go_at_call 187; refine (small_any s[0] _).mono ?_; rintro e w' ⟨rfl,he⟩; rw [hs,he]; clear he))
   clear hs hf
   go_loop [16] (fun i => ∃ k : Nat,k ≤ s.size ∧ i = .int .i64 k ∧ ∀ j (h : j < s.size),j < k → nameB s[j] = true) (fun i => s.size - (intOf i).toNat)
   case atStart => exact ⟨0,Nat.zero_le _,rfl,fun j _ g => absurd g (Nat.not_lt_zero _)⟩
   case round =>
    obtain ⟨k,hk,rfl,hall⟩:=hrel
    have HA : Hid (∀ j (h : j < s.size),j < k → nameB s[j] = true):=hall
    clear hall
    by_cases hlt : k < s.size
    ·have hlti : (k : Int) < (s.size : Int):=by omega
     have HK : Hid (nameB s[k] = true → ∀ j (h : j < s.size),j < k + 1 → nameB s[j] = true):=fun hn j h g => by
      by_cases e : j = k
      ·subst e; exact hn
      ·exact HA.out j h Om
     have HN : Hid (nameB s[k] = false → isNm (bs s) = false):=fun hn => isNm_at k hlt hn
     cases g1 : smallB s[k] with
     | true =>
      have hn : nameB s[k] = true:=by simp [nameB,g1]
      have HK2:=Hd (HK.out hn)
      clear hn
      go_wp2_with (first | (go_at_call 187; refine (small_any s[k] _).mono ?_; rintro e w' ⟨rfl,he⟩; rw [g1,he]; clear he))
      go_round
      case rel => exact ⟨k + 1,by omega,by go_num,HK2.out⟩
      case measure => simp [intOf]; omega
     | false =>
      cases g2 : digitB s[k] with
      | true =>
       have hn : nameB s[k] = true:=by simp [nameB,g2]
       have HK2:=Hd (HK.out hn)
       clear hn
       go_wp2_with (first | (go_at_call 187; refine (small_any s[k] _).mono ?_; rintro e w' ⟨rfl,he⟩; rw [g1,he]; clear he) | (go_at_call 188; refine (digit_any s[k] _).mono ?_; rintro e w' ⟨rfl,he⟩; rw [g2,he]; clear he))
       go_round
       case rel => exact ⟨k + 1,by omega,by go_num,HK2.out⟩
       case measure => simp [intOf]; omega
      | false =>
       by_cases g3 : s[k].toNat = 95
       ·have hn : nameB s[k] = true:=by simp [nameB,g3]
        have HK2:=Hd (HK.out hn)
        clear hn
        have g4 : ((s[k].toNat : Int) != 95) = false:=by simp [g3]
        clear g3
        go_wp2_with (first | (go_at_call 187; refine (small_any s[k] _).mono ?_; rintro e w' ⟨rfl,he⟩; rw [g1,he]; clear he) | (go_at_call 188; refine (digit_any s[k] _).mono ?_; rintro e w' ⟨rfl,he⟩; rw [g2,he]; clear he))
        go_round
        case rel => exact ⟨k + 1,by omega,by go_num,HK2.out⟩
        case measure => simp [intOf]; omega
       ·have hn : nameB s[k] = false:=by simp [nameB,g1,g2,g3]
        have HN2:=Hd (HN.out hn)
        clear hn
        have g4 : ((s[k].toNat : Int) != 95) = true:=by simp; omega
        clear g3
        go_wp2_with (first | (go_at_call 187; refine (small_any s[k] _).mono ?_; rintro e w' ⟨rfl,he⟩; rw [g1,he]; clear he) | (go_at_call 188; refine (digit_any s[k] _).mono ?_; rintro e w' ⟨rfl,he⟩; rw [g2,he]; clear he))
        go_ret
        exact ⟨ret_bool HN2.out.symm,rfl⟩
    ·have hk' : k = s.size:=by omega
     subst hk'
     have HN : Hid (isNm (bs s) = true):=isNm_yes h1 h2 HS.out fun j h => HA.out j h h
     go_wp2
     go_ret
     exact ⟨ret_bool HN.out.symm,rfl⟩
 ·have HN : Hid (isNm (bs s) = false):=isNm_len h1
  have hf : fromB 1 16 (s.size : Int) = false:=by
   cases e : fromB 1 16 (s.size : Int) with
   | false => rfl
   | true => simp [fromB] at e; omega
  go_enter Tryz.func135,Tryz.ntmps135
  go_wp2_with (first | (go_at_call 141; refine (from_any _ _ _ _).mono ?_; rintro e w' ⟨rfl,he⟩; rw [hf,he]; clear he))
  go_ret
  exact ⟨ret_bool HN.out.symm,rfl⟩
section
open Go.RowKit Go.Maps
theorem keyedS : Keyed Tryz.prog 9:=string_keyed Tryz.underlying9
theorem keyedI : Keyed Tryz.prog 3:=int_keyed Tryz.underlying3
theorem zeroU (w : World) : (zeroValue 180).run Tryz.prog w = .ok (.agg #[]) w:=by kernel_rfl
def setS (ks : List (List UInt8)) : DataW Unit:=setOf (.agg []) (ks.map Lit.string)
def setI (ks : List Int) : DataW Unit:=setOf (.agg []) (ks.map (Lit.int .i64))
theorem setS_snoc (ks : List (List UInt8)) (k : List UInt8) : (setS ks).put (.string k) (.agg []) = setS (ks ++ [k]):=by
 rw [setS,setS,List.map_append]
 exact (setOf_snoc _ _ _).symm
theorem setI_snoc (ks : List Int) (k : Int) : (setI ks).put (.int .i64 k) (.agg []) = setI (ks ++ [k]):=by
 rw [setI,setI,List.map_append]
 exact (setOf_snoc _ _ _).symm
theorem setS_has (ks : List (List UInt8)) (k : List UInt8) : Maps.has (setS ks) (.string k) = decide (k ∈ ks):=by
 rw [setS,has_setOf _ _ _ (fun x hx => by obtain ⟨y,_,rfl⟩:=List.mem_map.1 hx; trivial),Bool.eq_iff_iff]
 simp [Lit.sameKey]
theorem setI_has (ks : List Int) (k : Int) : Maps.has (setI ks) (.int .i64 k) = decide (k ∈ ks):=by
 rw [setI,has_setOf _ _ _ (fun x hx => by obtain ⟨y,_,rfl⟩:=List.mem_map.1 hx; trivial),Bool.eq_iff_iff]
 simp [Lit.sameKey]
structure AskS (w : World) (b p : Nat) (ks : List (List UInt8)) : Prop where
 box : w.heap[p]? = some (.cells #[.map (some b)] 94 (0,0))
 map : w.ownsMap Tryz.prog 9 (unitElem (H:=Unit)) b ks.length (setS ks)
structure AskI (w : World) (b p : Nat) (ks : List Int) : Prop where
 box : w.heap[p]? = some (.cells #[.map (some b)] 322 (0,0))
 map : w.ownsMap Tryz.prog 3 (unitElem (H:=Unit)) b ks.length (setI ks)
theorem AskS.kept {w w' : World} {b p : Nat} {ks : List (List UInt8)} (h : AskS w b p ks) (hp : w'.heap[p]? = w.heap[p]?) (hb : w'.heap[b]? = w.heap[b]?) : AskS w' b p ks:=by
 obtain ⟨es,clock,h4,r⟩:=h.map
 exact ⟨hp.trans h.box,es,clock,hb.trans h4,r⟩
theorem AskS.lt {w : World} {b p : Nat} {ks : List (List UInt8)} (h : AskS w b p ks) : p < w.heap.size ∧ b < w.heap.size:=⟨(Gx h.box),h.map.lt⟩
theorem AskS.later {w w' : World} {b p : Nat} {ks : List (List UInt8)} (h : AskS w b p ks) (hb : Below w.heap.size w w') : AskS w' b p ks:=h.kept (hb.block _ h.lt.1) (hb.block _ h.lt.2)
theorem AskS.ne {w : World} {b p : Nat} {ks : List (List UInt8)} (h : AskS w b p ks) {k : Nat} {cs : Array Value} {t : TypeId} {fr : Nat × Nat} (hk : w.heap[k]? = some (.cells cs t fr)) : k ≠ b:=fun e => by
 obtain ⟨es,clock,h4,_⟩:=h.map
 rw [← e,hk] at h4
 cases h4
theorem AskI.kept {w w' : World} {b p : Nat} {ks : List Int} (h : AskI w b p ks) (hp : w'.heap[p]? = w.heap[p]?) (hb : w'.heap[b]? = w.heap[b]?) : AskI w' b p ks:=by
 obtain ⟨es,clock,h4,r⟩:=h.map
 exact ⟨hp.trans h.box,es,clock,hb.trans h4,r⟩
theorem AskI.lt {w : World} {b p : Nat} {ks : List Int} (h : AskI w b p ks) : p < w.heap.size ∧ b < w.heap.size:=⟨(Gx h.box),h.map.lt⟩
theorem AskI.later {w w' : World} {b p : Nat} {ks : List Int} (h : AskI w b p ks) (hb : Below w.heap.size w w') : AskI w' b p ks:=h.kept (hb.block _ h.lt.1) (hb.block _ h.lt.2)
theorem AskI.ne {w : World} {b p : Nat} {ks : List Int} (h : AskI w b p ks) {k : Nat} {cs : Array Value} {t : TypeId} {fr : Nat × Nat} (hk : w.heap[k]? = some (.cells cs t fr)) : k ≠ b:=fun e => by
 obtain ⟨es,clock,h4,_⟩:=h.map
 rw [← e,hk] at h4
 cases h4
theorem unmetS_any (w : World) : Calls Tryz.prog 133 #[] w fun e w' => ∃ p b,e = .returned (.func (.func 186) #[] #[.pointer (some ⟨p,0,none⟩)]) ∧ AskS w' b p [] ∧ Below w.heap.size w w' ∧ w.heap.size ≤ b:=by
 have hmm:=@run_makeMap Tryz.prog
 go_enter Tryz.func133,Tryz.ntmps133
 go_wp2
 go_ret
 refine ⟨w.heap.size + 1,w.heap.size,rfl,⟨?_,?_⟩,Bz,Nat.le_refl _⟩
 ·have:=heap_alloc_new (w.alloc (.map #[] 0)) (.cells #[.map (some w.heap.size)] 94 (0,0))
  simpa using this
 ·exact (World.ownsMap_made w Tryz.prog 9 (unitElem (H:=Unit))).alloc _
theorem metS_any (s : ByteArray) (w : World) (b p : Nat) (ks : List (List UInt8)) (h : AskS w b p ks) (hk : ks.length ≤ 1000000) (hs : s.size ≤ 1099511627776) :
  Calls Tryz.prog 186 #[.string s,.pointer (some ⟨p,0,none⟩)] w fun e w' => e = .returned (.bool (!decide (bs s ∈ ks))) ∧ AskS w' b p (ks ++ [bs s]) ∧ Only (fun k => k = b) w w':=by
 obtain ⟨h1,h3⟩:=h
 have H1:=Hd h1
 have c0 : w.cell? ⟨p,0,none⟩ = some (.map (some b)):=cell_of_one h1
 have hp : p < w.heap.size:=(Gx h1)
 have hb:=h3.lt
 have hpb : p ≠ b:=fun e => by
  obtain ⟨es,clock,h4,_⟩:=h3
  rw [← e,h1] at h4
  cases h4
 have hkey : keyOf Tryz.prog 9 (.string s) = some (.string (bs s)):=WideMaps.keyOf_string_mk Tryz.underlying9 (by unfold maxLen; omega)
 have hown:=h3
 clear h1 h3
 go_enter Tryz.func186,Tryz.ntmps186
 go_wp2_with (first
  | (at_lookup; refine wpList_lookup_own_unit _ rfl _ _ 94 rfl 9 180 keyedS Tryz.underlying94 (zeroU _) b ks.length _ rfl hown _ _ rfl hkey ?_)
  | (at_mapUpdate; refine wpList_mapUpdate_own _ rfl _ _ _ 94 rfl 9 180 keyedS Tryz.underlying94 (unitElem (H:=Unit)) b ks.length _ rfl (hown.alloc _) (by unfold maxLen; omega) _ _ _ rfl rfl hkey _ [] unitElem_mk ?_; intro w1 hown1 hgrow1))
 go_ret
 refine ⟨ret_bool (by rw [setS_has]),⟨?_,?_⟩,?_⟩
 ·exact (hgrow1.block p (by simp; omega) (fun e => hpb (by simpa using e))).trans ((Below.heap_alloc _ _ _ hp).trans H1.out)
 ·rw [← setS_snoc,Zla]
  exact hown1
 ·exact ((Only.refl _ _).alloc _).grown hgrow1 (fun k hk => by cases hk; rfl)
theorem unmetI_any (w : World) : Calls Tryz.prog 228 #[] w fun e w' => ∃ p b,e = .returned (.func (.func 243) #[] #[.pointer (some ⟨p,0,none⟩)]) ∧ AskI w' b p [] ∧ Below w.heap.size w w' ∧ w.heap.size ≤ b:=by
 have hmm:=@run_makeMap Tryz.prog
 go_enter Tryz.func228,Tryz.ntmps228
 go_wp2
 go_ret
 refine ⟨w.heap.size + 1,w.heap.size,rfl,⟨?_,?_⟩,Bz,Nat.le_refl _⟩
 ·have:=heap_alloc_new (w.alloc (.map #[] 0)) (.cells #[.map (some w.heap.size)] 322 (0,0))
  simpa using this
 ·exact (World.ownsMap_made w Tryz.prog 3 (unitElem (H:=Unit))).alloc _
theorem metI_any (n : Int) (w : World) (b p : Nat) (ks : List Int) (h : AskI w b p ks) (hk : ks.length ≤ 1000000) (hs : (Lit.int .i64 n).wf = true) :
  Calls Tryz.prog 243 #[.int .i64 n,.pointer (some ⟨p,0,none⟩)] w fun e w' => e = .returned (.bool (!decide (n ∈ ks))) ∧ AskI w' b p (ks ++ [n]) ∧ Only (fun k => k = b) w w':=by
 obtain ⟨h1,h3⟩:=h
 have H1:=Hd h1
 have c0 : w.cell? ⟨p,0,none⟩ = some (.map (some b)):=cell_of_one h1
 have hp : p < w.heap.size:=(Gx h1)
 have hb:=h3.lt
 have hpb : p ≠ b:=fun e => by
  obtain ⟨es,clock,h4,_⟩:=h3
  rw [← e,h1] at h4
  cases h4
 have hkey : keyOf Tryz.prog 3 (.int .i64 n) = some (.int .i64 n):=keyOf_int_mk Tryz.underlying3 hs
 have hown:=h3
 clear h1 h3
 go_enter Tryz.func243,Tryz.ntmps243
 go_wp2_with (first
  | (at_lookup; refine wpList_lookup_own_unit _ rfl _ _ 322 rfl 3 180 keyedI Tryz.underlying322 (zeroU _) b ks.length _ rfl hown _ _ rfl hkey ?_)
  | (at_mapUpdate; refine wpList_mapUpdate_own _ rfl _ _ _ 322 rfl 3 180 keyedI Tryz.underlying322 (unitElem (H:=Unit)) b ks.length _ rfl (hown.alloc _) (by unfold maxLen; omega) _ _ _ rfl rfl hkey _ [] unitElem_mk ?_; intro w1 hown1 hgrow1))
 go_ret
 refine ⟨ret_bool (by rw [setI_has]),⟨?_,?_⟩,?_⟩
 ·exact (hgrow1.block p (by simp; omega) (fun e => hpb (by simpa using e))).trans ((Below.heap_alloc _ _ _ hp).trans H1.out)
 ·rw [← setI_snoc,Zla]
  exact hown1
 ·exact ((Only.refl _ _).alloc _).grown hgrow1 (fun k hk => by cases hk; rfl)
structure AskN (w : World) (b q : Nat) (ks : List (List UInt8)) : Prop where
 ex : ∃ p,w.heap[q]? = some (.cells #[.func (.func 186) #[] #[.pointer (some ⟨p,0,none⟩)]] 130 (0,0)) ∧ AskS w b p ks
theorem AskN.lt {w : World} {b q : Nat} {ks : List (List UInt8)} (h : AskN w b q ks) : q < w.heap.size ∧ b < w.heap.size:=by
 obtain ⟨p,h1,h2⟩:=h.ex
 exact ⟨(Gx h1),h2.lt.2⟩
theorem AskN.later {w w' : World} {b q : Nat} {ks : List (List UInt8)} (h : AskN w b q ks) (hb : Below w.heap.size w w') : AskN w' b q ks:=by
 obtain ⟨p,h1,h2⟩:=h.ex
 exact ⟨p,(hb.block _ (Gx h1)).trans h1,h2.later hb⟩
theorem AskN.ne {w : World} {b q : Nat} {ks : List (List UInt8)} (h : AskN w b q ks) {k : Nat} {cs : Array Value} {t : TypeId} {fr : Nat × Nat} (hk : w.heap[k]? = some (.cells cs t fr)) : k ≠ b:=by
 obtain ⟨p,h1,h2⟩:=h.ex
 exact h2.ne hk
theorem AskN.beside {w w' : World} {b b' q : Nat} {ks : List (List UInt8)} (h : AskN w b q ks) (ho : Only (fun k => k = b') w w') (hb : b ≠ b') (hm : ∀ k cs t fr,w.heap[k]? = some (.cells cs t fr) → k ≠ b') : AskN w' b q ks:=by
 obtain ⟨p,h1,h2⟩:=h.ex
 exact ⟨p,(ho.block _ (Gx h1) (hm _ _ _ _ h1)).trans h1,h2.kept (ho.block _ h2.lt.1 (hm _ _ _ _ h2.box)) (ho.block _ h2.lt.2 hb)⟩
theorem newName_any (w : World) : Calls Tryz.prog 84 #[] w fun e w' => ∃ q b,e = .returned (.func (.func 134) #[] #[.pointer (some ⟨q,0,none⟩)]) ∧ AskN w' b q [] ∧ Below w.heap.size w w' ∧ w.heap.size ≤ b:=by
 go_enter Tryz.func84,Tryz.ntmps84
 go_wp2_with fail
 refine (unmetS_any _).mono ?_
 rintro e w1 ⟨p,b,rfl,ha,hb,hB⟩
 have HA:=Hd ha
 have hs:=hb.size
 clear ha
 dsimp only
 go_wp2
 go_ret
 refine ⟨w1.heap.size,b,rfl,⟨p,?_,HA.out.later ((Bxr _ _).alloc Zlr _)⟩,Bz,hB⟩
 exact heap_alloc_new w1 _
theorem newName1_any (s : ByteArray) (w : World) (b q : Nat) (ks : List (List UInt8)) (h : AskN w b q ks) (hk : ks.length ≤ 1000000) :
  Calls Tryz.prog 134 #[.string s,.pointer (some ⟨q,0,none⟩)] w fun e w' => e = .returned (.bool (isNm (bs s) && !decide (bs s ∈ ks))) ∧ (isNm (bs s) = true → AskN w' b q (ks ++ [bs s])) ∧ Only (fun k => k = b) w w':=by
 have hlt:=h.lt
 have HN : Hid (∀ {k : Nat} {cs : Array Value} {t : TypeId} {fr : Nat × Nat},w.heap[k]? = some (.cells cs t fr) → k ≠ b):=h.ne
 obtain ⟨p,h1,h2⟩:=h.ex
 have H1:=Hd h1
 have H2:=Hd h2
 have c0:=cell_of_one h1
 clear h1 h2 h
 cases hn : isNm (bs s) with
 | false =>
  go_enter Tryz.func134,Tryz.ntmps134
  go_wp2_with (first | (go_at_call 135; refine (name_any s _).mono ?_; rintro e w' ⟨rfl,he⟩; rw [hn,he]; clear he))
  go_ret
  exact ⟨rfl,fun h => (by cases h),Only.refl _ _⟩
 | true =>
  have hz:=isNm_size hn
  go_enter Tryz.func134,Tryz.ntmps134
  go_wp2_with (first | (go_at_call 135; refine (name_any s _).mono ?_; rintro e w' ⟨rfl,he⟩; rw [hn,he]; clear he) | (go_at_call 186; refine (metS_any s w b p ks H2.out hk Om).mono ?_; rintro e w' ⟨rfl,ha,hb⟩))
  go_ret
  exact ⟨ret_bool Si,fun _ => ⟨p,(hb.block _ hlt.1 (HN.out H1.out)).trans H1.out,ha⟩,hb⟩
end
end TT
end Go.Proofs.YtmmmkjhpmlfopaaGreatDoor
