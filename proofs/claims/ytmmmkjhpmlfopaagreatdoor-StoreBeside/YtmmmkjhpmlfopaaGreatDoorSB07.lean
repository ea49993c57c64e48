/- ZB21 ZM85 ZB13 ZB40 -/
import Derived.Test.YtmmmkjhpmlfopaaGreatDoorSB06
import Derived.Sort.QuietIn
namespace Go.Proofs.YtmmmkjhpmlfopaaGreatDoor
open Go.RowKit
namespace BB
section
structure SM (w : World) (Z : Nat → Prop) (t m cnt rb : Nat) (key : ByteArray) (rs0 : List Fr) (its0 : List It) (W : World) (pre : List Fr) (rest : List Fr) (A : List Nd) (n : Nd) (C : List Nd) (low : List (List Nd)) : Prop where
 rs : rs0 = pre ++ rest
 frs : Frs key (rb,⟨none,none⟩) rest
 wf : WF m rest
 si : SI m (ctxR (rb,⟨none,none⟩) rest) rest.isEmpty A n C low
 hp : Hp W Z (allX (lvls rest ++ (A ++ n :: C) :: low))
 its : items ((A ++ n :: C) :: low) = its0
 only : Only Z w W
 tr : TrAt W t m cnt rb
section
variable {w : World} {Z : Nat → Prop} {t m cnt rb : Nat} {key : ByteArray} {rs0 : List Fr} {its0 : List It} {W : World} {pre : List Fr} {f : Fr} {rest : List Fr} {A : List Nd} {n : Nd} {C : List Nd} {low : List (List Nd)} {U V : List It} {u1 u2 : It} {A' C' : List Nd} {n1 n2 : Nd}
theorem SM.kid (h : SM w Z t m cnt rb key rs0 its0 W pre (f :: rest) A n C low) : f.it.kid = some n.b:=by
 have h1 : n.b = f.it.kid.getD 0:=((fits_append h.si.pos).1 (good_fits h.si.good)).2.1.1
 obtain ⟨b,hb⟩:=(h.frs.2.mid f.n (by simp [Fr.lvl])).kid f.it (by rw [h.frs.2.its]; simp)
 rw [hb,h1,hb]
 rfl
def SM.R (f : Fr) (rest : List Fr) (A' C' : List Nd) (n1 : Nd) (low : List (List Nd)) : List NX:=restTwo (lvls rest) low f.A f.C A' C' f.n.b n1.b
theorem SM.three (h : SM w Z t m cnt rb key rs0 its0 W pre (f :: rest) A n C low) (hp : Pick m (ctxR (rb,⟨none,none⟩) rest) f (A ++ n :: C) U u1 u2 V A' n1 n2 C') : Hp W Z ((f.n,hd f.C none) :: (n1,some n2.b) :: (n2,hd C' none) :: SM.R f rest A' C' n1 low):=by
 have:=h.hp
 rw [lvls_cons,Zas,hp.lvl] at this
 exact this.perm (perm_three (lvls rest) low f.A f.C A' C' f.n n1 n2)
theorem pick_take (hp : Pick m (ctxR (rb,⟨none,none⟩) rest) f (A ++ n :: C) U u1 u2 V A' n1 n2 C') : f.n.its.take (U.length + 1) ++ f.n.its.drop (U.length + 2) = U ++ u1 :: V:=by
 rw [hp.its,show U ++ u1 :: u2 :: V = (U ++ [u1]) ++ u2 :: V by simp,List.take_left' Si,show (U ++ [u1]) ++ u2 :: V = (U ++ [u1,u2]) ++ V by simp,List.drop_left' Si]
 simp
theorem SM.next (h : SM w Z t m cnt rb key rs0 its0 W pre (f :: rest) A n C low) (hp : Pick m (ctxR (rb,⟨none,none⟩) rest) f (A ++ n :: C) U u1 u2 V A' n1 n2 C') (hZ : ∀ k,w.heap.size ≤ k → Z k) (hm : 4 ≤ m) {W1 W2 : World} {D : List NX} (hD : D = (f.n,hd f.C none) :: (n1,some n2.b) :: (n2,hd C' none) :: SM.R f rest A' C' n1 low) (ho1 : Only (zd W D) W W1) (ht : ¬ zd W D t) {e : Ending} {v1 v2 : Value}
  (hfit : FitP W1 (zd W D) ⟨f.n.b,v1,U ++ u1 :: V⟩ ⟨n1.b,v2,n1.its ++ n2.its⟩ (hd f.C none) (hd C' none) (SM.R f rest A' C' n1 low) U.length m e W2) :
  e = .returned (.tuple #[]) ∧ Only (zd W D) W W2 ∧ ∃ A'' n'' C'' low'',SM w Z t m cnt rb key rs0 its0 W2 (pre ++ [f]) rest A'' n'' C'' low'':=by
 obtain ⟨he,ho2,hcase⟩:=hfit
 have ho:=ho1.trans ho2
 have hwz : ∀ k,zd W D k → Z k:=fun k hk => by
  subst hD
  rcases (h.three hp).zone hk with h1 | h1
  ·exact h1
  ·exact hZ k (Zlt h.only.size h1)
 have honly : Only Z w W2:=h.only.trans (ho.mono hwz)
 have htr : TrAt W2 t m cnt rb:=h.tr.kept (ho.block t h.tr.lt ht)
 have hrs : rs0 = (pre ++ [f]) ++ rest:=by rw [h.rs]; simp
 have hsi : SI m ((ctxR (rb,⟨none,none⟩) rest).step f) false A n C low:=h.si
 have hits:=h.its
 rw [hp.lvl] at hits
 refine ⟨he,ho,?_⟩
 rcases hcase with ⟨hle,hhp⟩ | ⟨hlt,w1,w2,w3,nb,x,r,hdr,_,hhp⟩
 ·refine ⟨f.A,⟨f.n.b,v1,U ++ u1 :: V⟩,f.C,(A' ++ ⟨n1.b,v2,n1.its ++ n2.its⟩ :: C') :: low,hrs,h.frs.1,h.wf.2,hp.join hm h.frs.2 h.wf.1 hsi rfl rfl rfl rfl hle,?_,?_,honly,htr⟩
  ·exact (hhp.perm (perm_two (lvls rest) low f.A f.C A' C' ⟨f.n.b,v1,U ++ u1 :: V⟩ ⟨n1.b,v2,n1.its ++ n2.its⟩).symm).mono fun k _ hk => hwz k hk
  ·rw [items_cons,← items_split A' C' ⟨n1.b,v2,n1.its ++ n2.its⟩ n1 n2 low rfl]
   exact hits
 ·have hX : (U ++ u1 :: V).take (U.length + 1) ++ ⟨x.key,⟨#[]⟩,some nb⟩ :: (U ++ u1 :: V).drop (U.length + 1) = U ++ u1 :: ⟨x.key,⟨#[]⟩,some nb⟩ :: V:=by
   rw [show U ++ u1 :: V = (U ++ [u1]) ++ V by simp,List.take_left' Si,List.drop_left' Si]
   simp
  simp only at hhp hdr hlt
  rw [hX] at hhp
  refine ⟨f.A,⟨f.n.b,w1,U ++ u1 :: ⟨x.key,⟨#[]⟩,some nb⟩ :: V⟩,f.C,(A' ++ ⟨n1.b,w2,(n1.its ++ n2.its).take ((n1.its ++ n2.its).length / 2)⟩ :: ⟨nb,w3,x :: r⟩ :: C') :: low,hrs,h.frs.1,h.wf.2,?_,?_,?_,honly,htr⟩
  ·exact hp.part (n:=⟨n1.b,v2,n1.its ++ n2.its⟩) hm h.frs.2 h.wf.1 hsi rfl hlt rfl hdr rfl rfl rfl rfl
  ·exact (hhp.perm (perm_three (lvls rest) low f.A f.C A' C' ⟨f.n.b,w1,U ++ u1 :: ⟨x.key,⟨#[]⟩,some nb⟩ :: V⟩ ⟨n1.b,w2,(n1.its ++ n2.its).take ((n1.its ++ n2.its).length / 2)⟩ ⟨nb,w3,x :: r⟩).symm).mono fun k _ hk => hwz k hk
  ·rw [items_cons,items_split A' C' ⟨n1.b,v2,n1.its ++ n2.its⟩ _ _ low (by show n1.its ++ n2.its = (n1.its ++ n2.its).take ((n1.its ++ n2.its).length / 2) ++ (x :: r); rw [← hdr,List.take_append_drop]),← items_split A' C' ⟨n1.b,v2,n1.its ++ n2.its⟩ n1 n2 low rfl]
   exact hits
end
end
section
def noDefer (ops : Array Oper) : Bool:=ops.all fun o => match o.op with
 | .defer _ => false
 | _ => true
section
variable {F : Fence} {n : Nat} {P : Program} {md : Region.Mode} {ops : Array Oper} {Q : Exit → Act → World → Prop}
theorem noDefer_at (h : noDefer ops = true) {i : Nat} {o : Oper} (ho : ops[i]? = some o) (c : Call) : o.op ≠ .defer c:=fun e => by
 unfold noDefer at h
 rw [Array.all_eq_true] at h
 obtain ⟨hi,rfl⟩:=Array.getElem?_eq_some_iff.1 ho
 have:=h i hi
 rw [e] at this
 cases this
theorem op_round (l : Nat) (hro : F.round = none) (h : noDefer ops = true) {i : Nat} {K : Act → World → Prop} {a : Act} {w : World} (hh : wpOpIn F n P ops Q i K a w) : wpOpIn (F.inRound l) n P ops Q i K a w:=by
 unfold wpOpIn at *
 split
 ·rename_i he
  simpa [he] using hh
 ·rename_i o ho
  simp only [ho] at hh
  split
  ·rename_i hw
   simp only [hw,if_true] at hh
   obtain ⟨h1,h2⟩:=hh
   refine ⟨h1,?_⟩
   rw [hro] at h2
   have e : o.semAt (F.inRound l).round a.eval = o.semAt none a.eval:=(Oper.semAt_some l a.eval o (noDefer_at h ho)).trans (Oper.semAt_none a.eval o).symm
   rw [e]
   revert h2
   generalize Sem.run P (o.semAt none a.eval) w = r
   intro h2
   cases r with
   | ok x w' => cases x <;> exact h2
   | halt x w' => cases x <;> exact h2
  ·rename_i hw
   simp only [hw] at hh
   exact hh
theorem any_round (l : Nat) (hro : F.round = none) (h : noDefer ops = true) : ∀ (fuel : Nat) (listed : Array Bool) (a : Act) (w : World),wpAnyIn F n P md ops Q fuel listed a w → wpAnyIn (F.inRound l) n P md ops Q fuel listed a w
 | 0,_,_,_,hh => hh
 | fuel + 1,listed,_,_,hh => ⟨hh.1,fun i hi => op_round l hro h (wpOpIn_mono (fun a w hk => any_round l hro h fuel (listed.setIfInBounds i true) a w hk) (hh.2 i hi))⟩
theorem region_round (l : Nat) (hro : F.round = none) (h : noDefer ops = true) {id : Nat} {a : Act} {w : World} (hm : P.follows .mixedOrders = true) (hh : wpAnyIn F n P .any ops Q ops.size (Array.replicate ops.size false) a w.drew) : (Code.region id ops true).wpIn (F.inRound l) n P Q a w:=wpIn_region_any hm (any_round l hro h _ _ _ _ hh)
end
end
section
open Go.RowKit Go.Shelf
attribute [local go_sem] Oper.semAt_some
theorem wpIn_once {F : Fence} {n : Nat} {P : Program} {c : Code} {Q : Exit → Act → World → Prop} {a A3 : Act} {w W3 : World} (h : c.wpIn F n P (Exit.then (fun a2 w2 => a2 = A3 ∧ w2 = W3) fun _ _ _ => False) a w) (k : Q .normal A3 W3) : c.wpIn F n P Q a w :=
 Go.wpIn_mono h fun e a2 w2 hh => by
  cases e with
  | normal =>
   obtain ⟨e2,e3⟩:=hh
   subst e2; subst e3; exact k
  | _ => exact hh.elim
theorem wpIn_some {F : Fence} {n : Nat} {P : Program} {c : Code} {Q : Exit → Act → World → Prop} {a : Act} {w : World} (R : World → Prop) (h : c.wpIn F n P (fun e _ w2 => e = .normal ∧ R w2) a w) (k : ∀ a2 w2,R w2 → Q .normal a2 w2) : c.wpIn F n P Q a w :=
 Go.wpIn_mono h fun _ _ _ ⟨e1,e2⟩ => by subst e1; exact k _ _ e2
theorem wpIn_via {F : Fence} {n : Nat} {P : Program} {c : Code} {Q : Exit → Act → World → Prop} {a : Act} {w : World} {Aof : World → Act} {Wof : World → World} (R : World → Prop) (h : c.wpIn F n P (Exit.then (fun a2 w2 => ∃ w4,R w4 ∧ a2 = Aof w4 ∧ w2 = Wof w4) fun _ _ _ => False) a w) (k : ∀ w4,R w4 → Q .normal (Aof w4) (Wof w4)) : c.wpIn F n P Q a w :=
 Go.wpIn_mono h fun e a2 w2 hh => by
  cases e with
  | normal =>
   obtain ⟨w4,hr,e2,e3⟩:=hh
   subst e2; subst e3; exact k w4 hr
  | _ => exact hh.elim
theorem keepsFrom_below {B : Nat} {W W' : World} (h : Below W.heap.size W W') : KeepsFrom B W W':=⟨h.size,fun k _ _ hk _ => (h.block k (Gx hk)).trans hk⟩
structure GB (w : World) (Z : Nat → Prop) (t m cnt rb : Nat) (key : ByteArray) (rs : List Fr) (its0 : List It) (v : Value) (B : Nat) (pre : List (Nat × Fr)) (W : World) : Prop where
 gm : ∃ rest A n C low,GM w Z t m cnt rb key rs its0 W (pre.map (·.2)) rest A n C low
 b3 : W.heap[w.heap.size]? = some (.cells #[.pointer (some ⟨t,0,none⟩)] 140 (0,0))
 b4 : W.heap[w.heap.size + 1]? = some (.cells #[.string key] 9 (0,0))
 b5 : W.heap[w.heap.size + 1 + 1]? = some (.cells #[v] 189 (0,0))
 row : W.ownsRow B 236 2 v rs.length (wc rs.reverse)
section
variable {w : World} {Z : Nat → Prop} {t m cnt rb : Nat} {key : ByteArray} {rs : List Fr} {its0 : List It} {v : Value} {B : Nat}
theorem GM.grown {W W' : World} {pre rest : List Fr} {A : List Nd} {n : Nd} {C : List Nd} {low : List (List Nd)} {row : Option Nat} (h : GM w Z t m cnt rb key rs its0 W pre rest A n C low) (hZ : ∀ k,w.heap.size ≤ k → Z k) (hg : W.grownBy W' row) (hr : ∀ r,row = some r → w.heap.size ≤ r ∧ ∃ o : Obj,W.heap[r]? = some o ∧ o.isCells = false) : GM w Z t m cnt rb key rs its0 W' pre rest A n C low :=
 ⟨h.rs,h.frs,h.wf,h.gi,h.hp.grown hg fun r e => (hr r e).2,h.its,h.only.grown hg fun k e => hZ k (hr k e).1,h.tr.kept (hg.block t h.tr.lt fun e => by
  obtain ⟨o,ho,hc⟩:=(hr t e.symm).2
  rw [h.tr.cells] at ho
  obtain rfl:=Option.some.inj ho
  cases hc)⟩
theorem GB.own (hZ : ∀ k,w.heap.size ≤ k → Z k) {b : Nat} (hb : w.heap.size ≤ b) : OwnFrom b (GB w Z t m cnt rb key rs its0 v B):=fun s W W' row h hg hr => by
 have key : ∀ k cs t fr,W.heap[k]? = some (Obj.cells cs t fr) → W'.heap[k]? = some (Obj.cells cs t fr):=fun k cs t fr hk => (hg.block k (Gx hk) fun e => by
  obtain ⟨_,o,ho,hc⟩:=hr k e.symm
  rw [hk] at ho
  obtain rfl:=Option.some.inj ho
  cases hc).trans hk
 obtain ⟨rest,A,n,C,low,hm⟩:=h.gm
 refine ⟨⟨rest,A,n,C,low,hm.grown hZ hg fun r e => ⟨Zlt hb (hr r e).1,(hr r e).2⟩⟩,key _ _ _ _ h.b3,key _ _ _ _ h.b4,key _ _ _ _ h.b5,own_kept h.row fun k e => ?_⟩
 obtain ⟨_,⟨e1,_⟩ | ⟨g,cap,cur,e1,_,hg,_⟩⟩:=h.row
 ·rw [e1] at e; cases e
 ·rw [e1] at e
  obtain rfl : g = k:=by simpa [Value.ownBlock] using e
  exact (key _ _ _ _ hg).trans hg.symm
theorem GB.later {pre : List (Nat × Fr)} {W W' : World} (h : GB w Z t m cnt rb key rs its0 v B pre W) (hb : Below W.heap.size W W') : GB w Z t m cnt rb key rs its0 v B pre W':=by
 obtain ⟨rest,A,n,C,low,hm⟩:=h.gm
 exact ⟨⟨rest,A,n,C,low,hm.rs,hm.frs,hm.wf,hm.gi,hm.hp.later hb,hm.its,hm.only.later hb,hm.tr.kept (hb.block _ hm.tr.lt)⟩,(hb.block _ (Gx h.b3)).trans h.b3,(hb.block _ (Gx h.b4)).trans h.b4,(hb.block _ (Gx h.b5)).trans h.b5,own_kept h.row fun k e => hb.block _ (h.row.lt k e).2⟩
theorem GB.keeps {pre : List (Nat × Fr)} {W W' : World} (h : GB w Z t m cnt rb key rs its0 v B pre W) (hb : Below W.heap.size W W') : keepsW (w.heap.size + 1 + 1) v W W':=⟨hb.block _ (Gx h.b5),fun k e => hb.block _ (h.row.lt k e).2⟩
theorem GB.round {pre : List (Nat × Fr)} {W W2 : World} {i b : Nat} {f : Fr} {D : List NX} {rest' A' low'} {n' : Nd} {C' : List Nd} (h : GB w Z t m cnt rb key rs its0 v B pre W) (hp : Hp W Z D) (ho : Only (zd W D) W W2) (hn : GM w Z t m cnt rb key rs its0 W2 (pre.map (·.2) ++ [f]) rest' A' n' C' low') :
  KeepsFrom b W W2 ∧ keepsW (w.heap.size + 1 + 1) v W W2 ∧ GB w Z t m cnt rb key rs its0 v B (pre ++ [(i,f)]) W2:=by
 have kb : ∀ k o,W.heap[k]? = some o → (∀ cs fr,o ≠ Obj.cells cs 198 fr) → (∀ cs fr,o ≠ Obj.cells cs 195 fr) → W2.heap[k]? = W.heap[k]?:=fun k o hk h1 h2 => ho.block k (Gx hk) (hp.out hk h1 h2)
 have k3:=kb _ _ h.b3 (by intro cs fr e; cases e) (by intro cs fr e; cases e)
 have k4:=kb _ _ h.b4 (by intro cs fr e; cases e) (by intro cs fr e; cases e)
 have k5:=kb _ _ h.b5 (by intro cs fr e; cases e) (by intro cs fr e; cases e)
 have kr : ∀ k,v.ownBlock = some k → W2.heap[k]? = W.heap[k]?:=fun k e => by
  obtain ⟨_,⟨e1,_⟩ | ⟨g,cap,cur,e1,_,hg,_⟩⟩:=h.row
  ·rw [e1] at e; cases e
  ·rw [e1] at e
   obtain rfl : g = k:=by simpa [Value.ownBlock] using e
   exact kb _ _ hg (by intro cs fr e; cases e) (by intro cs fr e; cases e)
 refine ⟨⟨ho.size,fun k o _ hk hc => (kb k o hk (by rintro cs fr rfl; cases hc) (by rintro cs fr rfl; cases hc)).trans hk⟩,⟨k5,kr⟩,⟨⟨rest',A',n',C',low',?_⟩,k3.trans h.b3,k4.trans h.b4,k5.trans h.b5,own_kept h.row kr⟩⟩
 rw [List.map_append]
 exact hn
theorem out_cell {W W1 : World} {D : List NX} {k o : Nat} {u : Value} {cs : Array Value} {ty : TypeId} {fr : Nat × Nat} (hp : Hp W Z D) (ho : Only (zd W D) W W1) (hk : W.heap[k]? = some (.cells cs ty fr)) (h1 : ty ≠ 198) (h2 : ty ≠ 195) (hc : W.cell? ⟨k,o,none⟩ = some u) : W1.cell? ⟨k,o,none⟩ = some u :=
 cell_at (ho.block k (Gx hk) (hp.out hk (fun _ _ e => by cases e; exact h1 rfl) (fun _ _ e => by cases e; exact h2 rfl))) hc
end
def GrowP (w : World) (Z : Nat → Prop) (t m cnt : Nat) (its0 : List It) (e : Ending) (w' : World) : Prop :=
 e = .returned (.tuple #[]) ∧ Only (fun k => Z k ∨ k = t) w w' ∧ ∃ rb ls,TrAt w' t m cnt rb ∧ Hp w' Z (allX ls) ∧ Good [(rb,⟨none,none⟩)] ls ∧ WLv m true ls ∧ items ls = its0
theorem GM.top {w : World} {Z : Nat → Prop} {t m cnt rb : Nat} {key : ByteArray} {rs : List Fr} {its0 : List It} {W : World} {A : List Nd} {n : Nd} {C : List Nd} {low : List (List Nd)} (h : GM w Z t m cnt rb key rs its0 W rs [] A n C low) : A = [] ∧ C = [] ∧ n.b = rb:=by
 have h1:=h.gi.pos
 have h2:=(good_fits h.gi.good).length
 have hA : A = []:=List.length_eq_zero_iff.1 h1.symm
 subst hA
 have hC : C = []:=List.length_eq_zero_iff.1 (by have : 1 = ([] ++ n :: C).length:=h2; simpa using this.symm)
 exact ⟨rfl,hC,h.gi.node.1⟩
theorem GM.rest_nil {w : World} {Z : Nat → Prop} {t m cnt rb : Nat} {key : ByteArray} {rs rest : List Fr} {its0 : List It} {W : World} {A : List Nd} {n : Nd} {C : List Nd} {low : List (List Nd)} (h : GM w Z t m cnt rb key rs its0 W rs rest A n C low) : rest = []:=by
 have:=congrArg List.length h.rs
 rw [Zla] at this
 exact List.length_eq_zero_iff.1 Om
theorem GM.fine {w : World} {Z : Nat → Prop} {t m cnt rb : Nat} {key : ByteArray} {rs : List Fr} {its0 : List It} {W : World} {n : Nd} {low : List (List Nd)} (h : GM w Z t m cnt rb key rs its0 W rs [] [] n [] low) (hn : n.its.length ≤ m) : GrowP w Z t m cnt its0 (.returned (.tuple #[])) W :=
 ⟨rfl,h.only.mono fun _ hk => Or.inl hk,rb,[n] :: low,h.tr,h.hp,h.gi.good,⟨fun x hx => by
  obtain rfl : x = n:=by simpa using hx
  exact ⟨h.gi.wn.1,hn⟩,h.gi.wlow⟩,h.its⟩
theorem good_lo {b : Nat} {lo lo' hi : Option ByteArray} {n : Nd} {low : List (List Nd)} (h : Good [(b,⟨lo,hi⟩)] ([n] :: low)) (hl : ∀ y ∈ n.its,inLo lo' y.key) : Good [(b,⟨lo',hi⟩)] ([n] :: low):=by
 have hf:=(good_fits h).1
 have hf2 : Fits [(b,⟨lo',hi⟩)] [n]:=⟨⟨hf.1,hf.2.srt,fun y hy => ⟨hl y hy,(hf.2.mem y hy).2⟩⟩,trivial⟩
 cases low with
 | nil => exact good_leaf.2 ⟨hf2,(good_leaf.1 h).2⟩
 | cons M r => exact good_mid.2 ⟨hf2,(good_mid.1 h).2.1,(good_mid.1 h).2.2⟩
theorem GM.root {w : World} {Z : Nat → Prop} {t m cnt rb q : Nat} {key : ByteArray} {rs : List Fr} {its0 : List It} {W W5 W6 : World} {n : Nd} {low : List (List Nd)} {x : It} {r : List It} {v : Value} {e : Ending} (h : GM w Z t m cnt rb key rs its0 W rs [] [] n [] low) (hm : 4 ≤ m) (hn : m < n.its.length) (h0 : n.its = x :: r) (_hnb : n.b = rb)
  (hfit : FitP W5 Z ⟨q,v,[⟨x.key,⟨#[]⟩,some rb⟩]⟩ n none none (allX low) 0 m e W6) (ho : Only (fun k => Z k ∨ k = t) w W6) (ht : TrAt W6 t m cnt q) : GrowP w Z t m cnt its0 e W6:=by
 obtain ⟨he,_,⟨hle,_⟩ | ⟨_,v1,v2,v3,nb,y,ry,hdr,_,hhp⟩⟩:=hfit
 ·omega
 have hgi : GI x.key m ((⟨[],(q,⟨none,none⟩),[]⟩ : Ctx).step ⟨[],⟨q,v,[⟨x.key,⟨#[]⟩,some rb⟩]⟩,[],[],⟨x.key,⟨#[]⟩,some rb⟩,[]⟩) false [] n [] low:=by
  refine ⟨?_,rfl,fun y hy => by simp at hy,⟨?_,h.gi.wn.2⟩,h.gi.wlow⟩
  ·show Good [(rb,⟨some (lowK x.key x.key),none⟩)] ([n] :: low)
   refine good_lo (lo:=none) h.gi.good fun y hy l e => ?_
   obtain rfl:=Option.some.inj e
   have hs:=h.gi.node.2.srt
   rw [h0] at hs hy
   rcases Zmc hy with rfl | hy
   ·exact lowK_le _ _
   ·exact kl_le_trans (lowK_le x.key x.key) (kl_asymm ((List.pairwise_cons.1 hs).1 y hy))
  ·show m / 2 ≤ n.its.length
   omega
 have hfo : FrOk x.key ⟨[],(q,⟨none,none⟩),[]⟩ ⟨[],⟨q,v,[⟨x.key,⟨#[]⟩,some rb⟩]⟩,[],[],⟨x.key,⟨#[]⟩,some rb⟩,[]⟩:=by
  refine ⟨trivial,rfl,⟨by simp [Srt],fun y _ => ⟨fun l e => (by cases e),fun l e => (by cases e)⟩⟩,trivial,fun y hy => ?_,rfl,fun y hy => (by simp at hy),Or.inl rfl⟩
  obtain rfl : y = ⟨q,v,[⟨x.key,⟨#[]⟩,some rb⟩]⟩:=by simpa [Fr.lvl] using hy
  refine ⟨by simp,fun z hz => ⟨rb,?_⟩⟩
  obtain rfl : z = ⟨x.key,⟨#[]⟩,some rb⟩:=by simpa using hz
  rfl
 have hloc : Loc x.key ⟨[],(q,⟨none,none⟩),[]⟩:=⟨fun t ht => (by simp at ht),fun h e => (by cases e),fun t ht => (by simp at ht)⟩
 have hlow : lowIt x.key ⟨x.key,⟨#[]⟩,some rb⟩ = ⟨x.key,⟨#[]⟩,some rb⟩:=by unfold lowIt; rw [lowK_id (kl_irrefl _)]
 have hg2:=GI.split (top:=true) (n1:=⟨n.b,v2,n.its.take (n.its.length / 2)⟩) (n2:=⟨nb,v3,y :: ry⟩) (p:=⟨q,v1,[⟨x.key,⟨#[]⟩,some rb⟩,⟨y.key,⟨#[]⟩,some nb⟩]⟩) (vl:=⟨#[]⟩) hfo hloc (fun z hz => (by simp at hz)) ⟨(by show 2 ≤ 1 + 1; omega),(by show 1 ≤ m; omega)⟩ hgi Om hn rfl hdr rfl rfl rfl (by show [_,_] = [] ++ lowIt x.key ⟨x.key,⟨#[]⟩,some rb⟩ :: _ :: []; rw [hlow]; rfl)
 refine ⟨he,ho,q,[⟨q,v1,[⟨x.key,⟨#[]⟩,some rb⟩,⟨y.key,⟨#[]⟩,some nb⟩]⟩] :: [⟨n.b,v2,n.its.take (n.its.length / 2)⟩,⟨nb,v3,y :: ry⟩] :: low,ht,?_,hg2.good,⟨fun z hz => ?_,hg2.wlow⟩,?_⟩
 ·rw [allX_cons,allX_cons]
  exact hhp
 ·obtain rfl : z = ⟨q,v1,[⟨x.key,⟨#[]⟩,some rb⟩,⟨y.key,⟨#[]⟩,some nb⟩]⟩:=by simpa using hz
  show 2 ≤ 2 ∧ 2 ≤ m
  omega
 ·rw [items_cons]
  have:=items_split [] [] n ⟨n.b,v2,n.its.take (n.its.length / 2)⟩ ⟨nb,v3,y :: ry⟩ low (by show n.its = n.its.take (n.its.length / 2) ++ (y :: ry); rw [← hdr,List.take_append_drop])
  exact this.trans h.its
theorem FitP.mono {w w' : World} {Z Z' : Nat → Prop} {p k : Nd} {px kx : Option Nat} {R : List NX} {i m : Nat} {e : Ending} (h : FitP w Z p k px kx R i m e w') (hz : ∀ k,Z k → Z' k) : FitP w Z' p k px kx R i m e w':=by
 obtain ⟨h1,h2,⟨h3,h4⟩ | ⟨h3,v1,v2,v3,nb,x,r,h4,h5,h6⟩⟩:=h
 ·exact ⟨h1,h2.mono hz,Or.inl ⟨h3,h4.mono fun k _ hk => hz k hk⟩⟩
 ·exact ⟨h1,h2.mono hz,Or.inr ⟨h3,v1,v2,v3,nb,x,r,h4,h5,h6.mono fun k _ hk => hz k hk⟩⟩
theorem GrowP.put {w W : World} {Z : Nat → Prop} {t m cnt : Nat} {its0 : List It} {e : Ending} (h : GrowP w Z t m cnt its0 e W) {D : Nat} {o : Obj} (hz : Z D) (hD : W.heap[D]? = some o) (hc : o.isCells = false) (o' : Obj) : GrowP w Z t m cnt its0 e (W.putObj D o'):=by
 obtain ⟨h1,h2,rb,ls,h3,h4,h5⟩:=h
 refine ⟨h1,h2.grown (grownBy_putObj' W D o') (fun k e => by cases e; exact Or.inl hz),rb,ls,h3.kept ((grownBy_putObj' W D o').block t h3.lt fun e => ?_),h4.grown (grownBy_putObj' W D o') (fun r e => by cases e; exact ⟨o,hD,hc⟩),h5⟩
 have e1 : t = D:=by cases e; rfl
 subst e1
 rw [h3.cells] at hD
 obtain rfl:=Option.some.inj hD
 cases hc
structure RootW (w : World) (Z : Nat → Prop) (t m cnt rb : Nat) (n : Nd) (low : List (List Nd)) (xk : ByteArray) (W w4 W5 : World) : Prop where
 hp : Hp W5 Z ((⟨w4.heap.size + 1,.slice (some ⟨w4.heap.size,0,none⟩) 1 1,[⟨xk,⟨#[]⟩,some rb⟩]⟩,none) :: (n,none) :: allX low)
 tr : TrAt W5 t m cnt (w4.heap.size + 1)
 only : Only (fun k => Z k ∨ k = t) w W5
 size : w4.heap.size ≤ W5.heap.size
 keep : ∀ k,k < W.heap.size → k ≠ t → W5.heap[k]? = W.heap[k]?
theorem GM.rootW {w : World} {Z : Nat → Prop} {t m cnt rb : Nat} {key : ByteArray} {rs : List Fr} {its0 : List It} {W w4 : World} {n : Nd} {low : List (List Nd)} {xk : ByteArray} (h : GM w Z t m cnt rb key rs its0 W rs [] [] n [] low) (hZ : ∀ k,w.heap.size ≤ k → Z k) (hb : Below W.heap.size W w4) :
  RootW w Z t m cnt rb n low xk W w4 (((w4.setCell ⟨t,2,none⟩ (.pointer (some ⟨w4.heap.size + 1,0,none⟩))).alloc (Obj.cells #[.string xk,.string ⟨#[]⟩,.pointer (some ⟨rb,0,none⟩)] 195)).alloc (Obj.cells #[.slice (some ⟨w4.heap.size,0,none⟩) 1 1,.pointer none] 198)):=by
 have h4 : Hp w4 Z (allX ([n] :: low)):=h.hp.later hb
 have ht4 : TrAt w4 t m cnt rb:=h.tr.kept (hb.block _ h.tr.lt)
 have hs:=h.only.size
 have hs4:=hb.size
 obtain ⟨wa,hwa⟩:=Vx (w4.setCell ⟨t,2,none⟩ (.pointer (some ⟨w4.heap.size + 1,0,none⟩)))
 have hsa : wa.heap.size = w4.heap.size:=by rw [← hwa]; simp [World.setCell]
 have hoth : ∀ k,k ≠ t → wa.heap[k]? = w4.heap[k]?:=fun k hk => by rw [← hwa]; exact Below.heap_setCell _ _ _ _ (fun e => hk (by simpa using e))
 have hta : TrAt wa t m cnt (w4.heap.size + 1):=⟨by rw [← hwa,heap_setCell_at ht4.cells]; simp⟩
 have hpa : Hp wa Z (allX ([n] :: low)):=((h4.tight.kept fun k hk hz => hoth k fun e => ht4.out h4 (e ▸ hz)).mono fun k _ hz => by
  rcases h4.zone hz with h1 | h1
  ·exact h1
  ·exact hZ k Om)
 rw [hwa]
 have hZa : ∀ k,wa.heap.size ≤ k → Z k:=fun k hk => hZ k Om
 have hrow : (wa.alloc (Obj.cells #[.string xk,.string ⟨#[]⟩,.pointer (some ⟨rb,0,none⟩)] 195)).ownsRow wa.heap.size 195 3 (.slice (some ⟨w4.heap.size,0,none⟩) 1 1) [(⟨xk,⟨#[]⟩,some rb⟩ : It)].length (ic [⟨xk,⟨#[]⟩,some rb⟩]):=by
  rw [← hsa]
  exact ⟨rfl,Or.inr ⟨wa.heap.size,1,_,rfl,Nat.le_refl _,heap_alloc_new wa _,Nat.le_refl _,by decide,rfl,rfl⟩⟩
 have hnew:=hpa.new hZa ((Bxr _ wa).alloc Zlr _) hrow Zlr none
 rw [World.size_alloc,hsa] at hnew
 have hbn : Below wa.heap.size wa ((wa.alloc (Obj.cells #[.string xk,.string ⟨#[]⟩,.pointer (some ⟨rb,0,none⟩)] 195)).alloc (Obj.cells #[.slice (some ⟨w4.heap.size,0,none⟩) 1 1,.pointer none] 198)):=((Bxr _ wa).alloc Zlr _).alloc Si _
 refine ⟨by rw [allX_cons] at hnew; exact hnew,hta.kept (hbn.block _ hta.lt),?_,by have:=hbn.size; omega,fun k hk hkt => ?_⟩
 ·refine ((h.only.mono (Z':=fun k => Z k ∨ k = t) fun _ hk => Or.inl hk).later hb |>.trans ?_).later hbn
  exact ⟨by rw [← hwa]; rfl,by rw [← hwa]; rfl,by rw [← hwa]; rfl,by omega,fun k _ hz => hoth k fun e => hz (Or.inr e)⟩
 ·rw [hbn.block k Om,hoth k hkt,hb.block k hk]
end
section
open Go.RowKit Go.Shelf
section
variable {F : Fence} {n : Nat} {P : Program}
theorem region_quiet_round {id : Nat} {Q : Exit → Act → World → Prop} {a : Act} {w : World} {l : List Oper} (lp : Nat) (hro : F.round = none) (hnd : noDefer l.toArray = true) (hm : P.follows .mixedOrders = true) (hB : Region.lexB .any l.toArray = true)
  (h : wpQuietIn F n P l.toArray (fun w' => ∃ n,w' = w.drewN n) (fun a' => ∀ w',(∃ n,w' = w.drewN n) → Q .normal a' w') l a) : (Code.region id l.toArray true).wpIn (F.inRound lp) n P Q a w:=by
 simp only [Region.lexB,Bool.and_eq_true] at hB
 refine region_round lp hro hnd hm (wpAnyIn_of_quiet (C:=fun w' => ∃ n,w' = w.drewN n) (Q:=fun a' => ∀ w',(∃ n,w' = w.drewN n) → Q .normal a' w') hro (fun _ w' hw' h => h w' hw') _ _ _ _ ⟨1,rfl⟩ ?_)
 have:=wpAnyQIn_lex (F:=F) (n:=n) (C:=fun w' => ∃ n,w' = w.drewN n) (md:=.any) hB.1 l 0 (Array.replicate l.toArray.size false) a Si (by simpa using hB.2) h
 simpa using this
end
structure SB (w : World) (Z : Nat → Prop) (t m cnt rb : Nat) (key : ByteArray) (rs : List Fr) (its0 : List It) (v : Value) (B : Nat) (pre : List (Nat × Fr)) (W : World) : Prop where
 sm : ∃ rest A n C low,SM w Z t m cnt rb key rs its0 W (pre.map (·.2)) rest A n C low
 b3 : W.heap[w.heap.size]? = some (.cells #[.pointer (some ⟨t,0,none⟩)] 140 (0,0))
 b5 : W.heap[w.heap.size + 1]? = some (.cells #[v] 189 (0,0))
 row : W.ownsRow B 236 2 v rs.length (wc rs.reverse)
section
variable {w : World} {Z : Nat → Prop} {t m cnt rb : Nat} {key : ByteArray} {rs : List Fr} {its0 : List It} {v : Value} {B : Nat}
theorem SM.grown {W W' : World} {pre rest : List Fr} {A : List Nd} {n : Nd} {C : List Nd} {low : List (List Nd)} {row : Option Nat} (h : SM w Z t m cnt rb key rs its0 W pre rest A n C low) (hZ : ∀ k,w.heap.size ≤ k → Z k) (hg : W.grownBy W' row) (hr : ∀ r,row = some r → w.heap.size ≤ r ∧ ∃ o : Obj,W.heap[r]? = some o ∧ o.isCells = false) : SM w Z t m cnt rb key rs its0 W' pre rest A n C low :=
 ⟨h.rs,h.frs,h.wf,h.si,h.hp.grown hg fun r e => (hr r e).2,h.its,h.only.grown hg fun k e => hZ k (hr k e).1,h.tr.kept (hg.block t h.tr.lt fun e => by
  obtain ⟨o,ho,hc⟩:=(hr t e.symm).2
  rw [h.tr.cells] at ho
  obtain rfl:=Option.some.inj ho
  cases hc)⟩
theorem SM.later {W W' : World} {pre rest : List Fr} {A : List Nd} {n : Nd} {C : List Nd} {low : List (List Nd)} (h : SM w Z t m cnt rb key rs its0 W pre rest A n C low) (hb : Below W.heap.size W W') : SM w Z t m cnt rb key rs its0 W' pre rest A n C low :=
 ⟨h.rs,h.frs,h.wf,h.si,h.hp.later hb,h.its,h.only.later hb,h.tr.kept (hb.block _ h.tr.lt)⟩
theorem SB.own (hZ : ∀ k,w.heap.size ≤ k → Z k) {b : Nat} (hb : w.heap.size ≤ b) : OwnFrom b (SB w Z t m cnt rb key rs its0 v B):=fun s W W' row h hg hr => by
 have key : ∀ k cs t fr,W.heap[k]? = some (Obj.cells cs t fr) → W'.heap[k]? = some (Obj.cells cs t fr):=fun k cs t fr hk => (hg.block k (Gx hk) fun e => by
  obtain ⟨_,o,ho,hc⟩:=hr k e.symm
  rw [hk] at ho
  obtain rfl:=Option.some.inj ho
  cases hc).trans hk
 obtain ⟨rest,A,n,C,low,hm⟩:=h.sm
 refine ⟨⟨rest,A,n,C,low,hm.grown hZ hg fun r e => ⟨Zlt hb (hr r e).1,(hr r e).2⟩⟩,key _ _ _ _ h.b3,key _ _ _ _ h.b5,own_kept h.row fun k e => ?_⟩
 obtain ⟨_,⟨e1,_⟩ | ⟨g,cap,cur,e1,_,hg,_⟩⟩:=h.row
 ·rw [e1] at e; cases e
 ·rw [e1] at e
  obtain rfl : g = k:=by simpa [Value.ownBlock] using e
  exact (key _ _ _ _ hg).trans hg.symm
theorem SB.later {pre : List (Nat × Fr)} {W W' : World} (h : SB w Z t m cnt rb key rs its0 v B pre W) (hb : Below W.heap.size W W') : SB w Z t m cnt rb key rs its0 v B pre W':=by
 obtain ⟨rest,A,n,C,low,hm⟩:=h.sm
 exact ⟨⟨rest,A,n,C,low,hm.later hb⟩,(hb.block _ (Gx h.b3)).trans h.b3,(hb.block _ (Gx h.b5)).trans h.b5,own_kept h.row fun k e => hb.block _ (h.row.lt k e).2⟩
theorem SB.keeps {pre : List (Nat × Fr)} {W W' : World} (h : SB w Z t m cnt rb key rs its0 v B pre W) (hb : Below W.heap.size W W') : keepsW (w.heap.size + 1) v W W':=⟨hb.block _ (Gx h.b5),fun k e => hb.block _ (h.row.lt k e).2⟩
theorem SB.round {pre : List (Nat × Fr)} {W W2 : World} {i b : Nat} {f : Fr} {D : List NX} {rest' A' low'} {n' : Nd} {C' : List Nd} (h : SB w Z t m cnt rb key rs its0 v B pre W) (hp : Hp W Z D) (ho : Only (zd W D) W W2) (hn : SM w Z t m cnt rb key rs its0 W2 (pre.map (·.2) ++ [f]) rest' A' n' C' low') :
  KeepsFrom b W W2 ∧ keepsW (w.heap.size + 1) v W W2 ∧ SB w Z t m cnt rb key rs its0 v B (pre ++ [(i,f)]) W2:=by
 have kb : ∀ k o,W.heap[k]? = some o → (∀ cs fr,o ≠ Obj.cells cs 198 fr) → (∀ cs fr,o ≠ Obj.cells cs 195 fr) → W2.heap[k]? = W.heap[k]?:=fun k o hk h1 h2 => ho.block k (Gx hk) (hp.out hk h1 h2)
 have k3:=kb _ _ h.b3 (by intro cs fr e; cases e) (by intro cs fr e; cases e)
 have k5:=kb _ _ h.b5 (by intro cs fr e; cases e) (by intro cs fr e; cases e)
 have kr : ∀ k,v.ownBlock = some k → W2.heap[k]? = W.heap[k]?:=fun k e => by
  obtain ⟨_,⟨e1,_⟩ | ⟨g,cap,cur,e1,_,hg,_⟩⟩:=h.row
  ·rw [e1] at e; cases e
  ·rw [e1] at e
   obtain rfl : g = k:=by simpa [Value.ownBlock] using e
   exact kb _ _ hg (by intro cs fr e; cases e) (by intro cs fr e; cases e)
 refine ⟨⟨ho.size,fun k o _ hk hc => (kb k o hk (by rintro cs fr rfl; cases hc) (by rintro cs fr rfl; cases hc)).trans hk⟩,⟨k5,kr⟩,⟨⟨rest',A',n',C',low',?_⟩,k3.trans h.b3,k5.trans h.b5,own_kept h.row kr⟩⟩
 rw [List.map_append]
 exact hn
theorem growP_own (hZ : ∀ k,w.heap.size ≤ k → Z k) {b : Nat} (hb : w.heap.size ≤ b) {α : Type} (c : Code) : OwnFrom b (fun (_ : List α) W => c = .ret ∧ GrowP w Z t m cnt its0 (.returned (.tuple #[])) W):=fun s W W' row h hg hr => by
 obtain ⟨hc,_,h2,rb,ls,h3,h4,h5⟩:=h
 refine ⟨hc,rfl,h2.grown hg (fun k e => Or.inl (hZ k (Zlt hb (hr k e).1))),rb,ls,h3.kept (hg.block t h3.lt fun e => ?_),h4.grown hg (fun r e => (hr r e).2),h5⟩
 obtain ⟨_,o,ho,hcc⟩:=hr t e.symm
 rw [h3.cells] at ho
 obtain rfl:=Option.some.inj ho
 cases hcc
theorem SM.fine {W : World} {pre rest : List Fr} {A : List Nd} {n : Nd} {C : List Nd} {low : List (List Nd)} (h : SM w Z t m cnt rb key rs its0 W pre rest A n C low) (hn : lowB m rest.isEmpty low.isEmpty ≤ n.its.length) : GrowP w Z t m cnt its0 (.returned (.tuple #[])) W:=by
 obtain ⟨h1,h2⟩:=h.si.fine h.frs h.wf hn
 refine ⟨rfl,h.only.mono fun _ hk => Or.inl hk,rb,_,h.tr,h.hp,h1,h2,?_⟩
 rw [items_append _ Si]
 exact h.its
theorem SM.top {W : World} {A : List Nd} {n : Nd} {C : List Nd} {low : List (List Nd)} (h : SM w Z t m cnt rb key rs its0 W rs [] A n C low) : A = [] ∧ C = [] ∧ n.b = rb:=by
 have h1:=h.si.pos
 have h2:=(good_fits h.si.good).length
 have hA : A = []:=List.length_eq_zero_iff.1 h1.symm
 subst hA
 have hC : C = []:=List.length_eq_zero_iff.1 (by have : 1 = ([] ++ n :: C).length:=h2; simpa using this.symm)
 subst hC
 exact ⟨rfl,rfl,(good_fits h.si.good).1.1⟩
theorem SM.rest_nil {W : World} {rest : List Fr} {A : List Nd} {n : Nd} {C : List Nd} {low : List (List Nd)} (h : SM w Z t m cnt rb key rs its0 W rs rest A n C low) : rest = []:=by
 have:=congrArg List.length h.rs
 rw [Zla] at this
 exact List.length_eq_zero_iff.1 Om
theorem SM.leaf {W : World} {pre rest : List Fr} {A : List Nd} {n : Nd} {C : List Nd} {low : List (List Nd)} (h : SM w Z t m cnt rb key rs its0 W pre rest A n C low) : kid0 n.its = none ↔ low = []:=by
 have hg:=h.si.good
 cases low with
 | nil =>
  have hl:=(good_leaf.1 hg).2 n Si
  refine ⟨fun _ => rfl,fun _ => ?_⟩
  unfold kid0
  match hi : n.its with
  | [] => rfl
  | x :: r => exact hl x (by rw [hi]; simp)
 | cons M r =>
  have hm:=(good_mid.1 hg).2.1 n Si
  refine ⟨fun e => ?_,fun e => by cases e⟩
  unfold kid0 at e
  match hi : n.its with
  | [] => exact absurd hi hm.ne
  | x :: r =>
   obtain ⟨b,hb⟩:=hm.kid x (by rw [hi]; simp)
   rw [hi] at e
   simp [hb] at e
theorem SM.root1 {W : World} {n : Nd} {M : List Nd} {r : List (List Nd)} {x : It} {kb : Nat} (h : SM w Z t m cnt rb key rs its0 W rs [] [] n [] (M :: r)) (hm : 4 ≤ m) (hx : n.its = [x]) (hk : x.kid = some kb) (W' : World) (hw' : W' = W.setCell ⟨t,2,none⟩ (.pointer (some ⟨kb,0,none⟩))) : GrowP w Z t m cnt its0 (.returned (.tuple #[])) W':=by
 obtain ⟨hf,_,hg⟩:=good_mid.1 h.si.good
 have hsl : slots (ctxR (rb,⟨none,none⟩) []).all ([] ++ n :: []) = [(kb,(⟨some x.key,none⟩ : Iv))]:=by
  show slots [(rb,(⟨none,none⟩ : Iv))] [n] = _
  simp [slots,hx,nslots,hk,hiOf]
 rw [hsl] at hg
 have hM : ∃ k,M = [k]:=by
  have:=(good_fits hg).length
  match M,this with
  | [k],_ => exact ⟨k,rfl⟩
 obtain ⟨k,rfl⟩:=hM
 have ht : ¬ zd W (allX ([n] :: [k] :: r)) t:=h.tr.out h.hp
 have hhp : Hp W Z (allX ([k] :: r)):=by
  have:=h.hp
  simp only [lvls,List.reverse_nil,List.map_nil,List.nil_append] at this
  rw [allX_cons] at this
  exact this.tail
 have hon : Only (fun k => Z k ∨ k = t) w W':=by
  rw [hw']
  have h0 : Only (fun k => Z k ∨ k = t) w W:=h.only.mono fun _ hk => Or.inl hk
  exact h0.setCell (p:=⟨t,2,none⟩) (Or.inr rfl) _
 refine ⟨rfl,hon,kb,[k] :: r,⟨?_⟩,?_,good_lo (lo:=some x.key) hg (fun y _ l e => by cases e),⟨fun y hy => ?_,h.si.wlow.2⟩,?_⟩
 ·rw [hw',heap_setCell_at h.tr.cells]
  simp
 ·rw [hw']
  have htt : ¬ zd W (allX ([k] :: r)) t:=h.tr.out hhp
  refine (hhp.tight.kept fun j hj hz => Below.heap_setCell _ _ _ _ (fun e => ?_)).mono fun j _ hz => ?_
  ·exact htt (by rw [show t = j from e.symm]; exact hz)
  ·rcases hhp.zone hz with h1 | h1
   ·exact h1
   ·exfalso
    simp [World.setCell] at *
    omega
 ·have h1:=h.si.wlow.1 y hy
  unfold lowB at h1 ⊢
  simp at h1 ⊢
  refine ⟨?_,h1.2⟩
  split <;> omega
 ·have:=h.its
  rw [items_cons] at this
  exact this
end
end
end BB
end Go.Proofs.YtmmmkjhpmlfopaaGreatDoor
