/- ZB12 ZB8 ZM86 ZM89 ZM90 -/
import Derived.Test.YtmmmkjhpmlfopaaGreatDoorSB05
set_option maxHeartbeats 8000000
set_option maxRecDepth 100000
namespace Go.Proofs.YtmmmkjhpmlfopaaGreatDoor
open Go.RowKit
namespace BB
section
structure GM (w : World) (Z : Nat → Prop) (t m cnt rb : Nat) (key : ByteArray) (rs0 : List Fr) (its0 : List It) (W : World) (pre : List Fr) (rest : List Fr) (A : List Nd) (n : Nd) (C : List Nd) (low : List (List Nd)) : Prop where
 rs : rs0 = pre ++ rest
 frs : Frs key (rb,⟨none,none⟩) rest
 wf : WF m rest
 gi : GI key m (ctxR (rb,⟨none,none⟩) rest) rest.isEmpty A n C low
 hp : Hp W Z (allX (lvls rest ++ (A ++ n :: C) :: low))
 its : items ((A ++ n :: C) :: low) = its0
 only : Only Z w W
 tr : TrAt W t m cnt rb
def lowN (key : ByteArray) (f : Fr) : Nd:=⟨f.n.b,f.n.v,f.X ++ lowIt key f.it :: f.Y⟩
theorem lowN_same {key : ByteArray} {c : Ctx} {f : Fr} {k0 : It} {r : List It} (hf : FrOk key c f) (h0 : f.n.its = k0 :: r) (hk : kl key k0.key = false) : lowN key f = f.n:=by
 have e : f.X ++ lowIt key f.it :: f.Y = f.n.its:=by
  rw [hf.its]
  have e2 : lowIt key f.it = f.it:=by
   unfold lowIt
   have hik : kl key f.it.key = false:=by
    rcases hf.ahead with e | e
    ·have h1:=hf.its
     rw [e,List.nil_append,h0] at h1
     obtain ⟨rfl,_⟩:=List.cons.inj h1
     exact hk
    ·exact e
   rw [lowK_id hik]
  rw [e2]
 unfold lowN
 rw [e]
theorem lowN_less {key : ByteArray} {c : Ctx} {f : Fr} {k0 : It} {r : List It} (hf : FrOk key c f) (h0 : f.n.its = k0 :: r) (hk : kl key k0.key = true) : (lowN key f).its = ⟨key,k0.val,k0.kid⟩ :: r:=by
 have hX : f.X = []:=by
  rcases hf.ahead with e | e
  ·exact e
  ·match hx : f.X with
   | [] => rfl
   | y :: X =>
    have h1:=hf.its
    have hs:=hf.ok.srt
    rw [h1] at hs
    rw [hx,h0] at h1
    obtain ⟨rfl,_⟩:=List.cons.inj h1
    have:=(List.pairwise_append.1 hs).2.2 k0 (by rw [hx]; simp) f.it Si
    have:=kl_trans hk this
    rw [e] at this
    cases this
 have h1:=hf.its
 rw [hX,List.nil_append,h0] at h1
 obtain ⟨e1,e2⟩:=List.cons.inj h1
 show f.X ++ lowIt key f.it :: f.Y = _
 rw [hX,← e1,← e2]
 show lowIt key k0 :: r = _
 unfold lowIt lowK
 rw [if_pos hk]
theorem ic_first (x : It) (r : List It) (key : ByteArray) : (ic (x :: r)).set 0 (.string key) = ic (⟨key,x.val,x.kid⟩ :: r):=rfl
section
variable {w : World} {Z : Nat → Prop} {t m cnt rb : Nat} {key : ByteArray} {rs0 : List Fr} {its0 : List It} {W : World} {pre : List Fr} {f : Fr} {rest : List Fr} {A : List Nd} {n : Nd} {C : List Nd} {low : List (List Nd)}
def GM.R (f : Fr) (rest : List Fr) (A : List Nd) (n : Nd) (C : List Nd) (low : List (List Nd)) : List NX:=restTwo (lvls rest) low f.A f.C A C f.n.b n.b
theorem GM.two (h : GM w Z t m cnt rb key rs0 its0 W pre (f :: rest) A n C low) : Hp W Z ((f.n,hd f.C none) :: (n,hd C none) :: GM.R f rest A n C low):=by
 have:=h.hp
 rw [lvls_cons,Zas] at this
 exact this.perm (perm_two (lvls rest) low f.A f.C A C f.n n)
theorem GM.kid (h : GM w Z t m cnt rb key rs0 its0 W pre (f :: rest) A n C low) : f.it.kid = some n.b:=by
 have h1:=h.gi.node.1
 obtain ⟨b,hb⟩:=(h.frs.2.mid f.n (by simp [Fr.lvl])).kid f.it (by rw [h.frs.2.its]; simp)
 rw [hb]
 have : n.b = f.it.kid.getD 0:=h1
 rw [this,hb]
 rfl
theorem GM.plen (h : GM w Z t m cnt rb key rs0 its0 W pre (f :: rest) A n C low) : 0 < f.n.its.length ∧ f.n.its.length ≤ m ∧ f.X.length < f.n.its.length:=by
 refine ⟨?_,(h.wf.1 f.n (by simp [Fr.lvl])).2,?_⟩
 ·rw [h.frs.2.its,Zla,List.length_cons]; omega
 ·rw [h.frs.2.its,Zla,List.length_cons]; omega
theorem GM.same (h : GM w Z t m cnt rb key rs0 its0 W pre (f :: rest) A n C low) {k0 : It} {r : List It} (h0 : f.n.its = k0 :: r) (hk : kl key k0.key = false) : Hp W (zd W ((f.n,hd f.C none) :: (n,hd C none) :: GM.R f rest A n C low)) ((lowN key f,hd f.C none) :: (n,hd C none) :: GM.R f rest A n C low):=by
 rw [lowN_same h.frs.2 h0 hk]
 exact h.two.tight
theorem GM.less (h : GM w Z t m cnt rb key rs0 its0 W pre (f :: rest) A n C low) {k0 : It} {r : List It} (h0 : f.n.its = k0 :: r) (hk : kl key k0.key = true) {g cap : Nat} (hv : f.n.v = .slice (some ⟨g,0,none⟩) f.n.its.length cap) :
  Hp (W.setCell ⟨g,0,none⟩ (.string key)) (zd W ((f.n,hd f.C none) :: (n,hd C none) :: GM.R f rest A n C low)) ((lowN key f,hd f.C none) :: (n,hd C none) :: GM.R f rest A n C low) ∧ Only (zd W ((f.n,hd f.C none) :: (n,hd C none) :: GM.R f rest A n C low)) W (W.setCell ⟨g,0,none⟩ (.string key)):=by
 have e:=lowN_less h.frs.2 h0 hk
 exact h.two.tight.setItem (its':=(lowN key f).its) (zd_new _ _) hv (by rw [e,h0]; simp) (by rw [h0,e]; exact ic_first k0 r key)
theorem GM.next (h : GM w Z t m cnt rb key rs0 its0 W pre (f :: rest) A n C low) (hZ : ∀ k,w.heap.size ≤ k → Z k) (hm : 1 ≤ m) {W1 W2 : World} {D : List NX} (hD : D = (f.n,hd f.C none) :: (n,hd C none) :: GM.R f rest A n C low) (ho1 : Only (zd W D) W W1) (ht : ¬ zd W D t) {e : Ending} (hfit : FitP W1 (zd W D) (lowN key f) n (hd f.C none) (hd C none) (GM.R f rest A n C low) f.X.length m e W2) :
  e = .returned (.tuple #[]) ∧ Only (zd W D) W W2 ∧ ∃ A' n' C' low',GM w Z t m cnt rb key rs0 its0 W2 (pre ++ [f]) rest A' n' C' low':=by
 have hfo:=h.frs.2
 have hloc:=Frs.loc (r:=(rb,⟨none,none⟩)) rfl h.frs.1
 obtain ⟨he,ho2,hcase⟩:=hfit
 have ho:=ho1.trans ho2
 have hzz : ∀ k,k < W2.heap.size → zd W D k → Z k:=fun k _ hk => by
  subst hD
  rcases h.two.zone hk with h1 | h1
  ·exact h1
  ·exact hZ k (Zlt h.only.size h1)
 have hwz : ∀ k,zd W D k → Z k:=fun k hk => by
  subst hD
  rcases h.two.zone hk with h1 | h1
  ·exact h1
  ·exact hZ k (Zlt h.only.size h1)
 have honly : Only Z w W2:=h.only.trans (ho.mono hwz)
 have htr : TrAt W2 t m cnt rb:=h.tr.kept (ho.block t h.tr.lt ht)
 have hrs : rs0 = (pre ++ [f]) ++ rest:=by rw [h.rs]; simp
 have hgi : GI key m ((ctxR (rb,⟨none,none⟩) rest).step f) false A n C low:=h.gi
 refine ⟨he,ho,?_⟩
 rcases hcase with ⟨hle,hhp⟩ | ⟨hlt,v1,v2,v3,nb,x,r,hdr,_,hhp⟩
 ·refine ⟨f.A,lowN key f,f.C,(A ++ n :: C) :: low,hrs,h.frs.1,h.wf.2,hgi.keep hfo hloc h.wf.1 hle rfl rfl,?_,?_,honly,htr⟩
  ·exact (hhp.perm (perm_two (lvls rest) low f.A f.C A C (lowN key f) n).symm).mono hzz
  ·rw [items_cons]; exact h.its
 ·have hX : (lowN key f).its.take (f.X.length + 1) ++ ⟨x.key,⟨#[]⟩,some nb⟩ :: (lowN key f).its.drop (f.X.length + 1) = f.X ++ lowIt key f.it :: ⟨x.key,⟨#[]⟩,some nb⟩ :: f.Y:=by
   show (f.X ++ lowIt key f.it :: f.Y).take (f.X.length + 1) ++ _ :: (f.X ++ lowIt key f.it :: f.Y).drop (f.X.length + 1) = _
   rw [show f.X ++ lowIt key f.it :: f.Y = (f.X ++ [lowIt key f.it]) ++ f.Y by simp,List.take_left' Si,List.drop_left' Si]
   simp
  rw [hX] at hhp
  refine ⟨f.A,⟨f.n.b,v1,f.X ++ lowIt key f.it :: ⟨x.key,⟨#[]⟩,some nb⟩ :: f.Y⟩,f.C,(A ++ ⟨n.b,v2,n.its.take (n.its.length / 2)⟩ :: ⟨nb,v3,x :: r⟩ :: C) :: low,hrs,h.frs.1,h.wf.2,?_,?_,?_,honly,htr⟩
  ·have hwA : ∀ y ∈ f.A ++ f.C,lowB m rest.isEmpty false ≤ y.its.length ∧ y.its.length ≤ m:=fun y hy => h.wf.1 y (by
    rcases Zma hy with hy | hy
    ·exact List.mem_append_left _ hy
    ·exact List.mem_append_right _ (List.mem_cons_of_mem _ hy))
   have hwn:=h.wf.1 f.n (by simp [Fr.lvl])
   exact hgi.split hfo hloc hwA ⟨by omega,hwn.2⟩ hm hlt rfl hdr rfl rfl rfl rfl
  ·exact (hhp.perm (perm_three (lvls rest) low f.A f.C A C ⟨f.n.b,v1,f.X ++ lowIt key f.it :: ⟨x.key,⟨#[]⟩,some nb⟩ :: f.Y⟩ ⟨n.b,v2,n.its.take (n.its.length / 2)⟩ ⟨nb,v3,x :: r⟩).symm).mono hzz
  ·rw [items_cons,items_split A C n _ _ low (by show n.its = n.its.take (n.its.length / 2) ++ (x :: r); rw [← hdr,List.take_append_drop])]
   exact h.its
end
end
def JoinP (w : World) (Z : Nat → Prop) (p a c : Nd) (px cx : Option Nat) (R : List NX) (i : Nat) (e : Ending) (w' : World) : Prop :=
 e = .returned (.tuple #[]) ∧ Only Z w w' ∧ ∃ v1 v2,Hp w' Z ((⟨p.b,v1,p.its.take (i + 1) ++ p.its.drop (i + 2)⟩,px) :: (⟨a.b,v2,a.its ++ c.its⟩,cx) :: R)
theorem perm2' (a b : NX) (R : List NX) : (a :: b :: R).Perm (b :: a :: R):=List.Perm.swap ..
theorem join_any (w : World) (Z : Nat → Prop) (p a c : Nd) (px ax cx : Option Nat) (R : List NX) (i : Nat) (h : Hp w Z ((p,px) :: (a,ax) :: (c,cx) :: R)) (hZ : ∀ k,w.heap.size ≤ k → Z k) (hi : i + 1 < p.its.length) (ha : (p.its[i]).kid = some a.b) (hc : (p.its[i + 1]).kid = some c.b) (hpl : p.its.length ≤ 100000) (hal : a.its.length ≤ 100000) (hcl : c.its.length ≤ 100000) (hc0 : 0 < c.its.length) :
  Calls Tryz.prog 157 #[.pointer (some ⟨p.b,0,none⟩),.int .i64 (i : Int)] w (JoinP w Z p a c px cx R i):=by
 obtain ⟨i0,hif,hz0,hz1,hz2⟩:=info_parts Tryz.infoItem
 have HH : Hid (Hp w Z ((p,px) :: (a,ax) :: (c,cx) :: R)):=h
 have HZ : Hid (∀ k,w.heap.size ≤ k → Z k):=hZ
 have hp:=h.head
 have han:=h.tail.head
 have hcn:=h.tail.tail.head
 simp only at hp han hcn
 have p0:=hp.nc.c0
 obtain ⟨gp,capp,ep,_,_,hgp,hcp,_⟩:=irow_at hp.row Om
 rw [ep] at p0
 have pa:=(hcp i Om).2.2
 rw [ha] at pa
 have pc:=(hcp (i + 1) hi).2.2
 rw [hc] at pc
 simp only [Option.map_some] at pa pc
 have a0:=han.nc.c0
 have a1:=han.nc.c1
 have af:=han.nc.fz
 obtain ⟨pa1,capa,ea,hca,hcm⟩:=irow_form han.row
 rw [ea] at a0
 have c0:=hcn.nc.c0
 have c1:=hcn.nc.c1
 obtain ⟨gc,capc,ec,_,_,hgc,hcc,_⟩:=irow_at hcn.row hc0
 rw [ec] at c0
 have hcrow:=hcn.row
 rw [ec] at hcrow
 obtain ⟨np,hnp⟩:=Vx p.its.length
 obtain ⟨na,hna⟩:=Vx a.its.length
 obtain ⟨nc,hnc⟩:=Vx c.its.length
 obtain ⟨bp,hbp⟩:=Vx p.b
 obtain ⟨ba,hba⟩:=Vx a.b
 obtain ⟨bc,hbc⟩:=Vx c.b
 have HN : Hid (p.its.length = np ∧ a.its.length = na ∧ c.its.length = nc ∧ p.b = bp ∧ a.b = ba ∧ c.b = bc):=⟨hnp,hna,hnc,hbp,hba,hbc⟩
 have HEP : Hid (p.v = .slice (some ⟨gp,0,none⟩) np capp):=by rw [← hnp]; exact ep
 have HEA : Hid (a.v = .slice pa1 na capa):=by rw [← hna]; exact ea
 have HEC : Hid (c.v = .slice (some ⟨gc,0,none⟩) nc capc):=by rw [← hnc]; exact ec
 have HAR : Hid (w.ownsRow 0 195 3 (.slice pa1 na capa) na (ic a.its)):=by
  have:=han.row
  rw [ea,hna] at this
  exact this
 have HCR : Hid (∀ j u,(ic c.its)[j]? = some u → w.cell? ((⟨gc,0,none⟩ : Addr).add j) = some u):=fun j u hj => by
  have hj2:=(List.getElem?_eq_some_iff.1 hj).1
  rw [ic_length] at hj2
  rw [Addr.add_lit,Nat.zero_add,hcrow.cellAt j hj2]
  exact hj
 obtain ⟨q,hq⟩ : ∃ q : Option Addr,(cx.map fun b => (⟨b,0,none⟩ : Addr)) = q:=⟨_,rfl⟩
 have HQ : Hid (pOf cx = q):=hq
 rw [hnp,hbp] at p0
 rw [hba] at pa
 rw [hbc] at pc
 rw [hna,hba] at a0
 rw [hba] at a1 af
 rw [hnc,hbc] at c0
 rw [hbc,hq] at c1
 rw [hnp] at hi hpl
 rw [hna] at hal hca
 rw [hnc] at hcl hc0
 rw [hbp]
 have hap : Ap (a,ax) (c,cx):=(List.pairwise_cons.1 h.tail.apart).1 _ (List.mem_cons_self ..)
 have hga : (Value.slice pa1 na capa).ownBlock ≠ some bc:=by
  have:=ndat_ne hcn han
  rw [HEA.out,hbc] at this
  exact this
 have hgaa : (Value.slice pa1 na capa).ownBlock ≠ some ba:=by
  have:=ndat_ne han han
  rw [HEA.out,hba] at this
  exact this
 have hbal : ba < w.heap.size:=by rw [← hba]; exact han.lt
 have hbcl : bc < w.heap.size:=by rw [← hbc]; exact hcn.lt
 have hne : ba ≠ bc:=by rw [← hba,← hbc]; exact hap.1
 have hii : (i : Int) < (np : Int):=by omega
 have hii1 : (i : Int) + 1 < (np : Int):=by omega
 have hi0 : (0 : Int) ≤ (i : Int) + 1:=by omega
 have hw1 : IntKind.i64.wrap ((i : Int) + 1) = (i : Int) + 1:=by rw [IntKind.wrap_i64]; omega
 clear h hZ hp han hcn hcp ep ea ec hnp hna hnc hbp hba hbc ha hc hcc hcrow hq hap
 go_enter Tryz.func157,Tryz.ntmps157
 go_wp2
 go_quiet (fail)
 go_wp2
 obtain ⟨W0,hW0⟩:=Vx (w.drewN nq)
 have hb0 : Below w.heap.size w W0:=by rw [← hW0]; exact below_drewN (Bxr _ _) _
 have HB0 : Hid (Below w.heap.size w W0):=hb0
 have HA0 : Hid (W0.drew.ownsRow 0 195 3 (.slice pa1 na capa) na (ic a.its)):=by rw [← hW0]; exact own_kept HAR.out fun _ _ => rfl
 have HC0 : Hid (∀ j u,(ic c.its)[j]? = some u → W0.drew.cell? ((⟨gc,0,none⟩ : Addr).add j) = some u):=by rw [← hW0]; exact HCR.out
 have d0:=cell_later hb0 a0
 have e0:=cell_later hb0 c0
 have df : W0.frozen? ⟨ba,0,none⟩ = false:=by rw [← hW0]; exact af 0
 have hal0 : ba < W0.heap.size:=Zll hbal hb0.size
 have hicl : (ic c.its).length = nc * 3:=by rw [ic_length,HN.out.2.2.1]
 have HICL : Hid ((ic c.its).length = nc * 3):=hicl
 rw [hW0]
 clear hW0 hb0 a0 c0 p0 pa pc hicl
 go_region_law (first
  | (refine step_append_lies _ rfl _ _ 196 rfl 0 195 i0 _ 3 40 Tryz.underlying196 hif hz0 hz1 hz2 rfl (by decide) (.slice pa1 na capa) na (ic a.its) rfl HA0.out ⟨gc,0,none⟩ nc capc (ic c.its) rfl HICL.out HC0.out (ic_one _) hc0 (by unfold maxLen; omega) Om (Nat.zero_le _) _ rfl ?_; intro g8 cap8 w8 hown8 hgrow8 hor8 hlt8; (have hbl8:=hgrow8.block ba hal0 (fun e => hgaa e.symm)); (have s0:=cell_at hbl8 d0); (have sf : w8.frozen? ⟨ba,0,none⟩ = false:=(World.frozen?_of_block (a:=⟨ba,0,none⟩) hbl8).trans df)))
 all_goals
  have hpe : ((p,px) :: (a,ax) :: (c,cx) :: R : List NX).Perm ((a,ax) :: (p,px) :: (c,cx) :: R):=perm2' _ _ _
  have hoo : Only (fun j => a.v.ownBlock = some j) w w8:=((Only.of HB0.out).drew).grown hgrow8 (fun j hj => by rw [HEA.out]; exact hj)
  have hll : (a.its ++ c.its).length = na + nc:=by rw [Zla,HN.out.2.1,HN.out.2.2.1]
  obtain ⟨hP4,hO4⟩:=(HH.out.perm hpe).setRow (v':=.slice (some ⟨g8,0,none⟩) (na + nc) cap8) (its':=a.its ++ c.its) HZ.out hoo (by rw [hll,ic_append]; exact hown8) (fun j hj => by
   obtain rfl : g8 = j:=by simpa [Value.ownBlock] using hj
   rcases hor8 with h | h
   ·exact Or.inl (by rw [HEA.out]; exact h)
   ·exact Or.inr (by rw [h]; exact HB0.out.size))
  simp only [HN.out.2.2.2.2.1] at hP4 hO4
  obtain ⟨W4,hW4⟩:=Vx (w8.setCell ⟨ba,0,none⟩ (.slice (some ⟨g8,0,none⟩) (na + nc) cap8))
  rw [hW4] at hP4 hO4
  rw [hW4]
  have HO4 : Hid (Only Z w W4):=hO4
  have HZ4 : Hid (∀ k,W4.heap.size ≤ k → Z k):=fun k hk => HZ.out k (Zlt HO4.out.size hk)
  have u1:=hP4.head.nc.c1
  have uf:=hP4.head.nc.fz 1
  have u2:=hP4.tail.tail.head.nc.c1
  simp only [HN.out.2.2.2.2.2] at u1 uf u2
  obtain ⟨hP5,hO5⟩:=hP4.setNext HZ4.out cx
  simp only [HQ.out] at hP5 hO5
  have HP5 : Hid (Hp (W4.setCell ⟨ba,1,none⟩ (.pointer q)) Z ((⟨ba,.slice (some ⟨g8,0,none⟩) (na + nc) cap8,a.its ++ c.its⟩,cx) :: (p,px) :: (c,cx) :: R)):=hP5
  have HO5 : Hid (Only Z w (W4.setCell ⟨ba,1,none⟩ (.pointer q))):=HO4.out.trans hO5
  rw [show (cx.map fun b => (⟨b,0,none⟩ : Addr)) = q from HQ.out] at u2
  obtain ⟨qa,hqa⟩ : ∃ qa : Option Addr,(ax.map fun b => (⟨b,0,none⟩ : Addr)) = qa:=⟨_,rfl⟩
  rw [hqa] at u1
  obtain ⟨W5,hW5⟩:=Vx (W4.setCell ⟨ba,1,none⟩ (.pointer q))
  rw [hW5] at HP5 HO5
  have HZ5 : Hid (∀ k,W5.heap.size ≤ k → Z k):=fun k hk => HZ.out k (Zlt HO5.out.size hk)
  have hP:=HP5.out.tail.head
  have hPb : p.b = bp:=HN.out.2.2.2.1
  have HPR : Hid (W5.ownsRow 0 195 3 (.slice (some ⟨gp,0,none⟩) np capp) p.its.length (ic p.its)):=by
   have:=hP.row
   simp only [HEP.out] at this
   exact this
  have v0 : W5.cell? ⟨bp,0,none⟩ = some (.slice (some ⟨gp,0,none⟩) np capp):=by
   have:=hP.nc.c0
   simp only [HEP.out,hPb] at this
   exact this
  have vf : W5.frozen? ⟨bp,0,none⟩ = false:=by
   have:=hP.nc.fz 0
   simp only [hPb] at this
   exact this
  have z5 : bp < W5.heap.size:=by have:=hP.lt; simp only [hPb] at this; exact this
  have hbg5 : bp ≠ gp:=fun e => by
   have:=ndat_ne hP hP
   simp only [HEP.out,hPb] at this
   exact this (by rw [e]; rfl)
  have HDE : Hid (Calls Tryz.prog 119 #[.slice (some ⟨gp,0,none⟩) np capp,.int .i64 ((i : Int) + 1),.int .i64 ((i : Int) + 2)] W5 fun e w' => e = .returned (.slice (some ⟨gp,0,none⟩) (np - 1) capp) ∧ w'.ownsRow 0 195 3 (.slice (some ⟨gp,0,none⟩) (np - 1) capp) (np - 1) (ic (p.its.take (i + 1) ++ p.its.drop (i + 2))) ∧ Only (fun k => k = gp) W5 w'):=by
   have:=delete_any W5 gp capp p.its (i + 1) (i + 2) (by have h1:=HPR.out; rw [HN.out.1] at h1 ⊢; exact h1) Om (by rw [HN.out.1]; omega) (by rw [HN.out.1]; omega)
   rw [HN.out.1,show i + 1 + (np - (i + 2)) = np - 1 by omega] at this
   exact this
  have hw2 : IntKind.i64.wrap ((i : Int) + 2) = (i : Int) + 2:=by rw [IntKind.wrap_i64]; omega
  clear hpe hoo hP4 hO4 hown8 hgrow8 hor8 hlt8 hbl8 s0 sf hP5 hO5 d0 e0 df hW4 hP hPb hqa hll
  go_wp2_with fail
  try rw [hW5]
  refine HDE.out.mono ?_
  rintro e w9 ⟨rfl,hown9,ho9⟩
  have hbl9:=ho9.block bp z5 hbg5
  have y0:=cell_at hbl9 v0
  have yf : w9.frozen? ⟨bp,0,none⟩ = false:=(World.frozen?_of_block (a:=⟨bp,0,none⟩) hbl9).trans vf
  have hpe : ((⟨ba,.slice (some ⟨g8,0,none⟩) (na + nc) cap8,a.its ++ c.its⟩,cx) :: (p,px) :: (c,cx) :: R : List NX).Perm ((p,px) :: (⟨ba,.slice (some ⟨g8,0,none⟩) (na + nc) cap8,a.its ++ c.its⟩,cx) :: (c,cx) :: R):=perm2' _ _ _
  have hoo : Only (fun j => p.v.ownBlock = some j) W5 w9:=ho9.mono fun j hj => by rw [HEP.out,hj]; rfl
  obtain ⟨hP9,hO9⟩:=(HP5.out.perm hpe).setRow (v':=.slice (some ⟨gp,0,none⟩) (np - 1) capp) (its':=p.its.take (i + 1) ++ p.its.drop (i + 2)) HZ5.out hoo (by
   rw [show (p.its.take (i + 1) ++ p.its.drop (i + 2)).length = np - 1 by rw [Zla,List.length_take,List.length_drop,HN.out.1]; omega]
   exact hown9) (fun j hj => Or.inl (by rw [HEP.out]; exact hj))
  have HP9 : Hid (Hp (w9.setCell ⟨bp,0,none⟩ (.slice (some ⟨gp,0,none⟩) (np - 1) capp)) Z ((⟨bp,.slice (some ⟨gp,0,none⟩) (np - 1) capp,p.its.take (i + 1) ++ p.its.drop (i + 2)⟩,px) :: (⟨ba,.slice (some ⟨g8,0,none⟩) (na + nc) cap8,a.its ++ c.its⟩,cx) :: (c,cx) :: R)):=by
   have:=hP9
   simp only [HN.out.2.2.2.1] at this
   exact this
  have HO9 : Hid (Only Z w (w9.setCell ⟨bp,0,none⟩ (.slice (some ⟨gp,0,none⟩) (np - 1) capp))):=by
   have:=HO5.out.trans hO9
   simp only [HN.out.2.2.2.1] at this
   exact this
  clear hP9 hO9 hpe hoo hown9 ho9 hbl9 v0 vf hW5
  go_wp2
  go_end0
  refine ⟨rfl,HO9.out,.slice (some ⟨gp,0,none⟩) (np - 1) capp,.slice (some ⟨g8,0,none⟩) (na + nc) cap8,?_⟩
  rw [HN.out.2.2.2.1,HN.out.2.2.2.2.1]
  exact (HP9.out.perm (((perm2' _ _ _).cons _).trans (perm2' _ _ _))).tail
def insL (key val : ByteArray) (l : List It) : List It:=l.take (cntL key l) ++ ⟨key,val,none⟩ :: l.drop (cntL key l)
theorem insL_length (key val : ByteArray) (l : List It) : (insL key val l).length = l.length + 1:=by
 have:=cntL_le key l
 simp [insL]
 omega
theorem ins_below {key : ByteArray} {l : List It} : ∀ x ∈ l.take (cntL key l),kl x.key key = true:=fun x hx => by
 obtain ⟨i,hi,rfl⟩:=List.getElem_of_mem hx
 rw [List.length_take] at hi
 rw [List.getElem_take]
 exact cntL_lt key l i Om Om
theorem ins_above {key : ByteArray} {l : List It} (hs : Srt l) (hf : foundL key l = false) : ∀ x ∈ l.drop (cntL key l),kl key x.key = true:=fun x hx => by
 obtain ⟨i,hi,rfl⟩:=List.getElem_of_mem hx
 rw [List.length_drop] at hi
 rw [List.getElem_drop]
 have h0:=cntL_at key l Om
 have hne0 : (l[cntL key l]'Om).key ≠ key:=fun e' => by
  rw [foundL_at Om,e'] at hf
  simp at hf
 have hlt:=kl_total h0 hne0
 rcases Nat.eq_zero_or_pos i with e' | e'
 ·subst e'; exact hlt
 ·exact kl_trans hlt (List.pairwise_iff_getElem.1 hs _ _ Om Om Om)
theorem ins_sorted {key val : ByteArray} {l : List It} (hs : Srt l) (hf : foundL key l = false) : Srt (insL key val l):=by
 have h:=hs
 rw [← List.take_append_drop (cntL key l) l] at h
 obtain ⟨h1,h2,h3⟩:=List.pairwise_append.1 h
 refine List.pairwise_append.2 ⟨h1,List.pairwise_cons.2 ⟨ins_above hs hf,h2⟩,fun a ha b hb => ?_⟩
 rcases Zmc hb with rfl | hb
 ·exact ins_below a ha
 ·exact h3 a ha b hb
theorem ins_mem {key val : ByteArray} {l : List It} {x : It} (h : x ∈ insL key val l) : x = ⟨key,val,none⟩ ∨ x ∈ l:=by
 rcases Zma h with h | h
 ·exact Or.inr (List.mem_of_mem_take h)
 ·rcases Zmc h with h | h
  ·exact Or.inl h
  ·exact Or.inr (List.mem_of_mem_drop h)
theorem wlv_part {m : Nat} : ∀ {rs : List Fr} {L : List Nd} {low : List (List Nd)},WLv m true (lvls rs ++ L :: low) → WF m rs ∧ (∀ x ∈ L,lowB m rs.isEmpty low.isEmpty ≤ x.its.length ∧ x.its.length ≤ m) ∧ WLv m false low
 | [],_,_,h => ⟨trivial,h.1,h.2⟩
 | f :: rs,L,low,h => by
  rw [lvls_cons,Zas] at h
  obtain ⟨h1,h2,h3⟩:=wlv_part (rs:=rs) (L:=f.lvl) (low:=L :: low) h
  exact ⟨⟨h2,h1⟩,h3.1,h3.2⟩
theorem wlv_glue {m : Nat} : ∀ {rs : List Fr} {L : List Nd} {low : List (List Nd)},WF m rs → (∀ x ∈ L,lowB m rs.isEmpty low.isEmpty ≤ x.its.length ∧ x.its.length ≤ m) → WLv m false low → WLv m true (lvls rs ++ L :: low)
 | [],_,_,_,h2,h3 => ⟨h2,h3⟩
 | f :: rs,L,low,h1,h2,h3 => by
  rw [lvls_cons,Zas]
  exact wlv_glue (rs:=rs) (L:=f.lvl) (low:=L :: low) h1.2 h1.1 ⟨h2,h3⟩
theorem GI.start {key val : ByteArray} {m : Nat} {c : Ctx} {top : Bool} {A C : List Nd} {n n' : Nd} (hg : Good c.all [A ++ n :: C]) (hl : Loc key c) (hp : c.SA.length = A.length) (hw : ∀ x ∈ A ++ n :: C,lowB m top true ≤ x.its.length ∧ x.its.length ≤ m) (hf : foundL key n.its = false) (hb : n'.b = n.b) (hi : n'.its = insL key val n.its) : GI key m c top A n' C []:=by
 obtain ⟨hfit,hlf⟩:=good_leaf.1 hg
 obtain ⟨hfa,⟨hnb,hok⟩,hfc⟩:=(fits_append hp).1 hfit
 have hlen : n'.its.length = n.its.length + 1:=by rw [hi,insL_length]
 have hwn:=hw n Si
 refine ⟨good_leaf.2 ⟨(fits_append hp).2 ⟨hfa,⟨hb.trans hnb,⟨?_,fun x hx => ?_⟩⟩,hfc⟩,fun x hx => ?_⟩,hp,fun x hx => hw x ?_,⟨?_,?_⟩,trivial⟩
 ·rw [hi]; exact ins_sorted hok.srt hf
 ·rw [hi] at hx
  rcases ins_mem hx with rfl | hx
  ·exact ⟨inLo_lower_key key _,hl.hi⟩
  ·exact ⟨inLo_lower (hok.mem x hx).1,(hok.mem x hx).2⟩
 ·rcases Zma hx with hx | hx
  ·exact hlf x (List.mem_append_left _ hx)
  ·rcases Zmc hx with rfl | hx
   ·intro z hz
    rw [hi] at hz
    rcases ins_mem hz with rfl | hz
    ·rfl
    ·exact hlf n Si z hz
   ·exact hlf x (List.mem_append_right _ (List.mem_cons_of_mem _ hx))
 ·rcases Zma hx with hx | hx
  ·exact List.mem_append_left _ hx
  ·exact List.mem_append_right _ (List.mem_cons_of_mem _ hx)
 ·rw [hlen]; exact Nat.le_succ_of_le hwn.1
 ·rw [hlen]; exact Nat.succ_le_succ hwn.2
theorem join_good {SA SC : List Slot} {s1 s2 : Slot} {A C : List Nd} {n1 n2 n : Nd} {low : List (List Nd)} {k : ByteArray} (h : Good (SA ++ s1 :: s2 :: SC) ((A ++ n1 :: n2 :: C) :: low)) (hl : SA.length = A.length) (h1 : s1.2.hi = some k) (h2 : s2.2.lo = some k) (hlo : ∀ l,s1.2.lo = some l → kl k l = false) (hhi : ∀ q,s2.2.hi = some q → kl k q = true) (hn : n.its = n1.its ++ n2.its) (hb : n.b = n1.b) :
  Good (SA ++ (s1.1,⟨s1.2.lo,s2.2.hi⟩) :: SC) ((A ++ n :: C) :: low):=by
 obtain ⟨hfa,⟨hb1,ho1⟩,⟨hb2,ho2⟩,hfc⟩:=(fits_append hl).1 (good_fits h)
 have hok : NodeOk n ⟨s1.2.lo,s2.2.hi⟩:=by
  refine ⟨?_,fun x hx => ?_⟩
  ·rw [hn]
   refine List.pairwise_append.2 ⟨ho1.srt,ho2.srt,fun a ha b hb => ?_⟩
   exact kl_lt_le ((ho1.mem a ha).2 k h1) ((ho2.mem b hb).1 k h2)
  ·rw [hn] at hx
   rcases Zma hx with hx | hx
   ·exact ⟨(ho1.mem x hx).1,fun q e => kl_trans ((ho1.mem x hx).2 k h1) (hhi q e)⟩
   ·exact ⟨fun l e => kl_le_trans (hlo l e) ((ho2.mem x hx).1 k h2),(ho2.mem x hx).2⟩
 have hf : Fits (SA ++ (s1.1,⟨s1.2.lo,s2.2.hi⟩) :: SC) (A ++ n :: C):=(fits_append hl).2 ⟨hfa,⟨hb.trans hb1,hok⟩,hfc⟩
 cases low with
 | nil =>
  have hlf:=(good_leaf.1 h).2
  refine good_leaf.2 ⟨hf,fun y hy => ?_⟩
  rcases Zma hy with hy | hy
  ·exact hlf y (List.mem_append_left _ hy)
  ·rcases Zmc hy with rfl | hy
   ·intro z hz
    rw [hn] at hz
    rcases Zma hz with hz | hz
    ·exact hlf n1 Si z hz
    ·exact hlf n2 Si z hz
   ·exact hlf y (by simp [hy])
 | cons M q =>
  obtain ⟨_,hmid,hg⟩:=good_mid.1 h
  have hm1:=hmid n1 Si
  have hm2:=hmid n2 Si
  refine good_mid.2 ⟨hf,fun y hy => ?_,?_⟩
  ·rcases Zma hy with hy | hy
   ·exact hmid y (List.mem_append_left _ hy)
   ·rcases Zmc hy with rfl | hy
    ·refine ⟨by rw [hn]; simp [hm1.ne],fun z hz => ?_⟩
     rw [hn] at hz
     rcases Zma hz with hz | hz
     ·exact hm1.kid z hz
     ·exact hm2.kid z hz
    ·exact hmid y (by simp [hy])
  ·refine hg.wide ?_
   rw [slots_append hl,slots_append hl]
   show WideS (slots SA A ++ (nslots n1.its s1.2.hi ++ (nslots n2.its s2.2.hi ++ slots SC C))) (slots SA A ++ (nslots n.its s2.2.hi ++ slots SC C))
   rw [hn,nslots_append,Zas]
   refine (WideS.refl _).append ((nslots_wide n1.its fun z hz => ?_).append (WideS.refl _))
   intro q' e
   obtain ⟨y,r,hy⟩:=List.exists_cons_of_ne_nil hm2.ne
   rw [hy] at e
   obtain rfl:=Option.some.inj e
   exact kl_lt_le (hz k h1) ((ho2.mem y (by rw [hy]; simp)).1 k h2)
theorem join_two {SA SC : List Slot} {s : Slot} {PA PC A C : List Nd} {p p' n1 n2 n : Nd} {low : List (List Nd)} {U V : List It} {u1 u2 : It} (h : Good (SA ++ s :: SC) ((PA ++ p :: PC) :: (A ++ n1 :: n2 :: C) :: low)) (hl : SA.length = PA.length) (hp : p.its = U ++ u1 :: u2 :: V) (hp' : p'.its = U ++ u1 :: V) (hb : p'.b = p.b) (hA : A.length = (slots SA PA).length + U.length) (hn : n.its = n1.its ++ n2.its) (hnb : n.b = n1.b) :
  Good (SA ++ s :: SC) ((PA ++ p' :: PC) :: (A ++ n :: C) :: low):=by
 obtain ⟨hf,hmid,hg⟩:=good_mid.1 h
 obtain ⟨hfa,⟨hpb,hok⟩,hfc⟩:=(fits_append hl).1 hf
 have hs:=hok.srt
 rw [hp] at hs
 obtain ⟨h1,h2,h3⟩:=List.pairwise_append.1 hs
 obtain ⟨h4,h5⟩:=List.pairwise_cons.1 h2
 obtain ⟨h6,h7⟩:=List.pairwise_cons.1 h5
 have hsub : ∀ x ∈ p'.its,x ∈ p.its:=fun x hx => by
  rw [hp'] at hx
  rw [hp]
  rcases Zma hx with hx | hx
  ·simp [hx]
  ·rcases Zmc hx with rfl | hx
   ·simp
   ·simp [hx]
 refine good_mid.2 ⟨(fits_append hl).2 ⟨hfa,⟨hb.trans hpb,?_,fun x hx => hok.mem x (hsub x hx)⟩,hfc⟩,fun y hy => ?_,?_⟩
 ·rw [hp']
  refine List.pairwise_append.2 ⟨h1,List.pairwise_cons.2 ⟨fun y hy => h4 y (List.mem_cons_of_mem _ hy),h7⟩,fun a ha b hb => h3 a ha b ?_⟩
  rcases Zmc hb with rfl | hb
  ·simp
  ·simp [hb]
 ·rcases Zma hy with hy | hy
  ·exact hmid y (List.mem_append_left _ hy)
  ·rcases Zmc hy with rfl | hy
   ·exact ⟨by rw [hp']; simp,fun z hz => (hmid p Si).kid z (hsub z hz)⟩
   ·exact hmid y (by simp [hy])
 ·have e1 : slots (SA ++ s :: SC) (PA ++ p :: PC) = (slots SA PA ++ nslots U (some u1.key)) ++ ((u1.kid.getD 0,(⟨some u1.key,some u2.key⟩ : Iv)) :: (u2.kid.getD 0,(⟨some u2.key,hiOf V s.2.hi⟩ : Iv)) :: (nslots V s.2.hi ++ slots SC PC)):=by
   rw [slots_append hl]
   show slots SA PA ++ (nslots p.its s.2.hi ++ slots SC PC) = _
   rw [hp,nslots_append]
   simp [nslots,hiOf]
  have e2 : slots (SA ++ s :: SC) (PA ++ p' :: PC) = (slots SA PA ++ nslots U (some u1.key)) ++ ((u1.kid.getD 0,(⟨some u1.key,hiOf V s.2.hi⟩ : Iv)) :: (nslots V s.2.hi ++ slots SC PC)):=by
   rw [slots_append hl]
   show slots SA PA ++ (nslots p'.its s.2.hi ++ slots SC PC) = _
   rw [hp',nslots_append]
   simp [nslots,hiOf]
  rw [e1] at hg
  rw [e2]
  refine join_good (s1:=(u1.kid.getD 0,⟨some u1.key,some u2.key⟩)) (s2:=(u2.kid.getD 0,⟨some u2.key,hiOf V s.2.hi⟩)) (k:=u2.key) hg (by rw [Zla,nslots_length]; omega) rfl rfl (fun l e => ?_) (fun q e => ?_) hn hnb
  ·obtain rfl:=Option.some.inj e
   exact kl_asymm (h4 u2 Si)
  ·cases V with
   | nil => exact (hok.mem u2 (by rw [hp]; simp)).2 q e
   | cons y V =>
    obtain rfl:=Option.some.inj e
    exact h6 y Si
structure SI (m : Nat) (c : Ctx) (top : Bool) (A : List Nd) (n : Nd) (C : List Nd) (low : List (List Nd)) : Prop where
 good : Good c.all ((A ++ n :: C) :: low)
 pos : c.SA.length = A.length
 wid : ∀ x ∈ A ++ C,lowB m top low.isEmpty ≤ x.its.length ∧ x.its.length ≤ m
 wn : lowB m top low.isEmpty ≤ n.its.length + 1 ∧ n.its.length ≤ m
 wlow : WLv m false low
theorem SI.fine {m : Nat} {key : ByteArray} {r : Slot} {rs : List Fr} {A C : List Nd} {n : Nd} {low : List (List Nd)} (hf : Frs key r rs) (hw : WF m rs) (h : SI m (ctxR r rs) rs.isEmpty A n C low) (hn : lowB m rs.isEmpty low.isEmpty ≤ n.its.length) : Good [r] (lvls rs ++ (A ++ n :: C) :: low) ∧ WLv m true (lvls rs ++ (A ++ n :: C) :: low):=by
 refine ⟨hf.glue Si h.good,wlv_glue hw (fun x hx => ?_) h.wlow⟩
 rcases Zma hx with hx | hx
 ·exact h.wid x (List.mem_append_left _ hx)
 ·rcases Zmc hx with rfl | hx
  ·exact ⟨hn,h.wn.2⟩
  ·exact h.wid x (List.mem_append_right _ hx)
structure Pick (m : Nat) (c : Ctx) (f : Fr) (L : List Nd) (U : List It) (u1 u2 : It) (V : List It) (A : List Nd) (n1 n2 : Nd) (C : List Nd) : Prop where
 its : f.n.its = U ++ u1 :: u2 :: V
 lvl : L = A ++ n1 :: n2 :: C
 pos : A.length = (slots c.SA f.A).length + U.length
 at_ : U.length = f.X.length - 1
 k1 : u1.kid = some n1.b
 k2 : u2.kid = some n2.b
 wid : ∀ x ∈ A ++ C,m / 2 ≤ x.its.length ∧ x.its.length ≤ m
 w1 : n1.its.length ≤ m
 w2 : n2.its.length ≤ m
 sum : m / 2 + m / 2 ≤ n1.its.length + n2.its.length + 1 ∧ n1.its.length + n2.its.length + 1 ≤ m + m / 2
 pos2 : 0 < n2.its.length
theorem SI.pick {m : Nat} {key : ByteArray} {c : Ctx} {f : Fr} {A C : List Nd} {n : Nd} {low : List (List Nd)} (hm : 4 ≤ m) (hf : FrOk key c f) (h : SI m (c.step f) false A n C low) (hn : n.its.length < m / 2) (h2 : 2 ≤ f.n.its.length) : ∃ U u1 u2 V A' n1 n2 C',Pick m c f (A ++ n :: C) U u1 u2 V A' n1 n2 C':=by
 have hlb : lowB m false low.isEmpty = m / 2:=rfl
 have hwn:=h.wn
 have hwid:=h.wid
 rw [hlb] at hwn hwid
 have hkid : ∀ x ∈ f.n.its,∀ b,b = x.kid.getD 0 → x.kid = some b:=fun x hx b hb => by
  obtain ⟨b',e⟩:=(hf.mid f.n (by simp [Fr.lvl])).kid x hx
  rw [e] at hb ⊢
  rw [hb]
  rfl
 obtain ⟨hfa,⟨hnb,hok⟩,hfc⟩:=(fits_append h.pos).1 (good_fits h.good)
 have hnk : f.it.kid = some n.b:=hkid f.it (by rw [hf.its]; simp) n.b hnb
 have hpos:=h.pos
 rcases List.eq_nil_or_concat f.X with hX | ⟨X',x0,hX⟩
 ·cases hY : f.Y with
  | nil => have:=hf.its; rw [hX,hY] at this; rw [this] at h2; simp at h2
  | cons y0 Y' =>
   have hSC : (c.step f).SC = (y0.kid.getD 0,⟨some y0.key,hiOf Y' c.s.2.hi⟩) :: (nslots Y' c.s.2.hi ++ slots c.SC f.C):=by
    show nslots f.Y c.s.2.hi ++ slots c.SC f.C = _
    rw [hY]
    rfl
   rw [hSC] at hfc
   match C,hfc,hwid with
   | c0 :: C',hfc,hwid =>
    have hc0:=hwid c0 Si
    have hits : f.n.its = [] ++ f.it :: y0 :: Y':=by rw [hf.its,hX,hY]
    refine ⟨[],f.it,y0,Y',A,n,c0,C',hits,rfl,?_,by rw [hX]; rfl,hnk,hkid y0 (by rw [hits]; simp) c0.b hfc.1.1,fun x hx => hwid x ?_,hwn.2,hc0.2,by omega,by omega⟩
    ·rw [← hpos]
     show (slots c.SA f.A ++ nslots f.X (some f.it.key)).length = _
     rw [hX]
     simp [nslots]
    ·rcases Zma hx with hx | hx
     ·exact List.mem_append_left _ hx
     ·exact List.mem_append_right _ (List.mem_cons_of_mem _ hx)
 ·rw [List.concat_eq_append] at hX
  have hSA : (c.step f).SA = (slots c.SA f.A ++ nslots X' (some x0.key)) ++ [(x0.kid.getD 0,⟨some x0.key,some f.it.key⟩)]:=by
   show slots c.SA f.A ++ nslots f.X (some f.it.key) = _
   rw [hX,nslots_append]
   simp [nslots,hiOf]
  rw [hSA] at hfa hpos
  rcases List.eq_nil_or_concat A with hA | ⟨A',a,hA⟩
  ·rw [hA] at hpos; simp at hpos
  ·rw [List.concat_eq_append] at hA
   subst hA
   have hl : (slots c.SA f.A ++ nslots X' (some x0.key)).length = A'.length:=by simp at hpos ⊢; omega
   obtain ⟨_,⟨hab,_⟩,_⟩:=(fits_append hl).1 hfa
   have ha:=hwid a Si
   have hits : f.n.its = X' ++ x0 :: f.it :: f.Y:=by rw [hf.its,hX]; simp
   refine ⟨X',x0,f.it,f.Y,A',a,n,C,hits,by simp,?_,by rw [hX]; simp,hkid x0 (by rw [hits]; simp) a.b hab,hnk,fun x hx => hwid x ?_,ha.2,hwn.2,by omega,by omega⟩
   ·rw [← hl,Zla,nslots_length]
   ·rcases Zma hx with hx | hx
    ·simp [hx]
    ·simp [hx]
theorem Pick.join {m : Nat} {key : ByteArray} {c : Ctx} {f : Fr} {top : Bool} {A0 C0 A C : List Nd} {n0 n1 n2 n p : Nd} {low : List (List Nd)} {U V : List It} {u1 u2 : It} (_hm : 4 ≤ m) (hf : FrOk key c f) (hw : ∀ x ∈ f.lvl,lowB m top false ≤ x.its.length ∧ x.its.length ≤ m) (h : SI m (c.step f) false A0 n0 C0 low) (hp : Pick m c f (A0 ++ n0 :: C0) U u1 u2 V A n1 n2 C) (hn : n.its = n1.its ++ n2.its) (hnb : n.b = n1.b) (hpi : p.its = U ++ u1 :: V) (hpb : p.b = f.n.b) (hle : n.its.length ≤ m) : SI m c top f.A p f.C ((A ++ n :: C) :: low):=by
 have hg:=h.good
 have hgu : Good c.all (f.lvl :: (A0 ++ n0 :: C0) :: low):=good_mid.2 ⟨hf.fits,hf.mid,by rw [Ctx.step_all _ f hf.fa.length hf.its]; exact hg⟩
 rw [hp.lvl] at hgu
 have hwp:=hw f.n (by simp [Fr.lvl])
 have hpl : f.n.its.length = p.its.length + 1:=by rw [hp.its,hpi]; simp; omega
 have hnl : n.its.length = n1.its.length + n2.its.length:=by rw [hn,Zla]
 have hs:=hp.sum
 refine ⟨join_two hgu hf.fa.length hp.its hpi hpb hp.pos hn hnb,hf.fa.length,fun x hx => hw x ?_,⟨?_,by omega⟩,⟨fun x hx => ?_,h.wlow⟩⟩
 ·rcases Zma hx with hx | hx
  ·exact List.mem_append_left _ hx
  ·exact List.mem_append_right _ (List.mem_cons_of_mem _ hx)
 ·rw [← hpl]; exact hwp.1
 ·show m / 2 ≤ _ ∧ _
  rcases Zma hx with hx | hx
  ·exact hp.wid x (List.mem_append_left _ hx)
  ·rcases Zmc hx with rfl | hx
   ·omega
   ·exact hp.wid x (List.mem_append_right _ hx)
theorem Pick.part {m : Nat} {key : ByteArray} {c : Ctx} {f : Fr} {top : Bool} {A0 C0 A C : List Nd} {n0 n1 n2 n a1 a2 p : Nd} {low : List (List Nd)} {U V : List It} {u1 u2 x : It} {r : List It} {vl : ByteArray} (hm : 4 ≤ m) (hf : FrOk key c f) (hw : ∀ x ∈ f.lvl,lowB m top false ≤ x.its.length ∧ x.its.length ≤ m) (h : SI m (c.step f) false A0 n0 C0 low) (hp : Pick m c f (A0 ++ n0 :: C0) U u1 u2 V A n1 n2 C) (hn : n.its = n1.its ++ n2.its) (hlt : m < n.its.length) (h1 : a1.its = n.its.take (n.its.length / 2)) (hdr : n.its.drop (n.its.length / 2) = x :: r) (h2 : a2.its = x :: r) (hb : a1.b = n1.b) (hpi : p.its = U ++ u1 :: ⟨x.key,vl,some a2.b⟩ :: V) (hpb : p.b = f.n.b) : SI m c top f.A p f.C ((A ++ a1 :: a2 :: C) :: low):=by
 have hg:=h.good
 have hgu : Good c.all (f.lvl :: (A0 ++ n0 :: C0) :: low):=good_mid.2 ⟨hf.fits,hf.mid,by rw [Ctx.step_all _ f hf.fa.length hf.its]; exact hg⟩
 rw [hp.lvl] at hgu
 have hwp:=hw f.n (by simp [Fr.lvl])
 have hpl : f.n.its.length = p.its.length:=by rw [hp.its,hpi]; simp
 have hnl : n.its.length = n1.its.length + n2.its.length:=by rw [hn,Zla]
 have hs:=hp.sum
 have hl1 : a1.its.length = n.its.length / 2:=by rw [h1,List.length_take]; omega
 have hl2 : a2.its.length = n.its.length - n.its.length / 2:=by rw [h2,← hdr,List.length_drop]
 have hne1 : a1.its ≠ []:=fun e => by rw [e,List.length_nil] at hl1; omega
 have hnn : n.its = a1.its ++ a2.its:=by rw [h1,h2,← hdr,List.take_append_drop]
 -- first joined,then parted
 have hj:=join_two (p':=⟨f.n.b,f.n.v,U ++ u1 :: V⟩) (n:=⟨n1.b,n.v,n.its⟩) hgu hf.fa.length hp.its rfl rfl hp.pos hn rfl
 obtain ⟨hfj,hmj,hgj⟩:=good_mid.1 hj
 obtain ⟨hfa,⟨hjb,hjok⟩,hfc⟩:=(fits_append hf.fa.length).1 hfj
 have ej : slots c.all (f.A ++ ⟨f.n.b,f.n.v,U ++ u1 :: V⟩ :: f.C) = (slots c.SA f.A ++ nslots U (some u1.key)) ++ ((u1.kid.getD 0,(⟨some u1.key,hiOf V c.s.2.hi⟩ : Iv)) :: (nslots V c.s.2.hi ++ slots c.SC f.C)):=by
  unfold Ctx.all
  rw [slots_append hf.fa.length]
  show slots c.SA f.A ++ (nslots (U ++ u1 :: V) c.s.2.hi ++ slots c.SC f.C) = _
  rw [nslots_append]
  simp [nslots,hiOf]
 have hgj' : Good ((slots c.SA f.A ++ nslots U (some u1.key)) ++ ((u1.kid.getD 0,(⟨some u1.key,hiOf V c.s.2.hi⟩ : Iv)) :: (nslots V c.s.2.hi ++ slots c.SC f.C))) ((A ++ ⟨n1.b,n.v,n.its⟩ :: C) :: low):=by
  rw [← ej]
  exact hgj
 have hlA : (slots c.SA f.A ++ nslots U (some u1.key)).length = A.length:=by rw [Zla,nslots_length,hp.pos]
 obtain ⟨_,⟨_,hnok⟩,_⟩:=(fits_append hlA).1 (good_fits hgj')
 have hsp:=split_good (n1:=a1) (n2:=a2) (x:=x) (r:=r) hgj' hlA hnn hne1 h2 hb
 have hsj:=hjok.srt
 obtain ⟨q1,q2,q3⟩:=List.pairwise_append.1 hsj
 obtain ⟨q4,q5⟩:=List.pairwise_cons.1 q2
 have hxlo : kl u1.key x.key = true:=by
  obtain ⟨t,T,e⟩:=List.exists_cons_of_ne_nil hne1
  have h1' : kl t.key u1.key = false:=(hnok.mem t (by show t ∈ n.its; rw [hnn,e]; simp)).1 _ rfl
  have hs':=hnok.srt
  have hs'' : Srt (a1.its ++ a2.its):=by rw [← hnn]; exact hs'
  exact kl_le_lt h1' ((List.pairwise_append.1 hs'').2.2 t (by rw [e]; simp) x (by rw [h2]; simp))
 have hxhi : inHi (hiOf V c.s.2.hi) x.key:=(hnok.mem x (by show x ∈ n.its; rw [hnn,h2]; simp)).2
 have hxV : ∀ y ∈ V,kl x.key y.key = true:=by
  cases V with
  | nil => intro y hy; simp at hy
  | cons y0 V =>
   intro y hy
   have h6:=hxhi y0.key rfl
   rcases Zmc hy with rfl | hy
   ·exact h6
   ·exact kl_trans h6 ((List.pairwise_cons.1 q5).1 y hy)
 refine ⟨good_mid.2 ⟨(fits_append hf.fa.length).2 ⟨hf.fa,⟨hpb.trans hf.nb,?_,fun y hy => ?_⟩,hf.fc⟩,mid_of hf (fun y hy => ?_) (by rw [hpi]; simp),?_⟩,hf.fa.length,fun y hy => hw y ?_,⟨by rw [← hpl]; exact Nat.le_succ_of_le hwp.1,by omega⟩,⟨fun y hy => ?_,h.wlow⟩⟩
 ·rw [hpi]
  refine List.pairwise_append.2 ⟨q1,List.pairwise_cons.2 ⟨fun y hy => ?_,List.pairwise_cons.2 ⟨hxV,q5⟩⟩,fun a ha b hb => ?_⟩
  ·rcases Zmc hy with rfl | hy
   ·exact hxlo
   ·exact q4 y hy
  ·have hab:=q3 a ha u1 Si
   rcases Zmc hb with rfl | hb
   ·exact hab
   ·rcases Zmc hb with rfl | hb
    ·exact kl_trans hab hxlo
    ·exact q3 a ha b (by simp [hb])
 ·rw [hpi] at hy
  rcases Zma hy with hy | hy
  ·exact hjok.mem y (by simp [hy])
  ·rcases Zmc hy with rfl | hy
   ·exact hjok.mem y Si
   ·rcases Zmc hy with rfl | hy
    ·refine ⟨fun l e => kl_le_trans ((hjok.mem u1 Si).1 l e) (kl_asymm hxlo),fun q e => ?_⟩
     cases V with
     | nil => exact hxhi q e
     | cons y0 V => exact kl_trans (hxV y0 Si) ((hjok.mem y0 Si).2 q e)
    ·exact hjok.mem y (by simp [hy])
 ·rw [hpi] at hy
  rw [hp.its]
  rcases Zma hy with hy | hy
  ·exact Or.inl ⟨y,by simp [hy],rfl⟩
  ·rcases Zmc hy with rfl | hy
   ·exact Or.inl ⟨y,by simp,rfl⟩
   ·rcases Zmc hy with rfl | hy
    ·exact Or.inr ⟨_,rfl⟩
    ·exact Or.inl ⟨y,by simp [hy],rfl⟩
 ·have e : slots c.all (f.A ++ p :: f.C) = (slots c.SA f.A ++ nslots U (some u1.key)) ++ ((u1.kid.getD 0,(⟨some u1.key,some x.key⟩ : Iv)) :: (a2.b,(⟨some x.key,hiOf V c.s.2.hi⟩ : Iv)) :: (nslots V c.s.2.hi ++ slots c.SC f.C)):=by
   unfold Ctx.all
   rw [slots_append hf.fa.length]
   show slots c.SA f.A ++ (nslots p.its c.s.2.hi ++ slots c.SC f.C) = _
   rw [hpi,nslots_append]
   simp [nslots,hiOf]
  rw [e]
  exact hsp
 ·rcases Zma hy with hy | hy
  ·exact List.mem_append_left _ hy
  ·exact List.mem_append_right _ (List.mem_cons_of_mem _ hy)
 ·show m / 2 ≤ _ ∧ _
  rcases Zma hy with hy | hy
  ·exact hp.wid y (List.mem_append_left _ hy)
  ·rcases Zmc hy with rfl | hy
   ·rw [hl1]; omega
   ·rcases Zmc hy with rfl | hy
    ·rw [hl2]; omega
    ·exact hp.wid y (List.mem_append_right _ hy)
end BB
end Go.Proofs.YtmmmkjhpmlfopaaGreatDoor
