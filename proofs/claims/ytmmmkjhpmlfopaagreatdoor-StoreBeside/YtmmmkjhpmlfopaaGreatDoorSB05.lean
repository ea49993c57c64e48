/- ZM84 ZB7 ZB11 -/
import Derived.Test.YtmmmkjhpmlfopaaGreatDoorSB04
set_option maxHeartbeats 8000000
set_option maxRecDepth 100000
namespace Go.Proofs.YtmmmkjhpmlfopaaGreatDoor
open Go.RowKit
namespace BB
def lowK (key k : ByteArray) : ByteArray:=if kl key k then key else k
def lowIt (key : ByteArray) (i : It) : It:=⟨lowK key i.key,i.val,i.kid⟩
def Ctx.lower (key : ByteArray) (c : Ctx) : Ctx:=⟨c.SA,(c.s.1,⟨c.s.2.lo.map (lowK key),c.s.2.hi⟩),c.SC⟩
theorem lowK_le (key k : ByteArray) : kl k (lowK key k) = false:=by
 unfold lowK
 split
 ·rename_i h; exact kl_asymm h
 ·exact kl_irrefl _
theorem lowK_le' (key k : ByteArray) : kl key (lowK key k) = false:=by
 unfold lowK
 split
 ·exact kl_irrefl _
 ·rename_i h; simpa using h
theorem lowK_id {key k : ByteArray} (h : kl key k = false) : lowK key k = k:=by unfold lowK; simp [h]
theorem inLo_lower {key k : ByteArray} {lo : Option ByteArray} (h : inLo lo k) : inLo (lo.map (lowK key)) k:=fun l e => by
 cases lo with
 | none => cases e
 | some l0 =>
  obtain rfl:=Option.some.inj e
  exact kl_le_trans (lowK_le key l0) (h l0 rfl)
theorem inLo_lower_key (key : ByteArray) (lo : Option ByteArray) : inLo (lo.map (lowK key)) key:=fun l e => by
 cases lo with
 | none => cases e
 | some l0 =>
  obtain rfl:=Option.some.inj e
  exact lowK_le' key l0
theorem inLo_lowK {key k : ByteArray} {lo : Option ByteArray} (h : inLo lo k) : inLo (lo.map (lowK key)) (lowK key k):=by
 unfold lowK
 split
 ·exact inLo_lower_key key lo
 ·exact inLo_lower h
def lowB (m : Nat) (top last : Bool) : Nat:=if top then (if last then 0 else 2) else m / 2
def WLv (m : Nat) (top : Bool) : List (List Nd) → Prop
 | [] => True
 | L :: r => (∀ n ∈ L,lowB m top r.isEmpty ≤ n.its.length ∧ n.its.length ≤ m) ∧ WLv m false r
def WF (m : Nat) : List Fr → Prop
 | [] => True
 | f :: fs => (∀ n ∈ f.lvl,lowB m fs.isEmpty false ≤ n.its.length ∧ n.its.length ≤ m) ∧ WF m fs
def items (ls : List (List Nd)) : List It:=(ls.getLast?.getD []).flatMap (·.its)
theorem items_cons (L M : List Nd) (r : List (List Nd)) : items (L :: M :: r) = items (M :: r):=by simp [items]
theorem items_one (L : List Nd) : items [L] = L.flatMap (·.its):=by simp [items]
theorem items_append (a : List (List Nd)) {b : List (List Nd)} (hb : b ≠ []) : items (a ++ b) = items b:=by
 unfold items
 rw [List.getLast?_append]
 obtain ⟨x,hx⟩:=Option.ne_none_iff_exists'.1 (fun e => hb (List.getLast?_eq_none_iff.1 e))
 rw [hx]
 rfl
theorem items_split (A C : List Nd) (n n1 n2 : Nd) (low : List (List Nd)) (h : n.its = n1.its ++ n2.its) : items ((A ++ n1 :: n2 :: C) :: low) = items ((A ++ n :: C) :: low):=by
 cases low with
 | nil => simp [items_one,h]
 | cons M r => rw [items_cons,items_cons]
structure GI (key : ByteArray) (m : Nat) (c : Ctx) (top : Bool) (A : List Nd) (n : Nd) (C : List Nd) (low : List (List Nd)) : Prop where
 good : Good (c.lower key).all ((A ++ n :: C) :: low)
 pos : c.SA.length = A.length
 wid : ∀ x ∈ A ++ C,lowB m top low.isEmpty ≤ x.its.length ∧ x.its.length ≤ m
 wn : lowB m top low.isEmpty ≤ n.its.length ∧ n.its.length ≤ m + 1
 wlow : WLv m false low
theorem good_fits {S : List Slot} {L : List Nd} {low : List (List Nd)} (h : Good S (L :: low)) : Fits S L:=by
 cases low with
 | nil => exact (good_leaf.1 h).1
 | cons M r => exact (good_mid.1 h).1
theorem GI.node {key : ByteArray} {m : Nat} {c : Ctx} {top : Bool} {A C : List Nd} {n : Nd} {low : List (List Nd)} (h : GI key m c top A n C low) : n.b = c.s.1 ∧ NodeOk n (c.lower key).s.2:=((fits_append h.pos).1 (good_fits h.good)).2.1
theorem split_good {SA SC : List Slot} {s : Slot} {A C : List Nd} {n n1 n2 : Nd} {low : List (List Nd)} {x : It} {r : List It} (h : Good (SA ++ s :: SC) ((A ++ n :: C) :: low)) (hl : SA.length = A.length) (hn : n.its = n1.its ++ n2.its) (h1 : n1.its ≠ []) (h2 : n2.its = x :: r) (hb : n1.b = n.b) :
  Good (SA ++ (s.1,⟨s.2.lo,some x.key⟩) :: (n2.b,⟨some x.key,s.2.hi⟩) :: SC) ((A ++ n1 :: n2 :: C) :: low):=by
 obtain ⟨hfa,⟨hnb,hok⟩,hfc⟩:=(fits_append hl).1 (good_fits h)
 have hs:=hok.srt
 rw [hn] at hs
 obtain ⟨hs1,hs2,hs12⟩:=List.pairwise_append.1 hs
 have hk1 : NodeOk n1 ⟨s.2.lo,some x.key⟩:=⟨hs1,fun y hy => ⟨(hok.mem y (by rw [hn]; exact List.mem_append_left _ hy)).1,fun q e => by
  obtain rfl:=Option.some.inj e
  exact hs12 y hy x (by rw [h2]; simp)⟩⟩
 have hk2 : NodeOk n2 ⟨some x.key,s.2.hi⟩:=⟨hs2,fun y hy => ⟨fun q e => by
  obtain rfl:=Option.some.inj e
  rw [h2] at hs2 hy
  rcases Zmc hy with rfl | hy
  ·exact kl_irrefl _
  ·exact kl_asymm ((List.pairwise_cons.1 hs2).1 y hy),(hok.mem y (by rw [hn]; exact List.mem_append_right _ hy)).2⟩⟩
 have hf : Fits (SA ++ (s.1,⟨s.2.lo,some x.key⟩) :: (n2.b,⟨some x.key,s.2.hi⟩) :: SC) (A ++ n1 :: n2 :: C):=(fits_append hl).2 ⟨hfa,⟨hb.trans hnb,hk1⟩,⟨rfl,hk2⟩,hfc⟩
 cases low with
 | nil =>
  have hlf:=(good_leaf.1 h).2
  refine good_leaf.2 ⟨hf,fun y hy => ?_⟩
  have hn0:=hlf n Si
  rcases Zma hy with hy | hy
  ·exact hlf y (List.mem_append_left _ hy)
  ·rcases Zmc hy with rfl | hy
   ·exact fun z hz => hn0 z (by rw [hn]; exact List.mem_append_left _ hz)
   ·rcases Zmc hy with rfl | hy
    ·exact fun z hz => hn0 z (by rw [hn]; exact List.mem_append_right _ hz)
    ·exact hlf y (List.mem_append_right _ (List.mem_cons_of_mem _ hy))
 | cons M q =>
  obtain ⟨_,hmid,hg⟩:=good_mid.1 h
  have hn0:=hmid n Si
  refine good_mid.2 ⟨hf,fun y hy => ?_,?_⟩
  ·rcases Zma hy with hy | hy
   ·exact hmid y (List.mem_append_left _ hy)
   ·rcases Zmc hy with rfl | hy
    ·exact ⟨h1,fun z hz => hn0.kid z (by rw [hn]; exact List.mem_append_left _ hz)⟩
    ·rcases Zmc hy with rfl | hy
     ·exact ⟨by rw [h2]; simp,fun z hz => hn0.kid z (by rw [hn]; exact List.mem_append_right _ hz)⟩
     ·exact hmid y (List.mem_append_right _ (List.mem_cons_of_mem _ hy))
  ·have e : slots (SA ++ (s.1,(⟨s.2.lo,some x.key⟩ : Iv)) :: (n2.b,(⟨some x.key,s.2.hi⟩ : Iv)) :: SC) (A ++ n1 :: n2 :: C) = slots (SA ++ s :: SC) (A ++ n :: C):=by
    rw [slots_append hl,slots_append hl]
    show slots SA A ++ (nslots n1.its (some x.key) ++ (nslots n2.its s.2.hi ++ slots SC C)) = slots SA A ++ (nslots n.its s.2.hi ++ slots SC C)
    rw [hn,nslots_append,h2,Zas]
    rfl
   rw [e]
   exact hg
theorem low_same {key : ByteArray} {c : Ctx} {f : Fr} (hf : FrOk key c f) : f.X = [] ∨ lowK key f.it.key = f.it.key:=hf.ahead.imp id lowK_id
theorem low_sorted {key : ByteArray} {c : Ctx} {f : Fr} (hf : FrOk key c f) : Srt (f.X ++ lowIt key f.it :: f.Y):=by
 have hs:=hf.ok.srt
 rw [hf.its] at hs
 obtain ⟨h1,h2,h3⟩:=List.pairwise_append.1 hs
 obtain ⟨h4,h5⟩:=List.pairwise_cons.1 h2
 refine List.pairwise_append.2 ⟨h1,List.pairwise_cons.2 ⟨fun y hy => ?_,h5⟩,fun a ha b hb => ?_⟩
 ·exact kl_le_lt (lowK_le key f.it.key) (h4 y hy)
 ·rcases low_same hf with e | e
  ·rw [e] at ha; simp at ha
  ·rcases Zmc hb with rfl | hb
   ·show kl a.key (lowK key f.it.key) = true
    rw [e]
    exact h3 a ha _ Si
   ·exact h3 a ha _ (by simp [hb])
theorem low_mem {key : ByteArray} {c : Ctx} {f : Fr} (hf : FrOk key c f) (_hl : Loc key c) : ∀ x ∈ f.X ++ lowIt key f.it :: f.Y,inIv (c.lower key).s.2 x.key:=by
 have hm:=hf.ok.mem
 rw [hf.its] at hm
 intro x hx
 rcases Zma hx with hx | hx
 ·exact ⟨inLo_lower (hm x (by simp [hx])).1,(hm x (by simp [hx])).2⟩
 ·rcases Zmc hx with rfl | hx
  ·refine ⟨inLo_lowK (hm f.it Si).1,fun h e => ?_⟩
   show kl (lowK key f.it.key) h = true
   exact kl_le_lt (lowK_le key f.it.key) ((hm f.it Si).2 h e)
  ·exact ⟨inLo_lower (hm x (by simp [hx])).1,(hm x (by simp [hx])).2⟩
theorem lower_step {key : ByteArray} {c : Ctx} {f : Fr} (hf : FrOk key c f) : (c.step f).lower key = (c.lower key).step ⟨f.A,f.n,f.C,f.X,lowIt key f.it,f.Y⟩:=by
 unfold Ctx.lower Ctx.step
 have e : nslots f.X (some f.it.key) = nslots f.X (some (lowK key f.it.key)):=by
  rcases low_same hf with e | e
  ·rw [e]; rfl
  ·rw [e]
 simp only [e]
 rfl
theorem mid_of {key : ByteArray} {c : Ctx} {f : Fr} (hf : FrOk key c f) {p : Nd} (hk : ∀ x ∈ p.its,(∃ y ∈ f.n.its,x.kid = y.kid) ∨ ∃ b,x.kid = some b) (hne : p.its ≠ []) : ∀ x ∈ f.A ++ p :: f.C,MidN x:=fun x hx => by
 rcases Zma hx with hx | hx
 ·exact hf.mid x (List.mem_append_left _ hx)
 ·rcases Zmc hx with rfl | hx
  ·refine ⟨hne,fun y hy => ?_⟩
   rcases hk y hy with ⟨z,hz,e⟩ | h
   ·rw [e]; exact (hf.mid f.n (by simp [Fr.lvl])).kid z hz
   ·exact h
  ·exact hf.mid x (List.mem_append_right _ (List.mem_cons_of_mem _ hx))
theorem GI.keep {key : ByteArray} {m : Nat} {c : Ctx} {f : Fr} {top : Bool} {A C : List Nd} {n p : Nd} {low : List (List Nd)} (hf : FrOk key c f) (hl : Loc key c) (hw : ∀ x ∈ f.lvl,lowB m top false ≤ x.its.length ∧ x.its.length ≤ m) (h : GI key m (c.step f) false A n C low) (hn : n.its.length ≤ m) (hp : p.b = f.n.b) (hi : p.its = f.X ++ lowIt key f.it :: f.Y) :
  GI key m c top f.A p f.C ((A ++ n :: C) :: low):=by
 have hlen : p.its.length = f.n.its.length:=by rw [hi,hf.its]; simp
 have hwn:=hw f.n (by simp [Fr.lvl])
 refine ⟨good_mid.2 ⟨(fits_append hf.fa.length).2 ⟨hf.fa,⟨hp.trans hf.nb,⟨?_,?_⟩⟩,hf.fc⟩,mid_of hf (fun x hx => Or.inl ?_) (by rw [hi]; simp),?_⟩,hf.fa.length,fun x hx => ?_,⟨by rw [hlen]; exact hwn.1,by omega⟩,⟨fun x hx => ?_,h.wlow⟩⟩
 ·rw [hi]; exact low_sorted hf
 ·rw [hi]; exact low_mem hf hl
 ·rw [hi] at hx
  rw [hf.its]
  rcases Zma hx with hx | hx
  ·exact ⟨x,by simp [hx],rfl⟩
  ·rcases Zmc hx with rfl | hx
   ·exact ⟨f.it,by simp,rfl⟩
   ·exact ⟨x,by simp [hx],rfl⟩
 ·have hg:=h.good
  rw [lower_step hf] at hg
  have:=Ctx.step_all (c.lower key) ⟨f.A,p,f.C,f.X,lowIt key f.it,f.Y⟩ hf.fa.length hi
  show Good (slots (c.lower key).all (f.A ++ p :: f.C)) _
  rw [show f.A ++ p :: f.C = Fr.lvl ⟨f.A,p,f.C,f.X,lowIt key f.it,f.Y⟩ from rfl,this]
  exact hg
 ·refine hw x ?_
  rcases Zma hx with hx | hx
  ·exact List.mem_append_left _ hx
  ·exact List.mem_append_right _ (List.mem_cons_of_mem _ hx)
 ·rcases Zma hx with hx | hx
  ·exact h.wid x (List.mem_append_left _ hx)
  ·rcases Zmc hx with rfl | hx
   ·exact ⟨h.wn.1,hn⟩
   ·exact h.wid x (List.mem_append_right _ hx)
theorem GI.split {key : ByteArray} {m : Nat} {c : Ctx} {f : Fr} {top : Bool} {A C : List Nd} {n n1 n2 p : Nd} {low : List (List Nd)} {x : It} {r : List It} {vl : ByteArray} (hf : FrOk key c f) (hl : Loc key c) (hw : ∀ y ∈ f.A ++ f.C,lowB m top false ≤ y.its.length ∧ y.its.length ≤ m) (hwn : lowB m top false ≤ f.n.its.length + 1 ∧ f.n.its.length ≤ m) (h : GI key m (c.step f) false A n C low) (hm : 1 ≤ m) (hn : m < n.its.length) (hn1 : n1.its = n.its.take (n.its.length / 2)) (hn2 : n.its.drop (n.its.length / 2) = x :: r) (hn3 : n2.its = x :: r) (hb : n1.b = n.b) (hp : p.b = f.n.b) (hi : p.its = f.X ++ lowIt key f.it :: ⟨x.key,vl,some n2.b⟩ :: f.Y) :
  GI key m c top f.A p f.C ((A ++ n1 :: n2 :: C) :: low):=by
 have hlen : p.its.length = f.n.its.length + 1:=by rw [hi,hf.its]; simp; omega
 have hnn : n.its = n1.its ++ n2.its:=by rw [hn1,hn3,← hn2,List.take_append_drop]
 have hl1 : n1.its.length = n.its.length / 2:=by rw [hn1,List.length_take]; omega
 have hl2 : n2.its.length = n.its.length - n.its.length / 2:=by rw [hn3,← hn2,List.length_drop]
 have hne1 : n1.its ≠ []:=fun e => by rw [e] at hl1; simp at hl1; omega
 have hwn':=h.wn
 obtain ⟨_,hok⟩:=h.node
 have hokm : inIv ((c.step f).lower key).s.2 x.key:=hok.mem x (by rw [hnn,hn3]; simp)
 have hxlo : kl (lowK key f.it.key) x.key = true:=by
  obtain ⟨t,T,e⟩:=List.exists_cons_of_ne_nil hne1
  have h1 : kl t.key (lowK key f.it.key) = false:=(hok.mem t (by rw [hnn,e]; simp)).1 _ rfl
  have hs:=hok.srt
  rw [hnn] at hs
  exact kl_le_lt h1 ((List.pairwise_append.1 hs).2.2 t (by rw [e]; simp) x (by rw [hn3]; simp))
 have hxhi : inHi (hiOf f.Y c.s.2.hi) x.key:=hokm.2
 have hsl:=low_sorted hf
 obtain ⟨h1,h2,h3⟩:=List.pairwise_append.1 hsl
 obtain ⟨h4,h5⟩:=List.pairwise_cons.1 h2
 have hxY : ∀ y ∈ f.Y,kl x.key y.key = true:=by
  cases hY : f.Y with
  | nil => intro y hy; simp at hy
  | cons y0 Y =>
   intro y hy
   rw [hY] at hxhi h5
   have h6:=hxhi y0.key rfl
   rcases Zmc hy with rfl | hy
   ·exact h6
   ·exact kl_trans h6 ((List.pairwise_cons.1 h5).1 y hy)
 refine ⟨good_mid.2 ⟨(fits_append hf.fa.length).2 ⟨hf.fa,⟨hp.trans hf.nb,⟨?_,?_⟩⟩,hf.fc⟩,mid_of hf (fun y hy => ?_) (by rw [hi]; simp),?_⟩,hf.fa.length,hw,⟨by rw [hlen]; exact hwn.1,by omega⟩,⟨fun y hy => ?_,h.wlow⟩⟩
 ·rw [hi]
  refine List.pairwise_append.2 ⟨h1,List.pairwise_cons.2 ⟨fun y hy => ?_,List.pairwise_cons.2 ⟨hxY,h5⟩⟩,fun a ha b hb => ?_⟩
  ·rcases Zmc hy with rfl | hy
   ·exact hxlo
   ·exact h4 y hy
  ·have hab:=h3 a ha (lowIt key f.it) Si
   rcases Zmc hb with rfl | hb
   ·exact hab
   ·rcases Zmc hb with rfl | hb
    ·exact kl_trans hab hxlo
    ·exact h3 a ha b (by simp [hb])
 ·have hm:=low_mem hf hl
  rw [hi]
  intro y hy
  rcases Zma hy with hy | hy
  ·exact hm y (by simp [hy])
  ·rcases Zmc hy with rfl | hy
   ·exact hm _ Si
   ·rcases Zmc hy with rfl | hy
    ·refine ⟨fun l e => ?_,fun q e => ?_⟩
     ·exact kl_le_trans ((hm (lowIt key f.it) Si).1 l e) (kl_asymm hxlo)
     ·cases hY : f.Y with
      | nil => rw [hY] at hxhi; exact hxhi q e
      | cons y0 Y => exact kl_trans (hxY y0 (by rw [hY]; simp)) ((hm y0 (by rw [hY]; simp)).2 q e)
    ·exact hm y (by simp [hy])
 ·rw [hi] at hy
  rw [hf.its]
  rcases Zma hy with hy | hy
  ·exact Or.inl ⟨y,by simp [hy],rfl⟩
  ·rcases Zmc hy with rfl | hy
   ·exact Or.inl ⟨f.it,by simp,rfl⟩
   ·rcases Zmc hy with rfl | hy
    ·exact Or.inr ⟨_,rfl⟩
    ·exact Or.inl ⟨y,by simp [hy],rfl⟩
 ·have hg:=h.good
  rw [lower_step hf] at hg
  have e : slots (c.lower key).all (f.A ++ p :: f.C) = (slots c.SA f.A ++ nslots f.X (some (lowK key f.it.key))) ++ ((f.it.kid.getD 0,(⟨some (lowK key f.it.key),some x.key⟩ : Iv)) :: (n2.b,(⟨some x.key,hiOf f.Y c.s.2.hi⟩ : Iv)) :: (nslots f.Y c.s.2.hi ++ slots c.SC f.C)):=by
   unfold Ctx.all Ctx.lower
   rw [slots_append hf.fa.length]
   show slots c.SA f.A ++ (nslots p.its c.s.2.hi ++ slots c.SC f.C) = _
   rw [hi,nslots_append]
   simp [nslots,hiOf,lowIt]
  rw [e]
  exact split_good (s:=(f.it.kid.getD 0,⟨some (lowK key f.it.key),hiOf f.Y c.s.2.hi⟩)) hg (by have:=h.pos; unfold Ctx.step at this; simpa [nslots_length] using this) hnn hne1 hn3 hb
 ·rcases Zma hy with hy | hy
  ·exact h.wid y (List.mem_append_left _ hy)
  ·have hlb : lowB m false low.isEmpty = m / 2:=rfl
   rcases Zmc hy with rfl | hy
   ·rw [hlb,hl1]; omega
   ·rcases Zmc hy with rfl | hy
    ·rw [hlb,hl2]; omega
    ·exact h.wid y (List.mem_append_right _ hy)
def FitP (w : World) (Z : Nat → Prop) (p k : Nd) (px kx : Option Nat) (R : List NX) (i m : Nat) (e : Ending) (w' : World) : Prop :=
 e = .returned (.tuple #[]) ∧ Only Z w w' ∧ ((k.its.length ≤ m ∧ Hp w' Z ((p,px) :: (k,kx) :: R)) ∨
  (m < k.its.length ∧ ∃ v1 v2 v3 nb x r,k.its.drop (k.its.length / 2) = x :: r ∧ w.heap.size ≤ nb ∧ Hp w' Z ((⟨p.b,v1,p.its.take (i + 1) ++ ⟨x.key,⟨#[]⟩,some nb⟩ :: p.its.drop (i + 1)⟩,px) :: (⟨k.b,v2,k.its.take (k.its.length / 2)⟩,some nb) :: (⟨nb,v3,x :: r⟩,kx) :: R)))
theorem perm2 (a b : NX) (R : List NX) : (a :: b :: R).Perm (b :: a :: R):=List.Perm.swap ..
theorem fit_any (w : World) (Z : Nat → Prop) (p k : Nd) (px kx : Option Nat) (R : List NX) (i m : Nat) (h : Hp w Z ((p,px) :: (k,kx) :: R)) (hZ : ∀ k,w.heap.size ≤ k → Z k) (hi : i < p.its.length) (hk : (p.its[i]).kid = some k.b) (hpl : p.its.length ≤ 100000) (hkl : k.its.length ≤ 100000) (hm : 1 ≤ m) :
  Calls Tryz.prog 158 #[.pointer (some ⟨p.b,0,none⟩),.int .i64 (i : Int),.int .i64 (m : Int)] w (FitP w Z p k px kx R i m):=by
 have HH : Hid (Hp w Z ((p,px) :: (k,kx) :: R)):=h
 have HZ : Hid (∀ k,w.heap.size ≤ k → Z k):=hZ
 have hp:=h.head
 have hkn:=h.tail.head
 simp only at hp hkn
 have p0:=hp.nc.c0
 obtain ⟨gp,capp,ep,_,_,hgp,hcp,_⟩:=irow_at hp.row Om
 rw [ep] at p0
 have pk:=(hcp i hi).2.2
 rw [hk] at pk
 simp only [Option.map_some] at pk
 have k0:=hkn.nc.c0
 obtain ⟨pk1,capk,ek,hck,hcm⟩:=irow_form hkn.row
 rw [ek] at k0
 obtain ⟨np,hnp⟩:=Vx p.its.length
 obtain ⟨nk,hnk⟩:=Vx k.its.length
 obtain ⟨bp,hbp⟩:=Vx p.b
 obtain ⟨bk,hbk⟩:=Vx k.b
 have HN : Hid (p.its.length = np ∧ k.its.length = nk ∧ p.b = bp ∧ k.b = bk):=⟨hnp,hnk,hbp,hbk⟩
 have HEP : Hid (p.v = .slice (some ⟨gp,0,none⟩) np capp):=by rw [← hnp]; exact ep
 have HEK : Hid (k.v = .slice pk1 nk capk):=by rw [← hnk]; exact ek
 rw [hnp,hbp] at p0
 rw [hbk] at pk
 rw [hnk,hbk] at k0
 rw [hnp] at hi hpl
 rw [hnk] at hkl hck
 rw [hbp]
 have hii : (i : Int) < (np : Int):=by omega
 clear h hZ hp hkn hcp ep ek hnp hnk hbp hbk hk
 by_cases hle : nk ≤ m
 ·have hlei : (nk : Int) ≤ (m : Int):=by omega
  go_enter Tryz.func158,Tryz.ntmps158
  go_wp2
  go_end0
  exact ⟨rfl,Only.refl _ _,Or.inl ⟨by rw [HN.out.2.1]; exact hle,HH.out⟩⟩
 ·have hlei : ¬ (nk : Int) ≤ (m : Int):=by omega
  have hkrow : w.ownsRow 0 195 3 (.slice pk1 nk capk) nk (ic k.its):=by
   have:=HH.out.tail.head.row
   simp only [HEK.out,HN.out.2.1] at this
   exact this
  obtain ⟨gk,rfl⟩ : ∃ gk,pk1 = some ⟨gk,0,none⟩:=by
   obtain ⟨_,⟨_,h0⟩ | ⟨g,cap',cur,e,_⟩⟩:=hkrow
   ·omega
   ·simp only [Value.slice.injEq] at e
    exact ⟨g,e.1⟩
  obtain ⟨H,hH⟩:=Vx (nk / 2)
  have hHi : (nk : Int) / 2 = (H : Int):=by omega
  have hH1 : 0 < H:=by omega
  have hH2 : H < nk:=by omega
  have HH2 : Hid (k.its.length / 2 = H):=by rw [HN.out.2.1]; exact hH
  obtain ⟨q,hq⟩ : ∃ q : Option Addr,(kx.map fun b => (⟨b,0,none⟩ : Addr)) = q:=⟨_,rfl⟩
  have HQ : Hid (pOf kx = q):=hq
  have k1 : w.cell? ⟨bk,1,none⟩ = some (.pointer q):=by
   have:=HH.out.tail.head.nc.c1
   simp only [HN.out.2.2.2,hq] at this
   exact this
  obtain ⟨x,r,hxr⟩ : ∃ x r,k.its.drop H = x :: r:=by
   match hd : k.its.drop H with
   | [] =>
    have:=congrArg List.length hd
    rw [List.length_drop,HN.out.2.1] at this
    simp at this
    omega
   | x :: r => exact ⟨x,r,rfl⟩
  have hdl : (k.its.drop H).length = nk - H:=by rw [List.length_drop,HN.out.2.1]
  have htl : (k.its.take H).length = H:=by rw [List.length_take,HN.out.2.1]; omega
  have HCL : Hid (∀ W,Below w.heap.size w W → Calls Tryz.prog 218 #[.slice (some ⟨gk,H * 3,none⟩) (nk - H) (capk - H)] W fun e w' => ∃ g cap,e = .returned (.slice (some ⟨g,0,none⟩) (nk - H) cap) ∧ w'.ownsRow W.heap.size 195 3 (.slice (some ⟨g,0,none⟩) (nk - H) cap) (nk - H) (ic (x :: r)) ∧ Below W.heap.size W w'):=fun W hb => by
   have:=cloneI_any W gk (H * 3) (capk - H) (k.its.drop H) Om Om (fun j u hj => by
    have hj2:=(List.getElem?_eq_some_iff.1 hj).1
    rw [ic_length,hdl] at hj2
    refine cell_later hb ?_
    rw [hkrow.cellAt _ Om,← ic_drop k.its H j (by rw [HN.out.2.1]; omega)]
    exact hj)
   rw [hdl,hxr] at this
   exact this
  have HDE : Hid (∀ W,W.ownsRow 0 195 3 (.slice (some ⟨gk,0,none⟩) nk capk) nk (ic k.its) → Calls Tryz.prog 119 #[.slice (some ⟨gk,0,none⟩) nk capk,.int .i64 (H : Int),.int .i64 (nk : Int)] W fun e w' => e = .returned (.slice (some ⟨gk,0,none⟩) H capk) ∧ w'.ownsRow 0 195 3 (.slice (some ⟨gk,0,none⟩) H capk) H (ic (k.its.take H)) ∧ Only (fun k => k = gk) W w'):=fun W hW => by
   have:=delete_any W gk capk k.its H nk (by rw [HN.out.2.1]; exact hW) hH2 (by rw [HN.out.2.1]; exact Nat.le_refl _) (by rw [HN.out.2.1]; omega)
   rw [HN.out.2.1,Nat.sub_self,Nat.add_zero,List.drop_eq_nil_of_le (by rw [HN.out.2.1]; exact Nat.le_refl _),List.append_nil] at this
   exact this
  have hH3 : (0 : Int) ≤ (H : Int):=by omega
  have hH4 : (H : Int) ≤ (nk : Int):=by omega
  have hH5 : ¬ capk = H:=by omega
  have HXR : Hid (k.its.drop H = x :: r):=hxr
  have HTL : Hid ((k.its.take H).length = H):=htl
  have hbkw : bk < w.heap.size:=by rw [← HN.out.2.2.2]; exact HH.out.tail.head.lt
  clear hxr hdl htl hq hH hkrow
  go_enter Tryz.func158,Tryz.ntmps158
  go_wp2
  go_region_held3 (fun w' => w'.cell? ⟨bk,0,none⟩ = some (.slice (some ⟨gk,0,none⟩) nk capk) ∧ w'.cell? ⟨bk,1,none⟩ = some (.pointer q)) (go_simp) (first
   | (go_at_call 218; refine (HCL.out _ ((Bxr _ _).drew)).mono ?_; rintro e w1 ⟨g1,cap1,rfl,hown1,hb1⟩; (have hb1:=Below.trans ((Below.refl w.heap.size w).drew) hb1); (have z1 : bk < w1.heap.size:=Zll hbkw hb1.size); (have z2 : ¬ bk = w1.heap.size:=by omega); (have s0:=cell_later hb1 k0); (have s1:=cell_later hb1 k1)))
  all_goals
   have hlen : (x :: r).length = nk - H:=by rw [← HXR.out,List.length_drop,HN.out.2.1]
   have hP2:=HH.out.new (v:=.slice (some ⟨g1,0,none⟩) (nk - H) cap1) (its:=x :: r) (B:=w.heap.size) HZ.out hb1 (by rw [hlen]; exact hown1) Zlr kx
   rw [HQ.out] at hP2
   obtain ⟨nb,hnb⟩:=Vx w1.heap.size
   obtain ⟨W2,hW2⟩:=Vx (w1.alloc (.cells #[.slice (some ⟨g1,0,none⟩) (nk - H) cap1,.pointer q] 198))
   have HB2 : Hid (Below w.heap.size w W2):=by rw [← hW2]; exact hb1.alloc hb1.size _
   rw [hW2,hnb] at hP2
   rw [hW2,hnb]
   have HP2 : Hid (Hp W2 Z ((⟨nb,.slice (some ⟨g1,0,none⟩) (nk - H) cap1,x :: r⟩,kx) :: (p,px) :: (k,kx) :: R)):=hP2
   have HNB : Hid (w.heap.size ≤ nb):=by rw [← hnb]; exact hb1.size
   have HZ2 : Hid (∀ k,W2.heap.size ≤ k → Z k):=fun k hk => HZ.out k (Zlt HB2.out.size hk)
   have hK2:=HP2.out.tail.tail.head
   have HKR : Hid (W2.ownsRow 0 195 3 (.slice (some ⟨gk,0,none⟩) nk capk) nk (ic k.its)):=by
    have:=hK2.row
    simp only [HEK.out,HN.out.2.1] at this
    exact this
   have t0 : W2.cell? ⟨bk,0,none⟩ = some (.slice (some ⟨gk,0,none⟩) nk capk):=by
    have:=hK2.nc.c0
    simp only [HEK.out,HN.out.2.2.2] at this
    exact this
   have tf : W2.frozen? ⟨bk,0,none⟩ = false:=by
    have:=hK2.nc.fz 0
    simp only [HN.out.2.2.2] at this
    exact this
   have hbg : bk ≠ gk:=fun e => by
    have:=ndat_ne hK2 hK2
    simp only [HEK.out,HN.out.2.2.2] at this
    exact this (by rw [e]; rfl)
   have hbk2 : bk < W2.heap.size:=by have:=hK2.lt; simp only [HN.out.2.2.2] at this; exact this
   clear hP2 hnb hW2 hown1 hb1 z1 z2 s0 s1 hlen hK2 k0 k1 p0 pk
   go_wp2
   go_region_law (first
    | (go_simp; go_at_call 119; refine (HDE.out W2.drew (own_kept HKR.out fun _ _ => rfl)).mono ?_; rintro e w3 ⟨rfl,hown3,ho3⟩; (have hbl:=ho3.block bk hbk2 hbg); (have s0:=cell_at hbl t0); (have sf : w3.frozen? ⟨bk,0,none⟩ = false:=(World.frozen?_of_block (a:=⟨bk,0,none⟩) hbl).trans tf)))
   all_goals
    have hpe : ((⟨nb,.slice (some ⟨g1,0,none⟩) (nk - H) cap1,x :: r⟩,kx) :: (p,px) :: (k,kx) :: R : List NX).Perm ((k,kx) :: (⟨nb,.slice (some ⟨g1,0,none⟩) (nk - H) cap1,x :: r⟩,kx) :: (p,px) :: R):=((perm2 (p,px) (k,kx) R).cons _).trans (perm2 _ _ _)
    have hoo : Only (fun j => k.v.ownBlock = some j) W2 w3:=(Only.refl _ _).drew.trans (ho3.mono fun j hj => by rw [HEK.out,hj]; rfl)
    obtain ⟨hP4,hO4⟩:=(HP2.out.perm hpe).setRow (v':=.slice (some ⟨gk,0,none⟩) H capk) (its':=k.its.take H) HZ2.out hoo (by rw [HTL.out]; exact hown3) (fun j hj => Or.inl (by rw [HEK.out]; exact hj))
    simp only [HN.out.2.2.2] at hP4 hO4
    obtain ⟨W4,hW4⟩:=Vx (w3.setCell ⟨bk,0,none⟩ (.slice (some ⟨gk,0,none⟩) H capk))
    rw [hW4] at hP4 hO4
    rw [hW4]
    have HO4 : Hid (Only Z w W4):=(Only.of HB2.out).trans hO4
    have HZ4 : Hid (∀ k,W4.heap.size ≤ k → Z k):=fun k hk => HZ.out k (Zlt HO4.out.size hk)
    have u1:=hP4.head.nc.c1
    have uf:=hP4.head.nc.fz 1
    simp only at u1 uf
    obtain ⟨hP5,hO5⟩:=hP4.setNext HZ4.out (some nb)
    simp only at hP5 hO5
    have HP5 : Hid (Hp (W4.setCell ⟨bk,1,none⟩ (.pointer (some ⟨nb,0,none⟩))) Z ((⟨bk,.slice (some ⟨gk,0,none⟩) H capk,k.its.take H⟩,some nb) :: (⟨nb,.slice (some ⟨g1,0,none⟩) (nk - H) cap1,x :: r⟩,kx) :: (p,px) :: R)):=hP5
    have HO5 : Hid (Only Z w (W4.setCell ⟨bk,1,none⟩ (.pointer (some ⟨nb,0,none⟩)))):=HO4.out.trans hO5
    rw [show (kx.map fun b => (⟨b,0,none⟩ : Addr)) = q from HQ.out] at u1
    clear hpe hoo hP4 hO4 hW4 hown3 ho3 hbl s0 sf hP5 hO5 t0 tf
    go_wp2
    obtain ⟨W5,hW5⟩:=Vx (W4.setCell ⟨bk,1,none⟩ (.pointer (some ⟨nb,0,none⟩)))
    rw [hW5] at HP5 HO5
    rw [hW5]
    clear hW5 u1 uf HO4 HZ4
    have HZ5 : Hid (∀ k,W5.heap.size ≤ k → Z k):=fun k hk => HZ.out k (Zlt HO5.out.size hk)
    have hP:=HP5.out.tail.tail.head
    have hPb : p.b = bp:=HN.out.2.2.1
    have HPR : Hid (W5.ownsRow 0 195 3 (.slice (some ⟨gp,0,none⟩) np capp) p.its.length (ic p.its)):=by
     have:=hP.row
     simp only [HEP.out] at this
     exact this
    have v0 : W5.cell? ⟨bp,0,none⟩ = some (.slice (some ⟨gp,0,none⟩) np capp):=by
     have:=hP.nc.c0
     simp only [HEP.out,hPb] at this
     exact this
    have vf : W5.frozen? ⟨bp,0,none⟩ = false:=by
     have:=hP.nc.fz 0
     simp only [hPb] at this
     exact this
    have z5 : bp < W5.heap.size:=by have:=hP.lt; simp only [hPb] at this; exact this
    have hbg5 : bp ≠ gp:=fun e => by
     have:=ndat_ne hP hP
     simp only [HEP.out,hPb] at this
     exact this (by rw [e]; rfl)
    have HRT : Hid (NdAt W5 ⟨nb,.slice (some ⟨g1,0,none⟩) (nk - H) cap1,x :: r⟩ kx):=HP5.out.tail.head
    have hxl : (x :: r).length ≤ 1000000:=by rw [← HXR.out,List.length_drop,HN.out.2.1]; omega
    have HLN : Hid ((p.its.take (i + 1) ++ (⟨x.key,⟨#[]⟩,some nb⟩ : It) :: p.its.drop (i + 1)).length = np + 1):=by
     have : (p.its.take (i + 1) ++ (⟨x.key,⟨#[]⟩,some nb⟩ : It) :: p.its.drop (i + 1)).length = np + 1:=by rw [Zla,List.length_cons,List.length_take,List.length_drop,HN.out.1]; omega
     exact this
    have HIN : Hid (∀ W vb,Below W5.heap.size W5 W → W.heap[vb]? = some (.cells #[.string x.key,.string ⟨#[]⟩,.pointer (some ⟨nb,0,none⟩)] 195 (0,0)) → W5.heap.size ≤ vb → Calls Tryz.prog 124 #[.slice (some ⟨gp,0,none⟩) np capp,.int .i64 ((i : Int) + 1),.slice (some ⟨vb,0,none⟩) 1 1] W fun e w' => ∃ g cap,e = .returned (.slice (some ⟨g,0,none⟩) (np + 1) cap) ∧ w'.ownsRow 0 195 3 (.slice (some ⟨g,0,none⟩) (np + 1) cap) (np + 1) (ic (p.its.take (i + 1) ++ ⟨x.key,⟨#[]⟩,some nb⟩ :: p.its.drop (i + 1))) ∧ ((Value.slice (some ⟨gp,0,none⟩) np capp).ownBlock = some g ∨ W.heap.size ≤ g) ∧ Only (fun k => (Value.slice (some ⟨gp,0,none⟩) np capp).ownBlock = some k) W w'):=fun W vb hb hx hvb => by
     have hgl:=HPR.out.lt gp rfl
     have:=insert_any W (.slice (some ⟨gp,0,none⟩) np capp) p.its ⟨x.key,⟨#[]⟩,some nb⟩ (i + 1) vb (own_kept HPR.out fun j hj => hb.block j (HPR.out.lt j hj).2) (by rw [HN.out.1]; omega) (by rw [HN.out.1]; omega) hx (fun e => by
      have : gp = vb:=by simpa [Value.ownBlock] using e
      omega)
     unfold InsP at this
     rw [HLN.out] at this
     exact this
    have hw1 : IntKind.i64.wrap ((i : Int) + 1) = (i : Int) + 1:=by rw [IntKind.wrap_i64]; omega
    clear hP hPb
    go_region_law (first
     | (go_simp; go_at_call 166; refine (asKid_any W5.drew ⟨nb,.slice (some ⟨g1,0,none⟩) (nk - H) cap1,x :: r⟩ kx x r (HRT.out.later ((Bxr _ _).drew)) rfl hxl).mono ?_; rintro e w6 ⟨rfl,hb6⟩; (have hb6:=Below.trans ((Below.refl W5.heap.size W5).drew) hb6); (have s0:=cell_later hb6 v0); (have sf:=(hb6.frozen (p:=⟨bp,0,none⟩) z5).trans vf); (have z6 : bp < w6.heap.size:=Zll z5 hb6.size); (have z7 : ¬ bp = w6.heap.size:=by omega); (have HB6 : Hid (Below W5.heap.size W5 w6):=hb6); clear hb6)
     | (go_simp; go_at_call 124; refine (HIN.out _ w6.heap.size (HB6.out.alloc HB6.out.size _) (heap_alloc_new w6 _) HB6.out.size).mono ?_; rintro e w8 ⟨g8,cap8,rfl,hown8,hor8,ho8⟩; (have hbl8:=ho8.block bp (by rw [World.size_alloc]; omega) (fun e => hbg5 (by simpa [Value.ownBlock] using e.symm))); (have y0:=cell_at hbl8 (cell_later ((Bxr _ _).alloc Zlr _) s0)); (have yf : w8.frozen? ⟨bp,0,none⟩ = false:=by rw [World.frozen?_of_block (a:=⟨bp,0,none⟩) hbl8]; exact (((Below.refl w6.heap.size w6).alloc Zlr _).frozen (p:=⟨bp,0,none⟩) z6).trans sf)))
    all_goals
     have hb7 : Below W5.heap.size W5 (w6.alloc (.cells #[.string x.key,.string ⟨#[]⟩,.pointer (some ⟨nb,0,none⟩)] 195)):=HB6.out.alloc HB6.out.size _
     have hoo : Only (fun j => p.v.ownBlock = some j) W5 w8:=(Only.of hb7).trans (ho8.mono fun j hj => by rw [HEP.out]; exact hj)
     have hpe : ((⟨bk,.slice (some ⟨gk,0,none⟩) H capk,k.its.take H⟩,some nb) :: (⟨nb,.slice (some ⟨g1,0,none⟩) (nk - H) cap1,x :: r⟩,kx) :: (p,px) :: R : List NX).Perm ((p,px) :: (⟨bk,.slice (some ⟨gk,0,none⟩) H capk,k.its.take H⟩,some nb) :: (⟨nb,.slice (some ⟨g1,0,none⟩) (nk - H) cap1,x :: r⟩,kx) :: R):=((perm2 _ _ _).cons _).trans (perm2 _ _ _)
     obtain ⟨hP9,hO9⟩:=(HP5.out.perm hpe).setRow (v':=.slice (some ⟨g8,0,none⟩) (np + 1) cap8) (its':=p.its.take (i + 1) ++ ⟨x.key,⟨#[]⟩,some nb⟩ :: p.its.drop (i + 1)) HZ5.out hoo (by rw [HLN.out]; exact hown8) (fun j hj => by
      obtain rfl : g8 = j:=by simpa [Value.ownBlock] using hj
      rcases hor8 with h | h
      ·exact Or.inl (by rw [HEP.out]; exact h)
      ·exact Or.inr (Zlt hb7.size h))
     have hPb : p.b = bp:=HN.out.2.2.1
     simp only [hPb] at hP9 hO9
     go_end0
     refine ⟨rfl,HO5.out.trans hO9,Or.inr ⟨by rw [HN.out.2.1]; omega,.slice (some ⟨g8,0,none⟩) (np + 1) cap8,.slice (some ⟨gk,0,none⟩) H capk,.slice (some ⟨g1,0,none⟩) (nk - H) cap1,nb,x,r,by rw [HH2.out]; exact HXR.out,HNB.out,?_⟩⟩
     rw [HH2.out,hPb,HN.out.2.2.2]
     exact hP9
def zd (w : World) (D : List NX) (k : Nat) : Prop:=(∃ x ∈ D,k = x.1.b ∨ x.1.v.ownBlock = some k) ∨ w.heap.size ≤ k
theorem zd_new (w : World) (D : List NX) : ∀ k,w.heap.size ≤ k → zd w D k:=fun _ h => Or.inr h
theorem Hp.tight {w : World} {Z : Nat → Prop} {D : List NX} (h : Hp w Z D) : Hp w (zd w D) D:=⟨h.at_,fun x hx => Or.inl ⟨x,hx,Or.inl rfl⟩,fun x hx _ e => Or.inl ⟨x,hx,Or.inr e⟩,h.apart⟩
theorem Hp.zone {w : World} {Z : Nat → Prop} {D : List NX} (h : Hp w Z D) {k : Nat} (hk : zd w D k) : Z k ∨ w.heap.size ≤ k:=by
 rcases hk with ⟨x,hx,rfl | e⟩ | hk
 ·exact Or.inl (h.zb x hx)
 ·exact Or.inl (h.zr x hx k e)
 ·exact Or.inr hk
theorem Hp.out {w : World} {Z : Nat → Prop} {D : List NX} (h : Hp w Z D) {k : Nat} {o : Obj} (ho : w.heap[k]? = some o) (hn : ∀ cs fr,o ≠ .cells cs 198 fr) (hi : ∀ cs fr,o ≠ .cells cs 195 fr) : ¬ zd w D k:=by
 rintro (⟨x,hx,rfl | e⟩ | hk)
 ·have:=(h.at_ x hx).cells
  rw [ho] at this
  exact hn _ _ (Option.some.inj this)
 ·obtain ⟨_,⟨e1,_⟩ | ⟨g,cap,cur,e1,_,hg,_⟩⟩:=(h.at_ x hx).row
  ·rw [e1] at e; cases e
  ·rw [e1] at e
   obtain rfl : g = k:=by simpa [Value.ownBlock] using e
   rw [ho] at hg
   exact hi _ _ (Option.some.inj hg)
 ·have:=(Gx ho)
  omega
theorem Hp.grown {w w' : World} {Z : Nat → Prop} {D : List NX} {row : Option Nat} (h : Hp w Z D) (hg : w.grownBy w' row) (hr : ∀ r,row = some r → ∃ o : Obj,w.heap[r]? = some o ∧ o.isCells = false) : Hp w' Z D:=by
 have key : ∀ k cs t fr,w.heap[k]? = some (Obj.cells cs t fr) → w'.heap[k]? = w.heap[k]?:=fun k cs t fr hk => hg.block k (Gx hk) fun e => by
  obtain ⟨o,ho,hc⟩:=hr k e.symm
  rw [hk] at ho
  obtain rfl:=Option.some.inj ho
  cases hc
 refine ⟨fun x hx => (h.at_ x hx).kept (key _ _ _ _ (h.at_ x hx).cells) fun k e => ?_,h.zb,h.zr,h.apart⟩
 obtain ⟨_,⟨e1,_⟩ | ⟨g,cap,cur,e1,_,hg,_⟩⟩:=(h.at_ x hx).row
 ·rw [e1] at e; cases e
 ·rw [e1] at e
  obtain rfl : g = k:=by simpa [Value.ownBlock] using e
  exact key _ _ _ _ hg
def restTwo (pre post : List (List Nd)) (PA PC A C : List Nd) (pb nb : Nat) : List NX:=allX pre ++ (linkN (some pb) PA ++ (linkN none PC ++ (linkN (some nb) A ++ (linkN none C ++ allX post))))
theorem perm_two (pre post : List (List Nd)) (PA PC A C : List Nd) (p n : Nd) : (allX (pre ++ (PA ++ p :: PC) :: (A ++ n :: C) :: post)).Perm ((p,hd PC none) :: (n,hd C none) :: restTwo pre post PA PC A C p.b n.b):=by
 refine (perm_one pre ((A ++ n :: C) :: post) PA PC p).trans (List.Perm.cons _ ?_)
 rw [allX_cons,linkN_append]
 show (allX pre ++ (linkN (some p.b) PA ++ (linkN none PC ++ ((linkN (some n.b) A ++ (n,hd C none) :: linkN none C) ++ allX post)))).Perm _
 unfold restTwo
 have:=List.perm_middle (a:=(n,hd C none)) (l₁:=allX pre ++ (linkN (some p.b) PA ++ (linkN none PC ++ linkN (some n.b) A))) (l₂:=linkN none C ++ allX post)
 simpa only [Zas,List.cons_append] using this
theorem perm_three (pre post : List (List Nd)) (PA PC A C : List Nd) (p n1 n2 : Nd) : (allX (pre ++ (PA ++ p :: PC) :: (A ++ n1 :: n2 :: C) :: post)).Perm ((p,hd PC none) :: (n1,some n2.b) :: (n2,hd C none) :: restTwo pre post PA PC A C p.b n1.b):=by
 refine (perm_two pre post PA PC A (n2 :: C) p n1).trans (List.Perm.cons _ (List.Perm.cons _ ?_))
 unfold restTwo
 show (allX pre ++ (linkN (some p.b) PA ++ (linkN none PC ++ (linkN (some n1.b) A ++ ((n2,hd C none) :: linkN none C ++ allX post))))).Perm _
 have:=List.perm_middle (a:=(n2,hd C none)) (l₁:=allX pre ++ (linkN (some p.b) PA ++ (linkN none PC ++ linkN (some n1.b) A))) (l₂:=linkN none C ++ allX post)
 simpa only [Zas,List.cons_append] using this
structure TrAt (w : World) (t m n rb : Nat) : Prop where
 cells : w.heap[t]? = some (.cells #[.int .i64 (m : Int),.int .i64 (n : Int),.pointer (some ⟨rb,0,none⟩)] 201 (0,0))
theorem TrAt.lt {w : World} {t m n rb : Nat} (h : TrAt w t m n rb) : t < w.heap.size:=(Gx h.cells)
theorem TrAt.c0 {w : World} {t m n rb : Nat} (h : TrAt w t m n rb) : w.cell? ⟨t,0,none⟩ = some (.int .i64 (m : Int)):=by simp [World.cell?,h.cells]
theorem TrAt.c1 {w : World} {t m n rb : Nat} (h : TrAt w t m n rb) : w.cell? ⟨t,1,none⟩ = some (.int .i64 (n : Int)):=by simp [World.cell?,h.cells]
theorem TrAt.c2 {w : World} {t m n rb : Nat} (h : TrAt w t m n rb) : w.cell? ⟨t,2,none⟩ = some (.pointer (some ⟨rb,0,none⟩)):=by simp [World.cell?,h.cells]
theorem TrAt.fz {w : World} {t m n rb : Nat} (h : TrAt w t m n rb) (o : Nat) : w.frozen? ⟨t,o,none⟩ = false:=by simp [World.frozen?,h.cells]
theorem TrAt.kept {w w' : World} {t m n rb : Nat} (h : TrAt w t m n rb) (hk : w'.heap[t]? = w.heap[t]?) : TrAt w' t m n rb:=⟨hk.trans h.cells⟩
theorem TrAt.out {w : World} {Z : Nat → Prop} {D : List NX} {t m n rb : Nat} (h : TrAt w t m n rb) (hp : Hp w Z D) : ¬ zd w D t:=hp.out h.cells (by intro cs fr e; cases e) (by intro cs fr e; cases e)
end BB
end Go.Proofs.YtmmmkjhpmlfopaaGreatDoor
