/- ZB9 ZM83 ZB10 -/
import Derived.Test.YtmmmkjhpmlfopaaGreatDoorSB03
import Derived.ScopeJumps
import Derived.WalkMore
import Derived.RangeFuncNested
import Derived.RangeFuncBound
import Derived.RangeFuncCalls
import Derived.RangeFuncLeaves
import Derived.Shelf.Abstract
import Derived.Shelf.RegionOpen
import Derived.OwnWalkIn
import Derived.TacticsInMore
import Derived.LoopNIn
import Derived.LoopIn
set_option maxHeartbeats 8000000
set_option maxRecDepth 1000000
namespace Go.Proofs.YtmmmkjhpmlfopaaGreatDoor
open Go.RowKit
namespace BB
theorem toward_ok {key : ByteArray} {l : List It} (hs : Srt l) (hne : l ≠ []) : ∃ it,l[towardL key l]? = some it ∧ (∀ y ∈ l.drop (towardL key l + 1),kl key y.key = true) ∧ (l.take (towardL key l) = [] ∨ kl key it.key = false):=by
 have hlen : 0 < l.length:=List.length_pos_iff.2 hne
 have hcl:=cntL_le key l
 have hpw:=List.pairwise_iff_getElem.1 hs
 by_cases hf : foundL key l = true
 ·have hc : cntL key l < l.length:=by
   rcases Nat.eq_or_lt_of_le hcl with e | e
   ·rw [foundL_no e] at hf; cases hf
   ·exact e
  have hk : (l[cntL key l]).key = key:=by
   rw [foundL_at hc] at hf
   exact of_decide_eq_true hf
  have e : towardL key l = cntL key l:=by unfold towardL; rw [if_pos hf]
  rw [e]
  refine ⟨l[cntL key l],List.getElem?_eq_getElem hc,fun y hy => ?_,Or.inr (by rw [hk]; exact kl_irrefl _)⟩
  obtain ⟨i,hi,rfl⟩:=List.getElem_of_mem hy
  rw [List.length_drop] at hi
  rw [List.getElem_drop]
  have:=hpw (cntL key l) (cntL key l + 1 + i) hc Om Om
  rw [hk] at this
  exact this
 ·have hf' : foundL key l = false:=by simpa using hf
  have e : towardL key l = cntL key l - 1:=by unfold towardL; rw [hf']; rfl
  have hgt : ∀ i (hi : i < l.length),cntL key l ≤ i → kl key (l[i]).key = true:=fun i hi hci => by
   have h0:=cntL_at key l Om
   have hne0 : (l[cntL key l]'Om).key ≠ key:=fun e' => by
    rw [foundL_at Om,e'] at hf'
    simp at hf'
   have hlt:=kl_total h0 hne0
   rcases Nat.eq_or_lt_of_le hci with e' | e'
   ·simp only [← e']; exact hlt
   ·exact kl_trans hlt (hpw _ _ Om hi e')
  rw [e]
  rcases Nat.eq_zero_or_pos (cntL key l) with h0 | h0
  ·refine ⟨l[0],by rw [h0]; exact List.getElem?_eq_getElem hlen,fun y hy => ?_,Or.inl (by rw [h0]; rfl)⟩
   obtain ⟨i,hi,rfl⟩:=List.getElem_of_mem hy
   rw [List.length_drop] at hi
   rw [List.getElem_drop]
   exact hgt _ Om Om
  ·refine ⟨l[cntL key l - 1]'Om,List.getElem?_eq_getElem Om,fun y hy => ?_,Or.inr (kl_asymm (cntL_lt key l _ Om Om))⟩
   obtain ⟨i,hi,rfl⟩:=List.getElem_of_mem hy
   rw [List.length_drop] at hi
   rw [List.getElem_drop]
   exact hgt _ Om Om
theorem fits_find {SA SC : List Slot} {s : Slot} {M : List Nd} (h : Fits (SA ++ s :: SC) M) : ∃ A n C,M = A ++ n :: C ∧ SA.length = A.length ∧ n.b = s.1:=by
 have hl:=h.length
 rw [Zla,List.length_cons] at hl
 have e : M = M.take SA.length ++ M.drop SA.length:=(List.take_append_drop _ _).symm
 have h1 : SA.length = (M.take SA.length).length:=by rw [List.length_take]; omega
 rw [e,fits_append h1] at h
 match hd : M.drop SA.length,h.2 with
 | n :: C,h2 =>
  rw [hd] at e
  exact ⟨_,n,C,e,h1,h2.1.1⟩
 | [],h2 => exact h2.elim
def wc : List Fr → List Value
 | [] => []
 | f :: r => .pointer (some ⟨f.n.b,0,none⟩) :: .int .i64 (f.X.length : Int) :: wc r
theorem wc_append : ∀ a b : List Fr,wc (a ++ b) = wc a ++ wc b
 | [],_ => rfl
 | f :: r,b => by simp [wc,wc_append r b]
theorem wrow_form {w : World} {B : Nat} {v : Value} {n : Nat} {xs : List Value} (h : w.ownsRow B 236 2 v n xs) : ∃ p cap,v = .slice p n cap ∧ n ≤ cap:=by
 obtain ⟨_,⟨rfl,h2⟩ | ⟨g,cap,cur,rfl,_,_,h3,_⟩⟩:=h
 ·exact ⟨none,0,by rw [h2],by omega⟩
 ·exact ⟨_,cap,rfl,h3⟩
theorem step_cells (w : World) (b a : Nat) : ∀ j u,([.pointer (some ⟨b,0,none⟩),.int .i64 (a : Int)] : List Value)[j]? = some u → (w.alloc (.cells #[.pointer (some ⟨b,0,none⟩),.int .i64 (a : Int)] 236)).cell? ((⟨w.heap.size,0,none⟩ : Addr).add j) = some u:=by
 intro j u hj
 match j,hj with
 | 0,hj => simp at hj; subst hj; simp [Addr.add]
 | 1,hj => simp at hj; subst hj; simp [Addr.add]
theorem Tryz.infoStep : (Tryz.prog.info? 236).map (fun i => (i.zero,i.size,i.bytes)) = some (some (.agg #[.pointer none,.int .i64 0]),2,16):=by kernel_rfl
structure DInv (w : World) (t : Nat) (key : ByteArray) (ls : List (List Nd)) (rb : Nat) (W : World) (v : Value) (rs : List Fr) (A : List Nd) (n : Nd) (C : List Nd) (rest : List (List Nd)) : Prop where
 all : ls = lvls rs ++ (A ++ n :: C) :: rest
 frs : Frs key (rb,⟨none,none⟩) rs
 good : Good (ctxR (rb,⟨none,none⟩) rs).all ((A ++ n :: C) :: rest)
 pos : (ctxR (rb,⟨none,none⟩) rs).SA.length = A.length
 row : W.ownsRow w.heap.size 236 2 v rs.length (wc rs.reverse)
 below : Below w.heap.size w W
theorem DInv.fits {w : World} {t : Nat} {key : ByteArray} {ls : List (List Nd)} {rb : Nat} {W : World} {v : Value} {rs : List Fr} {A : List Nd} {n : Nd} {C : List Nd} {rest : List (List Nd)} (h : DInv w t key ls rb W v rs A n C rest) : Fits (ctxR (rb,⟨none,none⟩) rs).SA A ∧ (n.b = (ctxR (rb,⟨none,none⟩) rs).s.1 ∧ NodeOk n (ctxR (rb,⟨none,none⟩) rs).s.2) ∧ Fits (ctxR (rb,⟨none,none⟩) rs).SC C:=by
 have hg:=h.good
 have hf : Fits (ctxR (rb,⟨none,none⟩) rs).all (A ++ n :: C):=by
  cases rest with
  | nil => exact (good_leaf.1 hg).1
  | cons M r => exact (good_mid.1 hg).1
 have:=(fits_append h.pos).1 hf
 exact ⟨this.1,this.2.1,this.2.2⟩
theorem DInv.srt {w : World} {t : Nat} {key : ByteArray} {ls : List (List Nd)} {rb : Nat} {W : World} {v : Value} {rs : List Fr} {A : List Nd} {n : Nd} {C : List Nd} {rest : List (List Nd)} (h : DInv w t key ls rb W v rs A n C rest) : Srt n.its:=h.fits.2.1.2.srt
theorem DInv.len {w : World} {t : Nat} {key : ByteArray} {ls : List (List Nd)} {rb : Nat} {W : World} {v : Value} {rs : List Fr} {A : List Nd} {n : Nd} {C : List Nd} {rest : List (List Nd)} (h : DInv w t key ls rb W v rs A n C rest) : rs.length + 1 + rest.length = ls.length:=by
 rw [h.all,Zla,List.length_cons,lvls,List.length_map,List.length_reverse]
 omega
theorem DInv.mem {w : World} {t : Nat} {key : ByteArray} {ls : List (List Nd)} {rb : Nat} {W : World} {v : Value} {rs : List Fr} {A : List Nd} {n : Nd} {C : List Nd} {rest : List (List Nd)} (h : DInv w t key ls rb W v rs A n C rest) : ∃ nx,(n,nx) ∈ allX ls:=by
 obtain ⟨y,hy⟩:=linkN_mem (nx:=none) (L:=A ++ n :: C) (n:=n) Si
 refine ⟨y,?_⟩
 rw [h.all,allX_append,allX_cons]
 exact List.mem_append_right _ (List.mem_append_left _ hy)
theorem DInv.kid {w : World} {t : Nat} {key : ByteArray} {ls : List (List Nd)} {rb : Nat} {W : World} {v : Value} {rs : List Fr} {A : List Nd} {n : Nd} {C : List Nd} {rest : List (List Nd)} (h : DInv w t key ls rb W v rs A n C rest) : kid0 n.its = none ↔ rest = []:=by
 have hg:=h.good
 cases rest with
 | nil =>
  have hl:=(good_leaf.1 hg).2 n Si
  refine ⟨fun _ => rfl,fun _ => ?_⟩
  unfold kid0
  match hi : n.its with
  | [] => rfl
  | x :: r => exact hl x (by rw [hi]; simp)
 | cons M r =>
  have hm:=(good_mid.1 hg).2.1 n Si
  refine ⟨fun e => ?_,fun e => by cases e⟩
  unfold kid0 at e
  match hi : n.its with
  | [] => exact absurd hi hm.ne
  | x :: r =>
   obtain ⟨b,hb⟩:=hm.kid x (by rw [hi]; simp)
   rw [hi] at e
   simp [hb] at e
theorem DInv.down {w : World} {t : Nat} {key : ByteArray} {ls : List (List Nd)} {rb : Nat} {W : World} {v : Value} {rs : List Fr} {A : List Nd} {n : Nd} {C : List Nd} {rest : List (List Nd)} (h : DInv w t key ls rb W v rs A n C rest) (hne : rest ≠ []) :
  ∃ it,n.its[towardL key n.its]? = some it ∧ ∃ kb,it.kid = some kb ∧ ∃ A' n' C' rest',n'.b = kb ∧ ∀ W' v',Below w.heap.size w W' → W'.ownsRow w.heap.size 236 2 v' (rs.length + 1) (wc rs.reverse ++ [.pointer (some ⟨n.b,0,none⟩),.int .i64 (towardL key n.its : Int)]) → ∃ f : Fr,DInv w t key ls rb W' v' (f :: rs) A' n' C' rest':=by
 obtain ⟨hfa,⟨hnb,hok⟩,hfc⟩:=h.fits
 obtain ⟨M,r,rfl⟩:=List.exists_cons_of_ne_nil hne
 obtain ⟨hf,hmid,hg⟩:=good_mid.1 h.good
 have hm:=hmid n Si
 obtain ⟨it,hit,hY,hX⟩:=toward_ok (key:=key) hok.srt hm.ne
 have hlt:=(List.getElem?_eq_some_iff.1 hit).1
 obtain ⟨kb,hkb⟩:=hm.kid it (List.mem_of_getElem? hit)
 have hits : n.its = n.its.take (towardL key n.its) ++ it :: n.its.drop (towardL key n.its + 1):=by
  conv => lhs; rw [← List.take_append_drop (towardL key n.its) n.its,List.drop_eq_getElem_cons hlt]
  rw [(List.getElem?_eq_some_iff.1 hit).2]
 obtain ⟨f,hfd⟩ : ∃ f : Fr,f = ⟨A,n,C,n.its.take (towardL key n.its),it,n.its.drop (towardL key n.its + 1)⟩:=⟨_,rfl⟩
 have hfo : FrOk key (ctxR (rb,⟨none,none⟩) rs) f:=by
  subst hfd
  exact ⟨hfa,hnb,hok,hfc,hmid,hits,hY,hX⟩
 have hg2 : Good (ctxR (rb,⟨none,none⟩) (f :: rs)).all (M :: r):=by
  have:=Ctx.step_all (ctxR (rb,⟨none,none⟩) rs) f hfo.fa.length hfo.its
  show Good ((ctxR (rb,⟨none,none⟩) rs).step f).all (M :: r)
  rw [← this,hfd]
  exact hg
 have hfM : Fits (ctxR (rb,⟨none,none⟩) (f :: rs)).all M:=by
  cases r with
  | nil => exact (good_leaf.1 hg2).1
  | cons M2 r2 => exact (good_mid.1 hg2).1
 obtain ⟨A',n',C',hM,hp',hb'⟩:=fits_find hfM
 refine ⟨it,hit,kb,hkb,A',n',C',r,?_,fun W' v' hb hrow => ⟨f,?_,⟨h.frs,hfo⟩,?_,hp',?_,hb⟩⟩
 ·rw [hb']
  show f.it.kid.getD 0 = kb
  rw [hfd]
  show it.kid.getD 0 = kb
  rw [hkb]
  rfl
 ·rw [h.all,lvls_cons,hM,hfd]
  simp [Fr.lvl]
 ·rw [← hM]; exact hg2
 ·rw [List.length_cons,List.reverse_cons,wc_append]
  have e : wc [f] = [.pointer (some ⟨n.b,0,none⟩),.int .i64 (towardL key n.its : Int)]:=by
   rw [hfd]
   simp [wc]
   omega
  rw [e]
  exact hrow
def wayLen : Value → Nat
 | .slice _ n _ => n
 | _ => 0
def DescP (w : World) (t : Nat) (key : ByteArray) (ls : List (List Nd)) (rb : Nat) (e : Ending) (w' : World) : Prop :=
 ∃ v rs A n C,e = .returned (.tuple #[.pointer (some ⟨n.b,0,none⟩),v]) ∧ DInv w t key ls rb w' v rs A n C []
theorem descend_any (w : World) (Z : Nat → Prop) (t rb : Nat) (key : ByteArray) (ls : List (List Nd)) (hp : Hp w Z (allX ls)) (ct : w.cell? ⟨t,2,none⟩ = some (.pointer (some ⟨rb,0,none⟩))) (hg : Good [(rb,⟨none,none⟩)] ls) (hlen : ls.length ≤ 1000000) (hn : ∀ x ∈ allX ls,x.1.its.length ≤ 100000) :
  Calls Tryz.prog 117 #[.pointer (some ⟨t,0,none⟩),.string key] w (DescP w t key ls rb):=by
 obtain ⟨i0,hif,hz0,hz1,hz2⟩:=info_parts Tryz.infoStep
 have HW : Hid (Hp w Z (allX ls) ∧ ∀ x ∈ allX ls,x.1.its.length ≤ 100000 ∧ True):=⟨hp,fun x hx => ⟨hn x hx,trivial⟩⟩
 obtain ⟨A,n,C,rest,hnb,hinv0⟩ : ∃ A n C rest,n.b = rb ∧ ∀ W v,Below w.heap.size w W → W.ownsRow w.heap.size 236 2 v 0 [] → DInv w t key ls rb W v [] A n C rest:=by
  match ls,hg with
  | L :: r,hg =>
   have hf : Fits ([] ++ (rb,(⟨none,none⟩ : Iv)) :: []) L:=by
    cases r with
    | nil => exact (good_leaf.1 hg).1
    | cons M r => exact (good_mid.1 hg).1
   obtain ⟨A,n,C,e,hl,hb⟩:=fits_find hf
   exact ⟨A,n,C,r,hb,fun W v hb hr => ⟨by rw [e]; rfl,trivial,by rw [← e]; exact hg,hl,hr,hb⟩⟩
 have HI0 : Hid (∀ W v,Below w.heap.size w W → W.ownsRow w.heap.size 236 2 v 0 [] → DInv w t key ls rb W v [] A n C rest):=hinv0
 clear hp hg hn hinv0
 go_enter Tryz.func117,Tryz.ntmps117
 go_wp2
 refine wp_scope_jumps 0 (fun a' W => ∃ (v : Value) (rs : List Fr) (A : List Nd) (n : Nd) (C : List Nd) (rest : List (List Nd)) (u8 u13 u14 u15 u16 u17 u18 u19 u20 u21 u22 u23 u24 u25 u26 u27 u28 u29 u30 u31 u32 u33 : Value),DInv w t key ls rb W v rs A n C rest ∧ a' = { tmps:=#[.pointer (some ⟨t,0,none⟩),.string key,undef,undef,.pointer none,.slice none 0 0,.pointer (some ⟨n.b,0,none⟩),v,u8,.pointer (some ⟨t,0,none⟩),.pointer (some ⟨t,0,none⟩),.pointer (some ⟨t,2,none⟩),.pointer (some ⟨rb,0,none⟩),u13,u14,u15,u16,u17,u18,u19,u20,u21,u22,u23,u24,u25,u26,u27,u28,u29,u30,u31,u32,u33],defers:=[] }) (fun a' _ => ls.length - wayLen (a'.tmps.getD 7 undef)) rfl ?_ ?_
 ·go_wp2
  go_step3
  have hinv:=HI0.out w (.slice none 0 0) (Bxr _ _) (World.ownsRow_nil _ _ _ _)
  have HI : Hid (DInv w t key ls rb w (.slice none 0 0) [] A n C rest):=hinv
  obtain ⟨nx,hmem⟩:=hinv.mem
  have hnl : n.its.length ≤ 100000:=(HW.out.2 _ hmem).1
  have HND : Hid (∀ w',Below w.heap.size w w' → NdAt w' n nx):=fun w' hb' => (HW.out.1.at_ _ hmem).later hb'
  have HBL : Hid (Below w.heap.size w w):=hinv.below
  have HK : Hid (kid0 n.its = none ↔ rest = []):=hinv.kid
  have HLF:=leaf_any w n nx (HND.out w HBL.out) Om
  obtain ⟨k0,hk0⟩:=Vx (kid0 n.its)
  rw [hk0] at HLF HK
  obtain ⟨b,hb⟩:=Vx n.b
  have HNB : Hid (n.b = b):=hb
  obtain rfl : b = rb:=hb.symm.trans hnb
  rw [hb] at HLF
  cases k0 with
  | none =>
   have HL2 : Hid (Calls Tryz.prog 152 #[.pointer (some ⟨b,0,none⟩)] w fun e w' => e = .returned (.bool true) ∧ w' = w):=HLF
   have HR0 : Hid (rest = []):=HK.out.1 rfl
   clear HLF hinv hb hk0 HK
   go_wp2_with (go_at_call 152; refine HL2.out.mono ?_; rintro e w' ⟨rfl,rfl⟩)
   simp only [Exit.jump]
   refine bodyPost_ret (v:=.tuple #[.pointer (some ⟨b,0,none⟩),.slice none 0 0]) (by simp [results,Tryz.results117,go_sem]) rfl ?_
   exact ⟨_,[],A,n,C,by rw [HNB.out],by have:=HI.out; rw [HR0.out] at this; exact this⟩
  | some k0 =>
   have HL2 : Hid (Calls Tryz.prog 152 #[.pointer (some ⟨b,0,none⟩)] w fun e w' => e = .returned (.bool false) ∧ w' = w):=HLF
   have hrne : rest ≠ []:=fun e => by have:=HK.out.2 e; cases this
   obtain ⟨it,hit,kb,hkb,A',n',C',rest',hn',hdown⟩:=HI.out.down hrne
   have HTW:=toward_any w n nx key (HND.out w HBL.out) HI.out.srt Om
   obtain ⟨at_,hat⟩:=Vx (towardL key n.its)
   rw [hat,hb] at HTW
   rw [hat] at hit hdown
   have HT2 : Hid (Calls Tryz.prog 153 #[.pointer (some ⟨b,0,none⟩),.string key] w fun e w' => e = .returned (.int .i64 (at_ : Int)) ∧ Below w.heap.size w w'):=HTW
   have hatl : at_ < n.its.length:=(List.getElem?_eq_some_iff.1 hit).1
   have HIT : Hid (n.its[at_]? = some it ∧ it.kid = some kb ∧ n'.b = kb):=⟨hit,hkb,hn'⟩
   have HDN : Hid (∀ w' v',Below w.heap.size w w' → w'.ownsRow w.heap.size 236 2 v' (0 + 1) (wc ([] : List Fr) ++ [.pointer (some ⟨n.b,0,none⟩),.int .i64 (at_ : Int)]) → ∃ f : Fr,DInv w t key ls b w' v' ([f]) A' n' C' rest'):=hdown
   have hrl:=HI.out.len
   clear HLF hb hk0 HTW hat hit hkb hn' hdown
   have HRW : Hid (w.ownsRow w.heap.size 236 2 (.slice none 0 0) 0 (wc ([] : List Fr))):=hinv.row
   have HBW : Hid (w.heap.size ≤ w.heap.size):=hinv.below.size
   clear hinv
   go_wp2_with (first
    | (go_at_call 152; refine HL2.out.mono ?_; rintro e w' ⟨rfl,hwe⟩; (have hwe2:=hwe.symm); clear hwe; subst hwe2)
    | (go_at_call 153; refine HT2.out.mono ?_; rintro e w4 ⟨rfl,hb4⟩)
    | (at_builtin; go_must (refine wpList_append_lies _ rfl _ _ 189 rfl w.heap.size 236 i0 _ 2 16 Tryz.underlying189 hif hz0 hz1 hz2 rfl (by decide) _ _ _ rfl ((own_kept HRW.out fun j hj => hb4.block j (HRW.out.lt j hj).2).alloc _) ⟨w4.heap.size,0,none⟩ 1 1 [.pointer (some ⟨b,0,none⟩),.int .i64 (at_ : Int)] rfl rfl (step_cells w4 b at_) (by intro u hu; simp at hu; rcases hu with rfl | rfl <;> rfl) Nat.one_pos (by unfold maxLen; omega) Om (by simp; have:=HBW.out; have:=hb4.size; omega) _ rfl ?_); intro g5 cap5 w5 hown5 hgrow5 hor5 hlt5; (have hb5 : Below w.heap.size w w5:=((HBL.out.trans (hb4.mono HBW.out)).alloc (Zlt HBW.out hb4.size) _).grown hgrow5 (by simp; have:=HBW.out; have:=hb4.size; omega) (fun j hj => (HRW.out.lt j hj).1)); (have hnd:=HND.out w5 hb5); (have c0:=hnd.nc.c0); (obtain ⟨g6,cap6,e6,_,_,_,hc6,_⟩:=irow_at hnd.row Om); (have c2:=(hc6 at_ hatl).2.2); rw [(List.getElem?_eq_some_iff.1 HIT.out.1).2,HIT.out.2.1] at c2; rw [e6,HNB.out] at c0; simp only [Option.map_some] at c2; (have hai : (at_ : Int) < (n.its.length : Int):=by omega); clear hc6 e6 hnd))
   go_step3
   obtain ⟨f,hdf⟩:=HDN.out w5 (.slice (some ⟨g5,0,none⟩) (0 + 1) cap5) hb5 (by rw [HNB.out]; exact hown5)
   have e6:=HIT.out.2.2
   exact ⟨rfl,_,[f],A',n',C',rest',_,_,_,_,_,_,_,_,_,_,_,_,_,_,_,_,_,_,_,_,_,_,hdf,by rw [e6]⟩
 ·rintro a' W ⟨v,rs,A,n,C,rest,u8,u13,u14,u15,u16,u17,u18,u19,u20,u21,u22,u23,u24,u25,u26,u27,u28,u29,u30,u31,u32,u33,hinv,rfl⟩
  have HI : Hid (DInv w t key ls rb W v rs A n C rest):=hinv
  obtain ⟨nx,hmem⟩:=hinv.mem
  have hnl : n.its.length ≤ 100000:=(HW.out.2 _ hmem).1
  have HND : Hid (∀ W',Below w.heap.size w W' → NdAt W' n nx):=fun W' hb' => (HW.out.1.at_ _ hmem).later hb'
  have HBL : Hid (Below w.heap.size w W):=hinv.below
  obtain ⟨p,cap,e,_⟩:=wrow_form hinv.row
  subst e
  have HK : Hid (kid0 n.its = none ↔ rest = []):=hinv.kid
  have HLF:=leaf_any W n nx (HND.out W HBL.out) Om
  obtain ⟨k0,hk0⟩:=Vx (kid0 n.its)
  rw [hk0] at HLF HK
  obtain ⟨b,hb⟩:=Vx n.b
  have HNB : Hid (n.b = b):=hb
  rw [hb] at HLF ⊢
  cases k0 with
  | none =>
   have HL2 : Hid (Calls Tryz.prog 152 #[.pointer (some ⟨b,0,none⟩)] W fun e w' => e = .returned (.bool true) ∧ w' = W):=HLF
   have HR0 : Hid (rest = []):=HK.out.1 rfl
   clear HLF hinv hb hk0 HK
   go_wp2_with (go_at_call 152; refine HL2.out.mono ?_; rintro e w' ⟨rfl,rfl⟩)
   simp only [Exit.jump]
   refine bodyPost_ret (v:=.tuple #[.pointer (some ⟨b,0,none⟩),.slice p rs.length cap]) (by simp [results,Tryz.results117,go_sem]) rfl ?_
   exact ⟨_,rs,A,n,C,by rw [HNB.out],by have:=HI.out; rw [HR0.out] at this; exact this⟩
  | some k0 =>
   have HL2 : Hid (Calls Tryz.prog 152 #[.pointer (some ⟨b,0,none⟩)] W fun e w' => e = .returned (.bool false) ∧ w' = W):=HLF
   have hrne : rest ≠ []:=fun e => by have:=HK.out.2 e; cases this
   obtain ⟨it,hit,kb,hkb,A',n',C',rest',hn',hdown⟩:=HI.out.down hrne
   have HTW:=toward_any W n nx key (HND.out W HBL.out) HI.out.srt Om
   obtain ⟨at_,hat⟩:=Vx (towardL key n.its)
   rw [hat,hb] at HTW
   rw [hat] at hit hdown
   have HT2 : Hid (Calls Tryz.prog 153 #[.pointer (some ⟨b,0,none⟩),.string key] W fun e w' => e = .returned (.int .i64 (at_ : Int)) ∧ Below W.heap.size W w'):=HTW
   have hatl : at_ < n.its.length:=(List.getElem?_eq_some_iff.1 hit).1
   have HIT : Hid (n.its[at_]? = some it ∧ it.kid = some kb ∧ n'.b = kb):=⟨hit,hkb,hn'⟩
   have HDN : Hid (∀ W' v',Below w.heap.size w W' → W'.ownsRow w.heap.size 236 2 v' (rs.length + 1) (wc rs.reverse ++ [.pointer (some ⟨n.b,0,none⟩),.int .i64 (at_ : Int)]) → ∃ f : Fr,DInv w t key ls rb W' v' (f :: rs) A' n' C' rest'):=hdown
   have hrl:=HI.out.len
   clear HLF hb hk0 HTW hat hit hkb hn' hdown
   have HRW : Hid (W.ownsRow w.heap.size 236 2 (.slice p rs.length cap) rs.length (wc rs.reverse)):=hinv.row
   have HBW : Hid (w.heap.size ≤ W.heap.size):=hinv.below.size
   clear hinv
   go_wp2_with (first
    | (go_at_call 152; refine HL2.out.mono ?_; rintro e w' ⟨rfl,hwe⟩; (have hwe2:=hwe.symm); clear hwe; subst hwe2)
    | (go_at_call 153; refine HT2.out.mono ?_; rintro e w4 ⟨rfl,hb4⟩)
    | (at_builtin; go_must (refine wpList_append_lies _ rfl _ _ 189 rfl w.heap.size 236 i0 _ 2 16 Tryz.underlying189 hif hz0 hz1 hz2 rfl (by decide) _ _ _ rfl ((own_kept HRW.out fun j hj => hb4.block j (HRW.out.lt j hj).2).alloc _) ⟨w4.heap.size,0,none⟩ 1 1 [.pointer (some ⟨b,0,none⟩),.int .i64 (at_ : Int)] rfl rfl (step_cells w4 b at_) (by intro u hu; simp at hu; rcases hu with rfl | rfl <;> rfl) Nat.one_pos (by unfold maxLen; omega) Om (by simp; have:=HBW.out; have:=hb4.size; omega) _ rfl ?_); intro g5 cap5 w5 hown5 hgrow5 hor5 hlt5; (have hb5 : Below w.heap.size w w5:=((HBL.out.trans (hb4.mono HBW.out)).alloc (Zlt HBW.out hb4.size) _).grown hgrow5 (by simp; have:=HBW.out; have:=hb4.size; omega) (fun j hj => (HRW.out.lt j hj).1)); (have hnd:=HND.out w5 hb5); (have c0:=hnd.nc.c0); (obtain ⟨g6,cap6,e6,_,_,_,hc6,_⟩:=irow_at hnd.row Om); (have c2:=(hc6 at_ hatl).2.2); rw [(List.getElem?_eq_some_iff.1 HIT.out.1).2,HIT.out.2.1] at c2; rw [e6,HNB.out] at c0; simp only [Option.map_some] at c2; (have hai : (at_ : Int) < (n.its.length : Int):=by omega); clear hc6 e6 hnd))
   go_step3
   obtain ⟨f,hdf⟩:=HDN.out w5 (.slice (some ⟨g5,0,none⟩) (rs.length + 1) cap5) hb5 (by rw [HNB.out]; exact hown5)
   have e6:=HIT.out.2.2
   refine ⟨rfl,⟨_,f :: rs,A',n',C',rest',_,_,_,_,_,_,_,_,_,_,_,_,_,_,_,_,_,_,_,_,_,_,hdf,by rw [e6]⟩,?_⟩
   have h1:=HI.out.len
   have h2 : 0 < rest.length:=List.length_pos_iff.2 hrne
   simp only [wayLen]
   simp
   omega
section
def SeqV {α : Type} (F : Fence) (n : Nat) (P : Program) (g : Nat) (lb : Array Value) (encs : α → Array Value) (Kp : World → World → Prop) (S Sp : List α → Prop) (V : List α → α → Prop) (w : World) : Prop :=
 ∀ (l : Nat) (J Jx : List α → World → Prop) (W : World),Below w.heap.size w W →
  (∀ pre x W1,J pre W1 → V pre x → YieldAt F (n - 1) P l (encs x) W1 fun e W' => (e = .returned (.bool true) ∧ J (pre ++ [x]) W' ∧ Kp W1 W') ∨ (e = .returned (.bool false) ∧ Jx (pre ++ [x]) W')) →
  J [] W → CallsIn F n P g (#[.func (.yield l) #[] #[]] ++ lb) W fun e W' => (∃ v,e = .returned v) ∧ ((∃ xs,S xs ∧ J xs W') ∨ (∃ pre,Sp pre ∧ Jx pre W'))
variable {F : Fence} {n : Nat} {P : Program}
def lrec (fn : FuncId) (tmps : Array Value) (ps : Array Tmp) (assign body : Code) (d : Nat) (st : LoopState) (pe : Option Code) : Loop:={ state:=st,pending:=pe,fn,tmps,params:=ps,assign,body,defers:=d }
theorem round_over {fn : FuncId} {tmps : Array Value} {ps : Array Tmp} {assign body : Code} {d : Nat} {W3 : World} (j : Option Code) (hl3 : W3.heap[d + 1]? = some (.loop (lrec fn tmps ps assign body d .busy none))) (hd3 : W3.heap[d]? = some (.deferred (some []))) :
  (Instr.endRound (d + 1) j).run P W3 = .ok (.bool j.isNone) (W3.putObj (d + 1) (.loop (lrec fn tmps ps assign body d (if j.isNone then .ready else .done) j))) ∧
   (W3.putObj (d + 1) (.loop (lrec fn tmps ps assign body d (if j.isNone then .ready else .done) j))).heap[d + 1]? = some (.loop (lrec fn tmps ps assign body d (if j.isNone then .ready else .done) j)) ∧
   (W3.putObj (d + 1) (.loop (lrec fn tmps ps assign body d (if j.isNone then .ready else .done) j))).heap[d]? = some (.deferred (some [])) :=
 ⟨run_endRound (P:=P) j hl3,World.putObj_heap_same (Gx hl3),(World.putObj_heap_other Om).trans hd3⟩
theorem wpIn_rangeV {α : Type} {g : Operand} {ps : Array Tmp} {assign body : Code} {Q : Exit → Act → World → Prop} {a : Act} {w : World}
  (hro : F.round = none) (h1 : 1 ≤ n) {gf : Nat} {lb : Array Value} (hg : a.eval g = .func (.func gf) #[] lb) (hFg : F.fn gf) (eg : ∀ args w,(callFunc gf args).run P w = .ok (.enter gf args) w)
  {encs : α → Array Value} {Kp : World → World → Prop} {S Sp : List α → Prop} {V : List α → α → Prop} {w0 : World} (hseq : SeqV F (n - 1) P gf lb encs Kp S Sp V w0)
  (hKt : ∀ {A B C : World},Kp A B → Kp B C → Kp A C) (hKb : ∀ (W : World) (l : Nat) (o o' : Obj),w.heap.size ≤ l → W.heap[l]? = some o → o.isCells = false → Kp W (W.putObj l o')) (hb0 : Below w0.heap.size w0 w) (hps : ∀ x,(encs x).size = ps.size)
  (I : List α → World → Prop) (Ix : Code → List α → World → Prop) (hI : OwnFrom w.heap.size I) (hIx : ∀ c,OwnFrom w.heap.size (Ix c)) (h0 : I [] w) (Ax : α → Act → World → Prop) (hAx : ∀ x a',OwnFrom w.heap.size (fun (_ : Unit) W => Ax x a' W))
  (hassign : ∀ (l : Nat) (pre : List α) (x : α) (W : World) (K : Act → World → Prop),I pre W → V pre x → (∀ a' W',KeepsFrom w.heap.size W W' → Kp W W' → I pre W' → Ax x a' W' → K a' W') →
   assign.wpIn (F.inRound l) (n - 1 - 1) P (Exit.then K (fun _ _ _ => False)) { tmps:=(ps.zip (encs x)).foldl (fun t (p,v) => t.setIfInBounds p v) a.tmps,defers:=[] } W)
  (hbody : ∀ (l : Nat) (pre : List α) (x : α) (a' : Act) (W : World),I pre W → Ax x a' W → V pre x → body.wpIn (F.inRound l) (n - 1 - 1) P (ownPostG w.heap.size Kp I Ix (pre ++ [x]) W) a' W)
  (hdone : ∀ (D : Nat) (xs : List α) (W : World),w.heap.size ≤ D → S xs → I xs W → W.heap[D]? = some (.deferred (some [])) → Q .normal { a with defers:={ target:=.collected D,args:=#[] } :: a.defers } W)
  (hstop : ∀ (D : Nat) (c : Code) (pre : List α) (W : World),w.heap.size ≤ D → Sp pre → Ix c pre W → W.heap[D]? = some (.deferred (some [])) → c.wpIn F n P Q { a with defers:={ target:=.collected D,args:=#[] } :: a.defers } W) :
  (Code.rangeFunc g ps assign body).wpIn F n P Q a w:=by
 refine wpIn_rangeFunc ?_
 intro fn hfn
 rw [hro]
 obtain ⟨W1,hW1⟩:=Vx ((w.alloc (.deferred (some []))).alloc (.loop (lrec fn a.tmps ps assign body w.heap.size .ready none)))
 have hL1 : W1.heap[w.heap.size + 1]? = some (.loop (lrec fn a.tmps ps assign body w.heap.size .ready none)):=by
  have:=World.alloc_heap_new (w.alloc (.deferred (some []))) (.loop (lrec fn a.tmps ps assign body w.heap.size .ready none))
  rw [World.size_alloc,hW1] at this
  exact this
 have hK1 : W1.heap[w.heap.size]? = some (.deferred (some [])):=by
  rw [← hW1]
  exact (Below.heap_alloc _ _ _ Si).trans (World.alloc_heap_new w _)
 have hb1 : Below w0.heap.size w0 W1:=by
  rw [← hW1]
  exact hb0.trans ((((Bxr _ w).alloc Zlr _).alloc Si _).mono hb0.size)
 refine ⟨w.heap.size + 1,[{ target:=.collected w.heap.size,args:=#[] }],W1,{ target:=.fn (.func gf) lb,args:=#[.func (.yield (w.heap.size + 1)) #[] #[]] },W1,gf,#[.func (.yield (w.heap.size + 1)) #[] #[]] ++ lb,W1,by rw [← hW1]; exact run_enterLoop_outer _ _ _ _ _,by simp only [resolve,hg]; simp [go_sem],fun f' hf' => by simp [Target.leads] at hf'; subst hf'; exact hFg,by simp [invoke,go_sem,eg],fun _ => h1,?_⟩
 refine (hseq (w.heap.size + 1) (fun pre W => I pre W ∧ W.heap[w.heap.size + 1]? = some (.loop (lrec fn a.tmps ps assign body w.heap.size .ready none)) ∧ W.heap[w.heap.size]? = some (.deferred (some [])))
  (fun pre W => ∃ c,Ix c pre W ∧ W.heap[w.heap.size + 1]? = some (.loop (lrec fn a.tmps ps assign body w.heap.size .done (some c))) ∧ W.heap[w.heap.size]? = some (.deferred (some [])))
  W1 hb1 ?_ ⟨by rw [← hW1]; exact hI.alloc _ (hI.alloc _ h0),hL1,hK1⟩).mono ?_
 ·rintro pre x W ⟨hi,hl,hk⟩ hV
  refine ⟨fn,_,assign,body,run_yield (P:=P) (args:=encs x) hl (hps x),roundIn_of_wpIn hfn (hassign _ pre x W _ hi hV ?_)⟩
  intro a' Wa hkfa hkpa hia hax
  have hla:=hkfa.same _ _ Om hl rfl
  have hka:=hkfa.same _ _ Zlr hk rfl
  have hlt : w.heap.size + 1 < Wa.heap.size:=(Gx hla)
  refine ⟨_,run_beginRound hla rfl,?_⟩
  have hl2 : (Wa.putObj (w.heap.size + 1) (.loop (lrec fn a.tmps ps assign body w.heap.size .busy none))).heap[w.heap.size + 1]? = some (.loop (lrec fn a.tmps ps assign body w.heap.size .busy none)):=World.putObj_heap_same hlt
  have hk2 : (Wa.putObj (w.heap.size + 1) (.loop (lrec fn a.tmps ps assign body w.heap.size .busy none))).heap[w.heap.size]? = some (.deferred (some [])):=(World.putObj_heap_other Om).trans hka
  have hw2 : Kp Wa (Wa.putObj (w.heap.size + 1) (.loop (lrec fn a.tmps ps assign body w.heap.size .busy none))):=hKb _ _ _ _ Om hla rfl
  refine wpIn_mono (hbody _ pre x a' _ (hI.putObj _ hia Om hla rfl) ((hAx x a').putObj (s:=()) _ hax Om hla rfl) hV) ?_
  rintro e a3 W3 hp
  cases e with
  | normal =>
   obtain ⟨hk3,hkp3,hi3⟩:=hp
   have hl3:=hk3.same _ _ Om hl2 rfl
   obtain ⟨hr,hl4,hk4⟩:=round_over (P:=P) none hl3 (hk3.same _ _ Zlr hk2 rfl)
   exact ⟨_,_,hr,.inl ⟨rfl,⟨hI.putObj _ hi3 Om hl3 rfl,hl4,hk4⟩,hKt hkpa (hKt (hKt hw2 hkp3) (hKb _ _ _ _ Om hl3 rfl))⟩⟩
  | ret =>
   obtain ⟨hk3,hi3⟩:=hp
   have hl3:=hk3.same _ _ Om hl2 rfl
   obtain ⟨hr,hl4,hk4⟩:=round_over (P:=P) (some .ret) hl3 (hk3.same _ _ Zlr hk2 rfl)
   exact ⟨_,_,hr,.inr ⟨rfl,.ret,(hIx _).putObj _ hi3 Om hl3 rfl,hl4,hk4⟩⟩
  | exit id =>
   obtain ⟨hk3,hi3⟩:=hp
   have hl3:=hk3.same _ _ Om hl2 rfl
   obtain ⟨hr,hl4,hk4⟩:=round_over (P:=P) (some (.exit id)) hl3 (hk3.same _ _ Zlr hk2 rfl)
   exact ⟨_,_,hr,.inr ⟨rfl,.exit id,(hIx _).putObj _ hi3 Om hl3 rfl,hl4,hk4⟩⟩
  | goto t =>
   obtain ⟨hk3,hi3⟩:=hp
   have hl3:=hk3.same _ _ Om hl2 rfl
   obtain ⟨hr,hl4,hk4⟩:=round_over (P:=P) (some (.goto t)) hl3 (hk3.same _ _ Zlr hk2 rfl)
   exact ⟨_,_,hr,.inr ⟨rfl,.goto t,(hIx _).putObj _ hi3 Om hl3 rfl,hl4,hk4⟩⟩
  | panic ch => exact hp.elim
  | outgrown => exact hp.elim
 ·rintro e W2 ⟨⟨v,rfl⟩,(⟨xs,hS,hi,hl,hk⟩ | ⟨pre,hSp,c,hi,hl,hk⟩)⟩
  ·exact ⟨none,_,run_endLoop (P:=P) hl (by simp [lrec]),hdone _ xs _ Zlr hS (hI.putObj _ hi Om hl rfl) ((World.putObj_heap_other Om).trans hk)⟩
  ·exact ⟨some c,_,run_endLoop (P:=P) hl (by simp [lrec]),hstop _ c pre _ Zlr hSp ((hIx c).putObj _ hi Om hl rfl) ((World.putObj_heap_other Om).trans hk)⟩
end
section
open Go.RowKit Go.Shelf
attribute [local go_sem] Oper.semAt_some
theorem wc_at : ∀ (l : List Fr) (i : Nat) (h : i < l.length),(wc l)[i * 2]? = some (.pointer (some ⟨(l[i]).n.b,0,none⟩)) ∧ (wc l)[i * 2 + 1]? = some (.int .i64 ((l[i]).X.length : Int))
 | f :: r,0,_ => ⟨rfl,rfl⟩
 | f :: r,i + 1,h => by
  have:=wc_at r i (by simpa using h)
  have e0 : (i + 1) * 2 = i * 2 + 1 + 1:=by omega
  have e1 : (i + 1) * 2 + 1 = (i * 2 + 1) + 1 + 1:=by omega
  rw [e1,e0]
  simpa only [wc,List.getElem?_cons_succ,List.getElem_cons_succ] using this
theorem wrow_at {w : World} {B : Nat} {v : Value} {l : List Fr} (h : w.ownsRow B 236 2 v l.length (wc l)) (hl : 0 < l.length) : ∃ g cap,v = .slice (some ⟨g,0,none⟩) l.length cap ∧ ∀ i (hi : i < l.length),w.cell? ⟨g,i * 2,none⟩ = some (.pointer (some ⟨(l[i]).n.b,0,none⟩)) ∧ w.cell? ⟨g,i * 2 + 1,none⟩ = some (.int .i64 ((l[i]).X.length : Int)):=by
 have hr:=h
 obtain ⟨_,⟨rfl,h2⟩ | ⟨g,cap,cur,rfl,_,_,h3,h4,_⟩⟩:=h
 ·omega
 ·refine ⟨g,cap,rfl,fun i hi => ?_⟩
  obtain ⟨e0,e1⟩:=wc_at l i hi
  exact ⟨(hr.cellAt (i * 2) Om).trans e0,(hr.cellAt (i * 2 + 1) Om).trans e1⟩
def encF (x : Nat × Fr) : Array Value:=#[.int .i64 (x.1 : Int),.agg #[.pointer (some ⟨x.2.n.b,0,none⟩),.int .i64 (x.2.X.length : Int)]]
def comes (rs : List Fr) (pre : List (Nat × Fr)) (x : Nat × Fr) : Prop:=∃ rest,rs = pre.map (·.2) ++ x.2 :: rest ∧ x.1 = rest.length
def keepsW (Bs : Nat) (v : Value) (A B : World) : Prop:=B.heap[Bs]? = A.heap[Bs]? ∧ ∀ k,v.ownBlock = some k → B.heap[k]? = A.heap[k]?
theorem keepsW.trans {Bs : Nat} {v : Value} {A B C : World} (h : keepsW Bs v A B) (k : keepsW Bs v B C) : keepsW Bs v A C:=⟨k.1.trans h.1,fun j hj => (k.2 j hj).trans (h.2 j hj)⟩
theorem back1_in (F : Fence) (n : Nat) (hf : F.fn 217) (hro : F.round = none) (hn : 1 ≤ n) (l Bs : Nat) (B : Nat) (v : Value) (rs : List Fr) (hlen : rs.length ≤ 1000000) (J Jx : List (Nat × Fr) → World → Prop)
  (hY : ∀ pre x W,J pre W → comes rs pre x → YieldAt F (n - 1) Tryz.prog l (encF x) W fun e W' => (e = .returned (.bool true) ∧ J (pre ++ [x]) W' ∧ keepsW Bs v W W') ∨ (e = .returned (.bool false) ∧ Jx (pre ++ [x]) W'))
  (W : World) (hBs : W.cell? ⟨Bs,0,none⟩ = some v) (hrow : W.ownsRow B 236 2 v rs.length (wc rs.reverse)) (h0 : J [] W) :
  CallsIn F n Tryz.prog 217 #[.func (.yield l) #[] #[],.pointer (some ⟨Bs,0,none⟩)] W fun e W' => (∃ v,e = .returned v) ∧
   ((∃ ys : List (Nat × Fr),ys.map (·.2) = rs ∧ J ys W') ∨ (∃ pre : List (Nat × Fr),(∃ rest,rs = pre.map (·.2) ++ rest) ∧ Jx pre W')):=by
 obtain ⟨p,cap,e,_⟩:=wrow_form hrow
 subst e
 refine callsIn_of_wp Tryz.func217 rfl hf ?_ hro
 simp only [Tryz.ntmps217,List.size_toArray,List.length_cons,List.length_nil,Nat.reduceAdd,Nat.reduceSub,Array.replicate_succ,Array.replicate_zero,List.push_toArray,List.append_toArray,List.nil_append,List.cons_append]
 gi_wp2
 gi_loopw [3] (fun i wr => ∃ (pre : List (Nat × Fr)) (rest : List Fr),rs = pre.map (·.2) ++ rest ∧ i = .int .i64 ((rest.length : Int) - 1) ∧ J pre wr ∧ keepsW Bs (.slice p rs.length cap) W wr) (fun i _ => (intOf i + 1).toNat)
 case atStart => exact ⟨[],rs,rfl,by go_num,h0,⟨rfl,fun _ _ => rfl⟩⟩
 case round =>
  obtain ⟨pre,rest,hrs,rfl,hJ,hkp⟩:=hrel
  cases rest with
  | nil =>
   have hneg : ¬ (0 : Int) ≤ ((([] : List Fr).length : Nat) : Int) - 1:=by simp
   gi_wp2
   go_end0
   exact ⟨⟨_,rfl⟩,.inl ⟨pre,by simp,hJ⟩⟩
  | cons f rest =>
   obtain ⟨fn,tmps,assign,body,hy,hR⟩:=hY pre (rest.length,f) wr hJ ⟨rest,hrs,rfl⟩
   unfold encF at hy
   dsimp only at hy
   have hll : rs.length = pre.length + (rest.length + 1):=by rw [hrs]; simp
   obtain ⟨r,hr⟩:=Vx rest.length
   have hrow2:=own_kept hrow hkp.2
   rw [← List.length_reverse] at hrow2
   obtain ⟨g,cap',e,hc⟩:=wrow_at hrow2 (by rw [List.length_reverse]; omega)
   simp only [Value.slice.injEq] at e
   obtain ⟨rfl,_,rfl⟩:=e
   obtain ⟨c0,c1⟩:=hc r (by rw [List.length_reverse]; omega)
   have hfr : rs.reverse[r]'(by rw [List.length_reverse]; omega) = f:=by
    subst hr
    simp [hrs]
   rw [hfr] at c0 c1
   have cb : wr.cell? ⟨Bs,0,none⟩ = some (.slice (some ⟨g,0,none⟩) rs.length cap):=cell_at hkp.1 hBs
   have hi : ((((f :: rest).length : Nat) : Int) - 1) = (r : Int):=by simp [← hr]
   rw [hi]
   have hrl : (r : Int) < (rs.length : Int):=by omega
   rw [hr] at hy
   have HRS : Hid (rs = pre.map (·.2) ++ f :: rest ∧ rest.length = r):=⟨hrs,hr⟩
   clear hc hrow2 hfr hi hll hrs hr
   gi_wp2
   refine hR.mono ?_
   rintro e W3 (⟨rfl,hJ3,hk3⟩ | ⟨rfl,hJx3⟩)
   ·gi_wp2
    go_roundw
    case rel => exact ⟨pre ++ [(rest.length,f)],rest,by rw [HRS.out.1]; simp,by rw [HRS.out.2],hJ3,hkp.trans hk3⟩
    case measure => simp [intOf]
   ·gi_wp2
    refine bodyPost_ret (results_none rfl _ _ _) rfl ?_
    exact ⟨⟨_,rfl⟩,.inr ⟨pre ++ [(rest.length,f)],⟨rest,by rw [HRS.out.1]; simp⟩,hJx3⟩⟩
theorem back_in (F : Fence) (n : Nat) (hf : F.fn 156) (hro : F.round = none) (a : Option Addr) (len cap : Nat) (w : World) :
  CallsIn F n Tryz.prog 156 #[.slice a len cap] w fun e w' => e = .returned (.func (.func 217) #[] #[.pointer (some ⟨w.heap.size,0,none⟩)]) ∧ w' = w.alloc (.cells #[.slice a len cap] 189):=by
 refine callsIn_of_wp Tryz.func156 rfl hf ?_ hro
 simp only [Tryz.ntmps156,List.size_toArray,List.length_cons,List.length_nil,Nat.reduceAdd,Nat.reduceSub,Array.replicate_succ,Array.replicate_zero,List.push_toArray,List.append_toArray,List.nil_append,List.cons_append]
 gi_wp2
 go_ret
 exact ⟨rfl,rfl⟩
theorem back_stops (F : Fence) (n : Nat) (hf : F.fn 217) (hro : F.round = none) (hn : 1 ≤ n) (Bs B : Nat) (v : Value) (rs : List Fr) (hlen : rs.length ≤ 1000000) (w : World) (hBs : w.cell? ⟨Bs,0,none⟩ = some v) (hbl : Bs < w.heap.size) (hrow : w.ownsRow B 236 2 v rs.length (wc rs.reverse)) :
  SeqV F n Tryz.prog 217 #[.pointer (some ⟨Bs,0,none⟩)] encF (keepsW Bs v) (fun ys => ys.map (·.2) = rs) (fun pre => ∃ rest,rs = pre.map (·.2) ++ rest) (comes rs) w:=fun l J Jx W hW hY h0 =>
 back1_in F n hf hro hn l Bs B v rs hlen J Jx hY W (cell_at (hW.block _ hbl) hBs) (own_kept hrow fun k hk => hW.block _ (hrow.lt k hk).2) h0
end
end BB
end Go.Proofs.YtmmmkjhpmlfopaaGreatDoor
