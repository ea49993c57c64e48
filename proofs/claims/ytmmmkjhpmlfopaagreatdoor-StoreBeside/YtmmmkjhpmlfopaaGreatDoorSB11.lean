/- ZB24 ZB27 ZM94 ZB42 ZB20 ZB25 ZM92 -/
import Derived.Test.YtmmmkjhpmlfopaaGreatDoorSB10
set_option maxHeartbeats 8000000
set_option maxRecDepth 100000
namespace Go.Proofs.YtmmmkjhpmlfopaaGreatDoor
open Go.RowKit
namespace BB
theorem TreeIs.filled {w : World} {Z : Nat → Prop} {t m : Nat} {ls : List (List Nd)} {l : List It} (h : TreeIs w Z t m ls l) (hm : 4 ≤ m) : Filled ls:=by
 obtain ⟨rb,_,hg⟩:=h.some_
 exact filled_of hm hg h.wid
theorem TreeIs.low {w : World} {Z : Nat → Prop} {t m : Nat} {ls : List (List Nd)} {l : List It} (h : TreeIs w Z t m ls l) (hm : 4 ≤ m) (hl : l.length ≤ 1000000000000) : ls.length ≤ 64:=by
 obtain ⟨rb,_,hg⟩:=h.some_
 exact high_64 hm hg h.wid (by rw [h.its]; exact hl)
theorem tree_first (w : World) (Z : Nat → Prop) (t m : Nat) (key : ByteArray) (ls : List (List Nd)) (l : List It) (h : TreeIs w Z t m ls l) (hm : 4 ≤ m) (hm2 : m ≤ 64) (hl : l.length ≤ 1000000000000) :
  Calls Tryz.prog 169 #[.pointer (some ⟨t,0,none⟩),.string key] w fun e w' => Below w.heap.size w w' ∧ ∃ q i,Spot ls q i (l.drop (cntL key l)) ∧ i ≤ 64 ∧ e = .returned (.tuple #[.pointer q,.int .i64 (i : Int)]):=by
 obtain ⟨rb,ht,hg⟩:=h.some_
 refine (first_any w Z t m l.length rb key ls ht h.hp hg (by have:=h.low hm hl; omega) (fun x hx => by have:=wlv_le h.wid x hx; omega)).mono ?_
 rintro e w' ⟨hb,rs,A,n,C,hd,rfl⟩
 have hlast : ls.getLast? = some (A ++ n :: C):=by rw [hd.all]; simp
 have hsp:=Spot.next (i:=cntL key n.its) (h.filled hm) hlast
 have hn : n.its.length ≤ m:=wlv_le h.wid _ (last_mem hlast)
 have hc:=cntL_le key n.its
 have e1 : l.drop (cntL key l) = n.its.drop (cntL key n.its) ++ C.flatMap (·.its):=by
  rw [← h.its,hd.items,cntL_append hd.mid.1,cntL_behind hd.mid.2.1,List.drop_append,List.drop_append]
  have h0 : (A.flatMap (·.its)).length + cntL key n.its - (A.flatMap (·.its)).length = cntL key n.its:=by omega
  rw [h0,List.drop_eq_nil_of_le Om,show cntL key n.its - n.its.length = 0 by omega]
  simp
 refine ⟨hb,_,_,by rw [e1]; exact hsp,by split <;> omega,?_⟩
 congr 3
 split <;> rfl
def vLen : Value → Nat
 | .slice _ n _ => n
 | _ => 0
theorem pair_cells (w : World) (a b : ByteArray) : ∀ j u,([.string a,.string b] : List Value)[j]? = some u → (w.alloc (.cells #[.string a,.string b] 152)).cell? ((⟨w.heap.size,0,none⟩ : Addr).add j) = some u:=by
 intro j u hj
 match j,hj with
 | 0,hj => simp at hj; subst hj; simp [Addr.add]
 | 1,hj => simp at hj; subst hj; simp [Addr.add]
theorem Tryz.infoPair : (Tryz.prog.info? 152).map (fun i => (i.zero,i.size,i.bytes)) = some (some (.agg #[.string ⟨#[]⟩,.string ⟨#[]⟩]),2,32):=by kernel_rfl
theorem prow_form {w : World} {B : Nat} {v : Value} {n : Nat} {xs : List Value} (h : w.ownsRow B 152 2 v n xs) : ∃ p cap,v = .slice p n cap ∧ n ≤ cap ∧ cap ≤ maxLen:=by
 obtain ⟨_,⟨rfl,h2⟩ | ⟨g,cap,cur,rfl,_,_,h3,h4,_⟩⟩:=h
 ·exact ⟨none,0,by rw [h2],by omega,Nat.zero_le _⟩
 ·exact ⟨_,cap,rfl,h3,h4⟩
theorem tree_list (w : World) (Z : Nat → Prop) (t m : Nat) (frm to : ByteArray) (most : Int) (ls : List (List Nd)) (l : List It) (h : TreeIs w Z t m ls l) (hm : 4 ≤ m) (hm2 : m ≤ 64) (hl : l.length ≤ 4000000000) (hs : ∀ y ∈ l,y.key.size ≤ 281474976710656 ∧ y.val.size ≤ 281474976710656) :
  Calls Tryz.prog 127 #[.pointer (some ⟨t,0,none⟩),.string frm,.string to,.int .i64 most] w fun e w' => Below w.heap.size w w' ∧ ∃ v,e = .returned v ∧ w'.ownsRow w.heap.size 152 2 v (listL frm to most l).length (pc (listL frm to most l)):=by
 obtain ⟨i0,hif,hz0,hz1,hz2⟩:=info_parts Tryz.infoPair
 have HF : Hid (Calls Tryz.prog 169 #[.pointer (some ⟨t,0,none⟩),.string frm] w fun e w' => Below w.heap.size w w' ∧ ∃ q i,Spot ls q i (l.drop (cntL frm l)) ∧ i ≤ 64 ∧ e = .returned (.tuple #[.pointer q,.int .i64 (i : Int)])):=tree_first w Z t m frm ls l h hm hm2 Om
 have HT : Hid (Filled ls ∧ Hp w Z (allX ls) ∧ (∀ x ∈ allX ls,x.1.its.length ≤ 64) ∧ ∀ y ∈ l,y.key.size ≤ 281474976710656 ∧ y.val.size ≤ 281474976710656):=⟨h.filled hm,h.hp,fun x hx => by have:=wlv_le h.wid x hx; omega,hs⟩
 clear h hs
 go_enter Tryz.func127,Tryz.ntmps127
 go_wp2_with fail
 refine HF.out.mono ?_
 rintro e w1 ⟨hb1,q0,i0',hsp,hi0,rfl⟩
 go_wp2_with fail
 go_loopw [9,10,11] (fun v q i wr => ∃ (done r : List It) (k : Nat) (qa : Option Addr),listL frm to most l = done ++ tellL to (most - done.length) r ∧ (∃ k0,r = l.drop k0 ∧ done.length + r.length ≤ l.length) ∧ i = .int .i64 (k : Int) ∧ q = .pointer qa ∧ Spot ls qa k r ∧ k ≤ 64 ∧ Below w.heap.size w wr ∧ wr.ownsRow w.heap.size 152 2 v done.length (pc done)) (fun v _ _ _ => l.length - vLen v)
 case atStart => exact ⟨[],_,_,_,by simp [listL],⟨_,rfl,by simp⟩,rfl,rfl,hsp,hi0,hb1,World.ownsRow_nil _ _ _ _⟩
 case round =>
  obtain ⟨done,r,k,qa,hlist,⟨k0,hr0,hlen⟩,rfl,rfl,hsp,hk,hb,hrow⟩:=hrel
  obtain ⟨pv,cap,rfl,hcap,hcap2⟩:=prow_form hrow
  have HB : Hid (Below w.heap.size w wr):=hb
  have HRW : Hid (wr.ownsRow w.heap.size 152 2 (.slice pv done.length cap) done.length (pc done)):=hrow
  have HL : Hid (listL frm to most l = done ++ tellL to (most - done.length) r ∧ r = l.drop k0 ∧ done.length + r.length ≤ l.length):=⟨hlist,hr0,hlen⟩
  have hbs:=hb.size
  clear hb hrow hlist hr0 hlen
  rcases hsp with ⟨rfl,rfl⟩ | ⟨A,n,C,hlast,hkn,rfl,hr⟩
  ·go_wp2
   go_ret
   refine ⟨HB.out,_,rfl,?_⟩
   have e:=HL.out.1
   rw [tellL_nil,List.append_nil] at e
   rw [e]
   exact HRW.out
  ·have hnd : NdAt wr n (hd C none):=(HT.out.2.1.at_ _ (last_mem hlast)).later HB.out
   have hn64 : n.its.length ≤ 64:=HT.out.2.2.1 _ (last_mem hlast)
   have HN : Hid (ls.getLast? = some (A ++ n :: C)):=hlast
   have c0:=hnd.nc.c0
   obtain ⟨g,gc,ev,_,_,_,hcc,_⟩:=irow_at hnd.row Om
   rw [ev] at c0
   obtain ⟨ck,cv,cp⟩:=hcc k hkn
   obtain ⟨x,hx⟩:=Vx (n.its[k])
   rw [hx] at ck cv cp
   have hrx : r = x :: (n.its.drop (k + 1) ++ C.flatMap (·.its)):=by rw [hr,List.drop_eq_getElem_cons hkn,hx]; rfl
   have hxm : x ∈ l:=by
    have h1 : x ∈ r:=by rw [hrx]; simp
    rw [HL.out.2.1] at h1
    exact List.mem_of_mem_drop h1
   obtain ⟨hks,hvs⟩:=HT.out.2.2.2 x hxm
   have HRX : Hid (r = x :: (n.its.drop (k + 1) ++ C.flatMap (·.its))):=hrx
   have HND : Hid (∀ w',Below w.heap.size w w' → NdAt w' n (hd C none)):=fun w' hb' => (HT.out.2.1.at_ _ (last_mem hlast)).later hb'
   obtain ⟨b,hb⟩:=Vx n.b
   have HNB : Hid (n.b = b):=hb
   obtain ⟨nl,hnl⟩:=Vx n.its.length
   have HNL : Hid (n.its.length = nl):=hnl
   rw [hb,hnl] at c0
   rw [hnl] at hkn hn64
   rw [hb]
   have hkni : (k : Int) < (nl : Int):=by omega
   clear hlast hcc ev hx hr hrx hxm hnd hb hnl
   by_cases hmo : (done.length : Int) < most
   ·have hcs : (to.toList.isEmpty = false ∧ ¬ to.toList = [] ∧ Op.bytesLess x.key.toList to.toList = false) ∨ (to.toList.isEmpty = true ∧ to.toList = []) ∨ (to.toList.isEmpty = false ∧ ¬ to.toList = [] ∧ Op.bytesLess x.key.toList to.toList = true):=by
     cases to.toList with
     | nil => exact Or.inr (Or.inl ⟨rfl,rfl⟩)
     | cons a rr =>
      cases Op.bytesLess x.key.toList (a :: rr) with
      | true => exact Or.inr (Or.inr ⟨rfl,by simp,rfl⟩)
      | false => exact Or.inl ⟨rfl,by simp,rfl⟩
    have HUN : Hid (untilB to x.key = (to.toList.isEmpty || Op.bytesLess x.key.toList to.toList)):=rfl
    rcases hcs with ⟨h1,h2,h3⟩ | hcs
    ·go_wp2
     go_ret
     refine ⟨HB.out,_,rfl,?_⟩
     have e:=HL.out.1
     have hu:=HUN.out
     rw [h1,h3] at hu
     rw [HRX.out,tellL_stop hu,List.append_nil] at e
     rw [e]
     exact HRW.out
    ·have hut : untilB to x.key = true:=by
      rw [HUN.out]
      rcases hcs with ⟨h1,h2⟩ | ⟨h1,h2,h3⟩
      ·rw [h1]; rfl
      ·rw [h3,Bool.or_true]
     have HNX : Hid (listL frm to most l = (done ++ [x]) ++ tellL to (most - ((done ++ [x]).length : Int)) (n.its.drop (k + 1) ++ C.flatMap (·.its)) ∧ (n.its.drop (k + 1) ++ C.flatMap (·.its)) = l.drop (k0 + 1) ∧ (done ++ [x]).length + (n.its.drop (k + 1) ++ C.flatMap (·.its)).length ≤ l.length):=by
      have hh:=HL.out
      rw [HRX.out] at hh
      refine ⟨?_,?_,?_⟩
      ·rw [hh.1,tellL_cons hut Om,Zas]
       congr 2
       rw [Zla,List.length_singleton]
       have : most - (done.length : Int) - 1 = most - ((done.length + 1 : Nat) : Int):=by omega
       rw [this]
       rfl
      ·have e:=congrArg List.tail hh.2.1
       rw [List.tail_drop] at e
       exact e
      ·have:=hh.2.2
       simp only [Zla,List.length_cons,List.length_nil] at this ⊢
       omega
     have HPR:=pair_any x.key x.val (Option.map (fun b => { block:=b,off:=0 }) x.kid) wr hks hvs
     have HDL : Hid (done.length < l.length ∧ done.length ≤ 4000000000):=by
      have:=HNX.out.2.2
      simp only [Zla,List.length_cons,List.length_nil] at this
      exact ⟨by omega,by omega⟩
     have HK : Hid (k < n.its.length ∧ n.its.length ≤ 64):=by rw [HNL.out]; exact ⟨hkn,hn64⟩
     clear hut
     rcases hcs with ⟨h1,h2⟩ | ⟨h1,h2,h3⟩
     all_goals
      go_wp2_with fail
      refine HPR.mono ?_
      rintro e w4 ⟨rfl,hb4⟩
      have hdl:=HDL.out
      go_wp2_with (at_builtin; go_must (refine wpList_append_lies _ rfl _ _ 148 rfl w.heap.size 152 i0 _ 2 32 Tryz.underlying148 hif hz0 hz1 hz2 rfl (by decide) _ _ _ rfl ((own_kept HRW.out fun j hj => hb4.block j (HRW.out.lt j hj).2).alloc _) ⟨w4.heap.size,0,none⟩ 1 1 [.string x.key,.string x.val] rfl rfl (pair_cells w4 x.key x.val) (by intro u hu; simp at hu; rcases hu with rfl | rfl <;> rfl) Nat.one_pos (by unfold maxLen; omega) Om (by simp; have:=hb4.size; omega) _ rfl ?_); intro g5 cap5 w5 hown5 hgrow5 hor5 hlt5)
      have hb5 : Below w.heap.size w w5:=((HB.out.trans (hb4.mono hbs)).alloc (Zlt hbs hb4.size) _).grown hgrow5 (by simp; have:=hb4.size; omega) (fun j hj => (HRW.out.lt j hj).1)
      have HSP:=spot_any w5 n (hd C none) (k + 1) (HND.out w5 hb5) (by have:=HK.out; omega) (by have:=HK.out; omega)
      rw [HNB.out] at HSP
      have HSQ:=Spot.next (i:=k + 1) HT.out.1 HN.out
      have HQI : Hid (∃ (q : Option Addr) (j : Nat),(if k + 1 < n.its.length then some ⟨b,0,none⟩ else pOf (hd C none)) = q ∧ (if k + 1 < n.its.length then ((k + 1 : Nat) : Int) else 0) = (j : Int) ∧ j ≤ 64 ∧ Spot ls q j (n.its.drop (k + 1) ++ C.flatMap (·.its))):=by
       rw [HNB.out] at HSQ
       refine ⟨_,(if k + 1 < n.its.length then k + 1 else 0),rfl,by split <;> rfl,by have:=HK.out; split <;> omega,HSQ⟩
      obtain ⟨q,j,hq,hj,hj64,hsq⟩:=HQI.out
      rw [hq,hj] at HSP
      have HS2 : Hid (Calls Tryz.prog 171 #[.pointer (some ⟨b,0,none⟩),.int .i64 ((k : Int) + 1)] w5 fun e w' => e = .returned (.tuple #[.pointer q,.int .i64 (j : Int)]) ∧ w' = w5):=HSP
      have HSJ : Hid (j ≤ 64 ∧ Spot ls q j (n.its.drop (k + 1) ++ C.flatMap (·.its))):=⟨hj64,hsq⟩
      clear HSP HSQ HQI hq hj hsq
      go_wp2_with fail
      refine HS2.out.mono ?_
      rintro e w6 ⟨rfl,hw6⟩
      subst hw6
      go_wp2
      refine ⟨⟨done ++ [x],_,j,q,HNX.out.1,⟨_,HNX.out.2.1,HNX.out.2.2⟩,rfl,rfl,HSJ.out.2,HSJ.out.1,hb5,?_⟩,?_⟩
      ·rw [Zla,List.length_singleton,pc_append]
       exact hown5
      ·simp only [vLen]
       omega
   ·go_wp2
    go_ret
    refine ⟨HB.out,_,rfl,?_⟩
    have e:=HL.out.1
    rw [tellL_zero _ Om,List.append_nil] at e
    rw [e]
    exact HRW.out
theorem tree_del_none (w : World) (Z : Nat → Prop) (t m : Nat) (key : ByteArray) (ls : List (List Nd)) (l : List It) (h : TreeIs w Z t m ls l) (hm : 4 ≤ m) (hm2 : m ≤ 64) (hl : l.length ≤ 4000000000) (hnf : foundL key l = false) :
  Calls Tryz.prog 67 #[.pointer (some ⟨t,0,none⟩),.string key] w fun e w' => Below w.heap.size w w' ∧ e = .returned (.tuple #[.string ⟨#[]⟩,.bool false]):=by
 obtain ⟨rb,ht,hg⟩:=h.some_
 have HD : Hid (Calls Tryz.prog 117 #[.pointer (some ⟨t,0,none⟩),.string key] w (DescP w t key ls rb)):=descend_any w Z t rb key ls h.hp ht.c2 hg (by have:=h.low hm Om; omega) (fun x hx => by have:=wlv_le h.wid x hx; omega)
 have HW : Hid (TreeIs w Z t m ls l ∧ foundL key l = false):=⟨h,hnf⟩
 clear ht hg h hnf
 go_enter Tryz.func67,Tryz.ntmps67
 go_wp2_with fail
 refine HD.out.mono ?_
 rintro e w1 ⟨v,rs,A,n,C,rfl,hinv⟩
 have hpu:=hinv.pure
 have hmem:=hpu.at_
 have hnl : n.its.length ≤ m:=wlv_le HW.out.1.wid _ hmem
 have hnd : NdAt w1 n (hd C none):=(HW.out.1.hp.at_ _ hmem).later hinv.below
 have HF0:=find_any w1 n (hd C none) key hnd hinv.srt Om
 rw [← hpu.found,HW.out.1.its,HW.out.2] at HF0
 have HF : Hid (Calls Tryz.prog 118 #[.pointer (some ⟨n.b,0,none⟩),.string key] w1 fun e w' => e = .returned (.tuple #[.int .i64 (cntL key n.its : Int),.bool false]) ∧ Below w1.heap.size w1 w'):=HF0
 have HB : Hid (Below w.heap.size w w1):=hinv.below
 clear hinv hpu hmem hnl hnd HF0
 go_wp2_with fail
 refine HF.out.mono ?_
 rintro e w2 ⟨rfl,hb2⟩
 go_wp2
 refine bodyPost_ret (v:=.tuple #[.string ⟨#[]⟩,.bool false]) (by simp [results,Tryz.results67,go_sem]) rfl ?_
 exact ⟨below_two HB.out hb2,rfl⟩
def cutL (key : ByteArray) (l : List It) : List It:=l.take (cntL key l) ++ l.drop (cntL key l + 1)
def delL (key : ByteArray) (l : List It) : List It:=if foundL key l then cutL key l else l
theorem cutL_sub (key : ByteArray) (l : List It) : (cutL key l).Sublist l:=by
 unfold cutL
 conv => rhs; rw [← List.take_append_drop (cntL key l) l]
 exact (List.Sublist.refl _).append (by rw [← List.drop_drop]; exact List.drop_sublist _ _)
theorem cutL_length {key : ByteArray} {l : List It} (h : foundL key l = true) : (cutL key l).length + 1 = l.length:=by
 have:=found_lt h
 unfold cutL
 rw [Zla,List.length_take,List.length_drop]
 omega
theorem cut_mid {key : ByteArray} {P l S : List It} (hP : ∀ x ∈ P,kl x.key key = true) (hS : ∀ x ∈ S,kl key x.key = true) (hf : foundL key l = true) : cutL key (P ++ (l ++ S)) = P ++ (cutL key l ++ S):=by
 have hl:=found_lt hf
 have hP0 : P.take (P.length + cntL key l) = P:=List.take_of_length_le Om
 have hP1 : P.drop (P.length + cntL key l + 1) = []:=List.drop_eq_nil_of_le Om
 unfold cutL
 rw [cntL_append hP,cntL_behind hS,List.take_append,List.drop_append,hP0,hP1,show P.length + cntL key l - P.length = cntL key l by omega,show P.length + cntL key l + 1 - P.length = cntL key l + 1 by omega,List.take_append_of_le_length Om,List.drop_append_of_le_length Om]
 simp
theorem DPure.cut {key : ByteArray} {ls : List (List Nd)} {rb : Nat} {rs : List Fr} {A : List Nd} {n : Nd} {C : List Nd} (v' : Value) (h : DPure key ls rb rs A n C) (hf : foundL key n.its = true) : Go.Proofs.YtmmmkjhpmlfopaaGreatDoor.BB.items [A ++ ⟨n.b,v',cutL key n.its⟩ :: C] = cutL key (Go.Proofs.YtmmmkjhpmlfopaaGreatDoor.BB.items ls):=by
 rw [h.items,cut_mid h.mid.1 h.mid.2.1 hf,items_mid]
theorem SI.start {key : ByteArray} {m : Nat} {c : Ctx} {top : Bool} {A C : List Nd} {n n' : Nd} (hg : Good c.all [A ++ n :: C]) (hp : c.SA.length = A.length) (hw : ∀ x ∈ A ++ n :: C,lowB m top true ≤ x.its.length ∧ x.its.length ≤ m) (hf : foundL key n.its = true) (hb : n'.b = n.b) (hi : n'.its = cutL key n.its) : SI m c top A n' C []:=by
 obtain ⟨hfit,hlf⟩:=good_leaf.1 hg
 obtain ⟨hfa,⟨hnb,hok⟩,hfc⟩:=(fits_append hp).1 hfit
 have hsub:=cutL_sub key n.its
 have hlen : n'.its.length + 1 = n.its.length:=by rw [hi]; exact cutL_length hf
 have hwn:=hw n Si
 refine ⟨good_leaf.2 ⟨(fits_append hp).2 ⟨hfa,⟨hb.trans hnb,⟨?_,fun x hx => ?_⟩⟩,hfc⟩,fun x hx => ?_⟩,hp,fun x hx => hw x ?_,⟨?_,?_⟩,trivial⟩
 ·rw [hi]; exact List.Pairwise.sublist hsub hok.srt
 ·rw [hi] at hx
  exact hok.mem x (hsub.subset hx)
 ·rcases Zma hx with hx | hx
  ·exact hlf x (List.mem_append_left _ hx)
  ·rcases Zmc hx with rfl | hx
   ·intro z hz
    rw [hi] at hz
    exact hlf n Si z (hsub.subset hz)
   ·exact hlf x (List.mem_append_right _ (List.mem_cons_of_mem _ hx))
 ·rcases Zma hx with hx | hx
  ·exact List.mem_append_left _ hx
  ·exact List.mem_append_right _ (List.mem_cons_of_mem _ hx)
 ·rw [hlen]; exact hwn.1
 ·omega
theorem del_mem {w5 w6 : World} {Z : Nat → Prop} {t m cnt rb g cap B : Nat} {key : ByteArray} {ls : List (List Nd)} {rs : List Fr} {A C : List Nd} {n : Nd} {v : Value} (hd0 : DPure key ls rb rs A n C) (hp : Hp w5 Z (allX ls)) (hZ : ∀ k,w5.heap.size ≤ k → Z k) (ht : TrAt w5 t m (cnt + 1) rb) (hw : WLv m true ls) (hf : foundL key n.its = true)
  (hrow : w5.ownsRow B 236 2 v rs.length (wc rs.reverse)) (h6 : w6.ownsRow 0 195 3 (.slice (some ⟨g,0,none⟩) (cutL key n.its).length cap) (cutL key n.its).length (ic (cutL key n.its))) (hor : n.v.ownBlock = some g ∨ w5.heap.size ≤ g) (ho : Only (fun k => n.v.ownBlock = some k) w5 w6) :
  SM ((w6.setCell ⟨n.b,0,none⟩ (.slice (some ⟨g,0,none⟩) (cutL key n.its).length cap)).setCell ⟨t,1,none⟩ (.int .i64 (cnt : Int))) Z t m cnt rb key rs (items [A ++ ⟨n.b,.slice (some ⟨g,0,none⟩) (cutL key n.its).length cap,cutL key n.its⟩ :: C]) ((w6.setCell ⟨n.b,0,none⟩ (.slice (some ⟨g,0,none⟩) (cutL key n.its).length cap)).setCell ⟨t,1,none⟩ (.int .i64 (cnt : Int))) [] rs A ⟨n.b,.slice (some ⟨g,0,none⟩) (cutL key n.its).length cap,cutL key n.its⟩ C [] ∧
  ((w6.setCell ⟨n.b,0,none⟩ (.slice (some ⟨g,0,none⟩) (cutL key n.its).length cap)).setCell ⟨t,1,none⟩ (.int .i64 (cnt : Int))).ownsRow B 236 2 v rs.length (wc rs.reverse) ∧
  Only (fun k => Z k ∨ k = t) w5 ((w6.setCell ⟨n.b,0,none⟩ (.slice (some ⟨g,0,none⟩) (cutL key n.its).length cap)).setCell ⟨t,1,none⟩ (.int .i64 (cnt : Int))) ∧ t ≠ n.b ∧ w6.cell? ⟨t,1,none⟩ = some (.int .i64 ((cnt + 1 : Nat) : Int)) ∧ (∀ o,w6.frozen? ⟨t,o,none⟩ = false) ∧ (∃ u,w6.cell? ⟨n.b,0,none⟩ = some u) ∧ ∀ o,w6.frozen? ⟨n.b,o,none⟩ = false:=by
 have hls:=hd0.all
 subst hls
 have hp1 : Hp w5 Z ((n,hd C none) :: (allX (lvls rs) ++ (linkN (some n.b) A ++ (linkN none C ++ allX [])))):=hp.perm (perm_one (lvls rs) [] A C n)
 have hnd : NdAt w5 n (hd C none):=hp1.head
 have hout:=ht.out hp
 have htn : t ≠ n.b:=fun e => hout (Or.inl ⟨(n,hd C none),hd0.at_,Or.inl e⟩)
 have htr : n.v.ownBlock ≠ some t:=fun e => hout (Or.inl ⟨(n,hd C none),hd0.at_,Or.inr e⟩)
 have ht6 : TrAt w6 t m (cnt + 1) rb:=ht.kept (ho.block t ht.lt htr)
 have hn6 : w6.heap[n.b]? = w5.heap[n.b]?:=ho.block _ hnd.lt (ndat_ne hnd hnd)
 obtain ⟨hp7,ho7⟩:=hp1.setRow hZ ho h6 (fun k e => by
  obtain rfl : g = k:=by simpa [Value.ownBlock] using e
  exact hor)
 obtain ⟨w7,hw7⟩:=Vx (w6.setCell ⟨n.b,0,none⟩ (.slice (some ⟨g,0,none⟩) (cutL key n.its).length cap))
 simp only at hp7 ho7
 rw [hw7] at hp7 ho7 ⊢
 have ht7 : TrAt w7 t m (cnt + 1) rb:=ht6.kept (by rw [← hw7]; exact Below.heap_setCell _ _ _ _ (fun e => htn (by simpa using e)))
 have hp7' : Hp w7 Z (allX (lvls rs ++ [A ++ ⟨n.b,.slice (some ⟨g,0,none⟩) (cutL key n.its).length cap,cutL key n.its⟩ :: C])):=hp7.perm (perm_one (lvls rs) [] A C ⟨n.b,.slice (some ⟨g,0,none⟩) (cutL key n.its).length cap,cutL key n.its⟩).symm
 have hZ7 : ∀ k,w7.heap.size ≤ k → Z k:=fun k hk => hZ k (Zlt ho7.size hk)
 have hoth : ∀ k,k ≠ t → (w7.setCell ⟨t,1,none⟩ (.int .i64 (cnt : Int))).heap[k]? = w7.heap[k]?:=fun k hk => Below.heap_setCell _ _ _ _ (fun e => hk (by simpa using e))
 have hp8:=hp7'.other hZ7 (ht7.out hp7') hoth
 have ht8 : TrAt (w7.setCell ⟨t,1,none⟩ (.int .i64 (cnt : Int))) t m cnt rb:=⟨by rw [heap_setCell_at ht7.cells]; simp⟩
 have ho8 : Only (fun k => Z k ∨ k = t) w5 (w7.setCell ⟨t,1,none⟩ (.int .i64 (cnt : Int))):=Only.setCell (Z:=fun k => Z k ∨ k = t) (ho7.mono fun _ hk => Or.inl hk) (p:=⟨t,1,none⟩) (Or.inr rfl) _
 obtain ⟨hwf,hwL,_⟩:=wlv_part hw
 have hgi : SI m (ctxR (rb,⟨none,none⟩) rs) rs.isEmpty A ⟨n.b,.slice (some ⟨g,0,none⟩) (cutL key n.its).length cap,cutL key n.its⟩ C []:=SI.start hd0.good hd0.pos hwL hf rfl rfl
 refine ⟨⟨rfl,hd0.frs,hwf,hgi,hp8,rfl,Only.refl _ _,ht8⟩,own_kept hrow fun k e => ?_,ho8,htn,ht6.c1,ht6.fz,?_,fun o => ?_⟩
 ·obtain ⟨_,⟨e1,_⟩ | ⟨g',cap',cur,e1,_,hg,_⟩⟩:=hrow
  ·rw [e1] at e; cases e
  ·rw [e1] at e
   obtain rfl : g' = k:=by simpa [Value.ownBlock] using e
   have k1 : g' ≠ t:=fun e => by
    rw [e,ht.cells] at hg
    cases hg
   have k2 : g' ≠ n.b:=fun e => by
    rw [e,hnd.cells] at hg
    cases hg
   rw [hoth g' k1,← hw7,Below.heap_setCell _ _ _ _ (fun e => k2 (by simpa using e))]
   exact ho.block g' (Gx hg) (own_ne hnd.row hg (by decide))
 ·exact ⟨_,cell_at hn6 hnd.nc.c0⟩
 ·have:=hnd.cells
  rw [← hn6] at this
  simp [World.frozen?,this]
theorem del_old (w : World) (Z : Nat → Prop) (t m cnt rb : Nat) (key : ByteArray) (ls : List (List Nd)) (ht : TrAt w t m (cnt + 1) rb) (hp : Hp w Z (allX ls)) (hZ : ∀ k,w.heap.size ≤ k → Z k) (hg : Good [(rb,⟨none,none⟩)] ls) (hw : WLv m true ls) (hlen : ls.length ≤ 1000000) (hm : 4 ≤ m) (hm2 : m ≤ 64) (hcnt : cnt ≤ 4000000000) (hnf : ∀ rs A n C,DPure key ls rb rs A n C → foundL key n.its = true) :
  Calls Tryz.prog 67 #[.pointer (some ⟨t,0,none⟩),.string key] w fun e w' => ∃ rs A n C v',DPure key ls rb rs A n C ∧ e = .returned (.tuple #[.string (valL key n.its),.bool true]) ∧ GrowP w Z t m cnt (items [A ++ ⟨n.b,v',cutL key n.its⟩ :: C]) (.returned (.tuple #[])) w':=by
 have HW : Hid (TrAt w t m (cnt + 1) rb ∧ Hp w Z (allX ls) ∧ (∀ k,w.heap.size ≤ k → Z k) ∧ Good [(rb,⟨none,none⟩)] ls ∧ WLv m true ls ∧ ∀ rs A n C,DPure key ls rb rs A n C → foundL key n.its = true):=⟨ht,hp,hZ,hg,hw,hnf⟩
 have HD : Hid (Calls Tryz.prog 117 #[.pointer (some ⟨t,0,none⟩),.string key] w (DescP w t key ls rb)):=descend_any w Z t rb key ls hp ht.c2 hg hlen (fun x hx => by have:=wlv_le hw x hx; omega)
 clear ht hp hZ hg hw hnf
 go_enter Tryz.func67,Tryz.ntmps67
 go_wp2_with fail
 refine HD.out.mono ?_
 rintro e w2 ⟨v,rs,A,n,C,rfl,hinv⟩
 have hpu:=hinv.pure
 have hmem:=hpu.at_
 have hnl : n.its.length ≤ 64:=Zlt (wlv_le HW.out.2.2.2.2.1 _ hmem) hm2
 have hb2 : Below w.heap.size w w2:=hinv.below
 have hnd : NdAt w2 n (hd C none):=(HW.out.2.1.at_ _ hmem).later hb2
 have hff:=HW.out.2.2.2.2.2 _ _ _ _ hpu
 have hcl:=found_lt hff
 have HF : Hid (Calls Tryz.prog 118 #[.pointer (some ⟨n.b,0,none⟩),.string key] w2 fun e w' => e = .returned (.tuple #[.int .i64 (cntL key n.its : Int),.bool true]) ∧ Below w2.heap.size w2 w'):=by
  have:=find_any w2 n (hd C none) key hnd hinv.srt Om
  rw [hff] at this
  exact this
 have HP : Hid (DPure key ls rb rs A n C ∧ Below w.heap.size w w2 ∧ NdAt w2 n (hd C none) ∧ w2.ownsRow w.heap.size 236 2 v rs.length (wc rs.reverse) ∧ foundL key n.its = true ∧ rs.length ≤ 1000000):=⟨hpu,hb2,hnd,hinv.row,hff,by have:=hinv.len; omega⟩
 clear hinv hpu hmem hnd hff hb2 HD
 obtain ⟨pv,cv,ev,_⟩:=wrow_form HP.out.2.2.2.1
 subst ev
 obtain ⟨c,hc⟩:=Vx (cntL key n.its)
 obtain ⟨nb,hnb⟩:=Vx n.b
 have HC : Hid (cntL key n.its = c ∧ n.b = nb):=⟨hc,hnb⟩
 rw [hc] at hcl
 rw [hc,hnb] at HF
 rw [hnb]
 clear hc hnb
 go_wp2_with fail
 refine HF.out.mono ?_
 rintro e w3 ⟨rfl,hb3⟩
 have HB3 : Hid (Below w.heap.size w w3):=below_two HP.out.2.1 hb3
 have HR3 : Hid (w3.ownsRow w.heap.size 236 2 (.slice pv rs.length cv) rs.length (wc rs.reverse)):=own_kept HP.out.2.2.2.1 fun k e => hb3.block _ (HP.out.2.2.2.1.lt k e).2
 have hnd : NdAt w3 n (hd C none):=(HW.out.2.1.at_ _ HP.out.1.at_).later HB3.out
 have c0:=hnd.nc.c0
 obtain ⟨gn,capn,en,_,_,_,hcc,_⟩:=irow_at hnd.row Om
 rw [en,HC.out.2] at c0
 have cv1:=(hcc c hcl).2.1
 have hvx : valL key n.its = (n.its[c]).val:=by
  unfold valL
  rw [HP.out.2.2.2.2.1,HC.out.1,List.getElem?_eq_getElem hcl]
  rfl
 have HDE : Hid (Calls Tryz.prog 119 #[.slice (some ⟨gn,0,none⟩) n.its.length capn,.int .i64 (c : Int),.int .i64 ((c : Int) + 1)] w3 fun e w' => e = .returned (.slice (some ⟨gn,0,none⟩) (cutL key n.its).length capn) ∧ w'.ownsRow 0 195 3 (.slice (some ⟨gn,0,none⟩) (cutL key n.its).length capn) (cutL key n.its).length (ic (cutL key n.its)) ∧ Only (fun k => n.v.ownBlock = some k) w3 w'):=by
  have h5:=hnd.row
  rw [en] at h5
  have h6:=delete_any w3 gn capn n.its c (c + 1) h5 Om Om Om
  have hl : c + (n.its.length - (c + 1)) = (cutL key n.its).length:=by
   have:=cutL_length HP.out.2.2.2.2.1
   omega
  have hcu : n.its.take c ++ n.its.drop (c + 1) = cutL key n.its:=by unfold cutL; rw [HC.out.1]
  rw [hl,hcu] at h6
  refine h6.mono ?_
  rintro e w' ⟨q1,q2,q3⟩
  refine ⟨q1,q2,q3.mono fun k hk => ?_⟩
  rw [en,hk]
  rfl
 obtain ⟨xv,hxv⟩:=Vx (valL key n.its)
 rw [← hvx,hxv] at cv1
 have HXV : Hid (valL key n.its = xv):=hxv
 have HND : Hid (NdAt w3 n (hd C none) ∧ n.v = .slice (some ⟨gn,0,none⟩) n.its.length capn):=⟨hnd,en⟩
 obtain ⟨nl,hnl2⟩:=Vx n.its.length
 rw [hnl2] at c0 HDE hcl
 have hcli : (c : Int) < (nl : Int):=by omega
 have hc64 : c ≤ 64:=by omega
 clear hnd en hcc hnl2 hnl hvx hxv hb3 HF
 go_wp2_with fail
 refine HDE.out.mono ?_
 rintro e w6 ⟨rfl,hrow6,ho6⟩
 obtain ⟨hgm,hrw,ho8,htn,ct,cf,⟨u,cn⟩,cnf⟩:=del_mem HP.out.1 (HW.out.2.1.later HB3.out) (fun k hk => HW.out.2.2.1 k (Zlt HB3.out.size hk)) (HW.out.1.kept (HB3.out.block _ HW.out.1.lt)) HW.out.2.2.2.2.1 HP.out.2.2.2.2.1 HR3.out hrow6 (Or.inl (by rw [HND.out.2]; rfl)) ho6
 have hZ8:=fun k hk => HW.out.2.2.1 k (Zlt (Zlt HB3.out.size ho8.size) hk)
 have HGR:=shrink_any _ Z t m cnt rb key rs _ _ _ A _ C hZ8 hm hm2 hrw HP.out.2.2.2.2.2 hgm
 have HO : Hid (Only (fun k => Z k ∨ k = t) w ((w6.setCell ⟨n.b,0,none⟩ (.slice (some ⟨gn,0,none⟩) (cutL key n.its).length capn)).setCell ⟨t,1,none⟩ (.int .i64 (cnt : Int)))):=(Only.of HB3.out).trans ho8
 rw [HC.out.2] at HGR HO cn cnf htn
 have cf1:=cf 1
 have cnf0:=cnf 0
 have htn2 : ¬ nb = t:=fun e => htn e.symm
 rw [Int.natCast_add] at ct
 obtain ⟨ln,hln⟩:=Vx ((cutL key n.its).length)
 rw [hln] at HGR HO ⊢
 clear hgm hrw ho8 hZ8 hrow6 ho6 cf cnf c0 hln
 go_wp2_with fail
 refine HGR.mono ?_
 rintro e w9 hgp
 have he:=hgp.1
 subst he
 have HGP : Hid (GrowP w Z t m cnt (items [A ++ ⟨nb,.slice (some ⟨gn,0,none⟩) ln capn,cutL key n.its⟩ :: C]) (.returned (.tuple #[])) w9):=hgp.base HO.out
 clear hgp HGR
 go_wp2
 refine bodyPost_ret (v:=.tuple #[.string xv,.bool true]) (by simp [results,Tryz.results67,go_sem]) rfl ?_
 exact ⟨rs,A,n,C,.slice (some ⟨gn,0,none⟩) ln capn,HP.out.1,by rw [HXV.out],by rw [HC.out.2]; exact HGP.out⟩
theorem made_tree (w : World) (Z : Nat → Prop) (m : Nat) (hZ : ∀ k,w.heap.size ≤ k → Z k) : TreeIs ((w.alloc (Obj.cells #[.slice none 0 0,.pointer none] 198)).alloc (Obj.cells #[.int .i64 (m : Int),.int .i64 0,.pointer (some ⟨w.heap.size,0,none⟩)] 201)) Z (w.heap.size + 1) m [[⟨w.heap.size,.slice none 0 0,[]⟩]] []:=by
 have h0 : (w.alloc (Obj.cells #[.slice none 0 0,.pointer none] 198)).heap[w.heap.size]? = some (.cells #[.slice none 0 0,.pointer none] 198 (0,0)):=heap_alloc_new w _
 have h1:=heap_alloc_new (w.alloc (Obj.cells #[.slice none 0 0,.pointer none] 198)) (Obj.cells #[.int .i64 (m : Int),.int .i64 0,.pointer (some ⟨w.heap.size,0,none⟩)] 201)
 rw [World.size_alloc] at h1
 refine ⟨⟨w.heap.size,⟨h1⟩,?_⟩,⟨fun x hx => ?_,fun x hx => ?_,fun x hx k e => ?_,?_⟩,⟨fun n hn => ?_,trivial⟩,rfl,List.Pairwise.nil⟩
 ·exact good_leaf.2 ⟨⟨⟨rfl,List.Pairwise.nil,fun x hx => by simp at hx⟩,trivial⟩,fun n hn => by
   obtain rfl : n = ⟨w.heap.size,.slice none 0 0,[]⟩:=by simpa using hn
   intro x hx
   simp at hx⟩
 ·obtain rfl : x = (⟨w.heap.size,.slice none 0 0,[]⟩,none):=by simpa [allX,linkN,hd] using hx
  exact ⟨(Below.heap_alloc _ _ _ Si).trans h0,World.ownsRow_nil _ _ _ _⟩
 ·obtain rfl : x = (⟨w.heap.size,.slice none 0 0,[]⟩,none):=by simpa [allX,linkN,hd] using hx
  exact hZ _ Zlr
 ·obtain rfl : x = (⟨w.heap.size,.slice none 0 0,[]⟩,none):=by simpa [allX,linkN,hd] using hx
  cases e
 ·simp [allX,linkN]
 ·obtain rfl : n = ⟨w.heap.size,.slice none 0 0,[]⟩:=by simpa using hn
  exact ⟨Nat.zero_le _,Nat.zero_le _⟩
theorem TreeIs.kept {w w' : World} {Z : Nat → Prop} {t m : Nat} {ls : List (List Nd)} {l : List It} (h : TreeIs w Z t m ls l) (hk : ∀ k,k < w.heap.size → Z k → w'.heap[k]? = w.heap[k]?) (ht : w'.heap[t]? = w.heap[t]?) : TreeIs w' Z t m ls l:=by
 obtain ⟨rb,h1,h2⟩:=h.some_
 exact ⟨⟨rb,h1.kept ht,h2⟩,h.hp.kept hk,h.wid,h.its,h.srt⟩
theorem TreeIs.lt {w : World} {Z : Nat → Prop} {t m : Nat} {ls : List (List Nd)} {l : List It} (h : TreeIs w Z t m ls l) : t < w.heap.size:=by
 obtain ⟨rb,h1,h2⟩:=h.some_
 exact h1.lt
theorem TreeIs.later {w w' : World} {Z : Nat → Prop} {t m : Nat} {ls : List (List Nd)} {l : List It} (h : TreeIs w Z t m ls l) (hb : Below w.heap.size w w') : TreeIs w' Z t m ls l:=h.kept (fun k hk _ => hb.block k hk) (hb.block t h.lt)
theorem TreeIs.mono {w : World} {Z Z' : Nat → Prop} {t m : Nat} {ls : List (List Nd)} {l : List It} (h : TreeIs w Z t m ls l) (hz : ∀ k,k < w.heap.size → Z k → Z' k) : TreeIs w Z' t m ls l:=⟨h.some_,h.hp.mono hz,h.wid,h.its,h.srt⟩
def itOf (p : Pr) : It:=⟨p.1,p.2,none⟩
theorem cntL_all {key : ByteArray} {l : List It} (h : ∀ x ∈ l,kl x.key key = true) : cntL key l = l.length:=by
 have:=cntL_append (key:=key) (l:=[]) h
 rw [List.append_nil] at this
 rw [this]
 rfl
theorem putL_end {key val : ByteArray} {l : List It} (h : ∀ x ∈ l,kl x.key key = true) : putL key val l = l ++ [⟨key,val,none⟩]:=by
 have e:=cntL_all h
 unfold putL insL
 rw [foundL_no e,e]
 simp
theorem put_take {l : List Pr} (h : risB l = true) {k : Nat} (hk : k < l.length) : putL (l[k]).1 (l[k]).2 ((l.take k).map itOf) = (l.take (k + 1)).map itOf:=by
 rw [putL_end (fun x hx => ?_),List.take_add_one,List.map_append,List.getElem?_eq_getElem hk]
 ·rfl
 ·obtain ⟨p,hp,rfl⟩:=List.mem_map.1 hx
  obtain ⟨i,hi,rfl⟩:=List.getElem_of_mem hp
  rw [List.length_take] at hi
  rw [List.getElem_take]
  exact List.pairwise_iff_getElem.1 (risB_srt h) i k Om hk Om
theorem new_any (w : World) (m : Nat) (p : Option Addr) (cap : Nat) (l : List Pr) (hm : 4 ≤ m) (hm2 : m ≤ 64) (hr : PRow w p l) (hl : l.length ≤ 4000000000) (hs : ∀ x ∈ l,x.1.size ≤ 281474976710656 ∧ x.2.size ≤ 281474976710656) (hn : risB l = true) :
  Calls Tryz.prog 147 #[.int .i64 (m : Int),.slice p l.length cap] w fun e w' => Below w.heap.size w w' ∧ ∃ t,e = .returned (.tuple #[.pointer (some ⟨t,0,none⟩),.int .i64 0]) ∧ w.heap.size ≤ t ∧ ∃ ls,TreeIs w' (fun k => w.heap.size ≤ k) t m ls (l.map itOf):=by
 have HR:=rising_any w p cap l hr Om
 rw [hn] at HR
 have HP : Hid (PRow w p l ∧ risB l = true ∧ ∀ x ∈ l,x.1.size ≤ 281474976710656 ∧ x.2.size ≤ 281474976710656):=⟨hr,hn,hs⟩
 clear hr hn hs
 have h1 : ¬ (m : Int) < 4:=by omega
 have h2 : ¬ (64 : Int) < (m : Int):=by omega
 go_enter Tryz.func147,Tryz.ntmps147
 go_wp2_with fail
 refine HR.mono ?_
 rintro e w1 ⟨rfl,hb1⟩
 have HM : Hid (∀ W,W = (w1.alloc (Obj.cells #[.slice none 0 0,.pointer none] 198)).alloc (Obj.cells #[.int .i64 (m : Int),.int .i64 0,.pointer (some ⟨w1.heap.size,0,none⟩)] 201) → TreeIs W (fun k => w.heap.size ≤ k) (w1.heap.size + 1) m [[⟨w1.heap.size,.slice none 0 0,[]⟩]] [] ∧ Below w.heap.size w W):=by
  rintro W rfl
  exact ⟨made_tree w1 _ m (fun k hk => Zlt hb1.size hk),(hb1.alloc hb1.size _).alloc (by simp; have:=hb1.size; omega) _⟩
 obtain ⟨t,ht⟩:=Vx (w1.heap.size + 1)
 have HT : Hid (w.heap.size ≤ t):=by have:=hb1.size; show _ ≤ _; omega
 go_wp2_with fail
 go_loopw [27] (fun i wr => ∃ (k : Nat) (ls : List (List Nd)),k ≤ l.length ∧ i = .int .i64 (k : Int) ∧ TreeIs wr (fun k => w.heap.size ≤ k) (w1.heap.size + 1) m ls ((l.take k).map itOf) ∧ Below w.heap.size w wr) (fun i _ => l.length - (intOf i).toNat)
 case atStart => exact ⟨0,_,Nat.zero_le _,rfl,(HM.out _ rfl).1,(HM.out _ rfl).2⟩
 case round =>
  obtain ⟨k,ls,hk,rfl,htr,hb⟩:=hrel
  rw [ht]
  rw [ht] at htr
  have HTR : Hid (TreeIs wr (fun k => w.heap.size ≤ k) t m ls ((l.take k).map itOf)):=htr
  have HB : Hid (Below w.heap.size w wr):=hb
  have hbs:=hb.size
  clear htr hb HM
  by_cases hlt : k < l.length
  ·have hlti : (k : Int) < (l.length : Int):=by omega
   obtain ⟨b,off,rfl,c0,c1⟩:=(HP.out.1.later HB.out) k hlt
   obtain ⟨x,hx⟩:=Vx (l[k])
   rw [hx] at c0 c1
   have HX : Hid (∀ h : k < l.length,l[k]'h = x):=fun _ => hx
   have HPU : Hid (∀ W,Below wr.heap.size wr W → Calls Tryz.prog 71 #[.pointer (some ⟨t,0,none⟩),.string x.1,.string x.2] W fun e w' => (∃ a b,e = .returned (.tuple #[a,b])) ∧ Below w.heap.size w w' ∧ ∃ ls',TreeIs w' (fun k => w.heap.size ≤ k) t m ls' ((l.take (k + 1)).map itOf)):=by
    intro W hW
    have h1 : TreeIs W (fun k => w.heap.size ≤ k) t m ls ((l.take k).map itOf):=HTR.out.later hW
    have hxs:=HP.out.2.2 x (by rw [← hx]; exact List.getElem_mem hlt)
    have hll : ((l.take k).map itOf).length ≤ 4000000000:=by simp; omega
    refine (tree_put W _ t m x.1 x.2 ls _ h1 (fun j hj => by have:=hW.size; omega) (by have:=h1.low hm Om; omega) hm hm2 hll hxs.1 hxs.2).mono ?_
    rintro e w' ⟨rfl,ho,ls',ht'⟩
    refine ⟨⟨_,_,rfl⟩,(HB.out.trans (hW.mono hbs)).trans (ho.below (by have:=hW.size; omega) (fun j hj hz => ?_)),ls',?_⟩
    ·rcases hz with hz | hz
     ·omega
     ·have:=HT.out; omega
    ·rw [← put_take HP.out.2.1 hlt,hx]
     exact ht'
   clear hx HTR
   go_wp2_with fail
   refine (HPU.out _ ((Bxr _ _).alloc Zlr _)).mono ?_
   rintro e w5 ⟨⟨va,vb,rfl⟩,hb5,ls',ht5⟩
   go_wp2
   exact ⟨⟨k + 1,ls',hlt,by go_num,ht5,hb5⟩,by simp only [intOf]; omega⟩
  ·have hlti : ¬ (k : Int) < (l.length : Int):=by omega
   obtain rfl : k = l.length:=by omega
   go_wp2
   refine bodyPost_ret (v:=.tuple #[.pointer (some ⟨t,0,none⟩),.int .i64 0]) (by simp [results,Tryz.results147,go_sem]) rfl ?_
   refine ⟨HB.out,t,rfl,HT.out,ls,?_⟩
   have:=HTR.out
   rwa [List.take_length] at this
theorem found_iff {key : ByteArray} {l : List It} (hs : Srt l) : foundL key l = true ↔ ∃ y ∈ l,y.key = key:=by
 constructor
 ·intro h
  have hc:=found_lt h
  rw [foundL_at hc] at h
  exact ⟨_,List.getElem_mem hc,of_decide_eq_true h⟩
 ·rintro ⟨y,hy,rfl⟩
  obtain ⟨i,hi,rfl⟩:=List.getElem_of_mem hy
  have hpw:=List.pairwise_iff_getElem.1 hs
  have hcl:=cntL_le (l[i]).key l
  have h1 : ¬ i < cntL (l[i]).key l:=fun h => by
   have:=cntL_lt (l[i]).key l i hi h
   rw [kl_irrefl] at this
   cases this
  have h2 : ¬ cntL (l[i]).key l < i:=fun h => by
   have h3:=hpw _ _ Om hi h
   rw [cntL_at (l[i]).key l Om] at h3
   cases h3
  have h3 : cntL (l[i]).key l = i:=by omega
  rw [foundL_at Om]
  simp only [h3,decide_true]
theorem mem_insL {key val : ByteArray} {l : List It} {x : It} : x ∈ insL key val l ↔ x = ⟨key,val,none⟩ ∨ x ∈ l:=by
 refine ⟨ins_mem,fun h => ?_⟩
 unfold insL
 rcases h with rfl | h
 ·simp
 ·rw [← List.take_append_drop (cntL key l) l] at h
  rcases Zma h with h | h
  ·exact List.mem_append_left _ h
  ·exact List.mem_append_right _ (List.mem_cons_of_mem _ h)
theorem mem_setV (val : ByteArray) : ∀ (i : Nat) (l : List It) (hi : i < l.length),Srt l → ∀ x,x ∈ setV i val l ↔ x = ⟨(l[i]).key,val,(l[i]).kid⟩ ∨ (x ∈ l ∧ x.key ≠ (l[i]).key)
 | 0,y :: r,_,hs,x => by
  rw [setV_zero,List.mem_cons,List.mem_cons]
  have hr:=(List.pairwise_cons.1 hs).1
  constructor
  ·rintro (rfl | h)
   ·exact Or.inl rfl
   ·exact Or.inr ⟨Or.inr h,fun e => kl_ne (hr x h) e.symm⟩
  ·rintro (rfl | ⟨rfl | h,h2⟩)
   ·exact Or.inl rfl
   ·exact absurd rfl h2
   ·exact Or.inr h
 | i + 1,y :: r,hi,hs,x => by
  have hi' : i < r.length:=by simpa using hi
  rw [setV_succ,List.mem_cons,mem_setV val i r hi' (List.pairwise_cons.1 hs).2 x,List.mem_cons]
  have hr:=(List.pairwise_cons.1 hs).1 _ (List.getElem_mem hi')
  constructor
  ·rintro (rfl | h | ⟨h,h2⟩)
   ·exact Or.inr ⟨Or.inl rfl,kl_ne hr⟩
   ·exact Or.inl h
   ·exact Or.inr ⟨Or.inr h,h2⟩
  ·rintro (h | ⟨rfl | h,h2⟩)
   ·exact Or.inr (Or.inl h)
   ·exact Or.inl rfl
   ·exact Or.inr (Or.inr ⟨h,h2⟩)
theorem mem_putL {key val : ByteArray} {l : List It} (hs : Srt l) (hk : ∀ y ∈ l,y.kid = none) (x : It) : x ∈ putL key val l ↔ x = ⟨key,val,none⟩ ∨ (x ∈ l ∧ x.key ≠ key):=by
 unfold putL
 split
 ·rename_i h
  have hc:=found_lt h
  have h2:=h
  rw [foundL_at hc] at h2
  have e:=of_decide_eq_true h2
  rw [mem_setV val _ l hc hs x,e,hk _ (List.getElem_mem hc)]
 ·rename_i h
  rw [mem_insL]
  constructor
  ·rintro (e | hx)
   ·exact Or.inl e
   ·exact Or.inr ⟨hx,fun e => h ((found_iff hs).2 ⟨x,hx,e⟩)⟩
  ·rintro (e | ⟨hx,_⟩)
   ·exact Or.inl e
   ·exact Or.inr hx
theorem putL_srt {key val : ByteArray} {l : List It} (hs : Srt l) : Srt (putL key val l):=by
 unfold putL
 split
 ·exact setV_srt val _ hs
 ·rename_i h
  exact ins_sorted hs (by simpa using h)
theorem It.ext3 {x y : It} (h1 : x.key = y.key) (h2 : x.val = y.val) (h3 : x.kid = y.kid) : x = y:=by
 cases x; cases y; simp at h1 h2 h3; simp [h1,h2,h3]
end BB
end Go.Proofs.YtmmmkjhpmlfopaaGreatDoor
