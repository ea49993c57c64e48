/- ZB17 ZM87 ZB18 ZB19 ZM88 ZM91 ZB22 ZB23 -/
import Derived.Test.YtmmmkjhpmlfopaaGreatDoorSB09
set_option maxHeartbeats 8000000
set_option maxRecDepth 100000
namespace Go.Proofs.YtmmmkjhpmlfopaaGreatDoor
open Go.RowKit
namespace BB
def setV (i : Nat) (val : ByteArray) (l : List It) : List It:=l.modify i fun x => ⟨x.key,val,x.kid⟩
theorem setV_length (i : Nat) (val : ByteArray) (l : List It) : (setV i val l).length = l.length:=by simp [setV]
theorem ic_setV (val : ByteArray) : ∀ (l : List It) (i : Nat),i < l.length → (ic l).set (i * 3 + 1) (.string val) = ic (setV i val l)
 | x :: r,0,_ => rfl
 | x :: r,i + 1,h => by
  have e : (i + 1) * 3 + 1 = (i * 3 + 1) + 1 + 1 + 1:=by omega
  rw [e]
  have ih:=ic_setV val r i (by simpa using h)
  show _ :: _ :: _ :: (ic r).set (i * 3 + 1) (.string val) = _
  rw [ih]
  rfl
theorem old_mem {w3 : World} {Z : Nat → Prop} {t m cnt rb g cap : Nat} {key val : ByteArray} {ls : List (List Nd)} {rs : List Fr} {A C : List Nd} {n : Nd} {c : Nat} (hd0 : DPure key ls rb rs A n C) (hp : Hp w3 Z (allX ls)) (hZ : ∀ k,w3.heap.size ≤ k → Z k) (ht : TrAt w3 t m cnt rb) (hv : n.v = .slice (some ⟨g,0,none⟩) n.its.length cap) (hc : c < n.its.length) :
  Hp (w3.setCell ⟨g,c * 3 + 1,none⟩ (.string val)) Z (allX (lvls rs ++ [A ++ ⟨n.b,n.v,setV c val n.its⟩ :: C])) ∧ Only Z w3 (w3.setCell ⟨g,c * 3 + 1,none⟩ (.string val)) ∧ TrAt (w3.setCell ⟨g,c * 3 + 1,none⟩ (.string val)) t m cnt rb:=by
 have hls:=hd0.all
 subst hls
 have hout:=ht.out hp
 have htg : t ≠ g:=fun e => hout (Or.inl ⟨(n,hd C none),hd0.at_,Or.inr (by rw [hv,e]; rfl)⟩)
 obtain ⟨h1,h2⟩:=(hp.perm (perm_one (lvls rs) [] A C n)).setItem hZ hv (setV_length c val n.its) (ic_setV val n.its c hc)
 exact ⟨h1.perm (perm_one (lvls rs) [] A C ⟨n.b,n.v,setV c val n.its⟩).symm,h2,ht.kept (Below.heap_setCell _ _ _ _ (fun e => htg (by simpa using e)))⟩
theorem put_old (w : World) (Z : Nat → Prop) (t m cnt rb : Nat) (key val : ByteArray) (ls : List (List Nd)) (ht : TrAt w t m cnt rb) (hp : Hp w Z (allX ls)) (hZ : ∀ k,w.heap.size ≤ k → Z k) (hg : Good [(rb,⟨none,none⟩)] ls) (hw : WLv m true ls) (hlen : ls.length ≤ 1000000) (hm2 : m ≤ 64) (hvs : val.size ≤ 281474976710656) (hnf : ∀ rs A n C,DPure key ls rb rs A n C → foundL key n.its = true) :
  Calls Tryz.prog 71 #[.pointer (some ⟨t,0,none⟩),.string key,.string val] w fun e w' => ∃ rs A n C,DPure key ls rb rs A n C ∧ e = .returned (.tuple #[.string (valL key n.its),.bool true]) ∧ Only Z w w' ∧ TrAt w' t m cnt rb ∧ Hp w' Z (allX (lvls rs ++ [A ++ ⟨n.b,n.v,setV (cntL key n.its) val n.its⟩ :: C])):=by
 have HW : Hid (TrAt w t m cnt rb ∧ Hp w Z (allX ls) ∧ (∀ k,w.heap.size ≤ k → Z k) ∧ Good [(rb,⟨none,none⟩)] ls ∧ WLv m true ls ∧ ∀ rs A n C,DPure key ls rb rs A n C → foundL key n.its = true):=⟨ht,hp,hZ,hg,hw,hnf⟩
 have HC1:=clone_any val w hvs
 clear ht hp hZ hg hw hnf
 go_enter Tryz.func71,Tryz.ntmps71
 go_wp2_with fail
 refine HC1.mono ?_
 rintro e w1 ⟨rfl,hb1⟩
 have HD : Hid (Calls Tryz.prog 117 #[.pointer (some ⟨t,0,none⟩),.string key] w1 (DescP w1 t key ls rb)):=descend_any w1 Z t rb key ls (HW.out.2.1.later hb1) (HW.out.1.kept (hb1.block _ HW.out.1.lt)).c2 HW.out.2.2.2.1 hlen (fun x hx => by have:=wlv_le HW.out.2.2.2.2.1 x hx; omega)
 have HB1 : Hid (Below w.heap.size w w1):=hb1
 clear hb1 HC1
 go_wp2_with fail
 refine HD.out.mono ?_
 rintro e w2 ⟨v,rs,A,n,C,rfl,hinv⟩
 have hpu:=hinv.pure
 have hmem:=hpu.at_
 have hnl : n.its.length ≤ 64:=Zlt (wlv_le HW.out.2.2.2.2.1 _ hmem) hm2
 have hb2 : Below w.heap.size w w2:=below_two HB1.out hinv.below
 have hnd : NdAt w2 n (hd C none):=(HW.out.2.1.at_ _ hmem).later hb2
 have hff:=HW.out.2.2.2.2.2 _ _ _ _ hpu
 have HF : Hid (Calls Tryz.prog 118 #[.pointer (some ⟨n.b,0,none⟩),.string key] w2 fun e w' => e = .returned (.tuple #[.int .i64 (cntL key n.its : Int),.bool true]) ∧ Below w2.heap.size w2 w'):=by
  have:=find_any w2 n (hd C none) key hnd hinv.srt Om
  rw [hff] at this
  exact this
 have HP : Hid (DPure key ls rb rs A n C ∧ Below w.heap.size w w2 ∧ foundL key n.its = true):=⟨hpu,hb2,hff⟩
 clear hinv hpu hmem hnd hff hb2 HD
 obtain ⟨c,hc⟩:=Vx (cntL key n.its)
 obtain ⟨nb,hnb⟩:=Vx n.b
 have HC : Hid (cntL key n.its = c ∧ n.b = nb):=⟨hc,hnb⟩
 rw [hc,hnb] at HF
 rw [hnb]
 clear hc hnb
 go_wp2_with fail
 refine HF.out.mono ?_
 rintro e w3 ⟨rfl,hb3⟩
 have HB3 : Hid (Below w.heap.size w w3):=below_two HP.out.2.1 hb3
 have hcl : c < n.its.length:=by
  have h1:=HP.out.2.2
  have h2:=cntL_le key n.its
  rw [HC.out.1] at h2
  rcases Nat.eq_or_lt_of_le h2 with e | e
  ·rw [foundL_no (by rw [HC.out.1]; exact e)] at h1; cases h1
  ·exact e
 have hnd : NdAt w3 n (hd C none):=(HW.out.2.1.at_ _ HP.out.1.at_).later HB3.out
 obtain ⟨g,cap,ev,_,_,_,hcc,hfz⟩:=irow_at hnd.row Om
 have c0:=hnd.nc.c0
 rw [ev,HC.out.2] at c0
 have cv:=(hcc c hcl).2.1
 have cf:=hfz (c * 3 + 1)
 obtain ⟨x,hx⟩:=Vx ((n.its[c]).val)
 rw [hx] at cv
 have HX : Hid (valL key n.its = x):=by
  show valL key n.its = x
  unfold valL
  rw [HP.out.2.2,HC.out.1,List.getElem?_eq_getElem hcl]
  exact hx
 have HM : Hid (Hp (w3.setCell ⟨g,c * 3 + 1,none⟩ (.string val)) Z (allX (lvls rs ++ [A ++ ⟨n.b,n.v,setV c val n.its⟩ :: C])) ∧ Only Z w3 (w3.setCell ⟨g,c * 3 + 1,none⟩ (.string val)) ∧ TrAt (w3.setCell ⟨g,c * 3 + 1,none⟩ (.string val)) t m cnt rb):=old_mem HP.out.1 (HW.out.2.1.later HB3.out) (fun k hk => HW.out.2.2.1 k (Zlt HB3.out.size hk)) (HW.out.1.kept (HB3.out.block _ HW.out.1.lt)) ev hcl
 obtain ⟨nl,hnl2⟩:=Vx n.its.length
 rw [hnl2] at c0 hcl
 have hci : (c : Int) < (nl : Int):=by omega
 clear hnd ev hcc hfz hx hnl2 hnl hb3 HF
 go_wp2
 go_region
 all_goals go_wp2
 all_goals refine bodyPost_ret (v:=.tuple #[.string x,.bool true]) (by simp [results,Tryz.results71,go_sem]) rfl ?_
 all_goals (refine ⟨rs,A,n,C,HP.out.1,by rw [HX.out],?_,?_,?_⟩)
 all_goals first
  | exact ((Only.of HB3.out).trans HM.out.2.1).drew
  | exact HM.out.2.2.kept rfl
  | (rw [HC.out.1]; exact HM.out.1.later (Bxr _ _).drew)
theorem cntL_append {key : ByteArray} : ∀ {P l : List It},(∀ x ∈ P,kl x.key key = true) → cntL key (P ++ l) = P.length + cntL key l
 | [],l,_ => by simp
 | x :: P,l,h => by
  have ih:=cntL_append (P:=P) (l:=l) fun y hy => h y (List.mem_cons_of_mem _ hy)
  have hx:=h x Si
  show cntL key (x :: (P ++ l)) = _
  rw [cntL,if_pos hx,ih,List.length_cons]
  omega
theorem cntL_behind {key : ByteArray} : ∀ {l S : List It},(∀ x ∈ S,kl key x.key = true) → cntL key (l ++ S) = cntL key l
 | [],[],_ => rfl
 | [],y :: S,h => by
  have:=kl_asymm (h y Si)
  show cntL key (y :: S) = 0
  unfold cntL
  rw [if_neg (by rw [this]; simp)]
 | x :: l,S,h => by
  have ih:=cntL_behind (l:=l) (S:=S) h
  show cntL key (x :: (l ++ S)) = cntL key (x :: l)
  rw [cntL,cntL,ih]
theorem foundL_append {key : ByteArray} {P l : List It} (h : ∀ x ∈ P,kl x.key key = true) : foundL key (P ++ l) = foundL key l:=by
 unfold foundL
 rw [cntL_append h,List.getElem?_append_right Om]
 simp
theorem foundL_behind {key : ByteArray} {l S : List It} (h : ∀ x ∈ S,kl key x.key = true) : foundL key (l ++ S) = foundL key l:=by
 unfold foundL
 rw [cntL_behind h]
 rcases Nat.eq_or_lt_of_le (cntL_le key l) with e | e
 ·rw [List.getElem?_append_right Om,e,Nat.sub_self,List.getElem?_eq_none Zlr]
  cases S with
  | nil => rfl
  | cons y S =>
   have:=kl_ne (h y Si)
   simp
   exact fun e => this e.symm
 ·rw [List.getElem?_append_left e]
theorem insL_mid {key val : ByteArray} {P l S : List It} (hP : ∀ x ∈ P,kl x.key key = true) (hS : ∀ x ∈ S,kl key x.key = true) : insL key val (P ++ (l ++ S)) = P ++ (insL key val l ++ S):=by
 unfold insL
 have hc:=cntL_le key l
 rw [cntL_append hP,cntL_behind hS,List.take_length_add_append,List.drop_length_add_append,List.take_append_of_le_length hc,List.drop_append_of_le_length hc]
 simp
theorem beside {key : ByteArray} : ∀ {S : List Slot} {L : List Nd},Fits S L → (∀ t ∈ S,∃ h,t.2.hi = some h ∧ kl key h = false) → ∀ x ∈ L.flatMap (·.its),kl x.key key = true
 | [],[],_,_,x,hx => by simp at hx
 | s :: S,n :: L,hf,h,x,hx => by
  rw [List.flatMap_cons] at hx
  rcases Zma hx with hx | hx
  ·obtain ⟨hh,e,hk⟩:=h s Si
   exact kl_lt_le ((hf.1.2.mem x hx).2 hh e) hk
  ·exact beside hf.2 (fun t ht => h t (List.mem_cons_of_mem _ ht)) x hx
 | [],_ :: _,hf,_,_,_ => hf.elim
 | _ :: _,[],hf,_,_,_ => hf.elim
theorem behind {key : ByteArray} : ∀ {S : List Slot} {L : List Nd},Fits S L → (∀ t ∈ S,∃ l,t.2.lo = some l ∧ kl key l = true) → ∀ x ∈ L.flatMap (·.its),kl key x.key = true
 | [],[],_,_,x,hx => by simp at hx
 | s :: S,n :: L,hf,h,x,hx => by
  rw [List.flatMap_cons] at hx
  rcases Zma hx with hx | hx
  ·obtain ⟨hh,e,hk⟩:=h s Si
   exact kl_lt_le hk ((hf.1.2.mem x hx).1 hh e)
  ·exact behind hf.2 (fun t ht => h t (List.mem_cons_of_mem _ ht)) x hx
 | [],_ :: _,hf,_,_,_ => hf.elim
 | _ :: _,[],hf,_,_,_ => hf.elim
theorem leaf_mid {key : ByteArray} {c : Ctx} {A C : List Nd} {n : Nd} (hg : Good c.all [A ++ n :: C]) (hl : Loc key c) (hp : c.SA.length = A.length) : (∀ x ∈ A.flatMap (·.its),kl x.key key = true) ∧ (∀ x ∈ C.flatMap (·.its),kl key x.key = true) ∧ Srt n.its:=by
 obtain ⟨hfit,_⟩:=good_leaf.1 hg
 obtain ⟨hfa,⟨_,hok⟩,hfc⟩:=(fits_append hp).1 hfit
 exact ⟨beside hfa hl.a,behind hfc hl.c,hok.srt⟩
theorem items_mid (A C : List Nd) (n : Nd) : items [A ++ n :: C] = A.flatMap (·.its) ++ (n.its ++ C.flatMap (·.its)):=by simp [items_one]
structure TreeIs (w : World) (Z : Nat → Prop) (t m : Nat) (ls : List (List Nd)) (l : List It) : Prop where
 some_ : ∃ rb,TrAt w t m l.length rb ∧ Good [(rb,⟨none,none⟩)] ls
 hp : Hp w Z (allX ls)
 wid : WLv m true ls
 its : items ls = l
 srt : Srt l
def putL (key val : ByteArray) (l : List It) : List It:=if foundL key l then setV (cntL key l) val l else insL key val l
theorem DPure.items {key : ByteArray} {ls : List (List Nd)} {rb : Nat} {rs : List Fr} {A : List Nd} {n : Nd} {C : List Nd} (h : DPure key ls rb rs A n C) : items ls = A.flatMap (·.its) ++ (n.its ++ C.flatMap (·.its)):=by
 rw [h.all,items_append _ Si,items_mid]
theorem DPure.mid {key : ByteArray} {ls : List (List Nd)} {rb : Nat} {rs : List Fr} {A : List Nd} {n : Nd} {C : List Nd} (h : DPure key ls rb rs A n C) : (∀ x ∈ A.flatMap (·.its),kl x.key key = true) ∧ (∀ x ∈ C.flatMap (·.its),kl key x.key = true) ∧ Srt n.its:=leaf_mid h.good (Frs.loc rfl h.frs) h.pos
theorem DPure.found {key : ByteArray} {ls : List (List Nd)} {rb : Nat} {rs : List Fr} {A : List Nd} {n : Nd} {C : List Nd} (h : DPure key ls rb rs A n C) : foundL key (Go.Proofs.YtmmmkjhpmlfopaaGreatDoor.BB.items ls) = foundL key n.its:=by
 rw [h.items,foundL_append h.mid.1,foundL_behind h.mid.2.1]
theorem DPure.ins {key : ByteArray} (val : ByteArray) {ls : List (List Nd)} {rb : Nat} {rs : List Fr} {A : List Nd} {n : Nd} {C : List Nd} (v' : Value) (h : DPure key ls rb rs A n C) : Go.Proofs.YtmmmkjhpmlfopaaGreatDoor.BB.items [A ++ ⟨n.b,v',insL key val n.its⟩ :: C] = insL key val (Go.Proofs.YtmmmkjhpmlfopaaGreatDoor.BB.items ls):=by
 rw [h.items,insL_mid h.mid.1 h.mid.2.1,items_mid]
theorem tree_put_new (w : World) (Z : Nat → Prop) (t m : Nat) (key val : ByteArray) (ls : List (List Nd)) (l : List It) (h : TreeIs w Z t m ls l) (hZ : ∀ k,w.heap.size ≤ k → Z k) (hlen : ls.length ≤ 1000000) (hm : 4 ≤ m) (hm2 : m ≤ 64) (hcnt : l.length ≤ 4000000000) (hks : key.size ≤ 281474976710656) (hvs : val.size ≤ 281474976710656) (hnf : foundL key l = false) :
  Calls Tryz.prog 71 #[.pointer (some ⟨t,0,none⟩),.string key,.string val] w fun e w' => e = .returned (.tuple #[.string ⟨#[]⟩,.bool false]) ∧ Only (fun k => Z k ∨ k = t) w w' ∧ ∃ ls',TreeIs w' Z t m ls' (insL key val l):=by
 obtain ⟨rb,ht,hg⟩:=h.some_
 refine (put_new w Z t m l.length rb key val ls ht h.hp hZ hg h.wid hlen hm hm2 hcnt hks hvs (fun rs A n C hd => by rw [← hd.found,h.its]; exact hnf)).mono ?_
 rintro e w' ⟨rfl,rs,A,n,C,v',hd,_,ho,rb',ls',ht',hp',hg',hw',hi'⟩
 rw [hd.ins val v',h.its] at hi'
 exact ⟨rfl,ho,ls',⟨⟨rb',by rw [insL_length]; exact ht',hg'⟩,hp',hw',hi',ins_sorted h.srt hnf⟩⟩
theorem setV_zero (val : ByteArray) (x : It) (r : List It) : setV 0 val (x :: r) = ⟨x.key,val,x.kid⟩ :: r:=rfl
theorem setV_succ (val : ByteArray) (i : Nat) (x : It) (r : List It) : setV (i + 1) val (x :: r) = x :: setV i val r:=rfl
theorem setV_keys (val : ByteArray) : ∀ (i : Nat) (l : List It),(setV i val l).map It.key = l.map It.key
 | _,[] => by simp [setV]
 | 0,x :: r => rfl
 | i + 1,x :: r => by rw [setV_succ,List.map_cons,List.map_cons,setV_keys val i r]
theorem setV_srt (val : ByteArray) (i : Nat) {l : List It} (h : Srt l) : Srt (setV i val l):=by
 have h1 : (l.map It.key).Pairwise fun a b => kl a b = true:=List.pairwise_map.2 h
 rw [← setV_keys val i l] at h1
 exact List.pairwise_map.1 h1
theorem setV_mem (val : ByteArray) : ∀ (i : Nat) (l : List It),∀ x ∈ setV i val l,∃ y ∈ l,x.key = y.key ∧ x.kid = y.kid
 | _,[],x,hx => by simp [setV] at hx
 | 0,y :: r,x,hx => by
  rw [setV_zero] at hx
  rcases Zmc hx with rfl | hx
  ·exact ⟨y,by simp,rfl,rfl⟩
  ·exact ⟨x,List.mem_cons_of_mem _ hx,rfl,rfl⟩
 | i + 1,y :: r,x,hx => by
  rw [setV_succ] at hx
  rcases Zmc hx with rfl | hx
  ·exact ⟨x,by simp,rfl,rfl⟩
  ·obtain ⟨z,hz,e⟩:=setV_mem val i r x hx
   exact ⟨z,List.mem_cons_of_mem _ hz,e⟩
theorem setV_front (val : ByteArray) (i : Nat) (l : List It) : ∀ P : List It,setV (P.length + i) val (P ++ l) = P ++ setV i val l
 | [] => by simp
 | x :: P => by
  have e : (x :: P).length + i = (P.length + i) + 1:=by rw [List.length_cons]; omega
  rw [e,List.cons_append,setV_succ,setV_front val i l P]
  rfl
theorem setV_back (val : ByteArray) (S : List It) : ∀ (i : Nat) (l : List It),i < l.length → setV i val (l ++ S) = setV i val l ++ S
 | 0,x :: r,_ => rfl
 | i + 1,x :: r,h => by
  rw [List.cons_append,setV_succ,setV_succ,setV_back val S i r (by simpa using h)]
  rfl
theorem found_lt {key : ByteArray} {l : List It} (h : foundL key l = true) : cntL key l < l.length:=by
 rcases Nat.eq_or_lt_of_le (cntL_le key l) with e | e
 ·rw [foundL_no e] at h; cases h
 ·exact e
theorem DPure.set {key : ByteArray} (val : ByteArray) {ls : List (List Nd)} {rb : Nat} {rs : List Fr} {A : List Nd} {n : Nd} {C : List Nd} (h : DPure key ls rb rs A n C) (hf : foundL key n.its = true) : Go.Proofs.YtmmmkjhpmlfopaaGreatDoor.BB.items [A ++ ⟨n.b,n.v,setV (cntL key n.its) val n.its⟩ :: C] = setV (cntL key (Go.Proofs.YtmmmkjhpmlfopaaGreatDoor.BB.items ls)) val (Go.Proofs.YtmmmkjhpmlfopaaGreatDoor.BB.items ls):=by
 rw [h.items,cntL_append h.mid.1,cntL_behind h.mid.2.1,setV_front,setV_back _ _ _ _ (found_lt hf),items_mid]
theorem DPure.val {key : ByteArray} {ls : List (List Nd)} {rb : Nat} {rs : List Fr} {A : List Nd} {n : Nd} {C : List Nd} (h : DPure key ls rb rs A n C) : valL key (Go.Proofs.YtmmmkjhpmlfopaaGreatDoor.BB.items ls) = valL key n.its:=by
 unfold valL
 rw [h.found]
 split
 ·rename_i hf
  rw [h.items,cntL_append h.mid.1,cntL_behind h.mid.2.1,List.getElem?_append_right Om,Nat.add_sub_cancel_left,List.getElem?_append_left (found_lt hf)]
 ·rfl
theorem DPure.same {key : ByteArray} {ls : List (List Nd)} {rb : Nat} {rs : List Fr} {A : List Nd} {n n' : Nd} {C : List Nd} (h : DPure key ls rb rs A n C) (hb : n'.b = n.b) (hs : Srt n'.its) (hm : ∀ x ∈ n'.its,∃ y ∈ n.its,x.key = y.key ∧ x.kid = y.kid) : Good [(rb,⟨none,none⟩)] (lvls rs ++ [A ++ n' :: C]):=by
 obtain ⟨hfit,hlf⟩:=good_leaf.1 h.good
 obtain ⟨hfa,⟨hnb,hok⟩,hfc⟩:=(fits_append h.pos).1 hfit
 refine h.frs.glue Si (good_leaf.2 ⟨(fits_append h.pos).2 ⟨hfa,⟨hb.trans hnb,hs,fun x hx => ?_⟩,hfc⟩,fun x hx => ?_⟩)
 ·obtain ⟨y,hy,e,_⟩:=hm x hx
  rw [e]
  exact hok.mem y hy
 ·rcases Zma hx with hx | hx
  ·exact hlf x (List.mem_append_left _ hx)
  ·rcases Zmc hx with rfl | hx
   ·intro z hz
    obtain ⟨y,hy,_,e⟩:=hm z hz
    rw [e]
    exact hlf n Si y hy
   ·exact hlf x (List.mem_append_right _ (List.mem_cons_of_mem _ hx))
theorem DPure.widths {m : Nat} {key : ByteArray} {ls : List (List Nd)} {rb : Nat} {rs : List Fr} {A : List Nd} {n n' : Nd} {C : List Nd} (h : DPure key ls rb rs A n C) (hw : WLv m true ls) (hl : n'.its.length = n.its.length) : WLv m true (lvls rs ++ [A ++ n' :: C]):=by
 rw [h.all] at hw
 obtain ⟨h1,h2,h3⟩:=wlv_part hw
 refine wlv_glue h1 (fun x hx => ?_) h3
 rcases Zma hx with hx | hx
 ·exact h2 x (List.mem_append_left _ hx)
 ·rcases Zmc hx with rfl | hx
  ·rw [hl]; exact h2 n Si
  ·exact h2 x (List.mem_append_right _ (List.mem_cons_of_mem _ hx))
theorem tree_put_old (w : World) (Z : Nat → Prop) (t m : Nat) (key val : ByteArray) (ls : List (List Nd)) (l : List It) (h : TreeIs w Z t m ls l) (hZ : ∀ k,w.heap.size ≤ k → Z k) (hlen : ls.length ≤ 1000000) (hm2 : m ≤ 64) (hvs : val.size ≤ 281474976710656) (hf : foundL key l = true) :
  Calls Tryz.prog 71 #[.pointer (some ⟨t,0,none⟩),.string key,.string val] w fun e w' => e = .returned (.tuple #[.string (valL key l),.bool true]) ∧ Only (fun k => Z k ∨ k = t) w w' ∧ ∃ ls',TreeIs w' Z t m ls' (setV (cntL key l) val l):=by
 obtain ⟨rb,ht,hg⟩:=h.some_
 refine (put_old w Z t m l.length rb key val ls ht h.hp hZ hg h.wid hlen hm2 hvs (fun rs A n C hd => by rw [← hd.found,h.its]; exact hf)).mono ?_
 rintro e w' ⟨rs,A,n,C,hd,rfl,ho,ht',hp'⟩
 have hfn : foundL key n.its = true:=by rw [← hd.found,h.its]; exact hf
 refine ⟨by rw [← hd.val,h.its],ho.mono fun _ hk => Or.inl hk,lvls rs ++ [A ++ ⟨n.b,n.v,setV (cntL key n.its) val n.its⟩ :: C],⟨⟨rb,by rw [setV_length]; exact ht',hd.same (n':=⟨n.b,n.v,setV (cntL key n.its) val n.its⟩) rfl (setV_srt val _ hd.mid.2.2) (setV_mem val _ _)⟩,hp',hd.widths (n':=⟨n.b,n.v,setV (cntL key n.its) val n.its⟩) h.wid (setV_length _ _ _),?_,setV_srt val _ h.srt⟩⟩
 rw [items_append _ Si,hd.set val hfn,h.its]
theorem tree_put (w : World) (Z : Nat → Prop) (t m : Nat) (key val : ByteArray) (ls : List (List Nd)) (l : List It) (h : TreeIs w Z t m ls l) (hZ : ∀ k,w.heap.size ≤ k → Z k) (hlen : ls.length ≤ 1000000) (hm : 4 ≤ m) (hm2 : m ≤ 64) (hcnt : l.length ≤ 4000000000) (hks : key.size ≤ 281474976710656) (hvs : val.size ≤ 281474976710656) :
  Calls Tryz.prog 71 #[.pointer (some ⟨t,0,none⟩),.string key,.string val] w fun e w' => e = .returned (.tuple #[.string (valL key l),.bool (foundL key l)]) ∧ Only (fun k => Z k ∨ k = t) w w' ∧ ∃ ls',TreeIs w' Z t m ls' (putL key val l):=by
 cases hf : foundL key l with
 | true =>
  have:=tree_put_old w Z t m key val ls l h hZ hlen hm2 hvs hf
  unfold putL
  rw [hf]
  exact this
 | false =>
  have:=tree_put_new w Z t m key val ls l h hZ hlen hm hm2 hcnt hks hvs hf
  unfold putL valL
  rw [hf]
  exact this
theorem tree_get (w : World) (Z : Nat → Prop) (t m : Nat) (key : ByteArray) (ls : List (List Nd)) (l : List It) (h : TreeIs w Z t m ls l) (hlen : ls.length ≤ 1000000) (hm2 : m ≤ 64) (hv : ∀ y ∈ l,y.val.size ≤ 281474976710656) :
  Calls Tryz.prog 83 #[.pointer (some ⟨t,0,none⟩),.string key] w fun e w' => Below w.heap.size w w' ∧ e = .returned (.tuple #[.string (valL key l),.bool (foundL key l)]):=by
 obtain ⟨rb,ht,hg⟩:=h.some_
 refine (get_any w Z t m l.length rb key ls ht h.hp hg hlen (fun x hx => by have:=wlv_le h.wid x hx; omega) (fun rs A n C hd y hy => hv y (by rw [← h.its,hd.items]; exact List.mem_append_right _ (List.mem_append_left _ hy)))).mono ?_
 rintro e w' ⟨hb,rs,A,n,C,hd,rfl⟩
 exact ⟨hb,by rw [← hd.val,← hd.found,h.its]⟩
theorem slots_length : ∀ {S : List Slot} {L : List Nd},Fits S L → (slots S L).length = (L.flatMap (·.its)).length
 | [],[],_ => rfl
 | s :: S,n :: L,h => by
  rw [slots,Zla,nslots_length,slots_length h.2,List.flatMap_cons,Zla]
 | [],_ :: _,h => h.elim
 | _ :: _,[],h => h.elim
theorem wide_sumB {q : Nat} : ∀ {L : List Nd},(∀ n ∈ L,q ≤ n.its.length) → L.length * q ≤ (L.flatMap (·.its)).length
 | [],_ => by simp
 | n :: L,h => by
  have h1:=h n Si
  have h2:=wide_sumB (L:=L) fun x hx => h x (List.mem_cons_of_mem _ hx)
  rw [List.flatMap_cons,Zla,List.length_cons,Nat.add_mul]
  omega
theorem low_levels {m : Nat} : ∀ {ls : List (List Nd)} {S : List Slot},Good S ls → WLv m false ls → ∀ i (h : i < ls.length),S.length * (m / 2) ^ i ≤ (ls[i]).length
 | [],_,h,_,_,_ => h.elim
 | [L],S,h,_,i,hi => by
  have h3:=(good_fits h).length
  match i,hi with
  | 0,_ => simp [h3]
 | L :: M :: r,S,h,hw,i,hi => by
  obtain ⟨hf,_,hg⟩:=good_mid.1 h
  have h3:=hf.length
  match i,hi with
  | 0,_ => simp [h3]
  | i + 1,hi =>
   have h2:=wide_sumB (L:=L) (q:=m / 2) fun x hx => by have:=(hw.1 x hx).1; unfold lowB at this; simpa using this
   have h5:=slots_length hf
   have ih:=low_levels hg hw.2 i (by simpa using hi)
   have e : (L :: M :: r)[i + 1] = (M :: r)[i]'(by simpa using hi):=rfl
   rw [e,Nat.pow_succ']
   refine Zlt ?_ ih
   rw [← Nat.mul_assoc]
   refine Nat.mul_le_mul_right _ ?_
   rw [h5,h3]
   exact h2
theorem low_items {m : Nat} : ∀ {ls : List (List Nd)} {S : List Slot},Good S ls → WLv m false ls → S.length * (m / 2) ^ ls.length ≤ (items ls).length
 | [],_,h,_ => h.elim
 | [L],S,h,hw => by
  have h3:=(good_fits h).length
  have h2:=wide_sumB (L:=L) (q:=m / 2) fun x hx => by have:=(hw.1 x hx).1; unfold lowB at this; simpa using this
  rw [items_one,List.length_singleton,Nat.pow_one,h3]
  exact h2
 | L :: M :: r,S,h,hw => by
  obtain ⟨hf,_,hg⟩:=good_mid.1 h
  have h3:=hf.length
  have h2:=wide_sumB (L:=L) (q:=m / 2) fun x hx => by have:=(hw.1 x hx).1; unfold lowB at this; simpa using this
  have h5:=slots_length hf
  have ih:=low_items hg hw.2
  rw [items_cons,List.length_cons,Nat.pow_succ',← Nat.mul_assoc]
  refine Zlt (Nat.mul_le_mul_right _ ?_) ih
  rw [h5,h3]
  exact h2
theorem top_low {m : Nat} {s : Slot} {L M : List Nd} {r : List (List Nd)} (h : Good [s] (L :: M :: r)) (hw : WLv m true (L :: M :: r)) : (∀ i (hi : i < (M :: r).length),2 * (m / 2) ^ i ≤ ((M :: r)[i]).length) ∧ 2 * (m / 2) ^ (M :: r).length ≤ (items (L :: M :: r)).length:=by
 obtain ⟨hf,_,hg⟩:=good_mid.1 h
 have h3:=hf.length
 have h2:=wide_sumB (L:=L) (q:=2) fun x hx => by have:=(hw.1 x hx).1; unfold lowB at this; simpa using this
 have h5:=slots_length hf
 simp only [List.length_singleton] at h3
 have h6 : 2 ≤ (slots [s] L).length:=by omega
 refine ⟨fun i hi => Zlt (Nat.mul_le_mul_right _ h6) (low_levels hg hw.2 i hi),?_⟩
 rw [items_cons]
 exact Zlt (Nat.mul_le_mul_right _ h6) (low_items hg hw.2)
theorem high_64 {m : Nat} {s : Slot} {ls : List (List Nd)} (hm : 4 ≤ m) (h : Good [s] ls) (hw : WLv m true ls) (hl : (items ls).length ≤ 1000000000000) : ls.length ≤ 64:=by
 match ls,h,hw,hl with
 | [],h,_,_ => exact h.elim
 | [L],_,_,_ => simp
 | L :: M :: r,h,hw,hl =>
  have h2:=(top_low h hw).2
  rcases Nat.lt_or_ge 64 (L :: M :: r).length with hc | hc
  ·have h3 : 2 ^ 63 ≤ (m / 2) ^ (M :: r).length:=Zlt (Nat.pow_le_pow_right Om (by simp at hc ⊢; omega)) (Nat.pow_le_pow_left Om _)
   omega
  ·exact hc
def untilB (to k : ByteArray) : Bool:=to.toList.isEmpty || kl k to
def tellL (to : ByteArray) (most : Int) (r : List It) : List It:=(r.takeWhile fun x => untilB to x.key).take most.toNat
def listL (frm to : ByteArray) (most : Int) (l : List It) : List It:=tellL to most (l.drop (cntL frm l))
theorem tellL_nil (to : ByteArray) (most : Int) : tellL to most [] = []:=by simp [tellL]
theorem tellL_zero {to : ByteArray} {most : Int} (r : List It) (h : most ≤ 0) : tellL to most r = []:=by
 have : most.toNat = 0:=by omega
 simp [tellL,this]
theorem tellL_stop {to : ByteArray} {most : Int} {x : It} {r : List It} (h : untilB to x.key = false) : tellL to most (x :: r) = []:=by
 simp [tellL,h]
theorem tellL_cons {to : ByteArray} {most : Int} {x : It} {r : List It} (h : untilB to x.key = true) (hm : 0 < most) : tellL to most (x :: r) = x :: tellL to (most - 1) r:=by
 obtain ⟨k,hk⟩ : ∃ k,most.toNat = k + 1:=⟨most.toNat - 1,by omega⟩
 have hk2 : (most - 1).toNat = k:=by omega
 simp [tellL,h,hk,hk2]
abbrev Pr:=ByteArray × ByteArray
def PRow (w : World) (p : Option Addr) (l : List Pr) : Prop:=∀ i (h : i < l.length),∃ b off,p = some ⟨b,off,none⟩ ∧ w.cell? ⟨b,off + i * 2,none⟩ = some (.string (l[i]).1) ∧ w.cell? ⟨b,off + i * 2 + 1,none⟩ = some (.string (l[i]).2)
theorem PRow.later {w w' : World} {p : Option Addr} {l : List Pr} (h : PRow w p l) (hb : Below w.heap.size w w') : PRow w' p l:=fun i hi => by
 obtain ⟨b,off,e,h1,h2⟩:=h i hi
 exact ⟨b,off,e,cell_later hb h1,cell_later hb h2⟩
def risB : List Pr → Bool
 | a :: b :: r => kl a.1 b.1 && risB (b :: r)
 | _ => true
theorem risB_iff : ∀ l : List Pr,risB l = true ↔ ∀ j (h : j + 1 < l.length),kl (l[j]).1 (l[j + 1]).1 = true
 | [] => by simp [risB]
 | [a] => by simp [risB]
 | a :: b :: r => by
  rw [risB,Bool.and_eq_true,risB_iff (b :: r)]
  constructor
  ·rintro ⟨h1,h2⟩ j h
   match j,h with
   | 0,_ => exact h1
   | j + 1,h => exact h2 j (by simpa using h)
  ·exact fun h => ⟨h 0 Si,fun j hj => h (j + 1) (by simpa using hj)⟩
theorem risB_srt : ∀ {l : List Pr},risB l = true → l.Pairwise fun a b => kl a.1 b.1 = true
 | [],_ => List.Pairwise.nil
 | [a],_ => List.pairwise_singleton _ _
 | a :: b :: r,h => by
  rw [risB,Bool.and_eq_true] at h
  have ih:=risB_srt h.2
  refine List.pairwise_cons.2 ⟨fun x hx => ?_,ih⟩
  rcases Zmc hx with rfl | hx
  ·exact h.1
  ·exact kl_trans h.1 ((List.pairwise_cons.1 ih).1 x hx)
theorem leq_kl (x y : ByteArray) : (Op.bytesLess y.toList x.toList || y.toList == x.toList) = !(kl x y):=by
 cases h : kl x y with
 | true =>
  have h1:=kl_asymm h
  have h2 : (y.toList == x.toList) = false:=by
   rw [beq_eq_false_iff_ne]
   exact fun e => kl_ne h (ba_inj e.symm)
  unfold kl at h1
  rw [h1,h2]
  rfl
 | false =>
  by_cases e : x = y
  ·subst e; simp
  ·have:=kl_total h e
   unfold kl at this
   rw [this]
   rfl
theorem rising_any (w : World) (p : Option Addr) (cap : Nat) (l : List Pr) (hr : PRow w p l) (hl : l.length ≤ 4611686018427387904) :
  Calls Tryz.prog 213 #[.slice p l.length cap] w fun e w' => e = .returned (.bool (risB l)) ∧ Below w.heap.size w w':=by
 have HR : Hid (PRow w p l):=hr
 clear hr
 go_enter Tryz.func213,Tryz.ntmps213
 go_wp2
 go_loopw [3] (fun i wr => ∃ j : Nat,i = .int .i64 ((j : Int) + 1) ∧ (j + 1 ≤ l.length ∨ j = 0) ∧ (∀ q (h : q + 1 < l.length),q < j → kl (l[q]).1 (l[q + 1]).1 = true) ∧ Below w.heap.size w wr) (fun i _ => l.length + 1 - (intOf i).toNat)
 case atStart => exact ⟨0,rfl,Or.inr rfl,fun q _ h => absurd h (Nat.not_lt_zero _),Bxr _ _⟩
 case round =>
  obtain ⟨j,rfl,hj,hall,hb⟩:=hrel
  have HA : Hid (∀ q (h : q + 1 < l.length),q < j → kl (l[q]).1 (l[q + 1]).1 = true):=hall
  have HB : Hid (Below w.heap.size w wr):=hb
  clear hall hb
  by_cases hlt : j + 1 < l.length
  ·have hlti : (j : Int) + 1 < (l.length : Int):=by omega
   have hlt0 : (j : Int) < (l.length : Int):=by omega
   obtain ⟨b,off,rfl,h1,_⟩:=(HR.out.later HB.out) (j + 1) hlt
   obtain ⟨b',off',e',h0,_⟩:=(HR.out.later HB.out) j Om
   simp only [Option.some.injEq,Addr.mk.injEq,and_true] at e'
   obtain ⟨rfl,rfl⟩:=e'
   have HX : Hid (∀ (h0 : j < l.length) (h1 : j + 1 < l.length),∃ x y,(l[j]).1 = x ∧ (l[j + 1]).1 = y ∧ wr.cell? ⟨b,off + j * 2,none⟩ = some (.string x) ∧ wr.cell? ⟨b,off + (j + 1) * 2,none⟩ = some (.string y)):=fun _ _ => ⟨_,_,rfl,rfl,h0,h1⟩
   clear h0 h1
   obtain ⟨x,y,hx,hy,h0,h1⟩:=HX.out Om hlt
   have HXY : Hid (∀ (h0 : j < l.length) (h1 : j + 1 < l.length),(l[j]).1 = x ∧ (l[j + 1]).1 = y):=fun _ _ => ⟨hx,hy⟩
   clear hx hy HX
   go_wp2
   go_quiet (fail)
   rw [leq_kl]
   obtain ⟨c,hc⟩:=Vx (kl x y)
   rw [hc]
   have HC : Hid (kl x y = c):=hc
   clear hc
   cases c with
   | false =>
    go_wp2
    go_ret
    refine ⟨?_,below_drewN HB.out _⟩
    have hn : risB l = false:=by
     cases h : risB l with
     | false => rfl
     | true =>
      have h1:=(risB_iff l).1 h j hlt
      rw [(HXY.out Om hlt).1,(HXY.out Om hlt).2,HC.out] at h1
      cases h1
    rw [hn]
    rfl
   | true =>
    go_wp2
    refine ⟨⟨j + 1,by go_num,Or.inl Om,fun q hq hq2 => ?_,below_drewN HB.out _⟩,by simp only [intOf]; omega⟩
    by_cases e : q = j
    ·subst e
     rw [(HXY.out Om hlt).1,(HXY.out Om hlt).2]
     exact HC.out
    ·exact HA.out q hq Om
  ·have hlti : ¬ (j : Int) + 1 < (l.length : Int):=by omega
   go_wp2
   go_ret
   refine ⟨?_,HB.out⟩
   rw [(risB_iff l).2 fun q hq => HA.out q hq Om]
   rfl
def pc : List It → List Value
 | [] => []
 | x :: r => .string x.key :: .string x.val :: pc r
theorem pc_append : ∀ a b : List It,pc (a ++ b) = pc a ++ pc b
 | [],_ => rfl
 | x :: r,b => by simp only [List.cons_append,pc,pc_append r b]
def Spot (ls : List (List Nd)) (q : Option Addr) (i : Nat) (r : List It) : Prop :=
 (q = none ∧ r = []) ∨ ∃ A n C,ls.getLast? = some (A ++ n :: C) ∧ i < n.its.length ∧ q = some ⟨n.b,0,none⟩ ∧ r = n.its.drop i ++ C.flatMap (·.its)
def Filled (ls : List (List Nd)) : Prop:=∀ A n C,ls.getLast? = some (A ++ n :: C) → ∀ x ∈ C,x.its ≠ []
theorem last_mem {ls : List (List Nd)} {A C : List Nd} {n : Nd} (h : ls.getLast? = some (A ++ n :: C)) : (n,hd C none) ∈ allX ls:=by
 obtain ⟨r,rfl⟩:=List.getLast?_eq_some_iff.1 h
 rw [allX_append,allX_cons]
 exact List.mem_append_right _ (List.mem_append_left _ (link_at [] A C n none))
theorem Spot.head {ls : List (List Nd)} {A C : List Nd} {n : Nd} (hf : Filled ls) (h : ls.getLast? = some (A ++ n :: C)) : Spot ls (pOf (hd C none)) 0 (C.flatMap (·.its)):=by
 match C,h with
 | [],_ => exact Or.inl ⟨rfl,rfl⟩
 | n' :: C',h =>
  refine Or.inr ⟨A ++ [n],n',C',by simpa using h,List.length_pos_iff.2 (hf A n (n' :: C') h n' Si),rfl,by simp⟩
theorem Spot.next {ls : List (List Nd)} {A C : List Nd} {n : Nd} {i : Nat} (hf : Filled ls) (h : ls.getLast? = some (A ++ n :: C)) : Spot ls (if i < n.its.length then some ⟨n.b,0,none⟩ else pOf (hd C none)) (if i < n.its.length then i else 0) (n.its.drop i ++ C.flatMap (·.its)):=by
 split
 ·rename_i hi
  exact Or.inr ⟨A,n,C,h,hi,rfl,rfl⟩
 ·rename_i hi
  rw [List.drop_eq_nil_of_le Om]
  exact Spot.head hf h
theorem filled_of {m : Nat} {s : Slot} {ls : List (List Nd)} (hm : 4 ≤ m) (h : Good [s] ls) (hw : WLv m true ls) : Filled ls:=by
 intro A n C he x hx
 have key : ∀ {ls : List (List Nd)} {L : List Nd},ls.getLast? = some L → WLv m false ls → ∀ y ∈ L,y.its ≠ []:=by
  intro ls
  induction ls with
  | nil => intro L e; simp at e
  | cons M r ih =>
   intro L e hw y hy
   cases r with
   | nil =>
    simp at e
    subst e
    have:=(hw.1 y hy).1
    unfold lowB at this
    intro e'
    rw [e'] at this
    simp at this
    omega
   | cons M' r => exact ih (by simpa using e) hw.2 y hy
 match ls,h,hw,he with
 | [L],h,hw,he =>
  simp at he
  have:=(good_fits h).length
  rw [he] at this
  simp at this
  have hc : C = []:=List.eq_nil_of_length_eq_zero Om
  rw [hc] at hx
  simp at hx
 | L :: M :: r,h,hw,he => exact key (by simpa using he) hw.2 x (by simp [hx])
end BB
end Go.Proofs.YtmmmkjhpmlfopaaGreatDoor
