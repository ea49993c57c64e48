/- O21 O26 O27 O28 -/
import Derived.Test.YtmmmkjhpmlfopaaGreatDoorSB22
import Derived.Test.YtmmmkjhpmlfopaaGreatDoorSo
import Derived.Shelf.SlSortCmp.NoneTotal
set_option maxHeartbeats 8000000
set_option maxRecDepth 100000
namespace Go.Proofs.YtmmmkjhpmlfopaaGreatDoor
open Go.RowKit
section
open Go.RowKit BB
def PairsP (D : TD) (p j : Nat) (rs : List Row3) (lo hi : ByteArray) (b : Nat) (e : Ending) (w' : World) : Prop :=
 ∃ (v : Value) (l m : List It),e = .returned v ∧ w'.ownsRow b 152 2 v m.length (pc m) ∧ ListP D p j rs lo hi l ∧ m.length = l.length ∧ ((j = 0 ∧ m = l) ∨ (0 < j ∧ ∀ i (h : i < m.length) (h' : i < l.length),(m[i]).key = (l[i]).key ∧ ∃ r ∈ rs,homeR D.P D.t r = p ∧ nmR D.t r = (l[i]).val ∧ (m[i]).val = rE r))
theorem list_key {B : Nat} {Z : Nat → Prop} (w : World) (D : TD) (p : Nat) (i : Int) (hi : i = -1) (rs : List Row3) (hF : Fix w D) (hT : Trs w B Z D fun _ _ => rs) (ht : TR D.t) (hk : TabOk D.t rs) (hn : rs.length ≤ 3000000000) (hp : p < D.P) (lo hi' : ByteArray) :
  Calls Tryz.prog 73 #[.slice (some ⟨D.bs p,0,none⟩) D.K (D.cq p),.int .i64 i,.string lo,.string hi'] w fun e w' => Below w.heap.size w w' ∧ PairsP D p 0 rs lo hi' w.heap.size e w':=by
 have hjK : 0 < D.K:=Nat.succ_pos _
 have HTR:=Hd (tree_any w D p 0 i Om hjK (by have:=ht.ixs; unfold TD.K; omega) (hF.trees p hp 0 hjK))
 have HLS:=Hd (list_t hT ht hp hjK hk Om lo hi')
 have hib : (i == -1) = true:=by rw [beq_iff_eq]; omega
 clear hF hT ht hk hp hjK hi hn
 unfold TD.pv at HTR
 go_enter Tryz.func73,Tryz.ntmps73
 go_wp2_with (first
  | (go_at_call 66; refine HTR.out.mono ?_; rintro e w1 ⟨rfl,hwe⟩; have hwe2:=hwe.symm; clear hwe; subst hwe2)
  | (go_at_call 127; refine HLS.out.mono ?_; rintro e w2 ⟨hb2,v,rfl,l,hl,ho⟩; obtain ⟨pv,cv,rfl⟩:=ownF ho; have HB2:=Hd hb2; have HO:=Hd ho; have HL:=Hd hl; clear hb2 ho hl))
 go_ret
 exact ⟨HB2.out,_,l,l,rfl,HO.out,HL.out,rfl,Or.inl ⟨rfl,rfl⟩⟩
theorem pc_val : ∀ (l : List It) (k : Nat) (h : k < l.length) (v : ByteArray),(pc l).set (k * 2 + 1) (.string v) = pc (l.set k ⟨(l[k]).key,v,(l[k]).kid⟩)
 | x :: r,0,_,v => rfl
 | x :: r,k + 1,h,v => by
  have ih:=pc_val r k (by simpa using h) v
  have e1 : (k + 1) * 2 + 1 = (k * 2 + 1) + 1 + 1:=by omega
  rw [e1]
  simp only [pc,List.set_cons_succ,List.getElem_cons_succ,ih]
theorem list_ix {B : Nat} {Z : Nat → Prop} (w : World) (D : TD) (p j : Nat) (i : Int) (hi : i = (j : Int) - 1) (hj : 0 < j) (rs : List Row3) (hF : Fix w D) (hT : Trs w B Z D fun _ _ => rs) (ht : TR D.t) (hk : TabOk D.t rs) (hn : rs.length ≤ 3000000000) (hp : p < D.P) (hjK : j < D.K) (lo hi' : ByteArray) :
  Calls Tryz.prog 73 #[.slice (some ⟨D.bs p,0,none⟩) D.K (D.cq p),.int .i64 i,.string lo,.string hi'] w fun e w' => Below w.heap.size w w' ∧ PairsP D p j rs lo hi' w.heap.size e w':=by
 have hjK0 : 0 < D.K:=Nat.succ_pos _
 have HTR:=Hd (tree_any w D p j i hi hjK (by have:=ht.ixs; unfold TD.K; omega) (hF.trees p hp j hjK))
 have HLS:=Hd (list_t hT ht hp hjK hk Om lo hi')
 have HT0:=Hd (fun W (hb : Below w.heap.size w W) => tree_any W D p 0 (-1) Om hjK0 (by have:=ht.ixs; unfold TD.K; omega) ((hF.later hb).trees p hp 0 hjK0))
 have HG0:=Hd (fun W (hb : Below w.heap.size w W) k => get_t (hT.later hb) ht hp hk Om k)
 have HN:=Hd hn
 have hib : (i == -1) = false:=by rw [beq_eq_false_iff_ne]; omega
 have HJ:=Hd hj
 clear hF hT ht hk hp hjK hjK0 hi hj hn
 unfold TD.pv at HTR HT0
 go_enter Tryz.func73,Tryz.ntmps73
 go_wp2_with (first
  | (go_at_call 66; refine HTR.out.mono ?_; rintro e w1 ⟨rfl,hwe⟩; have hwe2:=hwe.symm; clear hwe; subst hwe2)
  | (go_at_call 127; refine HLS.out.mono ?_; rintro e w2 ⟨hb2,v,rfl,l,hl,ho⟩; obtain ⟨pv,cv,rfl⟩:=ownF ho; have HB2:=Hd hb2; have HO:=Hd ho; have HL:=Hd hl; have HLN : Hid (l.length ≤ 3000000000):=Hd (Zlt hl.2.2 HN.out); clear hb2 ho hl))
 go_loopw [23] (fun q wr => ∃ k : Nat,k ≤ l.length ∧ q = .int .i64 (k : Int) ∧ ∃ m : List It,m.length = l.length ∧ wr.ownsRow w.heap.size 152 2 (.slice pv l.length cv) l.length (pc m) ∧ (∀ i (h : i < m.length) (h' : i < l.length),if i < k then (m[i]).key = (l[i]).key ∧ ∃ r ∈ rs,homeR D.P D.t r = p ∧ nmR D.t r = (l[i]).val ∧ (m[i]).val = rE r else m[i] = l[i]) ∧ Below w.heap.size w wr) (fun q _ => l.length - (intOf q).toNat)
 case atStart => exact ⟨0,Nat.zero_le _,rfl,l,rfl,HO.out,fun i _ _ => by simp,HB2.out⟩
 case round =>
  obtain ⟨k,hk,rfl,m,hml,hown,hm,hb⟩:=hrel
  have hsz:=hb.size
  have hln:=HLN.out
  have HMM:=Hd hm
  have HB:=Hd hb
  have HOW:=Hd hown
  have HML:=Hd hml
  clear hm hb hown hml
  by_cases hlt : k < l.length
  ·have hlti : (k : Int) < (l.length : Int):=by omega
   obtain ⟨g,cap,e,d0,d1⟩:=prow_at (by have h:=HOW.out; rw [← HML.out] at h; exact h) (by rw [HML.out]; exact hlt)
   simp only [Value.slice.injEq] at e
   obtain ⟨rfl,_,rfl⟩:=e
   have hgm:=(HMM.out k (by rw [HML.out]; exact hlt) hlt)
   rw [if_neg Om] at hgm
   rw [hgm] at d0 d1
   have lg:=cell_lt d0
   obtain ⟨x,hx⟩:=Vx (l[k])
   have HX:=Hd hx
   rw [hx] at d0 d1
   obtain ⟨xk,hxk⟩:=Vx x.key
   obtain ⟨xv,hxv⟩:=Vx x.val
   have HXK:=Hd hxk
   have HXV:=Hd hxv
   rw [hxk] at d0
   rw [hxv] at d1
   clear hx hxk hxv hgm
   have HGO : Hid (∀ e,GotP D p rs xv e → ∃ s : ByteArray,e = .returned (.tuple #[.string s,.bool true]) ∧ ∃ r ∈ rs,homeR D.P D.t r = p ∧ nmR D.t r = xv ∧ s = rE r):=Hd (by
    intro e he
    rcases he with ⟨r,h1,h2,h3,rfl⟩ | ⟨h1,_⟩
    ·exact ⟨_,rfl,r,h1,h2,h3,rfl⟩
    ·exfalso
     obtain ⟨_,⟨r,hr,h2,h3,h4⟩,_⟩:=(HL.out.2.1 l[k]).1 (List.getElem_mem hlt)
     refine h1 r hr h2 ?_
     rw [← HXV.out,← HX.out,h4,vaJ,if_neg (by have:=HJ.out; omega)])
   obtain ⟨W1,hW1⟩:=Vx (wr.alloc (Obj.cells #[.string xk,.string xv] 152))
   have hbW1 : Below wr.heap.size wr W1:=by rw [← hW1]; exact (Bxr _ _).alloc Zlr _
   have a1 : W1.cell? ⟨wr.heap.size,1,none⟩ = some (.string xv):=by
    rw [← hW1]
    exact cell_blk (heap_alloc_new wr _) rfl
   have a2 : W1.cell? ⟨g,k * 2 + 1,none⟩ = some (.string xv):=cell_later hbW1 d1
   have HB1:=Hbt HB hbW1
   have HW1:=Hd hbW1
   have HO1:=Hd (own_later9 HOW.out hbW1)
   obtain ⟨bx,hbx⟩:=Vx wr.heap.size
   go_wp2_with fail
   try rw [hW1]
   try rw [hbx] at a1
   try rw [hbx]
   have HBX:=Hd hbx
   have hne1 : bx ≠ g:=by have:=HBX.out; have : g < wr.heap.size:=lg; omega
   have hne2 : g ≠ bx:=fun e => hne1 e.symm
   clear hW1 hbx hbW1 d0 d1
   go_region_held3 (fun w' => w'.cell? ⟨bx,1,none⟩ = some (.string xv)) (go_simp) (first
    | (go_at_call 66; (have hb9 : Below w.heap.size w W1.drew:=HB1.out.drew); refine (HT0.out _ hb9).mono ?_; rintro e w4 ⟨rfl,hwe⟩; (have hwe2:=hwe.symm); clear hwe hb9; subst hwe2)
    | (go_at_call 83; (have hb9 : Below w.heap.size w W1.drew:=HB1.out.drew); refine (HG0.out _ hb9 xv).mono ?_; rintro e w5 ⟨hq9,hge⟩; obtain ⟨sv,rfl,hsv⟩:=HGO.out e hge; (have HSV:=Hd hsv); (have hd : Below W1.heap.size W1 W1.drew:=(Bxr _ _).drew); (have hbb:=hd.trans (hq9.mono hd.size)); (have HB5:=Hd hbb); (have s0:=cell_later hbb a1); (have s1:=cell_later hbb a2); (have HO5:=Hd (own_later9 HO1.out hbb)); (have sf:=HO5.out.frozenAt (k * 2 + 1)); clear hb9 hd hbb hq9 hge hsv))
   rename_i hHeld
   clear hHeld s0 s1
   have hst:=HO5.out.stored (k * 2 + 1) (.string sv)
   have hge : w.heap.size ≤ g:=(HO5.out.lt g rfl).1
   have hb5 : Below w.heap.size w w5:=HB1.out.trans (HB5.out.mono HB1.out.size)
   have hbb : Below w.heap.size w (w5.setCell ⟨g,k * 2 + 1,none⟩ (.string sv)):=hb5.grown hst.2 hb5.size fun q hq => by cases hq; exact hge
   have hkm : k < m.length:=by rw [HML.out]; exact hlt
   have hrow:=hst.1
   rw [pc_val m k hkm sv] at hrow
   have HRW:=Hd hrow
   have HBB:=Hd hbb
   clear hst hb5 hrow hbb
   go_wp2
   go_roundw
   case rel =>
    refine ⟨k + 1,by omega,by go_num,_,by rw [List.length_set]; exact HML.out,HRW.out,fun i h h' => ?_,HBB.out⟩
    have h0 : i < m.length:=by simpa using h
    by_cases c : i = k
    ·subst c
     rw [if_pos Om,List.getElem_set_self]
     have hgm:=HMM.out i h0 h'
     rw [if_neg Om] at hgm
     refine ⟨by rw [hgm],?_⟩
     obtain ⟨r,h1,h2,h3,h4⟩:=HSV.out
     exact ⟨r,h1,h2,by rw [h3,HX.out,HXV.out],h4⟩
    ·rw [List.getElem_set_ne Om]
     have hgm:=HMM.out i h0 h'
     by_cases c' : i < k
     ·rw [if_pos c'] at hgm
      rw [if_pos Om]
      exact hgm
     ·rw [if_neg c'] at hgm
      rw [if_neg Om]
      exact hgm
   case measure => simp [intOf]; omega
  ·have hlti : ¬ (k : Int) < (l.length : Int):=by omega
   have hkl : k = l.length:=by omega
   go_wp2
   go_ret
   refine ⟨HB.out,.slice pv l.length cv,l,m,rfl,?_,HL.out,HML.out,Or.inr ⟨HJ.out,fun i h1 h2 => ?_⟩⟩
   ·have h:=HOW.out
    rw [HML.out]
    exact h
   ·have:=HMM.out i h1 h2
    rwa [if_pos Om] at this
end
section
open Go.RowKit BB
abbrev Pr:=ByteArray × ByteArray
def encPr (x : Pr) : List Value:=[.string x.1,.string x.2]
def cmpPr (x y : Pr) : Int:=Lib.compareBytes x.1.toList y.1.toList
def prI (x : It) : Pr:=(x.key,x.val)
def pcP (l : List Pr) : List Value:=l.flatMap encPr
theorem pc_pcP : ∀ m : List It,pc m = pcP (m.map prI)
 | [] => rfl
 | x :: m => by
  show _ = encPr (prI x) ++ pcP (m.map prI)
  rw [← pc_pcP m]
  rfl
theorem pcP_len : ∀ l : List Pr,(pcP l).length = l.length * 2
 | [] => rfl
 | x :: l => by
  show (encPr x ++ pcP l).length = _
  rw [Zla,pcP_len l,List.length_cons]
  show 2 + _ = _
  omega
theorem pcP_get : ∀ (l : List Pr) (j : Nat),j < l.length * 2 → (pcP l)[j]? = some ((encPr (l[j / 2]!))[j % 2]!)
 | [],j,h => by simp at h
 | x :: l,0,_ => rfl
 | x :: l,1,_ => rfl
 | x :: l,j + 2,h => by
  have ih:=pcP_get l j (by simp at h; omega)
  show (encPr x ++ pcP l)[j + 2]? = _
  rw [List.getElem?_append_right (by show 2 ≤ j + 2; omega)]
  show (pcP l)[j + 2 - 2]? = _
  rw [Nat.add_sub_cancel,ih,show (j + 2) / 2 = j / 2 + 1 by omega,show (j + 2) % 2 = j % 2 by omega]
  rfl
theorem ltPr (x y : Pr) : ltOf cmpPr x y = kl x.1 y.1:=cmp_lt _ _
theorem swoPr : Sort.SWO (ltOf cmpPr) where
 irrefl x:=by rw [ltPr]; exact kl_irrefl _
 trans x y z h1 h2:=by rw [ltPr] at *; exact kl_trans h1 h2
 ntrans x y z h1 h2:=by rw [ltPr] at *; exact kl_le_trans h2 h1
theorem sortW_other {enc : Pr → List Value} {k : Nat} {w : World} {g m : Nat} {d : Array Pr} {os : Array Obj} {b : Nat} (hb : b < w.heap.size) (hn : b ≠ g) : (sortWorldK enc k w g 0 m d os).heap[b]? = w.heap[b]?:=by
 unfold sortWorldK Sort.grow Sort.putRowK Sort.putRow Sort.mapBlock Sort.ahead
 simp only
 rw [Array.getElem?_append_left (by simpa using hb),Array.getElem?_modify,if_neg (fun e => hn e.symm)]
theorem sortW_row {enc : Pr → List Value} {k : Nat} {w : World} {g m : Nat} {d : Array Pr} {os : Array Obj} {c : Array Value} {e : TypeId} {fr : Nat × Nat} (h : w.heap[g]? = some (.cells c e fr)) : ∃ c',(sortWorldK enc k w g 0 m d os).heap[g]? = some (.cells c' e fr) ∧ c'.size = c.size:=by
 have hg:=(Gx h)
 refine ⟨Sort.putCells id 0 (Sort.flatK enc k d) c,?_,by simp [Sort.putCells]⟩
 unfold sortWorldK Sort.grow Sort.putRowK Sort.putRow Sort.mapBlock Sort.ahead
 simp only
 rw [Array.getElem?_append_left (by simpa using hg),Array.getElem?_modify,if_pos rfl,h]
 rfl
theorem sortW_grown {enc : Pr → List Value} {k : Nat} {w : World} {g m : Nat} {d : Array Pr} {os : Array Obj} : w.grownBy (sortWorldK enc k w g 0 m d os) (some g) :=
 ⟨rfl,rfl,rfl,size_sortWorldK_c enc k w g 0 m d os,fun b hb hn => sortW_other hb fun e => hn (by rw [e])⟩
theorem own_of9 {w : World} {B : Nat} {e : TypeId} {size n cap g : Nat} {cur : Array Value} {xs : List Value} (hB : B ≤ g) (hx : xs.length = n * size) (hg : w.heap[g]? = some (.cells cur e (0,0))) (hn : n ≤ cap) (hm : cap ≤ maxLen) (hs : cur.size = cap * size) (hc : ∀ j,j < n * size → w.cell? ⟨g,j,none⟩ = xs[j]?) : w.ownsRow B e size (.slice (some ⟨g,0,none⟩) n cap) n xs:=by
 refine ⟨hx,Or.inr ⟨g,cap,cur,rfl,hB,hg,hn,hm,hs,?_⟩⟩
 have hle : n * size ≤ cur.size:=by rw [hs]; exact Nat.mul_le_mul_right _ hn
 apply List.ext_getElem?
 intro j
 by_cases hj : j < n * size
 ·have h1:=hc j hj
  simp only [World.cell?,hg] at h1
  rw [List.getElem?_take_of_lt hj,← h1]
  simp
 ·rw [List.getElem?_eq_none (by rw [List.length_take]; omega),List.getElem?_eq_none Om]
theorem cmp1_any (x y : Pr) (W : World) : Calls Tryz.prog 75 #[.agg (encPr x).toArray,.agg (encPr y).toArray] W fun e w' => e = .returned (.int .i64 (cmpPr x y)) ∧ ∃ q os',w' = Sort.grow (W.drewN q) os':=by
 have HC:=Hd (fun V => compare_any x.1 y.1 V)
 obtain ⟨c,hc⟩:=Vx (cmpPr x y)
 have hc2 : Lib.compareBytes x.1.toList y.1.toList = c:=hc
 rw [hc2] at HC
 rw [hc]
 clear hc hc2
 obtain ⟨x1,x2⟩:=x
 obtain ⟨y1,y2⟩:=y
 simp only [encPr] at HC ⊢
 go_enter Tryz.func75,Tryz.ntmps75
 go_wp2_with (go_at_call 76; refine (HC.out _).mono ?_; rintro e w' ⟨rfl,rfl⟩)
 go_ret
 exact ⟨rfl,0,_,by rw [Sort.alloc_eq_grow,Sort.alloc_eq_grow,Sort.grow_grow]; rfl⟩
def SortP (B : Nat) (v : Value) (m : List It) (w : World) (e : Ending) (w' : World) : Prop :=
 e = .returned (.tuple #[]) ∧ ∃ m' : List Pr,m'.Perm (m.map prI) ∧ m'.Pairwise (fun a b => kl b.1 a.1 = false) ∧ w'.ownsRow B 152 2 v m.length (pcP m') ∧ w.grownBy w' v.ownBlock
theorem sort_pairs (w : World) (B : Nat) (v : Value) (m : List It) (hv : w.ownsRow B 152 2 v m.length (pc m)) (hm : m.length ≤ 4000000000) :
  Calls Tryz.prog 74 #[v,.func (.func 75) #[] #[]] w (SortP B v m w):=by
 have hv0:=hv
 obtain ⟨_,⟨rfl,h0⟩ | ⟨g,cap,cur,rfl,hB,hg,hn,hmx,hs,_⟩⟩:=hv
 ·have hcon:=AnyF.slices_SortFunc_none Tryz.sortPair none 0 (.func (.func 75) #[] #[]) w
  change Calls Tryz.prog 74 _ _ _ at hcon
  refine hcon.mono ?_
  rintro e w' ⟨rfl,rfl⟩
  have hm0 : m = []:=List.eq_nil_of_length_eq_zero h0
  subst hm0
  exact ⟨rfl,[],List.Perm.refl _,List.Pairwise.nil,hv0,rfl,rfl,rfl,Nat.le_refl _,fun _ _ _ => rfl⟩
 ·have hgl:=(Gx hg)
  obtain ⟨d,hd⟩:=Vx ((m.map prI).toArray)
  have hds : d.size = m.length:=by rw [← hd]; simp
  have hH : Sort.HoldsK encPr 2 w g 0 d:=by
   intro j hj
   rw [Sort.size_flatK,hds] at hj
   rw [Sort.get_flatK _ _ _ _ (by rw [hds]; exact hj),Nat.zero_add]
   refine ⟨?_,hv0.frozenAt j⟩
   rw [hv0.cellAt j hj,pc_pcP,pcP_get _ _ (by simpa using hj),← hd]
   simp
  have hcon:=AnyQ.slices_SortFunc Tryz.sortPair 2 Tryz.isAgg152 Tryz.sizeOf152 encPr (fun _ => rfl) (fun x v hv => by simp [encPr] at hv; rcases hv with rfl | rfl <;> rfl) cmpPr swoPr 75 #[] g 0 cap d w (enters_of Tryz.func75 Kr rfl) (fun _ _ _ _ x y => cmp1_any x y _) hH hgl Om
  change Calls Tryz.prog 74 _ _ _ at hcon
  rw [hds] at hcon
  refine hcon.mono ?_
  rintro e w' ⟨rfl,d',n,os,hp,hso,rfl⟩
  have hdz : d'.size = m.length:=by have:=hp.1; omega
  have hH':=holdsK_sortWorldK_c encPr 2 w g 0 d d' n os hH hgl hp.1
  obtain ⟨c',hg',hs'⟩:=sortW_row (enc:=encPr) (k:=2) (m:=n) (d:=d') (os:=os) hg
  refine ⟨rfl,d'.toList,?_,?_,own_of9 hB (by rw [pcP_len]; simp [hdz]) hg' hn hmx (by rw [hs',hs]) fun j hj => ?_,sortW_grown⟩
  ·have h2:=hp.2.2
   rw [Array.extract_eq_self_of_le Om,Array.extract_eq_self_of_le Om] at h2
   rw [← hd] at h2
   simpa using h2
  ·rw [List.pairwise_iff_getElem]
   intro i j hi hj hij
   have:=hso i j (Nat.zero_le _) hij (by simpa [hdz] using hj)
   rw [ltPr] at this
   simp at hi hj
   rw [getElem!_pos d' i hi,getElem!_pos d' j hj] at this
   simpa using this
  ·have:=(hH' j (by rw [Sort.size_flatK,hdz]; exact hj)).1
   rw [Sort.get_flatK _ _ _ _ (by rw [hdz]; exact hj),Nat.zero_add] at this
   have e : d'.toList[j / 2]! = d'[j / 2]!:=by
    have hj2 : j / 2 < d'.size:=by omega
    rw [getElem!_pos d'.toList (j / 2) (by simpa using hj2),getElem!_pos d' (j / 2) hj2,Array.getElem_toList]
   rw [this,pcP_get _ _ (by simpa [hdz] using hj),e]
   rfl
end
section
open Go.RowKit BB
def inRg (lo hi k : ByteArray) : Prop:=kl k lo = false ∧ untilB hi k = true
structure FoundP (D : TD) (j : Nat) (rs : List Row3) (lo hi : ByteArray) (pre : List Nat) (m : List It) : Prop where
 nd : (m.map It.key).Nodup
 sub : ∀ x ∈ m,∃ r ∈ rs,homeR D.P D.t r ∈ pre ∧ x.key = skJ D.t j r ∧ x.val = rE r ∧ inRg lo hi x.key
 all : ∀ r ∈ rs,homeR D.P D.t r ∈ pre → inRg lo hi (skJ D.t j r) → ∃ x ∈ m,x.key = skJ D.t j r
theorem FoundP.nil (D : TD) (j : Nat) (rs : List Row3) (lo hi : ByteArray) : FoundP D j rs lo hi [] []:=⟨List.nodup_nil,fun _ h => absurd h Si,fun _ _ h => absurd h Si⟩
theorem FoundP.len {D : TD} {j : Nat} {rs : List Row3} {lo hi : ByteArray} {pre : List Nat} {m : List It} (h : FoundP D j rs lo hi pre m) : m.length ≤ rs.length:=by
 have:=nodup_len (m:=rs.map (skJ D.t j)) h.nd fun k hk => by
  obtain ⟨x,hx,rfl⟩:=List.mem_map.1 hk
  obtain ⟨r,hr,_,e,_⟩:=h.sub x hx
  exact List.mem_map.2 ⟨r,hr,e.symm⟩
 simpa using this
theorem PairsP.found {D : TD} {p j : Nat} {rs : List Row3} {lo hi : ByteArray} {b : Nat} {e : Ending} {w' : World} (hk : TabOk D.t rs) (h : PairsP D p j rs lo hi b e w') : ∃ (v : Value) (m : List It),e = .returned v ∧ w'.ownsRow b 152 2 v m.length (pc m) ∧ FoundP D j rs lo hi [p] m:=by
 obtain ⟨v,l,m,rfl,ho,⟨hs,hm,_⟩,hl,hj⟩:=h
 refine ⟨v,m,rfl,ho,?_⟩
 have hnd : (l.map It.key).Nodup:=srt_nodup hs
 rcases hj with ⟨rfl,rfl⟩ | ⟨hj0,hj⟩
 ·refine ⟨hnd,fun x hx => ?_,fun r hr hp hi' => ?_⟩
  ·obtain ⟨_,⟨r,hr,h1,h2,h3⟩,h4⟩:=(hm x).1 hx
   exact ⟨r,hr,by rw [h1]; simp,h2,h3,h4⟩
  ·exact ⟨⟨skJ D.t 0 r,rE r,none⟩,(hm _).2 ⟨rfl,⟨r,hr,Zms hp,rfl,rfl⟩,hi'⟩,rfl⟩
 ·have h0 : j ≠ 0:=by omega
  have hkey : m.map It.key = l.map It.key:=List.ext_getElem (by simpa using hl) fun i h1 h2 => by
   simp only [List.getElem_map]
   exact (hj i (by simpa using h1) (by simpa using h2)).1
  refine ⟨by rw [hkey]; exact hnd,fun x hx => ?_,fun r hr hp hi' => ?_⟩
  ·obtain ⟨i,hi1,rfl⟩:=List.getElem_of_mem hx
   obtain ⟨h1,q,hq,hq1,hq2,hq3⟩:=hj i hi1 Om
   obtain ⟨_,⟨r,hr,h3,h4,h5⟩,h6⟩:=(hm l[i]).1 (List.getElem_mem _)
   rw [vaJ,if_neg h0] at h5
   obtain rfl:=hk.one q hq r hr (hq2.trans h5)
   exact ⟨q,hq,by rw [h3]; simp,h1.trans h4,hq3,by rw [h1]; exact h6⟩
  ·obtain ⟨i,hi1,e⟩:=List.getElem_of_mem ((hm ⟨skJ D.t j r,vaJ D.t j r,none⟩).2 ⟨rfl,⟨r,hr,Zms hp,rfl,rfl⟩,hi'⟩)
   refine ⟨m[i]'Om,List.getElem_mem _,?_⟩
   rw [(hj i Om hi1).1,e]
theorem FoundP.join {D : TD} {j : Nat} {rs : List Row3} {lo hi : ByteArray} {pre : List Nat} {p : Nat} {m m2 : List It} (hk : TabOk D.t rs) (h : FoundP D j rs lo hi pre m) (g : FoundP D j rs lo hi [p] m2) (hp : p ∉ pre) : FoundP D j rs lo hi (pre ++ [p]) (m ++ m2):=by
 refine ⟨?_,fun x hx => ?_,fun r hr hh hi' => ?_⟩
 ·rw [List.map_append,List.nodup_append]
  refine ⟨h.nd,g.nd,fun a ha b hb e => ?_⟩
  obtain ⟨x,hx,rfl⟩:=List.mem_map.1 ha
  obtain ⟨y,hy,rfl⟩:=List.mem_map.1 hb
  obtain ⟨r,hr,h1,h2,_⟩:=h.sub x hx
  obtain ⟨q,hq,g1,g2,_⟩:=g.sub y hy
  obtain rfl:=hk.same hr hq (h2.symm.trans (e.trans g2))
  rw [Zms g1] at h1
  exact hp h1
 ·rcases Zma hx with hx | hx
  ·obtain ⟨r,hr,h1,h2⟩:=h.sub x hx
   exact ⟨r,hr,List.mem_append_left _ h1,h2⟩
  ·obtain ⟨r,hr,h1,h2⟩:=g.sub x hx
   exact ⟨r,hr,List.mem_append_right _ h1,h2⟩
 ·rcases Zma hh with hh | hh
  ·obtain ⟨x,hx,e⟩:=h.all r hr hh hi'
   exact ⟨x,List.mem_append_left _ hx,e⟩
  ·obtain ⟨x,hx,e⟩:=g.all r hr hh hi'
   exact ⟨x,List.mem_append_right _ hx,e⟩
def ScanP (D : TD) (j : Nat) (rs : List Row3) (lo hi : ByteArray) (L : List Row3) : Prop:=L.Pairwise (fun a b => kl (skJ D.t j a) (skJ D.t j b) = true) ∧ ∀ r,r ∈ L ↔ r ∈ rs ∧ inRg lo hi (skJ D.t j r)
theorem map_of {α β : Type} (f : α → β) (Q : α → Prop) : ∀ l : List β,(∀ x ∈ l,∃ a,Q a ∧ x = f a) → ∃ k : List α,l = k.map f ∧ ∀ a ∈ k,Q a
 | [],_ => ⟨[],rfl,fun _ h => absurd h Si⟩
 | x :: l,h => by
  obtain ⟨k,e,hk⟩:=map_of f Q l fun y hy => h y (by simp [hy])
  obtain ⟨a,ha,e2⟩:=h x Si
  exact ⟨a :: k,by rw [List.map_cons,← e,← e2],fun b hb => by
   rcases Zmc hb with rfl | hb
   ·exact ha
   ·exact hk b hb⟩
def rowPr (D : TD) (j : Nat) (r : Row3) : Pr:=(skJ D.t j r,rE r)
theorem scan_of {D : TD} {j : Nat} {rs : List Row3} {lo hi : ByteArray} {m : List It} {m' : List Pr} (hk : TabOk D.t rs) (hP : 1 ≤ D.P) (h : FoundP D j rs lo hi (List.range D.P) m) (hp : m'.Perm (m.map prI)) (hs : m'.Pairwise fun a b => kl b.1 a.1 = false) : ∃ L,ScanP D j rs lo hi L ∧ m' = L.map (rowPr D j):=by
 obtain ⟨L,e,hL⟩:=map_of (rowPr D j) (fun r => r ∈ rs ∧ inRg lo hi (skJ D.t j r)) m' fun x hx => by
  obtain ⟨y,hy,rfl⟩:=List.mem_map.1 (hp.mem_iff.1 hx)
  obtain ⟨r,hr,_,h1,h2,h3⟩:=h.sub y hy
  exact ⟨r,⟨hr,h1 ▸ h3⟩,Prod.ext h1 h2⟩
 subst e
 have hnd : (L.map fun r => skJ D.t j r).Nodup:=by
  have h1 : ((L.map (rowPr D j)).map (·.1)).Nodup:=(hp.map (·.1)).nodup_iff.2 (by
   rw [List.map_map]
   exact h.nd)
  rw [List.map_map] at h1
  exact h1
 refine ⟨L,⟨?_,fun r => ⟨fun hr => hL r hr,fun hr => ?_⟩⟩,rfl⟩
 ·rw [List.pairwise_map] at hs
  unfold List.Nodup at hnd
  rw [List.pairwise_map] at hnd
  exact (hs.and hnd).imp fun {a b} hab => kl_total hab.1 fun e => hab.2 e.symm
 ·obtain ⟨x,hx,e⟩:=h.all r hr.1 (List.mem_range.2 (homeR_lt hP _ _)) hr.2
  obtain ⟨q,hq,e2⟩:=List.mem_map.1 (hp.mem_iff.2 (List.mem_map.2 ⟨x,hx,rfl⟩))
  have e3 : skJ D.t j q = skJ D.t j r:=(congrArg Prod.fst e2).trans e
  rw [← hk.same (hL q hq).1 hr.1 e3]
  exact hq
theorem list_any {B : Nat} {Z : Nat → Prop} (w : World) (D : TD) (p j : Nat) (i : Int) (hi : i = (j : Int) - 1) (rs : List Row3) (hT : Tab w B Z D rs) (hp : p < D.P) (hjK : j < D.K) (lo hi' : ByteArray) :
  Calls Tryz.prog 73 #[D.pv p,.int .i64 i,.string lo,.string hi'] w fun e w' => Below w.heap.size w w' ∧ ∃ (v : Value) (m : List It),e = .returned v ∧ w'.ownsRow w.heap.size 152 2 v m.length (pc m) ∧ FoundP D j rs lo hi' [p] m:=by
 unfold TD.pv
 rcases Nat.eq_zero_or_pos j with h0 | h0
 ·subst h0
  exact (list_key w D p i Om rs hT.fix.now hT.trs hT.tr hT.ok hT.cnt hp lo hi').mono fun e w' h => ⟨h.1,h.2.found hT.ok⟩
 ·exact (list_ix w D p j i hi h0 rs hT.fix.now hT.trs hT.tr hT.ok hT.cnt hp hjK lo hi').mono fun e w' h => ⟨h.1,h.2.found hT.ok⟩
end
section
open Go.RowKit Go.Shelf BB
attribute [local go_sem] Oper.semAt_some
structure RowsO (w : World) (B : Nat) (v : Value) (L : List Row3) : Prop where
 own : ∃ us : List Value,us.length = L.length ∧ w.ownsRow B 26 1 v L.length us ∧ (∀ i (h : i < us.length) (h' : i < L.length),w.ownsRow B 73 3 us[i] (L[i]).length (vc L[i])) ∧ ∀ i j g (h : i < us.length) (h' : j < us.length),us[i].ownBlock = some g → us[j].ownBlock = some g → i = j
theorem alloc_low9 {w : World} {k : Nat} (h : k < w.heap.size) {o : Obj} : (w.alloc o).heap[k]? = w.heap[k]?:=((Below.refl w.heap.size w).alloc Zlr o).block k h
theorem run_append_whole {P : Program} (w : World) (base : Nat) (t ty e : TypeId) (i : TypeInfo) (z : Value) (size bytes : Nat) (ht : P.underlying t = some (.slice e)) (hi : P.info? e = some i) (hz : i.zero = some z) (hsize : i.size = size) (hby : i.bytes = bytes) (hzs : z.cells.size = size) (hsz : 0 < size)
  (v : Value) (n : Nat) (xs : List Value) (hown : w.ownsRow base e size v n xs) (sp : Option Addr) (m c : Nat) (news : List Value) (hl : news.length = m * size) (hnews : 0 < news.length → ∃ ad,sp = some ad ∧ ∀ j u,news[j]? = some u → w.cell? (ad.add j) = some u) (h1 : ∀ u ∈ news,u.oneCell' = true)
  (h63 : n + m ≤ maxLen) (hbytes : (n + m) * bytes ≤ 140737488355328) (hbase : base ≤ w.heap.size) : ∃ v' w',(Builtin.append_ #[t,t] ty #[v,.slice sp m c]).run P w = .ok v' w' ∧ w'.ownsRow base e size v' (n + m) (xs ++ news) ∧ w.grownBy w' v.ownBlock:=by
 by_cases h0 : m = 0
 ·subst h0
  have hn0 : news = []:=List.eq_nil_of_length_eq_zero (by simpa using hl)
  subst hn0
  have hsl : ∃ b l k,v = .slice b l k ∧ l ≤ k:=by
   obtain ⟨_,⟨rfl,_⟩ | ⟨g,cap,_,rfl,_,_,hle,_⟩⟩:=hown
   ·exact ⟨none,0,0,rfl,Nat.le_refl _⟩
   ·exact ⟨_,_,_,rfl,hle⟩
  obtain ⟨b,l,k,rfl,hlk⟩:=hsl
  exact ⟨_,w,run_append_zero w t ty e i ht hi b l k hlk sp c,by simpa using hown,World.grownBy.refl _ _⟩
 ·obtain ⟨ad,rfl,hc⟩:=hnews (by rw [hl]; exact Nat.mul_pos Om hsz)
  obtain ⟨v',w',r1,r2,r3,_⟩:=run_append_own (P:=P) w base t ty e i z size bytes ht hi hz hsize hby hzs hsz v n xs hown ad m c news hl hc h1 h63 hbytes hbase
  exact ⟨v',w',r1,r2,r3⟩
section
variable {F : Fence} {n : Nat} {P : Program} {md : Region.Mode} {ops : Array Oper} {Q : Exit → Act → World → Prop} {K : Nat → Act → World → Prop} {a : Act} {w : World}
end
end
end Go.Proofs.YtmmmkjhpmlfopaaGreatDoor
