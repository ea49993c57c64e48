/- O8 O13 O9 -/
import Derived.Test.YtmmmkjhpmlfopaaGreatDoorSB20
set_option maxHeartbeats 8000000
set_option maxRecDepth 100000
namespace Go.Proofs.YtmmmkjhpmlfopaaGreatDoor
open Go.RowKit
section
open Go.RowKit Go.Shelf BB
def KpP (B : Nat) (A : World → Prop) (W W' : World) : Prop:=(A W → A W') ∧ (Env W B → Env W' B)
theorem KpP.trans {B : Nat} {A : World → Prop} {a b c : World} (h : KpP B A a b) (k : KpP B A b c) : KpP B A a c:=⟨fun q => k.1 (h.1 q),fun q => k.2 (h.2 q)⟩
theorem asked_seq {B : Nat} (n : Nat) (D : TD) (bc bt bl : Nat) (ac : Option Addr) (cs : List Int) (cc : Nat) (al : Option Addr) (vs : List V3) (cl : Nat) (hP : 1 ≤ D.P ∧ D.P ≤ 16) (hcl : cs.length ≤ 1000000) (hvr : ∀ v ∈ vs,V3.right v = true) (w : World) (hm : Env w B) (hA : AM w D bc bt bl ac cs cc al vs cl) :
  SeqB Fence.wide n Tryz.prog 114 #[.pointer (some ⟨bc,0,none⟩),.pointer (some ⟨bt,0,none⟩),.pointer (some ⟨bl,0,none⟩)] (encP D) (KpP B fun W => AM W D bc bt bl ac cs cc al vs cl) (fun xs => xs = askL D cs vs) (fun pre => ∃ rest,askL D cs vs = pre ++ rest) (comesP (askL D cs vs)) w:=fun l J Jx W hW hJb hY h0 => by
 have hmW:=hm.later hW hm.le
 have hAW:=hA.later hW
 have hY2 : ∀ pre x W1,(J pre W1 ∧ Env W1 B) → comesP (askL D cs vs) pre x → YieldAt Fence.wide (n - 1) Tryz.prog l (encP D x) W1 fun e W' => (e = .returned (.bool true) ∧ (J (pre ++ [x]) W' ∧ Env W' B) ∧ (AM W1 D bc bt bl ac cs cc al vs cl → AM W' D bc bt bl ac cs cc al vs cl) ∧ Env W' B) ∨ (e = .returned (.bool false) ∧ Jx (pre ++ [x]) W'):=fun pre x W1 hJ hV => by
  obtain ⟨fn,tmps,assign,body,h1,h2⟩:=hY pre x W1 hJ.1 hV
  exact ⟨fn,tmps,assign,body,h1,h2.mono fun e W' hq => hq.imp (fun q => ⟨q.1,⟨q.2.1,q.2.2.2 hJ.2⟩,q.2.2.1,q.2.2.2 hJ.2⟩) id⟩
 have hJb2 : ∀ pre W W',(J pre W ∧ Env W B) → Below W.heap.size W W' → (J pre W' ∧ Env W' B):=fun pre W W' h hb => ⟨hJb pre W W' h.1 hb,h.2.later hb h.2.le⟩
 by_cases hi : ∃ k,∃ h : k < cs.length,cs[k] = D.t.part ∧ (∀ j (g : j < cs.length),j < k → cs[j] ≠ D.t.part) ∧ k < vs.length
 ·obtain ⟨k,hk,h1,h2,h3⟩:=hi
  refine (asked1_found (B:=B) n l D bc bt bl ac cs cc al vs cl hP hcl k hk h1 h2 h3 (fun p m _ hm => hvr m (List.mem_of_getElem? hm)) (fun pre W => J pre W ∧ Env W B) Jx hJb2 hY2 W hmW hAW ⟨h0,hmW⟩).mono ?_
  rintro e W' ⟨h1,h2⟩
  exact ⟨h1,h2.imp (fun q => ⟨_,rfl,q.1⟩) id⟩
 ·refine (asked1_all (B:=B) n l D bc bt bl ac cs cc al vs cl hP hcl (fun k hk h1 h2 h3 => hi ⟨k,hk,h1,h2,h3⟩) (fun pre W => J pre W ∧ Env W B) Jx hJb2 hY2 W hmW hAW ⟨h0,hmW⟩).mono ?_
  rintro e W' ⟨h1,h2⟩
  exact ⟨h1,h2.imp (fun q => ⟨_,rfl,q.1⟩) id⟩
theorem heap_of {w w' : World} {x : Nat} {o : Obj} (h : w.heap[x]? = some o) (hb : Below w.heap.size w w') : w'.heap[x]? = some o:=(hb.block _ (Gx h)).trans h
theorem cell_blk {w : World} {b i : Nat} {cs : Array Value} {t : TypeId} {fr : Nat × Nat} {v : Value} (h : w.heap[b]? = some (.cells cs t fr)) (hv : cs[i]? = some v) : w.cell? ⟨b,i,none⟩ = some v:=by simp [World.cell?,h,hv]
theorem froz_blk {w : World} {b i : Nat} {cs : Array Value} {t : TypeId} (h : w.heap[b]? = some (.cells cs t (0,0))) : w.frozen? ⟨b,i,none⟩ = false:=by simp [World.frozen?,h]
theorem asked_am (V : World) (D : TD) (ac : Option Addr) (cs : List Int) (cc : Nat) (al : Option Addr) (vs : List V3) (cl : Nat) (hF : Fix V D) (hc : TT.RowR 1 TT.IntR V ac cs) (hl : Row V al vs) :
  AM (((V.alloc (.cells #[.pointer (some ⟨D.r,0,none⟩)] 91)).alloc (.cells #[.slice ac cs.length cc] 44)).alloc (.cells #[.slice al vs.length cl] 26)) D (V.heap.size + 1) V.heap.size (V.heap.size + 1 + 1) ac cs cc al vs cl:=by
 have hb : Below V.heap.size V (((V.alloc (.cells #[.pointer (some ⟨D.r,0,none⟩)] 91)).alloc (.cells #[.slice ac cs.length cc] 44)).alloc (.cells #[.slice al vs.length cl] 26)):=(((Bxr _ V).alloc Zlr _).alloc Si _).alloc (by simp; omega) _
 have hg:=Grows.of hb
 have e1 : (((V.alloc (.cells #[.pointer (some ⟨D.r,0,none⟩)] 91)).alloc (.cells #[.slice ac cs.length cc] 44)).alloc (.cells #[.slice al vs.length cl] 26)).heap[V.heap.size]? = some (.cells #[.pointer (some ⟨D.r,0,none⟩)] 91 (0,0)):=(Below.heap_alloc _ _ _ (by simp; omega)).trans ((Below.heap_alloc _ _ _ Si).trans (heap_alloc_new V _))
 have e2 : (((V.alloc (.cells #[.pointer (some ⟨D.r,0,none⟩)] 91)).alloc (.cells #[.slice ac cs.length cc] 44)).alloc (.cells #[.slice al vs.length cl] 26)).heap[V.heap.size + 1]? = some (.cells #[.slice ac cs.length cc] 44 (0,0)):=by
  refine (Below.heap_alloc _ _ _ Si).trans ?_
  have:=heap_alloc_new (V.alloc (.cells #[.pointer (some ⟨D.r,0,none⟩)] 91)) (.cells #[.slice ac cs.length cc] 44)
  rwa [World.size_alloc] at this
 have e3 : (((V.alloc (.cells #[.pointer (some ⟨D.r,0,none⟩)] 91)).alloc (.cells #[.slice ac cs.length cc] 44)).alloc (.cells #[.slice al vs.length cl] 26)).heap[V.heap.size + 1 + 1]? = some (.cells #[.slice al vs.length cl] 26 (0,0)):=by
  have:=heap_alloc_new ((V.alloc (.cells #[.pointer (some ⟨D.r,0,none⟩)] 91)).alloc (.cells #[.slice ac cs.length cc] 44)) (.cells #[.slice al vs.length cl] 26)
  rwa [World.size_alloc,World.size_alloc] at this
 exact ⟨cell_blk e2 rfl,cell_blk e1 rfl,cell_blk e3 rfl,hF.grows hg,rowR_grows hc hg fun _ _ h => h,row_grows hl hg⟩
theorem cells_own {W W' : World} {row : Option Nat} {B k : Nat} {cs : Array Value} {t : TypeId} {fr : Nat × Nat} (h : W.heap[k]? = some (.cells cs t fr)) (hg : W.grownBy W' row) (hr : ∀ r,row = some r → B ≤ r ∧ ∃ o : Obj,W.heap[r]? = some o ∧ o.isCells = false) : W'.heap[k]? = some (.cells cs t fr) :=
 (hg.block k (Gx h) fun e => by
  obtain ⟨_,o,ho,hc⟩:=hr k e.symm
  rw [h] at ho
  obtain rfl:=Option.some.inj ho
  cases hc).trans h
theorem below_own {w W W' : World} {row : Option Nat} {B C : Nat} (h : Below C w W) (hg : W.grownBy W' row) (hr : ∀ r,row = some r → B ≤ r ∧ ∃ o : Obj,W.heap[r]? = some o ∧ o.isCells = false) (hB : C ≤ B) (hC : C ≤ W.heap.size) : Below C w W':=h.grown hg hC fun k e => Zlt hB (hr k e).1
theorem own_block9 {w : World} {B : Nat} {e : TypeId} {size : Nat} {v : Value} {n : Nat} {xs : List Value} (h : w.ownsRow B e size v n xs) {g : Nat} (hg : v.ownBlock = some g) : ∃ cur,w.heap[g]? = some (.cells cur e (0,0)):=by
 obtain ⟨_,⟨rfl,_⟩ | ⟨b,cap,cur,rfl,_,hh,_⟩⟩:=h
 ·cases hg
 ·obtain rfl : b = g:=by simpa [Value.ownBlock] using hg
  exact ⟨cur,hh⟩
theorem own_mono9 {w : World} {base base' : Nat} {e : TypeId} {size : Nat} {v : Value} {n : Nat} {xs : List Value} (h : w.ownsRow base e size v n xs) (hb : base' ≤ base) : w.ownsRow base' e size v n xs:=by
 obtain ⟨h1,h2 | ⟨g,cap,cur,e,a,r⟩⟩:=h
 ·exact ⟨h1,Or.inl h2⟩
 ·exact ⟨h1,Or.inr ⟨g,cap,cur,e,Zlt hb a,r⟩⟩
theorem Env.grows {w w' : World} {B : Nat} (h : Env w B) (hg : Grows w w') (hs : w.heap.size ≤ w'.heap.size) : Env w' B:=⟨h.lt,Zlt h.le hs,by
 obtain ⟨m,hm⟩:=h.ml
 exact ⟨m,hg _ _ hm⟩⟩
theorem row_own {W W' : World} {row : Option Nat} {B C : Nat} {e : TypeId} {size : Nat} {v : Value} {n : Nat} {xs : List Value} (h : W.ownsRow C e size v n xs) (hg : W.grownBy W' row) (hr : ∀ r,row = some r → B ≤ r ∧ ∃ o : Obj,W.heap[r]? = some o ∧ o.isCells = false) : W'.ownsRow C e size v n xs:=own_kept h fun k hk => by
 obtain ⟨cur,hc⟩:=own_block9 h hk
 rw [hc]
 exact cells_own hc hg hr
theorem two_set {W : World} {b c : Nat} {o p : Value} {t u : TypeId} (h : W.heap[b]? = some (.cells #[o] t (0,0))) (k : W.heap[c]? = some (.cells #[p] u (0,0))) (hne : b ≠ c) (v x : Value) :
  ((W.setCell ⟨b,0,none⟩ v).setCell ⟨c,0,none⟩ x).heap[b]? = some (.cells #[v] t (0,0)) ∧ ((W.setCell ⟨b,0,none⟩ v).setCell ⟨c,0,none⟩ x).heap[c]? = some (.cells #[x] u (0,0)) ∧ ∀ i,i ≠ b → i ≠ c → ((W.setCell ⟨b,0,none⟩ v).setCell ⟨c,0,none⟩ x).heap[i]? = W.heap[i]?:=by
 refine ⟨(Below.heap_setCell _ _ _ _ hne).trans (heap_setCell_at h v),?_,fun i hi hj => (Below.heap_setCell _ _ _ _ hj).trans (Below.heap_setCell _ _ _ _ hi)⟩
 have hk : (W.setCell ⟨b,0,none⟩ v).heap[c]? = some (.cells #[p] u (0,0)):=(Below.heap_setCell _ _ _ _ (fun e => hne e.symm)).trans k
 exact heap_setCell_at hk x
theorem keeps_two {b : Nat} {W W' U : World} {c d : Nat} {o p : Array Value} {t u : TypeId} (hb : Below W.heap.size W W') (hs : W'.heap.size ≤ U.heap.size) (h : W.heap[c]? = some (.cells o t (0,0))) (k : W.heap[d]? = some (.cells p u (0,0))) (hk : ∀ i,i ≠ c → i ≠ d → U.heap[i]? = W'.heap[i]?) : KeepsFrom b W U:=⟨Zlt hb.size hs,fun i q _ hq hc => by
 have h1 : i ≠ c:=fun e => by
  subst e
  rw [h] at hq
  obtain rfl:=Option.some.inj hq
  cases hc
 have h2 : i ≠ d:=fun e => by
  subst e
  rw [k] at hq
  obtain rfl:=Option.some.inj hq
  cases hc
 rw [hk i h1 h2]
 exact heap_of hq hb⟩
theorem home_in_ask {D : TD} (hP : 1 ≤ D.P) {cs : List Int} {r : Row3} : homeR D.P D.t r ∈ askL D cs (pick3 r cs):=by
 by_cases h : ∃ k,∃ h : k < cs.length,cs[k] = D.t.part ∧ ∀ j (g : j < cs.length),j < k → cs[j] ≠ D.t.part
 ·obtain ⟨k,hk,h1,h2⟩:=h
  rw [askL_one hk h1 h2 (by rw [pick3_length]; exact hk)]
  simp [pick3,h1,homeR]
 ·rw [askL_none (not_first h)]
  exact List.mem_range.2 (homeR_lt hP _ _)
theorem ask_home {D : TD} {cs : List Int} {r : Row3} (h : D.t.part ∈ cs) : askL D cs (pick3 r cs) = [homeR D.P D.t r]:=by
 by_cases c : ∃ k,∃ h : k < cs.length,cs[k] = D.t.part ∧ ∀ j (g : j < cs.length),j < k → cs[j] ≠ D.t.part
 ·obtain ⟨k,hk,h1,h2⟩:=c
  rw [askL_one hk h1 h2 (by rw [pick3_length]; exact hk)]
  simp [pick3,h1,homeR]
 ·obtain ⟨j,hj,e⟩:=List.getElem_of_mem h
  exact absurd e (not_first c j hj)
theorem one_only {x y : Nat} {pre rest : List Nat} (h : [y] = pre ++ x :: rest) : pre = [] ∧ x = y:=by
 cases pre with
 | nil => exact ⟨rfl,(List.cons.inj h).1.symm⟩
 | cons a l =>
  have:=congrArg List.length h
  simp at this
end
section
open Go.RowKit BB
theorem pc_at9 : ∀ (l : List It) (i : Nat) (h : i < l.length),(pc l)[i * 2]? = some (.string (l[i]).key) ∧ (pc l)[i * 2 + 1]? = some (.string (l[i]).val)
 | x :: l,0,_ => ⟨rfl,rfl⟩
 | x :: l,i + 1,h => by
  have:=pc_at9 l i (by simpa using h)
  have e0 : (i + 1) * 2 = i * 2 + 1 + 1:=by omega
  have e1 : (i + 1) * 2 + 1 = (i * 2 + 1) + 1 + 1:=by omega
  rw [e1,e0]
  simpa only [pc,List.getElem?_cons_succ,List.getElem_cons_succ] using this
theorem prow_at {w : World} {B : Nat} {v : Value} {l : List It} (h : w.ownsRow B 152 2 v l.length (pc l)) {i : Nat} (hi : i < l.length) : ∃ g cap,v = .slice (some ⟨g,0,none⟩) l.length cap ∧ w.cell? ⟨g,i * 2,none⟩ = some (.string (l[i]).key) ∧ w.cell? ⟨g,i * 2 + 1,none⟩ = some (.string (l[i]).val):=by
 have hr:=h
 obtain ⟨_,⟨rfl,h2⟩ | ⟨g,cap,cur,rfl,_,_,h3,h4,_⟩⟩:=h
 ·omega
 ·obtain ⟨e0,e1⟩:=pc_at9 l i hi
  exact ⟨g,cap,rfl,(hr.cellAt (i * 2) Om).trans e0,(hr.cellAt (i * 2 + 1) Om).trans e1⟩
def NamesP (D : TD) (p j : Nat) (rs : List Row3) (lo hi : ByteArray) (b : Nat) (e : Ending) (w' : World) : Prop :=
 ∃ (v : Value) (ns : List ByteArray),e = .returned v ∧ w'.ownsRow b 9 1 v ns.length (ns.map Value.string) ∧ ns.length ≤ rs.length ∧ ∀ s,s ∈ ns ↔ ∃ r ∈ rs,homeR D.P D.t r = p ∧ kl (skJ D.t j r) lo = false ∧ untilB hi (skJ D.t j r) = true ∧ s = nmR D.t r
theorem names_of {D : TD} {p j : Nat} {rs : List Row3} {lo hi : ByteArray} {l : List It} (h : ListP D p j rs lo hi l) (f : It → ByteArray) (hf : ∀ r x,x.key = skJ D.t j r → x.val = vaJ D.t j r → f x = nmR D.t r) (s : ByteArray) : s ∈ l.map f ↔ ∃ r ∈ rs,homeR D.P D.t r = p ∧ kl (skJ D.t j r) lo = false ∧ untilB hi (skJ D.t j r) = true ∧ s = nmR D.t r:=by
 rw [List.mem_map]
 constructor
 ·rintro ⟨x,hx,rfl⟩
  obtain ⟨_,⟨r,hr,h1,h2,h3⟩,h4,h5⟩:=(h.2.1 x).1 hx
  exact ⟨r,hr,h1,by rw [← h2]; exact h4,by rw [← h2]; exact h5,hf r x h2 h3⟩
 ·rintro ⟨r,hr,h1,h2,h3,rfl⟩
  exact ⟨⟨skJ D.t j r,vaJ D.t j r,none⟩,(h.2.1 _).2 ⟨rfl,⟨r,hr,h1,rfl,rfl⟩,h2,h3⟩,hf r _ rfl rfl⟩
theorem Tryz.info9z : (Tryz.prog.info? 9).map (fun i => (i.zero,i.size,i.bytes)) = some (some (.string ⟨#[]⟩),1,16):=by kernel_rfl
theorem names_key {B : Nat} {Z : Nat → Prop} (w : World) (D : TD) (p j : Nat) (i : Int) (hi : i = (j : Int) - 1) (hj : j = 0) (rs : List Row3) (hF : Fix w D) (hT : Trs w B Z D fun _ _ => rs) (ht : TR D.t) (hk : TabOk D.t rs) (hn : rs.length ≤ 3000000000) (hp : p < D.P) (hjK : j < D.K) (lo hi' : ByteArray) :
  Calls Tryz.prog 216 #[.slice (some ⟨D.bs p,0,none⟩) D.K (D.cq p),.int .i64 i,.string lo,.string hi'] w fun e w' => Below w.heap.size w w' ∧ NamesP D p j rs lo hi' w.heap.size e w':=by
 obtain ⟨i0,hi0,hz0,hz1,hz2⟩:=info_parts Tryz.info9z
 have HTR:=Hd (tree_any w D p j i hi hjK (by have:=ht.ixs; unfold TD.K; omega) (hF.trees p hp j hjK))
 have HLS:=Hd (list_t hT ht hp hjK hk Om lo hi')
 have HN:=Hd hn
 have hib : (i == -1) = true:=by rw [beq_iff_eq]; omega
 have HJ:=Hd hj
 clear hF hT ht hk hp hjK hi hj hn
 unfold TD.pv at HTR
 go_enter Tryz.func216,Tryz.ntmps216
 go_wp2_with (first
  | (go_at_call 66; refine HTR.out.mono ?_; rintro e w1 ⟨rfl,hwe⟩; have hwe2:=hwe.symm; clear hwe; subst hwe2)
  | (go_at_call 127; refine HLS.out.mono ?_; rintro e w2 ⟨hb2,v,rfl,l,hl,ho⟩; obtain ⟨pv,cv,rfl⟩:=ownF ho; have HB2:=Hd hb2; have HO:=Hd ho; have HL:=Hd hl; have HLN : Hid (l.length ≤ 3000000000):=Hd (Zlt hl.2.2 HN.out); clear hb2 ho hl))
 go_loopw [9,19] (fun u q wr => ∃ k : Nat,k ≤ l.length ∧ q = .int .i64 (k : Int) ∧ wr.ownsRow w2.heap.size 9 1 u k ((l.map fun x => Value.string x.key).take k) ∧ Below w2.heap.size w2 wr) (fun _ q _ => l.length - (intOf q).toNat)
 case atStart => exact ⟨0,Nat.zero_le _,rfl,World.ownsRow_nil _ _ _ _,Bxr _ _⟩
 case round =>
  obtain ⟨k,hk,rfl,hown,hb⟩:=hrel
  have hsz:=hb.size
  have hln:=HLN.out
  by_cases hlt : k < l.length
  ·have hlti : (k : Int) < (l.length : Int):=by omega
   obtain ⟨g,cap,e,d0,d1⟩:=prow_at HO.out hlt
   simp only [Value.slice.injEq,true_and] at e
   obtain ⟨rfl,rfl⟩:=e
   have d0:=cell_later hb d0
   have d1:=cell_later hb d1
   have lg:=cell_lt d0
   obtain ⟨x,hx⟩:=Vx (l[k])
   have HX:=Hd hx
   rw [hx] at d0 d1
   have HT2 : Hid ((l.map fun x => Value.string x.key).take (k + 1) = (l.map fun x => Value.string x.key).take k ++ [Value.string x.key]):=Hd (by rw [List.take_succ_eq_append_getElem (by simpa using hlt),List.getElem_map,hx])
   obtain ⟨la,lc,rfl⟩:=ownF hown
   have hlt2:=hown.lt
   have hb2s:=HB2.out.size
   obtain ⟨xk,hxk⟩:=Vx x.key
   obtain ⟨xv,hxv⟩:=Vx x.val
   have HXK : Hid (x.key = xk):=Hd hxk
   rw [hxk] at d0
   rw [hxv] at d1
   clear hx hxk hxv
   go_wp2_with (first | (at_builtin; refine wpList_append_own _ rfl _ _ 119 rfl w2.heap.size 9 i0 (.string ⟨#[]⟩) 1 16 Tryz.underlying119 hi0 hz0 hz1 hz2 rfl (by decide) _ _ _ rfl ((hown.alloc _).alloc _) ⟨wr.heap.size + 1,0,none⟩ 1 1 [.string xk] rfl rfl ?c1 ?c2 ?c3 ?c4 ?c5 ?_))
   case c1 =>
    intro q u hq
    obtain ⟨h0,rfl⟩:=List.getElem?_eq_some_iff.1 hq
    have hq0 : q = 0:=by simpa using h0
    subst hq0
    simp [Addr.add]
   case c2 => intro u hu; rw [Zms hu]; rfl
   case c3 => unfold maxLen; omega
   case c4 => omega
   case c5 => simp; omega
   ·intro v' w3 hown3 hgrow _
    have hbb : Below w2.heap.size w2 w3:=((hb.alloc hsz _).alloc (by simp; omega) _).grown hgrow (by simp; omega) fun q hq => (hlt2 q hq).1
    rw [← HXK.out,← HT2.out] at hown3
    clear hgrow hown hlt2 d0 d1
    go_wp2
    go_roundw
    case rel => exact ⟨k + 1,by omega,by go_num,hown3,hbb⟩
    case measure => simp [intOf]; omega
  ·have hlti : ¬ (k : Int) < (l.length : Int):=by omega
   have hkl : k = l.length:=by omega
   rw [hkl,List.take_of_length_le Si] at hown
   have HOW:=Hd hown
   clear hkl hown
   go_wp2
   go_ret
   refine ⟨HB2.out.trans (hb.mono HB2.out.size),_,l.map fun x => x.key,rfl,?_,by rw [List.length_map]; exact HL.out.2.2,names_of HL.out _ (fun r x h1 _ => by rw [h1,HJ.out]; rfl)⟩
   rw [List.length_map,List.map_map]
   exact own_mono9 HOW.out HB2.out.size
theorem names_ix {B : Nat} {Z : Nat → Prop} (w : World) (D : TD) (p j : Nat) (i : Int) (hi : i = (j : Int) - 1) (hj : 0 < j) (rs : List Row3) (hF : Fix w D) (hT : Trs w B Z D fun _ _ => rs) (ht : TR D.t) (hk : TabOk D.t rs) (hn : rs.length ≤ 3000000000) (hp : p < D.P) (hjK : j < D.K) (lo hi' : ByteArray) :
  Calls Tryz.prog 216 #[.slice (some ⟨D.bs p,0,none⟩) D.K (D.cq p),.int .i64 i,.string lo,.string hi'] w fun e w' => Below w.heap.size w w' ∧ NamesP D p j rs lo hi' w.heap.size e w':=by
 obtain ⟨i0,hi0,hz0,hz1,hz2⟩:=info_parts Tryz.info9z
 have HTR:=Hd (tree_any w D p j i hi hjK (by have:=ht.ixs; unfold TD.K; omega) (hF.trees p hp j hjK))
 have HLS:=Hd (list_t hT ht hp hjK hk Om lo hi')
 have HN:=Hd hn
 have hib : (i == -1) = false:=by rw [beq_eq_false_iff_ne]; omega
 have HJ:=Hd hj
 clear hF hT ht hk hp hjK hi hj hn
 unfold TD.pv at HTR
 go_enter Tryz.func216,Tryz.ntmps216
 go_wp2_with (first
  | (go_at_call 66; refine HTR.out.mono ?_; rintro e w1 ⟨rfl,hwe⟩; have hwe2:=hwe.symm; clear hwe; subst hwe2)
  | (go_at_call 127; refine HLS.out.mono ?_; rintro e w2 ⟨hb2,v,rfl,l,hl,ho⟩; obtain ⟨pv,cv,rfl⟩:=ownF ho; have HB2:=Hd hb2; have HO:=Hd ho; have HL:=Hd hl; have HLN : Hid (l.length ≤ 3000000000):=Hd (Zlt hl.2.2 HN.out); clear hb2 ho hl))
 go_loopw [9,19] (fun u q wr => ∃ k : Nat,k ≤ l.length ∧ q = .int .i64 (k : Int) ∧ wr.ownsRow w2.heap.size 9 1 u k ((l.map fun x => Value.string x.val).take k) ∧ Below w2.heap.size w2 wr) (fun _ q _ => l.length - (intOf q).toNat)
 case atStart => exact ⟨0,Nat.zero_le _,rfl,World.ownsRow_nil _ _ _ _,Bxr _ _⟩
 case round =>
  obtain ⟨k,hk,rfl,hown,hb⟩:=hrel
  have hsz:=hb.size
  have hln:=HLN.out
  by_cases hlt : k < l.length
  ·have hlti : (k : Int) < (l.length : Int):=by omega
   obtain ⟨g,cap,e,d0,d1⟩:=prow_at HO.out hlt
   simp only [Value.slice.injEq,true_and] at e
   obtain ⟨rfl,rfl⟩:=e
   have d0:=cell_later hb d0
   have d1:=cell_later hb d1
   have lg:=cell_lt d0
   obtain ⟨x,hx⟩:=Vx (l[k])
   have HX:=Hd hx
   rw [hx] at d0 d1
   have HT2 : Hid ((l.map fun x => Value.string x.val).take (k + 1) = (l.map fun x => Value.string x.val).take k ++ [Value.string x.val]):=Hd (by rw [List.take_succ_eq_append_getElem (by simpa using hlt),List.getElem_map,hx])
   obtain ⟨la,lc,rfl⟩:=ownF hown
   have hlt2:=hown.lt
   have hb2s:=HB2.out.size
   obtain ⟨xk,hxk⟩:=Vx x.key
   obtain ⟨xv,hxv⟩:=Vx x.val
   have HXK : Hid (x.val = xv):=Hd hxv
   rw [hxk] at d0
   rw [hxv] at d1
   clear hx hxk hxv
   go_wp2_with (first | (at_builtin; refine wpList_append_own _ rfl _ _ 119 rfl w2.heap.size 9 i0 (.string ⟨#[]⟩) 1 16 Tryz.underlying119 hi0 hz0 hz1 hz2 rfl (by decide) _ _ _ rfl ((hown.alloc _).alloc _) ⟨wr.heap.size + 1,0,none⟩ 1 1 [.string xv] rfl rfl ?c1 ?c2 ?c3 ?c4 ?c5 ?_))
   case c1 =>
    intro q u hq
    obtain ⟨h0,rfl⟩:=List.getElem?_eq_some_iff.1 hq
    have hq0 : q = 0:=by simpa using h0
    subst hq0
    simp [Addr.add]
   case c2 => intro u hu; rw [Zms hu]; rfl
   case c3 => unfold maxLen; omega
   case c4 => omega
   case c5 => simp; omega
   ·intro v' w3 hown3 hgrow _
    have hbb : Below w2.heap.size w2 w3:=((hb.alloc hsz _).alloc (by simp; omega) _).grown hgrow (by simp; omega) fun q hq => (hlt2 q hq).1
    rw [← HXK.out,← HT2.out] at hown3
    clear hgrow hown hlt2 d0 d1
    go_wp2
    go_roundw
    case rel => exact ⟨k + 1,by omega,by go_num,hown3,hbb⟩
    case measure => simp [intOf]; omega
  ·have hlti : ¬ (k : Int) < (l.length : Int):=by omega
   have hkl : k = l.length:=by omega
   rw [hkl,List.take_of_length_le Si] at hown
   have HOW:=Hd hown
   clear hkl hown
   go_wp2
   go_ret
   refine ⟨HB2.out.trans (hb.mono HB2.out.size),_,l.map fun x => x.val,rfl,?_,by rw [List.length_map]; exact HL.out.2.2,names_of HL.out _ (fun r x _ h2 => by rw [h2,vaJ,if_neg (by have:=HJ.out; omega)])⟩
   rw [List.length_map,List.map_map]
   exact own_mono9 HOW.out HB2.out.size
end
section
open Go.RowKit Go.Shelf BB
attribute [local go_sem] Oper.semAt_some
def FindP (D : TD) (rs : List Row3) (l : List V3) (w : World) (e : Ending) (w' : World) : Prop:=Below w.heap.size w w' ∧ ((∃ r ∈ rs,pick3 r D.t.key = l ∧ ∃ v,e = .returned (.tuple #[v,.bool true]) ∧ w'.ownsRow w.heap.size 73 3 v r.length (vc r)) ∨ ((∀ r ∈ rs,pick3 r D.t.key ≠ l) ∧ e = .returned (.tuple #[.slice none 0 0,.bool false])))
theorem tree0_any (w : World) (D : TD) (p : Nat) (hF : Fix w D) (hp : p < D.P) (hT : TR D.t) : Calls Tryz.prog 66 #[.slice (some ⟨D.bs p,0,none⟩) D.K (D.cq p),.int .i64 (-1)] w fun e w' => e = .returned (.pointer (some ⟨D.tp p 0,0,none⟩)) ∧ w' = w:=by
 obtain ⟨pc,cc,pk,ck,px,cx,h1,h2,h3,h4,h5,h6⟩:=hF.ex
 have:=hT.ixs
 exact tree_any w D p 0 (-1) Om (Nat.succ_pos _) (by unfold TD.K; omega) (h6 p hp 0 (Nat.succ_pos _))
theorem find_any {B C : Nat} {Z : Nat → Prop} (w : World) (D : TD) (rs : List Row3) (a : Option Addr) (cap : Nat) (l : List V3) (hT : Tab w B Z D rs) (hm : Env w C) (hrow : Row w a l) (hl : l.length ≤ 2147483648) :
  Calls Tryz.prog 45 #[.pointer (some ⟨D.r,0,none⟩),.slice a l.length cap] w (FindP D rs l w):=by
 have HT:=Hd hT
 have HM:=Hd hm
 have HR:=Hd hrow
 have HL:=Hd hl
 clear hT hm hrow
 refine (callsIn_wide (n:=8)).1 ?_
 refine callsIn_of_wp_marks Tryz.func45 rfl trivial ?_ rfl
 simp only [Tryz.ntmps45,List.size_toArray,List.length_cons,List.length_nil,Nat.reduceAdd,Nat.reduceSub,Array.replicate_succ,Array.replicate_zero,List.push_toArray,List.append_toArray,List.nil_append,List.cons_append]
 obtain ⟨W0,hW0⟩:=Vx ((w.alloc (Obj.cells #[.slice none 0 0] 26)).alloc (Obj.cells #[.bool false] 4))
 have hb0 : Below w.heap.size w W0:=by rw [← hW0]; exact ((Bxr _ w).alloc Zlr _).alloc Si _
 have h4 : W0.heap[w.heap.size]? = some (.cells #[.slice none 0 0] 26 (0,0)):=by
  rw [← hW0]
  exact (Below.heap_alloc _ _ _ Si).trans (heap_alloc_new w _)
 have h5 : W0.heap[w.heap.size + 1]? = some (.cells #[.bool false] 4 (0,0)):=by
  rw [← hW0]
  have:=heap_alloc_new (w.alloc (Obj.cells #[.slice none 0 0] 26)) (Obj.cells #[.bool false] 4)
  rwa [World.size_alloc] at this
 have hl4 : w.heap.size < W0.heap.size:=(Gx h4)
 have hl5 : w.heap.size + 1 < W0.heap.size:=(Gx h5)
 have c4 : W0.cell? ⟨w.heap.size,0,none⟩ = some (.slice none 0 0):=by simp [World.cell?,h4]
 have c5 : W0.cell? ⟨w.heap.size + 1,0,none⟩ = some (.bool false):=by simp [World.cell?,h5]
 have f4 : W0.frozen? ⟨w.heap.size,0,none⟩ = false:=by simp [World.frozen?,h4]
 have f5 : W0.frozen? ⟨w.heap.size + 1,0,none⟩ = false:=by simp [World.frozen?,h5]
 have H4:=Hd h4
 have H5:=Hd h5
 have HB0:=Hd hb0
 have HM0:=Hd (HM.out.later hb0 HM.out.le)
 have HE:=Hd (KK.enc_any a cap l W0 hl (HR.out.later hb0) (by have:=hb0.size; omega) ((HM.out.ml).later (hb0.mono HM.out.le) HM.out.lt))
 clear h4 h5 hb0
 by_cases hg : l.length ≤ 8 ∧ ∀ v ∈ l,V3.right v = true
 ·have HG:=Hd hg
  have hE : encR l = (kbs l,0):=encR_ok Om fun i hi => hg.2 _ (List.getElem_mem hi)
  have HEN:=Hd hE
  obtain ⟨s,hs⟩:=Vx (kE l)
  have HS : Hid ((⟨(kbs l).toArray⟩ : ByteArray) = s):=hs
  have HS2:=Hd hs
  obtain ⟨pc,cc,pk,ck,px,cx,h1,-,h3,-,-,-⟩:=HT.out.fix.now.ex
  have e2:=cell_later HB0.out (h1 2 _ rfl)
  have le2:=cell_lt e2
  have HK:=Hd h3
  obtain ⟨kn,hkn⟩:=Vx D.t.key.length
  have HKN:=Hd hkn
  rw [hkn] at e2
  clear hg hE hs h1 h3 hkn
  gi_wp2_with (first
   | (refine ⟨trivial,?_⟩; gi_at_call 82; refine (callsIn_wide.2 HE.out).mono ?_; rintro e w1 ⟨rfl,hb1⟩; unfold KK.encV; rw [HEN.out]; dsimp only; rw [HS.out]; obtain ⟨hcc,hff⟩:=bcell hb1; have hz1:=hb1.size; (have hq2 : D.r < w1.heap.size:=by omega); (have hq4 : w.heap.size < w1.heap.size:=by omega); (have hq5 : w.heap.size + 1 < w1.heap.size:=by omega); (have hn4 : ¬ w.heap.size = w1.heap.size:=by omega); (have hn5 : ¬ w.heap.size + 1 = w1.heap.size:=by omega))
   | (refine ⟨trivial,?_⟩; gi_at_call 65; refine (callsIn_wide.2 (asked_any _ D pk a kn ck l.length cap)).mono ?_; rintro e w2 ⟨rfl,rfl⟩))
  obtain ⟨N,hN⟩:=Vx w1.heap.size
  have HB1 : Hid (Below w.heap.size w w1):=Hd (by have:=HB0.out; (repeat (first | exact Below.refl _ _ | assumption | refine Below.drew ?_ | refine below_drewN ?_ _ | refine Below.alloc ?_ (by first | omega | (simp; done) | (simp; omega)) _ | refine Below.setCell ?_ (by first | omega | (simp; done) | (simp; omega)) _ | refine Below.trans ?_ (Below.mono (by assumption) (by first | omega | (simp; done) | (simp; omega))))))
  obtain ⟨V,hV⟩:=Vx (w1.alloc (Obj.cells #[.string s] 9))
  have hbV1 : Below w1.heap.size w1 V:=by rw [← hV]; exact (Bxr _ _).alloc Zlr _
  have hbV : Below w.heap.size w V:=HB1.out.trans (hbV1.mono HB1.out.size)
  have hVs : V.heap.size = N + 1:=by rw [← hV,← hN]; simp
  have hAM:=asked_am V D pk D.t.key ck a l cap (HT.out.fix.now.later hbV) (rowR_grows HK.out (Grows.of hbV) fun _ _ h => h) (HR.out.later hbV)
  obtain ⟨W1,hW1⟩:=Vx (((V.alloc (Obj.cells #[.pointer (some ⟨D.r,0,none⟩)] 91)).alloc (Obj.cells #[.slice pk D.t.key.length ck] 44)).alloc (Obj.cells #[.slice a l.length cap] 26))
  have hbW1 : Below V.heap.size V W1:=by rw [← hW1]; exact (((Bxr _ V).alloc Zlr _).alloc Si _).alloc (by simp; omega) _
  have h6 : V.heap[N]? = some (.cells #[.string s] 9 (0,0)):=by
   rw [← hV,← hN]
   exact heap_alloc_new w1 _
  have hb1V : Below W0.heap.size W0 V:=hb1.trans (hbV1.mono hz1)
  have hb1W : Below W0.heap.size W0 W1:=hb1V.trans (hbW1.mono (Zlt hz1 hbV1.size))
  have k4:=heap_of H4.out hb1W
  have k5:=heap_of H5.out hb1W
  have k6:=heap_of h6 hbW1
  have HBW : Hid (Below w.heap.size w W1):=Hd (hbV.trans (hbW1.mono hbV.size))
  rw [hW1,hVs] at hAM
  have hsW : N + 1 + 1 + 1 + 1 = W1.heap.size:=by rw [← hW1]; simp [hVs]
  rw [hN,hV,← HKN.out,hW1]
  have HAM:=Hd hAM
  have HMW:=Hd (HM.out.later HBW.out HM.out.le)
  have HSW:=Hd hsW
  have HVS:=Hd (show w.heap.size ≤ N by rw [← hN]; exact HB1.out.size)
  clear hcc hff hV hbV1 hbV hVs hAM hW1 hbW1 hb1V hb1W h6 hN hb1 hz1 hq2 hq4 hq5 hn4 hn5 c4 c5 f4 f5 e2 le2 hl4 hl5 hW0
  have hin : D.t.part ∈ D.t.key:=HT.out.tr.part
  refine wpIn_rangeB rfl Om (gf:=114) (lb:=#[.pointer (some ⟨N + 1 + 1,0,none⟩),.pointer (some ⟨N + 1,0,none⟩),.pointer (some ⟨N + 1 + 1 + 1,0,none⟩)]) rfl trivial (enters_of Tryz.func114 Kr rfl)
   (asked_seq (B:=C) _ D (N + 1 + 1) (N + 1) (N + 1 + 1 + 1) pk D.t.key ck a l cap HT.out.parts (by have:=HT.out.tr.key; omega) HG.out.2 W1 HMW.out HAM.out)
   KpP.trans
   (fun W l o o' hl ho hc => ⟨fun h => h.grows (Grows.put ho hc o'),fun h => ?envp⟩)
   (Bxr _ _) (fun _ => rfl)
   (fun pre W => Below w.heap.size w W ∧ W.heap[w.heap.size]? = some (.cells #[.slice none 0 0] 26 (0,0)) ∧ W.heap[w.heap.size + 1]? = some (.cells #[.bool false] 4 (0,0)) ∧ W.heap[N]? = some (.cells #[.string s] 9 (0,0)) ∧ ∀ p ∈ pre,∀ r ∈ rs,homeR D.P D.t r = p → nmR D.t r ≠ s)
   (fun c _ W => c = .ret ∧ Below w.heap.size w W ∧ ∃ r ∈ rs,nmR D.t r = s ∧ ∃ v,W.heap[w.heap.size]? = some (.cells #[v] 26 (0,0)) ∧ W.heap[w.heap.size + 1]? = some (.cells #[.bool true] 4 (0,0)) ∧ W.ownsRow w.heap.size 73 3 v r.length (vc r))
   (fun pre W W' row h hg hr => ⟨below_own h.1 hg hr HBW.out.size h.1.size,cells_own h.2.1 hg hr,cells_own h.2.2.1 hg hr,cells_own h.2.2.2.1 hg hr,h.2.2.2.2⟩)
   (fun c pre W W' row h hg hr => by
    obtain ⟨h0,h1,r,hr1,hr2,v,h2,h3,h4⟩:=h
    exact ⟨h0,below_own h1 hg hr HBW.out.size h1.size,r,hr1,hr2,v,cells_own h2 hg hr,cells_own h3 hg hr,row_own h4 hg hr⟩)
   (fun pre W W' h hb => ⟨h.1.trans (hb.mono h.1.size),heap_of h.2.1 hb,heap_of h.2.2.1 hb,heap_of h.2.2.2.1 hb,h.2.2.2.2⟩)
   ⟨HBW.out,k4,k5,k6,fun p hp => absurd hp Si⟩
   (fun x a' W => a' = { tmps:=#[.pointer (some ⟨D.r,0,none⟩),.slice a l.length cap,undef,undef,.pointer (some ⟨w.heap.size,0,none⟩),.pointer (some ⟨w.heap.size + 1,0,none⟩),.pointer (some ⟨N,0,none⟩),.int .i64 0,D.pv x,undef,undef,.tuple #[.string s,.int .i64 0],.slice a l.length cap,.tuple #[.string s,.int .i64 0],.string s,.int .i64 0,.int .i64 0,.bool false,.pointer (some ⟨D.r,0,none⟩),.pointer (some ⟨D.r,0,none⟩),.pointer (some ⟨D.r,0,none⟩),.pointer (some ⟨D.r,0,none⟩),.pointer (some ⟨D.r,2,none⟩),.slice pk D.t.key.length ck,.slice a l.length cap,.func (.func 114) #[] #[.pointer (some ⟨N + 1 + 1,0,none⟩),.pointer (some ⟨N + 1,0,none⟩),.pointer (some ⟨N + 1 + 1 + 1,0,none⟩)],D.pv x,undef,undef,undef,undef,undef,undef,undef,undef,undef,undef],defers:=[] })
   (fun x a' _ X Y row hs _ _ => hs)
   ?assign ?body ?done ?stop
  case envp => exact h.grows (Grows.put ho hc o') (by simp [World.putObj])
  case assign =>
   rintro l2 pre x W K hi hV hK
   have HI:=Hd hi
   clear hi
   unfold encP
   gi_wp2
   exact hK _ _ (KeepsFrom.refl _ _) ⟨fun h => h,fun h => h⟩ HI.out rfl
  case body =>
   rintro l2 pre x a' W ⟨i1,i2,i3,i4,i5⟩ rfl hV
   have hx : x < D.P:=by
    obtain ⟨rest,hr⟩:=hV
    exact askL_lt HT.out.parts.1 x (by rw [hr]; simp)
   have HI:=Hd (Zai i1 (Zai i2 (Zai i3 (Zai i4 i5))))
   have HX:=Hd hx
   have c6:=cell_blk (i:=0) i4 rfl
   have l6:=cell_lt c6
   have hmx : Tryz.prog.follows .mixedOrders = true:=by kernel_rfl
   have HTR : Hid (∀ W',Below W.heap.size W W' → Calls Tryz.prog 66 #[.slice (some ⟨D.bs x,0,none⟩) D.K (D.cq x),.int .i64 (-1)] W' fun e w' => e = .returned (.pointer (some ⟨D.tp x 0,0,none⟩)) ∧ w' = W'):=Hd fun W' hb => tree0_any W' D x (HT.out.fix.now.later (HI.out.1.trans (hb.mono HI.out.1.size))) HX.out HT.out.tr
   have HGT : Hid (∀ W',Below W.heap.size W W' → Calls Tryz.prog 83 #[.pointer (some ⟨D.tp x 0,0,none⟩),.string s] W' fun e w' => Below W'.heap.size W' w' ∧ GotP D x rs s e):=Hd fun W' hb => get_t (HT.out.trs.later (HI.out.1.trans (hb.mono HI.out.1.size))) HT.out.tr HX.out HT.out.ok (by have:=HT.out.cnt; omega) s
   clear i1 i2 i3 i4 i5 hx hV k4 k5 k6 hsW hin
   unfold TD.pv
   by_cases hf : ∃ r ∈ rs,homeR D.P D.t r = x ∧ nmR D.t r = s
   ·obtain ⟨r,hr,hr1,hr2⟩:=hf
    have HR0 : Hid (r ∈ rs ∧ homeR D.P D.t r = x ∧ nmR D.t r = s):=Hd ⟨hr,hr1,hr2⟩
    have HG2 : Hid (∀ W',Below W.heap.size W W' → Calls Tryz.prog 83 #[.pointer (some ⟨D.tp x 0,0,none⟩),.string s] W' fun e w' => e = .returned (.tuple #[.string (rE r),.bool true]) ∧ Below W'.heap.size W' w'):=Hd fun W' hb => (HGT.out W' hb).mono fun e w' hq => by
     obtain ⟨hb2,⟨q,hq,hq1,hq2,he⟩ | ⟨hq,_⟩⟩:=hq
     ·obtain rfl:=HT.out.ok.one q hq r hr (hq2.trans hr2.symm)
      exact ⟨he,hb2⟩
     ·exact absurd hr2 (hq r hr hr1)
    clear hr hr1 hr2
    gi_wp2
    apply wpIn_via (fun w4 => Below W.heap.size W w4)
    case h =>
     gi_region_with_o (first
      | (refine ⟨trivial,?_⟩; gi_at_call 66; refine (CallsIn.inRound l2 (callsIn_wide.2 (HTR.out _ Bz))).mono ?_; rintro e w' ⟨rfl,rfl⟩)
      | (refine ⟨trivial,?_⟩; gi_at_call 83; refine (CallsIn.inRound l2 (callsIn_wide.2 (HG2.out _ Bz))).mono ?_; rintro e w4 ⟨rfl,hb4⟩; have hb5 : Below W.heap.size W w4:=Bz))
     all_goals exact ⟨w4,by assumption,rfl,rfl⟩
    case k =>
     intro w4 hb4
     have HB4:=Hd hb4
     have k4:=heap_of HI.out.2.1 hb4
     have k5:=heap_of HI.out.2.2.1 hb4
     have c4:=cell_blk (i:=0) k4 rfl
     have c5:=cell_blk (i:=0) k5 rfl
     have f4:=froz_blk (i:=0) k4
     have f5:=froz_blk (i:=0) k5
     have l4:=cell_lt c4
     have l5:=cell_lt c5
     have HD5:=Hd (decode_any9 w4 r (HT.out.ok.right HR0.out.1) ((HT.out.ok.fit r HR0.out.1).len HT.out.tr).2)
     clear hb4 k4 k5 c6 l6
     gi_wp2_with (refine ⟨trivial,?_⟩; gi_at_call 77; refine (CallsIn.inRound l2 (callsIn_wide.2 HD5.out)).mono ?_; rintro e w5 ⟨hb5,v,rfl,ho⟩; obtain ⟨pv,cv,rfl⟩:=ownF ho; obtain ⟨hcc,hff⟩:=bcell hb5; have HB5:=Hd hb5; have HO:=Hd ho; clear hb5 ho)
     have hbw5 : Below W.heap.size W w5:=HB4.out.trans (HB5.out.mono HB4.out.size)
     have hsz5 : w4.heap.size ≤ w5.heap.size:=HB5.out.size
     have k4:=heap_of HI.out.2.1 hbw5
     have k5:=heap_of HI.out.2.2.1 hbw5
     have hts:=two_set k4 k5 Om (.slice pv r.length cv) (.bool true)
     obtain ⟨U,hU⟩:=Vx ((w5.setCell ⟨w.heap.size,0,none⟩ (.slice pv r.length cv)).setCell ⟨w.heap.size + 1,0,none⟩ (.bool true))
     have hUs : U.heap.size = w5.heap.size:=by rw [← hU]; simp [World.setCell]
     have hbU : Below w.heap.size w U:=by
      rw [← hU]
      have:=HI.out.1.trans (hbw5.mono HI.out.1.size)
      (repeat (first | exact Below.refl _ _ | assumption | refine Below.drew ?_ | refine below_drewN ?_ _ | refine Below.alloc ?_ (by first | omega | (simp; done) | (simp; omega)) _ | refine Below.setCell ?_ (by first | omega | (simp; done) | (simp; omega)) _ | refine Below.trans ?_ (Below.mono (by assumption) (by first | omega | (simp; done) | (simp; omega)))))
     rw [hU] at hts ⊢
     have hw4 : w.heap.size + 2 ≤ w4.heap.size:=by omega
     refine ⟨keeps_two hbw5 (Nat.le_of_eq hUs.symm) HI.out.2.1 HI.out.2.2.1 hts.2.2,rfl,hbU,r,HR0.out.1,HR0.out.2.2,_,hts.1,hts.2.1,?_⟩
     refine own_mono9 (own_kept HO.out fun g hg => ?_) Om
     have:=HO.out.lt g hg
     exact hts.2.2 g Om Om
   ·have HNF:=Hd hf
    have HG2 : Hid (∀ W',Below W.heap.size W W' → Calls Tryz.prog 83 #[.pointer (some ⟨D.tp x 0,0,none⟩),.string s] W' fun e w' => (∃ v,e = .returned (.tuple #[.string v,.bool false])) ∧ Below W'.heap.size W' w'):=Hd fun W' hb => (HGT.out W' hb).mono fun e w' hq => by
     obtain ⟨hb2,⟨q,hq,hq1,hq2,he⟩ | ⟨hq,he⟩⟩:=hq
     ·exact absurd ⟨q,hq,hq1,hq2⟩ HNF.out
     ·exact ⟨he,hb2⟩
    clear hf
    gi_wp2
    gi_region_with_o (first
     | (refine ⟨trivial,?_⟩; gi_at_call 66; refine (CallsIn.inRound l2 (callsIn_wide.2 (HTR.out _ Bz))).mono ?_; rintro e w' ⟨rfl,rfl⟩)
     | (refine ⟨trivial,?_⟩; gi_at_call 83; refine (CallsIn.inRound l2 (callsIn_wide.2 (HG2.out _ Bz))).mono ?_; rintro e w4 ⟨⟨v,rfl⟩,hb4⟩; have hb5 : Below W.heap.size W w4:=Bz))
    all_goals gi_wp2
    all_goals (refine ⟨keepsFrom_below hb5,⟨fun h => h.later hb5,fun h => h.grows (Grows.of hb5) hb5.size⟩,HI.out.1.trans (hb5.mono HI.out.1.size),heap_of HI.out.2.1 hb5,heap_of HI.out.2.2.1 hb5,heap_of HI.out.2.2.2.1 hb5,fun p hp r hr h1 => ?_⟩; exact (Zma hp).elim (fun h2 => HI.out.2.2.2.2 p h2 r hr h1) fun h2 h3 => HNF.out ⟨r,hr,by rw [h1]; exact Zms h2,h3⟩)
  case done =>
   rintro D2 xs W hD hS ⟨i1,i2,i3,i4,i5⟩ hK
   have c4:=cell_blk (i:=0) i2 rfl
   have c5:=cell_blk (i:=0) i3 rfl
   have f4:=froz_blk (i:=0) i2
   have f5:=froz_blk (i:=0) i3
   have HN : Hid (∀ r ∈ rs,pick3 r D.t.key ≠ l):=Hd fun r hr e => i5 (homeR D.P D.t r) (by rw [hS,← e]; exact home_in_ask HT.out.parts.1) r hr rfl (by rw [← HS2.out,← e]; rfl)
   have HI:=Hd (Zai i1 (Zai i2 i3))
   have HD:=Hd hD
   have HK2:=Hd hK
   clear i1 i2 i3 i4 i5 hS hD hK k4 k5 k6 hsW hin
   gi_wp2
   have hl5:=(Gx HI.out.2.2)
   have hs1:=HBW.out.size
   have hD2:=HD.out
   have hVN:=HVS.out
   have hSW:=HSW.out
   obtain ⟨U,hU⟩:=Vx ((W.setCell ⟨w.heap.size,0,none⟩ (.slice none 0 0)).setCell ⟨w.heap.size + 1,0,none⟩ (.bool false))
   have hts:=two_set HI.out.2.1 HI.out.2.2 Om (.slice none 0 0) (.bool false)
   rw [hU] at hts
   have u4:=cell_blk (i:=0) hts.1 rfl
   have u5:=cell_blk (i:=0) hts.2.1 rfl
   have uK : U.heap[D2]? = some (.deferred (some [])):=by
    rw [← hU]
    exact (Below.heap_setCell _ _ _ _ (by show D2 ≠ w.heap.size + 1; omega)).trans ((Below.heap_setCell _ _ _ _ (by show D2 ≠ w.heap.size; omega)).trans HK2.out)
   have hbU : Below w.heap.size w U:=by rw [← hU]; have:=HI.out.1; (repeat (first | exact Below.refl _ _ | assumption | refine Below.drew ?_ | refine below_drewN ?_ _ | refine Below.alloc ?_ (by first | omega | (simp; done) | (simp; omega)) _ | refine Below.setCell ?_ (by first | omega | (simp; done) | (simp; omega)) _ | refine Below.trans ?_ (Below.mono (by assumption) (by first | omega | (simp; done) | (simp; omega)))))
   rw [hU]
   have v4:=(Grows.put uK rfl (.deferred none)) _ _ u4
   have v5:=(Grows.put uK rfl (.deferred none)) _ _ u5
   refine ⟨by simp,.inl ⟨_,_,rfl,run_takeDeferred uK,?_⟩⟩
   refine ⟨.tuple #[.slice none 0 0,.bool false],by simp [results,Tryz.results45,go_sem,v4,v5],?_⟩
   exact ⟨below_own hbU (grownBy_putObj' U D2 (.deferred none)) (B:=W1.heap.size) (fun q e => by cases e; exact ⟨hD2,_,uK,rfl⟩) HBW.out.size hbU.size,Or.inr ⟨HN.out,rfl⟩⟩
  case stop =>
   rintro D2 c pre W hD hS ⟨rfl,h1,r,hr1,hr2,v,h2,h3,h4⟩ hK
   have c4:=(Grows.put hK rfl (.deferred none)) _ _ (cell_blk (i:=0) h2 rfl)
   have c5:=(Grows.put hK rfl (.deferred none)) _ _ (cell_blk (i:=0) h3 rfl)
   have hg:=grownBy_putObj' W D2 (.deferred none)
   have hrr : ∀ q,some D2 = some q → W1.heap.size ≤ q ∧ ∃ o : Obj,W.heap[q]? = some o ∧ o.isCells = false:=fun q e => by cases e; exact ⟨hD,_,hK,rfl⟩
   gi_wp2
   refine ⟨by simp,.inl ⟨_,_,rfl,run_takeDeferred hK,?_⟩⟩
   refine ⟨.tuple #[v,.bool true],by simp [results,Tryz.results45,go_sem,c4,c5],?_⟩
   exact ⟨below_own h1 hg hrr HBW.out.size h1.size,Or.inl ⟨r,hr1,kE_inj (pick3_right (HT.out.ok.right hr1) _) HG.out.2 (hr2.trans HS2.out.symm),v,rfl,row_own h4 hg hrr⟩⟩
 ·have hne : (encR l).2 ≠ 0:=fun e => hg ⟨(encR_zero e).1,(encR_zero e).2.1⟩
  have HN : Hid (∀ r ∈ rs,pick3 r D.t.key ≠ l):=Hd fun r hr e => hg ⟨by rw [← e,pick3_length]; exact HT.out.tr.key.2.1,by rw [← e]; exact pick3_right (HT.out.ok.right hr) _⟩
  obtain ⟨en,hen⟩:=Vx ((encR l).2)
  rw [hen] at hne
  have hneb : (en != 0) = true:=by rw [bne_iff_ne]; exact hne
  have HEN:=Hd hen
  clear hg hen hne
  gi_wp2_with (refine ⟨trivial,?_⟩; gi_at_call 82; refine (callsIn_wide.2 HE.out).mono ?_; rintro e w1 ⟨rfl,hb1⟩; unfold KK.encV; rw [HEN.out]; obtain ⟨hcc,hff⟩:=bcell hb1; have hz1:=hb1.size; (have hq4 : w.heap.size < w1.heap.size:=by omega); (have hq5 : w.heap.size + 1 < w1.heap.size:=by omega); (have hn4 : ¬ w.heap.size = w1.heap.size:=by omega); (have hn5 : ¬ w.heap.size + 1 = w1.heap.size:=by omega))
  refine ⟨.tuple #[.slice none 0 0,.bool false],by simp [results,Tryz.results45,go_sem, *],?_⟩
  exact ⟨by have:=HB0.out; (repeat (first | exact Below.refl _ _ | assumption | refine Below.drew ?_ | refine below_drewN ?_ _ | refine Below.alloc ?_ (by first | omega | (simp; done) | (simp; omega)) _ | refine Below.setCell ?_ (by first | omega | (simp; done) | (simp; omega)) _ | refine Below.trans ?_ (Below.mono (by assumption) (by first | omega | (simp; done) | (simp; omega))))),Or.inr ⟨HN.out,rfl⟩⟩
end
end Go.Proofs.YtmmmkjhpmlfopaaGreatDoor
