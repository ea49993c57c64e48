/- ZT38 ZT18 ZT32 ZT33 -/
import Derived.Test.YtmmmkjhpmlfopaaGreatDoorSB30
set_option maxHeartbeats 8000000
set_option maxRecDepth 100000
namespace Go.Proofs.YtmmmkjhpmlfopaaGreatDoor
open Go.RowKit
namespace TT
theorem minI_eq (a b : Nat) (W : World) : (Builtin.min_ #[3,3] 3 #[.int .i64 (a : Int),.int .i64 (b : Int)]).run Tryz.prog W = .ok (.int .i64 ((min a b : Nat) : Int)) W:=by
 simp [Builtin.min_,Builtin.min2]
 split <;> omega
theorem ext_front {t : ByteArray} {n : Nat} : bs (t.extract 0 n) = (bs t).take n:=by
 simp [bs]
theorem text_rd {s s1 : ByteArray} {n : Nat} (hr : Rd num (fun m => m ≤ 1000 ∧ m < 2097152) (bs s) n (bs s1)) : Rd txt (fun x => x.size ≤ 1000) (bs s) (s1.extract 0 (min n s1.size)) (bs (s1.extract (min n s1.size) s1.size)):=by
 intro x y hx e
 rw [txt,Zas] at e
 obtain ⟨e1,e2⟩:=hr x.size (bs x ++ y) ⟨hx,by omega⟩ e
 have hl : s1.size = x.size + y.length:=by rw [← bs_len s1,e2,Zla,bs_len]
 have hm : min n s1.size = (bs x).length:=by rw [bs_len]; omega
 rw [hm]
 refine ⟨bs_inj ?_,?_⟩
 ·rw [ext_front,e2,List.take_left]
 ·rw [ext_bs,e2,List.drop_left]
theorem rtext_any : TextSpec:=by
 intro r s w h hs
 go_enter Tryz.func203,Tryz.ntmps203
 go_wp2_with fail
 refine (upTo_any r s 1000 w h hs Om).mono ?_
 rintro e w1 ⟨n,s1,rfl,hn,h1,hz,hrd,ho⟩
 have c0:=cell_of_one h1
 have f0:=free_of_one h1
 obtain ⟨E,hE⟩:=Vx (min n s1.size)
 have hmn : ∀ W,(Builtin.min_ #[3,3] 3 #[.int .i64 (n : Int),.int .i64 (s1.size : Int)]).run Tryz.prog W = .ok (.int .i64 (E : Int)) W:=fun W => by rw [← hE]; exact minI_eq n s1.size W
 have HR:=Hd (text_rd hrd)
 rw [hE] at HR
 have hEs : E ≤ s1.size:=by omega
 have hEi : (E : Int) ≤ (s1.size : Int):=by omega
 have hE0 : (0 : Int) ≤ (E : Int):=by omega
 have HH:=Hd h1
 have hxs : (s1.extract 0 E).size ≤ 1099511627776:=by simp; omega
 have hxn : (s1.extract 0 E).size ≤ 1000:=by simp; omega
 clear h1 hrd hE h
 go_wp2_with fail
 refine (clone_any (s1.extract 0 E) w1 hxs).mono ?_
 rintro e w2 ⟨rfl,hb⟩
 have H2:=Hd (HH.out.later hb)
 have c1:=cell_of_one H2.out
 have f1:=free_of_one H2.out
 clear c0 f0
 go_wp2
 go_ret
 refine ⟨s1.extract 0 E,s1.extract E s1.size,rfl,hxn,H2.out.set _,?_,HR.out,Only.setCell (Z:=fun k => k = r) (ho.later hb) (p:=⟨r,0,none⟩) rfl _⟩
 simp
 omega
theorem heap_setCell_at {w : World} {l i : Nat} {cs : Array Value} {t : TypeId} {fr : Nat × Nat} (h : w.heap[l]? = some (.cells cs t fr)) (v : Value) : (w.setCell ⟨l,i,none⟩ v).heap[l]? = some (.cells (cs.setIfInBounds i v) t fr):=by
 simp only [World.setCell,Array.getElem?_modify,if_true,h]
 simp
theorem Keeps.typed {S : List TypeId} {B : Nat} {a w : World} (hk : Keeps S B a w) {g : Nat} {cs : Array Value} {t : TypeId} {fr : Nat × Nat} (h : w.heap[g]? = some (.cells cs t fr)) (ht : t ∉ S) (o : Nat) (u : Value) : Keeps S B a (w.setCell ⟨g,o,none⟩ u):=by
 intro g' cur t' ht' hB h'
 have h2:=hk g' cur t' ht' hB h'
 refine (Below.heap_setCell _ _ _ _ fun e => ?_).trans h2
 have e : g' = g:=e
 rw [e,h] at h2
 simp only [Option.some.injEq,Obj.cells.injEq] at h2
 exact ht (h2.2.1 ▸ ht')
theorem grown_other {w w' : World} {B : Nat} {e : TypeId} {size : Nat} {v : Value} {n : Nat} {xs : List Value} (ho : w.ownsRow B e size v n xs) (hg : w.grownBy w' v.ownBlock) {x : Nat} {cs : Array Value} {t : TypeId} {fr : Nat × Nat} (h : w.heap[x]? = some (.cells cs t fr)) (ht : t ≠ e) : w'.heap[x]? = some (.cells cs t fr):=by
 refine (hg.block x (Gx h) fun e1 => ?_).trans h
 obtain ⟨cur',h'⟩:=own_block ho e1.symm
 rw [h] at h'
 simp only [Option.some.injEq,Obj.cells.injEq] at h'
 exact ht h'.2.1
theorem CtO.none (w : World) (B : Nat) : CtO w B ⟨[],[]⟩ [.slice none 0 0,.slice none 0 0]:=⟨_,_,rfl,OwnR.nil _ _ _ _ _,OwnR.nil _ _ _ _ _⟩
theorem reCol_any (r : Nat) (s : ByteArray) (M : Nat) (w : World) (f : Col → List UInt8) (ok Q : Col → Prop) (h : Rdr w r s) (hs : s.size ≤ 2147483648) (hM : M ≤ 1000)
  (hC : ∀ (s1 : ByteArray) (w1 : World),Rdr w1 r s1 → s1.size ≤ 2147483648 → Calls Tryz.prog 205 #[.pointer (some ⟨r,0,none⟩)] w1 fun e w2 => ∃ (x : Col) (us : List Value) (s2 : ByteArray),e = .returned (.agg us.toArray) ∧ ColR x us ∧ Q x ∧ Rdr w2 r s2 ∧ s2.size ≤ s1.size ∧ Rd f ok (bs s1) x (bs s2) ∧ Only (fun k => k = r) w1 w2) :
  Calls Tryz.prog 204 #[.pointer (some ⟨r,0,none⟩),.int .i64 (M : Int),.func (.func 205) #[] #[]] w fun e w' => ∃ (v : Value) (l : List Col) (s' : ByteArray),e = .returned v ∧ OwnR 3 62 ColR w' w.heap.size v l ∧ l.length ≤ M ∧ (∀ x ∈ l,Q x) ∧ Rdr w' r s' ∧ s'.size ≤ s.size ∧ Rd (lst f) (fun L => L.length ≤ M ∧ ∀ x ∈ L,ok x) (bs s) l (bs s') ∧ Only (fun k => k = r) w w':=by
 obtain ⟨i0,hi,hz0,hz1,hz2⟩:=info_parts Tryz.infoCol
 have HC:=Hd hC
 have HU:=Hd (upTo_any r s M w h hs Om)
 clear hC h
 go_enter Tryz.func204,Tryz.ntmps204
 go_wp2_with fail
 refine HU.out.mono ?_
 rintro e w1 ⟨n,s1,rfl,hn,hr1,hs1,hrd,ho1⟩
 have HR1:=Hd hr1
 have HD1:=Hd hrd
 have HO1:=Hd ho1
 clear hr1 hrd ho1 HU
 go_wp2
 go_loopw [7,11] (fun v i wr => ∃ (k : Nat) (l : List Col) (s2 : ByteArray),k ≤ n ∧ i = .int .i64 k ∧ l.length = k ∧ OwnR 3 62 ColR wr w.heap.size v l ∧ (∀ x ∈ l,Q x) ∧ Rdr wr r s2 ∧ s2.size ≤ s.size ∧ (∀ L y,(L.length ≤ M ∧ ∀ x ∈ L,ok x) → bs s = lst f L ++ y → n = L.length ∧ l = L.take k ∧ bs s2 = (L.drop k).flatMap f ++ y) ∧ Only (fun k => k = r) w wr) (fun _ i _ => n - (intOf i).toNat)
 case atStart => exact ⟨0,[],s1,Nat.zero_le _,rfl,rfl,OwnR.nil _ _ _ _ _,fun x hx => absurd hx List.not_mem_nil,HR1.out,hs1,rd_start Om HD1.out,HO1.out⟩
 case round =>
  clear HR1 HD1 HO1
  obtain ⟨k,l,s2,hk,rfl,hlen,hown,hq,hr2,hs2,hspec,ho⟩:=hrel
  have HQ:=Hd hq
  have HR2:=Hd hr2
  have HSP:=Hd hspec
  have HOn:=Hd ho
  have hsz:=ho.size
  obtain ⟨ps,p1,p2,p3⟩:=hown
  rw [hlen] at p3
  have P1:=Hd p1
  have P2:=Hd p2
  have P3:=Hd p3
  have HLN:=Hd hlen
  clear hq hr2 hspec ho p1 p2 p3 hlen
  by_cases hlt : k < n
  ·have hlti : (k : Int) < (n : Int):=by omega
   go_wp2_with fail
   refine (HC.out s2 wr HR2.out Om).mono ?_
   rintro e w2 ⟨x,us,s3,rfl,hO,hqx,hr3,hs3,hrd3,ho3⟩
   have hz3:=ho3.size
   have HQ2 : Hid (∀ y ∈ l ++ [x],Q y):=fun y hy => by
    rcases Zma hy with hy | hy
    ·exact HQ.out y hy
    ·rw [Zms hy]; exact hqx
   have HSP2:=Hd (rd_step hlt HSP.out hrd3)
   have hown2:=own_only P3.out HR2.out ho3 (by decide)
   have HKW : Hid (∀ S : List TypeId,220 ∉ S → Keeps S w.heap.size wr w2):=fun S hS => Keeps.only HR2.out ho3 hS
   have HO3:=Hd ho3
   have HR3:=Hd hr3
   have HOx:=Hd hO
   obtain rfl:=hO
   clear hqx hr3 hrd3 ho3 HSP
   go_wp2_with (first | (at_builtin; refine wpList_append_own _ rfl _ _ 43 rfl w.heap.size 62 i0 (.agg #[.string ⟨#[]⟩,.int .i64 0,.bool false]) 3 32 Tryz.underlying43 hi hz0 hz1 hz2 rfl (by decide) _ k (ps.flatMap (·.2)) rfl (hown2.alloc _) ⟨w2.heap.size,0,none⟩ 1 1 [.string x.nm,.int .i64 x.ty,.bool x.nn] rfl rfl (cells_alloc _ _ _) (by intro u hu; simp only [List.mem_cons,List.not_mem_nil,or_false] at hu; rcases hu with rfl | rfl | rfl <;> rfl) (by unfold maxLen; omega) Om (by simp; omega) ?_; intro v' w3 hown3 hgrow3 _))
   have HG:=Hd hgrow3
   have HO4:=Hd hown3
   have HOW:=Hd hown2
   have hs3':=hgrow3.size
   simp at hs3'
   have HR4 : Hid (Rdr w3 r s3):=grown_other (HOW.out.alloc _) HG.out (heap_of HR3.out ((Bxr _ _).alloc Zlr _)) (by decide)
   clear hown3 hgrow3 hown2
   go_wp2
   go_roundw
   case rel =>
    have hkp : Keeps ([] : List TypeId) w.heap.size w2 w3:=(Keeps.of ((Bxr _ _).alloc Zlr _)).trans (Keeps.grown (HOW.out.alloc _) HG.out (by decide))
    have hkw : Keeps ([] : List TypeId) w.heap.size wr w3:=(HKW.out _ (by decide)).trans hkp
    refine ⟨k + 1,l ++ [x],s3,by omega,by go_num,by rw [Zla,HLN.out]; rfl,?_,HQ2.out,HR4.out,by omega,HSP2.out,?_⟩
    ·refine OwnR.push (n:=3) P1.out P2.out (fun _ _ h => h) HOx.out rfl ?_
     rw [HLN.out]
     exact HO4.out
    ·exact only_base ((((HOn.out.mono (fun k h => Or.inl h)).trans (HO3.out.mono (fun k h => Or.inl h))).alloc _).grown HG.out (fun k hk => Or.inr (own_ge HOW.out k hk)))
   case measure => simp [intOf]; omega
  ·have hk' : k = n:=by omega
   subst hk'
   have HE:=Hd (rd_end HSP.out)
   go_wp2
   go_ret
   refine ⟨_,l,s2,rfl,⟨ps,P1.out,P2.out,by rw [HLN.out]; exact P3.out⟩,by rw [HLN.out]; omega,HQ.out,HR2.out,hs2,HE.out,HOn.out⟩
theorem rePm_any (r : Nat) (s : ByteArray) (M : Nat) (w : World) (f : Pm → List UInt8) (ok Q : Pm → Prop) (h : Rdr w r s) (hs : s.size ≤ 2147483648) (hM : M ≤ 1000)
  (hC : ∀ (s1 : ByteArray) (w1 : World),Rdr w1 r s1 → s1.size ≤ 2147483648 → Calls Tryz.prog 211 #[.pointer (some ⟨r,0,none⟩)] w1 fun e w2 => ∃ (x : Pm) (us : List Value) (s2 : ByteArray),e = .returned (.agg us.toArray) ∧ PmR x us ∧ Q x ∧ Rdr w2 r s2 ∧ s2.size ≤ s1.size ∧ Rd f ok (bs s1) x (bs s2) ∧ Only (fun k => k = r) w1 w2) :
  Calls Tryz.prog 210 #[.pointer (some ⟨r,0,none⟩),.int .i64 (M : Int),.func (.func 211) #[] #[]] w fun e w' => ∃ (v : Value) (l : List Pm) (s' : ByteArray),e = .returned v ∧ OwnR 2 171 PmR w' w.heap.size v l ∧ l.length ≤ M ∧ (∀ x ∈ l,Q x) ∧ Rdr w' r s' ∧ s'.size ≤ s.size ∧ Rd (lst f) (fun L => L.length ≤ M ∧ ∀ x ∈ L,ok x) (bs s) l (bs s') ∧ Only (fun k => k = r) w w':=by
 obtain ⟨i0,hi,hz0,hz1,hz2⟩:=info_parts Tryz.infoPm
 have HC:=Hd hC
 have HU:=Hd (upTo_any r s M w h hs Om)
 clear hC h
 go_enter Tryz.func210,Tryz.ntmps210
 go_wp2_with fail
 refine HU.out.mono ?_
 rintro e w1 ⟨n,s1,rfl,hn,hr1,hs1,hrd,ho1⟩
 have HR1:=Hd hr1
 have HD1:=Hd hrd
 have HO1:=Hd ho1
 clear hr1 hrd ho1 HU
 go_wp2
 go_loopw [7,11] (fun v i wr => ∃ (k : Nat) (l : List Pm) (s2 : ByteArray),k ≤ n ∧ i = .int .i64 k ∧ l.length = k ∧ OwnR 2 171 PmR wr w.heap.size v l ∧ (∀ x ∈ l,Q x) ∧ Rdr wr r s2 ∧ s2.size ≤ s.size ∧ (∀ L y,(L.length ≤ M ∧ ∀ x ∈ L,ok x) → bs s = lst f L ++ y → n = L.length ∧ l = L.take k ∧ bs s2 = (L.drop k).flatMap f ++ y) ∧ Only (fun k => k = r) w wr) (fun _ i _ => n - (intOf i).toNat)
 case atStart => exact ⟨0,[],s1,Nat.zero_le _,rfl,rfl,OwnR.nil _ _ _ _ _,fun x hx => absurd hx List.not_mem_nil,HR1.out,hs1,rd_start Om HD1.out,HO1.out⟩
 case round =>
  clear HR1 HD1 HO1
  obtain ⟨k,l,s2,hk,rfl,hlen,hown,hq,hr2,hs2,hspec,ho⟩:=hrel
  have HQ:=Hd hq
  have HR2:=Hd hr2
  have HSP:=Hd hspec
  have HOn:=Hd ho
  have hsz:=ho.size
  obtain ⟨ps,p1,p2,p3⟩:=hown
  rw [hlen] at p3
  have P1:=Hd p1
  have P2:=Hd p2
  have P3:=Hd p3
  have HLN:=Hd hlen
  clear hq hr2 hspec ho p1 p2 p3 hlen
  by_cases hlt : k < n
  ·have hlti : (k : Int) < (n : Int):=by omega
   go_wp2_with fail
   refine (HC.out s2 wr HR2.out Om).mono ?_
   rintro e w2 ⟨x,us,s3,rfl,hO,hqx,hr3,hs3,hrd3,ho3⟩
   have hz3:=ho3.size
   have HQ2 : Hid (∀ y ∈ l ++ [x],Q y):=fun y hy => by
    rcases Zma hy with hy | hy
    ·exact HQ.out y hy
    ·rw [Zms hy]; exact hqx
   have HSP2:=Hd (rd_step hlt HSP.out hrd3)
   have hown2:=own_only P3.out HR2.out ho3 (by decide)
   have HKW : Hid (∀ S : List TypeId,220 ∉ S → Keeps S w.heap.size wr w2):=fun S hS => Keeps.only HR2.out ho3 hS
   have HO3:=Hd ho3
   have HR3:=Hd hr3
   have HOx:=Hd hO
   obtain rfl:=hO
   clear hqx hr3 hrd3 ho3 HSP
   go_wp2_with (first | (at_builtin; refine wpList_append_own _ rfl _ _ 118 rfl w.heap.size 171 i0 (.agg #[.string ⟨#[]⟩,.int .i64 0]) 2 24 Tryz.underlying118 hi hz0 hz1 hz2 rfl (by decide) _ k (ps.flatMap (·.2)) rfl (hown2.alloc _) ⟨w2.heap.size,0,none⟩ 1 1 [.string x.nm,.int .i64 x.ty] rfl rfl (cells_alloc _ _ _) (by intro u hu; simp only [List.mem_cons,List.not_mem_nil,or_false] at hu; rcases hu with rfl | rfl <;> rfl) (by unfold maxLen; omega) Om (by simp; omega) ?_; intro v' w3 hown3 hgrow3 _))
   have HG:=Hd hgrow3
   have HO4:=Hd hown3
   have HOW:=Hd hown2
   have hs3':=hgrow3.size
   simp at hs3'
   have HR4 : Hid (Rdr w3 r s3):=grown_other (HOW.out.alloc _) HG.out (heap_of HR3.out ((Bxr _ _).alloc Zlr _)) (by decide)
   clear hown3 hgrow3 hown2
   go_wp2
   go_roundw
   case rel =>
    have hkp : Keeps ([] : List TypeId) w.heap.size w2 w3:=(Keeps.of ((Bxr _ _).alloc Zlr _)).trans (Keeps.grown (HOW.out.alloc _) HG.out (by decide))
    have hkw : Keeps ([] : List TypeId) w.heap.size wr w3:=(HKW.out _ (by decide)).trans hkp
    refine ⟨k + 1,l ++ [x],s3,by omega,by go_num,by rw [Zla,HLN.out]; rfl,?_,HQ2.out,HR4.out,by omega,HSP2.out,?_⟩
    ·refine OwnR.push (n:=2) P1.out P2.out (fun _ _ h => h) HOx.out rfl ?_
     rw [HLN.out]
     exact HO4.out
    ·exact only_base ((((HOn.out.mono (fun k h => Or.inl h)).trans (HO3.out.mono (fun k h => Or.inl h))).alloc _).grown HG.out (fun k hk => Or.inr (own_ge HOW.out k hk)))
   case measure => simp [intOf]; omega
  ·have hk' : k = n:=by omega
   subst hk'
   have HE:=Hd (rd_end HSP.out)
   go_wp2
   go_ret
   refine ⟨_,l,s2,rfl,⟨ps,P1.out,P2.out,by rw [HLN.out]; exact P3.out⟩,by rw [HLN.out]; omega,HQ.out,HR2.out,hs2,HE.out,HOn.out⟩
theorem reInt_any (r : Nat) (s : ByteArray) (M : Nat) (w : World) (f : Int → List UInt8) (ok Q : Int → Prop) (h : Rdr w r s) (hs : s.size ≤ 2147483648) (hM : M ≤ 1000)
  (hC : ∀ (s1 : ByteArray) (w1 : World),Rdr w1 r s1 → s1.size ≤ 2147483648 → Calls Tryz.prog 207 #[.pointer (some ⟨r,0,none⟩)] w1 fun e w2 => ∃ (x : Int) (s2 : ByteArray),e = .returned (.int .i64 x) ∧ Q x ∧ Rdr w2 r s2 ∧ s2.size ≤ s1.size ∧ Rd f ok (bs s1) x (bs s2) ∧ Only (fun k => k = r) w1 w2) :
  Calls Tryz.prog 206 #[.pointer (some ⟨r,0,none⟩),.int .i64 (M : Int),.func (.func 207) #[] #[]] w fun e w' => ∃ (v : Value) (l : List Int) (s' : ByteArray),e = .returned v ∧ OwnR 1 3 IntR w' w.heap.size v l ∧ l.length ≤ M ∧ (∀ x ∈ l,Q x) ∧ Rdr w' r s' ∧ s'.size ≤ s.size ∧ Rd (lst f) (fun L => L.length ≤ M ∧ ∀ x ∈ L,ok x) (bs s) l (bs s') ∧ Only (fun k => k = r) w w':=by
 obtain ⟨i0,hi,hz0,hz1,hz2⟩:=info_parts Tryz.infoInt
 have HC:=Hd hC
 have HU:=Hd (upTo_any r s M w h hs Om)
 clear hC h
 go_enter Tryz.func206,Tryz.ntmps206
 go_wp2_with fail
 refine HU.out.mono ?_
 rintro e w1 ⟨n,s1,rfl,hn,hr1,hs1,hrd,ho1⟩
 have HR1:=Hd hr1
 have HD1:=Hd hrd
 have HO1:=Hd ho1
 clear hr1 hrd ho1 HU
 go_wp2
 go_loopw [7,11] (fun v i wr => ∃ (k : Nat) (l : List Int) (s2 : ByteArray),k ≤ n ∧ i = .int .i64 k ∧ l.length = k ∧ OwnR 1 3 IntR wr w.heap.size v l ∧ (∀ x ∈ l,Q x) ∧ Rdr wr r s2 ∧ s2.size ≤ s.size ∧ (∀ L y,(L.length ≤ M ∧ ∀ x ∈ L,ok x) → bs s = lst f L ++ y → n = L.length ∧ l = L.take k ∧ bs s2 = (L.drop k).flatMap f ++ y) ∧ Only (fun k => k = r) w wr) (fun _ i _ => n - (intOf i).toNat)
 case atStart => exact ⟨0,[],s1,Nat.zero_le _,rfl,rfl,OwnR.nil _ _ _ _ _,fun x hx => absurd hx List.not_mem_nil,HR1.out,hs1,rd_start Om HD1.out,HO1.out⟩
 case round =>
  clear HR1 HD1 HO1
  obtain ⟨k,l,s2,hk,rfl,hlen,hown,hq,hr2,hs2,hspec,ho⟩:=hrel
  have HQ:=Hd hq
  have HR2:=Hd hr2
  have HSP:=Hd hspec
  have HOn:=Hd ho
  have hsz:=ho.size
  obtain ⟨ps,p1,p2,p3⟩:=hown
  rw [hlen] at p3
  have P1:=Hd p1
  have P2:=Hd p2
  have P3:=Hd p3
  have HLN:=Hd hlen
  clear hq hr2 hspec ho p1 p2 p3 hlen
  by_cases hlt : k < n
  ·have hlti : (k : Int) < (n : Int):=by omega
   go_wp2_with fail
   refine (HC.out s2 wr HR2.out Om).mono ?_
   rintro e w2 ⟨x,s3,rfl,hqx,hr3,hs3,hrd3,ho3⟩
   have hz3:=ho3.size
   have HQ2 : Hid (∀ y ∈ l ++ [x],Q y):=fun y hy => by
    rcases Zma hy with hy | hy
    ·exact HQ.out y hy
    ·rw [Zms hy]; exact hqx
   have HSP2:=Hd (rd_step hlt HSP.out hrd3)
   have hown2:=own_only P3.out HR2.out ho3 (by decide)
   have HKW : Hid (∀ S : List TypeId,220 ∉ S → Keeps S w.heap.size wr w2):=fun S hS => Keeps.only HR2.out ho3 hS
   have HO3:=Hd ho3
   have HR3:=Hd hr3
   clear hqx hr3 hrd3 ho3 HSP
   go_wp2_with (first | (at_builtin; refine wpList_append_own _ rfl _ _ 44 rfl w.heap.size 3 i0 (.int .i64 0) 1 8 Tryz.underlying44 hi hz0 hz1 hz2 rfl (by decide) _ k (ps.flatMap (·.2)) rfl (hown2.alloc _) ⟨w2.heap.size,0,none⟩ 1 1 [.int .i64 x] rfl rfl (cells_alloc _ _ _) (by intro u hu; simp only [List.mem_cons,List.not_mem_nil,or_false] at hu; rcases hu with rfl <;> rfl) (by unfold maxLen; omega) Om (by simp; omega) ?_; intro v' w3 hown3 hgrow3 _))
   have HG:=Hd hgrow3
   have HO4:=Hd hown3
   have HOW:=Hd hown2
   have hs3':=hgrow3.size
   simp at hs3'
   have HR4 : Hid (Rdr w3 r s3):=grown_other (HOW.out.alloc _) HG.out (heap_of HR3.out ((Bxr _ _).alloc Zlr _)) (by decide)
   clear hown3 hgrow3 hown2
   go_wp2
   go_roundw
   case rel =>
    have hkp : Keeps ([] : List TypeId) w.heap.size w2 w3:=(Keeps.of ((Bxr _ _).alloc Zlr _)).trans (Keeps.grown (HOW.out.alloc _) HG.out (by decide))
    have hkw : Keeps ([] : List TypeId) w.heap.size wr w3:=(HKW.out _ (by decide)).trans hkp
    refine ⟨k + 1,l ++ [x],s3,by omega,by go_num,by rw [Zla,HLN.out]; rfl,?_,HQ2.out,HR4.out,by omega,HSP2.out,?_⟩
    ·refine OwnR.push (n:=1) P1.out P2.out (fun _ _ h => h) rfl rfl ?_
     rw [HLN.out]
     exact HO4.out
    ·exact only_base ((((HOn.out.mono (fun k h => Or.inl h)).trans (HO3.out.mono (fun k h => Or.inl h))).alloc _).grown HG.out (fun k hk => Or.inr (own_ge HOW.out k hk)))
   case measure => simp [intOf]; omega
  ·have hk' : k = n:=by omega
   subst hk'
   have HE:=Hd (rd_end HSP.out)
   go_wp2
   go_ret
   refine ⟨_,l,s2,rfl,⟨ps,P1.out,P2.out,by rw [HLN.out]; exact P3.out⟩,by rw [HLN.out]; omega,HQ.out,HR2.out,hs2,HE.out,HOn.out⟩
theorem reStr_any (r : Nat) (s : ByteArray) (M : Nat) (w : World) (f : ByteArray → List UInt8) (ok Q : ByteArray → Prop) (h : Rdr w r s) (hs : s.size ≤ 2147483648) (hM : M ≤ 1000)
  (hC : ∀ (s1 : ByteArray) (w1 : World),Rdr w1 r s1 → s1.size ≤ 2147483648 → Calls Tryz.prog 203 #[.pointer (some ⟨r,0,none⟩)] w1 fun e w2 => ∃ (x : ByteArray) (s2 : ByteArray),e = .returned (.string x) ∧ Q x ∧ Rdr w2 r s2 ∧ s2.size ≤ s1.size ∧ Rd f ok (bs s1) x (bs s2) ∧ Only (fun k => k = r) w1 w2) :
  Calls Tryz.prog 212 #[.pointer (some ⟨r,0,none⟩),.int .i64 (M : Int),.func (.func 203) #[] #[]] w fun e w' => ∃ (v : Value) (l : List ByteArray) (s' : ByteArray),e = .returned v ∧ OwnR 1 9 StrR w' w.heap.size v l ∧ l.length ≤ M ∧ (∀ x ∈ l,Q x) ∧ Rdr w' r s' ∧ s'.size ≤ s.size ∧ Rd (lst f) (fun L => L.length ≤ M ∧ ∀ x ∈ L,ok x) (bs s) l (bs s') ∧ Only (fun k => k = r) w w':=by
 obtain ⟨i0,hi,hz0,hz1,hz2⟩:=info_parts Tryz.infoStr
 have HC:=Hd hC
 have HU:=Hd (upTo_any r s M w h hs Om)
 clear hC h
 go_enter Tryz.func212,Tryz.ntmps212
 go_wp2_with fail
 refine HU.out.mono ?_
 rintro e w1 ⟨n,s1,rfl,hn,hr1,hs1,hrd,ho1⟩
 have HR1:=Hd hr1
 have HD1:=Hd hrd
 have HO1:=Hd ho1
 clear hr1 hrd ho1 HU
 go_wp2
 go_loopw [7,11] (fun v i wr => ∃ (k : Nat) (l : List ByteArray) (s2 : ByteArray),k ≤ n ∧ i = .int .i64 k ∧ l.length = k ∧ OwnR 1 9 StrR wr w.heap.size v l ∧ (∀ x ∈ l,Q x) ∧ Rdr wr r s2 ∧ s2.size ≤ s.size ∧ (∀ L y,(L.length ≤ M ∧ ∀ x ∈ L,ok x) → bs s = lst f L ++ y → n = L.length ∧ l = L.take k ∧ bs s2 = (L.drop k).flatMap f ++ y) ∧ Only (fun k => k = r) w wr) (fun _ i _ => n - (intOf i).toNat)
 case atStart => exact ⟨0,[],s1,Nat.zero_le _,rfl,rfl,OwnR.nil _ _ _ _ _,fun x hx => absurd hx List.not_mem_nil,HR1.out,hs1,rd_start Om HD1.out,HO1.out⟩
 case round =>
  clear HR1 HD1 HO1
  obtain ⟨k,l,s2,hk,rfl,hlen,hown,hq,hr2,hs2,hspec,ho⟩:=hrel
  have HQ:=Hd hq
  have HR2:=Hd hr2
  have HSP:=Hd hspec
  have HOn:=Hd ho
  have hsz:=ho.size
  obtain ⟨ps,p1,p2,p3⟩:=hown
  rw [hlen] at p3
  have P1:=Hd p1
  have P2:=Hd p2
  have P3:=Hd p3
  have HLN:=Hd hlen
  clear hq hr2 hspec ho p1 p2 p3 hlen
  by_cases hlt : k < n
  ·have hlti : (k : Int) < (n : Int):=by omega
   go_wp2_with fail
   refine (HC.out s2 wr HR2.out Om).mono ?_
   rintro e w2 ⟨x,s3,rfl,hqx,hr3,hs3,hrd3,ho3⟩
   have hz3:=ho3.size
   have HQ2 : Hid (∀ y ∈ l ++ [x],Q y):=fun y hy => by
    rcases Zma hy with hy | hy
    ·exact HQ.out y hy
    ·rw [Zms hy]; exact hqx
   have HSP2:=Hd (rd_step hlt HSP.out hrd3)
   have hown2:=own_only P3.out HR2.out ho3 (by decide)
   have HKW : Hid (∀ S : List TypeId,220 ∉ S → Keeps S w.heap.size wr w2):=fun S hS => Keeps.only HR2.out ho3 hS
   have HO3:=Hd ho3
   have HR3:=Hd hr3
   clear hqx hr3 hrd3 ho3 HSP
   go_wp2_with (first | (at_builtin; refine wpList_append_own _ rfl _ _ 119 rfl w.heap.size 9 i0 (.string ⟨#[]⟩) 1 16 Tryz.underlying119 hi hz0 hz1 hz2 rfl (by decide) _ k (ps.flatMap (·.2)) rfl (hown2.alloc _) ⟨w2.heap.size,0,none⟩ 1 1 [.string x] rfl rfl (cells_alloc _ _ _) (by intro u hu; simp only [List.mem_cons,List.not_mem_nil,or_false] at hu; rcases hu with rfl <;> rfl) (by unfold maxLen; omega) Om (by simp; omega) ?_; intro v' w3 hown3 hgrow3 _))
   have HG:=Hd hgrow3
   have HO4:=Hd hown3
   have HOW:=Hd hown2
   have hs3':=hgrow3.size
   simp at hs3'
   have HR4 : Hid (Rdr w3 r s3):=grown_other (HOW.out.alloc _) HG.out (heap_of HR3.out ((Bxr _ _).alloc Zlr _)) (by decide)
   clear hown3 hgrow3 hown2
   go_wp2
   go_roundw
   case rel =>
    have hkp : Keeps ([] : List TypeId) w.heap.size w2 w3:=(Keeps.of ((Bxr _ _).alloc Zlr _)).trans (Keeps.grown (HOW.out.alloc _) HG.out (by decide))
    have hkw : Keeps ([] : List TypeId) w.heap.size wr w3:=(HKW.out _ (by decide)).trans hkp
    refine ⟨k + 1,l ++ [x],s3,by omega,by go_num,by rw [Zla,HLN.out]; rfl,?_,HQ2.out,HR4.out,by omega,HSP2.out,?_⟩
    ·refine OwnR.push (n:=1) P1.out P2.out (fun _ _ h => h) rfl rfl ?_
     rw [HLN.out]
     exact HO4.out
    ·exact only_base ((((HOn.out.mono (fun k h => Or.inl h)).trans (HO3.out.mono (fun k h => Or.inl h))).alloc _).grown HG.out (fun k hk => Or.inr (own_ge HOW.out k hk)))
   case measure => simp [intOf]; omega
  ·have hk' : k = n:=by omega
   subst hk'
   have HE:=Hd (rd_end HSP.out)
   go_wp2
   go_ret
   refine ⟨_,l,s2,rfl,⟨ps,P1.out,P2.out,by rw [HLN.out]; exact P3.out⟩,by rw [HLN.out]; omega,HQ.out,HR2.out,hs2,HE.out,HOn.out⟩
theorem reIx_any (r : Nat) (s : ByteArray) (M : Nat) (w : World) (f : Ix → List UInt8) (ok Q : Ix → Prop) (h : Rdr w r s) (hs : s.size ≤ 2147483648) (hM : M ≤ 1000)
  (hC : ∀ (s1 : ByteArray) (w1 : World),Rdr w1 r s1 → s1.size ≤ 2147483648 → Calls Tryz.prog 209 #[.pointer (some ⟨r,0,none⟩)] w1 fun e w2 => ∃ (x : Ix) (us : List Value) (s2 : ByteArray),e = .returned (.agg us.toArray) ∧ IxO w2 w1.heap.size x us ∧ Q x ∧ Rdr w2 r s2 ∧ s2.size ≤ s1.size ∧ Rd f ok (bs s1) x (bs s2) ∧ Only (fun k => k = r) w1 w2) :
  Calls Tryz.prog 208 #[.pointer (some ⟨r,0,none⟩),.int .i64 (M : Int),.func (.func 209) #[] #[]] w fun e w' => ∃ (v : Value) (l : List Ix) (s' : ByteArray),e = .returned v ∧ OwnR 3 64 (IxO w' w.heap.size) w' w.heap.size v l ∧ l.length ≤ M ∧ (∀ x ∈ l,Q x) ∧ Rdr w' r s' ∧ s'.size ≤ s.size ∧ Rd (lst f) (fun L => L.length ≤ M ∧ ∀ x ∈ L,ok x) (bs s) l (bs s') ∧ Only (fun k => k = r) w w':=by
 obtain ⟨i0,hi,hz0,hz1,hz2⟩:=info_parts Tryz.infoIx
 have HC:=Hd hC
 have HU:=Hd (upTo_any r s M w h hs Om)
 clear hC h
 go_enter Tryz.func208,Tryz.ntmps208
 go_wp2_with fail
 refine HU.out.mono ?_
 rintro e w1 ⟨n,s1,rfl,hn,hr1,hs1,hrd,ho1⟩
 have HR1:=Hd hr1
 have HD1:=Hd hrd
 have HO1:=Hd ho1
 clear hr1 hrd ho1 HU
 go_wp2
 go_loopw [7,11] (fun v i wr => ∃ (k : Nat) (l : List Ix) (s2 : ByteArray),k ≤ n ∧ i = .int .i64 k ∧ l.length = k ∧ OwnR 3 64 (IxO wr w.heap.size) wr w.heap.size v l ∧ (∀ x ∈ l,Q x) ∧ Rdr wr r s2 ∧ s2.size ≤ s.size ∧ (∀ L y,(L.length ≤ M ∧ ∀ x ∈ L,ok x) → bs s = lst f L ++ y → n = L.length ∧ l = L.take k ∧ bs s2 = (L.drop k).flatMap f ++ y) ∧ Only (fun k => k = r) w wr) (fun _ i _ => n - (intOf i).toNat)
 case atStart => exact ⟨0,[],s1,Nat.zero_le _,rfl,rfl,OwnR.nil _ _ _ _ _,fun x hx => absurd hx List.not_mem_nil,HR1.out,hs1,rd_start Om HD1.out,HO1.out⟩
 case round =>
  clear HR1 HD1 HO1
  obtain ⟨k,l,s2,hk,rfl,hlen,hown,hq,hr2,hs2,hspec,ho⟩:=hrel
  have HQ:=Hd hq
  have HR2:=Hd hr2
  have HSP:=Hd hspec
  have HOn:=Hd ho
  have hsz:=ho.size
  obtain ⟨ps,p1,p2,p3⟩:=hown
  rw [hlen] at p3
  have P1:=Hd p1
  have P2:=Hd p2
  have P3:=Hd p3
  have HLN:=Hd hlen
  clear hq hr2 hspec ho p1 p2 p3 hlen
  by_cases hlt : k < n
  ·have hlti : (k : Int) < (n : Int):=by omega
   go_wp2_with fail
   refine (HC.out s2 wr HR2.out Om).mono ?_
   rintro e w2 ⟨x,us,s3,rfl,hO,hqx,hr3,hs3,hrd3,ho3⟩
   have hz3:=ho3.size
   have HQ2 : Hid (∀ y ∈ l ++ [x],Q y):=fun y hy => by
    rcases Zma hy with hy | hy
    ·exact HQ.out y hy
    ·rw [Zms hy]; exact hqx
   have HSP2:=Hd (rd_step hlt HSP.out hrd3)
   have hown2:=own_only P3.out HR2.out ho3 (by decide)
   have HKW : Hid (∀ S : List TypeId,220 ∉ S → Keeps S w.heap.size wr w2):=fun S hS => Keeps.only HR2.out ho3 hS
   have HO3:=Hd ho3
   have HR3:=Hd hr3
   have HOx:=Hd (IxO.mono (B':=w.heap.size) hsz _ _ hO)
   obtain ⟨u1,rfl,o1⟩:=hO
   obtain ⟨a1,b1,rfl,-⟩:=o1.form
   clear o1
   clear hqx hr3 hrd3 ho3 HSP
   go_wp2_with (first | (at_builtin; refine wpList_append_own _ rfl _ _ 45 rfl w.heap.size 64 i0 (.agg #[.string ⟨#[]⟩,.slice none 0 0,.bool false]) 3 48 Tryz.underlying45 hi hz0 hz1 hz2 rfl (by decide) _ k (ps.flatMap (·.2)) rfl (hown2.alloc _) ⟨w2.heap.size,0,none⟩ 1 1 [.string x.nm,.slice a1 x.cols.length b1,.bool x.un] rfl rfl (cells_alloc _ _ _) (by intro u hu; simp only [List.mem_cons,List.not_mem_nil,or_false] at hu; rcases hu with rfl | rfl | rfl <;> rfl) (by unfold maxLen; omega) Om (by simp; omega) ?_; intro v' w3 hown3 hgrow3 _))
   have HG:=Hd hgrow3
   have HO4:=Hd hown3
   have HOW:=Hd hown2
   have hs3':=hgrow3.size
   simp at hs3'
   have HR4 : Hid (Rdr w3 r s3):=grown_other (HOW.out.alloc _) HG.out (heap_of HR3.out ((Bxr _ _).alloc Zlr _)) (by decide)
   clear hown3 hgrow3 hown2
   go_wp2
   go_roundw
   case rel =>
    have hkp : Keeps inIx w.heap.size w2 w3:=(Keeps.of ((Bxr _ _).alloc Zlr _)).trans (Keeps.grown (HOW.out.alloc _) HG.out (by decide))
    have hkw : Keeps inIx w.heap.size wr w3:=(HKW.out _ (by decide)).trans hkp
    refine ⟨k + 1,l ++ [x],s3,by omega,by go_num,by rw [Zla,HLN.out]; rfl,?_,HQ2.out,HR4.out,by omega,HSP2.out,?_⟩
    ·refine OwnR.push (n:=3) P1.out P2.out (IxO.keeps hkw) (IxO.keeps hkp _ _ HOx.out) rfl ?_
     rw [HLN.out]
     exact HO4.out
    ·exact only_base ((((HOn.out.mono (fun k h => Or.inl h)).trans (HO3.out.mono (fun k h => Or.inl h))).alloc _).grown HG.out (fun k hk => Or.inr (own_ge HOW.out k hk)))
   case measure => simp [intOf]; omega
  ·have hk' : k = n:=by omega
   subst hk'
   have HE:=Hd (rd_end HSP.out)
   go_wp2
   go_ret
   refine ⟨_,l,s2,rfl,⟨ps,P1.out,P2.out,by rw [HLN.out]; exact P3.out⟩,by rw [HLN.out]; omega,HQ.out,HR2.out,hs2,HE.out,HOn.out⟩
theorem reTb_any (r : Nat) (s : ByteArray) (M : Nat) (w : World) (f : Tb → List UInt8) (ok Q : Tb → Prop) (h : Rdr w r s) (hs : s.size ≤ 2147483648) (hM : M ≤ 1000)
  (hC : ∀ (s1 : ByteArray) (w1 : World),Rdr w1 r s1 → s1.size ≤ 2147483648 → Calls Tryz.prog 144 #[.pointer (some ⟨r,0,none⟩)] w1 fun e w2 => ∃ (x : Tb) (us : List Value) (s2 : ByteArray),e = .returned (.agg us.toArray) ∧ TbO w2 w1.heap.size x us ∧ Q x ∧ Rdr w2 r s2 ∧ s2.size ≤ s1.size ∧ Rd f ok (bs s1) x (bs s2) ∧ Only (fun k => k = r) w1 w2) :
  Calls Tryz.prog 143 #[.pointer (some ⟨r,0,none⟩),.int .i64 (M : Int),.func (.func 144) #[] #[]] w fun e w' => ∃ (v : Value) (l : List Tb) (s' : ByteArray),e = .returned v ∧ OwnR 5 47 (TbO w' w.heap.size) w' w.heap.size v l ∧ l.length ≤ M ∧ (∀ x ∈ l,Q x) ∧ Rdr w' r s' ∧ s'.size ≤ s.size ∧ Rd (lst f) (fun L => L.length ≤ M ∧ ∀ x ∈ L,ok x) (bs s) l (bs s') ∧ Only (fun k => k = r) w w':=by
 obtain ⟨i0,hi,hz0,hz1,hz2⟩:=info_parts Tryz.infoTb
 have HC:=Hd hC
 have HU:=Hd (upTo_any r s M w h hs Om)
 clear hC h
 go_enter Tryz.func143,Tryz.ntmps143
 go_wp2_with fail
 refine HU.out.mono ?_
 rintro e w1 ⟨n,s1,rfl,hn,hr1,hs1,hrd,ho1⟩
 have HR1:=Hd hr1
 have HD1:=Hd hrd
 have HO1:=Hd ho1
 clear hr1 hrd ho1 HU
 go_wp2
 go_loopw [7,11] (fun v i wr => ∃ (k : Nat) (l : List Tb) (s2 : ByteArray),k ≤ n ∧ i = .int .i64 k ∧ l.length = k ∧ OwnR 5 47 (TbO wr w.heap.size) wr w.heap.size v l ∧ (∀ x ∈ l,Q x) ∧ Rdr wr r s2 ∧ s2.size ≤ s.size ∧ (∀ L y,(L.length ≤ M ∧ ∀ x ∈ L,ok x) → bs s = lst f L ++ y → n = L.length ∧ l = L.take k ∧ bs s2 = (L.drop k).flatMap f ++ y) ∧ Only (fun k => k = r) w wr) (fun _ i _ => n - (intOf i).toNat)
 case atStart => exact ⟨0,[],s1,Nat.zero_le _,rfl,rfl,OwnR.nil _ _ _ _ _,fun x hx => absurd hx List.not_mem_nil,HR1.out,hs1,rd_start Om HD1.out,HO1.out⟩
 case round =>
  clear HR1 HD1 HO1
  obtain ⟨k,l,s2,hk,rfl,hlen,hown,hq,hr2,hs2,hspec,ho⟩:=hrel
  have HQ:=Hd hq
  have HR2:=Hd hr2
  have HSP:=Hd hspec
  have HOn:=Hd ho
  have hsz:=ho.size
  obtain ⟨ps,p1,p2,p3⟩:=hown
  rw [hlen] at p3
  have P1:=Hd p1
  have P2:=Hd p2
  have P3:=Hd p3
  have HLN:=Hd hlen
  clear hq hr2 hspec ho p1 p2 p3 hlen
  by_cases hlt : k < n
  ·have hlti : (k : Int) < (n : Int):=by omega
   go_wp2_with fail
   refine (HC.out s2 wr HR2.out Om).mono ?_
   rintro e w2 ⟨x,us,s3,rfl,hO,hqx,hr3,hs3,hrd3,ho3⟩
   have hz3:=ho3.size
   have HQ2 : Hid (∀ y ∈ l ++ [x],Q y):=fun y hy => by
    rcases Zma hy with hy | hy
    ·exact HQ.out y hy
    ·rw [Zms hy]; exact hqx
   have HSP2:=Hd (rd_step hlt HSP.out hrd3)
   have hown2:=own_only P3.out HR2.out ho3 (by decide)
   have HKW : Hid (∀ S : List TypeId,220 ∉ S → Keeps S w.heap.size wr w2):=fun S hS => Keeps.only HR2.out ho3 hS
   have HO3:=Hd ho3
   have HR3:=Hd hr3
   have HOx:=Hd (TbO.mono (B':=w.heap.size) hsz _ _ hO)
   obtain ⟨u1,u2,u3,rfl,o1,o2,o3⟩:=hO
   obtain ⟨a1,b1,rfl,-⟩:=o1.form
   obtain ⟨a2,b2,rfl,-⟩:=o2.form
   obtain ⟨a3,b3,rfl,-⟩:=o3.form
   clear o1 o2 o3
   clear hqx hr3 hrd3 ho3 HSP
   go_wp2_with (first | (at_builtin; refine wpList_append_own _ rfl _ _ 22 rfl w.heap.size 47 i0 (.agg #[.string ⟨#[]⟩,.slice none 0 0,.slice none 0 0,.int .i64 0,.slice none 0 0]) 5 96 Tryz.underlying22 hi hz0 hz1 hz2 rfl (by decide) _ k (ps.flatMap (·.2)) rfl (hown2.alloc _) ⟨w2.heap.size,0,none⟩ 1 1 [.string x.nm,.slice a1 x.cols.length b1,.slice a2 x.key.length b2,.int .i64 x.part,.slice a3 x.ixs.length b3] rfl rfl (cells_alloc _ _ _) (by intro u hu; simp only [List.mem_cons,List.not_mem_nil,or_false] at hu; rcases hu with rfl | rfl | rfl | rfl | rfl <;> rfl) (by unfold maxLen; omega) Om (by simp; omega) ?_; intro v' w3 hown3 hgrow3 _))
   have HG:=Hd hgrow3
   have HO4:=Hd hown3
   have HOW:=Hd hown2
   have hs3':=hgrow3.size
   simp at hs3'
   have HR4 : Hid (Rdr w3 r s3):=grown_other (HOW.out.alloc _) HG.out (heap_of HR3.out ((Bxr _ _).alloc Zlr _)) (by decide)
   clear hown3 hgrow3 hown2
   go_wp2
   go_roundw
   case rel =>
    have hkp : Keeps inTb w.heap.size w2 w3:=(Keeps.of ((Bxr _ _).alloc Zlr _)).trans (Keeps.grown (HOW.out.alloc _) HG.out (by decide))
    have hkw : Keeps inTb w.heap.size wr w3:=(HKW.out _ (by decide)).trans hkp
    refine ⟨k + 1,l ++ [x],s3,by omega,by go_num,by rw [Zla,HLN.out]; rfl,?_,HQ2.out,HR4.out,by omega,HSP2.out,?_⟩
    ·refine OwnR.push (n:=5) P1.out P2.out (TbO.keeps hkw) (TbO.keeps hkp _ _ HOx.out) rfl ?_
     rw [HLN.out]
     exact HO4.out
    ·exact only_base ((((HOn.out.mono (fun k h => Or.inl h)).trans (HO3.out.mono (fun k h => Or.inl h))).alloc _).grown HG.out (fun k hk => Or.inr (own_ge HOW.out k hk)))
   case measure => simp [intOf]; omega
  ·have hk' : k = n:=by omega
   subst hk'
   have HE:=Hd (rd_end HSP.out)
   go_wp2
   go_ret
   refine ⟨_,l,s2,rfl,⟨ps,P1.out,P2.out,by rw [HLN.out]; exact P3.out⟩,by rw [HLN.out]; omega,HQ.out,HR2.out,hs2,HE.out,HOn.out⟩
theorem rePc_any (r : Nat) (s : ByteArray) (M : Nat) (w : World) (f : Pc → List UInt8) (ok Q : Pc → Prop) (h : Rdr w r s) (hs : s.size ≤ 2147483648) (hM : M ≤ 1000)
  (hC : ∀ (s1 : ByteArray) (w1 : World),Rdr w1 r s1 → s1.size ≤ 2147483648 → Calls Tryz.prog 146 #[.pointer (some ⟨r,0,none⟩)] w1 fun e w2 => ∃ (x : Pc) (us : List Value) (s2 : ByteArray),e = .returned (.agg us.toArray) ∧ PcO w2 w1.heap.size x us ∧ Q x ∧ Rdr w2 r s2 ∧ s2.size ≤ s1.size ∧ Rd f ok (bs s1) x (bs s2) ∧ Only (fun k => k = r) w1 w2) :
  Calls Tryz.prog 145 #[.pointer (some ⟨r,0,none⟩),.int .i64 (M : Int),.func (.func 146) #[] #[]] w fun e w' => ∃ (v : Value) (l : List Pc) (s' : ByteArray),e = .returned v ∧ OwnR 5 121 (PcO w' w.heap.size) w' w.heap.size v l ∧ l.length ≤ M ∧ (∀ x ∈ l,Q x) ∧ Rdr w' r s' ∧ s'.size ≤ s.size ∧ Rd (lst f) (fun L => L.length ≤ M ∧ ∀ x ∈ L,ok x) (bs s) l (bs s') ∧ Only (fun k => k = r) w w':=by
 obtain ⟨i0,hi,hz0,hz1,hz2⟩:=info_parts Tryz.infoPc
 have HC:=Hd hC
 have HU:=Hd (upTo_any r s M w h hs Om)
 clear hC h
 go_enter Tryz.func145,Tryz.ntmps145
 go_wp2_with fail
 refine HU.out.mono ?_
 rintro e w1 ⟨n,s1,rfl,hn,hr1,hs1,hrd,ho1⟩
 have HR1:=Hd hr1
 have HD1:=Hd hrd
 have HO1:=Hd ho1
 clear hr1 hrd ho1 HU
 go_wp2
 go_loopw [7,11] (fun v i wr => ∃ (k : Nat) (l : List Pc) (s2 : ByteArray),k ≤ n ∧ i = .int .i64 k ∧ l.length = k ∧ OwnR 5 121 (PcO wr w.heap.size) wr w.heap.size v l ∧ (∀ x ∈ l,Q x) ∧ Rdr wr r s2 ∧ s2.size ≤ s.size ∧ (∀ L y,(L.length ≤ M ∧ ∀ x ∈ L,ok x) → bs s = lst f L ++ y → n = L.length ∧ l = L.take k ∧ bs s2 = (L.drop k).flatMap f ++ y) ∧ Only (fun k => k = r) w wr) (fun _ i _ => n - (intOf i).toNat)
 case atStart => exact ⟨0,[],s1,Nat.zero_le _,rfl,rfl,OwnR.nil _ _ _ _ _,fun x hx => absurd hx List.not_mem_nil,HR1.out,hs1,rd_start Om HD1.out,HO1.out⟩
 case round =>
  clear HR1 HD1 HO1
  obtain ⟨k,l,s2,hk,rfl,hlen,hown,hq,hr2,hs2,hspec,ho⟩:=hrel
  have HQ:=Hd hq
  have HR2:=Hd hr2
  have HSP:=Hd hspec
  have HOn:=Hd ho
  have hsz:=ho.size
  obtain ⟨ps,p1,p2,p3⟩:=hown
  rw [hlen] at p3
  have P1:=Hd p1
  have P2:=Hd p2
  have P3:=Hd p3
  have HLN:=Hd hlen
  clear hq hr2 hspec ho p1 p2 p3 hlen
  by_cases hlt : k < n
  ·have hlti : (k : Int) < (n : Int):=by omega
   go_wp2_with fail
   refine (HC.out s2 wr HR2.out Om).mono ?_
   rintro e w2 ⟨x,us,s3,rfl,hO,hqx,hr3,hs3,hrd3,ho3⟩
   have hz3:=ho3.size
   have HQ2 : Hid (∀ y ∈ l ++ [x],Q y):=fun y hy => by
    rcases Zma hy with hy | hy
    ·exact HQ.out y hy
    ·rw [Zms hy]; exact hqx
   have HSP2:=Hd (rd_step hlt HSP.out hrd3)
   have hown2:=own_only P3.out HR2.out ho3 (by decide)
   have HKW : Hid (∀ S : List TypeId,220 ∉ S → Keeps S w.heap.size wr w2):=fun S hS => Keeps.only HR2.out ho3 hS
   have HO3:=Hd ho3
   have HR3:=Hd hr3
   have HOx:=Hd (PcO.mono (B':=w.heap.size) hsz _ _ hO)
   obtain ⟨u1,u2,rfl,o1,o2⟩:=hO
   obtain ⟨a1,b1,rfl,-⟩:=o1.form
   obtain ⟨a2,b2,rfl,-⟩:=o2.form
   clear o1 o2
   clear hqx hr3 hrd3 ho3 HSP
   go_wp2_with (first | (at_builtin; refine wpList_append_own _ rfl _ _ 23 rfl w.heap.size 121 i0 (.agg #[.string ⟨#[]⟩,.slice none 0 0,.slice none 0 0,.int .i64 0,.int .i64 0]) 5 80 Tryz.underlying23 hi hz0 hz1 hz2 rfl (by decide) _ k (ps.flatMap (·.2)) rfl (hown2.alloc _) ⟨w2.heap.size,0,none⟩ 1 1 [.string x.nm,.slice a1 x.prms.length b1,.slice a2 x.body.length b2,.int .i64 x.rows,.int .i64 x.bytes] rfl rfl (cells_alloc _ _ _) (by intro u hu; simp only [List.mem_cons,List.not_mem_nil,or_false] at hu; rcases hu with rfl | rfl | rfl | rfl | rfl <;> rfl) (by unfold maxLen; omega) Om (by simp; omega) ?_; intro v' w3 hown3 hgrow3 _))
   have HG:=Hd hgrow3
   have HO4:=Hd hown3
   have HOW:=Hd hown2
   have hs3':=hgrow3.size
   simp at hs3'
   have HR4 : Hid (Rdr w3 r s3):=grown_other (HOW.out.alloc _) HG.out (heap_of HR3.out ((Bxr _ _).alloc Zlr _)) (by decide)
   clear hown3 hgrow3 hown2
   go_wp2
   go_roundw
   case rel =>
    have hkp : Keeps inPc w.heap.size w2 w3:=(Keeps.of ((Bxr _ _).alloc Zlr _)).trans (Keeps.grown (HOW.out.alloc _) HG.out (by decide))
    have hkw : Keeps inPc w.heap.size wr w3:=(HKW.out _ (by decide)).trans hkp
    refine ⟨k + 1,l ++ [x],s3,by omega,by go_num,by rw [Zla,HLN.out]; rfl,?_,HQ2.out,HR4.out,by omega,HSP2.out,?_⟩
    ·refine OwnR.push (n:=5) P1.out P2.out (PcO.keeps hkw) (PcO.keeps hkp _ _ HOx.out) rfl ?_
     rw [HLN.out]
     exact HO4.out
    ·exact only_base ((((HOn.out.mono (fun k h => Or.inl h)).trans (HO3.out.mono (fun k h => Or.inl h))).alloc _).grown HG.out (fun k hk => Or.inr (own_ge HOW.out k hk)))
   case measure => simp [intOf]; omega
  ·have hk' : k = n:=by omega
   subst hk'
   have HE:=Hd (rd_end HSP.out)
   go_wp2
   go_ret
   refine ⟨_,l,s2,rfl,⟨ps,P1.out,P2.out,by rw [HLN.out]; exact P3.out⟩,by rw [HLN.out]; omega,HQ.out,HR2.out,hs2,HE.out,HOn.out⟩
end TT
end Go.Proofs.YtmmmkjhpmlfopaaGreatDoor
