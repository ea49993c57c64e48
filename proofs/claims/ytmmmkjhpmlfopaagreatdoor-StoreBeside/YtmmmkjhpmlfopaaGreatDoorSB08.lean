/- ZB15 ZB41 ZM98 -/
import Derived.Test.YtmmmkjhpmlfopaaGreatDoorSB07
import Derived.OrdersHeld
set_option maxHeartbeats 8000000
set_option maxRecDepth 100000
namespace Go.Proofs.YtmmmkjhpmlfopaaGreatDoor
open Go.RowKit
namespace BB
structure DPure (key : ByteArray) (ls : List (List Nd)) (rb : Nat) (rs : List Fr) (A : List Nd) (n : Nd) (C : List Nd) : Prop where
 all : ls = lvls rs ++ [A ++ n :: C]
 frs : Frs key (rb,⟨none,none⟩) rs
 good : Good (ctxR (rb,⟨none,none⟩) rs).all [A ++ n :: C]
 pos : (ctxR (rb,⟨none,none⟩) rs).SA.length = A.length
theorem DInv.pure {w : World} {t : Nat} {key : ByteArray} {ls : List (List Nd)} {rb : Nat} {W : World} {v : Value} {rs : List Fr} {A : List Nd} {n : Nd} {C : List Nd} (h : DInv w t key ls rb W v rs A n C []) : DPure key ls rb rs A n C:=⟨h.all,h.frs,h.good,h.pos⟩
def valL (key : ByteArray) (l : List It) : ByteArray:=if foundL key l then ((l[cntL key l]?).map It.val).getD ⟨#[]⟩ else ⟨#[]⟩
theorem link_at (_ls : List (List Nd)) (A C : List Nd) (n : Nd) (nx : Option Nat) : (n,hd C nx) ∈ linkN nx (A ++ n :: C):=by
 rw [linkN_append]
 exact List.mem_append_right _ (List.mem_cons_self ..)
theorem DPure.at_ {key : ByteArray} {ls : List (List Nd)} {rb : Nat} {rs : List Fr} {A : List Nd} {n : Nd} {C : List Nd} (h : DPure key ls rb rs A n C) : (n,hd C none) ∈ allX ls:=by
 rw [h.all,allX_append,allX_cons]
 exact List.mem_append_right _ (List.mem_append_left _ (link_at ls A C n none))
theorem get_any (w : World) (Z : Nat → Prop) (t m cnt rb : Nat) (key : ByteArray) (ls : List (List Nd)) (ht : TrAt w t m cnt rb) (hp : Hp w Z (allX ls)) (hg : Good [(rb,⟨none,none⟩)] ls) (hlen : ls.length ≤ 1000000) (hn : ∀ x ∈ allX ls,x.1.its.length ≤ 100000) (hv : ∀ rs A n C,DPure key ls rb rs A n C → ∀ y ∈ n.its,y.val.size ≤ 281474976710656) :
  Calls Tryz.prog 83 #[.pointer (some ⟨t,0,none⟩),.string key] w fun e w' => Below w.heap.size w w' ∧ ∃ rs A n C,DPure key ls rb rs A n C ∧ e = .returned (.tuple #[.string (valL key n.its),.bool (foundL key n.its)]):=by
 have HD : Hid (Calls Tryz.prog 117 #[.pointer (some ⟨t,0,none⟩),.string key] w (DescP w t key ls rb)):=descend_any w Z t rb key ls hp ht.c2 hg hlen hn
 have HW : Hid (Hp w Z (allX ls) ∧ (∀ x ∈ allX ls,x.1.its.length ≤ 100000) ∧ ∀ rs A n C,DPure key ls rb rs A n C → ∀ y ∈ n.its,y.val.size ≤ 281474976710656):=⟨hp,hn,hv⟩
 clear ht hp hg hn hv
 go_enter Tryz.func83,Tryz.ntmps83
 go_wp2_with fail
 refine HD.out.mono ?_
 rintro e w1 ⟨v,rs,A,n,C,rfl,hinv⟩
 have hpu:=hinv.pure
 have hmem:=hpu.at_
 have hnl:=HW.out.2.1 _ hmem
 have hnd : NdAt w1 n (hd C none):=(HW.out.1.at_ _ hmem).later hinv.below
 have HF : Hid (Calls Tryz.prog 118 #[.pointer (some ⟨n.b,0,none⟩),.string key] w1 fun e w' => e = .returned (.tuple #[.int .i64 (cntL key n.its : Int),.bool (foundL key n.its)]) ∧ Below w1.heap.size w1 w'):=find_any w1 n (hd C none) key hnd hinv.srt (by simp only at hnl; omega)
 have HP : Hid (DPure key ls rb rs A n C ∧ Below w.heap.size w w1 ∧ NdAt w1 n (hd C none) ∧ n.its.length ≤ 100000 ∧ (n,hd C none) ∈ allX ls):=⟨hpu,hinv.below,hnd,hnl,hmem⟩
 clear hinv hpu hmem hnl hnd
 obtain ⟨c,hc⟩:=Vx (cntL key n.its)
 obtain ⟨f,hf⟩:=Vx (foundL key n.its)
 have HC : Hid (cntL key n.its = c ∧ foundL key n.its = f):=⟨hc,hf⟩
 rw [hc,hf] at HF
 clear hc hf
 go_wp2_with fail
 refine HF.out.mono ?_
 rintro e w2 ⟨rfl,hb2⟩
 cases f with
 | false =>
  go_wp2
  refine bodyPost_ret (v:=.tuple #[.string ⟨#[]⟩,.bool false]) (by simp [results,Tryz.results83,go_sem]) rfl ?_
  refine ⟨below_two HP.out.2.1 hb2,rs,A,n,C,HP.out.1,?_⟩
  unfold valL
  rw [HC.out.2]
  rfl
 | true =>
  have hcl : c < n.its.length:=by
   have h1:=HC.out.2
   have h2:=cntL_le key n.its
   rw [HC.out.1] at h2
   rcases Nat.eq_or_lt_of_le h2 with e | e
   ·rw [foundL_no (by rw [HC.out.1]; exact e)] at h1; cases h1
   ·exact e
  have hnd:=HP.out.2.2.1.later hb2
  obtain ⟨g,cap,ev,_,_,_,hcc,_⟩:=irow_at hnd.row Om
  have c0:=hnd.nc.c0
  rw [ev] at c0
  have cv:=(hcc c hcl).2.1
  have hvs : (n.its[c]).val.size ≤ 281474976710656:=HW.out.2.2 _ _ _ _ HP.out.1 _ (List.getElem_mem hcl)
  obtain ⟨x,hx⟩:=Vx ((n.its[c]).val)
  rw [hx] at cv hvs
  have HX : Hid (n.its[c]? = some n.its[c] ∧ (n.its[c]).val = x):=⟨List.getElem?_eq_getElem hcl,hx⟩
  obtain ⟨nl,hnl⟩:=Vx n.its.length
  rw [hnl] at c0 hcl
  have hci : (c : Int) < (nl : Int):=by omega
  have HCL:=clone_any x w2 hvs
  have HB2 : Hid (Below w.heap.size w w2):=below_two HP.out.2.1 hb2
  clear hb2 hnd hcc ev hx hnl hvs
  go_wp2_with fail
  refine HCL.mono ?_
  rintro e w3 ⟨rfl,hb3⟩
  go_wp2
  refine bodyPost_ret (v:=.tuple #[.string x,.bool true]) (by simp [results,Tryz.results83,go_sem]) rfl ?_
  refine ⟨below_two HB2.out hb3,rs,A,n,C,HP.out.1,?_⟩
  unfold valL
  rw [HC.out.2,HC.out.1,HX.out.1]
  simp [HX.out.2]
theorem first_any (w : World) (Z : Nat → Prop) (t m cnt rb : Nat) (key : ByteArray) (ls : List (List Nd)) (ht : TrAt w t m cnt rb) (hp : Hp w Z (allX ls)) (hg : Good [(rb,⟨none,none⟩)] ls) (hlen : ls.length ≤ 1000000) (hn : ∀ x ∈ allX ls,x.1.its.length ≤ 100000) :
  Calls Tryz.prog 169 #[.pointer (some ⟨t,0,none⟩),.string key] w fun e w' => Below w.heap.size w w' ∧ ∃ rs A n C,DPure key ls rb rs A n C ∧ e = .returned (.tuple #[.pointer (if cntL key n.its < n.its.length then some ⟨n.b,0,none⟩ else pOf (hd C none)),.int .i64 (if cntL key n.its < n.its.length then (cntL key n.its : Int) else 0)]):=by
 have HD : Hid (Calls Tryz.prog 117 #[.pointer (some ⟨t,0,none⟩),.string key] w (DescP w t key ls rb)):=descend_any w Z t rb key ls hp ht.c2 hg hlen hn
 have HW : Hid (Hp w Z (allX ls) ∧ (∀ x ∈ allX ls,x.1.its.length ≤ 100000)):=⟨hp,hn⟩
 clear ht hp hg hn
 go_enter Tryz.func169,Tryz.ntmps169
 go_wp2_with fail
 refine HD.out.mono ?_
 rintro e w1 ⟨v,rs,A,n,C,rfl,hinv⟩
 have hpu:=hinv.pure
 have hmem:=hpu.at_
 have hnl : n.its.length ≤ 100000:=HW.out.2 _ hmem
 have hnd : NdAt w1 n (hd C none):=(HW.out.1.at_ _ hmem).later hinv.below
 have HF : Hid (Calls Tryz.prog 118 #[.pointer (some ⟨n.b,0,none⟩),.string key] w1 fun e w' => e = .returned (.tuple #[.int .i64 (cntL key n.its : Int),.bool (foundL key n.its)]) ∧ Below w1.heap.size w1 w'):=find_any w1 n (hd C none) key hnd hinv.srt Om
 have hcl:=cntL_le key n.its
 have HP : Hid (DPure key ls rb rs A n C ∧ Below w.heap.size w w1 ∧ ∀ w2,Below w1.heap.size w1 w2 → Calls Tryz.prog 171 #[.pointer (some ⟨n.b,0,none⟩),.int .i64 (cntL key n.its : Int)] w2 fun e w' => e = .returned (.tuple #[.pointer (if cntL key n.its < n.its.length then some ⟨n.b,0,none⟩ else pOf (hd C none)),.int .i64 (if cntL key n.its < n.its.length then (cntL key n.its : Int) else 0)]) ∧ w' = w2):=⟨hpu,hinv.below,fun w2 hb => spot_any w2 n (hd C none) (cntL key n.its) (hnd.later hb) Om Om⟩
 clear hinv hpu hmem hnl hnd hcl
 obtain ⟨q,hq⟩ : ∃ q : Option Addr,(if cntL key n.its < n.its.length then some ⟨n.b,0,none⟩ else pOf (hd C none)) = q:=⟨_,rfl⟩
 obtain ⟨j,hj⟩ : ∃ j : Int,(if cntL key n.its < n.its.length then (cntL key n.its : Int) else 0) = j:=⟨_,rfl⟩
 have HQ : Hid ((if cntL key n.its < n.its.length then some ⟨n.b,0,none⟩ else pOf (hd C none)) = q ∧ (if cntL key n.its < n.its.length then (cntL key n.its : Int) else 0) = j):=⟨hq,hj⟩
 rw [hq,hj] at HP
 clear hq hj
 obtain ⟨c,hc⟩:=Vx (cntL key n.its)
 rw [hc] at HF HP
 clear hc
 go_wp2_with fail
 refine HF.out.mono ?_
 rintro e w2 ⟨rfl,hb2⟩
 have HB2 : Hid (Below w1.heap.size w1 w2):=hb2
 clear hb2
 go_wp2_with fail
 refine (HP.out.2.2 w2 HB2.out).mono ?_
 rintro e w3 ⟨rfl,hw3⟩
 subst hw3
 go_wp2
 refine bodyPost_ret (v:=.tuple #[.pointer q,.int .i64 j]) (by simp [results,Tryz.results169,go_sem]) rfl ?_
 refine ⟨below_two HP.out.2.1 HB2.out,rs,A,n,C,HP.out.1,?_⟩
 rw [HQ.out.1,HQ.out.2]
section
open Go.RowKit Go.Shelf
attribute [local go_sem] Oper.semAt_some
theorem SM.par {w : World} {Z : Nat → Prop} {t m cnt rb : Nat} {key : ByteArray} {rs0 : List Fr} {its0 : List It} {W : World} {pre : List Fr} {f : Fr} {rest : List Fr} {A : List Nd} {n : Nd} {C : List Nd} {low : List (List Nd)} (h : SM w Z t m cnt rb key rs0 its0 W pre (f :: rest) A n C low) (hm : 4 ≤ m) : NdAt W f.n (hd f.C none) ∧ NdAt W n (hd C none) ∧ 2 ≤ f.n.its.length ∧ f.n.its.length ≤ m ∧ f.X.length < f.n.its.length ∧ ∀ hx : f.X.length < f.n.its.length,(f.n.its[f.X.length]'hx).kid = some n.b:=by
 have hw:=h.wf.1 f.n (by simp [Fr.lvl])
 have hl : f.X.length < f.n.its.length:=by rw [h.frs.2.its,Zla,List.length_cons]; omega
 have hk:=h.kid
 refine ⟨h.hp.at_ (f.n,hd f.C none) ?_,h.hp.at_ (n,hd C none) ?_,?_,hw.2,hl,fun hx => ?_⟩
 ·rw [lvls_cons,allX_append,allX_append,allX_cons]
  exact List.mem_append_left _ (List.mem_append_right _ (List.mem_append_left _ (link_at [] f.A f.C f.n none)))
 ·rw [allX_append,allX_cons]
  exact List.mem_append_right _ (List.mem_append_left _ (link_at [] A C n none))
 ·have h1:=hw.1
  have h2 : 4 ≤ m → 2 ≤ lowB m rest.isEmpty false:=fun h4 => by unfold lowB; cases rest.isEmpty <;> simp <;> omega
  have:=h2 hm
  omega
 ·have e : f.n.its[f.X.length]'hx = f.it:=by simp [h.frs.2.its]
  rw [e]
  exact hk
theorem shrink_any (w : World) (Z : Nat → Prop) (t m cnt rb : Nat) (key : ByteArray) (rs : List Fr) (its0 : List It) (v : Value) (B : Nat) (A : List Nd) (n : Nd) (C : List Nd) (hZ : ∀ k,w.heap.size ≤ k → Z k) (hm : 4 ≤ m) (hm2 : m ≤ 64) (hrow : w.ownsRow B 236 2 v rs.length (wc rs.reverse)) (hlen : rs.length ≤ 1000000) (hs : SM w Z t m cnt rb key rs its0 w [] rs A n C []) :
  Calls Tryz.prog 120 #[.pointer (some ⟨t,0,none⟩),v] w (GrowP w Z t m cnt its0):=by
 obtain ⟨p,cap,e,_⟩:=wrow_form hrow
 subst e
 have HG : Hid (SM w Z t m cnt rb key rs its0 w [] rs A n C []):=hs
 have HZ : Hid (∀ k,w.heap.size ≤ k → Z k):=hZ
 have HR : Hid (w.ownsRow B 236 2 (.slice p rs.length cap) rs.length (wc rs.reverse)):=hrow
 clear hs hZ hrow
 refine (callsIn_wide (n:=6)).1 ?_
 refine callsIn_of_wp_marks Tryz.func120 rfl trivial ?_ rfl
 simp only [Tryz.ntmps120,List.size_toArray,List.length_cons,List.length_nil,Nat.reduceAdd,Nat.reduceSub,Array.replicate_succ,Array.replicate_zero,List.push_toArray,List.append_toArray,List.nil_append,List.cons_append]
 gi_wp2_with (refine ⟨trivial,?_⟩; gi_at_call 156; refine (back_in _ _ trivial rfl _ _ _ _).mono ?_; rintro e w' ⟨rfl,rfl⟩)
 rename_i Qx Kx ax
 obtain ⟨W0,hW0⟩:=Vx ((w.alloc (Obj.cells #[.pointer (some ⟨t,0,none⟩)] 140)).alloc (Obj.cells #[.slice p rs.length cap] 189))
 have HB0 : Hid (Below w.heap.size w W0):=by
  rw [← hW0]
  exact ((Bxr _ w).alloc Zlr _).alloc Si _
 have h3 : W0.heap[w.heap.size]? = some (.cells #[.pointer (some ⟨t,0,none⟩)] 140 (0,0)):=by
  rw [← hW0]
  exact (Below.heap_alloc _ _ _ Si).trans (heap_alloc_new w _)
 have h5 : W0.heap[w.heap.size + 1]? = some (.cells #[.slice p rs.length cap] 189 (0,0)):=by
  rw [← hW0]
  have:=heap_alloc_new (w.alloc (Obj.cells #[.pointer (some ⟨t,0,none⟩)] 140)) (Obj.cells #[.slice p rs.length cap] 189)
  rwa [World.size_alloc] at this
 have hsz : W0.heap.size = w.heap.size + 1 + 1:=by rw [← hW0]; simp
 have hr0 : W0.ownsRow B 236 2 (.slice p rs.length cap) rs.length (wc rs.reverse):=own_kept HR.out fun k e => HB0.out.block _ (HR.out.lt k e).2
 have hgb : SB w Z t m cnt rb key rs its0 (.slice p rs.length cap) B [] W0:=⟨⟨rs,A,n,C,[],HG.out.later HB0.out⟩,h3,h5,hr0⟩
 rw [hW0]
 have hc5 : W0.cell? ⟨w.heap.size + 1,0,none⟩ = some (.slice p rs.length cap):=by simp [World.cell?,h5]
 refine wpIn_rangeV rfl Om (gf:=217) (lb:=#[.pointer (some ⟨w.heap.size + 1,0,none⟩)]) rfl trivial (enters_of Tryz.func217 Kr rfl)
  (back_stops Fence.wide (6 - 1) trivial rfl Om (w.heap.size + 1) B (.slice p rs.length cap) rs hlen W0 hc5 Om hr0)
  keepsW.trans
  (fun W l o o' hl ho hc => ⟨World.putObj_heap_other Om,fun k e => World.putObj_heap_other (fun e' => by have:=(hr0.lt k e).2; omega)⟩)
  (Bxr _ _) (fun _ => rfl)
  (SB w Z t m cnt rb key rs its0 (.slice p rs.length cap) B)
  (fun c _ W => c = .ret ∧ GrowP w Z t m cnt its0 (.returned (.tuple #[])) W)
  (SB.own HZ.out Om)
  (fun c => growP_own HZ.out Om c)
  hgb
  (fun x a' W => ∃ Bx,W.heap[Bx]? = some (Obj.cells #[.pointer (some ⟨x.2.n.b,0,none⟩),.int .i64 (x.2.X.length : Int)] 236 (0,0)) ∧ a' = { tmps:=#[.pointer (some ⟨t,0,none⟩),.slice p rs.length cap,.pointer (some ⟨w.heap.size,0,none⟩),undef,undef,.pointer (some ⟨Bx,0,none⟩),undef,.slice p rs.length cap,.func (.func 217) #[] #[.pointer (some ⟨w.heap.size + 1,0,none⟩)],.int .i64 (x.1 : Int),.agg #[.pointer (some ⟨x.2.n.b,0,none⟩),.int .i64 (x.2.X.length : Int)],undef,undef,undef,undef,undef,undef,undef,undef,undef,undef,undef,undef,undef,undef,undef,undef,undef,undef,undef,undef,undef,undef,undef,undef,undef,undef,undef,undef,undef,undef,undef,undef,undef,undef,undef,undef,undef,undef,undef,undef,undef,undef,undef,undef,undef,undef,undef,undef,undef,undef,undef,undef,undef,undef,undef,undef,undef,undef,undef,undef,undef],defers:=[] })
  (fun x a' _ X Y row hs hg hr => by
   obtain ⟨Bx,h1,h2⟩:=hs
   refine ⟨Bx,(hg.block Bx (Gx h1) fun e => ?_).trans h1,h2⟩
   obtain ⟨_,o,ho,hc⟩:=hr Bx e.symm
   rw [h1] at ho
   obtain rfl:=Option.some.inj ho
   cases hc)
  ?assign ?body ?done ?stop
 case assign =>
  rintro l pre x W K hi hV hK
  have HI : Hid (SB w Z t m cnt rb key rs its0 (.slice p rs.length cap) B pre W):=hi
  clear hi
  unfold encF
  gi_wp2
  have hb:=(Below.refl W.heap.size W).alloc Zlr (Obj.cells #[.pointer (some ⟨x.2.n.b,0,none⟩),.int .i64 (x.2.X.length : Int)] 236)
  exact hK _ _ (keepsFrom_below hb) (HI.out.keeps hb) (HI.out.later hb) ⟨W.heap.size,heap_alloc_new W _,rfl⟩
 case body =>
  rintro l pre x a' W hi ⟨Bx,hbx,rfl⟩ hV
  obtain ⟨rest',hrs',_⟩:=hV
  obtain ⟨rest,A,n,C,low,hsm⟩:=hi.sm
  obtain rfl : rest = x.2 :: rest':=List.append_cancel_left (hsm.rs.symm.trans hrs')
  obtain ⟨i,f⟩:=x
  dsimp only at hsm hbx ⊢
  obtain ⟨hndp,hndn,hp2,hpm,hxl,hkid⟩:=hsm.par hm
  obtain ⟨gp,capg,ev,_,_,_,hc,hfz⟩:=irow_at hndp.row Om
  have c0:=hndp.nc.c0
  rw [ev] at c0
  have ck:=(hc f.X.length hxl).2.2
  rw [hkid hxl,Option.map_some] at ck
  obtain ⟨pn,capn,en,_⟩:=irow_form hndn.row
  have cn:=hndn.nc.c0
  rw [en] at cn
  have cb3 : W.cell? ⟨w.heap.size,0,none⟩ = some (.pointer (some ⟨t,0,none⟩)):=by simp [World.cell?,hi.b3]
  have cx0 : W.cell? ⟨Bx,0,none⟩ = some (.pointer (some ⟨f.n.b,0,none⟩)):=by simp [World.cell?,hbx]
  have cx1 : W.cell? ⟨Bx,1,none⟩ = some (.int .i64 (f.X.length : Int)):=by simp [World.cell?,hbx]
  have ct0:=hsm.tr.c0
  have hnm:=hsm.si.wn.2
  obtain ⟨np,hnp⟩:=Vx f.n.its.length
  obtain ⟨nl,hnl⟩:=Vx n.its.length
  obtain ⟨bp,hbp⟩:=Vx f.n.b
  obtain ⟨bn,hbn⟩:=Vx n.b
  obtain ⟨xl,hxlq⟩:=Vx f.X.length
  have HSM : Hid (SM w Z t m cnt rb key rs its0 W (pre.map (·.2)) (f :: rest') A n C low):=hsm
  have HI : Hid (SB w Z t m cnt rb key rs its0 (.slice p rs.length cap) B pre W):=hi
  have HN : Hid (f.n.its.length = np ∧ n.its.length = nl ∧ f.n.b = bp ∧ n.b = bn ∧ f.X.length = xl ∧ W.heap[Bx]? = some (Obj.cells #[.pointer (some ⟨f.n.b,0,none⟩),.int .i64 (f.X.length : Int)] 236 (0,0))):=⟨hnp,hnl,hbp,hbn,hxlq,hbx⟩
  rw [hnp] at hpm hp2
  rw [hnp,hbp] at c0
  rw [hxlq,hbn] at ck
  rw [hnl,hbn] at cn
  rw [hxlq] at cx1
  rw [hbp] at cx0
  rw [hnl] at hnm
  rw [hnp,hxlq] at hxl
  rw [hxlq,hbp]
  have hxli : (xl : Int) < (np : Int):=by omega
  clear hi hsm hndp hndn hc hfz hbx ev en hrs' hkid hnp hnl hbp hbn hxlq h3 h5 hr0 hgb hc5 hW0
  have hmx : Tryz.prog.follows .mixedOrders = true:=by kernel_rfl
  clear ax HG HR HB0 hlen hsz
  by_cases hw : m / 2 ≤ nl
  ·have hwi : (m : Int) / 2 ≤ (nl : Int):=by omega
   gi_wp2
   refine region_quiet_round l rfl Kr Kr Kr ?_
   repeat (gi_big_quiet_step (fail))
   refine wpQuietIn_nil ?_
   rintro w' ⟨nq,rfl⟩
   gi_wp2
   have hb : Below W.heap.size W (W.drewN nq):=below_drewN (Bxr _ _) _
   exact ⟨keepsFrom_below hb,rfl,(HSM.out.later hb).fine (by show m / 2 ≤ _; rw [HN.out.2.1]; exact hw)⟩
  ·have hwi : ¬ (m : Int) / 2 ≤ (nl : Int):=by omega
   obtain ⟨U,u1,u2,V,A',n1,n2,C',hpk⟩:=SI.pick (f:=f) hm HSM.out.frs.2 HSM.out.si (by rw [HN.out.2.1]; omega) (by rw [HN.out.1]; exact hp2)
   obtain ⟨ul,hul⟩:=Vx U.length
   have hux : ul = xl - 1:=by rw [← hul,hpk.at_,HN.out.2.2.2.2.1]
   have hmax : max ((xl : Int) - 1) 0 = (ul : Int):=by omega
   clear hux
   have HPK : Hid (Pick m (ctxR (rb,⟨none,none⟩) rest') f (A ++ n :: C) U u1 u2 V A' n1 n2 C'):=hpk
   have HUL : Hid (U.length = ul):=hul
   obtain ⟨D,hD⟩:=Vx ((f.n,hd f.C none) :: (n1,some n2.b) :: (n2,hd C' none) :: SM.R f rest' A' C' n1 low)
   have HD : Hid ((f.n,hd f.C none) :: (n1,some n2.b) :: (n2,hd C' none) :: SM.R f rest' A' C' n1 low = D):=hD
   have HPD : Hid (Hp W Z D):=by rw [← hD]; exact HSM.out.three hpk
   have hkl1 : n1.its.length ≤ m:=hpk.w1
   have hkl2 : n2.its.length ≤ m:=hpk.w2
   have HJ : Hid (∀ k,Calls Tryz.prog 157 #[.pointer (some ⟨bp,0,none⟩),.int .i64 (ul : Int)] (W.drewN k) (JoinP (W.drewN k) (zd W D) f.n n1 n2 (hd f.C none) (hd C' none) (SM.R f rest' A' C' n1 low) ul)):=fun k => by
    have hh : Hp (W.drewN k) (zd W D) ((f.n,hd f.C none) :: (n1,some n2.b) :: (n2,hd C' none) :: SM.R f rest' A' C' n1 low):=by
     rw [HD.out]
     exact HPD.out.tight.later (below_drewN (Bxr _ _) _)
    have hil : U.length + 1 < f.n.its.length:=by rw [hpk.its]; simp
    have:=join_any (W.drewN k) (zd W D) f.n n1 n2 (hd f.C none) (some n2.b) (hd C' none) (SM.R f rest' A' C' n1 low) U.length hh (fun j hj => Or.inr hj) hil (by simp [hpk.its,hpk.k1]) (by simp [hpk.its,hpk.k2]) (by rw [HN.out.1]; omega) Om Om hpk.pos2
    rw [HN.out.2.2.1,hul] at this
    exact this
   clear hpk hul hD hkl1 hkl2
   gi_wp2
   refine region_quiet_round l rfl Kr Kr Kr ?_
   repeat (gi_big_quiet_step (fail))
   refine wpQuietIn_nil ?_
   rintro w' ⟨nq,rfl⟩
   have ex0 : (W.drewN nq).cell? ⟨Bx,0,none⟩ = some (.pointer (some ⟨bp,0,none⟩)):=cx0
   have ex1 : (W.drewN nq).cell? ⟨Bx,1,none⟩ = some (.int .i64 (xl : Int)):=cx1
   obtain ⟨W1,hW1⟩:=Vx (W.drewN nq)
   have HO1 : Hid (Only (zd W D) W W1):=by rw [← hW1]; exact Only.of (below_drewN (Bxr _ _) _)
   have HJ1:=HJ.out nq
   rw [hW1] at ex0 ex1 HJ1
   rw [hW1]
   have HJ2 : Hid (Calls Tryz.prog 157 #[.pointer (some ⟨bp,0,none⟩),.int .i64 (ul : Int)] W1 (JoinP W1 (zd W D) f.n n1 n2 (hd f.C none) (hd C' none) (SM.R f rest' A' C' n1 low) ul)):=HJ1
   clear hW1 HJ1 HJ c0 ck cn
   gi_wp2_with (refine ⟨trivial,?_⟩; gi_at_call 157; refine ((callsIn_wide.2 HJ2.out).inRound l).mono ?_; rintro e W2 hj; (have he:=hj.1); subst he)
   obtain ⟨_,hoj,v1,v2,hhj⟩:=hj
   have htk:=pick_take HPK.out
   rw [HUL.out] at htk
   rw [htk] at hhj
   have HO2 : Hid (Only (zd W D) W W2):=HO1.out.trans hoj
   have HP2 : Hid (Hp W2 (zd W D) ((⟨f.n.b,v1,U ++ u1 :: V⟩,hd f.C none) :: (⟨n1.b,v2,n1.its ++ n2.its⟩,hd C' none) :: SM.R f rest' A' C' n1 low)):=hhj
   have HPW : Hid (∀ j,W2.heap.size ≤ j → zd W D j):=fun j hj => Or.inr (Zlt HO2.out.size hj)
   clear hoj hhj htk ex0 ex1
   have hbxW : W.heap[Bx]? = some (Obj.cells #[.pointer (some ⟨f.n.b,0,none⟩),.int .i64 (f.X.length : Int)] 236 (0,0)):=HN.out.2.2.2.2.2
   have e3:=out_cell HPD.out HO2.out HI.out.b3 (by decide) (by decide) cb3
   have ex0:=out_cell HPD.out HO2.out hbxW (by decide) (by decide) cx0
   have et0:=out_cell HPD.out HO2.out HSM.out.tr.cells (by decide) (by decide) ct0
   have HFT : Hid (Calls Tryz.prog 158 #[.pointer (some ⟨bp,0,none⟩),.int .i64 (ul : Int),.int .i64 (m : Int)] W2.drew (FitP W2.drew (zd W D) ⟨f.n.b,v1,U ++ u1 :: V⟩ ⟨n1.b,v2,n1.its ++ n2.its⟩ (hd f.C none) (hd C' none) (SM.R f rest' A' C' n1 low) U.length m)):=by
    have hpl : (U ++ u1 :: V).length + 1 = np:=by rw [← HN.out.1,HPK.out.its]; simp; omega
    have:=fit_any W2.drew (zd W D) ⟨f.n.b,v1,U ++ u1 :: V⟩ ⟨n1.b,v2,n1.its ++ n2.its⟩ (hd f.C none) (hd C' none) (SM.R f rest' A' C' n1 low) U.length m (HP2.out.later (Bxr _ _).drew) (fun k hk => HPW.out k hk) Si (by simp [HPK.out.k1]) (by show (U ++ u1 :: V).length ≤ _; omega) (by show (n1.its ++ n2.its).length ≤ _; rw [Zla]; have:=HPK.out.w1; have:=HPK.out.w2; omega) Om
    rw [show (⟨f.n.b,v1,U ++ u1 :: V⟩ : Nd).b = bp from HN.out.2.2.1,HUL.out] at this
    rw [HUL.out,HN.out.2.2.1]
    exact this
   clear cx0 cx1 cb3 ct0 hbxW
   refine wpIn_some (FitP W2.drew (zd W D) ⟨f.n.b,v1,U ++ u1 :: V⟩ ⟨n1.b,v2,n1.its ++ n2.its⟩ (hd f.C none) (hd C' none) (SM.R f rest' A' C' n1 low) U.length m (.returned (.tuple #[]))) ?call ?after
   case call =>
    refine region_round l rfl Kr hmx ?_
    refine wpAnyIn_take (i:=0) rfl rfl Kr Kr Kr (fun _ _ _ h => h) ⟨.inl ⟨by rfl,by intro w; go_simp; all_goals with_reducible rfl⟩,fun _ => rfl⟩ ?_
    refine wpAnyIn_take (i:=2) rfl rfl Kr Kr Kr (fun _ _ _ h => h) ⟨.inl ⟨by rfl,by intro w; go_simp; all_goals with_reducible rfl⟩,fun _ => rfl⟩ ?_
    refine wpAnyIn_ready (rs:=[1,3]) Kr Si ?_
    refine AllReadyIn.cons rfl (fun K hK => ?_) ?_
    ·go_simp
     refine hK _ _ ?_
     clear hK K
     refine wpAnyIn_ready (rs:=[3]) Kr Si ?_
     refine AllReadyIn.cons rfl (fun K hK => ?_) ?_
     ·go_simp
      refine hK _ _ ?_
      clear hK K
      refine wpAnyIn_take (i:=4) rfl rfl Kr Kr Kr (fun _ _ _ h => h) ⟨.inl ⟨by rfl,by intro w; go_simp; all_goals with_reducible rfl⟩,fun _ => rfl⟩ ?_
      refine wpAnyIn_take (i:=5) rfl rfl Kr Kr Kr (fun _ _ _ h => h) ⟨.inl ⟨by rfl,by intro w; go_simp; all_goals with_reducible rfl⟩,fun _ => rfl⟩ ?_
      refine wpAnyIn_ready (rs:=[6]) Kr Si ?_
      refine AllReadyIn.cons rfl (fun K hK => ?_) ?_
      ·go_simp
       refine hK _ _ ?_
       clear hK K
       refine wpAnyIn_ready (rs:=[7]) Kr Si ?_
       refine AllReadyIn.cons rfl (fun K hK => ?_) ?_
       ·go_simp
        gi_wp2_with (refine ⟨trivial,?_⟩; gi_at_call 158; refine (callsIn_wide.2 HFT.out).mono ?_; rintro e w' hfp; (have he:=hfp.1); subst he)
        refine wpAnyIn_done Kr ?_ _
        exact ⟨rfl,by assumption⟩
       exact AllReadyIn.nil
      exact AllReadyIn.nil
     exact AllReadyIn.nil
    refine AllReadyIn.cons rfl (fun K hK => ?_) ?_
    ·go_simp
     refine hK _ _ ?_
     clear hK K
     refine wpAnyIn_take (i:=4) rfl rfl Kr Kr Kr (fun _ _ _ h => h) ⟨.inl ⟨by rfl,by intro w; go_simp; all_goals with_reducible rfl⟩,fun _ => rfl⟩ ?_
     refine wpAnyIn_take (i:=5) rfl rfl Kr Kr Kr (fun _ _ _ h => h) ⟨.inl ⟨by rfl,by intro w; go_simp; all_goals with_reducible rfl⟩,fun _ => rfl⟩ ?_
     refine wpAnyIn_ready (rs:=[1,6]) Kr Si ?_
     refine AllReadyIn.cons rfl (fun K hK => ?_) ?_
     ·go_simp
      refine hK _ _ ?_
      clear hK K
      refine wpAnyIn_ready (rs:=[6]) Kr Si ?_
      refine AllReadyIn.cons rfl (fun K hK => ?_) ?_
      ·go_simp
       refine hK _ _ ?_
       clear hK K
       refine wpAnyIn_ready (rs:=[7]) Kr Si ?_
       refine AllReadyIn.cons rfl (fun K hK => ?_) ?_
       ·go_simp
        gi_wp2_with (refine ⟨trivial,?_⟩; gi_at_call 158; refine (callsIn_wide.2 HFT.out).mono ?_; rintro e w' hfp; (have he:=hfp.1); subst he)
        refine wpAnyIn_done Kr ?_ _
        exact ⟨rfl,by assumption⟩
       exact AllReadyIn.nil
      exact AllReadyIn.nil
     refine AllReadyIn.cons rfl (fun K hK => ?_) ?_
     ·go_simp
      refine hK _ _ ?_
      clear hK K
      refine wpAnyIn_ready (rs:=[1]) Kr Si ?_
      refine AllReadyIn.cons rfl (fun K hK => ?_) ?_
      ·go_simp
       refine hK _ _ ?_
       clear hK K
       refine wpAnyIn_ready (rs:=[7]) Kr Si ?_
       refine AllReadyIn.cons rfl (fun K hK => ?_) ?_
       ·go_simp
        gi_wp2_with (refine ⟨trivial,?_⟩; gi_at_call 158; refine (callsIn_wide.2 HFT.out).mono ?_; rintro e w' hfp; (have he:=hfp.1); subst he)
        refine wpAnyIn_done Kr ?_ _
        exact ⟨rfl,by assumption⟩
       exact AllReadyIn.nil
      exact AllReadyIn.nil
     exact AllReadyIn.nil
    exact AllReadyIn.nil
   case after =>
    intro a2 W3 hfp
    have hd1 : Only (zd W D) W W2.drew:=HO2.out.drew
    obtain ⟨_,ho2,A2,n3,C2,low2,hsm'⟩:=HSM.out.next HPK.out HZ.out hm HD.out.symm hd1 (HSM.out.tr.out HPD.out) hfp
    exact HI.out.round HPD.out ho2 hsm'
 case done =>
  rintro D ys W hD hS hi hK
  obtain ⟨rest,A,n,C,low,hsm⟩:=hi.sm
  rw [hS] at hsm
  obtain rfl:=hsm.rest_nil
  obtain ⟨rfl,rfl,hnb⟩:=hsm.top
  have hnd : NdAt W n none:=hsm.hp.at_ (n,none) (by simp [lvls,allX,linkN,hd])
  have hwn:=hsm.si.wn
  have hlf:=hsm.leaf
  have HLF:=leaf_any W n none hnd Om
  rw [hnb] at HLF
  obtain ⟨pn,capn,en,_⟩:=irow_form hnd.row
  have c0:=hnd.nc.c0
  rw [en,hnb] at c0
  have cb3 : W.cell? ⟨w.heap.size,0,none⟩ = some (.pointer (some ⟨t,0,none⟩)):=by simp [World.cell?,hi.b3]
  have ct2:=hsm.tr.c2
  have HSM : Hid (SM w Z t m cnt rb key rs its0 W rs [] [] n [] low):=hsm
  have HI : Hid (SB w Z t m cnt rb key rs its0 (.slice p rs.length cap) B ys W):=hi
  have HND : Hid (NdAt W n none):=hnd
  obtain ⟨nl,hnlq⟩:=Vx n.its.length
  have HNL : Hid (n.its.length = nl ∧ n.b = rb):=⟨hnlq,hnb⟩
  rw [hnlq] at c0 hwn
  have HZD : Hid (Z D):=HZ.out D Om
  clear hsm hi hnd en hnb hnlq h3 h5 hr0 hgb hc5 hW0 hS
  have hmx : Tryz.prog.follows .mixedOrders = true:=by kernel_rfl
  cases low with
  | nil =>
   rw [hlf.2 rfl] at HLF
   have HL2 : Hid (Calls Tryz.prog 152 #[.pointer (some ⟨rb,0,none⟩)] W fun e w' => e = .returned (.bool true) ∧ w' = W):=HLF
   clear HLF hlf hwn
   gi_wp2_with (refine ⟨trivial,?_⟩; gi_at_call 152; refine (callsIn_wide.2 HL2.out).mono ?_; rintro e w' ⟨rfl,hwe⟩; (have hwe2:=hwe.symm); clear hwe; subst hwe2)
   refine ⟨by simp,.inl ⟨_,_,rfl,run_takeDeferred hK,?_⟩⟩
   refine ⟨_,results_none rfl _ _ _,?_⟩
   exact (HSM.out.fine (Nat.zero_le _)).put HZD.out hK rfl _
  | cons M r =>
   obtain ⟨kb,hkb⟩ : ∃ kb,kid0 n.its = some kb:=Option.ne_none_iff_exists'.1 fun e => by have:=hlf.1 e; cases this
   rw [hkb] at HLF
   have HL2 : Hid (Calls Tryz.prog 152 #[.pointer (some ⟨rb,0,none⟩)] W fun e w' => e = .returned (.bool false) ∧ w' = W):=HLF
   have HKB : Hid (kid0 n.its = some kb):=hkb
   have hwn2 : 2 ≤ nl + 1:=hwn.1
   clear HLF hlf hkb hwn
   by_cases h1 : nl = 1
   ·have h1i : (nl : Int) = 1:=by omega
    subst h1
    have ctf:=HSM.out.tr.fz 2
    have HFK : Hid (∀ W',Below W.heap.size W W' → Calls Tryz.prog 159 #[.pointer (some ⟨rb,0,none⟩)] W' fun e w' => e = .returned (.pointer (some ⟨kb,0,none⟩)) ∧ w' = W'):=fun W' hb => by
     have:=firstKid_any W' n none (HND.out.later hb) (by have:=HNL.out; omega)
     rw [HNL.out.2,HKB.out] at this
     exact this
    gi_wp2_with (refine ⟨trivial,?_⟩; gi_at_call 152; refine (callsIn_wide.2 HL2.out).mono ?_; rintro e w' ⟨rfl,hwe⟩; (have hwe2:=hwe.symm); clear hwe; subst hwe2)
    apply wpIn_once
    case h =>
     gi_region_with_o (refine ⟨trivial,?_⟩; gi_at_call 159; refine (callsIn_wide.2 (HFK.out _ ((Bxr _ _).drew))).mono ?_; rintro e w' ⟨rfl,hwe⟩; (have hwe2:=hwe.symm); clear hwe; subst hwe2)
     all_goals exact ⟨rfl,rfl⟩
    case k =>
     gi_wp2
     obtain ⟨x,hx⟩ : ∃ x,n.its = [x]:=by
      have hl:=HNL.out.1
      match hi : n.its,hl with
      | [x],_ => exact ⟨x,rfl⟩
     have hkx : x.kid = some kb:=by
      have:=HKB.out
      rw [hx] at this
      exact this
     have hg : GrowP w Z t m cnt its0 (.returned (.tuple #[])) (W.setCell ⟨t,2,none⟩ (.pointer (some ⟨kb,0,none⟩))).drew:=(HSM.out.later (W':=W.drew) (Bxr _ _).drew).root1 hm hx hkx _ rfl
     have hK2 : (W.setCell ⟨t,2,none⟩ (.pointer (some ⟨kb,0,none⟩))).drew.heap[D]? = some (.deferred (some [])):=by
      refine Eq.trans (Below.heap_setCell _ _ _ _ fun e => ?_) hK
      have e2 : D = t:=e
      rw [e2,HSM.out.tr.cells] at hK
      cases hK
     refine ⟨by simp,.inl ⟨_,_,rfl,run_takeDeferred hK2,?_⟩⟩
     refine ⟨_,results_none rfl _ _ _,?_⟩
     exact hg.put HZD.out hK2 rfl _
   ·have h1i : ¬ (nl : Int) = 1:=by omega
    gi_wp2_with (refine ⟨trivial,?_⟩; gi_at_call 152; refine (callsIn_wide.2 HL2.out).mono ?_; rintro e w' ⟨rfl,hwe⟩; (have hwe2:=hwe.symm); clear hwe; subst hwe2)
    refine ⟨by simp,.inl ⟨_,_,rfl,run_takeDeferred hK,?_⟩⟩
    refine ⟨_,results_none rfl _ _ _,?_⟩
    exact (HSM.out.fine (by show 2 ≤ _; rw [HNL.out.1]; omega)).put HZD.out hK rfl _
 case stop =>
  rintro D c pre W hD hS ⟨rfl,h⟩ hK
  gi_wp2
  refine ⟨by simp,.inl ⟨_,_,rfl,run_takeDeferred hK,?_⟩⟩
  refine ⟨_,results_none rfl _ _ _,?_⟩
  exact h.put (HZ.out D Om) hK rfl _
end
section
section
variable {n : Nat} {P : Program} {md : Region.Mode} {ops : Array Oper} {Q : Exit → Act → World → Prop} {S : World → Prop}
theorem op_wide (hl : ¬ LetsOut Q) {i : Nat} {K : Act → World → Prop} {a : Act} {w : World} (h : wpOp P ops Q i K a w) : wpOpIn Fence.wide n P ops Q i K a w:=by
 unfold wpOp at h
 unfold wpOpIn
 split
 ·rename_i he
  simpa [he] using h
 ·rename_i o ho
  simp only [ho] at h
  split
  ·rename_i hw
   simp only [hw,if_true] at h
   rcases h with h | ⟨_,h⟩
   ·refine ⟨fun _ _ => trivial,?_⟩
    unfold Oper.wp at h
    have e : o.semAt Fence.wide.round a.eval = execOp a.eval o:=Oper.semAt_none a.eval o
    rw [e]
    revert h
    generalize Sem.run P (execOp a.eval o) w = r
    intro h
    cases r with
    | ok x w' =>
     cases x with
     | enter f args => exact ⟨fun q => absurd q (by simp [Fence.wide]),callsIn_wide.2 (h.mono fun e _ he => by cases e <;> exact he)⟩
     | row r args => exact ⟨fun q => absurd q (by simp [Fence.wide]),fun c cs _ => let ⟨v,w2,q,s⟩:=h c cs; ⟨v,w2,q,stepsIn_wide.2 s⟩⟩
     | round l f t b c => exact h.elim
     | _ => exact h
    | halt x w' => cases x <;> exact h
   ·exact absurd h hl
  ·rename_i hw
   simp only [hw] at h
   exact ⟨fun _ _ => trivial,h⟩
theorem any_wide (hl : ¬ LetsOut Q) : ∀ (fuel : Nat) (listed : Array Bool) (a : Act) (w : World),wpAny P md ops Q fuel listed a w → wpAnyIn Fence.wide n P md ops Q fuel listed a w
 | 0,_,_,_,h => h
 | fuel + 1,listed,_,_,h => ⟨h.1,fun i hi => op_wide hl (wpOp_mono (fun a w hk => any_wide hl fuel (listed.setIfInBounds i true) a w hk) (h.2 i hi))⟩
theorem held_round (S : World → Prop) (l : Nat) (h : noDefer ops = true) {id : Nat} {a : Act} {w : World} (hm : P.follows .mixedOrders = true) (hl : ¬ LetsOut Q) (hh : wpAnyH P .any ops Q S ops.size (Array.replicate ops.size false) a w.drew) : (Code.region id ops true).wpIn (Fence.wide.inRound l) n P Q a w:=region_round l rfl h hm (any_wide hl _ _ _ _ (wpAny_of_held _ _ _ _ hh))
theorem held_take (i : Nat) {oi : Oper} {v : Value} {fuel : Nat} {listed : Array Bool} {a : Act} {w : World} (hi : ops[i]? = some oi) (hc : (Region.noSelect ops && Region.free md ops listed i && (Region.ready md ops listed).contains i && Region.wanted oi (yielded ops a.tmps)) = true) (hQ : ∀ c a w,Q (.panic c) (a.put oi.dst v) w → Q (.panic c) a w) (hS : S w) (hy : ∀ w,S w → (execOp a.eval oi).run P w = .ok (.value v) w) (h : wpAnyH P md ops Q S fuel (listed.setIfInBounds i true) (a.put oi.dst v) w) : wpAnyH P md ops Q S (fuel + 1) listed a w:=by
 simp only [Bool.and_eq_true] at hc
 exact wpAnyH_take hi hc.1.1.1 hc.1.1.2 hc.1.2 hQ (Or.inl ⟨hc.2,hy⟩) hS h
theorem held_one (i : Nat) {o : Oper} {fuel : Nat} {listed : Array Bool} {a : Act} {w : World} (ho : ops[i]? = some o) (hr : Region.ready md ops listed = [i]) (hw : Region.wanted o (yielded ops a.tmps) = true) (h : ∀ K : Act → World → Prop,(∀ a w,S w → wpAnyH P md ops Q S fuel (listed.setIfInBounds i true) a w → K a w) → o.wp P a w K Q) : wpAnyH P md ops Q S (fuel + 1) listed a w:=by
 refine wpAnyH_all hr Si fun j hj => ?_
 rw [Zms hj]
 unfold wpOp
 simp only [ho,hw,if_true]
 exact Or.inl (h _ fun _ _ h1 h2 => ⟨h1,h2⟩)
theorem held_op {i : Nat} {o : Oper} {fuel : Nat} {listed : Array Bool} {a : Act} {w : World} (ho : ops[i]? = some o) (hw : Region.wanted o (yielded ops a.tmps) = true) (h : ∀ K : Act → World → Prop,(∀ a w,S w → wpAnyH P md ops Q S fuel (listed.setIfInBounds i true) a w → K a w) → o.wp P a w K Q) : wpOp P ops Q i (fun a' w' => S w' ∧ wpAnyH P md ops Q S fuel (listed.setIfInBounds i true) a' w') a w:=by
 unfold wpOp
 simp only [ho,hw,if_true]
 exact Or.inl (h _ fun _ _ h1 h2 => ⟨h1,h2⟩)
theorem wp_append_run {o : Oper} {a : Act} {w : World} {K : Act → World → Prop} (s x : Operand) (t : TypeId) (hop : o.op = Op.call { callee:=Callee.builtin Builtin.append,args:=#[s,x],argTypes:=#[t,t] }) {v v2 v3 : Value} {w6 : World} (hs : a.eval s = v) (hx : a.eval x = v2) (hrun : (Builtin.append_ #[t,t] o.type #[v,v2]).run P w = .ok v3 w6) (hk : K (a.put o.dst v3) w6) : o.wp P a w K Q:=by
 unfold Oper.wp
 simp [execOp,hop,resolve,invoke,builtin,hs,hx,hrun,Result.andThen]
 exact hk
end
end
end BB
end Go.Proofs.YtmmmkjhpmlfopaaGreatDoor
