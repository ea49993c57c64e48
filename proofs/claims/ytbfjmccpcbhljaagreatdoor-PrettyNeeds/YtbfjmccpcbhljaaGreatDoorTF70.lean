/- F70 -/
import Derived.Test.YtbfjmccpcbhljaaGreatDoorTF0
import Derived.Test.YtbfjmccpcbhljaaGreatDoorTA90
set_option maxRecDepth 100000
namespace Go.Proofs.YtbfjmccpcbhljaaGreatDoor
open Go.ChangeShapes Go.WideShapes Go.ChangeAt Go.WideMaps Go.WideElems Go.RowKit
open Go.ChangeMaps (open_string shut_string)
theorem Tryz.c11s : Tryz.prog.cellsOf 9 = 1:=by kernel_rfl

theorem Tryz.c11i : Tryz.prog.cellsOf 3 = 1:=by kernel_rfl

theorem Tryz.c11b : Tryz.prog.cellsOf 4 = 1:=by kernel_rfl

theorem Tryz.c11v : Tryz.prog.cellsOf 47 = 3:=by kernel_rfl

theorem Tryz.c11x : Tryz.prog.cellsOf 49 = 9:=by kernel_rfl

theorem Tryz.c11xs : Tryz.prog.cellsOf 22 = 1:=by kernel_rfl

theorem Tryz.c11se : Tryz.prog.cellsOf 53 = 11:=by kernel_rfl

theorem Tryz.c11ses : Tryz.prog.cellsOf 23 = 1:=by kernel_rfl

theorem Tryz.c11so : Tryz.prog.cellsOf 70 = 3:=by kernel_rfl

theorem Tryz.c11sos : Tryz.prog.cellsOf 24 = 1:=by kernel_rfl

theorem Tryz.c11is : Tryz.prog.cellsOf 25 = 1:=by kernel_rfl

theorem Tryz.c11st : Tryz.prog.cellsOf 27 = 13:=by kernel_rfl

theorem add_lit70 (b off j : Nat) : (⟨b,off,none⟩ : Addr).add j = ⟨b,off + j,none⟩:=by unfold Addr.add; split <;> simp_all

theorem rows_of {α : Type} {H : Type} {enc : TypeId × Value → H} {W : World} {t e : TypeId} {c : Nat} {R : α → List Value → Prop} (hu : Tryz.prog.underlying t = some (.slice e)) (hc : Tryz.prog.cellsOf e = c) (hpos : 0 < c) {fuel : Nat} {cs : List Value} {d : DataW H × List MemPlace} (hf : DataW.trod enc Tryz.prog W 0 (fun _ => true) true fuel t cs = some d)
  (h : ∀ (n : Nat) (cs' : List Value) (d' : DataW H × List MemPlace),SizeOf.sizeOf d'.1 < SizeOf.sizeOf d.1 → DataW.trod enc Tryz.prog W 0 (fun _ => true) true n e cs' = some d' → ∃ x,R x cs') :
  ∃ (l : List α) (p : Option Addr) (cap : Nat),cs = [.slice p l.length cap] ∧ l.length ≤ cap ∧ cap ≤ maxLen ∧ ∀ i (h : i < l.length),∃ b off vs,p = some ⟨b,off,none⟩ ∧ R l[i] vs ∧ vs.length = c ∧ ∀ j u,vs[j]? = some u → W.cell? ⟨b,off + i * c + j,none⟩ = some u:=by
 rcases Deep.open_slice hu hf with ⟨rfl,rfl⟩ | ⟨x,len,cap,m,n,D,Pl,rfl,_,hlc,hcm,hm,rfl,hel⟩
 ·exact ⟨[],none,0,rfl,Nat.le_refl _,Nat.zero_le _,fun i h => absurd h (Nat.not_lt_zero _)⟩
 ·simp only [if_true] at hm
  subst hm
  have hone : ∀ i : Fin len,∃ u : α,∃ vs,R u vs ∧ vs.length = c ∧ ∀ j u',vs[j]? = some u' → W.cell? ((x.add (i.val * c)).add j) = some u':=by
   intro i
   obtain ⟨cs',hcs,ht⟩:=hel i.val (by omega)
   rw [hc] at hcs
   obtain ⟨_,hl,hg⟩:=World.cells?_some hcs
   have hlt : SizeOf.sizeOf (D i.val) < SizeOf.sizeOf (DataW.slice ((List.range len).map D) ((List.range (m - len)).map fun j => D (len + j))):=by
    have h1 : SizeOf.sizeOf (D i.val) < SizeOf.sizeOf ((List.range len).map D):=List.sizeOf_lt_of_mem (List.mem_map.2 ⟨i.val,List.mem_range.2 i.isLt,rfl⟩)
    simp only [DataW.slice.sizeOf_spec]
    omega
   obtain ⟨u,hR⟩:=h n cs' _ hlt ht
   refine ⟨u,cs',hR,hl,fun j u' hu' => ?_⟩
   have hj : j < cs'.length:=(List.getElem?_eq_some_iff.1 hu').1
   rw [hg j (by omega)]
   exact hu'
  refine ⟨List.ofFn fun i : Fin len => Classical.choose (hone i),some x,m,by simp,by simpa using hlc,hcm,?_⟩
  intro i hi
  have hi' : i < len:=by simpa using hi
  obtain ⟨vs,h1,h2,h3⟩:=Classical.choose_spec (hone ⟨i,hi'⟩)
  obtain ⟨b,off,spot⟩:=x
  have hspot : spot = none:=by
   obtain ⟨vs0,_,g2,g3⟩:=Classical.choose_spec (hone ⟨0,by omega⟩)
   have h0:=g3 0 vs0[0] (List.getElem?_eq_getElem (by omega))
   simpa [Addr.add] using World.cell?_spot h0
  subst hspot
  refine ⟨b,off,vs,rfl,by simpa using h1,h2,fun j u hu => ?_⟩
  have:=h3 j u hu
  rwa [add_lit70,add_lit70] at this

theorem maxLen_le {n c : Nat} (h : n ≤ c) (k : c ≤ maxLen) : n ≤ 9223372036854775807:=by unfold maxLen at k; omega

theorem open_xs {H : Type} {enc : TypeId × Value → H} {W : World} {fuel : Nat} {cs : List Value} {d : DataW H × List MemPlace} (hf : DataW.trod enc Tryz.prog W 0 (fun _ => true) true fuel 22 cs = some d)
  (h : ∀ (n : Nat) (cs' : List Value) (d' : DataW H × List MemPlace),SizeOf.sizeOf d'.1 < SizeOf.sizeOf d.1 → DataW.trod enc Tryz.prog W 0 (fun _ => true) true n 49 cs' = some d' → ∃ e k,cs' = exC e k ∧ XR W e k) :
  ∃ (l : List Ex) (p : Option Addr) (cap : Nat),cs = [.slice p l.length cap] ∧ XLR W l (.slice p l.length cap):=by
 obtain ⟨l,p,cap,rfl,h1,h2,h3⟩:=rows_of (R:=fun (x : Ex × Value) vs => vs = exC x.1 x.2 ∧ XR W x.1 x.2) Tryz.underlying22 Tryz.c11x (by decide) hf (fun n cs' d' hs ht => by
  obtain ⟨e,k,h4,h5⟩:=h n cs' d' hs ht
  exact ⟨(e,k),h4,h5⟩)
 refine ⟨l.map Prod.fst,p,cap,by rw [List.length_map],p,cap,l.map Prod.snd,rfl,by rw [List.length_map]; exact h1,by rw [List.length_map]; exact maxLen_le h1 h2,by simp,fun i hi hi' => ?_,fun i hi hi' => ?_⟩
 ·obtain ⟨b,off,vs,e,⟨rfl,_⟩,_,h4⟩:=h3 i (by simpa using hi)
  exact ⟨b,off,e,fun j u hu => h4 j u (by simpa using hu)⟩
 ·obtain ⟨b,off,vs,e,⟨_,h5⟩,_,_⟩:=h3 i (by simpa using hi)
  simpa using h5

theorem open_ex {H : Type} {enc : TypeId × Value → H} {W : World} : ∀ (N fuel : Nat) (cs : List Value) (d : DataW H × List MemPlace),SizeOf.sizeOf d.1 ≤ N → DataW.trod enc Tryz.prog W 0 (fun _ => true) true fuel 49 cs = some d → ∃ e k,cs = exC e k ∧ XR W e k:=by
 intro N
 induction N with
 | zero =>
  intro fuel cs d hs hf
  obtain ⟨xs,q,_,rfl,hl,hlen,hfd⟩:=DataW.trod_struct Tryz.underlying49 hf
  simp only [DataW.agg.sizeOf_spec] at hs
  omega
 | succ N ih =>
  intro fuel cs d hs hf
  obtain ⟨xs,q,_,rfl,hl,hlen,hfd⟩:=DataW.trod_struct Tryz.underlying49 hf
  rw [Tryz.c11x] at hl
  match cs,hl,xs,hlen with
  | [c0,c1,c2,c3,c4,c5,c6,c7,c8],_,[y0,y1,y2,y3,y4,y5,y6],_ =>
   have t0:=hfd 0 _ rfl
   have t1:=hfd 1 _ rfl
   have t2:=hfd 2 _ rfl
   have t3:=hfd 3 _ rfl
   have t4:=hfd 4 _ rfl
   have t5:=hfd 5 _ rfl
   have t6:=hfd 6 _ rfl
   simp [Tryz.c11s,Tryz.c11i,Tryz.c11v,Tryz.c11xs] at t0 t1 t2 t3 t4 t5 t6
   obtain ⟨k,e0,_,_⟩:=DataW.trod_int Tryz.underlying3 t0
   obtain ⟨op,e1,_,_⟩:=DataW.trod_int Tryz.underlying3 t1
   obtain ⟨zs,q2,_,_,hl2,hlen2,hfd2⟩:=DataW.trod_struct Tryz.underlying47 t2
   match zs,hlen2 with
   | [z0,z1,z2],_ =>
    have u0:=hfd2 0 _ rfl
    have u1:=hfd2 1 _ rfl
    have u2:=hfd2 2 _ rfl
    simp [Tryz.c11s,Tryz.c11i] at u0 u1 u2
    obtain ⟨v1,f0,_,_⟩:=DataW.trod_int Tryz.underlying3 u0
    obtain ⟨v2,f1,_,_⟩:=DataW.trod_int Tryz.underlying3 u1
    obtain ⟨v3,f2,_,_⟩:=DataW.trod_string Tryz.underlying9 u2
    obtain ⟨tt,e3,_,_⟩:=DataW.trod_string Tryz.underlying9 t3
    obtain ⟨nn,e4,_,_⟩:=DataW.trod_string Tryz.underlying9 t4
    obtain ⟨pp,e6,_,_⟩:=DataW.trod_int Tryz.underlying3 t6
    have hsz : SizeOf.sizeOf y5.1 < SizeOf.sizeOf (DataW.agg ([y0,y1,y2,y3,y4,y5,y6].map (·.1))):=by
     simp only [List.map_cons,List.map_nil,DataW.agg.sizeOf_spec,List.cons.sizeOf_spec]
     omega
    obtain ⟨l,p,cap,e5,hx⟩:=open_xs t5 (fun n cs' d' hd ht => ih n cs' d' (by simp only at hs; omega) ht)
    simp at e0 e1 f0 f1 f2 e3 e4 e5 e6
    subst e0 e1 f0 f1 f2 e3 e4 e5 e6
    refine ⟨.mk k op (v1,v2,v3) tt nn l pp,.slice p l.length cap,rfl,?_⟩
    obtain ⟨p',c',ks,e,g1,g2,g3,g4,g5⟩:=hx
    injection e with ea _ ec
    subst ea ec
    exact XR.mk ks g3 g1 g2 g4 g5

theorem open_xs' {H : Type} {enc : TypeId × Value → H} {W : World} {fuel : Nat} {cs : List Value} {d : DataW H × List MemPlace} (hf : DataW.trod enc Tryz.prog W 0 (fun _ => true) true fuel 22 cs = some d) : ∃ (l : List Ex) (p : Option Addr) (cap : Nat),cs = [.slice p l.length cap] ∧ XLR W l (.slice p l.length cap):=open_xs hf fun n cs' d' _ ht => open_ex _ n cs' d' (Nat.le_refl _) ht

theorem open_ses {H : Type} {enc : TypeId × Value → H} {W : World} {fuel : Nat} {cs : List Value} {d : DataW H × List MemPlace} (hf : DataW.trod enc Tryz.prog W 0 (fun _ => true) true fuel 23 cs = some d) : ∃ (l : List Se) (p : Option Addr) (cap : Nat),cs = [.slice p l.length cap] ∧ SLR W l (.slice p l.length cap):=by
 obtain ⟨l,p,cap,rfl,h1,h2,h3⟩:=rows_of (R:=fun (x : Se × Value) vs => vs = seC x.1 x.2 ∧ XR W x.1.2.1 x.2) Tryz.underlying23 Tryz.c11se (by decide) hf (fun n cs' d' _ ht => by
  obtain ⟨xs,q,_,_,hl,hlen,hfd⟩:=DataW.trod_struct Tryz.underlying53 ht
  rw [Tryz.c11se] at hl
  match cs',hl,xs,hlen with
  | [c0,c1,c2,c3,c4,c5,c6,c7,c8,c9,c10],_,[y0,y1,y2],_ =>
   have t0:=hfd 0 _ rfl
   have t1:=hfd 1 _ rfl
   have t2:=hfd 2 _ rfl
   simp [Tryz.c11s,Tryz.c11i,Tryz.c11x] at t0 t1 t2
   obtain ⟨nm,e0,_,_⟩:=DataW.trod_string Tryz.underlying9 t0
   obtain ⟨e,k,e1,hx⟩:=open_ex _ _ _ _ (Nat.le_refl _) t1
   obtain ⟨pl,e2,_,_⟩:=DataW.trod_int Tryz.underlying3 t2
   simp at e0 e2
   subst e0 e2
   refine ⟨((nm,e,pl),k),?_,hx⟩
   show _ :: ([c1,c2,c3,c4,c5,c6,c7,c8,c9] ++ [_]) = _
   rw [e1]
   simp [seC])
 refine ⟨l.map Prod.fst,p,cap,by rw [List.length_map],p,cap,l.map Prod.snd,rfl,by rw [List.length_map]; exact h1,by rw [List.length_map]; exact maxLen_le h1 h2,by simp,fun i hi hi' => ?_,fun i hi hi' => ?_⟩
 ·obtain ⟨b,off,vs,e,⟨rfl,_⟩,_,h4⟩:=h3 i (by simpa using hi)
  exact ⟨b,off,e,fun j u hu => h4 j u (by simpa using hu)⟩
 ·obtain ⟨b,off,vs,e,⟨_,h5⟩,_,_⟩:=h3 i (by simpa using hi)
  simpa using h5

theorem open_sos {H : Type} {enc : TypeId × Value → H} {W : World} {fuel : Nat} {cs : List Value} {d : DataW H × List MemPlace} (hf : DataW.trod enc Tryz.prog W 0 (fun _ => true) true fuel 24 cs = some d) : ∃ (l : List So) (p : Option Addr) (cap : Nat),cs = [.slice p l.length cap] ∧ OLR W l (.slice p l.length cap):=by
 obtain ⟨l,p,cap,rfl,h1,h2,h3⟩:=rows_of (R:=fun (x : So) vs => vs = soC x) Tryz.underlying24 Tryz.c11so (by decide) hf (fun n cs' d' _ ht => by
  obtain ⟨xs,q,_,_,hl,hlen,hfd⟩:=DataW.trod_struct Tryz.underlying70 ht
  rw [Tryz.c11so] at hl
  match cs',hl,xs,hlen with
  | [c0,c1,c2],_,[y0,y1,y2],_ =>
   have t0:=hfd 0 _ rfl
   have t1:=hfd 1 _ rfl
   have t2:=hfd 2 _ rfl
   simp [Tryz.c11i,Tryz.c11b] at t0 t1 t2
   obtain ⟨it,e0,_,_⟩:=DataW.trod_int Tryz.underlying3 t0
   obtain ⟨b,e1,_⟩:=DataW.trod_bool Tryz.underlying4 t1
   obtain ⟨pl,e2,_,_⟩:=DataW.trod_int Tryz.underlying3 t2
   simp at e0 e1 e2
   subst e0 e1 e2
   exact ⟨(it,b,pl),rfl⟩)
 refine ⟨l,p,cap,rfl,p,cap,rfl,h1,maxLen_le h1 h2,fun i hi => ?_⟩
 obtain ⟨b,off,vs,e,rfl,_,h4⟩:=h3 i hi
 exact ⟨b,off,e,h4⟩

theorem open_is {H : Type} {enc : TypeId × Value → H} {W : World} {fuel : Nat} {cs : List Value} {d : DataW H × List MemPlace} (hf : DataW.trod enc Tryz.prog W 0 (fun _ => true) true fuel 25 cs = some d) : ∃ (l : List Int) (p : Option Addr) (cap : Nat),cs = [.slice p l.length cap] ∧ ILR W l (.slice p l.length cap):=by
 obtain ⟨l,p,cap,rfl,h1,h2,h3⟩:=rows_of (R:=fun (x : Int) vs => vs = [.int .i64 x]) Tryz.underlying25 Tryz.c11i (by decide) hf (fun n cs' d' _ ht => by
  obtain ⟨x,e,_,_⟩:=DataW.trod_int Tryz.underlying3 ht
  exact ⟨x,e⟩)
 refine ⟨l,p,cap,rfl,p,cap,rfl,h1,maxLen_le h1 h2,fun i hi => ?_⟩
 obtain ⟨b,off,vs,e,rfl,_,h4⟩:=h3 i hi
 exact ⟨b,off,e,by have:=h4 0 _ rfl; rwa [Nat.mul_one,Nat.add_zero] at this⟩

def StIn (W : World) (t : St) (v : Value) : Prop:=∃ a0 a1 a2 a3 a4 a5 a6 c0 c1 c2 c3 c4 c5 c6,v = .agg #[.int .i64 t.kind,.string t.table,.string t.join,.slice a0 t.on.length c0,.slice a1 t.whr.length c1,.slice a2 t.items.length c2,.bool t.star,.slice a3 t.sets.length c3,.slice a4 t.groups.length c4,.slice a5 t.sorts.length c5,.slice a6 t.limit.length c6,.int .i64 t.place,.int .i64 t.joinAt] ∧ StRA W t (.slice a0 t.on.length c0) (.slice a1 t.whr.length c1) (.slice a2 t.items.length c2) (.slice a3 t.sets.length c3) (.slice a4 t.groups.length c4) (.slice a5 t.sorts.length c5) (.slice a6 t.limit.length c6)

theorem open_stmt {H : Type} {enc : TypeId × Value → H} {W : World} {base : Nat} {v : Value} {d : DataW H} {p : List MemPlace} (hv : Value.okWide Tryz.prog W .any base 27 v) (h : DataW.Trod enc Tryz.prog W 0 (fun _ => true) true 27 v d p) : ∃ t : St,StIn W t v:=by
 obtain ⟨cs,rfl,_⟩:=okWide_struct Tryz.underlying27 hv
 obtain ⟨fuel,hf⟩:=h
 obtain ⟨l,rfl⟩ : ∃ l : List Value,cs = l.toArray:=⟨cs.toList,by simp⟩
 have hf' : DataW.trod enc Tryz.prog W 0 (fun _ => true) true fuel 27 l = some (d,p):=hf
 obtain ⟨xs,q,_,_,hl,hlen,hfd⟩:=DataW.trod_struct Tryz.underlying27 hf'
 rw [Tryz.c11st] at hl
 match l,hl,xs,hlen with
 | [c0,c1,c2,c3,c4,c5,c6,c7,c8,c9,c10,c11,c12],_,[y0,y1,y2,y3,y4,y5,y6,y7,y8,y9,y10,y11,y12],_ =>
  have t0:=hfd 0 _ rfl
  have t1:=hfd 1 _ rfl
  have t2:=hfd 2 _ rfl
  have t3:=hfd 3 _ rfl
  have t4:=hfd 4 _ rfl
  have t5:=hfd 5 _ rfl
  have t6:=hfd 6 _ rfl
  have t7:=hfd 7 _ rfl
  have t8:=hfd 8 _ rfl
  have t9:=hfd 9 _ rfl
  have t10:=hfd 10 _ rfl
  have t11:=hfd 11 _ rfl
  have t12:=hfd 12 _ rfl
  simp [Tryz.c11s,Tryz.c11i,Tryz.c11b,Tryz.c11xs,Tryz.c11ses,Tryz.c11sos,Tryz.c11is] at t0 t1 t2 t3 t4 t5 t6 t7 t8 t9 t10 t11 t12
  obtain ⟨n0,e0,_,_⟩:=DataW.trod_int Tryz.underlying3 t0
  obtain ⟨n1,e1,_,_⟩:=DataW.trod_string Tryz.underlying9 t1
  obtain ⟨n2,e2,_,_⟩:=DataW.trod_string Tryz.underlying9 t2
  obtain ⟨n3,p3,k3,e3,h3⟩:=open_xs' t3
  obtain ⟨n4,p4,k4,e4,h4⟩:=open_xs' t4
  obtain ⟨n5,p5,k5,e5,h5⟩:=open_xs' t5
  obtain ⟨n6,e6,_⟩:=DataW.trod_bool Tryz.underlying4 t6
  obtain ⟨n7,p7,k7,e7,h7⟩:=open_ses t7
  obtain ⟨n8,p8,k8,e8,h8⟩:=open_xs' t8
  obtain ⟨n9,p9,k9,e9,h9⟩:=open_sos t9
  obtain ⟨n10,p10,k10,e10,h10⟩:=open_is t10
  obtain ⟨n11,e11,_,_⟩:=DataW.trod_int Tryz.underlying3 t11
  obtain ⟨n12,e12,_,_⟩:=DataW.trod_int Tryz.underlying3 t12
  simp at e0 e1 e2 e3 e4 e5 e6 e7 e8 e9 e10 e11 e12
  subst e0 e1 e2 e3 e4 e5 e6 e7 e8 e9 e10 e11 e12
  exact ⟨⟨n0,n1,n2,n3,n4,n5,n6,n7,n8,n9,n10,n11,n12⟩,p3,p4,p5,p7,p8,p9,p10,k3,k4,k5,k7,k8,k9,k10,rfl,⟨⟨h3,h4,h5,h7,h8⟩,h9,h10⟩⟩
end Go.Proofs.YtbfjmccpcbhljaaGreatDoor
