/- A81 A82 A83 A85d -/
import Derived.Test.YtffalonhkemieaaGreatDoorSA78
import Derived.Defers
import Derived.Recover
set_option maxHeartbeats 8000000
set_option maxRecDepth 100000
namespace Go.Proofs.YtffalonhkemieaaGreatDoor
open Go.RowKit
inductive Out where
 | fault (c p : Int) : Out
 | st (t : St) : Out

def semi (s : PS) : PS:=if s.sees [59] = true then s.next else s

def outOf : Res St → Out
 | .bad p => .fault 110 p
 | .ok t s1 => if (semi s1).hd.1.1 = 1 then (if (semi s1).code = 0 then (if deepS t = true then .fault 111 t.place else .st t) else .fault (semi s1).code (semi s1).place) else .fault 110 (semi s1).hd.2

def SrcP (P : Nat) (s : PS) (w : World) (e : Ending) (w' : World) : Prop:=∃ r,stR s r ∧ Only (· = P) w w' ∧ match outOf r with
 | .fault c p => e = .panicked (wrongV c p)
 | .st t => ∃ v,e = .returned v ∧ StV w' w.heap.size t v

theorem src_bad {P : Nat} {s : PS} {w w' : World} {r : Res St} {c p : Int} (h : stR s r) (ho : Only (· = P) w w') (e : outOf r = .fault c p) : SrcP P s w (.panicked (wrongV c p)) w':=⟨r,h,ho,by rw [e]⟩

theorem src_ok {P : Nat} {s : PS} {w w' : World} {r : Res St} {t : St} {v : Value} (h : stR s r) (ho : Only (· = P) w w') (e : outOf r = .st t) (hv : StV w' w.heap.size t v) : SrcP P s w (.returned v) w':=⟨r,h,ho,by rw [e]; exact ⟨v,rfl,hv⟩⟩

theorem source_any (P : Nat) (s : PS) (w : World) (h : PA w P s) : Calls Tryz.prog 21 #[.pointer (some ⟨P,0,none⟩)] w (SrcP P s w):=by
 have HA:=Hd (Au.start h)
 have hPw:=h.lt
 have HLN : Hid (s.rest.length ≤ s.rest.length):=Nat.le_refl _
 have HG : Hid (∀ r,stR s r → stR s r):=fun r k => k
 clear h
 go_enter Tryz.func21,Tryz.ntmps21
 clear HG HLN
 obtain ⟨W1,hW1,HA⟩:=HA.out.pushE Vq 27
 go_wp2_with fail
 clear hW1
 refine (statement_pp P s _ HA.out.pa).mono ?_
 rintro e w2 ⟨r,hr,ho,hm⟩
 cases r with
 | bad p =>
  have HV:=Hd (src_bad hr (HA.out.only.trans ho) (c:=110) (p:=p) rfl)
  rw [hm]
  clear hm hr ho
  go_wp2
  exact ⟨rfl,HV.out⟩
 | ok t s1 =>
  obtain ⟨v,rfl,⟨a0,a1,a2,a3,a4,a5,a6,c0,c1,c2,c3,c4,c5,c6,rfl,hx⟩,hp,hl⟩:=hm
  have HR:=Hd hr
  replace HA:=Hd (HA.out.gain ho hp (fun W => StO W w.heap.size t (.slice a0 t.on.length c0) (.slice a1 t.whr.length c1) (.slice a2 t.items.length c2) (.slice a3 t.sets.length c3) (.slice a4 t.groups.length c4) (.slice a5 t.sorts.length c5) (.slice a6 t.limit.length c6)) fun _ hW => (hx.keep hW).mono HA.out.only.size)
  clear ho hp hl hr hx
  simp only [stC]
  obtain ⟨W2,hW2,HA⟩:=HA.out.pushE (Vt t.kind t.table t.join (.slice a0 t.on.length c0) (.slice a1 t.whr.length c1) (.slice a2 t.items.length c2) t.star (.slice a3 t.sets.length c3) (.slice a4 t.groups.length c4) (.slice a5 t.sorts.length c5) (.slice a6 t.limit.length c6) t.place t.joinAt) 27
  go_wp2_with fail
  clear hW2
  refine (skip_any P s1 ⟨#[59]⟩ _ HA.out.pa).mono ?_
  rintro e w3 ⟨rfl,hp,ho⟩
  have hp2 : PA w3 P (semi s1):=hp
  replace HA:=Hd (HA.out.call ho hp2)
  clear ho hp hp2
  have HO : Hid (∀ o,(if (semi s1).hd.1.1 = 1 then (if (semi s1).code = 0 then (if deepS t = true then .fault 111 t.place else .st t) else .fault (semi s1).code (semi s1).place) else .fault 110 (semi s1).hd.2) = o → outOf (.ok t s1) = o):=fun o h => h
  obtain ⟨s2,hs2⟩:=Vx (semi s1)
  rw [hs2] at HA HO
  clear hs2
  obtain ⟨sb,hsb⟩:=Vx (s1.sees (⟨#[59]⟩ : ByteArray).data.toList)
  rw [hsb]
  clear hsb
  go_wp2_with fail
  refine (ctoken_any P s2 _ HA.out.pa).mono ?_
  rintro e w4 ⟨rfl,hb⟩
  replace HA:=Hd (HA.out.bel hb)
  clear hb
  obtain ⟨⟨⟨tk,tn,tt⟩,ta⟩,hh⟩ : ∃ x,s2.hd = x:=⟨_,rfl⟩
  have HHD:=Hd hh
  rw [hh] at HO ⊢
  clear hh
  simp only at HO
  unfold tkA
  have hfd:=fieldT0
  by_cases hk : tk = 1
  ·subst hk
   have HO2:=Hd (fun o h => HO.out o ((if_pos rfl).trans h))
   clear HO
   obtain ⟨g,off,cap,h1,hn,hc,_,hP,hg,hgP,-⟩:=HA.out.pa.open
   obtain ⟨⟨p0,p1,p2⟩,-⟩:=three_of h1
   clear h1 hn hc hg hgP
   by_cases hcd : s2.code = 0
   ·have HO3:=Hd (fun o h => HO2.out o ((if_pos hcd).trans h))
    clear HO2
    rw [hcd] at p1
    clear hcd
    obtain ⟨⟨d0,d1,d2,d3,d4,d5,d6,d7,d8,d9,d10,d11,d12⟩,df0,df1,df2,df3,df4,df5,df6,df7,df8,df9,df10,df11,df12⟩:=thirt_of (HA.out.at 0 rfl)
    go_wp2_with fail
    refine (deep_any t a0 a1 a2 a3 a4 a5 a6 c0 c1 c2 c3 c4 c5 c6 _ HA.out.inv.out.2.rd).mono ?_
    rintro e w5 ⟨rfl,hb⟩
    replace HA:=Hd (HA.out.bel hb)
    clear hb p0 p1 p2 hP d0 d1 d2 d3 d4 d5 d6 d7 d8 d9 d10 d11 d12 df0 df1 df2 df3 df4 df5 df6 df7 df8 df9 df10 df11 df12
    obtain ⟨⟨d0,d1,d2,d3,d4,d5,d6,d7,d8,d9,d10,d11,d12⟩,df0,df1,df2,df3,df4,df5,df6,df7,df8,df9,df10,df11,df12⟩:=thirt_of (HA.out.at 0 rfl)
    have zr:=thirt_of (HA.out.at 1 rfl)
    cases hd : deepS t with
    | true =>
     have HV:=Hd (src_bad HR.out HA.out.only (HO3.out _ (if_pos hd)))
     clear hd
     go_wp2
     exact ⟨rfl,HV.out⟩
    | false =>
     have HE:=Hd (HO3.out _ (if_neg (by rw [hd]; simp)))
     clear hd
     go_wp2
     have HD:=Hd (HA.out.fill 1 rfl [Vi t.kind,.string t.table,.string t.join,.slice a0 t.on.length c0,.slice a1 t.whr.length c1,.slice a2 t.items.length c2,.bool t.star,.slice a3 t.sets.length c3,.slice a4 t.groups.length c4,.slice a5 t.sorts.length c5,.slice a6 t.limit.length c6,Vi t.place,Vi t.joinAt] rfl)
     obtain ⟨W99,hW99⟩:=Vx (setsL w5 w.heap.size 0 [Vi t.kind,.string t.table,.string t.join,.slice a0 t.on.length c0,.slice a1 t.whr.length c1,.slice a2 t.items.length c2,.bool t.star,.slice a3 t.sets.length c3,.slice a4 t.groups.length c4,.slice a5 t.sorts.length c5,.slice a6 t.limit.length c6,Vi t.place,Vi t.joinAt])
     rw [hW99] at HD
     simp only [setsL,Nat.reduceAdd] at hW99
     rw [hW99]
     have zy:=(thirt_of (HD.out.at 1 rfl)).1
     clear hW99
     exact bodyPost_ret (v:=.agg (Vt t.kind t.table t.join (.slice a0 t.on.length c0) (.slice a1 t.whr.length c1) (.slice a2 t.items.length c2) t.star (.slice a3 t.sets.length c3) (.slice a4 t.groups.length c4) (.slice a5 t.sorts.length c5) (.slice a6 t.limit.length c6) t.place t.joinAt)) (by simp [results,Tryz.results21,go_sem,zy]) rfl (src_ok HR.out HD.out.only HE.out ⟨a0,a1,a2,a3,a4,a5,a6,c0,c1,c2,c3,c4,c5,c6,rfl,HD.out.inv.out.2⟩)
   ·have HV:=Hd (src_bad HR.out HA.out.only (HO2.out _ (if_neg hcd)))
    have hce : (s2.code == 0) = false:=by simpa using hcd
    have hcn : (s2.code != 0) = true:=by simpa using hcd
    clear HO2 hcd
    go_wp2
    exact ⟨rfl,HV.out⟩
  ·have HV : Hid (SrcP P s w (.panicked (wrongV 110 s2.hd.2)) w4):=Hd (by rw [HHD.out]; exact src_bad HR.out HA.out.only (HO.out _ (if_neg hk)))
   have hke : (tk == 1) = false:=by simpa using hk
   have hkn : (tk != 1) = true:=by simpa using hk
   clear HO hk
   go_wp2_with fail
   refine (giveUp_any P s2 _ HA.out.pa).mono ?_
   rintro e w' ⟨rfl,hw⟩
   replace hw:=hw.symm
   subst hw
   go_wp2
   exact ⟨rfl,HV.out⟩

theorem setsL_at {b : Nat} {t : TypeId} : ∀ (vs : List Value) (w : World) (cs : Array Value) (i : Nat),w.heap[b]? = some (.cells cs t (0,0)) → (setsL w b i vs).heap[b]? = some (.cells (putsA cs i vs) t (0,0))
 | [],_,_,_,h => h
 | v :: vs,_,_,_,h => setsL_at vs _ _ _ (set_at h v)

theorem setsL_off {b k : Nat} (hk : k ≠ b) : ∀ (vs : List Value) (w : World) (i : Nat),(setsL w b i vs).heap[k]? = w.heap[k]?
 | [],_,_ => rfl
 | v :: vs,_,_ => (setsL_off hk vs _ _).trans (set_off v hk)

theorem setsL_only {b : Nat} {Z : Nat → Prop} (hz : Z b) : ∀ (vs : List Value) (w : World) (i : Nat),Only Z w (setsL w b i vs)
 | [],w,_ => Only.refl _ w
 | v :: vs,w,i => ((Only.refl Z w).setCell (p:=⟨b,i,none⟩) hz v).trans (setsL_only hz vs _ _)

theorem setsL_full {b : Nat} {t : TypeId} {w : World} {cs : Array Value} (vs : List Value) (h : w.heap[b]? = some (.cells cs t (0,0))) (hl : vs.length = cs.size) : (setsL w b 0 vs).heap[b]? = some (.cells vs.toArray t (0,0)):=by
 have e : putsA cs 0 vs = vs.toArray:=by
  apply Array.toList_inj.1
  rw [putsA_list vs cs 0 (by omega)]
  simp [hl]
 rw [setsL_at vs w cs 0 h,e]

theorem Tryz.assertW (v : Value) (W : World) : (Instr.typeAssert (.iface 50 v) 20 50 true).run Tryz.prog W = .ok (.tuple #[v,.bool true]) W:=by kernel_rfl

theorem Tryz.assertN (W : World) : (Instr.typeAssert .nilIface 20 50 true).run Tryz.prog W = .ok (.tuple #[.agg #[Vi 0,Vi 0],.bool false]) W:=by kernel_rfl

theorem catch_wrong (b1 b2 : Nat) (c x : Int) (o0 o1 o2 o3 o4 o5 o6 o7 o8 o9 o10 o11 o12 f0 f1 : Value) (w : World) (h1 : w.heap[b1]? = some (.cells #[o0,o1,o2,o3,o4,o5,o6,o7,o8,o9,o10,o11,o12] 27 (0,0))) (h2 : w.heap[b2]? = some (.cells #[f0,f1] 30 (0,0))) (hne : b1 ≠ b2) : CallsD Tryz.prog 20 #[.pointer (some ⟨b1,0,none⟩),.pointer (some ⟨b2,0,none⟩)] (.panicking [{ v:=.iface 50 (.agg #[Vi c,Vi x]),recovered:=false }]) w fun e u' w' => e = .returned (.tuple #[]) ∧ u' = .panicking [{ v:=.iface 50 (.agg #[Vi c,Vi x]),recovered:=true }] ∧ w'.heap[b1]? = some (.cells Vq 27 (0,0)) ∧ w'.heap[b2]? = some (.cells #[Vi c,Vi x] 30 (0,0)) ∧ Only (fun k => k = b1 ∨ k = b2) w w':=by
 have hta:=Tryz.assertW
 have hl1:=(Gx h1)
 have hl2:=(Gx h2)
 obtain ⟨W,hW⟩:=Vx (w.alloc (.cells #[Vi c,Vi x] 50))
 have k1 : W.heap[b1]? = some (.cells #[o0,o1,o2,o3,o4,o5,o6,o7,o8,o9,o10,o11,o12] 27 (0,0)):=hW ▸ (alloc_off hl1 _).trans h1
 have k2 : W.heap[b2]? = some (.cells #[f0,f1] 30 (0,0)):=hW ▸ (alloc_off hl2 _).trans h2
 have k3 : W.heap[w.heap.size]? = some (.cells #[Vi c,Vi x] 50 (0,0)):=hW ▸ heap_alloc_new w _
 have KB : Hid (Below w.heap.size w W):=hW ▸ (Below.refl _ _).alloc (Nat.le_refl _) _
 obtain ⟨⟨a0,a1,a2,a3,a4,a5,a6,a7,a8,a9,a10,a11,a12⟩,af0,af1,af2,af3,af4,af5,af6,af7,af8,af9,af10,af11,af12⟩:=thirt_of k1
 have q0 : W.cell? ⟨b2,0,none⟩ = some f0:=by simp [World.cell?,k2]
 have q1 : W.cell? ⟨b2,1,none⟩ = some f1:=by simp [World.cell?,k2]
 have qf0 : W.frozen? ⟨b2,0,none⟩ = false:=by simp [World.frozen?,k2]
 have qf1 : W.frozen? ⟨b2,1,none⟩ = false:=by simp [World.frozen?,k2]
 have e0 : W.cell? ⟨w.heap.size,0,none⟩ = some (Vi c):=by simp [World.cell?,k3]
 have e1 : W.cell? ⟨w.heap.size,1,none⟩ = some (Vi x):=by simp [World.cell?,k3]
 have K1:=Hd k1
 have K2:=Hd k2
 have hn2 : ¬ b2 = b1:=fun e => hne e.symm
 have hn3 : ¬ b1 = w.heap.size:=by omega
 have hn4 : ¬ b2 = w.heap.size:=by omega
 clear k1 k2 k3 h1 h2
 refine callsD_of_wpS Tryz.func20 rfl fun c₀ cs hu => ?_
 apply wpS_seq
 apply wpS_region
 simp [wpOpsS,go_sem,recoverD,hu,Tryz.ntmps20,Exit.thenS]
 refine wpS_of_wp ?_
 simp only [show (Array.replicate 15 (undef : Value)) = #[undef,undef,undef,undef,undef,undef,undef,undef,undef,undef,undef,undef,undef,undef,undef] from rfl,Sa,Sb,Sc,List.append_toArray,List.cons_append,List.nil_append]
 go_wp2_with fail
 clear hW
 go_region
 obtain ⟨W8,hW8⟩:=Vx (setsL (setsL W b1 0 [Vi 0,Vs,Vs,Vn,Vn,Vn,.bool false,Vn,Vn,Vn,Vn,Vi 0,Vi 0]) b2 0 [Vi c,Vi x])
 have R1 : Hid (W8.heap[b1]? = some (.cells Vq 27 (0,0))):=Hd (hW8 ▸ (setsL_off hne _ _ _).trans (setsL_full [Vi 0,Vs,Vs,Vn,Vn,Vn,.bool false,Vn,Vn,Vn,Vn,Vi 0,Vi 0] K1.out rfl))
 have R2 : Hid (W8.heap[b2]? = some (.cells #[Vi c,Vi x] 30 (0,0))):=Hd (hW8 ▸ setsL_full [Vi c,Vi x] ((setsL_off (fun e => hne e.symm) _ _ _).trans K2.out) rfl)
 have R3 : Hid (Only (fun k => k = b1 ∨ k = b2) w W8):=(Only.of KB.out).trans (hW8 ▸ (setsL_only (Or.inl rfl) _ _ _).trans (setsL_only (Or.inr rfl) _ _ _))
 simp only [setsL,Nat.reduceAdd] at hW8
 rw [hW8]
 clear hW8 a0 a1 a2 a3 a4 a5 a6 a7 a8 a9 a10 a11 a12 af0 af1 af2 af3 af4 af5 af6 af7 af8 af9 af10 af11 af12 q0 q1 qf0 qf1 e0 e1
 have hR1 : W8.drew.heap[b1]? = _:=R1.out
 have hR2 : W8.drew.heap[b2]? = _:=R2.out
 have hR3 : Only (fun k => k = b1 ∨ k = b2) w W8.drew:=R3.out.trans (Only.of (Below.refl _ _).drew)
 have RR:=Hd (And.intro hR1 (And.intro hR2 hR3))
 clear hR1 hR2 hR3
 obtain ⟨W9,hW9⟩:=Vx W8.drew
 rw [hW9] at RR ⊢
 clear hW9
 go_wp2
 simp [bodyPostS,results,Tryz.results20]
 exact RR.out

theorem catch_idle (b1 b2 : Nat) (w : World) : CallsD Tryz.prog 20 #[.pointer (some ⟨b1,0,none⟩),.pointer (some ⟨b2,0,none⟩)] .returning w fun e u' w' => e = .returned (.tuple #[]) ∧ u' = .returning ∧ Below w.heap.size w w':=by
 have hta:=Tryz.assertN
 refine callsD_of_wpS Tryz.func20 rfl fun c₀ cs hu => ?_
 apply wpS_seq
 apply wpS_region
 simp [wpOpsS,go_sem,recoverD,hu,Tryz.ntmps20,Exit.thenS]
 refine wpS_of_wp ?_
 simp only [show (Array.replicate 15 (undef : Value)) = #[undef,undef,undef,undef,undef,undef,undef,undef,undef,undef,undef,undef,undef,undef,undef] from rfl,Sa,Sb,Sc,List.append_toArray,List.cons_append,List.nil_append]
 go_wp2
 have hb : Below w.heap.size w (w.alloc (.cells #[Vi 0,Vi 0] 50)):=(Below.refl _ _).alloc (Nat.le_refl _) _
 cases c₀
 simp_all [bodyPostS,results,Tryz.results20]

theorem toks_wf {l : List UInt8} {a : Nat} {ts : List (Tk × Nat)} (h : Toks l a ts) : Wf ts:=by
 induction h with
 | fin _ => rfl
 | @more l a t ts hne ht _ ih =>
  have hk : t.1 ≠ 1:=by
   obtain ⟨c,q,hs,hq⟩:=pce_cons hne
   rw [hq] at ht
   have:=tokR_kind c _ (by rw [ht])
   rw [ht] at this
   simp only at this
   omega
  cases ts with
  | nil => exact absurd ih (fun h => h)
  | cons u l => exact ⟨hk,ih⟩

theorem tc_get : ∀ (l : List (Tk × Nat)) (i : Nat) (h : i < l.length),(tc l)[i * 4]? = some (Vi l[i].1.1) ∧ (tc l)[i * 4 + 1]? = some (Vi l[i].1.2.1) ∧ (tc l)[i * 4 + 2]? = some (.string l[i].1.2.2) ∧ (tc l)[i * 4 + 3]? = some (Vi (l[i].2 : Int))
 | t :: l,0,_ => ⟨rfl,rfl,rfl,rfl⟩
 | t :: l,i + 1,h => by
  have:=tc_get l i (by simpa using h)
  have e : (i + 1) * 4 = i * 4 + 4:=by omega
  rw [e]
  exact this

theorem tr_own {w : World} {B : Nat} {v : Value} {ts : List (Tk × Nat)} (h : w.ownsRow B 43 4 v ts.length (tc ts)) (hne : ts ≠ []) : ∃ g c,v = .slice (some ⟨g,0,none⟩) ts.length c ∧ B ≤ g ∧ g < w.heap.size ∧ ts.length ≤ c ∧ TR w (some ⟨g,0,none⟩) ts:=by
 have hh:=h
 have hn:=List.length_pos_iff.2 hne
 obtain ⟨hl,⟨rfl,e⟩ | ⟨g,cap,cur,rfl,hb,hg,hn2,hm,hs,ht⟩⟩:=h
 ·omega
 ·refine ⟨g,cap,rfl,hb,(Gx hg),hn2,fun i hi => ⟨g,0,rfl,?_⟩⟩
  obtain ⟨a0,a1,a2,a3⟩:=tc_get ts i hi
  have key : ∀ j u,(tc ts)[j]? = some u → w.cell? ⟨g,0 + j,none⟩ = some u:=fun j u hu => by
   have:=hh.cells (g:=g) rfl j u hu
   rw [add_lit0] at this
   rw [Nat.zero_add]
   exact this
  exact ⟨key _ _ a0,by have:=key _ _ a1; rwa [← Nat.add_assoc] at this,by have:=key _ _ a2; rwa [← Nat.add_assoc] at this,by have:=key _ _ a3; rwa [← Nat.add_assoc] at this⟩

def ParseIs (s : ByteArray) (o : Out) : Prop:=∃ l p c,ScanIs s l p c ∧ ((c ≠ 0 ∧ o = .fault c p) ∨ (c = 0 ∧ ∃ r,stR ⟨l,0,0⟩ r ∧ o = outOf r))

theorem ParseIs.one {s : ByteArray} {o o' : Out} (h : ParseIs s o) (k : ParseIs s o') : o = o':=by
 obtain ⟨l,p,c,h1,h2⟩:=h
 obtain ⟨l',p',c',k1,k2⟩:=k
 obtain ⟨rfl,rfl,rfl⟩:=h1.one k1
 rcases h2 with ⟨hc,rfl⟩ | ⟨hc,r,hr,rfl⟩ <;> rcases k2 with ⟨kc,rfl⟩ | ⟨kc,r',kr,rfl⟩
 ·rfl
 ·exact absurd kc hc
 ·exact absurd hc kc
 ·rw [Det.st _ _ _ hr kr]

def ParseP (s : ByteArray) (w : World) (e : Ending) (w' : World) : Prop:=∃ o,ParseIs s o ∧ Below w.heap.size w w' ∧ match o with
 | .fault c p => ∃ v,e = .returned (.tuple #[v,.agg #[Vi c,Vi p]]) ∧ StV w' w.heap.size st0 v
 | .st t => ∃ v,e = .returned (.tuple #[v,.agg #[Vi 0,Vi 0]]) ∧ StV w' w.heap.size t v

theorem st0_v (w : World) (B : Nat) : StV w B st0 (.agg Vq):=⟨none,none,none,none,none,none,none,0,0,0,0,0,0,0,rfl,⟨XL.nil _ _,XL.nil _ _,XL.nil _ _,SeL.nil _ _,XL.nil _ _,SoL.nil _ _,IL.nil _ _⟩⟩

theorem parse_fault {s : ByteArray} {w w' : World} {c p : Int} (h : ParseIs s (.fault c p)) (hb : Below w.heap.size w w') : ParseP s w (.returned (.tuple #[.agg Vq,.agg #[Vi c,Vi p]])) w':=⟨_,h,hb,_,rfl,st0_v _ _⟩

theorem parse_st {s : ByteArray} {w w' : World} {t : St} {v : Value} (h : ParseIs s (.st t)) (hb : Below w.heap.size w w') (hv : StV w' w.heap.size t v) : ParseP s w (.returned (.tuple #[v,.agg #[Vi 0,Vi 0]])) w':=⟨_,h,hb,v,rfl,hv⟩

theorem only_below {w0 w w' : World} {Z : Nat → Prop} (h : Below w0.heap.size w0 w) (ho : Only Z w w') (hz : ∀ k,Z k → w0.heap.size ≤ k) : Below w0.heap.size w0 w':=⟨ho.os.trans h.os,ho.tape.trans h.tape,ho.output.trans h.output,Nat.le_trans h.size ho.size,fun k hk => (ho.block k (Nat.lt_of_lt_of_le hk h.size) fun z => by have:=hz k z; omega).trans (h.block k hk)⟩

theorem synParse_any (s : ByteArray) (w : World) (hv : SV w) : Calls Tryz.prog 9 #[.string s] w (ParseP s w):=by
 have hmf : ∀ (fn : Fn) (first cap : Array Value) (w : World),(Instr.makeFunc fn first cap).run Tryz.prog w = .ok (.func fn first cap) w:=fun _ _ _ _ => rfl
 obtain ⟨W1,hW1⟩:=Vx (w.alloc (.cells Vq 27))
 have hs1 : W1.heap.size = w.heap.size + 1:=hW1 ▸ (by simp)
 have r1 : W1.heap[w.heap.size]? = some (.cells Vq 27 (0,0)):=hW1 ▸ heap_alloc_new w _
 have k1 : Below w.heap.size w W1:=hW1 ▸ (Below.refl _ _).alloc (Nat.le_refl _) _
 obtain ⟨W2,hW2⟩:=Vx (W1.alloc (.cells #[Vi 0,Vi 0] 30))
 have r2 : W2.heap[w.heap.size + 1]? = some (.cells #[Vi 0,Vi 0] 30 (0,0)):=by have:=heap_alloc_new W1 (.cells #[Vi 0,Vi 0] 30); rw [hW2,hs1] at this; exact this
 have k2 : Below W1.heap.size W1 W2:=hW2 ▸ (Below.refl _ _).alloc (Nat.le_refl _) _
 have R1 : Hid (W2.heap[w.heap.size]? = some (.cells Vq 27 (0,0))):=(k2.block _ (by omega)).trans r1
 have R2:=Hd r2
 have HB : Hid (Below w.heap.size w W2):=k1.trans (k2.mono k1.size)
 have HV:=Hd (hv.later (k1.trans (k2.mono k1.size)))
 have HS1:=Hd hs1
 clear hs1 r1 r2 k1 k2 hv
 go_enter_defers Tryz.func9,Tryz.ntmps9
 go_wp2_with fail
 clear hW1 hW2
 rw [HS1.out]
 refine (scan_any s W2 HV.out).mono ?_
 rintro e w3 ⟨la,lc,ts,p,c,rfl,hsc,hown,hlen,hb3⟩
 have R13:=Hd ((hb3.block _ (Gx R1.out)).trans R1.out)
 have R23:=Hd ((hb3.block _ (Gx R2.out)).trans R2.out)
 have HB3:=Hd (HB.out.trans (hb3.mono HB.out.size))
 have HSC:=Hd hsc
 have HOW:=Hd hown
 have hs3 : w.heap.size + 1 < w3.heap.size:=(Gx R23.out)
 have hs2 : w.heap.size + 1 < W2.heap.size:=(Gx R2.out)
 clear hb3 hsc hown R1 R2 HB HV HS1
 by_cases hc : c = 0
 ·subst hc
  have htk : Toks s.data.toList 0 ts ∧ p = 0:=by
   rcases HSC.out with ⟨_,_,_,h⟩ | ⟨_,⟨_,hp,h⟩ | ⟨_,h⟩⟩
   ·exact absurd h (by decide)
   ·exact ⟨h,hp⟩
   ·exact absurd rfl h.ne
  have HWF:=Hd (toks_wf htk.1)
  obtain ⟨g,c9,e9,hBg,hgl,hnc,htr⟩:=tr_own HOW.out HWF.out.ne
  injection e9 with e1 _ e3
  subst e1 e3
  have HPI : Hid (∀ r,stR ⟨ts,0,0⟩ r → ParseIs s (outOf r)):=fun r hr => ⟨ts,p,0,HSC.out,Or.inr ⟨rfl,r,hr,rfl⟩⟩
  obtain ⟨W4,hW4⟩:=Vx (w3.alloc (.cells #[.slice (some ⟨g,0,none⟩) ts.length lc,Vi 0,Vi 0] 55))
  have r4 : W4.heap[w3.heap.size]? = some (.cells #[.slice (some ⟨g,0,none⟩) ts.length lc,Vi 0,Vi 0] 55 (0,0)):=hW4 ▸ heap_alloc_new w3 _
  have k4 : Below w3.heap.size w3 W4:=hW4 ▸ (Below.refl _ _).alloc (Nat.le_refl _) _
  have HPA : Hid (PA W4 w3.heap.size ⟨ts,0,0⟩):=⟨HWF.out,g,0,lc,r4,htr.block (k4.block g hgl),hgl,hnc,hlen⟩
  have R14:=Hd ((k4.block _ (Gx R13.out)).trans R13.out)
  have R24:=Hd ((k4.block _ hs3).trans R23.out)
  have HB4:=Hd (HB3.out.trans (k4.mono HB3.out.size))
  have hs5:=k4.size
  clear r4 k4 htr R13 R23 HB3 HOW htk HSC
  have HW4:=Hd hW4
  clear hW4
  go_wp2_with fail
  rw [HW4.out]
  clear HW4
  refine (source_any w3.heap.size ⟨ts,0,0⟩ W4 HPA.out).mono ?_
  rintro e w5 ⟨r,hr,ho,hm⟩
  have HP5:=Hd (HPI.out r hr)
  have R15:=Hd (ho.at R14.out (by omega))
  have R25:=Hd (ho.at R24.out (by omega))
  have HB5:=Hd (only_below HB4.out ho (fun k hk => by omega))
  have hs4:=HB4.out.size
  clear ho hr R14 R24 HPA HPI
  cases hO : outOf r with
  | fault c p =>
   rw [hO] at hm HP5
   have hm2 : e = .panicked (wrongV c p):=hm
   rw [hm2]
   clear hm hm2 hO HB4
   unfold wrongV
   go_wp2
   refine leaves_cons (f:=20) (args:=#[.pointer (some ⟨w.heap.size,0,none⟩),.pointer (some ⟨w.heap.size + 1,0,none⟩)]) (by simp) (by simp [go_sem]) ?_
   refine (catch_wrong w.heap.size (w.heap.size + 1) c p _ _ _ _ _ _ _ _ _ _ _ _ _ _ _ w5 R15.out R25.out (by omega)).mono ?_
   rintro e u' w6 ⟨rfl,rfl,k1,k2,ho⟩
   have HB6:=Hd (only_below HB5.out ho (fun k hk => by omega))
   clear ho
   have zy:=(thirt_of k1).1
   have z0 : w6.cell? ⟨w.heap.size + 1,0,none⟩ = some (Vi c):=by simp [World.cell?,k2]
   have z1 : w6.cell? ⟨w.heap.size + 1,1,none⟩ = some (Vi p):=by simp [World.cell?,k2]
   have HF:=Hd (parse_fault HP5.out HB6.out)
   simp [Leaves,settle,results,Tryz.results9,go_sem,zy,z0,z1]
   exact HF.out
  | st t =>
   rw [hO] at hm HP5
   obtain ⟨v,rfl,⟨a0,a1,a2,a3,a4,a5,a6,c0,c1,c2,c3,c4,c5,c6,rfl,hx⟩⟩:=hm
   have hx9:=hx
   clear hx hO HB4
   simp only [stC]
   obtain ⟨⟨a_0,a_1,a_2,a_3,a_4,a_5,a_6,a_7,a_8,a_9,a_10,a_11,a_12⟩,a_f0,a_f1,a_f2,a_f3,a_f4,a_f5,a_f6,a_f7,a_f8,a_f9,a_f10,a_f11,a_f12⟩:=thirt_of R15.out
   have z0 : w5.cell? ⟨w.heap.size + 1,0,none⟩ = some (Vi 0):=by simp [World.cell?,R25.out]
   have z1 : w5.cell? ⟨w.heap.size + 1,1,none⟩ = some (Vi 0):=by simp [World.cell?,R25.out]
   have zf0 : w5.frozen? ⟨w.heap.size + 1,0,none⟩ = false:=by simp [World.frozen?,R25.out]
   have zf1 : w5.frozen? ⟨w.heap.size + 1,1,none⟩ = false:=by simp [World.frozen?,R25.out]
   have hn1 : ¬ w.heap.size = w.heap.size + 1:=by omega
   go_wp2
   obtain ⟨W8,hW8⟩:=Vx (setsL (setsL w5 w.heap.size 0 [Vi t.kind,.string t.table,.string t.join,.slice a0 t.on.length c0,.slice a1 t.whr.length c1,.slice a2 t.items.length c2,.bool t.star,.slice a3 t.sets.length c3,.slice a4 t.groups.length c4,.slice a5 t.sorts.length c5,.slice a6 t.limit.length c6,Vi t.place,Vi t.joinAt]) (w.heap.size + 1) 0 [Vi 0,Vi 0])
   have K1 : Hid (W8.heap[w.heap.size]? = some (.cells (Vt t.kind t.table t.join (.slice a0 t.on.length c0) (.slice a1 t.whr.length c1) (.slice a2 t.items.length c2) t.star (.slice a3 t.sets.length c3) (.slice a4 t.groups.length c4) (.slice a5 t.sorts.length c5) (.slice a6 t.limit.length c6) t.place t.joinAt) 27 (0,0))):=Hd (hW8 ▸ (setsL_off hn1 _ _ _).trans (setsL_full [Vi t.kind,.string t.table,.string t.join,.slice a0 t.on.length c0,.slice a1 t.whr.length c1,.slice a2 t.items.length c2,.bool t.star,.slice a3 t.sets.length c3,.slice a4 t.groups.length c4,.slice a5 t.sorts.length c5,.slice a6 t.limit.length c6,Vi t.place,Vi t.joinAt] R15.out rfl))
   have K2 : Hid (W8.heap[w.heap.size + 1]? = some (.cells #[Vi 0,Vi 0] 30 (0,0))):=Hd (hW8 ▸ setsL_full [Vi 0,Vi 0] ((setsL_off (fun e => hn1 e.symm) _ _ _).trans R25.out) rfl)
   have HO8 : Hid (Only (fun k => k = w.heap.size ∨ k = w.heap.size + 1) w5 W8):=hW8 ▸ (setsL_only (Or.inl rfl) _ _ _).trans (setsL_only (Or.inr rfl) _ _ _)
   simp only [setsL,Nat.reduceAdd] at hW8
   rw [hW8]
   clear hW8 a_0 a_1 a_2 a_3 a_4 a_5 a_6 a_7 a_8 a_9 a_10 a_11 a_12 a_f0 a_f1 a_f2 a_f3 a_f4 a_f5 a_f6 a_f7 a_f8 a_f9 a_f10 a_f11 a_f12 z0 z1 zf0 zf1
   have HB8:=Hd (only_below HB5.out HO8.out (fun k hk => by omega))
   refine leaves_cons (f:=20) (args:=#[.pointer (some ⟨w.heap.size,0,none⟩),.pointer (some ⟨w.heap.size + 1,0,none⟩)]) (by simp) (by simp [go_sem]) ?_
   refine (catch_idle w.heap.size (w.heap.size + 1) W8).mono ?_
   rintro e u' w6 ⟨rfl,rfl,hb6⟩
   have k1:=(hb6.block _ (Gx K1.out)).trans K1.out
   have k2:=(hb6.block _ (Gx K2.out)).trans K2.out
   have HB6:=Hd (HB8.out.trans (hb6.mono HB8.out.size))
   have HX6:=Hd (hx9.keep fun g hg hl => (hb6.block g (Nat.lt_of_lt_of_le hl HO8.out.size)).trans (HO8.out.block g hl (fun z => by omega)))
   have HX7:=Hd (HX6.out.mono (B':=w.heap.size) (by omega))
   clear hb6
   have zy:=(thirt_of k1).1
   have x0 : w6.cell? ⟨w.heap.size + 1,0,none⟩ = some (Vi 0):=by simp [World.cell?,k2]
   have x1 : w6.cell? ⟨w.heap.size + 1,1,none⟩ = some (Vi 0):=by simp [World.cell?,k2]
   have HF:=Hd (parse_st HP5.out HB6.out (v:=.agg (Vt t.kind t.table t.join (.slice a0 t.on.length c0) (.slice a1 t.whr.length c1) (.slice a2 t.items.length c2) t.star (.slice a3 t.sets.length c3) (.slice a4 t.groups.length c4) (.slice a5 t.sorts.length c5) (.slice a6 t.limit.length c6) t.place t.joinAt)) ⟨a0,a1,a2,a3,a4,a5,a6,c0,c1,c2,c3,c4,c5,c6,rfl,HX7.out⟩)
   simp [Leaves,settle,results,Tryz.results9,go_sem,zy,x0,x1]
   exact HF.out
 ·have HPI : Hid (ParseIs s (.fault c p)):=⟨ts,p,c,HSC.out,Or.inl ⟨hc,rfl⟩⟩
  have hce : (c == 0) = false:=by simpa using hc
  have hcn : (c != 0) = true:=by simpa using hc
  clear hc HSC HOW
  obtain ⟨⟨a_0,a_1,a_2,a_3,a_4,a_5,a_6,a_7,a_8,a_9,a_10,a_11,a_12⟩,a_f0,a_f1,a_f2,a_f3,a_f4,a_f5,a_f6,a_f7,a_f8,a_f9,a_f10,a_f11,a_f12⟩:=thirt_of R13.out
  have z0 : w3.cell? ⟨w.heap.size + 1,0,none⟩ = some (Vi 0):=by simp [World.cell?,R23.out]
  have z1 : w3.cell? ⟨w.heap.size + 1,1,none⟩ = some (Vi 0):=by simp [World.cell?,R23.out]
  have zf0 : w3.frozen? ⟨w.heap.size + 1,0,none⟩ = false:=by simp [World.frozen?,R23.out]
  have zf1 : w3.frozen? ⟨w.heap.size + 1,1,none⟩ = false:=by simp [World.frozen?,R23.out]
  have hn1 : ¬ w.heap.size = w.heap.size + 1:=by omega
  go_wp2
  obtain ⟨W8,hW8⟩:=Vx (setsL (setsL w3 w.heap.size 0 [Vi 0,Vs,Vs,Vn,Vn,Vn,.bool false,Vn,Vn,Vn,Vn,Vi 0,Vi 0]) (w.heap.size + 1) 0 [Vi c,Vi (p : Int)])
  have K1 : Hid (W8.heap[w.heap.size]? = some (.cells Vq 27 (0,0))):=Hd (hW8 ▸ (setsL_off hn1 _ _ _).trans (setsL_full [Vi 0,Vs,Vs,Vn,Vn,Vn,.bool false,Vn,Vn,Vn,Vn,Vi 0,Vi 0] R13.out rfl))
  have K2 : Hid (W8.heap[w.heap.size + 1]? = some (.cells #[Vi c,Vi (p : Int)] 30 (0,0))):=Hd (hW8 ▸ setsL_full [Vi c,Vi (p : Int)] ((setsL_off (fun e => hn1 e.symm) _ _ _).trans R23.out) rfl)
  have HO8 : Hid (Only (fun k => k = w.heap.size ∨ k = w.heap.size + 1) w3 W8):=hW8 ▸ (setsL_only (Or.inl rfl) _ _ _).trans (setsL_only (Or.inr rfl) _ _ _)
  simp only [setsL,Nat.reduceAdd] at hW8
  rw [hW8]
  clear hW8 a_0 a_1 a_2 a_3 a_4 a_5 a_6 a_7 a_8 a_9 a_10 a_11 a_12 a_f0 a_f1 a_f2 a_f3 a_f4 a_f5 a_f6 a_f7 a_f8 a_f9 a_f10 a_f11 a_f12 z0 z1 zf0 zf1
  have HB8:=Hd (only_below HB3.out HO8.out (fun k hk => by omega))
  have zy:=(thirt_of K1.out).1
  have x0 : W8.cell? ⟨w.heap.size + 1,0,none⟩ = some (Vi c):=by simp [World.cell?,K2.out]
  have x1 : W8.cell? ⟨w.heap.size + 1,1,none⟩ = some (Vi (p : Int)):=by simp [World.cell?,K2.out]
  have HF:=Hd (parse_fault HPI.out HB8.out)
  simp [bodyPostD,Leaves,results,Tryz.results9,go_sem,zy,x0,x1]
  exact HF.out

inductive DP : Ex → Nat → Prop
 | mk {kind op : Int} {v : V3} {t n : ByteArray} {kids : List Ex} {pl : Int} (ds : List Nat) (h1 : kids.length = ds.length) (h2 : ∀ i (h : i < kids.length) (h' : i < ds.length),DP kids[i] ds[i]) (hb : ds.foldl max 0 + 1 ≤ 9223372036854775807) : DP (.mk kind op v t n kids pl) (ds.foldl max 0 + 1)

theorem fold_take {ds : List Nat} {i : Nat} (h : i < ds.length) : (ds.take (i + 1)).foldl max 0 = max ((ds.take i).foldl max 0) ds[i]:=by
 rw [List.take_add_one,List.getElem?_eq_getElem h,Option.toList_some,List.foldl_append]
 rfl

theorem fold_le : ∀ (ds : List Nat) (a : Nat),a ≤ ds.foldl max a
 | [],_ => Nat.le_refl _
 | d :: ds,a => Nat.le_trans (Nat.le_max_left a d) (fold_le ds (max a d))

theorem fold_part (ds : List Nat) (i : Nat) : (ds.take i).foldl max 0 ≤ ds.foldl max 0:=by
 have e : ds.foldl max 0 = (ds.drop i).foldl max ((ds.take i).foldl max 0):=by rw [← List.foldl_append,List.take_append_drop]
 rw [e]
 exact fold_le _ _

theorem depth_any (e : Ex) (d : Nat) (h : DP e d) : ∀ (k : Value) (w : World),XR w e k → Calls Tryz.prog 19 #[.agg (exC e k).toArray] w fun r w' => r = .returned (Vi (d : Int)) ∧ Below w.heap.size w w':=by
 induction h with
 | @mk kk oo v tt nn kids pp ds hkd _ hbd ih =>
  intro k w hx
  have HIH:=Hd ih
  have HKD:=Hd hkd
  have HBD:=Hd hbd
  clear ih hkd hbd
  obtain ⟨v1,v2,v3⟩:=v
  cases hx with
  | @mk _ _ _ _ _ _ _ p c ks h1 hc hm h2 h3 =>
   have HR:=Hd h2
   have HXs:=Hd h3
   have HLK:=Hd h1
   clear h1 h2 h3
   simp only [exC]
   obtain ⟨W,hW⟩:=Vx (w.alloc (.cells (Ve kk oo v1 v2 v3 tt nn (.slice p kids.length c) pp) 48))
   have hb : Below w.heap.size w W:=hW ▸ (Below.refl _ _).alloc (Nat.le_refl _) _
   have he : W.heap[w.heap.size]? = some (.cells (Ve kk oo v1 v2 v3 tt nn (.slice p kids.length c) pp) 48 (0,0)):=hW ▸ heap_alloc_new w _
   have HB:=Hd hb
   have HE:=Hd he
   have hsz : w.heap.size < W.heap.size:=(Gx he)
   clear hb he
   go_enter Tryz.func19,Tryz.ntmps19
   go_wp2_with fail
   clear hW
   go_loopw [3,4] (fun m i wr => ∃ k : Nat,k ≤ kids.length ∧ m = Vi (((ds.take k).foldl max 0 : Nat) : Int) ∧ i = Vi (k : Int) ∧ Below W.heap.size W wr) (fun _ i _ => kids.length - (intOf i).toNat)
   case atStart => exact ⟨0,Nat.zero_le _,rfl,rfl,Below.refl _ _⟩
   case round =>
    obtain ⟨k,hk,rfl,rfl,hb⟩:=hrel
    have HW:=Hd hb
    have zy:=(nine_of ((hb.block _ hsz).trans HE.out)).1
    clear hb
    obtain ⟨M,hM⟩:=Vx ((ds.take k).foldl max 0)
    have HM:=Hd hM
    have hMb : M + 1 ≤ 9223372036854775807:=by have h1:=fold_part ds k; have h2:=HBD.out; omega
    rw [hM]
    clear hM
    by_cases hlt : k < kids.length
    ·have hlti : (k : Int) < (kids.length : Int):=by omega
     have hlt' : k < ks.length:=by rw [← HLK.out]; exact hlt
     have hltd : k < ds.length:=by rw [← HKD.out]; exact hlt
     obtain ⟨b,off,rfl,hcs⟩:=HR.out k hlt hlt'
     have hxk:=HXs.out k hlt hlt'
     obtain ⟨a2,m2,c2,hks⟩:=hxk.slice
     have HCk:=Hd (HIH.out k hlt hltd ks[k])
     rw [hks] at hcs HCk hxk
     have HF:=Hd (fold_take hltd)
     rw [HM.out] at HF
     have hDle : ds[k] ≤ 9223372036854775806:=by have h1:=fold_part ds (k + 1); have h2:=HBD.out; have h3:=HF.out; omega
     obtain ⟨D,hD⟩:=Vx (ds[k])
     rw [hD] at HCk HF hDle
     clear hD
     obtain ⟨⟨kk2,oo2,⟨u1,u2,u3⟩,tt2,nn2,ks2,pp2⟩,hx⟩ : ∃ x,kids[k] = x:=⟨_,rfl⟩
     rw [hx] at hcs HCk hxk
     have HXK:=Hd hxk
     clear hx hks hxk
     simp only [exC] at HCk
     have HCS : Hid (∀ j u,[Vi kk2,Vi oo2,Vi u1,Vi u2,.string u3,.string tt2,.string nn2,.slice a2 m2 c2,Vi pp2][j]? = some u → w.cell? ⟨b,off + k * 9 + j,none⟩ = some u):=hcs
     clear hcs
     have HBW:=Hd (HB.out.trans (HW.out.mono HB.out.size))
     have q0:=Cl HBW.out (HCS.out 0 _ rfl)
     have q1:=Cl HBW.out (HCS.out 1 _ rfl)
     have q2:=Cl HBW.out (HCS.out 2 _ rfl)
     have q3:=Cl HBW.out (HCS.out 3 _ rfl)
     have q4:=Cl HBW.out (HCS.out 4 _ rfl)
     have q5:=Cl HBW.out (HCS.out 5 _ rfl)
     have q6:=Cl HBW.out (HCS.out 6 _ rfl)
     have q7:=Cl HBW.out (HCS.out 7 _ rfl)
     have q8:=Cl HBW.out (HCS.out 8 _ rfl)
     simp only [Nat.add_zero] at q0
     go_wp2_with fail
     refine (HCk.out _ (HXK.out.later HBW.out)).mono ?_
     rintro e w2 ⟨rfl,hb2⟩
     have HW2:=Hd (HW.out.trans (hb2.mono HW.out.size))
     clear hb2 q0 q1 q2 q3 q4 q5 q6 q7 q8 zy
     go_wp2
     go_roundw
     case rel => exact ⟨k + 1,by omega,by rw [HF.out]; go_num,by go_num,HW2.out⟩
     case measure => simp [intOf]; omega
    ·have hnlt : ¬ (k : Int) < (kids.length : Int):=by omega
     have hk2 : k = ds.length:=by have:=HKD.out; omega
     have hMe : M = ds.foldl max 0:=by rw [← HM.out,hk2,List.take_length]
     have HME:=Hd hMe
     clear hMe
     go_wp2
     exact bodyPost_ret (v:=Vi ((M : Int) + 1)) (by simp [results,Tryz.results19,go_sem]) rfl ⟨by rw [HME.out],HB.out.trans (HW.out.mono HB.out.size)⟩
end Go.Proofs.YtffalonhkemieaaGreatDoor
