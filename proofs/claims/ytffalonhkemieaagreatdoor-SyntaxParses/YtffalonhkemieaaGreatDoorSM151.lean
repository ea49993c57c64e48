/- M151 M152 A129 M153 -/
import Derived.Test.YtffalonhkemieaaGreatDoorSA127
import Derived.Test.YtffalonhkemieaaGreatDoorSM139
import Derived.Test.YtffalonhkemieaaGreatDoorSA81
import Derived.Test.YtffalonhkemieaaGreatDoorSA27
set_option maxHeartbeats 16000000
set_option maxRecDepth 100000
namespace Go.Proofs.YtffalonhkemieaaGreatDoor
open Go Go.RowKit
def endB (q : RS) : RS:=if q.ps.hd.1.1 = 1 then q else q.stop

theorem endQ_B (r : RS) : endQ r = endB (if r.sees [59] = true then r.step else r):=rfl

theorem endB_ps (q : RS) : (endB q).ps = q.ps:=by
 unfold endB
 split <;> rfl

theorem endB_many (q : RS) : (endB q).many = q.many:=by
 unfold endB
 split <;> rfl

theorem endB_right {q : RS} (h : (endB q).wrong = false) : q.wrong = false ∧ q.ps.hd.1.1 = 1:=by
 unfold endB at h
 split at h
 ·rename_i e
  exact ⟨h,e⟩
 ·exact absurd h (by show ¬ (true = false); decide)

theorem endB_wrong {q : RS} (h : (endB q).wrong = true) (hq : q.wrong = false) : q.ps.hd.1.1 ≠ 1:=by
 intro e
 unfold endB at h
 rw [if_pos e,hq] at h
 exact absurd h (by decide)

theorem endQ_ps (r : RS) : (endQ r).ps = (if r.sees [59] = true then r.step else r).ps:=by rw [endQ_B,endB_ps]

theorem endQ_many (r : RS) : (endQ r).many = r.many:=by
 rw [endQ_B,endB_many]
 split <;> rfl

theorem semi_ps {r : RS} (h : r.wrong = false) : (if r.sees [59] = true then r.step else r).ps = semi r.ps:=by
 unfold semi
 rw [RS.sees_right h]
 cases r.ps.sees [59] with
 | true => rw [if_pos rfl,if_pos rfl,RS.ps_step]
 | false => rw [if_neg (by decide),if_neg (by decide)]

theorem if_wrong (r : RS) (b : Bool) : (if b = true then r.step else r).wrong = r.wrong:=by cases b <;> rfl

theorem fin_wrong {r0 r1 : RS} {t : St} (h0 : r0.wrong = false) (h : Lk stR r0 t r1) (hw : (endQ r1).wrong = true) : ∃ x,stR r0.ps x ∧ outOf x = .fault 110 (endQ r1).ps.hd.2:=by
 rcases h with ⟨h,_⟩ | ⟨_,⟨h1,h2⟩ | ⟨h1,h2⟩⟩
 ·rw [h0] at h; exact absurd h (by decide)
 ·refine ⟨_,h2,?_⟩
  rw [endQ_ps,semi_ps h1]
  have hk : (semi r1.ps).hd.1.1 ≠ 1:=by
   have:=endB_wrong hw (by rw [if_wrong]; exact h1)
   rw [semi_ps h1] at this
   exact this
  rw [outOf,if_neg hk]
 ·refine ⟨_,h2,?_⟩
  rw [endQ_ps,RS.sees_wrong h1,if_neg (by decide)]
  rfl

theorem fin_right {r0 r1 : RS} {t : St} (h0 : r0.wrong = false) (h : Lk stR r0 t r1) (hw : (endQ r1).wrong = false) : stR r0.ps (.ok t r1.ps) ∧ outOf (.ok t r1.ps) = if (endQ r1).many = [] then (if deepS t = true then .fault 111 t.place else .st t) else .fault 112 ((endQ r1).many.headD 0 : Nat):=by
 obtain ⟨h1,hk⟩:=endB_right hw
 rw [if_wrong] at h1
 rw [semi_ps h1] at hk
 rcases h with ⟨h,_⟩ | ⟨_,⟨_,h2⟩ | ⟨h3,_⟩⟩
 ·rw [h0] at h; exact absurd h (by decide)
 ·refine ⟨h2,?_⟩
  have hc : (semi r1.ps).code = r1.ps.code:=by unfold semi; split <;> rfl
  have hp : (semi r1.ps).place = r1.ps.place:=by unfold semi; split <;> rfl
  rw [outOf,if_pos hk,hc,hp,endQ_many]
  cases hm : r1.many with
  | nil =>
   have e1 : r1.ps.code = 0:=by unfold RS.ps; rw [hm]; rfl
   rw [if_pos e1,if_pos rfl]
  | cons m l =>
   have e1 : r1.ps.code = 112:=by unfold RS.ps; rw [hm]; rfl
   have e2 : r1.ps.place = (m : Nat):=by unfold RS.ps; rw [hm]; rfl
   rw [if_neg (by rw [e1]; decide),if_neg (by simp),e1,e2]
   rfl
 ·rw [h1] at h3; exact absurd h3 (by decide)

theorem fold_depL : ∀ (l : List Ex) (a : Nat),(l.map dep).foldl max a = max a (depL l)
 | [],a => by rw [depL]; simp
 | e :: l,a => by
  rw [List.map_cons,List.foldl_cons,fold_depL l,depL]
  omega

theorem dp_dep : ∀ (n : Nat) (e : Ex),dep e ≤ n → n ≤ 9223372036854775807 → DP e (dep e)
 | 0,e,h,_ => by have:=dep_pos e; omega
 | n + 1,.mk k o v t m ks p,h,hn => by
  rw [dep_mk] at h ⊢
  have hf:=fold_depL ks 0
  have:=DP.mk (kind:=k) (op:=o) (v:=v) (t:=t) (n:=m) (kids:=ks) (pl:=p) (ks.map dep) (by simp) (fun i h1 h2 => by
   rw [List.getElem_map]
   refine dp_dep n _ ?_ (by omega)
   have:=(depL_le ks n).1 (by omega) ks[i] (List.getElem_mem h1)
   exact this) (by rw [hf]; omega)
  rw [hf] at this
  rw [show depL ks = max 0 (depL ks) by omega]
  exact this

theorem deep_all (t : St) : deepS t = (exE t).any (dpr 16):=by
 unfold deepS exE deepL
 simp only [List.any_append,List.any_map]
 cases t.on.any (dpr 16) <;> cases t.whr.any (dpr 16) <;> cases t.items.any (dpr 16) <;> cases t.groups.any (dpr 16) <;> simp [Function.comp_def]

theorem dep_all {n : Nat} {t : St} (h : StB n t) : ∀ e ∈ exE t,dep e ≤ n + 1:=by
 intro e he
 unfold exE at he
 simp only [List.mem_append,List.mem_map] at he
 rcases he with (((he | he) | he) | ⟨x,hx,rfl⟩) | he
 ·exact h.on.2 e he
 ·exact h.whr.2 e he
 ·exact h.items.2 e he
 ·exact h.sets.2 x hx
 ·exact h.groups.2 e he

theorem toks_low {l : List UInt8} {a : Nat} {ts : List T} (h : Toks l a ts) : (∀ x ∈ ts,a ≤ x.2) ∧ ts.Pairwise fun x y => x.2 ≤ y.2:=by
 induction h with
 | @fin l a _ => exact ⟨fun x hx => by simp only [List.mem_singleton] at hx; subst hx; show a ≤ a + _; omega,List.pairwise_singleton _ _⟩
 | @more l a t ts _ _ _ ih =>
  refine ⟨fun x hx => ?_,?_⟩
  ·rcases List.mem_cons.1 hx with rfl | hx
   ·show a ≤ a + _
    omega
   ·have:=ih.1 x hx
    omega
  ·refine List.pairwise_cons.2 ⟨fun x hx => ?_,ih.2⟩
   have:=ih.1 x hx
   show a + skp false l ≤ x.2
   omega

theorem toks_rise {l : List UInt8} {a : Nat} {ts : List T} (h : Toks l a ts) : ∀ i j (hj : j < ts.length) (hi : i ≤ j),ts[i].2 ≤ ts[j].2:=by
 intro i j hj hi
 by_cases e : i = j
 ·subst e; exact Nat.le_refl _
 ·exact List.pairwise_iff_getElem.1 (toks_low h).2 i j (by omega) hj (by omega)

theorem tok_sg {p : List UInt8} {t : Tk} (h : tokR p = (t,0)) (h7 : t.1 = 7) : t.2.2.data.toList ∉ wv:=by
 cases p with
 | nil =>
  have:=(Prod.mk.inj h).1
  rw [← this] at h7
  exact absurd h7 (by decide)
 | cons c l =>
  simp only [tokR] at h
  repeat' split at h
  all_goals obtain ⟨rfl,hz⟩:=Prod.mk.inj h
  all_goals first | (exfalso; simp [tk0] at h7; done) | skip
  rename_i hc
  rw [list_ofL]
  intro hm
  have hw : ∀ x ∈ wv,cls (x.headD 0) ≠ 10:=by decide
  exact hw _ hm hc

theorem toks_sg {l : List UInt8} {a : Nat} {ts : List T} (h : Toks l a ts) : ∀ t ∈ ts,t.1.1 = 7 → t.1.2.2.data.toList ∉ wv:=by
 induction h with
 | fin _ => intro t ht; simp only [List.mem_singleton] at ht; subst ht; exact fun h => absurd h (by simp)
 | more _ h2 _ ih =>
  intro t ht
  rcases List.mem_cons.1 ht with rfl | ht
  ·exact tok_sg h2
  ·exact ih t ht

theorem start_ok {s : List UInt8} {ts : List T} (h : Toks s 0 ts) (hl : ts.length ≤ 1001) : RS.Ok ⟨ts,0,false,[]⟩:=⟨toks_wf h,hl,toks_rise h,toks_sg h,fun _ h => absurd h (by simp),Nat.le_refl _⟩
end Go.Proofs.YtffalonhkemieaaGreatDoor

namespace Go.Proofs.YtffalonhkemieaaGreatDoor
open Go.RowKit
theorem twoq_of {w : World} {x : Nat} {a b : Value} {t : TypeId} (h : w.heap[x]? = some (.cells #[a,b] t (0,0))) : (w.cell? ⟨x,0,none⟩ = some a ∧ w.cell? ⟨x,1,none⟩ = some b) ∧ w.frozen? ⟨x,0,none⟩ = false ∧ w.frozen? ⟨x,1,none⟩ = false:=by
 simp [World.cell?,World.frozen?,h]

theorem setsQ_at {b : Nat} {t : TypeId} {fr : Nat × Nat} : ∀ (vs : List Value) (i : Nat) {w : World} {cs : Array Value},w.heap[b]? = some (.cells cs t fr) → (setsL w b i vs).heap[b]? = some (.cells (putsA cs i vs) t fr)
 | [],_,_,_,h => h
 | v :: vs,i,_,_,h => setsQ_at vs (i + 1) (set_at h v)

theorem setsQ_off {b k : Nat} : ∀ (vs : List Value) (i : Nat) (w : World),k ≠ b → (setsL w b i vs).heap[k]? = w.heap[k]?
 | [],_,_,_ => rfl
 | v :: vs,i,_,h => (setsQ_off vs (i + 1) _ h).trans (set_off v h)

theorem setsQ_below {b B : Nat} : ∀ (vs : List Value) (i : Nat) (w : World),B ≤ b → Below B w (setsL w b i vs)
 | [],_,_,_ => Below.refl _ _
 | v :: vs,i,_,h => ((Below.refl B _).setCell (p:=⟨b,i,none⟩) h v).trans (setsQ_below vs (i + 1) _ h)

theorem puts_all {cs : Array Value} {vs : List Value} (h : vs.length = cs.size) : putsA cs 0 vs = vs.toArray:=by
 apply Array.toList_inj.1
 rw [putsA_list vs cs 0 (by omega)]
 simp [h]

theorem two_sets {wd : World} {B : Nat} {cs ds : Array Value} {t1 t2 : TypeId} (h1 : wd.heap[B]? = some (.cells cs t1 (0,0))) (h2 : wd.heap[B + 1]? = some (.cells ds t2 (0,0))) (vs us : List Value) (hv : vs.length = cs.size) (hu : us.length = ds.size) : (setsL (setsL wd B 0 vs) (B + 1) 0 us).heap[B]? = some (.cells vs.toArray t1 (0,0)) ∧ (setsL (setsL wd B 0 vs) (B + 1) 0 us).heap[B + 1]? = some (.cells us.toArray t2 (0,0)) ∧ Below B wd (setsL (setsL wd B 0 vs) (B + 1) 0 us):=by
 have a1:=setsQ_at vs 0 h1
 have a2:=setsQ_at us 0 ((setsQ_off vs 0 wd (by omega : B + 1 ≠ B)).trans h2)
 rw [puts_all hv] at a1
 rw [puts_all hu] at a2
 exact ⟨(setsQ_off us 0 _ (by omega)).trans a1,a2,(setsQ_below vs 0 wd (Nat.le_refl _)).trans (setsQ_below us 0 _ (Nat.le_succ _))⟩

theorem qParse_any (s : ByteArray) (w : World) : Calls Tryz.prog 10 #[.string s] w (ParseP s w):=by
 obtain ⟨W1,hW1⟩:=Vx (w.alloc (.cells Vq 27))
 have hs1 : W1.heap.size = w.heap.size + 1:=hW1 ▸ (by simp)
 have r1 : W1.heap[w.heap.size]? = some (.cells Vq 27 (0,0)):=hW1 ▸ heap_alloc_new w _
 have k1 : Below w.heap.size w W1:=hW1 ▸ (Below.refl _ _).alloc (Nat.le_refl _) _
 obtain ⟨W2,hW2⟩:=Vx (W1.alloc (.cells #[Vi 0,Vi 0] 30))
 have r2 : W2.heap[w.heap.size + 1]? = some (.cells #[Vi 0,Vi 0] 30 (0,0)):=by have:=heap_alloc_new W1 (.cells #[Vi 0,Vi 0] 30); rw [hW2,hs1] at this; exact this
 have k2 : Below W1.heap.size W1 W2:=hW2 ▸ (Below.refl _ _).alloc (Nat.le_refl _) _
 have R1 : Hid (W2.heap[w.heap.size]? = some (.cells Vq 27 (0,0))):=(k2.block _ (by omega)).trans r1
 have R2:=Hd r2
 have HB : Hid (Below w.heap.size w W2):=k1.trans (k2.mono k1.size)
 have HS1:=Hd hs1
 clear hs1 r1 r2 k1 k2
 go_enter Tryz.func10,Tryz.ntmps10
 go_wp2_with fail
 clear hW1 hW2
 try rw [HS1.out]
 refine (dscan_any s W2).mono ?_
 rintro e w3 ⟨la,lc,ts,p,c,rfl,hsc,hown,hlen,hb3⟩
 have R13:=Hd ((hb3.block _ (Gx R1.out)).trans R1.out)
 have R23:=Hd ((hb3.block _ (Gx R2.out)).trans R2.out)
 have HB3:=Hd (HB.out.trans (hb3.mono HB.out.size))
 have HSC:=Hd hsc
 have HOW:=Hd hown
 have hs3 : w.heap.size + 1 < w3.heap.size:=(Gx R23.out)
 clear hb3 hsc hown R1 R2 HB HS1
 by_cases hc : c = 0
 rotate_left
 ·have hce : (c != 0) = true:=by simpa using hc
  have zs:=thirt_of R13.out
  have zu:=twoq_of R23.out
  have HPF : Hid (ParseIs s (.fault c (p : Int))):=⟨ts,p,c,HSC.out,Or.inl ⟨hc,rfl⟩⟩
  clear hc
  go_wp2
  obtain ⟨V,hV⟩:=Vx (setsL (setsL w3 w.heap.size 0 [Vi 0,Vs,Vs,Vn,Vn,Vn,.bool false,Vn,Vn,Vn,Vn,Vi 0,Vi 0]) (w.heap.size + 1) 0 [Vi c,Vi (p : Int)])
  obtain ⟨g1,g2,gb⟩:=hV ▸ two_sets (wd:=w3) (B:=w.heap.size) R13.out R23.out [Vi 0,Vs,Vs,Vn,Vn,Vn,.bool false,Vn,Vn,Vn,Vn,Vi 0,Vi 0] [Vi c,Vi (p : Int)] rfl rfl
  simp only [setsL,Nat.reduceAdd] at hV
  rw [hV]
  clear hV
  have zy:=(thirt_of g1).1
  obtain ⟨⟨z0,z1⟩,-,-⟩:=twoq_of g2
  exact bodyPost_ret (v:=.tuple #[.agg Vq,.agg #[Vi c,Vi (p : Int)]]) (by simp [results,Tryz.results10,go_sem,zy,z0,z1]) rfl (parse_fault HPF.out (HB3.out.trans gb))
 subst hc
 have htk : Toks s.data.toList 0 ts:=by
  rcases HSC.out with ⟨_,_,_,h⟩ | ⟨_,⟨_,_,h⟩ | ⟨_,h⟩⟩
  ·exact absurd h (by decide)
  ·exact h
  ·exact absurd rfl h.ne
 have HOK:=Hd (start_ok htk hlen)
 have hne : ts ≠ []:=(toks_wf htk).ne
 obtain ⟨g,c9,e9,hBg,hgl,hnc,htr⟩:=tr_own HOW.out hne
 injection e9 with e1 _ e3
 subst e1 e3
 have HPI : Hid (∀ x,stR ⟨ts,0,0⟩ x → ParseIs s (outOf x)):=fun x hx => ⟨ts,p,0,HSC.out,Or.inr ⟨rfl,x,hx,rfl⟩⟩
 obtain ⟨W4,hW4⟩:=Vx (w3.alloc (.cells #[.slice (some ⟨g,0,none⟩) ts.length lc,Vi 0,.bool false,Vn] 59))
 have r4 : W4.heap[w3.heap.size]? = some (.cells #[.slice (some ⟨g,0,none⟩) ts.length lc,Vi 0,.bool false,Vn] 59 (0,0)):=hW4 ▸ heap_alloc_new w3 _
 have k4 : Below w3.heap.size w3 W4:=hW4 ▸ (Below.refl _ _).alloc (Nat.le_refl _) _
 have HRA : Hid (RA W4 w3.heap.size w3.heap.size ⟨ts,0,false,[]⟩):=⟨HOK.out,g,0,lc,none,0,r4,htr.block (k4.block g hgl),hgl,hnc,World.ownsRow_nil _ _ _ _,rfl⟩
 have R14:=Hd ((k4.block _ (Gx R13.out)).trans R13.out)
 have R24:=Hd ((k4.block _ hs3).trans R23.out)
 have HB4:=Hd (HB3.out.trans (k4.mono HB3.out.size))
 have hs4:=k4.size
 clear r4 k4 htr R13 R23 HB3 HOW htk HSC
 go_wp2_with fail
 try rw [hW4]
 clear hW4
 refine (qstatement_f w3.heap.size w3.heap.size ⟨ts,0,false,[]⟩ W4 HRA.out).mono ?_
 rintro e w5 ⟨t,a0,a1,a2,a3,a4,a5,a6,n0,n1,n2,n3,n4,n5,n6,c0,c1,c2,c3,c4,c5,c6,M',r1,rfl,hn,hk,hp,ho,hx⟩
 obtain ⟨rfl,rfl,rfl,rfl,rfl,rfl,rfl⟩:=hn
 have HK:=Hd hk
 have HX:=Hd hx
 have HP5:=Hd hp
 have hz5:=ho.size
 have R15 : Hid (w5.heap[w.heap.size]? = some (.cells Vq 27 (0,0))):=(ho.block _ (by omega) (fun z => by rcases z with z | z <;> omega)).trans R14.out
 have R25 : Hid (w5.heap[w.heap.size + 1]? = some (.cells #[Vi 0,Vi 0] 30 (0,0))):=(ho.block _ (by omega) (fun z => by rcases z with z | z <;> omega)).trans R24.out
 have HB5:=Hd (only_below HB4.out ho (fun k z => by rcases z with z | z <;> omega))
 clear ho hk hx hp R14 R24 HRA HB4
 simp only [stC]
 obtain ⟨W6,hW6⟩:=Vx (w5.alloc (.cells (Vt t.kind t.table t.join (.slice a0 t.on.length c0) (.slice a1 t.whr.length c1) (.slice a2 t.items.length c2) t.star (.slice a3 t.sets.length c3) (.slice a4 t.groups.length c4) (.slice a5 t.sorts.length c5) (.slice a6 t.limit.length c6) t.place t.joinAt) 27))
 have r6 : W6.heap[w5.heap.size]? = some (.cells (Vt t.kind t.table t.join (.slice a0 t.on.length c0) (.slice a1 t.whr.length c1) (.slice a2 t.items.length c2) t.star (.slice a3 t.sets.length c3) (.slice a4 t.groups.length c4) (.slice a5 t.sorts.length c5) (.slice a6 t.limit.length c6) t.place t.joinAt) 27 (0,0)):=hW6 ▸ heap_alloc_new w5 _
 have k6 : Below w5.heap.size w5 W6:=hW6 ▸ (Below.refl _ _).alloc (Nat.le_refl _) _
 have R6:=Hd r6
 have K6:=Hd k6
 have R16:=Hd ((k6.block _ (Gx R15.out)).trans R15.out)
 have R26:=Hd ((k6.block _ (Gx R25.out)).trans R25.out)
 have HB6:=Hd (HB5.out.trans (k6.mono HB5.out.size))
 have HP6:=Hd (HP5.out.later k6)
 clear r6 k6 R15 R25
 obtain ⟨rf,hrf⟩:=Vx (endQ r1)
 have HFW : Hid (rf.wrong = true → ∃ x,stR ⟨ts,0,0⟩ x ∧ outOf x = .fault 110 rf.ps.hd.2):=fun hw => by have:=fin_wrong (r0:=⟨ts,0,false,[]⟩) rfl HK.out (by rw [hrf]; exact hw); rw [hrf] at this; exact this
 have HFR : Hid (rf.wrong = false → stR ⟨ts,0,0⟩ (.ok t r1.ps) ∧ outOf (.ok t r1.ps) = if rf.many = [] then (if deepS t = true then .fault 111 t.place else .st t) else .fault 112 (rf.many.headD 0 : Nat)):=fun hw => by have:=fin_right (r0:=⟨ts,0,false,[]⟩) rfl HK.out (by rw [hrf]; exact hw); rw [hrf] at this; exact this
 rw [hrf] at HP5 HP6 HX
 clear hrf HK
 obtain ⟨g2,off2,cap2,ka,kc,h1,hrow,_,hPl,-,-,-,-,-⟩:=HP6.out.row
 obtain ⟨⟨q0,q1,q2,q3⟩,qf0,qf1,qf2,qf3⟩:=four_of h1
 have HROW:=Hd hrow
 clear h1 hrow
 cases hw : rf.wrong with
 | true =>
  rw [hw] at q2
  obtain ⟨x,hx1,hx2⟩:=HFW.out hw
  have hpi:=HPI.out x hx1
  rw [hx2] at hpi
  obtain ⟨⟨⟨tk,tn,tt⟩,ta⟩,hh⟩ : ∃ x,rf.ps.hd = x:=⟨_,rfl⟩
  rw [hh] at hpi
  have HPF:=Hd hpi
  have HT:=qnh w3.heap.size M' hh
  clear hx1 hx2 hpi hh
  go_wp2_with fail
  try rw [hW6]
  clear hW6
  refine (HT.out _ HP6.out).mono ?_
  rintro e w7 ⟨rfl,hb7⟩
  have R17:=Hd ((hb7.block _ (Gx R16.out)).trans R16.out)
  have R27:=Hd ((hb7.block _ (Gx R26.out)).trans R26.out)
  have HB7:=Hd (HB6.out.trans (hb7.mono HB6.out.size))
  obtain ⟨W8,hW8⟩:=Vx (w7.alloc (.cells (Vk tk tn tt ta) 43))
  have r8 : W8.heap[w7.heap.size]? = some (.cells (Vk tk tn tt ta) 43 (0,0)):=hW8 ▸ heap_alloc_new w7 _
  have k8 : Below w7.heap.size w7 W8:=hW8 ▸ (Below.refl _ _).alloc (Nat.le_refl _) _
  obtain ⟨⟨k0,k1,k2,k3⟩,kf0,kf1,kf2,kf3⟩:=four_of r8
  have HB8:=Hd (HB7.out.trans (k8.mono HB7.out.size))
  have R18:=Hd ((k8.block _ (Gx R17.out)).trans R17.out)
  have R28:=Hd ((k8.block _ (Gx R27.out)).trans R27.out)
  clear hb7 k8 r8
  have zs:=thirt_of R18.out
  have zu:=twoq_of R28.out
  have hz7 : w.heap.size + 1 < w7.heap.size:=(Gx R27.out)
  have hz8 : w.heap.size + 1 < W8.heap.size:=(Gx R28.out)
  go_wp2
  try rw [hW8]
  clear hW8
  go_region
  all_goals
   go_wp2
   first
   | ((obtain ⟨V,hV⟩ : ∃ V,setsL (setsL W8 w.heap.size 0 [Vi 0,Vs,Vs,Vn,Vn,Vn,.bool false,Vn,Vn,Vn,Vn,Vi 0,Vi 0]) (w.heap.size + 1) 0 [Vi 110,Vi (ta : Int)] = V:=⟨_,rfl⟩); (obtain ⟨g1,g2,gb⟩:=hV ▸ two_sets (wd:=W8) (B:=w.heap.size) R18.out R28.out [Vi 0,Vs,Vs,Vn,Vn,Vn,.bool false,Vn,Vn,Vn,Vn,Vi 0,Vi 0] [Vi 110,Vi (ta : Int)] rfl rfl); (simp only [setsL,Nat.reduceAdd] at hV); (rw [hV]); (clear hV); (have zy:=(thirt_of g1).1); (obtain ⟨⟨z0,z1⟩,-,-⟩:=twoq_of g2); (exact bodyPost_ret (v:=.tuple #[.agg Vq,.agg #[Vi 110,Vi (ta : Int)]]) (by simp [results,Tryz.results10,go_sem,zy,z0,z1]) rfl (parse_fault HPF.out (HB8.out.trans gb).drew)))
   | ((obtain ⟨V,hV⟩ : ∃ V,setsL (setsL W8 (w.heap.size + 1) 0 [Vi 110,Vi (ta : Int)]) w.heap.size 0 [Vi 0,Vs,Vs,Vn,Vn,Vn,.bool false,Vn,Vn,Vn,Vn,Vi 0,Vi 0] = V:=⟨_,rfl⟩); (obtain ⟨g1,g2,gb⟩:=hV ▸ two_sets2 (wd:=W8) (B:=w.heap.size) R18.out R28.out [Vi 0,Vs,Vs,Vn,Vn,Vn,.bool false,Vn,Vn,Vn,Vn,Vi 0,Vi 0] [Vi 110,Vi (ta : Int)] rfl rfl); (simp only [setsL,Nat.reduceAdd] at hV); (rw [hV]); (clear hV); (have zy:=(thirt_of g1).1); (obtain ⟨⟨z0,z1⟩,-,-⟩:=twoq_of g2); (exact bodyPost_ret (v:=.tuple #[.agg Vq,.agg #[Vi 110,Vi (ta : Int)]]) (by simp [results,Tryz.results10,go_sem,zy,z0,z1]) rfl (parse_fault HPF.out (HB8.out.trans gb).drew)))
 | false =>
  rw [hw] at q2
  obtain ⟨hst,hout⟩:=HFR.out hw
  have hpi:=HPI.out _ hst
  rw [hout] at hpi
  have HPI2:=Hd hpi
  have HSTO:=Hd ((HX.out hw).out)
  have HSTB:=Hd (Bd.st (n:=1001) ⟨ts,0,0⟩ t r1.ps hlen hst).2
  have HLOW:=Hd HP6.out.ok.low
  have hcap:=HP6.out.ok.cap
  have hpos2:=HP6.out.ok.pos
  have hlen2:=HP6.out.ok.len
  clear HPI HFR HFW hst hout hpi HX
  cases hm : rf.many with
  | cons m0 ml =>
   rw [hm] at HPI2 HROW HLOW q3 hcap
   have HPF : Hid (ParseIs s (.fault 112 (m0 : Int))):=by have:=HPI2.out; rw [if_neg (by simp)] at this; exact this
   obtain ⟨pk,pc,e,hpc,hpm,hcell⟩:=own_row HROW.out
   injection e with e1 _ e3
   subst e1 e3
   obtain ⟨b,e4,z0⟩:=hcell 0 (Vi (m0 : Int)) rfl
   subst e4
   have HCL : Hid (∀ j (h : j < (m0 :: ml).length),W6.cell? ⟨b,j,none⟩ = some (Vi (((m0 :: ml)[j] : Nat) : Int))):=fun j h => by
    obtain ⟨b2,e5,z⟩:=hcell j (Vi (((m0 :: ml)[j] : Nat) : Int)) (by rw [List.getElem?_map,List.getElem?_eq_getElem h]; rfl)
    injection e5 with e5
    injection e5 with e5 _ _
    rw [e5]
    exact z
   have HLE : Hid (∀ j (h : j < (m0 :: ml).length),m0 ≤ (m0 :: ml)[j]):=fun j h => (HLOW.out _ (List.getElem_mem h)).1
   obtain ⟨N,hN⟩:=Vx ((m0 :: ml).length)
   rw [hN] at q3 hpc hcap
   have hN0 : (0 : Int) < (N : Int):=by have h1 : 0 < N:=hN ▸ Nat.succ_pos _; omega
   have hN1 : N ≤ 1001:=by omega
   have HNN:=Hd hN
   clear hN hcell HLOW HROW HPI2 hw hm hpm
   go_wp2_with fail
   try rw [hW6]
   clear hW6
   go_loopw [10,11] (fun v i wr => ∃ k : Nat,k ≤ N ∧ v = Vi (m0 : Int) ∧ i = Vi (k : Int) ∧ wr = W6) (fun _ i _ => N - (intOf i).toNat)
   case atStart => exact ⟨0,Nat.zero_le _,rfl,rfl,rfl⟩
   case round =>
    obtain ⟨k,hk,rfl,rfl,hwr⟩:=hrel
    subst hwr
    by_cases hlt : k < N
    ·have hlti : (k : Int) < (N : Int):=by omega
     have hkl : k < (m0 :: ml).length:=by rw [HNN.out]; exact hlt
     have z1:=HCL.out k hkl
     have hle:=HLE.out k hkl
     obtain ⟨mk,hmk⟩:=Vx ((m0 :: ml)[k])
     rw [hmk] at z1 hle
     have hmin : min (m0 : Int) (mk : Int) = (m0 : Int):=by omega
     have hnlt2 : ¬ ((mk : Int) < (m0 : Int)):=by omega
     have hle2 : (m0 : Int) ≤ (mk : Int):=by omega
     clear hmk hkl
     go_wp2
     go_roundw
     case rel => exact ⟨k + 1,by omega,rfl,by go_num,by first | rfl | trivial⟩
     case measure => simp [intOf]; omega
    ·have hnlt : ¬ (k : Int) < (N : Int):=by omega
     have zs:=thirt_of R16.out
     have zu:=twoq_of R26.out
     have hz6 : w.heap.size + 1 < wr.heap.size:=(Gx R26.out)
     clear hk hlt
     go_wp2
     obtain ⟨V,hV⟩:=Vx (setsL (setsL wr w.heap.size 0 [Vi 0,Vs,Vs,Vn,Vn,Vn,.bool false,Vn,Vn,Vn,Vn,Vi 0,Vi 0]) (w.heap.size + 1) 0 [Vi 112,Vi (m0 : Int)])
     obtain ⟨g1,g2,gb⟩:=hV ▸ two_sets (wd:=wr) (B:=w.heap.size) R16.out R26.out [Vi 0,Vs,Vs,Vn,Vn,Vn,.bool false,Vn,Vn,Vn,Vn,Vi 0,Vi 0] [Vi 112,Vi (m0 : Int)] rfl rfl
     simp only [setsL,Nat.reduceAdd] at hV
     rw [hV]
     clear hV
     have zy:=(thirt_of g1).1
     obtain ⟨⟨z0,z1⟩,-,-⟩:=twoq_of g2
     exact bodyPost_ret (v:=.tuple #[.agg Vq,.agg #[Vi 112,Vi (m0 : Int)]]) (by simp [results,Tryz.results10,go_sem,zy,z0,z1]) rfl (parse_fault HPF.out (HB6.out.trans gb))
  | nil =>
   rw [hm] at HPI2 q3
   rw [if_pos rfl] at HPI2
   have HST6 : Hid (StO W6 W4.heap.size t (.slice a0 t.on.length c0) (.slice a1 t.whr.length c1) (.slice a2 t.items.length c2) (.slice a3 t.sets.length c3) (.slice a4 t.groups.length c4) (.slice a5 t.sorts.length c5) (.slice a6 t.limit.length c6)):=HSTO.out.keep fun g _ hl => K6.out.block g hl
   have hz4 : w.heap.size ≤ W4.heap.size:=by omega
   clear HROW HLOW hcap hpos2 hlen2 hm HSTO hw
   have zd:=(thirt_of R6.out).1
   go_wp2_with fail
   try rw [hW6]
   clear hW6
   refine (qExprs_any t a0 a1 a2 a3 a4 a5 a6 c0 c1 c2 c3 c4 c5 c6 W6 HST6.out.rd HSTB.out).mono ?_
   rintro e w7 ⟨ks,pe,ce,rfl,hlk,hlc,hlm,hrow,hb7,hxr⟩
   have HLK:=Hd hlk
   have HR7:=Hd hrow
   have HXR : Hid (∀ i (h : i < (exE t).length) (h' : i < ks.length),XR w7 (exE t)[i] ks[i]):=fun i h h' => (hxr i h h').later hb7
   have HB7:=Hd (HB6.out.trans (hb7.mono HB6.out.size))
   have R17:=Hd ((hb7.block _ (Gx R16.out)).trans R16.out)
   have R27:=Hd ((hb7.block _ (Gx R26.out)).trans R26.out)
   have R7:=Hd ((hb7.block _ (Gx R6.out)).trans R6.out)
   have HST7:=Hd (HST6.out.keep fun g _ hl => hb7.block g hl)
   have hz7 : w5.heap.size < w7.heap.size:=(Gx R7.out)
   have hz71 : w.heap.size + 1 < w7.heap.size:=(Gx R27.out)
   obtain ⟨N,hN⟩:=Vx ((exE t).length)
   rw [hN] at hlc hlm ⊢
   have HN:=Hd hN
   clear hlk hrow hxr hb7 HST6 R16 R26 HB6 R6 hN zd
   go_wp2_with fail
   go_loopw [13] (fun i wr => ∃ k : Nat,k ≤ N ∧ i = Vi (k : Int) ∧ (∀ j (h : j < (exE t).length),j < k → dep (exE t)[j] ≤ 16) ∧ Below w7.heap.size w7 wr) (fun i _ => N - (intOf i).toNat)
   case atStart => exact ⟨0,Nat.zero_le _,rfl,fun _ _ h => absurd h (Nat.not_lt_zero _),Below.refl _ _⟩
   case round =>
    obtain ⟨k,hk,rfl,hall,hbr⟩:=hrel
    have HALL:=Hd hall
    have HBR:=Hd hbr
    have R1r:=Hd ((hbr.block _ (Gx R17.out)).trans R17.out)
    have R2r:=Hd ((hbr.block _ (Gx R27.out)).trans R27.out)
    have R7r:=Hd ((hbr.block _ (Gx R7.out)).trans R7.out)
    have HBw:=Hd (HB7.out.trans (hbr.mono HB7.out.size))
    clear hall hbr
    by_cases hlt : k < N
    ·have hlti : (k : Int) < (N : Int):=by omega
     have hkl : k < (exE t).length:=by rw [HN.out]; exact hlt
     have hkk : k < ks.length:=by rw [← HLK.out]; exact hkl
     obtain ⟨b,off,e4,g⟩:=HR7.out k hkl hkk
     have hx:=HXR.out k hkl hkk
     obtain ⟨pc,mc,cc,hks⟩:=hx.slice
     rw [hks] at g hx
     have hdl:=dep_all HSTB.out _ (List.getElem_mem hkl)
     have HST8 : Hid (∀ j (h : j < (exE t).length),j < k + 1 → j < k ∨ j = k):=fun j _ h => by omega
     obtain ⟨⟨kk,oo,⟨v1,v2,v3⟩,tt,nn,ksk,pp⟩,ek⟩ : ∃ z,(exE t)[k] = z:=⟨_,rfl⟩
     rw [ek] at g hx hdl
     have HEK:=Hd ek
     subst e4
     have p0:=Cl HBR.out (g 0 _ rfl)
     have p1:=Cl HBR.out (g 1 _ rfl)
     have p2:=Cl HBR.out (g 2 _ rfl)
     have p3:=Cl HBR.out (g 3 _ rfl)
     have p4:=Cl HBR.out (g 4 _ rfl)
     have p5:=Cl HBR.out (g 5 _ rfl)
     have p6:=Cl HBR.out (g 6 _ rfl)
     have p7:=Cl HBR.out (g 7 _ rfl)
     have p8:=Cl HBR.out (g 8 _ rfl)
     simp only [Nat.add_zero] at p0
     have HDP:=Hd (depth_any (Ex.mk kk oo (v1,v2,v3) tt nn ksk pp) (dep (Ex.mk kk oo (v1,v2,v3) tt nn ksk pp)) (dp_dep 1002 _ hdl (by decide)) (.slice pc mc cc))
     simp only [exC] at HDP
     obtain ⟨D,hD⟩:=Vx (dep (Ex.mk kk oo (v1,v2,v3) tt nn ksk pp))
     rw [hD] at HDP hdl
     have HD:=Hd hD
     have HXK:=Hd hx
     clear g hx hks ek hD
     go_wp2_with fail
     refine (HDP.out _ (HXK.out.later HBR.out)).mono ?_
     rintro e w9 ⟨rfl,hb9⟩
     have HB9:=Hd (HBR.out.trans (hb9.mono HBR.out.size))
     have HB9w:=Hd (HBw.out.trans (hb9.mono HBw.out.size))
     have R19:=Hd ((hb9.block _ (Gx R1r.out)).trans R1r.out)
     have R29:=Hd ((hb9.block _ (Gx R2r.out)).trans R2r.out)
     have R79:=Hd ((hb9.block _ (Gx R7r.out)).trans R7r.out)
     clear hb9
     by_cases h16 : D ≤ 16
     ·have hd16 : ¬ ((16 : Int) < (D : Int)):=by omega
      have HALL2 : Hid (∀ j (h : j < (exE t).length),j < k + 1 → dep (exE t)[j] ≤ 16):=fun j h hj => by
       by_cases e : j = k
       ·subst e; rw [HEK.out,HD.out]; exact h16
       ·exact HALL.out j h (by omega)
      go_wp2
      go_roundw
      case rel => exact ⟨k + 1,by omega,by go_num,HALL2.out,HB9.out⟩
      case measure => simp [intOf]; omega
     ·have hd16 : (16 : Int) < (D : Int):=by omega
      have HPF : Hid (ParseIs s (.fault 111 t.place)):=by have:=HPI2.out; rw [if_pos (by rw [deep_all,List.any_eq_true]; exact ⟨_,List.getElem_mem hkl,by rw [dpr_dep,HEK.out,HD.out]; simp; omega⟩)] at this; exact this
      have zd:=(thirt_of R79.out).1
      have zs:=thirt_of R19.out
      have zu:=twoq_of R29.out
      have hz9 : w5.heap.size < w9.heap.size:=(Gx R79.out)
      go_wp2
      go_region
      all_goals
       go_wp2
       first
       | ((obtain ⟨V,hV⟩ : ∃ V,setsL (setsL w9 w.heap.size 0 [Vi 0,Vs,Vs,Vn,Vn,Vn,.bool false,Vn,Vn,Vn,Vn,Vi 0,Vi 0]) (w.heap.size + 1) 0 [Vi 111,Vi t.place] = V:=⟨_,rfl⟩); (obtain ⟨g1,g2,gb⟩:=hV ▸ two_sets (wd:=w9) (B:=w.heap.size) R19.out R29.out [Vi 0,Vs,Vs,Vn,Vn,Vn,.bool false,Vn,Vn,Vn,Vn,Vi 0,Vi 0] [Vi 111,Vi t.place] rfl rfl); (simp only [setsL,Nat.reduceAdd] at hV); (rw [hV]); (clear hV); (have zy:=(thirt_of g1).1); (obtain ⟨⟨z0,z1⟩,-,-⟩:=twoq_of g2); (exact bodyPost_ret (v:=.tuple #[.agg Vq,.agg #[Vi 111,Vi t.place]]) (by simp [results,Tryz.results10,go_sem,zy,z0,z1]) rfl (parse_fault HPF.out (HB9w.out.trans gb).drew)))
       | ((obtain ⟨V,hV⟩ : ∃ V,setsL (setsL w9 (w.heap.size + 1) 0 [Vi 111,Vi t.place]) w.heap.size 0 [Vi 0,Vs,Vs,Vn,Vn,Vn,.bool false,Vn,Vn,Vn,Vn,Vi 0,Vi 0] = V:=⟨_,rfl⟩); (obtain ⟨g1,g2,gb⟩:=hV ▸ two_sets2 (wd:=w9) (B:=w.heap.size) R19.out R29.out [Vi 0,Vs,Vs,Vn,Vn,Vn,.bool false,Vn,Vn,Vn,Vn,Vi 0,Vi 0] [Vi 111,Vi t.place] rfl rfl); (simp only [setsL,Nat.reduceAdd] at hV); (rw [hV]); (clear hV); (have zy:=(thirt_of g1).1); (obtain ⟨⟨z0,z1⟩,-,-⟩:=twoq_of g2); (exact bodyPost_ret (v:=.tuple #[.agg Vq,.agg #[Vi 111,Vi t.place]]) (by simp [results,Tryz.results10,go_sem,zy,z0,z1]) rfl (parse_fault HPF.out (HB9w.out.trans gb).drew)))
    ·have hnlt : ¬ (k : Int) < (N : Int):=by omega
     have HPF : Hid (ParseIs s (.st t)):=by have:=HPI2.out; rw [if_neg (by rw [deep_all,List.any_eq_true]; rintro ⟨e,he,hd⟩; obtain ⟨j,hj,rfl⟩:=List.mem_iff_getElem.1 he; rw [dpr_dep] at hd; have h1:=HALL.out j hj (by have:=HN.out; omega); simp at hd; omega)] at this; exact this
     have HSTr:=Hd (HST7.out.keep fun g _ hl => HBR.out.block g hl)
     have zd:=(thirt_of R7r.out).1
     have zs:=thirt_of R1r.out
     have zu:=twoq_of R2r.out
     have hzr : w5.heap.size < wr.heap.size:=(Gx R7r.out)
     go_wp2
     obtain ⟨V1,hV1⟩:=Vx (setsL wr w.heap.size 0 [Vi t.kind,.string t.table,.string t.join,.slice a0 t.on.length c0,.slice a1 t.whr.length c1,.slice a2 t.items.length c2,.bool t.star,.slice a3 t.sets.length c3,.slice a4 t.groups.length c4,.slice a5 t.sorts.length c5,.slice a6 t.limit.length c6,Vi t.place,Vi t.joinAt])
     have V1h:=setsQ_at (b:=w.heap.size) [Vi t.kind,.string t.table,.string t.join,.slice a0 t.on.length c0,.slice a1 t.whr.length c1,.slice a2 t.items.length c2,.bool t.star,.slice a3 t.sets.length c3,.slice a4 t.groups.length c4,.slice a5 t.sorts.length c5,.slice a6 t.limit.length c6,Vi t.place,Vi t.joinAt] 0 R1r.out
     rw [hV1] at V1h
     have V1o : ∀ k,k ≠ w.heap.size → V1.heap[k]? = wr.heap[k]?:=fun k hk => hV1 ▸ setsQ_off _ _ _ hk
     have V1b : Below w.heap.size wr V1:=hV1 ▸ setsQ_below _ _ _ (Nat.le_refl _)
     simp only [setsL,Nat.reduceAdd] at hV1
     rw [hV1]
     clear hV1
     obtain ⟨V2,hV2⟩:=Vx (setsL V1 (w.heap.size + 1) 0 [Vi 0,Vi 0])
     have V2h:=setsQ_at (b:=w.heap.size + 1) [Vi 0,Vi 0] 0 ((V1o _ (by omega)).trans R2r.out)
     rw [hV2] at V2h
     have V2o : ∀ k,k ≠ w.heap.size + 1 → V2.heap[k]? = V1.heap[k]?:=fun k hk => hV2 ▸ setsQ_off _ _ _ hk
     have V2b : Below w.heap.size V1 V2:=hV2 ▸ setsQ_below _ _ _ (by omega)
     simp only [setsL,Nat.reduceAdd] at hV2
     rw [hV2]
     clear hV2
     simp only [putsA,Sa,Sb,Sc] at V1h V2h
     have zy:=(thirt_of ((V2o _ (by omega)).trans V1h)).1
     obtain ⟨⟨z0,z1⟩,-,-⟩:=twoq_of V2h
     have HSTV : Hid (StV V2 w.heap.size t (.agg (Vt t.kind t.table t.join (.slice a0 t.on.length c0) (.slice a1 t.whr.length c1) (.slice a2 t.items.length c2) t.star (.slice a3 t.sets.length c3) (.slice a4 t.groups.length c4) (.slice a5 t.sorts.length c5) (.slice a6 t.limit.length c6) t.place t.joinAt))):=⟨a0,a1,a2,a3,a4,a5,a6,c0,c1,c2,c3,c4,c5,c6,rfl,(HSTr.out.keep fun g hg _ => (V2o g (by omega)).trans (V1o g (by omega))).mono hz4⟩
     have HBV:=Hd (HBw.out.trans (V1b.trans V2b))
     clear V1h V2h V1o V2o V1b V2b
     exact bodyPost_ret (v:=.tuple #[.agg (Vt t.kind t.table t.join (.slice a0 t.on.length c0) (.slice a1 t.whr.length c1) (.slice a2 t.items.length c2) t.star (.slice a3 t.sets.length c3) (.slice a4 t.groups.length c4) (.slice a5 t.sorts.length c5) (.slice a6 t.limit.length c6) t.place t.joinAt),.agg #[Vi 0,Vi 0]]) (by simp [results,Tryz.results10,go_sem,zy,z0,z1]) rfl (parse_st HPF.out HBV.out HSTV.out)

def spX : List Value:=[Vi (-7),Vi 0,Vi 0,Vi 0,Vs,Vs,Vs,Vn,Vi 0]

def spS : List Value:=[.string ⟨#[115,112,111,105,108,116]⟩,Vi 0,Vi 0,Vi 0,Vi 0,Vs,Vs,Vs,Vn,Vi 0,Vi 0]

def Chk (n : Nat) (sp : List Value) (cs cs' : Array Value) : Prop:=cs'.size = cs.size ∧ ∀ q,(∀ j,j < n → cs'[q * n + j]? = cs[q * n + j]?) ∨ ∀ j,j < n → cs'[q * n + j]? = sp[j]?

theorem Chk.refl (n : Nat) (sp : List Value) (cs : Array Value) : Chk n sp cs cs:=⟨rfl,fun _ => Or.inl fun _ _ => rfl⟩

theorem Chk.trans {n : Nat} {sp : List Value} {a b c : Array Value} (h : Chk n sp a b) (k : Chk n sp b c) : Chk n sp a c:=by
 refine ⟨k.1.trans h.1,fun q => ?_⟩
 rcases k.2 q with k | k
 ·rcases h.2 q with h | h
  ·exact Or.inl fun j hj => (k j hj).trans (h j hj)
  ·exact Or.inr fun j hj => (k j hj).trans (h j hj)
 ·exact Or.inr k

theorem Chk.puts {n : Nat} {sp : List Value} {cs : Array Value} {i : Nat} (hs : sp.length = n) (hn : 0 < n) (hi : i * n + n ≤ cs.size) : Chk n sp cs (putsA cs (i * n) sp):=by
 have hl:=putsA_list sp cs (i * n) (by omega)
 have hsz : (putsA cs (i * n) sp).size = cs.size:=by
  have:=congrArg List.length hl
  simp at this
  omega
 have hg : ∀ x,(putsA cs (i * n) sp)[x]? = (cs.toList.take (i * n) ++ sp ++ cs.toList.drop (i * n + sp.length))[x]?:=fun x => by
  rw [← hl,Array.getElem?_toList]
 refine ⟨hsz,fun q => ?_⟩
 by_cases e : q = i
 ·subst e
  refine Or.inr fun j hj => ?_
  rw [hg,List.append_assoc,List.getElem?_append_right (by simp; omega)]
  have e1 : q * n + j - (cs.toList.take (q * n)).length = j:=by simp; omega
  rw [e1,List.getElem?_append_left (by omega)]
 ·refine Or.inl fun j hj => ?_
  rw [hg]
  rcases Nat.lt_or_gt_of_ne e with h | h
  ·have h1 : q * n + n ≤ i * n:=by
    have:=Nat.mul_le_mul_right n (show q + 1 ≤ i by omega)
    rw [Nat.succ_mul] at this
    exact this
   rw [List.append_assoc,List.getElem?_append_left (by simp; omega),List.getElem?_take]
   rw [if_pos (by omega)]
   simp
  ·have h1 : i * n + n ≤ q * n:=by
    have:=Nat.mul_le_mul_right n (show i + 1 ≤ q by omega)
    rw [Nat.succ_mul] at this
    exact this
   rw [List.getElem?_append_right (by simp; omega),List.getElem?_drop]
   have e2 : i * n + sp.length + (q * n + j - (cs.toList.take (i * n) ++ sp).length) = q * n + j:=by simp; omega
   rw [e2]
   simp

structure Spl (Z : Nat → Prop) (w w' : World) : Prop where
 os : w'.os = w.os
 tape : w'.tape = w.tape
 output : w'.output = w.output
 size : w.heap.size ≤ w'.heap.size
 block : ∀ k,k < w.heap.size → ¬ Z k → w'.heap[k]? = w.heap[k]?
 zone : ∀ k cs t fr,Z k → w.heap[k]? = some (.cells cs t fr) → ∃ cs',w'.heap[k]? = some (.cells cs' t fr) ∧ cs'.size = cs.size ∧ (t = 48 → Chk 9 spX cs cs') ∧ (t = 65 → Chk 11 spS cs cs')

theorem Spl.refl (Z : Nat → Prop) (w : World) : Spl Z w w:=⟨rfl,rfl,rfl,Nat.le_refl _,fun _ _ _ => rfl,fun _ cs _ _ _ h => ⟨cs,h,rfl,fun _ => Chk.refl _ _ _,fun _ => Chk.refl _ _ _⟩⟩

theorem Spl.trans {Z : Nat → Prop} {a b c : World} (h : Spl Z a b) (k : Spl Z b c) : Spl Z a c:=by
 refine ⟨k.os.trans h.os,k.tape.trans h.tape,k.output.trans h.output,Nat.le_trans h.size k.size,fun i hi hz => (k.block i (Nat.lt_of_lt_of_le hi h.size) hz).trans (h.block i hi hz),fun i cs t fr hz hc => ?_⟩
 obtain ⟨cs1,h1,h2,h3,h4⟩:=h.zone i cs t fr hz hc
 obtain ⟨cs2,k1,k2,k3,k4⟩:=k.zone i cs1 t fr hz h1
 exact ⟨cs2,k1,k2.trans h2,fun e => (h3 e).trans (k3 e),fun e => (h4 e).trans (k4 e)⟩

theorem Spl.below {Z : Nat → Prop} {w w' : World} (h : Below w.heap.size w w') : Spl Z w w' :=
 ⟨h.os,h.tape,h.output,h.size,fun k hk _ => h.block k hk,fun k cs _ _ _ hc => ⟨cs,(h.block k (Gx hc)).trans hc,rfl,fun _ => Chk.refl _ _ _,fun _ => Chk.refl _ _ _⟩⟩

theorem setsL_frame {b : Nat} : ∀ (vs : List Value) (i : Nat) (w : World),(setsL w b i vs).os = w.os ∧ (setsL w b i vs).tape = w.tape ∧ (setsL w b i vs).output = w.output ∧ (setsL w b i vs).heap.size = w.heap.size
 | [],_,_ => ⟨rfl,rfl,rfl,rfl⟩
 | v :: vs,i,w => by
  obtain ⟨h1,h2,h3,h4⟩:=setsL_frame (b:=b) vs (i + 1) (w.setCell ⟨b,i,none⟩ v)
  exact ⟨h1,h2,h3,h4.trans (set_size _ _ _)⟩

theorem Spl.piece {Z : Nat → Prop} {w : World} {b i n : Nat} {cs : Array Value} {t : TypeId} {sp : List Value} (hz : Z b) (hb : w.heap[b]? = some (.cells cs t (0,0))) (hs : sp.length = n) (hn : 0 < n) (hi : i * n + n ≤ cs.size) (hx : t = 48 → n = 9 ∧ sp = spX) (hse : t = 65 → n = 11 ∧ sp = spS) : Spl Z w (setsL w b (i * n) sp):=by
 obtain ⟨f1,f2,f3,f4⟩:=setsL_frame (b:=b) sp (i * n) w
 have hc:=Chk.puts (cs:=cs) hs hn hi
 refine ⟨f1,f2,f3,Nat.le_of_eq f4.symm,fun k _ hk => setsQ_off sp _ w (fun e => hk (e ▸ hz)),fun k cs1 t1 fr _ hk => ?_⟩
 by_cases e : k = b
 ·subst e
  rw [hb] at hk
  injection hk with hk
  injection hk with e1 e2 e3
  subst e1 e2 e3
  refine ⟨_,setsQ_at sp _ hb,hc.1,fun e => ?_,fun e => ?_⟩
  ·obtain ⟨rfl,rfl⟩:=hx e
   exact hc
  ·obtain ⟨rfl,rfl⟩:=hse e
   exact hc
 ·exact ⟨cs1,(setsQ_off sp _ w e).trans hk,rfl,fun _ => Chk.refl _ _ _,fun _ => Chk.refl _ _ _⟩

def SpK (Z : Nat → Prop) (w : World) : Nat → Value → Prop
 | 0,k => ∃ p c,k = .slice p 0 c
 | n + 1,k => ∃ p m c,k = .slice p m c ∧ m ≤ c ∧ m ≤ 9223372036854775807 ∧ (m = 0 ∨ ∃ b cs,p = some ⟨b,0,none⟩ ∧ Z b ∧ w.heap[b]? = some (.cells cs 48 (0,0)) ∧ ∀ i,i < m → i * 9 + 9 ≤ cs.size ∧ ∃ (kk oo v1 v2 : Int) (v3 tt nn : ByteArray) (k2 : Value) (pp : Int),(∀ j u,[Value.int .i64 kk,Vi oo,Vi v1,Vi v2,.string v3,.string tt,.string nn,k2,Vi pp][j]? = some u → cs[i * 9 + j]? = some u) ∧ SpK Z w n k2)

theorem SpK.nil (Z : Nat → Prop) (w : World) (p : Option Addr) (c : Nat) : ∀ n,SpK Z w n (.slice p 0 c)
 | 0 => ⟨p,c,rfl⟩
 | _ + 1 => ⟨p,0,c,rfl,Nat.zero_le _,Nat.zero_le _,Or.inl rfl⟩

theorem SpK.keep {Z : Nat → Prop} {w w' : World} (h : Spl Z w w') : ∀ {n : Nat} {k : Value},SpK Z w n k → SpK Z w' n k
 | 0,_,hk => hk
 | n + 1,k,⟨p,m,c,e,h1,h2,h3⟩ => by
  refine ⟨p,m,c,e,h1,h2,h3.imp id ?_⟩
  rintro ⟨b,cs,e2,hz,hb,hall⟩
  obtain ⟨cs',hb',hsz,hch,_⟩:=h.zone b cs _ _ hz hb
  refine ⟨b,cs',e2,hz,hb',fun i hi => ?_⟩
  obtain ⟨h9,kk,oo,v1,v2,v3,tt,nn,k2,pp,hc,hk2⟩:=hall i hi
  refine ⟨by rw [hsz]; exact h9,?_⟩
  rcases (hch rfl).2 i with hq | hq
  ·refine ⟨kk,oo,v1,v2,v3,tt,nn,k2,pp,fun j u hu => ?_,SpK.keep h hk2⟩
   have hj : j < 9:=(List.getElem?_eq_some_iff.1 hu).1
   rw [hq j hj]
   exact hc j u hu
  ·refine ⟨-7,0,0,0,⟨#[]⟩,⟨#[]⟩,⟨#[]⟩,Vn,0,fun j u hu => ?_,SpK.nil _ _ _ _ _⟩
   have hj : j < 9:=(List.getElem?_eq_some_iff.1 hu).1
   rw [hq j hj]
   exact hu

theorem SpK.slice {Z : Nat → Prop} {w : World} {n : Nat} {k : Value} (h : SpK Z w n k) : ∃ p m c,k = .slice p m c:=by
 cases n with
 | zero => obtain ⟨p,c,e⟩:=h; exact ⟨p,0,c,e⟩
 | succ n => obtain ⟨p,m,c,e,_⟩:=h; exact ⟨p,m,c,e⟩

theorem row_cell {w : World} {b x : Nat} {cs : Array Value} {t : TypeId} {fr : Nat × Nat} {u : Value} (h : w.heap[b]? = some (.cells cs t fr)) (hc : w.cell? ⟨b,x,none⟩ = some u) : cs[x]? = some u:=by
 rw [cell_of_row w b x cs t fr h] at hc
 exact hc

theorem XO.sp {Z : Nat → Prop} {w : World} {B : Nat} (hZ : ∀ g,B ≤ g → g < w.heap.size → Z g) : ∀ (n : Nat) (e : Ex) (k : Value),XO w B e k → dep e ≤ n + 1 → SpK Z w n k:=by
 intro n
 induction n with
 | zero =>
  intro e k h hd
  cases h with
  | @mk kind op v t n kids p k ks h1 h2 h3 =>
   rw [dep_mk] at hd
   have hk : kids = []:=by
    cases kids with
    | nil => rfl
    | cons x l => rw [depL] at hd; have:=dep_pos x; omega
   subst hk
   obtain ⟨p,c,e⟩:=own_form h2
   exact ⟨p,c,e⟩
 | succ n ih =>
  intro e k h hd
  cases h with
  | @mk kind op v t nm kids p k ks h1 h2 h3 =>
   rw [dep_mk] at hd
   have hkd:=(depL_le kids (n + 1)).1 (by omega)
   have hh:=h2
   obtain ⟨_,⟨rfl,_⟩ | ⟨g,cap,cur,rfl,hg1,hg2,hg3,hg4,_,_⟩⟩:=h2
   ·exact SpK.nil _ _ _ _ _
   ·refine ⟨_,_,_,rfl,hg3,by unfold maxLen at hg4; omega,Or.inr ⟨g,_,rfl,hZ g hg1 (Gx hg2),hg2,fun i hi => ?_⟩⟩
    have hi' : i < ks.length:=by rw [← h1]; exact hi
    have hcell : ∀ j u,(exC kids[i] ks[i])[j]? = some u → cur[i * 9 + j]? = some u:=fun j u hu => by
     have:=hh.cells (g:=g) rfl _ _ (getElem?_xcs kids ks i j u hi hi' hu)
     rw [add_lit0] at this
     exact row_cell hg2 this
    have hsp:=ih kids[i] ks[i] (h3 i hi hi') (hkd _ (List.getElem_mem hi))
    refine ⟨?_,?_⟩
    ·have h8 : (exC kids[i] ks[i])[8]? ≠ none:=by
      intro e
      have:=List.getElem?_eq_none_iff.1 e
      rw [exC_len] at this
      omega
     obtain ⟨u,hu⟩:=Option.ne_none_iff_exists'.1 h8
     have:=(Array.getElem?_eq_some_iff.1 (hcell 8 u hu)).1
     omega
    ·obtain ⟨⟨kk,oo,⟨v1,v2,v3⟩,tt,nn,kk2,pp⟩,ek⟩ : ∃ x,kids[i] = x:=⟨_,rfl⟩
     rw [ek] at hcell
     exact ⟨kk,oo,v1,v2,v3,tt,nn,ks[i],pp,hcell,hsp⟩
end Go.Proofs.YtffalonhkemieaaGreatDoor
