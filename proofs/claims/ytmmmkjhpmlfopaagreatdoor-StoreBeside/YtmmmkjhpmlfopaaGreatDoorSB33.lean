/- ZT37 O33 O34 O35 -/
import Derived.Test.YtmmmkjhpmlfopaaGreatDoorSB32
set_option maxHeartbeats 16000000
set_option maxRecDepth 100000
namespace Go.Proofs.YtmmmkjhpmlfopaaGreatDoor
open Go.RowKit
namespace TT
def DecIs (s : ByteArray) (c : Ct) (k : Int) : Prop :=
 (k = 0 ∧ rightC c = true ∧ encC c = bs s ∧ ∀ c',rightC c' = true → encC c' = bs s → c' = c) ∨ (k = 80 ∧ c = ⟨[],[]⟩ ∧ ∀ c',rightC c' = true → encC c' ≠ bs s)
theorem decode_any (hT : TextSpec) (s : ByteArray) (w : World) (hs : s.size ≤ 2147483647) :
  Calls Tryz.prog 101 #[.string s] w fun e w' => ∃ (c : Ct) (rs : List Value) (k : Int),e = .returned (.tuple #[.agg rs.toArray,.int .i64 k]) ∧ CtO w' w.heap.size c rs ∧ DecIs s c k ∧ Below w.heap.size w w':=by
 go_enter Tryz.func101,Tryz.ntmps101
 go_wp2_with fail
 refine (reTb_any (w.heap.size + 1) s 8 _ encTb okTb (fun t => t.cols.length ≤ 1000) ?_ Om Om (fun s1 w1 h1 h2 => rdTb_any hT _ s1 w1 h1 h2)).mono ?_
 ·have:=heap_alloc_new (w.alloc (.cells #[.slice none 0 0,.slice none 0 0] 25)) (.cells #[.string s] 220 (0,0))
  exact heap_of (by simpa using this) ((Bxr _ _).alloc Zlr _)
 rintro e w1 ⟨v1,tbs,s1,rfl,hO1,hl1,hq1,hr1,hs1,hd1,ho1⟩
 obtain ⟨q1,d1,rfl,-⟩:=hO1.form
 have hz1:=ho1.size
 simp at hz1
 have HO1:=Hd hO1
 have HR1:=Hd hr1
 have HD1:=Hd hd1
 have HQ1:=Hd hq1
 have HZ1 : Hid (w1.heap[w.heap.size]? = some (.cells #[.slice none 0 0,.slice none 0 0] 25 (0,0))):=heap_only (heap_of (heap_alloc_new w _) ((((Bxr _ _).alloc Zlr _)).alloc Si _)) ho1 Om
 have HC1 : Hid (w1.heap[w.heap.size + 1 + 1]? = some (.cells #[.slice none 0 0,.slice none 0 0] 25 (0,0))):=heap_only (by simpa using heap_alloc_new ((w.alloc (.cells #[.slice none 0 0,.slice none 0 0] 25)).alloc (.cells #[.string s] 220)) (.cells #[.slice none 0 0,.slice none 0 0] 25 (0,0))) ho1 Om
 have HB1 : Hid (Below w.heap.size w w1):=(((((Bxr _ _).alloc Zlr _).alloc Si _).alloc (by simp; omega) _)).trans (ho1.below (by simp; omega) fun k hk e => by omega)
 obtain ⟨x0,x1⟩:=two_cells HC1.out
 have f1:=frz_of HC1.out
 clear hO1 hr1 hd1 hq1 ho1
 go_wp2_with fail
 refine (rePc_any (w.heap.size + 1) s1 16 _ encPc okPc (fun _ => True) (Rdr.keep HR1.out Om) Om Om (fun s2 w2 h1 h2 => rdPc_any hT _ s2 w2 h1 h2)).mono ?_
 rintro e w2 ⟨v2,prs,s2,rfl,hO2,hl2,-,hr2,hs2,hd2,ho2⟩
 obtain ⟨q2,d2,rfl,-⟩:=hO2.form
 have hz2:=ho2.size
 simp at hz2
 have HO2:=Hd hO2
 have HD2:=Hd hd2
 have HZ2 : Hid (w2.heap[w.heap.size]? = some (.cells #[.slice none 0 0,.slice none 0 0] 25 (0,0))):=heap_only ((Below.heap_setCell _ _ _ _ (by show ¬ w.heap.size = w.heap.size + 1 + 1; omega)).trans HZ1.out) ho2 Om
 have HC2 : Hid (w2.heap[w.heap.size + 1 + 1]? = some (.cells #[.slice q1 tbs.length d1,.slice none 0 0] 25 (0,0))):=heap_only (heap_setCell_at (i:=0) HC1.out _) ho2 Om
 have HB2 : Hid (Below w.heap.size w w2):=(HB1.out.setCell (p:=⟨w.heap.size + 1 + 1,0,none⟩) (by show w.heap.size ≤ w.heap.size + 1 + 1; omega) _).trans (ho2.below (by simp; omega) fun k hk e => by omega)
 have HK2 : Hid (∀ (S : List TypeId) (B : Nat),220 ∉ S → Keeps S B (w1.setCell ⟨w.heap.size + 1 + 1,0,none⟩ (.slice q1 tbs.length d1)) w2):=fun S _ hS => Keeps.only (Rdr.keep HR1.out Om) ho2 hS
 clear x0 x1 f1 hO2 hr2 hd2 ho2
 obtain ⟨x0,x1⟩:=two_cells HC2.out
 have f2:=frz_of HC2.out
 have HWB : Hid (Below w.heap.size w (w2.setCell ⟨w.heap.size + 1 + 1,1,none⟩ (.slice q2 prs.length d2))):=HB2.out.setCell (p:=⟨w.heap.size + 1 + 1,1,none⟩) (by show w.heap.size ≤ w.heap.size + 1 + 1; omega) _
 have HCT : Hid (CtO (w2.setCell ⟨w.heap.size + 1 + 1,1,none⟩ (.slice q2 prs.length d2)) w.heap.size ⟨tbs,prs⟩ [.slice q1 tbs.length d1,.slice q2 prs.length d2]):=by
  have K1 : ∀ S : List TypeId,220 ∉ S → Keeps S (((w.alloc (.cells #[.slice none 0 0,.slice none 0 0] 25)).alloc (.cells #[.string s] 220)).alloc (.cells #[.slice none 0 0,.slice none 0 0] 25)).heap.size w1 (w2.setCell ⟨w.heap.size + 1 + 1,1,none⟩ (.slice q2 prs.length d2)):=fun S hS => Keeps.low (Keeps.trans (Keeps.low (Keeps.of (Bxr _ _)) Si _ _) (HK2.out S _ hS)) Si _ _
  have K2 : ∀ S : List TypeId,Keeps S (w1.setCell ⟨w.heap.size + 1 + 1,0,none⟩ (.slice q1 tbs.length d1)).heap.size w2 (w2.setCell ⟨w.heap.size + 1 + 1,1,none⟩ (.slice q2 prs.length d2)):=fun S => Keeps.low (Keeps.of (Bxr _ _)) (by simp; omega) _ _
  exact ⟨_,_,rfl,(HO1.out.keeps (S:=[47]) (K1 _ (by decide)) Si (TbO.keeps (K1 _ (by decide)))).mono (by simp; omega) (TbO.mono (by simp; omega)),(HO2.out.keeps (S:=[121]) (K2 _) Si (PcO.keeps (K2 _))).mono (by simp; omega) (PcO.mono (by simp; omega))⟩
 have HZ3 : Hid ((w2.setCell ⟨w.heap.size + 1 + 1,1,none⟩ (.slice q2 prs.length d2)).heap[w.heap.size]? = some (.cells #[.slice none 0 0,.slice none 0 0] 25 (0,0))):=(Below.heap_setCell _ _ _ _ (by show ¬ w.heap.size = w.heap.size + 1 + 1; omega)).trans HZ2.out
 have HC3 : Hid ((w2.setCell ⟨w.heap.size + 1 + 1,1,none⟩ (.slice q2 prs.length d2)).heap[w.heap.size + 1 + 1]? = some (.cells #[.slice q1 tbs.length d1,.slice q2 prs.length d2] 25 (0,0))):=heap_setCell_at (i:=1) HC2.out _
 go_wp2_with fail
 refine (encode_any ⟨tbs,prs⟩ _ _ (CtO.reads _ _ HCT.out) (fun t ht => by have:=HQ1.out t ht; omega)).mono ?_
 rintro e w3 ⟨rfl,hb3⟩
 have hz3:=hb3.size
 simp at hz3
 have HB3:=Hd (below_two HWB.out hb3)
 have HC4:=Hd (heap_of HC3.out hb3)
 have HZ4:=Hd (heap_of HZ3.out hb3)
 have HCT3:=Hd (CtO.later hb3 _ _ HCT.out)
 clear x0 x1 f2 hb3 HCT HC3 HZ3 HWB
 obtain ⟨x0,x1⟩:=two_cells HC4.out
 obtain ⟨z0,z1⟩:=two_cells HZ4.out
 have fz:=frz_of HZ4.out
 have HRD : Hid (∀ c',rightC c' = true → encC c' = bs s → c' = ⟨tbs,prs⟩):=fun c' hc e => by
  obtain ⟨g1,g2,g3,g4⟩:=rightC_parts hc
  rw [encC] at e
  obtain ⟨e1,e2⟩:=HD1.out c'.tbs _ ⟨g1,fun t ht => okTb.of (g3 t ht)⟩ e.symm
  have e3 : bs s1 = lst encPc c'.prs ++ []:=by rw [List.append_nil]; exact e2
  obtain ⟨e4,e5⟩:=HD2.out c'.prs _ ⟨g2,fun p hp => okPc.of (g4 p hp)⟩ e3
  rw [e1,e4]
 cases hc : rightC ⟨tbs,prs⟩ with
 | false =>
  have HNO : Hid (∀ c',rightC c' = true → encC c' ≠ bs s):=fun c' h e => by
   rw [HRD.out c' h e,hc] at h
   cases h
  rw [encS_no hc,encE_no hc]
  go_wp2
  refine bodyPost_ret (v:=.tuple #[.agg #[.slice none 0 0,.slice none 0 0],.int .i64 80]) (by simp [results,Tryz.results101,go_sem, *]) rfl ?_
  have hb:=HB3.out
  exact ⟨⟨[],[]⟩,[.slice none 0 0,.slice none 0 0],80,rfl,CtO.none _ _,Or.inr ⟨rfl,rfl,HNO.out⟩,by (repeat (first | with_reducible exact Below.refl _ _ | with_reducible assumption | refine Below.drew ?_ | refine Below.setCell ?_ (by first | omega | (simp; done) | (simp; omega)) _ | refine Below.alloc ?_ (by first | omega | (simp; done) | (simp; omega)) _ | refine Below.trans ?_ (Below.mono (by with_reducible assumption) (by first | omega | (simp; done) | (simp; omega)))))⟩
 | true =>
  rw [encS_yes hc,encE_yes hc]
  obtain ⟨E,hE⟩ : ∃ E : ByteArray,(⟨(encC ⟨tbs,prs⟩).toArray⟩ : ByteArray) = E:=⟨_,rfl⟩
  have HEB : Hid (encC ⟨tbs,prs⟩ = bs E):=by rw [← hE]; rfl
  rw [hE]
  by_cases he : bs E = bs s
  ·have hne : (E.toList == s.toList) = true:=by rw [str_eq,decide_eq_true he]
   have HEQ : Hid (DecIs s ⟨tbs,prs⟩ 0):=Or.inl ⟨rfl,hc,by rw [HEB.out,he],HRD.out⟩
   clear he hE
   go_wp2
   refine bodyPost_ret (v:=.tuple #[.agg #[.slice q1 tbs.length d1,.slice q2 prs.length d2],.int .i64 0]) (by simp [results,Tryz.results101,go_sem, *]) rfl ?_
   have hb:=HB3.out
   have hR1:=heap_setCell_at (i:=0) HZ4.out (.slice q1 tbs.length d1)
   have K : ∀ S : List TypeId,25 ∉ S → Keeps S w.heap.size w3 ((w3.setCell ⟨w.heap.size,0,none⟩ (.slice q1 tbs.length d1)).setCell ⟨w.heap.size,1,none⟩ (.slice q2 prs.length d2)):=fun S hS => ((Keeps.of (Bxr _ _)).typed HZ4.out hS _ _).typed hR1 hS _ _
   obtain ⟨u1,u2,eu,o1,o2⟩:=HCT3.out
   simp only [List.cons.injEq,and_true] at eu
   obtain ⟨rfl,rfl⟩:=eu
   exact ⟨⟨tbs,prs⟩,[.slice q1 tbs.length d1,.slice q2 prs.length d2],0,rfl,⟨_,_,rfl,o1.keeps (S:=[47]) (K [47] (by decide)) Si (TbO.keeps (K inTb (by decide))),o2.keeps (S:=[121]) (K [121] (by decide)) Si (PcO.keeps (K inPc (by decide)))⟩,HEQ.out,by (repeat (first | with_reducible exact Below.refl _ _ | with_reducible assumption | refine Below.drew ?_ | refine Below.setCell ?_ (by first | omega | (simp; done) | (simp; omega)) _ | refine Below.alloc ?_ (by first | omega | (simp; done) | (simp; omega)) _ | refine Below.trans ?_ (Below.mono (by with_reducible assumption) (by first | omega | (simp; done) | (simp; omega)))))⟩
  ·have hne : (E.toList == s.toList) = false:=by rw [str_eq,decide_eq_false he]
   have HNO : Hid (∀ c',rightC c' = true → encC c' ≠ bs s):=fun c' h e => by
    rw [HRD.out c' h e,HEB.out] at e
    exact he e
   clear he hE
   go_wp2
   refine bodyPost_ret (v:=.tuple #[.agg #[.slice none 0 0,.slice none 0 0],.int .i64 80]) (by simp [results,Tryz.results101,go_sem, *]) rfl ?_
   have hb:=HB3.out
   exact ⟨⟨[],[]⟩,[.slice none 0 0,.slice none 0 0],80,rfl,CtO.none _ _,Or.inr ⟨rfl,rfl,HNO.out⟩,by (repeat (first | with_reducible exact Below.refl _ _ | with_reducible assumption | refine Below.drew ?_ | refine Below.setCell ?_ (by first | omega | (simp; done) | (simp; omega)) _ | refine Below.alloc ?_ (by first | omega | (simp; done) | (simp; omega)) _ | refine Below.trans ?_ (Below.mono (by with_reducible assumption) (by first | omega | (simp; done) | (simp; omega)))))⟩
end TT
section
open Go.RowKit BB
theorem catalog9_any (w : World) (s : Nat) (c : TT.Ct) (hc : TT.rightC c = true) (h0 : w.cell? ⟨s,0,none⟩ = some (.string ⟨(TT.encC c).toArray⟩)) :
  Calls Tryz.prog 51 #[.pointer (some ⟨s,0,none⟩)] w fun e w' => ∃ vt vp,e = .returned (.agg #[vt,vp]) ∧ TT.CtO w' w.heap.size c [vt,vp] ∧ Below w.heap.size w w':=by
 obtain ⟨b,hb⟩ : ∃ b : ByteArray,(⟨(TT.encC c).toArray⟩ : ByteArray) = b:=⟨_,rfl⟩
 have hbs : TT.bs b = TT.encC c:=by rw [← hb]; rfl
 have hsz : b.size ≤ 2147483647:=by
  rw [← hb]
  have:=TT.encC_len hc
  show (TT.encC c).toArray.size ≤ _
  simp only [List.size_toArray]
  omega
 have HD:=Hd (fun W => TT.decode_any TT.rtext_any b W hsz)
 have HC:=Hd (Zai hc hbs)
 have hz:=cell_lt h0
 rw [hb] at h0
 clear hc hbs hb
 go_enter Tryz.func51,Tryz.ntmps51
 go_wp2_with fail
 refine (HD.out _).mono ?_
 rintro e w1 ⟨c',rs,k,rfl,hct,hdi,hb1⟩
 obtain ⟨q1,d1,q2,d2,rfl⟩ : ∃ q1 d1 q2 d2,rs = [.slice q1 c'.tbs.length d1,.slice q2 c'.prs.length d2]:=by
  obtain ⟨a,b,rfl,h1,h2⟩:=hct
  obtain ⟨q1,d1,rfl,-⟩:=h1.form
  obtain ⟨q2,d2,rfl,-⟩:=h2.form
  exact ⟨q1,d1,q2,d2,rfl⟩
 have hcc : c' = c:=by
  rcases hdi with ⟨_,_,_,hu⟩ | ⟨_,_,hn⟩
  ·exact (hu c HC.out.1 HC.out.2.symm).symm
  ·exact absurd HC.out.2.symm (hn c HC.out.1)
 subst hcc
 have hz1:=hb1.size
 simp at hz1
 have kz : w1.heap[w.heap.size]? = some (.cells #[.slice none 0 0,.slice none 0 0] 25 (0,0)):=(hb1.block _ Si).trans (heap_alloc_new w _)
 have HKZ:=Hd kz
 obtain ⟨x0,x1⟩:=TT.two_cells kz
 have f1:=TT.frz_of kz
 have HB1 : Hid (Below w.heap.size w w1):=Hd (((Bxr _ _).alloc Zlr _).trans (hb1.mono Si))
 have HCT:=Hd (TT.CtO.mono (B':=w.heap.size) Si _ _ hct)
 have n0 : w.heap.size < w1.heap.size:=by omega
 have n1 : w.heap.size ≠ w1.heap.size:=by omega
 clear hct hdi hb1 kz
 go_wp2
 refine bodyPost_ret (v:=.agg #[.slice q1 c'.tbs.length d1,.slice q2 c'.prs.length d2]) (by simp [results,Tryz.results51,go_sem, *]) rfl ?_
 have hb:=HB1.out
 obtain ⟨u1,u2,eu,o1,o2⟩:=HCT.out
 simp only [List.cons.injEq,and_true] at eu
 obtain ⟨rfl,rfl⟩:=eu
 have hR1:=TT.heap_setCell_at (i:=0) HKZ.out (.slice q1 c'.tbs.length d1)
 have K : ∀ S : List TypeId,25 ∉ S → TT.Keeps S w.heap.size w1 ((w1.setCell ⟨w.heap.size,0,none⟩ (.slice q1 c'.tbs.length d1)).setCell ⟨w.heap.size,1,none⟩ (.slice q2 c'.prs.length d2)):=fun S hS => ((TT.Keeps.of (Bxr _ _)).typed HKZ.out hS _ _).typed hR1 hS _ _
 have hct : TT.CtO ((w1.setCell ⟨w.heap.size,0,none⟩ (.slice q1 c'.tbs.length d1)).setCell ⟨w.heap.size,1,none⟩ (.slice q2 c'.prs.length d2)) w.heap.size c' [.slice q1 c'.tbs.length d1,.slice q2 c'.prs.length d2]:=⟨_,_,rfl,o1.keeps (S:=[47]) (K [47] (by decide)) Si (TT.TbO.keeps (K TT.inTb (by decide))),o2.keeps (S:=[121]) (K [121] (by decide)) Si (TT.PcO.keeps (K TT.inPc (by decide)))⟩
 exact ⟨_,_,rfl,TT.CtO.later ((Bxr _ _).alloc Zlr _) _ _ hct,by (repeat (first | with_reducible exact Below.refl _ _ | with_reducible assumption | refine Below.drew ?_ | refine Below.setCell ?_ (by first | omega | (simp; done) | (simp; omega)) _ | refine Below.alloc ?_ (by first | omega | (simp; done) | (simp; omega)) _ | refine Below.trans ?_ (Below.mono (by with_reducible assumption) (by first | omega | (simp; done) | (simp; omega)))))⟩
end
section
open Go.RowKit BB
abbrev TabL:=List (TD × List Row3)
structure Tabs (w : World) (B : Nat) (T U : Nat → Prop) (L : TabL) : Prop where
 zs : ∃ Zs : Nat → Nat → Prop,(∀ i (h : i < L.length),Trs w B (Zs i) (L[i]).1 fun _ _ => (L[i]).2) ∧ (∀ i k,i < L.length → Zs i k → T k) ∧ ∀ i j k,i < L.length → j < L.length → Zs i k → Zs j k → i = j
 lo : ∀ k,T k → B ≤ k ∧ k < w.heap.size
 fix : ∀ i (h : i < L.length) (W : World),(∀ k,U k → W.heap[k]? = w.heap[k]?) → Fix W (L[i]).1
 un : ∀ k,U k → k < w.heap.size ∧ ¬ T k
 ok : ∀ i (h : i < L.length),TabOk (L[i]).1.t (L[i]).2 ∧ TR (L[i]).1.t ∧ (1 ≤ (L[i]).1.P ∧ (L[i]).1.P ≤ 16) ∧ (L[i]).2.length ≤ 3000000000
theorem Tabs.nil (w : World) (B : Nat) : Tabs w B (fun _ => False) (fun _ => False) []:=⟨⟨fun _ _ => False,fun _ h => absurd h (Nat.not_lt_zero _),fun _ _ h => absurd h (Nat.not_lt_zero _),fun _ _ _ h => absurd h (Nat.not_lt_zero _)⟩,fun _ h => h.elim,fun _ h => absurd h (Nat.not_lt_zero _),fun _ h => h.elim,fun _ h => absurd h (Nat.not_lt_zero _)⟩
theorem Tabs.kept {w w' : World} {B : Nat} {T U Y : Nat → Prop} {L : TabL} (h : Tabs w B T U L) (ho : Only Y w w') (hy : ∀ k,T k ∨ U k → ¬ Y k) : Tabs w' B T U L:=by
 obtain ⟨Zs,h1,h2,h3⟩:=h.zs
 exact ⟨⟨Zs,fun i hi => (h1 i hi).kept ho fun k hk => hy k (Or.inl (h2 i k hi hk)),h2,h3⟩,fun k hk => ⟨(h.lo k hk).1,Zll (h.lo k hk).2 ho.size⟩,fun i hi W hW => h.fix i hi W fun k hk => (hW k hk).trans (ho.block k (h.un k hk).1 (hy k (Or.inr hk))),fun k hk => ⟨Zll (h.un k hk).1 ho.size,(h.un k hk).2⟩,h.ok⟩
theorem Tabs.later {w w' : World} {B : Nat} {T U : Nat → Prop} {L : TabL} (h : Tabs w B T U L) (hb : Below w.heap.size w w') : Tabs w' B T U L:=h.kept (Y:=fun _ => False) (Only.of hb) fun _ _ h => h
theorem Tabs.mono {w : World} {B B' : Nat} {T U : Nat → Prop} {L : TabL} (h : Tabs w B T U L) (hB : B' ≤ B) : Tabs w B' T U L:=by
 obtain ⟨Zs,h1,h2,h3⟩:=h.zs
 refine ⟨⟨Zs,fun i hi => ?_,h2,h3⟩,fun k hk => ⟨Zlt hB (h.lo k hk).1,(h.lo k hk).2⟩,h.fix,h.un,h.ok⟩
 obtain ⟨⟨zp,a1,a2,a3⟩,zl⟩:=h1 i hi
 exact ⟨⟨zp,a1,a2,fun p hp j hj => by
  obtain ⟨l,b1,b2⟩:=a3 p hp j hj
  exact ⟨l,treeZ_mono9 b1 hB,b2⟩⟩,fun k hk => ⟨Zlt hB (zl k hk).1,(zl k hk).2⟩⟩
theorem Tabs.fixZ {w : World} {B : Nat} {T U Z : Nat → Prop} {L : TabL} (h : Tabs w B T U L) (i : Nat) (hi : i < L.length) (hz : ∀ k,Z k → T k) : FixZ w Z (L[i]).1:=fun W hW => h.fix i hi W fun k hk => hW.block k (h.un k hk).1 fun q => (h.un k hk).2 (hz k q)
theorem Tabs.turn {w : World} {B : Nat} {T U : Nat → Prop} {L : TabL} (h : Tabs w B T U L) (i : Nat) (hi : i < L.length) : ∃ Z,Tab w B Z (L[i]).1 (L[i]).2 ∧ (∀ k,Z k → T k) ∧ ∀ (w' : World) (Z' : Nat → Prop) (rs : List Row3),Only Z w w' → Tab w' B Z' (L[i]).1 rs → (∀ k,Z' k → Z k ∨ w.heap.size ≤ k) → Only T w w' ∧ ∃ T',Tabs w' B T' U (L.set i ((L[i]).1,rs)) ∧ (∀ k,T' k → T k ∨ w.heap.size ≤ k) ∧ ∀ k,w.heap.size ≤ k → ¬ Z' k → ¬ T' k:=by
 obtain ⟨Zs,h1,h2,h3⟩:=h.zs
 obtain ⟨o1,o2,o3,o4⟩:=h.ok i hi
 refine ⟨Zs i,⟨h.fixZ i hi fun k hk => h2 i k hi hk,h1 i hi,o1,o2,o3,o4⟩,fun k => h2 i k hi,fun w' Z' rs ho ht hz => ⟨ho.mono fun k => h2 i k hi,fun k => (T k ∨ w.heap.size ≤ k ∧ Z' k) ∧ k < w'.heap.size,?_,fun k hk => hk.1.imp id And.left,fun k hk hn hk2 => ?_⟩⟩
 ·have hs:=ho.size
  have hoT:=ho.mono fun k => h2 i k hi
  have hBw : B ≤ w.heap.size:=by
   obtain ⟨zp,_,_,g⟩:=(h1 i hi).tree
   obtain ⟨l,a,_⟩:=g 0 Om 0 (Nat.succ_pos _)
   exact a.lt
  refine ⟨⟨fun j k => if j = i then Z' k else Zs j k,fun j hj => ?_,fun j k hj hk => ?_,fun j j' k hj hj' a b => ?_⟩,fun k hk => ⟨?_,hk.2⟩,fun j hj W hW => ?_,fun k hk => ⟨Zll (h.un k hk).1 hs,fun q => ?_⟩,fun j hj => ?_⟩
  ·rw [List.length_set] at hj
   by_cases c : j = i
   ·subst c
    simp only [if_pos,List.getElem_set_self]
    exact ht.trs
   ·simp only [if_neg c,List.getElem_set_ne (fun e => c e.symm)]
    exact (h1 j hj).kept ho fun k hk hk' => c (h3 j i k hj hi hk hk')
  ·rw [List.length_set] at hj
   by_cases c : j = i
   ·simp only [if_pos c] at hk
    exact ⟨(hz k hk).imp (h2 i k hi) fun q => ⟨q,hk⟩,(ht.trs.lo k hk).2⟩
   ·simp only [if_neg c] at hk
    have:=h2 j k hj hk
    exact ⟨Or.inl this,Zll (h.lo k this).2 hs⟩
  ·rw [List.length_set] at hj hj'
   by_cases c : j = i <;> by_cases c' : j' = i
   ·rw [c,c']
   ·simp only [if_pos c] at a
    simp only [if_neg c'] at b
    rcases hz k a with e | e
    ·exact c.trans (h3 i j' k hi hj' e b)
    ·have:=(h.lo k (h2 j' k hj' b)).2
     omega
   ·simp only [if_neg c] at a
    simp only [if_pos c'] at b
    rcases hz k b with e | e
    ·exact (h3 j i k hj hi a e).trans c'.symm
    ·have:=(h.lo k (h2 j k hj a)).2
     omega
   ·simp only [if_neg c] at a
    simp only [if_neg c'] at b
    exact h3 j j' k hj hj' a b
  ·rcases hk.1 with e | e
   ·exact (h.lo k e).1
   ·omega
  ·rw [List.length_set] at hj
   have e : (L.set i ((L[i]).1,rs))[j].1 = (L[j]).1:=by
    by_cases c : j = i
    ·subst c
     simp
    ·rw [List.getElem_set_ne (fun e => c e.symm)]
   rw [e]
   exact h.fix j hj W fun k hk => (hW k hk).trans (hoT.block k (h.un k hk).1 (h.un k hk).2)
  ·rcases q.1 with e | e
   ·exact (h.un k hk).2 e
   ·have:=(h.un k hk).1
    omega
  ·rw [List.length_set] at hj
   by_cases c : j = i
   ·subst c
    simp only [List.getElem_set_self]
    exact ⟨ht.ok,ht.tr,ht.parts,ht.cnt⟩
   ·rw [List.getElem_set_ne (fun e => c e.symm)]
    exact h.ok j hj
 ·rcases hk2.1 with e | e
  ·have:=(h.lo k e).2
   omega
  ·exact hn e.2
theorem Tabs.tab {w : World} {B : Nat} {T U : Nat → Prop} {L : TabL} (h : Tabs w B T U L) (i : Nat) (hi : i < L.length) : ∃ Z,Tab w B Z (L[i]).1 (L[i]).2 ∧ ∀ k,Z k → T k:=by
 obtain ⟨Z,a,b,_⟩:=h.turn i hi
 exact ⟨Z,a,b⟩
theorem Tabs.snoc {w w' : World} {A B : Nat} {T U : Nat → Prop} {L : TabL} (h : Tabs w B T U L) (hB : B ≤ w.heap.size) (hb : Below w.heap.size w w') {t : TT.Tb} {P : Nat} {e : Ending} (hn : NewT w A B t P e w') : ∃ D,e = .returned (.pointer (some ⟨D.r,0,none⟩)) ∧ D.t = t ∧ D.P = P ∧ ∃ T' U',Tabs w' B T' U' (L ++ [(D,[])]) ∧ (∀ k,T' k → T k ∨ w.heap.size ≤ k) ∧ ∀ k,U' k → U k ∨ (A ≤ k ∧ k < B) ∨ w.heap.size ≤ k:=by
 obtain ⟨D,Z,rfl,e1,e2,ht,_,hf⟩:=hn
 obtain ⟨Zs,h1,h2,h3⟩:=h.zs
 have hzlo:=ht.trs.lo
 refine ⟨D,rfl,e1,e2,fun k => T k ∨ Z k,fun k => U k ∨ (k < w'.heap.size ∧ (A ≤ k ∧ k < B ∨ w.heap.size ≤ k) ∧ ¬ Z k),⟨⟨fun j k => if j < L.length then Zs j k else Z k,fun j hj => ?_,fun j k hj hk => ?_,fun j j' k hj hj' a b => ?_⟩,fun k hk => ?_,fun j hj W hW => ?_,fun k hk => ?_,fun j hj => ?_⟩,fun k hk => hk.imp id fun hz => (hzlo k hz).1,fun k hk => hk.imp id fun q => q.2.1⟩
 ·by_cases c : j < L.length
  ·simp only [if_pos c,List.getElem_append_left c]
   exact (h1 j c).later hb
  ·have e : j = L.length:=by simp at hj; omega
   subst e
   simp only [if_neg c,List.getElem_append_right Zlr,Nat.sub_self,List.getElem_cons_zero]
   obtain ⟨zt,zl⟩:=ht.trs
   obtain ⟨zp,a1,a2,a3⟩:=zt
   exact ⟨⟨zp,a1,a2,fun p hp i hi => by
    obtain ⟨l,b1,b2⟩:=a3 p hp i hi
    exact ⟨l,treeZ_mono9 b1 hB,b2⟩⟩,fun k hk => ⟨Zlt hB (zl k hk).1,(zl k hk).2⟩⟩
 ·by_cases c : j < L.length
  ·simp only [if_pos c] at hk
   exact Or.inl (h2 j k c hk)
  ·simp only [if_neg c] at hk
   exact Or.inr hk
 ·simp at hj hj'
  by_cases c : j < L.length <;> by_cases c' : j' < L.length
  ·simp only [if_pos c] at a
   simp only [if_pos c'] at b
   exact h3 j j' k c c' a b
  ·simp only [if_pos c] at a
   simp only [if_neg c'] at b
   have:=(h.lo k (h2 j k c a)).2
   have:=(hzlo k b).1
   omega
  ·simp only [if_neg c] at a
   simp only [if_pos c'] at b
   have:=(h.lo k (h2 j' k c' b)).2
   have:=(hzlo k a).1
   omega
  ·omega
 ·rcases hk with hk | hk
  ·exact ⟨(h.lo k hk).1,Zll (h.lo k hk).2 hb.size⟩
  ·exact ⟨Zlt hB (hzlo k hk).1,(hzlo k hk).2⟩
 ·by_cases c : j < L.length
  ·simp only [List.getElem_append_left c]
   exact h.fix j c W fun k hk => (hW k (Or.inl hk)).trans (hb.block k (h.un k hk).1)
  ·have e : j = L.length:=by simp at hj; omega
   subst e
   simp only [List.getElem_append_right Zlr,Nat.sub_self,List.getElem_cons_zero]
   exact hf W fun k hk hr hz => hW k (Or.inr ⟨hk,hr,hz⟩)
 ·rcases hk with hk | ⟨k1,k2,k3⟩
  ·refine ⟨Zll (h.un k hk).1 hb.size,fun q => q.elim (h.un k hk).2 fun q => ?_⟩
   have:=(hzlo k q).1
   have:=(h.un k hk).1
   omega
  ·refine ⟨k1,fun q => q.elim (fun q => ?_) k3⟩
   have:=h.lo k q
   omega
 ·by_cases c : j < L.length
  ·simp only [List.getElem_append_left c]
   exact h.ok j c
  ·have e : j = L.length:=by simp at hj; omega
   subst e
   simp only [List.getElem_append_right Zlr,Nat.sub_self,List.getElem_cons_zero]
   exact ⟨ht.ok,ht.tr,ht.parts,ht.cnt⟩
end
section
open Go.RowKit BB
theorem right_tr {c : TT.Ct} (h : TT.rightC c = true) : ∀ t ∈ c.tbs,TR t:=fun t ht => by
 unfold TT.rightC at h
 simp only [Bool.and_eq_true] at h
 obtain ⟨i,hi,rfl⟩:=List.getElem_of_mem ht
 have:=TT.allB_iff.1 h.1.2 i hi
 rw [List.getElem?_eq_getElem hi,Bool.and_eq_true] at this
 exact TR.of (by simpa using this.2)
theorem right_len {c : TT.Ct} (h : TT.rightC c = true) : c.tbs.length ≤ 8:=by
 unfold TT.rightC at h
 simp only [Bool.and_eq_true,decide_eq_true_eq] at h
 exact h.1.1.1
theorem Tryz.infoPtrR : (Tryz.prog.info? 91).map (fun i => (i.zero,i.size,i.bytes)) = some (some (.pointer none),1,8):=by kernel_rfl
theorem fieldC0 (p q : Option Addr) (n c m d : Nat) (w : World) : (Instr.field 25 (.agg #[.slice p n c,.slice q m d]) 0).run Tryz.prog w = .ok (.slice p n c) w:=by
 simp [Instr.field,run_underlying Tryz.underlying25,part,asAgg,isAgg,run_underlying Tryz.underlying22,sizeOf,typeInfo,go_sem]
attribute [local go_sem] fieldC0
def tabPs (L : TabL) : List Value:=L.map fun x => ptr9 x.1.r
def EmptyL (c : TT.Ct) (P : Nat) (k : Nat) (L : TabL) : Prop:=L.map (fun x => x.1.t) = c.tbs.take k ∧ ∀ x ∈ L,x.1.P = P ∧ x.2 = []
def EmptyP (w : World) (c : TT.Ct) (P : Nat) (e : Ending) (w' : World) : Prop:=∃ (v : Value) (T U : Nat → Prop) (L : TabL),e = .returned v ∧ EmptyL c P c.tbs.length L ∧ w'.ownsRow w.heap.size 91 1 v L.length (tabPs L) ∧ Tabs w' w.heap.size T U L ∧ (∀ g,v.ownBlock = some g → ¬ T g ∧ ¬ U g) ∧ ∀ k,U k → w.heap.size ≤ k
theorem EmptyL.snoc {c : TT.Ct} {P k : Nat} {L : TabL} (h : EmptyL c P k L) (hk : k < c.tbs.length) {D : TD} (h1 : D.t = c.tbs[k]) (h2 : D.P = P) : EmptyL c P (k + 1) (L ++ [(D,[])]):=⟨by
 rw [List.map_append,h.1,List.take_add_one,List.getElem?_eq_getElem hk]
 simp [h1],fun x hx => by
 rcases Zma hx with hx | hx
 ·exact h.2 x hx
 ·rw [Zms hx]
  exact ⟨h2,rfl⟩⟩
theorem tabs_step {w2 w5 : World} {B0 : Nat} {T U T' U' : Nat → Prop} {L : TabL} {D : TD} {u : Value} {A C : Nat} (h : Tabs w2 B0 T' U' (L ++ [(D,[])])) (h1 : ∀ k,T' k → T k ∨ C ≤ k) (h2 : ∀ k,U' k → U k ∨ (A ≤ k ∧ k < B0) ∨ C ≤ k) (hu : ∀ g,u.ownBlock = some g → B0 ≤ g ∧ g < C ∧ ¬ T g ∧ ¬ U g) {o : Obj} (hg : (w2.alloc o).grownBy w5 u.ownBlock) {g : Nat} (hor : u.ownBlock = some g ∨ g = (w2.alloc o).heap.size) : Tabs w5 B0 T' U' (L ++ [(D,[])]) ∧ ¬ T' g ∧ ¬ U' g:=by
 have hz : ∀ x,u.ownBlock = some x → ¬ T' x ∧ ¬ U' x:=fun x hx => by
  obtain ⟨a,b,c,d⟩:=hu x hx
  refine ⟨fun q => ?_,fun q => ?_⟩
  ·rcases h1 x q with e | e
   ·exact c e
   ·omega
  ·rcases h2 x q with e | e | e
   ·exact d e
   ·omega
   ·omega
 refine ⟨(h.later ((Bxr _ _).alloc Zlr _)).kept (Y:=fun k => u.ownBlock = some k) ⟨hg.os,hg.tape,hg.output,hg.size,fun k hk hn => hg.block k hk fun e => hn e.symm⟩ fun k hk hy => ?_,?_⟩
 ·rcases hk with hk | hk
  ·exact (hz k hy).1 hk
  ·exact (hz k hy).2 hk
 ·rcases hor with e | e
  ·exact hz g e
  ·refine ⟨fun q => ?_,fun q => ?_⟩
   ·have:=(h.lo g q).2
    simp at e
    omega
   ·have:=(h.un g q).1
    simp at e
    omega
theorem empty9_any (w : World) (s : Nat) (c : TT.Ct) (hc : TT.rightC c = true) (P : Nat) (hP : 1 ≤ P ∧ P ≤ 16) (h0 : w.cell? ⟨s,0,none⟩ = some (.string ⟨(TT.encC c).toArray⟩)) (h1 : w.cell? ⟨s,1,none⟩ = some (.int .i64 (P : Int))) :
  Calls Tryz.prog 29 #[.pointer (some ⟨s,0,none⟩)] w fun e w' => Below w.heap.size w w' ∧ EmptyP w c P e w':=by
 obtain ⟨i2,hi2,hx0,hx1,hx2⟩:=info_parts Tryz.infoPtrR
 have HCA:=Hd (catalog9_any w s c hc h0)
 have HC:=Hd hc
 have HP:=Hd hP
 have H1:=Hd h1
 have hsl:=cell_lt h1
 clear hc hP h0 h1
 go_enter Tryz.func29,Tryz.ntmps29
 go_wp2_with fail
 refine HCA.out.mono ?_
 rintro e wc ⟨vt,vp,rfl,hct,hbc⟩
 obtain ⟨vt',vp',hv,hvt,hvp⟩:=hct
 simp only [List.cons.injEq,and_true] at hv
 obtain ⟨rfl,rfl⟩:=hv
 obtain ⟨pt,ct,rfl,-⟩:=hvt.form
 have hrow:=hvt.row (fun _ _ h => h)
 obtain ⟨pp,cp,rfl,-⟩:=hvp.form
 have HROW:=Hd hrow
 have HBC:=Hd hbc
 have d1 : wc.cell? ⟨s,1,none⟩ = some (.int .i64 (P : Int)):=cell_later hbc H1.out
 have HD1:=Hd d1
 have hsz0:=hbc.size
 have hsc : s < wc.heap.size:=by omega
 obtain ⟨n,hn⟩:=Vx c.tbs.length
 have HN:=Hd hn
 have hn8 : n ≤ 8:=by have:=right_len HC.out; omega
 rw [hn]
 clear hvt hvp hrow hbc hn d1
 go_wp2
 go_loopw [3,10] (fun u q wr => ∃ (k : Nat) (T U : Nat → Prop) (L : TabL),k ≤ n ∧ q = .int .i64 (k : Int) ∧ EmptyL c P k L ∧ wr.ownsRow wc.heap.size 91 1 u k (tabPs L) ∧ Tabs wr wc.heap.size T U L ∧ (∀ g,u.ownBlock = some g → ¬ T g ∧ ¬ U g) ∧ (∀ k,U k → w.heap.size ≤ k) ∧ Below wc.heap.size wc wr) (fun _ q _ => n - (intOf q).toNat)
 case atStart => exact ⟨0,fun _ => False,fun _ => False,[],Nat.zero_le _,rfl,⟨rfl,fun _ h => absurd h Si⟩,World.ownsRow_nil _ _ _ _,Tabs.nil _ _,fun _ _ => ⟨id,id⟩,fun _ h => h.elim,Bxr _ _⟩
 case round =>
  obtain ⟨k,T,U,L,hk,rfl,hem,hown,htabs,hnt,hlow,hb⟩:=hrel
  have HEM:=Hd hem
  have HOW:=Hd hown
  have HT:=Hd (Zai htabs (Zai hnt hlow))
  have HB:=Hd hb
  have hsz:=hb.size
  have HLK : Hid (L.length = k):=Hd (by have:=congrArg List.length hem.1; simp at this; have:=HN.out; omega)
  by_cases hlt : k < n
  ·have hlti : (k : Int) < (n : Int):=by omega
   have hkc : k < c.tbs.length:=by rw [HN.out]; exact hlt
   obtain ⟨b,off,vs,rfl,hR,hvl,hcell⟩:=HROW.out k hkc
   obtain ⟨t,ht⟩:=Vx (c.tbs[k])
   rw [ht] at hR
   have HR:=Hd hR
   have HTR : Hid (TR t):=Hd (right_tr HC.out t (ht ▸ List.getElem_mem hkc))
   have HTT:=Hd ht
   obtain ⟨pc,cc,pk,ck,px,cx,rfl,-⟩:=TT.TbO.reads _ _ hR
   have e0:=cell_later hb (hcell 0 Si)
   have e1:=cell_later hb (hcell 1 Si)
   have e2:=cell_later hb (hcell 2 Si)
   have e3:=cell_later hb (hcell 3 Si)
   have e4:=cell_later hb (hcell 4 Si)
   simp only [List.getElem_cons_zero,List.getElem_cons_succ,Nat.add_zero] at e0 e1 e2 e3 e4
   have d1:=cell_later hb HD1.out
   obtain ⟨nc,hnc⟩:=Vx t.cols.length
   obtain ⟨nk,hnk⟩:=Vx t.key.length
   obtain ⟨nx,hnx⟩:=Vx t.ixs.length
   rw [hnc] at e1
   rw [hnk] at e2
   rw [hnx] at e4
   rw [hnc,hnk,hnx] at HR
   obtain ⟨W1,hW1⟩:=Vx (wr.alloc (Obj.cells #[.string t.nm,.slice pc nc cc,.slice pk nk ck,.int .i64 t.part,.slice px nx cx] 47))
   have hbW : Below wr.heap.size wr W1:=by rw [← hW1]; exact (Bxr _ _).alloc Zlr _
   have hsW : W1.heap.size = wr.heap.size + 1:=by rw [← hW1]; simp
   have hk1 : W1.heap[wr.heap.size]? = some (.cells #[.string t.nm,.slice pc nc cc,.slice pk nk ck,.int .i64 t.part,.slice px nx cx] 47 (0,0)):=by
    rw [← hW1]
    exact heap_alloc_new wr _
   have x0 : W1.cell? ⟨wr.heap.size,0,none⟩ = some (.string t.nm):=cell_blk hk1 rfl
   have x1 : W1.cell? ⟨wr.heap.size,1,none⟩ = some (.slice pc nc cc):=cell_blk hk1 rfl
   have x2 : W1.cell? ⟨wr.heap.size,2,none⟩ = some (.slice pk nk ck):=cell_blk hk1 rfl
   have x3 : W1.cell? ⟨wr.heap.size,3,none⟩ = some (.int .i64 t.part):=cell_blk hk1 rfl
   have x4 : W1.cell? ⟨wr.heap.size,4,none⟩ = some (.slice px nx cx):=cell_blk hk1 rfl
   have x5 : W1.cell? ⟨s,1,none⟩ = some (.int .i64 (P : Int)):=cell_later hbW d1
   have HBW:=Hd (HB.out.trans (hbW.mono hsz))
   have HBW1:=Hd hbW
   have HNR : Hid (∀ V : World,Below W1.heap.size W1 V → V.heap.size = W1.heap.size → Calls Tryz.prog 52 #[.agg #[.string t.nm,.slice pc nc cc,.slice pk nk ck,.int .i64 t.part,.slice px nx cx],.int .i64 (P : Int)] V fun e w2 => ∃ D,e = .returned (.pointer (some ⟨D.r,0,none⟩)) ∧ D.t = t ∧ D.P = P ∧ Below W1.heap.size W1 w2 ∧ ∃ T' U',Tabs w2 wc.heap.size T' U' (L ++ [(D,[])]) ∧ (∀ k,T' k → T k ∨ W1.heap.size ≤ k) ∧ ∀ k,U' k → U k ∨ (w.heap.size ≤ k ∧ k < wc.heap.size) ∨ W1.heap.size ≤ k):=Hd fun V hV hVs => by
    have hVw:=HBW.out.trans (hV.mono HBW.out.size)
    refine (newRows_any V w.heap.size wc.heap.size t [.string t.nm,.slice pc nc cc,.slice pk nk ck,.int .i64 t.part,.slice px nx cx] (by have:=HBW.out.size; omega) (fun X hX => TT.TbO.reads _ _ (TT.TbO.keeps (B:=w.heap.size) (fun g cur t' _ hg hcur => (hX g hg (Gx hcur)).trans ((hVw.block g (Gx hcur)).trans hcur)) t _ HR.out)) HTR.out P HP.out).mono ?_
    rintro e w2 ⟨hb2,hnew⟩
    obtain ⟨D,rfl,hDt,hDP,T',U',hT',hTo,hUo⟩:=Tabs.snoc (HT.out.1.later (HBW1.out.trans (hV.mono HBW1.out.size))) hVw.size hb2 hnew
    rw [hVs] at hTo hUo hb2
    exact ⟨D,rfl,hDt,hDP,hV.trans hb2,T',U',hT',hTo,hUo⟩
   clear hem hown htabs hnt hlow hb hcell hvl ht hnc hnk hnx hk1 hbW hR
   go_wp2_with fail
   try rw [hW1]
   go_region_law (first
    | (go_simp; go_at_call 52; refine (HNR.out _ Bz (by first | rfl | simp)).mono ?_; rintro e w2 ⟨D,rfl,hDt,hDP,hb2,T',U',hT',hTo,hUo⟩; (have HB2:=Hd hb2); (have HT2:=Hd (And.intro hT' (And.intro hTo hUo))); (have HD:=Hd (And.intro hDt hDP)); (have s2:=hb2.size); clear hb2 hT' hTo hUo hDt hDP)
    | (refine step_append_lies _ rfl _ _ 80 rfl wc.heap.size 91 i2 _ 1 8 Tryz.underlying80 hi2 hx0 hx1 hx2 rfl (by decide) u3 k (tabPs L) rfl ((own_later9 (own_later9 HOW.out HBW1.out) HB2.out).alloc _) ⟨w2.heap.size,0,none⟩ 1 1 [.pointer (some ⟨D.r,0,none⟩)] rfl rfl (World.news_of_block (heap_alloc_new w2 _)) (by intro x hx; rw [List.mem_singleton.1 hx]; rfl) (by decide) (by unfold maxLen; omega) Om (by have:=HBW.out.size; simp; omega) _ rfl ?_; intro g cap' w5 hown5 hgrow5 hor5 hlt5; (have HX5:=Hd (And.intro hown5 (And.intro hgrow5 hor5))); clear hown5 hgrow5 hor5))
   all_goals
    have hsnoc:=HEM.out.snoc hkc (HD.out.1.trans HTT.out.symm) HD.out.2
    have htab:=tabs_step (A:=w.heap.size) (C:=W1.heap.size) HT2.out.1 HT2.out.2.1 HT2.out.2.2 (fun q hq => ⟨(HOW.out.lt q hq).1,by have:=(HOW.out.lt q hq).2; omega,HT.out.2.1 q hq⟩) HX5.out.2.1 HX5.out.2.2
    have hbel : Below wc.heap.size wc w5:=((HBW.out.trans (HB2.out.mono HBW.out.size)).alloc (by have:=HBW.out.size; omega) _).grown HX5.out.2.1 (by have:=HBW.out.size; simp; omega) fun q hq => (HOW.out.lt q hq).1
    have hown5 : w5.ownsRow wc.heap.size 91 1 (.slice (some ⟨g,0,none⟩) (k + 1) cap') (k + 1) (tabPs (L ++ [(D,[])])):=by
     have:=HX5.out.1
     unfold tabPs
     rw [List.map_append]
     exact this
    have hlow : ∀ k,U' k → w.heap.size ≤ k:=fun q hq => by
     have:=HBW.out.size
     rcases HT2.out.2.2 q hq with e | e | e
     ·exact HT.out.2.2 q e
     ·exact e.1
     ·omega
    have HST:=Hd (Zai hsnoc (Zai htab (Zai hbel (Zai hown5 hlow))))
    clear hsnoc htab hbel hown5 hlow
    go_wp2
    go_roundw
    case rel => exact ⟨k + 1,T',U',L ++ [(D,[])],by omega,by go_num,HST.out.1,HST.out.2.2.2.1,HST.out.2.1.1,fun q hq => by cases hq; exact HST.out.2.1.2,HST.out.2.2.2.2,HST.out.2.2.1⟩
    case measure => simp [intOf]; omega
  ·have hlti : ¬ (k : Int) < (n : Int):=by omega
   obtain rfl : k = n:=by omega
   clear hem hown htabs hnt hlow hb
   go_wp2
   go_ret
   have hem:=HEM.out
   rw [← HN.out] at hem
   have hown:=HOW.out
   rw [← HLK.out] at hown
   exact ⟨HBC.out.trans (HB.out.mono hsz0),u3,T,U,L,rfl,hem,own_mono9 hown hsz0,HT.out.1.mono hsz0,HT.out.2.1,HT.out.2.2⟩
end
end Go.Proofs.YtmmmkjhpmlfopaaGreatDoor
