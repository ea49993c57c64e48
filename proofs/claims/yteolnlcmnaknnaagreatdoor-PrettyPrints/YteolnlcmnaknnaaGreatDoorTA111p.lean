/- A111p A111 -/
import Derived.Test.YteolnlcmnaknnaaGreatDoorTA110
set_option maxHeartbeats 64000000
set_option maxRecDepth 100000
namespace Go.Proofs.YteolnlcmnaknnaaGreatDoor
open Go.RowKit
theorem deepL_all {l : List Ex} : deepL l = false ↔ ∀ i (h : i < l.length),dpr 16 l[i] = false:=by
 unfold deepL
 rw [List.any_eq_false]
 constructor
 ·intro h i hi
  simpa using h _ (List.getElem_mem hi)
 ·intro h x hx
  obtain ⟨i,hi,rfl⟩:=List.getElem_of_mem hx
  rw [h i hi]
  simp

theorem deepSe_all {l : List Se} : (l.any fun x => dpr 16 x.2.1) = false ↔ ∀ i (h : i < l.length),dpr 16 l[i].2.1 = false:=by
 rw [List.any_eq_false]
 constructor
 ·intro h i hi
  simpa using h _ (List.getElem_mem hi)
 ·intro h x hx
  obtain ⟨i,hi,rfl⟩:=List.getElem_of_mem hx
  rw [h i hi]
  simp

theorem deepS_all {t : St} : deepS t = false ↔ (∀ i (h : i < t.on.length),dpr 16 t.on[i] = false) ∧ (∀ i (h : i < t.whr.length),dpr 16 t.whr[i] = false) ∧ (∀ i (h : i < t.items.length),dpr 16 t.items[i] = false) ∧ (∀ i (h : i < t.groups.length),dpr 16 t.groups[i] = false) ∧ ∀ i (h : i < t.sets.length),dpr 16 t.sets[i].2.1 = false:=by
 unfold deepS
 rw [Bool.or_eq_false_iff,Bool.or_eq_false_iff,Bool.or_eq_false_iff,Bool.or_eq_false_iff,deepL_all,deepL_all,deepL_all,deepL_all,deepSe_all]
 exact ⟨fun h => ⟨h.1.1.1.1,h.1.1.1.2,h.1.1.2,h.1.2,h.2⟩,fun h => ⟨⟨⟨⟨h.1,h.2.1⟩,h.2.2.1⟩,h.2.2.2.1⟩,h.2.2.2.2⟩⟩

structure DOth (t : St) : Prop where
 join : t.join = ⟨#[]⟩
 on : t.on.length = 0
 star : t.star = false
 groups : t.groups.length = 0
 sorts : t.sorts.length = 0
 limit : t.limit.length = 0
 items : ∀ i (h : i < t.items.length),DRt 16 t.items[i]
 sets : ∀ i (h : i < t.sets.length),isName t.sets[i].1 = true ∧ DRt 16 t.sets[i].2.1
 kinds : (t.kind = 1 ∧ 1 ≤ t.items.length ∧ t.items.length ≤ 16 ∧ t.sets.length = 0 ∧ t.whr.length = 0) ∨ (t.kind = 2 ∧ t.items.length = 0 ∧ 1 ≤ t.sets.length ∧ t.sets.length ≤ 16) ∨ (t.kind = 3 ∧ t.items.length = 0 ∧ t.sets.length = 0)

def DSt (t : St) : Prop:=isName t.table = true ∧ (∀ i (h : i < t.whr.length),DRt 16 t.whr[i]) ∧ t.whr.length ≤ 1 ∧ ((t.kind = 4 ∧ DSel t) ∨ (t.kind ≠ 4 ∧ DOth t))

theorem sm_nilD {l : List Ex} : SmXs l [] ↔ l.length = 0:=⟨fun h => h.1,fun h => ⟨h,fun _ _ h => absurd h (Nat.not_lt_zero _)⟩⟩

theorem smse_nil {l : List Se} : SmSes l [] ↔ l.length = 0:=⟨fun h => h.1,fun h => ⟨h,fun _ _ h => absurd h (Nat.not_lt_zero _)⟩⟩

theorem smso_nil {l : List So} : SmSos l [] ↔ l.length = 0:=⟨fun h => h.1,fun h => ⟨h,fun _ _ h => absurd h (Nat.not_lt_zero _)⟩⟩

theorem no_lt {n i : Nat} (h : n = 0) : ¬ i < n:=by omega

theorem join_on {t : St} (h : DSel t) : (t.join = ⟨#[]⟩ ∨ isName t.join = true) ∧ decide (t.join = ⟨#[]⟩) = decide (t.on.length = 0) ∧ t.on.length ≤ 1:=by
 rcases h.joined with ⟨a,b⟩ | ⟨a,b⟩
 ·have hn : ¬ t.join = ⟨#[]⟩:=fun e => by rw [e,name_empty] at a; cases a
  refine ⟨Or.inr a,?_,by omega⟩
  rw [decide_eq_false hn,b]
  rfl
 ·refine ⟨Or.inl a,?_,by omega⟩
  rw [decide_eq_true a,b]
  rfl

theorem rt_doc {t : St} : RtSt t ↔ DSt t:=by
 constructor
 ·rintro ⟨hd,hn,h⟩
  obtain ⟨d1,d2,d3,d4,d5⟩:=deepS_all.1 hd
  rcases h with ⟨hk,hs,hi⟩ | ⟨hk,hs,hi,hw⟩ | ⟨hk,hs,hw⟩ | ⟨hk,hs⟩
  ·obtain ⟨_,_,s1,s2,s3,s4,_,s6,s7,s8,s9⟩:=hs
   have w0:=sm_nilD.1 s4
   exact ⟨hn,fun _ hi => absurd hi (no_lt w0),by omega,Or.inr ⟨by omega,s1,sm_nilD.1 s3,s2,sm_nilD.1 s6,smso_nil.1 s8,by rw [s9]; rfl,fun i h => ⟨hi.2.2 i h,d3 i h⟩,fun _ hi => absurd hi (no_lt (smse_nil.1 s7)),Or.inl ⟨hk,hi.1,hi.2.1,smse_nil.1 s7,w0⟩⟩⟩
  ·obtain ⟨_,_,s1,s2,s3,_,s5,s6,_,s8,s9⟩:=hs
   have i0:=sm_nilD.1 s5
   exact ⟨hn,fun i h => ⟨hw.2.2 i h,d2 i h⟩,hw.2.1,Or.inr ⟨by omega,s1,sm_nilD.1 s3,s2,sm_nilD.1 s6,smso_nil.1 s8,by rw [s9]; rfl,fun _ hi => absurd hi (no_lt i0),fun i h => ⟨(hi.2.2 i h).1,(hi.2.2 i h).2,d5 i h⟩,Or.inr (Or.inl ⟨hk,i0,hi.1,hi.2.1⟩)⟩⟩
  ·obtain ⟨_,_,s1,s2,s3,_,s5,s6,s7,s8,s9⟩:=hs
   have i0:=sm_nilD.1 s5
   have e0:=smse_nil.1 s7
   exact ⟨hn,fun i h => ⟨hw.2.2 i h,d2 i h⟩,hw.2.1,Or.inr ⟨by omega,s1,sm_nilD.1 s3,s2,sm_nilD.1 s6,smso_nil.1 s8,by rw [s9]; rfl,fun _ hi => absurd hi (no_lt i0),fun _ hi => absurd hi (no_lt e0),Or.inr (Or.inr ⟨hk,i0,e0⟩)⟩⟩
  ·refine ⟨hn,fun i h => ⟨hs.whr.2.2 i h,d2 i h⟩,hs.whr.2.1,Or.inl ⟨hk,fun i h => ⟨hs.items.2.2 i h,d3 i h⟩,fun i h => ⟨⟨(hs.groups.2.2 i h).2,d4 i h⟩,(hs.groups.2.2 i h).1⟩,fun i h => hs.sorts.2.2 i h,fun i h => hs.limit.2.2 i h,fun i h => ⟨hs.on.2.2 i h,d1 i h⟩,?_,hs.star,hs.items.2.1,hs.groups.2.1,hs.sorts.2.1,hs.limit.2.1,hs.sets⟩⟩
   have hj:=hs.jon
   have ho:=hs.on.2.1
   by_cases hje : t.join = ⟨#[]⟩
   ·rw [decide_eq_true hje] at hj
    exact Or.inr ⟨hje,of_decide_eq_true hj.symm⟩
   ·rw [decide_eq_false hje] at hj
    have:=of_decide_eq_false hj.symm
    exact Or.inl ⟨hs.join.resolve_left hje,by omega⟩
 ·rintro ⟨hn,hw,hw1,⟨hk,hs⟩ | ⟨hk,hs⟩⟩
  ·obtain ⟨j1,j2,j3⟩:=join_on hs
   refine ⟨deepS_all.2 ⟨fun i h => (hs.on i h).2,fun i h => (hw i h).2,fun i h => (hs.items i h).2,fun i h => (hs.groups i h).1.2,fun _ hi => absurd hi (no_lt hs.sets)⟩,hn,Or.inr (Or.inr (Or.inr ⟨hk,?_⟩))⟩
   exact ⟨hs.sets,hs.star,⟨Nat.zero_le _,hs.items8,fun i h => (hs.items i h).1⟩,j1,j2,⟨Nat.zero_le _,j3,fun i h => (hs.on i h).1⟩,⟨Nat.zero_le _,hw1,fun i h => (hw i h).1⟩,⟨Nat.zero_le _,hs.groups8,fun i h => ⟨(hs.groups i h).2,(hs.groups i h).1.1⟩⟩,⟨Nat.zero_le _,hs.sorts8,hs.sorts⟩,⟨Nat.zero_le _,hs.limit1,hs.limit⟩⟩
  ·have hl : t.limit = []:=List.length_eq_zero_iff.1 hs.limit
   refine ⟨deepS_all.2 ⟨fun _ hi => absurd hi (no_lt hs.on),fun i h => (hw i h).2,fun i h => (hs.items i h).2,fun _ hi => absurd hi (no_lt hs.groups),fun i h => (hs.sets i h).2.2⟩,hn,?_⟩
   rcases hs.kinds with ⟨k,a,b,c,d⟩ | ⟨k,a,b,c⟩ | ⟨k,a,b⟩
   ·exact Or.inl ⟨k,⟨rfl,rfl,hs.join,hs.star,sm_nilD.2 hs.on,sm_nilD.2 d,SmXs.refl _,sm_nilD.2 hs.groups,smse_nil.2 c,smso_nil.2 hs.sorts,hl⟩,a,b,fun i h => (hs.items i h).1⟩
   ·exact Or.inr (Or.inl ⟨k,⟨rfl,rfl,hs.join,hs.star,sm_nilD.2 hs.on,SmXs.refl _,sm_nilD.2 a,sm_nilD.2 hs.groups,SmSes.refl _,smso_nil.2 hs.sorts,hl⟩,⟨b,c,fun i h => ⟨(hs.sets i h).1,(hs.sets i h).2.1⟩⟩,Nat.zero_le _,hw1,fun i h => (hw i h).1⟩)
   ·exact Or.inr (Or.inr (Or.inl ⟨k,⟨rfl,rfl,hs.join,hs.star,sm_nilD.2 hs.on,SmXs.refl _,sm_nilD.2 a,sm_nilD.2 hs.groups,smse_nil.2 b,smso_nil.2 hs.sorts,hl⟩,Nat.zero_le _,hw1,fun i h => (hw i h).1⟩))

theorem dRight_any (t : St) (a0 a1 a2 a3 a4 a5 a6 : Option Addr) (c0 c1 c2 c3 c4 c5 c6 : Nat) (w : World) (h : StRA w t (.slice a0 t.on.length c0) (.slice a1 t.whr.length c1) (.slice a2 t.items.length c2) (.slice a3 t.sets.length c3) (.slice a4 t.groups.length c4) (.slice a5 t.sorts.length c5) (.slice a6 t.limit.length c6)) : Calls Tryz.prog 16 #[.agg #[.int .i64 t.kind,.string t.table,.string t.join,.slice a0 t.on.length c0,.slice a1 t.whr.length c1,.slice a2 t.items.length c2,.bool t.star,.slice a3 t.sets.length c3,.slice a4 t.groups.length c4,.slice a5 t.sorts.length c5,.slice a6 t.limit.length c6,.int .i64 t.place,.int .i64 t.joinAt]] w (EqPost (DSt t) w):=by
 have HSEL:=Lib.hid (fun W (hb : Below w.heap.size w W) => dRightSelect_any t a0 a1 a2 a3 a4 a5 a6 c0 c1 c2 c3 c4 c5 c6 W (h.later hb))
 obtain ⟨Q,hQ⟩ : ∃ Q,DSt t = Q:=⟨_,rfl⟩
 have HQ : Hid (Q ↔ DSt t):=Lib.hid (hQ ▸ Iff.rfl)
 rw [hQ]
 clear hQ
 have HA:=Lib.hid h
 clear h
 obtain ⟨join_,ej⟩ : ∃ z,t.join = z:=⟨_,rfl⟩
 obtain ⟨star_,es⟩ : ∃ z,t.star = z:=⟨_,rfl⟩
 obtain ⟨n0,e0⟩ : ∃ z,t.on.length = z:=⟨_,rfl⟩
 obtain ⟨n4,e4⟩ : ∃ z,t.groups.length = z:=⟨_,rfl⟩
 obtain ⟨n5,e5⟩ : ∃ z,t.sorts.length = z:=⟨_,rfl⟩
 obtain ⟨n6,e6⟩ : ∃ z,t.limit.length = z:=⟨_,rfl⟩
 have HL0:=Lib.hid e0
 have HL4:=Lib.hid e4
 have HL5:=Lib.hid e5
 have HL6:=Lib.hid e6
 have HF : Hid (t.join = join_ ∧ t.star = star_):=⟨ej,es⟩
 rw [ej,es,e0,e4,e5,e6] at HSEL ⊢
 clear ej es e0 e4 e5 e6
 obtain ⟨W,hW⟩ : ∃ W,w.alloc (.cells #[.int .i64 t.kind,.string t.table,.string join_,.slice a0 n0 c0,.slice a1 t.whr.length c1,.slice a2 t.items.length c2,.bool star_,.slice a3 t.sets.length c3,.slice a4 n4 c4,.slice a5 n5 c5,.slice a6 n6 c6,.int .i64 t.place,.int .i64 t.joinAt] 27) = W:=⟨_,rfl⟩
 have hb : Below w.heap.size w W:=hW ▸ (Below.refl _ _).alloc (Nat.le_refl _) _
 have hr : W.heap[w.heap.size]? = some (.cells #[.int .i64 t.kind,.string t.table,.string join_,.slice a0 n0 c0,.slice a1 t.whr.length c1,.slice a2 t.items.length c2,.bool star_,.slice a3 t.sets.length c3,.slice a4 n4 c4,.slice a5 n5 c5,.slice a6 n6 c6,.int .i64 t.place,.int .i64 t.joinAt] 27 (0,0)):=hW ▸ heap_alloc_new w _
 have HB:=Lib.hid hb
 have RE:=Lib.hid hr
 clear hb hr
 obtain ⟨⟨y0,y1,y2,y3,y4,y5,y6,y7,y8,y9,y10,y11,y12⟩,-⟩:=thirt_of RE.out
 go_enter Tryz.func16,Tryz.ntmps16
 go_wp2_with fail
 clear hW
 refine (dIsName_any t.table _).mono ?_
 rintro e w' ⟨rfl,hw⟩
 replace hw:=hw.symm
 subst hw
 obtain ⟨bn,hbn⟩ : ∃ b,isName t.table = b:=⟨_,rfl⟩
 rw [hbn]
 have HBN:=Lib.hid hbn
 clear hbn
 go_wp2_with fail
 refine (dRights_any t.whr a1 c1 _ (HA.out.later HB.out).rd.whr).mono ?_
 rintro e w1 ⟨⟨bw,rfl,hbw⟩,hl⟩
 have HBW1:=Lib.hid hbw
 have HB1:=Hbt HB hl
 have RE1:=Hbk hl RE
 clear hbw hl y0 y1 y2 y3 y4 y5 y6 y7 y8 y9 y10 y11 y12
 obtain ⟨⟨y0,y1,y2,y3,y4,y5,y6,y7,y8,y9,y10,y11,y12⟩,-⟩:=thirt_of RE1.out
 cases bn with
 | false =>
  have HE : Hid (¬ Q):=Lib.hid (fun h => absurd ((HQ.out.1 h).1.symm.trans HBN.out) (by simp))
  go_wp2
  exact bodyPost_ret (v:=.bool false) (by simp [results,Tryz.results16,go_sem]) rfl (eq_no HE.out HB1.out)
 | true =>
  cases bw with
  | false =>
   have HE : Hid (¬ Q):=Lib.hid (fun h => absurd (HBW1.out.2 (HQ.out.1 h).2.1) (by simp))
   go_wp2
   exact bodyPost_ret (v:=.bool false) (by simp [results,Tryz.results16,go_sem]) rfl (eq_no HE.out HB1.out)
  | true =>
   by_cases n1 : (1 : Int) < (t.whr.length : Int)
   ·have HE : Hid (¬ Q):=Lib.hid (fun h => absurd (HQ.out.1 h).2.2.1 (by omega))
    go_wp2
    exact bodyPost_ret (v:=.bool false) (by simp [results,Tryz.results16,go_sem]) rfl (eq_no HE.out HB1.out)
   by_cases n2 : t.kind < 1
   ·have HE : Hid (¬ Q):=Lib.hid (fun h => by rcases (HQ.out.1 h).2.2.2 with ⟨e,_⟩ | ⟨_,d⟩ <;> first | omega | (rcases d.kinds with ⟨e,_⟩ | ⟨e,_⟩ | ⟨e,_⟩ <;> omega))
    go_wp2
    exact bodyPost_ret (v:=.bool false) (by simp [results,Tryz.results16,go_sem]) rfl (eq_no HE.out HB1.out)
   by_cases n3 : 4 < t.kind
   ·have HE : Hid (¬ Q):=Lib.hid (fun h => by rcases (HQ.out.1 h).2.2.2 with ⟨e,_⟩ | ⟨_,d⟩ <;> first | omega | (rcases d.kinds with ⟨e,_⟩ | ⟨e,_⟩ | ⟨e,_⟩ <;> omega))
    go_wp2
    exact bodyPost_ret (v:=.bool false) (by simp [results,Tryz.results16,go_sem]) rfl (eq_no HE.out HB1.out)
   have HW1 : Hid (t.whr.length ≤ 1):=Lib.hid (by omega)
   by_cases k4 : t.kind = 4
   ·have d4 : (t.kind == 4) = true:=by simpa using k4
    have HE0 : Hid (Q ↔ DSel t):=Lib.hid (HQ.out.trans ⟨fun h => by rcases h.2.2.2 with ⟨_,d⟩ | ⟨e,_⟩ <;> first | exact d | exact absurd k4 e,fun h => ⟨HBN.out,HBW1.out.1 rfl,HW1.out,Or.inl ⟨k4,h⟩⟩⟩)
    clear k4
    go_wp2_with fail
    refine (HSEL.out _ HB1.out).mono ?_
    rintro e w2 ⟨⟨b,rfl,hbb⟩,hl⟩
    have HB2:=Hbt HB1 hl
    have HE:=Lib.hid (hbb.trans HE0.out.symm)
    clear hbb hl
    go_wp2
    exact bodyPost_ret (v:=.bool b) (by simp [results,Tryz.results16,go_sem]) rfl ⟨⟨b,rfl,HE.out⟩,HB2.out⟩
   have d4 : (t.kind == 4) = false:=by simpa using k4
   have HO : Hid (Q ↔ DOth t):=Lib.hid (HQ.out.trans ⟨fun h => by rcases h.2.2.2 with ⟨e,_⟩ | ⟨_,d⟩ <;> first | exact d | exact absurd e k4,fun h => ⟨HBN.out,HBW1.out.1 rfl,HW1.out,Or.inr ⟨k4,h⟩⟩⟩)
   have HK : Hid (t.kind = 1 ∨ t.kind = 2 ∨ t.kind = 3):=Lib.hid (by omega)
   clear k4 HSEL
   by_cases hj : join_ = ⟨#[]⟩
   rotate_left
   ·obtain ⟨e1,e2⟩:=not_nil hj
    have e3:=str_ne hj
    have HE : Hid (¬ Q):=Lib.hid (fun h => hj (HF.out.1.symm.trans (HO.out.1 h).join))
    go_wp2
    exact bodyPost_ret (v:=.bool false) (by simp [results,Tryz.results16,go_sem]) rfl (eq_no HE.out HB1.out)
   have HJ : Hid (t.join = ⟨#[]⟩):=Lib.hid (HF.out.1.trans hj)
   subst hj
   by_cases m0 : n0 = 0
   rotate_left
   ·have d : (0 : Int) < (n0 : Int):=by omega
    have d2 : 0 < n0:=by omega
    have HE : Hid (¬ Q):=Lib.hid (fun h => m0 (HL0.out.symm.trans (HO.out.1 h).on))
    go_wp2
    exact bodyPost_ret (v:=.bool false) (by simp [results,Tryz.results16,go_sem]) rfl (eq_no HE.out HB1.out)
   have M0 : Hid (t.on.length = 0):=Lib.hid (HL0.out.trans m0)
   subst m0
   cases hst : star_ with
   | true =>
    subst hst
    have HE : Hid (¬ Q):=Lib.hid (fun h => absurd (HF.out.2.symm.trans (HO.out.1 h).star) (by simp))
    go_wp2
    exact bodyPost_ret (v:=.bool false) (by simp [results,Tryz.results16,go_sem]) rfl (eq_no HE.out HB1.out)
   | false =>
    subst hst
    have HS : Hid (t.star = false):=HF.out.2
    by_cases m1 : n4 = 0
    rotate_left
    ·have d : (0 : Int) < (n4 : Int):=by omega
     have d2 : 0 < n4:=by omega
     have HE : Hid (¬ Q):=Lib.hid (fun h => m1 (HL4.out.symm.trans (HO.out.1 h).groups))
     go_wp2
     exact bodyPost_ret (v:=.bool false) (by simp [results,Tryz.results16,go_sem]) rfl (eq_no HE.out HB1.out)
    have M1 : Hid (t.groups.length = 0):=Lib.hid (HL4.out.trans m1)
    subst m1
    by_cases m2 : n5 = 0
    rotate_left
    ·have d : (0 : Int) < (n5 : Int):=by omega
     have d2 : 0 < n5:=by omega
     have HE : Hid (¬ Q):=Lib.hid (fun h => m2 (HL5.out.symm.trans (HO.out.1 h).sorts))
     go_wp2
     exact bodyPost_ret (v:=.bool false) (by simp [results,Tryz.results16,go_sem]) rfl (eq_no HE.out HB1.out)
    have M2 : Hid (t.sorts.length = 0):=Lib.hid (HL5.out.trans m2)
    subst m2
    by_cases m3 : n6 = 0
    rotate_left
    ·have d : (0 : Int) < (n6 : Int):=by omega
     have d2 : 0 < n6:=by omega
     have HE : Hid (¬ Q):=Lib.hid (fun h => m3 (HL6.out.symm.trans (HO.out.1 h).limit))
     go_wp2
     exact bodyPost_ret (v:=.bool false) (by simp [results,Tryz.results16,go_sem]) rfl (eq_no HE.out HB1.out)
    have M3 : Hid (t.limit.length = 0):=Lib.hid (HL6.out.trans m3)
    subst m3
    go_wp2_with fail
    refine (dRights_any t.items a2 c2 _ (HA.out.later HB1.out).rd.items).mono ?_
    rintro e w2 ⟨⟨bi,rfl,hbi⟩,hl⟩
    have HBI:=Lib.hid hbi
    have HB2:=Hbt HB1 hl
    have RE2:=Hbk hl RE1
    have hsz : w.heap.size < w2.heap.size:=(Gx RE2.out)
    clear hbi hl y0 y1 y2 y3 y4 y5 y6 y7 y8 y9 y10 y11 y12
    obtain ⟨⟨y0,y1,y2,y3,y4,y5,y6,y7,y8,y9,y10,y11,y12⟩,-⟩:=thirt_of RE2.out
    go_wp2
    clear y0 y1 y2 y3 y4 y5 y6 y7 y8 y9 y10 y11 y12
    go_loopw [6] (fun i wr => ∃ k : Nat,k ≤ t.sets.length ∧ i = .int .i64 (k : Int) ∧ (∀ j (h : j < t.sets.length),j < k → isName t.sets[j].1 = true ∧ DRt 16 t.sets[j].2.1) ∧ Below w2.heap.size w2 wr) (fun i _ => t.sets.length - (intOf i).toNat)
    case atStart => exact ⟨0,Nat.zero_le _,rfl,fun _ _ h => absurd h (Nat.not_lt_zero _),by first | exact Below.refl _ _ | exact (Below.refl _ _).drew⟩
    case round =>
     rename World => R
     obtain ⟨k,hk,rfl,hall,hb⟩:=hrel
     have HALL:=Lib.hid hall
     have HW:=Lib.hid hb
     have hin : Below w.heap.size w R:=HB2.out.trans (hb.mono HB2.out.size)
     have HBW:=Lib.hid hin
     obtain ⟨⟨y0,y1,y2,y3,y4,y5,y6,y7,y8,y9,y10,y11,y12⟩,-⟩:=thirt_of ((hb.block _ hsz).trans RE2.out)
     clear hall hb hin
     by_cases hlt : k < t.sets.length
     ·have hlti : (k : Int) < (t.sets.length : Int):=by omega
      obtain ⟨p',c',ks,e,_,_,hlk,hrow,hxs⟩:=HA.out.rd.sets
      injection e with e1 _ e3
      subst e1 e3
      have hlt' : k < ks.length:=by rw [← hlk]; exact hlt
      obtain ⟨b,off,e4,hcs⟩:=hrow k hlt hlt'
      subst e4
      have hxk:=hxs k hlt hlt'
      clear hrow hxs hlk
      obtain ⟨a9,m9,c9,hks⟩:=hxk.slice
      rw [hks] at hcs hxk
      obtain ⟨⟨nm,⟨kk2,oo2,⟨u1,u2,u3⟩,tt2,nn2,ks2,pp2⟩,pl⟩,hxx⟩ : ∃ x,t.sets[k] = x:=⟨_,rfl⟩
      rw [hxx] at hcs hxk
      have HXK:=Lib.hid hxk
      have HXE:=Lib.hid hxx
      clear hks hxk hxx
      have HCS : Hid (∀ j u,[.string nm,.int .i64 kk2,.int .i64 oo2,.int .i64 u1,.int .i64 u2,.string u3,.string tt2,.string nn2,.slice a9 m9 c9,.int .i64 pp2,.int .i64 pl][j]? = some u → w.cell? ⟨b,off + k * 11 + j,none⟩ = some u):=hcs
      clear hcs
      have q0:=Cl HBW.out (HCS.out 0 _ rfl)
      have q1:=Cl HBW.out (HCS.out 1 _ rfl)
      have q2:=Cl HBW.out (HCS.out 2 _ rfl)
      have q3:=Cl HBW.out (HCS.out 3 _ rfl)
      have q4:=Cl HBW.out (HCS.out 4 _ rfl)
      have q5:=Cl HBW.out (HCS.out 5 _ rfl)
      have q6:=Cl HBW.out (HCS.out 6 _ rfl)
      have q7:=Cl HBW.out (HCS.out 7 _ rfl)
      have q8:=Cl HBW.out (HCS.out 8 _ rfl)
      have q9:=Cl HBW.out (HCS.out 9 _ rfl)
      have q10:=Cl HBW.out (HCS.out 10 _ rfl)
      simp only [Nat.add_zero] at q0
      go_wp2_with fail
      refine (dIsName_any nm _).mono ?_
      rintro e w' ⟨rfl,hw⟩
      replace hw:=hw.symm
      subst hw
      obtain ⟨bm,hbm⟩ : ∃ b,isName nm = b:=⟨_,rfl⟩
      rw [hbm]
      have HBM:=Lib.hid hbm
      clear hbm
      go_wp2_with fail
      refine (dRight1 (Ex.mk kk2 oo2 (u1,u2,u3) tt2 nn2 ks2 pp2) _ _ (HXK.out.later HBW.out)).mono ?_
      rintro e w3 ⟨⟨fine,rfl,hf⟩,hl⟩
      have HFI : Hid (fine = true ↔ DRt 16 t.sets[k].2.1):=Lib.hid (hf.trans (by rw [HXE.out]))
      have HNM : Hid (isName t.sets[k].1 = bm):=Lib.hid (by rw [HXE.out]; exact HBM.out)
      have HW2:=Hbt HW hl
      have HBW2:=Hbt HBW hl
      clear hf hl q0 q1 q2 q3 q4 q5 q6 q7 q8 q9 q10 y0 y1 y2 y3 y4 y5 y6 y7 y8 y9 y10 y11 y12
      cases bm with
      | false =>
       have HE : Hid (¬ Q):=Lib.hid (fun h => absurd (((HO.out.1 h).sets k hlt).1.symm.trans HNM.out) (by simp))
       go_wp2
       exact bodyPost_ret (v:=.bool false) (by simp [results,Tryz.results16,go_sem]) rfl (eq_no HE.out HBW2.out)
      | true =>
       cases fine with
       | false =>
        have HE : Hid (¬ Q):=Lib.hid (fun h => absurd (HFI.out.2 ((HO.out.1 h).sets k hlt).2) (by simp))
        go_wp2
        exact bodyPost_ret (v:=.bool false) (by simp [results,Tryz.results16,go_sem]) rfl (eq_no HE.out HBW2.out)
       | true =>
        have HALL2 : Hid (∀ j (h : j < t.sets.length),j < k + 1 → isName t.sets[j].1 = true ∧ DRt 16 t.sets[j].2.1):=fun j h hj => by
         by_cases e : j = k
         ·subst e; exact ⟨HNM.out,HFI.out.1 rfl⟩
         ·exact HALL.out j h (by omega)
        go_wp2
        go_roundw
        case rel => exact ⟨k + 1,by omega,by go_num,HALL2.out,HW2.out⟩
        case measure => simp [intOf]; omega
     ·have hnlt : ¬ (k : Int) < (t.sets.length : Int):=by omega
      have HG : Hid (∀ j (h : j < t.sets.length),isName t.sets[j].1 = true ∧ DRt 16 t.sets[j].2.1):=fun i h => HALL.out i h (by omega)
      clear HALL hk hlt
      by_cases k1 : t.kind = 1
      ·have KI:=Lib.hid k1
       have dk1 : (t.kind == 1) = true:=by simpa using k1
       have dk2 : (t.kind == 2) = false:=by simp [k1]
       have dk3 : (t.kind == 3) = false:=by simp [k1]
       clear k1
       have HKK : Hid (Q → 1 ≤ t.items.length ∧ t.items.length ≤ 16 ∧ t.sets.length = 0 ∧ t.whr.length = 0):=Lib.hid (fun h => by rcases (HO.out.1 h).kinds with ⟨e,d⟩ | ⟨e,d⟩ | ⟨e,d⟩ <;> first | exact d | (rw [KI.out] at e; exact absurd e (by decide)))
       by_cases c0_ : 1 ≤ t.items.length
       rotate_left
       ·have HE : Hid (¬ Q):=Lib.hid (fun h => c0_ (HKK.out h).1)
        have dn : ¬ (1 : Int) ≤ (t.items.length : Int):=by omega
        clear c0_
        cases bi <;> (go_wp2; exact bodyPost_ret (v:=.bool false) (by simp [results,Tryz.results16,go_sem]) rfl (eq_no HE.out HBW.out))
       have dy0 : (1 : Int) ≤ (t.items.length : Int):=by omega
       have C0:=Lib.hid c0_
       clear c0_
       by_cases c1_ : t.items.length ≤ 16
       rotate_left
       ·have HE : Hid (¬ Q):=Lib.hid (fun h => c1_ (HKK.out h).2.1)
        have dn : ¬ (t.items.length : Int) ≤ 16:=by omega
        clear c1_
        cases bi <;> (go_wp2; exact bodyPost_ret (v:=.bool false) (by simp [results,Tryz.results16,go_sem]) rfl (eq_no HE.out HBW.out))
       have dy1 : (t.items.length : Int) ≤ 16:=by omega
       have C1:=Lib.hid c1_
       clear c1_
       by_cases c2_ : t.sets.length = 0
       rotate_left
       ·have HE : Hid (¬ Q):=Lib.hid (fun h => c2_ (HKK.out h).2.2.1)
        have dn : ((t.sets.length : Int) == 0) = false:=by simpa using c2_
        clear c2_
        cases bi <;> (go_wp2; exact bodyPost_ret (v:=.bool false) (by simp [results,Tryz.results16,go_sem]) rfl (eq_no HE.out HBW.out))
       have dy2 : ((t.sets.length : Int) == 0) = true:=by simpa using c2_
       have C2:=Lib.hid c2_
       clear c2_
       by_cases c3_ : t.whr.length = 0
       rotate_left
       ·have HE : Hid (¬ Q):=Lib.hid (fun h => c3_ (HKK.out h).2.2.2)
        have dn : ((t.whr.length : Int) == 0) = false:=by simpa using c3_
        clear c3_
        cases bi <;> (go_wp2; exact bodyPost_ret (v:=.bool false) (by simp [results,Tryz.results16,go_sem]) rfl (eq_no HE.out HBW.out))
       have dy3 : ((t.whr.length : Int) == 0) = true:=by simpa using c3_
       have C3:=Lib.hid c3_
       clear c3_
       cases bi with
       | false =>
        have HE : Hid (¬ Q):=Lib.hid (fun h => absurd (HBI.out.2 (HO.out.1 h).items) (by simp))
        go_wp2
        exact bodyPost_ret (v:=.bool false) (by simp [results,Tryz.results16,go_sem]) rfl (eq_no HE.out HBW.out)
       | true =>
        have HE : Hid Q:=HO.out.2 ⟨HJ.out,M0.out,HS.out,M1.out,M2.out,M3.out,HBI.out.1 rfl,HG.out,Or.inl ⟨KI.out,C0.out,C1.out,C2.out,C3.out⟩⟩
        go_wp2
        exact bodyPost_ret (v:=.bool true) (by simp [results,Tryz.results16,go_sem]) rfl (eq_yes HE.out HBW.out)
      have dk1 : (t.kind == 1) = false:=by simpa using k1
      by_cases k2 : t.kind = 2
      ·have KI:=Lib.hid k2
       have dk2 : (t.kind == 2) = true:=by simpa using k2
       have dk3 : (t.kind == 3) = false:=by simp [k2]
       clear k2
       have HKK : Hid (Q → t.items.length = 0 ∧ 1 ≤ t.sets.length ∧ t.sets.length ≤ 16):=Lib.hid (fun h => by rcases (HO.out.1 h).kinds with ⟨e,d⟩ | ⟨e,d⟩ | ⟨e,d⟩ <;> first | exact d | (rw [KI.out] at e; exact absurd e (by decide)))
       by_cases c0_ : t.items.length = 0
       rotate_left
       ·have HE : Hid (¬ Q):=Lib.hid (fun h => c0_ (HKK.out h).1)
        have dn : ((t.items.length : Int) == 0) = false:=by simpa using c0_
        clear c0_
        cases bi <;> (go_wp2; exact bodyPost_ret (v:=.bool false) (by simp [results,Tryz.results16,go_sem]) rfl (eq_no HE.out HBW.out))
       have dy0 : ((t.items.length : Int) == 0) = true:=by simpa using c0_
       have C0:=Lib.hid c0_
       clear c0_
       by_cases c1_ : 1 ≤ t.sets.length
       rotate_left
       ·have HE : Hid (¬ Q):=Lib.hid (fun h => c1_ (HKK.out h).2.1)
        have dn : ¬ (1 : Int) ≤ (t.sets.length : Int):=by omega
        clear c1_
        cases bi <;> (go_wp2; exact bodyPost_ret (v:=.bool false) (by simp [results,Tryz.results16,go_sem]) rfl (eq_no HE.out HBW.out))
       have dy1 : (1 : Int) ≤ (t.sets.length : Int):=by omega
       have C1:=Lib.hid c1_
       clear c1_
       by_cases c2_ : t.sets.length ≤ 16
       rotate_left
       ·have HE : Hid (¬ Q):=Lib.hid (fun h => c2_ (HKK.out h).2.2)
        have dn : ¬ (t.sets.length : Int) ≤ 16:=by omega
        clear c2_
        cases bi <;> (go_wp2; exact bodyPost_ret (v:=.bool false) (by simp [results,Tryz.results16,go_sem]) rfl (eq_no HE.out HBW.out))
       have dy2 : (t.sets.length : Int) ≤ 16:=by omega
       have C2:=Lib.hid c2_
       clear c2_
       cases bi with
       | false =>
        have HE : Hid (¬ Q):=Lib.hid (fun h => absurd (HBI.out.2 (HO.out.1 h).items) (by simp))
        go_wp2
        exact bodyPost_ret (v:=.bool false) (by simp [results,Tryz.results16,go_sem]) rfl (eq_no HE.out HBW.out)
       | true =>
        have HE : Hid Q:=HO.out.2 ⟨HJ.out,M0.out,HS.out,M1.out,M2.out,M3.out,HBI.out.1 rfl,HG.out,Or.inr (Or.inl ⟨KI.out,C0.out,C1.out,C2.out⟩)⟩
        go_wp2
        exact bodyPost_ret (v:=.bool true) (by simp [results,Tryz.results16,go_sem]) rfl (eq_yes HE.out HBW.out)
      have dk2 : (t.kind == 2) = false:=by simpa using k2
      by_cases k3 : t.kind = 3
      ·have KI:=Lib.hid k3
       have dk3 : (t.kind == 3) = true:=by simpa using k3
       clear k3
       have HKK : Hid (Q → t.items.length = 0 ∧ t.sets.length = 0):=Lib.hid (fun h => by rcases (HO.out.1 h).kinds with ⟨e,d⟩ | ⟨e,d⟩ | ⟨e,d⟩ <;> first | exact d | (rw [KI.out] at e; exact absurd e (by decide)))
       by_cases c0_ : t.items.length = 0
       rotate_left
       ·have HE : Hid (¬ Q):=Lib.hid (fun h => c0_ (HKK.out h).1)
        have dn : ((t.items.length : Int) == 0) = false:=by simpa using c0_
        clear c0_
        cases bi <;> (go_wp2; exact bodyPost_ret (v:=.bool false) (by simp [results,Tryz.results16,go_sem]) rfl (eq_no HE.out HBW.out))
       have dy0 : ((t.items.length : Int) == 0) = true:=by simpa using c0_
       have C0:=Lib.hid c0_
       clear c0_
       by_cases c1_ : t.sets.length = 0
       rotate_left
       ·have HE : Hid (¬ Q):=Lib.hid (fun h => c1_ (HKK.out h).2)
        have dn : ((t.sets.length : Int) == 0) = false:=by simpa using c1_
        clear c1_
        cases bi <;> (go_wp2; exact bodyPost_ret (v:=.bool false) (by simp [results,Tryz.results16,go_sem]) rfl (eq_no HE.out HBW.out))
       have dy1 : ((t.sets.length : Int) == 0) = true:=by simpa using c1_
       have C1:=Lib.hid c1_
       clear c1_
       cases bi with
       | false =>
        have HE : Hid (¬ Q):=Lib.hid (fun h => absurd (HBI.out.2 (HO.out.1 h).items) (by simp))
        go_wp2
        exact bodyPost_ret (v:=.bool false) (by simp [results,Tryz.results16,go_sem]) rfl (eq_no HE.out HBW.out)
       | true =>
        have HE : Hid Q:=HO.out.2 ⟨HJ.out,M0.out,HS.out,M1.out,M2.out,M3.out,HBI.out.1 rfl,HG.out,Or.inr (Or.inr ⟨KI.out,C0.out,C1.out⟩)⟩
        go_wp2
        exact bodyPost_ret (v:=.bool true) (by simp [results,Tryz.results16,go_sem]) rfl (eq_yes HE.out HBW.out)
      have dk3 : (t.kind == 3) = false:=by simpa using k3
      exact absurd HK.out (by omega)
end Go.Proofs.YteolnlcmnaknnaaGreatDoor
