/- A99 A100 A101 -/
import Derived.Test.YtbfjmccpcbhljaaGreatDoorTA95
set_option maxHeartbeats 4000000
set_option maxRecDepth 100000
namespace Go.Proofs.YtbfjmccpcbhljaaGreatDoor
open Go.RowKit
def kindOf : Ex → Int
 | .mk k _ _ _ _ _ _ => k

def isOver (e : Ex) : Prop:=kindOf e = 11 ∨ kindOf e = 12 ∨ kindOf e = 13 ∨ kindOf e = 14

inductive RtI : Ex → Prop
 | mk {kind op : Int} {v : V3} {t n : ByteArray} {ks : List Ex} {p : Int} (h1 : (formK kind).1 ≤ op) (h2 : op ≤ (formK kind).2.1) (h3 : (formK kind).2.2.1 ≤ ks.length) (h4 : ks.length ≤ (formK kind).2.2.2) (h5 : ∀ i (h : i < ks.length),¬ isOver ks[i]) (h6 : ∀ i (h : i < ks.length),RtI ks[i]) (h7 : wdOk (.mk kind op v t n ks p)) : RtI (.mk kind op v t n ks p)

def RtE (e : Ex) : Prop:=¬ isOver e ∧ RtI e

theorem RtI.iff {kind op : Int} {v : V3} {t n : ByteArray} {ks : List Ex} {p : Int} : RtI (.mk kind op v t n ks p) ↔ (formK kind).1 ≤ op ∧ op ≤ (formK kind).2.1 ∧ ((formK kind).2.2.1 ≤ ks.length ∧ ks.length ≤ (formK kind).2.2.2 ∧ ∀ i (h : i < ks.length),RtE ks[i]) ∧ wdOk (.mk kind op v t n ks p):=by
 constructor
 ·intro h
  cases h with
  | mk h1 h2 h3 h4 h5 h6 h7 => exact ⟨h1,h2,⟨h3,h4,fun i h => ⟨h5 i h,h6 i h⟩⟩,h7⟩
 ·rintro ⟨h1,h2,⟨h3,h4,h5⟩,h7⟩
  exact RtI.mk h1 h2 h3 h4 (fun i h => (h5 i h).1) (fun i h => (h5 i h).2) h7

theorem rightItem_step (kk oo : Int) (v : V3) (tt nn : ByteArray) (es : List Ex) (pp : Int) (ih : ∀ i (h : i < es.length) (k : Value) (W : World),XR W es[i] k → Calls Tryz.prog 21 #[.agg (exC es[i] k).toArray] W (EqPost (RtE es[i]) W)) (k : Value) (w : World) (hx : XR w (.mk kk oo v tt nn es pp) k) : Calls Tryz.prog 59 #[.agg (exC (.mk kk oo v tt nn es pp) k).toArray] w (EqPost (RtI (.mk kk oo v tt nn es pp)) w):=by
 have HX:=Lib.hid hx
 have HIH:=Lib.hid ih
 clear ih
 obtain ⟨Q,hQ⟩ : ∃ Q,RtI (.mk kk oo v tt nn es pp) = Q:=⟨_,rfl⟩
 have HQ : Hid (Q ↔ (formK kk).1 ≤ oo ∧ oo ≤ (formK kk).2.1 ∧ ((formK kk).2.2.1 ≤ es.length ∧ es.length ≤ (formK kk).2.2.2 ∧ ∀ i (h : i < es.length),RtE es[i]) ∧ wdOk (.mk kk oo v tt nn es pp)):=Lib.hid (hQ ▸ RtI.iff)
 rw [hQ]
 clear hQ
 cases hx with
 | @mk _ _ _ _ _ _ _ a c ks h1 hc1 hm1 hr1 hs1 =>
  have HA1 : Hid (XLR w es (.slice a es.length c)):=⟨a,c,ks,rfl,hc1,hm1,h1,hr1,hs1⟩
  clear h1 hc1 hm1 hr1 hs1
  obtain ⟨⟨lo,hi,le,mo⟩,hf⟩ : ∃ f,formK kk = f:=⟨_,rfl⟩
  have hfo:=formOf_any kk
  unfold formV at hfo
  rw [hf] at HQ hfo
  have HFO:=Lib.hid hfo
  clear hf hfo
  simp only at HQ HFO
  have HW:=Lib.hid (fun W (hb : Below w.heap.size w W) => rightWords_any (.mk kk oo v tt nn es pp) (.slice a es.length c) W (HX.out.later hb))
  obtain ⟨v1,v2,v3⟩:=v
  simp only [exC] at HW ⊢
  obtain ⟨W,hW⟩ : ∃ W,w.alloc (.cells #[.int .i64 kk,.int .i64 oo,.int .i64 v1,.int .i64 v2,.string v3,.string tt,.string nn,.slice a es.length c,.int .i64 pp] 49) = W:=⟨_,rfl⟩
  have hb : Below w.heap.size w W:=hW ▸ (Below.refl _ _).alloc (Nat.le_refl _) _
  have hr : W.heap[w.heap.size]? = some (.cells #[.int .i64 kk,.int .i64 oo,.int .i64 v1,.int .i64 v2,.string v3,.string tt,.string nn,.slice a es.length c,.int .i64 pp] 49 (0,0)):=hW ▸ heap_alloc_new w _
  have HB:=Lib.hid hb
  have HR:=Lib.hid hr
  obtain ⟨⟨y0,y1,y2,y3,y4,y5,y6,y7,y8⟩,-⟩:=nine_of hr
  clear hb hr
  go_enter Tryz.func59,Tryz.ntmps59
  go_wp2_with fail
  clear hW
  refine (HFO.out W).mono ?_
  rintro e w1 ⟨rfl,hb1⟩
  have R1:=Hbk hb1 HR
  have B1:=Hbt HB hb1
  clear hb1 HR HB y0 y1 y2 y3 y4 y5 y6 y7 y8
  go_upto_region 2 with fail
  obtain ⟨W2,hW2⟩ : ∃ W,w1.alloc (.cells #[.int .i64 lo,.int .i64 hi,.int .i64 (le : Int),.int .i64 (mo : Int)] 115) = W:=⟨_,rfl⟩
  rw [hW2]
  have hb2 : Below w1.heap.size w1 W2:=hW2 ▸ (Below.refl _ _).alloc (Nat.le_refl _) _
  have hr2 : W2.heap[w1.heap.size]? = some (.cells #[.int .i64 lo,.int .i64 hi,.int .i64 (le : Int),.int .i64 (mo : Int)] 115 (0,0)):=hW2 ▸ heap_alloc_new w1 _
  have R2:=Hbk hb2 R1
  have F2:=Lib.hid hr2
  have B2:=Hbt B1 hb2
  clear hW2 hb2 hr2 R1 B1
  obtain ⟨⟨y0,y1,y2,y3,y4,y5,y6,y7,y8⟩,-⟩:=nine_of R2.out
  obtain ⟨⟨z0,z1,z2,z3⟩,-⟩:=four_of F2.out
  by_cases n1 : lo ≤ oo
  rotate_left
  ·have HE : Hid (¬ Q):=Lib.hid (fun h => n1 (HQ.out.1 h).1)
   go_wp2
   exact bodyPost_ret (v:=.bool false) (by simp [results,Tryz.results59,go_sem]) rfl (eq_no HE.out B2.out)
  by_cases n2 : oo ≤ hi
  rotate_left
  ·have HE : Hid (¬ Q):=Lib.hid (fun h => n2 (HQ.out.1 h).2.1)
   go_wp2
   exact bodyPost_ret (v:=.bool false) (by simp [results,Tryz.results59,go_sem]) rfl (eq_no HE.out B2.out)
  have HWI:=Lib.hid (within_rightExpr RtE le mo es a c W2 (HA1.out.later B2.out) HIH.out)
  go_wp2_with fail
  refine HWI.out.mono ?_
  rintro e w3 ⟨⟨b,rfl,hbb⟩,hb3⟩
  have R3:=Hbk hb3 R2
  have B3:=Hbt B2 hb3
  clear hb3 y0 y1 y2 y3 y4 y5 y6 y7 y8 z0 z1 z2 z3
  obtain ⟨⟨y0,y1,y2,y3,y4,y5,y6,y7,y8⟩,-⟩:=nine_of R3.out
  cases b with
  | false =>
   have HE : Hid (¬ Q):=Lib.hid (fun h => absurd (hbb.2 (HQ.out.1 h).2.2.1) (by simp))
   clear hbb
   go_wp2
   exact bodyPost_ret (v:=.bool false) (by simp [results,Tryz.results59,go_sem]) rfl (eq_no HE.out B3.out)
  | true =>
   have HN:=Lib.hid (hbb.1 rfl)
   clear hbb
   go_wp2_with fail
   refine (HW.out _ B3.out).mono ?_
   rintro e w4 ⟨⟨b,rfl,hbb⟩,hb4⟩
   have B4:=Hbt B3 hb4
   have HE : Hid (b = true ↔ Q):=Lib.hid (hbb.trans ⟨fun h => HQ.out.2 ⟨n1,n2,HN.out,h⟩,fun h => (HQ.out.1 h).2.2.2⟩)
   clear hbb hb4
   go_wp2
   exact bodyPost_ret (v:=.bool b) (by simp [results,Tryz.results59,go_sem]) rfl ⟨⟨b,rfl,HE.out⟩,B4.out⟩

theorem rightExpr_of (e : Ex) (k : Value) (w : World) (hx : XR w e k) (hI : ∀ W,Below w.heap.size w W → Calls Tryz.prog 59 #[.agg (exC e k).toArray] W (EqPost (RtI e) W)) : Calls Tryz.prog 21 #[.agg (exC e k).toArray] w (EqPost (RtE e) w):=by
 obtain ⟨a,m,c,rfl⟩:=hx.slice
 have HI:=Lib.hid hI
 clear hx hI
 obtain ⟨Q,hQ⟩ : ∃ Q,(RtE e) = Q:=⟨_,rfl⟩
 have HQ : Hid (Q ↔ ¬ isOver e ∧ RtI e):=Lib.hid (hQ ▸ Iff.rfl)
 rw [hQ]
 clear hQ
 obtain ⟨kk,oo,⟨v1,v2,v3⟩,tt,nn,es,pp⟩:=e
 have HK : Hid (isOver (.mk kk oo (v1,v2,v3) tt nn es pp) ↔ kk = 11 ∨ kk = 12 ∨ kk = 13 ∨ kk = 14):=Lib.hid Iff.rfl
 simp only [exC] at HI ⊢
 obtain ⟨W,hW⟩ : ∃ W,w.alloc (.cells #[.int .i64 kk,.int .i64 oo,.int .i64 v1,.int .i64 v2,.string v3,.string tt,.string nn,.slice a m c,.int .i64 pp] 49) = W:=⟨_,rfl⟩
 have hb : Below w.heap.size w W:=hW ▸ (Below.refl _ _).alloc (Nat.le_refl _) _
 have hr : W.heap[w.heap.size]? = some (.cells #[.int .i64 kk,.int .i64 oo,.int .i64 v1,.int .i64 v2,.string v3,.string tt,.string nn,.slice a m c,.int .i64 pp] 49 (0,0)):=hW ▸ heap_alloc_new w _
 have HB:=Lib.hid hb
 obtain ⟨⟨y0,y1,y2,y3,y4,y5,y6,y7,y8⟩,-⟩:=nine_of hr
 clear hb hr
 go_enter Tryz.func21,Tryz.ntmps21
 go_upto_region 1 with fail
 clear hW
 by_cases n11 : kk = 11
 ·have HE : Hid (¬ Q):=Lib.hid (fun h => (HQ.out.1 h).1 (HK.out.2 (n11 ▸ Or.inl rfl)))
  clear HQ HK HI
  subst n11
  skip
  go_wp2
  exact bodyPost_ret (v:=.bool false) (by simp [results,Tryz.results21,go_sem]) rfl (eq_no HE.out HB.out)
 by_cases n12 : kk = 12
 ·have HE : Hid (¬ Q):=Lib.hid (fun h => (HQ.out.1 h).1 (HK.out.2 (n12 ▸ Or.inr (Or.inl rfl))))
  clear HQ HK HI
  subst n12
  clear n11
  go_wp2
  exact bodyPost_ret (v:=.bool false) (by simp [results,Tryz.results21,go_sem]) rfl (eq_no HE.out HB.out)
 by_cases n13 : kk = 13
 ·have HE : Hid (¬ Q):=Lib.hid (fun h => (HQ.out.1 h).1 (HK.out.2 (n13 ▸ Or.inr (Or.inr (Or.inl rfl)))))
  clear HQ HK HI
  subst n13
  clear n11 n12
  go_wp2
  exact bodyPost_ret (v:=.bool false) (by simp [results,Tryz.results21,go_sem]) rfl (eq_no HE.out HB.out)
 by_cases n14 : kk = 14
 ·have HE : Hid (¬ Q):=Lib.hid (fun h => (HQ.out.1 h).1 (HK.out.2 (n14 ▸ Or.inr (Or.inr (Or.inr rfl)))))
  clear HQ HK HI
  subst n14
  clear n11 n12 n13
  go_wp2
  exact bodyPost_ret (v:=.bool false) (by simp [results,Tryz.results21,go_sem]) rfl (eq_no HE.out HB.out)
 have d11 : (kk == 11) = false:=by simpa using n11
 have d12 : (kk == 12) = false:=by simpa using n12
 have d13 : (kk == 13) = false:=by simpa using n13
 have d14 : (kk == 14) = false:=by simpa using n14
 have HNO : Hid (¬ isOver (.mk kk oo (v1,v2,v3) tt nn es pp)):=Lib.hid (fun h => by rcases HK.out.1 h with h | h | h | h <;> contradiction)
 go_wp2_with fail
 refine (HI.out _ HB.out).mono ?_
 rintro e w1 ⟨⟨b,rfl,hbb⟩,hb1⟩
 have B1:=Hbt HB hb1
 have HE : Hid (b = true ↔ Q):=Lib.hid (hbb.trans ⟨fun h => HQ.out.2 ⟨HNO.out,h⟩,fun h => (HQ.out.1 h).2⟩)
 clear hbb hb1
 go_wp2
 exact bodyPost_ret (v:=.bool b) (by simp [results,Tryz.results21,go_sem]) rfl ⟨⟨b,rfl,HE.out⟩,B1.out⟩

theorem rightColumn_of (e : Ex) (k : Value) (w : World) (hx : XR w e k) (hI : ∀ W,Below w.heap.size w W → Calls Tryz.prog 21 #[.agg (exC e k).toArray] W (EqPost (RtE e) W)) : Calls Tryz.prog 62 #[.agg (exC e k).toArray] w (EqPost (kindOf e = 3 ∧ RtE e) w):=by
 obtain ⟨a,m,c,rfl⟩:=hx.slice
 have HI:=Lib.hid hI
 clear hx hI
 obtain ⟨Q,hQ⟩ : ∃ Q,(kindOf e = 3 ∧ RtE e) = Q:=⟨_,rfl⟩
 have HQ : Hid (Q ↔ kindOf e = 3 ∧ RtE e):=Lib.hid (hQ ▸ Iff.rfl)
 rw [hQ]
 clear hQ
 obtain ⟨kk,oo,⟨v1,v2,v3⟩,tt,nn,es,pp⟩:=e
 have HK : Hid (kindOf (.mk kk oo (v1,v2,v3) tt nn es pp) = kk):=Lib.hid rfl
 simp only [exC] at HI ⊢
 obtain ⟨W,hW⟩ : ∃ W,w.alloc (.cells #[.int .i64 kk,.int .i64 oo,.int .i64 v1,.int .i64 v2,.string v3,.string tt,.string nn,.slice a m c,.int .i64 pp] 49) = W:=⟨_,rfl⟩
 have hb : Below w.heap.size w W:=hW ▸ (Below.refl _ _).alloc (Nat.le_refl _) _
 have hr : W.heap[w.heap.size]? = some (.cells #[.int .i64 kk,.int .i64 oo,.int .i64 v1,.int .i64 v2,.string v3,.string tt,.string nn,.slice a m c,.int .i64 pp] 49 (0,0)):=hW ▸ heap_alloc_new w _
 have HB:=Lib.hid hb
 obtain ⟨⟨y0,y1,y2,y3,y4,y5,y6,y7,y8⟩,-⟩:=nine_of hr
 clear hb hr
 go_enter Tryz.func62,Tryz.ntmps62
 go_upto_region 1 with fail
 clear hW
 by_cases n : kk = 3
 rotate_left
 ·have d : (kk == 3) = false:=by simpa using n
  have HE : Hid (¬ Q):=Lib.hid (fun h => n (HK.out.symm.trans (HQ.out.1 h).1))
  go_wp2
  exact bodyPost_ret (v:=.bool false) (by simp [results,Tryz.results62,go_sem]) rfl (eq_no HE.out HB.out)
 have HN:=Lib.hid (HK.out.trans n)
 subst n
 go_wp2_with fail
 refine (HI.out _ HB.out).mono ?_
 rintro e w1 ⟨⟨b,rfl,hbb⟩,hb1⟩
 have B1:=Hbt HB hb1
 have HE : Hid (b = true ↔ Q):=Lib.hid (hbb.trans ⟨fun h => HQ.out.2 ⟨HN.out,h⟩,fun h => (HQ.out.1 h).2⟩)
 clear hbb hb1
 go_wp2
 exact bodyPost_ret (v:=.bool b) (by simp [results,Tryz.results62,go_sem]) rfl ⟨⟨b,rfl,HE.out⟩,B1.out⟩

theorem rightItem_all (e : Ex) (hA : AllK e) : ∀ (k : Value) (w : World),XR w e k → Calls Tryz.prog 59 #[.agg (exC e k).toArray] w (EqPost (RtI e) w):=by
 induction hA with
 | mk _ ih => exact fun k w hx => rightItem_step _ _ _ _ _ _ _ (fun i h k W hk => rightExpr_of _ k W hk fun W2 hb => ih i h k W2 (hk.later hb)) k w hx

theorem rightItem_any (e : Ex) (k : Value) (w : World) (hx : XR w e k) : Calls Tryz.prog 59 #[.agg (exC e k).toArray] w (EqPost (RtI e) w):=rightItem_all e hx.all k w hx

theorem rightExpr_any (e : Ex) (k : Value) (w : World) (hx : XR w e k) : Calls Tryz.prog 21 #[.agg (exC e k).toArray] w (EqPost (RtE e) w):=rightExpr_of e k w hx fun W hb => rightItem_any e k W (hx.later hb)

theorem rightColumn_any (e : Ex) (k : Value) (w : World) (hx : XR w e k) : Calls Tryz.prog 62 #[.agg (exC e k).toArray] w (EqPost (kindOf e = 3 ∧ RtE e) w):=rightColumn_of e k w hx fun W hb => rightExpr_any e k W (hx.later hb)

theorem idx_wse (w : World) (a : Option Addr) (cap : Nat) (es : List Se) (ks : List Value) (x0 : Nat) (H : Nat → Bool) (hlk : es.length = ks.length) (hl : es.length ≤ 9223372036854775807) (hr : SRow w a es ks) (hs : ∀ i (h' : i < ks.length),∃ p m c,ks[i] = .slice p m c) (hC : ∀ k (h : k < es.length) (h' : k < ks.length) w1,Below w.heap.size w w1 → Calls Tryz.prog 60 #[.agg (seC es[k] ks[k]).toArray,.pointer (some ⟨x0,0,none⟩)] w1 fun e w2 => e = .returned (.bool (H k)) ∧ Below w1.heap.size w1 w2) : Calls Tryz.prog 88 #[.slice a es.length cap,.func (.func 60) #[] #[.pointer (some ⟨x0,0,none⟩)]] w fun e w' => (∃ i : Int,e = .returned (.int .i64 i) ∧ (0 ≤ i ↔ ∃ k,k < es.length ∧ H k = true)) ∧ Below w.heap.size w w':=by
 have HR:=Lib.hid hr
 have HC:=Lib.hid hC
 have HS:=Lib.hid hs
 have HLK:=Lib.hid hlk
 clear hr hC hs hlk
 go_enter Tryz.func88,Tryz.ntmps88
 go_wp2
 go_loopw [8] (fun i wr => ∃ k : Nat,k ≤ es.length ∧ i = .int .i64 k ∧ (∀ j,j < k → H j = false) ∧ Below w.heap.size w wr) (fun i _ => es.length - (intOf i).toNat)
 case atStart => exact ⟨0,Nat.zero_le _,rfl,fun j g => absurd g (Nat.not_lt_zero _),Below.refl _ _⟩
 case round =>
  obtain ⟨k,hk,rfl,hall,hb1⟩:=hrel
  have HA:=Lib.hid hall
  have HB:=Lib.hid hb1
  have hsz:=hb1.size
  clear hall hb1
  by_cases hlt : k < es.length
  ·have hlti : (k : Int) < (es.length : Int):=by omega
   have hlt' : k < ks.length:=by rw [← HLK.out]; exact hlt
   obtain ⟨b,off,rfl,hcs⟩:=HR.out k hlt hlt'
   obtain ⟨a2,m2,c2,hks⟩:=HS.out k hlt'
   have HCk:=Lib.hid (HC.out k hlt hlt' )
   rw [hks] at hcs HCk
   obtain ⟨⟨nm,⟨kk,oo,⟨v1,v2,v3⟩,tt,nn,ks2,pp⟩,pl⟩,hx⟩ : ∃ x,es[k] = x:=⟨_,rfl⟩
   rw [hx] at hcs HCk
   clear hx hks
   simp only [seC,exC,List.cons_append,List.nil_append] at HCk
   have HCS : Hid (∀ j u,[.string nm,.int .i64 kk,.int .i64 oo,.int .i64 v1,.int .i64 v2,.string v3,.string tt,.string nn,.slice a2 m2 c2,.int .i64 pp,.int .i64 pl][j]? = some u → w.cell? ⟨b,off + k * 11 + j,none⟩ = some u):=hcs
   clear hcs
   have q0:=Cl HB.out (HCS.out 0 _ rfl)
   have q1:=Cl HB.out (HCS.out 1 _ rfl)
   have q2:=Cl HB.out (HCS.out 2 _ rfl)
   have q3:=Cl HB.out (HCS.out 3 _ rfl)
   have q4:=Cl HB.out (HCS.out 4 _ rfl)
   have q5:=Cl HB.out (HCS.out 5 _ rfl)
   have q6:=Cl HB.out (HCS.out 6 _ rfl)
   have q7:=Cl HB.out (HCS.out 7 _ rfl)
   have q8:=Cl HB.out (HCS.out 8 _ rfl)
   have q9:=Cl HB.out (HCS.out 9 _ rfl)
   have q10:=Cl HB.out (HCS.out 10 _ rfl)
   simp only [Nat.add_zero] at q0
   go_wp2_with fail
   refine (HCk.out _ HB.out).mono ?_
   rintro e w2 ⟨rfl,hb2⟩
   have HB2:=Lib.hid (HB.out.trans (hb2.mono hsz))
   clear hb2 q0 q1 q2 q3 q4 q5 q6 q7 q8 q9 q10
   cases hH : H k with
   | true =>
    have HE : Hid (∃ k,k < es.length ∧ H k = true):=⟨k,hlt,hH⟩
    go_wp2
    exact bodyPost_ret (v:=.int .i64 (k : Int)) (by simp [results,Tryz.results88,go_sem]) rfl ⟨⟨k,rfl,fun _ => HE.out,fun _ => by omega⟩,HB2.out⟩
   | false =>
    have HA2 : Hid (∀ j,j < k + 1 → H j = false):=fun j hj => by
     by_cases e : j = k
     ·rw [e]; exact hH
     ·exact HA.out j (by omega)
    go_wp2
    go_roundw
    case rel => exact ⟨k + 1,by omega,by simp,HA2.out,HB2.out⟩
    case measure => simp [intOf]; omega
  ·have hnlt : ¬ (k : Int) < (es.length : Int):=by omega
   have HE : Hid (¬ ∃ k,k < es.length ∧ H k = true):=fun ⟨j,hj,h⟩ => by rw [HA.out j (by omega)] at h; cases h
   go_wp2
   exact bodyPost_ret (v:=.int .i64 (-1)) (by simp [results,Tryz.results88,go_sem]) rfl ⟨⟨-1,rfl,fun h => absurd h (by decide),fun h => absurd h HE.out⟩,HB.out⟩

theorem con_wse (w : World) (a : Option Addr) (cap : Nat) (es : List Se) (ks : List Value) (x0 : Nat) (H : Nat → Bool) (hlk : es.length = ks.length) (hl : es.length ≤ 9223372036854775807) (hr : SRow w a es ks) (hs : ∀ i (h' : i < ks.length),∃ p m c,ks[i] = .slice p m c) (hC : ∀ k (h : k < es.length) (h' : k < ks.length) w1,Below w.heap.size w w1 → Calls Tryz.prog 60 #[.agg (seC es[k] ks[k]).toArray,.pointer (some ⟨x0,0,none⟩)] w1 fun e w2 => e = .returned (.bool (H k)) ∧ Below w1.heap.size w1 w2) : Calls Tryz.prog 55 #[.slice a es.length cap,.func (.func 60) #[] #[.pointer (some ⟨x0,0,none⟩)]] w fun e w' => (∃ b : Bool,e = .returned (.bool b) ∧ (b = true ↔ ∃ k,k < es.length ∧ H k = true)) ∧ Below w.heap.size w w':=by
 have HI:=Lib.hid (idx_wse w a cap es ks x0 H hlk hl hr hs hC)
 clear hlk hl hr hs hC
 go_enter Tryz.func55,Tryz.ntmps55
 go_wp2_with fail
 refine HI.out.mono ?_
 rintro e w1 ⟨⟨i,rfl,hi⟩,hb⟩
 have HX:=Lib.hid hi
 have HB:=Lib.hid hb
 clear hi hb
 go_wp2
 exact bodyPost_ret (v:=.bool (decide (0 ≤ i))) (by simp [results,Tryz.results55,go_sem]) rfl ⟨⟨_,rfl,by rw [decide_eq_true_iff]; exact HX.out⟩,HB.out⟩

def RtSe (x : Se) : Prop:=isName x.1 = true ∧ RtE x.2.1

theorem rightSet_any (x : Se) (k : Value) (w : World) (hx : XR w x.2.1 k) : Calls Tryz.prog 23 #[.agg (seC x k).toArray] w (EqPost (RtSe x) w):=by
 obtain ⟨a,m,c,rfl⟩:=hx.slice
 have HI:=Lib.hid (fun W (hb : Below w.heap.size w W) => rightExpr_any x.2.1 (.slice a m c) W (hx.later hb))
 clear hx
 obtain ⟨Q,hQ⟩ : ∃ Q,RtSe x = Q:=⟨_,rfl⟩
 have HQ : Hid (Q ↔ isName x.1 = true ∧ RtE x.2.1):=Lib.hid (hQ ▸ Iff.rfl)
 rw [hQ]
 clear hQ
 obtain ⟨nm,⟨kk,oo,⟨v1,v2,v3⟩,tt,nn,es,pp⟩,pl⟩:=x
 simp only [seC,exC,List.cons_append,List.nil_append] at HI HQ ⊢
 obtain ⟨W,hW⟩ : ∃ W,w.alloc (.cells #[.string nm,.int .i64 kk,.int .i64 oo,.int .i64 v1,.int .i64 v2,.string v3,.string tt,.string nn,.slice a m c,.int .i64 pp,.int .i64 pl] 53) = W:=⟨_,rfl⟩
 have hb : Below w.heap.size w W:=hW ▸ (Below.refl _ _).alloc (Nat.le_refl _) _
 have hr : W.heap[w.heap.size]? = some (.cells #[.string nm,.int .i64 kk,.int .i64 oo,.int .i64 v1,.int .i64 v2,.string v3,.string tt,.string nn,.slice a m c,.int .i64 pp,.int .i64 pl] 53 (0,0)):=hW ▸ heap_alloc_new w _
 have HB:=Lib.hid hb
 obtain ⟨⟨y0,y1,y2,y3,y4,y5,y6,y7,y8,y9,y10⟩,-⟩:=eleven_of hr
 clear hb hr
 go_enter Tryz.func23,Tryz.ntmps23
 go_wp2_with fail
 clear hW
 refine (isName_any nm _).mono ?_
 rintro e w' ⟨rfl,hw⟩
 replace hw:=hw.symm
 subst hw
 cases hn : isName nm with
 | false =>
  have HE : Hid (¬ Q):=Lib.hid (fun h => by have:=(HQ.out.1 h).1; rw [hn] at this; cases this)
  clear hn
  go_wp2
  exact bodyPost_ret (v:=.bool false) (by simp [results,Tryz.results23,go_sem]) rfl (eq_no HE.out HB.out)
 | true =>
  have HN:=Lib.hid hn
  clear hn
  go_wp2_with fail
  refine (HI.out _ HB.out).mono ?_
  rintro e w1 ⟨⟨b,rfl,hbb⟩,hb1⟩
  have B1:=Hbt HB hb1
  have HE : Hid (b = true ↔ Q):=Lib.hid (hbb.trans ⟨fun h => HQ.out.2 ⟨HN.out,h⟩,fun h => (HQ.out.1 h).2⟩)
  clear hbb hb1
  go_wp2
  exact bodyPost_ret (v:=.bool b) (by simp [results,Tryz.results23,go_sem]) rfl ⟨⟨b,rfl,HE.out⟩,B1.out⟩

theorem not_rightSet (x0 : Nat) (x : Se) (k : Value) (w : World) (hx : XR w x.2.1 k) (hd : w.cell? ⟨x0,0,none⟩ = some (.func (.func 23) #[] #[])) : Calls Tryz.prog 60 #[.agg (seC x k).toArray,.pointer (some ⟨x0,0,none⟩)] w (EqPost (¬ RtSe x) w):=by
 obtain ⟨a,m,c,rfl⟩:=hx.slice
 have HI:=Lib.hid (fun W (hb : Below w.heap.size w W) => rightSet_any x (.slice a m c) W (hx.later hb))
 have hlt:=World.block_lt_of_cell? _ _ hd
 clear hx
 obtain ⟨Q,hQ⟩ : ∃ Q,(¬ RtSe x) = Q:=⟨_,rfl⟩
 have HQ:=Lib.hid hQ
 rw [hQ]
 clear hQ
 obtain ⟨nm,⟨kk,oo,⟨v1,v2,v3⟩,tt,nn,es,pp⟩,pl⟩:=x
 simp only [seC,exC,List.cons_append,List.nil_append] at HI ⊢
 obtain ⟨W,hW⟩ : ∃ W,w.alloc (.cells #[.string nm,.int .i64 kk,.int .i64 oo,.int .i64 v1,.int .i64 v2,.string v3,.string tt,.string nn,.slice a m c,.int .i64 pp,.int .i64 pl] 53) = W:=⟨_,rfl⟩
 have hb : Below w.heap.size w W:=hW ▸ (Below.refl _ _).alloc (Nat.le_refl _) _
 have hr : W.heap[w.heap.size]? = some (.cells #[.string nm,.int .i64 kk,.int .i64 oo,.int .i64 v1,.int .i64 v2,.string v3,.string tt,.string nn,.slice a m c,.int .i64 pp,.int .i64 pl] 53 (0,0)):=hW ▸ heap_alloc_new w _
 have HB:=Lib.hid hb
 obtain ⟨⟨y0,y1,y2,y3,y4,y5,y6,y7,y8,y9,y10⟩,-⟩:=eleven_of hr
 have hd2:=(hb.cell hlt).trans hd
 clear hb hr
 go_enter Tryz.func60,Tryz.ntmps60
 go_wp2_with fail
 clear hW
 refine (HI.out _ HB.out).mono ?_
 rintro e w2 ⟨⟨b,rfl,hbb⟩,hb2⟩
 have HB2:=Hbt HB hb2
 have HE : Hid ((!b) = true ↔ Q):=Lib.hid (by rw [← HQ.out,← hbb]; cases b <;> simp)
 clear hb2 hbb
 go_wp2
 exact bodyPost_ret (v:=.bool (!b)) (by simp [results,Tryz.results60,go_sem]) rfl ⟨⟨_,rfl,HE.out⟩,HB2.out⟩

theorem within_rightSet (lo hi : Nat) (es : List Se) (a : Option Addr) (c : Nat) (w : World) (h : SLR w es (.slice a es.length c)) : Calls Tryz.prog 22 #[.slice a es.length c,.int .i64 (lo : Int),.int .i64 (hi : Int),.func (.func 23) #[] #[]] w (EqPost (lo ≤ es.length ∧ es.length ≤ hi ∧ ∀ i (h : i < es.length),RtSe es[i]) w):=by
 obtain ⟨p1,q1,ks,e1,_,hm1,hk1,hr1,hx1⟩:=h
 injection e1 with e11 _ e13
 subst e11 e13
 obtain ⟨Q,hQ⟩ : ∃ Q,(lo ≤ es.length ∧ es.length ≤ hi ∧ ∀ i (h : i < es.length),RtSe es[i]) = Q:=⟨_,rfl⟩
 have HQ:=Lib.hid hQ
 rw [hQ]
 clear hQ
 obtain ⟨W,hW⟩ : ∃ W,w.alloc (.cells #[.func (.func 23) #[] #[]] 54) = W:=⟨_,rfl⟩
 have hb : Below w.heap.size w W:=hW ▸ (Below.refl _ _).alloc (Nat.le_refl _) _
 have hr : W.heap[w.heap.size]? = some (.cells #[.func (.func 23) #[] #[]] 54 (0,0)):=hW ▸ heap_alloc_new w _
 have hd : W.cell? ⟨w.heap.size,0,none⟩ = some (.func (.func 23) #[] #[]):=by simp [World.cell?,hr]
 have HB:=Lib.hid hb
 clear hr
 have HC:=Lib.hid (con_wse W a c es ks w.heap.size (fun k => @decide (¬ ∀ (h : k < es.length),RtSe es[k]) (Classical.propDecidable _)) hk1 hm1 (hr1.later hb) (fun i h' => (hx1 i (by omega) h').slice) fun k g g' w1 hb1 => ((not_rightSet w.heap.size es[k] ks[k] w1 ((hx1 k g g').later (hb.trans (hb1.mono hb.size))) ((hb1.cell (World.block_lt_of_cell? _ _ hd)).trans hd)).mono fun _ _ h => (h.of (R:=¬ ∀ (h : k < es.length),RtSe es[k]) ⟨fun h q => h (q g),fun h q => h fun _ => q⟩).dec))
 clear hb hd hr1 hx1 hk1
 go_enter Tryz.func22,Tryz.ntmps22
 go_upto_region 1 with fail
 clear hW
 by_cases n1 : lo ≤ es.length
 rotate_left
 ·have d : ¬ (lo : Int) ≤ (es.length : Int):=by omega
  have HE : Hid (¬ Q):=HQ.out ▸ fun h => n1 h.1
  go_wp2
  exact bodyPost_ret (v:=.bool false) (by simp [results,Tryz.results22,go_sem]) rfl (eq_no HE.out HB.out)
 by_cases n2 : es.length ≤ hi
 rotate_left
 ·have d : ¬ (es.length : Int) ≤ (hi : Int):=by omega
  have d0 : (lo : Int) ≤ (es.length : Int):=by omega
  have HE : Hid (¬ Q):=HQ.out ▸ fun h => n2 h.2.1
  go_wp2
  exact bodyPost_ret (v:=.bool false) (by simp [results,Tryz.results22,go_sem]) rfl (eq_no HE.out HB.out)
 have d1 : (lo : Int) ≤ (es.length : Int):=by omega
 have d2 : (es.length : Int) ≤ (hi : Int):=by omega
 go_wp2_with fail
 refine HC.out.mono ?_
 rintro e w2 ⟨⟨b,rfl,hbb⟩,hb2⟩
 have HB2:=Hbt HB hb2
 have HE : Hid ((!b) = true ↔ Q):=Lib.hid (by
  rw [← HQ.out]
  have hbb2 : b = true ↔ ∃ k,k < es.length ∧ ¬ ∀ (h : k < es.length),RtSe es[k]:=by simpa using hbb
  constructor
  ·intro h
   refine ⟨n1,n2,fun i hi => ?_⟩
   apply Classical.byContradiction
   intro hn
   have:=hbb2.2 ⟨i,hi,fun k => hn (k hi)⟩
   rw [this] at h
   cases h
  ·rintro ⟨_,_,h⟩
   cases b with
   | false => rfl
   | true => obtain ⟨k,hk,hn⟩:=hbb2.1 rfl; exact absurd (fun _ => h k hk) hn)
 clear hb2 hbb
 go_wp2
 exact bodyPost_ret (v:=.bool (!b)) (by simp [results,Tryz.results22,go_sem]) rfl ⟨⟨_,rfl,HE.out⟩,HB2.out⟩
end Go.Proofs.YtbfjmccpcbhljaaGreatDoor
