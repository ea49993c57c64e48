/- A95 A96 A97 A98 -/
import Derived.Test.YtbfjmccpcbhljaaGreatDoorTA90
import Derived.Laws.EntriesVeiled
set_option maxHeartbeats 8000000
set_option maxRecDepth 100000
namespace Go.Proofs.YtbfjmccpcbhljaaGreatDoor
open Go.RowKit
theorem idx_wx (w : World) (a : Option Addr) (cap : Nat) (es : List Ex) (ks : List Value) (x0 : Nat) (H : Nat → Bool) (hlk : es.length = ks.length) (hl : es.length ≤ 9223372036854775807) (hr : XRow w a es ks) (hs : ∀ i (h' : i < ks.length),∃ p m c,ks[i] = .slice p m c) (hC : ∀ k (h : k < es.length) (h' : k < ks.length) w1,Below w.heap.size w w1 → Calls Tryz.prog 58 #[.agg (exC es[k] ks[k]).toArray,.pointer (some ⟨x0,0,none⟩)] w1 fun e w2 => e = .returned (.bool (H k)) ∧ Below w1.heap.size w1 w2) : Calls Tryz.prog 87 #[.slice a es.length cap,.func (.func 58) #[] #[.pointer (some ⟨x0,0,none⟩)]] w fun e w' => (∃ i : Int,e = .returned (.int .i64 i) ∧ (0 ≤ i ↔ ∃ k,k < es.length ∧ H k = true)) ∧ Below w.heap.size w w':=by
 have HR:=Lib.hid hr
 have HC:=Lib.hid hC
 have HS:=Lib.hid hs
 have HLK:=Lib.hid hlk
 clear hr hC hs hlk
 go_enter Tryz.func87,Tryz.ntmps87
 go_wp2
 go_loopw [8] (fun i wr => ∃ k : Nat,k ≤ es.length ∧ i = .int .i64 k ∧ (∀ j,j < k → H j = false) ∧ Below w.heap.size w wr) (fun i _ => es.length - (intOf i).toNat)
 case atStart => exact ⟨0,Nat.zero_le _,rfl,fun j g => absurd g (Nat.not_lt_zero _),Below.refl _ _⟩
 case round =>
  obtain ⟨k,hk,rfl,hall,hb1⟩:=hrel
  have HA:=Lib.hid hall
  have HB:=Lib.hid hb1
  have hsz:=hb1.size
  clear hall hb1
  by_cases hlt : k < es.length
  ·have hlti : (k : Int) < (es.length : Int):=by omega
   have hlt' : k < ks.length:=by rw [← HLK.out]; exact hlt
   obtain ⟨b,off,rfl,hcs⟩:=HR.out k hlt hlt'
   obtain ⟨a2,m2,c2,hks⟩:=HS.out k hlt'
   have HCk:=Lib.hid (HC.out k hlt hlt' )
   rw [hks] at hcs HCk
   obtain ⟨⟨kk,oo,⟨v1,v2,v3⟩,tt,nn,ks2,pp⟩,hx⟩ : ∃ x,es[k] = x:=⟨_,rfl⟩
   rw [hx] at hcs HCk
   clear hx hks
   simp only [exC] at HCk
   have HCS : Hid (∀ j u,[.int .i64 kk,.int .i64 oo,.int .i64 v1,.int .i64 v2,.string v3,.string tt,.string nn,.slice a2 m2 c2,.int .i64 pp][j]? = some u → w.cell? ⟨b,off + k * 9 + j,none⟩ = some u):=hcs
   clear hcs
   have q0:=Cl HB.out (HCS.out 0 _ rfl)
   have q1:=Cl HB.out (HCS.out 1 _ rfl)
   have q2:=Cl HB.out (HCS.out 2 _ rfl)
   have q3:=Cl HB.out (HCS.out 3 _ rfl)
   have q4:=Cl HB.out (HCS.out 4 _ rfl)
   have q5:=Cl HB.out (HCS.out 5 _ rfl)
   have q6:=Cl HB.out (HCS.out 6 _ rfl)
   have q7:=Cl HB.out (HCS.out 7 _ rfl)
   have q8:=Cl HB.out (HCS.out 8 _ rfl)
   simp only [Nat.add_zero] at q0
   go_wp2_with fail
   refine (HCk.out _ HB.out).mono ?_
   rintro e w2 ⟨rfl,hb2⟩
   have HB2:=Lib.hid (HB.out.trans (hb2.mono hsz))
   clear hb2 q0 q1 q2 q3 q4 q5 q6 q7 q8
   cases hH : H k with
   | true =>
    have HE : Hid (∃ k,k < es.length ∧ H k = true):=⟨k,hlt,hH⟩
    go_wp2
    exact bodyPost_ret (v:=.int .i64 (k : Int)) (by simp [results,Tryz.results87,go_sem]) rfl ⟨⟨k,rfl,fun _ => HE.out,fun _ => by omega⟩,HB2.out⟩
   | false =>
    have HA2 : Hid (∀ j,j < k + 1 → H j = false):=fun j hj => by
     by_cases e : j = k
     ·rw [e]; exact hH
     ·exact HA.out j (by omega)
    go_wp2
    go_roundw
    case rel => exact ⟨k + 1,by omega,by simp,HA2.out,HB2.out⟩
    case measure => simp [intOf]; omega
  ·have hnlt : ¬ (k : Int) < (es.length : Int):=by omega
   have HE : Hid (¬ ∃ k,k < es.length ∧ H k = true):=fun ⟨j,hj,h⟩ => by rw [HA.out j (by omega)] at h; cases h
   go_wp2
   exact bodyPost_ret (v:=.int .i64 (-1)) (by simp [results,Tryz.results87,go_sem]) rfl ⟨⟨-1,rfl,fun h => absurd h (by decide),fun h => absurd h HE.out⟩,HB.out⟩

theorem con_wx (w : World) (a : Option Addr) (cap : Nat) (es : List Ex) (ks : List Value) (x0 : Nat) (H : Nat → Bool) (hlk : es.length = ks.length) (hl : es.length ≤ 9223372036854775807) (hr : XRow w a es ks) (hs : ∀ i (h' : i < ks.length),∃ p m c,ks[i] = .slice p m c) (hC : ∀ k (h : k < es.length) (h' : k < ks.length) w1,Below w.heap.size w w1 → Calls Tryz.prog 58 #[.agg (exC es[k] ks[k]).toArray,.pointer (some ⟨x0,0,none⟩)] w1 fun e w2 => e = .returned (.bool (H k)) ∧ Below w1.heap.size w1 w2) : Calls Tryz.prog 54 #[.slice a es.length cap,.func (.func 58) #[] #[.pointer (some ⟨x0,0,none⟩)]] w fun e w' => (∃ b : Bool,e = .returned (.bool b) ∧ (b = true ↔ ∃ k,k < es.length ∧ H k = true)) ∧ Below w.heap.size w w':=by
 have HI:=Lib.hid (idx_wx w a cap es ks x0 H hlk hl hr hs hC)
 clear hlk hl hr hs hC
 go_enter Tryz.func54,Tryz.ntmps54
 go_wp2_with fail
 refine HI.out.mono ?_
 rintro e w1 ⟨⟨i,rfl,hi⟩,hb⟩
 have HX:=Lib.hid hi
 have HB:=Lib.hid hb
 clear hi hb
 go_wp2
 exact bodyPost_ret (v:=.bool (decide (0 ≤ i))) (by simp [results,Tryz.results54,go_sem]) rfl ⟨⟨_,rfl,by rw [decide_eq_true_iff]; exact HX.out⟩,HB.out⟩

theorem EqPost.dec {P : Prop} {w w' : World} {e : Ending} (h : EqPost P w e w') : e = .returned (.bool (@decide P (Classical.propDecidable P))) ∧ Below w.heap.size w w':=by
 obtain ⟨⟨b,he,hb⟩,hl⟩:=h
 refine ⟨?_,hl⟩
 rw [he]
 congr 2
 by_cases hp : P
 ·rw [hb.2 hp]; simp [hp]
 ·cases b with
  | true => exact absurd (hb.1 rfl) hp
  | false => simp [hp]

theorem not_rightExpr (R : Prop) (x0 : Nat) (e : Ex) (k : Value) (w : World) (hx : XR w e k) (hd : w.cell? ⟨x0,0,none⟩ = some (.func (.func 21) #[] #[])) (hR : ∀ W,Below w.heap.size w W → Calls Tryz.prog 21 #[.agg (exC e k).toArray] W (EqPost R W)) : Calls Tryz.prog 58 #[.agg (exC e k).toArray,.pointer (some ⟨x0,0,none⟩)] w (EqPost (¬ R) w):=by
 obtain ⟨a,m,c,rfl⟩:=hx.slice
 have HI:=Lib.hid hR
 have hlt:=World.block_lt_of_cell? _ _ hd
 clear hR hx
 obtain ⟨Q,hQ⟩ : ∃ Q,(¬ R) = Q:=⟨_,rfl⟩
 have HQ:=Lib.hid hQ
 rw [hQ]
 clear hQ
 obtain ⟨kk,oo,⟨v1,v2,v3⟩,tt,nn,ks,pp⟩:=e
 simp only [exC] at HI ⊢
 obtain ⟨W,hW⟩ : ∃ W,w.alloc (.cells #[.int .i64 kk,.int .i64 oo,.int .i64 v1,.int .i64 v2,.string v3,.string tt,.string nn,.slice a m c,.int .i64 pp] 49) = W:=⟨_,rfl⟩
 have hb : Below w.heap.size w W:=hW ▸ (Below.refl _ _).alloc (Nat.le_refl _) _
 have hd2:=(hb.cell hlt).trans hd
 have hr : W.heap[w.heap.size]? = some (.cells #[.int .i64 kk,.int .i64 oo,.int .i64 v1,.int .i64 v2,.string v3,.string tt,.string nn,.slice a m c,.int .i64 pp] 49 (0,0)):=hW ▸ heap_alloc_new w _
 obtain ⟨⟨c0,c1,c2,c3,c4,c5,c6,c7,c8⟩,-⟩:=nine_of hr
 have HB:=Lib.hid hb
 clear hr hb
 go_enter Tryz.func58,Tryz.ntmps58
 go_wp2_with fail
 clear hW
 refine (HI.out _ HB.out).mono ?_
 rintro e w2 ⟨⟨b,rfl,hbb⟩,hb2⟩
 have HB2:=Hbt HB hb2
 have HE : Hid ((!b) = true ↔ Q):=Lib.hid (by rw [← HQ.out,← hbb]; cases b <;> simp)
 clear hb2 hbb
 go_wp2
 exact bodyPost_ret (v:=.bool (!b)) (by simp [results,Tryz.results58,go_sem]) rfl ⟨⟨_,rfl,HE.out⟩,HB2.out⟩

theorem within_rightExpr (R : Ex → Prop) (lo hi : Nat) (es : List Ex) (a : Option Addr) (c : Nat) (w : World) (h : XLR w es (.slice a es.length c)) (hR : ∀ i (h : i < es.length) (k : Value) (W : World),XR W es[i] k → Calls Tryz.prog 21 #[.agg (exC es[i] k).toArray] W (EqPost (R es[i]) W)) : Calls Tryz.prog 20 #[.slice a es.length c,.int .i64 (lo : Int),.int .i64 (hi : Int),.func (.func 21) #[] #[]] w (EqPost (lo ≤ es.length ∧ es.length ≤ hi ∧ ∀ i (h : i < es.length),R es[i]) w):=by
 obtain ⟨p1,q1,ks,e1,_,hm1,hk1,hr1,hx1⟩:=h
 injection e1 with e11 _ e13
 subst e11 e13
 obtain ⟨Q,hQ⟩ : ∃ Q,(lo ≤ es.length ∧ es.length ≤ hi ∧ ∀ i (h : i < es.length),R es[i]) = Q:=⟨_,rfl⟩
 have HQ:=Lib.hid hQ
 rw [hQ]
 clear hQ
 obtain ⟨W,hW⟩ : ∃ W,w.alloc (.cells #[.func (.func 21) #[] #[]] 50) = W:=⟨_,rfl⟩
 have hb : Below w.heap.size w W:=hW ▸ (Below.refl _ _).alloc (Nat.le_refl _) _
 have hr : W.heap[w.heap.size]? = some (.cells #[.func (.func 21) #[] #[]] 50 (0,0)):=hW ▸ heap_alloc_new w _
 have hd : W.cell? ⟨w.heap.size,0,none⟩ = some (.func (.func 21) #[] #[]):=by simp [World.cell?,hr]
 have HB:=Lib.hid hb
 clear hr
 have HC:=Lib.hid (con_wx W a c es ks w.heap.size (fun k => @decide (¬ ∀ (h : k < es.length),R es[k]) (Classical.propDecidable _)) hk1 hm1 (hr1.later hb) (fun i h' => (hx1 i (by omega) h').slice) fun k g g' w1 hb1 => ((not_rightExpr (∀ (h : k < es.length),R es[k]) w.heap.size es[k] ks[k] w1 ((hx1 k g g').later (hb.trans (hb1.mono hb.size))) ((hb1.cell (World.block_lt_of_cell? _ _ hd)).trans hd) fun W2 hb2 => (hR k g ks[k] W2 (((hx1 k g g').later (hb.trans (hb1.mono hb.size))).later hb2)).mono fun _ _ h => h.of ⟨fun h _ => h,fun h => h g⟩)).mono fun _ _ h => h.dec)
 clear hb hd hr1 hx1 hR hk1
 go_enter Tryz.func20,Tryz.ntmps20
 go_upto_region 1 with fail
 clear hW
 by_cases n1 : lo ≤ es.length
 rotate_left
 ·have d : ¬ (lo : Int) ≤ (es.length : Int):=by omega
  have HE : Hid (¬ Q):=HQ.out ▸ fun h => n1 h.1
  go_wp2
  exact bodyPost_ret (v:=.bool false) (by simp [results,Tryz.results20,go_sem]) rfl (eq_no HE.out HB.out)
 by_cases n2 : es.length ≤ hi
 rotate_left
 ·have d : ¬ (es.length : Int) ≤ (hi : Int):=by omega
  have d0 : (lo : Int) ≤ (es.length : Int):=by omega
  have HE : Hid (¬ Q):=HQ.out ▸ fun h => n2 h.2.1
  go_wp2
  exact bodyPost_ret (v:=.bool false) (by simp [results,Tryz.results20,go_sem]) rfl (eq_no HE.out HB.out)
 have d1 : (lo : Int) ≤ (es.length : Int):=by omega
 have d2 : (es.length : Int) ≤ (hi : Int):=by omega
 go_wp2_with fail
 refine HC.out.mono ?_
 rintro e w2 ⟨⟨b,rfl,hbb⟩,hb2⟩
 have HB2:=Hbt HB hb2
 have HE : Hid ((!b) = true ↔ Q):=Lib.hid (by
  rw [← HQ.out]
  have hbb2 : b = true ↔ ∃ k,k < es.length ∧ ¬ ∀ (h : k < es.length),R es[k]:=by simpa using hbb
  constructor
  ·intro h
   refine ⟨n1,n2,fun i hi => ?_⟩
   apply Classical.byContradiction
   intro hn
   have:=hbb2.2 ⟨i,hi,fun k => hn (k hi)⟩
   rw [this] at h
   cases h
  ·rintro ⟨_,_,h⟩
   cases b with
   | false => rfl
   | true => obtain ⟨k,hk,hn⟩:=hbb2.1 rfl; exact absurd (fun _ => h k hk) hn)
 clear hb2 hbb
 go_wp2
 exact bodyPost_ret (v:=.bool (!b)) (by simp [results,Tryz.results20,go_sem]) rfl ⟨⟨_,rfl,HE.out⟩,HB2.out⟩

theorem not_rightItem (R : Prop) (x0 : Nat) (e : Ex) (k : Value) (w : World) (hx : XR w e k) (hd : w.cell? ⟨x0,0,none⟩ = some (.func (.func 59) #[] #[])) (hR : ∀ W,Below w.heap.size w W → Calls Tryz.prog 59 #[.agg (exC e k).toArray] W (EqPost R W)) : Calls Tryz.prog 58 #[.agg (exC e k).toArray,.pointer (some ⟨x0,0,none⟩)] w (EqPost (¬ R) w):=by
 obtain ⟨a,m,c,rfl⟩:=hx.slice
 have HI:=Lib.hid hR
 have hlt:=World.block_lt_of_cell? _ _ hd
 clear hR hx
 obtain ⟨Q,hQ⟩ : ∃ Q,(¬ R) = Q:=⟨_,rfl⟩
 have HQ:=Lib.hid hQ
 rw [hQ]
 clear hQ
 obtain ⟨kk,oo,⟨v1,v2,v3⟩,tt,nn,ks,pp⟩:=e
 simp only [exC] at HI ⊢
 obtain ⟨W,hW⟩ : ∃ W,w.alloc (.cells #[.int .i64 kk,.int .i64 oo,.int .i64 v1,.int .i64 v2,.string v3,.string tt,.string nn,.slice a m c,.int .i64 pp] 49) = W:=⟨_,rfl⟩
 have hb : Below w.heap.size w W:=hW ▸ (Below.refl _ _).alloc (Nat.le_refl _) _
 have hd2:=(hb.cell hlt).trans hd
 have hr : W.heap[w.heap.size]? = some (.cells #[.int .i64 kk,.int .i64 oo,.int .i64 v1,.int .i64 v2,.string v3,.string tt,.string nn,.slice a m c,.int .i64 pp] 49 (0,0)):=hW ▸ heap_alloc_new w _
 obtain ⟨⟨c0,c1,c2,c3,c4,c5,c6,c7,c8⟩,-⟩:=nine_of hr
 have HB:=Lib.hid hb
 clear hr hb
 go_enter Tryz.func58,Tryz.ntmps58
 go_wp2_with fail
 clear hW
 refine (HI.out _ HB.out).mono ?_
 rintro e w2 ⟨⟨b,rfl,hbb⟩,hb2⟩
 have HB2:=Hbt HB hb2
 have HE : Hid ((!b) = true ↔ Q):=Lib.hid (by rw [← HQ.out,← hbb]; cases b <;> simp)
 clear hb2 hbb
 go_wp2
 exact bodyPost_ret (v:=.bool (!b)) (by simp [results,Tryz.results58,go_sem]) rfl ⟨⟨_,rfl,HE.out⟩,HB2.out⟩

theorem within_rightItem (R : Ex → Prop) (lo hi : Nat) (es : List Ex) (a : Option Addr) (c : Nat) (w : World) (h : XLR w es (.slice a es.length c)) (hR : ∀ i (h : i < es.length) (k : Value) (W : World),XR W es[i] k → Calls Tryz.prog 59 #[.agg (exC es[i] k).toArray] W (EqPost (R es[i]) W)) : Calls Tryz.prog 20 #[.slice a es.length c,.int .i64 (lo : Int),.int .i64 (hi : Int),.func (.func 59) #[] #[]] w (EqPost (lo ≤ es.length ∧ es.length ≤ hi ∧ ∀ i (h : i < es.length),R es[i]) w):=by
 obtain ⟨p1,q1,ks,e1,_,hm1,hk1,hr1,hx1⟩:=h
 injection e1 with e11 _ e13
 subst e11 e13
 obtain ⟨Q,hQ⟩ : ∃ Q,(lo ≤ es.length ∧ es.length ≤ hi ∧ ∀ i (h : i < es.length),R es[i]) = Q:=⟨_,rfl⟩
 have HQ:=Lib.hid hQ
 rw [hQ]
 clear hQ
 obtain ⟨W,hW⟩ : ∃ W,w.alloc (.cells #[.func (.func 59) #[] #[]] 50) = W:=⟨_,rfl⟩
 have hb : Below w.heap.size w W:=hW ▸ (Below.refl _ _).alloc (Nat.le_refl _) _
 have hr : W.heap[w.heap.size]? = some (.cells #[.func (.func 59) #[] #[]] 50 (0,0)):=hW ▸ heap_alloc_new w _
 have hd : W.cell? ⟨w.heap.size,0,none⟩ = some (.func (.func 59) #[] #[]):=by simp [World.cell?,hr]
 have HB:=Lib.hid hb
 clear hr
 have HC:=Lib.hid (con_wx W a c es ks w.heap.size (fun k => @decide (¬ ∀ (h : k < es.length),R es[k]) (Classical.propDecidable _)) hk1 hm1 (hr1.later hb) (fun i h' => (hx1 i (by omega) h').slice) fun k g g' w1 hb1 => ((not_rightItem (∀ (h : k < es.length),R es[k]) w.heap.size es[k] ks[k] w1 ((hx1 k g g').later (hb.trans (hb1.mono hb.size))) ((hb1.cell (World.block_lt_of_cell? _ _ hd)).trans hd) fun W2 hb2 => (hR k g ks[k] W2 (((hx1 k g g').later (hb.trans (hb1.mono hb.size))).later hb2)).mono fun _ _ h => h.of ⟨fun h _ => h,fun h => h g⟩)).mono fun _ _ h => h.dec)
 clear hb hd hr1 hx1 hR hk1
 go_enter Tryz.func20,Tryz.ntmps20
 go_upto_region 1 with fail
 clear hW
 by_cases n1 : lo ≤ es.length
 rotate_left
 ·have d : ¬ (lo : Int) ≤ (es.length : Int):=by omega
  have HE : Hid (¬ Q):=HQ.out ▸ fun h => n1 h.1
  go_wp2
  exact bodyPost_ret (v:=.bool false) (by simp [results,Tryz.results20,go_sem]) rfl (eq_no HE.out HB.out)
 by_cases n2 : es.length ≤ hi
 rotate_left
 ·have d : ¬ (es.length : Int) ≤ (hi : Int):=by omega
  have d0 : (lo : Int) ≤ (es.length : Int):=by omega
  have HE : Hid (¬ Q):=HQ.out ▸ fun h => n2 h.2.1
  go_wp2
  exact bodyPost_ret (v:=.bool false) (by simp [results,Tryz.results20,go_sem]) rfl (eq_no HE.out HB.out)
 have d1 : (lo : Int) ≤ (es.length : Int):=by omega
 have d2 : (es.length : Int) ≤ (hi : Int):=by omega
 go_wp2_with fail
 refine HC.out.mono ?_
 rintro e w2 ⟨⟨b,rfl,hbb⟩,hb2⟩
 have HB2:=Hbt HB hb2
 have HE : Hid ((!b) = true ↔ Q):=Lib.hid (by
  rw [← HQ.out]
  have hbb2 : b = true ↔ ∃ k,k < es.length ∧ ¬ ∀ (h : k < es.length),R es[k]:=by simpa using hbb
  constructor
  ·intro h
   refine ⟨n1,n2,fun i hi => ?_⟩
   apply Classical.byContradiction
   intro hn
   have:=hbb2.2 ⟨i,hi,fun k => hn (k hi)⟩
   rw [this] at h
   cases h
  ·rintro ⟨_,_,h⟩
   cases b with
   | false => rfl
   | true => obtain ⟨k,hk,hn⟩:=hbb2.1 rfl; exact absurd (fun _ => h k hk) hn)
 clear hb2 hbb
 go_wp2
 exact bodyPost_ret (v:=.bool (!b)) (by simp [results,Tryz.results20,go_sem]) rfl ⟨⟨_,rfl,HE.out⟩,HB2.out⟩

theorem not_rightColumn (R : Prop) (x0 : Nat) (e : Ex) (k : Value) (w : World) (hx : XR w e k) (hd : w.cell? ⟨x0,0,none⟩ = some (.func (.func 62) #[] #[])) (hR : ∀ W,Below w.heap.size w W → Calls Tryz.prog 62 #[.agg (exC e k).toArray] W (EqPost R W)) : Calls Tryz.prog 58 #[.agg (exC e k).toArray,.pointer (some ⟨x0,0,none⟩)] w (EqPost (¬ R) w):=by
 obtain ⟨a,m,c,rfl⟩:=hx.slice
 have HI:=Lib.hid hR
 have hlt:=World.block_lt_of_cell? _ _ hd
 clear hR hx
 obtain ⟨Q,hQ⟩ : ∃ Q,(¬ R) = Q:=⟨_,rfl⟩
 have HQ:=Lib.hid hQ
 rw [hQ]
 clear hQ
 obtain ⟨kk,oo,⟨v1,v2,v3⟩,tt,nn,ks,pp⟩:=e
 simp only [exC] at HI ⊢
 obtain ⟨W,hW⟩ : ∃ W,w.alloc (.cells #[.int .i64 kk,.int .i64 oo,.int .i64 v1,.int .i64 v2,.string v3,.string tt,.string nn,.slice a m c,.int .i64 pp] 49) = W:=⟨_,rfl⟩
 have hb : Below w.heap.size w W:=hW ▸ (Below.refl _ _).alloc (Nat.le_refl _) _
 have hd2:=(hb.cell hlt).trans hd
 have hr : W.heap[w.heap.size]? = some (.cells #[.int .i64 kk,.int .i64 oo,.int .i64 v1,.int .i64 v2,.string v3,.string tt,.string nn,.slice a m c,.int .i64 pp] 49 (0,0)):=hW ▸ heap_alloc_new w _
 obtain ⟨⟨c0,c1,c2,c3,c4,c5,c6,c7,c8⟩,-⟩:=nine_of hr
 have HB:=Lib.hid hb
 clear hr hb
 go_enter Tryz.func58,Tryz.ntmps58
 go_wp2_with fail
 clear hW
 refine (HI.out _ HB.out).mono ?_
 rintro e w2 ⟨⟨b,rfl,hbb⟩,hb2⟩
 have HB2:=Hbt HB hb2
 have HE : Hid ((!b) = true ↔ Q):=Lib.hid (by rw [← HQ.out,← hbb]; cases b <;> simp)
 clear hb2 hbb
 go_wp2
 exact bodyPost_ret (v:=.bool (!b)) (by simp [results,Tryz.results58,go_sem]) rfl ⟨⟨_,rfl,HE.out⟩,HB2.out⟩

theorem within_rightColumn (R : Ex → Prop) (lo hi : Nat) (es : List Ex) (a : Option Addr) (c : Nat) (w : World) (h : XLR w es (.slice a es.length c)) (hR : ∀ i (h : i < es.length) (k : Value) (W : World),XR W es[i] k → Calls Tryz.prog 62 #[.agg (exC es[i] k).toArray] W (EqPost (R es[i]) W)) : Calls Tryz.prog 20 #[.slice a es.length c,.int .i64 (lo : Int),.int .i64 (hi : Int),.func (.func 62) #[] #[]] w (EqPost (lo ≤ es.length ∧ es.length ≤ hi ∧ ∀ i (h : i < es.length),R es[i]) w):=by
 obtain ⟨p1,q1,ks,e1,_,hm1,hk1,hr1,hx1⟩:=h
 injection e1 with e11 _ e13
 subst e11 e13
 obtain ⟨Q,hQ⟩ : ∃ Q,(lo ≤ es.length ∧ es.length ≤ hi ∧ ∀ i (h : i < es.length),R es[i]) = Q:=⟨_,rfl⟩
 have HQ:=Lib.hid hQ
 rw [hQ]
 clear hQ
 obtain ⟨W,hW⟩ : ∃ W,w.alloc (.cells #[.func (.func 62) #[] #[]] 50) = W:=⟨_,rfl⟩
 have hb : Below w.heap.size w W:=hW ▸ (Below.refl _ _).alloc (Nat.le_refl _) _
 have hr : W.heap[w.heap.size]? = some (.cells #[.func (.func 62) #[] #[]] 50 (0,0)):=hW ▸ heap_alloc_new w _
 have hd : W.cell? ⟨w.heap.size,0,none⟩ = some (.func (.func 62) #[] #[]):=by simp [World.cell?,hr]
 have HB:=Lib.hid hb
 clear hr
 have HC:=Lib.hid (con_wx W a c es ks w.heap.size (fun k => @decide (¬ ∀ (h : k < es.length),R es[k]) (Classical.propDecidable _)) hk1 hm1 (hr1.later hb) (fun i h' => (hx1 i (by omega) h').slice) fun k g g' w1 hb1 => ((not_rightColumn (∀ (h : k < es.length),R es[k]) w.heap.size es[k] ks[k] w1 ((hx1 k g g').later (hb.trans (hb1.mono hb.size))) ((hb1.cell (World.block_lt_of_cell? _ _ hd)).trans hd) fun W2 hb2 => (hR k g ks[k] W2 (((hx1 k g g').later (hb.trans (hb1.mono hb.size))).later hb2)).mono fun _ _ h => h.of ⟨fun h _ => h,fun h => h g⟩)).mono fun _ _ h => h.dec)
 clear hb hd hr1 hx1 hR hk1
 go_enter Tryz.func20,Tryz.ntmps20
 go_upto_region 1 with fail
 clear hW
 by_cases n1 : lo ≤ es.length
 rotate_left
 ·have d : ¬ (lo : Int) ≤ (es.length : Int):=by omega
  have HE : Hid (¬ Q):=HQ.out ▸ fun h => n1 h.1
  go_wp2
  exact bodyPost_ret (v:=.bool false) (by simp [results,Tryz.results20,go_sem]) rfl (eq_no HE.out HB.out)
 by_cases n2 : es.length ≤ hi
 rotate_left
 ·have d : ¬ (es.length : Int) ≤ (hi : Int):=by omega
  have d0 : (lo : Int) ≤ (es.length : Int):=by omega
  have HE : Hid (¬ Q):=HQ.out ▸ fun h => n2 h.2.1
  go_wp2
  exact bodyPost_ret (v:=.bool false) (by simp [results,Tryz.results20,go_sem]) rfl (eq_no HE.out HB.out)
 have d1 : (lo : Int) ≤ (es.length : Int):=by omega
 have d2 : (es.length : Int) ≤ (hi : Int):=by omega
 go_wp2_with fail
 refine HC.out.mono ?_
 rintro e w2 ⟨⟨b,rfl,hbb⟩,hb2⟩
 have HB2:=Hbt HB hb2
 have HE : Hid ((!b) = true ↔ Q):=Lib.hid (by
  rw [← HQ.out]
  have hbb2 : b = true ↔ ∃ k,k < es.length ∧ ¬ ∀ (h : k < es.length),R es[k]:=by simpa using hbb
  constructor
  ·intro h
   refine ⟨n1,n2,fun i hi => ?_⟩
   apply Classical.byContradiction
   intro hn
   have:=hbb2.2 ⟨i,hi,fun k => hn (k hi)⟩
   rw [this] at h
   cases h
  ·rintro ⟨_,_,h⟩
   cases b with
   | false => rfl
   | true => obtain ⟨k,hk,hn⟩:=hbb2.1 rfl; exact absurd (fun _ => h k hk) hn)
 clear hb2 hbb
 go_wp2
 exact bodyPost_ret (v:=.bool (!b)) (by simp [results,Tryz.results20,go_sem]) rfl ⟨⟨_,rfl,HE.out⟩,HB2.out⟩

def formK (k : Int) : Int × Int × Nat × Nat:=if k = 1 ∨ k = 2 ∨ k = 3 ∨ k = 11 then (0,0,0,0) else if k = 4 ∨ k = 8 ∨ k = 12 ∨ k = 13 ∨ k = 14 then (0,0,1,1) else if k = 5 then (1,5,2,2) else if k = 6 then (1,6,2,2) else if k = 7 then (0,1,1,1) else if k = 9 ∨ k = 10 then (0,0,2,8) else (0,0,1,0)

def formV (k : Int) : Value:=.agg #[.int .i64 (formK k).1,.int .i64 (formK k).2.1,.int .i64 ((formK k).2.2.1 : Int),.int .i64 ((formK k).2.2.2 : Int)]

theorem formOf_any (k : Int) (w : World) : Calls Tryz.prog 90 #[.int .i64 k] w fun e w' => e = .returned (formV k) ∧ Below w.heap.size w w':=by
 by_cases n1 : k = 1
 ·subst n1
  skip
  go_enter Tryz.func90,Tryz.ntmps90
  go_wp2
  exact bodyPost_ret (v:=.agg #[.int .i64 0,.int .i64 0,.int .i64 0,.int .i64 0]) (by simp [results,Tryz.results90,go_sem]) rfl ⟨rfl,by (repeat (first | exact Below.refl _ _ | assumption | refine Below.drew ?_ | refine below_drewN ?_ _ | refine Below.alloc ?_ (by first | omega | (simp; done) | (simp; omega)) _ | refine Below.setCell ?_ (by first | omega | (simp; done) | (simp; omega)) _ | refine Below.trans ?_ (Below.mono (by assumption) (by first | omega | (simp; done) | (simp; omega)))))⟩
 by_cases n2 : k = 2
 ·subst n2
  clear n1
  go_enter Tryz.func90,Tryz.ntmps90
  go_wp2
  exact bodyPost_ret (v:=.agg #[.int .i64 0,.int .i64 0,.int .i64 0,.int .i64 0]) (by simp [results,Tryz.results90,go_sem]) rfl ⟨rfl,by (repeat (first | exact Below.refl _ _ | assumption | refine Below.drew ?_ | refine below_drewN ?_ _ | refine Below.alloc ?_ (by first | omega | (simp; done) | (simp; omega)) _ | refine Below.setCell ?_ (by first | omega | (simp; done) | (simp; omega)) _ | refine Below.trans ?_ (Below.mono (by assumption) (by first | omega | (simp; done) | (simp; omega)))))⟩
 by_cases n3 : k = 3
 ·subst n3
  clear n1 n2
  go_enter Tryz.func90,Tryz.ntmps90
  go_wp2
  exact bodyPost_ret (v:=.agg #[.int .i64 0,.int .i64 0,.int .i64 0,.int .i64 0]) (by simp [results,Tryz.results90,go_sem]) rfl ⟨rfl,by (repeat (first | exact Below.refl _ _ | assumption | refine Below.drew ?_ | refine below_drewN ?_ _ | refine Below.alloc ?_ (by first | omega | (simp; done) | (simp; omega)) _ | refine Below.setCell ?_ (by first | omega | (simp; done) | (simp; omega)) _ | refine Below.trans ?_ (Below.mono (by assumption) (by first | omega | (simp; done) | (simp; omega)))))⟩
 by_cases n4 : k = 4
 ·subst n4
  clear n1 n2 n3
  go_enter Tryz.func90,Tryz.ntmps90
  go_wp2
  exact bodyPost_ret (v:=.agg #[.int .i64 0,.int .i64 0,.int .i64 1,.int .i64 1]) (by simp [results,Tryz.results90,go_sem]) rfl ⟨rfl,by (repeat (first | exact Below.refl _ _ | assumption | refine Below.drew ?_ | refine below_drewN ?_ _ | refine Below.alloc ?_ (by first | omega | (simp; done) | (simp; omega)) _ | refine Below.setCell ?_ (by first | omega | (simp; done) | (simp; omega)) _ | refine Below.trans ?_ (Below.mono (by assumption) (by first | omega | (simp; done) | (simp; omega)))))⟩
 by_cases n5 : k = 5
 ·subst n5
  clear n1 n2 n3 n4
  go_enter Tryz.func90,Tryz.ntmps90
  go_wp2
  exact bodyPost_ret (v:=.agg #[.int .i64 1,.int .i64 5,.int .i64 2,.int .i64 2]) (by simp [results,Tryz.results90,go_sem]) rfl ⟨rfl,by (repeat (first | exact Below.refl _ _ | assumption | refine Below.drew ?_ | refine below_drewN ?_ _ | refine Below.alloc ?_ (by first | omega | (simp; done) | (simp; omega)) _ | refine Below.setCell ?_ (by first | omega | (simp; done) | (simp; omega)) _ | refine Below.trans ?_ (Below.mono (by assumption) (by first | omega | (simp; done) | (simp; omega)))))⟩
 by_cases n6 : k = 6
 ·subst n6
  clear n1 n2 n3 n4 n5
  go_enter Tryz.func90,Tryz.ntmps90
  go_wp2
  exact bodyPost_ret (v:=.agg #[.int .i64 1,.int .i64 6,.int .i64 2,.int .i64 2]) (by simp [results,Tryz.results90,go_sem]) rfl ⟨rfl,by (repeat (first | exact Below.refl _ _ | assumption | refine Below.drew ?_ | refine below_drewN ?_ _ | refine Below.alloc ?_ (by first | omega | (simp; done) | (simp; omega)) _ | refine Below.setCell ?_ (by first | omega | (simp; done) | (simp; omega)) _ | refine Below.trans ?_ (Below.mono (by assumption) (by first | omega | (simp; done) | (simp; omega)))))⟩
 by_cases n7 : k = 7
 ·subst n7
  clear n1 n2 n3 n4 n5 n6
  go_enter Tryz.func90,Tryz.ntmps90
  go_wp2
  exact bodyPost_ret (v:=.agg #[.int .i64 0,.int .i64 1,.int .i64 1,.int .i64 1]) (by simp [results,Tryz.results90,go_sem]) rfl ⟨rfl,by (repeat (first | exact Below.refl _ _ | assumption | refine Below.drew ?_ | refine below_drewN ?_ _ | refine Below.alloc ?_ (by first | omega | (simp; done) | (simp; omega)) _ | refine Below.setCell ?_ (by first | omega | (simp; done) | (simp; omega)) _ | refine Below.trans ?_ (Below.mono (by assumption) (by first | omega | (simp; done) | (simp; omega)))))⟩
 by_cases n8 : k = 8
 ·subst n8
  clear n1 n2 n3 n4 n5 n6 n7
  go_enter Tryz.func90,Tryz.ntmps90
  go_wp2
  exact bodyPost_ret (v:=.agg #[.int .i64 0,.int .i64 0,.int .i64 1,.int .i64 1]) (by simp [results,Tryz.results90,go_sem]) rfl ⟨rfl,by (repeat (first | exact Below.refl _ _ | assumption | refine Below.drew ?_ | refine below_drewN ?_ _ | refine Below.alloc ?_ (by first | omega | (simp; done) | (simp; omega)) _ | refine Below.setCell ?_ (by first | omega | (simp; done) | (simp; omega)) _ | refine Below.trans ?_ (Below.mono (by assumption) (by first | omega | (simp; done) | (simp; omega)))))⟩
 by_cases n9 : k = 9
 ·subst n9
  clear n1 n2 n3 n4 n5 n6 n7 n8
  go_enter Tryz.func90,Tryz.ntmps90
  go_wp2
  exact bodyPost_ret (v:=.agg #[.int .i64 0,.int .i64 0,.int .i64 2,.int .i64 8]) (by simp [results,Tryz.results90,go_sem]) rfl ⟨rfl,by (repeat (first | exact Below.refl _ _ | assumption | refine Below.drew ?_ | refine below_drewN ?_ _ | refine Below.alloc ?_ (by first | omega | (simp; done) | (simp; omega)) _ | refine Below.setCell ?_ (by first | omega | (simp; done) | (simp; omega)) _ | refine Below.trans ?_ (Below.mono (by assumption) (by first | omega | (simp; done) | (simp; omega)))))⟩
 by_cases n10 : k = 10
 ·subst n10
  clear n1 n2 n3 n4 n5 n6 n7 n8 n9
  go_enter Tryz.func90,Tryz.ntmps90
  go_wp2
  exact bodyPost_ret (v:=.agg #[.int .i64 0,.int .i64 0,.int .i64 2,.int .i64 8]) (by simp [results,Tryz.results90,go_sem]) rfl ⟨rfl,by (repeat (first | exact Below.refl _ _ | assumption | refine Below.drew ?_ | refine below_drewN ?_ _ | refine Below.alloc ?_ (by first | omega | (simp; done) | (simp; omega)) _ | refine Below.setCell ?_ (by first | omega | (simp; done) | (simp; omega)) _ | refine Below.trans ?_ (Below.mono (by assumption) (by first | omega | (simp; done) | (simp; omega)))))⟩
 by_cases n11 : k = 11
 ·subst n11
  clear n1 n2 n3 n4 n5 n6 n7 n8 n9 n10
  go_enter Tryz.func90,Tryz.ntmps90
  go_wp2
  exact bodyPost_ret (v:=.agg #[.int .i64 0,.int .i64 0,.int .i64 0,.int .i64 0]) (by simp [results,Tryz.results90,go_sem]) rfl ⟨rfl,by (repeat (first | exact Below.refl _ _ | assumption | refine Below.drew ?_ | refine below_drewN ?_ _ | refine Below.alloc ?_ (by first | omega | (simp; done) | (simp; omega)) _ | refine Below.setCell ?_ (by first | omega | (simp; done) | (simp; omega)) _ | refine Below.trans ?_ (Below.mono (by assumption) (by first | omega | (simp; done) | (simp; omega)))))⟩
 by_cases n12 : k = 12
 ·subst n12
  clear n1 n2 n3 n4 n5 n6 n7 n8 n9 n10 n11
  go_enter Tryz.func90,Tryz.ntmps90
  go_wp2
  exact bodyPost_ret (v:=.agg #[.int .i64 0,.int .i64 0,.int .i64 1,.int .i64 1]) (by simp [results,Tryz.results90,go_sem]) rfl ⟨rfl,by (repeat (first | exact Below.refl _ _ | assumption | refine Below.drew ?_ | refine below_drewN ?_ _ | refine Below.alloc ?_ (by first | omega | (simp; done) | (simp; omega)) _ | refine Below.setCell ?_ (by first | omega | (simp; done) | (simp; omega)) _ | refine Below.trans ?_ (Below.mono (by assumption) (by first | omega | (simp; done) | (simp; omega)))))⟩
 by_cases n13 : k = 13
 ·subst n13
  clear n1 n2 n3 n4 n5 n6 n7 n8 n9 n10 n11 n12
  go_enter Tryz.func90,Tryz.ntmps90
  go_wp2
  exact bodyPost_ret (v:=.agg #[.int .i64 0,.int .i64 0,.int .i64 1,.int .i64 1]) (by simp [results,Tryz.results90,go_sem]) rfl ⟨rfl,by (repeat (first | exact Below.refl _ _ | assumption | refine Below.drew ?_ | refine below_drewN ?_ _ | refine Below.alloc ?_ (by first | omega | (simp; done) | (simp; omega)) _ | refine Below.setCell ?_ (by first | omega | (simp; done) | (simp; omega)) _ | refine Below.trans ?_ (Below.mono (by assumption) (by first | omega | (simp; done) | (simp; omega)))))⟩
 by_cases n14 : k = 14
 ·subst n14
  clear n1 n2 n3 n4 n5 n6 n7 n8 n9 n10 n11 n12 n13
  go_enter Tryz.func90,Tryz.ntmps90
  go_wp2
  exact bodyPost_ret (v:=.agg #[.int .i64 0,.int .i64 0,.int .i64 1,.int .i64 1]) (by simp [results,Tryz.results90,go_sem]) rfl ⟨rfl,by (repeat (first | exact Below.refl _ _ | assumption | refine Below.drew ?_ | refine below_drewN ?_ _ | refine Below.alloc ?_ (by first | omega | (simp; done) | (simp; omega)) _ | refine Below.setCell ?_ (by first | omega | (simp; done) | (simp; omega)) _ | refine Below.trans ?_ (Below.mono (by assumption) (by first | omega | (simp; done) | (simp; omega)))))⟩
 have d1 : (k == 1) = false:=by simpa using n1
 have d2 : (k == 2) = false:=by simpa using n2
 have d3 : (k == 3) = false:=by simpa using n3
 have d4 : (k == 4) = false:=by simpa using n4
 have d5 : (k == 5) = false:=by simpa using n5
 have d6 : (k == 6) = false:=by simpa using n6
 have d7 : (k == 7) = false:=by simpa using n7
 have d8 : (k == 8) = false:=by simpa using n8
 have d9 : (k == 9) = false:=by simpa using n9
 have d10 : (k == 10) = false:=by simpa using n10
 have d11 : (k == 11) = false:=by simpa using n11
 have d12 : (k == 12) = false:=by simpa using n12
 have d13 : (k == 13) = false:=by simpa using n13
 have d14 : (k == 14) = false:=by simpa using n14
 have hf : formK k = (0,0,1,0):=by unfold formK; simp [n1,n2,n3,n4,n5,n6,n7,n8,n9,n10,n11,n12,n13,n14]
 have hv : formV k = .agg #[.int .i64 0,.int .i64 0,.int .i64 1,.int .i64 0]:=by unfold formV; rw [hf]; rfl
 rw [hv]
 clear hf hv n1 n2 n3 n4 n5 n6 n7 n8 n9 n10 n11 n12 n13 n14
 go_enter Tryz.func90,Tryz.ntmps90
 go_wp2
 exact bodyPost_ret (v:=.agg #[.int .i64 0,.int .i64 0,.int .i64 1,.int .i64 0]) (by simp [results,Tryz.results90,go_sem]) rfl ⟨rfl,by (repeat (first | exact Below.refl _ _ | assumption | refine Below.drew ?_ | refine below_drewN ?_ _ | refine Below.alloc ?_ (by first | omega | (simp; done) | (simp; omega)) _ | refine Below.setCell ?_ (by first | omega | (simp; done) | (simp; omega)) _ | refine Below.trans ?_ (Below.mono (by assumption) (by first | omega | (simp; done) | (simp; omega)))))⟩

theorem nameOrNone_any (s : ByteArray) (w : World) : Calls Tryz.prog 61 #[.string s] w (EqPost (s = ⟨#[]⟩ ∨ isName s = true) w):=by
 obtain ⟨Q,hQ⟩ : ∃ Q,(s = ⟨#[]⟩ ∨ isName s = true) = Q:=⟨_,rfl⟩
 have HQ:=Lib.hid hQ
 rw [hQ]
 clear hQ
 by_cases n : s = ⟨#[]⟩
 ·have HE : Hid Q:=HQ.out ▸ Or.inl n
  subst n
  go_enter Tryz.func61,Tryz.ntmps61
  go_wp2
  exact bodyPost_ret (v:=.bool true) (by simp [results,Tryz.results61,go_sem]) rfl (eq_yes HE.out (Below.refl _ _))
 ·have d : s.toList.isEmpty = false:=by have h:=str_ne n; rw [ByteArray.toList_eq,ByteArray.toList_eq] at h; rw [ByteArray.toList_eq]; cases hl : s.data.toList with | nil => rw [hl] at h; simp at h | cons x l => rfl
  have d2 : ¬ s.toList = []:=fun h => by rw [h] at d; simp at d
  have HE : Hid (isName s = true ↔ Q):=HQ.out ▸ ⟨Or.inr,fun h => h.resolve_left n⟩
  clear n
  go_enter Tryz.func61,Tryz.ntmps61
  go_wp2_with fail
  refine (isName_any s w).mono ?_
  rintro e w' ⟨rfl,hw⟩
  replace hw:=hw.symm
  subst hw
  go_wp2
  exact bodyPost_ret (v:=.bool (isName s)) (by simp [results,Tryz.results61,go_sem]) rfl ⟨⟨_,rfl,HE.out⟩,Below.refl _ _⟩

theorem not_nil {s : ByteArray} (n : ¬ s = ⟨#[]⟩) : s.toList.isEmpty = false ∧ ¬ s.toList = []:=by
 have h:=str_ne n
 rw [ByteArray.toList_eq,ByteArray.toList_eq] at h
 rw [ByteArray.toList_eq]
 cases hl : s.data.toList with
 | nil => rw [hl] at h; simp at h
 | cons x l => simp

def litOk (v : V3) : Prop:=rgt v.1 v.2.1 v.2.2 = true ∧ 0 ≤ v.2.1

theorem isLiteral_any (v : V3) (w : World) : Calls Tryz.prog 116 #[.agg #[.int .i64 v.1,.int .i64 v.2.1,.string v.2.2]] w (EqPost (litOk v) w):=by
 obtain ⟨Q,hQ⟩ : ∃ Q,litOk v = Q:=⟨_,rfl⟩
 have HQ : Hid (Q ↔ rgt v.1 v.2.1 v.2.2 = true ∧ 0 ≤ v.2.1):=Lib.hid (hQ ▸ Iff.rfl)
 rw [hQ]
 clear hQ
 obtain ⟨a,b,c⟩:=v
 simp only at HQ ⊢
 obtain ⟨W,hW⟩ : ∃ W,w.alloc (.cells #[.int .i64 a,.int .i64 b,.string c] 47) = W:=⟨_,rfl⟩
 have hb : Below w.heap.size w W:=hW ▸ (Below.refl _ _).alloc (Nat.le_refl _) _
 have hr : W.heap[w.heap.size]? = some (.cells #[.int .i64 a,.int .i64 b,.string c] 47 (0,0)):=hW ▸ heap_alloc_new w _
 obtain ⟨⟨c0,c1,c2⟩,-⟩:=three_of hr
 have HB:=Lib.hid hb
 have HR:=Lib.hid hr
 clear hb hr
 go_enter Tryz.func116,Tryz.ntmps116
 go_wp2_with fail
 clear hW
 refine (right_any a b c _).mono ?_
 rintro e w1 ⟨rfl,hb1⟩
 have HB1:=Hbt HB hb1
 obtain ⟨⟨e0,e1,e2⟩,-⟩:=three_of ((hb1.block _ (Gx HR.out)).trans HR.out)
 clear hb1 c0 c1 c2
 cases hg : rgt a b c with
 | false =>
  have HE : Hid (¬ Q):=Lib.hid (fun h => by have:=(HQ.out.1 h).1; rw [hg] at this; cases this)
  clear hg
  go_wp2
  exact bodyPost_ret (v:=.bool false) (by simp [results,Tryz.results116,go_sem]) rfl (eq_no HE.out HB1.out)
 | true =>
  by_cases n : 0 ≤ b
  ·have HE : Hid Q:=Lib.hid (HQ.out.2 ⟨hg,n⟩)
   clear hg
   go_wp2
   exact bodyPost_ret (v:=.bool true) (by simp [results,Tryz.results116,go_sem]) rfl (eq_yes HE.out HB1.out)
  ·have HE : Hid (¬ Q):=Lib.hid (fun h => n (HQ.out.1 h).2)
   clear hg
   go_wp2
   exact bodyPost_ret (v:=.bool false) (by simp [results,Tryz.results116,go_sem]; omega) rfl (eq_no HE.out HB1.out)

def wdOk : Ex → Prop
 | .mk k _ v t n _ _ => (k = 1 → t = ⟨#[]⟩ ∧ n = ⟨#[]⟩ ∧ litOk v) ∧ (k = 2 → t = ⟨#[]⟩ ∧ isName n = true ∧ v.1 = 0 ∧ v.2.1 = 0 ∧ v.2.2 = ⟨#[]⟩) ∧ (k = 3 → (t = ⟨#[]⟩ ∨ isName t = true) ∧ isName n = true ∧ v.1 = 0 ∧ v.2.1 = 0 ∧ v.2.2 = ⟨#[]⟩) ∧ (k ≠ 1 → k ≠ 2 → k ≠ 3 → t = ⟨#[]⟩ ∧ n = ⟨#[]⟩ ∧ v.1 = 0 ∧ v.2.1 = 0 ∧ v.2.2 = ⟨#[]⟩)

theorem rightWords_any (e : Ex) (k : Value) (w : World) (hx : XR w e k) : Calls Tryz.prog 91 #[.agg (exC e k).toArray] w (EqPost (wdOk e) w):=by
 obtain ⟨a,m,c,rfl⟩:=hx.slice
 clear hx
 obtain ⟨kk,oo,⟨v1,v2,v3⟩,tt,nn,ks,pp⟩:=e
 obtain ⟨Q,hQ⟩ : ∃ Q,wdOk (.mk kk oo (v1,v2,v3) tt nn ks pp) = Q:=⟨_,rfl⟩
 have HQ : Hid (Q ↔ (kk = 1 → tt = ⟨#[]⟩ ∧ nn = ⟨#[]⟩ ∧ litOk (v1,v2,v3)) ∧ (kk = 2 → tt = ⟨#[]⟩ ∧ isName nn = true ∧ v1 = 0 ∧ v2 = 0 ∧ v3 = ⟨#[]⟩) ∧ (kk = 3 → (tt = ⟨#[]⟩ ∨ isName tt = true) ∧ isName nn = true ∧ v1 = 0 ∧ v2 = 0 ∧ v3 = ⟨#[]⟩) ∧ (kk ≠ 1 → kk ≠ 2 → kk ≠ 3 → tt = ⟨#[]⟩ ∧ nn = ⟨#[]⟩ ∧ v1 = 0 ∧ v2 = 0 ∧ v3 = ⟨#[]⟩)):=Lib.hid (hQ ▸ Iff.rfl)
 rw [hQ]
 clear hQ
 simp only [exC]
 obtain ⟨W,hW⟩ : ∃ W,w.alloc (.cells #[.int .i64 kk,.int .i64 oo,.int .i64 v1,.int .i64 v2,.string v3,.string tt,.string nn,.slice a m c,.int .i64 pp] 49) = W:=⟨_,rfl⟩
 have hb : Below w.heap.size w W:=hW ▸ (Below.refl _ _).alloc (Nat.le_refl _) _
 have hr : W.heap[w.heap.size]? = some (.cells #[.int .i64 kk,.int .i64 oo,.int .i64 v1,.int .i64 v2,.string v3,.string tt,.string nn,.slice a m c,.int .i64 pp] 49 (0,0)):=hW ▸ heap_alloc_new w _
 have HB:=Lib.hid hb
 have HR:=Lib.hid hr
 obtain ⟨⟨y0,y1,y2,y3,y4,y5,y6,y7,y8⟩,-⟩:=nine_of hr
 clear hb hr
 go_enter Tryz.func91,Tryz.ntmps91
 go_upto_region 1 with fail
 clear hW
 by_cases k1 : kk = 1
 ·subst k1
  obtain ⟨R,hR⟩ : ∃ R,(tt = ⟨#[]⟩ ∧ nn = ⟨#[]⟩ ∧ litOk (v1,v2,v3)) = R:=⟨_,rfl⟩
  have HQR : Hid (Q ↔ R):=Lib.hid (hR ▸ ⟨fun h => (HQ.out.1 h).1 rfl,fun h => HQ.out.2 ⟨fun _ => h,fun e => absurd e (by decide),fun e => absurd e (by decide),fun e => absurd rfl e⟩⟩)
  have HR2 : Hid (R ↔ (tt = ⟨#[]⟩ ∧ nn = ⟨#[]⟩ ∧ litOk (v1,v2,v3))):=Lib.hid (hR ▸ Iff.rfl)
  clear hR HQ
  by_cases n0 : tt = ⟨#[]⟩
  rotate_left
  ·have HE : Hid (¬ Q):=Lib.hid (fun h => n0 (HR2.out.1 (HQR.out.1 h)).1)
   obtain ⟨z1,z2⟩:=not_nil n0
   go_wp2
   exact bodyPost_ret (v:=.bool false) (by simp [results,Tryz.results91,go_sem]) rfl (eq_no HE.out HB.out)
  have HN0:=Lib.hid n0
  subst n0
  by_cases n1 : nn = ⟨#[]⟩
  rotate_left
  ·have HE : Hid (¬ Q):=Lib.hid (fun h => n1 (HR2.out.1 (HQR.out.1 h)).2.1)
   obtain ⟨z1,z2⟩:=not_nil n1
   go_wp2
   exact bodyPost_ret (v:=.bool false) (by simp [results,Tryz.results91,go_sem]) rfl (eq_no HE.out HB.out)
  have HN1:=Lib.hid n1
  subst n1
  go_wp2_with fail
  refine (isLiteral_any (v1,v2,v3) _).mono ?_
  rintro e w2 ⟨⟨b,rfl,hb2⟩,hl⟩
  have HB2:=Hbt HB hl
  have HRx:=Hbk hl HR
  clear hl HR y0 y1 y2 y3 y4 y5 y6 y7 y8
  have HR:=HRx
  clear HRx
  obtain ⟨⟨y0,y1,y2,y3,y4,y5,y6,y7,y8⟩,-⟩:=nine_of HR.out
  cases b with
  | false =>
   have HE : Hid (¬ Q):=Lib.hid (fun h => absurd (hb2.2 (HR2.out.1 (HQR.out.1 h)).2.2) (by simp))
   clear hb2
   go_wp2
   exact bodyPost_ret (v:=.bool false) (by simp [results,Tryz.results91,go_sem]) rfl (eq_no HE.out HB2.out)
  | true =>
   have HN2 : Hid (litOk (v1,v2,v3)):=hb2.1 rfl
   clear hb2
   have HE : Hid Q:=Lib.hid (HQR.out.2 (HR2.out.2 ⟨by first | rfl | trivial,by first | rfl | trivial,HN2.out⟩))
   go_wp2
   exact bodyPost_ret (v:=.bool true) (by simp [results,Tryz.results91,go_sem]) rfl (eq_yes HE.out HB2.out)
 by_cases k2 : kk = 2
 ·subst k2
  obtain ⟨R,hR⟩ : ∃ R,(tt = ⟨#[]⟩ ∧ isName nn = true ∧ v1 = 0 ∧ v2 = 0 ∧ v3 = ⟨#[]⟩) = R:=⟨_,rfl⟩
  have HQR : Hid (Q ↔ R):=Lib.hid (hR ▸ ⟨fun h => (HQ.out.1 h).2.1 rfl,fun h => HQ.out.2 ⟨fun e => absurd e (by decide),fun _ => h,fun e => absurd e (by decide),fun _ e => absurd rfl e⟩⟩)
  have HR2 : Hid (R ↔ (tt = ⟨#[]⟩ ∧ isName nn = true ∧ v1 = 0 ∧ v2 = 0 ∧ v3 = ⟨#[]⟩)):=Lib.hid (hR ▸ Iff.rfl)
  clear hR HQ
  by_cases n0 : tt = ⟨#[]⟩
  rotate_left
  ·have HE : Hid (¬ Q):=Lib.hid (fun h => n0 (HR2.out.1 (HQR.out.1 h)).1)
   obtain ⟨z1,z2⟩:=not_nil n0
   go_wp2
   exact bodyPost_ret (v:=.bool false) (by simp [results,Tryz.results91,go_sem]) rfl (eq_no HE.out HB.out)
  have HN0:=Lib.hid n0
  subst n0
  go_wp2_with fail
  refine (isName_any nn _).mono ?_
  rintro e w' ⟨rfl,hw⟩
  replace hw:=hw.symm
  subst hw
  have hbb : isName nn = true ↔ isName nn = true:=Iff.rfl
  obtain ⟨b,hbe⟩ : ∃ b,isName nn = b:=⟨_,rfl⟩
  have hb1 : b = true ↔ isName nn = true:=by rw [← hbe]
  rw [hbe]
  clear hbe hbb
  cases b with
  | false =>
   have HE : Hid (¬ Q):=Lib.hid (fun h => absurd (hb1.2 (HR2.out.1 (HQR.out.1 h)).2.1) (by simp))
   clear hb1
   go_wp2
   exact bodyPost_ret (v:=.bool false) (by simp [results,Tryz.results91,go_sem]) rfl (eq_no HE.out HB.out)
  | true =>
   have HN1 : Hid (isName nn = true):=hb1.1 rfl
   clear hb1
   by_cases n2 : v1 = 0
   rotate_left
   ·have HE : Hid (¬ Q):=Lib.hid (fun h => n2 (HR2.out.1 (HQR.out.1 h)).2.2.1)
    have z1 : (v1 == 0) = false:=by simpa using n2
    go_wp2
    exact bodyPost_ret (v:=.bool false) (by simp [results,Tryz.results91,go_sem]) rfl (eq_no HE.out HB.out)
   have HN2:=Lib.hid n2
   subst n2
   by_cases n3 : v2 = 0
   rotate_left
   ·have HE : Hid (¬ Q):=Lib.hid (fun h => n3 (HR2.out.1 (HQR.out.1 h)).2.2.2.1)
    have z1 : (v2 == 0) = false:=by simpa using n3
    go_wp2
    exact bodyPost_ret (v:=.bool false) (by simp [results,Tryz.results91,go_sem]) rfl (eq_no HE.out HB.out)
   have HN3:=Lib.hid n3
   subst n3
   by_cases n4 : v3 = ⟨#[]⟩
   rotate_left
   ·have HE : Hid (¬ Q):=Lib.hid (fun h => n4 (HR2.out.1 (HQR.out.1 h)).2.2.2.2)
    obtain ⟨z1,z2⟩:=not_nil n4
    go_wp2
    exact bodyPost_ret (v:=.bool false) (by simp [results,Tryz.results91,go_sem]) rfl (eq_no HE.out HB.out)
   have HN4:=Lib.hid n4
   subst n4
   have HE : Hid Q:=Lib.hid (HQR.out.2 (HR2.out.2 ⟨by first | rfl | trivial,HN1.out,by first | rfl | trivial,by first | rfl | trivial,by first | rfl | trivial⟩))
   go_wp2
   exact bodyPost_ret (v:=.bool true) (by simp [results,Tryz.results91,go_sem]) rfl (eq_yes HE.out HB.out)
 by_cases k3 : kk = 3
 ·subst k3
  obtain ⟨R,hR⟩ : ∃ R,((tt = ⟨#[]⟩ ∨ isName tt = true) ∧ isName nn = true ∧ v1 = 0 ∧ v2 = 0 ∧ v3 = ⟨#[]⟩) = R:=⟨_,rfl⟩
  have HQR : Hid (Q ↔ R):=Lib.hid (hR ▸ ⟨fun h => (HQ.out.1 h).2.2.1 rfl,fun h => HQ.out.2 ⟨fun e => absurd e (by decide),fun e => absurd e (by decide),fun _ => h,fun _ _ e => absurd rfl e⟩⟩)
  have HR2 : Hid (R ↔ ((tt = ⟨#[]⟩ ∨ isName tt = true) ∧ isName nn = true ∧ v1 = 0 ∧ v2 = 0 ∧ v3 = ⟨#[]⟩)):=Lib.hid (hR ▸ Iff.rfl)
  clear hR HQ
  go_wp2_with fail
  refine (nameOrNone_any tt _).mono ?_
  rintro e w0 ⟨⟨b,rfl,hb0⟩,hl⟩
  have HB0:=Hbt HB hl
  have HRx:=Hbk hl HR
  clear hl HR y0 y1 y2 y3 y4 y5 y6 y7 y8
  have HR:=HRx
  clear HRx
  obtain ⟨⟨y0,y1,y2,y3,y4,y5,y6,y7,y8⟩,-⟩:=nine_of HR.out
  cases b with
  | false =>
   have HE : Hid (¬ Q):=Lib.hid (fun h => absurd (hb0.2 (HR2.out.1 (HQR.out.1 h)).1) (by simp))
   clear hb0
   go_wp2
   exact bodyPost_ret (v:=.bool false) (by simp [results,Tryz.results91,go_sem]) rfl (eq_no HE.out HB0.out)
  | true =>
   have HN0 : Hid ((tt = ⟨#[]⟩ ∨ isName tt = true)):=hb0.1 rfl
   clear hb0
   go_wp2_with fail
   refine (isName_any nn _).mono ?_
   rintro e w' ⟨rfl,hw⟩
   replace hw:=hw.symm
   subst hw
   have hbb : isName nn = true ↔ isName nn = true:=Iff.rfl
   obtain ⟨b,hbe⟩ : ∃ b,isName nn = b:=⟨_,rfl⟩
   have hb1 : b = true ↔ isName nn = true:=by rw [← hbe]
   rw [hbe]
   clear hbe hbb
   cases b with
   | false =>
    have HE : Hid (¬ Q):=Lib.hid (fun h => absurd (hb1.2 (HR2.out.1 (HQR.out.1 h)).2.1) (by simp))
    clear hb1
    go_wp2
    exact bodyPost_ret (v:=.bool false) (by simp [results,Tryz.results91,go_sem]) rfl (eq_no HE.out HB0.out)
   | true =>
    have HN1 : Hid (isName nn = true):=hb1.1 rfl
    clear hb1
    by_cases n2 : v1 = 0
    rotate_left
    ·have HE : Hid (¬ Q):=Lib.hid (fun h => n2 (HR2.out.1 (HQR.out.1 h)).2.2.1)
     have z1 : (v1 == 0) = false:=by simpa using n2
     go_wp2
     exact bodyPost_ret (v:=.bool false) (by simp [results,Tryz.results91,go_sem]) rfl (eq_no HE.out HB0.out)
    have HN2:=Lib.hid n2
    subst n2
    by_cases n3 : v2 = 0
    rotate_left
    ·have HE : Hid (¬ Q):=Lib.hid (fun h => n3 (HR2.out.1 (HQR.out.1 h)).2.2.2.1)
     have z1 : (v2 == 0) = false:=by simpa using n3
     go_wp2
     exact bodyPost_ret (v:=.bool false) (by simp [results,Tryz.results91,go_sem]) rfl (eq_no HE.out HB0.out)
    have HN3:=Lib.hid n3
    subst n3
    by_cases n4 : v3 = ⟨#[]⟩
    rotate_left
    ·have HE : Hid (¬ Q):=Lib.hid (fun h => n4 (HR2.out.1 (HQR.out.1 h)).2.2.2.2)
     obtain ⟨z1,z2⟩:=not_nil n4
     go_wp2
     exact bodyPost_ret (v:=.bool false) (by simp [results,Tryz.results91,go_sem]) rfl (eq_no HE.out HB0.out)
    have HN4:=Lib.hid n4
    subst n4
    have HE : Hid Q:=Lib.hid (HQR.out.2 (HR2.out.2 ⟨HN0.out,HN1.out,by first | rfl | trivial,by first | rfl | trivial,by first | rfl | trivial⟩))
    go_wp2
    exact bodyPost_ret (v:=.bool true) (by simp [results,Tryz.results91,go_sem]) rfl (eq_yes HE.out HB0.out)
 have d1 : (kk == 1) = false:=by simpa using k1
 have d2 : (kk == 2) = false:=by simpa using k2
 have d3 : (kk == 3) = false:=by simpa using k3
 obtain ⟨R,hR⟩ : ∃ R,(tt = ⟨#[]⟩ ∧ nn = ⟨#[]⟩ ∧ v1 = 0 ∧ v2 = 0 ∧ v3 = ⟨#[]⟩) = R:=⟨_,rfl⟩
 have HQR : Hid (Q ↔ R):=Lib.hid (hR ▸ ⟨fun h => (HQ.out.1 h).2.2.2 k1 k2 k3,fun h => HQ.out.2 ⟨fun e => absurd e k1,fun e => absurd e k2,fun e => absurd e k3,fun _ _ _ => h⟩⟩)
 have HR2 : Hid (R ↔ (tt = ⟨#[]⟩ ∧ nn = ⟨#[]⟩ ∧ v1 = 0 ∧ v2 = 0 ∧ v3 = ⟨#[]⟩)):=Lib.hid (hR ▸ Iff.rfl)
 clear hR HQ
 by_cases n0 : tt = ⟨#[]⟩
 rotate_left
 ·have HE : Hid (¬ Q):=Lib.hid (fun h => n0 (HR2.out.1 (HQR.out.1 h)).1)
  obtain ⟨z1,z2⟩:=not_nil n0
  go_wp2
  exact bodyPost_ret (v:=.bool false) (by simp [results,Tryz.results91,go_sem]) rfl (eq_no HE.out HB.out)
 have HN0:=Lib.hid n0
 subst n0
 by_cases n1 : nn = ⟨#[]⟩
 rotate_left
 ·have HE : Hid (¬ Q):=Lib.hid (fun h => n1 (HR2.out.1 (HQR.out.1 h)).2.1)
  obtain ⟨z1,z2⟩:=not_nil n1
  go_wp2
  exact bodyPost_ret (v:=.bool false) (by simp [results,Tryz.results91,go_sem]) rfl (eq_no HE.out HB.out)
 have HN1:=Lib.hid n1
 subst n1
 by_cases n2 : v1 = 0
 rotate_left
 ·have HE : Hid (¬ Q):=Lib.hid (fun h => n2 (HR2.out.1 (HQR.out.1 h)).2.2.1)
  have z1 : (v1 == 0) = false:=by simpa using n2
  go_wp2
  exact bodyPost_ret (v:=.bool false) (by simp [results,Tryz.results91,go_sem]) rfl (eq_no HE.out HB.out)
 have HN2:=Lib.hid n2
 subst n2
 by_cases n3 : v2 = 0
 rotate_left
 ·have HE : Hid (¬ Q):=Lib.hid (fun h => n3 (HR2.out.1 (HQR.out.1 h)).2.2.2.1)
  have z1 : (v2 == 0) = false:=by simpa using n3
  go_wp2
  exact bodyPost_ret (v:=.bool false) (by simp [results,Tryz.results91,go_sem]) rfl (eq_no HE.out HB.out)
 have HN3:=Lib.hid n3
 subst n3
 by_cases n4 : v3 = ⟨#[]⟩
 rotate_left
 ·have HE : Hid (¬ Q):=Lib.hid (fun h => n4 (HR2.out.1 (HQR.out.1 h)).2.2.2.2)
  obtain ⟨z1,z2⟩:=not_nil n4
  go_wp2
  exact bodyPost_ret (v:=.bool false) (by simp [results,Tryz.results91,go_sem]) rfl (eq_no HE.out HB.out)
 have HN4:=Lib.hid n4
 subst n4
 have HE : Hid Q:=Lib.hid (HQR.out.2 (HR2.out.2 ⟨by first | rfl | trivial,by first | rfl | trivial,by first | rfl | trivial,by first | rfl | trivial,by first | rfl | trivial⟩))
 go_wp2
 exact bodyPost_ret (v:=.bool true) (by simp [results,Tryz.results91,go_sem]) rfl (eq_yes HE.out HB.out)
end Go.Proofs.YtbfjmccpcbhljaaGreatDoor
