/- A102 A103 A104 A105p -/
import Derived.Test.YtbfjmccpcbhljaaGreatDoorTM131
set_option maxHeartbeats 64000000
set_option maxRecDepth 100000
namespace Go.Proofs.YtbfjmccpcbhljaaGreatDoor
open Go.RowKit
theorem rightNumber_any (n : Int) (w : World) : Calls Tryz.prog 66 #[.int .i64 n] w (EqPost (RtN n) w):=by
 have HQ : Hid (RtN n ↔ 0 ≤ n ∧ n ≤ 4611686018427387904):=Lib.hid Iff.rfl
 obtain ⟨Q,hQ⟩ : ∃ Q,RtN n = Q:=⟨_,rfl⟩
 rw [hQ] at HQ ⊢
 clear hQ
 go_enter Tryz.func66,Tryz.ntmps66
 by_cases h1 : 0 ≤ n
 ·by_cases h2 : n ≤ 4611686018427387904
  ·have HE : Hid Q:=HQ.out.2 ⟨h1,h2⟩
   go_wp2
   exact bodyPost_ret (v:=.bool true) (by simp [results,Tryz.results66,go_sem]) rfl (eq_yes HE.out (by (repeat (first | exact Below.refl _ _ | assumption | refine Below.drew ?_ | refine below_drewN ?_ _ | refine Below.alloc ?_ (by first | omega | (simp; done) | (simp; omega)) _ | refine Below.setCell ?_ (by first | omega | (simp; done) | (simp; omega)) _ | refine Below.trans ?_ (Below.mono (by assumption) (by first | omega | (simp; done) | (simp; omega)))))))
  ·have HE : Hid (¬ Q):=fun h => h2 (HQ.out.1 h).2
   go_wp2
   exact bodyPost_ret (v:=.bool false) (by simp [results,Tryz.results66,go_sem]) rfl (eq_no HE.out (by (repeat (first | exact Below.refl _ _ | assumption | refine Below.drew ?_ | refine below_drewN ?_ _ | refine Below.alloc ?_ (by first | omega | (simp; done) | (simp; omega)) _ | refine Below.setCell ?_ (by first | omega | (simp; done) | (simp; omega)) _ | refine Below.trans ?_ (Below.mono (by assumption) (by first | omega | (simp; done) | (simp; omega)))))))
 ·have HE : Hid (¬ Q):=fun h => h1 (HQ.out.1 h).1
  go_wp2
  exact bodyPost_ret (v:=.bool false) (by simp [results,Tryz.results66,go_sem]) rfl (eq_no HE.out (by (repeat (first | exact Below.refl _ _ | assumption | refine Below.drew ?_ | refine below_drewN ?_ _ | refine Below.alloc ?_ (by first | omega | (simp; done) | (simp; omega)) _ | refine Below.setCell ?_ (by first | omega | (simp; done) | (simp; omega)) _ | refine Below.trans ?_ (Below.mono (by assumption) (by first | omega | (simp; done) | (simp; omega)))))))

theorem rightSort_any (x : So) (w : World) : Calls Tryz.prog 64 #[.agg (soC x).toArray] w (EqPost (RtSo x) w):=by
 obtain ⟨it,ds,pl⟩:=x
 have HI:=Lib.hid (fun W => rightNumber_any it W)
 obtain ⟨Q,hQ⟩ : ∃ Q,RtN it = Q:=⟨_,rfl⟩
 show Calls _ _ _ _ (EqPost (RtN it) w)
 rw [hQ] at HI ⊢
 clear hQ
 simp only [soC]
 obtain ⟨W,hW⟩ : ∃ W,w.alloc (.cells #[.int .i64 it,.bool ds,.int .i64 pl] 70) = W:=⟨_,rfl⟩
 have hb : Below w.heap.size w W:=hW ▸ (Below.refl _ _).alloc (Nat.le_refl _) _
 have hr : W.heap[w.heap.size]? = some (.cells #[.int .i64 it,.bool ds,.int .i64 pl] 70 (0,0)):=hW ▸ heap_alloc_new w _
 have HB:=Lib.hid hb
 obtain ⟨⟨y0,y1,y2⟩,-⟩:=three_of hr
 clear hb hr
 go_enter Tryz.func64,Tryz.ntmps64
 go_wp2_with fail
 clear hW
 refine (HI.out _).mono ?_
 rintro e w1 ⟨⟨b,rfl,hbb⟩,hb1⟩
 have B1:=Hbt HB hb1
 have HE:=Lib.hid hbb
 clear hbb hb1
 go_wp2
 exact bodyPost_ret (v:=.bool b) (by simp [results,Tryz.results64,go_sem]) rfl ⟨⟨b,rfl,HE.out⟩,B1.out⟩

theorem not_wso (x0 : Nat) (x : So) (w : World) (hd : w.cell? ⟨x0,0,none⟩ = some (.func (.func 64) #[] #[])) : Calls Tryz.prog 93 #[.agg (soC x).toArray,.pointer (some ⟨x0,0,none⟩)] w (EqPost (¬ RtSo x) w):=by
 have HI:=Lib.hid (fun W => rightSort_any x W)
 have hlt:=World.block_lt_of_cell? _ _ hd
 obtain ⟨Q,hQ⟩ : ∃ Q,(¬ RtSo x) = Q:=⟨_,rfl⟩
 have HQ:=Lib.hid hQ
 rw [hQ]
 clear hQ
 obtain ⟨it,ds,pl⟩:=x
 simp only [soC] at HI ⊢
 obtain ⟨W,hW⟩ : ∃ W,w.alloc (.cells #[.int .i64 it,.bool ds,.int .i64 pl] 70) = W:=⟨_,rfl⟩
 have hb : Below w.heap.size w W:=hW ▸ (Below.refl _ _).alloc (Nat.le_refl _) _
 have hr : W.heap[w.heap.size]? = some (.cells #[.int .i64 it,.bool ds,.int .i64 pl] 70 (0,0)):=hW ▸ heap_alloc_new w _
 have HB:=Lib.hid hb
 obtain ⟨⟨y0,y1,y2⟩,-⟩:=three_of hr
 have hd2:=(hb.cell hlt).trans hd
 clear hb hr
 go_enter Tryz.func93,Tryz.ntmps93
 go_wp2_with fail
 clear hW
 refine (HI.out _).mono ?_
 rintro e w2 ⟨⟨b,rfl,hbb⟩,hb2⟩
 have HB2:=Hbt HB hb2
 have HE : Hid ((!b) = true ↔ Q):=Lib.hid (by rw [← HQ.out,← hbb]; cases b <;> simp)
 clear hb2 hbb
 go_wp2
 exact bodyPost_ret (v:=.bool (!b)) (by simp [results,Tryz.results93,go_sem]) rfl ⟨⟨_,rfl,HE.out⟩,HB2.out⟩

theorem not_wn (x0 : Nat) (x : Int) (w : World) (hd : w.cell? ⟨x0,0,none⟩ = some (.func (.func 66) #[] #[])) : Calls Tryz.prog 95 #[.int .i64 x,.pointer (some ⟨x0,0,none⟩)] w (EqPost (¬ RtN x) w):=by
 have HI:=Lib.hid (fun W => rightNumber_any x W)
 have hlt:=World.block_lt_of_cell? _ _ hd
 obtain ⟨Q,hQ⟩ : ∃ Q,(¬ RtN x) = Q:=⟨_,rfl⟩
 have HQ:=Lib.hid hQ
 rw [hQ]
 clear hQ
 have HB : Hid (Below w.heap.size w w):=Below.refl _ _
 go_enter Tryz.func95,Tryz.ntmps95
 go_wp2_with fail
 refine (HI.out _).mono ?_
 rintro e w2 ⟨⟨b,rfl,hbb⟩,hb2⟩
 have HB2:=Hbt HB hb2
 have HE : Hid ((!b) = true ↔ Q):=Lib.hid (by rw [← HQ.out,← hbb]; cases b <;> simp)
 clear hb2 hbb
 go_wp2
 exact bodyPost_ret (v:=.bool (!b)) (by simp [results,Tryz.results95,go_sem]) rfl ⟨⟨_,rfl,HE.out⟩,HB2.out⟩

theorem idx_wso (w : World) (a : Option Addr) (cap : Nat) (es : List So) (x0 : Nat) (H : Nat → Bool) (hl : es.length ≤ 9223372036854775807) (hr : ORow w a es) (hC : ∀ k (h : k < es.length) w1,Below w.heap.size w w1 → Calls Tryz.prog 93 #[.agg (soC es[k]).toArray,.pointer (some ⟨x0,0,none⟩)] w1 fun e w2 => e = .returned (.bool (H k)) ∧ Below w1.heap.size w1 w2) : Calls Tryz.prog 117 #[.slice a es.length cap,.func (.func 93) #[] #[.pointer (some ⟨x0,0,none⟩)]] w fun e w' => (∃ i : Int,e = .returned (.int .i64 i) ∧ (0 ≤ i ↔ ∃ k,k < es.length ∧ H k = true)) ∧ Below w.heap.size w w':=by
 have HR:=Lib.hid hr
 have HC:=Lib.hid hC
 clear hr hC
 go_enter Tryz.func117,Tryz.ntmps117
 go_wp2
 go_loopw [8] (fun i wr => ∃ k : Nat,k ≤ es.length ∧ i = .int .i64 k ∧ (∀ j,j < k → H j = false) ∧ Below w.heap.size w wr) (fun i _ => es.length - (intOf i).toNat)
 case atStart => exact ⟨0,Nat.zero_le _,rfl,fun j g => absurd g (Nat.not_lt_zero _),Below.refl _ _⟩
 case round =>
  obtain ⟨k,hk,rfl,hall,hb1⟩:=hrel
  have HA:=Lib.hid hall
  have HB:=Lib.hid hb1
  have hsz:=hb1.size
  clear hall hb1
  by_cases hlt : k < es.length
  ·have hlti : (k : Int) < (es.length : Int):=by omega
   obtain ⟨b,off,rfl,hcs⟩:=HR.out k hlt
   have HCk:=Lib.hid (HC.out k hlt)
   obtain ⟨⟨it,ds,pl⟩,hx⟩ : ∃ x,es[k] = x:=⟨_,rfl⟩
   rw [hx] at hcs HCk
   clear hx
   simp only [soC] at HCk
   have HCS : Hid (∀ j u,[.int .i64 it,.bool ds,.int .i64 pl][j]? = some u → w.cell? ⟨b,off + k * 3 + j,none⟩ = some u):=hcs
   clear hcs
   have q0:=Cl HB.out (HCS.out 0 _ rfl)
   have q1:=Cl HB.out (HCS.out 1 _ rfl)
   have q2:=Cl HB.out (HCS.out 2 _ rfl)
   simp only [Nat.add_zero] at q0
   go_wp2_with fail
   refine (HCk.out _ HB.out).mono ?_
   rintro e w2 ⟨rfl,hb2⟩
   have HB2:=Lib.hid (HB.out.trans (hb2.mono hsz))
   clear hb2 q0 q1 q2
   cases hH : H k with
   | true =>
    have HE : Hid (∃ k,k < es.length ∧ H k = true):=⟨k,hlt,hH⟩
    go_wp2
    exact bodyPost_ret (v:=.int .i64 (k : Int)) (by simp [results,Tryz.results117,go_sem]) rfl ⟨⟨k,rfl,fun _ => HE.out,fun _ => by omega⟩,HB2.out⟩
   | false =>
    have HA2 : Hid (∀ j,j < k + 1 → H j = false):=fun j hj => by
     by_cases e : j = k
     ·rw [e]; exact hH
     ·exact HA.out j (by omega)
    go_wp2
    go_roundw
    case rel => exact ⟨k + 1,by omega,by simp,HA2.out,HB2.out⟩
    case measure => simp [intOf]; omega
  ·have hnlt : ¬ (k : Int) < (es.length : Int):=by omega
   have HE : Hid (¬ ∃ k,k < es.length ∧ H k = true):=fun ⟨j,hj,h⟩ => by rw [HA.out j (by omega)] at h; cases h
   go_wp2
   exact bodyPost_ret (v:=.int .i64 (-1)) (by simp [results,Tryz.results117,go_sem]) rfl ⟨⟨-1,rfl,fun h => absurd h (by decide),fun h => absurd h HE.out⟩,HB.out⟩

theorem con_wso (w : World) (a : Option Addr) (cap : Nat) (es : List So) (x0 : Nat) (H : Nat → Bool) (hl : es.length ≤ 9223372036854775807) (hr : ORow w a es) (hC : ∀ k (h : k < es.length) w1,Below w.heap.size w w1 → Calls Tryz.prog 93 #[.agg (soC es[k]).toArray,.pointer (some ⟨x0,0,none⟩)] w1 fun e w2 => e = .returned (.bool (H k)) ∧ Below w1.heap.size w1 w2) : Calls Tryz.prog 92 #[.slice a es.length cap,.func (.func 93) #[] #[.pointer (some ⟨x0,0,none⟩)]] w fun e w' => (∃ b : Bool,e = .returned (.bool b) ∧ (b = true ↔ ∃ k,k < es.length ∧ H k = true)) ∧ Below w.heap.size w w':=by
 have HI:=Lib.hid (idx_wso w a cap es x0 H hl hr hC)
 clear hl hr hC
 go_enter Tryz.func92,Tryz.ntmps92
 go_wp2_with fail
 refine HI.out.mono ?_
 rintro e w1 ⟨⟨i,rfl,hi⟩,hb⟩
 have HX:=Lib.hid hi
 have HB:=Lib.hid hb
 clear hi hb
 go_wp2
 exact bodyPost_ret (v:=.bool (decide (0 ≤ i))) (by simp [results,Tryz.results92,go_sem]) rfl ⟨⟨_,rfl,by rw [decide_eq_true_iff]; exact HX.out⟩,HB.out⟩

theorem idx_wn (w : World) (a : Option Addr) (cap : Nat) (es : List Int) (x0 : Nat) (H : Nat → Bool) (hl : es.length ≤ 9223372036854775807) (hr : IRow w a es) (hC : ∀ k (h : k < es.length) w1,Below w.heap.size w w1 → Calls Tryz.prog 95 #[.int .i64 es[k],.pointer (some ⟨x0,0,none⟩)] w1 fun e w2 => e = .returned (.bool (H k)) ∧ Below w1.heap.size w1 w2) : Calls Tryz.prog 118 #[.slice a es.length cap,.func (.func 95) #[] #[.pointer (some ⟨x0,0,none⟩)]] w fun e w' => (∃ i : Int,e = .returned (.int .i64 i) ∧ (0 ≤ i ↔ ∃ k,k < es.length ∧ H k = true)) ∧ Below w.heap.size w w':=by
 have HR:=Lib.hid hr
 have HC:=Lib.hid hC
 clear hr hC
 go_enter Tryz.func118,Tryz.ntmps118
 go_wp2
 go_loopw [8] (fun i wr => ∃ k : Nat,k ≤ es.length ∧ i = .int .i64 k ∧ (∀ j,j < k → H j = false) ∧ Below w.heap.size w wr) (fun i _ => es.length - (intOf i).toNat)
 case atStart => exact ⟨0,Nat.zero_le _,rfl,fun j g => absurd g (Nat.not_lt_zero _),Below.refl _ _⟩
 case round =>
  obtain ⟨k,hk,rfl,hall,hb1⟩:=hrel
  have HA:=Lib.hid hall
  have HB:=Lib.hid hb1
  have hsz:=hb1.size
  clear hall hb1
  by_cases hlt : k < es.length
  ·have hlti : (k : Int) < (es.length : Int):=by omega
   obtain ⟨b,off,rfl,hcs⟩:=HR.out k hlt
   have HCk:=Lib.hid (HC.out k hlt)
   obtain ⟨x,hx⟩ : ∃ x,es[k] = x:=⟨_,rfl⟩
   rw [hx] at hcs HCk
   clear hx
   have q0:=(HB.out.cell (World.block_lt_of_cell? _ _ hcs)).trans hcs
   clear hcs
   go_wp2_with fail
   refine (HCk.out _ HB.out).mono ?_
   rintro e w2 ⟨rfl,hb2⟩
   have HB2:=Lib.hid (HB.out.trans (hb2.mono hsz))
   clear hb2 q0
   cases hH : H k with
   | true =>
    have HE : Hid (∃ k,k < es.length ∧ H k = true):=⟨k,hlt,hH⟩
    go_wp2
    exact bodyPost_ret (v:=.int .i64 (k : Int)) (by simp [results,Tryz.results118,go_sem]) rfl ⟨⟨k,rfl,fun _ => HE.out,fun _ => by omega⟩,HB2.out⟩
   | false =>
    have HA2 : Hid (∀ j,j < k + 1 → H j = false):=fun j hj => by
     by_cases e : j = k
     ·rw [e]; exact hH
     ·exact HA.out j (by omega)
    go_wp2
    go_roundw
    case rel => exact ⟨k + 1,by omega,by simp,HA2.out,HB2.out⟩
    case measure => simp [intOf]; omega
  ·have hnlt : ¬ (k : Int) < (es.length : Int):=by omega
   have HE : Hid (¬ ∃ k,k < es.length ∧ H k = true):=fun ⟨j,hj,h⟩ => by rw [HA.out j (by omega)] at h; cases h
   go_wp2
   exact bodyPost_ret (v:=.int .i64 (-1)) (by simp [results,Tryz.results118,go_sem]) rfl ⟨⟨-1,rfl,fun h => absurd h (by decide),fun h => absurd h HE.out⟩,HB.out⟩

theorem con_wn (w : World) (a : Option Addr) (cap : Nat) (es : List Int) (x0 : Nat) (H : Nat → Bool) (hl : es.length ≤ 9223372036854775807) (hr : IRow w a es) (hC : ∀ k (h : k < es.length) w1,Below w.heap.size w w1 → Calls Tryz.prog 95 #[.int .i64 es[k],.pointer (some ⟨x0,0,none⟩)] w1 fun e w2 => e = .returned (.bool (H k)) ∧ Below w1.heap.size w1 w2) : Calls Tryz.prog 94 #[.slice a es.length cap,.func (.func 95) #[] #[.pointer (some ⟨x0,0,none⟩)]] w fun e w' => (∃ b : Bool,e = .returned (.bool b) ∧ (b = true ↔ ∃ k,k < es.length ∧ H k = true)) ∧ Below w.heap.size w w':=by
 have HI:=Lib.hid (idx_wn w a cap es x0 H hl hr hC)
 clear hl hr hC
 go_enter Tryz.func94,Tryz.ntmps94
 go_wp2_with fail
 refine HI.out.mono ?_
 rintro e w1 ⟨⟨i,rfl,hi⟩,hb⟩
 have HX:=Lib.hid hi
 have HB:=Lib.hid hb
 clear hi hb
 go_wp2
 exact bodyPost_ret (v:=.bool (decide (0 ≤ i))) (by simp [results,Tryz.results94,go_sem]) rfl ⟨⟨_,rfl,by rw [decide_eq_true_iff]; exact HX.out⟩,HB.out⟩

theorem within_wso (lo hi : Nat) (es : List So) (a : Option Addr) (c : Nat) (w : World) (h : OLR w es (.slice a es.length c)) : Calls Tryz.prog 63 #[.slice a es.length c,.int .i64 (lo : Int),.int .i64 (hi : Int),.func (.func 64) #[] #[]] w (EqPost (lo ≤ es.length ∧ es.length ≤ hi ∧ ∀ i (h : i < es.length),RtSo es[i]) w):=by
 obtain ⟨p1,q1,e1,_,hm1,hr1⟩:=h
 injection e1 with e11 _ e13
 subst e11 e13
 obtain ⟨Q,hQ⟩ : ∃ Q,(lo ≤ es.length ∧ es.length ≤ hi ∧ ∀ i (h : i < es.length),RtSo es[i]) = Q:=⟨_,rfl⟩
 have HQ:=Lib.hid hQ
 rw [hQ]
 clear hQ
 obtain ⟨W,hW⟩ : ∃ W,w.alloc (.cells #[.func (.func 64) #[] #[]] 91) = W:=⟨_,rfl⟩
 have hb : Below w.heap.size w W:=hW ▸ (Below.refl _ _).alloc (Nat.le_refl _) _
 have hr : W.heap[w.heap.size]? = some (.cells #[.func (.func 64) #[] #[]] 91 (0,0)):=hW ▸ heap_alloc_new w _
 have hd : W.cell? ⟨w.heap.size,0,none⟩ = some (.func (.func 64) #[] #[]):=by simp [World.cell?,hr]
 have HB:=Lib.hid hb
 clear hr
 have HC:=Lib.hid (con_wso W a c es w.heap.size (fun k => @decide (¬ ∀ (h : k < es.length),RtSo es[k]) (Classical.propDecidable _)) hm1 (hr1.later hb) fun k g w1 hb1 => ((not_wso w.heap.size es[k] w1 ((hb1.cell (World.block_lt_of_cell? _ _ hd)).trans hd)).mono fun _ _ h => (h.of (R:=¬ ∀ (h : k < es.length),RtSo es[k]) ⟨fun h q => h (q g),fun h q => h fun _ => q⟩).dec))
 clear hb hd hr1
 go_enter Tryz.func63,Tryz.ntmps63
 go_upto_region 1 with fail
 clear hW
 by_cases n1 : lo ≤ es.length
 rotate_left
 ·have d : ¬ (lo : Int) ≤ (es.length : Int):=by omega
  have HE : Hid (¬ Q):=HQ.out ▸ fun h => n1 h.1
  go_wp2
  exact bodyPost_ret (v:=.bool false) (by simp [results,Tryz.results63,go_sem]) rfl (eq_no HE.out HB.out)
 by_cases n2 : es.length ≤ hi
 rotate_left
 ·have d : ¬ (es.length : Int) ≤ (hi : Int):=by omega
  have d0 : (lo : Int) ≤ (es.length : Int):=by omega
  have HE : Hid (¬ Q):=HQ.out ▸ fun h => n2 h.2.1
  go_wp2
  exact bodyPost_ret (v:=.bool false) (by simp [results,Tryz.results63,go_sem]) rfl (eq_no HE.out HB.out)
 have d1 : (lo : Int) ≤ (es.length : Int):=by omega
 have d2 : (es.length : Int) ≤ (hi : Int):=by omega
 go_wp2_with fail
 refine HC.out.mono ?_
 rintro e w2 ⟨⟨b,rfl,hbb⟩,hb2⟩
 have HB2:=Hbt HB hb2
 have HE : Hid ((!b) = true ↔ Q):=Lib.hid (by
  rw [← HQ.out]
  have hbb2 : b = true ↔ ∃ k,k < es.length ∧ ¬ ∀ (h : k < es.length),RtSo es[k]:=by simpa using hbb
  constructor
  ·intro h
   refine ⟨n1,n2,fun i hi => ?_⟩
   apply Classical.byContradiction
   intro hn
   have:=hbb2.2 ⟨i,hi,fun k => hn (k hi)⟩
   rw [this] at h
   cases h
  ·rintro ⟨_,_,h⟩
   cases b with
   | false => rfl
   | true => obtain ⟨k,hk,hn⟩:=hbb2.1 rfl; exact absurd (fun _ => h k hk) hn)
 clear hb2 hbb
 go_wp2
 exact bodyPost_ret (v:=.bool (!b)) (by simp [results,Tryz.results63,go_sem]) rfl ⟨⟨_,rfl,HE.out⟩,HB2.out⟩

theorem within_wn (lo hi : Nat) (es : List Int) (a : Option Addr) (c : Nat) (w : World) (h : ILR w es (.slice a es.length c)) : Calls Tryz.prog 65 #[.slice a es.length c,.int .i64 (lo : Int),.int .i64 (hi : Int),.func (.func 66) #[] #[]] w (EqPost (lo ≤ es.length ∧ es.length ≤ hi ∧ ∀ i (h : i < es.length),RtN es[i]) w):=by
 obtain ⟨p1,q1,e1,_,hm1,hr1⟩:=h
 injection e1 with e11 _ e13
 subst e11 e13
 obtain ⟨Q,hQ⟩ : ∃ Q,(lo ≤ es.length ∧ es.length ≤ hi ∧ ∀ i (h : i < es.length),RtN es[i]) = Q:=⟨_,rfl⟩
 have HQ:=Lib.hid hQ
 rw [hQ]
 clear hQ
 obtain ⟨W,hW⟩ : ∃ W,w.alloc (.cells #[.func (.func 66) #[] #[]] 93) = W:=⟨_,rfl⟩
 have hb : Below w.heap.size w W:=hW ▸ (Below.refl _ _).alloc (Nat.le_refl _) _
 have hr : W.heap[w.heap.size]? = some (.cells #[.func (.func 66) #[] #[]] 93 (0,0)):=hW ▸ heap_alloc_new w _
 have hd : W.cell? ⟨w.heap.size,0,none⟩ = some (.func (.func 66) #[] #[]):=by simp [World.cell?,hr]
 have HB:=Lib.hid hb
 clear hr
 have HC:=Lib.hid (con_wn W a c es w.heap.size (fun k => @decide (¬ ∀ (h : k < es.length),RtN es[k]) (Classical.propDecidable _)) hm1 (hr1.later hb) fun k g w1 hb1 => ((not_wn w.heap.size es[k] w1 ((hb1.cell (World.block_lt_of_cell? _ _ hd)).trans hd)).mono fun _ _ h => (h.of (R:=¬ ∀ (h : k < es.length),RtN es[k]) ⟨fun h q => h (q g),fun h q => h fun _ => q⟩).dec))
 clear hb hd hr1
 go_enter Tryz.func65,Tryz.ntmps65
 go_upto_region 1 with fail
 clear hW
 by_cases n1 : lo ≤ es.length
 rotate_left
 ·have d : ¬ (lo : Int) ≤ (es.length : Int):=by omega
  have HE : Hid (¬ Q):=HQ.out ▸ fun h => n1 h.1
  go_wp2
  exact bodyPost_ret (v:=.bool false) (by simp [results,Tryz.results65,go_sem]) rfl (eq_no HE.out HB.out)
 by_cases n2 : es.length ≤ hi
 rotate_left
 ·have d : ¬ (es.length : Int) ≤ (hi : Int):=by omega
  have d0 : (lo : Int) ≤ (es.length : Int):=by omega
  have HE : Hid (¬ Q):=HQ.out ▸ fun h => n2 h.2.1
  go_wp2
  exact bodyPost_ret (v:=.bool false) (by simp [results,Tryz.results65,go_sem]) rfl (eq_no HE.out HB.out)
 have d1 : (lo : Int) ≤ (es.length : Int):=by omega
 have d2 : (es.length : Int) ≤ (hi : Int):=by omega
 go_wp2_with fail
 refine HC.out.mono ?_
 rintro e w2 ⟨⟨b,rfl,hbb⟩,hb2⟩
 have HB2:=Hbt HB hb2
 have HE : Hid ((!b) = true ↔ Q):=Lib.hid (by
  rw [← HQ.out]
  have hbb2 : b = true ↔ ∃ k,k < es.length ∧ ¬ ∀ (h : k < es.length),RtN es[k]:=by simpa using hbb
  constructor
  ·intro h
   refine ⟨n1,n2,fun i hi => ?_⟩
   apply Classical.byContradiction
   intro hn
   have:=hbb2.2 ⟨i,hi,fun k => hn (k hi)⟩
   rw [this] at h
   cases h
  ·rintro ⟨_,_,h⟩
   cases b with
   | false => rfl
   | true => obtain ⟨k,hk,hn⟩:=hbb2.1 rfl; exact absurd (fun _ => h k hk) hn)
 clear hb2 hbb
 go_wp2
 exact bodyPost_ret (v:=.bool (!b)) (by simp [results,Tryz.results65,go_sem]) rfl ⟨⟨_,rfl,HE.out⟩,HB2.out⟩

theorem rightSelect_any (t : St) (a0 a1 a2 a3 a4 a5 a6 : Option Addr) (c0 c1 c2 c3 c4 c5 c6 : Nat) (w : World) (h : StRA w t (.slice a0 t.on.length c0) (.slice a1 t.whr.length c1) (.slice a2 t.items.length c2) (.slice a3 t.sets.length c3) (.slice a4 t.groups.length c4) (.slice a5 t.sorts.length c5) (.slice a6 t.limit.length c6)) : Calls Tryz.prog 24 #[.agg #[.int .i64 t.kind,.string t.table,.string t.join,.slice a0 t.on.length c0,.slice a1 t.whr.length c1,.slice a2 t.items.length c2,.bool t.star,.slice a3 t.sets.length c3,.slice a4 t.groups.length c4,.slice a5 t.sorts.length c5,.slice a6 t.limit.length c6,.int .i64 t.place,.int .i64 t.joinAt]] w (EqPost (RtSel t) w):=by
 obtain ⟨Q,hQ⟩ : ∃ Q,RtSel t = Q:=⟨_,rfl⟩
 have HQ : Hid (Q ↔ RtSel t):=Lib.hid (hQ ▸ Iff.rfl)
 rw [hQ]
 clear hQ
 have HA:=Lib.hid h
 clear h
 obtain ⟨join_,ej⟩ : ∃ z,t.join = z:=⟨_,rfl⟩
 obtain ⟨star_,es⟩ : ∃ z,t.star = z:=⟨_,rfl⟩
 obtain ⟨z1,hz1⟩ : ∃ z,((t.items.length : Int) == 0) = z:=⟨_,rfl⟩
 obtain ⟨z3,hz3⟩ : ∃ z,((t.on.length : Int) == 0) = z:=⟨_,rfl⟩
 have HF : Hid (t.join = join_ ∧ t.star = star_):=⟨ej,es⟩
 have HZ1 : Hid (decide (t.items.length = 0) = z1):=Lib.hid (by rw [← hz1,Bool.eq_iff_iff]; simp)
 have HZ3 : Hid (decide (t.on.length = 0) = z3):=Lib.hid (by rw [← hz3,Bool.eq_iff_iff]; simp)
 rw [ej,es]
 clear ej es
 obtain ⟨W,hW⟩ : ∃ W,w.alloc (.cells #[.int .i64 t.kind,.string t.table,.string join_,.slice a0 t.on.length c0,.slice a1 t.whr.length c1,.slice a2 t.items.length c2,.bool star_,.slice a3 t.sets.length c3,.slice a4 t.groups.length c4,.slice a5 t.sorts.length c5,.slice a6 t.limit.length c6,.int .i64 t.place,.int .i64 t.joinAt] 27) = W:=⟨_,rfl⟩
 have hb : Below w.heap.size w W:=hW ▸ (Below.refl _ _).alloc (Nat.le_refl _) _
 have hr : W.heap[w.heap.size]? = some (.cells #[.int .i64 t.kind,.string t.table,.string join_,.slice a0 t.on.length c0,.slice a1 t.whr.length c1,.slice a2 t.items.length c2,.bool star_,.slice a3 t.sets.length c3,.slice a4 t.groups.length c4,.slice a5 t.sorts.length c5,.slice a6 t.limit.length c6,.int .i64 t.place,.int .i64 t.joinAt] 27 (0,0)):=hW ▸ heap_alloc_new w _
 have HB:=Lib.hid hb
 have RA:=Lib.hid hr
 clear hb hr
 go_enter Tryz.func24,Tryz.ntmps24
 obtain ⟨⟨s0,s1,s2,s3,s4,s5,s6,s7,s8,s9,s10,s11,s12⟩,-⟩:=thirt_of RA.out
 by_cases n : t.sets.length = 0
 rotate_left
 ·have d : ((t.sets.length : Int) == 0) = false:=by simpa using n
  have HE : Hid (¬ Q):=Lib.hid (fun h => n (HQ.out.1 h).sets)
  go_wp2
  exact bodyPost_ret (v:=.bool false) (by simp [results,Tryz.results24,go_sem]) rfl (eq_no HE.out HB.out)
 have d0 : ((t.sets.length : Int) == 0) = true:=by simpa using n
 have HN0:=Lib.hid n
 clear n
 by_cases n1 : star_ = z1
 rotate_left
 ·have HE : Hid (¬ Q):=Lib.hid (fun h => n1 (HF.out.2.symm.trans ((HQ.out.1 h).star.trans HZ1.out)))
  cases star_ <;> cases z1 <;> (first | exact absurd rfl n1 | (clear n1; go_wp2; exact bodyPost_ret (v:=.bool false) (by simp [results,Tryz.results24,go_sem]) rfl (eq_no HE.out HB.out)))
 subst n1
 have HN1 : Hid (t.star = decide (t.items.length = 0)):=Lib.hid (HF.out.2.trans HZ1.out.symm)
 go_wp2_with fail
 clear hW
 refine (within_rightItem RtI 0 8 t.items a2 c2 _ (HA.out.later HB.out).rd.items fun _ _ k W hx => rightItem_any _ k W hx).mono ?_
 rintro e w0 ⟨⟨b,rfl,hb⟩,hl⟩
 have HB0:=Hbt HB hl
 have HE0 : Hid (b = true ↔ Wi 0 8 RtI t.items):=hb
 have RA0:=Hbk hl RA
 clear hb hl
 cases b with
 | false =>
  have HE : Hid (¬ Q):=Lib.hid (fun h => absurd (HE0.out.2 (HQ.out.1 h).items) (by simp))
  go_wp2
  exact bodyPost_ret (v:=.bool false) (by simp [results,Tryz.results24,go_sem]) rfl (eq_no HE.out HB0.out)
 | true =>
  have HT0 : Hid (Wi 0 8 RtI t.items):=HE0.out.1 rfl
  clear HE0 s0 s1 s2 s3 s4 s5 s6 s7 s8 s9 s10 s11 s12
  obtain ⟨⟨s0,s1,s2,s3,s4,s5,s6,s7,s8,s9,s10,s11,s12⟩,-⟩:=thirt_of RA0.out
  go_wp2_with fail
  refine (nameOrNone_any join_ _).mono ?_
  rintro e w1 ⟨⟨b,rfl,hb⟩,hl⟩
  have HB1:=Hbt HB0 hl
  have HE1 : Hid (b = true ↔ join_ = ⟨#[]⟩ ∨ isName join_ = true):=hb
  have RA1:=Hbk hl RA0
  clear hb hl
  cases b with
  | false =>
   have HE : Hid (¬ Q):=Lib.hid (fun h => absurd (HE1.out.2 (HF.out.1 ▸ (HQ.out.1 h).join)) (by simp))
   go_wp2
   exact bodyPost_ret (v:=.bool false) (by simp [results,Tryz.results24,go_sem]) rfl (eq_no HE.out HB1.out)
  | true =>
   have HT1 : Hid (join_ = ⟨#[]⟩ ∨ isName join_ = true):=HE1.out.1 rfl
   clear HE1 s0 s1 s2 s3 s4 s5 s6 s7 s8 s9 s10 s11 s12
   obtain ⟨⟨s0,s1,s2,s3,s4,s5,s6,s7,s8,s9,s10,s11,s12⟩,-⟩:=thirt_of RA1.out
   by_cases hj : join_ = ⟨#[]⟩
   ·subst hj
    cases z3 with
    | false =>
     have HE : Hid (¬ Q):=Lib.hid (fun h => absurd ((HQ.out.1 h).jon.trans HZ3.out) (by rw [HF.out.1]; simp))
     go_wp2
     exact bodyPost_ret (v:=.bool false) (by simp [results,Tryz.results24,go_sem]) rfl (eq_no HE.out HB1.out)
    | true =>
     go_wp2_with fail
     refine (within_rightExpr RtE 0 1 t.on a0 c0 _ (HA.out.later HB1.out).rd.on fun _ _ k W hx => rightExpr_any _ k W hx).mono ?_
     rintro e w2 ⟨⟨b,rfl,hb⟩,hl⟩
     have HB2:=Hbt HB1 hl
     have HE2 : Hid (b = true ↔ Wi 0 1 RtE t.on):=hb
     have RA2:=Hbk hl RA1
     clear hb hl
     cases b with
     | false =>
      have HE : Hid (¬ Q):=Lib.hid (fun h => absurd (HE2.out.2 (HQ.out.1 h).on) (by simp))
      go_wp2
      exact bodyPost_ret (v:=.bool false) (by simp [results,Tryz.results24,go_sem]) rfl (eq_no HE.out HB2.out)
     | true =>
      have HT2 : Hid (Wi 0 1 RtE t.on):=HE2.out.1 rfl
      clear HE2 s0 s1 s2 s3 s4 s5 s6 s7 s8 s9 s10 s11 s12
      obtain ⟨⟨s0,s1,s2,s3,s4,s5,s6,s7,s8,s9,s10,s11,s12⟩,-⟩:=thirt_of RA2.out
      go_wp2_with fail
      refine (within_rightExpr RtE 0 1 t.whr a1 c1 _ (HA.out.later HB2.out).rd.whr fun _ _ k W hx => rightExpr_any _ k W hx).mono ?_
      rintro e w3 ⟨⟨b,rfl,hb⟩,hl⟩
      have HB3:=Hbt HB2 hl
      have HE3 : Hid (b = true ↔ Wi 0 1 RtE t.whr):=hb
      have RA3:=Hbk hl RA2
      clear hb hl
      cases b with
      | false =>
       have HE : Hid (¬ Q):=Lib.hid (fun h => absurd (HE3.out.2 (HQ.out.1 h).whr) (by simp))
       go_wp2
       exact bodyPost_ret (v:=.bool false) (by simp [results,Tryz.results24,go_sem]) rfl (eq_no HE.out HB3.out)
      | true =>
       have HT3 : Hid (Wi 0 1 RtE t.whr):=HE3.out.1 rfl
       clear HE3 s0 s1 s2 s3 s4 s5 s6 s7 s8 s9 s10 s11 s12
       obtain ⟨⟨s0,s1,s2,s3,s4,s5,s6,s7,s8,s9,s10,s11,s12⟩,-⟩:=thirt_of RA3.out
       go_wp2_with fail
       refine (within_rightColumn RtC 0 8 t.groups a4 c4 _ (HA.out.later HB3.out).rd.groups fun _ _ k W hx => rightColumn_any _ k W hx).mono ?_
       rintro e w4 ⟨⟨b,rfl,hb⟩,hl⟩
       have HB4:=Hbt HB3 hl
       have HE4 : Hid (b = true ↔ Wi 0 8 RtC t.groups):=hb
       have RA4:=Hbk hl RA3
       clear hb hl
       cases b with
       | false =>
        have HE : Hid (¬ Q):=Lib.hid (fun h => absurd (HE4.out.2 (HQ.out.1 h).groups) (by simp))
        go_wp2
        exact bodyPost_ret (v:=.bool false) (by simp [results,Tryz.results24,go_sem]) rfl (eq_no HE.out HB4.out)
       | true =>
        have HT4 : Hid (Wi 0 8 RtC t.groups):=HE4.out.1 rfl
        clear HE4 s0 s1 s2 s3 s4 s5 s6 s7 s8 s9 s10 s11 s12
        obtain ⟨⟨s0,s1,s2,s3,s4,s5,s6,s7,s8,s9,s10,s11,s12⟩,-⟩:=thirt_of RA4.out
        go_wp2_with fail
        refine (within_wso 0 8 t.sorts a5 c5 _ (HA.out.later HB4.out).sorts).mono ?_
        rintro e w5 ⟨⟨b,rfl,hb⟩,hl⟩
        have HB5:=Hbt HB4 hl
        have HE5 : Hid (b = true ↔ Wi 0 8 RtSo t.sorts):=hb
        have RA5:=Hbk hl RA4
        clear hb hl
        cases b with
        | false =>
         have HE : Hid (¬ Q):=Lib.hid (fun h => absurd (HE5.out.2 (HQ.out.1 h).sorts) (by simp))
         go_wp2
         exact bodyPost_ret (v:=.bool false) (by simp [results,Tryz.results24,go_sem]) rfl (eq_no HE.out HB5.out)
        | true =>
         have HT5 : Hid (Wi 0 8 RtSo t.sorts):=HE5.out.1 rfl
         clear HE5 s0 s1 s2 s3 s4 s5 s6 s7 s8 s9 s10 s11 s12
         obtain ⟨⟨s0,s1,s2,s3,s4,s5,s6,s7,s8,s9,s10,s11,s12⟩,-⟩:=thirt_of RA5.out
         go_wp2_with fail
         refine (within_wn 0 1 t.limit a6 c6 _ (HA.out.later HB5.out).limit).mono ?_
         rintro e w6 ⟨⟨b,rfl,hb⟩,hl⟩
         have HB6:=Hbt HB5 hl
         have HE6 : Hid (b = true ↔ Wi 0 1 RtN t.limit):=hb
         have RA6:=Hbk hl RA5
         clear hb hl
         cases b with
         | false =>
          have HE : Hid (¬ Q):=Lib.hid (fun h => absurd (HE6.out.2 (HQ.out.1 h).limit) (by simp))
          go_wp2
          exact bodyPost_ret (v:=.bool false) (by simp [results,Tryz.results24,go_sem]) rfl (eq_no HE.out HB6.out)
         | true =>
          have HT6 : Hid (Wi 0 1 RtN t.limit):=HE6.out.1 rfl
          clear HE6 s0 s1 s2 s3 s4 s5 s6 s7 s8 s9 s10 s11 s12
          obtain ⟨⟨s0,s1,s2,s3,s4,s5,s6,s7,s8,s9,s10,s11,s12⟩,-⟩:=thirt_of RA6.out
          have HE : Hid Q:=HQ.out.2 ⟨HN0.out,HN1.out,HT0.out,Or.inl HF.out.1,(by rw [HF.out.1,HZ3.out]; rfl),HT2.out,HT3.out,HT4.out,HT5.out,HT6.out⟩
          go_wp2
          exact bodyPost_ret (v:=.bool true) (by simp [results,Tryz.results24,go_sem]) rfl (eq_yes HE.out HB6.out)
   ·have dj:=not_nil hj
    have dj1:=dj.1
    have dj2:=dj.2
    have dj3:=str_ne hj
    have HJ:=Lib.hid hj
    clear dj hj
    cases z3 with
    | true =>
     have HE : Hid (¬ Q):=Lib.hid (fun h => absurd ((HQ.out.1 h).jon.trans HZ3.out) (by rw [HF.out.1]; simp [HJ.out]))
     go_wp2
     exact bodyPost_ret (v:=.bool false) (by simp [results,Tryz.results24,go_sem]) rfl (eq_no HE.out HB1.out)
    | false =>
     go_wp2_with fail
     refine (within_rightExpr RtE 0 1 t.on a0 c0 _ (HA.out.later HB1.out).rd.on fun _ _ k W hx => rightExpr_any _ k W hx).mono ?_
     rintro e w2 ⟨⟨b,rfl,hb⟩,hl⟩
     have HB2:=Hbt HB1 hl
     have HE2 : Hid (b = true ↔ Wi 0 1 RtE t.on):=hb
     have RA2:=Hbk hl RA1
     clear hb hl
     cases b with
     | false =>
      have HE : Hid (¬ Q):=Lib.hid (fun h => absurd (HE2.out.2 (HQ.out.1 h).on) (by simp))
      go_wp2
      exact bodyPost_ret (v:=.bool false) (by simp [results,Tryz.results24,go_sem]) rfl (eq_no HE.out HB2.out)
     | true =>
      have HT2 : Hid (Wi 0 1 RtE t.on):=HE2.out.1 rfl
      clear HE2 s0 s1 s2 s3 s4 s5 s6 s7 s8 s9 s10 s11 s12
      obtain ⟨⟨s0,s1,s2,s3,s4,s5,s6,s7,s8,s9,s10,s11,s12⟩,-⟩:=thirt_of RA2.out
      go_wp2_with fail
      refine (within_rightExpr RtE 0 1 t.whr a1 c1 _ (HA.out.later HB2.out).rd.whr fun _ _ k W hx => rightExpr_any _ k W hx).mono ?_
      rintro e w3 ⟨⟨b,rfl,hb⟩,hl⟩
      have HB3:=Hbt HB2 hl
      have HE3 : Hid (b = true ↔ Wi 0 1 RtE t.whr):=hb
      have RA3:=Hbk hl RA2
      clear hb hl
      cases b with
      | false =>
       have HE : Hid (¬ Q):=Lib.hid (fun h => absurd (HE3.out.2 (HQ.out.1 h).whr) (by simp))
       go_wp2
       exact bodyPost_ret (v:=.bool false) (by simp [results,Tryz.results24,go_sem]) rfl (eq_no HE.out HB3.out)
      | true =>
       have HT3 : Hid (Wi 0 1 RtE t.whr):=HE3.out.1 rfl
       clear HE3 s0 s1 s2 s3 s4 s5 s6 s7 s8 s9 s10 s11 s12
       obtain ⟨⟨s0,s1,s2,s3,s4,s5,s6,s7,s8,s9,s10,s11,s12⟩,-⟩:=thirt_of RA3.out
       go_wp2_with fail
       refine (within_rightColumn RtC 0 8 t.groups a4 c4 _ (HA.out.later HB3.out).rd.groups fun _ _ k W hx => rightColumn_any _ k W hx).mono ?_
       rintro e w4 ⟨⟨b,rfl,hb⟩,hl⟩
       have HB4:=Hbt HB3 hl
       have HE4 : Hid (b = true ↔ Wi 0 8 RtC t.groups):=hb
       have RA4:=Hbk hl RA3
       clear hb hl
       cases b with
       | false =>
        have HE : Hid (¬ Q):=Lib.hid (fun h => absurd (HE4.out.2 (HQ.out.1 h).groups) (by simp))
        go_wp2
        exact bodyPost_ret (v:=.bool false) (by simp [results,Tryz.results24,go_sem]) rfl (eq_no HE.out HB4.out)
       | true =>
        have HT4 : Hid (Wi 0 8 RtC t.groups):=HE4.out.1 rfl
        clear HE4 s0 s1 s2 s3 s4 s5 s6 s7 s8 s9 s10 s11 s12
        obtain ⟨⟨s0,s1,s2,s3,s4,s5,s6,s7,s8,s9,s10,s11,s12⟩,-⟩:=thirt_of RA4.out
        go_wp2_with fail
        refine (within_wso 0 8 t.sorts a5 c5 _ (HA.out.later HB4.out).sorts).mono ?_
        rintro e w5 ⟨⟨b,rfl,hb⟩,hl⟩
        have HB5:=Hbt HB4 hl
        have HE5 : Hid (b = true ↔ Wi 0 8 RtSo t.sorts):=hb
        have RA5:=Hbk hl RA4
        clear hb hl
        cases b with
        | false =>
         have HE : Hid (¬ Q):=Lib.hid (fun h => absurd (HE5.out.2 (HQ.out.1 h).sorts) (by simp))
         go_wp2
         exact bodyPost_ret (v:=.bool false) (by simp [results,Tryz.results24,go_sem]) rfl (eq_no HE.out HB5.out)
        | true =>
         have HT5 : Hid (Wi 0 8 RtSo t.sorts):=HE5.out.1 rfl
         clear HE5 s0 s1 s2 s3 s4 s5 s6 s7 s8 s9 s10 s11 s12
         obtain ⟨⟨s0,s1,s2,s3,s4,s5,s6,s7,s8,s9,s10,s11,s12⟩,-⟩:=thirt_of RA5.out
         go_wp2_with fail
         refine (within_wn 0 1 t.limit a6 c6 _ (HA.out.later HB5.out).limit).mono ?_
         rintro e w6 ⟨⟨b,rfl,hb⟩,hl⟩
         have HB6:=Hbt HB5 hl
         have HE6 : Hid (b = true ↔ Wi 0 1 RtN t.limit):=hb
         have RA6:=Hbk hl RA5
         clear hb hl
         cases b with
         | false =>
          have HE : Hid (¬ Q):=Lib.hid (fun h => absurd (HE6.out.2 (HQ.out.1 h).limit) (by simp))
          go_wp2
          exact bodyPost_ret (v:=.bool false) (by simp [results,Tryz.results24,go_sem]) rfl (eq_no HE.out HB6.out)
         | true =>
          have HT6 : Hid (Wi 0 1 RtN t.limit):=HE6.out.1 rfl
          clear HE6 s0 s1 s2 s3 s4 s5 s6 s7 s8 s9 s10 s11 s12
          obtain ⟨⟨s0,s1,s2,s3,s4,s5,s6,s7,s8,s9,s10,s11,s12⟩,-⟩:=thirt_of RA6.out
          have HE : Hid Q:=HQ.out.2 ⟨HN0.out,HN1.out,HT0.out,HF.out.1 ▸ HT1.out,(by rw [HF.out.1,HZ3.out]; exact decide_eq_false HJ.out),HT2.out,HT3.out,HT4.out,HT5.out,HT6.out⟩
          go_wp2
          exact bodyPost_ret (v:=.bool true) (by simp [results,Tryz.results24,go_sem]) rfl (eq_yes HE.out HB6.out)

theorem XLR.nil (w : World) : XLR w [] (.slice none 0 0):=⟨none,0,[],rfl,Nat.le_refl _,Nat.zero_le _,rfl,fun _ h => absurd h (Nat.not_lt_zero _),fun _ h => absurd h (Nat.not_lt_zero _)⟩

theorem SLR.nil (w : World) : SLR w [] (.slice none 0 0):=⟨none,0,[],rfl,Nat.le_refl _,Nat.zero_le _,rfl,fun _ h => absurd h (Nat.not_lt_zero _),fun _ h => absurd h (Nat.not_lt_zero _)⟩

theorem OLR.nil (w : World) : OLR w [] (.slice none 0 0):=⟨none,0,rfl,Nat.le_refl _,Nat.zero_le _,fun _ h => absurd h (Nat.not_lt_zero _)⟩

theorem ILR.nil (w : World) : ILR w [] (.slice none 0 0):=⟨none,0,rfl,Nat.le_refl _,Nat.zero_le _,fun _ h => absurd h (Nat.not_lt_zero _)⟩

theorem synRight_any (t : St) (a0 a1 a2 a3 a4 a5 a6 : Option Addr) (c0 c1 c2 c3 c4 c5 c6 : Nat) (w : World) (h : StRA w t (.slice a0 t.on.length c0) (.slice a1 t.whr.length c1) (.slice a2 t.items.length c2) (.slice a3 t.sets.length c3) (.slice a4 t.groups.length c4) (.slice a5 t.sorts.length c5) (.slice a6 t.limit.length c6)) : Calls Tryz.prog 10 #[.agg #[.int .i64 t.kind,.string t.table,.string t.join,.slice a0 t.on.length c0,.slice a1 t.whr.length c1,.slice a2 t.items.length c2,.bool t.star,.slice a3 t.sets.length c3,.slice a4 t.groups.length c4,.slice a5 t.sorts.length c5,.slice a6 t.limit.length c6,.int .i64 t.place,.int .i64 t.joinAt]] w (EqPost (RtSt t) w):=by
 obtain ⟨Q,hQ⟩ : ∃ Q,RtSt t = Q:=⟨_,rfl⟩
 have HQ : Hid (Q ↔ RtSt t):=Lib.hid (hQ ▸ Iff.rfl)
 rw [hQ]
 clear hQ
 have HA:=Lib.hid h
 clear h
 obtain ⟨W,hW⟩ : ∃ W,w.alloc (.cells #[.int .i64 t.kind,.string t.table,.string t.join,.slice a0 t.on.length c0,.slice a1 t.whr.length c1,.slice a2 t.items.length c2,.bool t.star,.slice a3 t.sets.length c3,.slice a4 t.groups.length c4,.slice a5 t.sorts.length c5,.slice a6 t.limit.length c6,.int .i64 t.place,.int .i64 t.joinAt] 27) = W:=⟨_,rfl⟩
 have hb : Below w.heap.size w W:=hW ▸ (Below.refl _ _).alloc (Nat.le_refl _) _
 have hr : W.heap[w.heap.size]? = some (.cells #[.int .i64 t.kind,.string t.table,.string t.join,.slice a0 t.on.length c0,.slice a1 t.whr.length c1,.slice a2 t.items.length c2,.bool t.star,.slice a3 t.sets.length c3,.slice a4 t.groups.length c4,.slice a5 t.sorts.length c5,.slice a6 t.limit.length c6,.int .i64 t.place,.int .i64 t.joinAt] 27 (0,0)):=hW ▸ heap_alloc_new w _
 have HB:=Lib.hid hb
 have RA:=Lib.hid hr
 clear hb hr
 go_enter Tryz.func10,Tryz.ntmps10
 obtain ⟨⟨s0,s1,s2,s3,s4,s5,s6,s7,s8,s9,s10,s11,s12⟩,-⟩:=thirt_of RA.out
 go_wp2_with fail
 clear hW
 refine (deep_any t a0 a1 a2 a3 a4 a5 a6 c0 c1 c2 c3 c4 c5 c6 _ (HA.out.later HB.out).rd).mono ?_
 rintro e w0 ⟨rfl,hl⟩
 have HB0:=Hbt HB hl
 have RA0:=Hbk hl RA
 clear hl s0 s1 s2 s3 s4 s5 s6 s7 s8 s9 s10 s11 s12
 obtain ⟨⟨s0,s1,s2,s3,s4,s5,s6,s7,s8,s9,s10,s11,s12⟩,-⟩:=thirt_of RA0.out
 cases hd : deepS t with
 | true =>
  have HE : Hid (¬ Q):=Lib.hid (fun h => absurd ((HQ.out.1 h).1.symm.trans hd) (by simp))
  go_wp2
  exact bodyPost_ret (v:=.bool false) (by simp [results,Tryz.results10,go_sem]) rfl (eq_no HE.out HB0.out)
 | false =>
  have HD:=Lib.hid hd
  clear hd
  go_wp2_with fail
  refine (isName_any t.table _).mono ?_
  rintro e w' ⟨rfl,hw⟩
  replace hw:=hw.symm
  subst hw
  cases hn : isName t.table with
  | false =>
   have HE : Hid (¬ Q):=Lib.hid (fun h => absurd ((HQ.out.1 h).2.1.symm.trans hn) (by simp))
   go_wp2
   exact bodyPost_ret (v:=.bool false) (by simp [results,Tryz.results10,go_sem]) rfl (eq_no HE.out HB0.out)
  | true =>
   have HN:=Lib.hid hn
   clear hn
   have HK : Hid (Q ↔ ((t.kind = 1 ∧ SmSt t { st0 with kind:=t.kind,table:=t.table,items:=t.items } ∧ Wi 1 16 RtE t.items) ∨ (t.kind = 2 ∧ SmSt t { st0 with kind:=t.kind,table:=t.table,sets:=t.sets,whr:=t.whr } ∧ Wi 1 16 RtSe t.sets ∧ Wi 0 1 RtE t.whr) ∨ (t.kind = 3 ∧ SmSt t { st0 with kind:=t.kind,table:=t.table,whr:=t.whr } ∧ Wi 0 1 RtE t.whr) ∨ (t.kind = 4 ∧ RtSel t))):=Lib.hid (HQ.out.trans ⟨fun h => h.2.2,fun h => ⟨HD.out,HN.out,h⟩⟩)
   by_cases q1 : t.kind = 1
   ·have d1 : (t.kind == 1) = true:=by simpa using q1
    have HKI:=Lib.hid q1
    clear q1
    have HP : Hid (Q ↔ SmSt t { st0 with kind:=t.kind,table:=t.table,items:=t.items } ∧ Wi 1 16 RtE t.items):=Lib.hid (HK.out.trans ⟨fun h => by
      rcases h with ⟨e,h⟩ | ⟨e,h⟩ | ⟨e,h⟩ | ⟨e,h⟩ <;> first | exact h | (rw [HKI.out] at e; exact absurd e (by decide)),
     fun h => Or.inl ⟨HKI.out,h⟩⟩)
    go_wp2_with fail
    refine (same_st t { st0 with kind:=t.kind,table:=t.table,items:=t.items } a0 a1 a2 a3 a4 a5 a6 none none a2 none none none none c0 c1 c2 c3 c4 c5 c6 0 0 c2 0 0 0 0 _ (HA.out.later HB0.out) ⟨⟨XLR.nil _,XLR.nil _,(HA.out.later HB0.out).rd.items,SLR.nil _,XLR.nil _⟩,OLR.nil _,ILR.nil _⟩).mono ?_
    rintro e w1 ⟨⟨b,rfl,hb⟩,hl⟩
    have HB1:=Hbt HB0 hl
    have HE1 : Hid (b = true ↔ SmSt t { st0 with kind:=t.kind,table:=t.table,items:=t.items }):=hb
    have RA1:=Hbk hl RA0
    clear hb hl
    cases b with
    | false =>
     have HE : Hid (¬ Q):=Lib.hid (fun h => absurd (HE1.out.2 (HP.out.1 h).1) (by simp))
     go_wp2
     exact bodyPost_ret (v:=.bool false) (by simp [results,Tryz.results10,go_sem]) rfl (eq_no HE.out HB1.out)
    | true =>
     have HT1 : Hid (SmSt t { st0 with kind:=t.kind,table:=t.table,items:=t.items }):=HE1.out.1 rfl
     clear HE1 s0 s1 s2 s3 s4 s5 s6 s7 s8 s9 s10 s11 s12
     obtain ⟨⟨s0,s1,s2,s3,s4,s5,s6,s7,s8,s9,s10,s11,s12⟩,-⟩:=thirt_of RA1.out
     go_wp2_with fail
     refine (within_rightExpr RtE 1 16 t.items a2 c2 _ (HA.out.later HB1.out).rd.items fun _ _ k W hx => rightExpr_any _ k W hx).mono ?_
     rintro e w2 ⟨⟨b,rfl,hb⟩,hl⟩
     have HB2:=Hbt HB1 hl
     have HE2 : Hid (b = true ↔ Wi 1 16 RtE t.items):=hb
     have RA2:=Hbk hl RA1
     clear hb hl
     cases b with
     | false =>
      have HE : Hid (¬ Q):=Lib.hid (fun h => absurd (HE2.out.2 (HP.out.1 h).2) (by simp))
      go_wp2
      exact bodyPost_ret (v:=.bool false) (by simp [results,Tryz.results10,go_sem]) rfl (eq_no HE.out HB2.out)
     | true =>
      have HT2 : Hid (Wi 1 16 RtE t.items):=HE2.out.1 rfl
      clear HE2 s0 s1 s2 s3 s4 s5 s6 s7 s8 s9 s10 s11 s12
      obtain ⟨⟨s0,s1,s2,s3,s4,s5,s6,s7,s8,s9,s10,s11,s12⟩,-⟩:=thirt_of RA2.out
      have HE : Hid Q:=HP.out.2 ⟨HT1.out,HT2.out⟩
      go_wp2
      exact bodyPost_ret (v:=.bool true) (by simp [results,Tryz.results10,go_sem]) rfl (eq_yes HE.out HB2.out)
   have e1 : (t.kind == 1) = false:=by simpa using q1
   have Q1:=Lib.hid q1
   clear q1
   by_cases q2 : t.kind = 2
   ·have d2 : (t.kind == 2) = true:=by simpa using q2
    have HKI:=Lib.hid q2
    clear q2
    have HP : Hid (Q ↔ SmSt t { st0 with kind:=t.kind,table:=t.table,sets:=t.sets,whr:=t.whr } ∧ Wi 1 16 RtSe t.sets ∧ Wi 0 1 RtE t.whr):=Lib.hid (HK.out.trans ⟨fun h => by
      rcases h with ⟨e,h⟩ | ⟨e,h⟩ | ⟨e,h⟩ | ⟨e,h⟩ <;> first | exact h | (rw [HKI.out] at e; exact absurd e (by decide)),
     fun h => Or.inr (Or.inl ⟨HKI.out,h⟩)⟩)
    go_wp2_with fail
    refine (same_st t { st0 with kind:=t.kind,table:=t.table,sets:=t.sets,whr:=t.whr } a0 a1 a2 a3 a4 a5 a6 none a1 none a3 none none none c0 c1 c2 c3 c4 c5 c6 0 c1 0 c3 0 0 0 _ (HA.out.later HB0.out) ⟨⟨XLR.nil _,(HA.out.later HB0.out).rd.whr,XLR.nil _,(HA.out.later HB0.out).rd.sets,XLR.nil _⟩,OLR.nil _,ILR.nil _⟩).mono ?_
    rintro e w1 ⟨⟨b,rfl,hb⟩,hl⟩
    have HB1:=Hbt HB0 hl
    have HE1 : Hid (b = true ↔ SmSt t { st0 with kind:=t.kind,table:=t.table,sets:=t.sets,whr:=t.whr }):=hb
    have RA1:=Hbk hl RA0
    clear hb hl
    cases b with
    | false =>
     have HE : Hid (¬ Q):=Lib.hid (fun h => absurd (HE1.out.2 (HP.out.1 h).1) (by simp))
     go_wp2
     exact bodyPost_ret (v:=.bool false) (by simp [results,Tryz.results10,go_sem]) rfl (eq_no HE.out HB1.out)
    | true =>
     have HT1 : Hid (SmSt t { st0 with kind:=t.kind,table:=t.table,sets:=t.sets,whr:=t.whr }):=HE1.out.1 rfl
     clear HE1 s0 s1 s2 s3 s4 s5 s6 s7 s8 s9 s10 s11 s12
     obtain ⟨⟨s0,s1,s2,s3,s4,s5,s6,s7,s8,s9,s10,s11,s12⟩,-⟩:=thirt_of RA1.out
     go_wp2_with fail
     refine (within_rightSet 1 16 t.sets a3 c3 _ (HA.out.later HB1.out).rd.sets).mono ?_
     rintro e w2 ⟨⟨b,rfl,hb⟩,hl⟩
     have HB2:=Hbt HB1 hl
     have HE2 : Hid (b = true ↔ Wi 1 16 RtSe t.sets):=hb
     have RA2:=Hbk hl RA1
     clear hb hl
     cases b with
     | false =>
      have HE : Hid (¬ Q):=Lib.hid (fun h => absurd (HE2.out.2 (HP.out.1 h).2.1) (by simp))
      go_wp2
      exact bodyPost_ret (v:=.bool false) (by simp [results,Tryz.results10,go_sem]) rfl (eq_no HE.out HB2.out)
     | true =>
      have HT2 : Hid (Wi 1 16 RtSe t.sets):=HE2.out.1 rfl
      clear HE2 s0 s1 s2 s3 s4 s5 s6 s7 s8 s9 s10 s11 s12
      obtain ⟨⟨s0,s1,s2,s3,s4,s5,s6,s7,s8,s9,s10,s11,s12⟩,-⟩:=thirt_of RA2.out
      go_wp2_with fail
      refine (within_rightExpr RtE 0 1 t.whr a1 c1 _ (HA.out.later HB2.out).rd.whr fun _ _ k W hx => rightExpr_any _ k W hx).mono ?_
      rintro e w3 ⟨⟨b,rfl,hb⟩,hl⟩
      have HB3:=Hbt HB2 hl
      have HE3 : Hid (b = true ↔ Wi 0 1 RtE t.whr):=hb
      have RA3:=Hbk hl RA2
      clear hb hl
      cases b with
      | false =>
       have HE : Hid (¬ Q):=Lib.hid (fun h => absurd (HE3.out.2 (HP.out.1 h).2.2) (by simp))
       go_wp2
       exact bodyPost_ret (v:=.bool false) (by simp [results,Tryz.results10,go_sem]) rfl (eq_no HE.out HB3.out)
      | true =>
       have HT3 : Hid (Wi 0 1 RtE t.whr):=HE3.out.1 rfl
       clear HE3 s0 s1 s2 s3 s4 s5 s6 s7 s8 s9 s10 s11 s12
       obtain ⟨⟨s0,s1,s2,s3,s4,s5,s6,s7,s8,s9,s10,s11,s12⟩,-⟩:=thirt_of RA3.out
       have HE : Hid Q:=HP.out.2 ⟨HT1.out,HT2.out,HT3.out⟩
       go_wp2
       exact bodyPost_ret (v:=.bool true) (by simp [results,Tryz.results10,go_sem]) rfl (eq_yes HE.out HB3.out)
   have e2 : (t.kind == 2) = false:=by simpa using q2
   have Q2:=Lib.hid q2
   clear q2
   by_cases q3 : t.kind = 3
   ·have d3 : (t.kind == 3) = true:=by simpa using q3
    have HKI:=Lib.hid q3
    clear q3
    have HP : Hid (Q ↔ SmSt t { st0 with kind:=t.kind,table:=t.table,whr:=t.whr } ∧ Wi 0 1 RtE t.whr):=Lib.hid (HK.out.trans ⟨fun h => by
      rcases h with ⟨e,h⟩ | ⟨e,h⟩ | ⟨e,h⟩ | ⟨e,h⟩ <;> first | exact h | (rw [HKI.out] at e; exact absurd e (by decide)),
     fun h => Or.inr (Or.inr (Or.inl ⟨HKI.out,h⟩))⟩)
    go_wp2_with fail
    refine (same_st t { st0 with kind:=t.kind,table:=t.table,whr:=t.whr } a0 a1 a2 a3 a4 a5 a6 none a1 none none none none none c0 c1 c2 c3 c4 c5 c6 0 c1 0 0 0 0 0 _ (HA.out.later HB0.out) ⟨⟨XLR.nil _,(HA.out.later HB0.out).rd.whr,XLR.nil _,SLR.nil _,XLR.nil _⟩,OLR.nil _,ILR.nil _⟩).mono ?_
    rintro e w1 ⟨⟨b,rfl,hb⟩,hl⟩
    have HB1:=Hbt HB0 hl
    have HE1 : Hid (b = true ↔ SmSt t { st0 with kind:=t.kind,table:=t.table,whr:=t.whr }):=hb
    have RA1:=Hbk hl RA0
    clear hb hl
    cases b with
    | false =>
     have HE : Hid (¬ Q):=Lib.hid (fun h => absurd (HE1.out.2 (HP.out.1 h).1) (by simp))
     go_wp2
     exact bodyPost_ret (v:=.bool false) (by simp [results,Tryz.results10,go_sem]) rfl (eq_no HE.out HB1.out)
    | true =>
     have HT1 : Hid (SmSt t { st0 with kind:=t.kind,table:=t.table,whr:=t.whr }):=HE1.out.1 rfl
     clear HE1 s0 s1 s2 s3 s4 s5 s6 s7 s8 s9 s10 s11 s12
     obtain ⟨⟨s0,s1,s2,s3,s4,s5,s6,s7,s8,s9,s10,s11,s12⟩,-⟩:=thirt_of RA1.out
     go_wp2_with fail
     refine (within_rightExpr RtE 0 1 t.whr a1 c1 _ (HA.out.later HB1.out).rd.whr fun _ _ k W hx => rightExpr_any _ k W hx).mono ?_
     rintro e w2 ⟨⟨b,rfl,hb⟩,hl⟩
     have HB2:=Hbt HB1 hl
     have HE2 : Hid (b = true ↔ Wi 0 1 RtE t.whr):=hb
     have RA2:=Hbk hl RA1
     clear hb hl
     cases b with
     | false =>
      have HE : Hid (¬ Q):=Lib.hid (fun h => absurd (HE2.out.2 (HP.out.1 h).2) (by simp))
      go_wp2
      exact bodyPost_ret (v:=.bool false) (by simp [results,Tryz.results10,go_sem]) rfl (eq_no HE.out HB2.out)
     | true =>
      have HT2 : Hid (Wi 0 1 RtE t.whr):=HE2.out.1 rfl
      clear HE2 s0 s1 s2 s3 s4 s5 s6 s7 s8 s9 s10 s11 s12
      obtain ⟨⟨s0,s1,s2,s3,s4,s5,s6,s7,s8,s9,s10,s11,s12⟩,-⟩:=thirt_of RA2.out
      have HE : Hid Q:=HP.out.2 ⟨HT1.out,HT2.out⟩
      go_wp2
      exact bodyPost_ret (v:=.bool true) (by simp [results,Tryz.results10,go_sem]) rfl (eq_yes HE.out HB2.out)
   have e3 : (t.kind == 3) = false:=by simpa using q3
   have Q3:=Lib.hid q3
   clear q3
   by_cases q4 : t.kind = 4
   ·have d4 : (t.kind == 4) = true:=by simpa using q4
    have HKI:=Lib.hid q4
    clear q4
    have HP : Hid (Q ↔ RtSel t):=Lib.hid (HK.out.trans ⟨fun h => by
      rcases h with ⟨e,h⟩ | ⟨e,h⟩ | ⟨e,h⟩ | ⟨e,h⟩ <;> first | exact h | (rw [HKI.out] at e; exact absurd e (by decide)),
     fun h => Or.inr (Or.inr (Or.inr ⟨HKI.out,h⟩))⟩)
    go_wp2_with fail
    refine (rightSelect_any t a0 a1 a2 a3 a4 a5 a6 c0 c1 c2 c3 c4 c5 c6 _ (HA.out.later HB0.out)).mono ?_
    rintro e w1 ⟨⟨b,rfl,hb⟩,hl⟩
    have HB1:=Hbt HB0 hl
    have HE:=Lib.hid (hb.trans HP.out.symm)
    clear hb hl
    go_wp2
    exact bodyPost_ret (v:=.bool b) (by simp [results,Tryz.results10,go_sem]) rfl ⟨⟨b,rfl,HE.out⟩,HB1.out⟩
   have e4 : (t.kind == 4) = false:=by simpa using q4
   have HE : Hid (¬ Q):=Lib.hid (fun h => by
    rcases HK.out.1 h with ⟨e,_⟩ | ⟨e,_⟩ | ⟨e,_⟩ | ⟨e,_⟩ <;> first | exact Q1.out e | exact Q2.out e | exact Q3.out e | exact q4 e)
   clear q4
   go_wp2
   exact bodyPost_ret (v:=.bool false) (by simp [results,Tryz.results10,go_sem]) rfl (eq_no HE.out HB0.out)

theorem fault_ne {s : ByteArray} {c p : Int} (h : ParseIs s (.fault c p)) : c ≠ 0:=by
 obtain ⟨l,q,c',_,h⟩:=h
 rcases h with ⟨h,e⟩ | ⟨_,r,_,e⟩
 ·injection e with e _
  rw [e]
  exact h
 ·cases r with
  | bad q =>
   injection e with e _
   rw [e]
   decide
  | ok t s1 =>
   rw [outOf] at e
   by_cases c1 : (semi s1).hd.1.1 = 1
   ·rw [if_pos c1] at e
    by_cases c2 : (semi s1).code = 0
    ·rw [if_pos c2] at e
     split at e
     ·injection e with e _; rw [e]; decide
     ·cases e
    ·rw [if_neg c2] at e
     injection e with e _
     rw [e]
     exact c2
   ·rw [if_neg c1] at e
    injection e with e _
    rw [e]
    decide

theorem parse_all {s : ByteArray} {w w' : World} {e : Ending} (h : ParseP s w e w') : ∃ fc fp t v o,e = .returned (.tuple #[v,.agg #[.int .i64 fc,.int .i64 fp]]) ∧ StV w' w.heap.size t v ∧ Below w.heap.size w w' ∧ ParseIs s o ∧ ((fc ≠ 0 ∧ t = st0 ∧ o = .fault fc fp) ∨ (fc = 0 ∧ fp = 0 ∧ o = .st t)):=by
 obtain ⟨o,ho,hb,hm⟩:=h
 cases o with
 | fault c p =>
  obtain ⟨v,he,hv⟩:=hm
  exact ⟨c,p,st0,v,_,he,hv,hb,ho,Or.inl ⟨fault_ne ho,rfl,rfl⟩⟩
 | st t =>
  obtain ⟨v,he,hv⟩:=hm
  exact ⟨0,0,t,v,_,he,hv,hb,ho,Or.inr ⟨rfl,rfl,rfl⟩⟩
end Go.Proofs.YtbfjmccpcbhljaaGreatDoor
