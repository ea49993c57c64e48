/- O25 O42 -/
import Derived.Test.YtmmmkjhpmlfopaaGreatDoorSB38
set_option maxHeartbeats 16000000
set_option maxRecDepth 100000
namespace Go.Proofs.YtmmmkjhpmlfopaaGreatDoor
open Go.RowKit
section
open Go.RowKit Go.Maps BB
theorem idx_misfits {B : Nat} {Z : Nat → Prop} (w : World) (D : TD) (rs : List Row3) (a : Option Addr) (cap : Nat) (L : List Row3) (hT : Tab w B Z D rs) (hrow : RowsIn w a L) (hL : L.length ≤ 2147483648) :
  Calls Tryz.prog 111 #[.slice a L.length cap,.func (.func 59) #[.pointer (some ⟨D.r,0,none⟩)] #[]] w fun e w' => Below w.heap.size w w' ∧ ∃ i : Int,e = .returned (.int .i64 i) ∧ (0 ≤ i ↔ ∃ r ∈ L,¬ fitR D.t r):=by
 have HT:=Hd hT
 have HR:=Hd hrow
 clear hT hrow
 go_enter Tryz.func111,Tryz.ntmps111
 go_wp2
 go_loopw [8] (fun q wr => ∃ k : Nat,k ≤ L.length ∧ q = .int .i64 (k : Int) ∧ (∀ i (h : i < L.length),i < k → ¬ ¬ fitR D.t L[i]) ∧ Below w.heap.size w wr) (fun q _ => L.length - (intOf q).toNat)
 case atStart => exact ⟨0,Nat.zero_le _,rfl,fun i _ h => absurd h (Nat.not_lt_zero _),Bxr _ _⟩
 case round =>
  obtain ⟨k,hk,rfl,hno,hb⟩:=hrel
  have HNO:=Hd hno
  have HB:=Hd hb
  clear hno
  by_cases hlt : k < L.length
  ·have hlti : (k : Int) < (L.length : Int):=by omega
   obtain ⟨b,off,p,cp,rfl,d0,hrk⟩:=(HR.out.later hb) k hlt
   obtain ⟨r,hrr⟩:=Vx (L[k])
   have HRR:=Hd hrr
   rw [hrr] at d0 hrk
   have HC:=Hd (misfits_any wr D p cp r (HT.out.fix.now.later hb) hrk HT.out.tr.cols.2)
   clear hrk hrr hb
   go_wp2_with fail
   refine HC.out.mono ?_
   rintro e w3 ⟨hb3,mb,rfl,hmb⟩
   have HMB:=Hd hmb
   have HB3:=Hbt HB hb3
   clear hmb hb3
   cases mb with
   | true =>
    go_wp2
    go_ret
    exact ⟨HB3.out,(k : Int),rfl,fun _ => ⟨r,by rw [← HRR.out]; exact List.getElem_mem hlt,HMB.out.1 (by first | rfl | trivial)⟩,fun _ => by omega⟩
   | false =>
    go_wp2
    go_roundw
    case rel => exact ⟨k + 1,by omega,by go_num,fun i h hi => by
     rcases Nat.lt_succ_iff_lt_or_eq.1 hi with g | g
     ·exact HNO.out i h g
     ·subst g
      rw [HRR.out]
      exact fun q => absurd (HMB.out.2 q) Si,HB3.out⟩
    case measure => simp [intOf]; omega
  ·have hlti : ¬ (k : Int) < (L.length : Int):=by omega
   clear hb
   go_wp2
   go_ret
   refine ⟨HB.out,-1,rfl,fun h => by omega,fun ⟨r,hr,h0⟩ => ?_⟩
   obtain ⟨j,hj,rfl⟩:=List.getElem_of_mem hr
   exact absurd h0 (HNO.out j hj Om)
theorem con_misfits {B : Nat} {Z : Nat → Prop} (w : World) (D : TD) (rs : List Row3) (a : Option Addr) (cap : Nat) (L : List Row3) (hT : Tab w B Z D rs) (hrow : RowsIn w a L) (hL : L.length ≤ 2147483648) :
  Calls Tryz.prog 62 #[.slice a L.length cap,.func (.func 59) #[.pointer (some ⟨D.r,0,none⟩)] #[]] w fun e w' => Below w.heap.size w w' ∧ BoolP (∃ r ∈ L,¬ fitR D.t r) e:=by
 have HI:=Hd (idx_misfits w D rs a cap L hT hrow hL)
 clear hT hrow
 go_enter Tryz.func62,Tryz.ntmps62
 go_wp2_with (go_at_call 111; refine HI.out.mono ?_; rintro e w' ⟨hb,i,rfl,hi⟩; have HX:=Hd hi; have HB:=Hd hb; clear hi hb)
 exact bodyPost_ret (v:=.bool (decide (0 ≤ i))) (by simp [results,Tryz.results62,go_sem]) rfl ⟨HB.out,_,rfl,by rw [decide_eq_true_iff]; exact HX.out⟩
theorem idx_lacks {B : Nat} {Z : Nat → Prop} (w : World) (D : TD) (rs : List Row3) (a : Option Addr) (cap : Nat) (L : List Row3) (hT : Tab w B Z D rs) (hrow : RowsIn w a L) (hr : ∀ r ∈ L,fitR D.t r) (hL : L.length ≤ 2147483648) :
  Calls Tryz.prog 111 #[.slice a L.length cap,.func (.func 63) #[.pointer (some ⟨D.r,0,none⟩)] #[]] w fun e w' => Below w.heap.size w w' ∧ ∃ i : Int,e = .returned (.int .i64 i) ∧ (0 ≤ i ↔ ∃ r ∈ L,lackR D.t r):=by
 have HT:=Hd hT
 have HR:=Hd hrow
 have HF:=Hd hr
 clear hT hrow hr
 go_enter Tryz.func111,Tryz.ntmps111
 go_wp2
 go_loopw [8] (fun q wr => ∃ k : Nat,k ≤ L.length ∧ q = .int .i64 (k : Int) ∧ (∀ i (h : i < L.length),i < k → ¬ lackR D.t L[i]) ∧ Below w.heap.size w wr) (fun q _ => L.length - (intOf q).toNat)
 case atStart => exact ⟨0,Nat.zero_le _,rfl,fun i _ h => absurd h (Nat.not_lt_zero _),Bxr _ _⟩
 case round =>
  obtain ⟨k,hk,rfl,hno,hb⟩:=hrel
  have HNO:=Hd hno
  have HB:=Hd hb
  clear hno
  by_cases hlt : k < L.length
  ·have hlti : (k : Int) < (L.length : Int):=by omega
   obtain ⟨b,off,p,cp,rfl,d0,hrk⟩:=(HR.out.later hb) k hlt
   obtain ⟨r,hrr⟩:=Vx (L[k])
   have HRR:=Hd hrr
   rw [hrr] at d0 hrk
   have HC:=Hd (lacks_any wr D p cp r (HT.out.fix.now.later hb) hrk (HF.out r (by rw [← HRR.out]; exact List.getElem_mem hlt)).1 ((HF.out r (by rw [← HRR.out]; exact List.getElem_mem hlt)).len HT.out.tr).2)
   clear hrk hrr hb
   go_wp2_with fail
   refine HC.out.mono ?_
   rintro e w3 ⟨hb3,mb,rfl,hmb⟩
   have HMB:=Hd hmb
   have HB3:=Hbt HB hb3
   clear hmb hb3
   cases mb with
   | true =>
    go_wp2
    go_ret
    exact ⟨HB3.out,(k : Int),rfl,fun _ => ⟨r,by rw [← HRR.out]; exact List.getElem_mem hlt,HMB.out.1 (by first | rfl | trivial)⟩,fun _ => by omega⟩
   | false =>
    go_wp2
    go_roundw
    case rel => exact ⟨k + 1,by omega,by go_num,fun i h hi => by
     rcases Nat.lt_succ_iff_lt_or_eq.1 hi with g | g
     ·exact HNO.out i h g
     ·subst g
      rw [HRR.out]
      exact fun q => absurd (HMB.out.2 q) Si,HB3.out⟩
    case measure => simp [intOf]; omega
  ·have hlti : ¬ (k : Int) < (L.length : Int):=by omega
   clear hb
   go_wp2
   go_ret
   refine ⟨HB.out,-1,rfl,fun h => by omega,fun ⟨r,hr,h0⟩ => ?_⟩
   obtain ⟨j,hj,rfl⟩:=List.getElem_of_mem hr
   exact absurd h0 (HNO.out j hj Om)
theorem con_lacks {B : Nat} {Z : Nat → Prop} (w : World) (D : TD) (rs : List Row3) (a : Option Addr) (cap : Nat) (L : List Row3) (hT : Tab w B Z D rs) (hrow : RowsIn w a L) (hr : ∀ r ∈ L,fitR D.t r) (hL : L.length ≤ 2147483648) :
  Calls Tryz.prog 62 #[.slice a L.length cap,.func (.func 63) #[.pointer (some ⟨D.r,0,none⟩)] #[]] w fun e w' => Below w.heap.size w w' ∧ BoolP (∃ r ∈ L,lackR D.t r) e:=by
 have HI:=Hd (idx_lacks w D rs a cap L hT hrow hr hL)
 clear hT hrow
 go_enter Tryz.func62,Tryz.ntmps62
 go_wp2_with (go_at_call 111; refine HI.out.mono ?_; rintro e w' ⟨hb,i,rfl,hi⟩; have HX:=Hd hi; have HB:=Hd hb; clear hi hb)
 exact bodyPost_ret (v:=.bool (decide (0 ≤ i))) (by simp [results,Tryz.results62,go_sem]) rfl ⟨HB.out,_,rfl,by rw [decide_eq_true_iff]; exact HX.out⟩
def ComeP (D : TD) (rs : List Row3) (ks : List (List UInt8)) (L : List Row3) (n : Int) : Prop :=
 ((∃ r ∈ L,¬ fitR D.t r) ∧ n = 1) ∨ ((∀ r ∈ L,fitR D.t r) ∧ (((∃ r ∈ L,lackR D.t r) ∧ n = 90) ∨ ((∀ r ∈ L,¬ lackR D.t r) ∧ ((clashT D rs ks L ∧ n = 91) ∨ (¬ clashT D rs ks L ∧ n = 0)))))
theorem mayCome_any {B C : Nat} {Z : Nat → Prop} (w : World) (D : TD) (rs : List Row3) (a : Option Addr) (cap : Nat) (L : List Row3) (m : Option Nat) (ks : List (List UInt8)) (hT : Tab w B Z D rs) (hm : Env w C) (hrow : RowsIn w a L) (hL : L.length ≤ 2147483648)
  (hG : ∀ (W : World) (s : ByteArray),Below w.heap.size w W → s.size ≤ 2400 → Calls Tryz.prog 109 #[.map m,.string s] W fun e w' => e = .returned (.bool (decide (TT.bs s ∈ ks))) ∧ Below W.heap.size W w') :
  Calls Tryz.prog 34 #[.pointer (some ⟨D.r,0,none⟩),.slice a L.length cap,.map m] w fun e w' => Below w.heap.size w w' ∧ ∃ n : Int,e = .returned (.int .i64 n) ∧ ComeP D rs ks L n:=by
 have HT:=Hd hT
 have HM:=Hd hm
 have HR:=Hd hrow
 have HG:=Hd hG
 have HC1:=Hd (con_misfits w D rs a cap L hT hrow Om)
 clear hT hm hrow hG
 go_enter Tryz.func34,Tryz.ntmps34
 go_wp2_with fail
 refine HC1.out.mono ?_
 rintro e w1 ⟨hb1,c1,rfl,hc1⟩
 have HB1:=Hd hb1
 have HI1:=Hd hc1
 clear hb1 hc1
 cases c1 with
 | true =>
  go_wp2
  go_ret
  exact ⟨HB1.out,1,rfl,.inl ⟨HI1.out.1 (by first | rfl | trivial),rfl⟩⟩
 | false =>
  have HF : Hid (∀ r ∈ L,fitR D.t r):=Hd fun r hr => Classical.byContradiction fun h => absurd (HI1.out.2 ⟨r,hr,h⟩) Si
  have HC2:=Hd (con_lacks w1 D rs a cap L (HT.out.later HB1.out) (HR.out.later HB1.out) HF.out Om)
  go_wp2_with fail
  refine HC2.out.mono ?_
  rintro e w2 ⟨hb2,c2,rfl,hc2⟩
  have HB2:=Hbt HB1 hb2
  have HI2:=Hd hc2
  clear hb2 hc2
  cases c2 with
  | true =>
   go_wp2
   go_ret
   exact ⟨HB2.out,90,rfl,.inr ⟨HF.out,.inl ⟨HI2.out.1 (by first | rfl | trivial),rfl⟩⟩⟩
  | false =>
   have HN : Hid (∀ r ∈ L,¬ lackR D.t r):=Hd fun r hr h => absurd (HI2.out.2 ⟨r,hr,h⟩) Si
   have HC3:=Hd (clash_any (B:=B) (C:=C) w2 D rs a cap L m ks (HT.out.later HB2.out) (HM.out.later HB2.out HM.out.le) (HR.out.later HB2.out) HF.out hL fun W s hW hs => HG.out W s (HB2.out.trans (hW.mono HB2.out.size)) hs)
   go_wp2_with fail
   refine HC3.out.mono ?_
   rintro e w3 ⟨hb3,c3,rfl,hc3⟩
   have HB3:=Hbt HB2 hb3
   have HI3:=Hd hc3
   clear hb3 hc3
   cases c3 with
   | true =>
    go_wp2
    go_ret
    exact ⟨HB3.out,91,rfl,.inr ⟨HF.out,.inr ⟨HN.out,.inl ⟨HI3.out.1 (by first | rfl | trivial),rfl⟩⟩⟩⟩
   | false =>
    go_wp2
    go_ret
    exact ⟨HB3.out,0,rfl,.inr ⟨HF.out,.inr ⟨HN.out,.inr ⟨fun h => absurd (HI3.out.2 h) Si,rfl⟩⟩⟩⟩
end
section
open Go.RowKit BB
theorem Tryz.infoRow1 : (Tryz.prog.info? 26).map (fun i => (i.zero,i.size,i.bytes)) = some (some (.slice none 0 0),1,24):=by kernel_rfl
theorem Tryz.infoStroke : (Tryz.prog.info? 100).map (fun i => (i.zero,i.size,i.bytes)) = some (some (.agg #[.int .i64 0,.slice none 0 0,.slice none 0 0]),3,56):=by kernel_rfl
theorem row_keep {w W : World} {B : Nat} {T : Nat → Prop} {p : Option Addr} {c : Nat} {vs : List V3} (h : w.ownsRow B 73 3 (.slice p vs.length c) vs.length (vc vs)) (hW : Only T w W) (ht : ∀ g,(Value.slice p vs.length c).ownBlock = some g → ¬ T g) : Row W p vs:=by
 obtain ⟨p',c',e,hr⟩:=Row.of_own (own_kept h fun g hg => hW.block g (h.lt g hg).2 (ht g hg))
 cases e
 exact hr
def MayCh (on : Prop) (L : TabL) (i : Int) (out inn : List Row3) (n : Int) : Prop :=
 (n = 1 ∧ (¬ on ∨ (∀ j : Nat,j < L.length → i ≠ (j : Int)))) ∨ ∃ (j : Nat) (D : TD) (rs : List Row3),on ∧ i = (j : Int) ∧ L[j]? = some (D,rs) ∧ ((n = 1 ∧ ¬ ∀ k,k < out.length → leavesAt D rs out k) ∨ ((∀ k,k < out.length → leavesAt D rs out k) ∧ ComeP D rs (namesL D.t out) inn n))
def ChangeP (B : Nat) (T U A : Nat → Prop) (k s : Nat) (l : Int) (en : Bool) (c : TT.Ct) (P : Nat) (tv : Value) (ld : Int) (L : TabL) (S : List Strk) (i : Int) (out inn : List Row3) (w : World) (e : Ending) (w' : World) : Prop :=
 ∃ n : Int,e = .returned (.int .i64 n) ∧ MayCh (en = false ∧ l = ld) L i out inn n ∧ ((n ≠ 0 ∧ Below w.heap.size w w') ∨ (n = 0 ∧ ∃ (j : Nat) (D : TD) (rs tk : List Row3) (T' A' : Nat → Prop) (dv' t' b' : Value),i = (j : Int) ∧ L[j]? = some (D,rs) ∧ MatchK D.t rs (keysL D.t out) tk ∧ StM w' B T' U s c P tv ld (L.set j (D,putKs D.t inn (dropKs D.t (keysL D.t out) rs))) ∧ WkM w' B A' k s l en dv' (S ++ [⟨j,tk,keysL D.t inn,t',b'⟩]) ∧ Only (fun q => T q ∨ A q) w w' ∧ (∀ q,T' q → T q ∨ w.heap.size ≤ q) ∧ (∀ q,A' q → A q ∨ w.heap.size ≤ q) ∧ ∀ q,A' q → ¬ T' q))
theorem change9_any {B C : Nat} {T U A : Nat → Prop} (w : World) (k s : Nat) (l : Int) (en : Bool) (dv : Value) (c : TT.Ct) (P : Nat) (tv : Value) (ld : Int) (L : TabL) (S : List Strk) (hk : WkM w B A k s l en dv S) (h : StM w B T U s c P tv ld L) (hm : Env w C) (hCB : C ≤ B) (hz : ∀ q,A q → ¬ T q ∧ ¬ U q ∧ q ≠ s ∧ tv.ownBlock ≠ some q) (i : Int) (ao ai : Option Addr) (co ci : Nat) (out inn : List Row3) (ho : ∀ W,Only T w W → RowsIn W ao out) (ps : Nat → Option Addr × Nat) (hi : ∀ W,Only T w W → RowsPs W ai inn ps) (hlo : out.length ≤ 2147483648) (hli : inn.length ≤ 2147483648) (hcnt : ∀ (j : Nat) (D : TD) (rs : List Row3),L[j]? = some (D,rs) → rs.length + inn.length ≤ 3000000000) (hS : S.length ≤ 3000000000) :
  Calls Tryz.prog 11 #[.pointer (some ⟨k,0,none⟩),.int .i64 i,.slice ao out.length co,.slice ai inn.length ci] w (ChangeP B T U A k s l en c P tv ld L S i out inn w):=by
 obtain ⟨i2,hi2,hx0,hx1,hx2⟩:=info_parts Tryz.infoRow1
 obtain ⟨i3,hi3,hy0,hy1,hy2⟩:=info_parts Tryz.infoStroke
 have HTB:=Hd (wtable9_any w k s l en dv c P tv ld L hk.blk h i)
 have HS:=Hd h
 have HK:=Hd hk
 have HM:=Hd (Zai hm hCB)
 have HZ:=Hd hz
 have HO:=Hd ho
 have HI:=Hd hi
 have HCN:=Hd (Zai hcnt hS)
 clear hk h hm hCB hz ho hi hcnt hS
 obtain ⟨no,hno⟩:=Vx out.length
 obtain ⟨ni,hni⟩:=Vx inn.length
 have HNO:=Hd (Zai hno hni)
 rw [hno,hni]
 rw [hno] at hlo
 rw [hni] at hli
 clear hno hni
 go_enter Tryz.func11,Tryz.ntmps11
 go_wp2_with fail
 refine HTB.out.mono ?_
 rintro e w1 ⟨ht,hb1⟩
 have HB1:=Hd hb1
 rcases ht with ⟨hov,rfl⟩ | ⟨hon,⟨j,x,hx,rfl,rfl⟩ | ⟨hn,rfl⟩⟩
 ·clear hb1
  go_wp2
  go_ret
  exact ⟨1,rfl,Or.inl ⟨rfl,Or.inl fun a => by
   rcases hov with e | e
   ·rw [a.1] at e
    cases e
   ·exact e a.2⟩,Or.inl ⟨by decide,HB1.out⟩⟩
 ·obtain ⟨D,rs⟩:=x
  obtain ⟨Z1,hT,-⟩:=HS.out.tab hx
  have HX:=Hd (Zai hon hx)
  have HT:=Hd (hT.later hb1)
  have HM1:=Hd (HM.out.1.later hb1 HM.out.1.le)
  have HLV:=Hd (leaving_any w1 D rs ao co out HT.out HM1.out (HO.out w1 (Only.of hb1)) (by rw [HNO.out.1]; exact hlo))
  clear hb1 hT hon hx
  rw [HNO.out.1] at HLV
  unfold ptr9
  go_wp2_with fail
  refine HLV.out.mono ?_
  rintro e w2 ⟨hb2,⟨hlv,bm,rfl,hset,hbm⟩ | ⟨hlv,rfl⟩⟩
  ·have HB2:=Hbt HB1 hb2
   have HLA:=Hd hlv
   have HSE:=Hd hset
   have HMC:=Hd (mayCome_any w2 D rs ai ci inn (some bm) (namesL D.t out) (HT.out.later hb2) (HM1.out.later hb2 HM1.out.le) (HI.out w2 (Only.of HB2.out)).rows (by rw [HNO.out.2]; exact hli) fun W x hW hx => has_any x W bm _ (HSE.out.later hW) Om)
   rw [HNO.out.2] at HMC
   clear hb2 hlv hset
   go_wp2_with fail
   refine HMC.out.mono ?_
   rintro e w3 ⟨hb3,n,rfl,hco⟩
   have HB3:=Hbt HB2 hb3
   have HCO:=Hd hco
   by_cases hn0 : n = 0
   ·subst hn0
    clear hb3 hco
    have s3:=HB3.out.size
    obtain ⟨W0,hW0⟩:=Vx (w3.alloc (Obj.cells #[.int .i64 (j : Int),.slice none 0 0,.slice none 0 0] 100))
    have hb0 : Below w3.heap.size w3 W0:=by rw [← hW0]; exact (Bxr _ _).alloc Zlr _
    have k0 : W0.heap[w3.heap.size]? = some (.cells #[.int .i64 (j : Int),.slice none 0 0,.slice none 0 0] 100 (0,0)):=by
     rw [← hW0]
     exact heap_alloc_new w3 _
    have hs0 : W0.heap.size = w3.heap.size + 1:=by rw [← hW0]; simp
    have HK0:=Hd (Zai k0 (Zai hb0 hs0))
    have HW0:=Hd hW0
    clear k0 hb0 hs0 hW0
    go_wp2
    try rw [HW0.out]
    clear HW0
    have hst0:=HK0.out
    have HS3:=Hd (HS.out.later HB3.out)
    have hU3 : Hid (∀ q,U q ∨ q = s ∨ tv.ownBlock = some q → q < w3.heap.size):=Hd fun q hq => by
     rcases hq with e | e | e
     ·exact (HS3.out.tabs.un q e).1
     ·rw [e]
      exact (Gx HS3.out.blk)
     ·exact (HS3.out.row.lt q e).2
    have hlj : Hid (j < L.length):=Hd (List.getElem?_eq_some_iff.1 HX.out.2).1
    have HRO : Hid (∀ W,Only T w3 W → RowsIn W ao out):=Hd fun W hW => HO.out W (only_below HB3.out hW)
    have HRI : Hid (∀ W,Only T w3 W → RowsPs W ai inn ps):=Hd fun W hW => HI.out W (only_below HB3.out hW)
    have HM3:=Hd (HM.out.1.later HB3.out HM.out.1.le)
    go_loopw [45] (fun q wr => ∃ (m : Nat) (Tr A1 : Nat → Prop) (tk : List Row3) (u : Value),m ≤ no ∧ q = .int .i64 (m : Int) ∧ wr.heap[w3.heap.size]? = some (.cells #[.int .i64 (j : Int),u,.slice none 0 0] 100 (0,0)) ∧ StM wr B Tr U s c P tv ld (L.set j (D,dropKs D.t (keysL D.t (out.take m)) rs)) ∧ Only T w3 wr ∧ (∀ q,Tr q → T q ∨ w3.heap.size ≤ q) ∧ RowsA wr w3.heap.size A1 u tk ∧ (∀ q,A1 q ∨ q = w3.heap.size → ¬ Tr q) ∧ MatchK D.t rs (keysL D.t (out.take m)) tk ∧ ∀ q,A1 q → q ≠ w3.heap.size) (fun q _ => no - (intOf q).toNat)
    case atStart =>
     refine ⟨0,T,fun _ => False,[],_,Nat.zero_le _,rfl,hst0.1,?_,Only.of hst0.2.1,fun _ q => Or.inl q,RowsA.nil _ _,fun q hq ht => ?_,⟨rfl,fun _ h => absurd h (Nat.not_lt_zero _)⟩,fun _ h => h.elim⟩
     ·rw [show keysL D.t (out.take 0) = [] from rfl,dropKs_nil,set_self HX.out.2]
      exact HS3.out.later hst0.2.1
     ·rcases hq with hq | hq
      ·exact hq
      ·have:=(HS3.out.tabs.lo q ht).2
       omega
    case round =>
     obtain ⟨m,Tr,A1,tk,u,hmn,rfl,hNk,hS,hOn,hTr,hRA,hAT,hMK,hAN⟩:=hrel
     by_cases hlt : m < no
     ·have hlti : (m : Int) < (no : Int):=by omega
      have hmo : m < out.length:=by rw [HNO.out.1]; exact hlt
      have hszr:=hOn.size
      obtain ⟨us,r1,r2,r3,r4,r5⟩:=hRA.own
      obtain ⟨pu,cu,rfl⟩:=ownF r2
      have htl : tk.length = m:=by
       rw [hMK.1]
       unfold keysL
       simp
       omega
      rw [htl] at r2 hNk r4
      obtain ⟨b,off,p,cap,rfl,hcl,hrw⟩:=(HRO.out wr hOn) m hmo
      obtain ⟨_,hfit,hnm,hq0⟩:=HLA.out m hmo
      have hkm:=keysL_snoc (t:=D.t) hmo
      obtain ⟨r,hr⟩:=Vx (out[m])
      rw [hr] at hcl hrw hfit hnm hq0 hkm
      have HR : Hid (pick3 r D.t.key = pick3 out[m] D.t.key):=Hd (by rw [hr])
      have hlL : (L.set j (D,dropKs D.t (keysL D.t (out.take m)) rs))[j]? = some (D,dropKs D.t (keysL D.t (out.take m)) rs):=by
       rw [List.getElem?_set_self hlj.out]
      obtain ⟨Zr,hTr9',-⟩:=hS.tab hlL
      have hTr9 : Tab wr B Zr D (dropKs D.t (keysL D.t (out.take m)) rs):=hTr9'
      clear hTr9'
      have hmr : Env wr C:=HM3.out.only hOn HM.out.2 HS3.out.tabs.lo
      have HKO : Hid (∀ V : World,Below wr.heap.size wr V → V.heap.size = wr.heap.size → Calls Tryz.prog 36 #[.pointer (some ⟨D.r,0,none⟩),.slice p r.length cap] V fun e w' => ∃ p8 c8,e = .returned (.slice p8 (pick3 r D.t.key).length c8) ∧ w'.ownsRow wr.heap.size 73 3 (.slice p8 (pick3 r D.t.key).length c8) (pick3 r D.t.key).length (vc (pick3 r D.t.key)) ∧ Below wr.heap.size wr w'):=Hd fun V hV hVs => by
       refine (keyOf_any V D p cap r (hTr9.fix.now.later hV) hTr9.tr (hrw.later hV) hfit.1).mono ?_
       rintro e w' ⟨hb,v,rfl,hown⟩
       rw [← pick3_length r D.t.key] at hown
       obtain ⟨p8,c8,rfl,-⟩:=Row.of_own hown
       rw [hVs] at hown hb
       exact ⟨p8,c8,rfl,hown,hV.trans hb⟩
      have HDR : Hid (∀ (V : World) (p8 : Option Addr) (c8 : Nat),Below wr.heap.size wr V → V.ownsRow wr.heap.size 73 3 (.slice p8 (pick3 r D.t.key).length c8) (pick3 r D.t.key).length (vc (pick3 r D.t.key)) → Calls Tryz.prog 35 #[.pointer (some ⟨D.r,0,none⟩),.slice p8 (pick3 r D.t.key).length c8] V fun e w' => ∃ (p9 : Option Addr) (c9 : Nat) (T2 : Nat → Prop) (q' : Row3),e = .returned (.slice p9 q'.length c9) ∧ q' ∈ rs ∧ pick3 q' D.t.key = pick3 r D.t.key ∧ w'.ownsRow V.heap.size 73 3 (.slice p9 q'.length c9) q'.length (vc q') ∧ Only Tr V w' ∧ StM w' B T2 U s c P tv ld (L.set j (D,dropKs D.t (keysL D.t (out.take (m + 1))) rs)) ∧ (∀ q,T2 q → Tr q ∨ V.heap.size ≤ q) ∧ ∀ g,(Value.slice p9 q'.length c9).ownBlock = some g → ¬ T2 g):=Hd fun V p8 c8 hV hown => by
       refine (drop_st V s c P tv ld _ (hS.later hV) (hmr.later hV hmr.le) HM.out.2 j D _ hlL p8 c8 (pick3 r D.t.key) (fun W hW => row_keep hown hW fun g hg ht => by
        have h1:=(hown.lt g hg).1
        have h2:=(hS.tabs.lo g ht).2
        omega) (by rw [pick3_length]; have:=hTr9.tr.key.2.1; omega)).mono ?_
       rintro e w' ⟨v,T2,rfl,⟨q',hq',hqk,hvo⟩ | ⟨hno,-⟩,h1,h2,h3,h4⟩
       ·obtain ⟨p9,c9,rfl⟩:=ownF hvo
        rw [List.set_set,dropKs_snoc,← hkm] at h2
        exact ⟨p9,c9,T2,q',rfl,(mem_dropKs.1 hq').1,hqk,hvo,h1,h2,h3,h4⟩
       ·obtain ⟨q,hq,hqe⟩:=hq0
        refine absurd hqe (hno q (mem_dropKs.2 ⟨hq,fun l hl e => hnm ?_⟩))
        unfold keysL at hl
        obtain ⟨y,hy,rfl⟩:=List.mem_map.1 hl
        unfold namesL
        refine List.mem_map.2 ⟨y,hy,?_⟩
        unfold nmR
        rw [← hqe,e]
      have HA:=Hd (Zai hNk (Zai r2 (Zai r4 hAT)))
      have HB:=Hd (Zai hOn (Zai hTr (Zai htl (Zai r1 (Zai r3 (Zai r5 hRA.lo))))))
      have HMK:=Hd (Zai hMK hAN)
      have e1 : wr.cell? ⟨w3.heap.size,1,none⟩ = some (.slice pu m cu):=cell_blk hNk rfl
      have l1:=cell_lt e1
      clear hNk hS hOn hTr hRA hAT hMK hAN r1 r2 r3 r4 r5 htl hrw hfit hnm hq0 hkm hr hlL hTr9 hmr
      go_wp2_with fail
      go_region_law (first
       | (go_simp; go_at_call 36; refine (HKO.out _ Bz (by first | rfl | simp)).mono ?_; rintro e w4 ⟨p8,c8,rfl,ho8,hb4⟩; (have HB4:=Hd hb4); (have HO8:=Hd ho8); (have j4:=heap_of HA.out.1 hb4); (have g1 : w4.cell? ⟨w3.heap.size,1,none⟩ = some (.slice pu m cu):=cell_blk j4 rfl); (have s4:=hb4.size); clear hb4 ho8 j4)
       | (go_simp; go_at_call 35; refine (HDR.out _ _ _ HB4.out HO8.out).mono ?_; rintro e w5 ⟨p9,c9,T2,q',rfl,hq1,hq2,ho5,hOn5,hS5,hT5,hv5⟩; (have HD5:=Hd (Zai hq1 (Zai hq2 (Zai ho5 (Zai hOn5 (Zai hS5 (Zai hT5 hv5))))))); (have s5:=hOn5.size); (have j5 : w5.heap[w3.heap.size]? = _:=(hOn5.block _ Om (HA.out.2.2.2 _ (Or.inr rfl))).trans (heap_of HA.out.1 HB4.out)); (have HJ5:=Hd j5); (have z1 : w5.cell? ⟨w3.heap.size,1,none⟩ = some (.slice pu m cu):=cell_blk j5 rfl); (have n1 : w3.heap.size ≠ w5.heap.size:=by omega); (have n2 : w3.heap.size < w5.heap.size:=by omega); clear hq1 hq2 ho5 hOn5 hS5 hT5 hv5 j5)
       | (refine step_append_lies _ rfl _ _ 27 rfl w3.heap.size 26 i2 _ 1 24 Tryz.underlying27 hi2 hx0 hx1 hx2 rfl (by decide) (.slice pu m cu) m us rfl ((own_kept (own_later9 HA.out.2.1 HB4.out) fun g hg => HD5.out.2.2.2.1.block g (Nat.lt_of_lt_of_le (HA.out.2.1.lt g hg).2 s4) (HA.out.2.2.2 g (Or.inl (HA.out.2.2.1 g hg)))).alloc _) ⟨w5.heap.size,0,none⟩ 1 1 [.slice p9 q'.length c9] rfl rfl (World.news_of_block (heap_alloc_new w5 _)) (by intro x hx; rw [List.mem_singleton.1 hx]; rfl) (by decide) (by unfold maxLen; omega) Om (by simp; omega) _ rfl ?_; intro g cap' w6 hown6 hgrow6 hor6 hlt6; (have HX6:=Hd (And.intro hown6 (And.intro hgrow6 hor6))); (have j6 : w6.heap[w3.heap.size]? = _:=(hgrow6.block _ (by simp; omega) (fun e => own_ne HA.out.2.1 HA.out.1 (by decide) e.symm)).trans ((alloc_low9 n2).trans HJ5.out)); (have z6 : w6.cell? ⟨w3.heap.size,1,none⟩ = some (.slice pu m cu):=cell_blk j6 rfl); (have y6 : w6.frozen? ⟨w3.heap.size,1,none⟩ = false:=froz_blk j6); clear hown6 hgrow6 hor6 j6))
      all_goals
       have hstep:=grow_step (w0:=w3) (N:=w3.heap.size) (f:=1) (x:=.slice (some ⟨g,0,none⟩) (m + 1) cap') (u':=.slice (some ⟨g,0,none⟩) (m + 1) cap') Zlr hU3.out HB.out.1 HB.out.2.1 HB.out.2.2.1 HB.out.2.2.2.1 HA.out.2.1 HB.out.2.2.2.2.1 HA.out.2.2.1 HB.out.2.2.2.2.2.1 HB.out.2.2.2.2.2.2 HA.out.2.2.2 HA.out.1 HB4.out HD5.out.2.2.2.1 HD5.out.2.2.2.2.1 HD5.out.2.2.2.2.2.1 HD5.out.2.2.1 HD5.out.2.2.2.2.2.2 HX6.out.2.1 HX6.out.1 (HX6.out.2.2.imp (fun e => e.symm) fun e => by rw [e]; rfl)
       have hmk : MatchK D.t rs (keysL D.t (out.take (m + 1))) (tk ++ [q']):=by
        rw [keysL_snoc hmo]
        exact HMK.out.1.snoc HD5.out.1 (HD5.out.2.1.trans HR.out)
       have HST:=Hd (Zai hstep hmk)
       clear hstep hmk z6 y6
       go_wp2
       go_roundw
       case rel =>
        obtain ⟨⟨t1,t2,t3,⟨A',t4,t5,t8⟩,-,t6⟩,t7⟩:=HST.out
        refine ⟨m + 1,T2,A',tk ++ [q'],_,by omega,by go_num,?_,t1,t2,t3,t4,t5,t7,fun q hq => (t8 q hq).elim (HMK.out.2 q) fun e => by omega⟩
        have:=TT.heap_setCell_at (i:=1) t6 (.slice (some ⟨g,0,none⟩) (m + 1) cap')
        simpa using this
       case measure => simp [intOf]; omega
     ·have hlti : ¬ (m : Int) < (no : Int):=by omega
      obtain rfl : m = no:=by omega
      have htk : out.take m = out:=by rw [← HNO.out.1,List.take_length]
      rw [htk] at hS hMK
      obtain ⟨rs1,hrs1⟩:=Vx (dropKs D.t (keysL D.t out) rs)
      have HRS:=Hd hrs1
      rw [hrs1] at hS
      have HFI : Hid (∀ r ∈ inn,fitR D.t r):=Hd (by
       rcases HCO.out with ⟨_,e⟩ | ⟨hf,_⟩
       ·exact absurd e (by decide)
       ·exact hf)
      have HC1 : Hid (rs1.length + inn.length ≤ 3000000000):=Hd (by
       have h1:=HCN.out.1 j D rs HX.out.2
       have h2:=dropKs_len D.t (keysL D.t out) rs
       rw [hrs1] at h2
       omega)
      have HA1:=Hd (Zai hRA (Zai hMK (Zai hAN hAT)))
      have HW1:=Hd (Zai hS (Zai hOn hTr))
      have HNk:=Hd hNk
      clear hNk hS hOn hTr hRA hAT hMK hAN htk hrs1
      go_wp2
      go_loopw [62] (fun q wq => ∃ (z : Nat) (Ts A2 : Nat → Prop) (u2 : Value),z ≤ ni ∧ q = .int .i64 (z : Int) ∧ wq.heap[w3.heap.size]? = some (.cells #[.int .i64 (j : Int),u,u2] 100 (0,0)) ∧ StM wq B Ts U s c P tv ld (L.set j (D,putKs D.t (inn.take z) rs1)) ∧ Only T w3 wq ∧ (∀ q,Ts q → T q ∨ w3.heap.size ≤ q) ∧ RowsA wq w3.heap.size A2 u2 (keysL D.t (inn.take z)) ∧ (∀ q,A2 q ∨ q = w3.heap.size → ¬ Ts q) ∧ RowsA wq w3.heap.size A1 u tk ∧ (∀ q,A1 q → ¬ Ts q) ∧ (∀ q,A1 q → ¬ A2 q)) (fun q _ => ni - (intOf q).toNat)
      case atStart => exact ⟨0,Tr,fun _ => False,_,Nat.zero_le _,rfl,HNk.out,HW1.out.1,HW1.out.2.1,HW1.out.2.2,RowsA.nil _ _,fun q hq => hq.elim (fun e => e.elim) fun e => HA1.out.2.2.2 q (Or.inr e),HA1.out.1,fun q hq => HA1.out.2.2.2 q (Or.inl hq),fun _ _ h => h⟩
      case round =>
       obtain ⟨z,Ts,A2,u2,hzn,rfl,hNk,hS,hOn,hTr,hRA,hAT,hR1,hA1T,hA12⟩:=hrel
       by_cases hlt2 : z < ni
       ·have hlti2 : (z : Int) < (ni : Int):=by omega
        have hmo : z < inn.length:=by rw [HNO.out.2]; exact hlt2
        obtain ⟨us,r1,r2,r3,r4,r5⟩:=hRA.own
        obtain ⟨pu,cu,rfl⟩:=ownF r2
        have htl : (keysL D.t (inn.take z)).length = z:=by
         unfold keysL
         simp
         omega
        rw [htl] at r2 hNk r4
        obtain ⟨b,off,rfl,hcl,-⟩:=(HRI.out _ hOn) z hmo
        have hkm:=putKs_snoc (t:=D.t) (rs:=rs1) hmo
        have hkl:=keysL_snoc (t:=D.t) hmo
        have hfit:=HFI.out _ (List.getElem_mem hmo)
        have HPS : Hid (∀ W,Only T w3 W → Row W (ps z).1 inn[z]):=Hd fun W hW => by
         obtain ⟨_,_,_,_,h3⟩:=(HRI.out W hW) z hmo
         exact h3
        obtain ⟨r,hr⟩:=Vx (inn[z])
        rw [hr] at hcl hfit hkm hkl HPS
        obtain ⟨p,hp⟩:=Vx ((ps z).1)
        obtain ⟨cap,hcap⟩:=Vx ((ps z).2)
        rw [hp] at HPS
        rw [hp,hcap] at hcl
        have hlL : (L.set j (D,putKs D.t (inn.take z) rs1))[j]? = some (D,putKs D.t (inn.take z) rs1):=by
         rw [List.getElem?_set_self hlj.out]
        have hmr:=HM3.out.only hOn HM.out.2 HS3.out.tabs.lo
        have hTT:=hTr
        have HPU : Hid (∀ V : World,Below wr.heap.size wr V → V.heap.size = wr.heap.size → Calls Tryz.prog 37 #[.pointer (some ⟨D.r,0,none⟩),.slice p r.length cap] V fun e w' => ∃ (p9 : Option Addr) (c9 : Nat) (T2 : Nat → Prop) (V' : World),e = .returned (.slice p9 (pick3 r D.t.key).length c9) ∧ Below wr.heap.size wr V' ∧ Only Ts V' w' ∧ w'.ownsRow V'.heap.size 73 3 (.slice p9 (pick3 r D.t.key).length c9) (pick3 r D.t.key).length (vc (pick3 r D.t.key)) ∧ StM w' B T2 U s c P tv ld (L.set j (D,putKs D.t (inn.take (z + 1)) rs1)) ∧ (∀ q,T2 q → Ts q ∨ V'.heap.size ≤ q) ∧ (∀ g,(Value.slice p9 (pick3 r D.t.key).length c9).ownBlock = some g → ¬ T2 g) ∧ V'.heap.size = wr.heap.size):=Hd fun V hV hVs => by
         refine (put_st V s c P tv ld _ (hS.later hV) (hmr.later hV hmr.le) HM.out.2 j D _ hlL p cap r (fun W hW => HPS.out W (only_two (only_two (Z':=fun _ => False) hOn (Only.of hV) fun _ h => h.elim) hW hTT)) hfit (by
          have h1:=putKs_len D.t (inn.take z) rs1
          have h2:=HC1.out
          rw [List.length_take] at h1
          omega)).mono ?_
         rintro e w' ⟨v,T2,rfl,hvo,h1,h2,h3,h4⟩
         obtain ⟨p9,c9,rfl⟩:=ownF hvo
         rw [List.set_set,← hkm] at h2
         exact ⟨p9,c9,T2,V,rfl,hV,h1,hvo,h2,h3,h4,hVs⟩
        have HA:=Hd (Zai hNk (Zai r2 (Zai r4 hAT)))
        have HB:=Hd (Zai hOn (Zai hTr (Zai htl (Zai r1 (Zai r3 (Zai r5 hRA.lo))))))
        have HR1:=Hd (Zai hR1 (Zai hA1T hA12))
        have HKL:=Hd hkl
        have hszr:=hOn.size
        have e1 : wr.cell? ⟨w3.heap.size,2,none⟩ = some (.slice pu z cu):=cell_blk hNk rfl
        have l1:=cell_lt e1
        clear hNk hS hOn hTr hRA hAT hR1 hA1T hA12 r1 r2 r3 r4 r5 htl hkm hkl hfit hr hp hcap hlL hmr hTT
        go_wp2_with fail
        go_region_law (first
         | (go_simp; go_at_call 37; refine (HPU.out _ Bz (by first | rfl | simp)).mono ?_; rintro e w5 ⟨p9,c9,T2,w4,rfl,hb4,hOn5,ho5,hS5,hT5,hv5,hs4⟩; (have HD5:=Hd (And.intro hb4 (And.intro ho5 (And.intro hOn5 (And.intro hS5 (And.intro hT5 hv5)))))); (have s5:=hOn5.size); (have j5 : w5.heap[w3.heap.size]? = _:=(hOn5.block _ Om (HA.out.2.2.2 _ (Or.inr rfl))).trans (heap_of HA.out.1 hb4)); (have HJ5:=Hd j5); (have z1 : w5.cell? ⟨w3.heap.size,2,none⟩ = some (.slice pu z cu):=cell_blk j5 rfl); (have n1 : w3.heap.size ≠ w5.heap.size:=by omega); (have n2 : w3.heap.size < w5.heap.size:=by omega); clear hb4 ho5 hOn5 hS5 hT5 hv5 j5)
         | (refine step_append_lies _ rfl _ _ 27 rfl w3.heap.size 26 i2 _ 1 24 Tryz.underlying27 hi2 hx0 hx1 hx2 rfl (by decide) (.slice pu z cu) z us rfl ((own_kept (own_later9 HA.out.2.1 HD5.out.1) fun g hg => HD5.out.2.2.1.block g (Nat.lt_of_lt_of_le (HA.out.2.1.lt g hg).2 HD5.out.1.size) (HA.out.2.2.2 g (Or.inl (HA.out.2.2.1 g hg)))).alloc _) ⟨w5.heap.size,0,none⟩ 1 1 [.slice p9 (pick3 r D.t.key).length c9] rfl rfl (World.news_of_block (heap_alloc_new w5 _)) (by intro x hx; rw [List.mem_singleton.1 hx]; rfl) (by decide) (by unfold maxLen; omega) Om (by simp; omega) _ rfl ?_; intro g cap' w6 hown6 hgrow6 hor6 hlt6; (have HX6:=Hd (And.intro hown6 (And.intro hgrow6 hor6))); (have j6 : w6.heap[w3.heap.size]? = _:=(hgrow6.block _ (by simp; omega) (fun e => own_ne HA.out.2.1 HA.out.1 (by decide) e.symm)).trans ((alloc_low9 n2).trans HJ5.out)); (have z6 : w6.cell? ⟨w3.heap.size,2,none⟩ = some (.slice pu z cu):=cell_blk j6 rfl); (have y6 : w6.frozen? ⟨w3.heap.size,2,none⟩ = false:=froz_blk j6); clear hown6 hgrow6 hor6 j6))
        all_goals
         have hstep:=grow_step (w0:=w3) (N:=w3.heap.size) (f:=2) (x:=.slice (some ⟨g,0,none⟩) (z + 1) cap') (u':=.slice (some ⟨g,0,none⟩) (z + 1) cap') Zlr hU3.out HB.out.1 HB.out.2.1 HB.out.2.2.1 HB.out.2.2.2.1 HA.out.2.1 HB.out.2.2.2.2.1 HA.out.2.2.1 HB.out.2.2.2.2.2.1 HB.out.2.2.2.2.2.2 HA.out.2.2.2 HA.out.1 HD5.out.1 HD5.out.2.2.1 HD5.out.2.2.2.1 HD5.out.2.2.2.2.1 HD5.out.2.1 HD5.out.2.2.2.2.2 HX6.out.2.1 HX6.out.1 (HX6.out.2.2.imp (fun e => e.symm) fun e => by rw [e]; rfl)
         have HST:=Hd hstep
         clear hstep z6 y6
         go_wp2
         go_roundw
         case rel =>
          obtain ⟨t1,t2,t3,⟨A',t4,t5,t8⟩,t9,t6⟩:=HST.out
          have hT5:=HD5.out.2.2.2.2.1
          refine ⟨z + 1,T2,A',_,by omega,by go_num,?_,t1,t2,t3,by rw [HKL.out]; exact t4,t5,HR1.out.1.kept t9 fun q hq hy => ?_,fun q hq ht => ?_,fun q hq ha => ?_⟩
          ·have:=TT.heap_setCell_at (i:=2) t6 (.slice (some ⟨g,0,none⟩) (z + 1) cap')
           simpa using this
          ·rcases hy with e | e | e
           ·exact HR1.out.2.1 q hq e
           ·exact HR1.out.2.2 q hq (HA.out.2.2.1 q e)
           ·exact HA1.out.2.2.1 q hq e
          ·rcases hT5 q ht with e | e
           ·exact HR1.out.2.1 q hq e
           ·have:=(HR1.out.1.lo q hq).2
            omega
          ·rcases t8 q ha with e | e
           ·exact HR1.out.2.2 q hq e
           ·have:=(HR1.out.1.lo q hq).2
            omega
         case measure => simp [intOf]; omega
       ·have hlti2 : ¬ (z : Int) < (ni : Int):=by omega
        obtain rfl : z = ni:=by omega
        have htk : inn.take z = inn:=by rw [← HNO.out.2,List.take_length]
        rw [htk] at hS hRA
        have hw3 : Only T w wr:=only_below HB3.out hOn
        have hKr:=HK.out.kept hw3 fun q hq => (HZ.out q hq).1
        have hzr : ∀ q,A q → ¬ Ts q ∧ ¬ U q ∧ q ≠ s ∧ tv.ownBlock ≠ some q:=fun q hq => by
         obtain ⟨z1,z2⟩:=HZ.out q hq
         refine ⟨fun ht => ?_,z2⟩
         rcases hTr q ht with e | e
         ·exact z1 e
         ·have:=(HK.out.lo q hq).2
          omega
        obtain ⟨pu1,cu1,rfl⟩ : ∃ p c,u = .slice p tk.length c:=by
         obtain ⟨_,_,h2,_⟩:=hR1.own
         exact ownF h2
        obtain ⟨pu2,cu2,rfl⟩ : ∃ p c,u2 = .slice p (keysL D.t inn).length c:=by
         obtain ⟨_,_,h2,_⟩:=hRA.own
         exact ownF h2
        obtain ⟨pd,cd,rfl⟩ : ∃ p c,dv = .slice p S.length c:=ownF hKr.row
        obtain ⟨n1,hn1⟩:=Vx tk.length
        obtain ⟨n2,hn2⟩:=Vx ((keysL D.t inn).length)
        obtain ⟨n3,hn3⟩:=Vx S.length
        have hS3:=HCN.out.2
        have HKR:=Hd (Zai hKr hzr)
        have HRR:=Hd (Zai hR1 (Zai hA1T (Zai hRA hAT)))
        have HSR:=Hd (Zai hS (Zai hw3 hTr))
        have hkb:=hKr.blk
        unfold WkB at hkb
        rw [hn1,hn2] at hNk HRR
        rw [hn3] at hkb hS3 HKR
        have hroww : wr.ownsRow B 100 3 (.slice pd n3 cd) n3 (skc S):=by
         have:=hKr.row
         rw [hn3] at this
         exact this
        have HN3:=Hd (Zai hn3 (Zai hroww hkb))
        have c0 : wr.cell? ⟨w3.heap.size,0,none⟩ = some (.int .i64 (j : Int)):=cell_blk hNk rfl
        have c1 : wr.cell? ⟨w3.heap.size,1,none⟩ = some (.slice pu1 n1 cu1):=cell_blk hNk rfl
        have c2 : wr.cell? ⟨w3.heap.size,2,none⟩ = some (.slice pu2 n2 cu2):=cell_blk hNk rfl
        have d3 : wr.cell? ⟨k,3,none⟩ = some (.slice pd n3 cd):=cell_blk hkb rfl
        have f3 : wr.frozen? ⟨k,3,none⟩ = false:=froz_blk hkb
        have ld3:=cell_lt d3
        have lc3:=cell_lt c0
        have hB3 : B ≤ wr.heap.size:=by
         have:=(HK.out.lo k HK.out.zone.1).1
         omega
        clear hNk hS hOn hTr hRA hAT hR1 hA1T hA12 htk hw3 hKr hzr hn1 hn2 hn3 hroww hkb
        go_wp2
        go_region_law (refine step_append_lies _ rfl _ _ 88 rfl B 100 i3 _ 3 56 Tryz.underlying88 hi3 hy0 hy1 hy2 rfl (by decide) (.slice pd n3 cd) n3 (skc S) rfl ((own_later9 HN3.out.2.1 Bz).alloc _) ⟨wr.heap.size,0,none⟩ 1 1 [.int .i64 (j : Int),.slice pu1 n1 cu1,.slice pu2 n2 cu2] rfl rfl (World.news_of_block (heap_alloc_new _ _)) (by intro x hx; simp at hx; rcases hx with rfl | rfl | rfl <;> rfl) (by decide) (by unfold maxLen; omega) Om (by simp; omega) _ rfl ?_; intro g cap' w6 hown6 hgrow6 hor6 hlt6; (have HX6:=Hd (And.intro hown6 (And.intro hgrow6 hor6))); (have j6 : w6.heap[k]? = _:=(hgrow6.block k (by simp; omega) (fun e => own_ne HN3.out.2.1 HN3.out.2.2 (by decide) e.symm)).trans ((alloc_low9 ld3).trans HN3.out.2.2)); (have z6 : w6.cell? ⟨k,3,none⟩ = some (.slice pd n3 cd):=cell_blk j6 rfl); (have y6 : w6.frozen? ⟨k,3,none⟩ = false:=froz_blk j6); clear hown6 hgrow6 hor6 j6)
        all_goals
         have hlen:=HN3.out.1
         have hg9 : ∃ V : World,Below wr.heap.size wr V ∧ V.heap.size = wr.heap.size ∧ ∃ o,(V.alloc o).grownBy w6 (Value.slice pd n3 cd).ownBlock:=by
          first
          | exact ⟨wr,Bxr _ _,rfl,_,HX6.out.2.1⟩
          | exact ⟨wr.drew,Bz,rfl,_,HX6.out.2.1⟩
         obtain ⟨V,hV,hVs,o,hg9⟩:=hg9
         have hstep:=stroke_step (j:=j) (dv':=.slice (some ⟨g,0,none⟩) (n3 + 1) cap') (HKR.out.1.later hV) (HSR.out.1.later hV) HKR.out.2 (HRR.out.1.later hV) (HRR.out.2.2.1.later hV) (by have:=HK.out.lo k HK.out.zone.1; omega) HRR.out.2.1 (fun q hq => HRR.out.2.2.2 q (Or.inl hq)) hg9 (by rw [hlen]; exact HX6.out.1) (HX6.out.2.2.imp (fun e => e.symm) fun e => by rw [e]; show some _ = some _; simp [hVs])
         have HV:=Hd (Zai hV hVs)
         clear hV hVs hg9
         have HST:=Hd hstep
         clear hstep z6 y6
         go_wp2
         go_ret
         obtain ⟨t1,⟨A',t2,t3,t4⟩,t5⟩:=HST.out
         refine ⟨0,rfl,Or.inr ⟨j,D,rs,HX.out.1,rfl,HX.out.2,Or.inr ⟨HLA.out,HCO.out⟩⟩,Or.inr ⟨rfl,j,D,rs,tk,Ts,A',_,_,_,rfl,HX.out.2,HA1.out.2.1,?_,t2,?_,fun q hq => ?_,fun q hq => ?_,t4⟩⟩
         ·rw [HRS.out]
          exact t1
         ·refine ((HSR.out.2.1.mono fun _ e => Or.inl e).trans ((Only.of HV.out.1).mono fun _ e => Or.inl e)).trans (t5.mono fun q hq => Or.inr ?_)
          rcases hq with e | rfl
          ·exact HK.out.zone.2 q (by rw [hlen]; exact e)
          ·exact HK.out.zone.1
         ·rcases HSR.out.2.2 q hq with e | e
          ·exact Or.inl e
          ·exact Or.inr Om
         ·rcases t3 q hq with e | e | e | e
          ·exact Or.inl e
          ·have:=(HRR.out.1.lo q e).1
           exact Or.inr Om
          ·have:=(HRR.out.2.2.1.lo q e).1
           exact Or.inr Om
          ·have:=HV.out.2
           exact Or.inr Om
   ·have hno : Hid (¬ n = 0):=Hd hn0
    clear hb3 hco
    go_wp2
    go_ret
    exact ⟨n,rfl,Or.inr ⟨j,D,rs,HX.out.1,rfl,HX.out.2,Or.inr ⟨HLA.out,HCO.out⟩⟩,Or.inl ⟨hno.out,HB3.out⟩⟩
  ·have HB2:=Hbt HB1 hb2
   have HLA:=Hd hlv
   clear hb2 hlv
   go_wp2
   go_ret
   exact ⟨1,rfl,Or.inr ⟨j,D,rs,HX.out.1,rfl,HX.out.2,Or.inl ⟨rfl,HLA.out⟩⟩,Or.inl ⟨by decide,HB2.out⟩⟩
 ·have HN:=Hd hn
  clear hb1 hn
  go_wp2
  go_ret
  exact ⟨1,rfl,Or.inl ⟨rfl,Or.inr HN.out⟩,Or.inl ⟨by decide,HB1.out⟩⟩
end
end Go.Proofs.YtmmmkjhpmlfopaaGreatDoor
