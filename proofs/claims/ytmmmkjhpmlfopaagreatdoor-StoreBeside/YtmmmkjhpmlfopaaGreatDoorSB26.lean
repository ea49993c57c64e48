/- ZT4 ZT5 -/
import Derived.Test.YtmmmkjhpmlfopaaGreatDoorSB25
set_option maxHeartbeats 4000000
set_option maxRecDepth 100000
namespace Go.Proofs.YtmmmkjhpmlfopaaGreatDoor
open Go.RowKit
namespace TT
theorem evTb_any (w0 w : World) (a : Option Addr) (cap : Nat) (l : List Tb) (x0 : Nat) (H : Nat → Bool) (Inv : Nat → World → Prop) (hl : l.length ≤ 1000000) (hr : RowR 5 (TbR w0) w0 a l) (h0 : Inv 0 w) (hb : Below w0.heap.size w0 w)
  (hI : ∀ k w1 w2,Inv k w1 → Below w1.heap.size w1 w2 → Inv k w2)
  (hC : ∀ k (h : k < l.length) vs w1,TbR w0 l[k] vs → Inv k w1 → Below w0.heap.size w0 w1 → Calls Tryz.prog 86 #[.agg vs.toArray,.pointer (some ⟨x0,0,none⟩)] w1 fun e w2 => e = .returned (.bool (H k)) ∧ (H k = true → Inv (k + 1) w2) ∧ Below w0.heap.size w0 w2) :
  Calls Tryz.prog 85 #[.slice a l.length cap,.func (.func 86) #[] #[.pointer (some ⟨x0,0,none⟩)]] w fun e w' => e = .returned (.bool (allB l.length H)) ∧ (allB l.length H = true → Inv l.length w') ∧ Below w0.heap.size w0 w':=by
 have HR:=Hd hr
 have HI:=Hd hI
 have HC:=Hd hC
 have H0:=Hd h0
 have HB0:=Hd hb
 clear hr hI hC h0 hb
 go_enter Tryz.func85,Tryz.ntmps85
 go_wp2
 go_loopw [9] (fun i wr => ∃ k : Nat,k ≤ l.length ∧ i = .int .i64 k ∧ (∀ j,j < k → H j = true) ∧ Inv k wr ∧ Below w0.heap.size w0 wr) (fun i _ => l.length - (intOf i).toNat)
 case atStart => exact ⟨0,Nat.zero_le _,rfl,fun j g => absurd g (Nat.not_lt_zero _),H0.out,HB0.out⟩
 case round =>
  clear H0 HB0
  obtain ⟨k,hk,rfl,hall,hinv,hb1⟩:=hrel
  have HA:=Hd hall
  have HV:=Hd hinv
  have HB:=Hd hb1
  have hsz:=hb1.size
  clear hall hinv hb1
  by_cases hlt : k < l.length
  ·have hlti : (k : Int) < (l.length : Int):=by omega
   obtain ⟨b,off,v0,v1,v2,v3,v4,rfl,hR,c0,c1,c2,c3,c4⟩:=HR.out.at5 hlt
   have HRk:=Hd hR
   obtain ⟨pc,cc,pk,ck,px,cx,hR,_,_,_⟩:=hR
   simp only [List.cons.injEq,and_true] at hR
   obtain ⟨rfl,rfl,rfl,rfl,rfl⟩:=hR
   have d0:=(HB.out.cell (cell_lt c0)).trans c0
   have d1:=(HB.out.cell (cell_lt c1)).trans c1
   have d2:=(HB.out.cell (cell_lt c2)).trans c2
   have d3:=(HB.out.cell (cell_lt c3)).trans c3
   have d4:=(HB.out.cell (cell_lt c4)).trans c4
   clear c0 c1 c2 c3 c4
   go_wp2_with fail
   refine (HC.out k hlt _ _ HRk.out (HI.out _ _ _ HV.out Bz) (HB.out.trans (Below.mono Bz hsz))).mono ?_
   rintro e w2 ⟨rfl,hn,hb2⟩
   have HN:=Hd hn
   have HB2:=Hd hb2
   clear hn hb2 d0 d1 d2 d3 d4
   cases hH : H k with
   | false =>
    have HE : Hid (allB l.length H = false):=allB_false k hlt hH
    go_wp2
    go_ret
    exact ⟨ret_bool HE.out.symm,fun h => (by rw [HE.out] at h; cases h),HB2.out⟩
   | true =>
    have HN2:=Hd (HN.out hH)
    have HA2 : Hid (∀ j,j < k + 1 → H j = true):=fun j hj => by
     by_cases e : j = k
     ·rw [e]; exact hH
     ·exact HA.out j Om
    clear HN HA
    go_wp2
    go_roundw
    case rel => exact ⟨k + 1,by omega,by go_num,HA2.out,HN2.out,HB2.out⟩
    case measure => simp [intOf]; omega
  ·have hk' : k = l.length:=by omega
   subst hk'
   go_wp2
   go_ret
   exact ⟨ret_bool (allB_iff.2 HA.out).symm,fun _ => HV.out,HB.out⟩
theorem evPc_any (w0 w : World) (a : Option Addr) (cap : Nat) (l : List Pc) (x0 : Nat) (H : Nat → Bool) (Inv : Nat → World → Prop) (hl : l.length ≤ 1000000) (hr : RowR 5 (PcR w0) w0 a l) (h0 : Inv 0 w) (hb : Below w0.heap.size w0 w)
  (hI : ∀ k w1 w2,Inv k w1 → Below w1.heap.size w1 w2 → Inv k w2)
  (hC : ∀ k (h : k < l.length) vs w1,PcR w0 l[k] vs → Inv k w1 → Below w0.heap.size w0 w1 → Calls Tryz.prog 89 #[.agg vs.toArray,.pointer (some ⟨x0,0,none⟩)] w1 fun e w2 => e = .returned (.bool (H k)) ∧ (H k = true → Inv (k + 1) w2) ∧ Below w0.heap.size w0 w2) :
  Calls Tryz.prog 88 #[.slice a l.length cap,.func (.func 89) #[] #[.pointer (some ⟨x0,0,none⟩)]] w fun e w' => e = .returned (.bool (allB l.length H)) ∧ Below w0.heap.size w0 w':=by
 have HR:=Hd hr
 have HI:=Hd hI
 have HC:=Hd hC
 have H0:=Hd h0
 have HB0:=Hd hb
 clear hr hI hC h0 hb
 go_enter Tryz.func88,Tryz.ntmps88
 go_wp2
 go_loopw [9] (fun i wr => ∃ k : Nat,k ≤ l.length ∧ i = .int .i64 k ∧ (∀ j,j < k → H j = true) ∧ Inv k wr ∧ Below w0.heap.size w0 wr) (fun i _ => l.length - (intOf i).toNat)
 case atStart => exact ⟨0,Nat.zero_le _,rfl,fun j g => absurd g (Nat.not_lt_zero _),H0.out,HB0.out⟩
 case round =>
  clear H0 HB0
  obtain ⟨k,hk,rfl,hall,hinv,hb1⟩:=hrel
  have HA:=Hd hall
  have HV:=Hd hinv
  have HB:=Hd hb1
  have hsz:=hb1.size
  clear hall hinv hb1
  by_cases hlt : k < l.length
  ·have hlti : (k : Int) < (l.length : Int):=by omega
   obtain ⟨b,off,v0,v1,v2,v3,v4,rfl,hR,c0,c1,c2,c3,c4⟩:=HR.out.at5 hlt
   have HRk:=Hd hR
   obtain ⟨pp,cp,pb,cb,hR,_,_⟩:=hR
   simp only [List.cons.injEq,and_true] at hR
   obtain ⟨rfl,rfl,rfl,rfl,rfl⟩:=hR
   have d0:=(HB.out.cell (cell_lt c0)).trans c0
   have d1:=(HB.out.cell (cell_lt c1)).trans c1
   have d2:=(HB.out.cell (cell_lt c2)).trans c2
   have d3:=(HB.out.cell (cell_lt c3)).trans c3
   have d4:=(HB.out.cell (cell_lt c4)).trans c4
   clear c0 c1 c2 c3 c4
   go_wp2_with fail
   refine (HC.out k hlt _ _ HRk.out (HI.out _ _ _ HV.out Bz) (HB.out.trans (Below.mono Bz hsz))).mono ?_
   rintro e w2 ⟨rfl,hn,hb2⟩
   have HN:=Hd hn
   have HB2:=Hd hb2
   clear hn hb2 d0 d1 d2 d3 d4
   cases hH : H k with
   | false =>
    have HE : Hid (allB l.length H = false):=allB_false k hlt hH
    go_wp2
    go_ret
    exact ⟨ret_bool HE.out.symm,HB2.out⟩
   | true =>
    have HN2:=Hd (HN.out hH)
    have HA2 : Hid (∀ j,j < k + 1 → H j = true):=fun j hj => by
     by_cases e : j = k
     ·rw [e]; exact hH
     ·exact HA.out j Om
    clear HN HA
    go_wp2
    go_roundw
    case rel => exact ⟨k + 1,by omega,by go_num,HA2.out,HN2.out,HB2.out⟩
    case measure => simp [intOf]; omega
  ·have hk' : k = l.length:=by omega
   subst hk'
   go_wp2
   go_ret
   exact ⟨ret_bool (allB_iff.2 HA.out).symm,HB.out⟩
theorem evCol_any (w0 w : World) (a : Option Addr) (cap : Nat) (l : List Col) (x0 : Nat) (H : Nat → Bool) (Inv : Nat → World → Prop) (hl : l.length ≤ 1000000) (hr : RowR 3 ColR w0 a l) (h0 : Inv 0 w) (hb : Below w0.heap.size w0 w)
  (hI : ∀ k w1 w2,Inv k w1 → Below w1.heap.size w1 w2 → Inv k w2)
  (hC : ∀ k (h : k < l.length) vs w1,ColR l[k] vs → Inv k w1 → Below w0.heap.size w0 w1 → Calls Tryz.prog 190 #[.agg vs.toArray,.pointer (some ⟨x0,0,none⟩)] w1 fun e w2 => e = .returned (.bool (H k)) ∧ (H k = true → Inv (k + 1) w2) ∧ Below w0.heap.size w0 w2) :
  Calls Tryz.prog 189 #[.slice a l.length cap,.func (.func 190) #[] #[.pointer (some ⟨x0,0,none⟩)]] w fun e w' => e = .returned (.bool (allB l.length H)) ∧ Below w0.heap.size w0 w':=by
 have HR:=Hd hr
 have HI:=Hd hI
 have HC:=Hd hC
 have H0:=Hd h0
 have HB0:=Hd hb
 clear hr hI hC h0 hb
 go_enter Tryz.func189,Tryz.ntmps189
 go_wp2
 go_loopw [9] (fun i wr => ∃ k : Nat,k ≤ l.length ∧ i = .int .i64 k ∧ (∀ j,j < k → H j = true) ∧ Inv k wr ∧ Below w0.heap.size w0 wr) (fun i _ => l.length - (intOf i).toNat)
 case atStart => exact ⟨0,Nat.zero_le _,rfl,fun j g => absurd g (Nat.not_lt_zero _),H0.out,HB0.out⟩
 case round =>
  clear H0 HB0
  obtain ⟨k,hk,rfl,hall,hinv,hb1⟩:=hrel
  have HA:=Hd hall
  have HV:=Hd hinv
  have HB:=Hd hb1
  have hsz:=hb1.size
  clear hall hinv hb1
  by_cases hlt : k < l.length
  ·have hlti : (k : Int) < (l.length : Int):=by omega
   obtain ⟨b,off,v0,v1,v2,rfl,hR,c0,c1,c2⟩:=HR.out.at3 hlt
   have HRk:=Hd hR
   simp only [ColR] at hR
   simp only [List.cons.injEq,and_true] at hR
   obtain ⟨rfl,rfl,rfl⟩:=hR
   have d0:=(HB.out.cell (cell_lt c0)).trans c0
   have d1:=(HB.out.cell (cell_lt c1)).trans c1
   have d2:=(HB.out.cell (cell_lt c2)).trans c2
   clear c0 c1 c2
   go_wp2_with fail
   refine (HC.out k hlt _ _ HRk.out (HI.out _ _ _ HV.out Bz) (HB.out.trans (Below.mono Bz hsz))).mono ?_
   rintro e w2 ⟨rfl,hn,hb2⟩
   have HN:=Hd hn
   have HB2:=Hd hb2
   clear hn hb2 d0 d1 d2
   cases hH : H k with
   | false =>
    have HE : Hid (allB l.length H = false):=allB_false k hlt hH
    go_wp2
    go_ret
    exact ⟨ret_bool HE.out.symm,HB2.out⟩
   | true =>
    have HN2:=Hd (HN.out hH)
    have HA2 : Hid (∀ j,j < k + 1 → H j = true):=fun j hj => by
     by_cases e : j = k
     ·rw [e]; exact hH
     ·exact HA.out j Om
    clear HN HA
    go_wp2
    go_roundw
    case rel => exact ⟨k + 1,by omega,by go_num,HA2.out,HN2.out,HB2.out⟩
    case measure => simp [intOf]; omega
  ·have hk' : k = l.length:=by omega
   subst hk'
   go_wp2
   go_ret
   exact ⟨ret_bool (allB_iff.2 HA.out).symm,HB.out⟩
theorem evIntA_any (w0 w : World) (a : Option Addr) (cap : Nat) (l : List Int) (x0 : Nat) (H : Nat → Bool) (Inv : Nat → World → Prop) (hl : l.length ≤ 1000000) (hr : RowR 1 IntR w0 a l) (h0 : Inv 0 w) (hb : Below w0.heap.size w0 w)
  (hI : ∀ k w1 w2,Inv k w1 → Below w1.heap.size w1 w2 → Inv k w2)
  (hC : ∀ k (h : k < l.length) w1,Inv k w1 → Below w0.heap.size w0 w1 → Calls Tryz.prog 195 #[.int .i64 l[k],.pointer (some ⟨x0,0,none⟩)] w1 fun e w2 => e = .returned (.bool (H k)) ∧ (H k = true → Inv (k + 1) w2) ∧ Below w0.heap.size w0 w2) :
  Calls Tryz.prog 194 #[.slice a l.length cap,.func (.func 195) #[] #[.pointer (some ⟨x0,0,none⟩)]] w fun e w' => e = .returned (.bool (allB l.length H)) ∧ Below w0.heap.size w0 w':=by
 have HR:=Hd hr
 have HI:=Hd hI
 have HC:=Hd hC
 have H0:=Hd h0
 have HB0:=Hd hb
 clear hr hI hC h0 hb
 go_enter Tryz.func194,Tryz.ntmps194
 go_wp2
 go_loopw [9] (fun i wr => ∃ k : Nat,k ≤ l.length ∧ i = .int .i64 k ∧ (∀ j,j < k → H j = true) ∧ Inv k wr ∧ Below w0.heap.size w0 wr) (fun i _ => l.length - (intOf i).toNat)
 case atStart => exact ⟨0,Nat.zero_le _,rfl,fun j g => absurd g (Nat.not_lt_zero _),H0.out,HB0.out⟩
 case round =>
  clear H0 HB0
  obtain ⟨k,hk,rfl,hall,hinv,hb1⟩:=hrel
  have HA:=Hd hall
  have HV:=Hd hinv
  have HB:=Hd hb1
  have hsz:=hb1.size
  clear hall hinv hb1
  by_cases hlt : k < l.length
  ·have hlti : (k : Int) < (l.length : Int):=by omega
   obtain ⟨b,off,v0,rfl,hR,c0⟩:=HR.out.at1 hlt
   simp only [IntR] at hR
   simp only [List.cons.injEq,and_true] at hR
   obtain rfl:=hR
   have d0:=(HB.out.cell (cell_lt c0)).trans c0
   clear c0
   go_wp2_with fail
   refine (HC.out k hlt _ HV.out HB.out).mono ?_
   rintro e w2 ⟨rfl,hn,hb2⟩
   have HN:=Hd hn
   have HB2:=Hd hb2
   clear hn hb2 d0
   cases hH : H k with
   | false =>
    have HE : Hid (allB l.length H = false):=allB_false k hlt hH
    go_wp2
    go_ret
    exact ⟨ret_bool HE.out.symm,HB2.out⟩
   | true =>
    have HN2:=Hd (HN.out hH)
    have HA2 : Hid (∀ j,j < k + 1 → H j = true):=fun j hj => by
     by_cases e : j = k
     ·rw [e]; exact hH
     ·exact HA.out j Om
    clear HN HA
    go_wp2
    go_roundw
    case rel => exact ⟨k + 1,by omega,by go_num,HA2.out,HN2.out,HB2.out⟩
    case measure => simp [intOf]; omega
  ·have hk' : k = l.length:=by omega
   subst hk'
   go_wp2
   go_ret
   exact ⟨ret_bool (allB_iff.2 HA.out).symm,HB.out⟩
theorem evIntB_any (w0 w : World) (a : Option Addr) (cap : Nat) (l : List Int) (x0 x1 : Nat) (H : Nat → Bool) (Inv : Nat → World → Prop) (hl : l.length ≤ 1000000) (hr : RowR 1 IntR w0 a l) (h0 : Inv 0 w) (hb : Below w0.heap.size w0 w)
  (hI : ∀ k w1 w2,Inv k w1 → Below w1.heap.size w1 w2 → Inv k w2)
  (hC : ∀ k (h : k < l.length) w1,Inv k w1 → Below w0.heap.size w0 w1 → Calls Tryz.prog 229 #[.int .i64 l[k],.pointer (some ⟨x0,0,none⟩),.pointer (some ⟨x1,0,none⟩)] w1 fun e w2 => e = .returned (.bool (H k)) ∧ (H k = true → Inv (k + 1) w2) ∧ Below w0.heap.size w0 w2) :
  Calls Tryz.prog 194 #[.slice a l.length cap,.func (.func 229) #[] #[.pointer (some ⟨x0,0,none⟩),.pointer (some ⟨x1,0,none⟩)]] w fun e w' => e = .returned (.bool (allB l.length H)) ∧ Below w0.heap.size w0 w':=by
 have HR:=Hd hr
 have HI:=Hd hI
 have HC:=Hd hC
 have H0:=Hd h0
 have HB0:=Hd hb
 clear hr hI hC h0 hb
 go_enter Tryz.func194,Tryz.ntmps194
 go_wp2
 go_loopw [9] (fun i wr => ∃ k : Nat,k ≤ l.length ∧ i = .int .i64 k ∧ (∀ j,j < k → H j = true) ∧ Inv k wr ∧ Below w0.heap.size w0 wr) (fun i _ => l.length - (intOf i).toNat)
 case atStart => exact ⟨0,Nat.zero_le _,rfl,fun j g => absurd g (Nat.not_lt_zero _),H0.out,HB0.out⟩
 case round =>
  clear H0 HB0
  obtain ⟨k,hk,rfl,hall,hinv,hb1⟩:=hrel
  have HA:=Hd hall
  have HV:=Hd hinv
  have HB:=Hd hb1
  have hsz:=hb1.size
  clear hall hinv hb1
  by_cases hlt : k < l.length
  ·have hlti : (k : Int) < (l.length : Int):=by omega
   obtain ⟨b,off,v0,rfl,hR,c0⟩:=HR.out.at1 hlt
   simp only [IntR] at hR
   simp only [List.cons.injEq,and_true] at hR
   obtain rfl:=hR
   have d0:=(HB.out.cell (cell_lt c0)).trans c0
   clear c0
   go_wp2_with fail
   refine (HC.out k hlt _ HV.out HB.out).mono ?_
   rintro e w2 ⟨rfl,hn,hb2⟩
   have HN:=Hd hn
   have HB2:=Hd hb2
   clear hn hb2 d0
   cases hH : H k with
   | false =>
    have HE : Hid (allB l.length H = false):=allB_false k hlt hH
    go_wp2
    go_ret
    exact ⟨ret_bool HE.out.symm,HB2.out⟩
   | true =>
    have HN2:=Hd (HN.out hH)
    have HA2 : Hid (∀ j,j < k + 1 → H j = true):=fun j hj => by
     by_cases e : j = k
     ·rw [e]; exact hH
     ·exact HA.out j Om
    clear HN HA
    go_wp2
    go_roundw
    case rel => exact ⟨k + 1,by omega,by go_num,HA2.out,HN2.out,HB2.out⟩
    case measure => simp [intOf]; omega
  ·have hk' : k = l.length:=by omega
   subst hk'
   go_wp2
   go_ret
   exact ⟨ret_bool (allB_iff.2 HA.out).symm,HB.out⟩
theorem evIx_any (w0 w : World) (a : Option Addr) (cap : Nat) (l : List Ix) (x0 x1 : Nat) (H : Nat → Bool) (Inv : Nat → World → Prop) (hl : l.length ≤ 1000000) (hr : RowR 3 (IxR w0) w0 a l) (h0 : Inv 0 w) (hb : Below w0.heap.size w0 w)
  (hI : ∀ k w1 w2,Inv k w1 → Below w1.heap.size w1 w2 → Inv k w2)
  (hC : ∀ k (h : k < l.length) vs w1,IxR w0 l[k] vs → Inv k w1 → Below w0.heap.size w0 w1 → Calls Tryz.prog 197 #[.agg vs.toArray,.pointer (some ⟨x0,0,none⟩),.pointer (some ⟨x1,0,none⟩)] w1 fun e w2 => e = .returned (.bool (H k)) ∧ (H k = true → Inv (k + 1) w2) ∧ Below w0.heap.size w0 w2) :
  Calls Tryz.prog 196 #[.slice a l.length cap,.func (.func 197) #[] #[.pointer (some ⟨x0,0,none⟩),.pointer (some ⟨x1,0,none⟩)]] w fun e w' => e = .returned (.bool (allB l.length H)) ∧ Below w0.heap.size w0 w':=by
 have HR:=Hd hr
 have HI:=Hd hI
 have HC:=Hd hC
 have H0:=Hd h0
 have HB0:=Hd hb
 clear hr hI hC h0 hb
 go_enter Tryz.func196,Tryz.ntmps196
 go_wp2
 go_loopw [9] (fun i wr => ∃ k : Nat,k ≤ l.length ∧ i = .int .i64 k ∧ (∀ j,j < k → H j = true) ∧ Inv k wr ∧ Below w0.heap.size w0 wr) (fun i _ => l.length - (intOf i).toNat)
 case atStart => exact ⟨0,Nat.zero_le _,rfl,fun j g => absurd g (Nat.not_lt_zero _),H0.out,HB0.out⟩
 case round =>
  clear H0 HB0
  obtain ⟨k,hk,rfl,hall,hinv,hb1⟩:=hrel
  have HA:=Hd hall
  have HV:=Hd hinv
  have HB:=Hd hb1
  have hsz:=hb1.size
  clear hall hinv hb1
  by_cases hlt : k < l.length
  ·have hlti : (k : Int) < (l.length : Int):=by omega
   obtain ⟨b,off,v0,v1,v2,rfl,hR,c0,c1,c2⟩:=HR.out.at3 hlt
   have HRk:=Hd hR
   obtain ⟨p,cp,hR,_⟩:=hR
   simp only [List.cons.injEq,and_true] at hR
   obtain ⟨rfl,rfl,rfl⟩:=hR
   have d0:=(HB.out.cell (cell_lt c0)).trans c0
   have d1:=(HB.out.cell (cell_lt c1)).trans c1
   have d2:=(HB.out.cell (cell_lt c2)).trans c2
   clear c0 c1 c2
   go_wp2_with fail
   refine (HC.out k hlt _ _ HRk.out (HI.out _ _ _ HV.out Bz) (HB.out.trans (Below.mono Bz hsz))).mono ?_
   rintro e w2 ⟨rfl,hn,hb2⟩
   have HN:=Hd hn
   have HB2:=Hd hb2
   clear hn hb2 d0 d1 d2
   cases hH : H k with
   | false =>
    have HE : Hid (allB l.length H = false):=allB_false k hlt hH
    go_wp2
    go_ret
    exact ⟨ret_bool HE.out.symm,HB2.out⟩
   | true =>
    have HN2:=Hd (HN.out hH)
    have HA2 : Hid (∀ j,j < k + 1 → H j = true):=fun j hj => by
     by_cases e : j = k
     ·rw [e]; exact hH
     ·exact HA.out j Om
    clear HN HA
    go_wp2
    go_roundw
    case rel => exact ⟨k + 1,by omega,by go_num,HA2.out,HN2.out,HB2.out⟩
    case measure => simp [intOf]; omega
  ·have hk' : k = l.length:=by omega
   subst hk'
   go_wp2
   go_ret
   exact ⟨ret_bool (allB_iff.2 HA.out).symm,HB.out⟩
theorem evPm_any (w0 w : World) (a : Option Addr) (cap : Nat) (l : List Pm) (x0 : Nat) (H : Nat → Bool) (Inv : Nat → World → Prop) (hl : l.length ≤ 1000000) (hr : RowR 2 PmR w0 a l) (h0 : Inv 0 w) (hb : Below w0.heap.size w0 w)
  (hI : ∀ k w1 w2,Inv k w1 → Below w1.heap.size w1 w2 → Inv k w2)
  (hC : ∀ k (h : k < l.length) vs w1,PmR l[k] vs → Inv k w1 → Below w0.heap.size w0 w1 → Calls Tryz.prog 199 #[.agg vs.toArray,.pointer (some ⟨x0,0,none⟩)] w1 fun e w2 => e = .returned (.bool (H k)) ∧ (H k = true → Inv (k + 1) w2) ∧ Below w0.heap.size w0 w2) :
  Calls Tryz.prog 198 #[.slice a l.length cap,.func (.func 199) #[] #[.pointer (some ⟨x0,0,none⟩)]] w fun e w' => e = .returned (.bool (allB l.length H)) ∧ Below w0.heap.size w0 w':=by
 have HR:=Hd hr
 have HI:=Hd hI
 have HC:=Hd hC
 have H0:=Hd h0
 have HB0:=Hd hb
 clear hr hI hC h0 hb
 go_enter Tryz.func198,Tryz.ntmps198
 go_wp2
 go_loopw [9] (fun i wr => ∃ k : Nat,k ≤ l.length ∧ i = .int .i64 k ∧ (∀ j,j < k → H j = true) ∧ Inv k wr ∧ Below w0.heap.size w0 wr) (fun i _ => l.length - (intOf i).toNat)
 case atStart => exact ⟨0,Nat.zero_le _,rfl,fun j g => absurd g (Nat.not_lt_zero _),H0.out,HB0.out⟩
 case round =>
  clear H0 HB0
  obtain ⟨k,hk,rfl,hall,hinv,hb1⟩:=hrel
  have HA:=Hd hall
  have HV:=Hd hinv
  have HB:=Hd hb1
  have hsz:=hb1.size
  clear hall hinv hb1
  by_cases hlt : k < l.length
  ·have hlti : (k : Int) < (l.length : Int):=by omega
   obtain ⟨b,off,v0,v1,rfl,hR,c0,c1⟩:=HR.out.at2 hlt
   have HRk:=Hd hR
   simp only [PmR] at hR
   simp only [List.cons.injEq,and_true] at hR
   obtain ⟨rfl,rfl⟩:=hR
   have d0:=(HB.out.cell (cell_lt c0)).trans c0
   have d1:=(HB.out.cell (cell_lt c1)).trans c1
   clear c0 c1
   go_wp2_with fail
   refine (HC.out k hlt _ _ HRk.out (HI.out _ _ _ HV.out Bz) (HB.out.trans (Below.mono Bz hsz))).mono ?_
   rintro e w2 ⟨rfl,hn,hb2⟩
   have HN:=Hd hn
   have HB2:=Hd hb2
   clear hn hb2 d0 d1
   cases hH : H k with
   | false =>
    have HE : Hid (allB l.length H = false):=allB_false k hlt hH
    go_wp2
    go_ret
    exact ⟨ret_bool HE.out.symm,HB2.out⟩
   | true =>
    have HN2:=Hd (HN.out hH)
    have HA2 : Hid (∀ j,j < k + 1 → H j = true):=fun j hj => by
     by_cases e : j = k
     ·rw [e]; exact hH
     ·exact HA.out j Om
    clear HN HA
    go_wp2
    go_roundw
    case rel => exact ⟨k + 1,by omega,by go_num,HA2.out,HN2.out,HB2.out⟩
    case measure => simp [intOf]; omega
  ·have hk' : k = l.length:=by omega
   subst hk'
   go_wp2
   go_ret
   exact ⟨ret_bool (allB_iff.2 HA.out).symm,HB.out⟩
theorem evStr_any (w0 w : World) (a : Option Addr) (cap : Nat) (l : List ByteArray) (H : Nat → Bool) (Inv : Nat → World → Prop) (hl : l.length ≤ 1000000) (hr : RowR 1 StrR w0 a l) (h0 : Inv 0 w) (hb : Below w0.heap.size w0 w)
  (hI : ∀ k w1 w2,Inv k w1 → Below w1.heap.size w1 w2 → Inv k w2)
  (hC : ∀ k (h : k < l.length) w1,Inv k w1 → Below w0.heap.size w0 w1 → Calls Tryz.prog 201 #[.string l[k]] w1 fun e w2 => e = .returned (.bool (H k)) ∧ (H k = true → Inv (k + 1) w2) ∧ Below w0.heap.size w0 w2) :
  Calls Tryz.prog 200 #[.slice a l.length cap,.func (.func 201) #[] #[]] w fun e w' => e = .returned (.bool (allB l.length H)) ∧ Below w0.heap.size w0 w':=by
 have HR:=Hd hr
 have HI:=Hd hI
 have HC:=Hd hC
 have H0:=Hd h0
 have HB0:=Hd hb
 clear hr hI hC h0 hb
 go_enter Tryz.func200,Tryz.ntmps200
 go_wp2
 go_loopw [9] (fun i wr => ∃ k : Nat,k ≤ l.length ∧ i = .int .i64 k ∧ (∀ j,j < k → H j = true) ∧ Inv k wr ∧ Below w0.heap.size w0 wr) (fun i _ => l.length - (intOf i).toNat)
 case atStart => exact ⟨0,Nat.zero_le _,rfl,fun j g => absurd g (Nat.not_lt_zero _),H0.out,HB0.out⟩
 case round =>
  clear H0 HB0
  obtain ⟨k,hk,rfl,hall,hinv,hb1⟩:=hrel
  have HA:=Hd hall
  have HV:=Hd hinv
  have HB:=Hd hb1
  have hsz:=hb1.size
  clear hall hinv hb1
  by_cases hlt : k < l.length
  ·have hlti : (k : Int) < (l.length : Int):=by omega
   obtain ⟨b,off,v0,rfl,hR,c0⟩:=HR.out.at1 hlt
   simp only [StrR] at hR
   simp only [List.cons.injEq,and_true] at hR
   obtain rfl:=hR
   have d0:=(HB.out.cell (cell_lt c0)).trans c0
   clear c0
   go_wp2_with fail
   refine (HC.out k hlt _ HV.out HB.out).mono ?_
   rintro e w2 ⟨rfl,hn,hb2⟩
   have HN:=Hd hn
   have HB2:=Hd hb2
   clear hn hb2 d0
   cases hH : H k with
   | false =>
    have HE : Hid (allB l.length H = false):=allB_false k hlt hH
    go_wp2
    go_ret
    exact ⟨ret_bool HE.out.symm,HB2.out⟩
   | true =>
    have HN2:=Hd (HN.out hH)
    have HA2 : Hid (∀ j,j < k + 1 → H j = true):=fun j hj => by
     by_cases e : j = k
     ·rw [e]; exact hH
     ·exact HA.out j Om
    clear HN HA
    go_wp2
    go_roundw
    case rel => exact ⟨k + 1,by omega,by go_num,HA2.out,HN2.out,HB2.out⟩
    case measure => simp [intOf]; omega
  ·have hk' : k = l.length:=by omega
   subst hk'
   go_wp2
   go_ret
   exact ⟨ret_bool (allB_iff.2 HA.out).symm,HB.out⟩
theorem below_only {w0 w1 w2 : World} {b : Nat} (h : Below w0.heap.size w0 w1) (ho : Only (fun k => k = b) w1 w2) (hb : w0.heap.size ≤ b) : Below w0.heap.size w0 w2 :=
 h.trans (ho.below h.size fun k hk e => by subst e; omega)
theorem heap_of {w w' : World} {x : Nat} {o : Obj} (h : w.heap[x]? = some o) (hb : Below w.heap.size w w') : w'.heap[x]? = some o:=(hb.block _ (Gx h)).trans h
theorem heap_only {w w' : World} {x b : Nat} {o : Obj} (h : w.heap[x]? = some o) (hb : Only (fun k => k = b) w w') (hne : x ≠ b) : w'.heap[x]? = some o:=(hb.block _ (Gx h) hne).trans h
structure AskJ (w : World) (b x : Nat) (ks : List Int) : Prop where
 ex : ∃ p,w.heap[x]? = some (.cells #[.func (.func 243) #[] #[.pointer (some ⟨p,0,none⟩)]] 183 (0,0)) ∧ AskI w b p ks
theorem AskJ.later {w w' : World} {b x : Nat} {ks : List Int} (h : AskJ w b x ks) (hb : Below w.heap.size w w') : AskJ w' b x ks:=by
 obtain ⟨p,h1,h2⟩:=h.ex
 exact ⟨p,heap_of h1 hb,h2.later hb⟩
theorem AskJ.ne {w : World} {b x : Nat} {ks : List Int} (h : AskJ w b x ks) {k : Nat} {cs : Array Value} {t : TypeId} {fr : Nat × Nat} (hk : w.heap[k]? = some (.cells cs t fr)) : k ≠ b:=by
 obtain ⟨p,h1,h2⟩:=h.ex
 exact h2.ne hk
theorem pl1_any (n : Int) (m : Nat) (w : World) (x0 x1 b : Nat) (ks : List Int) (hm : m ≤ 1099511627776) (h0 : w.heap[x0]? = some (.cells #[.int .i64 (m : Int)] 3 (0,0))) (h : AskJ w b x1 ks) (hk : ks.length ≤ 1000000) :
  Calls Tryz.prog 229 #[.int .i64 n,.pointer (some ⟨x0,0,none⟩),.pointer (some ⟨x1,0,none⟩)] w fun e w' => e = .returned (.bool (placeB m n && !decide (n ∈ ks))) ∧ (placeB m n = true → AskJ w' b x1 (ks ++ [n])) ∧ Only (fun k => k = b) w w':=by
 have HN : Hid (∀ {k : Nat} {cs : Array Value} {t : TypeId} {fr : Nat × Nat},w.heap[k]? = some (.cells cs t fr) → k ≠ b):=h.ne
 obtain ⟨p,h1,h2⟩:=h.ex
 have H1:=Hd h1
 have H2:=Hd h2
 have c0:=cell_of_one h0
 have c1:=cell_of_one h1
 clear h1 h2 h
 have hfr : fromB 0 ((m : Int) - 1) n = placeB m n:=rfl
 cases hn : placeB m n with
 | false =>
  rw [hn] at hfr
  go_enter Tryz.func229,Tryz.ntmps229
  go_wp2_with (first | (go_at_call 141; refine (from_any _ _ _ _).mono ?_; rintro e w' ⟨rfl,he⟩; rw [hfr,he]; clear he))
  go_ret
  exact ⟨rfl,fun h => (by cases h),Only.refl _ _⟩
 | true =>
  rw [hn] at hfr
  have hwf : (Lit.int .i64 n).wf = true:=by
   simp only [placeB,Bool.and_eq_true,decide_eq_true_eq] at hn
   exact WalkArith.wf_i64 Om
  go_enter Tryz.func229,Tryz.ntmps229
  go_wp2_with (first | (go_at_call 141; refine (from_any _ _ _ _).mono ?_; rintro e w' ⟨rfl,he⟩; rw [hfr,he]; clear he) | (go_at_call 243; refine (metI_any n w b p ks H2.out hk hwf).mono ?_; rintro e w' ⟨rfl,ha,hb⟩))
  go_ret
  exact ⟨ret_bool Si,fun _ => ⟨p,heap_only H1.out hb (HN.out H1.out),ha⟩,hb⟩
theorem mayPl_len {l : List Int} {m : Nat} (h : ¬ (1 ≤ l.length ∧ l.length ≤ 8)) : mayPl l m = false:=by
 cases e : mayPl l m with
 | false => rfl
 | true =>
  simp only [mayPl,Bool.and_eq_true,decide_eq_true_eq] at e
  exact absurd e.1 h
theorem fromB_no {a b n : Nat} (h : ¬ (a ≤ n ∧ n ≤ b)) : fromB (a : Int) (b : Int) (n : Int) = false:=by
 cases e : fromB (a : Int) (b : Int) (n : Int) with
 | false => rfl
 | true =>
  simp only [fromB,Bool.and_eq_true,decide_eq_true_eq] at e
  omega
theorem take_snoc {α : Type} (l : List α) (k : Nat) (h : k < l.length) : l.take k ++ [l[k]] = l.take (k + 1):=(List.take_succ_eq_append_getElem h).symm
theorem places_any (a : Option Addr) (cap : Nat) (l : List Int) (m : Nat) (w : World) (hm : m ≤ 1099511627776) (hr : RowR 1 IntR w a l) :
  Calls Tryz.prog 192 #[.slice a l.length cap,.int .i64 (m : Int)] w fun e w' => e = .returned (.bool (mayPl l m)) ∧ Below w.heap.size w w':=by
 have HR:=Hd hr
 clear hr
 by_cases hl : 1 ≤ l.length ∧ l.length ≤ 8
 ·have hfr : fromB 1 8 (l.length : Int) = true:=by simp [fromB]; omega
  have hl' : l.length ≤ 1000000:=by omega
  have HE : Hid (mayPl l m = allB l.length (fun i => ((l[i]?).any fun p => placeB m p) && newIn l i)):=by
   show mayPl l m = _
   simp [mayPl,hl.1,hl.2]
  go_enter Tryz.func192,Tryz.ntmps192
  go_wp2_with fail
  refine (unmetI_any _).mono ?_
  rintro e w1 ⟨p,b,rfl,ha,hb,hB⟩
  have hs:=hb.size
  simp at hs hB
  have HB1 : Hid (Below w.heap.size w w1):=by
   show Below w.heap.size w w1
   (repeat (first | exact Below.refl _ _ | assumption | refine Below.drew ?_ | refine below_drewN ?_ _ | refine Below.alloc ?_ (by first | omega | (simp; done) | (simp; omega)) _ | refine Below.setCell ?_ (by first | omega | (simp; done) | (simp; omega)) _ | refine Below.trans ?_ (Below.mono (by assumption) (by first | omega | (simp; done) | (simp; omega)))))
  have HX : Hid (w1.heap[w.heap.size]? = some (.cells #[.int .i64 (m : Int)] 3 (0,0))):=heap_of (heap_alloc_new w _) hb
  have HA:=Hd ha
  clear ha hb
  go_wp2_with (first
   | (go_at_call 141; refine (from_any _ _ _ _).mono ?_; rintro e w' ⟨rfl,he⟩; rw [hfr,he]; clear he)
   | (go_at_call 194; refine (evIntB_any w _ a cap l w.heap.size w1.heap.size (fun i => ((l[i]?).any fun p => placeB m p) && newIn l i) (fun k wr => wr.heap[w.heap.size]? = some (.cells #[.int .i64 (m : Int)] 3 (0,0)) ∧ AskJ wr b w1.heap.size (l.take k)) hl' HR.out ?_ ?_ ?_ ?_).mono ?_))
  ·exact ⟨heap_of HX.out ((Bxr _ _).alloc Zlr _),p,heap_alloc_new w1 _,HA.out.later ((Bxr _ _).alloc Zlr _)⟩
  ·exact below_two HB1.out ((Bxr _ _).alloc Zlr _)
  ·rintro k v1 v2 ⟨i1,i2⟩ hv
   exact ⟨heap_of i1 hv,i2.later hv⟩
  ·rintro k hk v1 ⟨i1,i2⟩ hv
   refine (pl1_any l[k] m v1 _ _ b (l.take k) hm i1 i2 (by simp; omega)).mono ?_
   rintro e v2 ⟨rfl,g1,g2⟩
   have e1 : ((l[k]?).any fun p => placeB m p) = placeB m l[k]:=by simp [hk]
   have e2 : newIn l k = !decide (l[k] ∈ l.take k):=by simp [newIn,hk]
   refine ⟨ret_bool (by rw [e1,e2]),fun h => ?_,below_only hv g2 Om⟩
   rw [e1,Bool.and_eq_true] at h
   exact ⟨heap_only i1 g2 (i2.ne i1),by rw [← take_snoc l k hk]; exact g1 h.1⟩
  ·rintro e w2 ⟨rfl,hb2⟩
   go_wp2
   go_ret
   exact ⟨ret_bool HE.out.symm,hb2⟩
 ·have hfr : fromB 1 8 (l.length : Int) = false:=fromB_no (a:=1) (b:=8) hl
  have HE : Hid (mayPl l m = false):=mayPl_len hl
  clear hl
  go_enter Tryz.func192,Tryz.ntmps192
  go_wp2_with fail
  refine (unmetI_any _).mono ?_
  rintro e w1 ⟨p,b,rfl,ha,hb,hB⟩
  have hs:=hb.size
  simp at hs hB
  clear ha
  go_wp2_with (first | (go_at_call 141; refine (from_any _ _ _ _).mono ?_; rintro e w' ⟨rfl,he⟩; rw [hfr,he]; clear he))
  go_ret
  exact ⟨ret_bool HE.out.symm,Bz⟩
end TT
end Go.Proofs.YtmmmkjhpmlfopaaGreatDoor
