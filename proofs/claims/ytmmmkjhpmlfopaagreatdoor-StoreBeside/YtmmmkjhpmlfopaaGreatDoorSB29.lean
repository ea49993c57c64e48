/- ZT21 ZT22 ZT23 -/
import Derived.Test.YtmmmkjhpmlfopaaGreatDoorSB28
set_option maxHeartbeats 8000000
set_option maxRecDepth 100000
namespace Go.Proofs.YtmmmkjhpmlfopaaGreatDoor
open Go.RowKit
namespace TT
theorem aeTb_any (w0 w : World) (v : Value) (xs : List UInt8) (a : Option Addr) (cap : Nat) (l : List Tb) (f : Tb → List UInt8) (hb0 : Below w0.heap.size w0 w) (hr : RowR 5 (TbR w0) w0 a l) (hl : l.length ≤ 1000) (h : Ink w w0.heap.size v xs) (hn : (xs ++ lst f l).length ≤ 1099511627776)
  (hC : ∀ k (h : k < l.length) vs u ys w1,TbR w0 l[k] vs → Below w0.heap.size w0 w1 → Ink w1 w0.heap.size u ys → (ys ++ f l[k]).length ≤ 1099511627776 → Calls Tryz.prog 48 #[u,.agg vs.toArray] w1 fun e w2 => ∃ u',e = .returned u' ∧ Ink w2 w0.heap.size u' (ys ++ f l[k]) ∧ Inks w0.heap.size w1 w2) :
  Calls Tryz.prog 47 #[v,.slice a l.length cap,.func (.func 48) #[] #[]] w fun e w' => ∃ v',e = .returned v' ∧ Ink w' w0.heap.size v' (xs ++ lst f l) ∧ Inks w0.heap.size w w':=by
 have HR:=Hd hr
 have HC:=Hd hC
 have HB0:=Hd hb0
 have hs0:=hb0.size
 have HL : Hid ((xs ++ num l.length).length + (l.flatMap f).length ≤ 1099511627776):=by
  show _ ≤ _
  rw [lst,← Zas,Zla] at hn
  exact hn
 have HN:=Hd (num_any v xs l.length w w0.heap.size hs0 Om h (by have:=HL.out; omega))
 obtain ⟨M,hM⟩:=Vx (xs ++ num l.length)
 have HM : Hid (xs ++ lst f l = M ++ l.flatMap f):=by
  show _ = _
  rw [lst,← Zas,hM]
 rw [hM] at HL HN
 clear hr hC hb0 h hn hM
 go_enter Tryz.func47,Tryz.ntmps47
 go_wp2_with fail
 refine HN.out.mono ?_
 rintro e w1 ⟨v1,rfl,i1,k1⟩
 have HI1:=Hd i1
 have HK1:=Hd k1
 clear i1 k1 HN
 go_wp2
 go_loopw [0,15] (fun u i wr => ∃ k : Nat,k ≤ l.length ∧ i = .int .i64 k ∧ Ink wr w0.heap.size u (M ++ (l.take k).flatMap f) ∧ Inks w0.heap.size w wr) (fun _ i _ => l.length - (intOf i).toNat)
 case atStart => exact ⟨0,Nat.zero_le _,rfl,by simpa using HI1.out,HK1.out⟩
 case round =>
  clear HI1 HK1
  obtain ⟨k,hk,rfl,hi,hks⟩:=hrel
  have HI:=Hd hi
  have HK:=Hd hks
  have HB:=Hd (Inks.on HB0.out hks)
  have hsz:=HB.out.size
  clear hi hks
  by_cases hlt : k < l.length
  ·have hlti : (k : Int) < (l.length : Int):=by omega
   have HT : Hid (M ++ (l.take (k + 1)).flatMap f = (M ++ (l.take k).flatMap f) ++ f l[k]):=by
    show _ = _
    rw [flat_take f l k hlt,Zas]
   have HT2 : Hid (((M ++ (l.take k).flatMap f) ++ f l[k]).length ≤ 1099511627776):=by
    show _ ≤ _
    have h1:=flat_le f l (k + 1)
    have h2:=HL.out
    rw [← HT.out,Zla]
    omega
   obtain ⟨b,off,v0,v1,v2,v3,v4,rfl,hR,c0,c1,c2,c3,c4⟩:=HR.out.at5 hlt
   have HRk:=Hd hR
   obtain ⟨pc,cc,pk,ck,px,cx,hR,_,_,_⟩:=hR
   simp only [List.cons.injEq,and_true] at hR
   obtain ⟨rfl,rfl,rfl,rfl,rfl⟩:=hR
   have d0:=(HB.out.cell (cell_lt c0)).trans c0
   have d1:=(HB.out.cell (cell_lt c1)).trans c1
   have d2:=(HB.out.cell (cell_lt c2)).trans c2
   have d3:=(HB.out.cell (cell_lt c3)).trans c3
   have d4:=(HB.out.cell (cell_lt c4)).trans c4
   clear c0 c1 c2 c3 c4
   go_wp2_with fail
   refine (HC.out k hlt _ _ _ _ HRk.out (HB.out.trans (Below.mono Bz hsz)) (HI.out.later Bz) HT2.out).mono ?_
   rintro e w2 ⟨u',rfl,i2,k2⟩
   have HI2 : Hid (Ink w2 w0.heap.size u' (M ++ (l.take (k + 1)).flatMap f)):=by
    show Ink _ _ _ _
    rw [HT.out]
    exact i2
   have HK2:=Hd (HK.out.trans ((Inks.of ((Bxr _ _).alloc Zlr _)).trans k2))
   clear i2 k2 HI HK d0 d1 d2 d3 d4
   go_wp2
   go_roundw
   case rel => exact ⟨k + 1,by omega,by go_num,HI2.out,HK2.out⟩
   case measure => simp [intOf]; omega
  ·have hk' : k = l.length:=by omega
   subst hk'
   have HI2:=HI.out
   rw [List.take_length,← HM.out] at HI2
   have HI3:=Hd HI2
   clear HI2 HI
   go_wp2
   go_ret
   exact ⟨_,rfl,HI3.out,HK.out⟩
theorem aePc_any (w0 w : World) (v : Value) (xs : List UInt8) (a : Option Addr) (cap : Nat) (l : List Pc) (f : Pc → List UInt8) (hb0 : Below w0.heap.size w0 w) (hr : RowR 5 (PcR w0) w0 a l) (hl : l.length ≤ 1000) (h : Ink w w0.heap.size v xs) (hn : (xs ++ lst f l).length ≤ 1099511627776)
  (hC : ∀ k (h : k < l.length) vs u ys w1,PcR w0 l[k] vs → Below w0.heap.size w0 w1 → Ink w1 w0.heap.size u ys → (ys ++ f l[k]).length ≤ 1099511627776 → Calls Tryz.prog 50 #[u,.agg vs.toArray] w1 fun e w2 => ∃ u',e = .returned u' ∧ Ink w2 w0.heap.size u' (ys ++ f l[k]) ∧ Inks w0.heap.size w1 w2) :
  Calls Tryz.prog 49 #[v,.slice a l.length cap,.func (.func 50) #[] #[]] w fun e w' => ∃ v',e = .returned v' ∧ Ink w' w0.heap.size v' (xs ++ lst f l) ∧ Inks w0.heap.size w w':=by
 have HR:=Hd hr
 have HC:=Hd hC
 have HB0:=Hd hb0
 have hs0:=hb0.size
 have HL : Hid ((xs ++ num l.length).length + (l.flatMap f).length ≤ 1099511627776):=by
  show _ ≤ _
  rw [lst,← Zas,Zla] at hn
  exact hn
 have HN:=Hd (num_any v xs l.length w w0.heap.size hs0 Om h (by have:=HL.out; omega))
 obtain ⟨M,hM⟩:=Vx (xs ++ num l.length)
 have HM : Hid (xs ++ lst f l = M ++ l.flatMap f):=by
  show _ = _
  rw [lst,← Zas,hM]
 rw [hM] at HL HN
 clear hr hC hb0 h hn hM
 go_enter Tryz.func49,Tryz.ntmps49
 go_wp2_with fail
 refine HN.out.mono ?_
 rintro e w1 ⟨v1,rfl,i1,k1⟩
 have HI1:=Hd i1
 have HK1:=Hd k1
 clear i1 k1 HN
 go_wp2
 go_loopw [0,15] (fun u i wr => ∃ k : Nat,k ≤ l.length ∧ i = .int .i64 k ∧ Ink wr w0.heap.size u (M ++ (l.take k).flatMap f) ∧ Inks w0.heap.size w wr) (fun _ i _ => l.length - (intOf i).toNat)
 case atStart => exact ⟨0,Nat.zero_le _,rfl,by simpa using HI1.out,HK1.out⟩
 case round =>
  clear HI1 HK1
  obtain ⟨k,hk,rfl,hi,hks⟩:=hrel
  have HI:=Hd hi
  have HK:=Hd hks
  have HB:=Hd (Inks.on HB0.out hks)
  have hsz:=HB.out.size
  clear hi hks
  by_cases hlt : k < l.length
  ·have hlti : (k : Int) < (l.length : Int):=by omega
   have HT : Hid (M ++ (l.take (k + 1)).flatMap f = (M ++ (l.take k).flatMap f) ++ f l[k]):=by
    show _ = _
    rw [flat_take f l k hlt,Zas]
   have HT2 : Hid (((M ++ (l.take k).flatMap f) ++ f l[k]).length ≤ 1099511627776):=by
    show _ ≤ _
    have h1:=flat_le f l (k + 1)
    have h2:=HL.out
    rw [← HT.out,Zla]
    omega
   obtain ⟨b,off,v0,v1,v2,v3,v4,rfl,hR,c0,c1,c2,c3,c4⟩:=HR.out.at5 hlt
   have HRk:=Hd hR
   obtain ⟨pp,cp,pb,cb,hR,_,_⟩:=hR
   simp only [List.cons.injEq,and_true] at hR
   obtain ⟨rfl,rfl,rfl,rfl,rfl⟩:=hR
   have d0:=(HB.out.cell (cell_lt c0)).trans c0
   have d1:=(HB.out.cell (cell_lt c1)).trans c1
   have d2:=(HB.out.cell (cell_lt c2)).trans c2
   have d3:=(HB.out.cell (cell_lt c3)).trans c3
   have d4:=(HB.out.cell (cell_lt c4)).trans c4
   clear c0 c1 c2 c3 c4
   go_wp2_with fail
   refine (HC.out k hlt _ _ _ _ HRk.out (HB.out.trans (Below.mono Bz hsz)) (HI.out.later Bz) HT2.out).mono ?_
   rintro e w2 ⟨u',rfl,i2,k2⟩
   have HI2 : Hid (Ink w2 w0.heap.size u' (M ++ (l.take (k + 1)).flatMap f)):=by
    show Ink _ _ _ _
    rw [HT.out]
    exact i2
   have HK2:=Hd (HK.out.trans ((Inks.of ((Bxr _ _).alloc Zlr _)).trans k2))
   clear i2 k2 HI HK d0 d1 d2 d3 d4
   go_wp2
   go_roundw
   case rel => exact ⟨k + 1,by omega,by go_num,HI2.out,HK2.out⟩
   case measure => simp [intOf]; omega
  ·have hk' : k = l.length:=by omega
   subst hk'
   have HI2:=HI.out
   rw [List.take_length,← HM.out] at HI2
   have HI3:=Hd HI2
   clear HI2 HI
   go_wp2
   go_ret
   exact ⟨_,rfl,HI3.out,HK.out⟩
theorem aeCol_any (w0 w : World) (v : Value) (xs : List UInt8) (a : Option Addr) (cap : Nat) (l : List Col) (f : Col → List UInt8) (hb0 : Below w0.heap.size w0 w) (hr : RowR 3 ColR w0 a l) (hl : l.length ≤ 1000) (h : Ink w w0.heap.size v xs) (hn : (xs ++ lst f l).length ≤ 1099511627776)
  (hC : ∀ k (h : k < l.length) vs u ys w1,ColR l[k] vs → Below w0.heap.size w0 w1 → Ink w1 w0.heap.size u ys → (ys ++ f l[k]).length ≤ 1099511627776 → Calls Tryz.prog 94 #[u,.agg vs.toArray] w1 fun e w2 => ∃ u',e = .returned u' ∧ Ink w2 w0.heap.size u' (ys ++ f l[k]) ∧ Inks w0.heap.size w1 w2) :
  Calls Tryz.prog 93 #[v,.slice a l.length cap,.func (.func 94) #[] #[]] w fun e w' => ∃ v',e = .returned v' ∧ Ink w' w0.heap.size v' (xs ++ lst f l) ∧ Inks w0.heap.size w w':=by
 have HR:=Hd hr
 have HC:=Hd hC
 have HB0:=Hd hb0
 have hs0:=hb0.size
 have HL : Hid ((xs ++ num l.length).length + (l.flatMap f).length ≤ 1099511627776):=by
  show _ ≤ _
  rw [lst,← Zas,Zla] at hn
  exact hn
 have HN:=Hd (num_any v xs l.length w w0.heap.size hs0 Om h (by have:=HL.out; omega))
 obtain ⟨M,hM⟩:=Vx (xs ++ num l.length)
 have HM : Hid (xs ++ lst f l = M ++ l.flatMap f):=by
  show _ = _
  rw [lst,← Zas,hM]
 rw [hM] at HL HN
 clear hr hC hb0 h hn hM
 go_enter Tryz.func93,Tryz.ntmps93
 go_wp2_with fail
 refine HN.out.mono ?_
 rintro e w1 ⟨v1,rfl,i1,k1⟩
 have HI1:=Hd i1
 have HK1:=Hd k1
 clear i1 k1 HN
 go_wp2
 go_loopw [0,15] (fun u i wr => ∃ k : Nat,k ≤ l.length ∧ i = .int .i64 k ∧ Ink wr w0.heap.size u (M ++ (l.take k).flatMap f) ∧ Inks w0.heap.size w wr) (fun _ i _ => l.length - (intOf i).toNat)
 case atStart => exact ⟨0,Nat.zero_le _,rfl,by simpa using HI1.out,HK1.out⟩
 case round =>
  clear HI1 HK1
  obtain ⟨k,hk,rfl,hi,hks⟩:=hrel
  have HI:=Hd hi
  have HK:=Hd hks
  have HB:=Hd (Inks.on HB0.out hks)
  have hsz:=HB.out.size
  clear hi hks
  by_cases hlt : k < l.length
  ·have hlti : (k : Int) < (l.length : Int):=by omega
   have HT : Hid (M ++ (l.take (k + 1)).flatMap f = (M ++ (l.take k).flatMap f) ++ f l[k]):=by
    show _ = _
    rw [flat_take f l k hlt,Zas]
   have HT2 : Hid (((M ++ (l.take k).flatMap f) ++ f l[k]).length ≤ 1099511627776):=by
    show _ ≤ _
    have h1:=flat_le f l (k + 1)
    have h2:=HL.out
    rw [← HT.out,Zla]
    omega
   obtain ⟨b,off,v0,v1,v2,rfl,hR,c0,c1,c2⟩:=HR.out.at3 hlt
   have HRk:=Hd hR
   simp only [ColR] at hR
   simp only [List.cons.injEq,and_true] at hR
   obtain ⟨rfl,rfl,rfl⟩:=hR
   have d0:=(HB.out.cell (cell_lt c0)).trans c0
   have d1:=(HB.out.cell (cell_lt c1)).trans c1
   have d2:=(HB.out.cell (cell_lt c2)).trans c2
   clear c0 c1 c2
   go_wp2_with fail
   refine (HC.out k hlt _ _ _ _ HRk.out (HB.out.trans (Below.mono Bz hsz)) (HI.out.later Bz) HT2.out).mono ?_
   rintro e w2 ⟨u',rfl,i2,k2⟩
   have HI2 : Hid (Ink w2 w0.heap.size u' (M ++ (l.take (k + 1)).flatMap f)):=by
    show Ink _ _ _ _
    rw [HT.out]
    exact i2
   have HK2:=Hd (HK.out.trans ((Inks.of ((Bxr _ _).alloc Zlr _)).trans k2))
   clear i2 k2 HI HK d0 d1 d2
   go_wp2
   go_roundw
   case rel => exact ⟨k + 1,by omega,by go_num,HI2.out,HK2.out⟩
   case measure => simp [intOf]; omega
  ·have hk' : k = l.length:=by omega
   subst hk'
   have HI2:=HI.out
   rw [List.take_length,← HM.out] at HI2
   have HI3:=Hd HI2
   clear HI2 HI
   go_wp2
   go_ret
   exact ⟨_,rfl,HI3.out,HK.out⟩
theorem aeInt_any (w0 w : World) (v : Value) (xs : List UInt8) (a : Option Addr) (cap : Nat) (l : List Int) (f : Int → List UInt8) (hb0 : Below w0.heap.size w0 w) (hr : RowR 1 IntR w0 a l) (hl : l.length ≤ 1000) (h : Ink w w0.heap.size v xs) (hn : (xs ++ lst f l).length ≤ 1099511627776)
  (hC : ∀ k (h : k < l.length) u ys w1,Below w0.heap.size w0 w1 → Ink w1 w0.heap.size u ys → (ys ++ f l[k]).length ≤ 1099511627776 → Calls Tryz.prog 91 #[u,.int .i64 l[k]] w1 fun e w2 => ∃ u',e = .returned u' ∧ Ink w2 w0.heap.size u' (ys ++ f l[k]) ∧ Inks w0.heap.size w1 w2) :
  Calls Tryz.prog 95 #[v,.slice a l.length cap,.func (.func 91) #[] #[]] w fun e w' => ∃ v',e = .returned v' ∧ Ink w' w0.heap.size v' (xs ++ lst f l) ∧ Inks w0.heap.size w w':=by
 have HR:=Hd hr
 have HC:=Hd hC
 have HB0:=Hd hb0
 have hs0:=hb0.size
 have HL : Hid ((xs ++ num l.length).length + (l.flatMap f).length ≤ 1099511627776):=by
  show _ ≤ _
  rw [lst,← Zas,Zla] at hn
  exact hn
 have HN:=Hd (num_any v xs l.length w w0.heap.size hs0 Om h (by have:=HL.out; omega))
 obtain ⟨M,hM⟩:=Vx (xs ++ num l.length)
 have HM : Hid (xs ++ lst f l = M ++ l.flatMap f):=by
  show _ = _
  rw [lst,← Zas,hM]
 rw [hM] at HL HN
 clear hr hC hb0 h hn hM
 go_enter Tryz.func95,Tryz.ntmps95
 go_wp2_with fail
 refine HN.out.mono ?_
 rintro e w1 ⟨v1,rfl,i1,k1⟩
 have HI1:=Hd i1
 have HK1:=Hd k1
 clear i1 k1 HN
 go_wp2
 go_loopw [0,15] (fun u i wr => ∃ k : Nat,k ≤ l.length ∧ i = .int .i64 k ∧ Ink wr w0.heap.size u (M ++ (l.take k).flatMap f) ∧ Inks w0.heap.size w wr) (fun _ i _ => l.length - (intOf i).toNat)
 case atStart => exact ⟨0,Nat.zero_le _,rfl,by simpa using HI1.out,HK1.out⟩
 case round =>
  clear HI1 HK1
  obtain ⟨k,hk,rfl,hi,hks⟩:=hrel
  have HI:=Hd hi
  have HK:=Hd hks
  have HB:=Hd (Inks.on HB0.out hks)
  have hsz:=HB.out.size
  clear hi hks
  by_cases hlt : k < l.length
  ·have hlti : (k : Int) < (l.length : Int):=by omega
   have HT : Hid (M ++ (l.take (k + 1)).flatMap f = (M ++ (l.take k).flatMap f) ++ f l[k]):=by
    show _ = _
    rw [flat_take f l k hlt,Zas]
   have HT2 : Hid (((M ++ (l.take k).flatMap f) ++ f l[k]).length ≤ 1099511627776):=by
    show _ ≤ _
    have h1:=flat_le f l (k + 1)
    have h2:=HL.out
    rw [← HT.out,Zla]
    omega
   obtain ⟨b,off,v0,rfl,hR,c0⟩:=HR.out.at1 hlt
   simp only [IntR] at hR
   simp only [List.cons.injEq,and_true] at hR
   obtain rfl:=hR
   have d0:=(HB.out.cell (cell_lt c0)).trans c0
   clear c0
   go_wp2_with fail
   refine (HC.out k hlt _ _ _ (HB.out.trans (Below.mono Bz hsz)) (HI.out.later Bz) HT2.out).mono ?_
   rintro e w2 ⟨u',rfl,i2,k2⟩
   have HI2 : Hid (Ink w2 w0.heap.size u' (M ++ (l.take (k + 1)).flatMap f)):=by
    show Ink _ _ _ _
    rw [HT.out]
    exact i2
   have HK2:=Hd (HK.out.trans (k2))
   clear i2 k2 HI HK d0
   go_wp2
   go_roundw
   case rel => exact ⟨k + 1,by omega,by go_num,HI2.out,HK2.out⟩
   case measure => simp [intOf]; omega
  ·have hk' : k = l.length:=by omega
   subst hk'
   have HI2:=HI.out
   rw [List.take_length,← HM.out] at HI2
   have HI3:=Hd HI2
   clear HI2 HI
   go_wp2
   go_ret
   exact ⟨_,rfl,HI3.out,HK.out⟩
theorem aeIx_any (w0 w : World) (v : Value) (xs : List UInt8) (a : Option Addr) (cap : Nat) (l : List Ix) (f : Ix → List UInt8) (hb0 : Below w0.heap.size w0 w) (hr : RowR 3 (IxR w0) w0 a l) (hl : l.length ≤ 1000) (h : Ink w w0.heap.size v xs) (hn : (xs ++ lst f l).length ≤ 1099511627776)
  (hC : ∀ k (h : k < l.length) vs u ys w1,IxR w0 l[k] vs → Below w0.heap.size w0 w1 → Ink w1 w0.heap.size u ys → (ys ++ f l[k]).length ≤ 1099511627776 → Calls Tryz.prog 97 #[u,.agg vs.toArray] w1 fun e w2 => ∃ u',e = .returned u' ∧ Ink w2 w0.heap.size u' (ys ++ f l[k]) ∧ Inks w0.heap.size w1 w2) :
  Calls Tryz.prog 96 #[v,.slice a l.length cap,.func (.func 97) #[] #[]] w fun e w' => ∃ v',e = .returned v' ∧ Ink w' w0.heap.size v' (xs ++ lst f l) ∧ Inks w0.heap.size w w':=by
 have HR:=Hd hr
 have HC:=Hd hC
 have HB0:=Hd hb0
 have hs0:=hb0.size
 have HL : Hid ((xs ++ num l.length).length + (l.flatMap f).length ≤ 1099511627776):=by
  show _ ≤ _
  rw [lst,← Zas,Zla] at hn
  exact hn
 have HN:=Hd (num_any v xs l.length w w0.heap.size hs0 Om h (by have:=HL.out; omega))
 obtain ⟨M,hM⟩:=Vx (xs ++ num l.length)
 have HM : Hid (xs ++ lst f l = M ++ l.flatMap f):=by
  show _ = _
  rw [lst,← Zas,hM]
 rw [hM] at HL HN
 clear hr hC hb0 h hn hM
 go_enter Tryz.func96,Tryz.ntmps96
 go_wp2_with fail
 refine HN.out.mono ?_
 rintro e w1 ⟨v1,rfl,i1,k1⟩
 have HI1:=Hd i1
 have HK1:=Hd k1
 clear i1 k1 HN
 go_wp2
 go_loopw [0,15] (fun u i wr => ∃ k : Nat,k ≤ l.length ∧ i = .int .i64 k ∧ Ink wr w0.heap.size u (M ++ (l.take k).flatMap f) ∧ Inks w0.heap.size w wr) (fun _ i _ => l.length - (intOf i).toNat)
 case atStart => exact ⟨0,Nat.zero_le _,rfl,by simpa using HI1.out,HK1.out⟩
 case round =>
  clear HI1 HK1
  obtain ⟨k,hk,rfl,hi,hks⟩:=hrel
  have HI:=Hd hi
  have HK:=Hd hks
  have HB:=Hd (Inks.on HB0.out hks)
  have hsz:=HB.out.size
  clear hi hks
  by_cases hlt : k < l.length
  ·have hlti : (k : Int) < (l.length : Int):=by omega
   have HT : Hid (M ++ (l.take (k + 1)).flatMap f = (M ++ (l.take k).flatMap f) ++ f l[k]):=by
    show _ = _
    rw [flat_take f l k hlt,Zas]
   have HT2 : Hid (((M ++ (l.take k).flatMap f) ++ f l[k]).length ≤ 1099511627776):=by
    show _ ≤ _
    have h1:=flat_le f l (k + 1)
    have h2:=HL.out
    rw [← HT.out,Zla]
    omega
   obtain ⟨b,off,v0,v1,v2,rfl,hR,c0,c1,c2⟩:=HR.out.at3 hlt
   have HRk:=Hd hR
   obtain ⟨p,cp,hR,_⟩:=hR
   simp only [List.cons.injEq,and_true] at hR
   obtain ⟨rfl,rfl,rfl⟩:=hR
   have d0:=(HB.out.cell (cell_lt c0)).trans c0
   have d1:=(HB.out.cell (cell_lt c1)).trans c1
   have d2:=(HB.out.cell (cell_lt c2)).trans c2
   clear c0 c1 c2
   go_wp2_with fail
   refine (HC.out k hlt _ _ _ _ HRk.out (HB.out.trans (Below.mono Bz hsz)) (HI.out.later Bz) HT2.out).mono ?_
   rintro e w2 ⟨u',rfl,i2,k2⟩
   have HI2 : Hid (Ink w2 w0.heap.size u' (M ++ (l.take (k + 1)).flatMap f)):=by
    show Ink _ _ _ _
    rw [HT.out]
    exact i2
   have HK2:=Hd (HK.out.trans ((Inks.of ((Bxr _ _).alloc Zlr _)).trans k2))
   clear i2 k2 HI HK d0 d1 d2
   go_wp2
   go_roundw
   case rel => exact ⟨k + 1,by omega,by go_num,HI2.out,HK2.out⟩
   case measure => simp [intOf]; omega
  ·have hk' : k = l.length:=by omega
   subst hk'
   have HI2:=HI.out
   rw [List.take_length,← HM.out] at HI2
   have HI3:=Hd HI2
   clear HI2 HI
   go_wp2
   go_ret
   exact ⟨_,rfl,HI3.out,HK.out⟩
theorem aePm_any (w0 w : World) (v : Value) (xs : List UInt8) (a : Option Addr) (cap : Nat) (l : List Pm) (f : Pm → List UInt8) (hb0 : Below w0.heap.size w0 w) (hr : RowR 2 PmR w0 a l) (hl : l.length ≤ 1000) (h : Ink w w0.heap.size v xs) (hn : (xs ++ lst f l).length ≤ 1099511627776)
  (hC : ∀ k (h : k < l.length) vs u ys w1,PmR l[k] vs → Below w0.heap.size w0 w1 → Ink w1 w0.heap.size u ys → (ys ++ f l[k]).length ≤ 1099511627776 → Calls Tryz.prog 99 #[u,.agg vs.toArray] w1 fun e w2 => ∃ u',e = .returned u' ∧ Ink w2 w0.heap.size u' (ys ++ f l[k]) ∧ Inks w0.heap.size w1 w2) :
  Calls Tryz.prog 98 #[v,.slice a l.length cap,.func (.func 99) #[] #[]] w fun e w' => ∃ v',e = .returned v' ∧ Ink w' w0.heap.size v' (xs ++ lst f l) ∧ Inks w0.heap.size w w':=by
 have HR:=Hd hr
 have HC:=Hd hC
 have HB0:=Hd hb0
 have hs0:=hb0.size
 have HL : Hid ((xs ++ num l.length).length + (l.flatMap f).length ≤ 1099511627776):=by
  show _ ≤ _
  rw [lst,← Zas,Zla] at hn
  exact hn
 have HN:=Hd (num_any v xs l.length w w0.heap.size hs0 Om h (by have:=HL.out; omega))
 obtain ⟨M,hM⟩:=Vx (xs ++ num l.length)
 have HM : Hid (xs ++ lst f l = M ++ l.flatMap f):=by
  show _ = _
  rw [lst,← Zas,hM]
 rw [hM] at HL HN
 clear hr hC hb0 h hn hM
 go_enter Tryz.func98,Tryz.ntmps98
 go_wp2_with fail
 refine HN.out.mono ?_
 rintro e w1 ⟨v1,rfl,i1,k1⟩
 have HI1:=Hd i1
 have HK1:=Hd k1
 clear i1 k1 HN
 go_wp2
 go_loopw [0,15] (fun u i wr => ∃ k : Nat,k ≤ l.length ∧ i = .int .i64 k ∧ Ink wr w0.heap.size u (M ++ (l.take k).flatMap f) ∧ Inks w0.heap.size w wr) (fun _ i _ => l.length - (intOf i).toNat)
 case atStart => exact ⟨0,Nat.zero_le _,rfl,by simpa using HI1.out,HK1.out⟩
 case round =>
  clear HI1 HK1
  obtain ⟨k,hk,rfl,hi,hks⟩:=hrel
  have HI:=Hd hi
  have HK:=Hd hks
  have HB:=Hd (Inks.on HB0.out hks)
  have hsz:=HB.out.size
  clear hi hks
  by_cases hlt : k < l.length
  ·have hlti : (k : Int) < (l.length : Int):=by omega
   have HT : Hid (M ++ (l.take (k + 1)).flatMap f = (M ++ (l.take k).flatMap f) ++ f l[k]):=by
    show _ = _
    rw [flat_take f l k hlt,Zas]
   have HT2 : Hid (((M ++ (l.take k).flatMap f) ++ f l[k]).length ≤ 1099511627776):=by
    show _ ≤ _
    have h1:=flat_le f l (k + 1)
    have h2:=HL.out
    rw [← HT.out,Zla]
    omega
   obtain ⟨b,off,v0,v1,rfl,hR,c0,c1⟩:=HR.out.at2 hlt
   have HRk:=Hd hR
   simp only [PmR] at hR
   simp only [List.cons.injEq,and_true] at hR
   obtain ⟨rfl,rfl⟩:=hR
   have d0:=(HB.out.cell (cell_lt c0)).trans c0
   have d1:=(HB.out.cell (cell_lt c1)).trans c1
   clear c0 c1
   go_wp2_with fail
   refine (HC.out k hlt _ _ _ _ HRk.out (HB.out.trans (Below.mono Bz hsz)) (HI.out.later Bz) HT2.out).mono ?_
   rintro e w2 ⟨u',rfl,i2,k2⟩
   have HI2 : Hid (Ink w2 w0.heap.size u' (M ++ (l.take (k + 1)).flatMap f)):=by
    show Ink _ _ _ _
    rw [HT.out]
    exact i2
   have HK2:=Hd (HK.out.trans ((Inks.of ((Bxr _ _).alloc Zlr _)).trans k2))
   clear i2 k2 HI HK d0 d1
   go_wp2
   go_roundw
   case rel => exact ⟨k + 1,by omega,by go_num,HI2.out,HK2.out⟩
   case measure => simp [intOf]; omega
  ·have hk' : k = l.length:=by omega
   subst hk'
   have HI2:=HI.out
   rw [List.take_length,← HM.out] at HI2
   have HI3:=Hd HI2
   clear HI2 HI
   go_wp2
   go_ret
   exact ⟨_,rfl,HI3.out,HK.out⟩
theorem aeStr_any (w0 w : World) (v : Value) (xs : List UInt8) (a : Option Addr) (cap : Nat) (l : List ByteArray) (f : ByteArray → List UInt8) (hb0 : Below w0.heap.size w0 w) (hr : RowR 1 StrR w0 a l) (hl : l.length ≤ 1000) (h : Ink w w0.heap.size v xs) (hn : (xs ++ lst f l).length ≤ 1099511627776)
  (hC : ∀ k (h : k < l.length) u ys w1,Below w0.heap.size w0 w1 → Ink w1 w0.heap.size u ys → (ys ++ f l[k]).length ≤ 1099511627776 → Calls Tryz.prog 92 #[u,.string l[k]] w1 fun e w2 => ∃ u',e = .returned u' ∧ Ink w2 w0.heap.size u' (ys ++ f l[k]) ∧ Inks w0.heap.size w1 w2) :
  Calls Tryz.prog 100 #[v,.slice a l.length cap,.func (.func 92) #[] #[]] w fun e w' => ∃ v',e = .returned v' ∧ Ink w' w0.heap.size v' (xs ++ lst f l) ∧ Inks w0.heap.size w w':=by
 have HR:=Hd hr
 have HC:=Hd hC
 have HB0:=Hd hb0
 have hs0:=hb0.size
 have HL : Hid ((xs ++ num l.length).length + (l.flatMap f).length ≤ 1099511627776):=by
  show _ ≤ _
  rw [lst,← Zas,Zla] at hn
  exact hn
 have HN:=Hd (num_any v xs l.length w w0.heap.size hs0 Om h (by have:=HL.out; omega))
 obtain ⟨M,hM⟩:=Vx (xs ++ num l.length)
 have HM : Hid (xs ++ lst f l = M ++ l.flatMap f):=by
  show _ = _
  rw [lst,← Zas,hM]
 rw [hM] at HL HN
 clear hr hC hb0 h hn hM
 go_enter Tryz.func100,Tryz.ntmps100
 go_wp2_with fail
 refine HN.out.mono ?_
 rintro e w1 ⟨v1,rfl,i1,k1⟩
 have HI1:=Hd i1
 have HK1:=Hd k1
 clear i1 k1 HN
 go_wp2
 go_loopw [0,15] (fun u i wr => ∃ k : Nat,k ≤ l.length ∧ i = .int .i64 k ∧ Ink wr w0.heap.size u (M ++ (l.take k).flatMap f) ∧ Inks w0.heap.size w wr) (fun _ i _ => l.length - (intOf i).toNat)
 case atStart => exact ⟨0,Nat.zero_le _,rfl,by simpa using HI1.out,HK1.out⟩
 case round =>
  clear HI1 HK1
  obtain ⟨k,hk,rfl,hi,hks⟩:=hrel
  have HI:=Hd hi
  have HK:=Hd hks
  have HB:=Hd (Inks.on HB0.out hks)
  have hsz:=HB.out.size
  clear hi hks
  by_cases hlt : k < l.length
  ·have hlti : (k : Int) < (l.length : Int):=by omega
   have HT : Hid (M ++ (l.take (k + 1)).flatMap f = (M ++ (l.take k).flatMap f) ++ f l[k]):=by
    show _ = _
    rw [flat_take f l k hlt,Zas]
   have HT2 : Hid (((M ++ (l.take k).flatMap f) ++ f l[k]).length ≤ 1099511627776):=by
    show _ ≤ _
    have h1:=flat_le f l (k + 1)
    have h2:=HL.out
    rw [← HT.out,Zla]
    omega
   obtain ⟨b,off,v0,rfl,hR,c0⟩:=HR.out.at1 hlt
   simp only [StrR] at hR
   simp only [List.cons.injEq,and_true] at hR
   obtain rfl:=hR
   have d0:=(HB.out.cell (cell_lt c0)).trans c0
   clear c0
   go_wp2_with fail
   refine (HC.out k hlt _ _ _ (HB.out.trans (Below.mono Bz hsz)) (HI.out.later Bz) HT2.out).mono ?_
   rintro e w2 ⟨u',rfl,i2,k2⟩
   have HI2 : Hid (Ink w2 w0.heap.size u' (M ++ (l.take (k + 1)).flatMap f)):=by
    show Ink _ _ _ _
    rw [HT.out]
    exact i2
   have HK2:=Hd (HK.out.trans (k2))
   clear i2 k2 HI HK d0
   go_wp2
   go_roundw
   case rel => exact ⟨k + 1,by omega,by go_num,HI2.out,HK2.out⟩
   case measure => simp [intOf]; omega
  ·have hk' : k = l.length:=by omega
   subst hk'
   have HI2:=HI.out
   rw [List.take_length,← HM.out] at HI2
   have HI3:=Hd HI2
   clear HI2 HI
   go_wp2
   go_ret
   exact ⟨_,rfl,HI3.out,HK.out⟩
theorem two_cells {w : World} {x : Nat} {a b : Value} {t : TypeId} (h : w.heap[x]? = some (.cells #[a,b] t (0,0))) : w.cell? ⟨x,0,none⟩ = some a ∧ w.cell? ⟨x,1,none⟩ = some b:=by
 refine ⟨?_,?_⟩ <;> simp [World.cell?,h]
theorem three_of {w : World} {x : Nat} {a b c : Value} {t : TypeId} (h : w.heap[x]? = some (.cells #[a,b,c] t (0,0))) : w.cell? ⟨x,0,none⟩ = some a ∧ w.cell? ⟨x,1,none⟩ = some b ∧ w.cell? ⟨x,2,none⟩ = some c:=by
 refine ⟨?_,?_,?_⟩ <;> simp [World.cell?,h]
theorem enPm_any (c : Pm) (vs : List Value) (w : World) (B : Nat) (v : Value) (xs : List UInt8) (hR : PmR c vs) (hB : B ≤ w.heap.size) (hs : c.nm.size < 2097152) (ht : 0 ≤ c.ty ∧ c.ty < 2097152) (h : Ink w B v xs) (hl : (xs ++ encPm c).length ≤ 1099511627776) :
  Calls Tryz.prog 99 #[v,.agg vs.toArray] w fun e w' => ∃ v',e = .returned v' ∧ Ink w' B v' (xs ++ encPm c) ∧ Inks B w w':=by
 obtain ⟨nm,ty⟩:=c
 obtain rfl:=hR
 simp only at hs ht
 obtain ⟨n,rfl⟩ : ∃ n : Nat,ty = (n : Int):=⟨ty.toNat,by omega⟩
 have hn : n < 2097152:=by omega
 clear ht
 have HE : Hid (xs ++ txt nm ++ num n = xs ++ encPm ⟨nm,(n : Int)⟩):=by
  show _ = _
  simp [encPm,numI,List.append_assoc]
 rw [← HE.out] at hl ⊢
 have HI : Hid (∀ W,Below w.heap.size w W → Ink W B v xs):=fun W h' => h.later h'
 have HL:=Hd hl
 clear h hl HE
 go_enter Tryz.func99,Tryz.ntmps99
 go_wp2
 go_region_law (first
  | (go_simp; go_at_call 92; refine (text_any v (xs) nm _ B (by have:=hB; first | omega | (simp; omega)) hs (HI.out _ Bz) (by have:=HL.out; simp only [List.length_append] at this ⊢; omega)).mono ?_; rintro e w1 ⟨v1,rfl,i1,k1⟩; (have s1:=k1.size); (try simp at s1); (have b1 : w1.heap[w.heap.size]? = some (.cells #[.string nm,.int .i64 (n : Int)] 171 (0,0)):=k1.heap (heap_alloc_new w (.cells #[.string nm,.int .i64 (n : Int)] 171 (0,0))) (by decide)); obtain ⟨x0,x1⟩:=two_cells b1)
  | (go_simp; go_at_call 91; refine (num_any v1 (xs ++ txt nm) n _ B (by have:=hB; first | omega | (simp; omega)) hn (i1) (by have:=HL.out; simp only [List.length_append] at this ⊢; omega)).mono ?_; rintro e w2 ⟨v2,rfl,i2,k2⟩; (have s2:=k2.size); (try simp at s2); (have b2 : w2.heap[w.heap.size]? = some (.cells #[.string nm,.int .i64 (n : Int)] 171 (0,0)):=k2.heap b1 (by decide))))
 all_goals
  clear b1 b2 x0 x1
  go_wp2
  go_ret
  exact ⟨_,rfl,i2,(((Inks.of (((Bxr _ _).alloc Zlr _).drew)).trans k1).trans k2)⟩
theorem enCol_any (c : Col) (vs : List Value) (w : World) (B : Nat) (v : Value) (xs : List UInt8) (hR : ColR c vs) (hB : B ≤ w.heap.size) (hs : c.nm.size < 2097152) (ht : 0 ≤ c.ty ∧ c.ty < 2097152) (h : Ink w B v xs) (hl : (xs ++ encCol c).length ≤ 1099511627776) :
  Calls Tryz.prog 94 #[v,.agg vs.toArray] w fun e w' => ∃ v',e = .returned v' ∧ Ink w' B v' (xs ++ encCol c) ∧ Inks B w w':=by
 obtain ⟨nm,ty,nn⟩:=c
 obtain rfl:=hR
 simp only at hs ht
 obtain ⟨n,rfl⟩ : ∃ n : Nat,ty = (n : Int):=⟨ty.toNat,by omega⟩
 have hn : n < 2097152:=by omega
 clear ht
 have HE : Hid (xs ++ txt nm ++ num n ++ flag nn = xs ++ encCol ⟨nm,(n : Int),nn⟩):=by
  show _ = _
  simp [encCol,numI,List.append_assoc]
 rw [← HE.out] at hl ⊢
 have HI : Hid (∀ W,Below w.heap.size w W → Ink W B v xs):=fun W h' => h.later h'
 have HL:=Hd hl
 clear h hl HE
 go_enter Tryz.func94,Tryz.ntmps94
 go_wp2
 go_region_law (first
  | (go_simp; go_at_call 92; refine (text_any v (xs) nm _ B (by have:=hB; first | omega | (simp; omega)) hs (HI.out _ Bz) (by have:=HL.out; simp only [List.length_append] at this ⊢; omega)).mono ?_; rintro e w1 ⟨v1,rfl,i1,k1⟩; (have s1:=k1.size); (try simp at s1); (have b1 : w1.heap[w.heap.size]? = some (.cells #[.string nm,.int .i64 (n : Int),.bool nn] 62 (0,0)):=k1.heap (heap_alloc_new w (.cells #[.string nm,.int .i64 (n : Int),.bool nn] 62 (0,0))) (by decide)); obtain ⟨x0,x1,x2⟩:=three_of b1)
  | (go_simp; go_at_call 91; refine (num_any v1 (xs ++ txt nm) n _ B (by have:=hB; first | omega | (simp; omega)) hn (i1) (by have:=HL.out; simp only [List.length_append] at this ⊢; omega)).mono ?_; rintro e w2 ⟨v2,rfl,i2,k2⟩; (have s2:=k2.size); (try simp at s2); (have b2 : w2.heap[w.heap.size]? = some (.cells #[.string nm,.int .i64 (n : Int),.bool nn] 62 (0,0)):=k2.heap b1 (by decide)); obtain ⟨x0,x1,x2⟩:=three_of b2)
  | (go_simp; go_at_call 142; refine (bool_any v2 (xs ++ txt nm ++ num n) nn _ B (by have:=hB; first | omega | (simp; omega)) (i2) (by have:=HL.out; simp only [List.length_append] at this ⊢; omega)).mono ?_; rintro e w3 ⟨v3,rfl,i3,k3⟩; (have s3:=k3.size); (try simp at s3); (have b3 : w3.heap[w.heap.size]? = some (.cells #[.string nm,.int .i64 (n : Int),.bool nn] 62 (0,0)):=k3.heap b2 (by decide))))
 all_goals
  clear b1 b2 b3 x0 x1 x2
  go_wp2
  go_ret
  exact ⟨_,rfl,i3,((((Inks.of (((Bxr _ _).alloc Zlr _).drew)).trans k1).trans k2).trans k3)⟩
theorem numC (w0 : World) (l : List Int) (hc : ∀ p ∈ l,0 ≤ p ∧ p < 2097152) : ∀ k (h : k < l.length) u ys w1,Below w0.heap.size w0 w1 → Ink w1 w0.heap.size u ys → (ys ++ numI l[k]).length ≤ 1099511627776 → Calls Tryz.prog 91 #[u,.int .i64 l[k]] w1 fun e w2 => ∃ u',e = .returned u' ∧ Ink w2 w0.heap.size u' (ys ++ numI l[k]) ∧ Inks w0.heap.size w1 w2:=by
 intro k h u ys w1 hb hi hl
 have h1:=hc _ (List.getElem_mem h)
 have h2 : ((l[k].toNat : Nat) : Int) = l[k]:=by omega
 have:=num_any u ys l[k].toNat w1 w0.heap.size hb.size Om hi hl
 rw [h2] at this
 exact this
theorem five_cells {w : World} {x : Nat} {a b c d e : Value} {t : TypeId} (h : w.heap[x]? = some (.cells #[a,b,c,d,e] t (0,0))) : w.cell? ⟨x,0,none⟩ = some a ∧ w.cell? ⟨x,1,none⟩ = some b ∧ w.cell? ⟨x,2,none⟩ = some c ∧ w.cell? ⟨x,3,none⟩ = some d ∧ w.cell? ⟨x,4,none⟩ = some e:=by
 refine ⟨?_,?_,?_,?_,?_⟩ <;> simp [World.cell?,h]
theorem enIx_any (c : Ix) (vs : List Value) (w0 w : World) (B : Nat) (v : Value) (xs : List UInt8) (hR : IxR w0 c vs) (hB : B ≤ w.heap.size) (hBw : w0.heap.size = B) (hb0 : Below w0.heap.size w0 w) (hs : c.nm.size < 2097152) (hn : c.cols.length ≤ 1000) (hc : ∀ p ∈ c.cols,0 ≤ p ∧ p < 2097152) (h : Ink w B v xs) (hl : (xs ++ encIx c).length ≤ 1099511627776) :
  Calls Tryz.prog 97 #[v,.agg vs.toArray] w fun e w' => ∃ v',e = .returned v' ∧ Ink w' B v' (xs ++ encIx c) ∧ Inks B w w':=by
 subst hBw
 have HB0 : Hid (∀ W,Below w.heap.size w W → Below w0.heap.size w0 W):=fun W h1 => hb0.trans (h1.mono hb0.size)
 obtain ⟨nm,cols,un⟩:=c
 obtain ⟨p,cp,rfl,r1⟩:=hR
 have HR:=Hd r1
 simp only at hs hn hc
 have HCn:=Hd (numC w0 cols hc)
 clear hc r1 hb0
 have HE : Hid (xs ++ txt nm ++ flag un ++ lst numI cols = xs ++ encIx ⟨nm,cols,un⟩):=by
  show _ = _
  simp [encIx,List.append_assoc]
 rw [← HE.out] at hl ⊢
 have HI : Hid (∀ W,Below w.heap.size w W → Ink W w0.heap.size v xs):=fun W h' => h.later h'
 have HL:=Hd hl
 clear h hl HE
 go_enter Tryz.func97,Tryz.ntmps97
 go_wp2
 go_region_law (first
  | (go_simp; go_at_call 92; refine (text_any v (xs) nm _ w0.heap.size (by have:=hB; first | omega | (simp; omega)) hs (HI.out _ Bz) (by have:=HL.out; simp only [List.length_append] at this ⊢; omega)).mono ?_; rintro e w1 ⟨v1,rfl,i1,k1⟩; (have s1:=k1.size); (try simp at s1); (have b1 : w1.heap[w.heap.size]? = some (.cells #[.string nm,.slice p cols.length cp,.bool un] 64 (0,0)):=k1.heap (heap_alloc_new w (.cells #[.string nm,.slice p cols.length cp,.bool un] 64 (0,0))) (by decide)); obtain ⟨x0,x1,x2⟩:=three_of b1)
  | (go_simp; go_at_call 142; refine (bool_any v1 (xs ++ txt nm) un _ w0.heap.size (by have:=hB; first | omega | (simp; omega)) (i1) (by have:=HL.out; simp only [List.length_append] at this ⊢; omega)).mono ?_; rintro e w2 ⟨v2,rfl,i2,k2⟩; (have s2:=k2.size); (try simp at s2); (have b2 : w2.heap[w.heap.size]? = some (.cells #[.string nm,.slice p cols.length cp,.bool un] 64 (0,0)):=k2.heap b1 (by decide)); obtain ⟨x0,x1,x2⟩:=three_of b2)
  | (go_simp; go_at_call 95; refine (aeInt_any w0 _ v2 (xs ++ txt nm ++ flag un) p cp cols numI (Inks.on (Inks.on (HB0.out _ Bz) k1) k2) HR.out hn (i2) (by have:=HL.out; simp only [List.length_append] at this ⊢; omega) HCn.out).mono ?_; rintro e w3 ⟨v3,rfl,i3,k3⟩; (have s3:=k3.size); (try simp at s3); (have b3 : w3.heap[w.heap.size]? = some (.cells #[.string nm,.slice p cols.length cp,.bool un] 64 (0,0)):=k3.heap b2 (by decide))))
 all_goals
  clear b1 b2 b3 x0 x1 x2
  go_wp2
  go_ret
  exact ⟨_,rfl,i3,((((Inks.of (((Bxr _ _).alloc Zlr _).drew)).trans k1).trans k2).trans k3)⟩
end TT
end Go.Proofs.YtmmmkjhpmlfopaaGreatDoor
