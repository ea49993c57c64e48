/- N30u N30 -/
import Derived.Test.YteolnlcmnaknnaaGreatDoorTN27
import Derived.Deep.CutRange
set_option maxHeartbeats 4000000
set_option maxRecDepth 100000
namespace Go.Proofs.YteolnlcmnaknnaaGreatDoor
open Go.RowKit
theorem rstmt_2 (w : World) (tb jn : ByteArray) (lo lw li : List Ex) (st : Bool) (ls : List Se) (lg : List Ex) (lq : List So) (ll : List Int) (pl ja : Int) (a0 a1 a2 a3 a4 a5 a6 : Option Addr) (c0 c1 c2 c3 c4 c5 c6 : Nat) (htb : tb.size ≤ 16) (xw : List UInt8) (hxw : xw.length ≤ 400000000000000000) (hw : (∀ W,Below w.heap.size w W → Calls Tryz.prog 48 #[.agg #[.int .i64 2,.string tb,.string jn,.slice a0 lo.length c0,.slice a1 lw.length c1,.slice a2 li.length c2,.bool st,.slice a3 ls.length c3,.slice a4 lg.length c4,.slice a5 lq.length c5,.slice a6 ll.length c6,.int .i64 pl,.int .i64 ja]] W (RP xw W))) (ks : List Value) (hlk : ls.length = ks.length) (hr : SRow w a3 ls ks) (hs : ∀ i (h' : i < ks.length),∃ p m c,ks[i] = .slice p m c) (hlen : ls.length ≤ 16) (hn : ∀ x ∈ ls,x.1.size ≤ 16 ∧ (xE 1 x.2.1).length ≤ 200000000000000000) (hC : ∀ k (h : k < ls.length) (h' : k < ks.length) (W : World),Below w.heap.size w W → Calls Tryz.prog 50 #[.agg (exC ls[k].2.1 ks[k]).toArray] W (RP (xE 1 ls[k].2.1) W)) : Calls Tryz.prog 17 #[.agg #[.int .i64 2,.string tb,.string jn,.slice a0 lo.length c0,.slice a1 lw.length c1,.slice a2 li.length c2,.bool st,.slice a3 ls.length c3,.slice a4 lg.length c4,.slice a5 lq.length c5,.slice a6 ll.length c6,.int .i64 pl,.int .i64 ja]] w (RP (([85,80,68,65,84,69,32] : List UInt8) ++ tb.data.toList ++ ([32,83,69,84,32] : List UInt8) ++ laid [] [44,32] xSe ls ++ xw) w):=by
 obtain ⟨Y,hY⟩ : ∃ Y,(([85,80,68,65,84,69,32] : List UInt8) ++ tb.data.toList ++ ([32,83,69,84,32] : List UInt8) ++ laid [] [44,32] xSe ls ++ xw) = Y:=⟨_,rfl⟩
 rw [hY]
 have HY:=Lib.hid hY
 clear hY
 have HW:=Lib.hid hw
 have HR:=Lib.hid hr
 have HC:=Lib.hid hC
 have HLK:=Lib.hid hlk
 have HS:=Lib.hid hs
 have HF:=Lib.hid hn
 clear hw hr hC hlk hs hn
 obtain ⟨W1,hW1⟩ : ∃ W,w.alloc (.cells #[.int .i64 2,.string tb,.string jn,.slice a0 lo.length c0,.slice a1 lw.length c1,.slice a2 li.length c2,.bool st,.slice a3 ls.length c3,.slice a4 lg.length c4,.slice a5 lq.length c5,.slice a6 ll.length c6,.int .i64 pl,.int .i64 ja] 27) = W:=⟨_,rfl⟩
 have HB1 : Hid (Below w.heap.size w W1):=Lib.hid (hW1 ▸ (Below.refl _ _).alloc (Nat.le_refl _) _)
 have HN1 : Hid (W1.heap[w.heap.size]? = some (.cells #[.int .i64 2,.string tb,.string jn,.slice a0 lo.length c0,.slice a1 lw.length c1,.slice a2 li.length c2,.bool st,.slice a3 ls.length c3,.slice a4 lg.length c4,.slice a5 lq.length c5,.slice a6 ll.length c6,.int .i64 pl,.int .i64 ja] 27 (0,0))):=Lib.hid (hW1 ▸ heap_alloc_new w _)
 have z1:=thirt_of HN1.out
 go_enter Tryz.func17,Tryz.ntmps17
 go_wp2_with fail
 clear hW1
 refine (HW.out _ HB1.out).mono ?_
 rintro e w2 ⟨s0,rfl,hs,hb⟩
 have HS0:=Lib.hid hs
 have HB2:=Hbt HB1 hb
 have HN2:=Hbk hb HN1
 have e1 : s0.data.toList.length = s0.size:=by simp
 have hzs0 : s0.size ≤ 400000000000000000:=by rw [← e1,hs]; exact (by omega)
 clear e1
 clear hb hs z1 HN1
 have z1:=thirt_of HN2.out
 have HC0 : Hid (w2.heap[w.heap.size]? = some (.cells #[.int .i64 2,.string tb,.string jn,.slice a0 lo.length c0,.slice a1 lw.length c1,.slice a2 li.length c2,.bool st,.slice a3 ls.length c3,.slice a4 lg.length c4,.slice a5 lq.length c5,.slice a6 ll.length c6,.int .i64 pl,.int .i64 ja] 27 (0,0))):=HN2
 clear HN2 HB1
 have hp0 : ((⟨#[85,80,68,65,84,69,32]⟩ : ByteArray) ++ tb ++ (⟨#[32,83,69,84,32]⟩ : ByteArray)).size ≤ 64:=by
  have y1 : (⟨#[85,80,68,65,84,69,32]⟩ : ByteArray).size = 7:=rfl
  have y2 : (⟨#[32,83,69,84,32]⟩ : ByteArray).size = 5:=rfl
  simp
  omega
 obtain ⟨pre,hpre⟩ : ∃ pre,((⟨#[85,80,68,65,84,69,32]⟩ : ByteArray) ++ tb ++ (⟨#[32,83,69,84,32]⟩ : ByteArray)) = pre:=⟨_,rfl⟩
 have HPRE : Hid (pre.data.toList = ([85,80,68,65,84,69,32] : List UInt8) ++ tb.data.toList ++ ([32,83,69,84,32] : List UInt8)):=by
  show _ = _
  rw [← hpre]; simp
 rw [hpre] at hp0
 go_wp2
 try rw [hpre]
 clear hpre
 go_loopw [5,6] (fun v i wr => ∃ (k : Nat) (s : ByteArray),k ≤ ls.length ∧ v = .string s ∧ i = .int .i64 (k : Int) ∧ s.data.toList = pre.data.toList ++ laid [] [44,32] xSe (ls.take k) ∧ s.size ≤ 64 + k * 200000000000000064 ∧ Below w.heap.size w wr ∧ wr.heap[w.heap.size]? = some (.cells #[.int .i64 2,.string tb,.string jn,.slice a0 lo.length c0,.slice a1 lw.length c1,.slice a2 li.length c2,.bool st,.slice a3 ls.length c3,.slice a4 lg.length c4,.slice a5 lq.length c5,.slice a6 ll.length c6,.int .i64 pl,.int .i64 ja] 27 (0,0))) (fun _ i _ => ls.length - (intOf i).toNat)
 case atStart => exact ⟨0,pre,Nat.zero_le _,rfl,rfl,by simp [laid],by omega,HB2.out,HC0.out⟩
 case round =>
  obtain ⟨k,s,hk,rfl,rfl,hst,hsz,hb,hcl⟩:=hrel
  have HST:=Lib.hid hst
  have HB:=Lib.hid hb
  have HN:=Lib.hid hcl
  have hmk : k * 200000000000000064 ≤ 16 * 200000000000000064:=Nat.mul_le_mul_right _ (by omega)
  have hs1 : s.size ≤ 4000000000000000000:=by omega
  have HSZ:=Lib.hid hsz
  clear hst hb hcl hmk hsz z1
  have z1:=thirt_of HN.out
  by_cases hlt : k < ls.length
  ·have hlti : (k : Int) < (ls.length : Int):=by omega
   have hlt' : k < ks.length:=by rw [← HLK.out]; exact hlt
   obtain ⟨b,off,rfl,hcs⟩:=HR.out k hlt hlt'
   obtain ⟨a9,m9,c9,hks⟩:=HS.out k hlt'
   have hCk:=HC.out k hlt hlt'
   obtain ⟨hfn,hfl⟩:=HF.out ls[k] (List.getElem_mem hlt)
   rw [hks] at hcs hCk
   obtain ⟨x,hx⟩ : ∃ x,ls[k] = x:=⟨_,rfl⟩
   rw [hx] at hcs hCk hfl hfn
   have HFT:=Lib.hid (laid_take [] [44,32] xSe ls k hlt)
   rw [hx] at HFT
   clear hx hks
   obtain ⟨nm,x,pq⟩:=x
   have HXE : Hid (xSe (nm,x,pq) = nm.data.toList ++ 32 :: 61 :: 32 :: xE 1 x):=Lib.hid rfl
   simp only at hfl hfn hCk
   obtain ⟨y,hy⟩ : ∃ y,xE 1 x = y:=⟨_,rfl⟩
   rw [hy] at HXE hCk hfl
   rw [HXE.out] at HFT
   clear hy HXE
   obtain ⟨kk,oo,⟨v1,v2,v3⟩,tt,nn,ks2,pp⟩:=x
   simp only [exC] at hCk
   have HCk:=Lib.hid hCk
   have HCS : Hid (∀ j u,[.string nm,.int .i64 kk,.int .i64 oo,.int .i64 v1,.int .i64 v2,.string v3,.string tt,.string nn,.slice a9 m9 c9,.int .i64 pp,.int .i64 pq][j]? = some u → w.cell? ⟨b,off + k * 11 + j,none⟩ = some u):=hcs
   clear hcs hCk
   have q1:=Cl HB.out (HCS.out 1 _ rfl)
   have q2:=Cl HB.out (HCS.out 2 _ rfl)
   have q3:=Cl HB.out (HCS.out 3 _ rfl)
   have q4:=Cl HB.out (HCS.out 4 _ rfl)
   have q5:=Cl HB.out (HCS.out 5 _ rfl)
   have q6:=Cl HB.out (HCS.out 6 _ rfl)
   have q7:=Cl HB.out (HCS.out 7 _ rfl)
   have q8:=Cl HB.out (HCS.out 8 _ rfl)
   have q9:=Cl HB.out (HCS.out 9 _ rfl)
   by_cases k0 : k = 0
   ·have kz : ¬ (0 : Int) < (k : Int):=by omega
    have HK0:=Lib.hid k0
    clear k0
    go_wp2_with fail
    refine (HCk.out _ HB.out).mono ?_
    rintro e w3 ⟨s2,rfl,hs2,hb2⟩
    have e2 : s2.data.toList.length = s2.size:=by simp
    have hz2 : s2.size ≤ 200000000000000000:=by rw [← e2,hs2]; exact hfl
    have HS2:=Lib.hid hs2
    have HB3:=Hbt HB hb2
    have HN3:=Hbk hb2 HN
    clear hb2 hs2 e2 z1 q1 q2 q3 q4 q5 q6 q7 q8 q9
    have z1:=thirt_of HN3.out
    have q0:=Cl HB3.out (HCS.out 0 _ rfl)
    simp only [Nat.add_zero] at q0
    go_wp2
    go_roundw
    case rel => exact ⟨k + 1,s ++ nm ++ (⟨#[32,61,32]⟩ : ByteArray) ++ s2,by omega,rfl,by go_num,by rw [HFT.out,if_pos HK0.out,← HS2.out]; simp [HST.out],by have:=HSZ.out; have y1 : (⟨#[44,32]⟩ : ByteArray).size = 2:=rfl; have y2 : (⟨#[32,61,32]⟩ : ByteArray).size = 3:=rfl; rw [Nat.succ_mul]; simp; omega,HB3.out,HN3.out⟩
    case measure => simp [intOf]; omega
   ·have kz : (0 : Int) < (k : Int):=by omega
    have HK0:=Lib.hid k0
    clear k0
    go_wp2_with fail
    refine (HCk.out _ HB.out).mono ?_
    rintro e w3 ⟨s2,rfl,hs2,hb2⟩
    have e2 : s2.data.toList.length = s2.size:=by simp
    have hz2 : s2.size ≤ 200000000000000000:=by rw [← e2,hs2]; exact hfl
    have HS2:=Lib.hid hs2
    have HB3:=Hbt HB hb2
    have HN3:=Hbk hb2 HN
    clear hb2 hs2 e2 z1 q1 q2 q3 q4 q5 q6 q7 q8 q9
    have z1:=thirt_of HN3.out
    have q0:=Cl HB3.out (HCS.out 0 _ rfl)
    simp only [Nat.add_zero] at q0
    go_wp2
    go_roundw
    case rel => exact ⟨k + 1,s ++ (⟨#[44,32]⟩ : ByteArray) ++ nm ++ (⟨#[32,61,32]⟩ : ByteArray) ++ s2,by omega,rfl,by go_num,by rw [HFT.out,if_neg HK0.out,← HS2.out]; simp [HST.out],by have:=HSZ.out; have y1 : (⟨#[44,32]⟩ : ByteArray).size = 2:=rfl; have y2 : (⟨#[32,61,32]⟩ : ByteArray).size = 3:=rfl; rw [Nat.succ_mul]; simp; omega,HB3.out,HN3.out⟩
    case measure => simp [intOf]; omega
  ·have hk' : k = ls.length:=by omega
   subst hk'
   have hlt0 : ¬ (ls.length : Int) < (ls.length : Int):=by omega
   have HT : Hid ((s ++ s0 : ByteArray).data.toList = Y):=by
    show _ = _
    rw [← HY.out,← HS0.out]
    simp only [ByteArray.data_append,Array.toList_append]
    rw [HST.out,List.take_length,HPRE.out]
   clear HST
   go_wp2
   exact bodyPost_ret (v:=.string (s ++ s0)) (by simp [results,Tryz.results17,go_sem]) rfl ⟨_,rfl,HT.out,HB.out⟩

theorem rstmt_1 (w : World) (tb jn : ByteArray) (lo lw li : List Ex) (st : Bool) (ls : List Se) (lg : List Ex) (lq : List So) (ll : List Int) (pl ja : Int) (a0 a1 a2 a3 a4 a5 a6 : Option Addr) (c0 c1 c2 c3 c4 c5 c6 : Nat) (htb : tb.size ≤ 16) (xw : List UInt8) (hxw : xw.length ≤ 400000000000000000) (hw : (∀ W,Below w.heap.size w W → Calls Tryz.prog 48 #[.agg #[.int .i64 1,.string tb,.string jn,.slice a0 lo.length c0,.slice a1 lw.length c1,.slice a2 li.length c2,.bool st,.slice a3 ls.length c3,.slice a4 lg.length c4,.slice a5 lq.length c5,.slice a6 ll.length c6,.int .i64 pl,.int .i64 ja]] W (RP xw W))) (xi : List UInt8) (hxi : xi.length ≤ 4000000000000000000) (hi : (∀ W,Below w.heap.size w W → Calls Tryz.prog 49 #[.slice a2 li.length c2,.string ⟨#[44,32]⟩,.int .i64 1] W (RP xi W))) : Calls Tryz.prog 17 #[.agg #[.int .i64 1,.string tb,.string jn,.slice a0 lo.length c0,.slice a1 lw.length c1,.slice a2 li.length c2,.bool st,.slice a3 ls.length c3,.slice a4 lg.length c4,.slice a5 lq.length c5,.slice a6 ll.length c6,.int .i64 pl,.int .i64 ja]] w (RP (([73,78,83,69,82,84,32,73,78,84,79,32] : List UInt8) ++ tb.data.toList ++ ([32,86,65,76,85,69,83,32,40] : List UInt8) ++ xi ++ [41]) w):=by
 obtain ⟨Y,hY⟩ : ∃ Y,(([73,78,83,69,82,84,32,73,78,84,79,32] : List UInt8) ++ tb.data.toList ++ ([32,86,65,76,85,69,83,32,40] : List UInt8) ++ xi ++ [41]) = Y:=⟨_,rfl⟩
 rw [hY]
 have HY:=Lib.hid hY
 clear hY
 have HW:=Lib.hid hw
 have HI:=Lib.hid hi
 clear hw hi
 obtain ⟨W1,hW1⟩ : ∃ W,w.alloc (.cells #[.int .i64 1,.string tb,.string jn,.slice a0 lo.length c0,.slice a1 lw.length c1,.slice a2 li.length c2,.bool st,.slice a3 ls.length c3,.slice a4 lg.length c4,.slice a5 lq.length c5,.slice a6 ll.length c6,.int .i64 pl,.int .i64 ja] 27) = W:=⟨_,rfl⟩
 have HB1 : Hid (Below w.heap.size w W1):=Lib.hid (hW1 ▸ (Below.refl _ _).alloc (Nat.le_refl _) _)
 have HN1 : Hid (W1.heap[w.heap.size]? = some (.cells #[.int .i64 1,.string tb,.string jn,.slice a0 lo.length c0,.slice a1 lw.length c1,.slice a2 li.length c2,.bool st,.slice a3 ls.length c3,.slice a4 lg.length c4,.slice a5 lq.length c5,.slice a6 ll.length c6,.int .i64 pl,.int .i64 ja] 27 (0,0))):=Lib.hid (hW1 ▸ heap_alloc_new w _)
 have z1:=thirt_of HN1.out
 go_enter Tryz.func17,Tryz.ntmps17
 go_wp2_with fail
 clear hW1
 refine (HW.out _ HB1.out).mono ?_
 rintro e w2 ⟨s0,rfl,hs,hb⟩
 have HS0:=Lib.hid hs
 have HB2:=Hbt HB1 hb
 have HN2:=Hbk hb HN1
 have e1 : s0.data.toList.length = s0.size:=by simp
 have hzs0 : s0.size ≤ 400000000000000000:=by rw [← e1,hs]; exact (by omega)
 clear e1
 clear hb hs z1 HN1
 have z1:=thirt_of HN2.out
 go_wp2_with fail
 refine (HI.out _ HB2.out).mono ?_
 rintro e w3 ⟨s1,rfl,hs,hb⟩
 have HS1:=Lib.hid hs
 have HB3:=Hbt HB2 hb
 have HN3:=Hbk hb HN2
 have e1 : s1.data.toList.length = s1.size:=by simp
 have hzs1 : s1.size ≤ 4000000000000000000:=by rw [← e1,hs]; exact (by omega)
 clear e1
 clear hb hs z1 HN2
 have z1:=thirt_of HN3.out
 have HT : Hid (((⟨#[73,78,83,69,82,84,32,73,78,84,79,32]⟩ : ByteArray) ++ tb ++ (⟨#[32,86,65,76,85,69,83,32,40]⟩ : ByteArray) ++ s1 ++ (⟨#[41]⟩ : ByteArray) : ByteArray).data.toList = Y):=by
  show _ = _
  rw [← HY.out,← HS1.out]; simp
 go_wp2
 exact bodyPost_ret (v:=.string ((⟨#[73,78,83,69,82,84,32,73,78,84,79,32]⟩ : ByteArray) ++ tb ++ (⟨#[32,86,65,76,85,69,83,32,40]⟩ : ByteArray) ++ s1 ++ (⟨#[41]⟩ : ByteArray))) (by simp [results,Tryz.results17,go_sem]) rfl ⟨_,rfl,HT.out,HB3.out⟩

theorem rstmt_3 (w : World) (tb jn : ByteArray) (lo lw li : List Ex) (st : Bool) (ls : List Se) (lg : List Ex) (lq : List So) (ll : List Int) (pl ja : Int) (a0 a1 a2 a3 a4 a5 a6 : Option Addr) (c0 c1 c2 c3 c4 c5 c6 : Nat) (htb : tb.size ≤ 16) (xw : List UInt8) (hxw : xw.length ≤ 400000000000000000) (hw : (∀ W,Below w.heap.size w W → Calls Tryz.prog 48 #[.agg #[.int .i64 3,.string tb,.string jn,.slice a0 lo.length c0,.slice a1 lw.length c1,.slice a2 li.length c2,.bool st,.slice a3 ls.length c3,.slice a4 lg.length c4,.slice a5 lq.length c5,.slice a6 ll.length c6,.int .i64 pl,.int .i64 ja]] W (RP xw W))) : Calls Tryz.prog 17 #[.agg #[.int .i64 3,.string tb,.string jn,.slice a0 lo.length c0,.slice a1 lw.length c1,.slice a2 li.length c2,.bool st,.slice a3 ls.length c3,.slice a4 lg.length c4,.slice a5 lq.length c5,.slice a6 ll.length c6,.int .i64 pl,.int .i64 ja]] w (RP (([68,69,76,69,84,69,32,70,82,79,77,32] : List UInt8) ++ tb.data.toList ++ xw) w):=by
 obtain ⟨Y,hY⟩ : ∃ Y,(([68,69,76,69,84,69,32,70,82,79,77,32] : List UInt8) ++ tb.data.toList ++ xw) = Y:=⟨_,rfl⟩
 rw [hY]
 have HY:=Lib.hid hY
 clear hY
 have HW:=Lib.hid hw
 clear hw
 obtain ⟨W1,hW1⟩ : ∃ W,w.alloc (.cells #[.int .i64 3,.string tb,.string jn,.slice a0 lo.length c0,.slice a1 lw.length c1,.slice a2 li.length c2,.bool st,.slice a3 ls.length c3,.slice a4 lg.length c4,.slice a5 lq.length c5,.slice a6 ll.length c6,.int .i64 pl,.int .i64 ja] 27) = W:=⟨_,rfl⟩
 have HB1 : Hid (Below w.heap.size w W1):=Lib.hid (hW1 ▸ (Below.refl _ _).alloc (Nat.le_refl _) _)
 have HN1 : Hid (W1.heap[w.heap.size]? = some (.cells #[.int .i64 3,.string tb,.string jn,.slice a0 lo.length c0,.slice a1 lw.length c1,.slice a2 li.length c2,.bool st,.slice a3 ls.length c3,.slice a4 lg.length c4,.slice a5 lq.length c5,.slice a6 ll.length c6,.int .i64 pl,.int .i64 ja] 27 (0,0))):=Lib.hid (hW1 ▸ heap_alloc_new w _)
 have z1:=thirt_of HN1.out
 go_enter Tryz.func17,Tryz.ntmps17
 go_wp2_with fail
 clear hW1
 refine (HW.out _ HB1.out).mono ?_
 rintro e w2 ⟨s0,rfl,hs,hb⟩
 have HS0:=Lib.hid hs
 have HB2:=Hbt HB1 hb
 have HN2:=Hbk hb HN1
 have e1 : s0.data.toList.length = s0.size:=by simp
 have hzs0 : s0.size ≤ 400000000000000000:=by rw [← e1,hs]; exact (by omega)
 clear e1
 clear hb hs z1 HN1
 have z1:=thirt_of HN2.out
 have HT : Hid (((⟨#[68,69,76,69,84,69,32,70,82,79,77,32]⟩ : ByteArray) ++ tb ++ s0 : ByteArray).data.toList = Y):=by
  show _ = _
  rw [← HY.out,← HS0.out]; simp
 go_wp2
 exact bodyPost_ret (v:=.string ((⟨#[68,69,76,69,84,69,32,70,82,79,77,32]⟩ : ByteArray) ++ tb ++ s0)) (by simp [results,Tryz.results17,go_sem]) rfl ⟨_,rfl,HT.out,HB2.out⟩

theorem rstmt_4 (w : World) (tb jn : ByteArray) (lo lw li : List Ex) (st : Bool) (ls : List Se) (lg : List Ex) (lq : List So) (ll : List Int) (pl ja : Int) (a0 a1 a2 a3 a4 a5 a6 : Option Addr) (c0 c1 c2 c3 c4 c5 c6 : Nat) (htb : tb.size ≤ 16) (xw : List UInt8) (hxw : xw.length ≤ 400000000000000000) (hw : (∀ W,Below w.heap.size w W → Calls Tryz.prog 48 #[.agg #[.int .i64 4,.string tb,.string jn,.slice a0 lo.length c0,.slice a1 lw.length c1,.slice a2 li.length c2,.bool st,.slice a3 ls.length c3,.slice a4 lg.length c4,.slice a5 lq.length c5,.slice a6 ll.length c6,.int .i64 pl,.int .i64 ja]] W (RP xw W))) (xr : List UInt8) (hxr : xr.length ≤ 100000) (hr : (∀ W,Below w.heap.size w W → Calls Tryz.prog 51 #[.agg #[.int .i64 4,.string tb,.string jn,.slice a0 lo.length c0,.slice a1 lw.length c1,.slice a2 li.length c2,.bool st,.slice a3 ls.length c3,.slice a4 lg.length c4,.slice a5 lq.length c5,.slice a6 ll.length c6,.int .i64 pl,.int .i64 ja]] W (RP xr W))) (xi : List UInt8) (hxi : xi.length ≤ 2000000000000000000) (hi : st = false → (∀ W,Below w.heap.size w W → Calls Tryz.prog 49 #[.slice a2 li.length c2,.string ⟨#[44,32]⟩,.int .i64 1] W (RP xi W))) (hjn : jn.size ≤ 16) (xo : List UInt8) (hxo : xo.length ≤ 400000000000000000) (ho : ¬ jn = ⟨#[]⟩ → lo.length = 1 ∧ ∃ b off,a0 = some ⟨b,off,none⟩ ∧ ∃ k1 o1 x1 x2 x3 t1 n1 b1 m1 d1 p1,(∀ j u,[.int .i64 k1,.int .i64 o1,.int .i64 x1,.int .i64 x2,.string x3,.string t1,.string n1,.slice b1 m1 d1,.int .i64 p1][j]? = some u → w.cell? ⟨b,off + j,none⟩ = some u) ∧ (∀ W,Below w.heap.size w W → Calls Tryz.prog 50 #[.agg #[.int .i64 k1,.int .i64 o1,.int .i64 x1,.int .i64 x2,.string x3,.string t1,.string n1,.slice b1 m1 d1,.int .i64 p1]] W (RP xo W))) (xg : List UInt8) (hxg : xg.length ≤ 2000000000000000000) (hg : 0 < lg.length → (∀ W,Below w.heap.size w W → Calls Tryz.prog 49 #[.slice a4 lg.length c4,.string ⟨#[44,32]⟩,.int .i64 1] W (RP xg W))) : Calls Tryz.prog 17 #[.agg #[.int .i64 4,.string tb,.string jn,.slice a0 lo.length c0,.slice a1 lw.length c1,.slice a2 li.length c2,.bool st,.slice a3 ls.length c3,.slice a4 lg.length c4,.slice a5 lq.length c5,.slice a6 ll.length c6,.int .i64 pl,.int .i64 ja]] w (RP ((if st = true then ([83,69,76,69,67,84,32,42] : List UInt8) else ([83,69,76,69,67,84,32] : List UInt8) ++ xi) ++ ([32,70,82,79,77,32] : List UInt8) ++ tb.data.toList ++ (if jn = ⟨#[]⟩ then [] else ([32,74,79,73,78,32] : List UInt8) ++ jn.data.toList ++ ([32,79,78,32] : List UInt8) ++ xo) ++ xw ++ (if lg = [] then [] else ([32,71,82,79,85,80,32,66,89,32] : List UInt8) ++ xg) ++ xr) w):=by
 obtain ⟨Y3,h3⟩ : ∃ Y,(if st = true then ([83,69,76,69,67,84,32,42] : List UInt8) else ([83,69,76,69,67,84,32] : List UInt8) ++ xi) ++ ([32,70,82,79,77,32] : List UInt8) ++ tb.data.toList ++ (if jn = ⟨#[]⟩ then [] else ([32,74,79,73,78,32] : List UInt8) ++ jn.data.toList ++ ([32,79,78,32] : List UInt8) ++ xo) ++ xw ++ (if lg = [] then [] else ([32,71,82,79,85,80,32,66,89,32] : List UInt8) ++ xg) = Y:=⟨_,rfl⟩
 rw [h3]
 have H3:=Lib.hid h3
 obtain ⟨Y2,h2⟩ : ∃ Y,(if st = true then ([83,69,76,69,67,84,32,42] : List UInt8) else ([83,69,76,69,67,84,32] : List UInt8) ++ xi) ++ ([32,70,82,79,77,32] : List UInt8) ++ tb.data.toList ++ (if jn = ⟨#[]⟩ then [] else ([32,74,79,73,78,32] : List UInt8) ++ jn.data.toList ++ ([32,79,78,32] : List UInt8) ++ xo) = Y:=⟨_,rfl⟩
 obtain ⟨Y1,h1⟩ : ∃ Y,(if st = true then ([83,69,76,69,67,84,32,42] : List UInt8) else ([83,69,76,69,67,84,32] : List UInt8) ++ xi) = Y:=⟨_,rfl⟩
 rw [h2] at H3
 have H2:=Lib.hid h2
 rw [h1] at H2
 have H1:=Lib.hid h1
 clear h1 h2 h3
 have HW:=Lib.hid hw
 have HR:=Lib.hid hr
 have HI:=Lib.hid hi
 have HO:=Lib.hid ho
 have HG:=Lib.hid hg
 clear hw hr hi ho hg
 obtain ⟨W1,hW1⟩ : ∃ W,w.alloc (.cells #[.int .i64 4,.string tb,.string jn,.slice a0 lo.length c0,.slice a1 lw.length c1,.slice a2 li.length c2,.bool st,.slice a3 ls.length c3,.slice a4 lg.length c4,.slice a5 lq.length c5,.slice a6 ll.length c6,.int .i64 pl,.int .i64 ja] 27) = W:=⟨_,rfl⟩
 have HB1 : Hid (Below w.heap.size w W1):=Lib.hid (hW1 ▸ (Below.refl _ _).alloc (Nat.le_refl _) _)
 have HN1 : Hid (W1.heap[w.heap.size]? = some (.cells #[.int .i64 4,.string tb,.string jn,.slice a0 lo.length c0,.slice a1 lw.length c1,.slice a2 li.length c2,.bool st,.slice a3 ls.length c3,.slice a4 lg.length c4,.slice a5 lq.length c5,.slice a6 ll.length c6,.int .i64 pl,.int .i64 ja] 27 (0,0))):=Lib.hid (hW1 ▸ heap_alloc_new w _)
 have z1:=thirt_of HN1.out
 go_enter Tryz.func17,Tryz.ntmps17
 go_wp2_with fail
 clear hW1
 refine (HW.out _ HB1.out).mono ?_
 rintro e w2 ⟨s0,rfl,hs,hb⟩
 have HS0:=Lib.hid hs
 have HB2:=Hbt HB1 hb
 have HN2:=Hbk hb HN1
 have e1 : s0.data.toList.length = s0.size:=by simp
 have hzs0 : s0.size ≤ 400000000000000000:=by rw [← e1,hs]; exact (by omega)
 clear e1
 clear hb hs z1 HN1
 have z1:=thirt_of HN2.out
 go_upto_if 76 with fail
 go_cut [8] from 9 (fun v wx => ∃ s : ByteArray,v = .string s ∧ s.data.toList = Y1 ∧ s.size ≤ 2000000000000000010 ∧ Below w.heap.size w wx ∧ wx.heap[w.heap.size]? = some (.cells #[.int .i64 4,.string tb,.string jn,.slice a0 lo.length c0,.slice a1 lw.length c1,.slice a2 li.length c2,.bool st,.slice a3 ls.length c3,.slice a4 lg.length c4,.slice a5 lq.length c5,.slice a6 ll.length c6,.int .i64 pl,.int .i64 ja] 27 (0,0)))
 case first =>
  cases st with
  | true =>
   go_wp2
   go_meet
   case rel => exact ⟨(⟨#[83,69,76,69,67,84,32,42]⟩ : ByteArray),rfl,by rw [← H1.out]; rfl,by decide,HB2.out,HN2.out⟩
  | false =>
   go_wp2_with fail
   refine (HI.out (by first | rfl | trivial) _ HB2.out).mono ?_
   rintro e w3 ⟨s1,rfl,hs,hb⟩
   have HS1:=Lib.hid hs
   have HB3:=Hbt HB2 hb
   have HN3:=Hbk hb HN2
   have e1 : s1.data.toList.length = s1.size:=by simp
   have hzs1 : s1.size ≤ 2000000000000000000:=by rw [← e1,hs]; exact (by omega)
   clear e1
   clear hb hs z1 HN2
   have z1:=thirt_of HN3.out
   go_wp2
   go_meet
   case rel => exact ⟨(⟨#[83,69,76,69,67,84,32]⟩ : ByteArray) ++ s1,rfl,by rw [← H1.out,← HS1.out]; simp,by have e0 : (⟨#[83,69,76,69,67,84,32]⟩ : ByteArray).size = 7:=rfl; simp; omega,HB3.out,HN3.out⟩
 case rest =>
  obtain ⟨t1,rfl,ht,hz1,hb,hn⟩:=hcut
  have HT1:=Lib.hid ht
  have HB10:=Lib.hid hb
  have HN10:=Lib.hid hn
  clear ht hb hn z1 HB2 HN2
  have z1:=thirt_of HN10.out
  go_upto_if 89 with fail
  go_cut [8] from 9 (fun v wx => ∃ s : ByteArray,v = .string s ∧ s.data.toList = Y2 ∧ s.size ≤ 2400000000000000200 ∧ Below w.heap.size w wx ∧ wx.heap[w.heap.size]? = some (.cells #[.int .i64 4,.string tb,.string jn,.slice a0 lo.length c0,.slice a1 lw.length c1,.slice a2 li.length c2,.bool st,.slice a3 ls.length c3,.slice a4 lg.length c4,.slice a5 lq.length c5,.slice a6 ll.length c6,.int .i64 pl,.int .i64 ja] 27 (0,0)))
  case first =>
   by_cases qj : jn = ⟨#[]⟩
   ·have nz1 : jn.toList.isEmpty = true:=by rw [qj,ByteArray.toList_eq]; rfl
    have nz2 : jn.toList = []:=by rw [qj,ByteArray.toList_eq]
    have HQJ:=Lib.hid qj
    clear qj
    simp only [nz1,Bool.not_true]
    go_wp2
    go_meet
    case rel => exact ⟨t1 ++ (⟨#[32,70,82,79,77,32]⟩ : ByteArray) ++ tb,rfl,by rw [← H2.out,← HT1.out,if_pos HQJ.out]; simp,by have e0 : (⟨#[32,70,82,79,77,32]⟩ : ByteArray).size = 6:=rfl; simp; omega,HB10.out,HN10.out⟩
   ·obtain ⟨hl1,b,off,ha0,k1,o1,x1,x2,x3,t9,n1,b1,m1,d1,p1,hc,hu⟩:=HO.out qj
    have HU:=Lib.hid hu
    have HOC:=Lib.hid hc
    obtain ⟨nz1,nz2⟩:=not_nil qj
    have HQJ:=Lib.hid qj
    subst ha0
    clear hu hc qj
    simp only [nz1,Bool.not_false]
    have q0:=Cl HB10.out (HOC.out 0 _ rfl)
    have q1:=Cl HB10.out (HOC.out 1 _ rfl)
    have q2:=Cl HB10.out (HOC.out 2 _ rfl)
    have q3:=Cl HB10.out (HOC.out 3 _ rfl)
    have q4:=Cl HB10.out (HOC.out 4 _ rfl)
    have q5:=Cl HB10.out (HOC.out 5 _ rfl)
    have q6:=Cl HB10.out (HOC.out 6 _ rfl)
    have q7:=Cl HB10.out (HOC.out 7 _ rfl)
    have q8:=Cl HB10.out (HOC.out 8 _ rfl)
    simp only [Nat.add_zero] at q0
    have hlo : (0 : Int) < (lo.length : Int):=by omega
    have HL1:=Lib.hid hl1
    clear hl1
    go_wp2_with fail
    refine (HU.out _ HB10.out).mono ?_
    rintro e w11 ⟨s2,rfl,hs,hb⟩
    have HS2:=Lib.hid hs
    have HB11:=Hbt HB10 hb
    have HN11:=Hbk hb HN10
    have e1 : s2.data.toList.length = s2.size:=by simp
    have hzs2 : s2.size ≤ 400000000000000000:=by rw [← e1,hs]; exact (by omega)
    clear e1
    clear hb hs z1 HN10 q0 q1 q2 q3 q4 q5 q6 q7 q8 HOC
    have z1:=thirt_of HN11.out
    go_wp2
    go_meet
    case rel => exact ⟨t1 ++ (⟨#[32,70,82,79,77,32]⟩ : ByteArray) ++ tb ++ (⟨#[32,74,79,73,78,32]⟩ : ByteArray) ++ jn ++ (⟨#[32,79,78,32]⟩ : ByteArray) ++ s2,rfl,by rw [← H2.out,← HT1.out,if_neg HQJ.out,← HS2.out]; simp,by have e0 : (⟨#[32,70,82,79,77,32]⟩ : ByteArray).size = 6:=rfl; have e1 : (⟨#[32,74,79,73,78,32]⟩ : ByteArray).size = 6:=rfl; have e2 : (⟨#[32,79,78,32]⟩ : ByteArray).size = 4:=rfl; simp; omega,HB11.out,HN11.out⟩
  case rest =>
   obtain ⟨t2,rfl,ht,hz2,hb,hn⟩:=hcut
   have HT2:=Lib.hid ht
   have HB20:=Lib.hid hb
   have HN20:=Lib.hid hn
   clear ht hb hn z1 HB10 HN10
   have z1:=thirt_of HN20.out
   go_upto_if 109 with fail
   go_cut [8] from 9 (fun v wx => ∃ s : ByteArray,v = .string s ∧ s.data.toList = Y3 ∧ s.size ≤ 5000000000000000000 ∧ Below w.heap.size w wx ∧ wx.heap[w.heap.size]? = some (.cells #[.int .i64 4,.string tb,.string jn,.slice a0 lo.length c0,.slice a1 lw.length c1,.slice a2 li.length c2,.bool st,.slice a3 ls.length c3,.slice a4 lg.length c4,.slice a5 lq.length c5,.slice a6 ll.length c6,.int .i64 pl,.int .i64 ja] 27 (0,0)))
   case first =>
    by_cases qg : lg = []
    ·subst qg
     simp only [List.length_nil] at z1
     go_wp2
     go_meet
     case rel => exact ⟨t2 ++ s0,rfl,by rw [← H3.out,← HT2.out,← HS0.out]; simp,by simp; omega,HB20.out,HN20.out⟩
    ·have hgl : 0 < lg.length:=List.length_pos_iff.2 qg
     have hgi : (0 : Int) < (lg.length : Int):=by omega
     have HQG:=Lib.hid qg
     clear qg
     go_wp2_with fail
     refine (HG.out hgl _ HB20.out).mono ?_
     rintro e w21 ⟨s3,rfl,hs,hb⟩
     have HS3:=Lib.hid hs
     have HB21:=Hbt HB20 hb
     have HN21:=Hbk hb HN20
     have e1 : s3.data.toList.length = s3.size:=by simp
     have hzs3 : s3.size ≤ 2000000000000000000:=by rw [← e1,hs]; exact (by omega)
     clear e1
     clear hb hs z1 HN20
     have z1:=thirt_of HN21.out
     go_wp2
     go_meet
     case rel => exact ⟨t2 ++ s0 ++ (⟨#[32,71,82,79,85,80,32,66,89,32]⟩ : ByteArray) ++ s3,rfl,by rw [← H3.out,← HT2.out,← HS0.out,← HS3.out,if_neg HQG.out]; simp,by have e0 : (⟨#[32,71,82,79,85,80,32,66,89,32]⟩ : ByteArray).size = 10:=rfl; simp; omega,HB21.out,HN21.out⟩
   case rest =>
    obtain ⟨t3,rfl,ht,hz3,hb,hn⟩:=hcut
    have HT3:=Lib.hid ht
    have HB30:=Lib.hid hb
    have HN30:=Lib.hid hn
    clear ht hb hn z1 HB20 HN20
    have z1:=thirt_of HN30.out
    go_wp2_with fail
    refine (HR.out _ HB30.out).mono ?_
    rintro e w31 ⟨s4,rfl,hs,hb⟩
    have HS4:=Lib.hid hs
    have HB31:=Hbt HB30 hb
    have HN31:=Hbk hb HN30
    have e1 : s4.data.toList.length = s4.size:=by simp
    have hzs4 : s4.size ≤ 100000:=by rw [← e1,hs]; exact (by omega)
    clear e1
    clear hb hs z1 HN30
    have z1:=thirt_of HN31.out
    have HT : Hid ((t3 ++ s4 : ByteArray).data.toList = Y3 ++ xr):=by
     show _ = _
     rw [← HT3.out,← HS4.out]; simp
    go_wp2
    exact bodyPost_ret (v:=.string (t3 ++ s4)) (by simp [results,Tryz.results17,go_sem]) rfl ⟨_,rfl,HT.out,HB31.out⟩
end Go.Proofs.YteolnlcmnaknnaaGreatDoor
