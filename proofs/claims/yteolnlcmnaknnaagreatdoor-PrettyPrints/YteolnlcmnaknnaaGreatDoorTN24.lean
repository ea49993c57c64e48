/- N24 -/
import Derived.Test.YteolnlcmnaknnaaGreatDoorTM157
set_option maxHeartbeats 2000000
set_option maxRecDepth 100000
namespace Go.Proofs.YteolnlcmnaknnaaGreatDoor
open Go.RowKit
theorem rexpr_2 (w : World) (oo v1 v2 : Int) (v3 tt nn : ByteArray) (es : List Ex) (pp : Int) (k : Value) (hxr : XR w (.mk 2 oo (v1,v2,v3) tt nn es pp) k) (hnn : nn.size ≤ 16) : Calls Tryz.prog 50 #[.agg (exC (.mk 2 oo (v1,v2,v3) tt nn es pp) k).toArray] w (RP (58 :: nn.data.toList) w):=by
 obtain ⟨a,m,c,rfl⟩:=hxr.slice
 simp only [exC]
 clear hxr
 obtain ⟨W1,hW1⟩ : ∃ W,w.alloc (.cells #[.int .i64 2,.int .i64 oo,.int .i64 v1,.int .i64 v2,.string v3,.string tt,.string nn,.slice a m c,.int .i64 pp] 49) = W:=⟨_,rfl⟩
 have HB1 : Hid (Below w.heap.size w W1):=Lib.hid (hW1 ▸ (Below.refl _ _).alloc (Nat.le_refl _) _)
 have HN1 : Hid (W1.heap[w.heap.size]? = some (.cells #[.int .i64 2,.int .i64 oo,.int .i64 v1,.int .i64 v2,.string v3,.string tt,.string nn,.slice a m c,.int .i64 pp] 49 (0,0))):=Lib.hid (hW1 ▸ heap_alloc_new w _)
 have z1:=nine_of HN1.out
 go_enter Tryz.func50,Tryz.ntmps50
 have HT : Hid (((⟨#[58]⟩ : ByteArray) ++ nn : ByteArray).data.toList = 58 :: nn.data.toList):=by
  show _ = _
  simp
 go_wp2
 exact bodyPost_ret (v:=.string ((⟨#[58]⟩ : ByteArray) ++ nn)) (by simp [results,Tryz.results50,go_sem]) rfl ⟨_,rfl,HT.out,HB1.out⟩

theorem rexpr_11 (w : World) (oo v1 v2 : Int) (v3 tt nn : ByteArray) (es : List Ex) (pp : Int) (k : Value) (hxr : XR w (.mk 11 oo (v1,v2,v3) tt nn es pp) k) : Calls Tryz.prog 50 #[.agg (exC (.mk 11 oo (v1,v2,v3) tt nn es pp) k).toArray] w (RP ([67,79,85,78,84,40,42,41]) w):=by
 obtain ⟨a,m,c,rfl⟩:=hxr.slice
 simp only [exC]
 clear hxr
 obtain ⟨W1,hW1⟩ : ∃ W,w.alloc (.cells #[.int .i64 11,.int .i64 oo,.int .i64 v1,.int .i64 v2,.string v3,.string tt,.string nn,.slice a m c,.int .i64 pp] 49) = W:=⟨_,rfl⟩
 have HB1 : Hid (Below w.heap.size w W1):=Lib.hid (hW1 ▸ (Below.refl _ _).alloc (Nat.le_refl _) _)
 have HN1 : Hid (W1.heap[w.heap.size]? = some (.cells #[.int .i64 11,.int .i64 oo,.int .i64 v1,.int .i64 v2,.string v3,.string tt,.string nn,.slice a m c,.int .i64 pp] 49 (0,0))):=Lib.hid (hW1 ▸ heap_alloc_new w _)
 have z1:=nine_of HN1.out
 go_enter Tryz.func50,Tryz.ntmps50
 go_wp2
 exact bodyPost_ret (v:=.string ⟨#[67,79,85,78,84,40,42,41]⟩) (by simp [results,Tryz.results50,go_sem]) rfl ⟨_,rfl,rfl,by (try rw [hW1]); exact HB1.out⟩

theorem rexpr_8 {n : Nat} (hX : RC n) (hn : n ≤ 16) (w : World) (oo v1 v2 : Int) (v3 tt nn : ByteArray) (es : List Ex) (pp : Int) (k : Value) (hxr : XR w (.mk 8 oo (v1,v2,v3) tt nn es pp) k) (hl1 : es.length = 1) (hd : ∀ i (h : i < es.length),dpr n es[i] = false ∧ RtE es[i]) : Calls Tryz.prog 50 #[.agg (exC (.mk 8 oo (v1,v2,v3) tt nn es pp) k).toArray] w (RP (([78,79,84,32] : List UInt8) ++ xE 3 es[0]) w):=by
 obtain ⟨b,off,c,rfl,hu⟩:=rkids_use hX hn hxr (by omega) hd
 have hb0:=xE_len hn (hd 0 (by omega)).1 (hd 0 (by omega)).2 3
 simp only [exC,hl1]
 have HU:=Lib.hid hu
 obtain ⟨z0,hz0⟩ : ∃ z,es[0] = z:=⟨_,rfl⟩
 rw [hz0] at hb0 ⊢
 have HZ0:=Lib.hid hz0
 clear hu hxr hd hX hz0
 obtain ⟨W1,hW1⟩ : ∃ W,w.alloc (.cells #[.int .i64 8,.int .i64 oo,.int .i64 v1,.int .i64 v2,.string v3,.string tt,.string nn,.slice (some ⟨b,off,none⟩) 1 c,.int .i64 pp] 49) = W:=⟨_,rfl⟩
 have HB1 : Hid (Below w.heap.size w W1):=Lib.hid (hW1 ▸ (Below.refl _ _).alloc (Nat.le_refl _) _)
 have HN1 : Hid (W1.heap[w.heap.size]? = some (.cells #[.int .i64 8,.int .i64 oo,.int .i64 v1,.int .i64 v2,.string v3,.string tt,.string nn,.slice (some ⟨b,off,none⟩) 1 c,.int .i64 pp] 49 (0,0))):=Lib.hid (hW1 ▸ heap_alloc_new w _)
 have z1:=nine_of HN1.out
 go_enter Tryz.func50,Tryz.ntmps50
 obtain ⟨k1,o1,x1,x2,x3,t1,n1,a1,m1,c1,p1,hkk,hc,hu⟩:=HU.out 0 (by omega)
 have HX:=Lib.hid (hu 3)
 have HCS:=Lib.hid hc
 have q0:=Cl HB1.out (HCS.out 0 _ rfl)
 have q1:=Cl HB1.out (HCS.out 1 _ rfl)
 have q2:=Cl HB1.out (HCS.out 2 _ rfl)
 have q3:=Cl HB1.out (HCS.out 3 _ rfl)
 have q4:=Cl HB1.out (HCS.out 4 _ rfl)
 have q5:=Cl HB1.out (HCS.out 5 _ rfl)
 have q6:=Cl HB1.out (HCS.out 6 _ rfl)
 have q7:=Cl HB1.out (HCS.out 7 _ rfl)
 have q8:=Cl HB1.out (HCS.out 8 _ rfl)
 simp only [Nat.zero_mul,Nat.add_zero] at q0 q1 q2 q3 q4 q5 q6 q7 q8
 clear hc hu
 rw [HZ0.out] at HX
 clear hkk
 go_wp2_with fail
 clear hW1
 refine (HX.out _ HB1.out).mono ?_
 rintro e w2 ⟨s0,rfl,hs,hb⟩
 have HS0:=Lib.hid hs
 have HB2:=Hbt HB1 hb
 have HN2:=Hbk hb HN1
 have e1 : s0.data.toList.length = s0.size:=by simp
 have hzs0 : s0.size ≤ 300000000000000000:=by rw [← e1,hs]; exact (by omega)
 clear e1
 clear hb hs z1 HN1 q0 q1 q2 q3 q4 q5 q6 q7 q8 HX HCS
 have z1:=nine_of HN2.out
 have HT : Hid (((⟨#[78,79,84,32]⟩ : ByteArray) ++ s0 : ByteArray).data.toList = ([78,79,84,32] : List UInt8) ++ xE 3 z0):=by
  show _ = _
  rw [← HS0.out]; simp
 go_wp2
 exact bodyPost_ret (v:=.string ((⟨#[78,79,84,32]⟩ : ByteArray) ++ s0)) (by simp [results,Tryz.results50,go_sem]) rfl ⟨_,rfl,HT.out,HB2.out⟩

theorem rexpr_7y {n : Nat} (hX : RC n) (hn : n ≤ 16) (w : World) (v1 v2 : Int) (v3 tt nn : ByteArray) (es : List Ex) (pp : Int) (k : Value) (hxr : XR w (.mk 7 1 (v1,v2,v3) tt nn es pp) k) (hl1 : es.length = 1) (hd : ∀ i (h : i < es.length),dpr n es[i] = false ∧ RtE es[i]) : Calls Tryz.prog 50 #[.agg (exC (.mk 7 1 (v1,v2,v3) tt nn es pp) k).toArray] w (RP (xE 5 es[0] ++ [32,73,83,32,78,79,84,32,78,85,76,76]) w):=by
 obtain ⟨b,off,c,rfl,hu⟩:=rkids_use hX hn hxr (by omega) hd
 have hb0:=xE_len hn (hd 0 (by omega)).1 (hd 0 (by omega)).2 5
 simp only [exC,hl1]
 have HU:=Lib.hid hu
 obtain ⟨z0,hz0⟩ : ∃ z,es[0] = z:=⟨_,rfl⟩
 rw [hz0] at hb0 ⊢
 have HZ0:=Lib.hid hz0
 clear hu hxr hd hX hz0
 obtain ⟨W1,hW1⟩ : ∃ W,w.alloc (.cells #[.int .i64 7,.int .i64 1,.int .i64 v1,.int .i64 v2,.string v3,.string tt,.string nn,.slice (some ⟨b,off,none⟩) 1 c,.int .i64 pp] 49) = W:=⟨_,rfl⟩
 have HB1 : Hid (Below w.heap.size w W1):=Lib.hid (hW1 ▸ (Below.refl _ _).alloc (Nat.le_refl _) _)
 have HN1 : Hid (W1.heap[w.heap.size]? = some (.cells #[.int .i64 7,.int .i64 1,.int .i64 v1,.int .i64 v2,.string v3,.string tt,.string nn,.slice (some ⟨b,off,none⟩) 1 c,.int .i64 pp] 49 (0,0))):=Lib.hid (hW1 ▸ heap_alloc_new w _)
 have z1:=nine_of HN1.out
 go_enter Tryz.func50,Tryz.ntmps50
 obtain ⟨k1,o1,x1,x2,x3,t1,n1,a1,m1,c1,p1,hkk,hc,hu⟩:=HU.out 0 (by omega)
 have HX:=Lib.hid (hu 5)
 have HCS:=Lib.hid hc
 have q0:=Cl HB1.out (HCS.out 0 _ rfl)
 have q1:=Cl HB1.out (HCS.out 1 _ rfl)
 have q2:=Cl HB1.out (HCS.out 2 _ rfl)
 have q3:=Cl HB1.out (HCS.out 3 _ rfl)
 have q4:=Cl HB1.out (HCS.out 4 _ rfl)
 have q5:=Cl HB1.out (HCS.out 5 _ rfl)
 have q6:=Cl HB1.out (HCS.out 6 _ rfl)
 have q7:=Cl HB1.out (HCS.out 7 _ rfl)
 have q8:=Cl HB1.out (HCS.out 8 _ rfl)
 simp only [Nat.zero_mul,Nat.add_zero] at q0 q1 q2 q3 q4 q5 q6 q7 q8
 clear hc hu
 rw [HZ0.out] at HX
 clear hkk
 go_wp2_with fail
 clear hW1
 refine (HX.out _ HB1.out).mono ?_
 rintro e w2 ⟨s0,rfl,hs,hb⟩
 have HS0:=Lib.hid hs
 have HB2:=Hbt HB1 hb
 have HN2:=Hbk hb HN1
 have e1 : s0.data.toList.length = s0.size:=by simp
 have hzs0 : s0.size ≤ 300000000000000000:=by rw [← e1,hs]; exact (by omega)
 clear e1
 clear hb hs z1 HN1 q0 q1 q2 q3 q4 q5 q6 q7 q8 HX HCS
 have z1:=nine_of HN2.out
 have HT : Hid ((s0 ++ (⟨#[32,73,83,32,78,79,84,32,78,85,76,76]⟩ : ByteArray) : ByteArray).data.toList = xE 5 z0 ++ [32,73,83,32,78,79,84,32,78,85,76,76]):=by
  show _ = _
  rw [← HS0.out]; simp
 go_wp2
 exact bodyPost_ret (v:=.string (s0 ++ (⟨#[32,73,83,32,78,79,84,32,78,85,76,76]⟩ : ByteArray))) (by simp [results,Tryz.results50,go_sem]) rfl ⟨_,rfl,HT.out,HB2.out⟩

theorem rexpr_7n {n : Nat} (hX : RC n) (hn : n ≤ 16) (w : World) (oo v1 v2 : Int) (v3 tt nn : ByteArray) (es : List Ex) (pp : Int) (k : Value) (hxr : XR w (.mk 7 oo (v1,v2,v3) tt nn es pp) k) (ho : oo ≠ 1) (hl1 : es.length = 1) (hd : ∀ i (h : i < es.length),dpr n es[i] = false ∧ RtE es[i]) : Calls Tryz.prog 50 #[.agg (exC (.mk 7 oo (v1,v2,v3) tt nn es pp) k).toArray] w (RP (xE 5 es[0] ++ [32,73,83,32,78,85,76,76]) w):=by
 have on1 : (oo == 1) = false:=by simp; omega
 obtain ⟨b,off,c,rfl,hu⟩:=rkids_use hX hn hxr (by omega) hd
 have hb0:=xE_len hn (hd 0 (by omega)).1 (hd 0 (by omega)).2 5
 simp only [exC,hl1]
 have HU:=Lib.hid hu
 obtain ⟨z0,hz0⟩ : ∃ z,es[0] = z:=⟨_,rfl⟩
 rw [hz0] at hb0 ⊢
 have HZ0:=Lib.hid hz0
 clear hu hxr hd hX hz0
 obtain ⟨W1,hW1⟩ : ∃ W,w.alloc (.cells #[.int .i64 7,.int .i64 oo,.int .i64 v1,.int .i64 v2,.string v3,.string tt,.string nn,.slice (some ⟨b,off,none⟩) 1 c,.int .i64 pp] 49) = W:=⟨_,rfl⟩
 have HB1 : Hid (Below w.heap.size w W1):=Lib.hid (hW1 ▸ (Below.refl _ _).alloc (Nat.le_refl _) _)
 have HN1 : Hid (W1.heap[w.heap.size]? = some (.cells #[.int .i64 7,.int .i64 oo,.int .i64 v1,.int .i64 v2,.string v3,.string tt,.string nn,.slice (some ⟨b,off,none⟩) 1 c,.int .i64 pp] 49 (0,0))):=Lib.hid (hW1 ▸ heap_alloc_new w _)
 have z1:=nine_of HN1.out
 go_enter Tryz.func50,Tryz.ntmps50
 obtain ⟨k1,o1,x1,x2,x3,t1,n1,a1,m1,c1,p1,hkk,hc,hu⟩:=HU.out 0 (by omega)
 have HX:=Lib.hid (hu 5)
 have HCS:=Lib.hid hc
 have q0:=Cl HB1.out (HCS.out 0 _ rfl)
 have q1:=Cl HB1.out (HCS.out 1 _ rfl)
 have q2:=Cl HB1.out (HCS.out 2 _ rfl)
 have q3:=Cl HB1.out (HCS.out 3 _ rfl)
 have q4:=Cl HB1.out (HCS.out 4 _ rfl)
 have q5:=Cl HB1.out (HCS.out 5 _ rfl)
 have q6:=Cl HB1.out (HCS.out 6 _ rfl)
 have q7:=Cl HB1.out (HCS.out 7 _ rfl)
 have q8:=Cl HB1.out (HCS.out 8 _ rfl)
 simp only [Nat.zero_mul,Nat.add_zero] at q0 q1 q2 q3 q4 q5 q6 q7 q8
 clear hc hu
 rw [HZ0.out] at HX
 clear hkk
 go_wp2_with fail
 clear hW1
 refine (HX.out _ HB1.out).mono ?_
 rintro e w2 ⟨s0,rfl,hs,hb⟩
 have HS0:=Lib.hid hs
 have HB2:=Hbt HB1 hb
 have HN2:=Hbk hb HN1
 have e1 : s0.data.toList.length = s0.size:=by simp
 have hzs0 : s0.size ≤ 300000000000000000:=by rw [← e1,hs]; exact (by omega)
 clear e1
 clear hb hs z1 HN1 q0 q1 q2 q3 q4 q5 q6 q7 q8 HX HCS
 have z1:=nine_of HN2.out
 have HT : Hid ((s0 ++ (⟨#[32,73,83,32,78,85,76,76]⟩ : ByteArray) : ByteArray).data.toList = xE 5 z0 ++ [32,73,83,32,78,85,76,76]):=by
  show _ = _
  rw [← HS0.out]; simp
 go_wp2
 exact bodyPost_ret (v:=.string (s0 ++ (⟨#[32,73,83,32,78,85,76,76]⟩ : ByteArray))) (by simp [results,Tryz.results50,go_sem]) rfl ⟨_,rfl,HT.out,HB2.out⟩

theorem rexpr_3e (w : World) (oo v1 v2 : Int) (v3 nn : ByteArray) (es : List Ex) (pp : Int) (k : Value) (hxr : XR w (.mk 3 oo (v1,v2,v3) ⟨#[]⟩ nn es pp) k) : Calls Tryz.prog 50 #[.agg (exC (.mk 3 oo (v1,v2,v3) ⟨#[]⟩ nn es pp) k).toArray] w (RP (nn.data.toList) w):=by
 obtain ⟨a,m,c,rfl⟩:=hxr.slice
 simp only [exC]
 clear hxr
 obtain ⟨W1,hW1⟩ : ∃ W,w.alloc (.cells #[.int .i64 3,.int .i64 oo,.int .i64 v1,.int .i64 v2,.string v3,.string ⟨#[]⟩,.string nn,.slice a m c,.int .i64 pp] 49) = W:=⟨_,rfl⟩
 have HB1 : Hid (Below w.heap.size w W1):=Lib.hid (hW1 ▸ (Below.refl _ _).alloc (Nat.le_refl _) _)
 have HN1 : Hid (W1.heap[w.heap.size]? = some (.cells #[.int .i64 3,.int .i64 oo,.int .i64 v1,.int .i64 v2,.string v3,.string ⟨#[]⟩,.string nn,.slice a m c,.int .i64 pp] 49 (0,0))):=Lib.hid (hW1 ▸ heap_alloc_new w _)
 have z1:=nine_of HN1.out
 go_enter Tryz.func50,Tryz.ntmps50
 go_wp2
 exact bodyPost_ret (v:=.string nn) (by simp [results,Tryz.results50,go_sem]) rfl ⟨_,rfl,rfl,by (try rw [hW1]); exact HB1.out⟩

theorem rexpr_3n (w : World) (oo v1 v2 : Int) (v3 tt nn : ByteArray) (es : List Ex) (pp : Int) (k : Value) (hxr : XR w (.mk 3 oo (v1,v2,v3) tt nn es pp) k) (ht0 : ¬ tt = ⟨#[]⟩) (htt : tt.size ≤ 16) (hnn : nn.size ≤ 16) : Calls Tryz.prog 50 #[.agg (exC (.mk 3 oo (v1,v2,v3) tt nn es pp) k).toArray] w (RP (tt.data.toList ++ 46 :: nn.data.toList) w):=by
 obtain ⟨nz1,nz2⟩:=not_nil ht0
 obtain ⟨a,m,c,rfl⟩:=hxr.slice
 simp only [exC]
 clear hxr
 obtain ⟨W1,hW1⟩ : ∃ W,w.alloc (.cells #[.int .i64 3,.int .i64 oo,.int .i64 v1,.int .i64 v2,.string v3,.string tt,.string nn,.slice a m c,.int .i64 pp] 49) = W:=⟨_,rfl⟩
 have HB1 : Hid (Below w.heap.size w W1):=Lib.hid (hW1 ▸ (Below.refl _ _).alloc (Nat.le_refl _) _)
 have HN1 : Hid (W1.heap[w.heap.size]? = some (.cells #[.int .i64 3,.int .i64 oo,.int .i64 v1,.int .i64 v2,.string v3,.string tt,.string nn,.slice a m c,.int .i64 pp] 49 (0,0))):=Lib.hid (hW1 ▸ heap_alloc_new w _)
 have z1:=nine_of HN1.out
 go_enter Tryz.func50,Tryz.ntmps50
 have HT : Hid ((tt ++ (⟨#[46]⟩ : ByteArray) ++ nn : ByteArray).data.toList = tt.data.toList ++ 46 :: nn.data.toList):=by
  show _ = _
  simp
 go_wp2
 exact bodyPost_ret (v:=.string (tt ++ (⟨#[46]⟩ : ByteArray) ++ nn)) (by simp [results,Tryz.results50,go_sem]) rfl ⟨_,rfl,HT.out,HB1.out⟩

theorem rexpr_5 {n : Nat} (hX : RC n) (hn : n ≤ 16) (w : World) (oo v1 v2 : Int) (v3 tt nn : ByteArray) (es : List Ex) (pp : Int) (k : Value) (hxr : XR w (.mk 5 oo (v1,v2,v3) tt nn es pp) k) (h1 : 1 ≤ oo) (h2 : oo ≤ 5) (hl2 : es.length = 2) (hd : ∀ i (h : i < es.length),dpr n es[i] = false ∧ RtE es[i]) (r : Nat) (hr : (if oo ≤ 2 then 5 else 6) = r) : Calls Tryz.prog 50 #[.agg (exC (.mk 5 oo (v1,v2,v3) tt nn es pp) k).toArray] w (RP (xE r es[0] ++ (32 : UInt8) :: (ariS oo ++ (32 : UInt8) :: xE (r + 1) es[1])) w):=by
 obtain ⟨a,m,c,rfl⟩:=hxr.slice
 have HTW:=Lib.hid (fun W (hb : Below w.heap.size w W) => rtwo_5 hX hn W oo v1 v2 h1 h2 v3 tt nn es pp _ (hxr.later hb) hl2 hd r hr)
 obtain ⟨X,hXX⟩ : ∃ X,xE r es[0] ++ (32 : UInt8) :: (ariS oo ++ (32 : UInt8) :: xE (r + 1) es[1]) = X:=⟨_,rfl⟩
 rw [hXX] at HTW ⊢
 simp only [exC] at HTW ⊢
 clear hxr hX hd hXX hr
 obtain ⟨W1,hW1⟩ : ∃ W,w.alloc (.cells #[.int .i64 5,.int .i64 oo,.int .i64 v1,.int .i64 v2,.string v3,.string tt,.string nn,.slice a m c,.int .i64 pp] 49) = W:=⟨_,rfl⟩
 have HB1 : Hid (Below w.heap.size w W1):=Lib.hid (hW1 ▸ (Below.refl _ _).alloc (Nat.le_refl _) _)
 have HN1 : Hid (W1.heap[w.heap.size]? = some (.cells #[.int .i64 5,.int .i64 oo,.int .i64 v1,.int .i64 v2,.string v3,.string tt,.string nn,.slice a m c,.int .i64 pp] 49 (0,0))):=Lib.hid (hW1 ▸ heap_alloc_new w _)
 have z1:=nine_of HN1.out
 go_enter Tryz.func50,Tryz.ntmps50
 go_wp2_with fail
 clear hW1
 refine (HTW.out _ HB1.out).mono ?_
 rintro e w2 ⟨s0,rfl,hs,hb⟩
 have HS0:=Lib.hid hs
 have HB2:=Hbt HB1 hb
 have HN2:=Hbk hb HN1
 clear hb hs z1 HN1
 have z1:=nine_of HN2.out
 go_wp2
 exact bodyPost_ret (v:=.string s0) (by simp [results,Tryz.results50,go_sem]) rfl ⟨_,rfl,HS0.out,HB2.out⟩

theorem rexpr_6 {n : Nat} (hX : RC n) (hn : n ≤ 16) (w : World) (oo v1 v2 : Int) (v3 tt nn : ByteArray) (es : List Ex) (pp : Int) (k : Value) (hxr : XR w (.mk 6 oo (v1,v2,v3) tt nn es pp) k) (h1 : 1 ≤ oo) (h2 : oo ≤ 6) (hl2 : es.length = 2) (hd : ∀ i (h : i < es.length),dpr n es[i] = false ∧ RtE es[i]) : Calls Tryz.prog 50 #[.agg (exC (.mk 6 oo (v1,v2,v3) tt nn es pp) k).toArray] w (RP (xE 5 es[0] ++ (32 : UInt8) :: (cmpS oo ++ (32 : UInt8) :: xE 5 es[1])) w):=by
 obtain ⟨a,m,c,rfl⟩:=hxr.slice
 have HTW:=Lib.hid (fun W (hb : Below w.heap.size w W) => rtwo_6 hX hn W oo v1 v2 h1 h2 v3 tt nn es pp _ (hxr.later hb) hl2 hd)
 obtain ⟨X,hXX⟩ : ∃ X,xE 5 es[0] ++ (32 : UInt8) :: (cmpS oo ++ (32 : UInt8) :: xE 5 es[1]) = X:=⟨_,rfl⟩
 rw [hXX] at HTW ⊢
 simp only [exC] at HTW ⊢
 clear hxr hX hd hXX
 obtain ⟨W1,hW1⟩ : ∃ W,w.alloc (.cells #[.int .i64 6,.int .i64 oo,.int .i64 v1,.int .i64 v2,.string v3,.string tt,.string nn,.slice a m c,.int .i64 pp] 49) = W:=⟨_,rfl⟩
 have HB1 : Hid (Below w.heap.size w W1):=Lib.hid (hW1 ▸ (Below.refl _ _).alloc (Nat.le_refl _) _)
 have HN1 : Hid (W1.heap[w.heap.size]? = some (.cells #[.int .i64 6,.int .i64 oo,.int .i64 v1,.int .i64 v2,.string v3,.string tt,.string nn,.slice a m c,.int .i64 pp] 49 (0,0))):=Lib.hid (hW1 ▸ heap_alloc_new w _)
 have z1:=nine_of HN1.out
 go_enter Tryz.func50,Tryz.ntmps50
 go_wp2_with fail
 clear hW1
 refine (HTW.out _ HB1.out).mono ?_
 rintro e w2 ⟨s0,rfl,hs,hb⟩
 have HS0:=Lib.hid hs
 have HB2:=Hbt HB1 hb
 have HN2:=Hbk hb HN1
 clear hb hs z1 HN1
 have z1:=nine_of HN2.out
 go_wp2
 exact bodyPost_ret (v:=.string s0) (by simp [results,Tryz.results50,go_sem]) rfl ⟨_,rfl,HS0.out,HB2.out⟩
end Go.Proofs.YteolnlcmnaknnaaGreatDoor
