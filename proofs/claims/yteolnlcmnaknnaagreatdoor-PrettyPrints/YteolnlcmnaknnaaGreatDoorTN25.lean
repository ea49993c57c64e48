/- N25 N26 -/
import Derived.Test.YteolnlcmnaknnaaGreatDoorTN24
import Derived.Test.YteolnlcmnaknnaaGreatDoorTV7
set_option maxHeartbeats 4000000
set_option maxRecDepth 100000
namespace Go.Proofs.YteolnlcmnaknnaaGreatDoor
open Go.RowKit
theorem rkid_x {n : Nat} (hx : RC n) (hn : n ≤ 16) {e : Ex} (hd : dpr n e = false) (hr : RtE e) {w : World} {k : Value} (hxr : XR w e k) (need : Nat) : Calls Tryz.prog 82 #[.agg (exC e k).toArray,.int .i64 (need : Int)] w (RP (xE need e) w):=by
 obtain ⟨a1,m1,c1,hk⟩:=hxr.slice
 have hu:=fun W (hb : Below w.heap.size w W) => hx e hd hr W k (hxr.later hb)
 have hl:=xE_len hn hd hr 1
 rw [xE_one] at hl
 rw [hk] at hu ⊢
 obtain ⟨k1,o1,⟨x1,x2,x3⟩,t1,n1,ks1,p1⟩:=e
 exact rkid_w k1 o1 x1 x2 x3 t1 n1 a1 m1 c1 p1 need _ w _ (by omega) hu (rrank_any k1 o1 x1 x2 x3 t1 n1 ks1 p1 a1 m1 c1)

theorem rkids_expr {n : Nat} (hx : RC n) {kk oo : Int} {v : V3} {tt nn : ByteArray} {es : List Ex} {pp : Int} {w : World} {k : Value} (h : XR w (.mk kk oo v tt nn es pp) k) (h0 : 0 < es.length) (hd : ∀ i (h : i < es.length),dpr n es[i] = false ∧ RtE es[i]) :
  ∃ b off c,k = .slice (some ⟨b,off,none⟩) es.length c ∧ ∃ k1 o1 x1 x2 x3 t1 n1 a1 m1 c1 p1,(∀ j u,[.int .i64 k1,.int .i64 o1,.int .i64 x1,.int .i64 x2,.string x3,.string t1,.string n1,.slice a1 m1 c1,.int .i64 p1][j]? = some u → w.cell? ⟨b,off + j,none⟩ = some u) ∧
  ∀ (W : World),Below w.heap.size w W → Calls Tryz.prog 50 #[.agg #[.int .i64 k1,.int .i64 o1,.int .i64 x1,.int .i64 x2,.string x3,.string t1,.string n1,.slice a1 m1 c1,.int .i64 p1]] W (RP (xB es[0]) W):=by
 cases h with
 | mk ks h1 hc hm h2 h3 =>
  obtain ⟨b,off,rfl,hcs⟩:=h2 0 h0 (by omega)
  refine ⟨b,off,_,rfl,?_⟩
  have hxr:=h3 0 h0 (by omega)
  obtain ⟨a1,m1,c1,hk⟩:=hxr.slice
  have hu:=fun W (hb : Below w.heap.size w W) => hx es[0] (hd 0 h0).1 (hd 0 h0).2 W ks[0] (hxr.later hb)
  rw [hk] at hcs hu
  obtain ⟨⟨k1,o1,⟨x1,x2,x3⟩,t1,n1,ks1,p1⟩,he⟩ : ∃ x,es[0] = x:=⟨_,rfl⟩
  rw [he] at hcs hu ⊢
  refine ⟨k1,o1,x1,x2,x3,t1,n1,a1,m1,c1,p1,?_,hu⟩
  intro j u hj
  have:=hcs j u hj
  rwa [Nat.zero_mul,Nat.add_zero] at this

theorem rexpr_1 (w : World) (oo v1 v2 : Int) (v3 tt nn : ByteArray) (es : List Ex) (pp : Int) (k : Value) (hxr : XR w (.mk 1 oo (v1,v2,v3) tt nn es pp) k) (hl : litOk (v1,v2,v3)) : Calls Tryz.prog 50 #[.agg (exC (.mk 1 oo (v1,v2,v3) tt nn es pp) k).toArray] w (RP (lit (v1,v2,v3)) w):=by
 have HPV : Hid (prV (v1,v2,v3) = .tuple #[.string ⟨(lit (v1,v2,v3)).toArray⟩,.int .i64 0]):=by
  show _ = _
  unfold prV
  rw [prR_ok hl.1]
 clear hl
 obtain ⟨a,m,c,rfl⟩:=hxr.slice
 simp only [exC]
 clear hxr
 obtain ⟨W1,hW1⟩ : ∃ W,w.alloc (.cells #[.int .i64 1,.int .i64 oo,.int .i64 v1,.int .i64 v2,.string v3,.string tt,.string nn,.slice a m c,.int .i64 pp] 49) = W:=⟨_,rfl⟩
 have HB1 : Hid (Below w.heap.size w W1):=Lib.hid (hW1 ▸ (Below.refl _ _).alloc (Nat.le_refl _) _)
 have HN1 : Hid (W1.heap[w.heap.size]? = some (.cells #[.int .i64 1,.int .i64 oo,.int .i64 v1,.int .i64 v2,.string v3,.string tt,.string nn,.slice a m c,.int .i64 pp] 49 (0,0))):=Lib.hid (hW1 ▸ heap_alloc_new w _)
 have z1:=nine_of HN1.out
 go_enter Tryz.func50,Tryz.ntmps50
 go_wp2_with fail
 clear hW1
 refine (rprint_any (v1,v2,v3) _).mono ?_
 rintro e w2 ⟨rfl,hb⟩
 rw [HPV.out]
 have HB2:=Hbt HB1 hb
 clear hb z1 HN1
 go_wp2
 exact bodyPost_ret (v:=.string ⟨(lit (v1,v2,v3)).toArray⟩) (by simp [results,Tryz.results50,go_sem]) rfl ⟨_,rfl,by simp,HB2.out⟩

theorem rexpr_4y {n : Nat} (hX : RC n) (hn : n ≤ 16) (w : World) (oo v1 v2 : Int) (v3 tt nn : ByteArray) (es : List Ex) (pp : Int) (k : Value) (hxr : XR w (.mk 4 oo (v1,v2,v3) tt nn es pp) k) (hl1 : es.length = 1) (hd : ∀ i (h : i < es.length),dpr n es[i] = false ∧ RtE es[i]) (hk : kindOf es[0] = 4) : Calls Tryz.prog 50 #[.agg (exC (.mk 4 oo (v1,v2,v3) tt nn es pp) k).toArray] w (RP (45 :: 32 :: xE 7 es[0]) w):=by
 have hk4 : kindOf es[0] = 4:=hk
 obtain ⟨c0,l0,hc0,hc4⟩:=xE7_head (hd 0 (by omega)).2
 clear hk
 obtain ⟨b,off,c,rfl,hu⟩:=rkids_use hX hn hxr (by omega) hd
 have hb0:=xE_len hn (hd 0 (by omega)).1 (hd 0 (by omega)).2 7
 simp only [exC,hl1]
 have HU:=Lib.hid hu
 obtain ⟨z0,hz0⟩ : ∃ z,es[0] = z:=⟨_,rfl⟩
 rw [hz0] at hb0 ⊢
 have HZ0:=Lib.hid hz0
 clear hu hxr hd hX hz0
 obtain ⟨W1,hW1⟩ : ∃ W,w.alloc (.cells #[.int .i64 4,.int .i64 oo,.int .i64 v1,.int .i64 v2,.string v3,.string tt,.string nn,.slice (some ⟨b,off,none⟩) 1 c,.int .i64 pp] 49) = W:=⟨_,rfl⟩
 have HB1 : Hid (Below w.heap.size w W1):=Lib.hid (hW1 ▸ (Below.refl _ _).alloc (Nat.le_refl _) _)
 have HN1 : Hid (W1.heap[w.heap.size]? = some (.cells #[.int .i64 4,.int .i64 oo,.int .i64 v1,.int .i64 v2,.string v3,.string tt,.string nn,.slice (some ⟨b,off,none⟩) 1 c,.int .i64 pp] 49 (0,0))):=Lib.hid (hW1 ▸ heap_alloc_new w _)
 have z1:=nine_of HN1.out
 go_enter Tryz.func50,Tryz.ntmps50
 obtain ⟨k1,o1,x1,x2,x3,t1,n1,a1,m1,c1,p1,hkk,hc,hu⟩:=HU.out 0 (by omega)
 have HX:=Lib.hid (hu 7)
 have HCS:=Lib.hid hc
 have q0:=Cl HB1.out (HCS.out 0 _ rfl)
 have q1:=Cl HB1.out (HCS.out 1 _ rfl)
 have q2:=Cl HB1.out (HCS.out 2 _ rfl)
 have q3:=Cl HB1.out (HCS.out 3 _ rfl)
 have q4:=Cl HB1.out (HCS.out 4 _ rfl)
 have q5:=Cl HB1.out (HCS.out 5 _ rfl)
 have q6:=Cl HB1.out (HCS.out 6 _ rfl)
 have q7:=Cl HB1.out (HCS.out 7 _ rfl)
 have q8:=Cl HB1.out (HCS.out 8 _ rfl)
 simp only [Nat.zero_mul,Nat.add_zero] at q0 q1 q2 q3 q4 q5 q6 q7 q8
 clear hc hu
 rw [HZ0.out] at HX
 clear hkk
 go_wp2_with fail
 clear hW1
 refine (HX.out _ HB1.out).mono ?_
 rintro e w2 ⟨s0,rfl,hs,hb⟩
 have HS0:=Lib.hid hs
 have HB2:=Hbt HB1 hb
 have HN2:=Hbk hb HN1
 have e1 : s0.data.toList.length = s0.size:=by simp
 have hzs0 : s0.size ≤ 300000000000000000:=by rw [← e1,hs]; exact (by omega)
 clear e1
 clear hb hs z1 HN1 q0 q1 q2 q3 q4 q5 q6 q7 q8 HX HCS
 have z1:=nine_of HN2.out
 have HC0:=Lib.hid hc0
 rw [HZ0.out] at HC0
 clear hc0
 have hs0 : 0 < s0.size:=by
  have e1 : s0.data.toList.length = s0.size:=by simp
  rw [← e1,HS0.out,HC0.out]
  simp
 have hg0 : s0[0] = c0:=by
  have e2 : s0.data.toList[0]? = some c0:=by rw [HS0.out,HC0.out]; rfl
  rw [List.getElem?_eq_getElem (by simpa using hs0)] at e2
  exact Option.some.inj e2
 have h45 : c0 = 45:=hc4.2 hk4
 subst h45
 clear hc4 hk4
 have HT : Hid (((⟨#[45,32]⟩ : ByteArray) ++ s0 : ByteArray).data.toList = 45 :: 32 :: xE 7 z0):=by
  show _ = _
  rw [← HS0.out]; simp
 go_wp2
 exact bodyPost_ret (v:=.string ((⟨#[45,32]⟩ : ByteArray) ++ s0)) (by simp [results,Tryz.results50,go_sem]) rfl ⟨_,rfl,HT.out,HB2.out⟩

theorem rexpr_4n {n : Nat} (hX : RC n) (hn : n ≤ 16) (w : World) (oo v1 v2 : Int) (v3 tt nn : ByteArray) (es : List Ex) (pp : Int) (k : Value) (hxr : XR w (.mk 4 oo (v1,v2,v3) tt nn es pp) k) (hl1 : es.length = 1) (hd : ∀ i (h : i < es.length),dpr n es[i] = false ∧ RtE es[i]) (hk : kindOf es[0] ≠ 4) : Calls Tryz.prog 50 #[.agg (exC (.mk 4 oo (v1,v2,v3) tt nn es pp) k).toArray] w (RP (45 :: xE 7 es[0]) w):=by
 have hk4 : kindOf es[0] ≠ 4:=hk
 obtain ⟨c0,l0,hc0,hc4⟩:=xE7_head (hd 0 (by omega)).2
 clear hk
 obtain ⟨b,off,c,rfl,hu⟩:=rkids_use hX hn hxr (by omega) hd
 have hb0:=xE_len hn (hd 0 (by omega)).1 (hd 0 (by omega)).2 7
 simp only [exC,hl1]
 have HU:=Lib.hid hu
 obtain ⟨z0,hz0⟩ : ∃ z,es[0] = z:=⟨_,rfl⟩
 rw [hz0] at hb0 ⊢
 have HZ0:=Lib.hid hz0
 clear hu hxr hd hX hz0
 obtain ⟨W1,hW1⟩ : ∃ W,w.alloc (.cells #[.int .i64 4,.int .i64 oo,.int .i64 v1,.int .i64 v2,.string v3,.string tt,.string nn,.slice (some ⟨b,off,none⟩) 1 c,.int .i64 pp] 49) = W:=⟨_,rfl⟩
 have HB1 : Hid (Below w.heap.size w W1):=Lib.hid (hW1 ▸ (Below.refl _ _).alloc (Nat.le_refl _) _)
 have HN1 : Hid (W1.heap[w.heap.size]? = some (.cells #[.int .i64 4,.int .i64 oo,.int .i64 v1,.int .i64 v2,.string v3,.string tt,.string nn,.slice (some ⟨b,off,none⟩) 1 c,.int .i64 pp] 49 (0,0))):=Lib.hid (hW1 ▸ heap_alloc_new w _)
 have z1:=nine_of HN1.out
 go_enter Tryz.func50,Tryz.ntmps50
 obtain ⟨k1,o1,x1,x2,x3,t1,n1,a1,m1,c1,p1,hkk,hc,hu⟩:=HU.out 0 (by omega)
 have HX:=Lib.hid (hu 7)
 have HCS:=Lib.hid hc
 have q0:=Cl HB1.out (HCS.out 0 _ rfl)
 have q1:=Cl HB1.out (HCS.out 1 _ rfl)
 have q2:=Cl HB1.out (HCS.out 2 _ rfl)
 have q3:=Cl HB1.out (HCS.out 3 _ rfl)
 have q4:=Cl HB1.out (HCS.out 4 _ rfl)
 have q5:=Cl HB1.out (HCS.out 5 _ rfl)
 have q6:=Cl HB1.out (HCS.out 6 _ rfl)
 have q7:=Cl HB1.out (HCS.out 7 _ rfl)
 have q8:=Cl HB1.out (HCS.out 8 _ rfl)
 simp only [Nat.zero_mul,Nat.add_zero] at q0 q1 q2 q3 q4 q5 q6 q7 q8
 clear hc hu
 rw [HZ0.out] at HX
 clear hkk
 go_wp2_with fail
 clear hW1
 refine (HX.out _ HB1.out).mono ?_
 rintro e w2 ⟨s0,rfl,hs,hb⟩
 have HS0:=Lib.hid hs
 have HB2:=Hbt HB1 hb
 have HN2:=Hbk hb HN1
 have e1 : s0.data.toList.length = s0.size:=by simp
 have hzs0 : s0.size ≤ 300000000000000000:=by rw [← e1,hs]; exact (by omega)
 clear e1
 clear hb hs z1 HN1 q0 q1 q2 q3 q4 q5 q6 q7 q8 HX HCS
 have z1:=nine_of HN2.out
 have HC0:=Lib.hid hc0
 rw [HZ0.out] at HC0
 clear hc0
 have hs0 : 0 < s0.size:=by
  have e1 : s0.data.toList.length = s0.size:=by simp
  rw [← e1,HS0.out,HC0.out]
  simp
 have hg0 : s0[0] = c0:=by
  have e2 : s0.data.toList[0]? = some c0:=by rw [HS0.out,HC0.out]; rfl
  rw [List.getElem?_eq_getElem (by simpa using hs0)] at e2
  exact Option.some.inj e2
 have h45 : ¬ ((c0.toNat : Int) = 45):=by
  intro e
  apply hk4
  apply hc4.1
  apply UInt8.toNat_inj.1
  show c0.toNat = 45
  omega
 clear hc4 hk4
 have HT : Hid (((⟨#[45]⟩ : ByteArray) ++ s0 : ByteArray).data.toList = 45 :: xE 7 z0):=by
  show _ = _
  rw [← HS0.out]; simp
 go_wp2
 exact bodyPost_ret (v:=.string ((⟨#[45]⟩ : ByteArray) ++ s0)) (by simp [results,Tryz.results50,go_sem]) rfl ⟨_,rfl,HT.out,HB2.out⟩

theorem rexpr_9 {n : Nat} (hX : RC n) (hn : n ≤ 16) (w : World) (oo v1 v2 : Int) (v3 tt nn : ByteArray) (es : List Ex) (pp : Int) (k : Value) (hxr : XR w (.mk 9 oo (v1,v2,v3) tt nn es pp) k) (hl0 : es.length ≤ 8) (hd : ∀ i (h : i < es.length),dpr n es[i] = false ∧ RtE es[i]) : Calls Tryz.prog 50 #[.agg (exC (.mk 9 oo (v1,v2,v3) tt nn es pp) k).toArray] w (RP (laid [] [32,65,78,68,32] (xE 3) es) w):=by
 have HRW : Hid (∃ a c,k = .slice a es.length c ∧ ∀ W,Below w.heap.size w W → Calls Tryz.prog 49 #[.slice a es.length c,.string ⟨#[32,65,78,68,32]⟩,.int .i64 3] W (RP (laid [] [32,65,78,68,32] (xE 3) es) W)):=by
  cases hxr with
  | mk ks h1 hc hm h2 h3 =>
   refine ⟨_,_,rfl,fun W hW => ?_⟩
   exact rrow_any W ⟨#[32,65,78,68,32]⟩ (by decide) es _ _ ks h1 (h2.later hW) (fun i h' => (h3 i (by omega) h').slice) (by omega) 3 (xE 3) 200000000000000000 (Nat.le_refl _) (fun e he => by obtain ⟨i,hi,rfl⟩:=List.getElem_of_mem he; exact xE_len hn (hd i hi).1 (hd i hi).2 3) fun j hj hj2 W2 hW2 => rkid_x hX hn (hd j hj).1 (hd j hj).2 ((h3 j hj hj2).later (hW.trans (hW2.mono hW.size))) 3
 obtain ⟨a,c,rfl,hrw⟩:=HRW.out
 have HRX:=Lib.hid hrw
 obtain ⟨X,hXX⟩ : ∃ X,laid [] [32,65,78,68,32] (xE 3) es = X:=⟨_,rfl⟩
 rw [hXX] at HRX ⊢
 simp only [exC]
 clear HRW hrw hxr hd hX hXX
 obtain ⟨W1,hW1⟩ : ∃ W,w.alloc (.cells #[.int .i64 9,.int .i64 oo,.int .i64 v1,.int .i64 v2,.string v3,.string tt,.string nn,.slice a es.length c,.int .i64 pp] 49) = W:=⟨_,rfl⟩
 have HB1 : Hid (Below w.heap.size w W1):=Lib.hid (hW1 ▸ (Below.refl _ _).alloc (Nat.le_refl _) _)
 have HN1 : Hid (W1.heap[w.heap.size]? = some (.cells #[.int .i64 9,.int .i64 oo,.int .i64 v1,.int .i64 v2,.string v3,.string tt,.string nn,.slice a es.length c,.int .i64 pp] 49 (0,0))):=Lib.hid (hW1 ▸ heap_alloc_new w _)
 have z1:=nine_of HN1.out
 go_enter Tryz.func50,Tryz.ntmps50
 go_wp2_with fail
 clear hW1
 refine (HRX.out _ HB1.out).mono ?_
 rintro e w2 ⟨s0,rfl,hs,hb⟩
 have HS0:=Lib.hid hs
 have HB2:=Hbt HB1 hb
 have HN2:=Hbk hb HN1
 clear hb hs z1 HN1
 have z1:=nine_of HN2.out
 go_wp2
 exact bodyPost_ret (v:=.string s0) (by simp [results,Tryz.results50,go_sem]) rfl ⟨_,rfl,HS0.out,HB2.out⟩

theorem rexpr_10 {n : Nat} (hX : RC n) (hn : n ≤ 16) (w : World) (oo v1 v2 : Int) (v3 tt nn : ByteArray) (es : List Ex) (pp : Int) (k : Value) (hxr : XR w (.mk 10 oo (v1,v2,v3) tt nn es pp) k) (hl0 : es.length ≤ 8) (hd : ∀ i (h : i < es.length),dpr n es[i] = false ∧ RtE es[i]) : Calls Tryz.prog 50 #[.agg (exC (.mk 10 oo (v1,v2,v3) tt nn es pp) k).toArray] w (RP (laid [] [32,79,82,32] (xE 2) es) w):=by
 have HRW : Hid (∃ a c,k = .slice a es.length c ∧ ∀ W,Below w.heap.size w W → Calls Tryz.prog 49 #[.slice a es.length c,.string ⟨#[32,79,82,32]⟩,.int .i64 2] W (RP (laid [] [32,79,82,32] (xE 2) es) W)):=by
  cases hxr with
  | mk ks h1 hc hm h2 h3 =>
   refine ⟨_,_,rfl,fun W hW => ?_⟩
   exact rrow_any W ⟨#[32,79,82,32]⟩ (by decide) es _ _ ks h1 (h2.later hW) (fun i h' => (h3 i (by omega) h').slice) (by omega) 2 (xE 2) 200000000000000000 (Nat.le_refl _) (fun e he => by obtain ⟨i,hi,rfl⟩:=List.getElem_of_mem he; exact xE_len hn (hd i hi).1 (hd i hi).2 2) fun j hj hj2 W2 hW2 => rkid_x hX hn (hd j hj).1 (hd j hj).2 ((h3 j hj hj2).later (hW.trans (hW2.mono hW.size))) 2
 obtain ⟨a,c,rfl,hrw⟩:=HRW.out
 have HRX:=Lib.hid hrw
 obtain ⟨X,hXX⟩ : ∃ X,laid [] [32,79,82,32] (xE 2) es = X:=⟨_,rfl⟩
 rw [hXX] at HRX ⊢
 simp only [exC]
 clear HRW hrw hxr hd hX hXX
 obtain ⟨W1,hW1⟩ : ∃ W,w.alloc (.cells #[.int .i64 10,.int .i64 oo,.int .i64 v1,.int .i64 v2,.string v3,.string tt,.string nn,.slice a es.length c,.int .i64 pp] 49) = W:=⟨_,rfl⟩
 have HB1 : Hid (Below w.heap.size w W1):=Lib.hid (hW1 ▸ (Below.refl _ _).alloc (Nat.le_refl _) _)
 have HN1 : Hid (W1.heap[w.heap.size]? = some (.cells #[.int .i64 10,.int .i64 oo,.int .i64 v1,.int .i64 v2,.string v3,.string tt,.string nn,.slice a es.length c,.int .i64 pp] 49 (0,0))):=Lib.hid (hW1 ▸ heap_alloc_new w _)
 have z1:=nine_of HN1.out
 go_enter Tryz.func50,Tryz.ntmps50
 go_wp2_with fail
 clear hW1
 refine (HRX.out _ HB1.out).mono ?_
 rintro e w2 ⟨s0,rfl,hs,hb⟩
 have HS0:=Lib.hid hs
 have HB2:=Hbt HB1 hb
 have HN2:=Hbk hb HN1
 clear hb hs z1 HN1
 have z1:=nine_of HN2.out
 go_wp2
 exact bodyPost_ret (v:=.string s0) (by simp [results,Tryz.results50,go_sem]) rfl ⟨_,rfl,HS0.out,HB2.out⟩

theorem rexpr_12 {n : Nat} (hX : RC n) (hn : n ≤ 16) (w : World) (oo v1 v2 : Int) (v3 tt nn : ByteArray) (es : List Ex) (pp : Int) (k : Value) (hxr : XR w (.mk 12 oo (v1,v2,v3) tt nn es pp) k) (hl1 : es.length = 1) (hd : ∀ i (h : i < es.length),dpr n es[i] = false ∧ RtE es[i]) : Calls Tryz.prog 50 #[.agg (exC (.mk 12 oo (v1,v2,v3) tt nn es pp) k).toArray] w (RP (([83,85,77,40] : List UInt8) ++ xB es[0] ++ [41]) w):=by
 obtain ⟨b,off,c,rfl,k1,o1,x1,x2,x3,t1,n1,a1,m1,c1,p1,hc,hu⟩:=rkids_expr hX hxr (by omega) hd
 have hb0:=xE_len hn (hd 0 (by omega)).1 (hd 0 (by omega)).2 1
 rw [xE_one] at hb0
 simp only [exC,hl1]
 have HX:=Lib.hid hu
 have HCS:=Lib.hid hc
 obtain ⟨z0,hz0⟩ : ∃ z,es[0] = z:=⟨_,rfl⟩
 rw [hz0] at hb0 HX ⊢
 clear hu hc hxr hd hX hz0
 obtain ⟨W1,hW1⟩ : ∃ W,w.alloc (.cells #[.int .i64 12,.int .i64 oo,.int .i64 v1,.int .i64 v2,.string v3,.string tt,.string nn,.slice (some ⟨b,off,none⟩) 1 c,.int .i64 pp] 49) = W:=⟨_,rfl⟩
 have HB1 : Hid (Below w.heap.size w W1):=Lib.hid (hW1 ▸ (Below.refl _ _).alloc (Nat.le_refl _) _)
 have HN1 : Hid (W1.heap[w.heap.size]? = some (.cells #[.int .i64 12,.int .i64 oo,.int .i64 v1,.int .i64 v2,.string v3,.string tt,.string nn,.slice (some ⟨b,off,none⟩) 1 c,.int .i64 pp] 49 (0,0))):=Lib.hid (hW1 ▸ heap_alloc_new w _)
 have z1:=nine_of HN1.out
 obtain ⟨W2,hW2⟩ : ∃ W,W1.alloc (.cells #[.string ⟨#[83,85,77,40]⟩,.string ⟨#[77,73,78,40]⟩,.string ⟨#[77,65,88,40]⟩] 9) = W:=⟨_,rfl⟩
 have HB2 : Hid (Below w.heap.size w W2):=Lib.hid (hW2 ▸ HB1.out.alloc HB1.out.size _)
 have HN2 : Hid (W2.heap[w.heap.size]? = some (.cells #[.int .i64 12,.int .i64 oo,.int .i64 v1,.int .i64 v2,.string v3,.string tt,.string nn,.slice (some ⟨b,off,none⟩) 1 c,.int .i64 pp] 49 (0,0))):=Lib.hid (hW2 ▸ (alloc_off (Gx HN1.out) _).trans HN1.out)
 have HL2 : Hid (W2.heap[W1.heap.size]? = some (.cells #[.string ⟨#[83,85,77,40]⟩,.string ⟨#[77,73,78,40]⟩,.string ⟨#[77,65,88,40]⟩] 9 (0,0))):=Lib.hid (hW2 ▸ heap_alloc_new W1 _)
 replace z1:=nine_of HN2.out
 have q0:=Cl HB2.out (HCS.out 0 _ rfl)
 have q1:=Cl HB2.out (HCS.out 1 _ rfl)
 have q2:=Cl HB2.out (HCS.out 2 _ rfl)
 have q3:=Cl HB2.out (HCS.out 3 _ rfl)
 have q4:=Cl HB2.out (HCS.out 4 _ rfl)
 have q5:=Cl HB2.out (HCS.out 5 _ rfl)
 have q6:=Cl HB2.out (HCS.out 6 _ rfl)
 have q7:=Cl HB2.out (HCS.out 7 _ rfl)
 have q8:=Cl HB2.out (HCS.out 8 _ rfl)
 simp only [Nat.add_zero] at q0
 have z0:=nine_of HN1.out
 go_enter Tryz.func50,Tryz.ntmps50
 go_wp2_with fail
 clear hW1 hW2 z0 HN1 HB1
 refine (HX.out _ HB2.out).mono ?_
 rintro e w3 ⟨s0,rfl,hs,hb⟩
 have HS0:=Lib.hid hs
 have HB3:=Hbt HB2 hb
 have HN3:=Hbk hb HN2
 have e1 : s0.data.toList.length = s0.size:=by simp
 have hzs0 : s0.size ≤ 300000000000000000:=by rw [← e1,hs]; exact (by omega)
 clear e1
 have hl3:=(hb.block _ (Gx HL2.out)).trans HL2.out
 have cl : w3.cell? ⟨W1.heap.size,0,none⟩ = some (.string ⟨#[83,85,77,40]⟩):=by simp [World.cell?,hl3]
 clear hl3 hb hs z1 HN2 q0 q1 q2 q3 q4 q5 q6 q7 q8 HX HCS
 have z1:=nine_of HN3.out
 have HT : Hid (((⟨#[83,85,77,40]⟩ : ByteArray) ++ s0 ++ ⟨#[41]⟩ : ByteArray).data.toList = ([83,85,77,40] : List UInt8) ++ xB z0 ++ [41]):=by
  show _ = _
  rw [← HS0.out]; simp
 go_wp2
 exact bodyPost_ret (v:=.string ((⟨#[83,85,77,40]⟩ : ByteArray) ++ s0 ++ ⟨#[41]⟩)) (by simp [results,Tryz.results50,go_sem]) rfl ⟨_,rfl,HT.out,HB3.out⟩

theorem rexpr_13 {n : Nat} (hX : RC n) (hn : n ≤ 16) (w : World) (oo v1 v2 : Int) (v3 tt nn : ByteArray) (es : List Ex) (pp : Int) (k : Value) (hxr : XR w (.mk 13 oo (v1,v2,v3) tt nn es pp) k) (hl1 : es.length = 1) (hd : ∀ i (h : i < es.length),dpr n es[i] = false ∧ RtE es[i]) : Calls Tryz.prog 50 #[.agg (exC (.mk 13 oo (v1,v2,v3) tt nn es pp) k).toArray] w (RP (([77,73,78,40] : List UInt8) ++ xB es[0] ++ [41]) w):=by
 obtain ⟨b,off,c,rfl,k1,o1,x1,x2,x3,t1,n1,a1,m1,c1,p1,hc,hu⟩:=rkids_expr hX hxr (by omega) hd
 have hb0:=xE_len hn (hd 0 (by omega)).1 (hd 0 (by omega)).2 1
 rw [xE_one] at hb0
 simp only [exC,hl1]
 have HX:=Lib.hid hu
 have HCS:=Lib.hid hc
 obtain ⟨z0,hz0⟩ : ∃ z,es[0] = z:=⟨_,rfl⟩
 rw [hz0] at hb0 HX ⊢
 clear hu hc hxr hd hX hz0
 obtain ⟨W1,hW1⟩ : ∃ W,w.alloc (.cells #[.int .i64 13,.int .i64 oo,.int .i64 v1,.int .i64 v2,.string v3,.string tt,.string nn,.slice (some ⟨b,off,none⟩) 1 c,.int .i64 pp] 49) = W:=⟨_,rfl⟩
 have HB1 : Hid (Below w.heap.size w W1):=Lib.hid (hW1 ▸ (Below.refl _ _).alloc (Nat.le_refl _) _)
 have HN1 : Hid (W1.heap[w.heap.size]? = some (.cells #[.int .i64 13,.int .i64 oo,.int .i64 v1,.int .i64 v2,.string v3,.string tt,.string nn,.slice (some ⟨b,off,none⟩) 1 c,.int .i64 pp] 49 (0,0))):=Lib.hid (hW1 ▸ heap_alloc_new w _)
 have z1:=nine_of HN1.out
 obtain ⟨W2,hW2⟩ : ∃ W,W1.alloc (.cells #[.string ⟨#[83,85,77,40]⟩,.string ⟨#[77,73,78,40]⟩,.string ⟨#[77,65,88,40]⟩] 9) = W:=⟨_,rfl⟩
 have HB2 : Hid (Below w.heap.size w W2):=Lib.hid (hW2 ▸ HB1.out.alloc HB1.out.size _)
 have HN2 : Hid (W2.heap[w.heap.size]? = some (.cells #[.int .i64 13,.int .i64 oo,.int .i64 v1,.int .i64 v2,.string v3,.string tt,.string nn,.slice (some ⟨b,off,none⟩) 1 c,.int .i64 pp] 49 (0,0))):=Lib.hid (hW2 ▸ (alloc_off (Gx HN1.out) _).trans HN1.out)
 have HL2 : Hid (W2.heap[W1.heap.size]? = some (.cells #[.string ⟨#[83,85,77,40]⟩,.string ⟨#[77,73,78,40]⟩,.string ⟨#[77,65,88,40]⟩] 9 (0,0))):=Lib.hid (hW2 ▸ heap_alloc_new W1 _)
 replace z1:=nine_of HN2.out
 have q0:=Cl HB2.out (HCS.out 0 _ rfl)
 have q1:=Cl HB2.out (HCS.out 1 _ rfl)
 have q2:=Cl HB2.out (HCS.out 2 _ rfl)
 have q3:=Cl HB2.out (HCS.out 3 _ rfl)
 have q4:=Cl HB2.out (HCS.out 4 _ rfl)
 have q5:=Cl HB2.out (HCS.out 5 _ rfl)
 have q6:=Cl HB2.out (HCS.out 6 _ rfl)
 have q7:=Cl HB2.out (HCS.out 7 _ rfl)
 have q8:=Cl HB2.out (HCS.out 8 _ rfl)
 simp only [Nat.add_zero] at q0
 have z0:=nine_of HN1.out
 go_enter Tryz.func50,Tryz.ntmps50
 go_wp2_with fail
 clear hW1 hW2 z0 HN1 HB1
 refine (HX.out _ HB2.out).mono ?_
 rintro e w3 ⟨s0,rfl,hs,hb⟩
 have HS0:=Lib.hid hs
 have HB3:=Hbt HB2 hb
 have HN3:=Hbk hb HN2
 have e1 : s0.data.toList.length = s0.size:=by simp
 have hzs0 : s0.size ≤ 300000000000000000:=by rw [← e1,hs]; exact (by omega)
 clear e1
 have hl3:=(hb.block _ (Gx HL2.out)).trans HL2.out
 have cl : w3.cell? ⟨W1.heap.size,1,none⟩ = some (.string ⟨#[77,73,78,40]⟩):=by simp [World.cell?,hl3]
 clear hl3 hb hs z1 HN2 q0 q1 q2 q3 q4 q5 q6 q7 q8 HX HCS
 have z1:=nine_of HN3.out
 have HT : Hid (((⟨#[77,73,78,40]⟩ : ByteArray) ++ s0 ++ ⟨#[41]⟩ : ByteArray).data.toList = ([77,73,78,40] : List UInt8) ++ xB z0 ++ [41]):=by
  show _ = _
  rw [← HS0.out]; simp
 go_wp2
 exact bodyPost_ret (v:=.string ((⟨#[77,73,78,40]⟩ : ByteArray) ++ s0 ++ ⟨#[41]⟩)) (by simp [results,Tryz.results50,go_sem]) rfl ⟨_,rfl,HT.out,HB3.out⟩

theorem rexpr_14 {n : Nat} (hX : RC n) (hn : n ≤ 16) (w : World) (oo v1 v2 : Int) (v3 tt nn : ByteArray) (es : List Ex) (pp : Int) (k : Value) (hxr : XR w (.mk 14 oo (v1,v2,v3) tt nn es pp) k) (hl1 : es.length = 1) (hd : ∀ i (h : i < es.length),dpr n es[i] = false ∧ RtE es[i]) : Calls Tryz.prog 50 #[.agg (exC (.mk 14 oo (v1,v2,v3) tt nn es pp) k).toArray] w (RP (([77,65,88,40] : List UInt8) ++ xB es[0] ++ [41]) w):=by
 obtain ⟨b,off,c,rfl,k1,o1,x1,x2,x3,t1,n1,a1,m1,c1,p1,hc,hu⟩:=rkids_expr hX hxr (by omega) hd
 have hb0:=xE_len hn (hd 0 (by omega)).1 (hd 0 (by omega)).2 1
 rw [xE_one] at hb0
 simp only [exC,hl1]
 have HX:=Lib.hid hu
 have HCS:=Lib.hid hc
 obtain ⟨z0,hz0⟩ : ∃ z,es[0] = z:=⟨_,rfl⟩
 rw [hz0] at hb0 HX ⊢
 clear hu hc hxr hd hX hz0
 obtain ⟨W1,hW1⟩ : ∃ W,w.alloc (.cells #[.int .i64 14,.int .i64 oo,.int .i64 v1,.int .i64 v2,.string v3,.string tt,.string nn,.slice (some ⟨b,off,none⟩) 1 c,.int .i64 pp] 49) = W:=⟨_,rfl⟩
 have HB1 : Hid (Below w.heap.size w W1):=Lib.hid (hW1 ▸ (Below.refl _ _).alloc (Nat.le_refl _) _)
 have HN1 : Hid (W1.heap[w.heap.size]? = some (.cells #[.int .i64 14,.int .i64 oo,.int .i64 v1,.int .i64 v2,.string v3,.string tt,.string nn,.slice (some ⟨b,off,none⟩) 1 c,.int .i64 pp] 49 (0,0))):=Lib.hid (hW1 ▸ heap_alloc_new w _)
 have z1:=nine_of HN1.out
 obtain ⟨W2,hW2⟩ : ∃ W,W1.alloc (.cells #[.string ⟨#[83,85,77,40]⟩,.string ⟨#[77,73,78,40]⟩,.string ⟨#[77,65,88,40]⟩] 9) = W:=⟨_,rfl⟩
 have HB2 : Hid (Below w.heap.size w W2):=Lib.hid (hW2 ▸ HB1.out.alloc HB1.out.size _)
 have HN2 : Hid (W2.heap[w.heap.size]? = some (.cells #[.int .i64 14,.int .i64 oo,.int .i64 v1,.int .i64 v2,.string v3,.string tt,.string nn,.slice (some ⟨b,off,none⟩) 1 c,.int .i64 pp] 49 (0,0))):=Lib.hid (hW2 ▸ (alloc_off (Gx HN1.out) _).trans HN1.out)
 have HL2 : Hid (W2.heap[W1.heap.size]? = some (.cells #[.string ⟨#[83,85,77,40]⟩,.string ⟨#[77,73,78,40]⟩,.string ⟨#[77,65,88,40]⟩] 9 (0,0))):=Lib.hid (hW2 ▸ heap_alloc_new W1 _)
 replace z1:=nine_of HN2.out
 have q0:=Cl HB2.out (HCS.out 0 _ rfl)
 have q1:=Cl HB2.out (HCS.out 1 _ rfl)
 have q2:=Cl HB2.out (HCS.out 2 _ rfl)
 have q3:=Cl HB2.out (HCS.out 3 _ rfl)
 have q4:=Cl HB2.out (HCS.out 4 _ rfl)
 have q5:=Cl HB2.out (HCS.out 5 _ rfl)
 have q6:=Cl HB2.out (HCS.out 6 _ rfl)
 have q7:=Cl HB2.out (HCS.out 7 _ rfl)
 have q8:=Cl HB2.out (HCS.out 8 _ rfl)
 simp only [Nat.add_zero] at q0
 have z0:=nine_of HN1.out
 go_enter Tryz.func50,Tryz.ntmps50
 go_wp2_with fail
 clear hW1 hW2 z0 HN1 HB1
 refine (HX.out _ HB2.out).mono ?_
 rintro e w3 ⟨s0,rfl,hs,hb⟩
 have HS0:=Lib.hid hs
 have HB3:=Hbt HB2 hb
 have HN3:=Hbk hb HN2
 have e1 : s0.data.toList.length = s0.size:=by simp
 have hzs0 : s0.size ≤ 300000000000000000:=by rw [← e1,hs]; exact (by omega)
 clear e1
 have hl3:=(hb.block _ (Gx HL2.out)).trans HL2.out
 have cl : w3.cell? ⟨W1.heap.size,2,none⟩ = some (.string ⟨#[77,65,88,40]⟩):=by simp [World.cell?,hl3]
 clear hl3 hb hs z1 HN2 q0 q1 q2 q3 q4 q5 q6 q7 q8 HX HCS
 have z1:=nine_of HN3.out
 have HT : Hid (((⟨#[77,65,88,40]⟩ : ByteArray) ++ s0 ++ ⟨#[41]⟩ : ByteArray).data.toList = ([77,65,88,40] : List UInt8) ++ xB z0 ++ [41]):=by
  show _ = _
  rw [← HS0.out]; simp
 go_wp2
 exact bodyPost_ret (v:=.string ((⟨#[77,65,88,40]⟩ : ByteArray) ++ s0 ++ ⟨#[41]⟩)) (by simp [results,Tryz.results50,go_sem]) rfl ⟨_,rfl,HT.out,HB3.out⟩

theorem of_rp {f : FuncId} {args : Array Value} {w : World} {x y : List UInt8} (h : Calls Tryz.prog f args w (RP x w)) (e : x = y) : Calls Tryz.prog f args w (RP y w):=e ▸ h

theorem rexpr_any {n : Nat} (hX : RC n) (hn : n ≤ 16) (e : Ex) (hd : dpr (n + 1) e = false) (hr : RtI e) (w : World) (k : Value) (hxr : XR w e k) : Calls Tryz.prog 50 #[.agg (exC e k).toArray] w (RP (xI e) w):=by
 obtain ⟨kk,oo,⟨v1,v2,v3⟩,tt,nn,es,pp⟩:=e
 obtain ⟨o1,o2,⟨l1,l2,hk⟩,hw1,hw2,hw3,-⟩:=RtI.iff.1 hr
 have hd' : ∀ i (h : i < es.length),dpr n es[i] = false ∧ RtE es[i]:=fun i h => ⟨dpr_kids hd i h,hk i h⟩
 by_cases q : kk = 1
 ·subst q
  refine of_rp (rexpr_1 w oo v1 v2 v3 tt nn es pp k hxr (hw1 rfl).2.2) ?_
  rw [xI_x (by decide) (by decide)]
  unfold xF
  rw [if_pos rfl]
 by_cases q : kk = 2
 ·subst q
  refine of_rp (rexpr_2 w oo v1 v2 v3 tt nn es pp k hxr (name16 (hw2 rfl).2.1)) ?_
  rw [xI_x (by decide) (by decide)]
  unfold xF
  rw [if_neg (by decide),if_pos rfl]
 by_cases q : kk = 3
 ·subst q
  have ht : tt.size ≤ 16:=by
   rcases (hw3 rfl).1 with e | e
   ·rw [e]; decide
   ·exact name16 e
  have hx : xI (.mk 3 oo (v1,v2,v3) tt nn es pp) = if tt = ⟨#[]⟩ then nn.data.toList else tt.data.toList ++ 46 :: nn.data.toList:=by
   rw [xI_x (by decide) (by decide)]
   unfold xF
   rw [if_neg (show ¬ (3 : Int) = 1 by decide),if_neg (show ¬ (3 : Int) = 2 by decide),if_pos rfl]
  by_cases g : tt = ⟨#[]⟩
  ·rw [if_pos g] at hx
   subst g
   exact of_rp (rexpr_3e w oo v1 v2 v3 nn es pp k hxr) hx.symm
  ·rw [if_neg g] at hx
   exact of_rp (rexpr_3n w oo v1 v2 v3 tt nn es pp k hxr g ht (name16 (hw3 rfl).2.1)) hx.symm
 clear hw1 hw2 hw3
 by_cases q : kk = 4
 ·subst q
  have hl : es.length = 1:=by simp [formK] at l1 l2; omega
  by_cases g : kindOf es[0] = 4
  ·refine of_rp (rexpr_4y hX hn w oo v1 v2 v3 tt nn es pp k hxr hl hd' g) ?_
   obtain ⟨a,rfl⟩:=len1 hl
   have g' : kindOf a = 4:=g
   rw [xI_x (by decide) (by decide)]
   simp [xF,xE,g']
  ·refine of_rp (rexpr_4n hX hn w oo v1 v2 v3 tt nn es pp k hxr hl hd' g) ?_
   obtain ⟨a,rfl⟩:=len1 hl
   have g' : ¬ kindOf a = 4:=g
   rw [xI_x (by decide) (by decide)]
   simp [xF,xE,g']
 by_cases q : kk = 5
 ·subst q
  have hl : es.length = 2:=by simp [formK] at l1 l2; omega
  have ho : 1 ≤ oo:=by simp [formK] at o1; exact o1
  have ho2 : oo ≤ 5:=by simp [formK] at o2; exact o2
  refine of_rp (rexpr_5 hX hn w oo v1 v2 v3 tt nn es pp k hxr ho ho2 hl hd' (if oo ≤ 2 then 5 else 6) rfl) ?_
  obtain ⟨a,b,rfl⟩:=len2 hl
  rw [xI_x (by decide) (by decide)]
  by_cases g : oo ≤ 2
  ·rw [if_pos g]
   simp [xF,xE,g]
  ·rw [if_neg g]
   simp [xF,xE,g]
 by_cases q : kk = 6
 ·subst q
  have hl : es.length = 2:=by simp [formK] at l1 l2; omega
  have ho : 1 ≤ oo:=by simp [formK] at o1; exact o1
  have ho2 : oo ≤ 6:=by simp [formK] at o2; exact o2
  refine of_rp (rexpr_6 hX hn w oo v1 v2 v3 tt nn es pp k hxr ho ho2 hl hd') ?_
  obtain ⟨a,b,rfl⟩:=len2 hl
  rw [xI_x (by decide) (by decide)]
  simp [xF,xE]
 by_cases q : kk = 7
 ·subst q
  have hl : es.length = 1:=by simp [formK] at l1 l2; omega
  by_cases g : oo = 1
  ·subst g
   refine of_rp (rexpr_7y hX hn w v1 v2 v3 tt nn es pp k hxr hl hd') ?_
   obtain ⟨a,rfl⟩:=len1 hl
   rw [xI_x (by decide) (by decide)]
   simp [xF,xE,wIs,wNot,wNull]
  ·refine of_rp (rexpr_7n hX hn w oo v1 v2 v3 tt nn es pp k hxr g hl hd') ?_
   obtain ⟨a,rfl⟩:=len1 hl
   rw [xI_x (by decide) (by decide)]
   simp [xF,xE,wIs,wNull,g]
 by_cases q : kk = 8
 ·subst q
  have hl : es.length = 1:=by simp [formK] at l1 l2; omega
  refine of_rp (rexpr_8 hX hn w oo v1 v2 v3 tt nn es pp k hxr hl hd') ?_
  obtain ⟨a,rfl⟩:=len1 hl
  rw [xI_x (by decide) (by decide)]
  simp [xF,xE,wNot]
 by_cases q : kk = 9
 ·subst q
  have hl : 2 ≤ es.length ∧ es.length ≤ 8:=by simp [formK] at l1 l2; omega
  refine of_rp (rexpr_9 hX hn w oo v1 v2 v3 tt nn es pp k hxr (by omega) hd') ?_
  match es,hl with
  | a :: l,_ =>
   rw [xI_x (by decide) (by decide),show ([32,65,78,68,32] : List UInt8) = 32 :: (wAnd ++ [32]) from rfl,laid_row]
   rfl
 by_cases q : kk = 10
 ·subst q
  have hl : 2 ≤ es.length ∧ es.length ≤ 8:=by simp [formK] at l1 l2; omega
  refine of_rp (rexpr_10 hX hn w oo v1 v2 v3 tt nn es pp k hxr (by omega) hd') ?_
  match es,hl with
  | a :: l,_ =>
   rw [xI_x (by decide) (by decide),show ([32,79,82,32] : List UInt8) = 32 :: (wOr ++ [32]) from rfl,laid_row]
   rfl
 by_cases q : kk = 11
 ·subst q
  refine of_rp (rexpr_11 w oo v1 v2 v3 tt nn es pp k hxr) ?_
  rfl
 by_cases q : kk = 12
 ·subst q
  have hl : es.length = 1:=by simp [formK] at l1 l2; omega
  refine of_rp (rexpr_12 hX hn w oo v1 v2 v3 tt nn es pp k hxr hl hd') ?_
  obtain ⟨a,rfl⟩:=len1 hl
  have e6 : xkid [a] = xB a:=by first | rfl | (show xE 1 a = xB a; exact xE_one a)
  rw [xI,if_neg (by decide),if_pos (by decide),e6]
  simp [wSUM]
 by_cases q : kk = 13
 ·subst q
  have hl : es.length = 1:=by simp [formK] at l1 l2; omega
  refine of_rp (rexpr_13 hX hn w oo v1 v2 v3 tt nn es pp k hxr hl hd') ?_
  obtain ⟨a,rfl⟩:=len1 hl
  have e6 : xkid [a] = xB a:=by first | rfl | (show xE 1 a = xB a; exact xE_one a)
  rw [xI,if_neg (by decide),if_pos (by decide),e6]
  simp [wMIN]
 by_cases q : kk = 14
 ·subst q
  have hl : es.length = 1:=by simp [formK] at l1 l2; omega
  refine of_rp (rexpr_14 hX hn w oo v1 v2 v3 tt nn es pp k hxr hl hd') ?_
  obtain ⟨a,rfl⟩:=len1 hl
  have e6 : xkid [a] = xB a:=by first | rfl | (show xE 1 a = xB a; exact xE_one a)
  rw [xI,if_neg (by decide),if_pos (by decide),e6]
  simp [wMAX]
 exfalso
 have : formK kk = (0,0,1,0):=by
  unfold formK
  rw [if_neg (by omega),if_neg (by omega),if_neg (by omega),if_neg (by omega),if_neg (by omega),if_neg (by omega)]
 rw [this] at l1 l2
 exact absurd (Nat.le_trans l1 l2) (by decide)

theorem rc_all : ∀ n,n ≤ 17 → RC n
 | 0,_ => fun e hd => by cases e; simp [dpr] at hd
 | n + 1,hn => fun e hd hr w k hxr => by
  have:=rexpr_any (rc_all n (by omega)) (by omega) e hd hr.2 w k hxr
  rw [xI_B hr.1] at this
  exact this

theorem ritem_kid {e : Ex} (hd : dpr 16 e = false) (hr : RtI e) {w : World} {k : Value} (hxr : XR w e k) : Calls Tryz.prog 82 #[.agg (exC e k).toArray,.int .i64 ((1 : Nat) : Int)] w (RP (xIt e) w):=by
 have hu:=fun W (hb : Below w.heap.size w W) => rexpr_any (rc_all 15 (by decide)) (by decide) e hd hr W k (hxr.later hb)
 have hl:=xI_len (n:=15) (by decide) hd hr
 have h1 : ¬ rankX e < 1:=by
  obtain ⟨k1,o1,v1,t1,n1,ks1,p1⟩:=e
  unfold rankX
  simp only
  split <;> (try split) <;> (try split) <;> (try split) <;> (try split) <;> (try split) <;> omega
 obtain ⟨a1,m1,c1,hk⟩:=hxr.slice
 rw [hk] at hu ⊢
 rw [xIt_xI]
 obtain ⟨x,hx⟩ : ∃ x,xI e = x:=⟨_,rfl⟩
 rw [hx] at hu hl ⊢
 obtain ⟨k1,o1,⟨x1,x2,x3⟩,t1,n1,ks1,p1⟩:=e
 have:=rkid_w k1 o1 x1 x2 x3 t1 n1 a1 m1 c1 p1 1 _ w _ (by omega) hu (rrank_any k1 o1 x1 x2 x3 t1 n1 ks1 p1 a1 m1 c1)
 rw [if_neg h1] at this
 exact this
end Go.Proofs.YteolnlcmnaknnaaGreatDoor
