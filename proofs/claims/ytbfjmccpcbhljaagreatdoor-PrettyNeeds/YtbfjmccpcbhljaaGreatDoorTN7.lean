/- N7 N9 -/
import Derived.Test.YtbfjmccpcbhljaaGreatDoorTN6a
set_option maxHeartbeats 8000000
set_option maxRecDepth 100000
namespace Go.Proofs.YtbfjmccpcbhljaaGreatDoor
open Go.RowKit
theorem kids_use {n : Nat} (hx : XC n) {kk oo : Int} {v : V3} {tt nn : ByteArray} {es : List Ex} {pp : Int} {w0 : World} (hv : SV w0) {k : Value} (h : XR w0 (.mk kk oo v tt nn es pp) k) (h0 : 0 < es.length) (hd : ∀ i (h : i < es.length),dpr n es[i] = false ∧ RtE es[i]) :
  ∃ b off c,k = .slice (some ⟨b,off,none⟩) es.length c ∧ ∀ i (hi : i < es.length),∃ k1 o1 x1 x2 x3 t1 n1 a1 m1 c1 p1,kindOf es[i] = k1 ∧ (∀ j u,[.int .i64 k1,.int .i64 o1,.int .i64 x1,.int .i64 x2,.string x3,.string t1,.string n1,.slice a1 m1 c1,.int .i64 p1][j]? = some u → w0.cell? ⟨b,off + i * 9 + j,none⟩ = some u) ∧
  ∀ (need P : Nat),need ≤ 7 → Lays w0 75 #[.pointer (some ⟨P,0,none⟩),.agg #[.int .i64 k1,.int .i64 o1,.int .i64 x1,.int .i64 x2,.string x3,.string t1,.string n1,.slice a1 m1 c1,.int .i64 p1],.int .i64 (need : Int)] (1200 * n) (xE need es[i]) P:=by
 obtain ⟨b,off,c,_,_,_,_,_,_,_,_,_,_,_,e,_,_,_,_⟩:=kid_use hx hv h 0 h0 (hd 0 h0).1 (hd 0 h0).2
 refine ⟨b,off,c,e,fun i hi => ?_⟩
 obtain ⟨b2,off2,c2,k1,o1,x1,x2,x3,t1,n1,a1,m1,c1,p1,e2,-,hk,hc,hu⟩:=kid_use hx hv h i hi (hd i hi).1 (hd i hi).2
 rw [e] at e2
 injection e2 with e3 _ _
 injection e3 with e3
 injection e3 with e4 e5 _
 subst e4 e5
 exact ⟨k1,o1,x1,x2,x3,t1,n1,a1,m1,c1,p1,hk,hc,fun need P hn M bs w hl hb => hu need P M bs w hn hl hb⟩

theorem ppair_any {n : Nat} (hX : XC n) (hn : n ≤ 50) (w0 : World) (hv : SV w0) (P M : Nat) (bs : List UInt8) (w : World) (h : LA w0 w P M bs) (hbs : bs.length ≤ 100000) (kk oo v1 v2 : Int) (v3 tt nn : ByteArray) (es : List Ex) (pp : Int) (k : Value) (hxr : XR w0 (.mk kk oo (v1,v2,v3) tt nn es pp) k) (hl2 : es.length = 2) (hd : ∀ i (h : i < es.length),dpr n es[i] = false ∧ RtE es[i]) (s : ByteArray) (hs : s.size ≤ 2) (l r : Nat) (hl : l ≤ 7) (hr : r ≤ 7) : Calls Tryz.prog 137 #[.pointer (some ⟨P,0,none⟩),.agg (exC (.mk kk oo (v1,v2,v3) tt nn es pp) k).toArray,.string s,.int .i64 (l : Int),.int .i64 (r : Int)] w (LP w0 (Ly (1200 * n + 10) (xE l es[0] ++ (32 : UInt8) :: (s.data.toList ++ (32 : UInt8) :: xE r es[1])) bs) P M w):=by
 have HA:=Lib.hid (Al.start h)
 have HLy:=Lib.hid (Ly.nil bs 0)
 clear h
 obtain ⟨b,off,c,rfl,hu⟩:=kids_use hX hv hxr (by omega) hd
 simp only [exC,hl2]
 have HU:=Lib.hid hu
 clear hu hxr hd hX
 obtain ⟨z0,hz0⟩ : ∃ z,es[0] = z:=⟨_,rfl⟩
 obtain ⟨z1,hz1⟩ : ∃ z,es[1] = z:=⟨_,rfl⟩
 rw [hz0,hz1]
 have HZ0:=Lib.hid hz0
 have HZ1:=Lib.hid hz1
 clear hz0 hz1
 obtain ⟨W1,hW1,HA⟩:=HA.out.push #[.int .i64 kk,.int .i64 oo,.int .i64 v1,.int .i64 v2,.string v3,.string tt,.string nn,.slice (some ⟨b,off,none⟩) 2 c,.int .i64 pp] 49
 obtain ⟨⟨y0,y1,y2,y3,y4,y5,y6,y7,y8⟩,-⟩:=nine_of (HA.out.at 0 rfl)
 obtain ⟨k1,o1,x1,x2,x3,t1,n1,a1,m1,c1,p1,-,hc,hu⟩:=HU.out 0 (by omega)
 have HX:=Lib.hid (hu l P hl)
 have HCS:=Lib.hid hc
 clear hc hu
 have q0:=HA.out.la.cell (HCS.out 0 _ rfl)
 have q1:=HA.out.la.cell (HCS.out 1 _ rfl)
 have q2:=HA.out.la.cell (HCS.out 2 _ rfl)
 have q3:=HA.out.la.cell (HCS.out 3 _ rfl)
 have q4:=HA.out.la.cell (HCS.out 4 _ rfl)
 have q5:=HA.out.la.cell (HCS.out 5 _ rfl)
 have q6:=HA.out.la.cell (HCS.out 6 _ rfl)
 have q7:=HA.out.la.cell (HCS.out 7 _ rfl)
 have q8:=HA.out.la.cell (HCS.out 8 _ rfl)
 simp only [Nat.zero_mul,Nat.add_zero] at q0 q1 q2 q3 q4 q5 q6 q7 q8
 rw [HZ0.out] at HX
 go_enter Tryz.func137,Tryz.ntmps137
 go_wp2_with fail
 clear hW1
 have hz:=HLy.out.size
 refine (HX.out _ _ _ HA.out.la (by omega)).mono ?_
 rintro e w2 ⟨M2,b2,rfl,hla,hle,ho,hm⟩
 replace HA:=Lib.hid (HA.out.call ho hm hla)
 replace HLy:=Lib.hid (HLy.out.le hle)
 clear hla hle ho hm hz
 clear q0 q1 q2 q3 q4 q5 q6 q7 q8
 clear y0 y1 y2 y3 y4 y5 y6 y7 y8
 clear HX HCS
 obtain ⟨⟨y0,y1,y2,y3,y4,y5,y6,y7,y8⟩,-⟩:=nine_of (HA.out.at 0 rfl)
 obtain ⟨W3,hW3,HA⟩:=HA.out.push #[.string ⟨#[32]⟩,.string s,.string ⟨#[32]⟩] 9
 go_wp2_with fail
 clear hW3
 have hz:=HLy.out.size
 have hc : (cat [⟨#[32]⟩,s,⟨#[32]⟩]).length ≤ 4:=by simp [cat]; omega
 refine (HA.out.lay [⟨#[32]⟩,s,⟨#[32]⟩] (n:=3) rfl (by decide) (by omega)).mono ?_
 rintro e w4 ⟨rfl,M4,hA⟩
 replace HA:=Lib.hid hA
 replace HLy:=Lib.hid (HLy.out.layN (cat [⟨#[32]⟩,s,⟨#[32]⟩]) hc)
 clear hA hz hc
 clear y0 y1 y2 y3 y4 y5 y6 y7 y8
 obtain ⟨⟨y0,y1,y2,y3,y4,y5,y6,y7,y8⟩,-⟩:=nine_of (HA.out.at 0 rfl)
 obtain ⟨k1,o1,x1,x2,x3,t1,n1,a1,m1,c1,p1,-,hc,hu⟩:=HU.out 1 (by omega)
 have HX:=Lib.hid (hu r P hr)
 have HCS:=Lib.hid hc
 clear hc hu
 have q0:=HA.out.la.cell (HCS.out 0 _ rfl)
 have q1:=HA.out.la.cell (HCS.out 1 _ rfl)
 have q2:=HA.out.la.cell (HCS.out 2 _ rfl)
 have q3:=HA.out.la.cell (HCS.out 3 _ rfl)
 have q4:=HA.out.la.cell (HCS.out 4 _ rfl)
 have q5:=HA.out.la.cell (HCS.out 5 _ rfl)
 have q6:=HA.out.la.cell (HCS.out 6 _ rfl)
 have q7:=HA.out.la.cell (HCS.out 7 _ rfl)
 have q8:=HA.out.la.cell (HCS.out 8 _ rfl)
 simp only [Nat.one_mul,Nat.add_zero] at q0 q1 q2 q3 q4 q5 q6 q7 q8
 rw [HZ1.out] at HX
 go_wp2_with fail
 have hz:=HLy.out.size
 refine (HX.out _ _ _ HA.out.la (by omega)).mono ?_
 rintro e w5 ⟨M5,b5,rfl,hla,hle,ho,hm⟩
 replace HA:=Lib.hid (HA.out.call ho hm hla)
 replace HLy:=Lib.hid (HLy.out.le hle)
 clear hla hle ho hm hz
 go_wp2
 go_end0
 exact HA.out.lp (HLy.out.conv (by omega) (by simp [cat]))

theorem pnull_yes {n : Nat} (hX : XC n) (hn : n ≤ 50) (w0 : World) (hv : SV w0) (P M : Nat) (bs : List UInt8) (w : World) (h : LA w0 w P M bs) (hbs : bs.length ≤ 100000) (kk v1 v2 : Int) (v3 tt nn : ByteArray) (es : List Ex) (pp : Int) (k : Value) (hxr : XR w0 (.mk kk 1 (v1,v2,v3) tt nn es pp) k) (hl1 : es.length = 1) (hd : ∀ i (h : i < es.length),dpr n es[i] = false ∧ RtE es[i]) : Calls Tryz.prog 140 #[.pointer (some ⟨P,0,none⟩),.agg (exC (.mk kk 1 (v1,v2,v3) tt nn es pp) k).toArray] w (LP w0 (Ly (1200 * n + 20) (xE 5 es[0] ++ [32,73,83,32,78,79,84,32,78,85,76,76]) bs) P M w):=by
 have HA:=Lib.hid (Al.start h)
 have HLy:=Lib.hid (Ly.nil bs 0)
 clear h
 obtain ⟨b,off,c,rfl,hu⟩:=kids_use hX hv hxr (by omega) hd
 simp only [exC,hl1]
 have HU:=Lib.hid hu
 clear hu hxr hd hX
 obtain ⟨z0,hz0⟩ : ∃ z,es[0] = z:=⟨_,rfl⟩
 rw [hz0]
 have HZ0:=Lib.hid hz0
 clear hz0
 obtain ⟨W1,hW1,HA⟩:=HA.out.push #[.int .i64 kk,.int .i64 1,.int .i64 v1,.int .i64 v2,.string v3,.string tt,.string nn,.slice (some ⟨b,off,none⟩) 1 c,.int .i64 pp] 49
 obtain ⟨⟨y0,y1,y2,y3,y4,y5,y6,y7,y8⟩,-⟩:=nine_of (HA.out.at 0 rfl)
 obtain ⟨k1,o1,x1,x2,x3,t1,n1,a1,m1,c1,p1,-,hc,hu⟩:=HU.out 0 (by omega)
 have HX:=Lib.hid (hu 5 P (by decide))
 have HCS:=Lib.hid hc
 clear hc hu
 have q0:=HA.out.la.cell (HCS.out 0 _ rfl)
 have q1:=HA.out.la.cell (HCS.out 1 _ rfl)
 have q2:=HA.out.la.cell (HCS.out 2 _ rfl)
 have q3:=HA.out.la.cell (HCS.out 3 _ rfl)
 have q4:=HA.out.la.cell (HCS.out 4 _ rfl)
 have q5:=HA.out.la.cell (HCS.out 5 _ rfl)
 have q6:=HA.out.la.cell (HCS.out 6 _ rfl)
 have q7:=HA.out.la.cell (HCS.out 7 _ rfl)
 have q8:=HA.out.la.cell (HCS.out 8 _ rfl)
 simp only [Nat.zero_mul,Nat.add_zero] at q0 q1 q2 q3 q4 q5 q6 q7 q8
 rw [HZ0.out] at HX
 go_enter Tryz.func140,Tryz.ntmps140
 go_wp2_with fail
 clear hW1
 have hz:=HLy.out.size
 refine (HX.out _ _ _ HA.out.la (by omega)).mono ?_
 rintro e w2 ⟨M2,b2,rfl,hla,hle,ho,hm⟩
 replace HA:=Lib.hid (HA.out.call ho hm hla)
 replace HLy:=Lib.hid (HLy.out.le hle)
 clear hla hle ho hm hz
 clear q0 q1 q2 q3 q4 q5 q6 q7 q8
 clear y0 y1 y2 y3 y4 y5 y6 y7 y8
 clear HX HCS
 obtain ⟨⟨y0,y1,y2,y3,y4,y5,y6,y7,y8⟩,-⟩:=nine_of (HA.out.at 0 rfl)
 obtain ⟨W3,hW3,HA⟩:=HA.out.push #[.string ⟨#[32,73,83,32,78,79,84,32,78,85,76,76]⟩] 9
 go_wp2_with fail
 clear hW3
 have hz:=HLy.out.size
 have hc : (cat [⟨#[32,73,83,32,78,79,84,32,78,85,76,76]⟩]).length ≤ 12:=by simp [cat]
 refine (HA.out.lay [⟨#[32,73,83,32,78,79,84,32,78,85,76,76]⟩] (n:=1) rfl (by decide) (by omega)).mono ?_
 rintro e w4 ⟨rfl,M4,hA⟩
 replace HA:=Lib.hid hA
 replace HLy:=Lib.hid (HLy.out.layN (cat [⟨#[32,73,83,32,78,79,84,32,78,85,76,76]⟩]) hc)
 clear hA hz hc
 go_wp2
 go_end0
 exact HA.out.lp (HLy.out.conv (by omega) (by simp [cat]))

theorem pnull_no {n : Nat} (hX : XC n) (hn : n ≤ 50) (w0 : World) (hv : SV w0) (P M : Nat) (bs : List UInt8) (w : World) (h : LA w0 w P M bs) (hbs : bs.length ≤ 100000) (kk oo v1 v2 : Int) (v3 tt nn : ByteArray) (es : List Ex) (pp : Int) (k : Value) (hxr : XR w0 (.mk kk oo (v1,v2,v3) tt nn es pp) k) (ho : oo ≠ 1) (hl1 : es.length = 1) (hd : ∀ i (h : i < es.length),dpr n es[i] = false ∧ RtE es[i]) : Calls Tryz.prog 140 #[.pointer (some ⟨P,0,none⟩),.agg (exC (.mk kk oo (v1,v2,v3) tt nn es pp) k).toArray] w (LP w0 (Ly (1200 * n + 20) (xE 5 es[0] ++ [32,73,83,32,78,85,76,76]) bs) P M w):=by
 have HA:=Lib.hid (Al.start h)
 have HLy:=Lib.hid (Ly.nil bs 0)
 clear h
 obtain ⟨b,off,c,rfl,hu⟩:=kids_use hX hv hxr (by omega) hd
 simp only [exC,hl1]
 have HU:=Lib.hid hu
 clear hu hxr hd hX
 obtain ⟨z0,hz0⟩ : ∃ z,es[0] = z:=⟨_,rfl⟩
 rw [hz0]
 have HZ0:=Lib.hid hz0
 clear hz0
 have o1 : (oo == 1) = false:=by simp; omega
 obtain ⟨W1,hW1,HA⟩:=HA.out.push #[.int .i64 kk,.int .i64 oo,.int .i64 v1,.int .i64 v2,.string v3,.string tt,.string nn,.slice (some ⟨b,off,none⟩) 1 c,.int .i64 pp] 49
 obtain ⟨⟨y0,y1,y2,y3,y4,y5,y6,y7,y8⟩,-⟩:=nine_of (HA.out.at 0 rfl)
 obtain ⟨k1,o2,x1,x2,x3,t1,n1,a1,m1,c1,p1,-,hc,hu⟩:=HU.out 0 (by omega)
 have HX:=Lib.hid (hu 5 P (by decide))
 have HCS:=Lib.hid hc
 clear hc hu
 have q0:=HA.out.la.cell (HCS.out 0 _ rfl)
 have q1:=HA.out.la.cell (HCS.out 1 _ rfl)
 have q2:=HA.out.la.cell (HCS.out 2 _ rfl)
 have q3:=HA.out.la.cell (HCS.out 3 _ rfl)
 have q4:=HA.out.la.cell (HCS.out 4 _ rfl)
 have q5:=HA.out.la.cell (HCS.out 5 _ rfl)
 have q6:=HA.out.la.cell (HCS.out 6 _ rfl)
 have q7:=HA.out.la.cell (HCS.out 7 _ rfl)
 have q8:=HA.out.la.cell (HCS.out 8 _ rfl)
 simp only [Nat.zero_mul,Nat.add_zero] at q0 q1 q2 q3 q4 q5 q6 q7 q8
 rw [HZ0.out] at HX
 go_enter Tryz.func140,Tryz.ntmps140
 go_wp2_with fail
 clear hW1
 have hz:=HLy.out.size
 refine (HX.out _ _ _ HA.out.la (by omega)).mono ?_
 rintro e w2 ⟨M2,b2,rfl,hla,hle,ho,hm⟩
 replace HA:=Lib.hid (HA.out.call ho hm hla)
 replace HLy:=Lib.hid (HLy.out.le hle)
 clear hla hle ho hm hz
 clear q0 q1 q2 q3 q4 q5 q6 q7 q8
 clear y0 y1 y2 y3 y4 y5 y6 y7 y8
 clear HX HCS
 obtain ⟨⟨y0,y1,y2,y3,y4,y5,y6,y7,y8⟩,-⟩:=nine_of (HA.out.at 0 rfl)
 obtain ⟨W3,hW3,HA⟩:=HA.out.push #[.string ⟨#[32,73,83,32,78,85,76,76]⟩] 9
 go_wp2_with fail
 clear hW3
 have hz:=HLy.out.size
 have hc : (cat [⟨#[32,73,83,32,78,85,76,76]⟩]).length ≤ 8:=by simp [cat]
 refine (HA.out.lay [⟨#[32,73,83,32,78,85,76,76]⟩] (n:=1) rfl (by decide) (by omega)).mono ?_
 rintro e w4 ⟨rfl,M4,hA⟩
 replace HA:=Lib.hid hA
 replace HLy:=Lib.hid (HLy.out.layN (cat [⟨#[32,73,83,32,78,85,76,76]⟩]) hc)
 clear hA hz hc
 go_wp2
 go_end0
 exact HA.out.lp (HLy.out.conv (by omega) (by simp [cat]))

theorem row1_any (w0 : World) (P M : Nat) (bs : List UInt8) (w : World) (h : LA w0 w P M bs) (hbs : bs.length ≤ 549755813888) (x4 x7 need : Nat) (t4 t7 : TypeId) (h4 : w.heap[x4]? = some (.cells #[.pointer (some ⟨P,0,none⟩)] t4 (0,0))) (h7 : w.heap[x7]? = some (.cells #[.int .i64 (need : Int)] t7 (0,0))) (k1 o1 x1 x2 : Int) (x3 t1 n1 : ByteArray) (a1 : Option Addr) (m1 c1 : Nat) (p1 : Int) (d : Nat) (x : List UInt8) (hx : Lays w0 75 #[.pointer (some ⟨P,0,none⟩),.agg #[.int .i64 k1,.int .i64 o1,.int .i64 x1,.int .i64 x2,.string x3,.string t1,.string n1,.slice a1 m1 c1,.int .i64 p1],.int .i64 (need : Int)] d x P) : Calls Tryz.prog 154 #[.agg #[.int .i64 k1,.int .i64 o1,.int .i64 x1,.int .i64 x2,.string x3,.string t1,.string n1,.slice a1 m1 c1,.int .i64 p1],.pointer (some ⟨x4,0,none⟩),.pointer (some ⟨x7,0,none⟩)] w (LP w0 (Le d x bs) P M w):=by
 have HA:=Lib.hid (Al.start h)
 have HX:=Lib.hid (hx M bs)
 have c4 : w.cell? ⟨x4,0,none⟩ = some (.pointer (some ⟨P,0,none⟩)):=by simp [World.cell?,h4]
 have c7 : w.cell? ⟨x7,0,none⟩ = some (.int .i64 (need : Int)):=by simp [World.cell?,h7]
 have hb4:=(Gx h4)
 have hb7:=(Gx h7)
 clear h hx h4 h7
 obtain ⟨W1,hW1,HA⟩:=HA.out.push #[.int .i64 k1,.int .i64 o1,.int .i64 x1,.int .i64 x2,.string x3,.string t1,.string n1,.slice a1 m1 c1,.int .i64 p1] 49
 obtain ⟨⟨y0,y1,y2,y3,y4,y5,y6,y7,y8⟩,-⟩:=nine_of (HA.out.at 0 rfl)
 have d4 : W1.cell? ⟨x4,0,none⟩ = some (.pointer (some ⟨P,0,none⟩)):=hW1 ▸ (World.cell?_of_block (w:=w) (alloc_off hb4 _)).trans c4
 have d7 : W1.cell? ⟨x7,0,none⟩ = some (.int .i64 (need : Int)):=hW1 ▸ (World.cell?_of_block (w:=w) (alloc_off hb7 _)).trans c7
 clear c4 c7
 go_enter Tryz.func154,Tryz.ntmps154
 go_wp2_with fail
 clear hW1
 refine (HX.out _ HA.out.la hbs).mono ?_
 rintro e w2 ⟨M2,b2,rfl,hla,hle,ho,hm⟩
 replace HA:=Lib.hid (HA.out.call ho hm hla)
 have HLE:=Lib.hid hle
 clear hla hle ho hm d4 d7
 go_wp2
 go_end0
 exact HA.out.lp HLE.out

theorem prow_any {n : Nat} (hX : XC n) (hn : n ≤ 50) (w0 : World) (hv : SV w0) (P M : Nat) (bs : List UInt8) (w : World) (h : LA w0 w P M bs) (hbs : bs.length ≤ 100000) (kk oo v1 v2 : Int) (v3 tt nn : ByteArray) (es : List Ex) (pp : Int) (k : Value) (hxr : XR w0 (.mk kk oo (v1,v2,v3) tt nn es pp) k) (h0 : 0 < es.length) (hlen : es.length ≤ 16) (hd : ∀ i (h : i < es.length),dpr n es[i] = false ∧ RtE es[i]) (s : ByteArray) (hs : s.size ≤ 10) (need : Nat) (h7n : need ≤ 7) : Calls Tryz.prog 141 #[.pointer (some ⟨P,0,none⟩),k,.string s,.int .i64 (need : Int)] w (LP w0 (Ly (1200 * n + 1040) (laid [] s.data.toList (xE need) es) bs) P M w):=by
 have HA:=Lib.hid (Al.start h)
 clear h
 obtain ⟨W1,hW1,HA⟩:=HA.out.push #[.pointer (some ⟨P,0,none⟩)] 73
 obtain ⟨W2,hW2,HA⟩:=HA.out.push #[.int .i64 (need : Int)] 3
 obtain ⟨b,off,c,rfl,hu⟩:=kids_use hX hv hxr h0 hd
 have h4:=HA.out.at 1 rfl
 have h7:=HA.out.at 0 rfl
 have c4 : W2.cell? ⟨w.heap.size,0,none⟩ = some (.pointer (some ⟨P,0,none⟩)):=by simp [World.cell?,h4]
 cases hxr with
 | mk ks hk1 hk2 hk3 hrow hkid =>
  have HL:=Lib.hid (listE_row w0 P M bs W2 HA.out.la hbs ⟨#[]⟩ s (by decide) (by omega) es (some ⟨b,off,none⟩) c ks hk1 hrow (fun i h' => (hkid i (by omega) h').slice) hlen (xE need) (1200 * n) (by omega) w.heap.size W1.heap.size fun k hk hk' M1 b1 w1 hl1 ho1 hb1 => ?hC)
  case hC =>
   obtain ⟨a2,m2,c2,e2⟩:=(hkid k hk hk').slice
   have hX2:=hX es[k] (hd k hk).1 (hd k hk).2 w0 ks[k] hv (hkid k hk hk')
   rw [e2] at hX2 ⊢
   obtain ⟨o1,o2,o3,o4⟩:=HA.out.off 1 rfl
   obtain ⟨u1,u2,u3,u4⟩:=HA.out.off 0 rfl
   have g4:=(ho1.block w.heap.size o3 fun z => z.elim o1 o2).trans h4
   have g7:=(ho1.block W1.heap.size u3 fun z => z.elim u1 u2).trans h7
   obtain ⟨⟨kk1,oo1,⟨x1,x2,x3⟩,t1,n1,ks1,p1⟩,he⟩ : ∃ x,es[k] = x:=⟨_,rfl⟩
   rw [he] at hX2 ⊢
   exact row1_any w0 P M1 b1 w1 hl1 hb1 _ _ need _ _ g4 g7 kk1 oo1 x1 x2 x3 t1 n1 a2 m2 c2 p1 (1200 * n) _ fun M2 b2 w2 hl2 hb2 => hX2 need P M2 b2 w2 h7n hl2 hb2
  clear hu hrow hkid h4 h7 hk1 hk2 hk3
  go_enter Tryz.func141,Tryz.ntmps141
  go_wp2_with fail
  clear hW1 hW2
  refine HL.out.mono ?_
  rintro e w3 ⟨M3,b3,rfl,hla,hle,ho,hm⟩
  replace HA:=Lib.hid (HA.out.call ho hm hla)
  have HLE:=Lib.hid hle
  clear hla hle ho hm c4
  go_wp2
  go_end0
  exact HA.out.lp HLE.out

theorem LP.mono {w0 : World} {R R2 : List UInt8 → Prop} {P M : Nat} {w w' : World} {e : Ending} (h : LP w0 R P M w e w') (k : ∀ b,R b → R2 b) : LP w0 R2 P M w e w':=by
 obtain ⟨M',b,h1,h2,h3,h4⟩:=h
 exact ⟨M',b,h1,h2,k b h3,h4⟩

theorem Ly.ly {k k2 : Nat} {x y a b c : List UInt8} (h : Ly k x a b) (g : Ly k2 y b c) : Ly (k + k2) (x ++ y) a c:=by
 refine ⟨fun q => ?_,fun q => ?_,?_⟩
 ·have e:=h.short (by simp only [List.length_append] at q ⊢; omega)
  rw [g.short (by rw [e]; simp only [List.length_append] at q ⊢; omega),e]
  simp
 ·by_cases d : (a ++ x).length ≤ 1000
  ·have e:=h.short d
   exact g.long (by rw [e]; simp only [List.length_append] at q ⊢; omega)
  ·exact g.long (by have:=h.long (by omega); simp only [List.length_append]; omega)
 ·have h1:=h.size
  have h2:=g.size
  omega

theorem expr_w (w0 : World) (P M : Nat) (bs : List UInt8) (w : World) (h : LA w0 w P M bs) (hbs : bs.length ≤ 549755813888) (kk oo v1 v2 : Int) (v3 tt nn : ByteArray) (a : Option Addr) (m c : Nat) (pp : Int) (need r : Nat) (hR : ∀ W,Calls Tryz.prog 107 #[.agg #[.int .i64 kk,.int .i64 oo,.int .i64 v1,.int .i64 v2,.string v3,.string tt,.string nn,.slice a m c,.int .i64 pp]] W fun e w' => e = .returned (.int .i64 (r : Int)) ∧ Below W.heap.size W w') (d : Nat) (hd : d ≤ 200000) (x : List UInt8) (hB : ∀ (M1 : Nat) (b1 : List UInt8) (W : World),LA w0 W P M1 b1 → b1.length ≤ 100000 → Calls Tryz.prog 108 #[.pointer (some ⟨P,0,none⟩),.agg #[.int .i64 kk,.int .i64 oo,.int .i64 v1,.int .i64 v2,.string v3,.string tt,.string nn,.slice a m c,.int .i64 pp]] W (LP w0 (Ly d x b1) P M1 W)) : Calls Tryz.prog 75 #[.pointer (some ⟨P,0,none⟩),.agg #[.int .i64 kk,.int .i64 oo,.int .i64 v1,.int .i64 v2,.string v3,.string tt,.string nn,.slice a m c,.int .i64 pp],.int .i64 (need : Int)] w (LP w0 (Le (d + 2) (if r < need then 40 :: (x ++ [41]) else x) bs) P M w):=by
 have HA:=Lib.hid (Al.start h)
 have HTL:=Lib.hid (fun W hW => tooLong_any w0 P M bs W hW (by omega))
 have HRK:=Lib.hid hR
 have HBR:=Lib.hid hB
 clear h hR hB
 obtain ⟨W1,hW1,HA⟩:=HA.out.push #[.int .i64 kk,.int .i64 oo,.int .i64 v1,.int .i64 v2,.string v3,.string tt,.string nn,.slice a m c,.int .i64 pp] 49
 obtain ⟨⟨y0,y1,y2,y3,y4,y5,y6,y7,y8⟩,-⟩:=nine_of (HA.out.at 0 rfl)
 by_cases q : 1000 < bs.length
 ·have HQ:=Lib.hid q
  rw [show decide (1000 < bs.length) = true from by simp [q]] at HTL
  obtain ⟨X,hXX⟩ : ∃ X,(if r < need then 40 :: (x ++ [41]) else x) = X:=⟨_,rfl⟩
  rw [hXX]
  clear q hXX
  go_enter Tryz.func75,Tryz.ntmps75
  go_wp2_with (first | (go_at_call 15; refine (HTL.out _ HA.out.la).mono ?_; rintro e w2 ⟨rfl,rfl⟩))
  exact bodyPost_ret (v:=.tuple #[]) (by simp [results,Tryz.results75,go_sem]) rfl (HA.out.lp (Le.over HQ.out))
 ·have HQ : Hid (bs.length ≤ 1000):=by show _ ≤ _; omega
  have hq2 : bs.length ≤ 1000:=by omega
  rw [show decide (1000 < bs.length) = false from by simp [q]] at HTL
  clear q
  by_cases g : r < need
  ·rw [if_pos g]
   have gi : ¬ ((need : Int) ≤ (r : Int)):=by omega
   have HLy:=Lib.hid (Ly.nil bs 0)
   clear g
   go_enter Tryz.func75,Tryz.ntmps75
   go_wp2_with (first | (go_at_call 15; refine (HTL.out _ HA.out.la).mono ?_; rintro e w2 ⟨rfl,rfl⟩) | (go_at_call 107; refine (HRK.out _).mono ?_; rintro e w3 ⟨rfl,hb⟩; replace HA:=Lib.hid (HA.out.bel hb); clear hb; have yy:=nine_of (HA.out.at 0 rfl)))
   clear hW1
   obtain ⟨W4,hW4,HA⟩:=HA.out.push #[.string ⟨#[40]⟩] 9
   rw [hW4]
   clear hW4
   have hz:=HLy.out.size
   have hc : (cat [⟨#[40]⟩]).length ≤ 1:=by simp [cat]
   refine (HA.out.lay [⟨#[40]⟩] (n:=1) rfl (by decide) (by omega)).mono ?_
   rintro e w5 ⟨rfl,M5,hA⟩
   replace HA:=Lib.hid hA
   replace HLy:=Lib.hid (HLy.out.layN (cat [⟨#[40]⟩]) hc)
   clear hA hz hc
   clear y0 y1 y2 y3 y4 y5 y6 y7 y8
   obtain ⟨⟨y0,y1,y2,y3,y4,y5,y6,y7,y8⟩,-⟩:=nine_of (HA.out.at 0 rfl)
   go_wp2_with fail
   have hz:=HLy.out.size
   refine (HBR.out _ _ _ HA.out.la (by omega)).mono ?_
   rintro e w6 ⟨M6,b6,rfl,hla,hly,ho,hm⟩
   replace HA:=Lib.hid (HA.out.call ho hm hla)
   replace HLy:=Lib.hid (HLy.out.ly hly)
   clear hla hly ho hm hz
   obtain ⟨W7,hW7,HA⟩:=HA.out.push #[.string ⟨#[41]⟩] 9
   go_wp2_with fail
   clear hW7
   have hz:=HLy.out.size
   have hc : (cat [⟨#[41]⟩]).length ≤ 1:=by simp [cat]
   refine (HA.out.lay [⟨#[41]⟩] (n:=1) rfl (by decide) (by omega)).mono ?_
   rintro e w8 ⟨rfl,M8,hA⟩
   replace HA:=Lib.hid hA
   replace HLy:=Lib.hid (HLy.out.layN (cat [⟨#[41]⟩]) hc)
   clear hA hz hc
   go_wp2
   go_end0
   exact HA.out.lp ((HLy.out.conv (k2:=d + 2) (by omega) (by simp [cat])).of HQ.out)
  ·rw [if_neg g]
   have gi : (need : Int) ≤ (r : Int):=by omega
   clear g
   go_enter Tryz.func75,Tryz.ntmps75
   go_wp2_with (first | (go_at_call 15; refine (HTL.out _ HA.out.la).mono ?_; rintro e w2 ⟨rfl,rfl⟩) | (go_at_call 107; refine (HRK.out _).mono ?_; rintro e w3 ⟨rfl,hb⟩; replace HA:=Lib.hid (HA.out.bel hb); clear hb; have yy:=nine_of (HA.out.at 0 rfl)))
   clear hW1
   refine (HBR.out _ _ _ HA.out.la (by omega)).mono ?_
   rintro e w6 ⟨M6,b6,rfl,hla,hly,ho,hm⟩
   replace HA:=Lib.hid (HA.out.call ho hm hla)
   have HLE:=Lib.hid hly
   clear hla hly ho hm
   go_wp2
   exact bodyPost_ret (v:=.tuple #[]) (by simp [results,Tryz.results75,go_sem]) rfl (HA.out.lp ((HLE.out.more (k2:=d + 2) (by omega)).of HQ.out))
end Go.Proofs.YtbfjmccpcbhljaaGreatDoor
