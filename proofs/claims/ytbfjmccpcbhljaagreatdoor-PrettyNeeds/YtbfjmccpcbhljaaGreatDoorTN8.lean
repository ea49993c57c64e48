/- N8 -/
import Derived.Test.YtbfjmccpcbhljaaGreatDoorTN7
import Derived.Deep.RegionLaw
import Derived.Deep.RegionWith
set_option maxHeartbeats 2000000
set_option maxRecDepth 100000
namespace Go.Proofs.YtbfjmccpcbhljaaGreatDoor
open Go.RowKit
theorem lit_len {v : V3} (h : V3.right v = true) : (lit v).length ≤ 300:=by
 have hr : rgt v.1 v.2.1 v.2.2 = true:=h
 rcases rt_kind hr with k | k | k | k
 ·rw [lit_null k]
  decide
 ·unfold rgt at hr
  rw [if_neg (by omega),if_pos k] at hr
  simp only [Bool.and_eq_true,decide_eq_true_eq] at hr
  rw [lit_int k]
  exact Nat.le_trans (itoa_len hr.1.1 hr.1.2) (by decide)
 ·by_cases q : v.2.1 = 1
  ·rw [lit_true k q]
   decide
  ·unfold lit
   rw [if_neg (by omega),if_pos k,if_neg q]
   decide
 ·rw [lit_text k,quo]
  unfold rgt at hr
  rw [if_neg (by omega),if_neg (by omega),if_neg (by omega),if_pos k] at hr
  simp only [Bool.and_eq_true,decide_eq_true_eq] at hr
  have e : v.2.2.data.toList.length = v.2.2.size:=by simp
  have:=qbs_len v.2.2.data.toList
  simp only [List.length_append,List.length_cons,List.length_nil]
  omega

theorem bare_1 (w0 : World) (hv : SV w0) (P M : Nat) (bs : List UInt8) (w : World) (h : LA w0 w P M bs) (hbs : bs.length ≤ 100000) (oo v1 v2 : Int) (v3 tt nn : ByteArray) (es : List Ex) (pp : Int) (k : Value) (hxr : XR w0 (.mk 1 oo (v1,v2,v3) tt nn es pp) k) (hl : litOk (v1,v2,v3)) : Calls Tryz.prog 108 #[.pointer (some ⟨P,0,none⟩),.agg (exC (.mk 1 oo (v1,v2,v3) tt nn es pp) k).toArray] w (LP w0 (Ly (300) (lit (v1,v2,v3)) bs) P M w):=by
 have HA:=Lib.hid (Al.start h)
 have HLy:=Lib.hid (Ly.nil bs 0)
 clear h
 obtain ⟨a,m,c,rfl⟩:=hxr.slice
 simp only [exC]
 clear hxr
 obtain ⟨x,hx⟩ : ∃ x,(⟨(lit (v1,v2,v3)).toArray⟩ : ByteArray) = x:=⟨_,rfl⟩
 have HPV : Hid (prV (v1,v2,v3) = .tuple #[.string x,.int .i64 0]):=by
  show _ = _
  unfold prV
  rw [prR_ok hl.1,← hx]
 have HE : Hid (x.data.toList = lit (v1,v2,v3)):=by
  show _ = _
  rw [← hx]
 have hxl : x.data.toList.length ≤ 300:=by rw [HE.out]; exact lit_len hl.1
 have hxe : x.data.toList.length = x.size:=by simp
 have hxs : x.size ≤ 300:=by omega
 rw [← HE.out]
 clear hx hl hxl hxe
 obtain ⟨W1,hW1,HA⟩:=HA.out.push #[.int .i64 1,.int .i64 oo,.int .i64 v1,.int .i64 v2,.string v3,.string tt,.string nn,.slice a m c,.int .i64 pp] 49
 obtain ⟨⟨y0,y1,y2,y3,y4,y5,y6,y7,y8⟩,-⟩:=nine_of (HA.out.at 0 rfl)
 go_enter Tryz.func108,Tryz.ntmps108
 go_wp2_with fail
 clear hW1
 refine (print_any (v1,v2,v3) _ (HA.out.la.sv hv)).mono ?_
 rintro e w5 ⟨rfl,hb⟩
 rw [HPV.out]
 replace HA:=Lib.hid (HA.out.bel hb)
 clear hb y0 y1 y2 y3 y4 y5 y6 y7 y8
 obtain ⟨W2,hW2,HA⟩:=HA.out.push #[.string x] 9
 go_wp2_with fail
 clear hW2
 have hz:=HLy.out.size
 have hc : (cat [x]).length ≤ 300:=by simp [cat]; omega
 refine (HA.out.lay [x] (n:=1) rfl (by decide) (by omega)).mono ?_
 rintro e w3 ⟨rfl,M3,hA⟩
 replace HA:=Lib.hid hA
 replace HLy:=Lib.hid (HLy.out.layN (cat [x]) hc)
 clear hA hz hc
 go_wp2
 go_end0
 exact HA.out.lp (HLy.out.conv (by omega) (by simp [cat]))

theorem bare_2 (w0 : World) (P M : Nat) (bs : List UInt8) (w : World) (h : LA w0 w P M bs) (hbs : bs.length ≤ 100000) (oo v1 v2 : Int) (v3 tt nn : ByteArray) (es : List Ex) (pp : Int) (k : Value) (hxr : XR w0 (.mk 2 oo (v1,v2,v3) tt nn es pp) k) (hnn : nn.size ≤ 16) : Calls Tryz.prog 108 #[.pointer (some ⟨P,0,none⟩),.agg (exC (.mk 2 oo (v1,v2,v3) tt nn es pp) k).toArray] w (LP w0 (Ly (300) (58 :: nn.data.toList) bs) P M w):=by
 have HA:=Lib.hid (Al.start h)
 have HLy:=Lib.hid (Ly.nil bs 0)
 clear h
 obtain ⟨a,m,c,rfl⟩:=hxr.slice
 simp only [exC]
 clear hxr
 obtain ⟨W1,hW1,HA⟩:=HA.out.push #[.int .i64 2,.int .i64 oo,.int .i64 v1,.int .i64 v2,.string v3,.string tt,.string nn,.slice a m c,.int .i64 pp] 49
 obtain ⟨⟨y0,y1,y2,y3,y4,y5,y6,y7,y8⟩,-⟩:=nine_of (HA.out.at 0 rfl)
 go_enter Tryz.func108,Tryz.ntmps108
 obtain ⟨W2,hW2,HA⟩:=HA.out.push #[.string ⟨#[58]⟩,.string nn] 9
 go_wp2_with fail
 clear hW1 hW2
 have hz:=HLy.out.size
 have hc : (cat [⟨#[58]⟩,nn]).length ≤ 17:=by simp [cat]; omega
 refine (HA.out.lay [⟨#[58]⟩,nn] (n:=2) rfl (by decide) (by omega)).mono ?_
 rintro e w3 ⟨rfl,M3,hA⟩
 replace HA:=Lib.hid hA
 replace HLy:=Lib.hid (HLy.out.layN (cat [⟨#[58]⟩,nn]) hc)
 clear hA hz hc
 go_wp2
 go_end0
 exact HA.out.lp (HLy.out.conv (by omega) (by simp [cat]))

theorem bare_3 (w0 : World) (P M : Nat) (bs : List UInt8) (w : World) (h : LA w0 w P M bs) (hbs : bs.length ≤ 100000) (oo v1 v2 : Int) (v3 tt nn : ByteArray) (es : List Ex) (pp : Int) (k : Value) (hxr : XR w0 (.mk 3 oo (v1,v2,v3) tt nn es pp) k) (htt : tt.size ≤ 16) (hnn : nn.size ≤ 16) : Calls Tryz.prog 108 #[.pointer (some ⟨P,0,none⟩),.agg (exC (.mk 3 oo (v1,v2,v3) tt nn es pp) k).toArray] w (LP w0 (Ly (40) (if tt = ⟨#[]⟩ then nn.data.toList else tt.data.toList ++ 46 :: nn.data.toList) bs) P M w):=by
 have HA:=Lib.hid (Al.start h)
 clear h
 obtain ⟨a,m,c,rfl⟩:=hxr.slice
 simp only [exC]
 clear hxr
 obtain ⟨X,hXX⟩ : ∃ X,(if tt = ⟨#[]⟩ then nn.data.toList else tt.data.toList ++ 46 :: nn.data.toList) = X:=⟨_,rfl⟩
 have HC : Hid (∀ W,LA w0 W P M bs → Calls Tryz.prog 135 #[.pointer (some ⟨P,0,none⟩),.agg #[.int .i64 3,.int .i64 oo,.int .i64 v1,.int .i64 v2,.string v3,.string tt,.string nn,.slice a m c,.int .i64 pp]] W (LP w0 (Ly 40 X bs) P M W)):=fun W hW => by
  have:=pcolumn_any w0 P M bs W hW hbs 3 oo v1 v2 v3 tt nn a m c pp htt hnn
  rw [hXX] at this
  exact this
 rw [hXX]
 clear hXX
 obtain ⟨W1,hW1,HA⟩:=HA.out.push #[.int .i64 3,.int .i64 oo,.int .i64 v1,.int .i64 v2,.string v3,.string tt,.string nn,.slice a m c,.int .i64 pp] 49
 obtain ⟨⟨y0,y1,y2,y3,y4,y5,y6,y7,y8⟩,-⟩:=nine_of (HA.out.at 0 rfl)
 go_enter Tryz.func108,Tryz.ntmps108
 go_wp2_with fail
 clear hW1
 refine (HC.out _ HA.out.la).mono ?_
 rintro e w9 ⟨M9,b9,rfl,hla,hly,ho,hm⟩
 replace HA:=Lib.hid (HA.out.call ho hm hla)
 have HLE:=Lib.hid hly
 clear hla hly ho hm
 go_wp2
 go_end0
 exact HA.out.lp HLE.out

theorem bare_4 {n : Nat} (hX : XC n) (hn : n ≤ 50) (w0 : World) (hv : SV w0) (P M : Nat) (bs : List UInt8) (w : World) (h : LA w0 w P M bs) (hbs : bs.length ≤ 100000) (oo v1 v2 : Int) (v3 tt nn : ByteArray) (es : List Ex) (pp : Int) (k : Value) (hxr : XR w0 (.mk 4 oo (v1,v2,v3) tt nn es pp) k) (hl1 : es.length = 1) (hd : ∀ i (h : i < es.length),dpr n es[i] = false ∧ RtE es[i]) : Calls Tryz.prog 108 #[.pointer (some ⟨P,0,none⟩),.agg (exC (.mk 4 oo (v1,v2,v3) tt nn es pp) k).toArray] w (LP w0 (Ly (1200 * n + 2) (45 :: (if kindOf es[0] = 4 then 32 :: xE 7 es[0] else xE 7 es[0])) bs) P M w):=by
 have HA:=Lib.hid (Al.start h)
 clear h
 obtain ⟨b,off,c,rfl,hu⟩:=kids_use hX hv hxr (by omega) hd
 simp only [exC,hl1]
 have HU:=Lib.hid hu
 clear hu hxr hd hX
 obtain ⟨z0,hz0⟩ : ∃ z,es[0] = z:=⟨_,rfl⟩
 rw [hz0]
 have HZ0:=Lib.hid hz0
 clear hz0
 obtain ⟨W1,hW1,HA⟩:=HA.out.push #[.int .i64 4,.int .i64 oo,.int .i64 v1,.int .i64 v2,.string v3,.string tt,.string nn,.slice (some ⟨b,off,none⟩) 1 c,.int .i64 pp] 49
 obtain ⟨⟨y0,y1,y2,y3,y4,y5,y6,y7,y8⟩,-⟩:=nine_of (HA.out.at 0 rfl)
 obtain ⟨k1,o1,x1,x2,x3,t1,n1,a1,m1,c1,p1,hk,hc,hu⟩:=HU.out 0 (by omega)
 have HX:=Lib.hid (hu 7 P (by decide))
 have HCS:=Lib.hid hc
 clear hc hu
 have q0:=HA.out.la.cell (HCS.out 0 _ rfl)
 have q1:=HA.out.la.cell (HCS.out 1 _ rfl)
 have q2:=HA.out.la.cell (HCS.out 2 _ rfl)
 have q3:=HA.out.la.cell (HCS.out 3 _ rfl)
 have q4:=HA.out.la.cell (HCS.out 4 _ rfl)
 have q5:=HA.out.la.cell (HCS.out 5 _ rfl)
 have q6:=HA.out.la.cell (HCS.out 6 _ rfl)
 have q7:=HA.out.la.cell (HCS.out 7 _ rfl)
 have q8:=HA.out.la.cell (HCS.out 8 _ rfl)
 simp only [Nat.zero_mul,Nat.add_zero] at q0 q1 q2 q3 q4 q5 q6 q7 q8
 rw [HZ0.out] at HX hk
 by_cases q4 : k1 = 4
 ·subst q4
  rw [hk,if_pos rfl]
  clear hk
  go_enter Tryz.func108,Tryz.ntmps108
  go_wp2_with fail
  clear hW1
  refine (pneg_two w0 P M bs _ HA.out.la hbs o1 x1 x2 x3 t1 n1 a1 m1 c1 p1 (1200 * n) (by omega) _ HX.out).mono ?_
  rintro e w9 ⟨M9,b9,rfl,hla,hly,ho,hm⟩
  replace HA:=Lib.hid (HA.out.call ho hm hla)
  have HLE:=Lib.hid hly
  clear hla hly ho hm
  go_wp2
  go_end0
  exact HA.out.lp HLE.out
 ·rw [hk,if_neg q4]
  have HQ4:=Lib.hid q4
  clear hk q4
  go_enter Tryz.func108,Tryz.ntmps108
  go_wp2_with fail
  clear hW1
  refine (pneg_one w0 P M bs _ HA.out.la hbs k1 o1 x1 x2 x3 t1 n1 a1 m1 c1 p1 HQ4.out (1200 * n) (by omega) _ HX.out).mono ?_
  rintro e w9 ⟨M9,b9,rfl,hla,hly,ho,hm⟩
  replace HA:=Lib.hid (HA.out.call ho hm hla)
  have HLE:=Lib.hid hly
  clear hla hly ho hm
  go_wp2
  go_end0
  exact HA.out.lp HLE.out

theorem bare_7y {n : Nat} (hX : XC n) (hn : n ≤ 50) (w0 : World) (hv : SV w0) (P M : Nat) (bs : List UInt8) (w : World) (h : LA w0 w P M bs) (hbs : bs.length ≤ 100000) (v1 v2 : Int) (v3 tt nn : ByteArray) (es : List Ex) (pp : Int) (k : Value) (hxr : XR w0 (.mk 7 1 (v1,v2,v3) tt nn es pp) k) (hl1 : es.length = 1) (hd : ∀ i (h : i < es.length),dpr n es[i] = false ∧ RtE es[i]) : Calls Tryz.prog 108 #[.pointer (some ⟨P,0,none⟩),.agg (exC (.mk 7 1 (v1,v2,v3) tt nn es pp) k).toArray] w (LP w0 (Ly (1200 * n + 20) (xE 5 es[0] ++ [32,73,83,32,78,79,84,32,78,85,76,76]) bs) P M w):=by
 have HA:=Lib.hid (Al.start h)
 obtain ⟨a,m,c,rfl⟩:=hxr.slice
 have HR:=Lib.hid hxr
 have HD:=Lib.hid hd
 simp only [exC]
 clear h hxr hd
 obtain ⟨W1,hW1,HA⟩:=HA.out.push #[.int .i64 7,.int .i64 1,.int .i64 v1,.int .i64 v2,.string v3,.string tt,.string nn,.slice a m c,.int .i64 pp] 49
 obtain ⟨⟨y0,y1,y2,y3,y4,y5,y6,y7,y8⟩,-⟩:=nine_of (HA.out.at 0 rfl)
 go_enter Tryz.func108,Tryz.ntmps108
 go_wp2_with fail
 clear hW1
 refine (pnull_yes hX hn w0 hv P M bs _ HA.out.la hbs 7 v1 v2 v3 tt nn es pp _ HR.out hl1 HD.out).mono ?_
 rintro e w9 ⟨M9,b9,rfl,hla,hly,ho,hm⟩
 replace HA:=Lib.hid (HA.out.call ho hm hla)
 have HLE:=Lib.hid hly
 clear hla hly ho hm
 go_wp2
 go_end0
 exact HA.out.lp HLE.out

theorem bare_7n {n : Nat} (hX : XC n) (hn : n ≤ 50) (w0 : World) (hv : SV w0) (P M : Nat) (bs : List UInt8) (w : World) (h : LA w0 w P M bs) (hbs : bs.length ≤ 100000) (oo v1 v2 : Int) (v3 tt nn : ByteArray) (es : List Ex) (pp : Int) (k : Value) (hxr : XR w0 (.mk 7 oo (v1,v2,v3) tt nn es pp) k) (ho : oo ≠ 1) (hl1 : es.length = 1) (hd : ∀ i (h : i < es.length),dpr n es[i] = false ∧ RtE es[i]) : Calls Tryz.prog 108 #[.pointer (some ⟨P,0,none⟩),.agg (exC (.mk 7 oo (v1,v2,v3) tt nn es pp) k).toArray] w (LP w0 (Ly (1200 * n + 20) (xE 5 es[0] ++ [32,73,83,32,78,85,76,76]) bs) P M w):=by
 have HA:=Lib.hid (Al.start h)
 obtain ⟨a,m,c,rfl⟩:=hxr.slice
 have HR:=Lib.hid hxr
 have HD:=Lib.hid hd
 simp only [exC]
 clear h hxr hd
 obtain ⟨W1,hW1,HA⟩:=HA.out.push #[.int .i64 7,.int .i64 oo,.int .i64 v1,.int .i64 v2,.string v3,.string tt,.string nn,.slice a m c,.int .i64 pp] 49
 obtain ⟨⟨y0,y1,y2,y3,y4,y5,y6,y7,y8⟩,-⟩:=nine_of (HA.out.at 0 rfl)
 go_enter Tryz.func108,Tryz.ntmps108
 go_wp2_with fail
 clear hW1
 refine (pnull_no hX hn w0 hv P M bs _ HA.out.la hbs 7 oo v1 v2 v3 tt nn es pp _ HR.out ho hl1 HD.out).mono ?_
 rintro e w9 ⟨M9,b9,rfl,hla,hly,ho,hm⟩
 replace HA:=Lib.hid (HA.out.call ho hm hla)
 have HLE:=Lib.hid hly
 clear hla hly ho hm
 go_wp2
 go_end0
 exact HA.out.lp HLE.out

theorem bare_8 {n : Nat} (hX : XC n) (hn : n ≤ 50) (w0 : World) (hv : SV w0) (P M : Nat) (bs : List UInt8) (w : World) (h : LA w0 w P M bs) (hbs : bs.length ≤ 100000) (oo v1 v2 : Int) (v3 tt nn : ByteArray) (es : List Ex) (pp : Int) (k : Value) (hxr : XR w0 (.mk 8 oo (v1,v2,v3) tt nn es pp) k) (hl1 : es.length = 1) (hd : ∀ i (h : i < es.length),dpr n es[i] = false ∧ RtE es[i]) : Calls Tryz.prog 108 #[.pointer (some ⟨P,0,none⟩),.agg (exC (.mk 8 oo (v1,v2,v3) tt nn es pp) k).toArray] w (LP w0 (Ly (1200 * n + 10) (([78,79,84,32] : List UInt8) ++ xE 3 es[0]) bs) P M w):=by
 have HA:=Lib.hid (Al.start h)
 have HLy:=Lib.hid (Ly.nil bs 0)
 clear h
 obtain ⟨b,off,c,rfl,hu⟩:=kids_use hX hv hxr (by omega) hd
 simp only [exC,hl1]
 have HU:=Lib.hid hu
 clear hu hxr hd hX
 obtain ⟨z0,hz0⟩ : ∃ z,es[0] = z:=⟨_,rfl⟩
 rw [hz0]
 have HZ0:=Lib.hid hz0
 clear hz0
 obtain ⟨W1,hW1,HA⟩:=HA.out.push #[.int .i64 8,.int .i64 oo,.int .i64 v1,.int .i64 v2,.string v3,.string tt,.string nn,.slice (some ⟨b,off,none⟩) 1 c,.int .i64 pp] 49
 obtain ⟨⟨y0,y1,y2,y3,y4,y5,y6,y7,y8⟩,-⟩:=nine_of (HA.out.at 0 rfl)
 go_enter Tryz.func108,Tryz.ntmps108
 obtain ⟨W2,hW2,HA⟩:=HA.out.push #[.string ⟨#[78,79,84,32]⟩] 9
 go_wp2_with fail
 clear hW1 hW2
 have hz:=HLy.out.size
 have hc : (cat [⟨#[78,79,84,32]⟩]).length ≤ 4:=by simp [cat]
 refine (HA.out.lay [⟨#[78,79,84,32]⟩] (n:=1) rfl (by decide) (by omega)).mono ?_
 rintro e w3 ⟨rfl,M3,hA⟩
 replace HA:=Lib.hid hA
 replace HLy:=Lib.hid (HLy.out.layN (cat [⟨#[78,79,84,32]⟩]) hc)
 clear hA hz hc
 clear y0 y1 y2 y3 y4 y5 y6 y7 y8
 obtain ⟨⟨y0,y1,y2,y3,y4,y5,y6,y7,y8⟩,-⟩:=nine_of (HA.out.at 0 rfl)
 obtain ⟨k1,o1,x1,x2,x3,t1,n1,a1,m1,c1,p1,-,hc,hu⟩:=HU.out 0 (by omega)
 have HX:=Lib.hid (hu 3 P (by decide))
 have HCS:=Lib.hid hc
 clear hc hu
 have q0:=HA.out.la.cell (HCS.out 0 _ rfl)
 have q1:=HA.out.la.cell (HCS.out 1 _ rfl)
 have q2:=HA.out.la.cell (HCS.out 2 _ rfl)
 have q3:=HA.out.la.cell (HCS.out 3 _ rfl)
 have q4:=HA.out.la.cell (HCS.out 4 _ rfl)
 have q5:=HA.out.la.cell (HCS.out 5 _ rfl)
 have q6:=HA.out.la.cell (HCS.out 6 _ rfl)
 have q7:=HA.out.la.cell (HCS.out 7 _ rfl)
 have q8:=HA.out.la.cell (HCS.out 8 _ rfl)
 simp only [Nat.zero_mul,Nat.add_zero] at q0 q1 q2 q3 q4 q5 q6 q7 q8
 rw [HZ0.out] at HX
 go_wp2_with fail
 have hz:=HLy.out.size
 refine (HX.out _ _ _ HA.out.la (by omega)).mono ?_
 rintro e w4 ⟨M4,b4,rfl,hla,hle,ho,hm⟩
 replace HA:=Lib.hid (HA.out.call ho hm hla)
 replace HLy:=Lib.hid (HLy.out.le hle)
 clear hla hle ho hm hz
 go_wp2
 go_end0
 exact HA.out.lp (HLy.out.conv (by omega) (by simp [cat]))

theorem bare_9 {n : Nat} (hX : XC n) (hn : n ≤ 50) (w0 : World) (hv : SV w0) (P M : Nat) (bs : List UInt8) (w : World) (h : LA w0 w P M bs) (hbs : bs.length ≤ 100000) (oo v1 v2 : Int) (v3 tt nn : ByteArray) (es : List Ex) (pp : Int) (k : Value) (hxr : XR w0 (.mk 9 oo (v1,v2,v3) tt nn es pp) k) (h0 : 0 < es.length) (hlen : es.length ≤ 16) (hd : ∀ i (h : i < es.length),dpr n es[i] = false ∧ RtE es[i]) : Calls Tryz.prog 108 #[.pointer (some ⟨P,0,none⟩),.agg (exC (.mk 9 oo (v1,v2,v3) tt nn es pp) k).toArray] w (LP w0 (Ly (1200 * n + 1040) (laid [] [32,65,78,68,32] (xE 3) es) bs) P M w):=by
 have HA:=Lib.hid (Al.start h)
 obtain ⟨a,m,c,rfl⟩:=hxr.slice
 have HR:=Lib.hid hxr
 have HD:=Lib.hid hd
 simp only [exC]
 clear h hxr hd
 obtain ⟨W1,hW1,HA⟩:=HA.out.push #[.int .i64 9,.int .i64 oo,.int .i64 v1,.int .i64 v2,.string v3,.string tt,.string nn,.slice a m c,.int .i64 pp] 49
 obtain ⟨⟨y0,y1,y2,y3,y4,y5,y6,y7,y8⟩,-⟩:=nine_of (HA.out.at 0 rfl)
 go_enter Tryz.func108,Tryz.ntmps108
 go_wp2_with fail
 clear hW1
 refine (prow_any hX hn w0 hv P M bs _ HA.out.la hbs 9 oo v1 v2 v3 tt nn es pp _ HR.out h0 hlen HD.out ⟨#[32,65,78,68,32]⟩ (by decide) 3 (by decide)).mono ?_
 rintro e w9 ⟨M9,b9,rfl,hla,hly,ho,hm⟩
 replace HA:=Lib.hid (HA.out.call ho hm hla)
 have HLE:=Lib.hid hly
 clear hla hly ho hm
 go_wp2
 go_end0
 exact HA.out.lp HLE.out

theorem bare_10 {n : Nat} (hX : XC n) (hn : n ≤ 50) (w0 : World) (hv : SV w0) (P M : Nat) (bs : List UInt8) (w : World) (h : LA w0 w P M bs) (hbs : bs.length ≤ 100000) (oo v1 v2 : Int) (v3 tt nn : ByteArray) (es : List Ex) (pp : Int) (k : Value) (hxr : XR w0 (.mk 10 oo (v1,v2,v3) tt nn es pp) k) (h0 : 0 < es.length) (hlen : es.length ≤ 16) (hd : ∀ i (h : i < es.length),dpr n es[i] = false ∧ RtE es[i]) : Calls Tryz.prog 108 #[.pointer (some ⟨P,0,none⟩),.agg (exC (.mk 10 oo (v1,v2,v3) tt nn es pp) k).toArray] w (LP w0 (Ly (1200 * n + 1040) (laid [] [32,79,82,32] (xE 2) es) bs) P M w):=by
 have HA:=Lib.hid (Al.start h)
 obtain ⟨a,m,c,rfl⟩:=hxr.slice
 have HR:=Lib.hid hxr
 have HD:=Lib.hid hd
 simp only [exC]
 clear h hxr hd
 obtain ⟨W1,hW1,HA⟩:=HA.out.push #[.int .i64 10,.int .i64 oo,.int .i64 v1,.int .i64 v2,.string v3,.string tt,.string nn,.slice a m c,.int .i64 pp] 49
 obtain ⟨⟨y0,y1,y2,y3,y4,y5,y6,y7,y8⟩,-⟩:=nine_of (HA.out.at 0 rfl)
 go_enter Tryz.func108,Tryz.ntmps108
 go_wp2_with fail
 clear hW1
 refine (prow_any hX hn w0 hv P M bs _ HA.out.la hbs 10 oo v1 v2 v3 tt nn es pp _ HR.out h0 hlen HD.out ⟨#[32,79,82,32]⟩ (by decide) 2 (by decide)).mono ?_
 rintro e w9 ⟨M9,b9,rfl,hla,hly,ho,hm⟩
 replace HA:=Lib.hid (HA.out.call ho hm hla)
 have HLE:=Lib.hid hly
 clear hla hly ho hm
 go_wp2
 go_end0
 exact HA.out.lp HLE.out

theorem bare_11 (w0 : World) (P M : Nat) (bs : List UInt8) (w : World) (h : LA w0 w P M bs) (hbs : bs.length ≤ 100000) (oo v1 v2 : Int) (v3 tt nn : ByteArray) (es : List Ex) (pp : Int) (k : Value) (hxr : XR w0 (.mk 11 oo (v1,v2,v3) tt nn es pp) k) : Calls Tryz.prog 108 #[.pointer (some ⟨P,0,none⟩),.agg (exC (.mk 11 oo (v1,v2,v3) tt nn es pp) k).toArray] w (LP w0 (Ly (300) ([67,79,85,78,84,40,42,41]) bs) P M w):=by
 have HA:=Lib.hid (Al.start h)
 have HLy:=Lib.hid (Ly.nil bs 0)
 clear h
 obtain ⟨a,m,c,rfl⟩:=hxr.slice
 simp only [exC]
 clear hxr
 obtain ⟨W1,hW1,HA⟩:=HA.out.push #[.int .i64 11,.int .i64 oo,.int .i64 v1,.int .i64 v2,.string v3,.string tt,.string nn,.slice a m c,.int .i64 pp] 49
 obtain ⟨⟨y0,y1,y2,y3,y4,y5,y6,y7,y8⟩,-⟩:=nine_of (HA.out.at 0 rfl)
 go_enter Tryz.func108,Tryz.ntmps108
 obtain ⟨W2,hW2,HA⟩:=HA.out.push #[.string ⟨#[67,79,85,78,84,40,42,41]⟩] 9
 go_wp2_with fail
 clear hW1 hW2
 have hz:=HLy.out.size
 have hc : (cat [⟨#[67,79,85,78,84,40,42,41]⟩]).length ≤ 8:=by simp [cat]
 refine (HA.out.lay [⟨#[67,79,85,78,84,40,42,41]⟩] (n:=1) rfl (by decide) (by omega)).mono ?_
 rintro e w3 ⟨rfl,M3,hA⟩
 replace HA:=Lib.hid hA
 replace HLy:=Lib.hid (HLy.out.layN (cat [⟨#[67,79,85,78,84,40,42,41]⟩]) hc)
 clear hA hz hc
 go_wp2
 go_end0
 exact HA.out.lp (HLy.out.conv (by omega) (by simp [cat]))

theorem bare_12 {n : Nat} (hX : XC n) (hn : n ≤ 50) (w0 : World) (hv : SV w0) (P M : Nat) (bs : List UInt8) (w : World) (h : LA w0 w P M bs) (hbs : bs.length ≤ 100000) (oo v1 v2 : Int) (v3 tt nn : ByteArray) (es : List Ex) (pp : Int) (k : Value) (hxr : XR w0 (.mk 12 oo (v1,v2,v3) tt nn es pp) k) (hl1 : es.length = 1) (hd : ∀ i (h : i < es.length),dpr n es[i] = false ∧ RtE es[i]) : Calls Tryz.prog 108 #[.pointer (some ⟨P,0,none⟩),.agg (exC (.mk 12 oo (v1,v2,v3) tt nn es pp) k).toArray] w (LP w0 (Ly (1200 * n + 5) (([83,85,77,40] : List UInt8) ++ (xE 1 es[0] ++ [41])) bs) P M w):=by
 have HA:=Lib.hid (Al.start h)
 clear h
 obtain ⟨b,off,c,rfl,hu⟩:=kids_use hX hv hxr (by omega) hd
 simp only [exC,hl1]
 have HU:=Lib.hid hu
 clear hu hxr hd hX
 obtain ⟨z0,hz0⟩ : ∃ z,es[0] = z:=⟨_,rfl⟩
 rw [hz0]
 have HZ0:=Lib.hid hz0
 clear hz0
 obtain ⟨W1,hW1,HA⟩:=HA.out.push #[.int .i64 12,.int .i64 oo,.int .i64 v1,.int .i64 v2,.string v3,.string tt,.string nn,.slice (some ⟨b,off,none⟩) 1 c,.int .i64 pp] 49
 obtain ⟨⟨y0,y1,y2,y3,y4,y5,y6,y7,y8⟩,-⟩:=nine_of (HA.out.at 0 rfl)
 obtain ⟨k1,o1,x1,x2,x3,t1,n1,a1,m1,c1,p1,-,hc,hu⟩:=HU.out 0 (by omega)
 have HX:=Lib.hid (hu 1 P (by decide))
 have HCS:=Lib.hid hc
 clear hc hu
 have q0:=HA.out.la.cell (HCS.out 0 _ rfl)
 have q1:=HA.out.la.cell (HCS.out 1 _ rfl)
 have q2:=HA.out.la.cell (HCS.out 2 _ rfl)
 have q3:=HA.out.la.cell (HCS.out 3 _ rfl)
 have q4:=HA.out.la.cell (HCS.out 4 _ rfl)
 have q5:=HA.out.la.cell (HCS.out 5 _ rfl)
 have q6:=HA.out.la.cell (HCS.out 6 _ rfl)
 have q7:=HA.out.la.cell (HCS.out 7 _ rfl)
 have q8:=HA.out.la.cell (HCS.out 8 _ rfl)
 simp only [Nat.zero_mul,Nat.add_zero] at q0 q1 q2 q3 q4 q5 q6 q7 q8
 rw [HZ0.out] at HX
 go_enter Tryz.func108,Tryz.ntmps108
 go_wp2_with fail
 clear hW1
 refine (overRows_any w0 P M bs _ HA.out.la hbs ⟨#[83,85,77,40]⟩ (by decide) k1 o1 x1 x2 x3 t1 n1 a1 m1 c1 p1 (1200 * n) (by omega) _ HX.out).mono ?_
 rintro e w9 ⟨M9,b9,rfl,hla,hly,ho,hm⟩
 replace HA:=Lib.hid (HA.out.call ho hm hla)
 have HLE:=Lib.hid hly
 clear hla hly ho hm
 go_wp2
 go_end0
 exact HA.out.lp HLE.out

theorem bare_13 {n : Nat} (hX : XC n) (hn : n ≤ 50) (w0 : World) (hv : SV w0) (P M : Nat) (bs : List UInt8) (w : World) (h : LA w0 w P M bs) (hbs : bs.length ≤ 100000) (oo v1 v2 : Int) (v3 tt nn : ByteArray) (es : List Ex) (pp : Int) (k : Value) (hxr : XR w0 (.mk 13 oo (v1,v2,v3) tt nn es pp) k) (hl1 : es.length = 1) (hd : ∀ i (h : i < es.length),dpr n es[i] = false ∧ RtE es[i]) : Calls Tryz.prog 108 #[.pointer (some ⟨P,0,none⟩),.agg (exC (.mk 13 oo (v1,v2,v3) tt nn es pp) k).toArray] w (LP w0 (Ly (1200 * n + 5) (([77,73,78,40] : List UInt8) ++ (xE 1 es[0] ++ [41])) bs) P M w):=by
 have HA:=Lib.hid (Al.start h)
 clear h
 obtain ⟨b,off,c,rfl,hu⟩:=kids_use hX hv hxr (by omega) hd
 simp only [exC,hl1]
 have HU:=Lib.hid hu
 clear hu hxr hd hX
 obtain ⟨z0,hz0⟩ : ∃ z,es[0] = z:=⟨_,rfl⟩
 rw [hz0]
 have HZ0:=Lib.hid hz0
 clear hz0
 obtain ⟨W1,hW1,HA⟩:=HA.out.push #[.int .i64 13,.int .i64 oo,.int .i64 v1,.int .i64 v2,.string v3,.string tt,.string nn,.slice (some ⟨b,off,none⟩) 1 c,.int .i64 pp] 49
 obtain ⟨⟨y0,y1,y2,y3,y4,y5,y6,y7,y8⟩,-⟩:=nine_of (HA.out.at 0 rfl)
 obtain ⟨k1,o1,x1,x2,x3,t1,n1,a1,m1,c1,p1,-,hc,hu⟩:=HU.out 0 (by omega)
 have HX:=Lib.hid (hu 1 P (by decide))
 have HCS:=Lib.hid hc
 clear hc hu
 have q0:=HA.out.la.cell (HCS.out 0 _ rfl)
 have q1:=HA.out.la.cell (HCS.out 1 _ rfl)
 have q2:=HA.out.la.cell (HCS.out 2 _ rfl)
 have q3:=HA.out.la.cell (HCS.out 3 _ rfl)
 have q4:=HA.out.la.cell (HCS.out 4 _ rfl)
 have q5:=HA.out.la.cell (HCS.out 5 _ rfl)
 have q6:=HA.out.la.cell (HCS.out 6 _ rfl)
 have q7:=HA.out.la.cell (HCS.out 7 _ rfl)
 have q8:=HA.out.la.cell (HCS.out 8 _ rfl)
 simp only [Nat.zero_mul,Nat.add_zero] at q0 q1 q2 q3 q4 q5 q6 q7 q8
 rw [HZ0.out] at HX
 go_enter Tryz.func108,Tryz.ntmps108
 go_wp2_with fail
 clear hW1
 refine (overRows_any w0 P M bs _ HA.out.la hbs ⟨#[77,73,78,40]⟩ (by decide) k1 o1 x1 x2 x3 t1 n1 a1 m1 c1 p1 (1200 * n) (by omega) _ HX.out).mono ?_
 rintro e w9 ⟨M9,b9,rfl,hla,hly,ho,hm⟩
 replace HA:=Lib.hid (HA.out.call ho hm hla)
 have HLE:=Lib.hid hly
 clear hla hly ho hm
 go_wp2
 go_end0
 exact HA.out.lp HLE.out

theorem bare_14 {n : Nat} (hX : XC n) (hn : n ≤ 50) (w0 : World) (hv : SV w0) (P M : Nat) (bs : List UInt8) (w : World) (h : LA w0 w P M bs) (hbs : bs.length ≤ 100000) (oo v1 v2 : Int) (v3 tt nn : ByteArray) (es : List Ex) (pp : Int) (k : Value) (hxr : XR w0 (.mk 14 oo (v1,v2,v3) tt nn es pp) k) (hl1 : es.length = 1) (hd : ∀ i (h : i < es.length),dpr n es[i] = false ∧ RtE es[i]) : Calls Tryz.prog 108 #[.pointer (some ⟨P,0,none⟩),.agg (exC (.mk 14 oo (v1,v2,v3) tt nn es pp) k).toArray] w (LP w0 (Ly (1200 * n + 5) (([77,65,88,40] : List UInt8) ++ (xE 1 es[0] ++ [41])) bs) P M w):=by
 have HA:=Lib.hid (Al.start h)
 clear h
 obtain ⟨b,off,c,rfl,hu⟩:=kids_use hX hv hxr (by omega) hd
 simp only [exC,hl1]
 have HU:=Lib.hid hu
 clear hu hxr hd hX
 obtain ⟨z0,hz0⟩ : ∃ z,es[0] = z:=⟨_,rfl⟩
 rw [hz0]
 have HZ0:=Lib.hid hz0
 clear hz0
 obtain ⟨W1,hW1,HA⟩:=HA.out.push #[.int .i64 14,.int .i64 oo,.int .i64 v1,.int .i64 v2,.string v3,.string tt,.string nn,.slice (some ⟨b,off,none⟩) 1 c,.int .i64 pp] 49
 obtain ⟨⟨y0,y1,y2,y3,y4,y5,y6,y7,y8⟩,-⟩:=nine_of (HA.out.at 0 rfl)
 obtain ⟨k1,o1,x1,x2,x3,t1,n1,a1,m1,c1,p1,-,hc,hu⟩:=HU.out 0 (by omega)
 have HX:=Lib.hid (hu 1 P (by decide))
 have HCS:=Lib.hid hc
 clear hc hu
 have q0:=HA.out.la.cell (HCS.out 0 _ rfl)
 have q1:=HA.out.la.cell (HCS.out 1 _ rfl)
 have q2:=HA.out.la.cell (HCS.out 2 _ rfl)
 have q3:=HA.out.la.cell (HCS.out 3 _ rfl)
 have q4:=HA.out.la.cell (HCS.out 4 _ rfl)
 have q5:=HA.out.la.cell (HCS.out 5 _ rfl)
 have q6:=HA.out.la.cell (HCS.out 6 _ rfl)
 have q7:=HA.out.la.cell (HCS.out 7 _ rfl)
 have q8:=HA.out.la.cell (HCS.out 8 _ rfl)
 simp only [Nat.zero_mul,Nat.add_zero] at q0 q1 q2 q3 q4 q5 q6 q7 q8
 rw [HZ0.out] at HX
 go_enter Tryz.func108,Tryz.ntmps108
 go_wp2_with fail
 clear hW1
 refine (overRows_any w0 P M bs _ HA.out.la hbs ⟨#[77,65,88,40]⟩ (by decide) k1 o1 x1 x2 x3 t1 n1 a1 m1 c1 p1 (1200 * n) (by omega) _ HX.out).mono ?_
 rintro e w9 ⟨M9,b9,rfl,hla,hly,ho,hm⟩
 replace HA:=Lib.hid (HA.out.call ho hm hla)
 have HLE:=Lib.hid hly
 clear hla hly ho hm
 go_wp2
 go_end0
 exact HA.out.lp HLE.out
end Go.Proofs.YtbfjmccpcbhljaaGreatDoor
