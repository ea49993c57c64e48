/- N13 N14 -/
import Derived.Test.YtbfjmccpcbhljaaGreatDoorTN8p
import Derived.Test.YtbfjmccpcbhljaaGreatDoorTN11a
import Derived.Test.YtbfjmccpcbhljaaGreatDoorTN11b
import Derived.Test.YtbfjmccpcbhljaaGreatDoorTN11d
set_option maxHeartbeats 8000000
set_option maxRecDepth 100000
namespace Go.Proofs.YtbfjmccpcbhljaaGreatDoor
open Go.RowKit
theorem whole_item {w0 : World} (hv : SV w0) {e : Ex} {k : Value} (hxr : XR w0 e k) (hd : dpr 16 e = false) (hr : RtI e) (P M : Nat) (bs : List UInt8) (w : World) (h : LA w0 w P M bs) (hbs : bs.length ≤ 549755813888) : Calls Tryz.prog 36 #[.pointer (some ⟨P,0,none⟩),.agg (exC e k).toArray] w (LP w0 (Le 20000 (xIt e) bs) P M w):=by
 have hE:=fun M1 b1 w1 h1 h2 => pexpr_any (xc_all 15 (by decide)) (by decide) e hd hr w0 hv k hxr 1 P M1 b1 w1 h1 h2
 rw [if_neg (by have:=xE_one e; unfold xE xwr at this; intro q; obtain ⟨k1,o1,v1,t1,n1,ks1,p1⟩:=e; revert q; unfold rankX; simp only; split <;> (try split) <;> (try split) <;> (try split) <;> (try split) <;> (try split) <;> omega),← xIt_xI] at hE
 obtain ⟨x,hx⟩ : ∃ x,xIt e = x:=⟨_,rfl⟩
 obtain ⟨a,m,c,rfl⟩:=hxr.slice
 obtain ⟨kk,oo,⟨v1,v2,v3⟩,tt,nn,es,pp⟩:=e
 rw [hx] at hE ⊢
 refine (pwhole_any w0 P M bs w h hbs kk oo v1 v2 v3 tt nn a m c pp (1200 * 15 + 1200) x hE).mono fun e w' q => q.mono fun b hb => ⟨hb.toLy.more (by omega),hb.none⟩

theorem lsE {w0 : World} (hv : SV w0) {l : List Ex} {a : Option Addr} {c : Nat} (h : XLR w0 l (.slice a l.length c)) (hl : l.length ≤ 16) (hr : ∀ e ∈ l,dpr 16 e = false ∧ RtI e) (P M : Nat) (bs : List UInt8) (w : World) (hla : LA w0 w P M bs) (hbs : bs.length ≤ 10000000) (ah se : ByteArray) (ha : ah.size ≤ 64) (hse : se.size ≤ 64) : Calls Tryz.prog 35 #[.pointer (some ⟨P,0,none⟩),.string ah,.string se,.slice a l.length c,.func (.func 36) #[.pointer (some ⟨P,0,none⟩)] #[]] w (LP w0 (Ly 21040 (laid ah.data.toList se.data.toList xIt l) bs) P M w):=by
 obtain ⟨p,c',ks,e,-,-,hk,hrow,hx⟩:=h
 injection e with e1 _ e2
 subst e1 e2
 exact listE_wide w0 P M bs w hla hbs ah se ha hse l a c ks hk hrow (fun i h' => (hx i (by omega) h').slice) hl xIt 20000 (by decide) fun k hk1 hk2 M1 b1 w1 h1 _ h2 => whole_item hv (hx k hk1 hk2) (hr _ (List.getElem_mem hk1)).1 (hr _ (List.getElem_mem hk1)).2 P M1 b1 w1 h1 h2

theorem lsSe {w0 : World} (hv : SV w0) {l : List Se} {a : Option Addr} {c : Nat} (h : SLR w0 l (.slice a l.length c)) (hl : l.length ≤ 16) (hr : ∀ x ∈ l,dpr 16 x.2.1 = false ∧ RtSe x) (P M : Nat) (bs : List UInt8) (w : World) (hla : LA w0 w P M bs) (hbs : bs.length ≤ 100000) (ah se : ByteArray) (ha : ah.size ≤ 64) (hse : se.size ≤ 64) : Calls Tryz.prog 37 #[.pointer (some ⟨P,0,none⟩),.string ah,.string se,.slice a l.length c,.func (.func 38) #[.pointer (some ⟨P,0,none⟩)] #[]] w (LP w0 (Ly 340000 (laid ah.data.toList se.data.toList xSe l) bs) P M w):=by
 obtain ⟨p,c',ks,e,-,-,hk,hrow,hx⟩:=h
 injection e with e1 _ e2
 subst e1 e2
 refine (listSe w0 P M bs w hla hbs ah se ha hse l a c ks hk hrow (fun i h' => (hx i (by omega) h').slice) hl xSe 20020 (by decide) fun k hk1 hk2 M1 b1 w1 h1 _ h2 => ?_).mono fun e w' q => q.mono fun b hb => hb.more (by omega)
 have hxr:=hx k hk1 hk2
 obtain ⟨hd,hn,ho,hi⟩:=hr _ (List.getElem_mem hk1)
 have hE:=fun M1 b1 w1 h1 h2 => pexpr_any (xc_all 15 (by decide)) (by decide) l[k].2.1 hd hi w0 hv ks[k] hxr 1 P M1 b1 w1 h1 h2
 obtain ⟨a2,m2,c2,hks⟩:=hxr.slice
 rw [hks] at hE ⊢
 obtain ⟨⟨nm,⟨kk,oo,⟨v1,v2,v3⟩,tt,nn,es,pp⟩,pq⟩,hxx⟩ : ∃ x,l[k] = x:=⟨_,rfl⟩
 rw [hxx] at hE hn ho ⊢
 rw [xI_B ho] at hE
 obtain ⟨x,hxe⟩ : ∃ x,xE 1 (Ex.mk kk oo (v1,v2,v3) tt nn es pp) = x:=⟨_,rfl⟩
 have hE2 : Lays w0 75 #[.pointer (some ⟨P,0,none⟩),.agg #[.int .i64 kk,.int .i64 oo,.int .i64 v1,.int .i64 v2,.string v3,.string tt,.string nn,.slice a2 m2 c2,.int .i64 pp],.int .i64 1] (1200 * 15 + 1200) x P:=fun M2 b2 w2 h3 h4 => by
  have:=hE M2 b2 w2 h3 h4
  rw [← hxe]
  exact this
 have e3 : xSe (nm,Ex.mk kk oo (v1,v2,v3) tt nn es pp,pq) = nm.data.toList ++ 32 :: 61 :: 32 :: x:=by rw [← hxe]; rfl
 rw [e3]
 exact (set_lay w0 P M1 b1 w1 h1 h2 nm (name16 hn) kk oo v1 v2 v3 tt nn a2 m2 c2 pp pq (1200 * 15 + 1200) x hE2).mono fun e w' q => q.mono fun b hb => hb.more (by omega)

theorem lsSo {w0 : World} (hv : SV w0) {l : List So} {a : Option Addr} {c : Nat} (h : OLR w0 l (.slice a l.length c)) (hl : l.length ≤ 16) (hr : ∀ x ∈ l,RtSo x) (P M : Nat) (bs : List UInt8) (w : World) (hla : LA w0 w P M bs) (hbs : bs.length ≤ 10000000) (ah se : ByteArray) (ha : ah.size ≤ 64) (hse : se.size ≤ 64) : Calls Tryz.prog 40 #[.pointer (some ⟨P,0,none⟩),.string ah,.string se,.slice a l.length c,.func (.func 41) #[.pointer (some ⟨P,0,none⟩)] #[]] w (LP w0 (Ly 2000 (laid ah.data.toList se.data.toList xSo l) bs) P M w):=by
 obtain ⟨p,c',e,-,-,hrow⟩:=h
 injection e with e1 _ e2
 subst e1 e2
 refine (listSo w0 P M bs w hla hbs ah se ha hse l a c hrow hl xSo 30 (by decide) fun k hk1 M1 b1 w1 h1 _ h2 => ?_).mono fun e w' q => q.mono fun b hb => hb.more (by omega)
 obtain ⟨h3,h4⟩:=hr _ (List.getElem_mem hk1)
 obtain ⟨⟨n,b,p⟩,hxx⟩ : ∃ x,l[k] = x:=⟨_,rfl⟩
 rw [hxx] at h3 h4 ⊢
 cases b with
 | true => exact sort_yes w0 hv P M1 b1 w1 h1 h2 n p h3 h4
 | false =>
  have e3 : xSo (n,false,p) = lit (1,n,⟨#[]⟩):=by simp [xSo]
  rw [e3]
  exact sort_no w0 hv P M1 b1 w1 h1 h2 n p h3 h4

theorem lsI {w0 : World} (hv : SV w0) {l : List Int} {a : Option Addr} {c : Nat} (h : ILR w0 l (.slice a l.length c)) (hl : l.length ≤ 16) (hr : ∀ x ∈ l,RtN x) (P M : Nat) (bs : List UInt8) (w : World) (hla : LA w0 w P M bs) (hbs : bs.length ≤ 10000000) (ah se : ByteArray) (ha : ah.size ≤ 64) (hse : se.size ≤ 64) : Calls Tryz.prog 42 #[.pointer (some ⟨P,0,none⟩),.string ah,.string se,.slice a l.length c,.func (.func 43) #[.pointer (some ⟨P,0,none⟩)] #[]] w (LP w0 (Ly 2000 (laid ah.data.toList se.data.toList (fun n => lit (1,n,⟨#[]⟩)) l) bs) P M w):=by
 obtain ⟨p,c',e,-,-,hrow⟩:=h
 injection e with e1 _ e2
 subst e1 e2
 refine (listI w0 P M bs w hla hbs ah se ha hse l a c hrow hl (fun n => lit (1,n,⟨#[]⟩)) 20 (by decide) fun k hk1 M1 b1 w1 h1 _ h2 => ?_).mono fun e w' q => q.mono fun b hb => hb.more (by omega)
 obtain ⟨h3,h4⟩:=hr _ (List.getElem_mem hk1)
 exact number_lay w0 hv P M1 b1 w1 h1 h2 _ h3 h4

def LsP (w0 : World) (f g : FuncId) (v : Value) (P d : Nat) (x : List UInt8 → List UInt8 → List UInt8) (B : Nat) : Prop:=∀ (M : Nat) (bs : List UInt8) (w : World),LA w0 w P M bs → bs.length ≤ B → ∀ (ah se : ByteArray),ah.size ≤ 64 → se.size ≤ 64 → Calls Tryz.prog f #[.pointer (some ⟨P,0,none⟩),.string ah,.string se,v,.func (.func g) #[.pointer (some ⟨P,0,none⟩)] #[]] w (LP w0 (Ly d (x ah.data.toList se.data.toList) bs) P M w)

theorem items_star (w0 : World) (P M : Nat) (bs : List UInt8) (w : World) (h : LA w0 w P M bs) (hbs : bs.length ≤ 1000) (tb jn : ByteArray) (lo lw li : List Ex) (ls : List Se) (lg : List Ex) (lq : List So) (ll : List Int) (pl ja : Int) (a0 a1 a2 a3 a4 a5 a6 : Option Addr) (c0 c1 c2 c3 c4 c5 c6 : Nat) (x2 : List UInt8 → List UInt8 → List UInt8) (h2 : LsP w0 35 36 (.slice a2 li.length c2) P 21040 x2 10000000) : Calls Tryz.prog 39 #[.pointer (some ⟨P,0,none⟩),.agg #[.int .i64 4,.string tb,.string jn,.slice a0 lo.length c0,.slice a1 lw.length c1,.slice a2 li.length c2,.bool true,.slice a3 ls.length c3,.slice a4 lg.length c4,.slice a5 lq.length c5,.slice a6 ll.length c6,.int .i64 pl,.int .i64 ja]] w (LP w0 (Ly 21050 (([83,69,76,69,67,84,32,42] : List UInt8) ++ x2 ([83,69,76,69,67,84,32] : List UInt8) ([44,32] : List UInt8)) bs) P M w):=by
 have HA:=Lib.hid (Al.start h)
 have HLy:=Lib.hid (Ly.nil bs 0)
 clear h
 have H2:=Lib.hid h2
 clear h2
 obtain ⟨W1,hW1,HA⟩:=HA.out.push #[.int .i64 4,.string tb,.string jn,.slice a0 lo.length c0,.slice a1 lw.length c1,.slice a2 li.length c2,.bool true,.slice a3 ls.length c3,.slice a4 lg.length c4,.slice a5 lq.length c5,.slice a6 ll.length c6,.int .i64 pl,.int .i64 ja] 27
 have z1:=thirt_of (HA.out.at 0 rfl)
 go_enter Tryz.func39,Tryz.ntmps39
 obtain ⟨W2,hW2,HA⟩:=HA.out.push #[.string ⟨#[83,69,76,69,67,84,32,42]⟩] 9
 go_wp2_with fail
 clear hW1 hW2
 have hz:=HLy.out.size
 have hc : (cat [⟨#[83,69,76,69,67,84,32,42]⟩]).length ≤ 8:=by simp [cat]
 refine (HA.out.lay [⟨#[83,69,76,69,67,84,32,42]⟩] (n:=1) rfl (by decide) (by omega)).mono ?_
 rintro e w3 ⟨rfl,M3,hA⟩
 replace HA:=Lib.hid hA
 replace HLy:=Lib.hid (HLy.out.layN (cat [⟨#[83,69,76,69,67,84,32,42]⟩]) hc)
 clear hA hz hc
 clear z1
 have z1:=thirt_of (HA.out.at 0 rfl)
 go_wp2_with fail
 have hz:=HLy.out.size
 refine (H2.out _ _ _ HA.out.la (by omega) ⟨#[83,69,76,69,67,84,32]⟩ ⟨#[44,32]⟩ (by decide) (by decide)).mono ?_
 rintro e w4 ⟨M4,b4,rfl,hla,hly,ho,hm⟩
 replace HA:=Lib.hid (HA.out.call ho hm hla)
 replace HLy:=Lib.hid (HLy.out.ly hly)
 clear hla hly ho hm hz z1
 have z1:=thirt_of (HA.out.at 0 rfl)
 clear z1
 go_wp2
 go_end0
 exact HA.out.lp (HLy.out.conv (by omega) (by simp [cat]))

theorem items_some (w0 : World) (P M : Nat) (bs : List UInt8) (w : World) (h : LA w0 w P M bs) (hbs : bs.length ≤ 1000) (tb jn : ByteArray) (lo lw li : List Ex) (ls : List Se) (lg : List Ex) (lq : List So) (ll : List Int) (pl ja : Int) (a0 a1 a2 a3 a4 a5 a6 : Option Addr) (c0 c1 c2 c3 c4 c5 c6 : Nat) (x2 : List UInt8 → List UInt8 → List UInt8) (h2 : LsP w0 35 36 (.slice a2 li.length c2) P 21040 x2 10000000) : Calls Tryz.prog 39 #[.pointer (some ⟨P,0,none⟩),.agg #[.int .i64 4,.string tb,.string jn,.slice a0 lo.length c0,.slice a1 lw.length c1,.slice a2 li.length c2,.bool false,.slice a3 ls.length c3,.slice a4 lg.length c4,.slice a5 lq.length c5,.slice a6 ll.length c6,.int .i64 pl,.int .i64 ja]] w (LP w0 (Ly 21050 (x2 ([83,69,76,69,67,84,32] : List UInt8) ([44,32] : List UInt8)) bs) P M w):=by
 have HA:=Lib.hid (Al.start h)
 have HLy:=Lib.hid (Ly.nil bs 0)
 clear h
 have H2:=Lib.hid h2
 clear h2
 obtain ⟨W1,hW1,HA⟩:=HA.out.push #[.int .i64 4,.string tb,.string jn,.slice a0 lo.length c0,.slice a1 lw.length c1,.slice a2 li.length c2,.bool false,.slice a3 ls.length c3,.slice a4 lg.length c4,.slice a5 lq.length c5,.slice a6 ll.length c6,.int .i64 pl,.int .i64 ja] 27
 have z1:=thirt_of (HA.out.at 0 rfl)
 go_enter Tryz.func39,Tryz.ntmps39
 go_wp2_with fail
 clear hW1
 have hz:=HLy.out.size
 refine (H2.out _ _ _ HA.out.la (by omega) ⟨#[83,69,76,69,67,84,32]⟩ ⟨#[44,32]⟩ (by decide) (by decide)).mono ?_
 rintro e w2 ⟨M2,b2,rfl,hla,hly,ho,hm⟩
 replace HA:=Lib.hid (HA.out.call ho hm hla)
 replace HLy:=Lib.hid (HLy.out.ly hly)
 clear hla hly ho hm hz z1
 have z1:=thirt_of (HA.out.at 0 rfl)
 clear z1
 go_wp2
 go_end0
 exact HA.out.lp (HLy.out.conv (by omega) (by simp))

theorem stmt_1 (w0 : World) (P M : Nat) (bs : List UInt8) (w : World) (h : LA w0 w P M bs) (hbs : bs.length ≤ 1000) (tb jn : ByteArray) (lo lw li : List Ex) (st : Bool) (ls : List Se) (lg : List Ex) (lq : List So) (ll : List Int) (pl ja : Int) (a0 a1 a2 a3 a4 a5 a6 : Option Addr) (c0 c1 c2 c3 c4 c5 c6 : Nat) (htb : tb.size ≤ 16) (x2 : List UInt8 → List UInt8 → List UInt8) (x1 : List UInt8 → List UInt8 → List UInt8) (x4 : List UInt8 → List UInt8 → List UInt8) (x5 : List UInt8 → List UInt8 → List UInt8) (x6 : List UInt8 → List UInt8 → List UInt8) (h2 : LsP w0 35 36 (.slice a2 li.length c2) P 21040 x2 10000000) (h1 : LsP w0 35 36 (.slice a1 lw.length c1) P 21040 x1 10000000) (h4 : LsP w0 35 36 (.slice a4 lg.length c4) P 21040 x4 10000000) (h5 : LsP w0 40 41 (.slice a5 lq.length c5) P 2000 x5 10000000) (h6 : LsP w0 42 43 (.slice a6 ll.length c6) P 2000 x6 10000000) : Calls Tryz.prog 14 #[.pointer (some ⟨P,0,none⟩),.agg #[.int .i64 1,.string tb,.string jn,.slice a0 lo.length c0,.slice a1 lw.length c1,.slice a2 li.length c2,.bool st,.slice a3 ls.length c3,.slice a4 lg.length c4,.slice a5 lq.length c5,.slice a6 ll.length c6,.int .i64 pl,.int .i64 ja]] w (LP w0 (Ly 500000 (([73,78,83,69,82,84,32,73,78,84,79,32] : List UInt8) ++ tb.data.toList ++ x2 ([32,86,65,76,85,69,83,32,40] : List UInt8) ([44,32] : List UInt8) ++ [41] ++ x1 ([32,87,72,69,82,69,32] : List UInt8) [] ++ (x4 ([32,71,82,79,85,80,32,66,89,32] : List UInt8) ([44,32] : List UInt8) ++ (x5 ([32,79,82,68,69,82,32,66,89,32] : List UInt8) ([44,32] : List UInt8) ++ x6 ([32,76,73,77,73,84,32] : List UInt8) []))) bs) P M w):=by
 have HA:=Lib.hid (Al.start h)
 have HLy:=Lib.hid (Ly.nil bs 0)
 clear h
 have H2:=Lib.hid h2
 have H1:=Lib.hid h1
 have H4:=Lib.hid h4
 have H5:=Lib.hid h5
 have H6:=Lib.hid h6
 clear h2 h1 h4 h5 h6
 obtain ⟨W1,hW1,HA⟩:=HA.out.push #[.int .i64 1,.string tb,.string jn,.slice a0 lo.length c0,.slice a1 lw.length c1,.slice a2 li.length c2,.bool st,.slice a3 ls.length c3,.slice a4 lg.length c4,.slice a5 lq.length c5,.slice a6 ll.length c6,.int .i64 pl,.int .i64 ja] 27
 have z1:=thirt_of (HA.out.at 0 rfl)
 go_enter Tryz.func14,Tryz.ntmps14
 obtain ⟨W2,hW2,HA⟩:=HA.out.push #[.string ⟨#[73,78,83,69,82,84,32,73,78,84,79,32]⟩,.string tb] 9
 go_wp2_with fail
 clear hW1 hW2
 have hz:=HLy.out.size
 have hc : (cat [⟨#[73,78,83,69,82,84,32,73,78,84,79,32]⟩,tb]).length ≤ 28:=by simp [cat]; omega
 refine (HA.out.lay [⟨#[73,78,83,69,82,84,32,73,78,84,79,32]⟩,tb] (n:=2) rfl (by decide) (by omega)).mono ?_
 rintro e w3 ⟨rfl,M3,hA⟩
 replace HA:=Lib.hid hA
 replace HLy:=Lib.hid (HLy.out.layN (cat [⟨#[73,78,83,69,82,84,32,73,78,84,79,32]⟩,tb]) hc)
 clear hA hz hc
 clear z1
 have z1:=thirt_of (HA.out.at 0 rfl)
 go_wp2_with fail
 have hz:=HLy.out.size
 refine (H2.out _ _ _ HA.out.la (by omega) ⟨#[32,86,65,76,85,69,83,32,40]⟩ ⟨#[44,32]⟩ (by decide) (by decide)).mono ?_
 rintro e w4 ⟨M4,b4,rfl,hla,hly,ho,hm⟩
 replace HA:=Lib.hid (HA.out.call ho hm hla)
 replace HLy:=Lib.hid (HLy.out.ly hly)
 clear hla hly ho hm hz z1
 have z1:=thirt_of (HA.out.at 0 rfl)
 obtain ⟨W5,hW5,HA⟩:=HA.out.push #[.string ⟨#[41]⟩] 9
 go_wp2_with fail
 clear hW5
 have hz:=HLy.out.size
 have hc : (cat [⟨#[41]⟩]).length ≤ 1:=by simp [cat]
 refine (HA.out.lay [⟨#[41]⟩] (n:=1) rfl (by decide) (by omega)).mono ?_
 rintro e w6 ⟨rfl,M6,hA⟩
 replace HA:=Lib.hid hA
 replace HLy:=Lib.hid (HLy.out.layN (cat [⟨#[41]⟩]) hc)
 clear hA hz hc
 clear z1
 have z1:=thirt_of (HA.out.at 0 rfl)
 go_wp2_with fail
 have hz:=HLy.out.size
 refine (H1.out _ _ _ HA.out.la (by omega) ⟨#[32,87,72,69,82,69,32]⟩ ⟨#[]⟩ (by decide) (by decide)).mono ?_
 rintro e w7 ⟨M7,b7,rfl,hla,hly,ho,hm⟩
 replace HA:=Lib.hid (HA.out.call ho hm hla)
 replace HLy:=Lib.hid (HLy.out.ly hly)
 clear hla hly ho hm hz z1
 have z1:=thirt_of (HA.out.at 0 rfl)
 go_wp2_with fail
 have hz:=HLy.out.size
 refine (H4.out _ _ _ HA.out.la (by omega) ⟨#[32,71,82,79,85,80,32,66,89,32]⟩ ⟨#[44,32]⟩ (by decide) (by decide)).mono ?_
 rintro e w8 ⟨M8,b8,rfl,hla,hly,ho,hm⟩
 replace HA:=Lib.hid (HA.out.call ho hm hla)
 replace HLy:=Lib.hid (HLy.out.ly hly)
 clear hla hly ho hm hz z1
 have z1:=thirt_of (HA.out.at 0 rfl)
 go_wp2_with fail
 have hz:=HLy.out.size
 refine (H5.out _ _ _ HA.out.la (by omega) ⟨#[32,79,82,68,69,82,32,66,89,32]⟩ ⟨#[44,32]⟩ (by decide) (by decide)).mono ?_
 rintro e w9 ⟨M9,b9,rfl,hla,hly,ho,hm⟩
 replace HA:=Lib.hid (HA.out.call ho hm hla)
 replace HLy:=Lib.hid (HLy.out.ly hly)
 clear hla hly ho hm hz z1
 have z1:=thirt_of (HA.out.at 0 rfl)
 go_wp2_with fail
 have hz:=HLy.out.size
 refine (H6.out _ _ _ HA.out.la (by omega) ⟨#[32,76,73,77,73,84,32]⟩ ⟨#[]⟩ (by decide) (by decide)).mono ?_
 rintro e w10 ⟨M10,b10,rfl,hla,hly,ho,hm⟩
 replace HA:=Lib.hid (HA.out.call ho hm hla)
 replace HLy:=Lib.hid (HLy.out.ly hly)
 clear hla hly ho hm hz z1
 have z1:=thirt_of (HA.out.at 0 rfl)
 clear z1
 go_wp2
 go_end0
 exact HA.out.lp (HLy.out.conv (by omega) (by simp [cat]))

theorem stmt_2 (w0 : World) (P M : Nat) (bs : List UInt8) (w : World) (h : LA w0 w P M bs) (hbs : bs.length ≤ 1000) (tb jn : ByteArray) (lo lw li : List Ex) (st : Bool) (ls : List Se) (lg : List Ex) (lq : List So) (ll : List Int) (pl ja : Int) (a0 a1 a2 a3 a4 a5 a6 : Option Addr) (c0 c1 c2 c3 c4 c5 c6 : Nat) (htb : tb.size ≤ 16) (x3 : List UInt8 → List UInt8 → List UInt8) (x1 : List UInt8 → List UInt8 → List UInt8) (x4 : List UInt8 → List UInt8 → List UInt8) (x5 : List UInt8 → List UInt8 → List UInt8) (x6 : List UInt8 → List UInt8 → List UInt8) (h3 : LsP w0 37 38 (.slice a3 ls.length c3) P 340000 x3 100000) (h1 : LsP w0 35 36 (.slice a1 lw.length c1) P 21040 x1 10000000) (h4 : LsP w0 35 36 (.slice a4 lg.length c4) P 21040 x4 10000000) (h5 : LsP w0 40 41 (.slice a5 lq.length c5) P 2000 x5 10000000) (h6 : LsP w0 42 43 (.slice a6 ll.length c6) P 2000 x6 10000000) : Calls Tryz.prog 14 #[.pointer (some ⟨P,0,none⟩),.agg #[.int .i64 2,.string tb,.string jn,.slice a0 lo.length c0,.slice a1 lw.length c1,.slice a2 li.length c2,.bool st,.slice a3 ls.length c3,.slice a4 lg.length c4,.slice a5 lq.length c5,.slice a6 ll.length c6,.int .i64 pl,.int .i64 ja]] w (LP w0 (Ly 500000 (([85,80,68,65,84,69,32] : List UInt8) ++ tb.data.toList ++ x3 ([32,83,69,84,32] : List UInt8) ([44,32] : List UInt8) ++ x1 ([32,87,72,69,82,69,32] : List UInt8) [] ++ (x4 ([32,71,82,79,85,80,32,66,89,32] : List UInt8) ([44,32] : List UInt8) ++ (x5 ([32,79,82,68,69,82,32,66,89,32] : List UInt8) ([44,32] : List UInt8) ++ x6 ([32,76,73,77,73,84,32] : List UInt8) []))) bs) P M w):=by
 have HA:=Lib.hid (Al.start h)
 have HLy:=Lib.hid (Ly.nil bs 0)
 clear h
 have H3:=Lib.hid h3
 have H1:=Lib.hid h1
 have H4:=Lib.hid h4
 have H5:=Lib.hid h5
 have H6:=Lib.hid h6
 clear h3 h1 h4 h5 h6
 obtain ⟨W1,hW1,HA⟩:=HA.out.push #[.int .i64 2,.string tb,.string jn,.slice a0 lo.length c0,.slice a1 lw.length c1,.slice a2 li.length c2,.bool st,.slice a3 ls.length c3,.slice a4 lg.length c4,.slice a5 lq.length c5,.slice a6 ll.length c6,.int .i64 pl,.int .i64 ja] 27
 have z1:=thirt_of (HA.out.at 0 rfl)
 go_enter Tryz.func14,Tryz.ntmps14
 obtain ⟨W2,hW2,HA⟩:=HA.out.push #[.string ⟨#[85,80,68,65,84,69,32]⟩,.string tb] 9
 go_wp2_with fail
 clear hW1 hW2
 have hz:=HLy.out.size
 have hc : (cat [⟨#[85,80,68,65,84,69,32]⟩,tb]).length ≤ 23:=by simp [cat]; omega
 refine (HA.out.lay [⟨#[85,80,68,65,84,69,32]⟩,tb] (n:=2) rfl (by decide) (by omega)).mono ?_
 rintro e w3 ⟨rfl,M3,hA⟩
 replace HA:=Lib.hid hA
 replace HLy:=Lib.hid (HLy.out.layN (cat [⟨#[85,80,68,65,84,69,32]⟩,tb]) hc)
 clear hA hz hc
 clear z1
 have z1:=thirt_of (HA.out.at 0 rfl)
 go_wp2_with fail
 have hz:=HLy.out.size
 refine (H3.out _ _ _ HA.out.la (by omega) ⟨#[32,83,69,84,32]⟩ ⟨#[44,32]⟩ (by decide) (by decide)).mono ?_
 rintro e w4 ⟨M4,b4,rfl,hla,hly,ho,hm⟩
 replace HA:=Lib.hid (HA.out.call ho hm hla)
 replace HLy:=Lib.hid (HLy.out.ly hly)
 clear hla hly ho hm hz z1
 have z1:=thirt_of (HA.out.at 0 rfl)
 go_wp2_with fail
 have hz:=HLy.out.size
 refine (H1.out _ _ _ HA.out.la (by omega) ⟨#[32,87,72,69,82,69,32]⟩ ⟨#[]⟩ (by decide) (by decide)).mono ?_
 rintro e w5 ⟨M5,b5,rfl,hla,hly,ho,hm⟩
 replace HA:=Lib.hid (HA.out.call ho hm hla)
 replace HLy:=Lib.hid (HLy.out.ly hly)
 clear hla hly ho hm hz z1
 have z1:=thirt_of (HA.out.at 0 rfl)
 go_wp2_with fail
 have hz:=HLy.out.size
 refine (H4.out _ _ _ HA.out.la (by omega) ⟨#[32,71,82,79,85,80,32,66,89,32]⟩ ⟨#[44,32]⟩ (by decide) (by decide)).mono ?_
 rintro e w6 ⟨M6,b6,rfl,hla,hly,ho,hm⟩
 replace HA:=Lib.hid (HA.out.call ho hm hla)
 replace HLy:=Lib.hid (HLy.out.ly hly)
 clear hla hly ho hm hz z1
 have z1:=thirt_of (HA.out.at 0 rfl)
 go_wp2_with fail
 have hz:=HLy.out.size
 refine (H5.out _ _ _ HA.out.la (by omega) ⟨#[32,79,82,68,69,82,32,66,89,32]⟩ ⟨#[44,32]⟩ (by decide) (by decide)).mono ?_
 rintro e w7 ⟨M7,b7,rfl,hla,hly,ho,hm⟩
 replace HA:=Lib.hid (HA.out.call ho hm hla)
 replace HLy:=Lib.hid (HLy.out.ly hly)
 clear hla hly ho hm hz z1
 have z1:=thirt_of (HA.out.at 0 rfl)
 go_wp2_with fail
 have hz:=HLy.out.size
 refine (H6.out _ _ _ HA.out.la (by omega) ⟨#[32,76,73,77,73,84,32]⟩ ⟨#[]⟩ (by decide) (by decide)).mono ?_
 rintro e w8 ⟨M8,b8,rfl,hla,hly,ho,hm⟩
 replace HA:=Lib.hid (HA.out.call ho hm hla)
 replace HLy:=Lib.hid (HLy.out.ly hly)
 clear hla hly ho hm hz z1
 have z1:=thirt_of (HA.out.at 0 rfl)
 clear z1
 go_wp2
 go_end0
 exact HA.out.lp (HLy.out.conv (by omega) (by simp [cat]))

theorem stmt_3 (w0 : World) (P M : Nat) (bs : List UInt8) (w : World) (h : LA w0 w P M bs) (hbs : bs.length ≤ 1000) (tb jn : ByteArray) (lo lw li : List Ex) (st : Bool) (ls : List Se) (lg : List Ex) (lq : List So) (ll : List Int) (pl ja : Int) (a0 a1 a2 a3 a4 a5 a6 : Option Addr) (c0 c1 c2 c3 c4 c5 c6 : Nat) (htb : tb.size ≤ 16) (x1 : List UInt8 → List UInt8 → List UInt8) (x4 : List UInt8 → List UInt8 → List UInt8) (x5 : List UInt8 → List UInt8 → List UInt8) (x6 : List UInt8 → List UInt8 → List UInt8) (h1 : LsP w0 35 36 (.slice a1 lw.length c1) P 21040 x1 10000000) (h4 : LsP w0 35 36 (.slice a4 lg.length c4) P 21040 x4 10000000) (h5 : LsP w0 40 41 (.slice a5 lq.length c5) P 2000 x5 10000000) (h6 : LsP w0 42 43 (.slice a6 ll.length c6) P 2000 x6 10000000) : Calls Tryz.prog 14 #[.pointer (some ⟨P,0,none⟩),.agg #[.int .i64 3,.string tb,.string jn,.slice a0 lo.length c0,.slice a1 lw.length c1,.slice a2 li.length c2,.bool st,.slice a3 ls.length c3,.slice a4 lg.length c4,.slice a5 lq.length c5,.slice a6 ll.length c6,.int .i64 pl,.int .i64 ja]] w (LP w0 (Ly 500000 (([68,69,76,69,84,69,32,70,82,79,77,32] : List UInt8) ++ tb.data.toList ++ x1 ([32,87,72,69,82,69,32] : List UInt8) [] ++ (x4 ([32,71,82,79,85,80,32,66,89,32] : List UInt8) ([44,32] : List UInt8) ++ (x5 ([32,79,82,68,69,82,32,66,89,32] : List UInt8) ([44,32] : List UInt8) ++ x6 ([32,76,73,77,73,84,32] : List UInt8) []))) bs) P M w):=by
 have HA:=Lib.hid (Al.start h)
 have HLy:=Lib.hid (Ly.nil bs 0)
 clear h
 have H1:=Lib.hid h1
 have H4:=Lib.hid h4
 have H5:=Lib.hid h5
 have H6:=Lib.hid h6
 clear h1 h4 h5 h6
 obtain ⟨W1,hW1,HA⟩:=HA.out.push #[.int .i64 3,.string tb,.string jn,.slice a0 lo.length c0,.slice a1 lw.length c1,.slice a2 li.length c2,.bool st,.slice a3 ls.length c3,.slice a4 lg.length c4,.slice a5 lq.length c5,.slice a6 ll.length c6,.int .i64 pl,.int .i64 ja] 27
 have z1:=thirt_of (HA.out.at 0 rfl)
 go_enter Tryz.func14,Tryz.ntmps14
 obtain ⟨W2,hW2,HA⟩:=HA.out.push #[.string ⟨#[68,69,76,69,84,69,32,70,82,79,77,32]⟩,.string tb] 9
 go_wp2_with fail
 clear hW1 hW2
 have hz:=HLy.out.size
 have hc : (cat [⟨#[68,69,76,69,84,69,32,70,82,79,77,32]⟩,tb]).length ≤ 28:=by simp [cat]; omega
 refine (HA.out.lay [⟨#[68,69,76,69,84,69,32,70,82,79,77,32]⟩,tb] (n:=2) rfl (by decide) (by omega)).mono ?_
 rintro e w3 ⟨rfl,M3,hA⟩
 replace HA:=Lib.hid hA
 replace HLy:=Lib.hid (HLy.out.layN (cat [⟨#[68,69,76,69,84,69,32,70,82,79,77,32]⟩,tb]) hc)
 clear hA hz hc
 clear z1
 have z1:=thirt_of (HA.out.at 0 rfl)
 go_wp2_with fail
 have hz:=HLy.out.size
 refine (H1.out _ _ _ HA.out.la (by omega) ⟨#[32,87,72,69,82,69,32]⟩ ⟨#[]⟩ (by decide) (by decide)).mono ?_
 rintro e w4 ⟨M4,b4,rfl,hla,hly,ho,hm⟩
 replace HA:=Lib.hid (HA.out.call ho hm hla)
 replace HLy:=Lib.hid (HLy.out.ly hly)
 clear hla hly ho hm hz z1
 have z1:=thirt_of (HA.out.at 0 rfl)
 go_wp2_with fail
 have hz:=HLy.out.size
 refine (H4.out _ _ _ HA.out.la (by omega) ⟨#[32,71,82,79,85,80,32,66,89,32]⟩ ⟨#[44,32]⟩ (by decide) (by decide)).mono ?_
 rintro e w5 ⟨M5,b5,rfl,hla,hly,ho,hm⟩
 replace HA:=Lib.hid (HA.out.call ho hm hla)
 replace HLy:=Lib.hid (HLy.out.ly hly)
 clear hla hly ho hm hz z1
 have z1:=thirt_of (HA.out.at 0 rfl)
 go_wp2_with fail
 have hz:=HLy.out.size
 refine (H5.out _ _ _ HA.out.la (by omega) ⟨#[32,79,82,68,69,82,32,66,89,32]⟩ ⟨#[44,32]⟩ (by decide) (by decide)).mono ?_
 rintro e w6 ⟨M6,b6,rfl,hla,hly,ho,hm⟩
 replace HA:=Lib.hid (HA.out.call ho hm hla)
 replace HLy:=Lib.hid (HLy.out.ly hly)
 clear hla hly ho hm hz z1
 have z1:=thirt_of (HA.out.at 0 rfl)
 go_wp2_with fail
 have hz:=HLy.out.size
 refine (H6.out _ _ _ HA.out.la (by omega) ⟨#[32,76,73,77,73,84,32]⟩ ⟨#[]⟩ (by decide) (by decide)).mono ?_
 rintro e w7 ⟨M7,b7,rfl,hla,hly,ho,hm⟩
 replace HA:=Lib.hid (HA.out.call ho hm hla)
 replace HLy:=Lib.hid (HLy.out.ly hly)
 clear hla hly ho hm hz z1
 have z1:=thirt_of (HA.out.at 0 rfl)
 clear z1
 go_wp2
 go_end0
 exact HA.out.lp (HLy.out.conv (by omega) (by simp [cat]))

theorem stmt_4 (w0 : World) (P M : Nat) (bs : List UInt8) (w : World) (h : LA w0 w P M bs) (hbs : bs.length ≤ 1000) (tb jn : ByteArray) (lo lw li : List Ex) (st : Bool) (ls : List Se) (lg : List Ex) (lq : List So) (ll : List Int) (pl ja : Int) (a0 a1 a2 a3 a4 a5 a6 : Option Addr) (c0 c1 c2 c3 c4 c5 c6 : Nat) (htb : tb.size ≤ 16) (hjn : jn.size ≤ 16) (x0 : List UInt8 → List UInt8 → List UInt8) (x1 : List UInt8 → List UInt8 → List UInt8) (x4 : List UInt8 → List UInt8 → List UInt8) (x5 : List UInt8 → List UInt8 → List UInt8) (x6 : List UInt8 → List UInt8 → List UInt8) (h0 : LsP w0 35 36 (.slice a0 lo.length c0) P 21040 x0 10000000) (h1 : LsP w0 35 36 (.slice a1 lw.length c1) P 21040 x1 10000000) (h4 : LsP w0 35 36 (.slice a4 lg.length c4) P 21040 x4 10000000) (h5 : LsP w0 40 41 (.slice a5 lq.length c5) P 2000 x5 10000000) (h6 : LsP w0 42 43 (.slice a6 ll.length c6) P 2000 x6 10000000) (y : List UInt8) (hit : ∀ M1 b1 W,LA w0 W P M1 b1 → b1.length ≤ 1000 → Calls Tryz.prog 39 #[.pointer (some ⟨P,0,none⟩),.agg #[.int .i64 4,.string tb,.string jn,.slice a0 lo.length c0,.slice a1 lw.length c1,.slice a2 li.length c2,.bool st,.slice a3 ls.length c3,.slice a4 lg.length c4,.slice a5 lq.length c5,.slice a6 ll.length c6,.int .i64 pl,.int .i64 ja]] W (LP w0 (Ly 21050 y b1) P M1 W)) : Calls Tryz.prog 14 #[.pointer (some ⟨P,0,none⟩),.agg #[.int .i64 4,.string tb,.string jn,.slice a0 lo.length c0,.slice a1 lw.length c1,.slice a2 li.length c2,.bool st,.slice a3 ls.length c3,.slice a4 lg.length c4,.slice a5 lq.length c5,.slice a6 ll.length c6,.int .i64 pl,.int .i64 ja]] w (LP w0 (Ly 500000 (y ++ ([32,70,82,79,77,32] : List UInt8) ++ tb.data.toList ++ x0 (([32,74,79,73,78,32] : List UInt8) ++ jn.data.toList ++ ([32,79,78,32] : List UInt8)) [] ++ x1 ([32,87,72,69,82,69,32] : List UInt8) [] ++ (x4 ([32,71,82,79,85,80,32,66,89,32] : List UInt8) ([44,32] : List UInt8) ++ (x5 ([32,79,82,68,69,82,32,66,89,32] : List UInt8) ([44,32] : List UInt8) ++ x6 ([32,76,73,77,73,84,32] : List UInt8) []))) bs) P M w):=by
 have HA:=Lib.hid (Al.start h)
 have HLy:=Lib.hid (Ly.nil bs 0)
 clear h
 have H0:=Lib.hid h0
 have H1:=Lib.hid h1
 have H4:=Lib.hid h4
 have H5:=Lib.hid h5
 have H6:=Lib.hid h6
 have HIT:=Lib.hid (fun W hW => hit M bs W hW hbs)
 clear hit h0 h1 h4 h5 h6
 obtain ⟨W1,hW1,HA⟩:=HA.out.push #[.int .i64 4,.string tb,.string jn,.slice a0 lo.length c0,.slice a1 lw.length c1,.slice a2 li.length c2,.bool st,.slice a3 ls.length c3,.slice a4 lg.length c4,.slice a5 lq.length c5,.slice a6 ll.length c6,.int .i64 pl,.int .i64 ja] 27
 have z1:=thirt_of (HA.out.at 0 rfl)
 go_enter Tryz.func14,Tryz.ntmps14
 go_wp2_with fail
 clear hW1
 refine (HIT.out _ HA.out.la).mono ?_
 rintro e w2 ⟨M2,b2,rfl,hla,hly,ho,hm⟩
 replace HA:=Lib.hid (HA.out.call ho hm hla)
 replace HLy:=Lib.hid (HLy.out.ly hly)
 clear hla hly ho hm z1
 have z1:=thirt_of (HA.out.at 0 rfl)
 obtain ⟨W3,hW3,HA⟩:=HA.out.push #[.string ⟨#[32,70,82,79,77,32]⟩,.string tb] 9
 go_wp2_with fail
 clear hW3
 have hz:=HLy.out.size
 have hc : (cat [⟨#[32,70,82,79,77,32]⟩,tb]).length ≤ 22:=by simp [cat]; omega
 refine (HA.out.lay [⟨#[32,70,82,79,77,32]⟩,tb] (n:=2) rfl (by decide) (by omega)).mono ?_
 rintro e w4 ⟨rfl,M4,hA⟩
 replace HA:=Lib.hid hA
 replace HLy:=Lib.hid (HLy.out.layN (cat [⟨#[32,70,82,79,77,32]⟩,tb]) hc)
 clear hA hz hc
 clear z1
 have z1:=thirt_of (HA.out.at 0 rfl)
 obtain ⟨jj,hjj⟩ : ∃ jj,(⟨#[32,74,79,73,78,32]⟩ : ByteArray) ++ jn ++ ⟨#[32,79,78,32]⟩ = jj:=⟨_,rfl⟩
 have hjl : jj.data.toList = [32,74,79,73,78,32] ++ jn.data.toList ++ [32,79,78,32]:=by rw [← hjj]; simp
 have hjs : jj.size ≤ 64:=by
  have e1 : jj.data.toList.length = jj.size:=by simp
  have e2 : jn.data.toList.length = jn.size:=by simp
  rw [hjl] at e1
  simp only [List.length_append,List.length_cons,List.length_nil] at e1
  omega
 have HJL:=Lib.hid hjl
 clear hjl
 go_wp2_with fail
 have hz:=HLy.out.size
 refine (H0.out _ _ _ HA.out.la (by omega) jj ⟨#[]⟩ hjs (by decide)).mono ?_
 rintro e w5 ⟨M5,b5,rfl,hla,hly,ho,hm⟩
 replace HA:=Lib.hid (HA.out.call ho hm hla)
 replace HLy:=Lib.hid (HLy.out.ly hly)
 clear hla hly ho hm hz z1
 have z1:=thirt_of (HA.out.at 0 rfl)
 go_wp2_with fail
 have hz:=HLy.out.size
 refine (H1.out _ _ _ HA.out.la (by omega) ⟨#[32,87,72,69,82,69,32]⟩ ⟨#[]⟩ (by decide) (by decide)).mono ?_
 rintro e w6 ⟨M6,b6,rfl,hla,hly,ho,hm⟩
 replace HA:=Lib.hid (HA.out.call ho hm hla)
 replace HLy:=Lib.hid (HLy.out.ly hly)
 clear hla hly ho hm hz z1
 have z1:=thirt_of (HA.out.at 0 rfl)
 go_wp2_with fail
 have hz:=HLy.out.size
 refine (H4.out _ _ _ HA.out.la (by omega) ⟨#[32,71,82,79,85,80,32,66,89,32]⟩ ⟨#[44,32]⟩ (by decide) (by decide)).mono ?_
 rintro e w7 ⟨M7,b7,rfl,hla,hly,ho,hm⟩
 replace HA:=Lib.hid (HA.out.call ho hm hla)
 replace HLy:=Lib.hid (HLy.out.ly hly)
 clear hla hly ho hm hz z1
 have z1:=thirt_of (HA.out.at 0 rfl)
 go_wp2_with fail
 have hz:=HLy.out.size
 refine (H5.out _ _ _ HA.out.la (by omega) ⟨#[32,79,82,68,69,82,32,66,89,32]⟩ ⟨#[44,32]⟩ (by decide) (by decide)).mono ?_
 rintro e w8 ⟨M8,b8,rfl,hla,hly,ho,hm⟩
 replace HA:=Lib.hid (HA.out.call ho hm hla)
 replace HLy:=Lib.hid (HLy.out.ly hly)
 clear hla hly ho hm hz z1
 have z1:=thirt_of (HA.out.at 0 rfl)
 go_wp2_with fail
 have hz:=HLy.out.size
 refine (H6.out _ _ _ HA.out.la (by omega) ⟨#[32,76,73,77,73,84,32]⟩ ⟨#[]⟩ (by decide) (by decide)).mono ?_
 rintro e w9 ⟨M9,b9,rfl,hla,hly,ho,hm⟩
 replace HA:=Lib.hid (HA.out.call ho hm hla)
 replace HLy:=Lib.hid (HLy.out.ly hly)
 clear hla hly ho hm hz z1
 have z1:=thirt_of (HA.out.at 0 rfl)
 clear z1
 go_wp2
 go_end0
 exact HA.out.lp (HLy.out.conv (by omega) (by have hj:=HJL.out; simp [cat,hj]))
end Go.Proofs.YtbfjmccpcbhljaaGreatDoor
