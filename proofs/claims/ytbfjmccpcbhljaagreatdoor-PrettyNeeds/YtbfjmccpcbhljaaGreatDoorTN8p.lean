/- N8p N8q N10 -/
import Derived.Deep.RegionHeld3
import Derived.Deep.RegionLaw
import Derived.Deep.RegionWith
import Derived.Test.YtbfjmccpcbhljaaGreatDoorTN8
set_option maxHeartbeats 16000000
set_option maxRecDepth 100000
namespace Go.Proofs.YtbfjmccpcbhljaaGreatDoor
open Go.RowKit
theorem bare_5 {n : Nat} (hX : XC n) (hn : n ≤ 50) (w0 : World) (hv : SV w0) (P M : Nat) (bs : List UInt8) (w : World) (h : LA w0 w P M bs) (hbs : bs.length ≤ 100000) (oo v1 v2 : Int) (v3 tt nn : ByteArray) (es : List Ex) (pp : Int) (k : Value) (hxr : XR w0 (.mk 5 oo (v1,v2,v3) tt nn es pp) k) (ho : 1 ≤ oo) (hl2 : es.length = 2) (hd : ∀ i (h : i < es.length),dpr n es[i] = false ∧ RtE es[i]) (r : Nat) (hr : (if oo ≤ 2 then 5 else 6) = r) (hr6 : r ≤ 6) : Calls Tryz.prog 108 #[.pointer (some ⟨P,0,none⟩),.agg (exC (.mk 5 oo (v1,v2,v3) tt nn es pp) k).toArray] w (LP w0 (Ly (1200 * n + 10) (xE r es[0] ++ (32 : UInt8) :: (ariS oo ++ (32 : UInt8) :: xE (r + 1) es[1])) bs) P M w):=by
 have HA:=Lib.hid (Al.start h)
 obtain ⟨a,m,c,rfl⟩:=hxr.slice
 obtain ⟨s,hs⟩ : ∃ s,ofL (ariS oo) = s:=⟨_,rfl⟩
 have hss : s.size ≤ 2:=by rw [← hs]; unfold ariS; split <;> (try split) <;> (try split) <;> (try split) <;> decide
 have HSG : Hid (∀ W,Calls Tryz.prog 138 #[.int .i64 oo] W fun e w' => e = .returned (.string s) ∧ w' = W):=fun W => by have:=arithSign_any oo W; rw [hs] at this; exact this
 have HRK : Hid (∀ W,Calls Tryz.prog 107 #[.agg #[.int .i64 5,.int .i64 oo,.int .i64 v1,.int .i64 v2,.string v3,.string tt,.string nn,.slice a m c,.int .i64 pp]] W fun e w' => e = .returned (.int .i64 (r : Int)) ∧ Below W.heap.size W w'):=fun W => by
  have:=prank_any 5 oo v1 v2 v3 tt nn es pp a m c (fun _ => ho) W
  rw [show rankX (.mk 5 oo (v1,v2,v3) tt nn es pp) = r from hr] at this
  exact this
 have hsl : ariS oo = s.data.toList:=by rw [← hs,list_ofL]
 rw [hsl]
 have HPR : Hid (∀ W,LA w0 W P M bs → Calls Tryz.prog 137 #[.pointer (some ⟨P,0,none⟩),.agg #[.int .i64 5,.int .i64 oo,.int .i64 v1,.int .i64 v2,.string v3,.string tt,.string nn,.slice a m c,.int .i64 pp],.string s,.int .i64 (r : Int),.int .i64 ((r : Int) + 1)] W (LP w0 (Ly (1200 * n + 10) (xE r es[0] ++ (32 : UInt8) :: (s.data.toList ++ (32 : UInt8) :: xE (r + 1) es[1])) bs) P M W)):=fun W hW => by
  have:=ppair_any hX hn w0 hv P M bs W hW hbs 5 oo v1 v2 v3 tt nn es pp _ hxr hl2 hd s hss r (r + 1) (by omega) (by omega)
  exact this
 have HWR : Hid (IntKind.i64.wrap ((r : Int) + 1) = (r : Int) + 1):=by
  show _ = _
  have h56 : r = 5 ∨ r = 6:=by rw [← hr]; split <;> simp
  rcases h56 with rfl | rfl <;> rfl
 obtain ⟨X,hXX⟩ : ∃ X,xE r es[0] ++ (32 : UInt8) :: (s.data.toList ++ (32 : UInt8) :: xE (r + 1) es[1]) = X:=⟨_,rfl⟩
 rw [hXX] at HPR ⊢
 simp only [exC]
 clear h hxr hd hX hs hr hsl hXX
 obtain ⟨W1,hW1,HA⟩:=HA.out.push #[.int .i64 5,.int .i64 oo,.int .i64 v1,.int .i64 v2,.string v3,.string tt,.string nn,.slice a m c,.int .i64 pp] 49
 have HBX : Hid (∀ W,Below W1.heap.size W1 W → W.heap[w.heap.size]? = some (.cells #[.int .i64 5,.int .i64 oo,.int .i64 v1,.int .i64 v2,.string v3,.string tt,.string nn,.slice a m c,.int .i64 pp] 49 (0,0))):=fun W hW => (hW.block _ (HA.out.off 0 rfl).2.2.1).trans (HA.out.at 0 rfl)
 obtain ⟨⟨y0,y1,y2,y3,y4,y5,y6,y7,y8⟩,-⟩:=nine_of (HA.out.at 0 rfl)
 go_enter Tryz.func108,Tryz.ntmps108
 go_wp2_with fail
 clear hW1
 obtain ⟨ob1,ob2,ob3,-⟩:=HA.out.off 0 rfl
 have HOB1:=Lib.hid ob1
 have HOB2:=Lib.hid ob2
 have HOB3:=Lib.hid ob3
 have HB0 : Hid (Below W1.heap.size W1 W1.drew):=Lib.hid (Below.refl _ _).drew
 clear ob1 ob2 ob3
 go_region_held3 (fun w' => w'.cell? ⟨w.heap.size,0,none⟩ = some (.int .i64 5) ∧ w'.cell? ⟨w.heap.size,1,none⟩ = some (.int .i64 oo) ∧ w'.cell? ⟨w.heap.size,2,none⟩ = some (.int .i64 v1) ∧ w'.cell? ⟨w.heap.size,3,none⟩ = some (.int .i64 v2) ∧ w'.cell? ⟨w.heap.size,4,none⟩ = some (.string v3) ∧ w'.cell? ⟨w.heap.size,5,none⟩ = some (.string tt) ∧ w'.cell? ⟨w.heap.size,6,none⟩ = some (.string nn) ∧ w'.cell? ⟨w.heap.size,7,none⟩ = some (.slice a m c) ∧ w'.cell? ⟨w.heap.size,8,none⟩ = some (.int .i64 pp)) (go_simp) (first
  | (go_at_call 138; refine (HSG.out _).mono ?_; rintro e w1 ⟨rfl,rfl⟩)
  | (go_at_call 107; refine (HRK.out _).mono ?_; rintro e w2 ⟨rfl,hb⟩; (have HB2:=Lib.hid (show Below W1.heap.size W1 w2 from by first | exact HB1.out.trans (hb.mono HB1.out.size) | exact HB0.out.trans (hb.mono HB0.out.size))); clear hb; (have HB1:=HB2); (obtain ⟨⟨u0,u1,u2,u3,u4,u5,u6,u7,u8⟩,-⟩:=nine_of (HBX.out _ HB2.out)))
  | (go_at_call 137; rw [HWR.out]; refine (HPR.out _ (HA.out.la.later HB1.out)).mono ?_; rintro e w9 ⟨M9,b9,rfl,hla,hly,ho9,hm9⟩; (have HAA:=Lib.hid ((HA.out.bel HB1.out).call ho9 hm9 hla)); (have HLE:=Lib.hid hly); (obtain ⟨⟨s0,s1,s2,s3,s4,s5,s6,s7,s8⟩,-⟩:=nine_of ((ho9.block _ (Nat.lt_of_lt_of_le HOB3.out HB1.out.size) (fun z => z.elim HOB1.out HOB2.out)).trans (HBX.out _ HB1.out))); clear hla hly ho9 hm9))
 all_goals
  go_wp2
  go_end0
  exact HAA.out.lp HLE.out

theorem bare_6 {n : Nat} (hX : XC n) (hn : n ≤ 50) (w0 : World) (hv : SV w0) (P M : Nat) (bs : List UInt8) (w : World) (h : LA w0 w P M bs) (hbs : bs.length ≤ 100000) (oo v1 v2 : Int) (v3 tt nn : ByteArray) (es : List Ex) (pp : Int) (k : Value) (hxr : XR w0 (.mk 6 oo (v1,v2,v3) tt nn es pp) k) (hl2 : es.length = 2) (hd : ∀ i (h : i < es.length),dpr n es[i] = false ∧ RtE es[i]) : Calls Tryz.prog 108 #[.pointer (some ⟨P,0,none⟩),.agg (exC (.mk 6 oo (v1,v2,v3) tt nn es pp) k).toArray] w (LP w0 (Ly (1200 * n + 10) (xE 5 es[0] ++ (32 : UInt8) :: (cmpS oo ++ (32 : UInt8) :: xE 5 es[1])) bs) P M w):=by
 have HA:=Lib.hid (Al.start h)
 obtain ⟨a,m,c,rfl⟩:=hxr.slice
 obtain ⟨s,hs⟩ : ∃ s,ofL (cmpS oo) = s:=⟨_,rfl⟩
 have hss : s.size ≤ 2:=by rw [← hs]; unfold cmpS; split <;> (try split) <;> (try split) <;> (try split) <;> (try split) <;> decide
 have HSG : Hid (∀ W,Calls Tryz.prog 139 #[.int .i64 oo] W fun e w' => e = .returned (.string s) ∧ w' = W):=fun W => by have:=compareSign_any oo W; rw [hs] at this; exact this
 have hsl : cmpS oo = s.data.toList:=by rw [← hs,list_ofL]
 rw [hsl]
 have HPR : Hid (∀ W,LA w0 W P M bs → Calls Tryz.prog 137 #[.pointer (some ⟨P,0,none⟩),.agg #[.int .i64 6,.int .i64 oo,.int .i64 v1,.int .i64 v2,.string v3,.string tt,.string nn,.slice a m c,.int .i64 pp],.string s,.int .i64 5,.int .i64 5] W (LP w0 (Ly (1200 * n + 10) (xE 5 es[0] ++ (32 : UInt8) :: (s.data.toList ++ (32 : UInt8) :: xE 5 es[1])) bs) P M W)):=fun W hW => by
  have:=ppair_any hX hn w0 hv P M bs W hW hbs 6 oo v1 v2 v3 tt nn es pp _ hxr hl2 hd s hss 5 5 (by decide) (by decide)
  exact this
 obtain ⟨X,hXX⟩ : ∃ X,xE 5 es[0] ++ (32 : UInt8) :: (s.data.toList ++ (32 : UInt8) :: xE 5 es[1]) = X:=⟨_,rfl⟩
 rw [hXX] at HPR ⊢
 simp only [exC]
 clear h hxr hd hX hs hsl hXX
 obtain ⟨W1,hW1,HA⟩:=HA.out.push #[.int .i64 6,.int .i64 oo,.int .i64 v1,.int .i64 v2,.string v3,.string tt,.string nn,.slice a m c,.int .i64 pp] 49
 have z1:=nine_of (HA.out.at 0 rfl)
 go_enter Tryz.func108,Tryz.ntmps108
 go_wp2_with fail
 clear hW1
 have hB : Below W1.heap.size W1 W1:=Below.refl _ _
 go_region_law (go_simp; first
  | (go_at_call 139; refine (HSG.out _).mono ?_; rintro e w' ⟨rfl,rfl⟩)
  | (go_at_call 137; refine (HPR.out _ (HA.out.la.later (by first | exact hB | exact hB.drew))).mono ?_; rintro e w9 ⟨M9,b9,rfl,hla,hly,ho9,hm9⟩))
 all_goals
  have HAA:=Lib.hid ((HA.out.bel (by first | exact hB | exact hB.drew)).call ho9 hm9 hla)
  have HLE:=Lib.hid hly
  clear hla hly ho9 hm9 hB
  go_wp2
  go_end0
  exact HAA.out.lp HLE.out

def xI : Ex → List UInt8
 | .mk k o v t n ks p => if k = 11 then wCOUNT ++ [40,42,41] else if k = 12 ∨ k = 13 ∨ k = 14 then (if k = 12 then wSUM else if k = 13 then wMIN else wMAX) ++ 40 :: (xkid ks ++ [41]) else xB (.mk k o v t n ks p)

theorem xI_x {k o : Int} {v : V3} {t n : ByteArray} {ks : List Ex} {p : Int} (h : ¬ k = 11) (h2 : ¬ (k = 12 ∨ k = 13 ∨ k = 14)) : xI (.mk k o v t n ks p) = xF k o v t n ks (ks.map xB):=by
 rw [xI,if_neg h,if_neg h2,xB_mk]

theorem xIt_xI (e : Ex) : xIt e = xI e:=by
 obtain ⟨k,o,v,t,n,ks,p⟩:=e
 rw [xIt,xI,xE_one]

theorem xI_B {e : Ex} (h : ¬ isOver e) : xI e = xB e:=by
 obtain ⟨k,o,v,t,n,ks,p⟩:=e
 have h1 : ¬ k = 11:=fun q => h (Or.inl q)
 have h2 : ¬ (k = 12 ∨ k = 13 ∨ k = 14):=fun q => h (Or.inr q)
 rw [xI,if_neg h1,if_neg h2]

theorem laid_from {α : Type} (ah se : List UInt8) (f : α → List UInt8) : ∀ (l : List α) (k : Nat),((l.zipIdx (k + 1)).map fun x => (if x.2 = 0 then ah else se) ++ f x.1).flatten = (l.map fun x => se ++ f x).flatten
 | [],k => rfl
 | a :: l,k => by
  rw [List.zipIdx_cons,List.map_cons,List.flatten_cons,laid_from ah se f l (k + 1)]
  simp

theorem laid_cons {α : Type} (ah se : List UInt8) (f : α → List UInt8) (a : α) (l : List α) : laid ah se f (a :: l) = ah ++ f a ++ (l.map fun x => se ++ f x).flatten:=by
 rw [laid,List.zipIdx_cons,List.map_cons,List.flatten_cons]
 have:=laid_from ah se f l 0
 rw [this]
 simp

theorem xrow_map (w : List UInt8) (need : Nat) : ∀ l : List Ex,xrowM w need l (l.map xB) = (l.map fun x => (32 :: (w ++ [32])) ++ xE need x).flatten
 | [] => rfl
 | a :: l => by
  rw [List.map_cons,xrowM,xrow_map w need l]
  simp [xE]

theorem laid_row (w : List UInt8) (need : Nat) (a : Ex) (l : List Ex) : laid [] (32 :: (w ++ [32])) (xE need) (a :: l) = xwr need a (xB a) ++ xrowM w need l (l.map xB):=by
 rw [laid_cons,xrow_map]
 rfl

theorem name16 {s : ByteArray} (h : isName s = true) : s.size ≤ 16:=by
 unfold isName at h
 simp only [Bool.and_eq_true,decide_eq_true_eq] at h
 exact h.1.2

theorem len1 {α : Type} {l : List α} (h : l.length = 1) : ∃ a,l = [a]:=by
 match l,h with
 | [a],_ => exact ⟨a,rfl⟩

theorem len2 {α : Type} {l : List α} (h : l.length = 2) : ∃ a b,l = [a,b]:=by
 match l,h with
 | [a,b],_ => exact ⟨a,b,rfl⟩

theorem dpr_kids {n : Nat} {kk oo : Int} {v : V3} {tt nn : ByteArray} {es : List Ex} {pp : Int} (h : dpr (n + 1) (.mk kk oo v tt nn es pp) = false) (i : Nat) (hi : i < es.length) : dpr n es[i] = false:=by
 rw [dpr,List.any_eq_false] at h
 have:=h es[i] (List.getElem_mem hi)
 simpa using this

theorem bare_any {n : Nat} (hX : XC n) (hn : n ≤ 50) (e : Ex) (hd : dpr (n + 1) e = false) (hr : RtI e) (w0 : World) (hv : SV w0) (k : Value) (hxr : XR w0 e k) (P M : Nat) (bs : List UInt8) (w : World) (h : LA w0 w P M bs) (hbs : bs.length ≤ 100000) : Calls Tryz.prog 108 #[.pointer (some ⟨P,0,none⟩),.agg (exC e k).toArray] w (LP w0 (Ly (1200 * n + 1100) (xI e) bs) P M w):=by
 obtain ⟨kk,oo,⟨v1,v2,v3⟩,tt,nn,es,pp⟩:=e
 obtain ⟨o1,o2,⟨l1,l2,hk⟩,hw1,hw2,hw3,-⟩:=RtI.iff.1 hr
 have hd' : ∀ i (h : i < es.length),dpr n es[i] = false ∧ RtE es[i]:=fun i h => ⟨dpr_kids hd i h,hk i h⟩
 by_cases q : kk = 1
 ·subst q
  refine (bare_1 w0 hv P M bs w h hbs oo v1 v2 v3 tt nn es pp k hxr (hw1 rfl).2.2).mono fun e w' q => q.mono fun b hb => hb.conv (by omega) ?_
  rw [xI_x (by decide) (by decide)]
  unfold xF
  rw [if_pos rfl]
 by_cases q : kk = 2
 ·subst q
  refine (bare_2 w0 P M bs w h hbs oo v1 v2 v3 tt nn es pp k hxr (name16 (hw2 rfl).2.1)).mono fun e w' q => q.mono fun b hb => hb.conv (by omega) ?_
  rw [xI_x (by decide) (by decide)]
  unfold xF
  rw [if_neg (by decide),if_pos rfl]
 by_cases q : kk = 3
 ·subst q
  have ht : tt.size ≤ 16:=by
   rcases (hw3 rfl).1 with e | e
   ·rw [e]; decide
   ·exact name16 e
  refine (bare_3 w0 P M bs w h hbs oo v1 v2 v3 tt nn es pp k hxr ht (name16 (hw3 rfl).2.1)).mono fun e w' q => q.mono fun b hb => hb.conv (by omega) ?_
  rw [xI_x (by decide) (by decide)]
  unfold xF
  rw [if_neg (show ¬ (3 : Int) = 1 by decide),if_neg (show ¬ (3 : Int) = 2 by decide),if_pos rfl]
 clear hw1 hw2 hw3
 by_cases q : kk = 4
 ·subst q
  have hl : es.length = 1:=by simp [formK] at l1 l2; omega
  refine (bare_4 hX hn w0 hv P M bs w h hbs oo v1 v2 v3 tt nn es pp k hxr hl hd').mono fun e w' q => q.mono fun b hb => hb.conv (by omega) ?_
  obtain ⟨a,rfl⟩:=len1 hl
  rw [xI_x (by decide) (by decide)]
  rfl
 by_cases q : kk = 5
 ·subst q
  have hl : es.length = 2:=by simp [formK] at l1 l2; omega
  have ho : 1 ≤ oo:=by simp [formK] at o1; exact o1
  refine (bare_5 hX hn w0 hv P M bs w h hbs oo v1 v2 v3 tt nn es pp k hxr ho hl hd' (if oo ≤ 2 then 5 else 6) rfl (by split <;> decide)).mono fun e w' q => q.mono fun b hb => hb.conv (by omega) ?_
  obtain ⟨a,b,rfl⟩:=len2 hl
  rw [xI_x (by decide) (by decide)]
  by_cases g : oo ≤ 2
  ·rw [if_pos g]
   simp [xF,xE,g]
  ·rw [if_neg g]
   simp [xF,xE,g]
 by_cases q : kk = 6
 ·subst q
  have hl : es.length = 2:=by simp [formK] at l1 l2; omega
  refine (bare_6 hX hn w0 hv P M bs w h hbs oo v1 v2 v3 tt nn es pp k hxr hl hd').mono fun e w' q => q.mono fun b hb => hb.conv (by omega) ?_
  obtain ⟨a,b,rfl⟩:=len2 hl
  rw [xI_x (by decide) (by decide)]
  simp [xF,xE]
 by_cases q : kk = 7
 ·subst q
  have hl : es.length = 1:=by simp [formK] at l1 l2; omega
  by_cases g : oo = 1
  ·subst g
   refine (bare_7y hX hn w0 hv P M bs w h hbs v1 v2 v3 tt nn es pp k hxr hl hd').mono fun e w' q => q.mono fun b hb => hb.conv (by omega) ?_
   obtain ⟨a,rfl⟩:=len1 hl
   rw [xI_x (by decide) (by decide)]
   simp [xF,xE,wIs,wNot,wNull]
  ·refine (bare_7n hX hn w0 hv P M bs w h hbs oo v1 v2 v3 tt nn es pp k hxr g hl hd').mono fun e w' q => q.mono fun b hb => hb.conv (by omega) ?_
   obtain ⟨a,rfl⟩:=len1 hl
   rw [xI_x (by decide) (by decide)]
   simp [xF,xE,wIs,wNull,g]
 by_cases q : kk = 8
 ·subst q
  have hl : es.length = 1:=by simp [formK] at l1 l2; omega
  refine (bare_8 hX hn w0 hv P M bs w h hbs oo v1 v2 v3 tt nn es pp k hxr hl hd').mono fun e w' q => q.mono fun b hb => hb.conv (by omega) ?_
  obtain ⟨a,rfl⟩:=len1 hl
  rw [xI_x (by decide) (by decide)]
  simp [xF,xE,wNot]
 by_cases q : kk = 9
 ·subst q
  have hl : 2 ≤ es.length ∧ es.length ≤ 8:=by simp [formK] at l1 l2; omega
  refine (bare_9 hX hn w0 hv P M bs w h hbs oo v1 v2 v3 tt nn es pp k hxr (by omega) (by omega) hd').mono fun e w' q => q.mono fun b hb => hb.conv (by omega) ?_
  match es,hl with
  | a :: l,_ =>
   rw [xI_x (by decide) (by decide),show ([32,65,78,68,32] : List UInt8) = 32 :: (wAnd ++ [32]) from rfl,laid_row]
   rfl
 by_cases q : kk = 10
 ·subst q
  have hl : 2 ≤ es.length ∧ es.length ≤ 8:=by simp [formK] at l1 l2; omega
  refine (bare_10 hX hn w0 hv P M bs w h hbs oo v1 v2 v3 tt nn es pp k hxr (by omega) (by omega) hd').mono fun e w' q => q.mono fun b hb => hb.conv (by omega) ?_
  match es,hl with
  | a :: l,_ =>
   rw [xI_x (by decide) (by decide),show ([32,79,82,32] : List UInt8) = 32 :: (wOr ++ [32]) from rfl,laid_row]
   rfl
 by_cases q : kk = 11
 ·subst q
  refine (bare_11 w0 P M bs w h hbs oo v1 v2 v3 tt nn es pp k hxr).mono fun e w' q => q.mono fun b hb => hb.conv (by omega) ?_
  rfl
 by_cases q : kk = 12
 ·subst q
  have hl : es.length = 1:=by simp [formK] at l1 l2; omega
  refine (bare_12 hX hn w0 hv P M bs w h hbs oo v1 v2 v3 tt nn es pp k hxr hl hd').mono fun e w' q => q.mono fun b hb => hb.conv (by omega) ?_
  obtain ⟨a,rfl⟩:=len1 hl
  rfl
 by_cases q : kk = 13
 ·subst q
  have hl : es.length = 1:=by simp [formK] at l1 l2; omega
  refine (bare_13 hX hn w0 hv P M bs w h hbs oo v1 v2 v3 tt nn es pp k hxr hl hd').mono fun e w' q => q.mono fun b hb => hb.conv (by omega) ?_
  obtain ⟨a,rfl⟩:=len1 hl
  rfl
 by_cases q : kk = 14
 ·subst q
  have hl : es.length = 1:=by simp [formK] at l1 l2; omega
  refine (bare_14 hX hn w0 hv P M bs w h hbs oo v1 v2 v3 tt nn es pp k hxr hl hd').mono fun e w' q => q.mono fun b hb => hb.conv (by omega) ?_
  obtain ⟨a,rfl⟩:=len1 hl
  rfl
 exfalso
 have : formK kk = (0,0,1,0):=by
  unfold formK
  rw [if_neg (by omega),if_neg (by omega),if_neg (by omega),if_neg (by omega),if_neg (by omega),if_neg (by omega)]
 rw [this] at l1 l2
 exact absurd (Nat.le_trans l1 l2) (by decide)

theorem pexpr_any {n : Nat} (hX : XC n) (hn : n ≤ 50) (e : Ex) (hd : dpr (n + 1) e = false) (hr : RtI e) (w0 : World) (hv : SV w0) (k : Value) (hxr : XR w0 e k) (need P M : Nat) (bs : List UInt8) (w : World) (h : LA w0 w P M bs) (hbs : bs.length ≤ 549755813888) : Calls Tryz.prog 75 #[.pointer (some ⟨P,0,none⟩),.agg (exC e k).toArray,.int .i64 (need : Int)] w (LP w0 (Le (1200 * n + 1200) (if rankX e < need then 40 :: (xI e ++ [41]) else xI e) bs) P M w):=by
 have hB:=fun M1 b1 W h1 h2 => bare_any hX hn e hd hr w0 hv k hxr P M1 b1 W h1 h2
 obtain ⟨x,hx⟩ : ∃ x,xI e = x:=⟨_,rfl⟩
 obtain ⟨a,m,c,rfl⟩:=hxr.slice
 obtain ⟨kk,oo,⟨v1,v2,v3⟩,tt,nn,es,pp⟩:=e
 have ho : kk = 5 → 1 ≤ oo:=fun q => by
  subst q
  have:=(RtI.iff.1 hr).1
  simpa [formK] using this
 have hR:=prank_any kk oo v1 v2 v3 tt nn es pp a m c ho
 rw [hx] at hB ⊢
 refine (expr_w w0 P M bs w h hbs kk oo v1 v2 v3 tt nn a m c pp need _ hR (1200 * n + 1100) (by omega) x hB).mono fun e w' q => q.mono fun b hb => ?_
 exact ⟨hb.toLy.more (by omega),hb.none⟩

theorem xc_all : ∀ n,n ≤ 51 → XC n
 | 0,_ => fun e hd => by cases e; simp [dpr] at hd
 | n + 1,hn => fun e hd hr w0 k hv hxr need P M bs w h7 h hbs => by
  refine (pexpr_any (xc_all n (by omega)) (by omega) e hd hr.2 w0 hv k hxr need P M bs w h hbs).mono fun e' w' q => q.mono fun b hb => ?_
  rw [xI_B hr.1] at hb
  have e1 : xE need e = (if rankX e < need then 40 :: (xB e ++ [41]) else xB e):=rfl
  rw [e1]
  exact hb
end Go.Proofs.YtbfjmccpcbhljaaGreatDoor
