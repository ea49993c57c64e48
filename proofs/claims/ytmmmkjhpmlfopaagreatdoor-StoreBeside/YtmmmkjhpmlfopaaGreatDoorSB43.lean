/- O60b O61 O62a -/
import Derived.Test.YtmmmkjhpmlfopaaGreatDoorSB42
import Derived.Deep.CutRange
set_option maxHeartbeats 16000000
set_option maxRecDepth 100000
namespace Go.Proofs.YtmmmkjhpmlfopaaGreatDoor
open Go.RowKit
section
open Go.RowKit BB
theorem one_at {x y : TD × List Row3} {j : Nat} (h : [x][j]? = some y) (hj : (0 : Int) = (j : Int)) : y = x:=by
 obtain rfl : j = 0:=by omega
 simpa using h.symm
theorem ex_change2 {B C : Nat} {T U A : Nat → Prop} (W : World) (k s P : Nat) (tv dv : Value) (D : TD) (S : List Strk) (hD : D.t = exT) (hk : WkM W B A k s 0 false dv S) (h : StM W B T U s exC P tv 0 [(D,exI)]) (hz : Dis A (SZ T U s tv)) (hm : Env W C) (hCB : C ≤ B) (hS : S.length ≤ 3000000000) {n g1 g4 : Nat} (hT : ∀ q,T q → q < n)
  (h4 : W.heap[g4]? = some (.cells #[.slice (some ⟨g1,0,none⟩) 2 2] 26 (0,0))) (h1 : W.heap[g1]? = some (.cells (vc [nV 4,txA]).toArray 73 (0,0))) (hg : n ≤ g1 ∧ n ≤ g4) :
  Calls Tryz.prog 11 #[.pointer (some ⟨k,0,none⟩),.int .i64 0,.slice none 0 0,.slice (some ⟨g4,0,none⟩) 1 1] W fun e w' => e = .returned (.int .i64 91) ∧ Below W.heap.size W w':=by
 refine (change9_any W k s 0 false dv exC P tv 0 [(D,exI)] S hk h hm hCB (fun q a => ⟨fun e => hz q a (Or.inl e),fun e => hz q a (Or.inr (Or.inl e)),fun e => hz q a (Or.inr (Or.inr (Or.inl e))),fun e => hz q a (Or.inr (Or.inr (Or.inr e)))⟩) 0 none (some ⟨g4,0,none⟩) 0 1 [] exJ (fun _ _ i h => absurd h (Nat.not_lt_zero i)) _ (fun W' ho => ex_rows1 (only_block h1 ho hT hg.1) (only_block h4 ho hT hg.2)) Si (by simp [exJ]) (fun j D' rs' e => ?_) hS).mono ?_
 ·match j,e with
  | 0,e =>
   simp only [List.getElem?_cons_zero,Option.some.injEq,Prod.mk.injEq] at e
   obtain ⟨rfl,rfl⟩:=e
   simp [exI,exJ]
 ·rintro e w' ⟨n,rfl,hmay,hres⟩
  have hn0 : n = 91:=by
   rcases hmay with ⟨_,hc⟩ | ⟨j,D',rs',_,hj,e,hc⟩
   ·rcases hc with hc | hc
    ·exact absurd ⟨rfl,rfl⟩ hc
    ·exact absurd rfl (hc 0 Si)
   ·obtain rfl : j = 0:=by omega
    simp only [List.getElem?_cons_zero,Option.some.injEq,Prod.mk.injEq] at e
    obtain ⟨rfl,rfl⟩:=e
    rcases hc with ⟨_,hc⟩ | ⟨_,hc⟩
    ·exact absurd (fun k hk => absurd hk (Nat.not_lt_zero k)) hc
    ·exact ex_come1 hD hc
  refine ⟨by rw [hn0],?_⟩
  rcases hres with ⟨_,hb⟩ | ⟨hc,_⟩
  ·exact hb
  ·omega
theorem tdK {D : TD} (hD : D.t = exT) : D.K = 2:=by
 unfold TD.K
 rw [hD]
 rfl
theorem ex_scan_any {B C : Nat} {T U : Nat → Prop} (W : World) (k s P : Nat) (tv dv : Value) (D : TD) (hD : D.t = exT) (hk : WkB W k s 0 false dv) (h : StM W B T U s exC P tv 0 [(D,exI)]) (hm : Env W C) :
  Calls Tryz.prog 12 #[.pointer (some ⟨k,0,none⟩),.int .i64 0,.int .i64 0,.string ⟨#[]⟩,.string ⟨#[]⟩] W fun e w' => Below W.heap.size W w' ∧ ∃ v,e = .returned v ∧ RowsO w' W.heap.size v exL1:=by
 refine (wscan9_any W k s 0 false dv exC P tv 0 [(D,exI)] hk h hm 0 0 ⟨#[]⟩ ⟨#[]⟩).mono ?_
 rintro e w' ⟨hb,v,R,rfl,hr,⟨j,n,x,-,hx,hj,hn,hnK,hs⟩ | ⟨hc,_⟩⟩
 ·obtain rfl:=one_at hx hj
  obtain rfl : n = 1:=by omega
  rw [ex_scan1 hD hs] at hr
  exact ⟨hb,v,rfl,hr⟩
 ·exact absurd (by rw [tdK hD]; decide) (hc 0 1 (D,exI) ⟨rfl,rfl⟩ rfl rfl rfl)
theorem ex_get_any {B C : Nat} {T U : Nat → Prop} (W : World) (k s P : Nat) (tv dv : Value) (D : TD) (hD : D.t = exT) (hk : WkB W k s 0 false dv) (h : StM W B T U s exC P tv 0 [(D,exI)]) (hm : Env W C) (a : Option Addr) (cap : Nat) (hr : Row W a [nV 2]) :
  Calls Tryz.prog 25 #[.pointer (some ⟨k,0,none⟩),.int .i64 0,.slice a 1 cap] W fun e w' => Below W.heap.size W w' ∧ ∃ g c,e = .returned (.tuple #[.slice (some ⟨g,0,none⟩) 2 c,.bool true]) ∧ w'.ownsRow W.heap.size 73 3 (.slice (some ⟨g,0,none⟩) 2 c) 2 (vc [nV 2,txA]):=by
 refine (get9_any W k s 0 false dv exC P tv 0 [(D,exI)] hk h hm 0 a cap [nV 2] hr Si).mono ?_
 rintro e w' ⟨hb,⟨j,x,r,v,-,hx,hj,hmem,hkey,rfl,ho⟩ | ⟨hc,_⟩⟩
 ·obtain rfl:=one_at hx hj
  have he : r = [nV 2,txA]:=by
   rw [hD] at hkey
   simp only [exI,List.mem_cons,List.not_mem_nil,or_false] at hmem
   rcases hmem with rfl | rfl | rfl
   ·rfl
   ·exact absurd hkey (by decide +kernel)
   ·exact absurd hkey (by decide +kernel)
  subst he
  obtain ⟨p,c,rfl⟩:=ownF ho
  obtain ⟨g,cap2,e⟩ : ∃ g c2,Value.slice p 2 c = .slice (some ⟨g,0,none⟩) 2 c2:=⟨_,_,(own_some ho Si).1⟩
  cases e
  exact ⟨hb,g,c,rfl,ho⟩
 ·exact absurd (by rw [hD]; decide +kernel) (hc 0 (D,exI) ⟨rfl,rfl⟩ rfl rfl [nV 2,txA] List.mem_cons_self)
theorem st_state_any {B C : Nat} {T U : Nat → Prop} (W : World) (s P : Nat) (c : TT.Ct) (tv : Value) (D : TD) (rs : List Row3) (h : StM W B T U s c P tv 0 [(D,rs)]) (hm : Env W C) :
  Calls Tryz.prog 16 #[.pointer (some ⟨s,0,none⟩)] W fun e w' => Below W.heap.size W w' ∧ ∃ (g cap : Nat) (R : List Row3),e = .returned (.agg #[.slice (some ⟨g,0,none⟩) 1 cap]) ∧ StO w' W.heap.size (.slice (some ⟨g,0,none⟩) 1 cap) [R] ∧ ScanP D 0 rs ⟨#[]⟩ ⟨#[]⟩ R:=by
 refine (state9_any W s c P tv 0 [(D,rs)] h hm).mono ?_
 rintro e w' ⟨hb,v,Ls,rfl,ho,hl,hall⟩
 match Ls,hl with
 | [R],_ =>
  obtain ⟨us,hu,ho1,ho2⟩:=ho.own
  obtain ⟨p,cc,rfl⟩:=ownF ho1
  obtain ⟨g,cap2,e⟩ : ∃ g c2,Value.slice p 1 cc = .slice (some ⟨g,0,none⟩) 1 c2:=⟨_,_,(own_some ho1 Si).1⟩
  cases e
  exact ⟨hb,g,cc,R,rfl,⟨⟨us,hu,ho1,ho2⟩⟩,hall 0 (D,rs) R rfl rfl⟩
theorem rows_at {w : World} {B : Nat} {v : Value} {L : List Row3} (h : RowsO w B v L) (h0 : 0 < L.length) : ∃ g c,v = .slice (some ⟨g,0,none⟩) L.length c ∧ ∀ i (hi : i < L.length),∃ p cap,w.cell? ⟨g,i,none⟩ = some (.slice p (L[i]).length cap) ∧ Row w p L[i]:=by
 obtain ⟨us,h1,h2,h3,h4⟩:=h.own
 obtain ⟨p,cc,rfl⟩:=ownF h2
 obtain ⟨g,cap2,e⟩ : ∃ g c2,Value.slice p L.length cc = .slice (some ⟨g,0,none⟩) L.length c2:=⟨_,_,(own_some h2 h0).1⟩
 cases e
 refine ⟨g,cc,rfl,fun i hi => ?_⟩
 obtain ⟨b,off,q,cap,e1,e2,e3⟩:=h.rows i hi
 simp only [Option.some.injEq,Addr.mk.injEq] at e1
 obtain ⟨rfl,rfl,_⟩:=e1
 rw [Nat.zero_add] at e2
 exact ⟨q,cap,e2,e3⟩
theorem below_draws9 (w : World) (n : Nat) : Below w.heap.size w (w.drewN n):=⟨rfl,rfl,rfl,Nat.le_refl _,fun _ _ => rfl⟩
theorem st_at {w : World} {B g c : Nat} {R : List Row3} (h : StO w B (.slice (some ⟨g,0,none⟩) 1 c) [R]) : ∃ p cap,w.cell? ⟨g,0,none⟩ = some (.slice p R.length cap) ∧ RowsO w B (.slice p R.length cap) R:=by
 obtain ⟨us,h1,h2,h3⟩:=h.own
 match us,h1 with
 | [u],_ =>
  have h4:=h3 0 Si Si
  obtain ⟨vs,_,ho,_⟩:=h4.own
  obtain ⟨p,cap,e⟩:=ownF ho
  simp only [List.getElem_cons_zero] at e h4 ho
  subst e
  exact ⟨p,cap,(h2.cellAt 0 (by decide)).trans rfl,h4⟩
theorem ex_back (D : TD) (hD : D.t = exT) (t' b' : Value) : undoL [(D,exI)] [⟨0,[],keysL exT exI,t',b'⟩] (backL 1) = [(D,[])]:=by
 have:=undoL_all [(D,exI)] [⟨0,[],keysL exT exI,t',b'⟩]
 simp only [List.length_cons,List.length_nil,Nat.zero_add] at this
 rw [this,undo_one D exI _ fun x hx => by simp only [List.reverse_singleton,List.mem_singleton] at hx; rw [hx]]
 simp only [List.reverse_singleton,List.foldl_cons,List.foldl_nil,undoR,hD]
 rw [ex_undone]
theorem ex_few (D : TD) (hD : D.t = exT) (t' b' : Value) (m : Nat) (D' : TD) (rs : List Row3) (h : (undoL [(D,exI)] [⟨0,[],keysL exT exI,t',b'⟩] ((backL 1).take m))[0]? = some (D',rs)) : rs.length ≤ 3:=by
 rcases m with _ | m
 ·have e : undoL [(D,exI)] [⟨0,[],keysL exT exI,t',b'⟩] ((backL 1).take 0) = [(D,exI)]:=rfl
  rw [e] at h
  simp only [List.getElem?_cons_zero,Option.some.injEq,Prod.mk.injEq] at h
  rw [← h.2]
  decide
 ·have e : (backL 1).take (m + 1) = backL 1:=List.take_of_length_le (by simp [backL])
  rw [e,ex_back D hD] at h
  simp only [List.getElem?_cons_zero,Option.some.injEq,Prod.mk.injEq] at h
  rw [← h.2]
  simp
theorem ex_undo {B C : Nat} {T U A : Nat → Prop} (W : World) (k s P : Nat) (tv dv t' b' : Value) (D : TD) (hD : D.t = exT) (hk : WkM W B A k s 0 false dv [⟨0,[],keysL exT exI,t',b'⟩]) (h : StM W B T U s exC P tv 0 [(D,exI)]) (hz : Dis A (SZ T U s tv)) (hm : Env W C) (hCB : C ≤ B) :
  Calls Tryz.prog 19 #[.pointer (some ⟨k,0,none⟩)] W fun e w' => e = .returned (.tuple #[]) ∧ (∃ T',StM w' B T' U s exC P tv 0 [(D,[])]) ∧ Below B W w' ∧ WkB w' k s 0 true (.slice none 0 0):=by
 refine (undo9_any W k s 0 false dv exC P tv 0 [(D,exI)] _ hk h hm hCB (fun q a => ⟨fun e => hz q a (Or.inl e),fun e => hz q a (Or.inr (Or.inl e)),fun e => hz q a (Or.inr (Or.inr (Or.inl e))),fun e => hz q a (Or.inr (Or.inr (Or.inr e)))⟩) Si (fun x hx => by rw [List.mem_singleton.1 hx]; simp) (fun m x D' rs hx hu => ?_)).mono ?_
 ·have hxe : x = ⟨0,[],keysL exT exI,t',b'⟩:=Zms (List.mem_of_getElem? hx)
  subst hxe
  have:=ex_few D hD t' b' m D' rs hu
  refine ⟨fun r hr => absurd hr List.not_mem_nil,by simp; omega,by simp,by simp [keysL,exI],fun l hl => ?_⟩
  simp only [keysL,List.mem_map] at hl
  obtain ⟨r,_,rfl⟩:=hl
  simp [pick3,exT]
 ·rintro e w' ⟨rfl,⟨hc,_⟩ | ⟨_,T',hs,_,ho,hw,_⟩⟩
  ·exact absurd ⟨rfl,rfl⟩ hc
  ·simp only [List.length_cons,List.length_nil,Nat.zero_add] at hs
   rw [ex_back D hD] at hs
   exact ⟨rfl,⟨T',hs⟩,ho.below (by have:=(hk.lo k hk.zone.1); omega) fun q hq e => by
    rcases e with e | e
    ·have:=h.ge q (Or.inl e)
     omega
    ·subst e
     have:=(hk.lo q hk.zone.1).1
     omega,hw⟩
end
section
open Go.RowKit BB
theorem awake9_any {C : Nat} (w : World) (hm : Env w C) : Calls Tryz.prog 7 #[] w fun e w' => e = .returned (.bool true) ∧ Below w.heap.size w w':=by
 have HM:=Hd hm
 have HE1:=Hd (example9_any w)
 clear hm
 go_enter Tryz.func7,Tryz.ntmps7
 go_wp2_with fail
 refine HE1.out.mono ?_
 rintro e w1 ⟨vs,rfl,hct,hb1⟩
 have HB1:=Hd hb1
 have HN1:=Hd (new9_any w1 exC vs hct exC_fits 3)
 clear hct hb1
 go_wp2_with fail
 refine HN1.out.mono ?_
 rintro e w2 ⟨hb2,hc | ⟨_,hc,_⟩ | ⟨P,s,T,U,tv,L,hP,rfl,hst,hemp⟩⟩
 ·exact absurd hc.1 (by rw [exC_right]; simp)
 ·omega
 obtain ⟨D,hD,rfl⟩:=one_tab hst.defs.1 hemp
 have HB2:=Hbt HB1 hb2
 have HST:=Hd (hst.mono HB1.out.size)
 have HD:=Hd hD
 have HE2:=Hd (example9_any w2)
 clear hst hemp hD hP hb2
 go_wp2_with fail
 refine HE2.out.mono ?_
 rintro e w3 ⟨vs3,rfl,hct,hb3⟩
 have HN3:=Hd (new9_any w3 exC vs3 hct exC_fits 0)
 have HB3:=Hd hb3
 clear hct hb3
 go_wp2_with fail
 refine HN3.out.mono ?_
 rintro e w4 ⟨hb4,hc | ⟨_,_,rfl⟩ | ⟨P',s',T',U',tv',L',hP,rfl,hst,hemp⟩⟩
 ·exact absurd hc.1 (by rw [exC_right]; simp)
 case inr.inr =>
  have:=hst.parts.1
  omega
 have HB4:=Hd (HB2.out.trans ((HB3.out.trans (hb4.mono HB3.out.size)).mono HB2.out.size))
 have HST4:=Hd (HST.out.later (HB3.out.trans (hb4.mono HB3.out.size)))
 clear hb4
 have HBG:=Hd (begin9_any w4 s exC P tv 0 [(D,[])] HST4.out)
 go_wp2_with fail
 refine HBG.out.mono ?_
 rintro e w5 ⟨rfl,hwk,hb5,hs5⟩
 have HWK:=Hd hwk
 have HB5:=Hd hb5
 clear hb5 hs5
 obtain ⟨W6,hW6⟩:=Vx (w5.alloc (Obj.cells #[.int .i64 3,.int .i64 0,.string ⟨#[97]⟩] 73))
 have hb6 : Below w5.heap.size w5 W6:=by rw [← hW6]; exact (Bxr _ w5).alloc Zlr _
 have k6 : W6.heap[w5.heap.size]? = some (.cells #[.int .i64 3,.int .i64 0,.string ⟨#[97]⟩] 73 (0,0)):=by rw [← hW6]; exact heap_alloc_new w5 _
 have HW6:=Hd hW6
 have HB6:=Hd (HB4.out.trans ((HB5.out.trans (hb6.mono HB5.out.size)).mono HB4.out.size))
 have HST6:=Hd (HST4.out.later (HB5.out.trans (hb6.mono HB5.out.size)))
 have HK6:=Hd k6
 have hc6 : W6.cell? ⟨w5.heap.size,0,none⟩ = some (.int .i64 3) ∧ W6.cell? ⟨w5.heap.size,1,none⟩ = some (.int .i64 0) ∧ W6.cell? ⟨w5.heap.size,2,none⟩ = some (.string ⟨#[97]⟩):=⟨cell_blk k6 rfl,cell_blk k6 rfl,cell_blk k6 rfl⟩
 have hl5:=(Gx hwk)
 have HCH:=Hd (fun W g1 g2 g3 g4 => ex_change (g1:=g1) (g2:=g2) (g3:=g3) (g4:=g4) (B:=w.heap.size) w W6 W w4.heap.size s w5.heap.size P tv D HD.out HB6.out Zlr (hwk.later hb6) HB4.out.size HST6.out (fun e => by have:=HST4.out.lt _ e; omega) (HM.out.later HB6.out HM.out.le) HM.out.le k6 ⟨fun e => by have:=HST4.out.lt _ (Or.inl e); omega,by omega⟩)
 clear hb6 k6 hW6 hwk
 have hdz : W6.drew.heap.size = W6.heap.size:=rfl
 go_upto_region 9 with fail
 rw [HW6.out]
 go_cut [7] from 41 to 52 (fun g wx => g = .int .i64 0 ∧ ExQ w w.heap.size w5.heap.size w4.heap.size s P tv D U wx)
 case first =>
  go_region_held3 (fun w' => w'.cell? ⟨w5.heap.size,0,none⟩ = some (.int .i64 3) ∧ w'.cell? ⟨w5.heap.size,1,none⟩ = some (.int .i64 0) ∧ w'.cell? ⟨w5.heap.size,2,none⟩ = some (.string ⟨#[97]⟩)) (first | assumption | exact three_alloc9 (by assumption) _ | exact hc6) (first
   | (go_at_call 24; refine (number9_any _ _).mono ?_; rintro e wv ⟨rfl,hqv⟩; (have sv:=three_later9 (by assumption) hqv); (have zv:=hqv.size); (try simp only [World.size_alloc] at zv))
   | (go_at_call 11; refine (HCH.out _ _ _ _ _ (by (repeat (first | exact alloc_at (by first | rfl | (simp; done)) | refine alloc_block9 ?_ | refine below_block ?_ (by assumption)))) (by (repeat (first | exact alloc_at (by first | rfl | (simp; done)) | refine alloc_block9 ?_ | refine below_block ?_ (by assumption)))) (by (repeat (first | exact alloc_at (by first | rfl | (simp; done)) | refine alloc_block9 ?_ | refine below_block ?_ (by assumption)))) (by (repeat (first | exact alloc_at (by first | rfl | (simp; done)) | refine alloc_block9 ?_ | refine below_block ?_ (by assumption)))) (by (repeat (first | exact below_drew9 _ | refine below_alloc9 ?_ _ | refine below_call9 ?_ (by assumption)))) (by refine ⟨⟨?_,?_⟩,?_,?_⟩ <;> ((try simp only [World.size_alloc]); omega))).mono ?_; rintro e wz ⟨rfl,hq⟩; (have HQ:=Hd hq); (have sz:=ex_cells hq); clear hq))
  all_goals
   go_wp2_with fail
   go_meet
   case rel => exact ⟨rfl,HQ.out⟩
 case rest =>
  obtain ⟨rfl,T',A',dv',t',b',hs,hw,hz,hbc,hk6⟩:=hcut
  have hc7 : wc.cell? ⟨w5.heap.size,0,none⟩ = some (.int .i64 3) ∧ wc.cell? ⟨w5.heap.size,1,none⟩ = some (.int .i64 0) ∧ wc.cell? ⟨w5.heap.size,2,none⟩ = some (.string ⟨#[97]⟩):=⟨cell_blk hk6 rfl,cell_blk hk6 rfl,cell_blk hk6 rfl⟩
  have HBC:=Hd hbc
  have HS:=Hd hs
  have HW:=Hd hw
  have HZ:=Hd hz
  have HKC:=Hd hk6
  have HC7:=Hd hc7
  have HCH2 : Hid (∀ (W : World) (g1 g4 : Nat),W.heap[g4]? = some (.cells #[.slice (some ⟨g1,0,none⟩) 2 2] 26 (0,0)) → W.heap[g1]? = some (.cells (vc [nV 4,txA]).toArray 73 (0,0)) → Below wc.heap.size wc W → wc.heap.size ≤ g1 ∧ wc.heap.size ≤ g4 → Calls Tryz.prog 11 #[.pointer (some ⟨w4.heap.size,0,none⟩),.int .i64 0,.slice none 0 0,.slice (some ⟨g4,0,none⟩) 1 1] W fun e w' => e = .returned (.int .i64 91) ∧ Below W.heap.size W w'):=Hd fun W g1 g4 h4 h1 hb hg => ex_change2 W w4.heap.size s P tv dv' D _ HD.out (HW.out.later hb) (HS.out.later hb) HZ.out (HM.out.later (below_call9 HBC.out hb) HM.out.le) HM.out.le Si (fun q a => HS.out.lt q (Or.inl a)) h4 h1 hg
  have hdc : wc.drew.heap.size = wc.heap.size:=rfl
  clear hs hw hz hbc hk6 HCH hc6 hl5 hdz
  go_upto_region 10 with fail
  go_region_held3 (fun w' => w'.cell? ⟨w5.heap.size,0,none⟩ = some (.int .i64 3) ∧ w'.cell? ⟨w5.heap.size,1,none⟩ = some (.int .i64 0) ∧ w'.cell? ⟨w5.heap.size,2,none⟩ = some (.string ⟨#[97]⟩)) (first | assumption | exact three_alloc9 (by assumption) _ | exact hc7) (first
   | (go_at_call 24; refine (number9_any _ _).mono ?_; rintro e wv ⟨rfl,hqv⟩; (have sv:=three_later9 (by assumption) hqv); (have zv:=hqv.size); (try simp only [World.size_alloc] at zv))
   | (go_at_call 11; refine (HCH2.out _ _ _ (by (repeat (first | exact alloc_at (by first | rfl | (simp; done)) | refine alloc_block9 ?_ | refine below_block ?_ (by assumption)))) (by (repeat (first | exact alloc_at (by first | rfl | (simp; done)) | refine alloc_block9 ?_ | refine below_block ?_ (by assumption)))) (by (repeat (first | exact below_drew9 _ | refine below_alloc9 ?_ _ | refine below_call9 ?_ (by assumption)))) (by refine ⟨?_,?_⟩ <;> ((try simp only [World.size_alloc]); omega))).mono ?_; rintro e wz ⟨rfl,hqz⟩; (have sz:=three_later9 (by assumption) hqz); (have HBZ : Hid (Below wc.heap.size wc wz):=Hd (by (repeat (first | exact below_drew9 _ | refine below_alloc9 ?_ _ | refine below_call9 ?_ (by assumption))))); clear hqz))
  rename_i hHeld
  clear hHeld sz zv sv hqv hdc hc7 HCH2
  have HSC:=Hd (ex_scan_any wz w4.heap.size s P tv dv' D HD.out (HW.out.later HBZ.out).blk (HS.out.later HBZ.out) (HM.out.later (below_call9 HBC.out HBZ.out) HM.out.le))
  go_wp2_with fail
  refine HSC.out.mono ?_
  rintro e w8 ⟨hb8,v8,rfl,hr8⟩
  obtain ⟨g8,c8,rfl,hrow8⟩:=rows_at hr8 (by decide)
  have HB8:=Hd (below_call9 HBZ.out hb8)
  obtain ⟨p81,cp81,hc81,hr81⟩:=hrow8 1 (by decide)
  have HR8:=Hd (Zai hc81 hr81)
  clear hr8 hrow8 hb8 hc81 hr81 HSC
  rw [show exL1.length = 3 from rfl]
  go_wp2_with fail
  refine (number9_any _ _).mono ?_
  rintro e w9 ⟨rfl,hb9⟩
  have HB9:=Hd (below_call9 HB8.out hb9)
  have HB9b:=Hd hb9
  clear hb9
  go_wp2_with fail
  obtain ⟨W10,hW10⟩:=Vx (w9.alloc (Obj.cells (vc [nV 2]).toArray 73))
  have hb10 : Below w9.heap.size w9 W10:=by rw [← hW10]; exact (Bxr _ w9).alloc Zlr _
  have hr10 : Row W10 (some ⟨w9.heap.size,0,none⟩) [nV 2]:=row_blk (fr:=(0,0)) (by rw [← hW10]; exact heap_alloc_new w9 _)
  have HB10:=Hd (below_call9 HB9.out hb10)
  have HB10b:=Hd (below_call9 HB9b.out hb10)
  have hW10' : w9.alloc (Obj.cells #[.int .i64 1,.int .i64 2,.string ⟨#[]⟩] 73) = W10:=hW10
  rw [hW10']
  refine (ex_get_any W10 w4.heap.size s P tv dv' D HD.out (HW.out.later HB10.out).blk (HS.out.later HB10.out) (HM.out.later (below_call9 HBC.out HB10.out) HM.out.le) _ 1 hr10).mono ?_
  clear hW10 hW10' hb10 hr10
  rintro e w11 ⟨hb11,g11,c11,rfl,ho11⟩
  have HB11:=Hd (below_call9 HB10.out hb11)
  have HB11b:=Hd (below_call9 HB10b.out hb11)
  have HO11:=Hd ho11
  clear hb11 ho11
  go_wp2_with fail
  refine (st_state_any w11 s P exC tv D exI (HS.out.later HB11.out) (HM.out.later (below_call9 HBC.out HB11.out) HM.out.le)).mono ?_
  rintro e w12 ⟨hb12,g12,c12,R12,rfl,ho12,hs12⟩
  obtain rfl:=ex_scan0 HD.out hs12
  have HB12:=Hd (below_call9 HB11.out hb12)
  have HB12b:=Hd (below_call9 HB11b.out hb12)
  have HB12c:=Hd hb12
  have HO12:=Hd ho12
  clear hb12 ho12 hs12
  obtain ⟨W13,hW13⟩:=Vx (w12.alloc (Obj.cells #[.slice (some ⟨g12,0,none⟩) 1 c12] 56))
  have hb13 : Below w12.heap.size w12 W13:=by rw [← hW13]; exact (Bxr _ w12).alloc Zlr _
  have k13 : W13.heap[w12.heap.size]? = some (.cells #[.slice (some ⟨g12,0,none⟩) 1 c12] 56 (0,0)):=by rw [← hW13]; exact heap_alloc_new w12 _
  have HB13:=Hd (below_call9 HB12.out hb13)
  have HB13b:=Hd (below_call9 HB12b.out hb13)
  have HW13:=Hd hW13
  obtain ⟨pR,cR,hst12,-⟩:=st_at HO12.out
  have d0 : W13.cell? ⟨w5.heap.size,0,none⟩ = some (.int .i64 3):=cell_later HB13.out HC7.out.1
  have d1 : W13.cell? ⟨w5.heap.size,1,none⟩ = some (.int .i64 0):=cell_later HB13.out HC7.out.2.1
  have d2 : W13.cell? ⟨w5.heap.size,2,none⟩ = some (.string ⟨#[97]⟩):=cell_later HB13.out HC7.out.2.2
  have hb1113:=below_call9 HB12c.out hb13
  have f0 : W13.cell? ⟨g11,3,none⟩ = some (.int .i64 3):=cell_later hb1113 ((HO11.out.cellAt 3 (by decide)).trans rfl)
  have f1 : W13.cell? ⟨g11,4,none⟩ = some (.int .i64 0):=cell_later hb1113 ((HO11.out.cellAt 4 (by decide)).trans rfl)
  have f2 : W13.cell? ⟨g11,5,none⟩ = some (.string ⟨#[97]⟩):=cell_later hb1113 ((HO11.out.cellAt 5 (by decide)).trans rfl)
  have q0 : W13.cell? ⟨w12.heap.size,0,none⟩ = some (.slice (some ⟨g12,0,none⟩) 1 c12):=cell_blk k13 rfl
  have q1 : W13.cell? ⟨g12,0,none⟩ = some (.slice pR 3 cR):=cell_later hb13 hst12
  clear hW13 hb13 k13 hb1113 hst12
  go_wp2_with fail
  rw [HW13.out]
  go_quiet (fail)
  rename_i nq
  obtain ⟨W14,hW14⟩:=Vx (W13.drewN nq)
  have hb14 : Below W13.heap.size W13 W14:=by rw [← hW14]; exact below_draws9 _ _
  rw [hW14]
  have HB14:=Hd (below_call9 HB13.out hb14)
  have hc8 : W14.cell? ⟨g8,1,none⟩ = some (.slice p81 2 cp81):=cell_later (below_call9 HB13b.out hb14) HR8.out.1
  have HSR : Hid (∀ (W : World) (g : Nat),W.heap[g]? = some (.cells (vc [nV 3,nul3]).toArray 73 (0,0)) → Below W14.heap.size W14 W → Calls Tryz.prog 26 #[.slice p81 2 cp81,.slice (some ⟨g,0,none⟩) 2 2] W fun e w' => e = .returned (.bool true) ∧ Below W.heap.size W w'):=Hd fun W g h hb => (sameRow_any p81 (some ⟨g,0,none⟩) cp81 2 [nV 3,nul3] [nV 3,nul3] W Si (HR8.out.2.later (below_call9 (below_call9 HB13b.out hb14) hb)) (row_blk h)).mono fun e w' ⟨he,hb⟩ => ⟨he.trans (by rw [show eqL [nV 3,nul3] [nV 3,nul3] = true from eqL_iff.2 rfl]),hb⟩
  clear hW14 hb14 d0 d1 d2 f0 f1 f2 q0 q1
  go_wp2_with fail
  go_region_held3 (fun w' => w'.cell? ⟨g8,1,none⟩ = some (.slice p81 2 cp81)) (first | assumption | exact cell_later ((Bxr _ _).alloc Zlr _) (by assumption) | exact hc8) (first
   | (go_at_call 24; refine (number9_any _ _).mono ?_; rintro e wv ⟨rfl,hqv⟩; (have sv:=cell_later hqv (by assumption)))
   | (go_at_call 26; refine (HSR.out _ _ (by (repeat (first | exact alloc_at (by first | rfl | (simp; done)) | refine alloc_block9 ?_ | refine below_block ?_ (by assumption)))) (by (repeat (first | exact below_drew9 _ | refine below_alloc9 ?_ _ | refine below_call9 ?_ (by assumption))))).mono ?_; rintro e wy ⟨rfl,hqz⟩; (have sz:=cell_later hqz (by assumption)); (have HBY : Hid (Below W14.heap.size W14 wy):=Hd (by (repeat (first | exact below_drew9 _ | refine below_alloc9 ?_ _ | refine below_call9 ?_ (by assumption))))); clear hqz))
  rename_i hHeld
  clear hHeld sz sv hqv hc8 HSR
  have HB15:=Hd (below_call9 HB14.out HBY.out)
  have HUN:=Hd (ex_undo wy w4.heap.size s P tv dv' t' b' D HD.out (HW.out.later HB15.out) (HS.out.later HB15.out) HZ.out (HM.out.later (below_call9 HBC.out HB15.out) HM.out.le) HM.out.le)
  go_wp2_with fail
  refine HUN.out.mono ?_
  rintro e w16 ⟨rfl,⟨T2,hs16⟩,hb16,hwk16⟩
  have HB16:=Hd ((below_call9 HBC.out HB15.out).trans hb16)
  have HS16:=Hd hs16
  have HWK16:=Hd hwk16
  clear hs16 hb16 hwk16 HUN
  go_wp2_with fail
  refine (st_state_any w16 s P exC tv D [] HS16.out (HM.out.later HB16.out HM.out.le)).mono ?_
  rintro e w17 ⟨hb17,g17,c17,R17,rfl,ho17,hs17⟩
  have hR17 : R17 = []:=List.eq_nil_of_length_eq_zero (Nat.le_zero.1 hs17.len)
  subst hR17
  have HB17:=Hbt HB16 hb17
  have HB17b:=Hd hb17
  have HO17:=Hd ho17
  clear hb17 ho17 hs17
  obtain ⟨W18,hW18⟩:=Vx (w17.alloc (Obj.cells #[.slice (some ⟨g17,0,none⟩) 1 c17] 56))
  have hb18 : Below w17.heap.size w17 W18:=by rw [← hW18]; exact (Bxr _ w17).alloc Zlr _
  have k18 : W18.heap[w17.heap.size]? = some (.cells #[.slice (some ⟨g17,0,none⟩) 1 c17] 56 (0,0)):=by rw [← hW18]; exact heap_alloc_new w17 _
  have HW18:=Hd hW18
  have HB18:=Hbt HB17 hb18
  have HB18b:=Hd (below_call9 HB17b.out hb18)
  have HB18c:=Hd hb18
  have HK18:=Hd k18
  clear hb18 k18 hW18
  go_wp2_with fail
  rw [HW18.out]
  refine (over9_any W18 w4.heap.size s 0 true (.slice none 0 0) _ _ _ 0 (HWK16.out.later HB18b.out) (HS16.out.later HB18b.out).blk).mono ?_
  rintro e w19 ⟨rfl,hb19⟩
  obtain ⟨p17,cp17,hst17,-⟩:=st_at HO17.out
  have q0 : w19.cell? ⟨w17.heap.size,0,none⟩ = some (.slice (some ⟨g17,0,none⟩) 1 c17):=cell_later hb19 (cell_blk HK18.out rfl)
  have q1 : w19.cell? ⟨g17,0,none⟩ = some (.slice p17 0 cp17):=cell_later (below_call9 HB18c.out hb19) hst17
  have HB19:=Hbt HB18 hb19
  clear hb19 hst17
  simp only [Bool.true_or]
  go_wp2_with fail
  go_ret
  exact ⟨rfl,HB19.out⟩
end
section
open Go.RowKit BB
theorem bC_fits : TT.Fits bC:=fun t ht => by
 simp only [bC,List.mem_singleton] at ht
 subst ht
 decide
theorem PutRow.later {W W' : World} {a : Option Addr} {l : List PutV} (h : PutRow W a l) (hb : Below W.heap.size W W') : PutRow W' a l:=fun i hi => by
 obtain ⟨b,off,e,h1,h2,h3,h4⟩:=h i hi
 exact ⟨b,off,e,cell_later hb h1,cell_later hb h2,cell_later hb h3,cell_later hb h4⟩
theorem bc_mem (w : World) : ∃ W,(((((w.alloc (Obj.cells #[.string ⟨#[107]⟩,.int .i64 1,.bool true,.string ⟨#[118]⟩,.int .i64 1,.bool false] 62)).alloc (Obj.cells #[.int .i64 0] 3)).alloc (Obj.cells #[.int .i64 1] 3)).alloc (Obj.cells #[.string ⟨#[105]⟩,.slice (some ⟨w.heap.size + 1 + 1,0,none⟩) 1 1,.bool false] 64)).alloc (Obj.cells #[.string ⟨#[116]⟩,.slice (some ⟨w.heap.size,0,none⟩) 2 2,.slice (some ⟨w.heap.size + 1,0,none⟩) 1 1,.int .i64 0,.slice (some ⟨w.heap.size + 1 + 1 + 1,0,none⟩) 1 1] 47)).alloc (Obj.cells #[.slice (some ⟨w.heap.size + 1 + 1 + 1 + 1,0,none⟩) 1 1,.slice none 0 0] 25) = W ∧ Below w.heap.size w W ∧ TT.CtR W bC [.slice (some ⟨w.heap.size + 1 + 1 + 1 + 1,0,none⟩) 1 1,.slice none 0 0] ∧ W.heap[w.heap.size + 1 + 1 + 1 + 1 + 1]? = some (.cells #[.slice (some ⟨w.heap.size + 1 + 1 + 1 + 1,0,none⟩) 1 1,.slice none 0 0] 25 (0,0)):=by
 have hx:=ex_blocks w (Obj.cells #[.string ⟨#[107]⟩,.int .i64 1,.bool true,.string ⟨#[118]⟩,.int .i64 1,.bool false] 62) (Obj.cells #[.int .i64 0] 3) (Obj.cells #[.int .i64 1] 3) (Obj.cells #[.string ⟨#[105]⟩,.slice (some ⟨w.heap.size + 1 + 1,0,none⟩) 1 1,.bool false] 64) (Obj.cells #[.string ⟨#[116]⟩,.slice (some ⟨w.heap.size,0,none⟩) 2 2,.slice (some ⟨w.heap.size + 1,0,none⟩) 1 1,.int .i64 0,.slice (some ⟨w.heap.size + 1 + 1 + 1,0,none⟩) 1 1] 47) (Obj.cells #[.slice (some ⟨w.heap.size + 1 + 1 + 1 + 1,0,none⟩) 1 1,.slice none 0 0] 25)
 have h0:=alloc_block9 (o:=Obj.cells #[.slice (some ⟨w.heap.size + 1 + 1 + 1 + 1,0,none⟩) 1 1,.slice none 0 0] 25) (alloc_block9 (o:=Obj.cells #[.string ⟨#[116]⟩,.slice (some ⟨w.heap.size,0,none⟩) 2 2,.slice (some ⟨w.heap.size + 1,0,none⟩) 1 1,.int .i64 0,.slice (some ⟨w.heap.size + 1 + 1 + 1,0,none⟩) 1 1] 47) (alloc_block9 (o:=Obj.cells #[.string ⟨#[105]⟩,.slice (some ⟨w.heap.size + 1 + 1,0,none⟩) 1 1,.bool false] 64) (alloc_block9 (o:=Obj.cells #[.int .i64 1] 3) (alloc_block9 (o:=Obj.cells #[.int .i64 0] 3) (heap_alloc_new w (Obj.cells #[.string ⟨#[107]⟩,.int .i64 1,.bool true,.string ⟨#[118]⟩,.int .i64 1,.bool false] 62))))))
 refine ⟨_,rfl,below_alloc9 (below_alloc9 (below_alloc9 (below_alloc9 (below_alloc9 (below_alloc9 (Bxr _ w) _) _) _) _) _) _,⟨_,1,none,0,rfl,rowR_block hx.2.2.2.1 ?_,TT.RowR.nil⟩,hx.2.2.2.2⟩
 intro i hi
 match i,hi with
 | 0,_ =>
  refine ⟨[.string ⟨#[116]⟩,.slice (some ⟨w.heap.size,0,none⟩) 2 2,.slice (some ⟨w.heap.size + 1,0,none⟩) 1 1,.int .i64 0,.slice (some ⟨w.heap.size + 1 + 1 + 1,0,none⟩) 1 1],⟨_,_,_,_,_,_,rfl,rowR_block h0 ?_,rowR_block hx.1 ?_,rowR_block hx.2.2.1 ?_⟩,rfl,fun j hj => match j,hj with | 0,_ => rfl | 1,_ => rfl | 2,_ => rfl | 3,_ => rfl | 4,_ => rfl⟩
  ·intro i hi
   match i,hi with
   | 0,_ => exact ⟨_,rfl,rfl,fun j hj => match j,hj with | 0,_ => rfl | 1,_ => rfl | 2,_ => rfl⟩
   | 1,_ => exact ⟨_,rfl,rfl,fun j hj => match j,hj with | 0,_ => rfl | 1,_ => rfl | 2,_ => rfl⟩
  ·intro i hi
   match i,hi with
   | 0,_ => exact ⟨_,rfl,rfl,fun j hj => match j,hj with | 0,_ => rfl⟩
  ·intro i hi
   match i,hi with
   | 0,_ =>
    refine ⟨[.string ⟨#[105]⟩,.slice (some ⟨w.heap.size + 1 + 1,0,none⟩) 1 1,.bool false],⟨_,_,rfl,rowR_block hx.2.1 ?_⟩,rfl,fun j hj => match j,hj with | 0,_ => rfl | 1,_ => rfl | 2,_ => rfl⟩
    intro i hi
    match i,hi with
    | 0,_ => exact ⟨_,rfl,rfl,fun j hj => match j,hj with | 0,_ => rfl⟩
theorem st_scan_any {B C : Nat} {T U : Nat → Prop} (W : World) (k s P : Nat) (tv dv : Value) (D : TD) (hD : D.t = bT) (rs : List Row3) (hk : WkB W k s 0 false dv) (h : StM W B T U s bC P tv 0 [(D,rs)]) (hm : Env W C) :
  Calls Tryz.prog 12 #[.pointer (some ⟨k,0,none⟩),.int .i64 0,.int .i64 0,.string ⟨#[]⟩,.string ⟨#[]⟩] W fun e w' => Below W.heap.size W w' ∧ ∃ p c R,e = .returned (.slice p R.length c) ∧ RowsO w' W.heap.size (.slice p R.length c) R ∧ ScanP D 1 rs ⟨#[]⟩ ⟨#[]⟩ R:=by
 have hK : D.K = 2:=by unfold TD.K; rw [hD]; rfl
 refine (wscan9_any W k s 0 false dv bC P tv 0 [(D,rs)] hk h hm 0 0 ⟨#[]⟩ ⟨#[]⟩).mono ?_
 rintro e w' ⟨hb,v,R,rfl,hr,⟨j,n,x,-,hx,hj,hn,hnK,hs⟩ | ⟨hc,_⟩⟩
 ·obtain rfl:=one_at hx hj
  obtain rfl : n = 1:=by omega
  obtain ⟨us,_,ho,_⟩:=hr.own
  obtain ⟨p,c,rfl⟩:=ownF ho
  exact ⟨hb,p,c,R,rfl,hr,hs⟩
 ·exact absurd (by rw [hK]; decide) (hc 0 1 (D,rs) ⟨rfl,rfl⟩ rfl rfl rfl)
structure EndP (B P s t x : Nat) (tv1 tv2 dv3 : Value) (D1 D2 : TD) (U1 U2 T2 : Nat → Prop) (r2 : List Row3) (w : World) : Prop where
 ex : ∃ (T' : Nat → Prop) (r : List Row3),StM w B T' U1 s bC P tv1 0 [(D1,r)] ∧ ∀ q,q ∈ r ↔ q ∈ r2
 st2 : StM w B T2 U2 t bC 1 tv2 0 [(D2,r2)]
 wx : WkB w x t 0 false dv3
theorem dD {w : World} {B P s : Nat} {T U : Nat → Prop} {tv : Value} {D : TD} {rs : List Row3} (h : StM w B T U s bC P tv 0 [(D,rs)]) : D.t = bT:=by simpa [bC] using h.defs.1
theorem beside_undo {w : World} {B C P s t a b x n : Nat} {tv1 tv2 : Value} {D1 D2 : TD} {U1 U2 T1 T2 A1 A2 A3 : Nat → Prop} {dv1 dv2 dv3 : Value} {S1 S2 S3 : List Strk} {r1 r2 : List Row3} (h : Dq w B P s t a b x tv1 tv2 D1 D2 U1 U2 T1 T2 A1 A2 A3 dv1 dv2 dv3 S1 S2 S3 r1 r2) (hr : Rw S1 S2 S3 r1 r2 n) (hn : n ≤ 3000000000) (hm : Env w C) (hCB : C ≤ B) :
  Calls Tryz.prog 19 #[.pointer (some ⟨a,0,none⟩)] w fun e w' => e = .returned (.tuple #[]) ∧ EndP B P s t x tv1 tv2 dv3 D1 D2 U1 U2 T2 r2 w' ∧ WkB w' b s 0 false dv2 ∧ (∀ w2,Only (fun q => q = b) w' w2 → EndP B P s t x tv1 tv2 dv3 D1 D2 U1 U2 T2 r2 w2) ∧ Below B w w' ∧ B ≤ b:=by
 have hD:=dD h.st1
 refine (undo9_any w a s 0 false dv1 bC P tv1 0 [(D1,r1)] S1 h.wa h.st1 hm hCB (fun q e => ⟨fun e2 => h.a1 q e (Or.inl e2),fun e2 => h.a1 q e (Or.inr (Or.inl e2)),fun e2 => h.a1 q e (Or.inr (Or.inr (Or.inl e2))),fun e2 => h.a1 q e (Or.inr (Or.inr (Or.inr e2)))⟩) (Nat.le_trans hr.strokes.1 hn) (fun y hy => by rw [(hr.small y hy).1]; simp) (hr.back D1 hD)).mono ?_
 rintro e w' ⟨rfl,⟨hc,_⟩ | ⟨_,T',hs,ht,ho,hw,_⟩⟩
 ·exact absurd ⟨rfl,rfl⟩ hc
 ·obtain ⟨r,he,hrr⟩:=hr.undo D1 hD
  rw [he] at hs
  have hlb:=h.wb.lo b h.wb.zone.1
  have hlx:=h.wx.lo x h.wx.zone.1
  have e2 : StM w' B T2 U2 t bC 1 tv2 0 [(D2,r2)]:=h.st2.keep ho fun q hq hz => by
   rcases hq with e | e
   ·exact h.d q (Or.inl e) hz
   ·subst e
    exact h.b1 q h.wa.zone.1 hz
  have ex : WkB w' x t 0 false dv3:=(ho.block x hlx.2 fun e => by
   rcases e with e | e
   ·exact h.a3 x h.wx.zone.1 (Or.inl e)
   ·exact h.c13 a h.wa.zone.1 (e ▸ h.wx.zone.1)).trans h.wx.blk
  have eb : WkB w' b s 0 false dv2:=(ho.block b hlb.2 fun e => by
   rcases e with e | e
   ·exact h.a2 b h.wb.zone.1 (Or.inl e)
   ·exact h.c12 a h.wa.zone.1 (e ▸ h.wb.zone.1)).trans h.wb.blk
  refine ⟨rfl,⟨⟨T',r,hs,hrr⟩,e2,ex⟩,eb,fun w2 ho2 => ⟨⟨T',r,hs.keep ho2 fun q hq hz => ?_,hrr⟩,e2.keep ho2 fun q hq hz => ?_,(ho2.block x (Zll hlx.2 ho.size) fun e => ?_).trans ex⟩,ho.below Om fun q hq e => ?_,hlb.1⟩
  ·subst hq
   rcases hz with e | e
   ·rcases ht q e with e | e
    ·exact h.a2 q h.wb.zone.1 (Or.inl e)
    ·omega
   ·exact h.a2 q h.wb.zone.1 (Or.inr e)
  ·subst hq
   exact h.b2 q h.wb.zone.1 hz
  ·exact h.c23 b h.wb.zone.1 (e ▸ h.wx.zone.1)
  ·rcases e with e | e
   ·have:=h.st1.ge q (Or.inl e)
    omega
   ·subst e
    have:=(h.wa.lo q h.wa.zone.1).1
    omega
theorem PutZ.below {w w' : World} {B k s P : Nat} {T U A T' A' : Nat → Prop} {tv dv : Value} {L : TabL} {S : List Strk} (h : PutZ w w' T U s tv A T' A') (hs : StM w B T U s bC P tv 0 L) (hw : WkM w B A k s 0 false dv S) : Below B w w':=h.only.below (by have:=hw.lo k hw.zone.1; omega) fun q hq e => by
 rcases e with e | e
 ·have:=hs.ge q (Or.inl e)
  omega
 ·have:=(hw.lo q e).1
  omega
theorem hs10_same {w w' : World} {B B' P P' s t j : Nat} {T U T' U' : Nat → Prop} {tv tv' : Value} {D D' : TD} {r r' R R' : List Row3} (h : StM w B T U s bC P tv 0 [(D,r)]) (h' : StM w' B' T' U' t bC P' tv' 0 [(D',r')]) (hr : ∀ q,q ∈ r ↔ q ∈ r') {lo hi : ByteArray} (hs : ScanP D j r lo hi R) (hs' : ScanP D' j r' lo hi R') : R = R':=hs.same hs' ((dD h').trans (dD h).symm) hr
theorem scan_small {w : World} {B P s j : Nat} {T U : Nat → Prop} {tv : Value} {D : TD} {rs R : List Row3} (h : StM w B T U s bC P tv 0 [(D,rs)]) {lo hi : ByteArray} (hs : ScanP D j rs lo hi R) : R.length ≤ 4000000000 ∧ ∀ r ∈ R,r.length ≤ 2147483648:=by
 have ho:=h.tabs.ok 0 Si
 have hl : rs.length ≤ 3000000000:=ho.2.2.2
 have hR:=hs.len
 refine ⟨by omega,fun r hr => ?_⟩
 have:=(ho.1.fit r ((hs.2 r).1 hr).1).1
 have hD:=dD h
 simp only [List.getElem_cons_zero] at this
 rw [hD] at this
 rw [this]
 decide
end
end Go.Proofs.YtmmmkjhpmlfopaaGreatDoor
