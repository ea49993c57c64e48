/- A120 -/
import Derived.Test.YtffalonhkemieaaGreatDoorSA119
set_option maxHeartbeats 8000000
set_option maxRecDepth 100000
namespace Go.Proofs.YtffalonhkemieaaGreatDoor
open Go.RowKit
def restQ (w : World) (P : Nat) : Nat:=match w.heap[P]? with
 | some (.cells cs _ _) => (match (cs.getD 0 undef : Value) with
  | .slice _ n _ => n
  | _ => 0) - (match (cs.getD 1 undef : Value) with
  | .int _ p => p.toNat
  | _ => 0)
 | _ => 0

theorem RA.restQ {w : World} {P M : Nat} {r : RS} (h : RA w P M r) : restQ w P = r.ps.rest.length:=by
 obtain ⟨g,off,cap,ka,kc,h1,_⟩:=h.mem
 unfold Go.Proofs.YtffalonhkemieaaGreatDoor.restQ
 rw [h1]
 show r.all.length - (r.pos : Int).toNat = (r.all.drop r.pos).length
 simp

theorem qproduct_step (P M : Nat) (r : RS) (w : World) (h : RA w P M r) (n : Nat) (hn : r.ps.rest.length ≤ n) (hf : QUpto n P 201 .fact) : Calls Tryz.prog 192 #[.pointer (some ⟨P,0,none⟩)] w (QX (Pr .prod) P M r w):=by
 have HA:=Hd (Aq.start h)
 have hPw:=h.lt
 have HLN : Hid (r.ps.rest.length ≤ r.ps.rest.length):=Nat.le_refl _
 clear h
 have HF:=Hd hf
 clear hf
 go_enter Tryz.func192,Tryz.ntmps192
 obtain ⟨W1,hW1,HA⟩:=HA.out.pushE Vo 48
 go_wp2_with fail
 clear hW1
 refine (HF.out _ r _ hn HA.out.ra).mono ?_
 rintro e w2 ⟨x2,a2,m2,c2,M2,r2,rfl,hk,hp,ho,hm,hl,hx⟩
 have HK2:=Hd hk
 have HLL2:=Hd hl
 replace HA:=Hd (HA.out.gainX ho hm hp hk.right hx)
 replace HLN:=Hd (Nat.le_trans hl HLN.out)
 clear ho hp hl hk hm hx
 obtain ⟨kk2,oo2,⟨v12,v22,v32⟩,tt2,nn2,ks2,pp2⟩:=x2
 simp only [exV,exC]
 obtain ⟨W3,hW3,HA⟩:=HA.out.pushE (Ve kk2 oo2 v12 v22 v32 tt2 nn2 (.slice a2 m2 c2) pp2) 48
 go_wp2_with fail
 clear hW3
 go_loopw [] (fun wr => ∃ (x : Ex) (a : Option Addr) (m c : Nat) (M1 : Nat) (r1 : RS),Aq w P M M1 r1 [(w2.heap.size,.cells (exC x (.slice a m c)).toArray 48 (0,0)),(w.heap.size,.cells Vo 48 (0,0))] (fun W => XO W w.heap.size x (.slice a m c)) wr ∧ r1.ps.rest.length ≤ r.ps.rest.length ∧ (∀ y r',Lk (Pr (.prodL x)) r1 y r' → Lk (Pr .prod) r y r')) (fun wr => restQ wr P)
 case atStart => exact ⟨(Ex.mk kk2 oo2 (v12,v22,v32) tt2 nn2 ks2 pp2),a2,m2,c2,M2,r2,HA.out.imp fun _ _ h => h.2,HLN.out,fun y r' q => Lk.prod_go HK2.out q⟩
 case round =>
  obtain ⟨x,a,m,c,M1,r1,ha,hl,hg⟩:=hrel
  obtain ⟨kk,oo,⟨v1,v2,v3⟩,tt,nn,ks,pp⟩:=x
  have HRN:=Hd ha.ra.restQ
  have HOK1:=Hd ha.ra.ok
  clear HA HLN HK2 HLL2
  have HA : Hid (Aq w P M M1 r1 [(w2.heap.size,.cells (Ve kk oo v1 v2 v3 tt nn (.slice a m c) pp) 48 (0,0)),(w.heap.size,.cells Vo 48 (0,0))] (fun W => XO W w.heap.size (Ex.mk kk oo (v1,v2,v3) tt nn ks pp) (.slice a m c)) wr):=ha
  have HLN:=Hd hl
  have HG:=Hd hg
  clear ha hl hg
  obtain ⟨⟨⟨tk1,tn1,tt1⟩,ta1⟩,hh⟩ : ∃ x,(r1).ps.hd = x:=⟨_,rfl⟩
  have HT:=qnh P M1 hh
  have HH1:=Hd hh
  clear hh
  go_wp2_with fail
  refine (HT.out _ HA.out.ra).mono ?_
  rintro e w4 ⟨rfl,hb⟩
  replace HA:=Hd (HA.out.bel hb)
  clear hb HT
  obtain ⟨W5,hW5,HA⟩:=HA.out.pushE (Vk tk1 tn1 tt1 ta1) 43
  obtain ⟨W6,hW6,HA⟩:=HA.out.pushE #[.string ⟨#[42]⟩,.string ⟨#[47]⟩,.string ⟨#[37]⟩] 9
  have HWD : Hid (WordsAt W6 (W5.heap.size) [⟨#[42]⟩,⟨#[47]⟩,⟨#[37]⟩]):=WordsAt.of3 (HA.out.at 0 rfl)
  have hwb : W5.heap.size < W6.heap.size:=(Array.getElem?_eq_some_iff.1 (HA.out.at 0 rfl)).1
  have hwP : W5.heap.size ≠ P:=Nat.ne_of_gt (Nat.lt_of_lt_of_le hPw (HA.out.has _ (List.mem_cons_self)).1)
  have hwM : W5.heap.size ≠ M1:=(HA.out.has _ (List.mem_cons_self)).2.1
  go_wp2_with fail
  clear hW5 hW6
  refine (qoneOf_any P (M1) (r1) (W5.heap.size) [⟨#[42]⟩,⟨#[47]⟩,⟨#[37]⟩] 3 _ HA.out.ra HWD.out hwb hwP hwM (by decide)).mono ?_
  rintro e w7 ⟨rfl,hp,ho⟩
  rw [show wl [⟨#[42]⟩,⟨#[47]⟩,⟨#[37]⟩] = prodW from rfl] at hp ⊢
  replace HA:=Hd HA.out.drop
  clear HWD hwb hwP hwM
  cases hS : (r1).pick prodW with
  | none =>
   rw [hS] at hp
   have HS7:=Hd hS
   clear hS
   simp only [pickI]
   replace hp : RA w7 P (M1) (r1):=hp
   replace HA:=Hd (HA.out.call ho (Or.inl rfl) hp fun k => k)
   clear hp ho
   have ze:=nine_of (HA.out.at 1 rfl)
   have zzr:=nine_of (HA.out.at 2 rfl)
   have HLK:=Hd (HG.out _ _ (Lk.prod_end HS7.out))
   go_wp2
   have HD:=Hd (HA.out.fill 2 rfl [Vi kk,Vi oo,Vi v1,Vi v2,.string v3,.string tt,.string nn,.slice a m c,Vi pp] rfl)
   obtain ⟨W99,hW99⟩:=Vx (setsL w7 w.heap.size 0 [Vi kk,Vi oo,Vi v1,Vi v2,.string v3,.string tt,.string nn,.slice a m c,Vi pp])
   rw [hW99] at HD
   simp only [setsL,Nat.reduceAdd] at hW99
   rw [hW99]
   have zy:=(nine_of (HD.out.at 2 rfl)).1
   clear hW99
   exact bodyPost_ret (v:=exV (Ex.mk kk oo (v1,v2,v3) tt nn ks pp) (.slice a m c)) (by simp [results,Tryz.results192,go_sem,exV,exC,zy]) rfl (HD.out.qx HLK.out HLN.out fun _ _ h => h)
  | some j7 =>
   rw [hS] at hp
   have HS7:=Hd hS
   clear hS
   simp only [pickI]
   replace hp : RA w7 P (M1) (r1).step:=hp
   replace HA:=Hd (HA.out.call ho (Or.inl rfl) hp fun k => k)
   replace HLN:=Hd (Nat.le_trans (RS.step_le _) HLN.out)
   clear hp ho
   have hj0 : (0 : Int) ≤ (j7 : Int):=by omega
   have hjn : ¬ ((j7 : Int) < 0):=by omega
   have hj3 : (j7 : Int) < 3:=by obtain ⟨x,hx,_⟩:=RS.pick_some HS7.out; have:=(List.getElem?_eq_some_iff.1 hx).1; have h2 : prodW.length = 3:=rfl; omega
   go_wp2_with fail
   refine (HF.out _ (r1).step _ (Nat.le_trans HLN.out hn) HA.out.ra).mono ?_
   rintro e w8 ⟨x8,a8,m8,c8,M8,r8,rfl,hk,hp,ho,hm,hl,hx⟩
   have HK8:=Hd hk
   have HLL8:=Hd hl
   replace HA:=Hd (HA.out.gainX ho hm hp hk.right hx)
   replace HLN:=Hd (Nat.le_trans hl HLN.out)
   clear ho hp hl hk hm hx
   obtain ⟨kk8,oo8,⟨v18,v28,v38⟩,tt8,nn8,ks8,pp8⟩:=x8
   simp only [exV,exC]
   obtain ⟨W9,hW9,HA⟩:=HA.out.pushE (Ve kk8 oo8 v18 v28 v38 tt8 nn8 (.slice a8 m8 c8) pp8) 48
   have zf:=nine_of (HA.out.at 0 rfl)
   have zt:=four_of (HA.out.at 1 rfl)
   have ze:=nine_of (HA.out.at 2 rfl)
   obtain ⟨W10,hW10,HA⟩:=HA.out.pushE #[Vi kk,Vi oo,Vi v1,Vi v2,.string v3,.string tt,.string nn,.slice a m c,Vi pp,Vi kk8,Vi oo8,Vi v18,Vi v28,.string v38,.string tt8,.string nn8,.slice a8 m8 c8,Vi pp8] 48
   have zg:=nine_of (HA.out.at 3 rfl)
   have zu:=four_of (HA.out.at 2 rfl)
   have hlb : w.heap.size ≤ W9.heap.size:=(HA.out.has _ (List.mem_cons_self)).1
   replace HA:=Hd (Aq.puts 3 [Vi 5,Vi (3 + (j7 : Int)),Vi 0,Vi 0,Vs,Vs,Vs,.slice (some ⟨W9.heap.size,0,none⟩) 2 2,Vi (ta1 : Int)] 0 HA.out rfl)
   simp only [putsA,Nat.reduceAdd,Sa,Sb,Sc] at HA
   obtain ⟨W11,hW11⟩:=Vx (setsL W10 (w2.heap.size) 0 [Vi 5,Vi (3 + (j7 : Int)),Vi 0,Vi 0,Vs,Vs,Vs,.slice (some ⟨W9.heap.size,0,none⟩) 2 2,Vi (ta1 : Int)])
   rw [hW11] at HA
   simp only [setsL,Nat.reduceAdd] at hW11
   replace HA:=Hd ((HA.out.own (J:=fun W => XO W w.heap.size (over 5 (3 + (j7 : Int)) ta1 [(Ex.mk kk oo (v1,v2,v3) tt nn ks pp),(Ex.mk kk8 oo8 (v18,v28,v38) tt8 nn8 ks8 pp8)]) (.slice (some ⟨W9.heap.size,0,none⟩) 2 2)) fun W h hb => XO.two h.1 h.2 hb hlb).drop.drop)
   clear hlb
   go_wp2
   clear hW9 hW10 hW11
   go_roundw
   case rel => exact ⟨(over 5 (3 + (j7 : Int)) ta1 [(Ex.mk kk oo (v1,v2,v3) tt nn ks pp),(Ex.mk kk8 oo8 (v18,v28,v38) tt8 nn8 ks8 pp8)]),some ⟨W9.heap.size,0,none⟩,2,2,M8,r8,HA.out,HLN.out,fun y r' q => HG.out y r' (Lk.prod_more HS7.out HK8.out (by rw [HH1.out]; exact q))⟩
   case measure => rw [HA.out.ra.restQ,HRN.out]; exact Nat.lt_of_le_of_lt HLL8.out (RS.step_lt HOK1.out)

theorem qsum_step (P M : Nat) (r : RS) (w : World) (h : RA w P M r) (n : Nat) (hn : r.ps.rest.length ≤ n) (hf : QUpto n P 192 .prod) : Calls Tryz.prog 182 #[.pointer (some ⟨P,0,none⟩)] w (QX (Pr .sum) P M r w):=by
 have HA:=Hd (Aq.start h)
 have hPw:=h.lt
 have HLN : Hid (r.ps.rest.length ≤ r.ps.rest.length):=Nat.le_refl _
 clear h
 have HF:=Hd hf
 clear hf
 go_enter Tryz.func182,Tryz.ntmps182
 obtain ⟨W1,hW1,HA⟩:=HA.out.pushE Vo 48
 go_wp2_with fail
 clear hW1
 refine (HF.out _ r _ hn HA.out.ra).mono ?_
 rintro e w2 ⟨x2,a2,m2,c2,M2,r2,rfl,hk,hp,ho,hm,hl,hx⟩
 have HK2:=Hd hk
 have HLL2:=Hd hl
 replace HA:=Hd (HA.out.gainX ho hm hp hk.right hx)
 replace HLN:=Hd (Nat.le_trans hl HLN.out)
 clear ho hp hl hk hm hx
 obtain ⟨kk2,oo2,⟨v12,v22,v32⟩,tt2,nn2,ks2,pp2⟩:=x2
 simp only [exV,exC]
 obtain ⟨W3,hW3,HA⟩:=HA.out.pushE (Ve kk2 oo2 v12 v22 v32 tt2 nn2 (.slice a2 m2 c2) pp2) 48
 go_wp2_with fail
 clear hW3
 go_loopw [] (fun wr => ∃ (x : Ex) (a : Option Addr) (m c : Nat) (M1 : Nat) (r1 : RS),Aq w P M M1 r1 [(w2.heap.size,.cells (exC x (.slice a m c)).toArray 48 (0,0)),(w.heap.size,.cells Vo 48 (0,0))] (fun W => XO W w.heap.size x (.slice a m c)) wr ∧ r1.ps.rest.length ≤ r.ps.rest.length ∧ (∀ y r',Lk (Pr (.sumL x)) r1 y r' → Lk (Pr .sum) r y r')) (fun wr => restQ wr P)
 case atStart => exact ⟨(Ex.mk kk2 oo2 (v12,v22,v32) tt2 nn2 ks2 pp2),a2,m2,c2,M2,r2,HA.out.imp fun _ _ h => h.2,HLN.out,fun y r' q => Lk.sum_go HK2.out q⟩
 case round =>
  obtain ⟨x,a,m,c,M1,r1,ha,hl,hg⟩:=hrel
  obtain ⟨kk,oo,⟨v1,v2,v3⟩,tt,nn,ks,pp⟩:=x
  have HRN:=Hd ha.ra.restQ
  have HOK1:=Hd ha.ra.ok
  clear HA HLN HK2 HLL2
  have HA : Hid (Aq w P M M1 r1 [(w2.heap.size,.cells (Ve kk oo v1 v2 v3 tt nn (.slice a m c) pp) 48 (0,0)),(w.heap.size,.cells Vo 48 (0,0))] (fun W => XO W w.heap.size (Ex.mk kk oo (v1,v2,v3) tt nn ks pp) (.slice a m c)) wr):=ha
  have HLN:=Hd hl
  have HG:=Hd hg
  clear ha hl hg
  obtain ⟨⟨⟨tk1,tn1,tt1⟩,ta1⟩,hh⟩ : ∃ x,(r1).ps.hd = x:=⟨_,rfl⟩
  have HT:=qnh P M1 hh
  have HH1:=Hd hh
  clear hh
  go_wp2_with fail
  refine (HT.out _ HA.out.ra).mono ?_
  rintro e w4 ⟨rfl,hb⟩
  replace HA:=Hd (HA.out.bel hb)
  clear hb HT
  obtain ⟨W5,hW5,HA⟩:=HA.out.pushE (Vk tk1 tn1 tt1 ta1) 43
  obtain ⟨W6,hW6,HA⟩:=HA.out.pushE #[.string ⟨#[43]⟩,.string ⟨#[45]⟩] 9
  have HWD : Hid (WordsAt W6 (W5.heap.size) [⟨#[43]⟩,⟨#[45]⟩]):=WordsAt.of2 (HA.out.at 0 rfl)
  have hwb : W5.heap.size < W6.heap.size:=(Array.getElem?_eq_some_iff.1 (HA.out.at 0 rfl)).1
  have hwP : W5.heap.size ≠ P:=Nat.ne_of_gt (Nat.lt_of_lt_of_le hPw (HA.out.has _ (List.mem_cons_self)).1)
  have hwM : W5.heap.size ≠ M1:=(HA.out.has _ (List.mem_cons_self)).2.1
  go_wp2_with fail
  clear hW5 hW6
  refine (qoneOf_any P (M1) (r1) (W5.heap.size) [⟨#[43]⟩,⟨#[45]⟩] 2 _ HA.out.ra HWD.out hwb hwP hwM (by decide)).mono ?_
  rintro e w7 ⟨rfl,hp,ho⟩
  rw [show wl [⟨#[43]⟩,⟨#[45]⟩] = sumW from rfl] at hp ⊢
  replace HA:=Hd HA.out.drop
  clear HWD hwb hwP hwM
  cases hS : (r1).pick sumW with
  | none =>
   rw [hS] at hp
   have HS7:=Hd hS
   clear hS
   simp only [pickI]
   replace hp : RA w7 P (M1) (r1):=hp
   replace HA:=Hd (HA.out.call ho (Or.inl rfl) hp fun k => k)
   clear hp ho
   have ze:=nine_of (HA.out.at 1 rfl)
   have zzr:=nine_of (HA.out.at 2 rfl)
   have HLK:=Hd (HG.out _ _ (Lk.sum_end HS7.out))
   go_wp2
   have HD:=Hd (HA.out.fill 2 rfl [Vi kk,Vi oo,Vi v1,Vi v2,.string v3,.string tt,.string nn,.slice a m c,Vi pp] rfl)
   obtain ⟨W99,hW99⟩:=Vx (setsL w7 w.heap.size 0 [Vi kk,Vi oo,Vi v1,Vi v2,.string v3,.string tt,.string nn,.slice a m c,Vi pp])
   rw [hW99] at HD
   simp only [setsL,Nat.reduceAdd] at hW99
   rw [hW99]
   have zy:=(nine_of (HD.out.at 2 rfl)).1
   clear hW99
   exact bodyPost_ret (v:=exV (Ex.mk kk oo (v1,v2,v3) tt nn ks pp) (.slice a m c)) (by simp [results,Tryz.results182,go_sem,exV,exC,zy]) rfl (HD.out.qx HLK.out HLN.out fun _ _ h => h)
  | some j7 =>
   rw [hS] at hp
   have HS7:=Hd hS
   clear hS
   simp only [pickI]
   replace hp : RA w7 P (M1) (r1).step:=hp
   replace HA:=Hd (HA.out.call ho (Or.inl rfl) hp fun k => k)
   replace HLN:=Hd (Nat.le_trans (RS.step_le _) HLN.out)
   clear hp ho
   have hj0 : (0 : Int) ≤ (j7 : Int):=by omega
   have hjn : ¬ ((j7 : Int) < 0):=by omega
   have hj3 : (j7 : Int) < 2:=by obtain ⟨x,hx,_⟩:=RS.pick_some HS7.out; have:=(List.getElem?_eq_some_iff.1 hx).1; have h2 : sumW.length = 2:=rfl; omega
   go_wp2_with fail
   refine (HF.out _ (r1).step _ (Nat.le_trans HLN.out hn) HA.out.ra).mono ?_
   rintro e w8 ⟨x8,a8,m8,c8,M8,r8,rfl,hk,hp,ho,hm,hl,hx⟩
   have HK8:=Hd hk
   have HLL8:=Hd hl
   replace HA:=Hd (HA.out.gainX ho hm hp hk.right hx)
   replace HLN:=Hd (Nat.le_trans hl HLN.out)
   clear ho hp hl hk hm hx
   obtain ⟨kk8,oo8,⟨v18,v28,v38⟩,tt8,nn8,ks8,pp8⟩:=x8
   simp only [exV,exC]
   obtain ⟨W9,hW9,HA⟩:=HA.out.pushE (Ve kk8 oo8 v18 v28 v38 tt8 nn8 (.slice a8 m8 c8) pp8) 48
   have zf:=nine_of (HA.out.at 0 rfl)
   have zt:=four_of (HA.out.at 1 rfl)
   have ze:=nine_of (HA.out.at 2 rfl)
   obtain ⟨W10,hW10,HA⟩:=HA.out.pushE #[Vi kk,Vi oo,Vi v1,Vi v2,.string v3,.string tt,.string nn,.slice a m c,Vi pp,Vi kk8,Vi oo8,Vi v18,Vi v28,.string v38,.string tt8,.string nn8,.slice a8 m8 c8,Vi pp8] 48
   have zg:=nine_of (HA.out.at 3 rfl)
   have zu:=four_of (HA.out.at 2 rfl)
   have hlb : w.heap.size ≤ W9.heap.size:=(HA.out.has _ (List.mem_cons_self)).1
   replace HA:=Hd (Aq.puts 3 [Vi 5,Vi (1 + (j7 : Int)),Vi 0,Vi 0,Vs,Vs,Vs,.slice (some ⟨W9.heap.size,0,none⟩) 2 2,Vi (ta1 : Int)] 0 HA.out rfl)
   simp only [putsA,Nat.reduceAdd,Sa,Sb,Sc] at HA
   obtain ⟨W11,hW11⟩:=Vx (setsL W10 (w2.heap.size) 0 [Vi 5,Vi (1 + (j7 : Int)),Vi 0,Vi 0,Vs,Vs,Vs,.slice (some ⟨W9.heap.size,0,none⟩) 2 2,Vi (ta1 : Int)])
   rw [hW11] at HA
   simp only [setsL,Nat.reduceAdd] at hW11
   replace HA:=Hd ((HA.out.own (J:=fun W => XO W w.heap.size (over 5 (1 + (j7 : Int)) ta1 [(Ex.mk kk oo (v1,v2,v3) tt nn ks pp),(Ex.mk kk8 oo8 (v18,v28,v38) tt8 nn8 ks8 pp8)]) (.slice (some ⟨W9.heap.size,0,none⟩) 2 2)) fun W h hb => XO.two h.1 h.2 hb hlb).drop.drop)
   clear hlb
   go_wp2
   clear hW9 hW10 hW11
   go_roundw
   case rel => exact ⟨(over 5 (1 + (j7 : Int)) ta1 [(Ex.mk kk oo (v1,v2,v3) tt nn ks pp),(Ex.mk kk8 oo8 (v18,v28,v38) tt8 nn8 ks8 pp8)]),some ⟨W9.heap.size,0,none⟩,2,2,M8,r8,HA.out,HLN.out,fun y r' q => HG.out y r' (Lk.sum_more HS7.out HK8.out (by rw [HH1.out]; exact q))⟩
   case measure => rw [HA.out.ra.restQ,HRN.out]; exact Nat.lt_of_le_of_lt HLL8.out (RS.step_lt HOK1.out)
end Go.Proofs.YtffalonhkemieaaGreatDoor
