/- A121 -/
import Derived.Test.YtffalonhkemieaaGreatDoorSA119
set_option maxHeartbeats 8000000
set_option maxRecDepth 100000
namespace Go.Proofs.YtffalonhkemieaaGreatDoor
open Go.RowKit
theorem qtest_step (P M : Nat) (r : RS) (w : World) (h : RA w P M r) (n : Nat) (hn : r.ps.rest.length ≤ n) (hf : QUpto n P 182 .sum) : Calls Tryz.prog 173 #[.pointer (some ⟨P,0,none⟩)] w (QX (Pr .test) P M r w):=by
 have HA:=Hd (Aq.start h)
 have hPw:=h.lt
 have HLN : Hid (r.ps.rest.length ≤ r.ps.rest.length):=Nat.le_refl _
 clear h
 have HF:=Hd hf
 clear hf
 go_enter Tryz.func173,Tryz.ntmps173
 obtain ⟨W1,hW1,HA⟩:=HA.out.pushE Vo 48
 go_wp2_with fail
 clear hW1
 refine (HF.out _ r _ hn HA.out.ra).mono ?_
 rintro e w2 ⟨x2,a2,m2,c2,M2,r2,rfl,hk,hp,ho,hm,hl,hx⟩
 have HK2:=Hd hk
 have HLL2:=Hd hl
 replace HA:=Hd (HA.out.gainX ho hm hp hk.right hx)
 replace HLN:=Hd (Nat.le_trans hl HLN.out)
 clear ho hp hl hk hm hx
 obtain ⟨kk2,oo2,⟨v12,v22,v32⟩,tt2,nn2,ks2,pp2⟩:=x2
 simp only [exV,exC]
 obtain ⟨W3,hW3,HA⟩:=HA.out.pushE (Ve kk2 oo2 v12 v22 v32 tt2 nn2 (.slice a2 m2 c2) pp2) 48
 obtain ⟨⟨⟨tk1,tn1,tt1⟩,ta1⟩,hh⟩ : ∃ x,(r2).ps.hd = x:=⟨_,rfl⟩
 have HT:=qnh P M2 hh
 have HH1:=Hd hh
 clear hh
 go_wp2_with fail
 clear hW3
 refine (HT.out _ HA.out.ra).mono ?_
 rintro e w4 ⟨rfl,hb⟩
 replace HA:=Hd (HA.out.bel hb)
 clear hb HT
 obtain ⟨W5,hW5,HA⟩:=HA.out.pushE (Vk tk1 tn1 tt1 ta1) 43
 obtain ⟨W6,hW6,HA⟩:=HA.out.pushE #[.string ⟨#[61]⟩,.string ⟨#[60,62]⟩,.string ⟨#[60]⟩,.string ⟨#[60,61]⟩,.string ⟨#[62]⟩,.string ⟨#[62,61]⟩] 9
 have HWD : Hid (WordsAt W6 (W5.heap.size) [⟨#[61]⟩,⟨#[60,62]⟩,⟨#[60]⟩,⟨#[60,61]⟩,⟨#[62]⟩,⟨#[62,61]⟩]):=WordsAt.of6 (HA.out.at 0 rfl)
 have hwb : W5.heap.size < W6.heap.size:=(Array.getElem?_eq_some_iff.1 (HA.out.at 0 rfl)).1
 have hwP : W5.heap.size ≠ P:=Nat.ne_of_gt (Nat.lt_of_lt_of_le hPw (HA.out.has _ (List.mem_cons_self)).1)
 have hwM : W5.heap.size ≠ M2:=(HA.out.has _ (List.mem_cons_self)).2.1
 go_wp2_with fail
 clear hW5 hW6
 refine (qoneOf_any P (M2) (r2) (W5.heap.size) [⟨#[61]⟩,⟨#[60,62]⟩,⟨#[60]⟩,⟨#[60,61]⟩,⟨#[62]⟩,⟨#[62,61]⟩] 6 _ HA.out.ra HWD.out hwb hwP hwM (by decide)).mono ?_
 rintro e w7 ⟨rfl,hp,ho⟩
 rw [show wl [⟨#[61]⟩,⟨#[60,62]⟩,⟨#[60]⟩,⟨#[60,61]⟩,⟨#[62]⟩,⟨#[62,61]⟩] = cmpW from rfl] at hp ⊢
 replace HA:=Hd HA.out.drop
 clear HWD hwb hwP hwM
 cases hS : (r2).pick cmpW with
 | some j7 =>
  rw [hS] at hp
  have HS7:=Hd hS
  clear hS
  simp only [pickI]
  replace hp : RA w7 P (M2) (r2).step:=hp
  replace HA:=Hd (HA.out.call ho (Or.inl rfl) hp fun k => k)
  replace HLN:=Hd (Nat.le_trans (RS.step_le _) HLN.out)
  clear hp ho
  have hj0 : (0 : Int) ≤ (j7 : Int):=by omega
  have hj3 : (j7 : Int) < 6:=by obtain ⟨x,hx,_⟩:=RS.pick_some HS7.out; have:=(List.getElem?_eq_some_iff.1 hx).1; have h2 : cmpW.length = 6:=rfl; omega
  go_wp2_with fail
  refine (HF.out _ (r2).step _ (Nat.le_trans HLN.out hn) HA.out.ra).mono ?_
  rintro e w8 ⟨x8,a8,m8,c8,M8,r8,rfl,hk,hp,ho,hm,hl,hx⟩
  have HK8:=Hd hk
  have HLL8:=Hd hl
  replace HA:=Hd (HA.out.gainX ho hm hp hk.right hx)
  replace HLN:=Hd (Nat.le_trans hl HLN.out)
  clear ho hp hl hk hm hx
  obtain ⟨kk8,oo8,⟨v18,v28,v38⟩,tt8,nn8,ks8,pp8⟩:=x8
  simp only [exV,exC]
  obtain ⟨W9,hW9,HA⟩:=HA.out.pushE (Ve kk8 oo8 v18 v28 v38 tt8 nn8 (.slice a8 m8 c8) pp8) 48
  have zf:=nine_of (HA.out.at 0 rfl)
  have zt:=four_of (HA.out.at 1 rfl)
  have ze:=nine_of (HA.out.at 2 rfl)
  obtain ⟨W10,hW10,HA⟩:=HA.out.pushE #[Vi kk2,Vi oo2,Vi v12,Vi v22,.string v32,.string tt2,.string nn2,.slice a2 m2 c2,Vi pp2,Vi kk8,Vi oo8,Vi v18,Vi v28,.string v38,.string tt8,.string nn8,.slice a8 m8 c8,Vi pp8] 48
  have zu:=four_of (HA.out.at 2 rfl)
  have zzr:=nine_of (HA.out.at 4 rfl)
  have hlb : w.heap.size ≤ W9.heap.size:=(HA.out.has _ (List.mem_cons_self)).1
  have HLK:=Hd (show Lk (Pr .test) r (over 6 (1 + (j7 : Int)) ta1 [(Ex.mk kk2 oo2 (v12,v22,v32) tt2 nn2 ks2 pp2),(Ex.mk kk8 oo8 (v18,v28,v38) tt8 nn8 ks8 pp8)]) _ from by have:=Lk.test_cmp HK2.out HS7.out HK8.out; rw [HH1.out] at this; exact this)
  go_wp2
  clear hW9 hW10
  have HD:=Hd (HA.out.fill 4 rfl [Vi 6,Vi (1 + (j7 : Int)),Vi 0,Vi 0,Vs,Vs,Vs,.slice (some ⟨W9.heap.size,0,none⟩) 2 2,Vi (ta1 : Int)] rfl)
  obtain ⟨W99,hW99⟩:=Vx (setsL W10 w.heap.size 0 [Vi 6,Vi (1 + (j7 : Int)),Vi 0,Vi 0,Vs,Vs,Vs,.slice (some ⟨W9.heap.size,0,none⟩) 2 2,Vi (ta1 : Int)])
  rw [hW99] at HD
  simp only [setsL,Nat.reduceAdd] at hW99
  rw [hW99]
  have zy:=(nine_of (HD.out.at 4 rfl)).1
  clear hW99
  exact bodyPost_ret (v:=exV (over 6 (1 + (j7 : Int)) ta1 [(Ex.mk kk2 oo2 (v12,v22,v32) tt2 nn2 ks2 pp2),(Ex.mk kk8 oo8 (v18,v28,v38) tt8 nn8 ks8 pp8)]) (.slice (some ⟨W9.heap.size,0,none⟩) 2 2)) (by simp [results,Tryz.results173,go_sem,exV,exC,over,v0,zy]) rfl (HD.out.qx HLK.out HLN.out (fun W hL h => XO.two h.1.2 h.2 (hL _ (List.mem_of_getElem? (i:=0) rfl)) hlb))
 | none =>
  rw [hS] at hp
  have HS7:=Hd hS
  clear hS
  simp only [pickI]
  replace hp : RA w7 P (M2) (r2):=hp
  replace HA:=Hd (HA.out.call ho (Or.inl rfl) hp fun k => k)
  clear hp ho
  go_wp2_with fail
  refine (qtakes_any P (M2) (r2) ⟨#[73,83]⟩ _ HA.out.ra).mono ?_
  rintro e w11 ⟨rfl,hp,ho⟩
  cases hS : (r2).sees wIs with
  | false =>
   rw [show (r2).sees (⟨#[73,83]⟩ : ByteArray).data.toList = false from hS] at hp
   try rw [show (r2).sees (⟨#[73,83]⟩ : ByteArray).data.toList = false from hS]
   rw [if_neg (by decide)] at hp
   have HS11:=Hd hS
   replace HA:=Hd (HA.out.call ho (Or.inl rfl) hp fun k => k)
   clear hp ho hS
   have ze:=nine_of (HA.out.at 1 rfl)
   have zzr:=nine_of (HA.out.at 2 rfl)
   have HLK:=Hd (Lk.test_none HK2.out HS7.out HS11.out)
   go_wp2
   have HD:=Hd (HA.out.fill 2 rfl [Vi kk2,Vi oo2,Vi v12,Vi v22,.string v32,.string tt2,.string nn2,.slice a2 m2 c2,Vi pp2] rfl)
   obtain ⟨W99,hW99⟩:=Vx (setsL w11 w.heap.size 0 [Vi kk2,Vi oo2,Vi v12,Vi v22,.string v32,.string tt2,.string nn2,.slice a2 m2 c2,Vi pp2])
   rw [hW99] at HD
   simp only [setsL,Nat.reduceAdd] at hW99
   rw [hW99]
   have zy:=(nine_of (HD.out.at 2 rfl)).1
   clear hW99
   exact bodyPost_ret (v:=exV (Ex.mk kk2 oo2 (v12,v22,v32) tt2 nn2 ks2 pp2) (.slice a2 m2 c2)) (by simp [results,Tryz.results173,go_sem,exV,exC,zy]) rfl (HD.out.qx HLK.out HLN.out fun _ _ h => h.2)
  | true =>
   rw [show (r2).sees (⟨#[73,83]⟩ : ByteArray).data.toList = true from hS] at hp
   try rw [show (r2).sees (⟨#[73,83]⟩ : ByteArray).data.toList = true from hS]
   rw [if_pos rfl] at hp
   have HS11:=Hd hS
   replace HA:=Hd (HA.out.call ho (Or.inl rfl) hp fun k => k)
   replace HLN:=Hd (Nat.le_trans (RS.step_le _) HLN.out)
   clear hp ho hS
   have zt:=four_of (HA.out.at 0 rfl)
   have ze:=nine_of (HA.out.at 1 rfl)
   obtain ⟨W12,hW12,HA⟩:=HA.out.pushE (Ve kk2 oo2 v12 v22 v32 tt2 nn2 (.slice a2 m2 c2) pp2) 48
   have hlb : w.heap.size ≤ w11.heap.size:=(HA.out.has _ (List.mem_cons_self)).1
   have zu:=four_of (HA.out.at 1 rfl)
   obtain ⟨W13,hW13,HA⟩:=HA.out.pushE (Ve 7 0 0 0 Vz Vz Vz (.slice (some ⟨w11.heap.size,0,none⟩) 1 1) ta1) 48
   go_wp2_with fail
   clear hW12 hW13
   refine (qtakes_any P (M2) ((r2).step) ⟨#[78,79,84]⟩ _ HA.out.ra).mono ?_
   rintro e w14 ⟨rfl,hp,ho⟩
   cases hS : ((r2).step).sees wNot with
   | false =>
    rw [show ((r2).step).sees (⟨#[78,79,84]⟩ : ByteArray).data.toList = false from hS] at hp
    try rw [show ((r2).step).sees (⟨#[78,79,84]⟩ : ByteArray).data.toList = false from hS]
    rw [if_neg (by decide)] at hp
    have HS14:=Hd hS
    replace HA:=Hd (HA.out.call ho (Or.inl rfl) hp fun k => k)
    clear hp ho hS
    go_wp2_with fail
    refine (qwants_any P (M2) ((r2).step) ⟨#[78,85,76,76]⟩ _ HA.out.ra).mono ?_
    rintro e w15 ⟨rfl,hp,ho⟩
    replace hp : RA w15 P (M2) (if ((r2).step).sees wNull = true then ((r2).step).step else ((r2).step).stop):=hp
    have hl : (if ((r2).step).sees wNull = true then ((r2).step).step else ((r2).step).stop).ps.rest.length ≤ ((r2).step).ps.rest.length:=by split; exact RS.step_le _; exact Nat.le_refl _
    have hr : (if ((r2).step).sees wNull = true then ((r2).step).step else ((r2).step).stop).wrong = false → ((r2).step).wrong = false:=by split; exact fun k => k; exact fun k => absurd k (by show ¬ (true = false); decide)
    replace HA:=Hd (HA.out.call ho (Or.inl rfl) hp hr)
    replace HLN:=Hd (Nat.le_trans hl HLN.out)
    clear ho hp hl hr
    have zo:=nine_of (HA.out.at 0 rfl)
    have zzr:=nine_of (HA.out.at 4 rfl)
    have HLK:=Hd (show Lk (Pr .test) r (over 7 0 ta1 [(Ex.mk kk2 oo2 (v12,v22,v32) tt2 nn2 ks2 pp2)]) _ from by have:=Lk.test_null (r3:=(r2).step) HK2.out HS11.out (Or.inr ⟨HS14.out,rfl,rfl⟩); rw [HH1.out] at this; exact this)
    go_wp2
    have HD:=Hd (HA.out.fill 4 rfl [Vi 7,Vi 0,Vi 0,Vi 0,Vs,Vs,Vs,.slice (some ⟨w11.heap.size,0,none⟩) 1 1,Vi (ta1 : Int)] rfl)
    obtain ⟨W99,hW99⟩:=Vx (setsL w15 w.heap.size 0 [Vi 7,Vi 0,Vi 0,Vi 0,Vs,Vs,Vs,.slice (some ⟨w11.heap.size,0,none⟩) 1 1,Vi (ta1 : Int)])
    rw [hW99] at HD
    simp only [setsL,Nat.reduceAdd] at hW99
    rw [hW99]
    have zy:=(nine_of (HD.out.at 4 rfl)).1
    clear hW99
    exact bodyPost_ret (v:=exV (over 7 0 ta1 [(Ex.mk kk2 oo2 (v12,v22,v32) tt2 nn2 ks2 pp2)]) (.slice (some ⟨w11.heap.size,0,none⟩) 1 1)) (by simp [results,Tryz.results173,go_sem,exV,exC,over,v0,zy]) rfl (HD.out.qx HLK.out HLN.out (fun W hL h => XO.one h.2 (fun _ _ _ => rfl) (hL _ (List.mem_of_getElem? (i:=1) rfl)) hlb))
   | true =>
    rw [show ((r2).step).sees (⟨#[78,79,84]⟩ : ByteArray).data.toList = true from hS] at hp
    try rw [show ((r2).step).sees (⟨#[78,79,84]⟩ : ByteArray).data.toList = true from hS]
    rw [if_pos rfl] at hp
    have HS14:=Hd hS
    replace HA:=Hd (HA.out.call ho (Or.inl rfl) hp fun k => k)
    replace HLN:=Hd (Nat.le_trans (RS.step_le _) HLN.out)
    clear hp ho hS
    have zo:=nine_of (HA.out.at 0 rfl)
    replace HA:=Hd (Aq.puts 0 [Vi 1] 1 HA.out rfl)
    simp only [putsA,Sa,Sb,Sc] at HA
    obtain ⟨W16,hW16⟩:=Vx (setsL w14 (W12.heap.size) 1 [Vi 1])
    rw [hW16] at HA
    simp only [setsL] at hW16
    go_wp2_with fail
    clear hW16
    refine (qwants_any P (M2) (((r2).step).step) ⟨#[78,85,76,76]⟩ _ HA.out.ra).mono ?_
    rintro e w17 ⟨rfl,hp,ho⟩
    replace hp : RA w17 P (M2) (if (((r2).step).step).sees wNull = true then (((r2).step).step).step else (((r2).step).step).stop):=hp
    have hl : (if (((r2).step).step).sees wNull = true then (((r2).step).step).step else (((r2).step).step).stop).ps.rest.length ≤ (((r2).step).step).ps.rest.length:=by split; exact RS.step_le _; exact Nat.le_refl _
    have hr : (if (((r2).step).step).sees wNull = true then (((r2).step).step).step else (((r2).step).step).stop).wrong = false → (((r2).step).step).wrong = false:=by split; exact fun k => k; exact fun k => absurd k (by show ¬ (true = false); decide)
    replace HA:=Hd (HA.out.call ho (Or.inl rfl) hp hr)
    replace HLN:=Hd (Nat.le_trans hl HLN.out)
    clear ho hp hl hr
    have zo:=nine_of (HA.out.at 0 rfl)
    have zzr:=nine_of (HA.out.at 4 rfl)
    have HLK:=Hd (show Lk (Pr .test) r (over 7 1 ta1 [(Ex.mk kk2 oo2 (v12,v22,v32) tt2 nn2 ks2 pp2)]) _ from by have:=Lk.test_null (r3:=((r2).step).step) HK2.out HS11.out (Or.inl ⟨HS14.out,rfl,rfl⟩); rw [HH1.out] at this; exact this)
    go_wp2
    have HD:=Hd (HA.out.fill 4 rfl [Vi 7,Vi 1,Vi 0,Vi 0,Vs,Vs,Vs,.slice (some ⟨w11.heap.size,0,none⟩) 1 1,Vi (ta1 : Int)] rfl)
    obtain ⟨W99,hW99⟩:=Vx (setsL w17 w.heap.size 0 [Vi 7,Vi 1,Vi 0,Vi 0,Vs,Vs,Vs,.slice (some ⟨w11.heap.size,0,none⟩) 1 1,Vi (ta1 : Int)])
    rw [hW99] at HD
    simp only [setsL,Nat.reduceAdd] at hW99
    rw [hW99]
    have zy:=(nine_of (HD.out.at 4 rfl)).1
    clear hW99
    exact bodyPost_ret (v:=exV (over 7 1 ta1 [(Ex.mk kk2 oo2 (v12,v22,v32) tt2 nn2 ks2 pp2)]) (.slice (some ⟨w11.heap.size,0,none⟩) 1 1)) (by simp [results,Tryz.results173,go_sem,exV,exC,over,v0,zy]) rfl (HD.out.qx HLK.out HLN.out (fun W hL h => XO.one h.2 (fun _ _ _ => rfl) (hL _ (List.mem_of_getElem? (i:=1) rfl)) hlb))

theorem qnot_step (P M : Nat) (r : RS) (w : World) (h : RA w P M r) (n : Nat) (hn : r.ps.rest.length ≤ n) (hf : QUpto n P 173 .test) (hb : QBel r.ps.rest.length P 160 .not) : Calls Tryz.prog 160 #[.pointer (some ⟨P,0,none⟩)] w (QX (Pr .not) P M r w):=by
 have HA:=Hd (Aq.start h)
 have hPw:=h.lt
 have HLN : Hid (r.ps.rest.length ≤ r.ps.rest.length):=Nat.le_refl _
 clear h
 have HF:=Hd hf
 have HR:=Hd hb
 have HOK:=Hd HA.out.ra.ok
 clear hf hb
 go_enter Tryz.func160,Tryz.ntmps160
 obtain ⟨W1,hW1,HA⟩:=HA.out.pushE Vo 48
 obtain ⟨⟨⟨tk1,tn1,tt1⟩,ta1⟩,hh⟩ : ∃ x,(r).ps.hd = x:=⟨_,rfl⟩
 have HT:=qnh P M hh
 have HH1:=Hd hh
 clear hh
 go_wp2_with fail
 clear hW1
 refine (HT.out _ HA.out.ra).mono ?_
 rintro e w2 ⟨rfl,hb⟩
 replace HA:=Hd (HA.out.bel hb)
 clear hb HT
 obtain ⟨W3,hW3,HA⟩:=HA.out.pushE (Vk tk1 tn1 tt1 ta1) 43
 go_wp2_with fail
 clear hW3
 refine (qtakes_any P (M) (r) ⟨#[78,79,84]⟩ _ HA.out.ra).mono ?_
 rintro e w4 ⟨rfl,hp,ho⟩
 cases hS : (r).sees wNot with
 | false =>
  rw [show (r).sees (⟨#[78,79,84]⟩ : ByteArray).data.toList = false from hS] at hp
  try rw [show (r).sees (⟨#[78,79,84]⟩ : ByteArray).data.toList = false from hS]
  rw [if_neg (by decide)] at hp
  have HS4:=Hd hS
  replace HA:=Hd (HA.out.call ho (Or.inl rfl) hp fun k => k)
  clear hp ho hS
  go_wp2_with fail
  refine (HF.out _ r _ hn HA.out.ra).mono ?_
  rintro e w5 ⟨x5,a5,m5,c5,M5,r5,rfl,hk,hp,ho,hm,hl,hx⟩
  have HK5:=Hd hk
  have HLL5:=Hd hl
  replace HA:=Hd (HA.out.gainX ho hm hp hk.right hx)
  replace HLN:=Hd (Nat.le_trans hl HLN.out)
  clear ho hp hl hk hm hx
  obtain ⟨kk5,oo5,⟨v15,v25,v35⟩,tt5,nn5,ks5,pp5⟩:=x5
  simp only [exV,exC]
  have zzr:=nine_of (HA.out.at 1 rfl)
  have HLK:=Hd (Lk.not_no HS4.out HK5.out)
  go_wp2
  have HD:=Hd (HA.out.fill 1 rfl [Vi kk5,Vi oo5,Vi v15,Vi v25,.string v35,.string tt5,.string nn5,.slice a5 m5 c5,Vi pp5] rfl)
  obtain ⟨W99,hW99⟩:=Vx (setsL w5 w.heap.size 0 [Vi kk5,Vi oo5,Vi v15,Vi v25,.string v35,.string tt5,.string nn5,.slice a5 m5 c5,Vi pp5])
  rw [hW99] at HD
  simp only [setsL,Nat.reduceAdd] at hW99
  rw [hW99]
  have zy:=(nine_of (HD.out.at 1 rfl)).1
  clear hW99
  exact bodyPost_ret (v:=exV (Ex.mk kk5 oo5 (v15,v25,v35) tt5 nn5 ks5 pp5) (.slice a5 m5 c5)) (by simp [results,Tryz.results160,go_sem,exV,exC,zy]) rfl (HD.out.qx HLK.out HLN.out fun _ _ h => h.2)
 | true =>
  rw [show (r).sees (⟨#[78,79,84]⟩ : ByteArray).data.toList = true from hS] at hp
  try rw [show (r).sees (⟨#[78,79,84]⟩ : ByteArray).data.toList = true from hS]
  rw [if_pos rfl] at hp
  have HS4:=Hd hS
  replace HA:=Hd (HA.out.call ho (Or.inl rfl) hp fun k => k)
  replace HLN:=Hd (Nat.le_trans (RS.step_le _) HLN.out)
  clear hp ho hS
  go_wp2_with fail
  refine (HR.out _ (r).step _ (RS.step_lt HOK.out) HA.out.ra).mono ?_
  rintro e w6 ⟨x6,a6,m6,c6,M6,r6,rfl,hk,hp,ho,hm,hl,hx⟩
  have HK6:=Hd hk
  have HLL6:=Hd hl
  replace HA:=Hd (HA.out.gainX ho hm hp hk.right hx)
  replace HLN:=Hd (Nat.le_trans hl HLN.out)
  clear ho hp hl hk hm hx
  obtain ⟨kk6,oo6,⟨v16,v26,v36⟩,tt6,nn6,ks6,pp6⟩:=x6
  simp only [exV,exC]
  obtain ⟨W7,hW7,HA⟩:=HA.out.pushE (Ve kk6 oo6 v16 v26 v36 tt6 nn6 (.slice a6 m6 c6) pp6) 48
  have zl:=nine_of (HA.out.at 0 rfl)
  have zt:=four_of (HA.out.at 1 rfl)
  obtain ⟨W8,hW8,HA⟩:=HA.out.pushE (Ve kk6 oo6 v16 v26 v36 tt6 nn6 (.slice a6 m6 c6) pp6) 48
  have zu:=four_of (HA.out.at 2 rfl)
  have zzr:=nine_of (HA.out.at 3 rfl)
  have hlb : w.heap.size ≤ W7.heap.size:=(HA.out.has _ (List.mem_cons_self)).1
  have HLK:=Hd (show Lk (Pr .not) r (over 8 0 ta1 [(Ex.mk kk6 oo6 (v16,v26,v36) tt6 nn6 ks6 pp6)]) _ from by have:=Lk.not_yes HS4.out HK6.out; rw [HH1.out] at this; exact this)
  go_wp2
  clear hW7 hW8
  have HD:=Hd (HA.out.fill 3 rfl [Vi 8,Vi 0,Vi 0,Vi 0,Vs,Vs,Vs,.slice (some ⟨W7.heap.size,0,none⟩) 1 1,Vi (ta1 : Int)] rfl)
  obtain ⟨W99,hW99⟩:=Vx (setsL W8 w.heap.size 0 [Vi 8,Vi 0,Vi 0,Vi 0,Vs,Vs,Vs,.slice (some ⟨W7.heap.size,0,none⟩) 1 1,Vi (ta1 : Int)])
  rw [hW99] at HD
  simp only [setsL,Nat.reduceAdd] at hW99
  rw [hW99]
  have zy:=(nine_of (HD.out.at 3 rfl)).1
  clear hW99
  exact bodyPost_ret (v:=exV (over 8 0 ta1 [(Ex.mk kk6 oo6 (v16,v26,v36) tt6 nn6 ks6 pp6)]) (.slice (some ⟨W7.heap.size,0,none⟩) 1 1)) (by simp [results,Tryz.results160,go_sem,exV,exC,over,v0,zy]) rfl (HD.out.qx HLK.out HLN.out (fun W hL h => XO.one h.2 (fun _ _ _ => rfl) (hL _ (List.mem_of_getElem? (i:=0) rfl)) hlb))
end Go.Proofs.YtffalonhkemieaaGreatDoor
