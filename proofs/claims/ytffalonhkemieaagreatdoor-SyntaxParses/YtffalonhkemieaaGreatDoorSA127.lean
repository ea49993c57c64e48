/- A127 -/
import Derived.Test.YtffalonhkemieaaGreatDoorSA126
set_option maxHeartbeats 8000000
set_option maxRecDepth 100000
namespace Go.Proofs.YtffalonhkemieaaGreatDoor
open Go.RowKit
def endQ (r : RS) : RS:=if (if r.sees [59] = true then r.step else r).ps.hd.1.1 = 1 then (if r.sees [59] = true then r.step else r) else (if r.sees [59] = true then r.step else r).stop

def QF (P M : Nat) (r : RS) (w : World) (e : Ending) (w' : World) : Prop:=∃ (t : St) (a0 a1 a2 a3 a4 a5 a6 : Option Addr) (n0 n1 n2 n3 n4 n5 n6 c0 c1 c2 c3 c4 c5 c6 M' : Nat) (r1 : RS),e = .returned (.agg (stC t (.slice a0 n0 c0) (.slice a1 n1 c1) (.slice a2 n2 c2) (.slice a3 n3 c3) (.slice a4 n4 c4) (.slice a5 n5 c5) (.slice a6 n6 c6)).toArray) ∧ StN t n0 n1 n2 n3 n4 n5 n6 ∧ Lk stR r t r1 ∧ RA w' P M' (endQ r1) ∧ Only (Zd P M) w w' ∧ ((endQ r1).wrong = false → FS w' w.heap.size (fun g => g = M') fun W => StO W w.heap.size t (.slice a0 n0 c0) (.slice a1 n1 c1) (.slice a2 n2 c2) (.slice a3 n3 c3) (.slice a4 n4 c4) (.slice a5 n5 c5) (.slice a6 n6 c6))

theorem Aq.qf {w0 w : World} {P M0 M : Nat} {r0 r1 r : RS} {L : List (Nat × Obj)} {I : World → Prop} {t : St} {a0 a1 a2 a3 a4 a5 a6 : Option Addr} {n0 n1 n2 n3 n4 n5 n6 c0 c1 c2 c3 c4 c5 c6 : Nat} (h : Aq w0 P M0 M r L I w) (he : endQ r1 = r) (hn : StN t n0 n1 n2 n3 n4 n5 n6) (hk : Lk stR r0 t r1) (hv : ∀ W,I W → StO W w0.heap.size t (.slice a0 n0 c0) (.slice a1 n1 c1) (.slice a2 n2 c2) (.slice a3 n3 c3) (.slice a4 n4 c4) (.slice a5 n5 c5) (.slice a6 n6 c6)) : QF P M0 r0 w0 (.returned (.agg (stC t (.slice a0 n0 c0) (.slice a1 n1 c1) (.slice a2 n2 c2) (.slice a3 n3 c3) (.slice a4 n4 c4) (.slice a5 n5 c5) (.slice a6 n6 c6)).toArray)) w:=by
 subst he
 exact ⟨t,a0,a1,a2,a3,a4,a5,a6,n0,n1,n2,n3,n4,n5,n6,c0,c1,c2,c3,c4,c5,c6,M,r1,rfl,hn,hk,h.ra,h.only,fun hw => (h.fs hw).imp fun W k => hv W k.2⟩

theorem StN.at {t : St} {n0 n1 n2 n3 n4 n5 n6 : Nat} (h : StN t n0 n1 n2 n3 n4 n5 n6) (p : Int) : StN { t with place:=p } n0 n1 n2 n3 n4 n5 n6:=⟨h.on,h.whr,h.items,h.sets,h.groups,h.sorts,h.limit⟩

theorem StO.at {w : World} {B : Nat} {t : St} {a b c d e f g : Value} (h : StO w B t a b c d e f g) (p : Int) : StO w B { t with place:=p } a b c d e f g:=⟨h.on,h.whr,h.items,h.sets,h.groups,h.sorts,h.limit⟩

def stAt (p : Nat) : Rd_ St:=thenR (ifR wINSERT insR (ifR wUPDATE updR (ifR wDELETE delR (ifR wSELECT selR badR)))) fun t => retR { t with place:=p }

theorem Lk.st {r r' : RS} {t : St} (h : Lk (stAt r.ps.hd.2) r t r') : Lk stR r t r':=h

theorem Lk.st_some {f : Nat → Rd_ St} {r r' : RS} {t : St} {j p : Nat} (h : r.pick stmW = some j) (hf : f 0 = insR ∧ f 1 = updR ∧ f 2 = delR ∧ f 3 = selR) (k : Lk (f j) r.step t r') : Lk (stAt p) r { t with place:=p } r':=by
 obtain ⟨e0,e1,e2,e3⟩:=hf
 have:=Lk.some4 (f:=f) (g:=badR) h k
 rw [e0,e1,e2,e3] at this
 exact this.bind (Lk.ret _ _)

theorem qstat_none (P M : Nat) (r : RS) (w : World) (h : RA w P M r) (hpk : r.pick stmW = none) : Calls Tryz.prog 23 #[.pointer (some ⟨P,0,none⟩)] w (QF P M r w):=by
 have HA:=Hd (Aq.start h)
 have hPw:=h.lt
 have HLN : Hid (r.ps.rest.length ≤ r.ps.rest.length):=Nat.le_refl _
 clear h
 have HPK:=Hd hpk
 clear hpk
 go_enter Tryz.func23,Tryz.ntmps23
 obtain ⟨W1,hW1,HA⟩:=HA.out.pushE Vq 27
 obtain ⟨⟨⟨tk1,tn1,tt1⟩,ta1⟩,hh⟩ : ∃ x,(r).ps.hd = x:=⟨_,rfl⟩
 have HT:=qnh P M hh
 have HH1:=Hd hh
 clear hh
 go_wp2_with fail
 clear hW1
 refine (HT.out _ HA.out.ra).mono ?_
 rintro e w2 ⟨rfl,hb⟩
 replace HA:=Hd (HA.out.bel hb)
 clear hb HT
 obtain ⟨W3,hW3,HA⟩:=HA.out.pushE (Vk tk1 tn1 tt1 ta1) 43
 have zt:=four_of (HA.out.at 0 rfl)
 obtain ⟨W4,hW4,HA⟩:=HA.out.pushE (Vt 0 Vz Vz Vn Vn Vn false Vn Vn Vn Vn ta1 0) 27
 obtain ⟨W5,hW5,HA⟩:=HA.out.pushE #[.string ⟨#[73,78,83,69,82,84]⟩,.string ⟨#[85,80,68,65,84,69]⟩,.string ⟨#[68,69,76,69,84,69]⟩,.string ⟨#[83,69,76,69,67,84]⟩] 9
 have HWD : Hid (WordsAt W5 (W4.heap.size) [⟨#[73,78,83,69,82,84]⟩,⟨#[85,80,68,65,84,69]⟩,⟨#[68,69,76,69,84,69]⟩,⟨#[83,69,76,69,67,84]⟩]):=WordsAt.of4 (HA.out.at 0 rfl)
 have hwb : W4.heap.size < W5.heap.size:=(Array.getElem?_eq_some_iff.1 (HA.out.at 0 rfl)).1
 have hwP : W4.heap.size ≠ P:=Nat.ne_of_gt (Nat.lt_of_lt_of_le hPw (HA.out.has _ (List.mem_cons_self)).1)
 have hwM : W4.heap.size ≠ M:=(HA.out.has _ (List.mem_cons_self)).2.1
 have HhW4:=Hd hW4
 clear hW4
 have HhW5:=Hd hW5
 clear hW5
 go_wp2_with fail
 have hsz : W3.heap.size + 1 = W4.heap.size:=by rw [← HhW4.out]; simp
 try rw [hsz]
 clear hsz
 rw [HhW4.out]
 clear HhW4
 rw [HhW5.out]
 clear HhW5
 clear hW3
 refine (qoneOf_any P (M) (r) (W4.heap.size) [⟨#[73,78,83,69,82,84]⟩,⟨#[85,80,68,65,84,69]⟩,⟨#[68,69,76,69,84,69]⟩,⟨#[83,69,76,69,67,84]⟩] 4 _ HA.out.ra HWD.out hwb hwP hwM (by decide)).mono ?_
 rintro e w6 ⟨rfl,hp,ho⟩
 rw [show wl [⟨#[73,78,83,69,82,84]⟩,⟨#[85,80,68,65,84,69]⟩,⟨#[68,69,76,69,84,69]⟩,⟨#[83,69,76,69,67,84]⟩] = stmW from rfl] at hp ⊢
 replace HA:=Hd HA.out.drop
 clear HWD hwb hwP hwM
 have hS:=HPK.out
 rw [hS] at hp ⊢
 have HS6:=Hd hS
 clear hS
 simp only [pickI]
 replace hp : RA w6 P (M) (r):=hp
 replace HA:=Hd (HA.out.call ho (Or.inl rfl) hp fun k => k)
 clear hp ho
 obtain ⟨qg,qoff,qcap,qka,qkc,qh1,-,-,-,-,qn,-,ql,-,-⟩:=HA.out.ra.cells
 have zq:=four_of qh1
 have qni : ((r).pos : Int) + 1 ≤ 1001:=by omega
 clear qh1
 have hj0 : ((-1 : Int) == 0) = false:=by decide
 have hj1 : ((-1 : Int) == 1) = false:=by decide
 replace HA:=Hd HA.out.stopAt
 obtain ⟨W7,hW7⟩:=Vx (w6.setCell ⟨P,2,none⟩ (.bool true))
 rw [hW7] at HA
 have HLK:=Hd (show Lk stR r { st0 with place:=(ta1 : Int) } _ from Lk.st (by rw [HH1.out]; exact (Lk.none4 HS6.out (Lk.bad (a:=st0))).bind (Lk.ret _ _)))
 go_wp2_with fail
 clear hW7
 refine (qtakes_any P (M) ((r).stop) ⟨#[59]⟩ _ HA.out.ra).mono ?_
 rintro e w8 ⟨rfl,hp,ho⟩
 obtain ⟨b8,hb⟩:=Vx (((r).stop).sees [59])
 rw [show ((r).stop).sees (⟨#[59]⟩ : ByteArray).data.toList = b8 from hb] at hp
 try rw [show ((r).stop).sees (⟨#[59]⟩ : ByteArray).data.toList = b8 from hb]
 have HS8:=Hd hb
 clear hb
 replace HA:=Hd (HA.out.call ho (Or.inl rfl) hp (RS.if_right _ _))
 replace HLN : Hid (((if b8 = true then ((r).stop).step else (r).stop)).ps.rest.length ≤ r.ps.rest.length):=Nat.le_trans (RS.if_le _ _) HLN.out
 clear ho hp
 obtain ⟨⟨⟨tk2,tn2,tt2⟩,ta2⟩,hh⟩ : ∃ x,((if b8 = true then ((r).stop).step else (r).stop)).ps.hd = x:=⟨_,rfl⟩
 have HT:=qnh P M hh
 have HH2:=Hd hh
 clear hh
 go_wp2_with fail
 refine (HT.out _ HA.out.ra).mono ?_
 rintro e w9 ⟨rfl,hb⟩
 replace HA:=Hd (HA.out.bel hb)
 clear hb HT
 have zt:=four_of (HA.out.at 1 rfl)
 replace HA:=Hd (Aq.puts 1 [Vi tk2,Vi tn2,.string tt2,Vi (ta2 : Int)] 0 HA.out rfl)
 simp only [putsA,Nat.reduceAdd,Sa,Sb,Sc] at HA
 obtain ⟨W10,hW10⟩:=Vx (setsL w9 (w2.heap.size) 0 [Vi tk2,Vi tn2,.string tt2,Vi (ta2 : Int)])
 rw [hW10] at HA
 simp only [setsL,Nat.reduceAdd] at hW10
 have zt:=four_of (HA.out.at 1 rfl)
 by_cases he : tk2 = 1
 ·subst he
  have HEQ : Hid (endQ ((r).stop) = (if b8 = true then ((r).stop).step else (r).stop)):=by show endQ ((r).stop) = _; unfold endQ; rw [HS8.out,HH2.out]; exact if_pos rfl
  have zs:=thirt_of (HA.out.at 0 rfl)
  have zzr:=thirt_of (HA.out.at 2 rfl)
  go_wp2
  clear hW10
  have HD:=Hd (HA.out.fill 2 rfl [Vi 0,Vs,Vs,Vn,Vn,Vn,.bool false,Vn,Vn,Vn,Vn,Vi (ta1 : Int),Vi 0] rfl)
  obtain ⟨W99,hW99⟩:=Vx (setsL W10 w.heap.size 0 [Vi 0,Vs,Vs,Vn,Vn,Vn,.bool false,Vn,Vn,Vn,Vn,Vi (ta1 : Int),Vi 0])
  rw [hW99] at HD
  simp only [setsL,Nat.reduceAdd] at hW99
  rw [hW99]
  have zy:=(thirt_of (HD.out.at 2 rfl)).1
  clear hW99
  exact bodyPost_ret (v:=.agg (Vt 0 Vz Vz Vn Vn Vn false Vn Vn Vn Vn ta1 0)) (by simp [results,Tryz.results23,go_sem,zy]) rfl (HD.out.qf (t:={ st0 with place:=(ta1 : Int) }) (a0:=none) (n0:=0) (c0:=0) (a1:=none) (n1:=0) (c1:=0) (a2:=none) (n2:=0) (c2:=0) (a3:=none) (n3:=0) (c3:=0) (a4:=none) (n4:=0) (c4:=0) (a5:=none) (n5:=0) (c5:=0) (a6:=none) (n6:=0) (c6:=0) HEQ.out ⟨rfl,rfl,rfl,rfl,rfl,rfl,rfl⟩ HLK.out (fun W _ => ⟨XL.nil _ _,XL.nil _ _,XL.nil _ _,SeL.nil _ _,XL.nil _ _,SoL.nil _ _,IL.nil _ _⟩))
 ·have hei : (tk2 != 1) = true:=by simpa using he
  obtain ⟨pg,poff,pcap,pka,pkc,ph1,-,-,-,-,pn,-,pl,-,-⟩:=HA.out.ra.cells
  have zp:=four_of ph1
  have pni : (((if b8 = true then ((r).stop).step else (r).stop)).pos : Int) + 1 ≤ 1001:=by omega
  clear ph1
  replace HA:=Hd HA.out.stopAt
  obtain ⟨W11,hW11⟩:=Vx (W10.setCell ⟨P,2,none⟩ (.bool true))
  rw [hW11] at HA
  have HEQ : Hid (endQ ((r).stop) = ((if b8 = true then ((r).stop).step else (r).stop)).stop):=by show endQ ((r).stop) = _; unfold endQ; rw [HS8.out,HH2.out]; exact if_neg he
  clear he
  have zs:=thirt_of (HA.out.at 0 rfl)
  have zzr:=thirt_of (HA.out.at 2 rfl)
  go_wp2
  clear hW10 hW11
  have HD:=Hd (HA.out.fill 2 rfl [Vi 0,Vs,Vs,Vn,Vn,Vn,.bool false,Vn,Vn,Vn,Vn,Vi (ta1 : Int),Vi 0] rfl)
  obtain ⟨W99,hW99⟩:=Vx (setsL W11 w.heap.size 0 [Vi 0,Vs,Vs,Vn,Vn,Vn,.bool false,Vn,Vn,Vn,Vn,Vi (ta1 : Int),Vi 0])
  rw [hW99] at HD
  simp only [setsL,Nat.reduceAdd] at hW99
  rw [hW99]
  have zy:=(thirt_of (HD.out.at 2 rfl)).1
  clear hW99
  exact bodyPost_ret (v:=.agg (Vt 0 Vz Vz Vn Vn Vn false Vn Vn Vn Vn ta1 0)) (by simp [results,Tryz.results23,go_sem,zy]) rfl (HD.out.qf (t:={ st0 with place:=(ta1 : Int) }) (a0:=none) (n0:=0) (c0:=0) (a1:=none) (n1:=0) (c1:=0) (a2:=none) (n2:=0) (c2:=0) (a3:=none) (n3:=0) (c3:=0) (a4:=none) (n4:=0) (c4:=0) (a5:=none) (n5:=0) (c5:=0) (a6:=none) (n6:=0) (c6:=0) HEQ.out ⟨rfl,rfl,rfl,rfl,rfl,rfl,rfl⟩ HLK.out (fun W _ => ⟨XL.nil _ _,XL.nil _ _,XL.nil _ _,SeL.nil _ _,XL.nil _ _,SoL.nil _ _,IL.nil _ _⟩))

theorem qstat_insR (P M : Nat) (r : RS) (w : World) (h : RA w P M r) (hpk : r.pick stmW = some 0) : Calls Tryz.prog 23 #[.pointer (some ⟨P,0,none⟩)] w (QF P M r w):=by
 have HA:=Hd (Aq.start h)
 have hPw:=h.lt
 have HLN : Hid (r.ps.rest.length ≤ r.ps.rest.length):=Nat.le_refl _
 clear h
 have HPK:=Hd hpk
 clear hpk
 go_enter Tryz.func23,Tryz.ntmps23
 obtain ⟨W1,hW1,HA⟩:=HA.out.pushE Vq 27
 obtain ⟨⟨⟨tk1,tn1,tt1⟩,ta1⟩,hh⟩ : ∃ x,(r).ps.hd = x:=⟨_,rfl⟩
 have HT:=qnh P M hh
 have HH1:=Hd hh
 clear hh
 go_wp2_with fail
 clear hW1
 refine (HT.out _ HA.out.ra).mono ?_
 rintro e w2 ⟨rfl,hb⟩
 replace HA:=Hd (HA.out.bel hb)
 clear hb HT
 obtain ⟨W3,hW3,HA⟩:=HA.out.pushE (Vk tk1 tn1 tt1 ta1) 43
 have zt:=four_of (HA.out.at 0 rfl)
 obtain ⟨W4,hW4,HA⟩:=HA.out.pushE (Vt 0 Vz Vz Vn Vn Vn false Vn Vn Vn Vn ta1 0) 27
 obtain ⟨W5,hW5,HA⟩:=HA.out.pushE #[.string ⟨#[73,78,83,69,82,84]⟩,.string ⟨#[85,80,68,65,84,69]⟩,.string ⟨#[68,69,76,69,84,69]⟩,.string ⟨#[83,69,76,69,67,84]⟩] 9
 have HWD : Hid (WordsAt W5 (W4.heap.size) [⟨#[73,78,83,69,82,84]⟩,⟨#[85,80,68,65,84,69]⟩,⟨#[68,69,76,69,84,69]⟩,⟨#[83,69,76,69,67,84]⟩]):=WordsAt.of4 (HA.out.at 0 rfl)
 have hwb : W4.heap.size < W5.heap.size:=(Array.getElem?_eq_some_iff.1 (HA.out.at 0 rfl)).1
 have hwP : W4.heap.size ≠ P:=Nat.ne_of_gt (Nat.lt_of_lt_of_le hPw (HA.out.has _ (List.mem_cons_self)).1)
 have hwM : W4.heap.size ≠ M:=(HA.out.has _ (List.mem_cons_self)).2.1
 have HhW4:=Hd hW4
 clear hW4
 have HhW5:=Hd hW5
 clear hW5
 go_wp2_with fail
 have hsz : W3.heap.size + 1 = W4.heap.size:=by rw [← HhW4.out]; simp
 try rw [hsz]
 clear hsz
 rw [HhW4.out]
 clear HhW4
 rw [HhW5.out]
 clear HhW5
 clear hW3
 refine (qoneOf_any P (M) (r) (W4.heap.size) [⟨#[73,78,83,69,82,84]⟩,⟨#[85,80,68,65,84,69]⟩,⟨#[68,69,76,69,84,69]⟩,⟨#[83,69,76,69,67,84]⟩] 4 _ HA.out.ra HWD.out hwb hwP hwM (by decide)).mono ?_
 rintro e w6 ⟨rfl,hp,ho⟩
 rw [show wl [⟨#[73,78,83,69,82,84]⟩,⟨#[85,80,68,65,84,69]⟩,⟨#[68,69,76,69,84,69]⟩,⟨#[83,69,76,69,67,84]⟩] = stmW from rfl] at hp ⊢
 replace HA:=Hd HA.out.drop
 clear HWD hwb hwP hwM
 have hS:=HPK.out
 rw [hS] at hp ⊢
 have HS6:=Hd hS
 clear hS
 simp only [pickI]
 replace hp : RA w6 P (M) (r).step:=hp
 replace HA:=Hd (HA.out.call ho (Or.inl rfl) hp fun k => k)
 replace HLN:=Hd (Nat.le_trans (RS.step_le _) HLN.out)
 clear hp ho
 have zs:=thirt_of (HA.out.at 0 rfl)
 replace HA:=Hd (Aq.puts 0 [Vi 1] 0 HA.out rfl)
 simp only [putsA,Sa,Sb] at HA
 obtain ⟨W7,hW7⟩:=Vx (setsL w6 (W3.heap.size) 0 [Vi 1])
 rw [hW7] at HA
 simp only [setsL] at hW7
 have zs:=thirt_of (HA.out.at 0 rfl)
 go_wp2_with fail
 clear hW7
 refine (qinsert_s P (M) (ta1 : Int) ((r).step) _ HA.out.ra).mono ?_
 rintro e w8 ⟨t,a0,a1,a2,a3,a4,a5,a6,n0,n1,n2,n3,n4,n5,n6,c0,c1,c2,c3,c4,c5,c6,M8,r8,rfl,hn,hk,hp,ho,hm,hl,hx⟩
 have HN:=Hd hn
 have HK:=Hd hk
 replace HA:=Hd (HA.out.gain ho hm hp hk.right (fun W => StO W w.heap.size t (.slice a0 n0 c0) (.slice a1 n1 c1) (.slice a2 n2 c2) (.slice a3 n3 c3) (.slice a4 n4 c4) (.slice a5 n5 c5) (.slice a6 n6 c6)) fun hw => (hx hw).imp fun _ k => k.mono HA.out.only.size)
 replace HLN:=Hd (Nat.le_trans hl HLN.out)
 clear ho hp hl hk hm hx hn
 simp only [stC]
 have zs:=thirt_of (HA.out.at 0 rfl)
 replace HA:=Hd (Aq.puts 0 [Vi t.kind,.string t.table,.string t.join,.slice a0 n0 c0,.slice a1 n1 c1,.slice a2 n2 c2,.bool t.star,.slice a3 n3 c3,.slice a4 n4 c4,.slice a5 n5 c5,.slice a6 n6 c6,Vi (ta1 : Int),Vi t.joinAt] 0 HA.out rfl)
 simp only [putsA,Nat.reduceAdd,Sa,Sb,Sc] at HA
 obtain ⟨W9,hW9⟩:=Vx (setsL w8 (W3.heap.size) 0 [Vi t.kind,.string t.table,.string t.join,.slice a0 n0 c0,.slice a1 n1 c1,.slice a2 n2 c2,.bool t.star,.slice a3 n3 c3,.slice a4 n4 c4,.slice a5 n5 c5,.slice a6 n6 c6,Vi (ta1 : Int),Vi t.joinAt])
 rw [hW9] at HA
 simp only [setsL,Nat.reduceAdd] at hW9
 have HLK:=Hd (show Lk stR r { t with place:=(ta1 : Int) } _ from Lk.st (by rw [HH1.out]; exact Lk.st_some (f:=fun i => if i = 0 then insR else if i = 1 then updR else if i = 2 then delR else selR) HS6.out ⟨rfl,rfl,rfl,rfl⟩ HK.out))
 go_wp2_with fail
 clear hW9
 refine (qtakes_any P (M8) (r8) ⟨#[59]⟩ _ HA.out.ra).mono ?_
 rintro e w10 ⟨rfl,hp,ho⟩
 obtain ⟨b10,hb⟩:=Vx ((r8).sees [59])
 rw [show (r8).sees (⟨#[59]⟩ : ByteArray).data.toList = b10 from hb] at hp
 try rw [show (r8).sees (⟨#[59]⟩ : ByteArray).data.toList = b10 from hb]
 have HS10:=Hd hb
 clear hb
 replace HA:=Hd (HA.out.call ho (Or.inl rfl) hp (RS.if_right _ _))
 replace HLN : Hid (((if b10 = true then (r8).step else r8)).ps.rest.length ≤ r.ps.rest.length):=Nat.le_trans (RS.if_le _ _) HLN.out
 clear ho hp
 obtain ⟨⟨⟨tk2,tn2,tt2⟩,ta2⟩,hh⟩ : ∃ x,((if b10 = true then (r8).step else r8)).ps.hd = x:=⟨_,rfl⟩
 have HT:=qnh P M8 hh
 have HH2:=Hd hh
 clear hh
 go_wp2_with fail
 refine (HT.out _ HA.out.ra).mono ?_
 rintro e w11 ⟨rfl,hb⟩
 replace HA:=Hd (HA.out.bel hb)
 clear hb HT
 have zt:=four_of (HA.out.at 1 rfl)
 replace HA:=Hd (Aq.puts 1 [Vi tk2,Vi tn2,.string tt2,Vi (ta2 : Int)] 0 HA.out rfl)
 simp only [putsA,Nat.reduceAdd,Sa,Sb,Sc] at HA
 obtain ⟨W12,hW12⟩:=Vx (setsL w11 (w2.heap.size) 0 [Vi tk2,Vi tn2,.string tt2,Vi (ta2 : Int)])
 rw [hW12] at HA
 simp only [setsL,Nat.reduceAdd] at hW12
 have zt:=four_of (HA.out.at 1 rfl)
 by_cases he : tk2 = 1
 ·subst he
  have HEQ : Hid (endQ (r8) = (if b10 = true then (r8).step else r8)):=by show endQ (r8) = _; unfold endQ; rw [HS10.out,HH2.out]; exact if_pos rfl
  have zs:=thirt_of (HA.out.at 0 rfl)
  have zzr:=thirt_of (HA.out.at 2 rfl)
  go_wp2
  clear hW12
  have HD:=Hd (HA.out.fill 2 rfl [Vi t.kind,.string t.table,.string t.join,.slice a0 n0 c0,.slice a1 n1 c1,.slice a2 n2 c2,.bool t.star,.slice a3 n3 c3,.slice a4 n4 c4,.slice a5 n5 c5,.slice a6 n6 c6,Vi (ta1 : Int),Vi t.joinAt] rfl)
  obtain ⟨W99,hW99⟩:=Vx (setsL W12 w.heap.size 0 [Vi t.kind,.string t.table,.string t.join,.slice a0 n0 c0,.slice a1 n1 c1,.slice a2 n2 c2,.bool t.star,.slice a3 n3 c3,.slice a4 n4 c4,.slice a5 n5 c5,.slice a6 n6 c6,Vi (ta1 : Int),Vi t.joinAt])
  rw [hW99] at HD
  simp only [setsL,Nat.reduceAdd] at hW99
  rw [hW99]
  have zy:=(thirt_of (HD.out.at 2 rfl)).1
  clear hW99
  exact bodyPost_ret (v:=.agg (Vt t.kind t.table t.join (.slice a0 n0 c0) (.slice a1 n1 c1) (.slice a2 n2 c2) t.star (.slice a3 n3 c3) (.slice a4 n4 c4) (.slice a5 n5 c5) (.slice a6 n6 c6) ta1 t.joinAt)) (by simp [results,Tryz.results23,go_sem,zy]) rfl (HD.out.qf (t:={ t with place:=(ta1 : Int) }) (a0:=a0) (n0:=n0) (c0:=c0) (a1:=a1) (n1:=n1) (c1:=c1) (a2:=a2) (n2:=n2) (c2:=c2) (a3:=a3) (n3:=n3) (c3:=c3) (a4:=a4) (n4:=n4) (c4:=c4) (a5:=a5) (n5:=n5) (c5:=c5) (a6:=a6) (n6:=n6) (c6:=c6) HEQ.out (HN.out.at _) HLK.out (fun W h => h.2.at _))
 ·have hei : (tk2 != 1) = true:=by simpa using he
  obtain ⟨pg,poff,pcap,pka,pkc,ph1,-,-,-,-,pn,-,pl,-,-⟩:=HA.out.ra.cells
  have zp:=four_of ph1
  have pni : (((if b10 = true then (r8).step else r8)).pos : Int) + 1 ≤ 1001:=by omega
  clear ph1
  replace HA:=Hd HA.out.stopAt
  obtain ⟨W13,hW13⟩:=Vx (W12.setCell ⟨P,2,none⟩ (.bool true))
  rw [hW13] at HA
  have HEQ : Hid (endQ (r8) = ((if b10 = true then (r8).step else r8)).stop):=by show endQ (r8) = _; unfold endQ; rw [HS10.out,HH2.out]; exact if_neg he
  clear he
  have zs:=thirt_of (HA.out.at 0 rfl)
  have zzr:=thirt_of (HA.out.at 2 rfl)
  go_wp2
  clear hW12 hW13
  have HD:=Hd (HA.out.fill 2 rfl [Vi t.kind,.string t.table,.string t.join,.slice a0 n0 c0,.slice a1 n1 c1,.slice a2 n2 c2,.bool t.star,.slice a3 n3 c3,.slice a4 n4 c4,.slice a5 n5 c5,.slice a6 n6 c6,Vi (ta1 : Int),Vi t.joinAt] rfl)
  obtain ⟨W99,hW99⟩:=Vx (setsL W13 w.heap.size 0 [Vi t.kind,.string t.table,.string t.join,.slice a0 n0 c0,.slice a1 n1 c1,.slice a2 n2 c2,.bool t.star,.slice a3 n3 c3,.slice a4 n4 c4,.slice a5 n5 c5,.slice a6 n6 c6,Vi (ta1 : Int),Vi t.joinAt])
  rw [hW99] at HD
  simp only [setsL,Nat.reduceAdd] at hW99
  rw [hW99]
  have zy:=(thirt_of (HD.out.at 2 rfl)).1
  clear hW99
  exact bodyPost_ret (v:=.agg (Vt t.kind t.table t.join (.slice a0 n0 c0) (.slice a1 n1 c1) (.slice a2 n2 c2) t.star (.slice a3 n3 c3) (.slice a4 n4 c4) (.slice a5 n5 c5) (.slice a6 n6 c6) ta1 t.joinAt)) (by simp [results,Tryz.results23,go_sem,zy]) rfl (HD.out.qf (t:={ t with place:=(ta1 : Int) }) (a0:=a0) (n0:=n0) (c0:=c0) (a1:=a1) (n1:=n1) (c1:=c1) (a2:=a2) (n2:=n2) (c2:=c2) (a3:=a3) (n3:=n3) (c3:=c3) (a4:=a4) (n4:=n4) (c4:=c4) (a5:=a5) (n5:=n5) (c5:=c5) (a6:=a6) (n6:=n6) (c6:=c6) HEQ.out (HN.out.at _) HLK.out (fun W h => h.2.at _))

theorem qstat_updR (P M : Nat) (r : RS) (w : World) (h : RA w P M r) (hpk : r.pick stmW = some 1) : Calls Tryz.prog 23 #[.pointer (some ⟨P,0,none⟩)] w (QF P M r w):=by
 have HA:=Hd (Aq.start h)
 have hPw:=h.lt
 have HLN : Hid (r.ps.rest.length ≤ r.ps.rest.length):=Nat.le_refl _
 clear h
 have HPK:=Hd hpk
 clear hpk
 go_enter Tryz.func23,Tryz.ntmps23
 obtain ⟨W1,hW1,HA⟩:=HA.out.pushE Vq 27
 obtain ⟨⟨⟨tk1,tn1,tt1⟩,ta1⟩,hh⟩ : ∃ x,(r).ps.hd = x:=⟨_,rfl⟩
 have HT:=qnh P M hh
 have HH1:=Hd hh
 clear hh
 go_wp2_with fail
 clear hW1
 refine (HT.out _ HA.out.ra).mono ?_
 rintro e w2 ⟨rfl,hb⟩
 replace HA:=Hd (HA.out.bel hb)
 clear hb HT
 obtain ⟨W3,hW3,HA⟩:=HA.out.pushE (Vk tk1 tn1 tt1 ta1) 43
 have zt:=four_of (HA.out.at 0 rfl)
 obtain ⟨W4,hW4,HA⟩:=HA.out.pushE (Vt 0 Vz Vz Vn Vn Vn false Vn Vn Vn Vn ta1 0) 27
 obtain ⟨W5,hW5,HA⟩:=HA.out.pushE #[.string ⟨#[73,78,83,69,82,84]⟩,.string ⟨#[85,80,68,65,84,69]⟩,.string ⟨#[68,69,76,69,84,69]⟩,.string ⟨#[83,69,76,69,67,84]⟩] 9
 have HWD : Hid (WordsAt W5 (W4.heap.size) [⟨#[73,78,83,69,82,84]⟩,⟨#[85,80,68,65,84,69]⟩,⟨#[68,69,76,69,84,69]⟩,⟨#[83,69,76,69,67,84]⟩]):=WordsAt.of4 (HA.out.at 0 rfl)
 have hwb : W4.heap.size < W5.heap.size:=(Array.getElem?_eq_some_iff.1 (HA.out.at 0 rfl)).1
 have hwP : W4.heap.size ≠ P:=Nat.ne_of_gt (Nat.lt_of_lt_of_le hPw (HA.out.has _ (List.mem_cons_self)).1)
 have hwM : W4.heap.size ≠ M:=(HA.out.has _ (List.mem_cons_self)).2.1
 have HhW4:=Hd hW4
 clear hW4
 have HhW5:=Hd hW5
 clear hW5
 go_wp2_with fail
 have hsz : W3.heap.size + 1 = W4.heap.size:=by rw [← HhW4.out]; simp
 try rw [hsz]
 clear hsz
 rw [HhW4.out]
 clear HhW4
 rw [HhW5.out]
 clear HhW5
 clear hW3
 refine (qoneOf_any P (M) (r) (W4.heap.size) [⟨#[73,78,83,69,82,84]⟩,⟨#[85,80,68,65,84,69]⟩,⟨#[68,69,76,69,84,69]⟩,⟨#[83,69,76,69,67,84]⟩] 4 _ HA.out.ra HWD.out hwb hwP hwM (by decide)).mono ?_
 rintro e w6 ⟨rfl,hp,ho⟩
 rw [show wl [⟨#[73,78,83,69,82,84]⟩,⟨#[85,80,68,65,84,69]⟩,⟨#[68,69,76,69,84,69]⟩,⟨#[83,69,76,69,67,84]⟩] = stmW from rfl] at hp ⊢
 replace HA:=Hd HA.out.drop
 clear HWD hwb hwP hwM
 have hS:=HPK.out
 rw [hS] at hp ⊢
 have HS6:=Hd hS
 clear hS
 simp only [pickI]
 replace hp : RA w6 P (M) (r).step:=hp
 replace HA:=Hd (HA.out.call ho (Or.inl rfl) hp fun k => k)
 replace HLN:=Hd (Nat.le_trans (RS.step_le _) HLN.out)
 clear hp ho
 have zs:=thirt_of (HA.out.at 0 rfl)
 replace HA:=Hd (Aq.puts 0 [Vi 2] 0 HA.out rfl)
 simp only [putsA,Sa,Sb] at HA
 obtain ⟨W7,hW7⟩:=Vx (setsL w6 (W3.heap.size) 0 [Vi 2])
 rw [hW7] at HA
 simp only [setsL] at hW7
 have zs:=thirt_of (HA.out.at 0 rfl)
 go_wp2_with fail
 clear hW7
 refine (qupdate_s P (M) (ta1 : Int) ((r).step) _ HA.out.ra).mono ?_
 rintro e w8 ⟨t,a0,a1,a2,a3,a4,a5,a6,n0,n1,n2,n3,n4,n5,n6,c0,c1,c2,c3,c4,c5,c6,M8,r8,rfl,hn,hk,hp,ho,hm,hl,hx⟩
 have HN:=Hd hn
 have HK:=Hd hk
 replace HA:=Hd (HA.out.gain ho hm hp hk.right (fun W => StO W w.heap.size t (.slice a0 n0 c0) (.slice a1 n1 c1) (.slice a2 n2 c2) (.slice a3 n3 c3) (.slice a4 n4 c4) (.slice a5 n5 c5) (.slice a6 n6 c6)) fun hw => (hx hw).imp fun _ k => k.mono HA.out.only.size)
 replace HLN:=Hd (Nat.le_trans hl HLN.out)
 clear ho hp hl hk hm hx hn
 simp only [stC]
 have zs:=thirt_of (HA.out.at 0 rfl)
 replace HA:=Hd (Aq.puts 0 [Vi t.kind,.string t.table,.string t.join,.slice a0 n0 c0,.slice a1 n1 c1,.slice a2 n2 c2,.bool t.star,.slice a3 n3 c3,.slice a4 n4 c4,.slice a5 n5 c5,.slice a6 n6 c6,Vi (ta1 : Int),Vi t.joinAt] 0 HA.out rfl)
 simp only [putsA,Nat.reduceAdd,Sa,Sb,Sc] at HA
 obtain ⟨W9,hW9⟩:=Vx (setsL w8 (W3.heap.size) 0 [Vi t.kind,.string t.table,.string t.join,.slice a0 n0 c0,.slice a1 n1 c1,.slice a2 n2 c2,.bool t.star,.slice a3 n3 c3,.slice a4 n4 c4,.slice a5 n5 c5,.slice a6 n6 c6,Vi (ta1 : Int),Vi t.joinAt])
 rw [hW9] at HA
 simp only [setsL,Nat.reduceAdd] at hW9
 have HLK:=Hd (show Lk stR r { t with place:=(ta1 : Int) } _ from Lk.st (by rw [HH1.out]; exact Lk.st_some (f:=fun i => if i = 0 then insR else if i = 1 then updR else if i = 2 then delR else selR) HS6.out ⟨rfl,rfl,rfl,rfl⟩ HK.out))
 go_wp2_with fail
 clear hW9
 refine (qtakes_any P (M8) (r8) ⟨#[59]⟩ _ HA.out.ra).mono ?_
 rintro e w10 ⟨rfl,hp,ho⟩
 obtain ⟨b10,hb⟩:=Vx ((r8).sees [59])
 rw [show (r8).sees (⟨#[59]⟩ : ByteArray).data.toList = b10 from hb] at hp
 try rw [show (r8).sees (⟨#[59]⟩ : ByteArray).data.toList = b10 from hb]
 have HS10:=Hd hb
 clear hb
 replace HA:=Hd (HA.out.call ho (Or.inl rfl) hp (RS.if_right _ _))
 replace HLN : Hid (((if b10 = true then (r8).step else r8)).ps.rest.length ≤ r.ps.rest.length):=Nat.le_trans (RS.if_le _ _) HLN.out
 clear ho hp
 obtain ⟨⟨⟨tk2,tn2,tt2⟩,ta2⟩,hh⟩ : ∃ x,((if b10 = true then (r8).step else r8)).ps.hd = x:=⟨_,rfl⟩
 have HT:=qnh P M8 hh
 have HH2:=Hd hh
 clear hh
 go_wp2_with fail
 refine (HT.out _ HA.out.ra).mono ?_
 rintro e w11 ⟨rfl,hb⟩
 replace HA:=Hd (HA.out.bel hb)
 clear hb HT
 have zt:=four_of (HA.out.at 1 rfl)
 replace HA:=Hd (Aq.puts 1 [Vi tk2,Vi tn2,.string tt2,Vi (ta2 : Int)] 0 HA.out rfl)
 simp only [putsA,Nat.reduceAdd,Sa,Sb,Sc] at HA
 obtain ⟨W12,hW12⟩:=Vx (setsL w11 (w2.heap.size) 0 [Vi tk2,Vi tn2,.string tt2,Vi (ta2 : Int)])
 rw [hW12] at HA
 simp only [setsL,Nat.reduceAdd] at hW12
 have zt:=four_of (HA.out.at 1 rfl)
 by_cases he : tk2 = 1
 ·subst he
  have HEQ : Hid (endQ (r8) = (if b10 = true then (r8).step else r8)):=by show endQ (r8) = _; unfold endQ; rw [HS10.out,HH2.out]; exact if_pos rfl
  have zs:=thirt_of (HA.out.at 0 rfl)
  have zzr:=thirt_of (HA.out.at 2 rfl)
  go_wp2
  clear hW12
  have HD:=Hd (HA.out.fill 2 rfl [Vi t.kind,.string t.table,.string t.join,.slice a0 n0 c0,.slice a1 n1 c1,.slice a2 n2 c2,.bool t.star,.slice a3 n3 c3,.slice a4 n4 c4,.slice a5 n5 c5,.slice a6 n6 c6,Vi (ta1 : Int),Vi t.joinAt] rfl)
  obtain ⟨W99,hW99⟩:=Vx (setsL W12 w.heap.size 0 [Vi t.kind,.string t.table,.string t.join,.slice a0 n0 c0,.slice a1 n1 c1,.slice a2 n2 c2,.bool t.star,.slice a3 n3 c3,.slice a4 n4 c4,.slice a5 n5 c5,.slice a6 n6 c6,Vi (ta1 : Int),Vi t.joinAt])
  rw [hW99] at HD
  simp only [setsL,Nat.reduceAdd] at hW99
  rw [hW99]
  have zy:=(thirt_of (HD.out.at 2 rfl)).1
  clear hW99
  exact bodyPost_ret (v:=.agg (Vt t.kind t.table t.join (.slice a0 n0 c0) (.slice a1 n1 c1) (.slice a2 n2 c2) t.star (.slice a3 n3 c3) (.slice a4 n4 c4) (.slice a5 n5 c5) (.slice a6 n6 c6) ta1 t.joinAt)) (by simp [results,Tryz.results23,go_sem,zy]) rfl (HD.out.qf (t:={ t with place:=(ta1 : Int) }) (a0:=a0) (n0:=n0) (c0:=c0) (a1:=a1) (n1:=n1) (c1:=c1) (a2:=a2) (n2:=n2) (c2:=c2) (a3:=a3) (n3:=n3) (c3:=c3) (a4:=a4) (n4:=n4) (c4:=c4) (a5:=a5) (n5:=n5) (c5:=c5) (a6:=a6) (n6:=n6) (c6:=c6) HEQ.out (HN.out.at _) HLK.out (fun W h => h.2.at _))
 ·have hei : (tk2 != 1) = true:=by simpa using he
  obtain ⟨pg,poff,pcap,pka,pkc,ph1,-,-,-,-,pn,-,pl,-,-⟩:=HA.out.ra.cells
  have zp:=four_of ph1
  have pni : (((if b10 = true then (r8).step else r8)).pos : Int) + 1 ≤ 1001:=by omega
  clear ph1
  replace HA:=Hd HA.out.stopAt
  obtain ⟨W13,hW13⟩:=Vx (W12.setCell ⟨P,2,none⟩ (.bool true))
  rw [hW13] at HA
  have HEQ : Hid (endQ (r8) = ((if b10 = true then (r8).step else r8)).stop):=by show endQ (r8) = _; unfold endQ; rw [HS10.out,HH2.out]; exact if_neg he
  clear he
  have zs:=thirt_of (HA.out.at 0 rfl)
  have zzr:=thirt_of (HA.out.at 2 rfl)
  go_wp2
  clear hW12 hW13
  have HD:=Hd (HA.out.fill 2 rfl [Vi t.kind,.string t.table,.string t.join,.slice a0 n0 c0,.slice a1 n1 c1,.slice a2 n2 c2,.bool t.star,.slice a3 n3 c3,.slice a4 n4 c4,.slice a5 n5 c5,.slice a6 n6 c6,Vi (ta1 : Int),Vi t.joinAt] rfl)
  obtain ⟨W99,hW99⟩:=Vx (setsL W13 w.heap.size 0 [Vi t.kind,.string t.table,.string t.join,.slice a0 n0 c0,.slice a1 n1 c1,.slice a2 n2 c2,.bool t.star,.slice a3 n3 c3,.slice a4 n4 c4,.slice a5 n5 c5,.slice a6 n6 c6,Vi (ta1 : Int),Vi t.joinAt])
  rw [hW99] at HD
  simp only [setsL,Nat.reduceAdd] at hW99
  rw [hW99]
  have zy:=(thirt_of (HD.out.at 2 rfl)).1
  clear hW99
  exact bodyPost_ret (v:=.agg (Vt t.kind t.table t.join (.slice a0 n0 c0) (.slice a1 n1 c1) (.slice a2 n2 c2) t.star (.slice a3 n3 c3) (.slice a4 n4 c4) (.slice a5 n5 c5) (.slice a6 n6 c6) ta1 t.joinAt)) (by simp [results,Tryz.results23,go_sem,zy]) rfl (HD.out.qf (t:={ t with place:=(ta1 : Int) }) (a0:=a0) (n0:=n0) (c0:=c0) (a1:=a1) (n1:=n1) (c1:=c1) (a2:=a2) (n2:=n2) (c2:=c2) (a3:=a3) (n3:=n3) (c3:=c3) (a4:=a4) (n4:=n4) (c4:=c4) (a5:=a5) (n5:=n5) (c5:=c5) (a6:=a6) (n6:=n6) (c6:=c6) HEQ.out (HN.out.at _) HLK.out (fun W h => h.2.at _))

theorem qstat_delR (P M : Nat) (r : RS) (w : World) (h : RA w P M r) (hpk : r.pick stmW = some 2) : Calls Tryz.prog 23 #[.pointer (some ⟨P,0,none⟩)] w (QF P M r w):=by
 have HA:=Hd (Aq.start h)
 have hPw:=h.lt
 have HLN : Hid (r.ps.rest.length ≤ r.ps.rest.length):=Nat.le_refl _
 clear h
 have HPK:=Hd hpk
 clear hpk
 go_enter Tryz.func23,Tryz.ntmps23
 obtain ⟨W1,hW1,HA⟩:=HA.out.pushE Vq 27
 obtain ⟨⟨⟨tk1,tn1,tt1⟩,ta1⟩,hh⟩ : ∃ x,(r).ps.hd = x:=⟨_,rfl⟩
 have HT:=qnh P M hh
 have HH1:=Hd hh
 clear hh
 go_wp2_with fail
 clear hW1
 refine (HT.out _ HA.out.ra).mono ?_
 rintro e w2 ⟨rfl,hb⟩
 replace HA:=Hd (HA.out.bel hb)
 clear hb HT
 obtain ⟨W3,hW3,HA⟩:=HA.out.pushE (Vk tk1 tn1 tt1 ta1) 43
 have zt:=four_of (HA.out.at 0 rfl)
 obtain ⟨W4,hW4,HA⟩:=HA.out.pushE (Vt 0 Vz Vz Vn Vn Vn false Vn Vn Vn Vn ta1 0) 27
 obtain ⟨W5,hW5,HA⟩:=HA.out.pushE #[.string ⟨#[73,78,83,69,82,84]⟩,.string ⟨#[85,80,68,65,84,69]⟩,.string ⟨#[68,69,76,69,84,69]⟩,.string ⟨#[83,69,76,69,67,84]⟩] 9
 have HWD : Hid (WordsAt W5 (W4.heap.size) [⟨#[73,78,83,69,82,84]⟩,⟨#[85,80,68,65,84,69]⟩,⟨#[68,69,76,69,84,69]⟩,⟨#[83,69,76,69,67,84]⟩]):=WordsAt.of4 (HA.out.at 0 rfl)
 have hwb : W4.heap.size < W5.heap.size:=(Array.getElem?_eq_some_iff.1 (HA.out.at 0 rfl)).1
 have hwP : W4.heap.size ≠ P:=Nat.ne_of_gt (Nat.lt_of_lt_of_le hPw (HA.out.has _ (List.mem_cons_self)).1)
 have hwM : W4.heap.size ≠ M:=(HA.out.has _ (List.mem_cons_self)).2.1
 have HhW4:=Hd hW4
 clear hW4
 have HhW5:=Hd hW5
 clear hW5
 go_wp2_with fail
 have hsz : W3.heap.size + 1 = W4.heap.size:=by rw [← HhW4.out]; simp
 try rw [hsz]
 clear hsz
 rw [HhW4.out]
 clear HhW4
 rw [HhW5.out]
 clear HhW5
 clear hW3
 refine (qoneOf_any P (M) (r) (W4.heap.size) [⟨#[73,78,83,69,82,84]⟩,⟨#[85,80,68,65,84,69]⟩,⟨#[68,69,76,69,84,69]⟩,⟨#[83,69,76,69,67,84]⟩] 4 _ HA.out.ra HWD.out hwb hwP hwM (by decide)).mono ?_
 rintro e w6 ⟨rfl,hp,ho⟩
 rw [show wl [⟨#[73,78,83,69,82,84]⟩,⟨#[85,80,68,65,84,69]⟩,⟨#[68,69,76,69,84,69]⟩,⟨#[83,69,76,69,67,84]⟩] = stmW from rfl] at hp ⊢
 replace HA:=Hd HA.out.drop
 clear HWD hwb hwP hwM
 have hS:=HPK.out
 rw [hS] at hp ⊢
 have HS6:=Hd hS
 clear hS
 simp only [pickI]
 replace hp : RA w6 P (M) (r).step:=hp
 replace HA:=Hd (HA.out.call ho (Or.inl rfl) hp fun k => k)
 replace HLN:=Hd (Nat.le_trans (RS.step_le _) HLN.out)
 clear hp ho
 have zs:=thirt_of (HA.out.at 0 rfl)
 replace HA:=Hd (Aq.puts 0 [Vi 3] 0 HA.out rfl)
 simp only [putsA,Sa,Sb] at HA
 obtain ⟨W7,hW7⟩:=Vx (setsL w6 (W3.heap.size) 0 [Vi 3])
 rw [hW7] at HA
 simp only [setsL] at hW7
 have zs:=thirt_of (HA.out.at 0 rfl)
 go_wp2_with fail
 clear hW7
 refine (qremove_s P (M) (ta1 : Int) ((r).step) _ HA.out.ra).mono ?_
 rintro e w8 ⟨t,a0,a1,a2,a3,a4,a5,a6,n0,n1,n2,n3,n4,n5,n6,c0,c1,c2,c3,c4,c5,c6,M8,r8,rfl,hn,hk,hp,ho,hm,hl,hx⟩
 have HN:=Hd hn
 have HK:=Hd hk
 replace HA:=Hd (HA.out.gain ho hm hp hk.right (fun W => StO W w.heap.size t (.slice a0 n0 c0) (.slice a1 n1 c1) (.slice a2 n2 c2) (.slice a3 n3 c3) (.slice a4 n4 c4) (.slice a5 n5 c5) (.slice a6 n6 c6)) fun hw => (hx hw).imp fun _ k => k.mono HA.out.only.size)
 replace HLN:=Hd (Nat.le_trans hl HLN.out)
 clear ho hp hl hk hm hx hn
 simp only [stC]
 have zs:=thirt_of (HA.out.at 0 rfl)
 replace HA:=Hd (Aq.puts 0 [Vi t.kind,.string t.table,.string t.join,.slice a0 n0 c0,.slice a1 n1 c1,.slice a2 n2 c2,.bool t.star,.slice a3 n3 c3,.slice a4 n4 c4,.slice a5 n5 c5,.slice a6 n6 c6,Vi (ta1 : Int),Vi t.joinAt] 0 HA.out rfl)
 simp only [putsA,Nat.reduceAdd,Sa,Sb,Sc] at HA
 obtain ⟨W9,hW9⟩:=Vx (setsL w8 (W3.heap.size) 0 [Vi t.kind,.string t.table,.string t.join,.slice a0 n0 c0,.slice a1 n1 c1,.slice a2 n2 c2,.bool t.star,.slice a3 n3 c3,.slice a4 n4 c4,.slice a5 n5 c5,.slice a6 n6 c6,Vi (ta1 : Int),Vi t.joinAt])
 rw [hW9] at HA
 simp only [setsL,Nat.reduceAdd] at hW9
 have HLK:=Hd (show Lk stR r { t with place:=(ta1 : Int) } _ from Lk.st (by rw [HH1.out]; exact Lk.st_some (f:=fun i => if i = 0 then insR else if i = 1 then updR else if i = 2 then delR else selR) HS6.out ⟨rfl,rfl,rfl,rfl⟩ HK.out))
 go_wp2_with fail
 clear hW9
 refine (qtakes_any P (M8) (r8) ⟨#[59]⟩ _ HA.out.ra).mono ?_
 rintro e w10 ⟨rfl,hp,ho⟩
 obtain ⟨b10,hb⟩:=Vx ((r8).sees [59])
 rw [show (r8).sees (⟨#[59]⟩ : ByteArray).data.toList = b10 from hb] at hp
 try rw [show (r8).sees (⟨#[59]⟩ : ByteArray).data.toList = b10 from hb]
 have HS10:=Hd hb
 clear hb
 replace HA:=Hd (HA.out.call ho (Or.inl rfl) hp (RS.if_right _ _))
 replace HLN : Hid (((if b10 = true then (r8).step else r8)).ps.rest.length ≤ r.ps.rest.length):=Nat.le_trans (RS.if_le _ _) HLN.out
 clear ho hp
 obtain ⟨⟨⟨tk2,tn2,tt2⟩,ta2⟩,hh⟩ : ∃ x,((if b10 = true then (r8).step else r8)).ps.hd = x:=⟨_,rfl⟩
 have HT:=qnh P M8 hh
 have HH2:=Hd hh
 clear hh
 go_wp2_with fail
 refine (HT.out _ HA.out.ra).mono ?_
 rintro e w11 ⟨rfl,hb⟩
 replace HA:=Hd (HA.out.bel hb)
 clear hb HT
 have zt:=four_of (HA.out.at 1 rfl)
 replace HA:=Hd (Aq.puts 1 [Vi tk2,Vi tn2,.string tt2,Vi (ta2 : Int)] 0 HA.out rfl)
 simp only [putsA,Nat.reduceAdd,Sa,Sb,Sc] at HA
 obtain ⟨W12,hW12⟩:=Vx (setsL w11 (w2.heap.size) 0 [Vi tk2,Vi tn2,.string tt2,Vi (ta2 : Int)])
 rw [hW12] at HA
 simp only [setsL,Nat.reduceAdd] at hW12
 have zt:=four_of (HA.out.at 1 rfl)
 by_cases he : tk2 = 1
 ·subst he
  have HEQ : Hid (endQ (r8) = (if b10 = true then (r8).step else r8)):=by show endQ (r8) = _; unfold endQ; rw [HS10.out,HH2.out]; exact if_pos rfl
  have zs:=thirt_of (HA.out.at 0 rfl)
  have zzr:=thirt_of (HA.out.at 2 rfl)
  go_wp2
  clear hW12
  have HD:=Hd (HA.out.fill 2 rfl [Vi t.kind,.string t.table,.string t.join,.slice a0 n0 c0,.slice a1 n1 c1,.slice a2 n2 c2,.bool t.star,.slice a3 n3 c3,.slice a4 n4 c4,.slice a5 n5 c5,.slice a6 n6 c6,Vi (ta1 : Int),Vi t.joinAt] rfl)
  obtain ⟨W99,hW99⟩:=Vx (setsL W12 w.heap.size 0 [Vi t.kind,.string t.table,.string t.join,.slice a0 n0 c0,.slice a1 n1 c1,.slice a2 n2 c2,.bool t.star,.slice a3 n3 c3,.slice a4 n4 c4,.slice a5 n5 c5,.slice a6 n6 c6,Vi (ta1 : Int),Vi t.joinAt])
  rw [hW99] at HD
  simp only [setsL,Nat.reduceAdd] at hW99
  rw [hW99]
  have zy:=(thirt_of (HD.out.at 2 rfl)).1
  clear hW99
  exact bodyPost_ret (v:=.agg (Vt t.kind t.table t.join (.slice a0 n0 c0) (.slice a1 n1 c1) (.slice a2 n2 c2) t.star (.slice a3 n3 c3) (.slice a4 n4 c4) (.slice a5 n5 c5) (.slice a6 n6 c6) ta1 t.joinAt)) (by simp [results,Tryz.results23,go_sem,zy]) rfl (HD.out.qf (t:={ t with place:=(ta1 : Int) }) (a0:=a0) (n0:=n0) (c0:=c0) (a1:=a1) (n1:=n1) (c1:=c1) (a2:=a2) (n2:=n2) (c2:=c2) (a3:=a3) (n3:=n3) (c3:=c3) (a4:=a4) (n4:=n4) (c4:=c4) (a5:=a5) (n5:=n5) (c5:=c5) (a6:=a6) (n6:=n6) (c6:=c6) HEQ.out (HN.out.at _) HLK.out (fun W h => h.2.at _))
 ·have hei : (tk2 != 1) = true:=by simpa using he
  obtain ⟨pg,poff,pcap,pka,pkc,ph1,-,-,-,-,pn,-,pl,-,-⟩:=HA.out.ra.cells
  have zp:=four_of ph1
  have pni : (((if b10 = true then (r8).step else r8)).pos : Int) + 1 ≤ 1001:=by omega
  clear ph1
  replace HA:=Hd HA.out.stopAt
  obtain ⟨W13,hW13⟩:=Vx (W12.setCell ⟨P,2,none⟩ (.bool true))
  rw [hW13] at HA
  have HEQ : Hid (endQ (r8) = ((if b10 = true then (r8).step else r8)).stop):=by show endQ (r8) = _; unfold endQ; rw [HS10.out,HH2.out]; exact if_neg he
  clear he
  have zs:=thirt_of (HA.out.at 0 rfl)
  have zzr:=thirt_of (HA.out.at 2 rfl)
  go_wp2
  clear hW12 hW13
  have HD:=Hd (HA.out.fill 2 rfl [Vi t.kind,.string t.table,.string t.join,.slice a0 n0 c0,.slice a1 n1 c1,.slice a2 n2 c2,.bool t.star,.slice a3 n3 c3,.slice a4 n4 c4,.slice a5 n5 c5,.slice a6 n6 c6,Vi (ta1 : Int),Vi t.joinAt] rfl)
  obtain ⟨W99,hW99⟩:=Vx (setsL W13 w.heap.size 0 [Vi t.kind,.string t.table,.string t.join,.slice a0 n0 c0,.slice a1 n1 c1,.slice a2 n2 c2,.bool t.star,.slice a3 n3 c3,.slice a4 n4 c4,.slice a5 n5 c5,.slice a6 n6 c6,Vi (ta1 : Int),Vi t.joinAt])
  rw [hW99] at HD
  simp only [setsL,Nat.reduceAdd] at hW99
  rw [hW99]
  have zy:=(thirt_of (HD.out.at 2 rfl)).1
  clear hW99
  exact bodyPost_ret (v:=.agg (Vt t.kind t.table t.join (.slice a0 n0 c0) (.slice a1 n1 c1) (.slice a2 n2 c2) t.star (.slice a3 n3 c3) (.slice a4 n4 c4) (.slice a5 n5 c5) (.slice a6 n6 c6) ta1 t.joinAt)) (by simp [results,Tryz.results23,go_sem,zy]) rfl (HD.out.qf (t:={ t with place:=(ta1 : Int) }) (a0:=a0) (n0:=n0) (c0:=c0) (a1:=a1) (n1:=n1) (c1:=c1) (a2:=a2) (n2:=n2) (c2:=c2) (a3:=a3) (n3:=n3) (c3:=c3) (a4:=a4) (n4:=n4) (c4:=c4) (a5:=a5) (n5:=n5) (c5:=c5) (a6:=a6) (n6:=n6) (c6:=c6) HEQ.out (HN.out.at _) HLK.out (fun W h => h.2.at _))

theorem qstat_selR (P M : Nat) (r : RS) (w : World) (h : RA w P M r) (hpk : r.pick stmW = some 3) : Calls Tryz.prog 23 #[.pointer (some ⟨P,0,none⟩)] w (QF P M r w):=by
 have HA:=Hd (Aq.start h)
 have hPw:=h.lt
 have HLN : Hid (r.ps.rest.length ≤ r.ps.rest.length):=Nat.le_refl _
 clear h
 have HPK:=Hd hpk
 clear hpk
 go_enter Tryz.func23,Tryz.ntmps23
 obtain ⟨W1,hW1,HA⟩:=HA.out.pushE Vq 27
 obtain ⟨⟨⟨tk1,tn1,tt1⟩,ta1⟩,hh⟩ : ∃ x,(r).ps.hd = x:=⟨_,rfl⟩
 have HT:=qnh P M hh
 have HH1:=Hd hh
 clear hh
 go_wp2_with fail
 clear hW1
 refine (HT.out _ HA.out.ra).mono ?_
 rintro e w2 ⟨rfl,hb⟩
 replace HA:=Hd (HA.out.bel hb)
 clear hb HT
 obtain ⟨W3,hW3,HA⟩:=HA.out.pushE (Vk tk1 tn1 tt1 ta1) 43
 have zt:=four_of (HA.out.at 0 rfl)
 obtain ⟨W4,hW4,HA⟩:=HA.out.pushE (Vt 0 Vz Vz Vn Vn Vn false Vn Vn Vn Vn ta1 0) 27
 obtain ⟨W5,hW5,HA⟩:=HA.out.pushE #[.string ⟨#[73,78,83,69,82,84]⟩,.string ⟨#[85,80,68,65,84,69]⟩,.string ⟨#[68,69,76,69,84,69]⟩,.string ⟨#[83,69,76,69,67,84]⟩] 9
 have HWD : Hid (WordsAt W5 (W4.heap.size) [⟨#[73,78,83,69,82,84]⟩,⟨#[85,80,68,65,84,69]⟩,⟨#[68,69,76,69,84,69]⟩,⟨#[83,69,76,69,67,84]⟩]):=WordsAt.of4 (HA.out.at 0 rfl)
 have hwb : W4.heap.size < W5.heap.size:=(Array.getElem?_eq_some_iff.1 (HA.out.at 0 rfl)).1
 have hwP : W4.heap.size ≠ P:=Nat.ne_of_gt (Nat.lt_of_lt_of_le hPw (HA.out.has _ (List.mem_cons_self)).1)
 have hwM : W4.heap.size ≠ M:=(HA.out.has _ (List.mem_cons_self)).2.1
 have HhW4:=Hd hW4
 clear hW4
 have HhW5:=Hd hW5
 clear hW5
 go_wp2_with fail
 have hsz : W3.heap.size + 1 = W4.heap.size:=by rw [← HhW4.out]; simp
 try rw [hsz]
 clear hsz
 rw [HhW4.out]
 clear HhW4
 rw [HhW5.out]
 clear HhW5
 clear hW3
 refine (qoneOf_any P (M) (r) (W4.heap.size) [⟨#[73,78,83,69,82,84]⟩,⟨#[85,80,68,65,84,69]⟩,⟨#[68,69,76,69,84,69]⟩,⟨#[83,69,76,69,67,84]⟩] 4 _ HA.out.ra HWD.out hwb hwP hwM (by decide)).mono ?_
 rintro e w6 ⟨rfl,hp,ho⟩
 rw [show wl [⟨#[73,78,83,69,82,84]⟩,⟨#[85,80,68,65,84,69]⟩,⟨#[68,69,76,69,84,69]⟩,⟨#[83,69,76,69,67,84]⟩] = stmW from rfl] at hp ⊢
 replace HA:=Hd HA.out.drop
 clear HWD hwb hwP hwM
 have hS:=HPK.out
 rw [hS] at hp ⊢
 have HS6:=Hd hS
 clear hS
 simp only [pickI]
 replace hp : RA w6 P (M) (r).step:=hp
 replace HA:=Hd (HA.out.call ho (Or.inl rfl) hp fun k => k)
 replace HLN:=Hd (Nat.le_trans (RS.step_le _) HLN.out)
 clear hp ho
 have zs:=thirt_of (HA.out.at 0 rfl)
 replace HA:=Hd (Aq.puts 0 [Vi 4] 0 HA.out rfl)
 simp only [putsA,Sa,Sb] at HA
 obtain ⟨W7,hW7⟩:=Vx (setsL w6 (W3.heap.size) 0 [Vi 4])
 rw [hW7] at HA
 simp only [setsL] at hW7
 have zs:=thirt_of (HA.out.at 0 rfl)
 go_wp2_with fail
 clear hW7
 refine (qchoose_s P (M) (ta1 : Int) ((r).step) _ HA.out.ra).mono ?_
 rintro e w8 ⟨t,a0,a1,a2,a3,a4,a5,a6,n0,n1,n2,n3,n4,n5,n6,c0,c1,c2,c3,c4,c5,c6,M8,r8,rfl,hn,hk,hp,ho,hm,hl,hx⟩
 have HN:=Hd hn
 have HK:=Hd hk
 replace HA:=Hd (HA.out.gain ho hm hp hk.right (fun W => StO W w.heap.size t (.slice a0 n0 c0) (.slice a1 n1 c1) (.slice a2 n2 c2) (.slice a3 n3 c3) (.slice a4 n4 c4) (.slice a5 n5 c5) (.slice a6 n6 c6)) fun hw => (hx hw).imp fun _ k => k.mono HA.out.only.size)
 replace HLN:=Hd (Nat.le_trans hl HLN.out)
 clear ho hp hl hk hm hx hn
 simp only [stC]
 have zs:=thirt_of (HA.out.at 0 rfl)
 replace HA:=Hd (Aq.puts 0 [Vi t.kind,.string t.table,.string t.join,.slice a0 n0 c0,.slice a1 n1 c1,.slice a2 n2 c2,.bool t.star,.slice a3 n3 c3,.slice a4 n4 c4,.slice a5 n5 c5,.slice a6 n6 c6,Vi (ta1 : Int),Vi t.joinAt] 0 HA.out rfl)
 simp only [putsA,Nat.reduceAdd,Sa,Sb,Sc] at HA
 obtain ⟨W9,hW9⟩:=Vx (setsL w8 (W3.heap.size) 0 [Vi t.kind,.string t.table,.string t.join,.slice a0 n0 c0,.slice a1 n1 c1,.slice a2 n2 c2,.bool t.star,.slice a3 n3 c3,.slice a4 n4 c4,.slice a5 n5 c5,.slice a6 n6 c6,Vi (ta1 : Int),Vi t.joinAt])
 rw [hW9] at HA
 simp only [setsL,Nat.reduceAdd] at hW9
 have HLK:=Hd (show Lk stR r { t with place:=(ta1 : Int) } _ from Lk.st (by rw [HH1.out]; exact Lk.st_some (f:=fun i => if i = 0 then insR else if i = 1 then updR else if i = 2 then delR else selR) HS6.out ⟨rfl,rfl,rfl,rfl⟩ HK.out))
 go_wp2_with fail
 clear hW9
 refine (qtakes_any P (M8) (r8) ⟨#[59]⟩ _ HA.out.ra).mono ?_
 rintro e w10 ⟨rfl,hp,ho⟩
 obtain ⟨b10,hb⟩:=Vx ((r8).sees [59])
 rw [show (r8).sees (⟨#[59]⟩ : ByteArray).data.toList = b10 from hb] at hp
 try rw [show (r8).sees (⟨#[59]⟩ : ByteArray).data.toList = b10 from hb]
 have HS10:=Hd hb
 clear hb
 replace HA:=Hd (HA.out.call ho (Or.inl rfl) hp (RS.if_right _ _))
 replace HLN : Hid (((if b10 = true then (r8).step else r8)).ps.rest.length ≤ r.ps.rest.length):=Nat.le_trans (RS.if_le _ _) HLN.out
 clear ho hp
 obtain ⟨⟨⟨tk2,tn2,tt2⟩,ta2⟩,hh⟩ : ∃ x,((if b10 = true then (r8).step else r8)).ps.hd = x:=⟨_,rfl⟩
 have HT:=qnh P M8 hh
 have HH2:=Hd hh
 clear hh
 go_wp2_with fail
 refine (HT.out _ HA.out.ra).mono ?_
 rintro e w11 ⟨rfl,hb⟩
 replace HA:=Hd (HA.out.bel hb)
 clear hb HT
 have zt:=four_of (HA.out.at 1 rfl)
 replace HA:=Hd (Aq.puts 1 [Vi tk2,Vi tn2,.string tt2,Vi (ta2 : Int)] 0 HA.out rfl)
 simp only [putsA,Nat.reduceAdd,Sa,Sb,Sc] at HA
 obtain ⟨W12,hW12⟩:=Vx (setsL w11 (w2.heap.size) 0 [Vi tk2,Vi tn2,.string tt2,Vi (ta2 : Int)])
 rw [hW12] at HA
 simp only [setsL,Nat.reduceAdd] at hW12
 have zt:=four_of (HA.out.at 1 rfl)
 by_cases he : tk2 = 1
 ·subst he
  have HEQ : Hid (endQ (r8) = (if b10 = true then (r8).step else r8)):=by show endQ (r8) = _; unfold endQ; rw [HS10.out,HH2.out]; exact if_pos rfl
  have zs:=thirt_of (HA.out.at 0 rfl)
  have zzr:=thirt_of (HA.out.at 2 rfl)
  go_wp2
  clear hW12
  have HD:=Hd (HA.out.fill 2 rfl [Vi t.kind,.string t.table,.string t.join,.slice a0 n0 c0,.slice a1 n1 c1,.slice a2 n2 c2,.bool t.star,.slice a3 n3 c3,.slice a4 n4 c4,.slice a5 n5 c5,.slice a6 n6 c6,Vi (ta1 : Int),Vi t.joinAt] rfl)
  obtain ⟨W99,hW99⟩:=Vx (setsL W12 w.heap.size 0 [Vi t.kind,.string t.table,.string t.join,.slice a0 n0 c0,.slice a1 n1 c1,.slice a2 n2 c2,.bool t.star,.slice a3 n3 c3,.slice a4 n4 c4,.slice a5 n5 c5,.slice a6 n6 c6,Vi (ta1 : Int),Vi t.joinAt])
  rw [hW99] at HD
  simp only [setsL,Nat.reduceAdd] at hW99
  rw [hW99]
  have zy:=(thirt_of (HD.out.at 2 rfl)).1
  clear hW99
  exact bodyPost_ret (v:=.agg (Vt t.kind t.table t.join (.slice a0 n0 c0) (.slice a1 n1 c1) (.slice a2 n2 c2) t.star (.slice a3 n3 c3) (.slice a4 n4 c4) (.slice a5 n5 c5) (.slice a6 n6 c6) ta1 t.joinAt)) (by simp [results,Tryz.results23,go_sem,zy]) rfl (HD.out.qf (t:={ t with place:=(ta1 : Int) }) (a0:=a0) (n0:=n0) (c0:=c0) (a1:=a1) (n1:=n1) (c1:=c1) (a2:=a2) (n2:=n2) (c2:=c2) (a3:=a3) (n3:=n3) (c3:=c3) (a4:=a4) (n4:=n4) (c4:=c4) (a5:=a5) (n5:=n5) (c5:=c5) (a6:=a6) (n6:=n6) (c6:=c6) HEQ.out (HN.out.at _) HLK.out (fun W h => h.2.at _))
 ·have hei : (tk2 != 1) = true:=by simpa using he
  obtain ⟨pg,poff,pcap,pka,pkc,ph1,-,-,-,-,pn,-,pl,-,-⟩:=HA.out.ra.cells
  have zp:=four_of ph1
  have pni : (((if b10 = true then (r8).step else r8)).pos : Int) + 1 ≤ 1001:=by omega
  clear ph1
  replace HA:=Hd HA.out.stopAt
  obtain ⟨W13,hW13⟩:=Vx (W12.setCell ⟨P,2,none⟩ (.bool true))
  rw [hW13] at HA
  have HEQ : Hid (endQ (r8) = ((if b10 = true then (r8).step else r8)).stop):=by show endQ (r8) = _; unfold endQ; rw [HS10.out,HH2.out]; exact if_neg he
  clear he
  have zs:=thirt_of (HA.out.at 0 rfl)
  have zzr:=thirt_of (HA.out.at 2 rfl)
  go_wp2
  clear hW12 hW13
  have HD:=Hd (HA.out.fill 2 rfl [Vi t.kind,.string t.table,.string t.join,.slice a0 n0 c0,.slice a1 n1 c1,.slice a2 n2 c2,.bool t.star,.slice a3 n3 c3,.slice a4 n4 c4,.slice a5 n5 c5,.slice a6 n6 c6,Vi (ta1 : Int),Vi t.joinAt] rfl)
  obtain ⟨W99,hW99⟩:=Vx (setsL W13 w.heap.size 0 [Vi t.kind,.string t.table,.string t.join,.slice a0 n0 c0,.slice a1 n1 c1,.slice a2 n2 c2,.bool t.star,.slice a3 n3 c3,.slice a4 n4 c4,.slice a5 n5 c5,.slice a6 n6 c6,Vi (ta1 : Int),Vi t.joinAt])
  rw [hW99] at HD
  simp only [setsL,Nat.reduceAdd] at hW99
  rw [hW99]
  have zy:=(thirt_of (HD.out.at 2 rfl)).1
  clear hW99
  exact bodyPost_ret (v:=.agg (Vt t.kind t.table t.join (.slice a0 n0 c0) (.slice a1 n1 c1) (.slice a2 n2 c2) t.star (.slice a3 n3 c3) (.slice a4 n4 c4) (.slice a5 n5 c5) (.slice a6 n6 c6) ta1 t.joinAt)) (by simp [results,Tryz.results23,go_sem,zy]) rfl (HD.out.qf (t:={ t with place:=(ta1 : Int) }) (a0:=a0) (n0:=n0) (c0:=c0) (a1:=a1) (n1:=n1) (c1:=c1) (a2:=a2) (n2:=n2) (c2:=c2) (a3:=a3) (n3:=n3) (c3:=c3) (a4:=a4) (n4:=n4) (c4:=c4) (a5:=a5) (n5:=n5) (c5:=c5) (a6:=a6) (n6:=n6) (c6:=c6) HEQ.out (HN.out.at _) HLK.out (fun W h => h.2.at _))

theorem qstatement_f (P M : Nat) (r : RS) (w : World) (h : RA w P M r) : Calls Tryz.prog 23 #[.pointer (some ⟨P,0,none⟩)] w (QF P M r w):=by
 cases hS : r.pick stmW with
 | none => exact qstat_none P M r w h hS
 | some j =>
  have hj : j = 0 ∨ j = 1 ∨ j = 2 ∨ j = 3:=by obtain ⟨x,hx,_⟩:=RS.pick_some hS; have:=(List.getElem?_eq_some_iff.1 hx).1; have h2 : stmW.length = 4:=rfl; omega
  rcases hj with rfl | rfl | rfl | rfl
  ·exact qstat_insR P M r w h hS
  ·exact qstat_updR P M r w h hS
  ·exact qstat_delR P M r w h hS
  ·exact qstat_selR P M r w h hS
end Go.Proofs.YtffalonhkemieaaGreatDoor
