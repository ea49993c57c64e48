/- A126 -/
import Derived.Test.YtffalonhkemieaaGreatDoorSA125
set_option maxHeartbeats 8000000
set_option maxRecDepth 100000
namespace Go.Proofs.YtffalonhkemieaaGreatDoor
open Go.RowKit
theorem RS.if_le (r : RS) (b : Bool) : (if b = true then r.step else r).ps.rest.length ≤ r.ps.rest.length:=by
 split
 ·exact RS.step_le r
 ·exact Nat.le_refl _

theorem RS.if_right (r : RS) (b : Bool) : (if b = true then r.step else r).wrong = false → r.wrong = false:=by
 split
 ·exact fun k => k
 ·exact fun k => k

theorem Aq.ownRow {w0 w : World} {P M0 M : Nat} {r : RS} {v : Value} {o : Obj} {L : List (Nat × Obj)} {I J : World → Prop} (h : Aq w0 P M0 M r (L ++ rowL v o) I w) (k : ∀ W,I W → (∀ q,v.ownBlock = some q → W.heap[q]? = some o) → J W) : Aq w0 P M0 M r L J w:=by
 cases hv : v.ownBlock with
 | none =>
  have e : rowL v o = []:=by unfold rowL; rw [hv]
  rw [e,List.append_nil] at h
  exact h.imp fun W _ hI => k W hI fun q hq => by rw [hv] at hq; exact absurd hq (by simp)
 | some q =>
  have e : rowL v o = [(q,o)]:=by unfold rowL; rw [hv]
  rw [e] at h
  refine (h.perm (List.perm_append_comm (l₂:=[(q,o)]))).own fun W hI hb => k W hI fun q' hq => ?_
  rw [hv] at hq
  injection hq with hq
  subst hq
  exact hb

theorem qchoose_s (P M : Nat) (p0 : Int) (r : RS) (w : World) (h : RA w P M r) : Calls Tryz.prog 59 #[.pointer (some ⟨P,0,none⟩),.agg (Vt 4 Vz Vz Vn Vn Vn false Vn Vn Vn Vn p0 0)] w (QS selR p0 P M r w):=by
 have HA:=Hd (Aq.start h)
 have hPw:=h.lt
 have HLN : Hid (r.ps.rest.length ≤ r.ps.rest.length):=Nat.le_refl _
 have HG : Hid (∀ a r',Lk (selR) r a r' → Lk (selR) r a r'):=fun _ _ k => k
 clear h
 have hRL : r.ps.rest.length ≤ 1001:=Nat.le_trans (by show (r.all.drop r.pos).length ≤ r.all.length; simp) HA.out.ra.ok.len
 go_enter Tryz.func59,Tryz.ntmps59
 obtain ⟨W1,hW1,HA⟩:=HA.out.pushE (Vt 4 Vz Vz Vn Vn Vn false Vn Vn Vn Vn p0 0) 27
 obtain ⟨W2,hW2,HA⟩:=HA.out.pushE Vq 27
 go_wp2_with fail
 clear hW1 hW2
 refine (qtakes_any P (M) (r) ⟨#[42]⟩ _ HA.out.ra).mono ?_
 rintro e w3 ⟨rfl,hp,ho⟩
 cases hS : (r).sees [42] with
 | true =>
  rw [show (r).sees (⟨#[42]⟩ : ByteArray).data.toList = true from hS] at hp
  try rw [show (r).sees (⟨#[42]⟩ : ByteArray).data.toList = true from hS]
  rw [if_pos rfl] at hp
  have HS3:=Hd hS
  replace HA:=Hd (HA.out.call ho (Or.inl rfl) hp fun k => k)
  replace HLN:=Hd (Nat.le_trans (RS.step_le _) HLN.out)
  clear hp ho hS
  have zs:=thirt_of (HA.out.at 1 rfl)
  replace HA:=Hd (Aq.puts 1 [.bool true] 6 HA.out rfl)
  simp only [putsA,Sa,Sb,Sc] at HA
  obtain ⟨W4,hW4⟩:=Vx (setsL w3 (w.heap.size) 6 [.bool true])
  rw [hW4] at HA
  simp only [setsL] at hW4
  have zs:=thirt_of (HA.out.at 1 rfl)
  go_wp2_with fail
  clear hW4
  go_loopw [] (fun wr => wr = W4) (fun _ => 0)
  case atStart => rfl
  case round =>
   subst hrel
   replace HG : Hid (∀ t r',Lk (selF (true,[])) ((r).step) t r' → Lk selR r t r'):=fun t r' k => HG.out t r' (Lk.yesB HS3.out (Lk.retB k))
   replace HA:=Hd (HA.out.imp (J:=fun W => XL W w.heap.size [] Vn) fun W _ _ => XL.nil _ _)
   have HN5 : Hid (0 = (([] : List Ex)).length):=Hd rfl
   go_wp2_with fail
   refine (qwants_q P (M) ((r).step) ⟨#[70,82,79,77]⟩ _ HA.out.ra).mono ?_
   rintro e w5 ⟨x5,r5,rfl,hk,hp,ho,hl⟩
   have HK5:=Hd hk
   have HLL5:=Hd hl
   replace HG:=Hd (fun a r' k => HG.out a r' (hk.bind k))
   replace HA:=Hd (HA.out.call ho (Or.inl rfl) hp hk.right)
   replace HLN:=Hd (Nat.le_trans hl HLN.out)
   clear ho hp hl hk
   go_wp2_with fail
   refine (qname_q P (M) (r5) _ HA.out.ra).mono ?_
   rintro e w6 ⟨x6,r6,rfl,hk,hp,ho,hl⟩
   have HK6:=Hd hk
   have HLL6:=Hd hl
   replace HG:=Hd (fun a r' k => HG.out a r' (hk.bind k))
   replace HA:=Hd (HA.out.call ho (Or.inl rfl) hp hk.right)
   replace HLN:=Hd (Nat.le_trans hl HLN.out)
   clear ho hp hl hk
   have zs:=thirt_of (HA.out.at 1 rfl)
   replace HA:=Hd (Aq.puts 1 [.string x6] 1 HA.out rfl)
   simp only [putsA,Sa,Sb,Sc] at HA
   obtain ⟨W7,hW7⟩:=Vx (setsL w6 (w.heap.size) 1 [.string x6])
   rw [hW7] at HA
   simp only [setsL] at hW7
   go_wp2_with fail
   clear hW7
   refine (qtakes_any P (M) (r6) ⟨#[74,79,73,78]⟩ _ HA.out.ra).mono ?_
   rintro e w8 ⟨rfl,hp,ho⟩
   obtain ⟨b8,hb⟩:=Vx ((r6).sees wJOIN)
   rw [show (r6).sees (⟨#[74,79,73,78]⟩ : ByteArray).data.toList = b8 from hb] at hp
   try rw [show (r6).sees (⟨#[74,79,73,78]⟩ : ByteArray).data.toList = b8 from hb]
   have HS8:=Hd hb
   clear hb
   replace HA:=Hd (HA.out.call ho (Or.inl rfl) hp (RS.if_right _ _))
   replace HLN : Hid (((if b8 = true then (r6).step else r6)).ps.rest.length ≤ r.ps.rest.length):=Nat.le_trans (RS.if_le _ _) HLN.out
   clear ho hp
   go_upto_if 49 with fail
   go_cut [] from 5 to 82 (fun wx => ∃ (j : Int × ByteArray × List Ex) (a3 : Option Addr) (n3 c3 M2 : Nat) (r2 : RS),n3 = j.2.2.length ∧ Aq w P M M2 r2 [(W1.heap.size,.cells Vq 27 (0,0)),(w.heap.size,.cells (Vt 4 x6 j.2.1 (.slice a3 n3 c3) Vn Vn true Vn Vn Vn Vn p0 j.1) 27 (0,0))] (fun W => XL W w.heap.size ([] : List Ex) Vn ∧ XL W w.heap.size j.2.2 (.slice a3 n3 c3)) wx ∧ r2.ps.rest.length ≤ r.ps.rest.length ∧ (∀ t r',Lk (selW (true,([] : List Ex)) x6 j) r2 t r' → Lk selR r t r'))
   case first =>
    cases b8 with
    | false =>
     rw [if_neg (by decide)] at HA HLN
     go_wp2
     go_meet
     case rel => exact ⟨(0,⟨#[]⟩,[]),none,0,0,_,_,rfl,(HA.out.imp fun W _ h => ⟨h,XL.nil _ _⟩),HLN.out,fun t r' k => HG.out t r' (Lk.notB HS8.out (Lk.retB k))⟩
    | true =>
     rw [if_pos rfl] at HA HLN
     obtain ⟨⟨⟨tk1,tn1,tt1⟩,ta1⟩,hh⟩ : ∃ x,((r6).step).ps.hd = x:=⟨_,rfl⟩
     have HT:=qnh P M hh
     have HH1:=Hd hh
     clear hh
     go_wp2_with fail
     refine (HT.out _ HA.out.ra).mono ?_
     rintro e w9 ⟨rfl,hb⟩
     replace HA:=Hd (HA.out.bel hb)
     clear hb HT
     obtain ⟨W10,hW10,HA⟩:=HA.out.pushE (Vk tk1 tn1 tt1 ta1) 43
     have zt:=four_of (HA.out.at 0 rfl)
     have zs:=thirt_of (HA.out.at 2 rfl)
     replace HA:=Hd (Aq.puts 2 [Vi (ta1 : Int)] 12 HA.out rfl)
     simp only [putsA,Sa,Sb,Sc] at HA
     obtain ⟨W11,hW11⟩:=Vx (setsL W10 (w.heap.size) 12 [Vi (ta1 : Int)])
     rw [hW11] at HA
     simp only [setsL] at hW11
     go_wp2_with fail
     clear hW10 hW11
     refine (qname_q P (M) ((r6).step) _ HA.out.ra).mono ?_
     rintro e w12 ⟨x12,r12,rfl,hk,hp,ho,hl⟩
     have HK12:=Hd hk
     have HLL12:=Hd hl
     replace HA:=Hd (HA.out.call ho (Or.inl rfl) hp hk.right)
     replace HLN:=Hd (Nat.le_trans hl HLN.out)
     clear ho hp hl hk
     have zs:=thirt_of (HA.out.at 2 rfl)
     replace HA:=Hd (Aq.puts 2 [.string x12] 2 HA.out rfl)
     simp only [putsA,Sa,Sb,Sc] at HA
     obtain ⟨W13,hW13⟩:=Vx (setsL w12 (w.heap.size) 2 [.string x12])
     rw [hW13] at HA
     simp only [setsL] at hW13
     go_wp2_with fail
     clear hW13
     refine (qwants_q P (M) (r12) ⟨#[79,78]⟩ _ HA.out.ra).mono ?_
     rintro e w14 ⟨x14,r14,rfl,hk,hp,ho,hl⟩
     have HK14:=Hd hk
     have HLL14:=Hd hl
     replace HA:=Hd (HA.out.call ho (Or.inl rfl) hp hk.right)
     replace HLN:=Hd (Nat.le_trans hl HLN.out)
     clear ho hp hl hk
     go_wp2_with fail
     refine (qexpr_x P (M) (r14) _ HA.out.ra).mono ?_
     rintro e w15 ⟨x15,a15,m15,c15,M15,r15,rfl,hk,hp,ho,hm,hl,hx⟩
     have HK15:=Hd hk
     have HLL15:=Hd hl
     replace HA:=Hd (HA.out.gainX ho hm hp hk.right hx)
     replace HLN:=Hd (Nat.le_trans hl HLN.out)
     clear ho hp hl hk hm hx
     obtain ⟨kk15,oo15,⟨v115,v215,v315⟩,tt15,nn15,ks15,pp15⟩:=x15
     simp only [exV,exC]
     obtain ⟨W16,hW16,HA⟩:=HA.out.pushE (Ve kk15 oo15 v115 v215 v315 tt15 nn15 (.slice a15 m15 c15) pp15) 48
     have zl:=nine_of (HA.out.at 0 rfl)
     obtain ⟨W17,hW17,HA⟩:=HA.out.pushE (Ve kk15 oo15 v115 v215 v315 tt15 nn15 (.slice a15 m15 c15) pp15) 48
     have zs:=thirt_of (HA.out.at 4 rfl)
     have hlb : w.heap.size ≤ W16.heap.size:=(HA.out.has _ (List.mem_cons_self)).1
     replace HA:=Hd (Aq.puts 4 [.slice (some ⟨W16.heap.size,0,none⟩) 1 1] 3 HA.out rfl)
     simp only [putsA,Sa,Sb,Sc] at HA
     obtain ⟨W18,hW18⟩:=Vx (setsL W17 (w.heap.size) 3 [.slice (some ⟨W16.heap.size,0,none⟩) 1 1])
     rw [hW18] at HA
     simp only [setsL] at hW18
     replace HA:=Hd ((HA.out.own (J:=fun W => XL W w.heap.size ([] : List Ex) Vn ∧ XL W w.heap.size [(Ex.mk kk15 oo15 (v115,v215,v315) tt15 nn15 ks15 pp15)] (.slice (some ⟨W16.heap.size,0,none⟩) 1 1)) fun W h hb => ⟨h.1,XL.one h.2 hb hlb⟩).drop.drop)
     go_wp2
     clear hW16 hW17 hW18
     go_meet
     case rel => exact ⟨((ta1 : Int),x12,[(Ex.mk kk15 oo15 (v115,v215,v315) tt15 nn15 ks15 pp15)]),some ⟨W16.heap.size,0,none⟩,1,1,_,_,rfl,HA.out,HLN.out,fun t r' k => HG.out t r' (Lk.yesB HS8.out (Lk.assoc (Lk.bind (show Lk placeR (r6).step ta1 _ from by have:=Lk.place (r6).step; rw [HH1.out] at this; exact this) (Lk.assoc (HK12.out.bind (Lk.assoc (HK14.out.bind (Lk.assoc (HK15.out.bind (Lk.retB k)))))))))) ⟩
   case rest =>
    clear HA HLN HG
    obtain ⟨j,a3,n3,c3,M2,r2,hn3,hA,hL,hG⟩:=hcut
    have HN3:=Hd hn3
    clear hn3
    have HA:=Hd hA
    have HLN:=Hd hL
    have HG:=Hd hG
    clear hA hL hG
    obtain ⟨W91,hWx⟩:=Vx wc
    rw [hWx] at HA ⊢
    clear hWx
    go_wp2_with fail
    refine (qwhere_l P (M2) (r2) _ HA.out.ra).mono ?_
    rintro e w19 ⟨l19,a19,c19,M19,r19,rfl,hk,hp,ho,hm,hl,hx⟩
    replace HG:=Hd (fun a r' k => HG.out a r' (hk.bind k))
    replace HA:=Hd (HA.out.gainV ho hm hp hk.right (fun _ _ _ hB k => k.mono hB) hx)
    replace HLN:=Hd (Nat.le_trans hl HLN.out)
    clear ho hp hl hk hm hx
    have zs:=thirt_of (HA.out.at 1 rfl)
    replace HA:=Hd (Aq.puts 1 [.slice a19 l19.length c19] 4 HA.out rfl)
    simp only [putsA,Sa,Sb,Sc] at HA
    obtain ⟨W20,hW20⟩:=Vx (setsL w19 (w.heap.size) 4 [.slice a19 l19.length c19])
    rw [hW20] at HA
    simp only [setsL] at hW20
    go_wp2_with fail
    clear hW20
    refine (qgroups_l P (M19) (r19) _ HA.out.ra).mono ?_
    rintro e w21 ⟨l21,a21,c21,M21,r21,rfl,hk,hp,ho,hm,hl,hx⟩
    replace HG:=Hd (fun a r' k => HG.out a r' (hk.bind k))
    replace HA:=Hd (HA.out.gainV ho hm hp hk.right (fun _ _ _ hB k => k.mono hB) hx)
    replace HLN:=Hd (Nat.le_trans hl HLN.out)
    clear ho hp hl hk hm hx
    have zs:=thirt_of (HA.out.at 1 rfl)
    replace HA:=Hd (Aq.puts 1 [.slice a21 l21.length c21] 8 HA.out rfl)
    simp only [putsA,Sa,Sb,Sc] at HA
    obtain ⟨W22,hW22⟩:=Vx (setsL w21 (w.heap.size) 8 [.slice a21 l21.length c21])
    rw [hW22] at HA
    simp only [setsL] at hW22
    go_wp2_with fail
    clear hW22
    refine (qsorts_l P (M21) (r21) _ HA.out.ra).mono ?_
    rintro e w23 ⟨l23,a23,c23,M23,r23,rfl,hk,hp,ho,hm,hl,hx⟩
    replace HG:=Hd (fun a r' k => HG.out a r' (hk.bind k))
    replace HA:=Hd (HA.out.gainV ho hm hp hk.right (fun _ _ _ hB k => k.mono hB) hx)
    replace HLN:=Hd (Nat.le_trans hl HLN.out)
    clear ho hp hl hk hm hx
    have zs:=thirt_of (HA.out.at 1 rfl)
    replace HA:=Hd (Aq.puts 1 [.slice a23 l23.length c23] 9 HA.out rfl)
    simp only [putsA,Sa,Sb,Sc] at HA
    obtain ⟨W24,hW24⟩:=Vx (setsL w23 (w.heap.size) 9 [.slice a23 l23.length c23])
    rw [hW24] at HA
    simp only [setsL] at hW24
    go_wp2_with fail
    clear hW24
    refine (qtakes_any P (M23) (r23) ⟨#[76,73,77,73,84]⟩ _ HA.out.ra).mono ?_
    rintro e w25 ⟨rfl,hp,ho⟩
    cases hS : (r23).sees wLIMIT with
    | false =>
     rw [show (r23).sees (⟨#[76,73,77,73,84]⟩ : ByteArray).data.toList = false from hS] at hp
     try rw [show (r23).sees (⟨#[76,73,77,73,84]⟩ : ByteArray).data.toList = false from hS]
     rw [if_neg (by decide)] at hp
     have HS25:=Hd hS
     replace HG:=Hd (fun a r' k => HG.out a r' (Lk.notB HS25.out k))
     replace HA:=Hd (HA.out.call ho (Or.inl rfl) hp fun k => k)
     clear hp ho hS
     have zzr:=thirt_of (HA.out.at 0 rfl)
     have zs:=thirt_of (HA.out.at 1 rfl)
     have HLK:=Hd (HG.out _ _ (Lk.retB (Lk.ret _ _)))
     go_wp2
     have HD:=Hd (HA.out.fill 0 rfl [Vi 4,.string x6,.string j.2.1,.slice a3 n3 c3,.slice a19 l19.length c19,Vn,.bool true,Vn,.slice a21 l21.length c21,.slice a23 l23.length c23,Vn,Vi p0,Vi j.1] rfl)
     obtain ⟨W99,hW99⟩:=Vx (setsL w25 W1.heap.size 0 [Vi 4,.string x6,.string j.2.1,.slice a3 n3 c3,.slice a19 l19.length c19,Vn,.bool true,Vn,.slice a21 l21.length c21,.slice a23 l23.length c23,Vn,Vi p0,Vi j.1])
     rw [hW99] at HD
     simp only [setsL,Nat.reduceAdd] at hW99
     rw [hW99]
     have zy:=(thirt_of (HD.out.at 0 rfl)).1
     clear hW99
     exact bodyPost_ret (v:=.agg (Vt 4 x6 j.2.1 (.slice a3 n3 c3) (.slice a19 l19.length c19) Vn true Vn (.slice a21 l21.length c21) (.slice a23 l23.length c23) Vn p0 j.1)) (by simp [results,Tryz.results59,go_sem,zy]) rfl (HD.out.qs (t:=⟨4,x6,j.2.1,j.2.2,l19,([] : List Ex),true,[],l21,l23,[],0,j.1⟩) (a0:=a3) (n0:=n3) (c0:=c3) (a1:=a19) (n1:=l19.length) (c1:=c19) (a2:=none) (n2:=0) (c2:=0) (a3:=none) (n3:=0) (c3:=0) (a4:=a21) (n4:=l21.length) (c4:=c21) (a5:=a23) (n5:=l23.length) (c5:=c23) (a6:=none) (n6:=0) (c6:=0) ⟨HN3.out,rfl,HN5.out,rfl,rfl,rfl,rfl⟩ HLK.out HLN.out (fun W hL h => ⟨h.1.1.1.2,h.1.1.2,h.1.1.1.1,SeL.nil _ _,h.1.2,h.2,IL.nil _ _⟩))
    | true =>
     rw [show (r23).sees (⟨#[76,73,77,73,84]⟩ : ByteArray).data.toList = true from hS] at hp
     try rw [show (r23).sees (⟨#[76,73,77,73,84]⟩ : ByteArray).data.toList = true from hS]
     rw [if_pos rfl] at hp
     have HS25:=Hd hS
     replace HG:=Hd (fun a r' k => HG.out a r' (Lk.yesB HS25.out k))
     replace HA:=Hd (HA.out.call ho (Or.inl rfl) hp fun k => k)
     replace HLN:=Hd (Nat.le_trans (RS.step_le _) HLN.out)
     clear hp ho hS
     go_wp2_with fail
     refine (qnumber_q P (M23) ((r23).step) _ HA.out.ra).mono ?_
     rintro e w26 ⟨x26,r26,rfl,hk,hp,ho,hl⟩
     have HK26:=Hd hk
     have HLL26:=Hd hl
     replace HG:=Hd (fun a r' k => HG.out a r' (Lk.assoc (hk.bind k)))
     replace HA:=Hd (HA.out.call ho (Or.inl rfl) hp hk.right)
     replace HLN:=Hd (Nat.le_trans hl HLN.out)
     clear ho hp hl hk
     obtain ⟨W27,hW27,HA⟩:=HA.out.pushE #[Vi x26.1.2.1] 3
     have zs:=thirt_of (HA.out.at 2 rfl)
     have hlb : w.heap.size ≤ w26.heap.size:=(HA.out.has _ (List.mem_cons_self)).1
     replace HA:=Hd (Aq.puts 2 [.slice (some ⟨w26.heap.size,0,none⟩) 1 1] 10 HA.out rfl)
     simp only [putsA,Sa,Sb,Sc] at HA
     obtain ⟨W28,hW28⟩:=Vx (setsL W27 (w.heap.size) 10 [.slice (some ⟨w26.heap.size,0,none⟩) 1 1])
     rw [hW28] at HA
     simp only [setsL] at hW28
     have zzr:=thirt_of (HA.out.at 1 rfl)
     have zs:=thirt_of (HA.out.at 2 rfl)
     have HLK:=Hd (HG.out _ _ (Lk.retB (Lk.ret _ _)))
     go_wp2
     clear hW27 hW28
     have HD:=Hd (HA.out.fill 1 rfl [Vi 4,.string x6,.string j.2.1,.slice a3 n3 c3,.slice a19 l19.length c19,Vn,.bool true,Vn,.slice a21 l21.length c21,.slice a23 l23.length c23,.slice (some ⟨w26.heap.size,0,none⟩) 1 1,Vi p0,Vi j.1] rfl)
     obtain ⟨W99,hW99⟩:=Vx (setsL W28 W1.heap.size 0 [Vi 4,.string x6,.string j.2.1,.slice a3 n3 c3,.slice a19 l19.length c19,Vn,.bool true,Vn,.slice a21 l21.length c21,.slice a23 l23.length c23,.slice (some ⟨w26.heap.size,0,none⟩) 1 1,Vi p0,Vi j.1])
     rw [hW99] at HD
     simp only [setsL,Nat.reduceAdd] at hW99
     rw [hW99]
     have zy:=(thirt_of (HD.out.at 1 rfl)).1
     clear hW99
     exact bodyPost_ret (v:=.agg (Vt 4 x6 j.2.1 (.slice a3 n3 c3) (.slice a19 l19.length c19) Vn true Vn (.slice a21 l21.length c21) (.slice a23 l23.length c23) (.slice (some ⟨w26.heap.size,0,none⟩) 1 1) p0 j.1)) (by simp [results,Tryz.results59,go_sem,zy]) rfl (HD.out.qs (t:=⟨4,x6,j.2.1,j.2.2,l19,([] : List Ex),true,[],l21,l23,[x26.1.2.1],0,j.1⟩) (a0:=a3) (n0:=n3) (c0:=c3) (a1:=a19) (n1:=l19.length) (c1:=c19) (a2:=none) (n2:=0) (c2:=0) (a3:=none) (n3:=0) (c3:=0) (a4:=a21) (n4:=l21.length) (c4:=c21) (a5:=a23) (n5:=l23.length) (c5:=c23) (a6:=(some ⟨w26.heap.size,0,none⟩)) (n6:=1) (c6:=1) ⟨HN3.out,rfl,HN5.out,rfl,rfl,rfl,rfl⟩ HLK.out HLN.out (fun W hL h => ⟨h.1.1.1.2,h.1.1.2,h.1.1.1.1,SeL.nil _ _,h.1.2,h.2,IL.one (hL _ (List.mem_of_getElem? (i:=0) rfl)) hlb⟩))
 | false =>
  rw [show (r).sees (⟨#[42]⟩ : ByteArray).data.toList = false from hS] at hp
  try rw [show (r).sees (⟨#[42]⟩ : ByteArray).data.toList = false from hS]
  rw [if_neg (by decide)] at hp
  have HS3:=Hd hS
  replace HA:=Hd (HA.out.call ho (Or.inl rfl) hp fun k => k)
  clear hp ho hS
  have zs:=thirt_of (HA.out.at 1 rfl)
  replace HA:=Hd (Aq.puts 1 [.bool false] 6 HA.out rfl)
  simp only [putsA,Sa,Sb,Sc] at HA
  obtain ⟨W29,hW29⟩:=Vx (setsL w3 (w.heap.size) 6 [.bool false])
  rw [hW29] at HA
  simp only [setsL] at hW29
  have zs:=thirt_of (HA.out.at 1 rfl)
  have HGO:=HG
  clear HG
  have HG : Hid (∀ l r',Lk (lsR itemR 8 []) (r) l r' → Lk (listR itemR 8) (r) l r'):=fun _ _ k => k
  go_wp2_with fail
  clear hW29
  go_loopw [] (fun wr => ∃ (acc : List Ex) (ks : List Value) (a : Option Addr) (N c : Nat) (o : Obj) (M1 : Nat) (r1 : RS),N = acc.length ∧ acc.length = ks.length ∧ (∀ W : World,(∀ q,(Value.slice a N c).ownBlock = some q → W.heap[q]? = some o) → W.ownsRow w.heap.size 48 9 (.slice a N c) N (xcs acc ks)) ∧ Aq w P M M1 r1 ((W1.heap.size,.cells Vq 27 (0,0)) :: (w.heap.size,.cells (Vt 4 Vz Vz Vn Vn (.slice a N c) false Vn Vn Vn Vn p0 0) 27 (0,0)) :: rowL (.slice a N c) o) (fun W => (True) ∧ XsO W w.heap.size acc ks) wr ∧ r1.ps.rest.length ≤ r.ps.rest.length ∧ r1.ps.rest.length + N ≤ r.ps.rest.length ∧ (N = 0 ∨ (r1.wrong = false ∧ r1.many.length < r1.pos)) ∧ (∀ l r',Lk (lsR itemR 8 acc) r1 l r' → Lk (listR itemR 8) (r) l r')) (fun wr => restQ wr P)
  case atStart => exact ⟨[],[],none,0,0,.cells #[] 48 (0,0),M,r,rfl,rfl,(fun _ _ => World.ownsRow_nil _ _ _ _),(HA.out.imp fun _ _ h => ⟨h,XsO.nil _ _⟩),HLN.out,HLN.out,Or.inl rfl,HG.out⟩
  case round =>
   obtain ⟨acc,ks,a,N,c,o,M1,r1,hN,hlk,how,ha,hl,hlN,hroom,hg⟩:=hrel
   have HRN:=Hd ha.ra.restQ
   have HOK1:=Hd ha.ra.ok
   have HLK0:=Hd hlk
   have HOW:=Hd how
   have HN:=Hd hN
   have HLN2:=Hd hlN
   have HROOM:=Hd hroom
   have hN9 : N ≤ 1002:=by omega
   clear HA HLN HG
   have HA:=Hd ha
   have HLN:=Hd hl
   have HG:=Hd hg
   clear ha hl hlk how hN hlN hroom hg
   have zzs:=thirt_of (HA.out.at 1 rfl)
   cases hw1 : r1.wrong with
   | true =>
    obtain ⟨cg,coff,ccap,cka,ckc,ch1,-,-,-,-,cn,-,cl,-,-⟩:=HA.out.ra.cells
    obtain ⟨⟨c0,c1,c2,c3⟩,cf0,cf1,cf2,cf3⟩:=four_of ch1
    have cni : ((r1).pos : Int) + 1 ≤ 1001:=by omega
    clear ch1
    rw [hw1] at c2
    have HNL : Hid (N = (acc).length):=Hd HN.out
    have HLKS:=Hd (HG.out acc _ (Lk.ls_wrong hw1))
    replace HA:=Hd (Aq.ownRow (L:=[(W1.heap.size,.cells Vq 27 (0,0)),(w.heap.size,.cells (Vt 4 Vz Vz Vn Vn (.slice a N c) false Vn Vn Vn Vn p0 0) 27 (0,0))]) (J:=fun W => XL W w.heap.size acc (.slice a N c)) HA.out fun W h hq => ⟨ks,HLK0.out,by have:=HOW.out W hq; rw [HNL.out] at this ⊢; exact this,h.2⟩)
    replace HG : Hid (∀ t r',Lk (selF (false,acc)) (r1) t r' → Lk selR r t r'):=fun t r' k => HGO.out t r' (Lk.notB HS3.out (Lk.assoc (Lk.bind HLKS.out (Lk.retB k))))
    clear HLKS
    have HN5 : Hid (N = (acc).length):=Hd HNL.out
    go_wp2_with fail
    refine (qwants_q P (M1) (r1) ⟨#[70,82,79,77]⟩ _ HA.out.ra).mono ?_
    rintro e w30 ⟨x30,r30,rfl,hk,hp,ho,hl⟩
    have HK30:=Hd hk
    have HLL30:=Hd hl
    replace HG:=Hd (fun a r' k => HG.out a r' (hk.bind k))
    replace HA:=Hd (HA.out.call ho (Or.inl rfl) hp hk.right)
    replace HLN:=Hd (Nat.le_trans hl HLN.out)
    clear ho hp hl hk
    go_wp2_with fail
    refine (qname_q P (M1) (r30) _ HA.out.ra).mono ?_
    rintro e w31 ⟨x31,r31,rfl,hk,hp,ho,hl⟩
    have HK31:=Hd hk
    have HLL31:=Hd hl
    replace HG:=Hd (fun a r' k => HG.out a r' (hk.bind k))
    replace HA:=Hd (HA.out.call ho (Or.inl rfl) hp hk.right)
    replace HLN:=Hd (Nat.le_trans hl HLN.out)
    clear ho hp hl hk
    have zs:=thirt_of (HA.out.at 1 rfl)
    replace HA:=Hd (Aq.puts 1 [.string x31] 1 HA.out rfl)
    simp only [putsA,Sa,Sb,Sc] at HA
    obtain ⟨W32,hW32⟩:=Vx (setsL w31 (w.heap.size) 1 [.string x31])
    rw [hW32] at HA
    simp only [setsL] at hW32
    go_wp2_with fail
    clear hW32
    refine (qtakes_any P (M1) (r31) ⟨#[74,79,73,78]⟩ _ HA.out.ra).mono ?_
    rintro e w33 ⟨rfl,hp,ho⟩
    obtain ⟨b33,hb⟩:=Vx ((r31).sees wJOIN)
    rw [show (r31).sees (⟨#[74,79,73,78]⟩ : ByteArray).data.toList = b33 from hb] at hp
    try rw [show (r31).sees (⟨#[74,79,73,78]⟩ : ByteArray).data.toList = b33 from hb]
    have HS33:=Hd hb
    clear hb
    replace HA:=Hd (HA.out.call ho (Or.inl rfl) hp (RS.if_right _ _))
    replace HLN : Hid (((if b33 = true then (r31).step else r31)).ps.rest.length ≤ r.ps.rest.length):=Nat.le_trans (RS.if_le _ _) HLN.out
    clear ho hp
    go_upto_if 49 with fail
    go_cut [] from 5 to 82 (fun wx => ∃ (j : Int × ByteArray × List Ex) (a3 : Option Addr) (n3 c3 M2 : Nat) (r2 : RS),n3 = j.2.2.length ∧ Aq w P M M2 r2 [(W1.heap.size,.cells Vq 27 (0,0)),(w.heap.size,.cells (Vt 4 x31 j.2.1 (.slice a3 n3 c3) Vn (.slice a N c) false Vn Vn Vn Vn p0 j.1) 27 (0,0))] (fun W => XL W w.heap.size acc (.slice a N c) ∧ XL W w.heap.size j.2.2 (.slice a3 n3 c3)) wx ∧ r2.ps.rest.length ≤ r.ps.rest.length ∧ (∀ t r',Lk (selW (false,acc) x31 j) r2 t r' → Lk selR r t r'))
    case first =>
     cases b33 with
     | false =>
      rw [if_neg (by decide)] at HA HLN
      go_wp2
      go_meet
      case rel => exact ⟨(0,⟨#[]⟩,[]),none,0,0,_,_,rfl,(HA.out.imp fun W _ h => ⟨h,XL.nil _ _⟩),HLN.out,fun t r' k => HG.out t r' (Lk.notB HS33.out (Lk.retB k))⟩
     | true =>
      rw [if_pos rfl] at HA HLN
      obtain ⟨⟨⟨tk2,tn2,tt2⟩,ta2⟩,hh⟩ : ∃ x,((r31).step).ps.hd = x:=⟨_,rfl⟩
      have HT:=qnh P M1 hh
      have HH2:=Hd hh
      clear hh
      go_wp2_with fail
      refine (HT.out _ HA.out.ra).mono ?_
      rintro e w34 ⟨rfl,hb⟩
      replace HA:=Hd (HA.out.bel hb)
      clear hb HT
      obtain ⟨W35,hW35,HA⟩:=HA.out.pushE (Vk tk2 tn2 tt2 ta2) 43
      have zt:=four_of (HA.out.at 0 rfl)
      have zs:=thirt_of (HA.out.at 2 rfl)
      replace HA:=Hd (Aq.puts 2 [Vi (ta2 : Int)] 12 HA.out rfl)
      simp only [putsA,Sa,Sb,Sc] at HA
      obtain ⟨W36,hW36⟩:=Vx (setsL W35 (w.heap.size) 12 [Vi (ta2 : Int)])
      rw [hW36] at HA
      simp only [setsL] at hW36
      go_wp2_with fail
      clear hW35 hW36
      refine (qname_q P (M1) ((r31).step) _ HA.out.ra).mono ?_
      rintro e w37 ⟨x37,r37,rfl,hk,hp,ho,hl⟩
      have HK37:=Hd hk
      have HLL37:=Hd hl
      replace HA:=Hd (HA.out.call ho (Or.inl rfl) hp hk.right)
      replace HLN:=Hd (Nat.le_trans hl HLN.out)
      clear ho hp hl hk
      have zs:=thirt_of (HA.out.at 2 rfl)
      replace HA:=Hd (Aq.puts 2 [.string x37] 2 HA.out rfl)
      simp only [putsA,Sa,Sb,Sc] at HA
      obtain ⟨W38,hW38⟩:=Vx (setsL w37 (w.heap.size) 2 [.string x37])
      rw [hW38] at HA
      simp only [setsL] at hW38
      go_wp2_with fail
      clear hW38
      refine (qwants_q P (M1) (r37) ⟨#[79,78]⟩ _ HA.out.ra).mono ?_
      rintro e w39 ⟨x39,r39,rfl,hk,hp,ho,hl⟩
      have HK39:=Hd hk
      have HLL39:=Hd hl
      replace HA:=Hd (HA.out.call ho (Or.inl rfl) hp hk.right)
      replace HLN:=Hd (Nat.le_trans hl HLN.out)
      clear ho hp hl hk
      go_wp2_with fail
      refine (qexpr_x P (M1) (r39) _ HA.out.ra).mono ?_
      rintro e w40 ⟨x40,a40,m40,c40,M40,r40,rfl,hk,hp,ho,hm,hl,hx⟩
      have HK40:=Hd hk
      have HLL40:=Hd hl
      replace HA:=Hd (HA.out.gainX ho hm hp hk.right hx)
      replace HLN:=Hd (Nat.le_trans hl HLN.out)
      clear ho hp hl hk hm hx
      obtain ⟨kk40,oo40,⟨v140,v240,v340⟩,tt40,nn40,ks40,pp40⟩:=x40
      simp only [exV,exC]
      obtain ⟨W41,hW41,HA⟩:=HA.out.pushE (Ve kk40 oo40 v140 v240 v340 tt40 nn40 (.slice a40 m40 c40) pp40) 48
      have zl:=nine_of (HA.out.at 0 rfl)
      obtain ⟨W42,hW42,HA⟩:=HA.out.pushE (Ve kk40 oo40 v140 v240 v340 tt40 nn40 (.slice a40 m40 c40) pp40) 48
      have zs:=thirt_of (HA.out.at 4 rfl)
      have hlb : w.heap.size ≤ W41.heap.size:=(HA.out.has _ (List.mem_cons_self)).1
      replace HA:=Hd (Aq.puts 4 [.slice (some ⟨W41.heap.size,0,none⟩) 1 1] 3 HA.out rfl)
      simp only [putsA,Sa,Sb,Sc] at HA
      obtain ⟨W43,hW43⟩:=Vx (setsL W42 (w.heap.size) 3 [.slice (some ⟨W41.heap.size,0,none⟩) 1 1])
      rw [hW43] at HA
      simp only [setsL] at hW43
      replace HA:=Hd ((HA.out.own (J:=fun W => XL W w.heap.size acc (.slice a N c) ∧ XL W w.heap.size [(Ex.mk kk40 oo40 (v140,v240,v340) tt40 nn40 ks40 pp40)] (.slice (some ⟨W41.heap.size,0,none⟩) 1 1)) fun W h hb => ⟨h.1,XL.one h.2 hb hlb⟩).drop.drop)
      go_wp2
      clear hW41 hW42 hW43
      go_meet
      case rel => exact ⟨((ta2 : Int),x37,[(Ex.mk kk40 oo40 (v140,v240,v340) tt40 nn40 ks40 pp40)]),some ⟨W41.heap.size,0,none⟩,1,1,_,_,rfl,HA.out,HLN.out,fun t r' k => HG.out t r' (Lk.yesB HS33.out (Lk.assoc (Lk.bind (show Lk placeR (r31).step ta2 _ from by have:=Lk.place (r31).step; rw [HH2.out] at this; exact this) (Lk.assoc (HK37.out.bind (Lk.assoc (HK39.out.bind (Lk.assoc (HK40.out.bind (Lk.retB k)))))))))) ⟩
    case rest =>
     clear HA HLN HG
     obtain ⟨j,a3,n3,c3,M2,r2,hn3,hA,hL,hG⟩:=hcut
     have HN3:=Hd hn3
     clear hn3
     have HA:=Hd hA
     have HLN:=Hd hL
     have HG:=Hd hG
     clear hA hL hG
     obtain ⟨W91,hWx⟩:=Vx wc
     rw [hWx] at HA ⊢
     clear hWx
     go_wp2_with fail
     refine (qwhere_l P (M2) (r2) _ HA.out.ra).mono ?_
     rintro e w44 ⟨l44,a44,c44,M44,r44,rfl,hk,hp,ho,hm,hl,hx⟩
     replace HG:=Hd (fun a r' k => HG.out a r' (hk.bind k))
     replace HA:=Hd (HA.out.gainV ho hm hp hk.right (fun _ _ _ hB k => k.mono hB) hx)
     replace HLN:=Hd (Nat.le_trans hl HLN.out)
     clear ho hp hl hk hm hx
     have zs:=thirt_of (HA.out.at 1 rfl)
     replace HA:=Hd (Aq.puts 1 [.slice a44 l44.length c44] 4 HA.out rfl)
     simp only [putsA,Sa,Sb,Sc] at HA
     obtain ⟨W45,hW45⟩:=Vx (setsL w44 (w.heap.size) 4 [.slice a44 l44.length c44])
     rw [hW45] at HA
     simp only [setsL] at hW45
     go_wp2_with fail
     clear hW45
     refine (qgroups_l P (M44) (r44) _ HA.out.ra).mono ?_
     rintro e w46 ⟨l46,a46,c46,M46,r46,rfl,hk,hp,ho,hm,hl,hx⟩
     replace HG:=Hd (fun a r' k => HG.out a r' (hk.bind k))
     replace HA:=Hd (HA.out.gainV ho hm hp hk.right (fun _ _ _ hB k => k.mono hB) hx)
     replace HLN:=Hd (Nat.le_trans hl HLN.out)
     clear ho hp hl hk hm hx
     have zs:=thirt_of (HA.out.at 1 rfl)
     replace HA:=Hd (Aq.puts 1 [.slice a46 l46.length c46] 8 HA.out rfl)
     simp only [putsA,Sa,Sb,Sc] at HA
     obtain ⟨W47,hW47⟩:=Vx (setsL w46 (w.heap.size) 8 [.slice a46 l46.length c46])
     rw [hW47] at HA
     simp only [setsL] at hW47
     go_wp2_with fail
     clear hW47
     refine (qsorts_l P (M46) (r46) _ HA.out.ra).mono ?_
     rintro e w48 ⟨l48,a48,c48,M48,r48,rfl,hk,hp,ho,hm,hl,hx⟩
     replace HG:=Hd (fun a r' k => HG.out a r' (hk.bind k))
     replace HA:=Hd (HA.out.gainV ho hm hp hk.right (fun _ _ _ hB k => k.mono hB) hx)
     replace HLN:=Hd (Nat.le_trans hl HLN.out)
     clear ho hp hl hk hm hx
     have zs:=thirt_of (HA.out.at 1 rfl)
     replace HA:=Hd (Aq.puts 1 [.slice a48 l48.length c48] 9 HA.out rfl)
     simp only [putsA,Sa,Sb,Sc] at HA
     obtain ⟨W49,hW49⟩:=Vx (setsL w48 (w.heap.size) 9 [.slice a48 l48.length c48])
     rw [hW49] at HA
     simp only [setsL] at hW49
     go_wp2_with fail
     clear hW49
     refine (qtakes_any P (M48) (r48) ⟨#[76,73,77,73,84]⟩ _ HA.out.ra).mono ?_
     rintro e w50 ⟨rfl,hp,ho⟩
     cases hS : (r48).sees wLIMIT with
     | false =>
      rw [show (r48).sees (⟨#[76,73,77,73,84]⟩ : ByteArray).data.toList = false from hS] at hp
      try rw [show (r48).sees (⟨#[76,73,77,73,84]⟩ : ByteArray).data.toList = false from hS]
      rw [if_neg (by decide)] at hp
      have HS50:=Hd hS
      replace HG:=Hd (fun a r' k => HG.out a r' (Lk.notB HS50.out k))
      replace HA:=Hd (HA.out.call ho (Or.inl rfl) hp fun k => k)
      clear hp ho hS
      have zzr:=thirt_of (HA.out.at 0 rfl)
      have zs:=thirt_of (HA.out.at 1 rfl)
      have HLK:=Hd (HG.out _ _ (Lk.retB (Lk.ret _ _)))
      go_wp2
      have HD:=Hd (HA.out.fill 0 rfl [Vi 4,.string x31,.string j.2.1,.slice a3 n3 c3,.slice a44 l44.length c44,.slice a N c,.bool false,Vn,.slice a46 l46.length c46,.slice a48 l48.length c48,Vn,Vi p0,Vi j.1] rfl)
      obtain ⟨W99,hW99⟩:=Vx (setsL w50 W1.heap.size 0 [Vi 4,.string x31,.string j.2.1,.slice a3 n3 c3,.slice a44 l44.length c44,.slice a N c,.bool false,Vn,.slice a46 l46.length c46,.slice a48 l48.length c48,Vn,Vi p0,Vi j.1])
      rw [hW99] at HD
      simp only [setsL,Nat.reduceAdd] at hW99
      rw [hW99]
      have zy:=(thirt_of (HD.out.at 0 rfl)).1
      clear hW99
      exact bodyPost_ret (v:=.agg (Vt 4 x31 j.2.1 (.slice a3 n3 c3) (.slice a44 l44.length c44) (.slice a N c) false Vn (.slice a46 l46.length c46) (.slice a48 l48.length c48) Vn p0 j.1)) (by simp [results,Tryz.results59,go_sem,zy]) rfl (HD.out.qs (t:=⟨4,x31,j.2.1,j.2.2,l44,acc,false,[],l46,l48,[],0,j.1⟩) (a0:=a3) (n0:=n3) (c0:=c3) (a1:=a44) (n1:=l44.length) (c1:=c44) (a2:=a) (n2:=N) (c2:=c) (a3:=none) (n3:=0) (c3:=0) (a4:=a46) (n4:=l46.length) (c4:=c46) (a5:=a48) (n5:=l48.length) (c5:=c48) (a6:=none) (n6:=0) (c6:=0) ⟨HN3.out,rfl,HN5.out,rfl,rfl,rfl,rfl⟩ HLK.out HLN.out (fun W hL h => ⟨h.1.1.1.2,h.1.1.2,h.1.1.1.1,SeL.nil _ _,h.1.2,h.2,IL.nil _ _⟩))
     | true =>
      rw [show (r48).sees (⟨#[76,73,77,73,84]⟩ : ByteArray).data.toList = true from hS] at hp
      try rw [show (r48).sees (⟨#[76,73,77,73,84]⟩ : ByteArray).data.toList = true from hS]
      rw [if_pos rfl] at hp
      have HS50:=Hd hS
      replace HG:=Hd (fun a r' k => HG.out a r' (Lk.yesB HS50.out k))
      replace HA:=Hd (HA.out.call ho (Or.inl rfl) hp fun k => k)
      replace HLN:=Hd (Nat.le_trans (RS.step_le _) HLN.out)
      clear hp ho hS
      go_wp2_with fail
      refine (qnumber_q P (M48) ((r48).step) _ HA.out.ra).mono ?_
      rintro e w51 ⟨x51,r51,rfl,hk,hp,ho,hl⟩
      have HK51:=Hd hk
      have HLL51:=Hd hl
      replace HG:=Hd (fun a r' k => HG.out a r' (Lk.assoc (hk.bind k)))
      replace HA:=Hd (HA.out.call ho (Or.inl rfl) hp hk.right)
      replace HLN:=Hd (Nat.le_trans hl HLN.out)
      clear ho hp hl hk
      obtain ⟨W52,hW52,HA⟩:=HA.out.pushE #[Vi x51.1.2.1] 3
      have zs:=thirt_of (HA.out.at 2 rfl)
      have hlb : w.heap.size ≤ w51.heap.size:=(HA.out.has _ (List.mem_cons_self)).1
      replace HA:=Hd (Aq.puts 2 [.slice (some ⟨w51.heap.size,0,none⟩) 1 1] 10 HA.out rfl)
      simp only [putsA,Sa,Sb,Sc] at HA
      obtain ⟨W53,hW53⟩:=Vx (setsL W52 (w.heap.size) 10 [.slice (some ⟨w51.heap.size,0,none⟩) 1 1])
      rw [hW53] at HA
      simp only [setsL] at hW53
      have zzr:=thirt_of (HA.out.at 1 rfl)
      have zs:=thirt_of (HA.out.at 2 rfl)
      have HLK:=Hd (HG.out _ _ (Lk.retB (Lk.ret _ _)))
      go_wp2
      clear hW52 hW53
      have HD:=Hd (HA.out.fill 1 rfl [Vi 4,.string x31,.string j.2.1,.slice a3 n3 c3,.slice a44 l44.length c44,.slice a N c,.bool false,Vn,.slice a46 l46.length c46,.slice a48 l48.length c48,.slice (some ⟨w51.heap.size,0,none⟩) 1 1,Vi p0,Vi j.1] rfl)
      obtain ⟨W99,hW99⟩:=Vx (setsL W53 W1.heap.size 0 [Vi 4,.string x31,.string j.2.1,.slice a3 n3 c3,.slice a44 l44.length c44,.slice a N c,.bool false,Vn,.slice a46 l46.length c46,.slice a48 l48.length c48,.slice (some ⟨w51.heap.size,0,none⟩) 1 1,Vi p0,Vi j.1])
      rw [hW99] at HD
      simp only [setsL,Nat.reduceAdd] at hW99
      rw [hW99]
      have zy:=(thirt_of (HD.out.at 1 rfl)).1
      clear hW99
      exact bodyPost_ret (v:=.agg (Vt 4 x31 j.2.1 (.slice a3 n3 c3) (.slice a44 l44.length c44) (.slice a N c) false Vn (.slice a46 l46.length c46) (.slice a48 l48.length c48) (.slice (some ⟨w51.heap.size,0,none⟩) 1 1) p0 j.1)) (by simp [results,Tryz.results59,go_sem,zy]) rfl (HD.out.qs (t:=⟨4,x31,j.2.1,j.2.2,l44,acc,false,[],l46,l48,[x51.1.2.1],0,j.1⟩) (a0:=a3) (n0:=n3) (c0:=c3) (a1:=a44) (n1:=l44.length) (c1:=c44) (a2:=a) (n2:=N) (c2:=c) (a3:=none) (n3:=0) (c3:=0) (a4:=a46) (n4:=l46.length) (c4:=c46) (a5:=a48) (n5:=l48.length) (c5:=c48) (a6:=(some ⟨w51.heap.size,0,none⟩)) (n6:=1) (c6:=1) ⟨HN3.out,rfl,HN5.out,rfl,rfl,rfl,rfl⟩ HLK.out HLN.out (fun W hL h => ⟨h.1.1.1.2,h.1.1.2,h.1.1.1.1,SeL.nil _ _,h.1.2,h.2,IL.one (hL _ (List.mem_of_getElem? (i:=0) rfl)) hlb⟩))
   | false =>
    obtain ⟨cg,coff,ccap,cka,ckc,ch1,-,-,-,-,cn,-,cl,-,-⟩:=HA.out.ra.cells
    obtain ⟨⟨c0,c1,c2,c3⟩,cf0,cf1,cf2,cf3⟩:=four_of ch1
    have cni : ((r1).pos : Int) + 1 ≤ 1001:=by omega
    clear ch1
    rw [hw1] at c2
    have HW1:=Hd hw1
    clear hw1
    go_wp2_with fail
    refine (qcounts_any P (M1) (r1) N 8 _ HA.out.ra (fun e => HROOM.out.elim (fun h => by omega) fun h => h.2)).mono ?_
    rintro e w54 ⟨rfl,M54,hp,ho,hm⟩
    replace HA:=Hd (HA.out.call ho hm hp (fun k => by rw [RS.cnt_wrong] at k; exact k))
    replace HLN : Hid ((((r1).cnt N 8)).ps.rest.length ≤ r.ps.rest.length):=Nat.le_trans (Nat.le_of_eq (congrArg List.length (RS.cnt_rest _ _ _))) HLN.out
    clear ho hp hm
    go_wp2_with fail
    refine (qitem_x P (M54) (((r1).cnt N 8)) _ HA.out.ra).mono ?_
    rintro e w55 ⟨x55,a55,m55,c55,M55,r55,rfl,hk,hp,ho,hm,hl,hx⟩
    have HK55:=Hd hk
    have HLL55:=Hd hl
    replace HA:=Hd (HA.out.gainX ho hm hp hk.right hx)
    replace HLN:=Hd (Nat.le_trans hl HLN.out)
    clear ho hp hl hk hm hx
    obtain ⟨kk55,oo55,⟨v155,v255,v355⟩,tt55,nn55,ks55,pp55⟩:=x55
    simp only [exV,exC]
    obtain ⟨W56,hW56,HA⟩:=HA.out.pushE (Ve kk55 oo55 v155 v255 v355 tt55 nn55 (.slice a55 m55 c55) pp55) 48
    have zl:=nine_of (HA.out.at 0 rfl)
    have zzs:=thirt_of (HA.out.at 2 rfl)
    obtain ⟨W57,hW57,HA⟩:=HA.out.pushE (Ve kk55 oo55 v155 v255 v355 tt55 nn55 (.slice a55 m55 c55) pp55) 48
    have zzs:=thirt_of (HA.out.at 3 rfl)
    have HA8OK:=Hd HA.out.ra.ok
    obtain ⟨i0,hi,hz0,hz1,hz2⟩:=info_parts Tryz.infoExpr
    go_wp2_with (first | (at_builtin; refine wpList_append_lies _ rfl _ _ 22 rfl w.heap.size 48 i0 _ 9 112 Tryz.underlying22 hi hz0 hz1 hz2 rfl (by decide) (.slice a N c) (N) (xcs acc ks) rfl ?c0 ⟨W56.heap.size,0,none⟩ 1 1 (exC (Ex.mk kk55 oo55 (v155,v255,v355) tt55 nn55 ks55 pp55) (Value.slice a55 m55 c55)) rfl rfl ?c1 ?c2 (by decide) ?c3 ?c4 ?c5 _ rfl ?_))
    case c0 => exact HOW.out _ fun q hq => Aq.rowAt (L:=[(W56.heap.size,.cells (Ve kk55 oo55 v155 v255 v355 tt55 nn55 (.slice a55 m55 c55) pp55) 48 (0,0)),(w55.heap.size,.cells (Ve kk55 oo55 v155 v255 v355 tt55 nn55 (.slice a55 m55 c55) pp55) 48 (0,0)),(W1.heap.size,.cells Vq 27 (0,0)),(w.heap.size,.cells (Vt 4 Vz Vz Vn Vn (.slice a N c) false Vn Vn Vn Vn p0 0) 27 (0,0))]) HA.out hq
    case c1 => exact World.news_of_block (HA.out.at 0 rfl)
    case c2 => exact exC_one _ _ rfl
    case c3 => unfold maxLen; omega
    case c4 => omega
    case c5 => exact HA.out.only.size
    intro g8 cap8 w8 hown8 hgrow8 hor8 hlt8
    clear hi hz0 hz1 hz2 hW56 hW57
    obtain ⟨o8,ho8,hA8⟩:=Aq.growEnd (L:=[(W1.heap.size,.cells Vq 27 (0,0)),(w.heap.size,.cells (Vt 4 Vz Vz Vn Vn (.slice a N c) false Vn Vn Vn Vn p0 0) 27 (0,0))]) HA.out.drop.drop hgrow8 (hor8.imp id fun e => Nat.le_of_eq e.symm) hlt8 (v':=.slice (some ⟨g8,0,none⟩) (N + 1) cap8) rfl
    have HOWN : Hid (∀ W : World,(∀ q,(Value.slice (some ⟨g8,0,none⟩) (N + 1) cap8).ownBlock = some q → W.heap[q]? = some o8) → W.ownsRow w.heap.size 48 9 (.slice (some ⟨g8,0,none⟩) (N + 1) cap8) (N + 1) (xcs acc ks ++ exC (Ex.mk kk55 oo55 (v155,v255,v355) tt55 nn55 ks55 pp55) (Value.slice a55 m55 c55))):=fun W hW => own_kept hown8 fun b hb => by (obtain rfl : g8 = b:=by simpa [Value.ownBlock] using hb); exact (hW g8 rfl).trans ho8.symm
    replace HA:=Hd (hA8.imp (J:=fun W => (True) ∧ XsO W w.heap.size (acc ++ [(Ex.mk kk55 oo55 (v155,v255,v355) tt55 nn55 ks55 pp55)]) (ks ++ [(Value.slice a55 m55 c55)])) fun W _ h => ⟨h.1.1,XsO.snoc h.1.2 HLK0.out h.2⟩)
    clear hown8 hgrow8 hor8 hlt8 ho8 hA8
    have zzt:=thirt_of (HA.out.at 1 rfl)
    replace HA:=Hd (Aq.puts 1 [.slice (some ⟨g8,0,none⟩) (N + 1) cap8] 5 HA.out rfl)
    simp only [putsA,Sa,Sb,Sc] at HA
    obtain ⟨W58,hW58⟩:=Vx (setsL w8 (w.heap.size) 5 [.slice (some ⟨g8,0,none⟩) (N + 1) cap8])
    rw [hW58] at HA
    simp only [setsL] at hW58
    go_wp2_with fail
    clear hW58
    refine (qtakes_any P (M55) (r55) ⟨#[44]⟩ _ HA.out.ra).mono ?_
    rintro e w59 ⟨rfl,hp,ho⟩
    cases hS : (r55).sees [44] with
    | false =>
     rw [show (r55).sees (⟨#[44]⟩ : ByteArray).data.toList = false from hS] at hp
     try rw [show (r55).sees (⟨#[44]⟩ : ByteArray).data.toList = false from hS]
     rw [if_neg (by decide)] at hp
     have HS59:=Hd hS
     replace HA:=Hd (HA.out.call ho (Or.inl rfl) hp fun k => k)
     clear hp ho hS
     have HOWN2 : Hid (∀ W : World,(∀ q,(Value.slice (some ⟨g8,0,none⟩) (N + 1) cap8).ownBlock = some q → W.heap[q]? = some o8) → W.ownsRow w.heap.size 48 9 (.slice (some ⟨g8,0,none⟩) (N + 1) cap8) (N + 1) (xcs (acc ++ [(Ex.mk kk55 oo55 (v155,v255,v355) tt55 nn55 ks55 pp55)]) (ks ++ [(Value.slice a55 m55 c55)]))):=fun W hW => by have:=HOWN.out W hW; rw [xcs_append _ _ _ _ HLK0.out]; simpa [xcs] using this
     have HNL : Hid ((N + 1) = ((acc ++ [(Ex.mk kk55 oo55 (v155,v255,v355) tt55 nn55 ks55 pp55)])).length):=Hd (by simp [HN.out])
     have HLKS:=Hd (HG.out _ _ (Lk.ls_last (show Lk itemR (r1.cnt acc.length 8) (Ex.mk kk55 oo55 (v155,v255,v355) tt55 nn55 ks55 pp55) _ from by have:=HK55.out; rw [HN.out] at this; exact this) HS59.out))
     replace HA:=Hd (Aq.ownRow (L:=[(W1.heap.size,.cells Vq 27 (0,0)),(w.heap.size,.cells (Vt 4 Vz Vz Vn Vn (.slice (some ⟨g8,0,none⟩) (N + 1) cap8) false Vn Vn Vn Vn p0 0) 27 (0,0))]) (J:=fun W => XL W w.heap.size (acc ++ [(Ex.mk kk55 oo55 (v155,v255,v355) tt55 nn55 ks55 pp55)]) (.slice (some ⟨g8,0,none⟩) (N + 1) cap8)) HA.out fun W h hq => ⟨(ks ++ [(Value.slice a55 m55 c55)]),(by simp [HLK0.out]),by have:=HOWN2.out W hq; rw [HNL.out] at this ⊢; exact this,h.2⟩)
     replace HG : Hid (∀ t r',Lk (selF (false,(acc ++ [(Ex.mk kk55 oo55 (v155,v255,v355) tt55 nn55 ks55 pp55)]))) (r55) t r' → Lk selR r t r'):=fun t r' k => HGO.out t r' (Lk.notB HS3.out (Lk.assoc (Lk.bind HLKS.out (Lk.retB k))))
     clear HLKS
     have HN5 : Hid ((N + 1) = ((acc ++ [(Ex.mk kk55 oo55 (v155,v255,v355) tt55 nn55 ks55 pp55)])).length):=Hd HNL.out
     go_wp2_with fail
     refine (qwants_q P (M55) (r55) ⟨#[70,82,79,77]⟩ _ HA.out.ra).mono ?_
     rintro e w60 ⟨x60,r60,rfl,hk,hp,ho,hl⟩
     have HK60:=Hd hk
     have HLL60:=Hd hl
     replace HG:=Hd (fun a r' k => HG.out a r' (hk.bind k))
     replace HA:=Hd (HA.out.call ho (Or.inl rfl) hp hk.right)
     replace HLN:=Hd (Nat.le_trans hl HLN.out)
     clear ho hp hl hk
     go_wp2_with fail
     refine (qname_q P (M55) (r60) _ HA.out.ra).mono ?_
     rintro e w61 ⟨x61,r61,rfl,hk,hp,ho,hl⟩
     have HK61:=Hd hk
     have HLL61:=Hd hl
     replace HG:=Hd (fun a r' k => HG.out a r' (hk.bind k))
     replace HA:=Hd (HA.out.call ho (Or.inl rfl) hp hk.right)
     replace HLN:=Hd (Nat.le_trans hl HLN.out)
     clear ho hp hl hk
     have zs:=thirt_of (HA.out.at 1 rfl)
     replace HA:=Hd (Aq.puts 1 [.string x61] 1 HA.out rfl)
     simp only [putsA,Sa,Sb,Sc] at HA
     obtain ⟨W62,hW62⟩:=Vx (setsL w61 (w.heap.size) 1 [.string x61])
     rw [hW62] at HA
     simp only [setsL] at hW62
     go_wp2_with fail
     clear hW62
     refine (qtakes_any P (M55) (r61) ⟨#[74,79,73,78]⟩ _ HA.out.ra).mono ?_
     rintro e w63 ⟨rfl,hp,ho⟩
     obtain ⟨b63,hb⟩:=Vx ((r61).sees wJOIN)
     rw [show (r61).sees (⟨#[74,79,73,78]⟩ : ByteArray).data.toList = b63 from hb] at hp
     try rw [show (r61).sees (⟨#[74,79,73,78]⟩ : ByteArray).data.toList = b63 from hb]
     have HS63:=Hd hb
     clear hb
     replace HA:=Hd (HA.out.call ho (Or.inl rfl) hp (RS.if_right _ _))
     replace HLN : Hid (((if b63 = true then (r61).step else r61)).ps.rest.length ≤ r.ps.rest.length):=Nat.le_trans (RS.if_le _ _) HLN.out
     clear ho hp
     go_upto_if 49 with fail
     go_cut [] from 5 to 82 (fun wx => ∃ (j : Int × ByteArray × List Ex) (a3 : Option Addr) (n3 c3 M2 : Nat) (r2 : RS),n3 = j.2.2.length ∧ Aq w P M M2 r2 [(W1.heap.size,.cells Vq 27 (0,0)),(w.heap.size,.cells (Vt 4 x61 j.2.1 (.slice a3 n3 c3) Vn (.slice (some ⟨g8,0,none⟩) (N + 1) cap8) false Vn Vn Vn Vn p0 j.1) 27 (0,0))] (fun W => XL W w.heap.size (acc ++ [(Ex.mk kk55 oo55 (v155,v255,v355) tt55 nn55 ks55 pp55)]) (.slice (some ⟨g8,0,none⟩) (N + 1) cap8) ∧ XL W w.heap.size j.2.2 (.slice a3 n3 c3)) wx ∧ r2.ps.rest.length ≤ r.ps.rest.length ∧ (∀ t r',Lk (selW (false,(acc ++ [(Ex.mk kk55 oo55 (v155,v255,v355) tt55 nn55 ks55 pp55)])) x61 j) r2 t r' → Lk selR r t r'))
     case first =>
      cases b63 with
      | false =>
       rw [if_neg (by decide)] at HA HLN
       go_wp2
       go_meet
       case rel => exact ⟨(0,⟨#[]⟩,[]),none,0,0,_,_,rfl,(HA.out.imp fun W _ h => ⟨h,XL.nil _ _⟩),HLN.out,fun t r' k => HG.out t r' (Lk.notB HS63.out (Lk.retB k))⟩
      | true =>
       rw [if_pos rfl] at HA HLN
       obtain ⟨⟨⟨tk3,tn3,tt3⟩,ta3⟩,hh⟩ : ∃ x,((r61).step).ps.hd = x:=⟨_,rfl⟩
       have HT:=qnh P M55 hh
       have HH3:=Hd hh
       clear hh
       go_wp2_with fail
       refine (HT.out _ HA.out.ra).mono ?_
       rintro e w64 ⟨rfl,hb⟩
       replace HA:=Hd (HA.out.bel hb)
       clear hb HT
       obtain ⟨W65,hW65,HA⟩:=HA.out.pushE (Vk tk3 tn3 tt3 ta3) 43
       have zt:=four_of (HA.out.at 0 rfl)
       have zs:=thirt_of (HA.out.at 2 rfl)
       replace HA:=Hd (Aq.puts 2 [Vi (ta3 : Int)] 12 HA.out rfl)
       simp only [putsA,Sa,Sb,Sc] at HA
       obtain ⟨W66,hW66⟩:=Vx (setsL W65 (w.heap.size) 12 [Vi (ta3 : Int)])
       rw [hW66] at HA
       simp only [setsL] at hW66
       go_wp2_with fail
       clear hW65 hW66
       refine (qname_q P (M55) ((r61).step) _ HA.out.ra).mono ?_
       rintro e w67 ⟨x67,r67,rfl,hk,hp,ho,hl⟩
       have HK67:=Hd hk
       have HLL67:=Hd hl
       replace HA:=Hd (HA.out.call ho (Or.inl rfl) hp hk.right)
       replace HLN:=Hd (Nat.le_trans hl HLN.out)
       clear ho hp hl hk
       have zs:=thirt_of (HA.out.at 2 rfl)
       replace HA:=Hd (Aq.puts 2 [.string x67] 2 HA.out rfl)
       simp only [putsA,Sa,Sb,Sc] at HA
       obtain ⟨W68,hW68⟩:=Vx (setsL w67 (w.heap.size) 2 [.string x67])
       rw [hW68] at HA
       simp only [setsL] at hW68
       go_wp2_with fail
       clear hW68
       refine (qwants_q P (M55) (r67) ⟨#[79,78]⟩ _ HA.out.ra).mono ?_
       rintro e w69 ⟨x69,r69,rfl,hk,hp,ho,hl⟩
       have HK69:=Hd hk
       have HLL69:=Hd hl
       replace HA:=Hd (HA.out.call ho (Or.inl rfl) hp hk.right)
       replace HLN:=Hd (Nat.le_trans hl HLN.out)
       clear ho hp hl hk
       go_wp2_with fail
       refine (qexpr_x P (M55) (r69) _ HA.out.ra).mono ?_
       rintro e w70 ⟨x70,a70,m70,c70,M70,r70,rfl,hk,hp,ho,hm,hl,hx⟩
       have HK70:=Hd hk
       have HLL70:=Hd hl
       replace HA:=Hd (HA.out.gainX ho hm hp hk.right hx)
       replace HLN:=Hd (Nat.le_trans hl HLN.out)
       clear ho hp hl hk hm hx
       obtain ⟨kk70,oo70,⟨v170,v270,v370⟩,tt70,nn70,ks70,pp70⟩:=x70
       simp only [exV,exC]
       obtain ⟨W71,hW71,HA⟩:=HA.out.pushE (Ve kk70 oo70 v170 v270 v370 tt70 nn70 (.slice a70 m70 c70) pp70) 48
       have zl:=nine_of (HA.out.at 0 rfl)
       obtain ⟨W72,hW72,HA⟩:=HA.out.pushE (Ve kk70 oo70 v170 v270 v370 tt70 nn70 (.slice a70 m70 c70) pp70) 48
       have zs:=thirt_of (HA.out.at 4 rfl)
       have hlb : w.heap.size ≤ W71.heap.size:=(HA.out.has _ (List.mem_cons_self)).1
       replace HA:=Hd (Aq.puts 4 [.slice (some ⟨W71.heap.size,0,none⟩) 1 1] 3 HA.out rfl)
       simp only [putsA,Sa,Sb,Sc] at HA
       obtain ⟨W73,hW73⟩:=Vx (setsL W72 (w.heap.size) 3 [.slice (some ⟨W71.heap.size,0,none⟩) 1 1])
       rw [hW73] at HA
       simp only [setsL] at hW73
       replace HA:=Hd ((HA.out.own (J:=fun W => XL W w.heap.size (acc ++ [(Ex.mk kk55 oo55 (v155,v255,v355) tt55 nn55 ks55 pp55)]) (.slice (some ⟨g8,0,none⟩) (N + 1) cap8) ∧ XL W w.heap.size [(Ex.mk kk70 oo70 (v170,v270,v370) tt70 nn70 ks70 pp70)] (.slice (some ⟨W71.heap.size,0,none⟩) 1 1)) fun W h hb => ⟨h.1,XL.one h.2 hb hlb⟩).drop.drop)
       go_wp2
       clear hW71 hW72 hW73
       go_meet
       case rel => exact ⟨((ta3 : Int),x67,[(Ex.mk kk70 oo70 (v170,v270,v370) tt70 nn70 ks70 pp70)]),some ⟨W71.heap.size,0,none⟩,1,1,_,_,rfl,HA.out,HLN.out,fun t r' k => HG.out t r' (Lk.yesB HS63.out (Lk.assoc (Lk.bind (show Lk placeR (r61).step ta3 _ from by have:=Lk.place (r61).step; rw [HH3.out] at this; exact this) (Lk.assoc (HK67.out.bind (Lk.assoc (HK69.out.bind (Lk.assoc (HK70.out.bind (Lk.retB k)))))))))) ⟩
     case rest =>
      clear HA HLN HG
      obtain ⟨j,a3,n3,c3,M2,r2,hn3,hA,hL,hG⟩:=hcut
      have HN3:=Hd hn3
      clear hn3
      have HA:=Hd hA
      have HLN:=Hd hL
      have HG:=Hd hG
      clear hA hL hG
      obtain ⟨W91,hWx⟩:=Vx wc
      rw [hWx] at HA ⊢
      clear hWx
      go_wp2_with fail
      refine (qwhere_l P (M2) (r2) _ HA.out.ra).mono ?_
      rintro e w74 ⟨l74,a74,c74,M74,r74,rfl,hk,hp,ho,hm,hl,hx⟩
      replace HG:=Hd (fun a r' k => HG.out a r' (hk.bind k))
      replace HA:=Hd (HA.out.gainV ho hm hp hk.right (fun _ _ _ hB k => k.mono hB) hx)
      replace HLN:=Hd (Nat.le_trans hl HLN.out)
      clear ho hp hl hk hm hx
      have zs:=thirt_of (HA.out.at 1 rfl)
      replace HA:=Hd (Aq.puts 1 [.slice a74 l74.length c74] 4 HA.out rfl)
      simp only [putsA,Sa,Sb,Sc] at HA
      obtain ⟨W75,hW75⟩:=Vx (setsL w74 (w.heap.size) 4 [.slice a74 l74.length c74])
      rw [hW75] at HA
      simp only [setsL] at hW75
      go_wp2_with fail
      clear hW75
      refine (qgroups_l P (M74) (r74) _ HA.out.ra).mono ?_
      rintro e w76 ⟨l76,a76,c76,M76,r76,rfl,hk,hp,ho,hm,hl,hx⟩
      replace HG:=Hd (fun a r' k => HG.out a r' (hk.bind k))
      replace HA:=Hd (HA.out.gainV ho hm hp hk.right (fun _ _ _ hB k => k.mono hB) hx)
      replace HLN:=Hd (Nat.le_trans hl HLN.out)
      clear ho hp hl hk hm hx
      have zs:=thirt_of (HA.out.at 1 rfl)
      replace HA:=Hd (Aq.puts 1 [.slice a76 l76.length c76] 8 HA.out rfl)
      simp only [putsA,Sa,Sb,Sc] at HA
      obtain ⟨W77,hW77⟩:=Vx (setsL w76 (w.heap.size) 8 [.slice a76 l76.length c76])
      rw [hW77] at HA
      simp only [setsL] at hW77
      go_wp2_with fail
      clear hW77
      refine (qsorts_l P (M76) (r76) _ HA.out.ra).mono ?_
      rintro e w78 ⟨l78,a78,c78,M78,r78,rfl,hk,hp,ho,hm,hl,hx⟩
      replace HG:=Hd (fun a r' k => HG.out a r' (hk.bind k))
      replace HA:=Hd (HA.out.gainV ho hm hp hk.right (fun _ _ _ hB k => k.mono hB) hx)
      replace HLN:=Hd (Nat.le_trans hl HLN.out)
      clear ho hp hl hk hm hx
      have zs:=thirt_of (HA.out.at 1 rfl)
      replace HA:=Hd (Aq.puts 1 [.slice a78 l78.length c78] 9 HA.out rfl)
      simp only [putsA,Sa,Sb,Sc] at HA
      obtain ⟨W79,hW79⟩:=Vx (setsL w78 (w.heap.size) 9 [.slice a78 l78.length c78])
      rw [hW79] at HA
      simp only [setsL] at hW79
      go_wp2_with fail
      clear hW79
      refine (qtakes_any P (M78) (r78) ⟨#[76,73,77,73,84]⟩ _ HA.out.ra).mono ?_
      rintro e w80 ⟨rfl,hp,ho⟩
      cases hS : (r78).sees wLIMIT with
      | false =>
       rw [show (r78).sees (⟨#[76,73,77,73,84]⟩ : ByteArray).data.toList = false from hS] at hp
       try rw [show (r78).sees (⟨#[76,73,77,73,84]⟩ : ByteArray).data.toList = false from hS]
       rw [if_neg (by decide)] at hp
       have HS80:=Hd hS
       replace HG:=Hd (fun a r' k => HG.out a r' (Lk.notB HS80.out k))
       replace HA:=Hd (HA.out.call ho (Or.inl rfl) hp fun k => k)
       clear hp ho hS
       have zzr:=thirt_of (HA.out.at 0 rfl)
       have zs:=thirt_of (HA.out.at 1 rfl)
       have HLK:=Hd (HG.out _ _ (Lk.retB (Lk.ret _ _)))
       go_wp2
       have HD:=Hd (HA.out.fill 0 rfl [Vi 4,.string x61,.string j.2.1,.slice a3 n3 c3,.slice a74 l74.length c74,.slice (some ⟨g8,0,none⟩) (N + 1) cap8,.bool false,Vn,.slice a76 l76.length c76,.slice a78 l78.length c78,Vn,Vi p0,Vi j.1] rfl)
       obtain ⟨W99,hW99⟩:=Vx (setsL w80 W1.heap.size 0 [Vi 4,.string x61,.string j.2.1,.slice a3 n3 c3,.slice a74 l74.length c74,.slice (some ⟨g8,0,none⟩) (N + 1) cap8,.bool false,Vn,.slice a76 l76.length c76,.slice a78 l78.length c78,Vn,Vi p0,Vi j.1])
       rw [hW99] at HD
       simp only [setsL,Nat.reduceAdd] at hW99
       rw [hW99]
       have zy:=(thirt_of (HD.out.at 0 rfl)).1
       clear hW99
       exact bodyPost_ret (v:=.agg (Vt 4 x61 j.2.1 (.slice a3 n3 c3) (.slice a74 l74.length c74) (.slice (some ⟨g8,0,none⟩) (N + 1) cap8) false Vn (.slice a76 l76.length c76) (.slice a78 l78.length c78) Vn p0 j.1)) (by simp [results,Tryz.results59,go_sem,zy]) rfl (HD.out.qs (t:=⟨4,x61,j.2.1,j.2.2,l74,(acc ++ [(Ex.mk kk55 oo55 (v155,v255,v355) tt55 nn55 ks55 pp55)]),false,[],l76,l78,[],0,j.1⟩) (a0:=a3) (n0:=n3) (c0:=c3) (a1:=a74) (n1:=l74.length) (c1:=c74) (a2:=(some ⟨g8,0,none⟩)) (n2:=(N + 1)) (c2:=cap8) (a3:=none) (n3:=0) (c3:=0) (a4:=a76) (n4:=l76.length) (c4:=c76) (a5:=a78) (n5:=l78.length) (c5:=c78) (a6:=none) (n6:=0) (c6:=0) ⟨HN3.out,rfl,HN5.out,rfl,rfl,rfl,rfl⟩ HLK.out HLN.out (fun W hL h => ⟨h.1.1.1.2,h.1.1.2,h.1.1.1.1,SeL.nil _ _,h.1.2,h.2,IL.nil _ _⟩))
      | true =>
       rw [show (r78).sees (⟨#[76,73,77,73,84]⟩ : ByteArray).data.toList = true from hS] at hp
       try rw [show (r78).sees (⟨#[76,73,77,73,84]⟩ : ByteArray).data.toList = true from hS]
       rw [if_pos rfl] at hp
       have HS80:=Hd hS
       replace HG:=Hd (fun a r' k => HG.out a r' (Lk.yesB HS80.out k))
       replace HA:=Hd (HA.out.call ho (Or.inl rfl) hp fun k => k)
       replace HLN:=Hd (Nat.le_trans (RS.step_le _) HLN.out)
       clear hp ho hS
       go_wp2_with fail
       refine (qnumber_q P (M78) ((r78).step) _ HA.out.ra).mono ?_
       rintro e w81 ⟨x81,r81,rfl,hk,hp,ho,hl⟩
       have HK81:=Hd hk
       have HLL81:=Hd hl
       replace HG:=Hd (fun a r' k => HG.out a r' (Lk.assoc (hk.bind k)))
       replace HA:=Hd (HA.out.call ho (Or.inl rfl) hp hk.right)
       replace HLN:=Hd (Nat.le_trans hl HLN.out)
       clear ho hp hl hk
       obtain ⟨W82,hW82,HA⟩:=HA.out.pushE #[Vi x81.1.2.1] 3
       have zs:=thirt_of (HA.out.at 2 rfl)
       have hlb : w.heap.size ≤ w81.heap.size:=(HA.out.has _ (List.mem_cons_self)).1
       replace HA:=Hd (Aq.puts 2 [.slice (some ⟨w81.heap.size,0,none⟩) 1 1] 10 HA.out rfl)
       simp only [putsA,Sa,Sb,Sc] at HA
       obtain ⟨W83,hW83⟩:=Vx (setsL W82 (w.heap.size) 10 [.slice (some ⟨w81.heap.size,0,none⟩) 1 1])
       rw [hW83] at HA
       simp only [setsL] at hW83
       have zzr:=thirt_of (HA.out.at 1 rfl)
       have zs:=thirt_of (HA.out.at 2 rfl)
       have HLK:=Hd (HG.out _ _ (Lk.retB (Lk.ret _ _)))
       go_wp2
       clear hW82 hW83
       have HD:=Hd (HA.out.fill 1 rfl [Vi 4,.string x61,.string j.2.1,.slice a3 n3 c3,.slice a74 l74.length c74,.slice (some ⟨g8,0,none⟩) (N + 1) cap8,.bool false,Vn,.slice a76 l76.length c76,.slice a78 l78.length c78,.slice (some ⟨w81.heap.size,0,none⟩) 1 1,Vi p0,Vi j.1] rfl)
       obtain ⟨W99,hW99⟩:=Vx (setsL W83 W1.heap.size 0 [Vi 4,.string x61,.string j.2.1,.slice a3 n3 c3,.slice a74 l74.length c74,.slice (some ⟨g8,0,none⟩) (N + 1) cap8,.bool false,Vn,.slice a76 l76.length c76,.slice a78 l78.length c78,.slice (some ⟨w81.heap.size,0,none⟩) 1 1,Vi p0,Vi j.1])
       rw [hW99] at HD
       simp only [setsL,Nat.reduceAdd] at hW99
       rw [hW99]
       have zy:=(thirt_of (HD.out.at 1 rfl)).1
       clear hW99
       exact bodyPost_ret (v:=.agg (Vt 4 x61 j.2.1 (.slice a3 n3 c3) (.slice a74 l74.length c74) (.slice (some ⟨g8,0,none⟩) (N + 1) cap8) false Vn (.slice a76 l76.length c76) (.slice a78 l78.length c78) (.slice (some ⟨w81.heap.size,0,none⟩) 1 1) p0 j.1)) (by simp [results,Tryz.results59,go_sem,zy]) rfl (HD.out.qs (t:=⟨4,x61,j.2.1,j.2.2,l74,(acc ++ [(Ex.mk kk55 oo55 (v155,v255,v355) tt55 nn55 ks55 pp55)]),false,[],l76,l78,[x81.1.2.1],0,j.1⟩) (a0:=a3) (n0:=n3) (c0:=c3) (a1:=a74) (n1:=l74.length) (c1:=c74) (a2:=(some ⟨g8,0,none⟩)) (n2:=(N + 1)) (c2:=cap8) (a3:=none) (n3:=0) (c3:=0) (a4:=a76) (n4:=l76.length) (c4:=c76) (a5:=a78) (n5:=l78.length) (c5:=c78) (a6:=(some ⟨w81.heap.size,0,none⟩)) (n6:=1) (c6:=1) ⟨HN3.out,rfl,HN5.out,rfl,rfl,rfl,rfl⟩ HLK.out HLN.out (fun W hL h => ⟨h.1.1.1.2,h.1.1.2,h.1.1.1.1,SeL.nil _ _,h.1.2,h.2,IL.one (hL _ (List.mem_of_getElem? (i:=0) rfl)) hlb⟩))
    | true =>
     rw [show (r55).sees (⟨#[44]⟩ : ByteArray).data.toList = true from hS] at hp
     try rw [show (r55).sees (⟨#[44]⟩ : ByteArray).data.toList = true from hS]
     rw [if_pos rfl] at hp
     have HS59:=Hd hS
     replace HA:=Hd (HA.out.call ho (Or.inl rfl) hp fun k => k)
     replace HLN:=Hd (Nat.le_trans (RS.step_le _) HLN.out)
     clear hp ho hS
     go_wp2
     go_roundw
     case rel => exact ⟨acc ++ [(Ex.mk kk55 oo55 (v155,v255,v355) tt55 nn55 ks55 pp55)],ks ++ [(Value.slice a55 m55 c55)],some ⟨g8,0,none⟩,N + 1,cap8,o8,M55,(r55).step,by simp [HN.out],by simp [HLK0.out],(fun W hW => by have:=HOWN.out W hW; rw [xcs_append _ _ _ _ HLK0.out]; simpa [xcs] using this),HA.out,HLN.out,(by have h1:=(show (r55).ps.rest.length ≤ r1.ps.rest.length from by have:=HLL55.out; rw [RS.cnt_rest] at this; exact this); have h2:=RS.step_lt HA8OK.out; have h3:=HLN2.out; omega),Or.inr ⟨(RS.sees_true HS59.out).1,HA8OK.out.room⟩,fun l r' q => HG.out l r' (Lk.ls_more HW1.out (show Lk itemR (r1.cnt acc.length 8) (Ex.mk kk55 oo55 (v155,v255,v355) tt55 nn55 ks55 pp55) _ from by have:=HK55.out; rw [HN.out] at this; exact this) HS59.out q)⟩
     case measure => rw [HA.out.ra.restQ,HRN.out]; have h1:=(show (r55).ps.rest.length ≤ r1.ps.rest.length from by have:=HLL55.out; rw [RS.cnt_rest] at this; exact this); have h2:=RS.step_lt HA8OK.out; omega
end Go.Proofs.YtffalonhkemieaaGreatDoor
