/- A119 -/
import Derived.Test.YtffalonhkemieaaGreatDoorSA115
set_option maxHeartbeats 8000000
set_option maxRecDepth 100000
namespace Go.Proofs.YtffalonhkemieaaGreatDoor
open Go.RowKit
theorem vtV_none : vtV none = .tuple #[.agg #[Vi 0,Vi 0,Vs],.bool false]:=rfl

theorem vtV_some (a b : Int) (c : ByteArray) : vtV (some (a,b,c)) = .tuple #[.agg #[Vi a,Vi b,.string c],.bool true]:=rfl

theorem vtok_kind {t : Tk} {v : V3} (h : vtok t = some v) : t.1 ≠ 1:=by
 intro e
 unfold vtok at h
 rw [if_neg (by omega),if_neg (by omega),if_neg (by omega),if_neg (by omega),if_neg (by omega)] at h
 exact absurd h (by simp)

theorem sees_kinds {s : PS} {x : List UInt8} (h : s.sees x = true) : s.hd.1.1 ≠ 3 ∧ s.hd.1.1 ≠ 6 ∧ s.hd.1.1 ≠ 1:=by
 have:=((sees_iff _ _).1 h).1
 omega

theorem qcolumn_x (P M : Nat) (r : RS) (w : World) (h : RA w P M r) : Calls Tryz.prog 142 #[.pointer (some ⟨P,0,none⟩)] w (QX colmR P M r w):=by
 have HA:=Hd (Aq.start h)
 have hPw:=h.lt
 have HLN : Hid (r.ps.rest.length ≤ r.ps.rest.length):=Nat.le_refl _
 clear h
 go_enter Tryz.func142,Tryz.ntmps142
 obtain ⟨W1,hW1,HA⟩:=HA.out.pushE Vo 48
 obtain ⟨⟨⟨tk1,tn1,tt1⟩,ta1⟩,hh⟩ : ∃ x,(r).ps.hd = x:=⟨_,rfl⟩
 have HT:=qnh P M hh
 have HH1:=Hd hh
 clear hh
 go_wp2_with fail
 clear hW1
 refine (HT.out _ HA.out.ra).mono ?_
 rintro e w2 ⟨rfl,hb⟩
 replace HA:=Hd (HA.out.bel hb)
 clear hb HT
 obtain ⟨W3,hW3,HA⟩:=HA.out.pushE (Vk tk1 tn1 tt1 ta1) 43
 have zt:=four_of (HA.out.at 0 rfl)
 obtain ⟨W4,hW4,HA⟩:=HA.out.pushE (Ve 3 0 0 0 Vz Vz Vz Vn ta1) 48
 go_wp2_with fail
 clear hW3 hW4
 refine (qname_q P (M) (r) _ HA.out.ra).mono ?_
 rintro e w5 ⟨x5,r5,rfl,hk,hp,ho,hl⟩
 have HK5:=Hd hk
 replace HA:=Hd (HA.out.call ho (Or.inl rfl) hp hk.right)
 replace HLN:=Hd (Nat.le_trans hl HLN.out)
 clear ho hp hl hk
 have ze:=nine_of (HA.out.at 0 rfl)
 replace HA:=Hd (Aq.puts 0 [.string x5] 6 HA.out rfl)
 simp only [putsA,Sa,Sb,Sc] at HA
 obtain ⟨W6,hW6⟩:=Vx (setsL w5 (W3.heap.size) 6 [.string x5])
 rw [hW6] at HA
 simp only [setsL] at hW6
 go_wp2_with fail
 clear hW6
 refine (qtakes_any P (M) (r5) ⟨#[46]⟩ _ HA.out.ra).mono ?_
 rintro e w7 ⟨rfl,hp,ho⟩
 cases hS : (r5).sees [46] with
 | false =>
  rw [show (r5).sees (⟨#[46]⟩ : ByteArray).data.toList = false from hS] at hp
  try rw [show (r5).sees (⟨#[46]⟩ : ByteArray).data.toList = false from hS]
  rw [if_neg (by decide)] at hp
  have HS7:=Hd hS
  replace HA:=Hd (HA.out.call ho (Or.inl rfl) hp fun k => k)
  clear hp ho hS
  have zf:=nine_of (HA.out.at 0 rfl)
  obtain ⟨⟨r0,r1,r2,r3,r4,r5,r6,r7,r8⟩,rf0,rf1,rf2,rf3,rf4,rf5,rf6,rf7,rf8⟩:=nine_of (HA.out.at 2 rfl)
  have HLK:=Hd (show Lk colmR r (.mk 3 0 v0 ⟨#[]⟩ x5 [] (ta1 : Int)) _ from by have:=Lk.col_one HK5.out HS7.out; rw [HH1.out] at this; exact this)
  go_wp2
  have HD:=Hd (HA.out.fill 2 rfl [Vi 3,Vi 0,Vi 0,Vi 0,Vs,Vs,.string x5,Vn,Vi (ta1 : Int)] rfl)
  obtain ⟨W99,hW99⟩:=Vx (setsL w7 w.heap.size 0 [Vi 3,Vi 0,Vi 0,Vi 0,Vs,Vs,.string x5,Vn,Vi (ta1 : Int)])
  rw [hW99] at HD
  simp only [setsL,Nat.reduceAdd] at hW99
  rw [hW99]
  have zy:=(nine_of (HD.out.at 2 rfl)).1
  clear hW99
  exact bodyPost_ret (v:=exV (.mk 3 0 v0 ⟨#[]⟩ x5 [] (ta1 : Int)) Vn) (by simp [results,Tryz.results142,go_sem,exV,exC,v0,zy]) rfl (HD.out.qx HLK.out HLN.out fun _ _ _ => XO.leaf _ _ _ _ _ _ _ _)
 | true =>
  rw [show (r5).sees (⟨#[46]⟩ : ByteArray).data.toList = true from hS] at hp
  try rw [show (r5).sees (⟨#[46]⟩ : ByteArray).data.toList = true from hS]
  rw [if_pos rfl] at hp
  have HS7:=Hd hS
  replace HA:=Hd (HA.out.call ho (Or.inl rfl) hp fun k => k)
  replace HLN:=Hd (Nat.le_trans (RS.step_le _) HLN.out)
  clear hp ho hS
  have zf:=nine_of (HA.out.at 0 rfl)
  replace HA:=Hd (Aq.puts 0 [.string x5] 5 HA.out rfl)
  simp only [putsA,Sa,Sb,Sc] at HA
  obtain ⟨W8,hW8⟩:=Vx (setsL w7 (W3.heap.size) 5 [.string x5])
  rw [hW8] at HA
  simp only [setsL] at hW8
  go_wp2_with fail
  clear hW8
  refine (qname_q P (M) ((r5).step) _ HA.out.ra).mono ?_
  rintro e w9 ⟨x9,r9,rfl,hk,hp,ho,hl⟩
  have HK9:=Hd hk
  replace HA:=Hd (HA.out.call ho (Or.inl rfl) hp hk.right)
  replace HLN:=Hd (Nat.le_trans hl HLN.out)
  clear ho hp hl hk
  have zg:=nine_of (HA.out.at 0 rfl)
  replace HA:=Hd (Aq.puts 0 [.string x9] 6 HA.out rfl)
  simp only [putsA,Sa,Sb,Sc] at HA
  obtain ⟨W10,hW10⟩:=Vx (setsL w9 (W3.heap.size) 6 [.string x9])
  rw [hW10] at HA
  simp only [setsL] at hW10
  have zi:=nine_of (HA.out.at 0 rfl)
  obtain ⟨⟨r0,r1,r2,r3,r4,r5,r6,r7,r8⟩,rf0,rf1,rf2,rf3,rf4,rf5,rf6,rf7,rf8⟩:=nine_of (HA.out.at 2 rfl)
  have HLK:=Hd (show Lk colmR r (.mk 3 0 v0 x5 x9 [] (ta1 : Int)) _ from by have:=Lk.col_two HK5.out HS7.out HK9.out; rw [HH1.out] at this; exact this)
  go_wp2
  clear hW10
  have HD:=Hd (HA.out.fill 2 rfl [Vi 3,Vi 0,Vi 0,Vi 0,Vs,.string x5,.string x9,Vn,Vi (ta1 : Int)] rfl)
  obtain ⟨W99,hW99⟩:=Vx (setsL W10 w.heap.size 0 [Vi 3,Vi 0,Vi 0,Vi 0,Vs,.string x5,.string x9,Vn,Vi (ta1 : Int)])
  rw [hW99] at HD
  simp only [setsL,Nat.reduceAdd] at hW99
  rw [hW99]
  have zy:=(nine_of (HD.out.at 2 rfl)).1
  clear hW99
  exact bodyPost_ret (v:=exV (.mk 3 0 v0 x5 x9 [] (ta1 : Int)) Vn) (by simp [results,Tryz.results142,go_sem,exV,exC,v0,zy]) rfl (HD.out.qx HLK.out HLN.out fun _ _ _ => XO.leaf _ _ _ _ _ _ _ _)

theorem qfact_wrong (P M : Nat) (r : RS) (w : World) (h : RA w P M r) (hw : r.wrong = true) : Calls Tryz.prog 201 #[.pointer (some ⟨P,0,none⟩)] w (QX (Pr .fact) P M r w):=by
 have HA:=Hd (Aq.start h)
 have hPw:=h.lt
 have HLN : Hid (r.ps.rest.length ≤ r.ps.rest.length):=Nat.le_refl _
 clear h
 go_enter Tryz.func201,Tryz.ntmps201
 obtain ⟨W1,hW1,HA⟩:=HA.out.pushE Vo 48
 obtain ⟨cg,coff,ccap,cka,ckc,ch1,-,-,-,-,cn,-,cl,-,-⟩:=HA.out.ra.cells
 obtain ⟨⟨c0,c1,c2,c3⟩,cf0,cf1,cf2,cf3⟩:=four_of ch1
 have cni : ((r).pos : Int) + 1 ≤ 1001:=by omega
 clear ch1
 rw [hw] at c2
 have zr:=nine_of (HA.out.at 0 rfl)
 have HLK:=Hd (Lk.fact_wrong (e:=.mk 0 0 v0 ⟨#[]⟩ ⟨#[]⟩ [] 0) hw)
 go_wp2
 clear hW1
 have HD:=Hd (HA.out.fill 0 rfl [Vi 0,Vi 0,Vi 0,Vi 0,Vs,Vs,Vs,Vn,Vi 0] rfl)
 obtain ⟨W99,hW99⟩:=Vx (setsL W1 w.heap.size 0 [Vi 0,Vi 0,Vi 0,Vi 0,Vs,Vs,Vs,Vn,Vi 0])
 rw [hW99] at HD
 simp only [setsL,Nat.reduceAdd] at hW99
 rw [hW99]
 have zy:=(nine_of (HD.out.at 0 rfl)).1
 clear hW99
 exact bodyPost_ret (v:=exV (.mk 0 0 v0 ⟨#[]⟩ ⟨#[]⟩ [] 0) Vn) (by simp [results,Tryz.results201,go_sem,exV,exC,v0,zy]) rfl (HD.out.qx HLK.out HLN.out fun _ _ _ => XO.leaf _ _ _ _ _ _ _ _)

theorem qfact_lit (P M : Nat) (r : RS) (w : World) (h : RA w P M r) (hw : r.wrong = false) (v : V3) (hv : vtok r.ps.hd.1 = some v) : Calls Tryz.prog 201 #[.pointer (some ⟨P,0,none⟩)] w (QX (Pr .fact) P M r w):=by
 have HA:=Hd (Aq.start h)
 have hPw:=h.lt
 have HLN : Hid (r.ps.rest.length ≤ r.ps.rest.length):=Nat.le_refl _
 clear h
 have HW:=Hd hw
 have HOK:=Hd HA.out.ra.ok
 obtain ⟨bm,hbm⟩:=Vx (r.sees [45])
 obtain ⟨bp,hbp⟩:=Vx (r.sees [40])
 have H45:=Hd hbm
 have H40:=Hd hbp
 clear hbm hbp
 obtain ⟨v1,v2,v3⟩:=v
 have HV:=Hd hv
 have HK1:=Hd (vtok_kind hv)
 clear hv
 have HPOK:=Hd HA.out.ra
 go_enter Tryz.func201,Tryz.ntmps201
 obtain ⟨W1,hW1,HA⟩:=HA.out.pushE Vo 48
 obtain ⟨cg,coff,ccap,cka,ckc,ch1,-,-,-,-,cn,-,cl,-,-⟩:=HA.out.ra.cells
 obtain ⟨⟨c0,c1,c2,c3⟩,cf0,cf1,cf2,cf3⟩:=four_of ch1
 have cni : ((r).pos : Int) + 1 ≤ 1001:=by omega
 clear ch1
 rw [hw] at c2
 clear hw
 obtain ⟨⟨⟨tk1,tn1,tt1⟩,ta1⟩,hh⟩ : ∃ x,(r).ps.hd = x:=⟨_,rfl⟩
 have HT:=qnh P M hh
 have HH1:=Hd hh
 clear hh
 go_wp2_with fail
 clear hW1
 refine (HT.out _ HA.out.ra).mono ?_
 rintro e w2 ⟨rfl,hb⟩
 replace HA:=Hd (HA.out.bel hb)
 clear hb HT
 have hvt:=HV.out
 rw [HH1.out] at hvt
 obtain ⟨W3,hW3,HA⟩:=HA.out.pushE (Vk tk1 tn1 tt1 ta1) 43
 have zt:=four_of (HA.out.at 0 rfl)
 obtain ⟨W4,hW4,HA⟩:=HA.out.pushE (Ve 0 0 0 0 Vz Vz Vz Vn ta1) 48
 have zu:=four_of (HA.out.at 1 rfl)
 go_wp2_with fail
 clear hW3 hW4
 refine (qvalue_any tk1 tn1 tt1 (ta1 : Int) _).mono ?_
 rintro e w5 ⟨rfl,hb⟩
 replace HA:=Hd (HA.out.bel hb)
 clear hb
 rw [hvt,vtV_some]
 clear hvt
 obtain ⟨W6,hW6,HA⟩:=HA.out.pushE #[Vi v1,Vi v2,.string v3] 46
 go_wp2_with fail
 clear hW6
 refine (qis_any P M r ⟨#[45]⟩ _ HA.out.ra).mono ?_
 rintro e w7 ⟨rfl,hb⟩
 replace HA:=Hd (HA.out.bel hb)
 clear hb
 try rw [show r.sees (⟨#[45]⟩ : ByteArray).data.toList = bm from H45.out]
 go_wp2_with fail
 refine (qis_any P M r ⟨#[40]⟩ _ HA.out.ra).mono ?_
 rintro e w8 ⟨rfl,hb⟩
 replace HA:=Hd (HA.out.bel hb)
 clear hb
 try rw [show r.sees (⟨#[40]⟩ : ByteArray).data.toList = bp from H40.out]
 obtain ⟨dg,doff,dcap,dka,dkc,dh1,-,-,-,-,dn,-,dl,-,-⟩:=HA.out.ra.cells
 have zd:=four_of dh1
 have dni : ((r).pos : Int) + 1 ≤ 1001:=by omega
 clear dh1
 have zvv:=three_of (HA.out.at 0 rfl)
 have ze:=nine_of (HA.out.at 1 rfl)
 replace HA:=Hd (HA.out.stepAt (HK1.out))
 obtain ⟨W9,hW9⟩:=Vx (w8.setCell ⟨P,1,none⟩ (Vi (((r).pos : Int) + 1)))
 rw [hW9] at HA
 replace HLN:=Hd (Nat.le_trans (RS.step_le _) HLN.out)
 have zf:=nine_of (HA.out.at 1 rfl)
 replace HA:=Hd (Aq.puts 1 [Vi 1] 0 HA.out rfl)
 simp only [putsA,Sa,Sb,Sc] at HA
 obtain ⟨W10,hW10⟩:=Vx (setsL W9 (W3.heap.size) 0 [Vi 1])
 rw [hW10] at HA
 simp only [setsL] at hW10
 have zg:=nine_of (HA.out.at 1 rfl)
 have zq:=three_of (HA.out.at 0 rfl)
 replace HA:=Hd (Aq.puts 1 [Vi v1,Vi v2,.string v3] 2 HA.out rfl)
 simp only [putsA,Nat.reduceAdd,Sa,Sb,Sc] at HA
 obtain ⟨W11,hW11⟩:=Vx (setsL W10 (W3.heap.size) 2 [Vi v1,Vi v2,.string v3])
 rw [hW11] at HA
 simp only [setsL,Nat.reduceAdd] at hW11
 have zi:=nine_of (HA.out.at 1 rfl)
 have zr:=nine_of (HA.out.at 3 rfl)
 have HLK:=Hd (show Lk (Pr .fact) r (.mk 1 0 (v1,v2,v3) ⟨#[]⟩ ⟨#[]⟩ [] (ta1 : Int)) _ from by have:=Lk.fact_lit HW.out HV.out; rw [HH1.out] at this; exact this)
 go_wp2
 clear hW9 hW10 hW11
 have HD:=Hd (HA.out.fill 3 rfl [Vi 1,Vi 0,Vi v1,Vi v2,.string v3,Vs,Vs,Vn,Vi (ta1 : Int)] rfl)
 obtain ⟨W99,hW99⟩:=Vx (setsL W11 w.heap.size 0 [Vi 1,Vi 0,Vi v1,Vi v2,.string v3,Vs,Vs,Vn,Vi (ta1 : Int)])
 rw [hW99] at HD
 simp only [setsL,Nat.reduceAdd] at hW99
 rw [hW99]
 have zy:=(nine_of (HD.out.at 3 rfl)).1
 clear hW99
 exact bodyPost_ret (v:=exV (.mk 1 0 (v1,v2,v3) ⟨#[]⟩ ⟨#[]⟩ [] (ta1 : Int)) Vn) (by simp [results,Tryz.results201,go_sem,exV,exC,zy]) rfl (HD.out.qx HLK.out HLN.out fun _ _ _ => XO.leaf _ _ _ _ _ _ _ _)

theorem qfact_param (P M : Nat) (r : RS) (w : World) (h : RA w P M r) (hw : r.wrong = false) (hv : vtok r.ps.hd.1 = none) (h6 : r.ps.hd.1.1 = 6) : Calls Tryz.prog 201 #[.pointer (some ⟨P,0,none⟩)] w (QX (Pr .fact) P M r w):=by
 have HA:=Hd (Aq.start h)
 have hPw:=h.lt
 have HLN : Hid (r.ps.rest.length ≤ r.ps.rest.length):=Nat.le_refl _
 clear h
 have HW:=Hd hw
 have HOK:=Hd HA.out.ra.ok
 obtain ⟨bm,hbm⟩:=Vx (r.sees [45])
 obtain ⟨bp,hbp⟩:=Vx (r.sees [40])
 have H45:=Hd hbm
 have H40:=Hd hbp
 clear hbm hbp
 have HV:=Hd hv
 clear hv
 have HK6:=Hd h6
 have HK1 : Hid (r.ps.hd.1.1 ≠ 1):=by show r.ps.hd.1.1 ≠ 1; rw [h6]; decide
 clear h6
 have HPOK:=Hd HA.out.ra
 go_enter Tryz.func201,Tryz.ntmps201
 obtain ⟨W1,hW1,HA⟩:=HA.out.pushE Vo 48
 obtain ⟨cg,coff,ccap,cka,ckc,ch1,-,-,-,-,cn,-,cl,-,-⟩:=HA.out.ra.cells
 obtain ⟨⟨c0,c1,c2,c3⟩,cf0,cf1,cf2,cf3⟩:=four_of ch1
 have cni : ((r).pos : Int) + 1 ≤ 1001:=by omega
 clear ch1
 rw [hw] at c2
 clear hw
 obtain ⟨⟨⟨tk1,tn1,tt1⟩,ta1⟩,hh⟩ : ∃ x,(r).ps.hd = x:=⟨_,rfl⟩
 have HT:=qnh P M hh
 have HH1:=Hd hh
 clear hh
 go_wp2_with fail
 clear hW1
 refine (HT.out _ HA.out.ra).mono ?_
 rintro e w2 ⟨rfl,hb⟩
 replace HA:=Hd (HA.out.bel hb)
 clear hb HT
 have hvt:=HV.out
 rw [HH1.out] at hvt
 have e6 : (tk1 == 6) = true:=by have:=HK6.out; rw [HH1.out] at this; simpa using this
 obtain ⟨W3,hW3,HA⟩:=HA.out.pushE (Vk tk1 tn1 tt1 ta1) 43
 have zt:=four_of (HA.out.at 0 rfl)
 obtain ⟨W4,hW4,HA⟩:=HA.out.pushE (Ve 0 0 0 0 Vz Vz Vz Vn ta1) 48
 have zu:=four_of (HA.out.at 1 rfl)
 go_wp2_with fail
 clear hW3 hW4
 refine (qvalue_any tk1 tn1 tt1 (ta1 : Int) _).mono ?_
 rintro e w5 ⟨rfl,hb⟩
 replace HA:=Hd (HA.out.bel hb)
 clear hb
 rw [hvt,vtV_none]
 clear hvt
 obtain ⟨W6,hW6,HA⟩:=HA.out.pushE #[Vi 0,Vi 0,Vs] 46
 have HhW6:=Hd hW6
 clear hW6
 go_wp2_with fail
 have hsz : w5.heap.size + 1 = W6.heap.size:=by rw [← HhW6.out]; simp
 try rw [hsz]
 clear hsz
 rw [HhW6.out]
 clear HhW6
 refine (qis_any P M r ⟨#[45]⟩ _ HA.out.ra).mono ?_
 rintro e w7 ⟨rfl,hb⟩
 replace HA:=Hd (HA.out.bel hb)
 clear hb
 try rw [show r.sees (⟨#[45]⟩ : ByteArray).data.toList = bm from H45.out]
 go_wp2_with fail
 refine (qis_any P M r ⟨#[40]⟩ _ HA.out.ra).mono ?_
 rintro e w8 ⟨rfl,hb⟩
 replace HA:=Hd (HA.out.bel hb)
 clear hb
 try rw [show r.sees (⟨#[40]⟩ : ByteArray).data.toList = bp from H40.out]
 obtain ⟨dg,doff,dcap,dka,dkc,dh1,-,-,-,-,dn,-,dl,-,-⟩:=HA.out.ra.cells
 have zd:=four_of dh1
 have dni : ((r).pos : Int) + 1 ≤ 1001:=by omega
 clear dh1
 obtain ⟨⟨e0,e1,e2,e3,e4,e5,e6,e7,e8⟩,ef0,ef1,ef2,ef3,ef4,ef5,ef6,ef7,ef8⟩:=nine_of (HA.out.at 1 rfl)
 have zt:=four_of (HA.out.at 2 rfl)
 replace HA:=Hd (HA.out.stepAt (HK1.out))
 obtain ⟨W9,hW9⟩:=Vx (w8.setCell ⟨P,1,none⟩ (Vi (((r).pos : Int) + 1)))
 rw [hW9] at HA
 replace HLN:=Hd (Nat.le_trans (RS.step_le _) HLN.out)
 have zf:=nine_of (HA.out.at 1 rfl)
 replace HA:=Hd (Aq.puts 1 [Vi 2] 0 HA.out rfl)
 simp only [putsA,Sa,Sb,Sc] at HA
 obtain ⟨W10,hW10⟩:=Vx (setsL W9 (W3.heap.size) 0 [Vi 2])
 rw [hW10] at HA
 simp only [setsL] at hW10
 have zg:=nine_of (HA.out.at 1 rfl)
 have zu:=four_of (HA.out.at 2 rfl)
 replace HA:=Hd (Aq.puts 1 [.string tt1] 6 HA.out rfl)
 simp only [putsA,Sa,Sb,Sc] at HA
 obtain ⟨W11,hW11⟩:=Vx (setsL W10 (W3.heap.size) 6 [.string tt1])
 rw [hW11] at HA
 simp only [setsL] at hW11
 have zi:=nine_of (HA.out.at 1 rfl)
 have zr:=nine_of (HA.out.at 3 rfl)
 have HLK:=Hd (show Lk (Pr .fact) r (.mk 2 0 v0 ⟨#[]⟩ tt1 [] (ta1 : Int)) _ from by have:=Lk.fact_param HW.out HK6.out; rw [HH1.out] at this; exact this)
 go_wp2
 clear hW9 hW10 hW11
 have HD:=Hd (HA.out.fill 3 rfl [Vi 2,Vi 0,Vi 0,Vi 0,Vs,Vs,.string tt1,Vn,Vi (ta1 : Int)] rfl)
 obtain ⟨W99,hW99⟩:=Vx (setsL W11 w.heap.size 0 [Vi 2,Vi 0,Vi 0,Vi 0,Vs,Vs,.string tt1,Vn,Vi (ta1 : Int)])
 rw [hW99] at HD
 simp only [setsL,Nat.reduceAdd] at hW99
 rw [hW99]
 have zy:=(nine_of (HD.out.at 3 rfl)).1
 clear hW99
 exact bodyPost_ret (v:=exV (.mk 2 0 v0 ⟨#[]⟩ tt1 [] (ta1 : Int)) Vn) (by simp [results,Tryz.results201,go_sem,exV,exC,v0,zy]) rfl (HD.out.qx HLK.out HLN.out fun _ _ _ => XO.leaf _ _ _ _ _ _ _ _)

theorem qfact_col (P M : Nat) (r : RS) (w : World) (h : RA w P M r) (hw : r.wrong = false) (hv : vtok r.ps.hd.1 = none) (h3 : r.ps.hd.1.1 = 3) : Calls Tryz.prog 201 #[.pointer (some ⟨P,0,none⟩)] w (QX (Pr .fact) P M r w):=by
 have HA:=Hd (Aq.start h)
 have hPw:=h.lt
 have HLN : Hid (r.ps.rest.length ≤ r.ps.rest.length):=Nat.le_refl _
 clear h
 have HW:=Hd hw
 have HOK:=Hd HA.out.ra.ok
 obtain ⟨bm,hbm⟩:=Vx (r.sees [45])
 obtain ⟨bp,hbp⟩:=Vx (r.sees [40])
 have H45:=Hd hbm
 have H40:=Hd hbp
 clear hbm hbp
 have HV:=Hd hv
 clear hv
 have HK3:=Hd h3
 clear h3
 have HPOK:=Hd HA.out.ra
 go_enter Tryz.func201,Tryz.ntmps201
 obtain ⟨W1,hW1,HA⟩:=HA.out.pushE Vo 48
 obtain ⟨cg,coff,ccap,cka,ckc,ch1,-,-,-,-,cn,-,cl,-,-⟩:=HA.out.ra.cells
 obtain ⟨⟨c0,c1,c2,c3⟩,cf0,cf1,cf2,cf3⟩:=four_of ch1
 have cni : ((r).pos : Int) + 1 ≤ 1001:=by omega
 clear ch1
 rw [hw] at c2
 clear hw
 obtain ⟨⟨⟨tk1,tn1,tt1⟩,ta1⟩,hh⟩ : ∃ x,(r).ps.hd = x:=⟨_,rfl⟩
 have HT:=qnh P M hh
 have HH1:=Hd hh
 clear hh
 go_wp2_with fail
 clear hW1
 refine (HT.out _ HA.out.ra).mono ?_
 rintro e w2 ⟨rfl,hb⟩
 replace HA:=Hd (HA.out.bel hb)
 clear hb HT
 have hvt:=HV.out
 rw [HH1.out] at hvt
 have e3 : (tk1 == 3) = true:=by have:=HK3.out; rw [HH1.out] at this; simpa using this
 have e6 : (tk1 == 6) = false:=by simp at e3; rw [e3]; rfl
 obtain ⟨W3,hW3,HA⟩:=HA.out.pushE (Vk tk1 tn1 tt1 ta1) 43
 have zt:=four_of (HA.out.at 0 rfl)
 obtain ⟨W4,hW4,HA⟩:=HA.out.pushE (Ve 0 0 0 0 Vz Vz Vz Vn ta1) 48
 have zu:=four_of (HA.out.at 1 rfl)
 go_wp2_with fail
 clear hW3 hW4
 refine (qvalue_any tk1 tn1 tt1 (ta1 : Int) _).mono ?_
 rintro e w5 ⟨rfl,hb⟩
 replace HA:=Hd (HA.out.bel hb)
 clear hb
 rw [hvt,vtV_none]
 clear hvt
 obtain ⟨W6,hW6,HA⟩:=HA.out.pushE #[Vi 0,Vi 0,Vs] 46
 have HhW6:=Hd hW6
 clear hW6
 go_wp2_with fail
 have hsz : w5.heap.size + 1 = W6.heap.size:=by rw [← HhW6.out]; simp
 try rw [hsz]
 clear hsz
 rw [HhW6.out]
 clear HhW6
 refine (qis_any P M r ⟨#[45]⟩ _ HA.out.ra).mono ?_
 rintro e w7 ⟨rfl,hb⟩
 replace HA:=Hd (HA.out.bel hb)
 clear hb
 try rw [show r.sees (⟨#[45]⟩ : ByteArray).data.toList = bm from H45.out]
 go_wp2_with fail
 refine (qis_any P M r ⟨#[40]⟩ _ HA.out.ra).mono ?_
 rintro e w8 ⟨rfl,hb⟩
 replace HA:=Hd (HA.out.bel hb)
 clear hb
 try rw [show r.sees (⟨#[40]⟩ : ByteArray).data.toList = bp from H40.out]
 have zt:=four_of (HA.out.at 2 rfl)
 go_wp2_with fail
 refine (qcolumn_x P M r _ HA.out.ra).mono ?_
 rintro e w9 ⟨x9,a9,m9,c9,M9,r9,rfl,hk,hp,ho,hm,hl,hx⟩
 have HK9:=Hd hk
 replace HA:=Hd (HA.out.gainX ho hm hp hk.right hx)
 replace HLN:=Hd (Nat.le_trans hl HLN.out)
 clear ho hp hl hk hm hx
 obtain ⟨kk9,oo9,⟨v19,v29,v39⟩,tt9,nn9,ks9,pp9⟩:=x9
 simp only [exV,exC]
 have zr:=nine_of (HA.out.at 3 rfl)
 have HLK:=Hd (Lk.fact_col HK3.out HK9.out)
 go_wp2
 have HD:=Hd (HA.out.fill 3 rfl [Vi kk9,Vi oo9,Vi v19,Vi v29,.string v39,.string tt9,.string nn9,.slice a9 m9 c9,Vi pp9] rfl)
 obtain ⟨W99,hW99⟩:=Vx (setsL w9 w.heap.size 0 [Vi kk9,Vi oo9,Vi v19,Vi v29,.string v39,.string tt9,.string nn9,.slice a9 m9 c9,Vi pp9])
 rw [hW99] at HD
 simp only [setsL,Nat.reduceAdd] at hW99
 rw [hW99]
 have zy:=(nine_of (HD.out.at 3 rfl)).1
 clear hW99
 exact bodyPost_ret (v:=exV (Ex.mk kk9 oo9 (v19,v29,v39) tt9 nn9 ks9 pp9) (.slice a9 m9 c9)) (by simp [results,Tryz.results201,go_sem,exV,exC,zy]) rfl (HD.out.qx HLK.out HLN.out fun _ _ h => h.2)

theorem qfact_minus (P M : Nat) (r : RS) (w : World) (h : RA w P M r) (hw : r.wrong = false) (hv : vtok r.ps.hd.1 = none) (hm : r.sees [45] = true) (h1 : QBel r.ps.rest.length P 201 .fact) : Calls Tryz.prog 201 #[.pointer (some ⟨P,0,none⟩)] w (QX (Pr .fact) P M r w):=by
 have HA:=Hd (Aq.start h)
 have hPw:=h.lt
 have HLN : Hid (r.ps.rest.length ≤ r.ps.rest.length):=Nat.le_refl _
 clear h
 have HW:=Hd hw
 have HOK:=Hd HA.out.ra.ok
 obtain ⟨bp,hbp⟩:=Vx (r.sees [40])
 have H45:=Hd hm
 have H40:=Hd hbp
 have HR:=Hd h1
 have HN:=Hd (sees_kinds (RS.sees_true hm).2)
 have HN3:=Hd HN.out.1
 have HN6:=Hd HN.out.2.1
 have HK1:=Hd HN.out.2.2
 clear hbp hm h1 HN
 have HV:=Hd hv
 clear hv
 have HPOK:=Hd HA.out.ra
 go_enter Tryz.func201,Tryz.ntmps201
 obtain ⟨W1,hW1,HA⟩:=HA.out.pushE Vo 48
 obtain ⟨cg,coff,ccap,cka,ckc,ch1,-,-,-,-,cn,-,cl,-,-⟩:=HA.out.ra.cells
 obtain ⟨⟨c0,c1,c2,c3⟩,cf0,cf1,cf2,cf3⟩:=four_of ch1
 have cni : ((r).pos : Int) + 1 ≤ 1001:=by omega
 clear ch1
 rw [hw] at c2
 clear hw
 obtain ⟨⟨⟨tk1,tn1,tt1⟩,ta1⟩,hh⟩ : ∃ x,(r).ps.hd = x:=⟨_,rfl⟩
 have HT:=qnh P M hh
 have HH1:=Hd hh
 clear hh
 go_wp2_with fail
 clear hW1
 refine (HT.out _ HA.out.ra).mono ?_
 rintro e w2 ⟨rfl,hb⟩
 replace HA:=Hd (HA.out.bel hb)
 clear hb HT
 have hvt:=HV.out
 rw [HH1.out] at hvt
 have e3 : (tk1 == 3) = false:=by have:=HN3.out; rw [HH1.out] at this; simpa using this
 have e6 : (tk1 == 6) = false:=by have:=HN6.out; rw [HH1.out] at this; simpa using this
 obtain ⟨W3,hW3,HA⟩:=HA.out.pushE (Vk tk1 tn1 tt1 ta1) 43
 have zt:=four_of (HA.out.at 0 rfl)
 obtain ⟨W4,hW4,HA⟩:=HA.out.pushE (Ve 0 0 0 0 Vz Vz Vz Vn ta1) 48
 have zu:=four_of (HA.out.at 1 rfl)
 go_wp2_with fail
 clear hW3 hW4
 refine (qvalue_any tk1 tn1 tt1 (ta1 : Int) _).mono ?_
 rintro e w5 ⟨rfl,hb⟩
 replace HA:=Hd (HA.out.bel hb)
 clear hb
 rw [hvt,vtV_none]
 clear hvt
 obtain ⟨W6,hW6,HA⟩:=HA.out.pushE #[Vi 0,Vi 0,Vs] 46
 have HhW6:=Hd hW6
 clear hW6
 go_wp2_with fail
 have hsz : w5.heap.size + 1 = W6.heap.size:=by rw [← HhW6.out]; simp
 try rw [hsz]
 clear hsz
 rw [HhW6.out]
 clear HhW6
 refine (qis_any P M r ⟨#[45]⟩ _ HA.out.ra).mono ?_
 rintro e w7 ⟨rfl,hb⟩
 replace HA:=Hd (HA.out.bel hb)
 clear hb
 try rw [show r.sees (⟨#[45]⟩ : ByteArray).data.toList = true from H45.out]
 go_wp2_with fail
 refine (qis_any P M r ⟨#[40]⟩ _ HA.out.ra).mono ?_
 rintro e w8 ⟨rfl,hb⟩
 replace HA:=Hd (HA.out.bel hb)
 clear hb
 try rw [show r.sees (⟨#[40]⟩ : ByteArray).data.toList = bp from H40.out]
 obtain ⟨dg,doff,dcap,dka,dkc,dh1,-,-,-,-,dn,-,dl,-,-⟩:=HA.out.ra.cells
 have zd:=four_of dh1
 have dni : ((r).pos : Int) + 1 ≤ 1001:=by omega
 clear dh1
 obtain ⟨⟨e0,e1,e2,e3,e4,e5,e6,e7,e8⟩,ef0,ef1,ef2,ef3,ef4,ef5,ef6,ef7,ef8⟩:=nine_of (HA.out.at 1 rfl)
 have zt:=four_of (HA.out.at 2 rfl)
 replace HA:=Hd (HA.out.stepAt (HK1.out))
 obtain ⟨W9,hW9⟩:=Vx (w8.setCell ⟨P,1,none⟩ (Vi (((r).pos : Int) + 1)))
 rw [hW9] at HA
 replace HLN:=Hd (Nat.le_trans (RS.step_le _) HLN.out)
 have zf:=nine_of (HA.out.at 1 rfl)
 replace HA:=Hd (Aq.puts 1 [Vi 4] 0 HA.out rfl)
 simp only [putsA,Sa,Sb,Sc] at HA
 obtain ⟨W10,hW10⟩:=Vx (setsL W9 (W3.heap.size) 0 [Vi 4])
 rw [hW10] at HA
 simp only [setsL] at hW10
 go_wp2_with fail
 clear hW9 hW10
 refine (HR.out _ (r).step _ (RS.step_lt HOK.out) HA.out.ra).mono ?_
 rintro e w11 ⟨x11,a11,m11,c11,M11,r11,rfl,hk,hp,ho,hm,hl,hx⟩
 have HK11:=Hd hk
 replace HA:=Hd (HA.out.gainX ho hm hp hk.right hx)
 replace HLN:=Hd (Nat.le_trans hl HLN.out)
 clear ho hp hl hk hm hx
 obtain ⟨kk11,oo11,⟨v111,v211,v311⟩,tt11,nn11,ks11,pp11⟩:=x11
 simp only [exV,exC]
 obtain ⟨W12,hW12,HA⟩:=HA.out.pushE (Ve kk11 oo11 v111 v211 v311 tt11 nn11 (.slice a11 m11 c11) pp11) 48
 have zl:=nine_of (HA.out.at 0 rfl)
 obtain ⟨W13,hW13,HA⟩:=HA.out.pushE (Ve kk11 oo11 v111 v211 v311 tt11 nn11 (.slice a11 m11 c11) pp11) 48
 have zg:=nine_of (HA.out.at 3 rfl)
 have hlb : w.heap.size ≤ W12.heap.size:=(HA.out.has _ (List.mem_cons_self)).1
 replace HA:=Hd (Aq.puts 3 [.slice (some ⟨W12.heap.size,0,none⟩) 1 1] 7 HA.out rfl)
 simp only [putsA,Sa,Sb,Sc] at HA
 obtain ⟨W14,hW14⟩:=Vx (setsL W13 (W3.heap.size) 7 [.slice (some ⟨W12.heap.size,0,none⟩) 1 1])
 rw [hW14] at HA
 simp only [setsL] at hW14
 have zi:=nine_of (HA.out.at 3 rfl)
 have zr:=nine_of (HA.out.at 5 rfl)
 have HLK:=Hd (show Lk (Pr .fact) r (over 4 0 ta1 [(Ex.mk kk11 oo11 (v111,v211,v311) tt11 nn11 ks11 pp11)]) _ from by have:=Lk.fact_minus H45.out HK11.out; rw [HH1.out] at this; exact this)
 go_wp2
 clear hW12 hW13 hW14
 have HD:=Hd (HA.out.fill 5 rfl [Vi 4,Vi 0,Vi 0,Vi 0,Vs,Vs,Vs,.slice (some ⟨W12.heap.size,0,none⟩) 1 1,Vi (ta1 : Int)] rfl)
 obtain ⟨W99,hW99⟩:=Vx (setsL W14 w.heap.size 0 [Vi 4,Vi 0,Vi 0,Vi 0,Vs,Vs,Vs,.slice (some ⟨W12.heap.size,0,none⟩) 1 1,Vi (ta1 : Int)])
 rw [hW99] at HD
 simp only [setsL,Nat.reduceAdd] at hW99
 rw [hW99]
 have zy:=(nine_of (HD.out.at 5 rfl)).1
 clear hW99
 exact bodyPost_ret (v:=exV (over 4 0 ta1 [(Ex.mk kk11 oo11 (v111,v211,v311) tt11 nn11 ks11 pp11)]) (.slice (some ⟨W12.heap.size,0,none⟩) 1 1)) (by simp [results,Tryz.results201,go_sem,exV,exC,over,v0,zy]) rfl (HD.out.qx HLK.out HLN.out (fun W hL h => XO.one h.2 (fun _ _ _ => rfl) (hL _ (List.mem_of_getElem? (i:=0) rfl)) hlb))

theorem qfact_paren (P M : Nat) (r : RS) (w : World) (h : RA w P M r) (hw : r.wrong = false) (hv : vtok r.ps.hd.1 = none) (hm : r.sees [40] = true) (h1 : QBel r.ps.rest.length P 103 .or) : Calls Tryz.prog 201 #[.pointer (some ⟨P,0,none⟩)] w (QX (Pr .fact) P M r w):=by
 have HA:=Hd (Aq.start h)
 have hPw:=h.lt
 have HLN : Hid (r.ps.rest.length ≤ r.ps.rest.length):=Nat.le_refl _
 clear h
 have HW:=Hd hw
 have HOK:=Hd HA.out.ra.ok
 have hb45 : r.sees [45] = false:=by have:=RS.sees_true hm; rw [RS.sees_right this.1]; exact sees_other this.2 (by decide)
 have H45:=Hd hb45
 have H40:=Hd hm
 have HR:=Hd h1
 have HN:=Hd (sees_kinds (RS.sees_true hm).2)
 have HN3:=Hd HN.out.1
 have HN6:=Hd HN.out.2.1
 have HK1:=Hd HN.out.2.2
 clear hb45 hm h1 HN
 have HV:=Hd hv
 clear hv
 have HPOK:=Hd HA.out.ra
 go_enter Tryz.func201,Tryz.ntmps201
 obtain ⟨W1,hW1,HA⟩:=HA.out.pushE Vo 48
 obtain ⟨cg,coff,ccap,cka,ckc,ch1,-,-,-,-,cn,-,cl,-,-⟩:=HA.out.ra.cells
 obtain ⟨⟨c0,c1,c2,c3⟩,cf0,cf1,cf2,cf3⟩:=four_of ch1
 have cni : ((r).pos : Int) + 1 ≤ 1001:=by omega
 clear ch1
 rw [hw] at c2
 clear hw
 obtain ⟨⟨⟨tk1,tn1,tt1⟩,ta1⟩,hh⟩ : ∃ x,(r).ps.hd = x:=⟨_,rfl⟩
 have HT:=qnh P M hh
 have HH1:=Hd hh
 clear hh
 go_wp2_with fail
 clear hW1
 refine (HT.out _ HA.out.ra).mono ?_
 rintro e w2 ⟨rfl,hb⟩
 replace HA:=Hd (HA.out.bel hb)
 clear hb HT
 have hvt:=HV.out
 rw [HH1.out] at hvt
 have e3 : (tk1 == 3) = false:=by have:=HN3.out; rw [HH1.out] at this; simpa using this
 have e6 : (tk1 == 6) = false:=by have:=HN6.out; rw [HH1.out] at this; simpa using this
 obtain ⟨W3,hW3,HA⟩:=HA.out.pushE (Vk tk1 tn1 tt1 ta1) 43
 have zt:=four_of (HA.out.at 0 rfl)
 obtain ⟨W4,hW4,HA⟩:=HA.out.pushE (Ve 0 0 0 0 Vz Vz Vz Vn ta1) 48
 have zu:=four_of (HA.out.at 1 rfl)
 go_wp2_with fail
 clear hW3 hW4
 refine (qvalue_any tk1 tn1 tt1 (ta1 : Int) _).mono ?_
 rintro e w5 ⟨rfl,hb⟩
 replace HA:=Hd (HA.out.bel hb)
 clear hb
 rw [hvt,vtV_none]
 clear hvt
 obtain ⟨W6,hW6,HA⟩:=HA.out.pushE #[Vi 0,Vi 0,Vs] 46
 have HhW6:=Hd hW6
 clear hW6
 go_wp2_with fail
 have hsz : w5.heap.size + 1 = W6.heap.size:=by rw [← HhW6.out]; simp
 try rw [hsz]
 clear hsz
 rw [HhW6.out]
 clear HhW6
 refine (qis_any P M r ⟨#[45]⟩ _ HA.out.ra).mono ?_
 rintro e w7 ⟨rfl,hb⟩
 replace HA:=Hd (HA.out.bel hb)
 clear hb
 try rw [show r.sees (⟨#[45]⟩ : ByteArray).data.toList = false from H45.out]
 go_wp2_with fail
 refine (qis_any P M r ⟨#[40]⟩ _ HA.out.ra).mono ?_
 rintro e w8 ⟨rfl,hb⟩
 replace HA:=Hd (HA.out.bel hb)
 clear hb
 try rw [show r.sees (⟨#[40]⟩ : ByteArray).data.toList = true from H40.out]
 obtain ⟨dg,doff,dcap,dka,dkc,dh1,-,-,-,-,dn,-,dl,-,-⟩:=HA.out.ra.cells
 have zd:=four_of dh1
 have dni : ((r).pos : Int) + 1 ≤ 1001:=by omega
 clear dh1
 obtain ⟨⟨e0,e1,e2,e3,e4,e5,e6,e7,e8⟩,ef0,ef1,ef2,ef3,ef4,ef5,ef6,ef7,ef8⟩:=nine_of (HA.out.at 1 rfl)
 have zt:=four_of (HA.out.at 2 rfl)
 replace HA:=Hd (HA.out.stepAt (HK1.out))
 obtain ⟨W9,hW9⟩:=Vx (w8.setCell ⟨P,1,none⟩ (Vi (((r).pos : Int) + 1)))
 rw [hW9] at HA
 replace HLN:=Hd (Nat.le_trans (RS.step_le _) HLN.out)
 go_wp2_with fail
 clear hW9
 refine (HR.out _ (r).step _ (RS.step_lt HOK.out) HA.out.ra).mono ?_
 rintro e w10 ⟨x10,a10,m10,c10,M10,r10,rfl,hk,hp,ho,hm,hl,hx⟩
 have HK10:=Hd hk
 replace HA:=Hd (HA.out.gainX ho hm hp hk.right hx)
 replace HLN:=Hd (Nat.le_trans hl HLN.out)
 clear ho hp hl hk hm hx
 obtain ⟨kk10,oo10,⟨v110,v210,v310⟩,tt10,nn10,ks10,pp10⟩:=x10
 simp only [exV,exC]
 have zf:=nine_of (HA.out.at 1 rfl)
 replace HA:=Hd (Aq.puts 1 [Vi kk10,Vi oo10,Vi v110,Vi v210,.string v310,.string tt10,.string nn10,.slice a10 m10 c10,Vi pp10] 0 HA.out rfl)
 simp only [putsA,Nat.reduceAdd,Sa,Sb,Sc] at HA
 obtain ⟨W11,hW11⟩:=Vx (setsL w10 (W3.heap.size) 0 [Vi kk10,Vi oo10,Vi v110,Vi v210,.string v310,.string tt10,.string nn10,.slice a10 m10 c10,Vi pp10])
 rw [hW11] at HA
 simp only [setsL,Nat.reduceAdd] at hW11
 go_wp2_with fail
 clear hW11
 refine (qwants_any P (M10) (r10) ⟨#[41]⟩ _ HA.out.ra).mono ?_
 rintro e w12 ⟨rfl,hp,ho⟩
 have hl : (if (r10).sees [41] = true then (r10).step else (r10).stop).ps.rest.length ≤ (r10).ps.rest.length:=by split; exact RS.step_le _; exact Nat.le_refl _
 have hr : (if (r10).sees [41] = true then (r10).step else (r10).stop).wrong = false → (r10).wrong = false:=by split; exact fun k => k; exact fun k => absurd k (by show ¬ (true = false); decide)
 replace HA:=Hd (HA.out.call ho (Or.inl rfl) hp hr)
 replace HLN:=Hd (Nat.le_trans hl HLN.out)
 clear ho hp hl hr
 have zg:=nine_of (HA.out.at 1 rfl)
 have zr:=nine_of (HA.out.at 3 rfl)
 have HLK:=Hd (Lk.fact_paren H40.out HK10.out)
 go_wp2
 have HD:=Hd (HA.out.fill 3 rfl [Vi kk10,Vi oo10,Vi v110,Vi v210,.string v310,.string tt10,.string nn10,.slice a10 m10 c10,Vi pp10] rfl)
 obtain ⟨W99,hW99⟩:=Vx (setsL w12 w.heap.size 0 [Vi kk10,Vi oo10,Vi v110,Vi v210,.string v310,.string tt10,.string nn10,.slice a10 m10 c10,Vi pp10])
 rw [hW99] at HD
 simp only [setsL,Nat.reduceAdd] at hW99
 rw [hW99]
 have zy:=(nine_of (HD.out.at 3 rfl)).1
 clear hW99
 exact bodyPost_ret (v:=exV (Ex.mk kk10 oo10 (v110,v210,v310) tt10 nn10 ks10 pp10) (.slice a10 m10 c10)) (by simp [results,Tryz.results201,go_sem,exV,exC,zy]) rfl (HD.out.qx HLK.out HLN.out fun _ _ h => h.2)

theorem qfact_bad (P M : Nat) (r : RS) (w : World) (h : RA w P M r) (hw : r.wrong = false) (hv : vtok r.ps.hd.1 = none) (h6 : r.ps.hd.1.1 ≠ 6) (h3 : r.ps.hd.1.1 ≠ 3) (hm : r.sees [45] = false) (hp : r.sees [40] = false) : Calls Tryz.prog 201 #[.pointer (some ⟨P,0,none⟩)] w (QX (Pr .fact) P M r w):=by
 have HA:=Hd (Aq.start h)
 have hPw:=h.lt
 have HLN : Hid (r.ps.rest.length ≤ r.ps.rest.length):=Nat.le_refl _
 clear h
 have HW:=Hd hw
 have HOK:=Hd HA.out.ra.ok
 have H45:=Hd hm
 have H40:=Hd hp
 have HN3:=Hd h3
 have HN6:=Hd h6
 clear hm hp h3 h6
 have HV:=Hd hv
 clear hv
 have HPOK:=Hd HA.out.ra
 go_enter Tryz.func201,Tryz.ntmps201
 obtain ⟨W1,hW1,HA⟩:=HA.out.pushE Vo 48
 obtain ⟨cg,coff,ccap,cka,ckc,ch1,-,-,-,-,cn,-,cl,-,-⟩:=HA.out.ra.cells
 obtain ⟨⟨c0,c1,c2,c3⟩,cf0,cf1,cf2,cf3⟩:=four_of ch1
 have cni : ((r).pos : Int) + 1 ≤ 1001:=by omega
 clear ch1
 rw [hw] at c2
 clear hw
 obtain ⟨⟨⟨tk1,tn1,tt1⟩,ta1⟩,hh⟩ : ∃ x,(r).ps.hd = x:=⟨_,rfl⟩
 have HT:=qnh P M hh
 have HH1:=Hd hh
 clear hh
 go_wp2_with fail
 clear hW1
 refine (HT.out _ HA.out.ra).mono ?_
 rintro e w2 ⟨rfl,hb⟩
 replace HA:=Hd (HA.out.bel hb)
 clear hb HT
 have hvt:=HV.out
 rw [HH1.out] at hvt
 have e3 : (tk1 == 3) = false:=by have:=HN3.out; rw [HH1.out] at this; simpa using this
 have e6 : (tk1 == 6) = false:=by have:=HN6.out; rw [HH1.out] at this; simpa using this
 obtain ⟨W3,hW3,HA⟩:=HA.out.pushE (Vk tk1 tn1 tt1 ta1) 43
 have zt:=four_of (HA.out.at 0 rfl)
 obtain ⟨W4,hW4,HA⟩:=HA.out.pushE (Ve 0 0 0 0 Vz Vz Vz Vn ta1) 48
 have zu:=four_of (HA.out.at 1 rfl)
 go_wp2_with fail
 clear hW3 hW4
 refine (qvalue_any tk1 tn1 tt1 (ta1 : Int) _).mono ?_
 rintro e w5 ⟨rfl,hb⟩
 replace HA:=Hd (HA.out.bel hb)
 clear hb
 rw [hvt,vtV_none]
 clear hvt
 obtain ⟨W6,hW6,HA⟩:=HA.out.pushE #[Vi 0,Vi 0,Vs] 46
 have HhW6:=Hd hW6
 clear hW6
 go_wp2_with fail
 have hsz : w5.heap.size + 1 = W6.heap.size:=by rw [← HhW6.out]; simp
 try rw [hsz]
 clear hsz
 rw [HhW6.out]
 clear HhW6
 refine (qis_any P M r ⟨#[45]⟩ _ HA.out.ra).mono ?_
 rintro e w7 ⟨rfl,hb⟩
 replace HA:=Hd (HA.out.bel hb)
 clear hb
 try rw [show r.sees (⟨#[45]⟩ : ByteArray).data.toList = false from H45.out]
 go_wp2_with fail
 refine (qis_any P M r ⟨#[40]⟩ _ HA.out.ra).mono ?_
 rintro e w8 ⟨rfl,hb⟩
 replace HA:=Hd (HA.out.bel hb)
 clear hb
 try rw [show r.sees (⟨#[40]⟩ : ByteArray).data.toList = false from H40.out]
 obtain ⟨dg,doff,dcap,dka,dkc,dh1,-,-,-,-,dn,-,dl,-,-⟩:=HA.out.ra.cells
 have zd:=four_of dh1
 have dni : ((r).pos : Int) + 1 ≤ 1001:=by omega
 clear dh1
 obtain ⟨⟨e0,e1,e2,e3,e4,e5,e6,e7,e8⟩,ef0,ef1,ef2,ef3,ef4,ef5,ef6,ef7,ef8⟩:=nine_of (HA.out.at 1 rfl)
 have zt:=four_of (HA.out.at 2 rfl)
 replace HA:=Hd HA.out.stopAt
 obtain ⟨W9,hW9⟩:=Vx (w8.setCell ⟨P,2,none⟩ (.bool true))
 rw [hW9] at HA
 have zf:=nine_of (HA.out.at 1 rfl)
 have zr:=nine_of (HA.out.at 3 rfl)
 have HLK:=Hd (Lk.fact_bad (e:=.mk 0 0 v0 ⟨#[]⟩ ⟨#[]⟩ [] (ta1 : Int)) HOK.out HW.out HV.out HN6.out HN3.out H45.out H40.out)
 go_wp2
 clear hW9
 have HD:=Hd (HA.out.fill 3 rfl [Vi 0,Vi 0,Vi 0,Vi 0,Vs,Vs,Vs,Vn,Vi (ta1 : Int)] rfl)
 obtain ⟨W99,hW99⟩:=Vx (setsL W9 w.heap.size 0 [Vi 0,Vi 0,Vi 0,Vi 0,Vs,Vs,Vs,Vn,Vi (ta1 : Int)])
 rw [hW99] at HD
 simp only [setsL,Nat.reduceAdd] at hW99
 rw [hW99]
 have zy:=(nine_of (HD.out.at 3 rfl)).1
 clear hW99
 exact bodyPost_ret (v:=exV (.mk 0 0 v0 ⟨#[]⟩ ⟨#[]⟩ [] (ta1 : Int)) Vn) (by simp [results,Tryz.results201,go_sem,exV,exC,v0,zy]) rfl (HD.out.qx HLK.out HLN.out fun _ _ _ => XO.leaf _ _ _ _ _ _ _ _)

theorem qfactor_step (P M : Nat) (r : RS) (w : World) (h : RA w P M r) (h1 : QBel r.ps.rest.length P 201 .fact) (h2 : QBel r.ps.rest.length P 103 .or) : Calls Tryz.prog 201 #[.pointer (some ⟨P,0,none⟩)] w (QX (Pr .fact) P M r w):=by
 cases hw : r.wrong with
 | true => exact qfact_wrong P M r w h hw
 | false =>
  cases hv : vtok r.ps.hd.1 with
  | some v => exact qfact_lit P M r w h hw v hv
  | none =>
   by_cases k6 : r.ps.hd.1.1 = 6
   ·exact qfact_param P M r w h hw hv k6
   ·by_cases k3 : r.ps.hd.1.1 = 3
    ·exact qfact_col P M r w h hw hv k3
    ·cases hm : r.sees [45] with
     | true => exact qfact_minus P M r w h hw hv hm h1
     | false =>
      cases hp : r.sees [40] with
      | true => exact qfact_paren P M r w h hw hv hp h2
      | false => exact qfact_bad P M r w h hw hv k6 k3 hm hp
end Go.Proofs.YtffalonhkemieaaGreatDoor
