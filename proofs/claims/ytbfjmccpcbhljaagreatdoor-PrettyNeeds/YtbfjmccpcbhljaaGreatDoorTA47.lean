/- A47 A48 A49 A49p A60 A61 A62 A63 A64 A65 A66 -/
import Derived.Test.YtbfjmccpcbhljaaGreatDoorTA40
import Derived.RegionDies
import Derived.Maps.AppendAt
set_option maxHeartbeats 8000000
set_option maxRecDepth 100000
namespace Go.Proofs.YtbfjmccpcbhljaaGreatDoor
open Go.RowKit
theorem tail_le (s : PS) : s.next.rest.length ≤ s.rest.length:=by show s.rest.tail.length ≤ _; simp

theorem name_less {s s1 : PS} {a : ByteArray} (h : nameR s = .ok a s1) : s1 = s.next ∧ s.hd.1.1 = 3:=by
 unfold nameR at h
 split at h
 ·injection h with _ h
  exact ⟨h.symm,by assumption⟩
 ·cases h

theorem hd_some {s : PS} (h : s.hd.1.1 ≠ 1) : 0 < s.rest.length:=by
 obtain ⟨r,c,p⟩:=s
 cases r with
 | nil => exact absurd rfl h
 | cons t l => simp

theorem next_less {s : PS} (h : s.hd.1.1 ≠ 1) : s.next.rest.length < s.rest.length:=by
 have:=hd_some h
 show s.rest.tail.length < _
 simp
 omega

theorem col_less {s s1 : PS} {x : Ex} (h : colR s = .ok x s1) : s1.rest.length < s.rest.length:=by
 unfold colR at h
 cases hn : nameR s with
 | bad p => rw [hn] at h; cases h
 | ok a s2 =>
  rw [hn] at h
  obtain ⟨rfl,hk⟩:=name_less hn
  have h1:=next_less (s:=s) (by rw [hk]; decide)
  simp only at h
  split at h
  ·cases hm : nameR s.next.next with
   | bad p => rw [hm] at h; cases h
   | ok b s3 =>
    rw [hm] at h
    obtain ⟨rfl,_⟩:=name_less hm
    injection h with _ h
    subst h
    have h2:=tail_le s.next
    have h3:=tail_le s.next.next
    omega
  ·injection h with _ h
   subst h
   exact h1

theorem col_form {s s1 : PS} {x : Ex} (h : colR s = .ok x s1) : ∃ ta na pa,x = .mk 3 0 v0 ta na [] pa:=by
 unfold colR at h
 cases hn : nameR s with
 | bad p => rw [hn] at h; cases h
 | ok a s2 =>
  rw [hn] at h
  simp only at h
  split at h
  ·cases hm : nameR s2.next with
   | bad p => rw [hm] at h; cases h
   | ok b s3 =>
    rw [hm] at h
    injection h with h _
    exact ⟨_,_,_,h.symm⟩
  ·injection h with h _
   exact ⟨_,_,_,h.symm⟩

theorem lit_less {s s1 : PS} {v : V3} (h : litR s = .ok v s1) : s1.rest.length < s.rest.length:=by
 have key : ∀ x,s.sees x = true → s.next.rest.length < s.rest.length:=fun x hx => next_less (sees_kind hx)
 unfold litR at h
 repeat' split at h
 all_goals first | (cases h; done) | skip
 all_goals (injection h with _ h2; subst h2)
 all_goals first | exact key _ ‹s.sees wNull = true› | exact key _ ‹s.sees wFalse = true› | exact key _ ‹s.sees wTrue = true› | exact next_less (by rw [‹s.hd.1.1 = 5›]; decide) | exact next_less (by rw [‹s.hd.1.1 = 2›]; decide)

theorem fact_col (P : Nat) (s : PS) (w : World) (h : PA w P s) (n1 : s.sees [45] = false) (n2 : s.sees [40] = false) (hk : s.hd.1.1 = 3) : Calls Tryz.prog 195 #[.pointer (some ⟨P,0,none⟩)] w (PXP .fact P s w):=by
 have HP:=Hd h
 have hPw:=h.lt
 have HSH:=Hd h.shorter
 clear h
 have B0:=Hd n1
 have B1:=Hd n2
 have hct:=ctoken_any P s
 have HKK:=Hd hk
 obtain ⟨⟨⟨k,n,t⟩,a⟩,hh⟩ : ∃ x,s.hd = x:=⟨_,rfl⟩
 rw [hh] at hct hk
 unfold tkA at hct
 obtain rfl : k = 3:=hk
 have HT:=Hd hct
 have hf0:=fieldT0
 have HF : Hid (pX 1 .fact s = some (colR s)):=by
  show pX 1 .fact s = _
  rw [pX,if_neg (by rw [n1]; simp),if_neg (by rw [n2]; simp),if_pos HKK.out]
 clear n1 n2 hct hh
 go_enter Tryz.func195,Tryz.ntmps195
 obtain ⟨p0,hp0⟩:=Vx s.hd.2
 have HAT:=ath P hp0
 have HP0:=Hd hp0
 clear hp0
 have H0 : Hid (PA (w.alloc (.cells Vo 49)) P s):=HP.out.later ((Below.refl _ _).alloc (Nat.le_refl _) _)
 have O0 : Hid (Only (· = P) w (w.alloc (.cells Vo 49))):=(Only.refl _ _).alloc _
 have R0 : Hid ((w.alloc (.cells Vo 49)).heap[w.heap.size]? = some (.cells Vo 49 (0,0))):=heap_alloc_new w _
 go_wp2_with fail
 refine (HAT.out _ H0.out).mono ?_
 rintro e w' ⟨rfl,rfl⟩
 go_wp2_with fail
 refine (skip_any P s ⟨#[45]⟩ _ H0.out).mono ?_
 rintro e w1 ⟨rfl,hp,ho⟩
 rw [show s.sees (⟨#[45]⟩ : ByteArray).data.toList = false from B0.out] at hp ⊢
 rw [if_neg (by decide)] at hp
 have H1:=Hd hp
 have R1:=Hd (ho.at R0.out (by omega))
 have O1:=Hd (O0.out.trans ho)
 clear hp ho H0 R0 O0
 go_wp2_with fail
 refine (skip_any P s ⟨#[40]⟩ _ H1.out).mono ?_
 rintro e w2 ⟨rfl,hp,ho⟩
 rw [show s.sees (⟨#[40]⟩ : ByteArray).data.toList = false from B1.out] at hp ⊢
 rw [if_neg (by decide)] at hp
 have H2:=Hd hp
 have R2:=Hd (ho.at R1.out (by omega))
 have O2:=Hd (O1.out.trans ho)
 clear hp ho H1 R1 O1
 go_wp2_with fail
 refine (HT.out _ H2.out).mono ?_
 rintro e w3 ⟨rfl,hb⟩
 have H3:=Hd (H2.out.later hb)
 have R3:=Hd ((Only.of (Z:=(· = P)) hb).at R2.out (by omega))
 have O3:=Hd (O2.out.trans (Only.of hb))
 clear hb H2 R2 O2
 go_wp2_with fail
 refine (column_any P s _ H3.out).mono ?_
 rintro e w4 ⟨ho,hm⟩
 have RR:=Hd (ho.at R3.out (by omega))
 have OO:=Hd (O3.out.trans ho)
 clear ho H3 R3 O3
 cases hcr : colR s with
 | bad p =>
  rw [hcr] at hm
  have HV : Hid (Pr .fact s (.bad p)):=⟨1,by rw [HF.out,hcr]⟩
  rw [hm]
  clear hm hcr
  go_wp2
  exact ⟨rfl,px_bad HV.out OO.out⟩
 | ok x s1 =>
  rw [hcr] at hm
  obtain ⟨rfl,hp⟩:=hm
  have HH:=Hd hp
  have HV : Hid (Pr .fact s (.ok x s1)):=⟨1,by rw [HF.out,hcr]⟩
  have HLN : Hid (s1.rest.length < s.rest.length):=col_less hcr
  have HK0 : Hid (∃ ta na pa,x = .mk 3 0 v0 ta na [] pa):=col_form hcr
  clear hcr hp
  obtain ⟨ta,na,pa,rfl⟩:=HK0.out
  simp only [exV,exC,v0]
  obtain ⟨⟨n0,n1,n2,n3,n4,n5,n6,n7,n8⟩,f0,f1,f2,f3,f4,f5,f6,f7,f8⟩:=nine_of RR.out
  go_wp2
  obtain ⟨W6,hW6⟩:=Vx (((((((((w4.setCell ⟨w.heap.size,0,none⟩ (Vi 3)).setCell ⟨w.heap.size,1,none⟩ (Vi 0)).setCell ⟨w.heap.size,2,none⟩ (Vi 0)).setCell ⟨w.heap.size,3,none⟩ (Vi 0)).setCell ⟨w.heap.size,4,none⟩ Vs).setCell ⟨w.heap.size,5,none⟩ (.string ta)).setCell ⟨w.heap.size,6,none⟩ (.string na)).setCell ⟨w.heap.size,7,none⟩ Vn).setCell ⟨w.heap.size,8,none⟩ (Vi pa))
  rw [hW6]
  have zy:=(nine_of (hW6 ▸ nine_set RR.out (Vi 3) (Vi 0) (Vi 0) (Vi 0) Vs (.string ta) (.string na) Vn (Vi pa))).1
  have HO : Hid (Only (· = P) w W6):=hW6 ▸ OO.out.nine (Nat.le_refl _) _ _ _ _ _ _ _ _ _
  have HQ:=Hd (hW6 ▸ HH.out.nine hPw (Vi 3) (Vi 0) (Vi 0) (Vi 0) Vs (.string ta) (.string na) Vn (Vi pa) : PA W6 P _)
  clear hW6
  exact bodyPost_ret (v:=exV (.mk 3 0 v0 ta na [] pa) Vn) (by simp [results,Tryz.results195,go_sem,exV,exC,v0,zy]) rfl (px_ok HV.out HO.out (XO.leaf _ _ _ _ _ _ _ _) HQ.out HLN.out)

theorem fact_param (P : Nat) (s : PS) (w : World) (h : PA w P s) (n1 : s.sees [45] = false) (n2 : s.sees [40] = false) (hk : s.hd.1.1 = 6) : Calls Tryz.prog 195 #[.pointer (some ⟨P,0,none⟩)] w (PXP .fact P s w):=by
 have HP:=Hd h
 have hPw:=h.lt
 have HSH:=Hd h.shorter
 clear h
 have B0:=Hd n1
 have B1:=Hd n2
 have hct:=ctoken_any P s
 have HKK:=Hd hk
 have HLN : Hid (s.next.rest.length < s.rest.length):=next_less (by rw [hk]; decide)
 obtain ⟨⟨⟨k,n,t⟩,a⟩,hh⟩ : ∃ x,s.hd = x:=⟨_,rfl⟩
 have HV : Hid (Pr .fact s (.ok (.mk 2 0 v0 ⟨#[]⟩ t [] a) s.next)):=⟨1,by
  rw [pX,if_neg (by rw [n1]; simp),if_neg (by rw [n2]; simp),if_neg (by rw [hk]; decide),if_pos hk,hh]⟩
 have HHD:=Hd hh
 rw [hh] at hct hk
 unfold tkA at hct
 obtain rfl : k = 6:=hk
 have HT:=Hd hct
 have hf0:=fieldT0
 have hf2:=fieldT2
 clear n1 n2 hct hh
 go_enter Tryz.func195,Tryz.ntmps195
 obtain ⟨p0,hp0⟩:=Vx s.hd.2
 have HAT:=ath P hp0
 have HP0:=Hd hp0
 clear hp0
 have H0 : Hid (PA (w.alloc (.cells Vo 49)) P s):=HP.out.later ((Below.refl _ _).alloc (Nat.le_refl _) _)
 have O0 : Hid (Only (· = P) w (w.alloc (.cells Vo 49))):=(Only.refl _ _).alloc _
 have R0 : Hid ((w.alloc (.cells Vo 49)).heap[w.heap.size]? = some (.cells Vo 49 (0,0))):=heap_alloc_new w _
 go_wp2_with fail
 refine (HAT.out _ H0.out).mono ?_
 rintro e w' ⟨rfl,rfl⟩
 go_wp2_with fail
 refine (skip_any P s ⟨#[45]⟩ _ H0.out).mono ?_
 rintro e w1 ⟨rfl,hp,ho⟩
 rw [show s.sees (⟨#[45]⟩ : ByteArray).data.toList = false from B0.out] at hp ⊢
 rw [if_neg (by decide)] at hp
 have H1:=Hd hp
 have R1:=Hd (ho.at R0.out (by omega))
 have O1:=Hd (O0.out.trans ho)
 clear hp ho H0 R0 O0
 go_wp2_with fail
 refine (skip_any P s ⟨#[40]⟩ _ H1.out).mono ?_
 rintro e w2 ⟨rfl,hp,ho⟩
 rw [show s.sees (⟨#[40]⟩ : ByteArray).data.toList = false from B1.out] at hp ⊢
 rw [if_neg (by decide)] at hp
 have H2:=Hd hp
 have R2:=Hd (ho.at R1.out (by omega))
 have O2:=Hd (O1.out.trans ho)
 clear hp ho H1 R1 O1
 go_wp2_with fail
 refine (HT.out _ H2.out).mono ?_
 rintro e w3 ⟨rfl,hb⟩
 have H3:=Hd (H2.out.later hb)
 have R3:=Hd ((Only.of (Z:=(· = P)) hb).at R2.out (by omega))
 have O3:=Hd (O2.out.trans (Only.of hb))
 clear hb H2 R2 O2
 go_wp2_with fail
 refine (HT.out _ H3.out).mono ?_
 rintro e w4 ⟨rfl,hb⟩
 have H4:=Hd (H3.out.later hb)
 have R4:=Hd ((Only.of (Z:=(· = P)) hb).at R3.out (by omega))
 have O4:=Hd (O3.out.trans (Only.of hb))
 clear hb H3 R3 O3
 go_wp2_with fail
 refine (take_any P s 6 _ H4.out (by decide)).mono ?_
 rintro e w5 ⟨⟨hk,rfl,hp⟩ | ⟨hk,rfl,hp⟩,ho⟩
 ·rw [HHD.out]
  unfold tkA
  have HH:=Hd hp
  have RR:=Hd (ho.at R4.out (by omega))
  have OO:=Hd (O4.out.trans ho)
  obtain rfl : a = p0:=by have:=HP0.out; rw [HHD.out] at this; exact this
  clear hk hp ho H4 R4 O4
  obtain ⟨⟨n0,n1,n2,n3,n4,n5,n6,n7,n8⟩,f0,f1,f2,f3,f4,f5,f6,f7,f8⟩:=nine_of RR.out
  go_wp2
  obtain ⟨W6,hW6⟩:=Vx (((((((((w5.setCell ⟨w.heap.size,0,none⟩ (Vi 2)).setCell ⟨w.heap.size,1,none⟩ (Vi 0)).setCell ⟨w.heap.size,2,none⟩ (Vi 0)).setCell ⟨w.heap.size,3,none⟩ (Vi 0)).setCell ⟨w.heap.size,4,none⟩ Vs).setCell ⟨w.heap.size,5,none⟩ Vs).setCell ⟨w.heap.size,6,none⟩ (.string t)).setCell ⟨w.heap.size,7,none⟩ Vn).setCell ⟨w.heap.size,8,none⟩ (Vi (a : Int)))
  rw [hW6]
  have zy:=(nine_of (hW6 ▸ nine_set RR.out (Vi 2) (Vi 0) (Vi 0) (Vi 0) Vs Vs (.string t) Vn (Vi (a : Int)))).1
  have HO : Hid (Only (· = P) w W6):=hW6 ▸ OO.out.nine (Nat.le_refl _) _ _ _ _ _ _ _ _ _
  have HQ:=Hd (hW6 ▸ HH.out.nine hPw (Vi 2) (Vi 0) (Vi 0) (Vi 0) Vs Vs (.string t) Vn (Vi (a : Int)) : PA W6 P _)
  clear hW6
  exact bodyPost_ret (v:=exV (.mk 2 0 v0 ⟨#[]⟩ t [] (a : Int)) Vn) (by simp [results,Tryz.results195,go_sem,exV,exC,v0,zy]) rfl (px_ok HV.out HO.out (XO.leaf _ _ _ _ _ _ _ _) HQ.out HLN.out)
 ·exact absurd HKK.out hk

theorem fact_lit (P : Nat) (s : PS) (w : World) (h : PA w P s) (n1 : s.sees [45] = false) (n2 : s.sees [40] = false) (hk3 : s.hd.1.1 ≠ 3) (hk6 : s.hd.1.1 ≠ 6) : Calls Tryz.prog 195 #[.pointer (some ⟨P,0,none⟩)] w (PXP .fact P s w):=by
 have HP:=Hd h
 have hPw:=h.lt
 have HSH:=Hd h.shorter
 clear h
 have B0:=Hd n1
 have B1:=Hd n2
 have hct:=ctoken_any P s
 have HF : Hid (∀ r,litR s = r → pX 1 .fact s = match r with | .bad p => some (.bad p) | .ok v s1 => some (.ok (.mk 1 0 v ⟨#[]⟩ ⟨#[]⟩ [] s.hd.2) s1)):=by
  intro r hr
  rw [pX,if_neg (by rw [n1]; simp),if_neg (by rw [n2]; simp),if_neg hk3,if_neg hk6,hr]
  cases r <;> rfl
 obtain ⟨⟨⟨k,n,t⟩,a⟩,hh⟩ : ∃ x,s.hd = x:=⟨_,rfl⟩
 have HHD:=Hd hh
 rw [hh] at hct hk3 hk6
 unfold tkA at hct
 have hk3e : (k == 3) = false:=by simpa using hk3
 have hk6e : (k == 6) = false:=by simpa using hk6
 have HT:=Hd hct
 have hf0:=fieldT0
 clear n1 n2 hct hh hk3 hk6
 go_enter Tryz.func195,Tryz.ntmps195
 obtain ⟨p0,hp0⟩:=Vx s.hd.2
 have HAT:=ath P hp0
 have HP0:=Hd hp0
 clear hp0
 have H0 : Hid (PA (w.alloc (.cells Vo 49)) P s):=HP.out.later ((Below.refl _ _).alloc (Nat.le_refl _) _)
 have O0 : Hid (Only (· = P) w (w.alloc (.cells Vo 49))):=(Only.refl _ _).alloc _
 have R0 : Hid ((w.alloc (.cells Vo 49)).heap[w.heap.size]? = some (.cells Vo 49 (0,0))):=heap_alloc_new w _
 go_wp2_with fail
 refine (HAT.out _ H0.out).mono ?_
 rintro e w' ⟨rfl,rfl⟩
 go_wp2_with fail
 refine (skip_any P s ⟨#[45]⟩ _ H0.out).mono ?_
 rintro e w1 ⟨rfl,hp,ho⟩
 rw [show s.sees (⟨#[45]⟩ : ByteArray).data.toList = false from B0.out] at hp ⊢
 rw [if_neg (by decide)] at hp
 have H1:=Hd hp
 have R1:=Hd (ho.at R0.out (by omega))
 have O1:=Hd (O0.out.trans ho)
 clear hp ho H0 R0 O0
 go_wp2_with fail
 refine (skip_any P s ⟨#[40]⟩ _ H1.out).mono ?_
 rintro e w2 ⟨rfl,hp,ho⟩
 rw [show s.sees (⟨#[40]⟩ : ByteArray).data.toList = false from B1.out] at hp ⊢
 rw [if_neg (by decide)] at hp
 have H2:=Hd hp
 have R2:=Hd (ho.at R1.out (by omega))
 have O2:=Hd (O1.out.trans ho)
 clear hp ho H1 R1 O1
 go_wp2_with fail
 refine (HT.out _ H2.out).mono ?_
 rintro e w3 ⟨rfl,hb⟩
 have H3:=Hd (H2.out.later hb)
 have R3:=Hd ((Only.of (Z:=(· = P)) hb).at R2.out (by omega))
 have O3:=Hd (O2.out.trans (Only.of hb))
 clear hb H2 R2 O2
 go_wp2_with fail
 refine (HT.out _ H3.out).mono ?_
 rintro e w4 ⟨rfl,hb⟩
 have H4:=Hd (H3.out.later hb)
 have R4:=Hd ((Only.of (Z:=(· = P)) hb).at R3.out (by omega))
 have O4:=Hd (O3.out.trans (Only.of hb))
 clear hb H3 R3 O3
 go_wp2_with fail
 refine (literal_any P s _ H4.out).mono ?_
 rintro e w5 ⟨ho,hm⟩
 have RR:=Hd (ho.at R4.out (by omega))
 have OO:=Hd (O4.out.trans ho)
 clear ho H4 R4 O4
 cases hcr : litR s with
 | bad p =>
  rw [hcr] at hm
  have HV : Hid (Pr .fact s (.bad p)):=⟨1,HF.out _ hcr⟩
  rw [hm]
  clear hm hcr
  go_wp2
  exact ⟨rfl,px_bad HV.out OO.out⟩
 | ok v s1 =>
  rw [hcr] at hm
  obtain ⟨rfl,hp⟩:=hm
  have HH:=Hd hp
  have HV : Hid (Pr .fact s (.ok (.mk 1 0 v ⟨#[]⟩ ⟨#[]⟩ [] p0) s1)):=⟨1,by rw [HF.out _ hcr,HP0.out]⟩
  have HLN : Hid (s1.rest.length < s.rest.length):=lit_less hcr
  clear hcr hp
  obtain ⟨v1,v2,v3⟩:=v
  obtain ⟨⟨n0,n1,n2,n3,n4,n5,n6,n7,n8⟩,f0,f1,f2,f3,f4,f5,f6,f7,f8⟩:=nine_of RR.out
  go_wp2
  obtain ⟨W6,hW6⟩:=Vx (((((((((w5.setCell ⟨w.heap.size,0,none⟩ (Vi 1)).setCell ⟨w.heap.size,1,none⟩ (Vi 0)).setCell ⟨w.heap.size,2,none⟩ (Vi v1)).setCell ⟨w.heap.size,3,none⟩ (Vi v2)).setCell ⟨w.heap.size,4,none⟩ (.string v3)).setCell ⟨w.heap.size,5,none⟩ Vs).setCell ⟨w.heap.size,6,none⟩ Vs).setCell ⟨w.heap.size,7,none⟩ Vn).setCell ⟨w.heap.size,8,none⟩ (Vi (p0 : Int)))
  rw [hW6]
  have zy:=(nine_of (hW6 ▸ nine_set RR.out (Vi 1) (Vi 0) (Vi v1) (Vi v2) (.string v3) Vs Vs Vn (Vi (p0 : Int)))).1
  have HO : Hid (Only (· = P) w W6):=hW6 ▸ OO.out.nine (Nat.le_refl _) _ _ _ _ _ _ _ _ _
  have HQ:=Hd (hW6 ▸ HH.out.nine hPw (Vi 1) (Vi 0) (Vi v1) (Vi v2) (.string v3) Vs Vs Vn (Vi (p0 : Int)) : PA W6 P _)
  clear hW6
  exact bodyPost_ret (v:=exV (.mk 1 0 (v1,v2,v3) ⟨#[]⟩ ⟨#[]⟩ [] (p0 : Int)) Vn) (by simp [results,Tryz.results195,go_sem,exV,exC,zy]) rfl (px_ok HV.out HO.out (XO.leaf _ _ _ _ _ _ _ _) HQ.out HLN.out)

theorem nine_off {w : World} {b k : Nat} (h : k ≠ b) (x0 x1 x2 x3 x4 x5 x6 x7 x8 : Value) : (((((((((w.setCell ⟨b,0,none⟩ x0).setCell ⟨b,1,none⟩ x1).setCell ⟨b,2,none⟩ x2).setCell ⟨b,3,none⟩ x3).setCell ⟨b,4,none⟩ x4).setCell ⟨b,5,none⟩ x5).setCell ⟨b,6,none⟩ x6).setCell ⟨b,7,none⟩ x7).setCell ⟨b,8,none⟩ x8).heap[k]? = w.heap[k]?:=((((((((set_off _ h).trans (set_off _ h)).trans (set_off _ h)).trans (set_off _ h)).trans (set_off _ h)).trans (set_off _ h)).trans (set_off _ h)).trans (set_off _ h)).trans (set_off _ h)

theorem fact_minus (P : Nat) (s : PS) (w : World) (h : PA w P s) (hI : Below_ s.rest.length P 195 .fact) (n1 : s.sees [45] = true) : Calls Tryz.prog 195 #[.pointer (some ⟨P,0,none⟩)] w (PXP .fact P s w):=by
 have HP:=Hd h
 have hPw:=h.lt
 have HSH:=Hd h.shorter
 clear h
 have B0:=Hd n1
 have HI:=Hd hI
 have HG : Hid (∀ n,pX (n + 1) .fact s = bindR (pX n .fact s.next) fun e s1 => some (.ok (over 4 0 s.hd.2 [e]) s1)):=fun n => by rw [pX,if_pos n1]
 clear n1 hI
 go_enter Tryz.func195,Tryz.ntmps195
 obtain ⟨p0,hp0⟩:=Vx s.hd.2
 have HAT:=ath P hp0
 have HP0:=Hd hp0
 clear hp0
 have H0 : Hid (PA (w.alloc (.cells Vo 49)) P s):=HP.out.later ((Below.refl _ _).alloc (Nat.le_refl _) _)
 have O0 : Hid (Only (· = P) w (w.alloc (.cells Vo 49))):=(Only.refl _ _).alloc _
 have R0 : Hid ((w.alloc (.cells Vo 49)).heap[w.heap.size]? = some (.cells Vo 49 (0,0))):=heap_alloc_new w _
 go_wp2_with fail
 refine (HAT.out _ H0.out).mono ?_
 rintro e w' ⟨rfl,rfl⟩
 go_wp2_with fail
 refine (skip_any P s ⟨#[45]⟩ _ H0.out).mono ?_
 rintro e w1 ⟨rfl,hp,ho⟩
 rw [show s.sees (⟨#[45]⟩ : ByteArray).data.toList = true from B0.out] at hp ⊢
 rw [if_pos rfl] at hp
 have H1:=Hd hp
 have R1:=Hd (ho.at R0.out (by omega))
 have O1:=Hd (O0.out.trans ho)
 clear hp ho H0 R0 O0
 have HW1 : Hid (w.heap.size < w1.heap.size):=(Gx R1.out)
 go_wp2_with fail
 refine (HI.out s.next _ HSH.out H1.out).mono ?_
 rintro e w2 ⟨r,hr,ho,hm⟩
 have R2:=Hd (ho.at R1.out (by omega))
 have O2:=Hd (O1.out.trans ho)
 have HSZ:=Hd ho.size
 clear ho H1 R1 O1
 cases r with
 | bad p =>
  have HV : Hid (Pr .fact s (.bad p)):=Pr.bad HG.out hr
  rw [hm]
  clear hm hr
  go_wp2
  exact ⟨rfl,px_bad HV.out O2.out⟩
 | ok x s1 =>
  obtain ⟨a,m,c,rfl,hx,hp,hl⟩:=hm
  have HX0:=Hd hx
  have H2:=Hd hp
  have HLN : Hid (s1.rest.length < s.rest.length):=Nat.lt_trans hl HSH.out
  have HV : Hid (Pr .fact s (.ok (over 4 0 p0 [x]) s1)):=Pr.bind HG.out hr ⟨0,fun _ _ => by rw [HP0.out]⟩
  clear hx hp hl hr
  obtain ⟨kk,oo,⟨v1,v2,v3⟩,tt,nn,ks,pp⟩:=x
  simp only [exV,exC]
  go_wp2_with fail
  obtain ⟨WA,hWA⟩:=Vx (w2.alloc (.cells (Ve kk oo v1 v2 v3 tt nn (.slice a m c) pp) 49))
  rw [hWA]
  have HBA : Hid (Below w2.heap.size w2 WA):=hWA ▸ (Below.refl _ _).alloc (Nat.le_refl _) _
  have RA : Hid (WA.heap[w2.heap.size]? = some (.cells (Ve kk oo v1 v2 v3 tt nn (.slice a m c) pp) 49 (0,0))):=hWA ▸ heap_alloc_new w2 _
  clear hWA
  refine (over_any 4 0 p0 (some ⟨w2.heap.size,0,none⟩) 1 1 [(.mk kk oo (v1,v2,v3) tt nn ks pp)] _).mono ?_
  rintro e w3 ⟨rfl,hb⟩
  have RB:=Hd ((hb.block w2.heap.size (Gx RA.out)).trans RA.out)
  have HBB:=Hd (HBA.out.trans (hb.mono HBA.out.size))
  clear hb RA HBA
  have HH:=Hd (H2.out.later HBB.out)
  have RR:=Hd ((HBB.out.block w.heap.size (Gx R2.out)).trans R2.out)
  have OO:=Hd (O2.out.trans (Only.of HBB.out))
  clear H2 R2 O2
  simp only [over,exV,exC,v0]
  obtain ⟨⟨n0,n1,n2,n3,n4,n5,n6,n7,n8⟩,f0,f1,f2,f3,f4,f5,f6,f7,f8⟩:=nine_of RR.out
  go_wp2
  obtain ⟨W6,hW6⟩:=Vx (((((((((w3.setCell ⟨w.heap.size,0,none⟩ (Vi 4)).setCell ⟨w.heap.size,1,none⟩ (Vi 0)).setCell ⟨w.heap.size,2,none⟩ (Vi 0)).setCell ⟨w.heap.size,3,none⟩ (Vi 0)).setCell ⟨w.heap.size,4,none⟩ Vs).setCell ⟨w.heap.size,5,none⟩ Vs).setCell ⟨w.heap.size,6,none⟩ Vs).setCell ⟨w.heap.size,7,none⟩ (.slice (some ⟨w2.heap.size,0,none⟩) 1 1)).setCell ⟨w.heap.size,8,none⟩ (Vi (p0 : Int)))
  rw [hW6]
  have zy:=(nine_of (hW6 ▸ nine_set RR.out (Vi 4) (Vi 0) (Vi 0) (Vi 0) Vs Vs Vs (.slice (some ⟨w2.heap.size,0,none⟩) 1 1) (Vi (p0 : Int)))).1
  have HO : Hid (Only (· = P) w W6):=hW6 ▸ OO.out.nine (Nat.le_refl _) _ _ _ _ _ _ _ _ _
  have HQ:=Hd (hW6 ▸ HH.out.nine hPw (Vi 4) (Vi 0) (Vi 0) (Vi 0) Vs Vs Vs (.slice (some ⟨w2.heap.size,0,none⟩) 1 1) (Vi (p0 : Int)) : PA W6 P _)
  have HX : Hid (XO W6 w.heap.size (over 4 0 p0 [(.mk kk oo (v1,v2,v3) tt nn ks pp)]) (.slice (some ⟨w2.heap.size,0,none⟩) 1 1)):=hW6 ▸ (XO.one HX0.out (fun g hg hl => (nine_off (by have:=HW1.out; omega) (Vi 4) (Vi 0) (Vi 0) (Vi 0) Vs Vs Vs (.slice (some ⟨w2.heap.size,0,none⟩) 1 1) (Vi (p0 : Int))).trans (HBB.out.block g hl)) ((nine_off (by have:=HW1.out; have:=HSZ.out; omega) (Vi 4) (Vi 0) (Vi 0) (Vi 0) Vs Vs Vs (.slice (some ⟨w2.heap.size,0,none⟩) 1 1) (Vi (p0 : Int))).trans RB.out) HSZ.out).mono (Nat.le_of_lt HW1.out)
  clear hW6
  exact bodyPost_ret (v:=exV (over 4 0 p0 [(.mk kk oo (v1,v2,v3) tt nn ks pp)]) (.slice (some ⟨w2.heap.size,0,none⟩) 1 1)) (by simp [results,Tryz.results195,go_sem,exV,exC,over,v0,zy]) rfl (px_ok HV.out HO.out HX.out HQ.out HLN.out)

theorem StrsP.one {w : World} {P b : Nat} {x : ByteArray} {t : TypeId} (h : w.heap[b]? = some (.cells #[.string x] t (0,0))) (hb : P < b) : StrsP w P (some ⟨b,0,none⟩) [x]:=by
 intro i hi
 have : i = 0:=by simp at hi; omega
 subst this
 exact ⟨b,0,rfl,hb,by simp [World.cell?,h]⟩

theorem fact_paren (P : Nat) (s : PS) (w : World) (h : PA w P s) (hI : Below_ s.rest.length P 125 .or) (n1 : s.sees [45] = false) (n2 : s.sees [40] = true) : Calls Tryz.prog 195 #[.pointer (some ⟨P,0,none⟩)] w (PXP .fact P s w):=by
 have HP:=Hd h
 have hPw:=h.lt
 have HSH:=Hd h.shorter
 clear h
 have B0:=Hd n1
 have B1:=Hd n2
 have HI:=Hd hI
 have HG : Hid (∀ n,pX (n + 1) .fact s = bindR (pX n .or s.next) fun e s1 => if s1.sees [41] = true then some (.ok e s1.next) else some (.bad s1.hd.2)):=fun n => by rw [pX,if_neg (by rw [n1]; simp),if_pos n2]
 clear n1 n2 hI
 go_enter Tryz.func195,Tryz.ntmps195
 obtain ⟨p0,hp0⟩:=Vx s.hd.2
 have HAT:=ath P hp0
 have HP0:=Hd hp0
 clear hp0
 have H0 : Hid (PA (w.alloc (.cells Vo 49)) P s):=HP.out.later ((Below.refl _ _).alloc (Nat.le_refl _) _)
 have O0 : Hid (Only (· = P) w (w.alloc (.cells Vo 49))):=(Only.refl _ _).alloc _
 have R0 : Hid ((w.alloc (.cells Vo 49)).heap[w.heap.size]? = some (.cells Vo 49 (0,0))):=heap_alloc_new w _
 go_wp2_with fail
 refine (HAT.out _ H0.out).mono ?_
 rintro e w' ⟨rfl,rfl⟩
 go_wp2_with fail
 refine (skip_any P s ⟨#[45]⟩ _ H0.out).mono ?_
 rintro e w1 ⟨rfl,hp,ho⟩
 rw [show s.sees (⟨#[45]⟩ : ByteArray).data.toList = false from B0.out] at hp ⊢
 rw [if_neg (by decide)] at hp
 have H1:=Hd hp
 have R1:=Hd (ho.at R0.out (by omega))
 have O1:=Hd (O0.out.trans ho)
 clear hp ho H0 R0 O0
 go_wp2_with fail
 refine (skip_any P s ⟨#[40]⟩ _ H1.out).mono ?_
 rintro e w2 ⟨rfl,hp,ho⟩
 rw [show s.sees (⟨#[40]⟩ : ByteArray).data.toList = true from B1.out] at hp ⊢
 rw [if_pos rfl] at hp
 have H2:=Hd hp
 have R2:=Hd (ho.at R1.out (by omega))
 have O2:=Hd (O1.out.trans ho)
 clear hp ho H1 R1 O1
 have HW1 : Hid (w.heap.size < w2.heap.size):=(Gx R2.out)
 go_wp2_with fail
 refine (HI.out s.next _ HSH.out H2.out).mono ?_
 rintro e w3 ⟨r,hr,ho,hm⟩
 have R3:=Hd (ho.at R2.out (by omega))
 have O3:=Hd (O2.out.trans ho)
 have HSZ:=Hd ho.size
 clear ho H2 R2 O2
 cases r with
 | bad p =>
  have HV : Hid (Pr .fact s (.bad p)):=Pr.bad HG.out hr
  rw [hm]
  clear hm hr
  go_wp2
  exact ⟨rfl,px_bad HV.out O3.out⟩
 | ok x s1 =>
  obtain ⟨a,m,c,rfl,hx,hp,hl⟩:=hm
  have HX0:=Hd hx
  have H3:=Hd hp
  have hP3:=hp.lt
  have HLN : Hid (s1.next.rest.length < s.rest.length):=Nat.lt_of_le_of_lt (tail_le s1) (Nat.lt_trans hl HSH.out)
  have HR:=Hd hr
  clear hx hp hl hr
  obtain ⟨kk,oo,⟨v1,v2,v3⟩,tt,nn,ks,pp⟩:=x
  simp only [exV,exC]
  go_wp2_with fail
  obtain ⟨WA,hWA⟩:=Vx (w3.alloc (.cells (Ve kk oo v1 v2 v3 tt nn (.slice a m c) pp) 49))
  rw [hWA]
  have HSA : Hid (WA.heap.size = w3.heap.size + 1):=Hd (hWA ▸ (by simp))
  have HBA : Hid (Below w3.heap.size w3 WA):=hWA ▸ (Below.refl _ _).alloc (Nat.le_refl _) _
  have RA : Hid (WA.heap[w3.heap.size]? = some (.cells (Ve kk oo v1 v2 v3 tt nn (.slice a m c) pp) 49 (0,0))):=hWA ▸ heap_alloc_new w3 _
  clear hWA
  obtain ⟨WB,hWB⟩:=Vx (WA.alloc (.cells #[.string ⟨#[41]⟩] 9))
  rw [hWB]
  have HBB : Hid (Below w3.heap.size w3 WB):=hWB ▸ HBA.out.alloc HBA.out.size _
  have RS : Hid (WB.heap[w3.heap.size + 1]? = some (.cells #[.string ⟨#[41]⟩] 9 (0,0))):=by have:=heap_alloc_new WA (.cells #[.string ⟨#[41]⟩] 9); rw [hWB,HSA.out] at this; exact this
  have RB : Hid (WB.heap[w3.heap.size]? = some (.cells (Ve kk oo v1 v2 v3 tt nn (.slice a m c) pp) 49 (0,0))):=by have:=(alloc_off (w:=WA) (k:=w3.heap.size) (by rw [HSA.out]; omega) (.cells #[.string ⟨#[41]⟩] 9)).trans RA.out; rw [hWB] at this; exact this
  clear hWB RA HBA HSA
  have H4:=Hd (H3.out.later HBB.out)
  have R4:=Hd ((HBB.out.block w.heap.size (Gx R3.out)).trans R3.out)
  have O4:=Hd (O3.out.trans (Only.of HBB.out))
  clear H3 R3 O3
  refine (need_any P s1 (some ⟨w3.heap.size + 1,0,none⟩) [⟨#[41]⟩] 1 WB H4.out (StrsP.one RS.out (by omega)) (by decide)).mono ?_
  rintro e w5 ⟨ho,hm⟩
  have RL:=Hd (ho.at RB.out (by omega))
  have RR:=Hd (ho.at R4.out (by omega))
  have OO:=Hd (O4.out.trans ho)
  have HX1:=Hd ((HX0.out.later HBB.out).only ho (by have:=HW1.out; omega))
  clear ho RB R4 O4 H4 RS HX0
  have hN : needR [⟨#[41]⟩] s1 = if s1.sees [41] = true then .ok () s1.next else .bad s1.hd.2:=rfl
  cases hs : s1.sees [41] with
  | false =>
   rw [hN,if_neg (by rw [hs]; simp)] at hm
   have HV : Hid (Pr .fact s (.bad s1.hd.2)):=Pr.bind HG.out HR.out ⟨0,fun _ _ => by rw [if_neg (by rw [hs]; simp)]⟩
   rw [hm]
   clear hm hN hs
   go_wp2
   exact ⟨rfl,px_bad HV.out OO.out⟩
  | true =>
   rw [hN,if_pos hs] at hm
   have HV : Hid (Pr .fact s (.ok (.mk kk oo (v1,v2,v3) tt nn ks pp) s1.next)):=Pr.bind HG.out HR.out ⟨0,fun _ _ => by rw [if_pos hs]⟩
   obtain ⟨rfl,hp⟩:=hm
   have HH:=Hd hp
   clear hp hN hs
   obtain ⟨⟨n0,n1,n2,n3,n4,n5,n6,n7,n8⟩,f0,f1,f2,f3,f4,f5,f6,f7,f8⟩:=nine_of RR.out
   have zl:=(nine_of RL.out).1
   go_wp2
   obtain ⟨W6,hW6⟩:=Vx (((((((((w5.setCell ⟨w.heap.size,0,none⟩ (Vi kk)).setCell ⟨w.heap.size,1,none⟩ (Vi oo)).setCell ⟨w.heap.size,2,none⟩ (Vi v1)).setCell ⟨w.heap.size,3,none⟩ (Vi v2)).setCell ⟨w.heap.size,4,none⟩ (.string v3)).setCell ⟨w.heap.size,5,none⟩ (.string tt)).setCell ⟨w.heap.size,6,none⟩ (.string nn)).setCell ⟨w.heap.size,7,none⟩ (.slice a m c)).setCell ⟨w.heap.size,8,none⟩ (Vi pp))
   rw [hW6]
   have zy:=(nine_of (hW6 ▸ nine_set RR.out (Vi kk) (Vi oo) (Vi v1) (Vi v2) (.string v3) (.string tt) (.string nn) (.slice a m c) (Vi pp))).1
   have HO : Hid (Only (· = P) w W6):=hW6 ▸ OO.out.nine (Nat.le_refl _) _ _ _ _ _ _ _ _ _
   have HQ:=Hd (hW6 ▸ HH.out.nine hPw (Vi kk) (Vi oo) (Vi v1) (Vi v2) (.string v3) (.string tt) (.string nn) (.slice a m c) (Vi pp) : PA W6 P _)
   have HX : Hid (XO W6 w.heap.size (.mk kk oo (v1,v2,v3) tt nn ks pp) (.slice a m c)):=hW6 ▸ (HX1.out.nine HW1.out (Vi kk) (Vi oo) (Vi v1) (Vi v2) (.string v3) (.string tt) (.string nn) (.slice a m c) (Vi pp)).mono (Nat.le_of_lt HW1.out)
   clear hW6
   exact bodyPost_ret (v:=exV (.mk kk oo (v1,v2,v3) tt nn ks pp) (.slice a m c)) (by simp [results,Tryz.results195,go_sem,exV,exC,zy]) rfl (px_ok HV.out HO.out HX.out HQ.out HLN.out)

theorem fact_step (P : Nat) (s : PS) (w : World) (h : PA w P s) (h1 : Below_ s.rest.length P 195 .fact) (h2 : Below_ s.rest.length P 125 .or) : Calls Tryz.prog 195 #[.pointer (some ⟨P,0,none⟩)] w (PXP .fact P s w):=by
 cases n1 : s.sees [45] with
 | true => exact fact_minus P s w h h1 n1
 | false =>
  cases n2 : s.sees [40] with
  | true => exact fact_paren P s w h h2 n1 n2
  | false =>
   by_cases k3 : s.hd.1.1 = 3
   ·exact fact_col P s w h n1 n2 k3
   ·by_cases k6 : s.hd.1.1 = 6
    ·exact fact_param P s w h n1 n2 k6
    ·exact fact_lit P s w h n1 n2 k3 k6

def restN (w : World) (P : Nat) : Nat:=match w.heap[P]? with
 | some (.cells cs _ _) => match (cs.getD 0 undef : Value) with
  | .slice _ n _ => n
  | _ => 0
 | _ => 0

theorem PA.restN {w : World} {P : Nat} {s : PS} (h : PA w P s) : restN w P = s.rest.length:=by
 obtain ⟨g,off,cap,h1,_⟩:=h.mem
 unfold Go.Proofs.YtbfjmccpcbhljaaGreatDoor.restN
 rw [h1]
 rfl

def XS (w : World) (B b : Nat) (x : Ex) (k : Value) : Prop:=∀ W : World,(∀ g,B ≤ g → g ≠ b → g < w.heap.size → W.heap[g]? = w.heap[g]?) → XO W B x k

theorem XS.out {w : World} {B b : Nat} {x : Ex} {k : Value} (h : XS w B b x k) : XO w B x k:=h w fun _ _ _ _ => rfl

theorem XS.new {w : World} {B b : Nat} {x : Ex} {k : Value} (h : XO w B x k) (hb : w.heap.size ≤ b) : XS w B b x k:=fun W hW => h.keep fun g hg hl => hW g hg (by omega) hl

theorem XS.high {w : World} {B C b : Nat} {x : Ex} {k : Value} (h : XO w C x k) (hb : b < C) (hB : B ≤ C) : XS w B b x k:=fun W hW => (h.keep fun g hg hl => hW g (by omega) (by omega) hl).mono hB

theorem XS.keep {w W : World} {B b : Nat} {x : Ex} {k : Value} (h : XS w B b x k) (hs : w.heap.size ≤ W.heap.size) (hk : ∀ g,B ≤ g → g ≠ b → g < w.heap.size → W.heap[g]? = w.heap[g]?) : XS W B b x k:=fun V hV => h V fun g hg hb hl => (hV g hg hb (by omega)).trans (hk g hg hb hl)

theorem XS.only {w W : World} {P B b : Nat} {x : Ex} {k : Value} (h : XS w B b x k) (ho : Only (· = P) w W) (hP : P < B) : XS W B b x k:=h.keep ho.size fun g hg _ hl => ho.block g hl (fun e => by omega)

theorem XS.below {w W : World} {B b : Nat} {x : Ex} {k : Value} (h : XS w B b x k) (hb : Below w.heap.size w W) : XS W B b x k:=h.keep hb.size fun g _ _ hl => hb.block g hl

theorem XO.two {w : World} {B b : Nat} {x y : Ex} {k l : Value} {kind op : Int} {v : V3} {t n : ByteArray} {p : Int} (hx : XO w B x k) (hy : XO w B y l) (hb : w.heap[b]? = some (.cells (exC x k ++ exC y l).toArray 49 (0,0))) (hB : B ≤ b) : XO w B (.mk kind op v t n [x,y] p) (.slice (some ⟨b,0,none⟩) 2 2):=by
 refine XO.mk [k,l] rfl ?_ ?_
 ·have e : xcs [x,y] [k,l] = exC x k ++ exC y l:=by simp [xcs]
  rw [e]
  obtain ⟨kk,oo,vv,tt,nn,ks,pp⟩:=x
  obtain ⟨kk',oo',vv',tt',nn',ks',pp'⟩:=y
  exact ⟨rfl,Or.inr ⟨b,2,_,rfl,hB,hb,Nat.le_refl _,by unfold maxLen; omega,rfl,rfl⟩⟩
 ·intro i hi hi'
  match i,hi with
  | 0,_ => exact hx
  | 1,_ => exact hy

theorem XS.two {w : World} {B b c : Nat} {x y : Ex} {k l : Value} {kind op : Int} {v : V3} {t n : ByteArray} {p : Int} (hx : XS w B b x k) (hy : XS w B b y l) (hc : w.heap[c]? = some (.cells (exC x k ++ exC y l).toArray 49 (0,0))) (hB : B ≤ c) (hn : c ≠ b) : XS w B b (.mk kind op v t n [x,y] p) (.slice (some ⟨c,0,none⟩) 2 2):=fun W hW => XO.two (hx W hW) (hy W hW) ((hW c hB hn (Gx hc)).trans hc) hB

def Upto_ (n : Nat) (P : Nat) (f : FuncId) (g : Gl) : Prop:=∀ s w,s.rest.length ≤ n → PA w P s → Calls Tryz.prog f #[.pointer (some ⟨P,0,none⟩)] w (PXP g P s w)

theorem left_prod (P : Nat) (s : PS) (w : World) (h : PA w P s) (p : Option Addr) (l : List (ByteArray × Int)) (cap : Nat) (hO : sgl l = prodO) (hl : SgnP w P p l) (hlen : l.length ≤ 100) (hnz : ∀ x ∈ l,x.2 ≠ 0) (hI : Upto_ s.rest.length P 195 .fact) : Calls Tryz.prog 191 #[.pointer (some ⟨P,0,none⟩),.func (.func 195) #[] #[],.slice p l.length cap] w (PXP .prod P s w):=by
 have HP:=Hd h
 have hPw:=h.lt
 have HL:=Hd hl
 have HNZ:=Hd hnz
 have HI:=Hd hI
 have HO:=Hd hO
 have HLN:=Hd hlen
 clear h hl hnz hI hO hlen
 go_enter Tryz.func191,Tryz.ntmps191
 have H0 : Hid (PA (w.alloc (.cells Vo 49)) P s):=HP.out.later ((Below.refl _ _).alloc (Nat.le_refl _) _)
 have O0 : Hid (Only (· = P) w (w.alloc (.cells Vo 49))):=(Only.refl _ _).alloc _
 have R0 : Hid ((w.alloc (.cells Vo 49)).heap[w.heap.size]? = some (.cells Vo 49 (0,0))):=heap_alloc_new w _
 have S0 : Hid ((w.alloc (.cells Vo 49)).heap.size = w.heap.size + 1):=Hd (by simp)
 obtain ⟨W0,hW0⟩:=Vx (w.alloc (.cells Vo 49))
 rw [hW0] at H0 O0 R0 S0
 go_wp2_with fail
 clear hW0
 refine (HI.out s _ (Nat.le_refl _) H0.out).mono ?_
 rintro e w1 ⟨r,hr,ho,hm⟩
 have R1:=Hd (ho.at R0.out (by omega))
 have O1:=Hd (O0.out.trans ho)
 have hsz : w.heap.size + 1 ≤ w1.heap.size:=by have h1:=ho.size; have h2:=S0.out; omega
 clear ho H0 R0 O0
 cases r with
 | bad p =>
  have HV : Hid (Pr .prod s (.bad p)):=Pr.bad (fun n => by rw [pX]) hr
  rw [hm]
  clear hm hr
  go_wp2
  exact ⟨rfl,px_bad HV.out O1.out⟩
 | ok x s1 =>
  obtain ⟨a,m,c,rfl,hx,hp,hlt⟩:=hm
  have HG : Hid (∀ r,Pr (.prodL x) s1 r → Pr .prod s r):=fun r h => by
   obtain ⟨n,hn⟩:=h
   exact Pr.bind (fun n => by rw [pX]) hr ⟨n,fun k hk => pX_le hk hn⟩
  rw [S0.out] at hx
  have HX:=Hd (XS.new hx (Nat.le_refl _))
  have H1:=Hd hp
  have HLT:=Hd hlt
  clear hx hp hlt hr
  obtain ⟨kk,oo,⟨v1,v2,v3⟩,tt,nn,ks,pp⟩:=x
  simp only [exV,exC]
  go_wp2_with fail
  obtain ⟨WA,hWA⟩:=Vx (w1.alloc (.cells (Ve kk oo v1 v2 v3 tt nn (.slice a m c) pp) 49))
  rw [hWA]
  have HBA : Hid (Below w1.heap.size w1 WA):=hWA ▸ (Below.refl _ _).alloc (Nat.le_refl _) _
  have RA : Hid (WA.heap[w1.heap.size]? = some (.cells (Ve kk oo v1 v2 v3 tt nn (.slice a m c) pp) 49 (0,0))):=hWA ▸ heap_alloc_new w1 _
  clear hWA
  go_loopw [9] (fun _ wr => ∃ (x : Ex) (s1 : PS) (a : Option Addr) (m c : Nat),PA wr P s1 ∧ s1.rest.length < s.rest.length ∧ Only (· = P) w wr ∧ w1.heap.size < wr.heap.size ∧ wr.heap[w.heap.size]? = some (.cells Vo 49 (0,0)) ∧ wr.heap[w1.heap.size]? = some (.cells (exC x (.slice a m c)).toArray 49 (0,0)) ∧ XS wr (w.heap.size + 1) w1.heap.size x (.slice a m c) ∧ ∀ r,Pr (.prodL x) s1 r → Pr .prod s r) (fun _ wr => restN wr P)
  case atStart => exact ⟨(.mk kk oo (v1,v2,v3) tt nn ks pp),s1,a,m,c,H1.out.later HBA.out,HLT.out,O1.out.trans (Only.of HBA.out),(Gx RA.out),(HBA.out.block _ (Gx R1.out)).trans R1.out,RA.out,HX.out.below HBA.out,HG.out⟩
  case round =>
   clear HX H1 HLT HG HBA RA R1 O1 S0
   obtain ⟨x,s1,a,m,c,hp,hlt,ho,hsw,hr0,hr7,hx,hg⟩:=hrel
   have HX:=Hd hx
   have H1:=Hd hp
   have HLT:=Hd hlt
   have HG:=Hd hg
   have O1:=Hd ho
   have R1:=Hd hr0
   have R7:=Hd hr7
   have HRN:=Hd hp.restN
   clear hx hp hlt hg ho hr0 hr7
   obtain ⟨kk,oo,⟨v1,v2,v3⟩,tt,nn,ks,pp⟩:=x
   simp only [exC] at R7
   obtain ⟨p0,hp0⟩:=Vx s1.hd.2
   have HAT:=ath P hp0
   have HP0:=Hd hp0
   clear hp0
   have hop:=operation_any P s1 p l cap
   unfold OpP at hop
   rw [HO.out] at hop
   have HOP:=Hd hop
   clear hop
   go_wp2_with fail
   refine (HAT.out _ H1.out).mono ?_
   rintro e w' ⟨rfl,rfl⟩
   go_wp2_with fail
   refine (HOP.out _ H1.out (HL.out.only O1.out) HLN.out HNZ.out).mono ?_
   rintro e w2 ⟨rfl,hp,ho⟩
   have R2:=Hd (ho.at R1.out (by omega))
   have R8:=Hd (ho.at R7.out (by omega))
   have O2:=Hd (O1.out.trans ho)
   have HX2:=Hd (HX.out.only ho (by omega))
   have hsw2 : w1.heap.size < w2.heap.size:=Nat.lt_of_lt_of_le hsw ho.size
   clear ho R1 R7 O1 HX HOP HAT
   by_cases hz : opOf s1 prodO = 0
   ·rw [hz] at hp ⊢
    rw [if_pos rfl] at hp
    have HH:=Hd hp
    have HV : Hid (Pr .prod s (.ok (.mk kk oo (v1,v2,v3) tt nn ks pp) s1)):=HG.out _ ⟨1,by rw [pX,if_pos hz]⟩
    clear hp hz
    have RR:=R2
    have OO:=O2
    have zn:=nine_of RR.out
    have zl:=(nine_of R8.out).1
    go_wp2
    obtain ⟨W6,hW6⟩:=Vx (((((((((w2.setCell ⟨w.heap.size,0,none⟩ (Vi kk)).setCell ⟨w.heap.size,1,none⟩ (Vi oo)).setCell ⟨w.heap.size,2,none⟩ (Vi v1)).setCell ⟨w.heap.size,3,none⟩ (Vi v2)).setCell ⟨w.heap.size,4,none⟩ (.string v3)).setCell ⟨w.heap.size,5,none⟩ (.string tt)).setCell ⟨w.heap.size,6,none⟩ (.string nn)).setCell ⟨w.heap.size,7,none⟩ (.slice a m c)).setCell ⟨w.heap.size,8,none⟩ (Vi pp))
    rw [hW6]
    have zy:=(nine_of (hW6 ▸ nine_set RR.out (Vi kk) (Vi oo) (Vi v1) (Vi v2) (.string v3) (.string tt) (.string nn) (.slice a m c) (Vi pp))).1
    have HOO : Hid (Only (· = P) w W6):=hW6 ▸ OO.out.nine (Nat.le_refl _) (Vi kk) (Vi oo) (Vi v1) (Vi v2) (.string v3) (.string tt) (.string nn) (.slice a m c) (Vi pp)
    have HQ:=Hd (hW6 ▸ HH.out.nine hPw (Vi kk) (Vi oo) (Vi v1) (Vi v2) (.string v3) (.string tt) (.string nn) (.slice a m c) (Vi pp) : PA W6 P _)
    have HX6 : Hid (XO W6 w.heap.size (.mk kk oo (v1,v2,v3) tt nn ks pp) (.slice a m c)):=hW6 ▸ (HX2.out.out.nine (Nat.lt_succ_self _) (Vi kk) (Vi oo) (Vi v1) (Vi v2) (.string v3) (.string tt) (.string nn) (.slice a m c) (Vi pp)).mono (Nat.le_succ _)
    clear hW6
    exact bodyPost_ret (v:=exV (.mk kk oo (v1,v2,v3) tt nn ks pp) (.slice a m c)) (by simp [results,Tryz.results191,go_sem,exV,exC,zy]) rfl (px_ok HV.out HOO.out HX6.out HQ.out HLT.out)
   ·rw [if_neg hz] at hp
    have H2:=Hd hp
    have HSL : Hid (s1.next.rest.length < s1.rest.length):=Hd (by have h1:=hp.wf.ne; have h2 : s1.rest ≠ []:=fun e => h1 (by show s1.rest.tail = []; rw [e]; rfl); have h3:=List.length_pos_iff.2 h2; show s1.rest.tail.length < _; simp; omega)
    have HGB : Hid (∀ n,pX (n + 1) (.prodL (.mk kk oo (v1,v2,v3) tt nn ks pp)) s1 = bindR (pX n .fact s1.next) fun r s2 => pX n (.prodL (over 5 (opOf s1 prodO) s1.hd.2 [(.mk kk oo (v1,v2,v3) tt nn ks pp),r])) s2):=fun n => by rw [pX,if_neg hz]
    obtain ⟨z,hzz⟩:=Vx (opOf s1 prodO)
    rw [hzz] at hz HGB ⊢
    rw [HP0.out] at HGB
    have hze : (z == 0) = false:=by simpa using hz
    clear hp hz hzz
    have zn:=nine_of R8.out
    go_wp2
    obtain ⟨r,hr⟩ : ∃ r,Pr .fact s1.next r:=by
     obtain ⟨e,w9,fr,⟨r,hr,_⟩,-⟩:=HI.out s1.next w2 (by have h1:=HLT.out; have h2:=HSL.out; omega) H2.out []
     exact ⟨r,hr⟩
    cases r with
    | bad p =>
     have HC : Hid (∀ W,PA W P s1.next → Calls Tryz.prog 195 #[.pointer (some ⟨P,0,none⟩)] W fun e w' => e = .panicked (wrongV 110 p) ∧ Only (· = P) W w'):=fun W hW => (HI.out s1.next W (by have h1:=HLT.out; have h2:=HSL.out; omega) hW).mono fun e w' ⟨r',hr',ho,hm⟩ => by
      obtain rfl:=Pr.one hr hr'
      exact ⟨hm,ho⟩
     have HV : Hid (Pr .prod s (.bad p)):=HG.out _ (Pr.bad HGB.out hr)
     clear hr
     go_region_dies
     all_goals (refine (HC.out _ (H2.out.later (below_draws _ _))).mono ?_; rintro e w3 ⟨rfl,ho⟩; exact ⟨rfl,px_bad HV.out (O2.out.trans ((Only.of (below_draws _ _)).trans ho))⟩)
    | ok y s2 =>
     have HC : Hid (∀ W,PA W P s1.next → Calls Tryz.prog 195 #[.pointer (some ⟨P,0,none⟩)] W fun e w' => ∃ a m c,e = .returned (exV y (.slice a m c)) ∧ XO w' W.heap.size y (.slice a m c) ∧ PA w' P s2 ∧ s2.rest.length < s1.next.rest.length ∧ Only (· = P) W w'):=fun W hW => (HI.out s1.next W (by have h1:=HLT.out; have h2:=HSL.out; omega) hW).mono fun e w' ⟨r',hr',ho,hm⟩ => by
      obtain rfl:=Pr.one hr hr'
      obtain ⟨a,m,c,e1,e2,e3,e4⟩:=hm
      exact ⟨a,m,c,e1,e2,e3,e4,ho⟩
     have HGO : Hid (∀ r,Pr (.prodL (over 5 z p0 [(.mk kk oo (v1,v2,v3) tt nn ks pp),y])) s2 r → Pr .prod s r):=fun r h => by
      obtain ⟨n,hn⟩:=h
      exact HG.out _ (Pr.bind HGB.out hr ⟨n,fun k hk => pX_le hk hn⟩)
     clear hr
     obtain ⟨kk2,oo2,⟨u1,u2,u3⟩,tt2,nn2,ks2,pp2⟩:=y
     simp only [exV,exC] at HC
     go_region_law (first
      | (go_simp; go_at_call 195; refine (HC.out _ (H2.out.later (below_draws _ _))).mono ?_; rintro e w3 ⟨a2,m2,c2,rfl,hx,hp,hlt,ho⟩; have R3:=Hd (ho.at (((below_draws _ _).block _ (Gx R8.out)).trans R8.out) (by omega)); have HY:=Hd hx; have H3:=Hd hp; have HL3:=Hd hlt; have HO3:=Hd ((Only.of (below_draws _ _)).trans ho); clear hx hp hlt ho; obtain ⟨⟨b0,b1,b2,b3,b4,b5,b6,b7,b8⟩,-⟩:=nine_of R3.out)
      | (go_simp; go_at_call 166; refine (over_any 5 z p0 _ 2 2 [(.mk kk oo (v1,v2,v3) tt nn ks pp),(.mk kk2 oo2 (u1,u2,u3) tt2 nn2 ks2 pp2)] _).mono ?_; rintro e w4 ⟨rfl,hb⟩; have HB4:=Hd hb; have R4:=Hd ((hb.block w1.heap.size (by have:=(Gx R3.out); simp; omega)).trans ((alloc_off (Gx R3.out) _).trans R3.out)); clear hb; obtain ⟨⟨t0,t1,t2,t3,t4,t5,t6,t7,t8⟩,g0,g1,g2,g3,g4,g5,g6,g7,g8⟩:=nine_of R4.out; simp only [over,exV,exC,v0]))
     all_goals
      have HB5 : Hid (Below w3.heap.size w3 w4):=((Below.refl _ _).alloc (Nat.le_refl _) _).trans (HB4.out.mono (by simp))
      have RN : Hid (w4.heap[w3.heap.size]? = some (.cells (exC (.mk kk oo (v1,v2,v3) tt nn ks pp) (.slice a m c) ++ exC (.mk kk2 oo2 (u1,u2,u3) tt2 nn2 ks2 pp2) (.slice a2 m2 c2)).toArray 49 (0,0))):=(HB4.out.block _ (by simp)).trans (heap_alloc_new w3 _)
      have hs3 : w1.heap.size < w3.heap.size:=(Gx R3.out)
      have HXX:=Hd ((HX2.out.only HO3.out (by omega)).below HB5.out)
      have HYY:=Hd ((XS.high (B:=w.heap.size + 1) (b:=w1.heap.size) HY.out (Nat.lt_of_lt_of_le hsw2 (below_draws _ _).size) (Nat.le_trans (Nat.le_trans hsz (Nat.le_of_lt hsw2)) (below_draws _ _).size)).below HB5.out)
      obtain ⟨W6,hW6⟩:=Vx (((((((((w4.setCell ⟨w1.heap.size,0,none⟩ (Vi 5)).setCell ⟨w1.heap.size,1,none⟩ (Vi z)).setCell ⟨w1.heap.size,2,none⟩ (Vi 0)).setCell ⟨w1.heap.size,3,none⟩ (Vi 0)).setCell ⟨w1.heap.size,4,none⟩ Vs).setCell ⟨w1.heap.size,5,none⟩ Vs).setCell ⟨w1.heap.size,6,none⟩ Vs).setCell ⟨w1.heap.size,7,none⟩ (.slice (some ⟨w3.heap.size,0,none⟩) 2 2)).setCell ⟨w1.heap.size,8,none⟩ (Vi (p0 : Int)))
      rw [hW6]
      have R6 : Hid (W6.heap[w1.heap.size]? = some (.cells (exC (over 5 z p0 [(.mk kk oo (v1,v2,v3) tt nn ks pp),(.mk kk2 oo2 (u1,u2,u3) tt2 nn2 ks2 pp2)]) (.slice (some ⟨w3.heap.size,0,none⟩) 2 2)).toArray 49 (0,0))):=hW6 ▸ nine_set R4.out (Vi 5) (Vi z) (Vi 0) (Vi 0) Vs Vs Vs (.slice (some ⟨w3.heap.size,0,none⟩) 2 2) (Vi (p0 : Int))
      have O6 : Hid (Only (· = P) w W6):=hW6 ▸ ((O2.out.trans HO3.out).trans (Only.of HB5.out)).nine (by omega) (Vi 5) (Vi z) (Vi 0) (Vi 0) Vs Vs Vs (.slice (some ⟨w3.heap.size,0,none⟩) 2 2) (Vi (p0 : Int))
      have H6 : Hid (PA W6 P s2):=hW6 ▸ (H3.out.later HB5.out).nine (by omega) (Vi 5) (Vi z) (Vi 0) (Vi 0) Vs Vs Vs (.slice (some ⟨w3.heap.size,0,none⟩) 2 2) (Vi (p0 : Int))
      have K6 : Hid (∀ g,g ≠ w1.heap.size → W6.heap[g]? = w4.heap[g]?):=hW6 ▸ fun g hg => nine_off hg (Vi 5) (Vi z) (Vi 0) (Vi 0) Vs Vs Vs (.slice (some ⟨w3.heap.size,0,none⟩) 2 2) (Vi (p0 : Int))
      have S6 : Hid (W6.heap.size = w4.heap.size):=Hd (hW6 ▸ (by simp))
      clear hW6
      have R0 : Hid (W6.heap[w.heap.size]? = some (.cells Vo 49 (0,0))):=(K6.out _ (by omega)).trans ((HB5.out.block _ (by omega)).trans (HO3.out.at R2.out (by omega)))
      have X6 : Hid (XS W6 (w.heap.size + 1) w1.heap.size (over 5 z p0 [(.mk kk oo (v1,v2,v3) tt nn ks pp),(.mk kk2 oo2 (u1,u2,u3) tt2 nn2 ks2 pp2)]) (.slice (some ⟨w3.heap.size,0,none⟩) 2 2)):=XS.two (HXX.out.keep (Nat.le_of_eq S6.out.symm) fun g _ hg _ => K6.out g hg) (HYY.out.keep (Nat.le_of_eq S6.out.symm) fun g _ hg _ => K6.out g hg) ((K6.out _ (by omega)).trans RN.out) (by omega) (by omega)
      go_wp2
      go_roundw
      case rel => exact ⟨_,s2,_,_,_,H6.out,by have h1:=HLT.out; have h2:=HSL.out; have h3:=HL3.out; omega,O6.out,(Gx R6.out),R0.out,R6.out,X6.out,HGO.out⟩
      case measure => rw [H6.out.restN,HRN.out]; have h2:=HSL.out; have h3:=HL3.out; omega

theorem left_sum (P : Nat) (s : PS) (w : World) (h : PA w P s) (p : Option Addr) (l : List (ByteArray × Int)) (cap : Nat) (hO : sgl l = sumO) (hl : SgnP w P p l) (hlen : l.length ≤ 100) (hnz : ∀ x ∈ l,x.2 ≠ 0) (hI : Upto_ s.rest.length P 192 .prod) : Calls Tryz.prog 191 #[.pointer (some ⟨P,0,none⟩),.func (.func 192) #[] #[],.slice p l.length cap] w (PXP .sum P s w):=by
 have HP:=Hd h
 have hPw:=h.lt
 have HL:=Hd hl
 have HNZ:=Hd hnz
 have HI:=Hd hI
 have HO:=Hd hO
 have HLN:=Hd hlen
 clear h hl hnz hI hO hlen
 go_enter Tryz.func191,Tryz.ntmps191
 have H0 : Hid (PA (w.alloc (.cells Vo 49)) P s):=HP.out.later ((Below.refl _ _).alloc (Nat.le_refl _) _)
 have O0 : Hid (Only (· = P) w (w.alloc (.cells Vo 49))):=(Only.refl _ _).alloc _
 have R0 : Hid ((w.alloc (.cells Vo 49)).heap[w.heap.size]? = some (.cells Vo 49 (0,0))):=heap_alloc_new w _
 have S0 : Hid ((w.alloc (.cells Vo 49)).heap.size = w.heap.size + 1):=Hd (by simp)
 obtain ⟨W0,hW0⟩:=Vx (w.alloc (.cells Vo 49))
 rw [hW0] at H0 O0 R0 S0
 go_wp2_with fail
 clear hW0
 refine (HI.out s _ (Nat.le_refl _) H0.out).mono ?_
 rintro e w1 ⟨r,hr,ho,hm⟩
 have R1:=Hd (ho.at R0.out (by omega))
 have O1:=Hd (O0.out.trans ho)
 have hsz : w.heap.size + 1 ≤ w1.heap.size:=by have h1:=ho.size; have h2:=S0.out; omega
 clear ho H0 R0 O0
 cases r with
 | bad p =>
  have HV : Hid (Pr .sum s (.bad p)):=Pr.bad (fun n => by rw [pX]) hr
  rw [hm]
  clear hm hr
  go_wp2
  exact ⟨rfl,px_bad HV.out O1.out⟩
 | ok x s1 =>
  obtain ⟨a,m,c,rfl,hx,hp,hlt⟩:=hm
  have HG : Hid (∀ r,Pr (.sumL x) s1 r → Pr .sum s r):=fun r h => by
   obtain ⟨n,hn⟩:=h
   exact Pr.bind (fun n => by rw [pX]) hr ⟨n,fun k hk => pX_le hk hn⟩
  rw [S0.out] at hx
  have HX:=Hd (XS.new hx (Nat.le_refl _))
  have H1:=Hd hp
  have HLT:=Hd hlt
  clear hx hp hlt hr
  obtain ⟨kk,oo,⟨v1,v2,v3⟩,tt,nn,ks,pp⟩:=x
  simp only [exV,exC]
  go_wp2_with fail
  obtain ⟨WA,hWA⟩:=Vx (w1.alloc (.cells (Ve kk oo v1 v2 v3 tt nn (.slice a m c) pp) 49))
  rw [hWA]
  have HBA : Hid (Below w1.heap.size w1 WA):=hWA ▸ (Below.refl _ _).alloc (Nat.le_refl _) _
  have RA : Hid (WA.heap[w1.heap.size]? = some (.cells (Ve kk oo v1 v2 v3 tt nn (.slice a m c) pp) 49 (0,0))):=hWA ▸ heap_alloc_new w1 _
  clear hWA
  go_loopw [9] (fun _ wr => ∃ (x : Ex) (s1 : PS) (a : Option Addr) (m c : Nat),PA wr P s1 ∧ s1.rest.length < s.rest.length ∧ Only (· = P) w wr ∧ w1.heap.size < wr.heap.size ∧ wr.heap[w.heap.size]? = some (.cells Vo 49 (0,0)) ∧ wr.heap[w1.heap.size]? = some (.cells (exC x (.slice a m c)).toArray 49 (0,0)) ∧ XS wr (w.heap.size + 1) w1.heap.size x (.slice a m c) ∧ ∀ r,Pr (.sumL x) s1 r → Pr .sum s r) (fun _ wr => restN wr P)
  case atStart => exact ⟨(.mk kk oo (v1,v2,v3) tt nn ks pp),s1,a,m,c,H1.out.later HBA.out,HLT.out,O1.out.trans (Only.of HBA.out),(Gx RA.out),(HBA.out.block _ (Gx R1.out)).trans R1.out,RA.out,HX.out.below HBA.out,HG.out⟩
  case round =>
   clear HX H1 HLT HG HBA RA R1 O1 S0
   obtain ⟨x,s1,a,m,c,hp,hlt,ho,hsw,hr0,hr7,hx,hg⟩:=hrel
   have HX:=Hd hx
   have H1:=Hd hp
   have HLT:=Hd hlt
   have HG:=Hd hg
   have O1:=Hd ho
   have R1:=Hd hr0
   have R7:=Hd hr7
   have HRN:=Hd hp.restN
   clear hx hp hlt hg ho hr0 hr7
   obtain ⟨kk,oo,⟨v1,v2,v3⟩,tt,nn,ks,pp⟩:=x
   simp only [exC] at R7
   obtain ⟨p0,hp0⟩:=Vx s1.hd.2
   have HAT:=ath P hp0
   have HP0:=Hd hp0
   clear hp0
   have hop:=operation_any P s1 p l cap
   unfold OpP at hop
   rw [HO.out] at hop
   have HOP:=Hd hop
   clear hop
   go_wp2_with fail
   refine (HAT.out _ H1.out).mono ?_
   rintro e w' ⟨rfl,rfl⟩
   go_wp2_with fail
   refine (HOP.out _ H1.out (HL.out.only O1.out) HLN.out HNZ.out).mono ?_
   rintro e w2 ⟨rfl,hp,ho⟩
   have R2:=Hd (ho.at R1.out (by omega))
   have R8:=Hd (ho.at R7.out (by omega))
   have O2:=Hd (O1.out.trans ho)
   have HX2:=Hd (HX.out.only ho (by omega))
   have hsw2 : w1.heap.size < w2.heap.size:=Nat.lt_of_lt_of_le hsw ho.size
   clear ho R1 R7 O1 HX HOP HAT
   by_cases hz : opOf s1 sumO = 0
   ·rw [hz] at hp ⊢
    rw [if_pos rfl] at hp
    have HH:=Hd hp
    have HV : Hid (Pr .sum s (.ok (.mk kk oo (v1,v2,v3) tt nn ks pp) s1)):=HG.out _ ⟨1,by rw [pX,if_pos hz]⟩
    clear hp hz
    have RR:=R2
    have OO:=O2
    have zn:=nine_of RR.out
    have zl:=(nine_of R8.out).1
    go_wp2
    obtain ⟨W6,hW6⟩:=Vx (((((((((w2.setCell ⟨w.heap.size,0,none⟩ (Vi kk)).setCell ⟨w.heap.size,1,none⟩ (Vi oo)).setCell ⟨w.heap.size,2,none⟩ (Vi v1)).setCell ⟨w.heap.size,3,none⟩ (Vi v2)).setCell ⟨w.heap.size,4,none⟩ (.string v3)).setCell ⟨w.heap.size,5,none⟩ (.string tt)).setCell ⟨w.heap.size,6,none⟩ (.string nn)).setCell ⟨w.heap.size,7,none⟩ (.slice a m c)).setCell ⟨w.heap.size,8,none⟩ (Vi pp))
    rw [hW6]
    have zy:=(nine_of (hW6 ▸ nine_set RR.out (Vi kk) (Vi oo) (Vi v1) (Vi v2) (.string v3) (.string tt) (.string nn) (.slice a m c) (Vi pp))).1
    have HOO : Hid (Only (· = P) w W6):=hW6 ▸ OO.out.nine (Nat.le_refl _) (Vi kk) (Vi oo) (Vi v1) (Vi v2) (.string v3) (.string tt) (.string nn) (.slice a m c) (Vi pp)
    have HQ:=Hd (hW6 ▸ HH.out.nine hPw (Vi kk) (Vi oo) (Vi v1) (Vi v2) (.string v3) (.string tt) (.string nn) (.slice a m c) (Vi pp) : PA W6 P _)
    have HX6 : Hid (XO W6 w.heap.size (.mk kk oo (v1,v2,v3) tt nn ks pp) (.slice a m c)):=hW6 ▸ (HX2.out.out.nine (Nat.lt_succ_self _) (Vi kk) (Vi oo) (Vi v1) (Vi v2) (.string v3) (.string tt) (.string nn) (.slice a m c) (Vi pp)).mono (Nat.le_succ _)
    clear hW6
    exact bodyPost_ret (v:=exV (.mk kk oo (v1,v2,v3) tt nn ks pp) (.slice a m c)) (by simp [results,Tryz.results191,go_sem,exV,exC,zy]) rfl (px_ok HV.out HOO.out HX6.out HQ.out HLT.out)
   ·rw [if_neg hz] at hp
    have H2:=Hd hp
    have HSL : Hid (s1.next.rest.length < s1.rest.length):=Hd (by have h1:=hp.wf.ne; have h2 : s1.rest ≠ []:=fun e => h1 (by show s1.rest.tail = []; rw [e]; rfl); have h3:=List.length_pos_iff.2 h2; show s1.rest.tail.length < _; simp; omega)
    have HGB : Hid (∀ n,pX (n + 1) (.sumL (.mk kk oo (v1,v2,v3) tt nn ks pp)) s1 = bindR (pX n .prod s1.next) fun r s2 => pX n (.sumL (over 5 (opOf s1 sumO) s1.hd.2 [(.mk kk oo (v1,v2,v3) tt nn ks pp),r])) s2):=fun n => by rw [pX,if_neg hz]
    obtain ⟨z,hzz⟩:=Vx (opOf s1 sumO)
    rw [hzz] at hz HGB ⊢
    rw [HP0.out] at HGB
    have hze : (z == 0) = false:=by simpa using hz
    clear hp hz hzz
    have zn:=nine_of R8.out
    go_wp2
    obtain ⟨r,hr⟩ : ∃ r,Pr .prod s1.next r:=by
     obtain ⟨e,w9,fr,⟨r,hr,_⟩,-⟩:=HI.out s1.next w2 (by have h1:=HLT.out; have h2:=HSL.out; omega) H2.out []
     exact ⟨r,hr⟩
    cases r with
    | bad p =>
     have HC : Hid (∀ W,PA W P s1.next → Calls Tryz.prog 192 #[.pointer (some ⟨P,0,none⟩)] W fun e w' => e = .panicked (wrongV 110 p) ∧ Only (· = P) W w'):=fun W hW => (HI.out s1.next W (by have h1:=HLT.out; have h2:=HSL.out; omega) hW).mono fun e w' ⟨r',hr',ho,hm⟩ => by
      obtain rfl:=Pr.one hr hr'
      exact ⟨hm,ho⟩
     have HV : Hid (Pr .sum s (.bad p)):=HG.out _ (Pr.bad HGB.out hr)
     clear hr
     go_region_dies
     all_goals (refine (HC.out _ (H2.out.later (below_draws _ _))).mono ?_; rintro e w3 ⟨rfl,ho⟩; exact ⟨rfl,px_bad HV.out (O2.out.trans ((Only.of (below_draws _ _)).trans ho))⟩)
    | ok y s2 =>
     have HC : Hid (∀ W,PA W P s1.next → Calls Tryz.prog 192 #[.pointer (some ⟨P,0,none⟩)] W fun e w' => ∃ a m c,e = .returned (exV y (.slice a m c)) ∧ XO w' W.heap.size y (.slice a m c) ∧ PA w' P s2 ∧ s2.rest.length < s1.next.rest.length ∧ Only (· = P) W w'):=fun W hW => (HI.out s1.next W (by have h1:=HLT.out; have h2:=HSL.out; omega) hW).mono fun e w' ⟨r',hr',ho,hm⟩ => by
      obtain rfl:=Pr.one hr hr'
      obtain ⟨a,m,c,e1,e2,e3,e4⟩:=hm
      exact ⟨a,m,c,e1,e2,e3,e4,ho⟩
     have HGO : Hid (∀ r,Pr (.sumL (over 5 z p0 [(.mk kk oo (v1,v2,v3) tt nn ks pp),y])) s2 r → Pr .sum s r):=fun r h => by
      obtain ⟨n,hn⟩:=h
      exact HG.out _ (Pr.bind HGB.out hr ⟨n,fun k hk => pX_le hk hn⟩)
     clear hr
     obtain ⟨kk2,oo2,⟨u1,u2,u3⟩,tt2,nn2,ks2,pp2⟩:=y
     simp only [exV,exC] at HC
     go_region_law (first
      | (go_simp; go_at_call 192; refine (HC.out _ (H2.out.later (below_draws _ _))).mono ?_; rintro e w3 ⟨a2,m2,c2,rfl,hx,hp,hlt,ho⟩; have R3:=Hd (ho.at (((below_draws _ _).block _ (Gx R8.out)).trans R8.out) (by omega)); have HY:=Hd hx; have H3:=Hd hp; have HL3:=Hd hlt; have HO3:=Hd ((Only.of (below_draws _ _)).trans ho); clear hx hp hlt ho; obtain ⟨⟨b0,b1,b2,b3,b4,b5,b6,b7,b8⟩,-⟩:=nine_of R3.out)
      | (go_simp; go_at_call 166; refine (over_any 5 z p0 _ 2 2 [(.mk kk oo (v1,v2,v3) tt nn ks pp),(.mk kk2 oo2 (u1,u2,u3) tt2 nn2 ks2 pp2)] _).mono ?_; rintro e w4 ⟨rfl,hb⟩; have HB4:=Hd hb; have R4:=Hd ((hb.block w1.heap.size (by have:=(Gx R3.out); simp; omega)).trans ((alloc_off (Gx R3.out) _).trans R3.out)); clear hb; obtain ⟨⟨t0,t1,t2,t3,t4,t5,t6,t7,t8⟩,g0,g1,g2,g3,g4,g5,g6,g7,g8⟩:=nine_of R4.out; simp only [over,exV,exC,v0]))
     all_goals
      have HB5 : Hid (Below w3.heap.size w3 w4):=((Below.refl _ _).alloc (Nat.le_refl _) _).trans (HB4.out.mono (by simp))
      have RN : Hid (w4.heap[w3.heap.size]? = some (.cells (exC (.mk kk oo (v1,v2,v3) tt nn ks pp) (.slice a m c) ++ exC (.mk kk2 oo2 (u1,u2,u3) tt2 nn2 ks2 pp2) (.slice a2 m2 c2)).toArray 49 (0,0))):=(HB4.out.block _ (by simp)).trans (heap_alloc_new w3 _)
      have hs3 : w1.heap.size < w3.heap.size:=(Gx R3.out)
      have HXX:=Hd ((HX2.out.only HO3.out (by omega)).below HB5.out)
      have HYY:=Hd ((XS.high (B:=w.heap.size + 1) (b:=w1.heap.size) HY.out (Nat.lt_of_lt_of_le hsw2 (below_draws _ _).size) (Nat.le_trans (Nat.le_trans hsz (Nat.le_of_lt hsw2)) (below_draws _ _).size)).below HB5.out)
      obtain ⟨W6,hW6⟩:=Vx (((((((((w4.setCell ⟨w1.heap.size,0,none⟩ (Vi 5)).setCell ⟨w1.heap.size,1,none⟩ (Vi z)).setCell ⟨w1.heap.size,2,none⟩ (Vi 0)).setCell ⟨w1.heap.size,3,none⟩ (Vi 0)).setCell ⟨w1.heap.size,4,none⟩ Vs).setCell ⟨w1.heap.size,5,none⟩ Vs).setCell ⟨w1.heap.size,6,none⟩ Vs).setCell ⟨w1.heap.size,7,none⟩ (.slice (some ⟨w3.heap.size,0,none⟩) 2 2)).setCell ⟨w1.heap.size,8,none⟩ (Vi (p0 : Int)))
      rw [hW6]
      have R6 : Hid (W6.heap[w1.heap.size]? = some (.cells (exC (over 5 z p0 [(.mk kk oo (v1,v2,v3) tt nn ks pp),(.mk kk2 oo2 (u1,u2,u3) tt2 nn2 ks2 pp2)]) (.slice (some ⟨w3.heap.size,0,none⟩) 2 2)).toArray 49 (0,0))):=hW6 ▸ nine_set R4.out (Vi 5) (Vi z) (Vi 0) (Vi 0) Vs Vs Vs (.slice (some ⟨w3.heap.size,0,none⟩) 2 2) (Vi (p0 : Int))
      have O6 : Hid (Only (· = P) w W6):=hW6 ▸ ((O2.out.trans HO3.out).trans (Only.of HB5.out)).nine (by omega) (Vi 5) (Vi z) (Vi 0) (Vi 0) Vs Vs Vs (.slice (some ⟨w3.heap.size,0,none⟩) 2 2) (Vi (p0 : Int))
      have H6 : Hid (PA W6 P s2):=hW6 ▸ (H3.out.later HB5.out).nine (by omega) (Vi 5) (Vi z) (Vi 0) (Vi 0) Vs Vs Vs (.slice (some ⟨w3.heap.size,0,none⟩) 2 2) (Vi (p0 : Int))
      have K6 : Hid (∀ g,g ≠ w1.heap.size → W6.heap[g]? = w4.heap[g]?):=hW6 ▸ fun g hg => nine_off hg (Vi 5) (Vi z) (Vi 0) (Vi 0) Vs Vs Vs (.slice (some ⟨w3.heap.size,0,none⟩) 2 2) (Vi (p0 : Int))
      have S6 : Hid (W6.heap.size = w4.heap.size):=Hd (hW6 ▸ (by simp))
      clear hW6
      have R0 : Hid (W6.heap[w.heap.size]? = some (.cells Vo 49 (0,0))):=(K6.out _ (by omega)).trans ((HB5.out.block _ (by omega)).trans (HO3.out.at R2.out (by omega)))
      have X6 : Hid (XS W6 (w.heap.size + 1) w1.heap.size (over 5 z p0 [(.mk kk oo (v1,v2,v3) tt nn ks pp),(.mk kk2 oo2 (u1,u2,u3) tt2 nn2 ks2 pp2)]) (.slice (some ⟨w3.heap.size,0,none⟩) 2 2)):=XS.two (HXX.out.keep (Nat.le_of_eq S6.out.symm) fun g _ hg _ => K6.out g hg) (HYY.out.keep (Nat.le_of_eq S6.out.symm) fun g _ hg _ => K6.out g hg) ((K6.out _ (by omega)).trans RN.out) (by omega) (by omega)
      go_wp2
      go_roundw
      case rel => exact ⟨_,s2,_,_,_,H6.out,by have h1:=HLT.out; have h2:=HSL.out; have h3:=HL3.out; omega,O6.out,(Gx R6.out),R0.out,R6.out,X6.out,HGO.out⟩
      case measure => rw [H6.out.restN,HRN.out]; have h2:=HSL.out; have h3:=HL3.out; omega

theorem SgnP.three {w : World} {P b : Nat} {x y z : ByteArray} {i j k : Int} {t : TypeId} (h : w.heap[b]? = some (.cells #[.string x,Vi i,.string y,Vi j,.string z,Vi k] t (0,0))) (hb : P < b) : SgnP w P (some ⟨b,0,none⟩) [(x,i),(y,j),(z,k)]:=by
 intro n hn
 match n,hn with
 | 0,_ => exact ⟨b,0,rfl,hb,by simp [World.cell?,h],by simp [World.cell?,h]⟩
 | 1,_ => exact ⟨b,0,rfl,hb,by simp [World.cell?,h],by simp [World.cell?,h]⟩
 | 2,_ => exact ⟨b,0,rfl,hb,by simp [World.cell?,h],by simp [World.cell?,h]⟩

theorem SgnP.two {w : World} {P b : Nat} {x y : ByteArray} {i j : Int} {t : TypeId} (h : w.heap[b]? = some (.cells #[.string x,Vi i,.string y,Vi j] t (0,0))) (hb : P < b) : SgnP w P (some ⟨b,0,none⟩) [(x,i),(y,j)]:=by
 intro n hn
 match n,hn with
 | 0,_ => exact ⟨b,0,rfl,hb,by simp [World.cell?,h],by simp [World.cell?,h]⟩
 | 1,_ => exact ⟨b,0,rfl,hb,by simp [World.cell?,h],by simp [World.cell?,h]⟩

theorem product_any (P : Nat) (s : PS) (w : World) (h : PA w P s) (hI : Upto_ s.rest.length P 195 .fact) : Calls Tryz.prog 192 #[.pointer (some ⟨P,0,none⟩)] w (PXP .prod P s w):=by
 have HP:=Hd h
 have hPw:=h.lt
 have HI:=Hd hI
 clear h hI
 have S0 : Hid ((w.alloc (.cells Vo 49)).heap.size = w.heap.size + 1):=Hd (by simp)
 have R0 : Hid ((w.alloc (.cells Vo 49)).heap[w.heap.size]? = some (.cells Vo 49 (0,0))):=heap_alloc_new w _
 have B0 : Hid (Below w.heap.size w (w.alloc (.cells Vo 49))):=(Below.refl _ _).alloc (Nat.le_refl _) _
 obtain ⟨WA,hWA⟩:=Vx (w.alloc (.cells Vo 49))
 rw [hWA] at S0 R0 B0
 obtain ⟨WB,hWB⟩:=Vx (WA.alloc (.cells #[.string ⟨#[42]⟩,Vi 3,.string ⟨#[47]⟩,Vi 4,.string ⟨#[37]⟩,Vi 5] 190))
 have RS : Hid (WB.heap[w.heap.size + 1]? = some (.cells #[.string ⟨#[42]⟩,Vi 3,.string ⟨#[47]⟩,Vi 4,.string ⟨#[37]⟩,Vi 5] 190 (0,0))):=by have:=heap_alloc_new WA (.cells #[.string ⟨#[42]⟩,Vi 3,.string ⟨#[47]⟩,Vi 4,.string ⟨#[37]⟩,Vi 5] 190); rw [hWB,S0.out] at this; exact this
 have B1 : Hid (Below w.heap.size w WB):=hWB ▸ B0.out.alloc B0.out.size _
 have R1 : Hid (WB.heap[w.heap.size]? = some (.cells Vo 49 (0,0))):=by have:=(alloc_off (w:=WA) (k:=w.heap.size) (by rw [S0.out]; omega) (.cells #[.string ⟨#[42]⟩,Vi 3,.string ⟨#[47]⟩,Vi 4,.string ⟨#[37]⟩,Vi 5] 190)).trans R0.out; rw [hWB] at this; exact this
 have SB : Hid (w.heap.size < WB.heap.size):=(Gx R1.out)
 go_enter Tryz.func192,Tryz.ntmps192
 go_wp2_with fail
 rw [S0.out]
 clear hWA hWB
 refine (left_prod P s WB (HP.out.later B1.out) (some ⟨w.heap.size + 1,0,none⟩) [(⟨#[42]⟩,3),(⟨#[47]⟩,4),(⟨#[37]⟩,5)] 3 rfl (SgnP.three RS.out (by omega)) (by decide) (by decide) HI.out).mono ?_
 rintro e w1 ⟨r,hr,ho,hm⟩
 have RR:=Hd (ho.at R1.out (by omega))
 have OO:=Hd ((Only.of (Z:=(· = P)) B1.out).trans ho)
 clear ho R1 RS R0 B0
 cases r with
 | bad p =>
  have HV : Hid (Pr .prod s (.bad p)):=hr
  rw [hm]
  clear hm hr
  go_wp2
  exact ⟨rfl,px_bad HV.out OO.out⟩
 | ok x s1 =>
  obtain ⟨a,m,c,rfl,hx,hp,hlt⟩:=hm
  have HV : Hid (Pr .prod s (.ok x s1)):=hr
  have HX:=Hd hx
  have HH:=Hd hp
  have HLN:=Hd hlt
  clear hr hx hp hlt
  obtain ⟨kk,oo,⟨v1,v2,v3⟩,tt,nn,ks,pp⟩:=x
  simp only [exV,exC]
  have zn:=nine_of RR.out
  go_wp2
  obtain ⟨W6,hW6⟩:=Vx (((((((((w1.setCell ⟨w.heap.size,0,none⟩ (Vi kk)).setCell ⟨w.heap.size,1,none⟩ (Vi oo)).setCell ⟨w.heap.size,2,none⟩ (Vi v1)).setCell ⟨w.heap.size,3,none⟩ (Vi v2)).setCell ⟨w.heap.size,4,none⟩ (.string v3)).setCell ⟨w.heap.size,5,none⟩ (.string tt)).setCell ⟨w.heap.size,6,none⟩ (.string nn)).setCell ⟨w.heap.size,7,none⟩ (.slice a m c)).setCell ⟨w.heap.size,8,none⟩ (Vi pp))
  rw [hW6]
  have zy:=(nine_of (hW6 ▸ nine_set RR.out (Vi kk) (Vi oo) (Vi v1) (Vi v2) (.string v3) (.string tt) (.string nn) (.slice a m c) (Vi pp))).1
  have HO : Hid (Only (· = P) w W6):=hW6 ▸ OO.out.nine (Nat.le_refl _) (Vi kk) (Vi oo) (Vi v1) (Vi v2) (.string v3) (.string tt) (.string nn) (.slice a m c) (Vi pp)
  have HQ:=Hd (hW6 ▸ HH.out.nine hPw (Vi kk) (Vi oo) (Vi v1) (Vi v2) (.string v3) (.string tt) (.string nn) (.slice a m c) (Vi pp) : PA W6 P _)
  have HX6 : Hid (XO W6 w.heap.size (.mk kk oo (v1,v2,v3) tt nn ks pp) (.slice a m c)):=hW6 ▸ (HX.out.nine SB.out (Vi kk) (Vi oo) (Vi v1) (Vi v2) (.string v3) (.string tt) (.string nn) (.slice a m c) (Vi pp)).mono (Nat.le_of_lt SB.out)
  clear hW6
  exact bodyPost_ret (v:=exV (.mk kk oo (v1,v2,v3) tt nn ks pp) (.slice a m c)) (by simp [results,Tryz.results192,go_sem,exV,exC,zy]) rfl (px_ok HV.out HO.out HX6.out HQ.out HLN.out)

theorem sum_any (P : Nat) (s : PS) (w : World) (h : PA w P s) (hI : Upto_ s.rest.length P 192 .prod) : Calls Tryz.prog 187 #[.pointer (some ⟨P,0,none⟩)] w (PXP .sum P s w):=by
 have HP:=Hd h
 have hPw:=h.lt
 have HI:=Hd hI
 clear h hI
 have S0 : Hid ((w.alloc (.cells Vo 49)).heap.size = w.heap.size + 1):=Hd (by simp)
 have R0 : Hid ((w.alloc (.cells Vo 49)).heap[w.heap.size]? = some (.cells Vo 49 (0,0))):=heap_alloc_new w _
 have B0 : Hid (Below w.heap.size w (w.alloc (.cells Vo 49))):=(Below.refl _ _).alloc (Nat.le_refl _) _
 obtain ⟨WA,hWA⟩:=Vx (w.alloc (.cells Vo 49))
 rw [hWA] at S0 R0 B0
 obtain ⟨WB,hWB⟩:=Vx (WA.alloc (.cells #[.string ⟨#[43]⟩,Vi 1,.string ⟨#[45]⟩,Vi 2] 190))
 have RS : Hid (WB.heap[w.heap.size + 1]? = some (.cells #[.string ⟨#[43]⟩,Vi 1,.string ⟨#[45]⟩,Vi 2] 190 (0,0))):=by have:=heap_alloc_new WA (.cells #[.string ⟨#[43]⟩,Vi 1,.string ⟨#[45]⟩,Vi 2] 190); rw [hWB,S0.out] at this; exact this
 have B1 : Hid (Below w.heap.size w WB):=hWB ▸ B0.out.alloc B0.out.size _
 have R1 : Hid (WB.heap[w.heap.size]? = some (.cells Vo 49 (0,0))):=by have:=(alloc_off (w:=WA) (k:=w.heap.size) (by rw [S0.out]; omega) (.cells #[.string ⟨#[43]⟩,Vi 1,.string ⟨#[45]⟩,Vi 2] 190)).trans R0.out; rw [hWB] at this; exact this
 have SB : Hid (w.heap.size < WB.heap.size):=(Gx R1.out)
 go_enter Tryz.func187,Tryz.ntmps187
 go_wp2_with fail
 rw [S0.out]
 clear hWA hWB
 refine (left_sum P s WB (HP.out.later B1.out) (some ⟨w.heap.size + 1,0,none⟩) [(⟨#[43]⟩,1),(⟨#[45]⟩,2)] 2 rfl (SgnP.two RS.out (by omega)) (by decide) (by decide) HI.out).mono ?_
 rintro e w1 ⟨r,hr,ho,hm⟩
 have RR:=Hd (ho.at R1.out (by omega))
 have OO:=Hd ((Only.of (Z:=(· = P)) B1.out).trans ho)
 clear ho R1 RS R0 B0
 cases r with
 | bad p =>
  have HV : Hid (Pr .sum s (.bad p)):=hr
  rw [hm]
  clear hm hr
  go_wp2
  exact ⟨rfl,px_bad HV.out OO.out⟩
 | ok x s1 =>
  obtain ⟨a,m,c,rfl,hx,hp,hlt⟩:=hm
  have HV : Hid (Pr .sum s (.ok x s1)):=hr
  have HX:=Hd hx
  have HH:=Hd hp
  have HLN:=Hd hlt
  clear hr hx hp hlt
  obtain ⟨kk,oo,⟨v1,v2,v3⟩,tt,nn,ks,pp⟩:=x
  simp only [exV,exC]
  have zn:=nine_of RR.out
  go_wp2
  obtain ⟨W6,hW6⟩:=Vx (((((((((w1.setCell ⟨w.heap.size,0,none⟩ (Vi kk)).setCell ⟨w.heap.size,1,none⟩ (Vi oo)).setCell ⟨w.heap.size,2,none⟩ (Vi v1)).setCell ⟨w.heap.size,3,none⟩ (Vi v2)).setCell ⟨w.heap.size,4,none⟩ (.string v3)).setCell ⟨w.heap.size,5,none⟩ (.string tt)).setCell ⟨w.heap.size,6,none⟩ (.string nn)).setCell ⟨w.heap.size,7,none⟩ (.slice a m c)).setCell ⟨w.heap.size,8,none⟩ (Vi pp))
  rw [hW6]
  have zy:=(nine_of (hW6 ▸ nine_set RR.out (Vi kk) (Vi oo) (Vi v1) (Vi v2) (.string v3) (.string tt) (.string nn) (.slice a m c) (Vi pp))).1
  have HO : Hid (Only (· = P) w W6):=hW6 ▸ OO.out.nine (Nat.le_refl _) (Vi kk) (Vi oo) (Vi v1) (Vi v2) (.string v3) (.string tt) (.string nn) (.slice a m c) (Vi pp)
  have HQ:=Hd (hW6 ▸ HH.out.nine hPw (Vi kk) (Vi oo) (Vi v1) (Vi v2) (.string v3) (.string tt) (.string nn) (.slice a m c) (Vi pp) : PA W6 P _)
  have HX6 : Hid (XO W6 w.heap.size (.mk kk oo (v1,v2,v3) tt nn ks pp) (.slice a m c)):=hW6 ▸ (HX.out.nine SB.out (Vi kk) (Vi oo) (Vi v1) (Vi v2) (.string v3) (.string tt) (.string nn) (.slice a m c) (Vi pp)).mono (Nat.le_of_lt SB.out)
  clear hW6
  exact bodyPost_ret (v:=exV (.mk kk oo (v1,v2,v3) tt nn ks pp) (.slice a m c)) (by simp [results,Tryz.results187,go_sem,exV,exC,zy]) rfl (px_ok HV.out HO.out HX6.out HQ.out HLN.out)

theorem not_yes (P : Nat) (s : PS) (w : World) (h : PA w P s) (hI : Below_ s.rest.length P 167 .not) (n1 : s.sees wNot = true) : Calls Tryz.prog 167 #[.pointer (some ⟨P,0,none⟩)] w (PXP .not P s w):=by
 have HP:=Hd h
 have hPw:=h.lt
 have HSH:=Hd h.shorter
 clear h
 have B0:=Hd n1
 have HI:=Hd hI
 have HG : Hid (∀ n,pX (n + 1) .not s = bindR (pX n .not s.next) fun e s1 => some (.ok (over 8 0 s.hd.2 [e]) s1)):=fun n => by rw [pX,if_pos n1]
 clear n1 hI
 go_enter Tryz.func167,Tryz.ntmps167
 obtain ⟨p0,hp0⟩:=Vx s.hd.2
 have HAT:=ath P hp0
 have HP0:=Hd hp0
 clear hp0
 have H0 : Hid (PA (w.alloc (.cells Vo 49)) P s):=HP.out.later ((Below.refl _ _).alloc (Nat.le_refl _) _)
 have O0 : Hid (Only (· = P) w (w.alloc (.cells Vo 49))):=(Only.refl _ _).alloc _
 have R0 : Hid ((w.alloc (.cells Vo 49)).heap[w.heap.size]? = some (.cells Vo 49 (0,0))):=heap_alloc_new w _
 go_wp2_with fail
 refine (HAT.out _ H0.out).mono ?_
 rintro e w' ⟨rfl,rfl⟩
 go_wp2_with fail
 refine (skip_any P s ⟨#[78,79,84]⟩ _ H0.out).mono ?_
 rintro e w1 ⟨rfl,hp,ho⟩
 rw [show s.sees (⟨#[78,79,84]⟩ : ByteArray).data.toList = true from B0.out] at hp ⊢
 rw [if_pos rfl] at hp
 have H1:=Hd hp
 have R1:=Hd (ho.at R0.out (by omega))
 have O1:=Hd (O0.out.trans ho)
 clear hp ho H0 R0 O0
 have HW1 : Hid (w.heap.size < w1.heap.size):=(Gx R1.out)
 go_wp2_with fail
 refine (HI.out s.next _ HSH.out H1.out).mono ?_
 rintro e w2 ⟨r,hr,ho,hm⟩
 have R2:=Hd (ho.at R1.out (by omega))
 have O2:=Hd (O1.out.trans ho)
 have HSZ:=Hd ho.size
 clear ho H1 R1 O1
 cases r with
 | bad p =>
  have HV : Hid (Pr .not s (.bad p)):=Pr.bad HG.out hr
  rw [hm]
  clear hm hr
  go_wp2
  exact ⟨rfl,px_bad HV.out O2.out⟩
 | ok x s1 =>
  obtain ⟨a,m,c,rfl,hx,hp,hl⟩:=hm
  have HX0:=Hd hx
  have H2:=Hd hp
  have HLN : Hid (s1.rest.length < s.rest.length):=Nat.lt_trans hl HSH.out
  have HV : Hid (Pr .not s (.ok (over 8 0 p0 [x]) s1)):=Pr.bind HG.out hr ⟨0,fun _ _ => by rw [HP0.out]⟩
  clear hx hp hl hr
  obtain ⟨kk,oo,⟨v1,v2,v3⟩,tt,nn,ks,pp⟩:=x
  simp only [exV,exC]
  go_wp2_with fail
  obtain ⟨WA,hWA⟩:=Vx (w2.alloc (.cells (Ve kk oo v1 v2 v3 tt nn (.slice a m c) pp) 49))
  rw [hWA]
  have HBA : Hid (Below w2.heap.size w2 WA):=hWA ▸ (Below.refl _ _).alloc (Nat.le_refl _) _
  have RA : Hid (WA.heap[w2.heap.size]? = some (.cells (Ve kk oo v1 v2 v3 tt nn (.slice a m c) pp) 49 (0,0))):=hWA ▸ heap_alloc_new w2 _
  clear hWA
  refine (over_any 8 0 p0 (some ⟨w2.heap.size,0,none⟩) 1 1 [(.mk kk oo (v1,v2,v3) tt nn ks pp)] _).mono ?_
  rintro e w3 ⟨rfl,hb⟩
  have RB:=Hd ((hb.block w2.heap.size (Gx RA.out)).trans RA.out)
  have HBB:=Hd (HBA.out.trans (hb.mono HBA.out.size))
  clear hb RA HBA
  have HH:=Hd (H2.out.later HBB.out)
  have RR:=Hd ((HBB.out.block w.heap.size (Gx R2.out)).trans R2.out)
  have OO:=Hd (O2.out.trans (Only.of HBB.out))
  clear H2 R2 O2
  simp only [over,exV,exC,v0]
  obtain ⟨⟨n0,n1,n2,n3,n4,n5,n6,n7,n8⟩,f0,f1,f2,f3,f4,f5,f6,f7,f8⟩:=nine_of RR.out
  go_wp2
  obtain ⟨W6,hW6⟩:=Vx (((((((((w3.setCell ⟨w.heap.size,0,none⟩ (Vi 8)).setCell ⟨w.heap.size,1,none⟩ (Vi 0)).setCell ⟨w.heap.size,2,none⟩ (Vi 0)).setCell ⟨w.heap.size,3,none⟩ (Vi 0)).setCell ⟨w.heap.size,4,none⟩ Vs).setCell ⟨w.heap.size,5,none⟩ Vs).setCell ⟨w.heap.size,6,none⟩ Vs).setCell ⟨w.heap.size,7,none⟩ (.slice (some ⟨w2.heap.size,0,none⟩) 1 1)).setCell ⟨w.heap.size,8,none⟩ (Vi (p0 : Int)))
  rw [hW6]
  have zy:=(nine_of (hW6 ▸ nine_set RR.out (Vi 8) (Vi 0) (Vi 0) (Vi 0) Vs Vs Vs (.slice (some ⟨w2.heap.size,0,none⟩) 1 1) (Vi (p0 : Int)))).1
  have HO : Hid (Only (· = P) w W6):=hW6 ▸ OO.out.nine (Nat.le_refl _) _ _ _ _ _ _ _ _ _
  have HQ:=Hd (hW6 ▸ HH.out.nine hPw (Vi 8) (Vi 0) (Vi 0) (Vi 0) Vs Vs Vs (.slice (some ⟨w2.heap.size,0,none⟩) 1 1) (Vi (p0 : Int)) : PA W6 P _)
  have HX : Hid (XO W6 w.heap.size (over 8 0 p0 [(.mk kk oo (v1,v2,v3) tt nn ks pp)]) (.slice (some ⟨w2.heap.size,0,none⟩) 1 1)):=hW6 ▸ (XO.one HX0.out (fun g hg hl => (nine_off (by have:=HW1.out; omega) (Vi 8) (Vi 0) (Vi 0) (Vi 0) Vs Vs Vs (.slice (some ⟨w2.heap.size,0,none⟩) 1 1) (Vi (p0 : Int))).trans (HBB.out.block g hl)) ((nine_off (by have:=HW1.out; have:=HSZ.out; omega) (Vi 8) (Vi 0) (Vi 0) (Vi 0) Vs Vs Vs (.slice (some ⟨w2.heap.size,0,none⟩) 1 1) (Vi (p0 : Int))).trans RB.out) HSZ.out).mono (Nat.le_of_lt HW1.out)
  clear hW6
  exact bodyPost_ret (v:=exV (over 8 0 p0 [(.mk kk oo (v1,v2,v3) tt nn ks pp)]) (.slice (some ⟨w2.heap.size,0,none⟩) 1 1)) (by simp [results,Tryz.results167,go_sem,exV,exC,over,v0,zy]) rfl (px_ok HV.out HO.out HX.out HQ.out HLN.out)

theorem not_no (P : Nat) (s : PS) (w : World) (h : PA w P s) (hI : Upto_ s.rest.length P 178 .test) (n1 : s.sees wNot = false) : Calls Tryz.prog 167 #[.pointer (some ⟨P,0,none⟩)] w (PXP .not P s w):=by
 have HP:=Hd h
 have hPw:=h.lt
 have HSH:=Hd h.shorter
 clear h
 have B0:=Hd n1
 have HI:=Hd hI
 have HG : Hid (∀ r,Pr .test s r → Pr .not s r):=fun r h => by
  obtain ⟨n,hn⟩:=h
  exact ⟨n + 1,by rw [pX,if_neg (by rw [n1]; simp)]; exact hn⟩
 clear n1 hI
 go_enter Tryz.func167,Tryz.ntmps167
 obtain ⟨p0,hp0⟩:=Vx s.hd.2
 have HAT:=ath P hp0
 have HP0:=Hd hp0
 clear hp0
 have H0 : Hid (PA (w.alloc (.cells Vo 49)) P s):=HP.out.later ((Below.refl _ _).alloc (Nat.le_refl _) _)
 have O0 : Hid (Only (· = P) w (w.alloc (.cells Vo 49))):=(Only.refl _ _).alloc _
 have R0 : Hid ((w.alloc (.cells Vo 49)).heap[w.heap.size]? = some (.cells Vo 49 (0,0))):=heap_alloc_new w _
 go_wp2_with fail
 refine (HAT.out _ H0.out).mono ?_
 rintro e w' ⟨rfl,rfl⟩
 go_wp2_with fail
 refine (skip_any P s ⟨#[78,79,84]⟩ _ H0.out).mono ?_
 rintro e w1 ⟨rfl,hp,ho⟩
 rw [show s.sees (⟨#[78,79,84]⟩ : ByteArray).data.toList = false from B0.out] at hp ⊢
 rw [if_neg (by decide)] at hp
 have H1:=Hd hp
 have R1:=Hd (ho.at R0.out (by omega))
 have O1:=Hd (O0.out.trans ho)
 clear hp ho H0 R0 O0
 have HW1 : Hid (w.heap.size < w1.heap.size):=(Gx R1.out)
 go_wp2_with fail
 refine (HI.out s _ (Nat.le_refl _) H1.out).mono ?_
 rintro e w2 ⟨r,hr,ho,hm⟩
 have RR:=Hd (ho.at R1.out (by omega))
 have OO:=Hd (O1.out.trans ho)
 clear ho H1 R1 O1
 cases r with
 | bad p =>
  have HV : Hid (Pr .not s (.bad p)):=HG.out _ hr
  rw [hm]
  clear hm hr
  go_wp2
  exact ⟨rfl,px_bad HV.out OO.out⟩
 | ok x s1 =>
  obtain ⟨a,m,c,rfl,hx,hp,hl⟩:=hm
  have HX0:=Hd hx
  have HH:=Hd hp
  have HLN:=Hd hl
  have HV : Hid (Pr .not s (.ok x s1)):=HG.out _ hr
  clear hx hp hl hr
  obtain ⟨kk,oo,⟨v1,v2,v3⟩,tt,nn,ks,pp⟩:=x
  simp only [exV,exC]
  obtain ⟨⟨n0,n1,n2,n3,n4,n5,n6,n7,n8⟩,f0,f1,f2,f3,f4,f5,f6,f7,f8⟩:=nine_of RR.out
  go_wp2
  obtain ⟨W6,hW6⟩:=Vx (((((((((w2.setCell ⟨w.heap.size,0,none⟩ (Vi kk)).setCell ⟨w.heap.size,1,none⟩ (Vi oo)).setCell ⟨w.heap.size,2,none⟩ (Vi v1)).setCell ⟨w.heap.size,3,none⟩ (Vi v2)).setCell ⟨w.heap.size,4,none⟩ (.string v3)).setCell ⟨w.heap.size,5,none⟩ (.string tt)).setCell ⟨w.heap.size,6,none⟩ (.string nn)).setCell ⟨w.heap.size,7,none⟩ (.slice a m c)).setCell ⟨w.heap.size,8,none⟩ (Vi pp))
  rw [hW6]
  have zy:=(nine_of (hW6 ▸ nine_set RR.out (Vi kk) (Vi oo) (Vi v1) (Vi v2) (.string v3) (.string tt) (.string nn) (.slice a m c) (Vi pp))).1
  have HO : Hid (Only (· = P) w W6):=hW6 ▸ OO.out.nine (Nat.le_refl _) (Vi kk) (Vi oo) (Vi v1) (Vi v2) (.string v3) (.string tt) (.string nn) (.slice a m c) (Vi pp)
  have HQ:=Hd (hW6 ▸ HH.out.nine hPw (Vi kk) (Vi oo) (Vi v1) (Vi v2) (.string v3) (.string tt) (.string nn) (.slice a m c) (Vi pp) : PA W6 P _)
  have HX6 : Hid (XO W6 w.heap.size (.mk kk oo (v1,v2,v3) tt nn ks pp) (.slice a m c)):=hW6 ▸ (HX0.out.nine HW1.out (Vi kk) (Vi oo) (Vi v1) (Vi v2) (.string v3) (.string tt) (.string nn) (.slice a m c) (Vi pp)).mono (Nat.le_of_lt HW1.out)
  clear hW6
  exact bodyPost_ret (v:=exV (.mk kk oo (v1,v2,v3) tt nn ks pp) (.slice a m c)) (by simp [results,Tryz.results167,go_sem,exV,exC,zy]) rfl (px_ok HV.out HO.out HX6.out HQ.out HLN.out)

theorem not_step (P : Nat) (s : PS) (w : World) (h : PA w P s) (h1 : Below_ s.rest.length P 167 .not) (h2 : Upto_ s.rest.length P 178 .test) : Calls Tryz.prog 167 #[.pointer (some ⟨P,0,none⟩)] w (PXP .not P s w):=by
 cases n1 : s.sees wNot with
 | true => exact not_yes P s w h h1 n1
 | false => exact not_no P s w h h2 n1

def FS (w : World) (B : Nat) (Z : Nat → Prop) (I : World → Prop) : Prop:=∀ W : World,(∀ g,B ≤ g → ¬ Z g → g < w.heap.size → W.heap[g]? = w.heap[g]?) → I W

theorem FS.out {w : World} {B : Nat} {Z : Nat → Prop} {I : World → Prop} (h : FS w B Z I) : I w:=h w fun _ _ _ _ => rfl

theorem FS.keep {w W : World} {B : Nat} {Z Z' : Nat → Prop} {I : World → Prop} (h : FS w B Z I) (hs : w.heap.size ≤ W.heap.size) (hk : ∀ g,B ≤ g → ¬ Z g → g < w.heap.size → W.heap[g]? = w.heap[g]?) (hz : ∀ g,g < w.heap.size → Z' g → Z g) : FS W B Z' I :=
 fun V hV => h V fun g hg hn hl => (hV g hg (fun k => hn (hz g hl k)) (Nat.lt_of_lt_of_le hl hs)).trans (hk g hg hn hl)

theorem FS.only {w W : World} {P B : Nat} {Z : Nat → Prop} {I : World → Prop} (h : FS w B Z I) (ho : Only (· = P) w W) (hP : P < B) : FS W B Z I:=h.keep ho.size (fun g hg _ hl => ho.block g hl (fun e => by omega)) fun _ _ k => k

theorem FS.below {w W : World} {B : Nat} {Z : Nat → Prop} {I : World → Prop} (h : FS w B Z I) (hb : Below w.heap.size w W) : FS W B Z I:=h.keep hb.size (fun g _ _ hl => hb.block g hl) fun _ _ k => k

theorem FS.and {w : World} {B : Nat} {Z : Nat → Prop} {I J : World → Prop} (h : FS w B Z I) (k : FS w B Z J) : FS w B Z fun W => I W ∧ J W:=fun W hW => ⟨h W hW,k W hW⟩

theorem FS.imp {w : World} {B : Nat} {Z : Nat → Prop} {I J : World → Prop} (h : FS w B Z I) (k : ∀ W,I W → J W) : FS w B Z J:=fun W hW => k W (h W hW)

theorem drew_at {w w3 : World} {k : Nat} {o : Obj} (hb : Below w.drew.heap.size w.drew w3) (h : w.heap[k]? = some o) : w3.heap[k]? = some o:=(hb.block k (Gx h)).trans h

def Zr (r : Nat) (b : Option Nat) (g : Nat) : Prop:=g = r ∨ b = some g

theorem FS.grow {w w' : World} {B r : Nat} {v v' : Value} {I : World → Prop} (h : FS w B (Zr r v.ownBlock) I) (hg : w.grownBy w' v.ownBlock) (hat : v'.ownBlock = v.ownBlock ∨ v'.ownBlock = some w.heap.size) : FS w' B (Zr r v'.ownBlock) I:=by
 refine h.keep hg.size (fun g _ hn hl => hg.block g hl fun e => hn (Or.inr e.symm)) fun g hl k => ?_
 rcases k with k | k
 ·exact Or.inl k
 ·rcases hat with e | e
  ·exact Or.inr (e ▸ k)
  ·rw [e] at k
   injection k with k
   omega

def XsO (w : World) (B : Nat) (es : List Ex) (ks : List Value) : Prop:=∀ i (h : i < es.length) (h' : i < ks.length),XO w B es[i] ks[i]

theorem XsO.snoc {w : World} {B : Nat} {es : List Ex} {ks : List Value} {e : Ex} {k : Value} (h : XsO w B es ks) (hl : es.length = ks.length) (he : XO w B e k) : XsO w B (es ++ [e]) (ks ++ [k]):=by
 intro i hi hi'
 by_cases h1 : i < es.length
 ·rw [List.getElem_append_left h1,List.getElem_append_left (by omega)]
  exact h i h1 (by omega)
 ·simp at hi
  rw [List.getElem_append_right (by omega),List.getElem_append_right (by omega)]
  have e1 : i - es.length = 0:=by omega
  have e2 : i - ks.length = 0:=by omega
  simp only [e1,e2,List.getElem_cons_zero]
  exact he

theorem XsO.nil (w : World) (B : Nat) : XsO w B [] []:=fun _ h => absurd h (Nat.not_lt_zero _)

theorem XsO.one {w : World} {B : Nat} {e : Ex} {k : Value} (h : XO w B e k) : XsO w B [e] [k]:=by
 intro i hi hi'
 match i,hi with
 | 0,_ => exact h

theorem FS.high {w : World} {B C : Nat} {Z : Nat → Prop} {x : Ex} {k : Value} (h : XO w C x k) (hz : ∀ g,C ≤ g → ¬ Z g) (hB : B ≤ C) : FS w B Z fun W => XO W B x k:=fun _ hW => (h.keep fun g hg hl => hW g (Nat.le_trans hB hg) (hz g hg) hl).mono hB

theorem FS.new {w : World} {B : Nat} {Z : Nat → Prop} {x : Ex} {k : Value} (h : XO w B x k) (hz : ∀ g,g < w.heap.size → ¬ Z g) : FS w B Z fun W => XO W B x k:=fun _ hW => h.keep fun g hg hl => hW g hg (hz g hl) hl
end Go.Proofs.YtbfjmccpcbhljaaGreatDoor
