/- A74 A74s A75 -/
import Derived.Test.YtbfjmccpcbhljaaGreatDoorTA71
set_option maxHeartbeats 8000000
set_option maxRecDepth 100000
namespace Go.Proofs.YtbfjmccpcbhljaaGreatDoor
open Go.RowKit
theorem where_pp (P : Nat) (s : PS) (w : World) (h : PA w P s) : Calls Tryz.prog 128 #[.pointer (some ⟨P,0,none⟩)] w (PP whereR (fun w B l v => ∃ a c,v = .slice a l.length c ∧ XL w B l v) P s w):=by
 have HA:=Hd (Au.start h)
 have hPw:=h.lt
 have HLN : Hid (s.rest.length ≤ s.rest.length):=Nat.le_refl _
 have HG : Hid (∀ r,whereR s r → whereR s r):=fun r k => k
 clear h
 go_enter Tryz.func128,Tryz.ntmps128
 go_wp2_with fail
 refine (skip_any P (s) ⟨#[87,72,69,82,69]⟩ _ HA.out.pa).mono ?_
 rintro e w1 ⟨rfl,hp,ho⟩
 cases hS : (s).sees wWHERE with
 | false =>
  rw [show (s).sees (⟨#[87,72,69,82,69]⟩ : ByteArray).data.toList = false from hS] at hp ⊢
  rw [if_neg (by decide)] at hp
  have HB:=Hd (HA.out.call ho hp)
  have HG2:=Hd (fun r k => HG.out r ((if_neg (by rw [hS]; simp)).mpr k))
  have HL2 : Hid ((s).rest.length ≤ s.rest.length):=Nat.le_trans (Nat.le_refl _) HLN.out
  clear hp ho HA HLN HG
  have HA:=HB
  have HG:=HG2
  clear HG2
  have HLN:=HL2
  clear HB HL2 hS
  have HV:=Hd (HG.out _ rfl)
  go_wp2
  exact bodyPost_ret (v:=.slice none 0 0) (by simp [results,Tryz.results128,go_sem]) rfl (pp_ok HV.out HA.out.only ⟨none,0,rfl,XL.nil _ _⟩ HA.out.pa HLN.out)
 | true =>
  rw [show (s).sees (⟨#[87,72,69,82,69]⟩ : ByteArray).data.toList = true from hS] at hp ⊢
  rw [if_pos rfl] at hp
  have HB:=Hd (HA.out.call ho hp)
  have HG2:=Hd (fun r k => HG.out r ((if_pos hS).mpr k))
  have HL2 : Hid ((s.next).rest.length ≤ s.rest.length):=Nat.le_trans (tail_le _) HLN.out
  have HS2 : Hid ((s.next).rest.length < s.rest.length):=Nat.lt_of_lt_of_le HA.out.pa.shorter HLN.out
  clear hp ho HA HLN HG
  have HA:=HB
  have HG:=HG2
  clear HG2
  have HLN:=HL2
  clear HB HL2 hS
  have HLS:=HS2
  clear HS2
  go_wp2_with fail
  refine (expr_pe P (s.next) _ HA.out.pa).mono ?_
  rintro e w2 ⟨r,hr,ho,hm⟩
  cases r with
  | bad p =>
   have HV:=Hd (HG.out _ (thenR_bad hr))
   have HO:=Hd (HA.out.only.trans ho)
   rw [hm]
   clear hm hr ho
   go_wp2
   exact ⟨rfl,pp_bad HV.out HO.out⟩
  | ok x2 s2 =>
   obtain ⟨v,rfl,⟨a,m,c,rfl,hx⟩,hp,hl⟩:=hm
   have HB:=Hd (HA.out.gainX ho hp hx)
   have HG2:=Hd (fun r k => HG.out r (thenR_ok hr k))
   have HL2 : Hid (s2.rest.length ≤ s.rest.length):=Nat.le_trans (Nat.le_of_lt hl) HLN.out
   have HS2 : Hid (s2.rest.length < s.rest.length):=Nat.lt_of_lt_of_le hl HLN.out
   clear ho hp hl hr HA HG HLN hx HLS
   have HA:=HB
   have HG:=HG2
   have HLN:=HL2
   clear HB HG2 HL2
   have HLS:=HS2
   clear HS2
   obtain ⟨kk,oo,⟨v1,v2,v3⟩,tt,nn,ks,pp⟩:=x2
   simp only [exV,exC]
   have HB:=Hd (HA.out.push (Ve kk oo v1 v2 v3 tt nn (.slice a m c) pp) 49)
   obtain ⟨W3,hW3⟩:=Vx (w2.alloc (.cells (Ve kk oo v1 v2 v3 tt nn (.slice a m c) pp) 49))
   rw [hW3] at HB
   have HV:=Hd (HG.out _ rfl)
   have hlb : w.heap.size ≤ w2.heap.size:=(HB.out.has _ (List.mem_cons_self)).1
   have HC : Hid (Au w P s2 [] (fun W => XL W w.heap.size [(Ex.mk kk oo (v1,v2,v3) tt nn ks pp)] (.slice (some ⟨w2.heap.size,0,none⟩) 1 1)) W3):=HB.out.own fun W h hb => XL.one h.2 hb hlb
   go_wp2
   clear hW3
   exact bodyPost_ret (v:=.slice (some ⟨w2.heap.size,0,none⟩) 1 1) (by simp [results,Tryz.results128,go_sem]) rfl (pp_ok HV.out HC.out.only ⟨_,1,rfl,HC.out.inv.out⟩ HC.out.pa HLN.out)

theorem set_pe (P : Nat) (s : PS) (w : World) (h : PA w P s) : Calls Tryz.prog 127 #[.pointer (some ⟨P,0,none⟩)] w (PE setR SeV P s w):=by
 have HA:=Hd (Au.start h)
 have hPw:=h.lt
 have HLN : Hid (s.rest.length ≤ s.rest.length):=Nat.le_refl _
 have HG : Hid (∀ r,setR s r → setR s r):=fun r k => k
 clear h
 go_enter Tryz.func127,Tryz.ntmps127
 obtain ⟨W1,hW1,HA⟩:=HA.out.pushE #[Vs,Vi 0,Vi 0,Vi 0,Vi 0,Vs,Vs,Vs,Vn,Vi 0,Vi 0] 53
 obtain ⟨p0,hp0⟩:=Vx s.hd.2
 have HAT:=ath P hp0
 have HP0:=Hd hp0
 clear hp0
 go_wp2_with fail
 clear hW1
 refine (HAT.out _ HA.out.pa).mono ?_
 rintro e w' ⟨rfl,hw⟩
 replace hw:=hw.symm
 subst hw
 clear HAT
 obtain ⟨W2,hW2,HA⟩:=HA.out.pushE #[Vs,Vi 0,Vi 0,Vi 0,Vi 0,Vs,Vs,Vs,Vn,Vi 0,Vi (p0 : Int)] 53
 go_wp2_with fail
 clear hW2
 refine (name_pp P (s) _ HA.out.pa).mono ?_
 rintro e w3 ⟨r,hr,ho,hm⟩
 cases r with
 | bad p =>
  have HV:=Hd (HG.out _ (thenR_bad hr))
  have HO:=Hd (HA.out.only.trans ho)
  rw [hm]
  clear hm hr ho
  go_wp2
  exact ⟨rfl,pe_bad HV.out HO.out⟩
 | ok x3 s3 =>
  obtain ⟨v,rfl,rfl,hp,hl⟩:=hm
  have HB:=Hd (HA.out.call ho hp)
  have HG2:=Hd (fun r k => HG.out r (thenR_ok hr k))
  have HL2 : Hid (s3.rest.length ≤ s.rest.length):=Nat.le_trans hl HLN.out
  clear ho hp hl hr HA HG HLN
  have HA:=HB
  have HG:=HG2
  have HLN:=HL2
  clear HB HG2 HL2
  have za:=eleven_of (HA.out.at 0 rfl)
  replace HA:=Hd (Au.puts 0 [.string x3] 0 HA.out rfl)
  simp only [putsA,Sa,Sb] at HA
  obtain ⟨W4,hW4⟩:=Vx (setsL w3 (W1.heap.size) 0 [.string x3])
  rw [hW4] at HA
  simp only [setsL] at hW4
  obtain ⟨W5,hW5,HA⟩:=HA.out.pushE #[.string ⟨#[61]⟩] 9
  have hlb : P < W4.heap.size:=Nat.lt_of_lt_of_le hPw (HA.out.has _ (List.mem_cons_self)).1
  go_wp2_with fail
  clear hW4 hW5
  refine (need_pp P (s3) (some ⟨W4.heap.size,0,none⟩) [⟨#[61]⟩] 1 W5 HA.out.pa (StrsP.one (HA.out.at 0 rfl) hlb) (by decide)).mono ?_
  rintro e w6 ⟨r,hr,ho,hm⟩
  cases r with
  | bad p =>
   have HV:=Hd (HG.out _ (thenR_bad hr))
   have HO:=Hd (HA.out.only.trans ho)
   rw [hm]
   clear hm hr ho
   go_wp2
   exact ⟨rfl,pe_bad HV.out HO.out⟩
  | ok x6 s6 =>
   obtain ⟨v,rfl,rfl,hp,hl⟩:=hm
   have HB:=Hd (HA.out.call ho hp)
   have HB:=Hd HB.out.drop
   have HG2:=Hd (fun r k => HG.out r (thenR_ok hr k))
   have HL2 : Hid (s6.rest.length ≤ s.rest.length):=Nat.le_trans hl HLN.out
   clear ho hp hl hr HA HG HLN hlb
   have HA:=HB
   have HG:=HG2
   have HLN:=HL2
   clear HB HG2 HL2
   go_wp2_with fail
   refine (expr_pe P (s6) _ HA.out.pa).mono ?_
   rintro e w7 ⟨r,hr,ho,hm⟩
   cases r with
   | bad p =>
    have HV:=Hd (HG.out _ (thenR_bad hr))
    have HO:=Hd (HA.out.only.trans ho)
    rw [hm]
    clear hm hr ho
    go_wp2
    exact ⟨rfl,pe_bad HV.out HO.out⟩
   | ok x7 s7 =>
    obtain ⟨v,rfl,⟨a,m,c,rfl,hx⟩,hp,hl⟩:=hm
    have HB:=Hd (HA.out.gainX ho hp hx)
    have HG2:=Hd (fun r k => HG.out r (thenR_ok hr k))
    have HL2 : Hid (s7.rest.length ≤ s.rest.length):=Nat.le_trans (Nat.le_of_lt hl) HLN.out
    have HS2 : Hid (s7.rest.length < s.rest.length):=Nat.lt_of_lt_of_le hl HLN.out
    clear ho hp hl hr HA HG HLN hx
    have HA:=HB
    have HG:=HG2
    have HLN:=HL2
    clear HB HG2 HL2
    have HLS:=HS2
    clear HS2
    obtain ⟨kk,oo,⟨v1,v2,v3⟩,tt,nn,ks,pp⟩:=x7
    simp only [exV,exC]
    have zb:=eleven_of (HA.out.at 0 rfl)
    replace HA:=Hd (Au.puts 0 [Vi kk,Vi oo,Vi v1,Vi v2,.string v3,.string tt,.string nn,.slice a m c,Vi pp] 1 HA.out rfl)
    simp only [putsA,Nat.reduceAdd,Sa,Sb,Sc] at HA
    obtain ⟨W8,hW8⟩:=Vx (setsL w7 (W1.heap.size) 1 [Vi kk,Vi oo,Vi v1,Vi v2,.string v3,.string tt,.string nn,.slice a m c,Vi pp])
    rw [hW8] at HA
    simp only [setsL,Nat.reduceAdd] at hW8
    have zd:=eleven_of (HA.out.at 0 rfl)
    have zr:=eleven_of (HA.out.at 1 rfl)
    rw [HP0.out] at HG
    have HV:=Hd (HG.out _ rfl)
    go_wp2
    clear hW8
    have HD:=Hd (HA.out.fill 1 rfl [.string x3,Vi kk,Vi oo,Vi v1,Vi v2,.string v3,.string tt,.string nn,.slice a m c,Vi pp,Vi (p0 : Int)] rfl)
    obtain ⟨W99,hW99⟩:=Vx (setsL W8 w.heap.size 0 [.string x3,Vi kk,Vi oo,Vi v1,Vi v2,.string v3,.string tt,.string nn,.slice a m c,Vi pp,Vi (p0 : Int)])
    rw [hW99] at HD
    simp only [setsL,Nat.reduceAdd] at hW99
    rw [hW99]
    have zy:=(eleven_of (HD.out.at 1 rfl)).1
    clear hW99
    exact bodyPost_ret (v:=.agg (seC (x3,(Ex.mk kk oo (v1,v2,v3) tt nn ks pp),(p0 : Int)) (.slice a m c)).toArray) (by simp [results,Tryz.results127,go_sem,seC,exC,zy]) rfl (pe_ok HV.out HD.out.only ⟨a,m,c,rfl,HD.out.inv.out.2⟩ HD.out.pa HLS.out)

theorem over_pe (P : Nat) (kind : Int) (p0 : Nat) (s : PS) (w : World) (h : PA w P s) : Calls Tryz.prog 152 #[.pointer (some ⟨P,0,none⟩),Vi kind,Vi (p0 : Int)] w (PE (overR kind p0) XV P s w):=by
 have HA:=Hd (Au.start h)
 have hPw:=h.lt
 have HLN : Hid (s.rest.length ≤ s.rest.length):=Nat.le_refl _
 have HG : Hid (∀ r,overR kind p0 s r → overR kind p0 s r):=fun r k => k
 clear h
 go_enter Tryz.func152,Tryz.ntmps152
 obtain ⟨W1,hW1,HA⟩:=HA.out.pushE Vo 49
 obtain ⟨W2,hW2,HA⟩:=HA.out.pushE #[.string ⟨#[40]⟩] 9
 have hlb : P < W1.heap.size:=Nat.lt_of_lt_of_le hPw (HA.out.has _ (List.mem_cons_self)).1
 go_wp2_with fail
 clear hW1 hW2
 refine (need_pp P (s) (some ⟨W1.heap.size,0,none⟩) [⟨#[40]⟩] 1 W2 HA.out.pa (StrsP.one (HA.out.at 0 rfl) hlb) (by decide)).mono ?_
 rintro e w3 ⟨r,hr,ho,hm⟩
 cases r with
 | bad p =>
  have HV:=Hd (HG.out _ (thenR_bad hr))
  have HO:=Hd (HA.out.only.trans ho)
  rw [hm]
  clear hm hr ho
  go_wp2
  exact ⟨rfl,pe_bad HV.out HO.out⟩
 | ok x3 s3 =>
  obtain ⟨v,rfl,rfl,hp,hl⟩:=hm
  have HB:=Hd (HA.out.call ho hp)
  have HB:=Hd HB.out.drop
  have HG2:=Hd (fun r k => HG.out r (thenR_ok hr k))
  have HL2 : Hid (s3.rest.length ≤ s.rest.length):=Nat.le_trans hl HLN.out
  clear ho hp hl hr HA HG HLN hlb
  have HA:=HB
  have HG:=HG2
  have HLN:=HL2
  clear HB HG2 HL2
  go_wp2_with fail
  refine (expr_pe P (s3) _ HA.out.pa).mono ?_
  rintro e w4 ⟨r,hr,ho,hm⟩
  cases r with
  | bad p =>
   have HV:=Hd (HG.out _ (thenR_bad hr))
   have HO:=Hd (HA.out.only.trans ho)
   rw [hm]
   clear hm hr ho
   go_wp2
   exact ⟨rfl,pe_bad HV.out HO.out⟩
  | ok x4 s4 =>
   obtain ⟨v,rfl,⟨a,m,c,rfl,hx⟩,hp,hl⟩:=hm
   have HB:=Hd (HA.out.gainX ho hp hx)
   have HG2:=Hd (fun r k => HG.out r (thenR_ok hr k))
   have HL2 : Hid (s4.rest.length ≤ s.rest.length):=Nat.le_trans (Nat.le_of_lt hl) HLN.out
   have HS2 : Hid (s4.rest.length < s.rest.length):=Nat.lt_of_lt_of_le hl HLN.out
   clear ho hp hl hr HA HG HLN hx
   have HA:=HB
   have HG:=HG2
   have HLN:=HL2
   clear HB HG2 HL2
   have HLS:=HS2
   clear HS2
   obtain ⟨kk,oo,⟨v1,v2,v3⟩,tt,nn,ks,pp⟩:=x4
   simp only [exV,exC]
   obtain ⟨W5,hW5,HA⟩:=HA.out.pushE (Ve kk oo v1 v2 v3 tt nn (.slice a m c) pp) 49
   obtain ⟨W6,hW6,HA⟩:=HA.out.pushE #[.string ⟨#[41]⟩] 9
   have hlb : P < W5.heap.size:=Nat.lt_of_lt_of_le hPw (HA.out.has _ (List.mem_cons_self)).1
   go_wp2_with fail
   clear hW5 hW6
   refine (need_pp P (s4) (some ⟨W5.heap.size,0,none⟩) [⟨#[41]⟩] 1 W6 HA.out.pa (StrsP.one (HA.out.at 0 rfl) hlb) (by decide)).mono ?_
   rintro e w7 ⟨r,hr,ho,hm⟩
   cases r with
   | bad p =>
    have HV:=Hd (HG.out _ (thenR_bad hr))
    have HO:=Hd (HA.out.only.trans ho)
    rw [hm]
    clear hm hr ho
    go_wp2
    exact ⟨rfl,pe_bad HV.out HO.out⟩
   | ok x7 s7 =>
    obtain ⟨v,rfl,rfl,hp,hl⟩:=hm
    have HB:=Hd (HA.out.call ho hp)
    have HB:=Hd HB.out.drop
    have HG2:=Hd (fun r k => HG.out r (thenR_ok hr k))
    have HL2 : Hid (s7.rest.length ≤ s.rest.length):=Nat.le_trans hl HLN.out
    have HS2 : Hid (s7.rest.length < s.rest.length):=Nat.lt_of_le_of_lt hl HLS.out
    clear ho hp hl hr HA HG HLN hlb HLS
    have HA:=HB
    have HG:=HG2
    have HLN:=HL2
    clear HB HG2 HL2
    have HLS:=HS2
    clear HS2
    have zl:=nine_of (HA.out.at 0 rfl)
    obtain ⟨W8,hW8,HA⟩:=HA.out.pushE (Ve kk oo v1 v2 v3 tt nn (.slice a m c) pp) 49
    go_wp2_with fail
    clear hW8
    have hlb : w.heap.size ≤ w7.heap.size:=(HA.out.has _ (List.mem_cons_self)).1
    refine (over_any kind 0 p0 (some ⟨w7.heap.size,0,none⟩) 1 1 [(Ex.mk kk oo (v1,v2,v3) tt nn ks pp)] _).mono ?_
    rintro e w9 ⟨rfl,hb⟩
    replace HA:=Hd ((HA.out.bel hb).own (J:=fun W => XO W w.heap.size (over kind 0 p0 [(Ex.mk kk oo (v1,v2,v3) tt nn ks pp)]) (.slice (some ⟨w7.heap.size,0,none⟩) 1 1)) fun W h hb => XO.one h.2 (fun _ _ _ => rfl) hb hlb)
    clear hb hlb
    simp only [over,exV,exC,v0]
    have zr:=nine_of (HA.out.at 1 rfl)
    have HV:=Hd (HG.out _ rfl)
    go_wp2
    have HD:=Hd (HA.out.fill 1 rfl [Vi kind,Vi 0,Vi 0,Vi 0,Vs,Vs,Vs,.slice (some ⟨w7.heap.size,0,none⟩) 1 1,Vi (p0 : Int)] rfl)
    obtain ⟨W99,hW99⟩:=Vx (setsL w9 w.heap.size 0 [Vi kind,Vi 0,Vi 0,Vi 0,Vs,Vs,Vs,.slice (some ⟨w7.heap.size,0,none⟩) 1 1,Vi (p0 : Int)])
    rw [hW99] at HD
    simp only [setsL,Nat.reduceAdd] at hW99
    rw [hW99]
    have zy:=(nine_of (HD.out.at 1 rfl)).1
    clear hW99
    exact bodyPost_ret (v:=exV (over kind 0 p0 [(Ex.mk kk oo (v1,v2,v3) tt nn ks pp)]) (.slice (some ⟨w7.heap.size,0,none⟩) 1 1)) (by simp [results,Tryz.results152,go_sem,exV,exC,over,v0,zy]) rfl (pe_ok HV.out HD.out.only ⟨_,1,1,rfl,HD.out.inv.out⟩ HD.out.pa HLS.out)

theorem item_pe (P : Nat) (s : PS) (w : World) (h : PA w P s) : Calls Tryz.prog 129 #[.pointer (some ⟨P,0,none⟩)] w (PE itemR XV P s w):=by
 have HA:=Hd (Au.start h)
 have hPw:=h.lt
 have HLN : Hid (s.rest.length ≤ s.rest.length):=Nat.le_refl _
 have HG : Hid (∀ r,itemR s r → itemR s r):=fun r k => k
 clear h
 go_enter Tryz.func129,Tryz.ntmps129
 obtain ⟨W1,hW1,HA⟩:=HA.out.pushE Vo 49
 obtain ⟨p0,hp0⟩:=Vx s.hd.2
 have HAT:=ath P hp0
 have HP0:=Hd hp0
 clear hp0
 go_wp2_with fail
 clear hW1
 refine (HAT.out _ HA.out.pa).mono ?_
 rintro e w' ⟨rfl,hw⟩
 replace hw:=hw.symm
 subst hw
 clear HAT
 replace HG : Hid (∀ r,ifR wCOUNT (thenR (wantR [[40],[42],[41]]) fun _ => retR (.mk 11 0 v0 ⟨#[]⟩ ⟨#[]⟩ [] p0)) (ifR wSUM (overR 12 p0) (ifR wMIN (overR 13 p0) (ifR wMAX (overR 14 p0) exprR))) s r → itemR s r):=HP0.out ▸ HG.out
 go_wp2_with fail
 refine (skip_any P (s) ⟨#[67,79,85,78,84]⟩ _ HA.out.pa).mono ?_
 rintro e w2 ⟨rfl,hp,ho⟩
 cases hS : (s).sees wCOUNT with
 | true =>
  rw [show (s).sees (⟨#[67,79,85,78,84]⟩ : ByteArray).data.toList = true from hS] at hp ⊢
  rw [if_pos rfl] at hp
  have HB:=Hd (HA.out.call ho hp)
  have HG2:=Hd (fun r k => HG.out r ((if_pos hS).mpr k))
  have HL2 : Hid ((s.next).rest.length ≤ s.rest.length):=Nat.le_trans (tail_le _) HLN.out
  have HS2 : Hid ((s.next).rest.length < s.rest.length):=Nat.lt_of_lt_of_le HA.out.pa.shorter HLN.out
  clear hp ho HA HLN HG
  have HA:=HB
  have HG:=HG2
  clear HG2
  have HLN:=HL2
  clear HB HL2 hS
  have HLS:=HS2
  clear HS2
  obtain ⟨W3,hW3,HA⟩:=HA.out.pushE #[.string ⟨#[40]⟩,.string ⟨#[42]⟩,.string ⟨#[41]⟩] 9
  have hlb : P < w2.heap.size:=Nat.lt_of_lt_of_le hPw (HA.out.has _ (List.mem_cons_self)).1
  go_wp2_with fail
  clear hW3
  refine (need_pp P (s.next) (some ⟨w2.heap.size,0,none⟩) [⟨#[40]⟩,⟨#[42]⟩,⟨#[41]⟩] 3 W3 HA.out.pa (StrsP.three (HA.out.at 0 rfl) hlb) (by decide)).mono ?_
  rintro e w4 ⟨r,hr,ho,hm⟩
  cases r with
  | bad p =>
   have HV:=Hd (HG.out _ (thenR_bad hr))
   have HO:=Hd (HA.out.only.trans ho)
   rw [hm]
   clear hm hr ho
   go_wp2
   exact ⟨rfl,pe_bad HV.out HO.out⟩
  | ok x4 s4 =>
   obtain ⟨v,rfl,rfl,hp,hl⟩:=hm
   have HB:=Hd (HA.out.call ho hp)
   have HB:=Hd HB.out.drop
   have HG2:=Hd (fun r k => HG.out r (thenR_ok hr k))
   have HL2 : Hid (s4.rest.length ≤ s.rest.length):=Nat.le_trans hl HLN.out
   have HS2 : Hid (s4.rest.length < s.rest.length):=Nat.lt_of_le_of_lt hl HLS.out
   clear ho hp hl hr HA HG HLN hlb HLS
   have HA:=HB
   have HG:=HG2
   have HLN:=HL2
   clear HB HG2 HL2
   have HLS:=HS2
   clear HS2
   have zr:=nine_of (HA.out.at 0 rfl)
   have HV:=Hd (HG.out _ rfl)
   go_wp2
   have HD:=Hd (HA.out.fill 0 rfl [Vi 11,Vi 0,Vi 0,Vi 0,Vs,Vs,Vs,Vn,Vi (p0 : Int)] rfl)
   obtain ⟨W99,hW99⟩:=Vx (setsL w4 w.heap.size 0 [Vi 11,Vi 0,Vi 0,Vi 0,Vs,Vs,Vs,Vn,Vi (p0 : Int)])
   rw [hW99] at HD
   simp only [setsL,Nat.reduceAdd] at hW99
   rw [hW99]
   have zy:=(nine_of (HD.out.at 0 rfl)).1
   clear hW99
   exact bodyPost_ret (v:=exV (.mk 11 0 v0 ⟨#[]⟩ ⟨#[]⟩ [] p0) Vn) (by simp [results,Tryz.results129,go_sem,exV,exC,v0,zy]) rfl (pe_ok HV.out HD.out.only ⟨none,0,0,rfl,XO.leaf _ _ _ _ _ _ _ _⟩ HD.out.pa HLS.out)
 | false =>
  rw [show (s).sees (⟨#[67,79,85,78,84]⟩ : ByteArray).data.toList = false from hS] at hp ⊢
  rw [if_neg (by decide)] at hp
  have HB:=Hd (HA.out.call ho hp)
  have HG2:=Hd (fun r k => HG.out r ((if_neg (by rw [hS]; simp)).mpr k))
  have HL2 : Hid ((s).rest.length ≤ s.rest.length):=Nat.le_trans (Nat.le_refl _) HLN.out
  clear hp ho HA HLN HG
  have HA:=HB
  have HG:=HG2
  clear HG2
  have HLN:=HL2
  clear HB HL2 hS
  go_wp2_with fail
  refine (skip_any P (s) ⟨#[83,85,77]⟩ _ HA.out.pa).mono ?_
  rintro e w5 ⟨rfl,hp,ho⟩
  cases hS : (s).sees wSUM with
  | true =>
   rw [show (s).sees (⟨#[83,85,77]⟩ : ByteArray).data.toList = true from hS] at hp ⊢
   rw [if_pos rfl] at hp
   have HB:=Hd (HA.out.call ho hp)
   have HG2:=Hd (fun r k => HG.out r ((if_pos hS).mpr k))
   have HL2 : Hid ((s.next).rest.length ≤ s.rest.length):=Nat.le_trans (tail_le _) HLN.out
   have HS2 : Hid ((s.next).rest.length < s.rest.length):=Nat.lt_of_lt_of_le HA.out.pa.shorter HLN.out
   clear hp ho HA HLN HG
   have HA:=HB
   have HG:=HG2
   clear HG2
   have HLN:=HL2
   clear HB HL2 hS
   have HLS:=HS2
   clear HS2
   go_wp2_with fail
   refine (over_pe P 12 p0 (s.next) _ HA.out.pa).mono ?_
   rintro e w6 ⟨r,hr,ho,hm⟩
   have HV:=Hd (HG.out _ hr)
   cases r with
   | bad p =>
    have HO:=Hd (HA.out.only.trans ho)
    rw [hm]
    clear hm hr ho
    go_wp2
    exact ⟨rfl,pe_bad HV.out HO.out⟩
   | ok x6 s6 =>
    obtain ⟨v,rfl,⟨a,m,c,rfl,hx⟩,hp,hl⟩:=hm
    have HB:=Hd (HA.out.gainX ho hp hx)
    have HL2 : Hid (s6.rest.length ≤ s.rest.length):=Nat.le_trans (Nat.le_of_lt hl) HLN.out
    have HS2 : Hid (s6.rest.length < s.rest.length):=Nat.lt_of_lt_of_le hl HLN.out
    clear ho hp hl hr HA HG HLN hx HLS
    have HA:=HB
    have HLN:=HL2
    clear HB HL2
    have HLS:=HS2
    clear HS2
    obtain ⟨kk,oo,⟨v1,v2,v3⟩,tt,nn,ks,pp⟩:=x6
    simp only [exV,exC]
    have zr:=nine_of (HA.out.at 0 rfl)
    go_wp2
    have HD:=Hd (HA.out.fill 0 rfl [Vi kk,Vi oo,Vi v1,Vi v2,.string v3,.string tt,.string nn,.slice a m c,Vi pp] rfl)
    obtain ⟨W99,hW99⟩:=Vx (setsL w6 w.heap.size 0 [Vi kk,Vi oo,Vi v1,Vi v2,.string v3,.string tt,.string nn,.slice a m c,Vi pp])
    rw [hW99] at HD
    simp only [setsL,Nat.reduceAdd] at hW99
    rw [hW99]
    have zy:=(nine_of (HD.out.at 0 rfl)).1
    clear hW99
    exact bodyPost_ret (v:=exV (Ex.mk kk oo (v1,v2,v3) tt nn ks pp) (.slice a m c)) (by simp [results,Tryz.results129,go_sem,exV,exC,zy]) rfl (pe_ok HV.out HD.out.only ⟨a,m,c,rfl,HD.out.inv.out.2⟩ HD.out.pa HLS.out)
  | false =>
   rw [show (s).sees (⟨#[83,85,77]⟩ : ByteArray).data.toList = false from hS] at hp ⊢
   rw [if_neg (by decide)] at hp
   have HB:=Hd (HA.out.call ho hp)
   have HG2:=Hd (fun r k => HG.out r ((if_neg (by rw [hS]; simp)).mpr k))
   have HL2 : Hid ((s).rest.length ≤ s.rest.length):=Nat.le_trans (Nat.le_refl _) HLN.out
   clear hp ho HA HLN HG
   have HA:=HB
   have HG:=HG2
   clear HG2
   have HLN:=HL2
   clear HB HL2 hS
   go_wp2_with fail
   refine (skip_any P (s) ⟨#[77,73,78]⟩ _ HA.out.pa).mono ?_
   rintro e w7 ⟨rfl,hp,ho⟩
   cases hS : (s).sees wMIN with
   | true =>
    rw [show (s).sees (⟨#[77,73,78]⟩ : ByteArray).data.toList = true from hS] at hp ⊢
    rw [if_pos rfl] at hp
    have HB:=Hd (HA.out.call ho hp)
    have HG2:=Hd (fun r k => HG.out r ((if_pos hS).mpr k))
    have HL2 : Hid ((s.next).rest.length ≤ s.rest.length):=Nat.le_trans (tail_le _) HLN.out
    have HS2 : Hid ((s.next).rest.length < s.rest.length):=Nat.lt_of_lt_of_le HA.out.pa.shorter HLN.out
    clear hp ho HA HLN HG
    have HA:=HB
    have HG:=HG2
    clear HG2
    have HLN:=HL2
    clear HB HL2 hS
    have HLS:=HS2
    clear HS2
    go_wp2_with fail
    refine (over_pe P 13 p0 (s.next) _ HA.out.pa).mono ?_
    rintro e w8 ⟨r,hr,ho,hm⟩
    have HV:=Hd (HG.out _ hr)
    cases r with
    | bad p =>
     have HO:=Hd (HA.out.only.trans ho)
     rw [hm]
     clear hm hr ho
     go_wp2
     exact ⟨rfl,pe_bad HV.out HO.out⟩
    | ok x8 s8 =>
     obtain ⟨v,rfl,⟨a,m,c,rfl,hx⟩,hp,hl⟩:=hm
     have HB:=Hd (HA.out.gainX ho hp hx)
     have HL2 : Hid (s8.rest.length ≤ s.rest.length):=Nat.le_trans (Nat.le_of_lt hl) HLN.out
     have HS2 : Hid (s8.rest.length < s.rest.length):=Nat.lt_of_lt_of_le hl HLN.out
     clear ho hp hl hr HA HG HLN hx HLS
     have HA:=HB
     have HLN:=HL2
     clear HB HL2
     have HLS:=HS2
     clear HS2
     obtain ⟨kk,oo,⟨v1,v2,v3⟩,tt,nn,ks,pp⟩:=x8
     simp only [exV,exC]
     have zr:=nine_of (HA.out.at 0 rfl)
     go_wp2
     have HD:=Hd (HA.out.fill 0 rfl [Vi kk,Vi oo,Vi v1,Vi v2,.string v3,.string tt,.string nn,.slice a m c,Vi pp] rfl)
     obtain ⟨W99,hW99⟩:=Vx (setsL w8 w.heap.size 0 [Vi kk,Vi oo,Vi v1,Vi v2,.string v3,.string tt,.string nn,.slice a m c,Vi pp])
     rw [hW99] at HD
     simp only [setsL,Nat.reduceAdd] at hW99
     rw [hW99]
     have zy:=(nine_of (HD.out.at 0 rfl)).1
     clear hW99
     exact bodyPost_ret (v:=exV (Ex.mk kk oo (v1,v2,v3) tt nn ks pp) (.slice a m c)) (by simp [results,Tryz.results129,go_sem,exV,exC,zy]) rfl (pe_ok HV.out HD.out.only ⟨a,m,c,rfl,HD.out.inv.out.2⟩ HD.out.pa HLS.out)
   | false =>
    rw [show (s).sees (⟨#[77,73,78]⟩ : ByteArray).data.toList = false from hS] at hp ⊢
    rw [if_neg (by decide)] at hp
    have HB:=Hd (HA.out.call ho hp)
    have HG2:=Hd (fun r k => HG.out r ((if_neg (by rw [hS]; simp)).mpr k))
    have HL2 : Hid ((s).rest.length ≤ s.rest.length):=Nat.le_trans (Nat.le_refl _) HLN.out
    clear hp ho HA HLN HG
    have HA:=HB
    have HG:=HG2
    clear HG2
    have HLN:=HL2
    clear HB HL2 hS
    go_wp2_with fail
    refine (skip_any P (s) ⟨#[77,65,88]⟩ _ HA.out.pa).mono ?_
    rintro e w9 ⟨rfl,hp,ho⟩
    cases hS : (s).sees wMAX with
    | true =>
     rw [show (s).sees (⟨#[77,65,88]⟩ : ByteArray).data.toList = true from hS] at hp ⊢
     rw [if_pos rfl] at hp
     have HB:=Hd (HA.out.call ho hp)
     have HG2:=Hd (fun r k => HG.out r ((if_pos hS).mpr k))
     have HL2 : Hid ((s.next).rest.length ≤ s.rest.length):=Nat.le_trans (tail_le _) HLN.out
     have HS2 : Hid ((s.next).rest.length < s.rest.length):=Nat.lt_of_lt_of_le HA.out.pa.shorter HLN.out
     clear hp ho HA HLN HG
     have HA:=HB
     have HG:=HG2
     clear HG2
     have HLN:=HL2
     clear HB HL2 hS
     have HLS:=HS2
     clear HS2
     go_wp2_with fail
     refine (over_pe P 14 p0 (s.next) _ HA.out.pa).mono ?_
     rintro e w10 ⟨r,hr,ho,hm⟩
     have HV:=Hd (HG.out _ hr)
     cases r with
     | bad p =>
      have HO:=Hd (HA.out.only.trans ho)
      rw [hm]
      clear hm hr ho
      go_wp2
      exact ⟨rfl,pe_bad HV.out HO.out⟩
     | ok x10 s10 =>
      obtain ⟨v,rfl,⟨a,m,c,rfl,hx⟩,hp,hl⟩:=hm
      have HB:=Hd (HA.out.gainX ho hp hx)
      have HL2 : Hid (s10.rest.length ≤ s.rest.length):=Nat.le_trans (Nat.le_of_lt hl) HLN.out
      have HS2 : Hid (s10.rest.length < s.rest.length):=Nat.lt_of_lt_of_le hl HLN.out
      clear ho hp hl hr HA HG HLN hx HLS
      have HA:=HB
      have HLN:=HL2
      clear HB HL2
      have HLS:=HS2
      clear HS2
      obtain ⟨kk,oo,⟨v1,v2,v3⟩,tt,nn,ks,pp⟩:=x10
      simp only [exV,exC]
      have zr:=nine_of (HA.out.at 0 rfl)
      go_wp2
      have HD:=Hd (HA.out.fill 0 rfl [Vi kk,Vi oo,Vi v1,Vi v2,.string v3,.string tt,.string nn,.slice a m c,Vi pp] rfl)
      obtain ⟨W99,hW99⟩:=Vx (setsL w10 w.heap.size 0 [Vi kk,Vi oo,Vi v1,Vi v2,.string v3,.string tt,.string nn,.slice a m c,Vi pp])
      rw [hW99] at HD
      simp only [setsL,Nat.reduceAdd] at hW99
      rw [hW99]
      have zy:=(nine_of (HD.out.at 0 rfl)).1
      clear hW99
      exact bodyPost_ret (v:=exV (Ex.mk kk oo (v1,v2,v3) tt nn ks pp) (.slice a m c)) (by simp [results,Tryz.results129,go_sem,exV,exC,zy]) rfl (pe_ok HV.out HD.out.only ⟨a,m,c,rfl,HD.out.inv.out.2⟩ HD.out.pa HLS.out)
    | false =>
     rw [show (s).sees (⟨#[77,65,88]⟩ : ByteArray).data.toList = false from hS] at hp ⊢
     rw [if_neg (by decide)] at hp
     have HB:=Hd (HA.out.call ho hp)
     have HG2:=Hd (fun r k => HG.out r ((if_neg (by rw [hS]; simp)).mpr k))
     have HL2 : Hid ((s).rest.length ≤ s.rest.length):=Nat.le_trans (Nat.le_refl _) HLN.out
     clear hp ho HA HLN HG
     have HA:=HB
     have HG:=HG2
     clear HG2
     have HLN:=HL2
     clear HB HL2 hS
     go_wp2_with fail
     refine (expr_pe P (s) _ HA.out.pa).mono ?_
     rintro e w11 ⟨r,hr,ho,hm⟩
     have HV:=Hd (HG.out _ hr)
     cases r with
     | bad p =>
      have HO:=Hd (HA.out.only.trans ho)
      rw [hm]
      clear hm hr ho
      go_wp2
      exact ⟨rfl,pe_bad HV.out HO.out⟩
     | ok x11 s11 =>
      obtain ⟨v,rfl,⟨a,m,c,rfl,hx⟩,hp,hl⟩:=hm
      have HB:=Hd (HA.out.gainX ho hp hx)
      have HL2 : Hid (s11.rest.length ≤ s.rest.length):=Nat.le_trans (Nat.le_of_lt hl) HLN.out
      have HS2 : Hid (s11.rest.length < s.rest.length):=Nat.lt_of_lt_of_le hl HLN.out
      clear ho hp hl hr HA HG HLN hx
      have HA:=HB
      have HLN:=HL2
      clear HB HL2
      have HLS:=HS2
      clear HS2
      obtain ⟨kk,oo,⟨v1,v2,v3⟩,tt,nn,ks,pp⟩:=x11
      simp only [exV,exC]
      have zr:=nine_of (HA.out.at 0 rfl)
      go_wp2
      have HD:=Hd (HA.out.fill 0 rfl [Vi kk,Vi oo,Vi v1,Vi v2,.string v3,.string tt,.string nn,.slice a m c,Vi pp] rfl)
      obtain ⟨W99,hW99⟩:=Vx (setsL w11 w.heap.size 0 [Vi kk,Vi oo,Vi v1,Vi v2,.string v3,.string tt,.string nn,.slice a m c,Vi pp])
      rw [hW99] at HD
      simp only [setsL,Nat.reduceAdd] at hW99
      rw [hW99]
      have zy:=(nine_of (HD.out.at 0 rfl)).1
      clear hW99
      exact bodyPost_ret (v:=exV (Ex.mk kk oo (v1,v2,v3) tt nn ks pp) (.slice a m c)) (by simp [results,Tryz.results129,go_sem,exV,exC,zy]) rfl (pe_ok HV.out HD.out.only ⟨a,m,c,rfl,HD.out.inv.out.2⟩ HD.out.pa HLS.out)

theorem sort_pe (P : Nat) (s : PS) (w : World) (h : PA w P s) : Calls Tryz.prog 132 #[.pointer (some ⟨P,0,none⟩)] w (PE sortR SoV P s w):=by
 have HA:=Hd (Au.start h)
 have hPw:=h.lt
 have HLN : Hid (s.rest.length ≤ s.rest.length):=Nat.le_refl _
 have HG : Hid (∀ r,sortR s r → sortR s r):=fun r k => k
 clear h
 go_enter Tryz.func132,Tryz.ntmps132
 obtain ⟨W1,hW1,HA⟩:=HA.out.pushE #[Vi 0,.bool false,Vi 0] 70
 go_wp2_with fail
 clear hW1
 have HSH:=Hd HA.out.pa.shorter
 refine (number_pp P (s) _ HA.out.pa).mono ?_
 rintro e w2 ⟨r,hr,ho,hm⟩
 cases r with
 | bad p =>
  have HV:=Hd (HG.out _ (thenR_bad hr))
  have HO:=Hd (HA.out.only.trans ho)
  rw [hm]
  clear hm hr ho
  go_wp2
  exact ⟨rfl,pe_bad HV.out HO.out⟩
 | ok x2 s2 =>
  obtain ⟨v,rfl,hx,hp,hl⟩:=hm
  have hr0:=hr
  have HB:=Hd (HA.out.call ho hp)
  have HG2:=Hd (fun r k => HG.out r (thenR_ok hr k))
  have HL2 : Hid (s2.rest.length ≤ s.rest.length):=Nat.le_trans hl HLN.out
  clear ho hp hl hr HA HG HLN
  have HA:=HB
  have HG:=HG2
  have HLN:=HL2
  clear HB HG2 HL2
  have HNX : Hid (s2.rest.length < s.rest.length):=Hd (by have h0 : Res.ok x2 s2 = if s.hd.1.1 = 2 then .ok s.hd s.next else .bad s.hd.2:=hr0; split at h0; (· injection h0 with _ h0; rw [h0]; exact HSH.out); (· exact absurd h0 (by simp)))
  clear hr0
  obtain ⟨⟨tk,tn,tt⟩,ta⟩:=x2
  rw [show v = .agg (Vk tk tn tt ta) from hx]
  clear hx
  obtain ⟨W3,hW3,HA⟩:=HA.out.pushE (Vk tk tn tt ta) 97
  have zt:=four_of (HA.out.at 0 rfl)
  go_wp2
  clear hW3
  go_region_law (first
   | (go_simp; go_at_call 70; refine (skip_any P s2 ⟨#[68,69,83,67]⟩ _ (HA.out.bel (below_draws _ _)).pa).mono ?_; rintro e w90 ⟨rfl,hp,ho⟩; (have HB:=Hd ((HA.out.bel (below_draws _ _)).call ho hp)); (have HQ:=Hd hp); clear hp ho; obtain ⟨⟨q0,q1,q2,q3⟩,-⟩:=four_of (HB.out.at 0 rfl); obtain ⟨⟨r0,r1,r2⟩,g0,g1,g2⟩:=three_of (HB.out.at 1 rfl)))
  all_goals
   have HG9 : Hid (sortR s (.ok (tn,s2.sees wDESC,(ta : Int)) (if s2.sees wDESC = true then s2.next else s2))):=Hd (HG.out _ (by show (if _ then _ else _); cases hS : s2.sees wDESC with | true => rw [if_pos rfl,if_pos rfl]; rfl | false => rw [if_neg (by decide),if_neg (by decide)]; rfl))
   have HL9 : Hid ((if s2.sees wDESC = true then s2.next else s2).rest.length < s.rest.length):=Hd (by split; (· exact Nat.lt_of_le_of_lt (tail_le _) HNX.out); (· exact HNX.out))
   obtain ⟨b,hb⟩:=Vx (s2.sees wDESC)
   have hb2 : s2.sees (⟨#[68,69,83,67]⟩ : ByteArray).data.toList = b:=hb
   rw [hb] at HG9 HL9
   rw [hb2] at HB ⊢
   clear hb hb2
   go_wp2
   have HD:=Hd (HB.out.fill 1 rfl [Vi tn,.bool b,Vi (ta : Int)] rfl)
   obtain ⟨W99,hW99⟩:=Vx (setsL w90 w.heap.size 0 [Vi tn,.bool b,Vi (ta : Int)])
   rw [hW99] at HD
   simp only [setsL,Nat.reduceAdd] at hW99
   rw [hW99]
   have zy:=(three_of (HD.out.at 1 rfl)).1
   clear hW99
   exact bodyPost_ret (v:=.agg (soC (tn,b,(ta : Int))).toArray) (by simp [results,Tryz.results132,go_sem,soC,zy]) rfl (pe_ok HG9.out HD.out.only rfl HD.out.pa HL9.out)

def stC (t : St) (on whr items sets groups sorts limit : Value) : List Value:=[Vi t.kind,.string t.table,.string t.join,on,whr,items,.bool t.star,sets,groups,sorts,limit,Vi t.place,Vi t.joinAt]

structure StO (w : World) (B : Nat) (t : St) (on whr items sets groups sorts limit : Value) : Prop where
 on : XL w B t.on on
 whr : XL w B t.whr whr
 items : XL w B t.items items
 sets : SeL w B t.sets sets
 groups : XL w B t.groups groups
 sorts : SoL w B t.sorts sorts
 limit : IL w B t.limit limit

theorem StO.keep {w W : World} {B : Nat} {t : St} {a b c d e f g : Value} (h : StO w B t a b c d e f g) (hk : ∀ g,B ≤ g → g < w.heap.size → W.heap[g]? = w.heap[g]?) : StO W B t a b c d e f g:=⟨h.on.keep hk,h.whr.keep hk,h.items.keep hk,h.sets.keep hk,h.groups.keep hk,h.sorts.keep hk,h.limit.keep hk⟩

theorem StO.mono {w : World} {B B' : Nat} {t : St} {a b c d e f g : Value} (h : StO w B t a b c d e f g) (hB : B' ≤ B) : StO w B' t a b c d e f g:=⟨h.on.mono hB,h.whr.mono hB,h.items.mono hB,h.sets.mono hB,h.groups.mono hB,h.sorts.mono hB,h.limit.mono hB⟩

def StV (w : World) (B : Nat) (t : St) (v : Value) : Prop:=∃ (a0 a1 a2 a3 a4 a5 a6 : Option Addr) (c0 c1 c2 c3 c4 c5 c6 : Nat),v = .agg (stC t (.slice a0 t.on.length c0) (.slice a1 t.whr.length c1) (.slice a2 t.items.length c2) (.slice a3 t.sets.length c3) (.slice a4 t.groups.length c4) (.slice a5 t.sorts.length c5) (.slice a6 t.limit.length c6)).toArray ∧ StO w B t (.slice a0 t.on.length c0) (.slice a1 t.whr.length c1) (.slice a2 t.items.length c2) (.slice a3 t.sets.length c3) (.slice a4 t.groups.length c4) (.slice a5 t.sorts.length c5) (.slice a6 t.limit.length c6)

theorem ins_pp (P : Nat) (s : PS) (w : World) (h : PA w P s) : Calls Tryz.prog 102 #[.pointer (some ⟨P,0,none⟩)] w (PP insR StV P s w):=by
 have HA:=Hd (Au.start h)
 have hPw:=h.lt
 have HLN : Hid (s.rest.length ≤ s.rest.length):=Nat.le_refl _
 have HG : Hid (∀ r,insR s r → insR s r):=fun r k => k
 clear h
 go_enter Tryz.func102,Tryz.ntmps102
 obtain ⟨W1,hW1,HA⟩:=HA.out.pushE Vq 27
 obtain ⟨W2,hW2,HA⟩:=HA.out.pushE (Vt 1 Vz Vz Vn Vn Vn false Vn Vn Vn Vn 0 0) 27
 obtain ⟨W3,hW3,HA⟩:=HA.out.pushE #[.string ⟨#[73,78,84,79]⟩] 9
 have hlb : P < W2.heap.size:=Nat.lt_of_lt_of_le hPw (HA.out.has _ (List.mem_cons_self)).1
 have HhW2:=Hd hW2
 clear hW2
 have HhW3:=Hd hW3
 clear hW3
 go_wp2_with fail
 have hsz : W1.heap.size + 1 = W2.heap.size:=by rw [← HhW2.out]; simp
 try rw [hsz]
 clear hsz
 rw [HhW2.out]
 clear HhW2
 rw [HhW3.out]
 clear HhW3
 clear hW1
 refine (need_pp P (s) (some ⟨W2.heap.size,0,none⟩) [⟨#[73,78,84,79]⟩] 1 W3 HA.out.pa (StrsP.one (HA.out.at 0 rfl) hlb) (by decide)).mono ?_
 rintro e w4 ⟨r,hr,ho,hm⟩
 cases r with
 | bad p =>
  have HV:=Hd (HG.out _ (thenR_bad hr))
  have HO:=Hd (HA.out.only.trans ho)
  rw [hm]
  clear hm hr ho
  go_wp2
  exact ⟨rfl,pp_bad HV.out HO.out⟩
 | ok x4 s4 =>
  obtain ⟨v,rfl,rfl,hp,hl⟩:=hm
  have HB:=Hd (HA.out.call ho hp)
  have HB:=Hd HB.out.drop
  have HG2:=Hd (fun r k => HG.out r (thenR_ok hr k))
  have HL2 : Hid (s4.rest.length ≤ s.rest.length):=Nat.le_trans hl HLN.out
  clear ho hp hl hr HA HG HLN hlb
  have HA:=HB
  have HG:=HG2
  have HLN:=HL2
  clear HB HG2 HL2
  go_wp2_with fail
  refine (name_pp P (s4) _ HA.out.pa).mono ?_
  rintro e w5 ⟨r,hr,ho,hm⟩
  cases r with
  | bad p =>
   have HV:=Hd (HG.out _ (thenR_bad hr))
   have HO:=Hd (HA.out.only.trans ho)
   rw [hm]
   clear hm hr ho
   go_wp2
   exact ⟨rfl,pp_bad HV.out HO.out⟩
  | ok x5 s5 =>
   obtain ⟨v,rfl,rfl,hp,hl⟩:=hm
   have HB:=Hd (HA.out.call ho hp)
   have HG2:=Hd (fun r k => HG.out r (thenR_ok hr k))
   have HL2 : Hid (s5.rest.length ≤ s.rest.length):=Nat.le_trans hl HLN.out
   clear ho hp hl hr HA HG HLN
   have HA:=HB
   have HG:=HG2
   have HLN:=HL2
   clear HB HG2 HL2
   obtain ⟨⟨a0,a1,a2,a3,a4,a5,a6,a7,a8,a9,a10,a11,a12⟩,af0,af1,af2,af3,af4,af5,af6,af7,af8,af9,af10,af11,af12⟩:=thirt_of (HA.out.at 0 rfl)
   replace HA:=Hd (Au.puts 0 [.string x5] 1 HA.out rfl)
   simp only [putsA,Sa,Sb,Sc] at HA
   obtain ⟨W6,hW6⟩:=Vx (setsL w5 (W1.heap.size) 1 [.string x5])
   rw [hW6] at HA
   simp only [setsL] at hW6
   obtain ⟨W7,hW7,HA⟩:=HA.out.pushE #[.string ⟨#[86,65,76,85,69,83]⟩,.string ⟨#[40]⟩] 9
   have hlb : P < W6.heap.size:=Nat.lt_of_lt_of_le hPw (HA.out.has _ (List.mem_cons_self)).1
   go_wp2_with fail
   clear hW6 hW7
   refine (need_pp P (s5) (some ⟨W6.heap.size,0,none⟩) [⟨#[86,65,76,85,69,83]⟩,⟨#[40]⟩] 2 W7 HA.out.pa (StrsP.two (HA.out.at 0 rfl) hlb) (by decide)).mono ?_
   rintro e w8 ⟨r,hr,ho,hm⟩
   cases r with
   | bad p =>
    have HV:=Hd (HG.out _ (thenR_bad hr))
    have HO:=Hd (HA.out.only.trans ho)
    rw [hm]
    clear hm hr ho
    go_wp2
    exact ⟨rfl,pp_bad HV.out HO.out⟩
   | ok x8 s8 =>
    obtain ⟨v,rfl,rfl,hp,hl⟩:=hm
    have HB:=Hd (HA.out.call ho hp)
    have HB:=Hd HB.out.drop
    have HG2:=Hd (fun r k => HG.out r (thenR_ok hr k))
    have HL2 : Hid (s8.rest.length ≤ s.rest.length):=Nat.le_trans hl HLN.out
    clear ho hp hl hr HA HG HLN hlb
    have HA:=HB
    have HG:=HG2
    have HLN:=HL2
    clear HB HG2 HL2
    go_wp2_with fail
    refine (list_expr exprR P 16 (s8) _ HA.out.pa (fun s w h => expr_pe P s w h)).mono ?_
    rintro e w9 ⟨r,hr,ho,hm⟩
    cases r with
    | bad p =>
     have HV:=Hd (HG.out _ (thenR_bad hr))
     have HO:=Hd (HA.out.only.trans ho)
     rw [hm]
     clear hm hr ho
     go_wp2
     exact ⟨rfl,pp_bad HV.out HO.out⟩
    | ok x9 s9 =>
     obtain ⟨v,rfl,⟨a5,c5,rfl,hx⟩,hp,hl⟩:=hm
     have HB:=Hd (HA.out.gain ho hp (fun W => XL W w.heap.size _ _) fun _ hW => (hx.keep hW).mono HA.out.only.size)
     have HG2:=Hd (fun r k => HG.out r (thenR_ok hr k))
     have HL2 : Hid (s9.rest.length ≤ s.rest.length):=Nat.le_trans hl HLN.out
     clear ho hp hl hr HA HG HLN hx
     have HA:=HB
     have HG:=HG2
     have HLN:=HL2
     clear HB HG2 HL2
     have zb:=thirt_of (HA.out.at 0 rfl)
     replace HA:=Hd (Au.puts 0 [.slice a5 x9.length c5] 5 HA.out rfl)
     simp only [putsA,Sa,Sb,Sc] at HA
     obtain ⟨W10,hW10⟩:=Vx (setsL w9 (W1.heap.size) 5 [.slice a5 x9.length c5])
     rw [hW10] at HA
     simp only [setsL] at hW10
     obtain ⟨W11,hW11,HA⟩:=HA.out.pushE #[.string ⟨#[41]⟩] 9
     have hlb : P < W10.heap.size:=Nat.lt_of_lt_of_le hPw (HA.out.has _ (List.mem_cons_self)).1
     go_wp2_with fail
     clear hW10 hW11
     refine (need_pp P (s9) (some ⟨W10.heap.size,0,none⟩) [⟨#[41]⟩] 1 W11 HA.out.pa (StrsP.one (HA.out.at 0 rfl) hlb) (by decide)).mono ?_
     rintro e w12 ⟨r,hr,ho,hm⟩
     cases r with
     | bad p =>
      have HV:=Hd (HG.out _ (thenR_bad hr))
      have HO:=Hd (HA.out.only.trans ho)
      rw [hm]
      clear hm hr ho
      go_wp2
      exact ⟨rfl,pp_bad HV.out HO.out⟩
     | ok x12 s12 =>
      obtain ⟨v,rfl,rfl,hp,hl⟩:=hm
      have HB:=Hd (HA.out.call ho hp)
      have HB:=Hd HB.out.drop
      have HG2:=Hd (fun r k => HG.out r (thenR_ok hr k))
      have HL2 : Hid (s12.rest.length ≤ s.rest.length):=Nat.le_trans hl HLN.out
      clear ho hp hl hr HA HG HLN hlb
      have HA:=HB
      have HG:=HG2
      have HLN:=HL2
      clear HB HG2 HL2
      have zd:=thirt_of (HA.out.at 0 rfl)
      have zr:=thirt_of (HA.out.at 1 rfl)
      have HQ:=Hd HA.out.inv
      clear HQ
      have HV:=Hd (HG.out _ rfl)
      go_wp2
      have HD:=Hd (HA.out.fill 1 rfl [Vi 1,.string x5,Vs,Vn,Vn,.slice a5 x9.length c5,.bool false,Vn,Vn,Vn,Vn,Vi 0,Vi 0] rfl)
      obtain ⟨W99,hW99⟩:=Vx (setsL w12 w.heap.size 0 [Vi 1,.string x5,Vs,Vn,Vn,.slice a5 x9.length c5,.bool false,Vn,Vn,Vn,Vn,Vi 0,Vi 0])
      rw [hW99] at HD
      simp only [setsL,Nat.reduceAdd] at hW99
      rw [hW99]
      have zy:=(thirt_of (HD.out.at 1 rfl)).1
      clear hW99
      exact bodyPost_ret (v:=.agg (Vt 1 x5 Vz Vn Vn (.slice a5 x9.length c5) false Vn Vn Vn Vn 0 0)) (by simp [results,Tryz.results102,go_sem,zy]) rfl (pp_ok HV.out HD.out.only (show StV _ _ ({ st0 with kind:=1,table:=x5,items:=x9 } : St) _ from ⟨none,none,a5,none,none,none,none,0,0,c5,0,0,0,0,rfl,⟨XL.nil _ _,XL.nil _ _,HD.out.inv.out.2,SeL.nil _ _,XL.nil _ _,SoL.nil _ _,IL.nil _ _⟩⟩) HD.out.pa HLN.out)

theorem upd_pp (P : Nat) (s : PS) (w : World) (h : PA w P s) : Calls Tryz.prog 103 #[.pointer (some ⟨P,0,none⟩)] w (PP updR StV P s w):=by
 have HA:=Hd (Au.start h)
 have hPw:=h.lt
 have HLN : Hid (s.rest.length ≤ s.rest.length):=Nat.le_refl _
 have HG : Hid (∀ r,updR s r → updR s r):=fun r k => k
 clear h
 go_enter Tryz.func103,Tryz.ntmps103
 obtain ⟨W1,hW1,HA⟩:=HA.out.pushE Vq 27
 obtain ⟨W2,hW2,HA⟩:=HA.out.pushE (Vt 2 Vz Vz Vn Vn Vn false Vn Vn Vn Vn 0 0) 27
 have HhW2:=Hd hW2
 clear hW2
 go_wp2_with fail
 have hsz : W1.heap.size + 1 = W2.heap.size:=by rw [← HhW2.out]; simp
 try rw [hsz]
 clear hsz
 rw [HhW2.out]
 clear HhW2
 clear hW1
 refine (name_pp P (s) _ HA.out.pa).mono ?_
 rintro e w3 ⟨r,hr,ho,hm⟩
 cases r with
 | bad p =>
  have HV:=Hd (HG.out _ (thenR_bad hr))
  have HO:=Hd (HA.out.only.trans ho)
  rw [hm]
  clear hm hr ho
  go_wp2
  exact ⟨rfl,pp_bad HV.out HO.out⟩
 | ok x3 s3 =>
  obtain ⟨v,rfl,rfl,hp,hl⟩:=hm
  have HB:=Hd (HA.out.call ho hp)
  have HG2:=Hd (fun r k => HG.out r (thenR_ok hr k))
  have HL2 : Hid (s3.rest.length ≤ s.rest.length):=Nat.le_trans hl HLN.out
  clear ho hp hl hr HA HG HLN
  have HA:=HB
  have HG:=HG2
  have HLN:=HL2
  clear HB HG2 HL2
  obtain ⟨⟨a0,a1,a2,a3,a4,a5,a6,a7,a8,a9,a10,a11,a12⟩,af0,af1,af2,af3,af4,af5,af6,af7,af8,af9,af10,af11,af12⟩:=thirt_of (HA.out.at 0 rfl)
  replace HA:=Hd (Au.puts 0 [.string x3] 1 HA.out rfl)
  simp only [putsA,Sa,Sb,Sc] at HA
  obtain ⟨W4,hW4⟩:=Vx (setsL w3 (W1.heap.size) 1 [.string x3])
  rw [hW4] at HA
  simp only [setsL] at hW4
  obtain ⟨W5,hW5,HA⟩:=HA.out.pushE #[.string ⟨#[83,69,84]⟩] 9
  have hlb : P < W4.heap.size:=Nat.lt_of_lt_of_le hPw (HA.out.has _ (List.mem_cons_self)).1
  go_wp2_with fail
  clear hW4 hW5
  refine (need_pp P (s3) (some ⟨W4.heap.size,0,none⟩) [⟨#[83,69,84]⟩] 1 W5 HA.out.pa (StrsP.one (HA.out.at 0 rfl) hlb) (by decide)).mono ?_
  rintro e w6 ⟨r,hr,ho,hm⟩
  cases r with
  | bad p =>
   have HV:=Hd (HG.out _ (thenR_bad hr))
   have HO:=Hd (HA.out.only.trans ho)
   rw [hm]
   clear hm hr ho
   go_wp2
   exact ⟨rfl,pp_bad HV.out HO.out⟩
  | ok x6 s6 =>
   obtain ⟨v,rfl,rfl,hp,hl⟩:=hm
   have HB:=Hd (HA.out.call ho hp)
   have HB:=Hd HB.out.drop
   have HG2:=Hd (fun r k => HG.out r (thenR_ok hr k))
   have HL2 : Hid (s6.rest.length ≤ s.rest.length):=Nat.le_trans hl HLN.out
   clear ho hp hl hr HA HG HLN hlb
   have HA:=HB
   have HG:=HG2
   have HLN:=HL2
   clear HB HG2 HL2
   go_wp2_with fail
   refine (list_set setR P 16 (s6) _ HA.out.pa (fun s w h => set_pe P s w h)).mono ?_
   rintro e w7 ⟨r,hr,ho,hm⟩
   cases r with
   | bad p =>
    have HV:=Hd (HG.out _ (thenR_bad hr))
    have HO:=Hd (HA.out.only.trans ho)
    rw [hm]
    clear hm hr ho
    go_wp2
    exact ⟨rfl,pp_bad HV.out HO.out⟩
   | ok x7 s7 =>
    obtain ⟨v,rfl,⟨a7,c7,rfl,hx⟩,hp,hl⟩:=hm
    have HB:=Hd (HA.out.gain ho hp (fun W => SeL W w.heap.size _ _) fun _ hW => (hx.keep hW).mono HA.out.only.size)
    have HG2:=Hd (fun r k => HG.out r (thenR_ok hr k))
    have HL2 : Hid (s7.rest.length ≤ s.rest.length):=Nat.le_trans hl HLN.out
    clear ho hp hl hr HA HG HLN hx
    have HA:=HB
    have HG:=HG2
    have HLN:=HL2
    clear HB HG2 HL2
    have zb:=thirt_of (HA.out.at 0 rfl)
    replace HA:=Hd (Au.puts 0 [.slice a7 x7.length c7] 7 HA.out rfl)
    simp only [putsA,Sa,Sb,Sc] at HA
    obtain ⟨W8,hW8⟩:=Vx (setsL w7 (W1.heap.size) 7 [.slice a7 x7.length c7])
    rw [hW8] at HA
    simp only [setsL] at hW8
    go_wp2_with fail
    clear hW8
    refine (where_pp P (s7) _ HA.out.pa).mono ?_
    rintro e w9 ⟨r,hr,ho,hm⟩
    cases r with
    | bad p =>
     have HV:=Hd (HG.out _ (thenR_bad hr))
     have HO:=Hd (HA.out.only.trans ho)
     rw [hm]
     clear hm hr ho
     go_wp2
     exact ⟨rfl,pp_bad HV.out HO.out⟩
    | ok x9 s9 =>
     obtain ⟨v,rfl,⟨a4,c4,rfl,hx⟩,hp,hl⟩:=hm
     have HB:=Hd (HA.out.gain ho hp (fun W => XL W w.heap.size _ _) fun _ hW => (hx.keep hW).mono HA.out.only.size)
     have HG2:=Hd (fun r k => HG.out r (thenR_ok hr k))
     have HL2 : Hid (s9.rest.length ≤ s.rest.length):=Nat.le_trans hl HLN.out
     clear ho hp hl hr HA HG HLN hx
     have HA:=HB
     have HG:=HG2
     have HLN:=HL2
     clear HB HG2 HL2
     have zg:=thirt_of (HA.out.at 0 rfl)
     replace HA:=Hd (Au.puts 0 [.slice a4 x9.length c4] 4 HA.out rfl)
     simp only [putsA,Sa,Sb,Sc] at HA
     obtain ⟨W10,hW10⟩:=Vx (setsL w9 (W1.heap.size) 4 [.slice a4 x9.length c4])
     rw [hW10] at HA
     simp only [setsL] at hW10
     have zd:=thirt_of (HA.out.at 0 rfl)
     have zr:=thirt_of (HA.out.at 1 rfl)
     have HQ:=Hd HA.out.inv
     clear HQ
     have HV:=Hd (HG.out _ rfl)
     go_wp2
     clear hW10
     have HD:=Hd (HA.out.fill 1 rfl [Vi 2,.string x3,Vs,Vn,.slice a4 x9.length c4,Vn,.bool false,.slice a7 x7.length c7,Vn,Vn,Vn,Vi 0,Vi 0] rfl)
     obtain ⟨W99,hW99⟩:=Vx (setsL W10 w.heap.size 0 [Vi 2,.string x3,Vs,Vn,.slice a4 x9.length c4,Vn,.bool false,.slice a7 x7.length c7,Vn,Vn,Vn,Vi 0,Vi 0])
     rw [hW99] at HD
     simp only [setsL,Nat.reduceAdd] at hW99
     rw [hW99]
     have zy:=(thirt_of (HD.out.at 1 rfl)).1
     clear hW99
     exact bodyPost_ret (v:=.agg (Vt 2 x3 Vz Vn (.slice a4 x9.length c4) Vn false (.slice a7 x7.length c7) Vn Vn Vn 0 0)) (by simp [results,Tryz.results103,go_sem,zy]) rfl (pp_ok HV.out HD.out.only (show StV _ _ ({ st0 with kind:=2,table:=x3,sets:=x7,whr:=x9 } : St) _ from ⟨none,a4,none,a7,none,none,none,0,c4,0,c7,0,0,0,rfl,⟨XL.nil _ _,HD.out.inv.out.2,XL.nil _ _,HD.out.inv.out.1.2,XL.nil _ _,SoL.nil _ _,IL.nil _ _⟩⟩) HD.out.pa HLN.out)

theorem del_pp (P : Nat) (s : PS) (w : World) (h : PA w P s) : Calls Tryz.prog 104 #[.pointer (some ⟨P,0,none⟩)] w (PP delR StV P s w):=by
 have HA:=Hd (Au.start h)
 have hPw:=h.lt
 have HLN : Hid (s.rest.length ≤ s.rest.length):=Nat.le_refl _
 have HG : Hid (∀ r,delR s r → delR s r):=fun r k => k
 clear h
 go_enter Tryz.func104,Tryz.ntmps104
 obtain ⟨W1,hW1,HA⟩:=HA.out.pushE Vq 27
 obtain ⟨W2,hW2,HA⟩:=HA.out.pushE (Vt 3 Vz Vz Vn Vn Vn false Vn Vn Vn Vn 0 0) 27
 obtain ⟨W3,hW3,HA⟩:=HA.out.pushE #[.string ⟨#[70,82,79,77]⟩] 9
 have hlb : P < W2.heap.size:=Nat.lt_of_lt_of_le hPw (HA.out.has _ (List.mem_cons_self)).1
 have HhW2:=Hd hW2
 clear hW2
 have HhW3:=Hd hW3
 clear hW3
 go_wp2_with fail
 have hsz : W1.heap.size + 1 = W2.heap.size:=by rw [← HhW2.out]; simp
 try rw [hsz]
 clear hsz
 rw [HhW2.out]
 clear HhW2
 rw [HhW3.out]
 clear HhW3
 clear hW1
 refine (need_pp P (s) (some ⟨W2.heap.size,0,none⟩) [⟨#[70,82,79,77]⟩] 1 W3 HA.out.pa (StrsP.one (HA.out.at 0 rfl) hlb) (by decide)).mono ?_
 rintro e w4 ⟨r,hr,ho,hm⟩
 cases r with
 | bad p =>
  have HV:=Hd (HG.out _ (thenR_bad hr))
  have HO:=Hd (HA.out.only.trans ho)
  rw [hm]
  clear hm hr ho
  go_wp2
  exact ⟨rfl,pp_bad HV.out HO.out⟩
 | ok x4 s4 =>
  obtain ⟨v,rfl,rfl,hp,hl⟩:=hm
  have HB:=Hd (HA.out.call ho hp)
  have HB:=Hd HB.out.drop
  have HG2:=Hd (fun r k => HG.out r (thenR_ok hr k))
  have HL2 : Hid (s4.rest.length ≤ s.rest.length):=Nat.le_trans hl HLN.out
  clear ho hp hl hr HA HG HLN hlb
  have HA:=HB
  have HG:=HG2
  have HLN:=HL2
  clear HB HG2 HL2
  go_wp2_with fail
  refine (name_pp P (s4) _ HA.out.pa).mono ?_
  rintro e w5 ⟨r,hr,ho,hm⟩
  cases r with
  | bad p =>
   have HV:=Hd (HG.out _ (thenR_bad hr))
   have HO:=Hd (HA.out.only.trans ho)
   rw [hm]
   clear hm hr ho
   go_wp2
   exact ⟨rfl,pp_bad HV.out HO.out⟩
  | ok x5 s5 =>
   obtain ⟨v,rfl,rfl,hp,hl⟩:=hm
   have HB:=Hd (HA.out.call ho hp)
   have HG2:=Hd (fun r k => HG.out r (thenR_ok hr k))
   have HL2 : Hid (s5.rest.length ≤ s.rest.length):=Nat.le_trans hl HLN.out
   clear ho hp hl hr HA HG HLN
   have HA:=HB
   have HG:=HG2
   have HLN:=HL2
   clear HB HG2 HL2
   obtain ⟨⟨a0,a1,a2,a3,a4,a5,a6,a7,a8,a9,a10,a11,a12⟩,af0,af1,af2,af3,af4,af5,af6,af7,af8,af9,af10,af11,af12⟩:=thirt_of (HA.out.at 0 rfl)
   replace HA:=Hd (Au.puts 0 [.string x5] 1 HA.out rfl)
   simp only [putsA,Sa,Sb,Sc] at HA
   obtain ⟨W6,hW6⟩:=Vx (setsL w5 (W1.heap.size) 1 [.string x5])
   rw [hW6] at HA
   simp only [setsL] at hW6
   go_wp2_with fail
   clear hW6
   refine (where_pp P (s5) _ HA.out.pa).mono ?_
   rintro e w7 ⟨r,hr,ho,hm⟩
   cases r with
   | bad p =>
    have HV:=Hd (HG.out _ (thenR_bad hr))
    have HO:=Hd (HA.out.only.trans ho)
    rw [hm]
    clear hm hr ho
    go_wp2
    exact ⟨rfl,pp_bad HV.out HO.out⟩
   | ok x7 s7 =>
    obtain ⟨v,rfl,⟨a4,c4,rfl,hx⟩,hp,hl⟩:=hm
    have HB:=Hd (HA.out.gain ho hp (fun W => XL W w.heap.size _ _) fun _ hW => (hx.keep hW).mono HA.out.only.size)
    have HG2:=Hd (fun r k => HG.out r (thenR_ok hr k))
    have HL2 : Hid (s7.rest.length ≤ s.rest.length):=Nat.le_trans hl HLN.out
    clear ho hp hl hr HA HG HLN hx
    have HA:=HB
    have HG:=HG2
    have HLN:=HL2
    clear HB HG2 HL2
    have zg:=thirt_of (HA.out.at 0 rfl)
    replace HA:=Hd (Au.puts 0 [.slice a4 x7.length c4] 4 HA.out rfl)
    simp only [putsA,Sa,Sb,Sc] at HA
    obtain ⟨W8,hW8⟩:=Vx (setsL w7 (W1.heap.size) 4 [.slice a4 x7.length c4])
    rw [hW8] at HA
    simp only [setsL] at hW8
    have zd:=thirt_of (HA.out.at 0 rfl)
    have zr:=thirt_of (HA.out.at 1 rfl)
    have HQ:=Hd HA.out.inv
    clear HQ
    have HV:=Hd (HG.out _ rfl)
    go_wp2
    clear hW8
    have HD:=Hd (HA.out.fill 1 rfl [Vi 3,.string x5,Vs,Vn,.slice a4 x7.length c4,Vn,.bool false,Vn,Vn,Vn,Vn,Vi 0,Vi 0] rfl)
    obtain ⟨W99,hW99⟩:=Vx (setsL W8 w.heap.size 0 [Vi 3,.string x5,Vs,Vn,.slice a4 x7.length c4,Vn,.bool false,Vn,Vn,Vn,Vn,Vi 0,Vi 0])
    rw [hW99] at HD
    simp only [setsL,Nat.reduceAdd] at hW99
    rw [hW99]
    have zy:=(thirt_of (HD.out.at 1 rfl)).1
    clear hW99
    exact bodyPost_ret (v:=.agg (Vt 3 x5 Vz Vn (.slice a4 x7.length c4) Vn false Vn Vn Vn Vn 0 0)) (by simp [results,Tryz.results104,go_sem,zy]) rfl (pp_ok HV.out HD.out.only (show StV _ _ ({ st0 with kind:=3,table:=x5,whr:=x7 } : St) _ from ⟨none,a4,none,none,none,none,none,0,c4,0,0,0,0,0,rfl,⟨XL.nil _ _,HD.out.inv.out.2,XL.nil _ _,SeL.nil _ _,XL.nil _ _,SoL.nil _ _,IL.nil _ _⟩⟩) HD.out.pa HLN.out)
end Go.Proofs.YtbfjmccpcbhljaaGreatDoor
