/- A125 -/
import Derived.Test.YtffalonhkemieaaGreatDoorSA124
set_option maxHeartbeats 8000000
set_option maxRecDepth 100000
namespace Go.Proofs.YtffalonhkemieaaGreatDoor
open Go.RowKit
structure StN (t : St) (n0 n1 n2 n3 n4 n5 n6 : Nat) : Prop where
 on : n0 = t.on.length
 whr : n1 = t.whr.length
 items : n2 = t.items.length
 sets : n3 = t.sets.length
 groups : n4 = t.groups.length
 sorts : n5 = t.sorts.length
 limit : n6 = t.limit.length

def QS (f : Rd_ St) (p : Int) (P M : Nat) (r : RS) (w : World) (e : Ending) (w' : World) : Prop:=∃ (t : St) (a0 a1 a2 a3 a4 a5 a6 : Option Addr) (n0 n1 n2 n3 n4 n5 n6 c0 c1 c2 c3 c4 c5 c6 M' : Nat) (r' : RS),e = .returned (.agg (stC { t with place:=p } (.slice a0 n0 c0) (.slice a1 n1 c1) (.slice a2 n2 c2) (.slice a3 n3 c3) (.slice a4 n4 c4) (.slice a5 n5 c5) (.slice a6 n6 c6)).toArray) ∧ StN t n0 n1 n2 n3 n4 n5 n6 ∧ Lk f r t r' ∧ RA w' P M' r' ∧ Only (Zd P M) w w' ∧ (M' = M ∨ w.heap.size ≤ M') ∧ r'.ps.rest.length ≤ r.ps.rest.length ∧ (r'.wrong = false → FS w' w.heap.size (fun g => g = M') fun W => StO W w.heap.size t (.slice a0 n0 c0) (.slice a1 n1 c1) (.slice a2 n2 c2) (.slice a3 n3 c3) (.slice a4 n4 c4) (.slice a5 n5 c5) (.slice a6 n6 c6))

theorem Aq.qs {f : Rd_ St} {p : Int} {w0 w : World} {P M0 M : Nat} {r0 r : RS} {L : List (Nat × Obj)} {I : World → Prop} {t : St} {a0 a1 a2 a3 a4 a5 a6 : Option Addr} {n0 n1 n2 n3 n4 n5 n6 c0 c1 c2 c3 c4 c5 c6 : Nat} (h : Aq w0 P M0 M r L I w) (hn : StN t n0 n1 n2 n3 n4 n5 n6) (hk : Lk f r0 t r) (hl : r.ps.rest.length ≤ r0.ps.rest.length) (hv : ∀ W,(∀ y ∈ L,W.heap[y.1]? = some y.2) → I W → StO W w0.heap.size t (.slice a0 n0 c0) (.slice a1 n1 c1) (.slice a2 n2 c2) (.slice a3 n3 c3) (.slice a4 n4 c4) (.slice a5 n5 c5) (.slice a6 n6 c6)) : QS f p P M0 r0 w0 (.returned (.agg (stC { t with place:=p } (.slice a0 n0 c0) (.slice a1 n1 c1) (.slice a2 n2 c2) (.slice a3 n3 c3) (.slice a4 n4 c4) (.slice a5 n5 c5) (.slice a6 n6 c6)).toArray)) w :=
 ⟨t,a0,a1,a2,a3,a4,a5,a6,n0,n1,n2,n3,n4,n5,n6,c0,c1,c2,c3,c4,c5,c6,M,r,rfl,hn,hk,h.ra,h.only,h.mm,hl,fun hw => (h.fs hw).imp fun W k => hv W k.1 k.2⟩

theorem qsorts_l (P M : Nat) (r : RS) (w : World) (h : RA w P M r) : Calls Tryz.prog 107 #[.pointer (some ⟨P,0,none⟩)] w (QL orderR SoL P M r w):=by
 have HA:=Hd (Aq.start h)
 have hPw:=h.lt
 have HLN : Hid (r.ps.rest.length ≤ r.ps.rest.length):=Nat.le_refl _
 have HG : Hid (∀ a r',Lk (orderR) r a r' → Lk (orderR) r a r'):=fun _ _ k => k
 clear h
 have hRL : r.ps.rest.length ≤ 1001:=Nat.le_trans (by show (r.all.drop r.pos).length ≤ r.all.length; simp) HA.out.ra.ok.len
 go_enter Tryz.func107,Tryz.ntmps107
 go_wp2_with fail
 refine (qtakes_any P (M) (r) ⟨#[79,82,68,69,82]⟩ _ HA.out.ra).mono ?_
 rintro e w1 ⟨rfl,hp,ho⟩
 cases hS : (r).sees wORDER with
 | false =>
  rw [show (r).sees (⟨#[79,82,68,69,82]⟩ : ByteArray).data.toList = false from hS] at hp
  try rw [show (r).sees (⟨#[79,82,68,69,82]⟩ : ByteArray).data.toList = false from hS]
  rw [if_neg (by decide)] at hp
  have HS1:=Hd hS
  replace HG:=Hd (fun a r' k => HG.out a r' (Lk.not HS1.out k))
  replace HA:=Hd (HA.out.call ho (Or.inl rfl) hp fun k => k)
  clear hp ho hS
  have HLK:=Hd (HG.out _ _ (Lk.ret _ _))
  go_wp2
  exact bodyPost_ret (v:=.slice none 0 0) (by simp [results,Tryz.results107,go_sem]) rfl (HA.out.ql HLK.out HLN.out rfl fun W _ _ => SoL.nil _ _)
 | true =>
  rw [show (r).sees (⟨#[79,82,68,69,82]⟩ : ByteArray).data.toList = true from hS] at hp
  try rw [show (r).sees (⟨#[79,82,68,69,82]⟩ : ByteArray).data.toList = true from hS]
  rw [if_pos rfl] at hp
  have HS1:=Hd hS
  replace HG:=Hd (fun a r' k => HG.out a r' (Lk.yes HS1.out k))
  replace HA:=Hd (HA.out.call ho (Or.inl rfl) hp fun k => k)
  replace HLN:=Hd (Nat.le_trans (RS.step_le _) HLN.out)
  clear hp ho hS
  go_wp2_with fail
  refine (qwants_q P (M) ((r).step) ⟨#[66,89]⟩ _ HA.out.ra).mono ?_
  rintro e w2 ⟨x2,r2,rfl,hk,hp,ho,hl⟩
  have HK2:=Hd hk
  have HLL2:=Hd hl
  replace HG:=Hd (fun a r' k => HG.out a r' (hk.bind k))
  replace HA:=Hd (HA.out.call ho (Or.inl rfl) hp hk.right)
  replace HLN:=Hd (Nat.le_trans hl HLN.out)
  clear ho hp hl hk
  go_wp2_with fail
  go_loopw [4] (fun v wr => ∃ (acc : List So) (ks : List Value) (a : Option Addr) (N c : Nat) (o : Obj) (M1 : Nat) (r1 : RS),v = .slice a N c ∧ N = acc.length ∧ acc.length = ks.length ∧ (∀ W : World,(∀ q,(Value.slice a N c).ownBlock = some q → W.heap[q]? = some o) → W.ownsRow w.heap.size 67 3 (.slice a N c) N (sos acc ks)) ∧ Aq w P M M1 r1 (rowL (.slice a N c) o) (fun W => (True) ∧ True) wr ∧ r1.ps.rest.length ≤ r.ps.rest.length ∧ r1.ps.rest.length + N ≤ r.ps.rest.length ∧ (N = 0 ∨ (r1.wrong = false ∧ r1.many.length < r1.pos)) ∧ (∀ l r',Lk (lsR sortR 8 acc) r1 l r' → Lk (orderR) r l r')) (fun _ wr => restQ wr P)
  case atStart => exact ⟨[],[],none,0,0,.cells #[] 67 (0,0),M,r2,rfl,rfl,rfl,(fun _ _ => World.ownsRow_nil _ _ _ _),(HA.out.imp fun _ _ h => ⟨h,trivial⟩),HLN.out,HLN.out,Or.inl rfl,HG.out⟩
  case round =>
   obtain ⟨acc,ks,a,N,c,o,M1,r1,rfl,hN,hlk,how,ha,hl,hlN,hroom,hg⟩:=hrel
   have HRN:=Hd ha.ra.restQ
   have HOK1:=Hd ha.ra.ok
   have HLK0:=Hd hlk
   have HOW:=Hd how
   have HN:=Hd hN
   have HLN2:=Hd hlN
   have HROOM:=Hd hroom
   have hN9 : N ≤ 1002:=by omega
   clear HA HLN HG
   have HA:=Hd ha
   have HLN:=Hd hl
   have HG:=Hd hg
   clear ha hl hlk how hN hlN hroom hg
   cases hw1 : r1.wrong with
   | true =>
    obtain ⟨cg,coff,ccap,cka,ckc,ch1,-,-,-,-,cn,-,cl,-,-⟩:=HA.out.ra.cells
    obtain ⟨⟨c0,c1,c2,c3⟩,cf0,cf1,cf2,cf3⟩:=four_of ch1
    have cni : ((r1).pos : Int) + 1 ≤ 1001:=by omega
    clear ch1
    rw [hw1] at c2
    have HLK:=Hd (HG.out acc _ (Lk.ls_wrong hw1))
    have HNL : Hid (N = (acc).length):=Hd HN.out
    go_wp2
    exact bodyPost_ret (v:=.slice a N c) (by simp [results,Tryz.results107,go_sem]) rfl (HA.out.ql HLK.out HLN.out HNL.out fun W hL h => ⟨ks,HLK0.out,by have:=HOW.out W (fun q hq => row_in (L:=[]) hL hq); rw [HNL.out] at this ⊢; exact this⟩)
   | false =>
    obtain ⟨cg,coff,ccap,cka,ckc,ch1,-,-,-,-,cn,-,cl,-,-⟩:=HA.out.ra.cells
    obtain ⟨⟨c0,c1,c2,c3⟩,cf0,cf1,cf2,cf3⟩:=four_of ch1
    have cni : ((r1).pos : Int) + 1 ≤ 1001:=by omega
    clear ch1
    rw [hw1] at c2
    have HW1:=Hd hw1
    clear hw1
    go_wp2_with fail
    refine (qcounts_any P (M1) (r1) N 8 _ HA.out.ra (fun e => HROOM.out.elim (fun h => by omega) fun h => h.2)).mono ?_
    rintro e w3 ⟨rfl,M3,hp,ho,hm⟩
    replace HA:=Hd (HA.out.call ho hm hp (fun k => by rw [RS.cnt_wrong] at k; exact k))
    replace HLN : Hid ((((r1).cnt N 8)).ps.rest.length ≤ r.ps.rest.length):=Nat.le_trans (Nat.le_of_eq (congrArg List.length (RS.cnt_rest _ _ _))) HLN.out
    clear ho hp hm
    obtain ⟨⟨⟨tk1,tn1,tt1⟩,ta1⟩,hh⟩ : ∃ x,(((r1).cnt N 8)).ps.hd = x:=⟨_,rfl⟩
    have HT:=qnh P M3 hh
    have HH1:=Hd hh
    clear hh
    go_wp2_with fail
    refine (HT.out _ HA.out.ra).mono ?_
    rintro e w4 ⟨rfl,hb⟩
    replace HA:=Hd (HA.out.bel hb)
    clear hb HT
    obtain ⟨W5,hW5,HA⟩:=HA.out.pushE (Vk tk1 tn1 tt1 ta1) 43
    have zt:=four_of (HA.out.at 0 rfl)
    obtain ⟨W6,hW6,HA⟩:=HA.out.pushE #[Vi 0,.bool false,Vi (ta1 : Int)] 67
    go_wp2_with fail
    clear hW5 hW6
    refine (qnumber_q2 P (M3) (((r1).cnt N 8)) _ HA.out.ra).mono ?_
    rintro e w7 ⟨n7,r7,rfl,⟨kk7,tt7,hk⟩,hp,ho,hl⟩
    have HK7:=Hd hk
    have HLL7:=Hd hl
    replace HA:=Hd (HA.out.call ho (Or.inl rfl) hp hk.right)
    replace HLN:=Hd (Nat.le_trans hl HLN.out)
    clear ho hp hl hk
    have zs:=three_of (HA.out.at 0 rfl)
    replace HA:=Hd (Aq.puts 0 [Vi n7] 0 HA.out rfl)
    simp only [putsA,Sa,Sb] at HA
    obtain ⟨W8,hW8⟩:=Vx (setsL w7 (W5.heap.size) 0 [Vi n7])
    rw [hW8] at HA
    simp only [setsL] at hW8
    go_wp2_with fail
    clear hW8
    refine (qtakes_any P (M3) (r7) ⟨#[68,69,83,67]⟩ _ HA.out.ra).mono ?_
    rintro e w9 ⟨rfl,hp,ho⟩
    cases hS : (r7).sees wDESC with
    | false =>
     rw [show (r7).sees (⟨#[68,69,83,67]⟩ : ByteArray).data.toList = false from hS] at hp
     try rw [show (r7).sees (⟨#[68,69,83,67]⟩ : ByteArray).data.toList = false from hS]
     rw [if_neg (by decide)] at hp
     have HS9:=Hd hS
     replace HA:=Hd (HA.out.call ho (Or.inl rfl) hp fun k => k)
     clear hp ho hS
     have zd:=three_of (HA.out.at 0 rfl)
     replace HA:=Hd (Aq.puts 0 [.bool false] 1 HA.out rfl)
     simp only [putsA,Sa,Sb,Sc] at HA
     obtain ⟨W10,hW10⟩:=Vx (setsL w9 (W5.heap.size) 1 [.bool false])
     rw [hW10] at HA
     simp only [setsL] at hW10
     have ze:=three_of (HA.out.at 0 rfl)
     obtain ⟨W11,hW11,HA⟩:=HA.out.pushE #[Vi n7,.bool false,Vi (ta1 : Int)] 67
     have HA8OK:=Hd HA.out.ra.ok
     obtain ⟨i0,hi,hz0,hz1,hz2⟩:=info_parts Tryz.infoSort
     go_wp2_with (first | (at_builtin; refine wpList_append_lies _ rfl _ _ 24 rfl w.heap.size 67 i0 _ 3 24 Tryz.underlying24 hi hz0 hz1 hz2 rfl (by decide) (.slice a N c) (N) (sos acc ks) rfl ?c0 ⟨W10.heap.size,0,none⟩ 1 1 (soC ((n7,false,(ta1 : Int)) : So)) rfl rfl ?c1 ?c2 (by decide) ?c3 ?c4 ?c5 _ rfl ?_))
     case c0 => exact HOW.out _ fun q hq => Aq.rowAt (L:=[(W10.heap.size,.cells #[Vi n7,.bool false,Vi (ta1 : Int)] 67 (0,0)),(W5.heap.size,.cells #[Vi n7,.bool false,Vi (ta1 : Int)] 67 (0,0)),(w4.heap.size,.cells (Vk tk1 tn1 tt1 ta1) 43 (0,0))]) HA.out hq
     case c1 => exact World.news_of_block (HA.out.at 0 rfl)
     case c2 => exact soC_one _
     case c3 => unfold maxLen; omega
     case c4 => omega
     case c5 => exact HA.out.only.size
     intro g8 cap8 w8 hown8 hgrow8 hor8 hlt8
     clear hi hz0 hz1 hz2 hW10 hW11
     obtain ⟨o8,ho8,hA8⟩:=Aq.growEnd (L:=[]) HA.out.drop.drop.drop hgrow8 (hor8.imp id fun e => Nat.le_of_eq e.symm) hlt8 (v':=.slice (some ⟨g8,0,none⟩) (N + 1) cap8) rfl
     have HOWN : Hid (∀ W : World,(∀ q,(Value.slice (some ⟨g8,0,none⟩) (N + 1) cap8).ownBlock = some q → W.heap[q]? = some o8) → W.ownsRow w.heap.size 67 3 (.slice (some ⟨g8,0,none⟩) (N + 1) cap8) (N + 1) (sos acc ks ++ soC ((n7,false,(ta1 : Int)) : So))):=fun W hW => own_kept hown8 fun b hb => by (obtain rfl : g8 = b:=by simpa [Value.ownBlock] using hb); exact (hW g8 rfl).trans ho8.symm
     replace HA:=Hd (hA8.imp (J:=fun W => (True) ∧ True) fun W _ h => ⟨h.1,trivial⟩)
     clear hown8 hgrow8 hor8 hlt8 ho8 hA8
     go_wp2_with fail
     refine (qtakes_any P (M3) (r7) ⟨#[44]⟩ _ HA.out.ra).mono ?_
     rintro e w12 ⟨rfl,hp,ho⟩
     cases hS : (r7).sees [44] with
     | false =>
      rw [show (r7).sees (⟨#[44]⟩ : ByteArray).data.toList = false from hS] at hp
      try rw [show (r7).sees (⟨#[44]⟩ : ByteArray).data.toList = false from hS]
      rw [if_neg (by decide)] at hp
      have HS12:=Hd hS
      replace HA:=Hd (HA.out.call ho (Or.inl rfl) hp fun k => k)
      clear hp ho hS
      have HOWN2 : Hid (∀ W : World,(∀ q,(Value.slice (some ⟨g8,0,none⟩) (N + 1) cap8).ownBlock = some q → W.heap[q]? = some o8) → W.ownsRow w.heap.size 67 3 (.slice (some ⟨g8,0,none⟩) (N + 1) cap8) (N + 1) (sos (acc ++ [((n7,false,(ta1 : Int)) : So)]) (ks ++ [(Value.int .i64 0)]))):=fun W hW => by have:=HOWN.out W hW; rw [sos_append _ _ _ _ HLK0.out]; simpa [sos] using this
      have HLK:=Hd (HG.out _ _ (Lk.ls_last (show Lk sortR (r1.cnt acc.length 8) ((n7,false,(ta1 : Int)) : So) _ from by have:=(show Lk sortR (r1.cnt N 8) ((n7,false,(ta1 : Int)) : So) _ from by have:=HK7.out; rw [HH1.out] at this; exact this.bind (Lk.not HS9.out (Lk.ret _ _))); rw [HN.out] at this; exact this) HS12.out))
      have HNL : Hid ((N + 1) = ((acc ++ [((n7,false,(ta1 : Int)) : So)])).length):=Hd (by simp [HN.out])
      go_wp2
      exact bodyPost_ret (v:=.slice (some ⟨g8,0,none⟩) (N + 1) cap8) (by simp [results,Tryz.results107,go_sem]) rfl (HA.out.ql HLK.out HLN.out HNL.out fun W hL h => ⟨(ks ++ [(Value.int .i64 0)]),(by simp [HLK0.out]),by have:=HOWN2.out W (fun q hq => row_in (L:=[]) hL hq); rw [HNL.out] at this ⊢; exact this⟩)
     | true =>
      rw [show (r7).sees (⟨#[44]⟩ : ByteArray).data.toList = true from hS] at hp
      try rw [show (r7).sees (⟨#[44]⟩ : ByteArray).data.toList = true from hS]
      rw [if_pos rfl] at hp
      have HS12:=Hd hS
      replace HA:=Hd (HA.out.call ho (Or.inl rfl) hp fun k => k)
      replace HLN:=Hd (Nat.le_trans (RS.step_le _) HLN.out)
      clear hp ho hS
      go_wp2
      go_roundw
      case rel => exact ⟨acc ++ [((n7,false,(ta1 : Int)) : So)],ks ++ [(Value.int .i64 0)],some ⟨g8,0,none⟩,N + 1,cap8,o8,M3,(r7).step,rfl,by simp [HN.out],by simp [HLK0.out],(fun W hW => by have:=HOWN.out W hW; rw [sos_append _ _ _ _ HLK0.out]; simpa [sos] using this),HA.out,HLN.out,(by have h1:=(show (r7).ps.rest.length ≤ r1.ps.rest.length from by have:=HLL7.out; rw [RS.cnt_rest] at this; exact this); have h2:=RS.step_lt HA8OK.out; have h3:=HLN2.out; omega),Or.inr ⟨(RS.sees_true HS12.out).1,HA8OK.out.room⟩,fun l r' q => HG.out l r' (Lk.ls_more HW1.out (show Lk sortR (r1.cnt acc.length 8) ((n7,false,(ta1 : Int)) : So) _ from by have:=(show Lk sortR (r1.cnt N 8) ((n7,false,(ta1 : Int)) : So) _ from by have:=HK7.out; rw [HH1.out] at this; exact this.bind (Lk.not HS9.out (Lk.ret _ _))); rw [HN.out] at this; exact this) HS12.out q)⟩
      case measure => rw [HA.out.ra.restQ,HRN.out]; have h1:=(show (r7).ps.rest.length ≤ r1.ps.rest.length from by have:=HLL7.out; rw [RS.cnt_rest] at this; exact this); have h2:=RS.step_lt HA8OK.out; omega
    | true =>
     rw [show (r7).sees (⟨#[68,69,83,67]⟩ : ByteArray).data.toList = true from hS] at hp
     try rw [show (r7).sees (⟨#[68,69,83,67]⟩ : ByteArray).data.toList = true from hS]
     rw [if_pos rfl] at hp
     have HS9:=Hd hS
     replace HA:=Hd (HA.out.call ho (Or.inl rfl) hp fun k => k)
     replace HLN:=Hd (Nat.le_trans (RS.step_le _) HLN.out)
     clear hp ho hS
     have zd:=three_of (HA.out.at 0 rfl)
     replace HA:=Hd (Aq.puts 0 [.bool true] 1 HA.out rfl)
     simp only [putsA,Sa,Sb,Sc] at HA
     obtain ⟨W13,hW13⟩:=Vx (setsL w9 (W5.heap.size) 1 [.bool true])
     rw [hW13] at HA
     simp only [setsL] at hW13
     have ze:=three_of (HA.out.at 0 rfl)
     obtain ⟨W14,hW14,HA⟩:=HA.out.pushE #[Vi n7,.bool true,Vi (ta1 : Int)] 67
     have HA8OK:=Hd HA.out.ra.ok
     obtain ⟨i0,hi,hz0,hz1,hz2⟩:=info_parts Tryz.infoSort
     go_wp2_with (first | (at_builtin; refine wpList_append_lies _ rfl _ _ 24 rfl w.heap.size 67 i0 _ 3 24 Tryz.underlying24 hi hz0 hz1 hz2 rfl (by decide) (.slice a N c) (N) (sos acc ks) rfl ?c0 ⟨W13.heap.size,0,none⟩ 1 1 (soC ((n7,true,(ta1 : Int)) : So)) rfl rfl ?c1 ?c2 (by decide) ?c3 ?c4 ?c5 _ rfl ?_))
     case c0 => exact HOW.out _ fun q hq => Aq.rowAt (L:=[(W13.heap.size,.cells #[Vi n7,.bool true,Vi (ta1 : Int)] 67 (0,0)),(W5.heap.size,.cells #[Vi n7,.bool true,Vi (ta1 : Int)] 67 (0,0)),(w4.heap.size,.cells (Vk tk1 tn1 tt1 ta1) 43 (0,0))]) HA.out hq
     case c1 => exact World.news_of_block (HA.out.at 0 rfl)
     case c2 => exact soC_one _
     case c3 => unfold maxLen; omega
     case c4 => omega
     case c5 => exact HA.out.only.size
     intro g8 cap8 w8 hown8 hgrow8 hor8 hlt8
     clear hi hz0 hz1 hz2 hW13 hW14
     obtain ⟨o8,ho8,hA8⟩:=Aq.growEnd (L:=[]) HA.out.drop.drop.drop hgrow8 (hor8.imp id fun e => Nat.le_of_eq e.symm) hlt8 (v':=.slice (some ⟨g8,0,none⟩) (N + 1) cap8) rfl
     have HOWN : Hid (∀ W : World,(∀ q,(Value.slice (some ⟨g8,0,none⟩) (N + 1) cap8).ownBlock = some q → W.heap[q]? = some o8) → W.ownsRow w.heap.size 67 3 (.slice (some ⟨g8,0,none⟩) (N + 1) cap8) (N + 1) (sos acc ks ++ soC ((n7,true,(ta1 : Int)) : So))):=fun W hW => own_kept hown8 fun b hb => by (obtain rfl : g8 = b:=by simpa [Value.ownBlock] using hb); exact (hW g8 rfl).trans ho8.symm
     replace HA:=Hd (hA8.imp (J:=fun W => (True) ∧ True) fun W _ h => ⟨h.1,trivial⟩)
     clear hown8 hgrow8 hor8 hlt8 ho8 hA8
     go_wp2_with fail
     refine (qtakes_any P (M3) ((r7).step) ⟨#[44]⟩ _ HA.out.ra).mono ?_
     rintro e w15 ⟨rfl,hp,ho⟩
     cases hS : ((r7).step).sees [44] with
     | false =>
      rw [show ((r7).step).sees (⟨#[44]⟩ : ByteArray).data.toList = false from hS] at hp
      try rw [show ((r7).step).sees (⟨#[44]⟩ : ByteArray).data.toList = false from hS]
      rw [if_neg (by decide)] at hp
      have HS15:=Hd hS
      replace HA:=Hd (HA.out.call ho (Or.inl rfl) hp fun k => k)
      clear hp ho hS
      have HOWN2 : Hid (∀ W : World,(∀ q,(Value.slice (some ⟨g8,0,none⟩) (N + 1) cap8).ownBlock = some q → W.heap[q]? = some o8) → W.ownsRow w.heap.size 67 3 (.slice (some ⟨g8,0,none⟩) (N + 1) cap8) (N + 1) (sos (acc ++ [((n7,true,(ta1 : Int)) : So)]) (ks ++ [(Value.int .i64 0)]))):=fun W hW => by have:=HOWN.out W hW; rw [sos_append _ _ _ _ HLK0.out]; simpa [sos] using this
      have HLK:=Hd (HG.out _ _ (Lk.ls_last (show Lk sortR (r1.cnt acc.length 8) ((n7,true,(ta1 : Int)) : So) _ from by have:=(show Lk sortR (r1.cnt N 8) ((n7,true,(ta1 : Int)) : So) _ from by have:=HK7.out; rw [HH1.out] at this; exact this.bind (Lk.yes HS9.out (Lk.ret _ _))); rw [HN.out] at this; exact this) HS15.out))
      have HNL : Hid ((N + 1) = ((acc ++ [((n7,true,(ta1 : Int)) : So)])).length):=Hd (by simp [HN.out])
      go_wp2
      exact bodyPost_ret (v:=.slice (some ⟨g8,0,none⟩) (N + 1) cap8) (by simp [results,Tryz.results107,go_sem]) rfl (HA.out.ql HLK.out HLN.out HNL.out fun W hL h => ⟨(ks ++ [(Value.int .i64 0)]),(by simp [HLK0.out]),by have:=HOWN2.out W (fun q hq => row_in (L:=[]) hL hq); rw [HNL.out] at this ⊢; exact this⟩)
     | true =>
      rw [show ((r7).step).sees (⟨#[44]⟩ : ByteArray).data.toList = true from hS] at hp
      try rw [show ((r7).step).sees (⟨#[44]⟩ : ByteArray).data.toList = true from hS]
      rw [if_pos rfl] at hp
      have HS15:=Hd hS
      replace HA:=Hd (HA.out.call ho (Or.inl rfl) hp fun k => k)
      replace HLN:=Hd (Nat.le_trans (RS.step_le _) HLN.out)
      clear hp ho hS
      go_wp2
      go_roundw
      case rel => exact ⟨acc ++ [((n7,true,(ta1 : Int)) : So)],ks ++ [(Value.int .i64 0)],some ⟨g8,0,none⟩,N + 1,cap8,o8,M3,((r7).step).step,rfl,by simp [HN.out],by simp [HLK0.out],(fun W hW => by have:=HOWN.out W hW; rw [sos_append _ _ _ _ HLK0.out]; simpa [sos] using this),HA.out,HLN.out,(by have h1:=(show ((r7).step).ps.rest.length ≤ r1.ps.rest.length from by have:=HLL7.out; rw [RS.cnt_rest] at this; exact Nat.le_trans (RS.step_le _) this); have h2:=RS.step_lt HA8OK.out; have h3:=HLN2.out; omega),Or.inr ⟨(RS.sees_true HS15.out).1,HA8OK.out.room⟩,fun l r' q => HG.out l r' (Lk.ls_more HW1.out (show Lk sortR (r1.cnt acc.length 8) ((n7,true,(ta1 : Int)) : So) _ from by have:=(show Lk sortR (r1.cnt N 8) ((n7,true,(ta1 : Int)) : So) _ from by have:=HK7.out; rw [HH1.out] at this; exact this.bind (Lk.yes HS9.out (Lk.ret _ _))); rw [HN.out] at this; exact this) HS15.out q)⟩
      case measure => rw [HA.out.ra.restQ,HRN.out]; have h1:=(show ((r7).step).ps.rest.length ≤ r1.ps.rest.length from by have:=HLL7.out; rw [RS.cnt_rest] at this; exact Nat.le_trans (RS.step_le _) this); have h2:=RS.step_lt HA8OK.out; omega

theorem qremove_s (P M : Nat) (p0 : Int) (r : RS) (w : World) (h : RA w P M r) : Calls Tryz.prog 58 #[.pointer (some ⟨P,0,none⟩),.agg (Vt 3 Vz Vz Vn Vn Vn false Vn Vn Vn Vn p0 0)] w (QS delR p0 P M r w):=by
 have HA:=Hd (Aq.start h)
 have hPw:=h.lt
 have HLN : Hid (r.ps.rest.length ≤ r.ps.rest.length):=Nat.le_refl _
 have HG : Hid (∀ a r',Lk (delR) r a r' → Lk (delR) r a r'):=fun _ _ k => k
 clear h
 have hRL : r.ps.rest.length ≤ 1001:=Nat.le_trans (by show (r.all.drop r.pos).length ≤ r.all.length; simp) HA.out.ra.ok.len
 go_enter Tryz.func58,Tryz.ntmps58
 obtain ⟨W1,hW1,HA⟩:=HA.out.pushE (Vt 3 Vz Vz Vn Vn Vn false Vn Vn Vn Vn p0 0) 27
 obtain ⟨W2,hW2,HA⟩:=HA.out.pushE Vq 27
 go_wp2_with fail
 clear hW1 hW2
 refine (qwants_q P (M) (r) ⟨#[70,82,79,77]⟩ _ HA.out.ra).mono ?_
 rintro e w3 ⟨x3,r3,rfl,hk,hp,ho,hl⟩
 have HK3:=Hd hk
 have HLL3:=Hd hl
 replace HG:=Hd (fun a r' k => HG.out a r' (hk.bind k))
 replace HA:=Hd (HA.out.call ho (Or.inl rfl) hp hk.right)
 replace HLN:=Hd (Nat.le_trans hl HLN.out)
 clear ho hp hl hk
 go_wp2_with fail
 refine (qname_q P (M) (r3) _ HA.out.ra).mono ?_
 rintro e w4 ⟨x4,r4,rfl,hk,hp,ho,hl⟩
 have HK4:=Hd hk
 have HLL4:=Hd hl
 replace HG:=Hd (fun a r' k => HG.out a r' (hk.bind k))
 replace HA:=Hd (HA.out.call ho (Or.inl rfl) hp hk.right)
 replace HLN:=Hd (Nat.le_trans hl HLN.out)
 clear ho hp hl hk
 have zs:=thirt_of (HA.out.at 1 rfl)
 replace HA:=Hd (Aq.puts 1 [.string x4] 1 HA.out rfl)
 simp only [putsA,Sa,Sb,Sc] at HA
 obtain ⟨W5,hW5⟩:=Vx (setsL w4 (w.heap.size) 1 [.string x4])
 rw [hW5] at HA
 simp only [setsL] at hW5
 go_wp2_with fail
 clear hW5
 refine (qwhere_l P (M) (r4) _ HA.out.ra).mono ?_
 rintro e w6 ⟨l6,a6,c6,M6,r6,rfl,hk,hp,ho,hm,hl,hx⟩
 replace HG:=Hd (fun a r' k => HG.out a r' (hk.bind k))
 replace HA:=Hd (HA.out.gainV ho hm hp hk.right (fun _ _ _ hB k => k.mono hB) hx)
 replace HLN:=Hd (Nat.le_trans hl HLN.out)
 clear ho hp hl hk hm hx
 have zs:=thirt_of (HA.out.at 1 rfl)
 replace HA:=Hd (Aq.puts 1 [.slice a6 l6.length c6] 4 HA.out rfl)
 simp only [putsA,Sa,Sb,Sc] at HA
 obtain ⟨W7,hW7⟩:=Vx (setsL w6 (w.heap.size) 4 [.slice a6 l6.length c6])
 rw [hW7] at HA
 simp only [setsL] at hW7
 have zs:=thirt_of (HA.out.at 1 rfl)
 have zzr:=thirt_of (HA.out.at 0 rfl)
 have HLK:=Hd (HG.out _ _ (Lk.ret _ _))
 go_wp2
 clear hW7
 have HD:=Hd (HA.out.fill 0 rfl [Vi 3,.string x4,Vs,Vn,.slice a6 l6.length c6,Vn,.bool false,Vn,Vn,Vn,Vn,Vi p0,Vi 0] rfl)
 obtain ⟨W99,hW99⟩:=Vx (setsL W7 W1.heap.size 0 [Vi 3,.string x4,Vs,Vn,.slice a6 l6.length c6,Vn,.bool false,Vn,Vn,Vn,Vn,Vi p0,Vi 0])
 rw [hW99] at HD
 simp only [setsL,Nat.reduceAdd] at hW99
 rw [hW99]
 have zy:=(thirt_of (HD.out.at 0 rfl)).1
 clear hW99
 exact bodyPost_ret (v:=.agg (Vt 3 x4 Vz Vn (.slice a6 l6.length c6) Vn false Vn Vn Vn Vn p0 0)) (by simp [results,Tryz.results58,go_sem,zy]) rfl (HD.out.qs (t:={ st0 with kind:=3,table:=x4,whr:=l6 }) (a0:=none) (n0:=0) (c0:=0) (a1:=a6) (n1:=l6.length) (c1:=c6) (a2:=none) (n2:=0) (c2:=0) (a3:=none) (n3:=0) (c3:=0) (a4:=none) (n4:=0) (c4:=0) (a5:=none) (n5:=0) (c5:=0) (a6:=none) (n6:=0) (c6:=0) ⟨rfl,rfl,rfl,rfl,rfl,rfl,rfl⟩ HLK.out HLN.out (fun W _ h => ⟨XL.nil _ _,h.2,XL.nil _ _,SeL.nil _ _,XL.nil _ _,SoL.nil _ _,IL.nil _ _⟩))

theorem qinsert_s (P M : Nat) (p0 : Int) (r : RS) (w : World) (h : RA w P M r) : Calls Tryz.prog 56 #[.pointer (some ⟨P,0,none⟩),.agg (Vt 1 Vz Vz Vn Vn Vn false Vn Vn Vn Vn p0 0)] w (QS insR p0 P M r w):=by
 have HA:=Hd (Aq.start h)
 have hPw:=h.lt
 have HLN : Hid (r.ps.rest.length ≤ r.ps.rest.length):=Nat.le_refl _
 have HG : Hid (∀ a r',Lk (insR) r a r' → Lk (insR) r a r'):=fun _ _ k => k
 clear h
 have hRL : r.ps.rest.length ≤ 1001:=Nat.le_trans (by show (r.all.drop r.pos).length ≤ r.all.length; simp) HA.out.ra.ok.len
 go_enter Tryz.func56,Tryz.ntmps56
 obtain ⟨W1,hW1,HA⟩:=HA.out.pushE (Vt 1 Vz Vz Vn Vn Vn false Vn Vn Vn Vn p0 0) 27
 obtain ⟨W2,hW2,HA⟩:=HA.out.pushE Vq 27
 go_wp2_with fail
 clear hW1 hW2
 refine (qwants_q P (M) (r) ⟨#[73,78,84,79]⟩ _ HA.out.ra).mono ?_
 rintro e w3 ⟨x3,r3,rfl,hk,hp,ho,hl⟩
 have HK3:=Hd hk
 have HLL3:=Hd hl
 replace HG:=Hd (fun a r' k => HG.out a r' (hk.bind k))
 replace HA:=Hd (HA.out.call ho (Or.inl rfl) hp hk.right)
 replace HLN:=Hd (Nat.le_trans hl HLN.out)
 clear ho hp hl hk
 go_wp2_with fail
 refine (qname_q P (M) (r3) _ HA.out.ra).mono ?_
 rintro e w4 ⟨x4,r4,rfl,hk,hp,ho,hl⟩
 have HK4:=Hd hk
 have HLL4:=Hd hl
 replace HG:=Hd (fun a r' k => HG.out a r' (hk.bind k))
 replace HA:=Hd (HA.out.call ho (Or.inl rfl) hp hk.right)
 replace HLN:=Hd (Nat.le_trans hl HLN.out)
 clear ho hp hl hk
 have zs:=thirt_of (HA.out.at 1 rfl)
 replace HA:=Hd (Aq.puts 1 [.string x4] 1 HA.out rfl)
 simp only [putsA,Sa,Sb,Sc] at HA
 obtain ⟨W5,hW5⟩:=Vx (setsL w4 (w.heap.size) 1 [.string x4])
 rw [hW5] at HA
 simp only [setsL] at hW5
 go_wp2_with fail
 clear hW5
 refine (qwants_q P (M) (r4) ⟨#[86,65,76,85,69,83]⟩ _ HA.out.ra).mono ?_
 rintro e w6 ⟨x6,r6,rfl,hk,hp,ho,hl⟩
 have HK6:=Hd hk
 have HLL6:=Hd hl
 replace HG:=Hd (fun a r' k => HG.out a r' (Lk.want2 hk k))
 replace HA:=Hd (HA.out.call ho (Or.inl rfl) hp hk.right)
 replace HLN:=Hd (Nat.le_trans hl HLN.out)
 clear ho hp hl hk
 go_wp2_with fail
 refine (qwants_q P (M) (r6) ⟨#[40]⟩ _ HA.out.ra).mono ?_
 rintro e w7 ⟨x7,r7,rfl,hk,hp,ho,hl⟩
 have HK7:=Hd hk
 have HLL7:=Hd hl
 replace HG:=Hd (fun a r' k => HG.out a r' (hk.bind k))
 replace HA:=Hd (HA.out.call ho (Or.inl rfl) hp hk.right)
 replace HLN:=Hd (Nat.le_trans hl HLN.out)
 clear ho hp hl hk
 have HGO:=HG
 clear HG
 have HG : Hid (∀ l r',Lk (lsR exprR 16 []) (r7) l r' → Lk (listR exprR 16) (r7) l r'):=fun _ _ k => k
 go_wp2_with fail
 go_loopw [] (fun wr => ∃ (acc : List Ex) (ks : List Value) (a : Option Addr) (N c : Nat) (o : Obj) (M1 : Nat) (r1 : RS),N = acc.length ∧ acc.length = ks.length ∧ (∀ W : World,(∀ q,(Value.slice a N c).ownBlock = some q → W.heap[q]? = some o) → W.ownsRow w.heap.size 48 9 (.slice a N c) N (xcs acc ks)) ∧ Aq w P M M1 r1 ((W1.heap.size,.cells Vq 27 (0,0)) :: (w.heap.size,.cells (Vt 1 x4 Vz Vn Vn (.slice a N c) false Vn Vn Vn Vn p0 0) 27 (0,0)) :: rowL (.slice a N c) o) (fun W => (True) ∧ XsO W w.heap.size acc ks) wr ∧ r1.ps.rest.length ≤ r.ps.rest.length ∧ r1.ps.rest.length + N ≤ r.ps.rest.length ∧ (N = 0 ∨ (r1.wrong = false ∧ r1.many.length < r1.pos)) ∧ (∀ l r',Lk (lsR exprR 16 acc) r1 l r' → Lk (listR exprR 16) (r7) l r')) (fun wr => restQ wr P)
 case atStart => exact ⟨[],[],none,0,0,.cells #[] 48 (0,0),M,r7,rfl,rfl,(fun _ _ => World.ownsRow_nil _ _ _ _),(HA.out.imp fun _ _ h => ⟨h,XsO.nil _ _⟩),HLN.out,HLN.out,Or.inl rfl,HG.out⟩
 case round =>
  obtain ⟨acc,ks,a,N,c,o,M1,r1,hN,hlk,how,ha,hl,hlN,hroom,hg⟩:=hrel
  have HRN:=Hd ha.ra.restQ
  have HOK1:=Hd ha.ra.ok
  have HLK0:=Hd hlk
  have HOW:=Hd how
  have HN:=Hd hN
  have HLN2:=Hd hlN
  have HROOM:=Hd hroom
  have hN9 : N ≤ 1002:=by omega
  clear HA HLN HG
  have HA:=Hd ha
  have HLN:=Hd hl
  have HG:=Hd hg
  clear ha hl hlk how hN hlN hroom hg
  have zzs:=thirt_of (HA.out.at 1 rfl)
  cases hw1 : r1.wrong with
  | true =>
   obtain ⟨cg,coff,ccap,cka,ckc,ch1,-,-,-,-,cn,-,cl,-,-⟩:=HA.out.ra.cells
   obtain ⟨⟨c0,c1,c2,c3⟩,cf0,cf1,cf2,cf3⟩:=four_of ch1
   have cni : ((r1).pos : Int) + 1 ≤ 1001:=by omega
   clear ch1
   rw [hw1] at c2
   have HNL : Hid (N = (acc).length):=Hd HN.out
   replace HG:=Hd (fun a r' k => HGO.out a r' (Lk.bind (HG.out acc _ (Lk.ls_wrong hw1)) k))
   clear HGO
   go_wp2_with fail
   refine (qwants_q P (M1) (r1) ⟨#[41]⟩ _ HA.out.ra).mono ?_
   rintro e w8 ⟨x8,r8,rfl,hk,hp,ho,hl⟩
   have HK8:=Hd hk
   have HLL8:=Hd hl
   replace HG:=Hd (fun a r' k => HG.out a r' (hk.bind k))
   replace HA:=Hd (HA.out.call ho (Or.inl rfl) hp hk.right)
   replace HLN:=Hd (Nat.le_trans hl HLN.out)
   clear ho hp hl hk
   have zs:=thirt_of (HA.out.at 1 rfl)
   have zzr:=thirt_of (HA.out.at 0 rfl)
   have HLK:=Hd (HG.out _ _ (Lk.ret _ _))
   go_wp2
   have HD:=Hd (HA.out.fill 0 rfl [Vi 1,.string x4,Vs,Vn,Vn,.slice a N c,.bool false,Vn,Vn,Vn,Vn,Vi p0,Vi 0] rfl)
   obtain ⟨W99,hW99⟩:=Vx (setsL w8 W1.heap.size 0 [Vi 1,.string x4,Vs,Vn,Vn,.slice a N c,.bool false,Vn,Vn,Vn,Vn,Vi p0,Vi 0])
   rw [hW99] at HD
   simp only [setsL,Nat.reduceAdd] at hW99
   rw [hW99]
   have zy:=(thirt_of (HD.out.at 0 rfl)).1
   clear hW99
   exact bodyPost_ret (v:=.agg (Vt 1 x4 Vz Vn Vn (.slice a N c) false Vn Vn Vn Vn p0 0)) (by simp [results,Tryz.results56,go_sem,zy]) rfl (HD.out.qs (t:={ st0 with kind:=1,table:=x4,items:=acc }) (a0:=none) (n0:=0) (c0:=0) (a1:=none) (n1:=0) (c1:=0) (a2:=a) (n2:=N) (c2:=c) (a3:=none) (n3:=0) (c3:=0) (a4:=none) (n4:=0) (c4:=0) (a5:=none) (n5:=0) (c5:=0) (a6:=none) (n6:=0) (c6:=0) ⟨rfl,rfl,HNL.out,rfl,rfl,rfl,rfl⟩ HLK.out HLN.out (fun W hL h => ⟨XL.nil _ _,XL.nil _ _,⟨ks,HLK0.out,by have:=HOW.out W (fun q hq => row_in (L:=[_,_]) hL hq); rw [HNL.out] at this ⊢; exact this,h.2⟩,SeL.nil _ _,XL.nil _ _,SoL.nil _ _,IL.nil _ _⟩))
  | false =>
   obtain ⟨cg,coff,ccap,cka,ckc,ch1,-,-,-,-,cn,-,cl,-,-⟩:=HA.out.ra.cells
   obtain ⟨⟨c0,c1,c2,c3⟩,cf0,cf1,cf2,cf3⟩:=four_of ch1
   have cni : ((r1).pos : Int) + 1 ≤ 1001:=by omega
   clear ch1
   rw [hw1] at c2
   have HW1:=Hd hw1
   clear hw1
   go_wp2_with fail
   refine (qcounts_any P (M1) (r1) N 16 _ HA.out.ra (fun e => HROOM.out.elim (fun h => by omega) fun h => h.2)).mono ?_
   rintro e w9 ⟨rfl,M9,hp,ho,hm⟩
   replace HA:=Hd (HA.out.call ho hm hp (fun k => by rw [RS.cnt_wrong] at k; exact k))
   replace HLN : Hid ((((r1).cnt N 16)).ps.rest.length ≤ r.ps.rest.length):=Nat.le_trans (Nat.le_of_eq (congrArg List.length (RS.cnt_rest _ _ _))) HLN.out
   clear ho hp hm
   go_wp2_with fail
   refine (qexpr_x P (M9) (((r1).cnt N 16)) _ HA.out.ra).mono ?_
   rintro e w10 ⟨x10,a10,m10,c10,M10,r10,rfl,hk,hp,ho,hm,hl,hx⟩
   have HK10:=Hd hk
   have HLL10:=Hd hl
   replace HA:=Hd (HA.out.gainX ho hm hp hk.right hx)
   replace HLN:=Hd (Nat.le_trans hl HLN.out)
   clear ho hp hl hk hm hx
   obtain ⟨kk10,oo10,⟨v110,v210,v310⟩,tt10,nn10,ks10,pp10⟩:=x10
   simp only [exV,exC]
   obtain ⟨W11,hW11,HA⟩:=HA.out.pushE (Ve kk10 oo10 v110 v210 v310 tt10 nn10 (.slice a10 m10 c10) pp10) 48
   have zl:=nine_of (HA.out.at 0 rfl)
   have zzs:=thirt_of (HA.out.at 2 rfl)
   obtain ⟨W12,hW12,HA⟩:=HA.out.pushE (Ve kk10 oo10 v110 v210 v310 tt10 nn10 (.slice a10 m10 c10) pp10) 48
   have zzs:=thirt_of (HA.out.at 3 rfl)
   have HA8OK:=Hd HA.out.ra.ok
   obtain ⟨i0,hi,hz0,hz1,hz2⟩:=info_parts Tryz.infoExpr
   go_wp2_with (first | (at_builtin; refine wpList_append_lies _ rfl _ _ 22 rfl w.heap.size 48 i0 _ 9 112 Tryz.underlying22 hi hz0 hz1 hz2 rfl (by decide) (.slice a N c) (N) (xcs acc ks) rfl ?c0 ⟨W11.heap.size,0,none⟩ 1 1 (exC (Ex.mk kk10 oo10 (v110,v210,v310) tt10 nn10 ks10 pp10) (Value.slice a10 m10 c10)) rfl rfl ?c1 ?c2 (by decide) ?c3 ?c4 ?c5 _ rfl ?_))
   case c0 => exact HOW.out _ fun q hq => Aq.rowAt (L:=[(W11.heap.size,.cells (Ve kk10 oo10 v110 v210 v310 tt10 nn10 (.slice a10 m10 c10) pp10) 48 (0,0)),(w10.heap.size,.cells (Ve kk10 oo10 v110 v210 v310 tt10 nn10 (.slice a10 m10 c10) pp10) 48 (0,0)),(W1.heap.size,.cells Vq 27 (0,0)),(w.heap.size,.cells (Vt 1 x4 Vz Vn Vn (.slice a N c) false Vn Vn Vn Vn p0 0) 27 (0,0))]) HA.out hq
   case c1 => exact World.news_of_block (HA.out.at 0 rfl)
   case c2 => exact exC_one _ _ rfl
   case c3 => unfold maxLen; omega
   case c4 => omega
   case c5 => exact HA.out.only.size
   intro g8 cap8 w8 hown8 hgrow8 hor8 hlt8
   clear hi hz0 hz1 hz2 hW11 hW12
   obtain ⟨o8,ho8,hA8⟩:=Aq.growEnd (L:=[(W1.heap.size,.cells Vq 27 (0,0)),(w.heap.size,.cells (Vt 1 x4 Vz Vn Vn (.slice a N c) false Vn Vn Vn Vn p0 0) 27 (0,0))]) HA.out.drop.drop hgrow8 (hor8.imp id fun e => Nat.le_of_eq e.symm) hlt8 (v':=.slice (some ⟨g8,0,none⟩) (N + 1) cap8) rfl
   have HOWN : Hid (∀ W : World,(∀ q,(Value.slice (some ⟨g8,0,none⟩) (N + 1) cap8).ownBlock = some q → W.heap[q]? = some o8) → W.ownsRow w.heap.size 48 9 (.slice (some ⟨g8,0,none⟩) (N + 1) cap8) (N + 1) (xcs acc ks ++ exC (Ex.mk kk10 oo10 (v110,v210,v310) tt10 nn10 ks10 pp10) (Value.slice a10 m10 c10))):=fun W hW => own_kept hown8 fun b hb => by (obtain rfl : g8 = b:=by simpa [Value.ownBlock] using hb); exact (hW g8 rfl).trans ho8.symm
   replace HA:=Hd (hA8.imp (J:=fun W => (True) ∧ XsO W w.heap.size (acc ++ [(Ex.mk kk10 oo10 (v110,v210,v310) tt10 nn10 ks10 pp10)]) (ks ++ [(Value.slice a10 m10 c10)])) fun W _ h => ⟨h.1.1,XsO.snoc h.1.2 HLK0.out h.2⟩)
   clear hown8 hgrow8 hor8 hlt8 ho8 hA8
   have zzt:=thirt_of (HA.out.at 1 rfl)
   replace HA:=Hd (Aq.puts 1 [.slice (some ⟨g8,0,none⟩) (N + 1) cap8] 5 HA.out rfl)
   simp only [putsA,Sa,Sb,Sc] at HA
   obtain ⟨W13,hW13⟩:=Vx (setsL w8 (w.heap.size) 5 [.slice (some ⟨g8,0,none⟩) (N + 1) cap8])
   rw [hW13] at HA
   simp only [setsL] at hW13
   go_wp2_with fail
   clear hW13
   refine (qtakes_any P (M10) (r10) ⟨#[44]⟩ _ HA.out.ra).mono ?_
   rintro e w14 ⟨rfl,hp,ho⟩
   cases hS : (r10).sees [44] with
   | false =>
    rw [show (r10).sees (⟨#[44]⟩ : ByteArray).data.toList = false from hS] at hp
    try rw [show (r10).sees (⟨#[44]⟩ : ByteArray).data.toList = false from hS]
    rw [if_neg (by decide)] at hp
    have HS14:=Hd hS
    replace HA:=Hd (HA.out.call ho (Or.inl rfl) hp fun k => k)
    clear hp ho hS
    have HOWN2 : Hid (∀ W : World,(∀ q,(Value.slice (some ⟨g8,0,none⟩) (N + 1) cap8).ownBlock = some q → W.heap[q]? = some o8) → W.ownsRow w.heap.size 48 9 (.slice (some ⟨g8,0,none⟩) (N + 1) cap8) (N + 1) (xcs (acc ++ [(Ex.mk kk10 oo10 (v110,v210,v310) tt10 nn10 ks10 pp10)]) (ks ++ [(Value.slice a10 m10 c10)]))):=fun W hW => by have:=HOWN.out W hW; rw [xcs_append _ _ _ _ HLK0.out]; simpa [xcs] using this
    have HNL : Hid ((N + 1) = ((acc ++ [(Ex.mk kk10 oo10 (v110,v210,v310) tt10 nn10 ks10 pp10)])).length):=Hd (by simp [HN.out])
    replace HG:=Hd (fun a r' k => HGO.out a r' (Lk.bind (HG.out _ _ (Lk.ls_last (show Lk exprR (r1.cnt acc.length 16) (Ex.mk kk10 oo10 (v110,v210,v310) tt10 nn10 ks10 pp10) _ from by have:=HK10.out; rw [HN.out] at this; exact this) HS14.out)) k))
    clear HGO
    go_wp2_with fail
    refine (qwants_q P (M10) (r10) ⟨#[41]⟩ _ HA.out.ra).mono ?_
    rintro e w15 ⟨x15,r15,rfl,hk,hp,ho,hl⟩
    have HK15:=Hd hk
    have HLL15:=Hd hl
    replace HG:=Hd (fun a r' k => HG.out a r' (hk.bind k))
    replace HA:=Hd (HA.out.call ho (Or.inl rfl) hp hk.right)
    replace HLN:=Hd (Nat.le_trans hl HLN.out)
    clear ho hp hl hk
    have zs:=thirt_of (HA.out.at 1 rfl)
    have zzr:=thirt_of (HA.out.at 0 rfl)
    have HLK:=Hd (HG.out _ _ (Lk.ret _ _))
    go_wp2
    have HD:=Hd (HA.out.fill 0 rfl [Vi 1,.string x4,Vs,Vn,Vn,.slice (some ⟨g8,0,none⟩) (N + 1) cap8,.bool false,Vn,Vn,Vn,Vn,Vi p0,Vi 0] rfl)
    obtain ⟨W99,hW99⟩:=Vx (setsL w15 W1.heap.size 0 [Vi 1,.string x4,Vs,Vn,Vn,.slice (some ⟨g8,0,none⟩) (N + 1) cap8,.bool false,Vn,Vn,Vn,Vn,Vi p0,Vi 0])
    rw [hW99] at HD
    simp only [setsL,Nat.reduceAdd] at hW99
    rw [hW99]
    have zy:=(thirt_of (HD.out.at 0 rfl)).1
    clear hW99
    exact bodyPost_ret (v:=.agg (Vt 1 x4 Vz Vn Vn (.slice (some ⟨g8,0,none⟩) (N + 1) cap8) false Vn Vn Vn Vn p0 0)) (by simp [results,Tryz.results56,go_sem,zy]) rfl (HD.out.qs (t:={ st0 with kind:=1,table:=x4,items:=(acc ++ [(Ex.mk kk10 oo10 (v110,v210,v310) tt10 nn10 ks10 pp10)]) }) (a0:=none) (n0:=0) (c0:=0) (a1:=none) (n1:=0) (c1:=0) (a2:=(some ⟨g8,0,none⟩)) (n2:=(N + 1)) (c2:=cap8) (a3:=none) (n3:=0) (c3:=0) (a4:=none) (n4:=0) (c4:=0) (a5:=none) (n5:=0) (c5:=0) (a6:=none) (n6:=0) (c6:=0) ⟨rfl,rfl,HNL.out,rfl,rfl,rfl,rfl⟩ HLK.out HLN.out (fun W hL h => ⟨XL.nil _ _,XL.nil _ _,⟨(ks ++ [(Value.slice a10 m10 c10)]),(by simp [HLK0.out]),by have:=HOWN2.out W (fun q hq => row_in (L:=[_,_]) hL hq); rw [HNL.out] at this ⊢; exact this,h.2⟩,SeL.nil _ _,XL.nil _ _,SoL.nil _ _,IL.nil _ _⟩))
   | true =>
    rw [show (r10).sees (⟨#[44]⟩ : ByteArray).data.toList = true from hS] at hp
    try rw [show (r10).sees (⟨#[44]⟩ : ByteArray).data.toList = true from hS]
    rw [if_pos rfl] at hp
    have HS14:=Hd hS
    replace HA:=Hd (HA.out.call ho (Or.inl rfl) hp fun k => k)
    replace HLN:=Hd (Nat.le_trans (RS.step_le _) HLN.out)
    clear hp ho hS
    go_wp2
    go_roundw
    case rel => exact ⟨acc ++ [(Ex.mk kk10 oo10 (v110,v210,v310) tt10 nn10 ks10 pp10)],ks ++ [(Value.slice a10 m10 c10)],some ⟨g8,0,none⟩,N + 1,cap8,o8,M10,(r10).step,by simp [HN.out],by simp [HLK0.out],(fun W hW => by have:=HOWN.out W hW; rw [xcs_append _ _ _ _ HLK0.out]; simpa [xcs] using this),HA.out,HLN.out,(by have h1:=(show (r10).ps.rest.length ≤ r1.ps.rest.length from by have:=HLL10.out; rw [RS.cnt_rest] at this; exact this); have h2:=RS.step_lt HA8OK.out; have h3:=HLN2.out; omega),Or.inr ⟨(RS.sees_true HS14.out).1,HA8OK.out.room⟩,fun l r' q => HG.out l r' (Lk.ls_more HW1.out (show Lk exprR (r1.cnt acc.length 16) (Ex.mk kk10 oo10 (v110,v210,v310) tt10 nn10 ks10 pp10) _ from by have:=HK10.out; rw [HN.out] at this; exact this) HS14.out q)⟩
    case measure => rw [HA.out.ra.restQ,HRN.out]; have h1:=(show (r10).ps.rest.length ≤ r1.ps.rest.length from by have:=HLL10.out; rw [RS.cnt_rest] at this; exact this); have h2:=RS.step_lt HA8OK.out; omega

theorem qupdate_s (P M : Nat) (p0 : Int) (r : RS) (w : World) (h : RA w P M r) : Calls Tryz.prog 57 #[.pointer (some ⟨P,0,none⟩),.agg (Vt 2 Vz Vz Vn Vn Vn false Vn Vn Vn Vn p0 0)] w (QS updR p0 P M r w):=by
 have HA:=Hd (Aq.start h)
 have hPw:=h.lt
 have HLN : Hid (r.ps.rest.length ≤ r.ps.rest.length):=Nat.le_refl _
 have HG : Hid (∀ a r',Lk (updR) r a r' → Lk (updR) r a r'):=fun _ _ k => k
 clear h
 have hRL : r.ps.rest.length ≤ 1001:=Nat.le_trans (by show (r.all.drop r.pos).length ≤ r.all.length; simp) HA.out.ra.ok.len
 go_enter Tryz.func57,Tryz.ntmps57
 obtain ⟨W1,hW1,HA⟩:=HA.out.pushE (Vt 2 Vz Vz Vn Vn Vn false Vn Vn Vn Vn p0 0) 27
 obtain ⟨W2,hW2,HA⟩:=HA.out.pushE Vq 27
 go_wp2_with fail
 clear hW1 hW2
 refine (qname_q P (M) (r) _ HA.out.ra).mono ?_
 rintro e w3 ⟨x3,r3,rfl,hk,hp,ho,hl⟩
 have HK3:=Hd hk
 have HLL3:=Hd hl
 replace HG:=Hd (fun a r' k => HG.out a r' (hk.bind k))
 replace HA:=Hd (HA.out.call ho (Or.inl rfl) hp hk.right)
 replace HLN:=Hd (Nat.le_trans hl HLN.out)
 clear ho hp hl hk
 have zs:=thirt_of (HA.out.at 1 rfl)
 replace HA:=Hd (Aq.puts 1 [.string x3] 1 HA.out rfl)
 simp only [putsA,Sa,Sb,Sc] at HA
 obtain ⟨W4,hW4⟩:=Vx (setsL w3 (w.heap.size) 1 [.string x3])
 rw [hW4] at HA
 simp only [setsL] at hW4
 go_wp2_with fail
 clear hW4
 refine (qwants_q P (M) (r3) ⟨#[83,69,84]⟩ _ HA.out.ra).mono ?_
 rintro e w5 ⟨x5,r5,rfl,hk,hp,ho,hl⟩
 have HK5:=Hd hk
 have HLL5:=Hd hl
 replace HG:=Hd (fun a r' k => HG.out a r' (hk.bind k))
 replace HA:=Hd (HA.out.call ho (Or.inl rfl) hp hk.right)
 replace HLN:=Hd (Nat.le_trans hl HLN.out)
 clear ho hp hl hk
 have HGO:=HG
 clear HG
 have HG : Hid (∀ l r',Lk (lsR setR 16 []) (r5) l r' → Lk (listR setR 16) (r5) l r'):=fun _ _ k => k
 go_wp2_with fail
 go_loopw [] (fun wr => ∃ (acc : List Se) (ks : List Value) (a : Option Addr) (N c : Nat) (o : Obj) (M1 : Nat) (r1 : RS),N = acc.length ∧ acc.length = ks.length ∧ (∀ W : World,(∀ q,(Value.slice a N c).ownBlock = some q → W.heap[q]? = some o) → W.ownsRow w.heap.size 65 11 (.slice a N c) N (ses acc ks)) ∧ Aq w P M M1 r1 ((W1.heap.size,.cells Vq 27 (0,0)) :: (w.heap.size,.cells (Vt 2 x3 Vz Vn Vn Vn false (.slice a N c) Vn Vn Vn p0 0) 27 (0,0)) :: rowL (.slice a N c) o) (fun W => (True) ∧ SsO W w.heap.size acc ks) wr ∧ r1.ps.rest.length ≤ r.ps.rest.length ∧ r1.ps.rest.length + N ≤ r.ps.rest.length ∧ (N = 0 ∨ (r1.wrong = false ∧ r1.many.length < r1.pos)) ∧ (∀ l r',Lk (lsR setR 16 acc) r1 l r' → Lk (listR setR 16) (r5) l r')) (fun wr => restQ wr P)
 case atStart => exact ⟨[],[],none,0,0,.cells #[] 65 (0,0),M,r5,rfl,rfl,(fun _ _ => World.ownsRow_nil _ _ _ _),(HA.out.imp fun _ _ h => ⟨h,fun _ h => absurd h (Nat.not_lt_zero _)⟩),HLN.out,HLN.out,Or.inl rfl,HG.out⟩
 case round =>
  obtain ⟨acc,ks,a,N,c,o,M1,r1,hN,hlk,how,ha,hl,hlN,hroom,hg⟩:=hrel
  have HRN:=Hd ha.ra.restQ
  have HOK1:=Hd ha.ra.ok
  have HLK0:=Hd hlk
  have HOW:=Hd how
  have HN:=Hd hN
  have HLN2:=Hd hlN
  have HROOM:=Hd hroom
  have hN9 : N ≤ 1002:=by omega
  clear HA HLN HG
  have HA:=Hd ha
  have HLN:=Hd hl
  have HG:=Hd hg
  clear ha hl hlk how hN hlN hroom hg
  have zzs:=thirt_of (HA.out.at 1 rfl)
  cases hw1 : r1.wrong with
  | true =>
   obtain ⟨cg,coff,ccap,cka,ckc,ch1,-,-,-,-,cn,-,cl,-,-⟩:=HA.out.ra.cells
   obtain ⟨⟨c0,c1,c2,c3⟩,cf0,cf1,cf2,cf3⟩:=four_of ch1
   have cni : ((r1).pos : Int) + 1 ≤ 1001:=by omega
   clear ch1
   rw [hw1] at c2
   have HNL : Hid (N = (acc).length):=Hd HN.out
   replace HG:=Hd (fun a r' k => HGO.out a r' (Lk.bind (HG.out acc _ (Lk.ls_wrong hw1)) k))
   clear HGO
   go_wp2_with fail
   refine (qwhere_l P (M1) (r1) _ HA.out.ra).mono ?_
   rintro e w6 ⟨l6,a6,c6,M6,r6,rfl,hk,hp,ho,hm,hl,hx⟩
   replace HG:=Hd (fun a r' k => HG.out a r' (hk.bind k))
   replace HA:=Hd (HA.out.gainV ho hm hp hk.right (fun _ _ _ hB k => k.mono hB) hx)
   replace HLN:=Hd (Nat.le_trans hl HLN.out)
   clear ho hp hl hk hm hx
   have zs:=thirt_of (HA.out.at 1 rfl)
   replace HA:=Hd (Aq.puts 1 [.slice a6 l6.length c6] 4 HA.out rfl)
   simp only [putsA,Sa,Sb,Sc] at HA
   obtain ⟨W7,hW7⟩:=Vx (setsL w6 (w.heap.size) 4 [.slice a6 l6.length c6])
   rw [hW7] at HA
   simp only [setsL] at hW7
   have zs:=thirt_of (HA.out.at 1 rfl)
   have zzr:=thirt_of (HA.out.at 0 rfl)
   have HLK:=Hd (HG.out _ _ (Lk.ret _ _))
   go_wp2
   clear hW7
   have HD:=Hd (HA.out.fill 0 rfl [Vi 2,.string x3,Vs,Vn,.slice a6 l6.length c6,Vn,.bool false,.slice a N c,Vn,Vn,Vn,Vi p0,Vi 0] rfl)
   obtain ⟨W99,hW99⟩:=Vx (setsL W7 W1.heap.size 0 [Vi 2,.string x3,Vs,Vn,.slice a6 l6.length c6,Vn,.bool false,.slice a N c,Vn,Vn,Vn,Vi p0,Vi 0])
   rw [hW99] at HD
   simp only [setsL,Nat.reduceAdd] at hW99
   rw [hW99]
   have zy:=(thirt_of (HD.out.at 0 rfl)).1
   clear hW99
   exact bodyPost_ret (v:=.agg (Vt 2 x3 Vz Vn (.slice a6 l6.length c6) Vn false (.slice a N c) Vn Vn Vn p0 0)) (by simp [results,Tryz.results57,go_sem,zy]) rfl (HD.out.qs (t:={ st0 with kind:=2,table:=x3,sets:=acc,whr:=l6 }) (a0:=none) (n0:=0) (c0:=0) (a1:=a6) (n1:=l6.length) (c1:=c6) (a2:=none) (n2:=0) (c2:=0) (a3:=a) (n3:=N) (c3:=c) (a4:=none) (n4:=0) (c4:=0) (a5:=none) (n5:=0) (c5:=0) (a6:=none) (n6:=0) (c6:=0) ⟨rfl,rfl,rfl,HNL.out,rfl,rfl,rfl⟩ HLK.out HLN.out (fun W hL h => ⟨XL.nil _ _,h.2,XL.nil _ _,⟨ks,HLK0.out,by have:=HOW.out W (fun q hq => row_in (L:=[_,_]) hL hq); rw [HNL.out] at this ⊢; exact this,h.1.2⟩,XL.nil _ _,SoL.nil _ _,IL.nil _ _⟩))
  | false =>
   obtain ⟨cg,coff,ccap,cka,ckc,ch1,-,-,-,-,cn,-,cl,-,-⟩:=HA.out.ra.cells
   obtain ⟨⟨c0,c1,c2,c3⟩,cf0,cf1,cf2,cf3⟩:=four_of ch1
   have cni : ((r1).pos : Int) + 1 ≤ 1001:=by omega
   clear ch1
   rw [hw1] at c2
   have HW1:=Hd hw1
   clear hw1
   go_wp2_with fail
   refine (qcounts_any P (M1) (r1) N 16 _ HA.out.ra (fun e => HROOM.out.elim (fun h => by omega) fun h => h.2)).mono ?_
   rintro e w8 ⟨rfl,M8,hp,ho,hm⟩
   replace HA:=Hd (HA.out.call ho hm hp (fun k => by rw [RS.cnt_wrong] at k; exact k))
   replace HLN : Hid ((((r1).cnt N 16)).ps.rest.length ≤ r.ps.rest.length):=Nat.le_trans (Nat.le_of_eq (congrArg List.length (RS.cnt_rest _ _ _))) HLN.out
   clear ho hp hm
   obtain ⟨⟨⟨tk1,tn1,tt1⟩,ta1⟩,hh⟩ : ∃ x,(((r1).cnt N 16)).ps.hd = x:=⟨_,rfl⟩
   have HT:=qnh P M8 hh
   have HH1:=Hd hh
   clear hh
   go_wp2_with fail
   refine (HT.out _ HA.out.ra).mono ?_
   rintro e w9 ⟨rfl,hb⟩
   replace HA:=Hd (HA.out.bel hb)
   clear hb HT
   obtain ⟨W10,hW10,HA⟩:=HA.out.pushE (Vk tk1 tn1 tt1 ta1) 43
   have zt:=four_of (HA.out.at 0 rfl)
   obtain ⟨W11,hW11,HA⟩:=HA.out.pushE #[Vs,Vi 0,Vi 0,Vi 0,Vi 0,Vs,Vs,Vs,Vn,Vi 0,Vi (ta1 : Int)] 65
   go_wp2_with fail
   clear hW10 hW11
   refine (qname_q P (M8) (((r1).cnt N 16)) _ HA.out.ra).mono ?_
   rintro e w12 ⟨x12,r12,rfl,hk,hp,ho,hl⟩
   have HK12:=Hd hk
   have HLL12:=Hd hl
   replace HA:=Hd (HA.out.call ho (Or.inl rfl) hp hk.right)
   replace HLN:=Hd (Nat.le_trans hl HLN.out)
   clear ho hp hl hk
   have zq:=eleven_of (HA.out.at 0 rfl)
   replace HA:=Hd (Aq.puts 0 [.string x12] 0 HA.out rfl)
   simp only [putsA,Sa,Sb] at HA
   obtain ⟨W13,hW13⟩:=Vx (setsL w12 (W10.heap.size) 0 [.string x12])
   rw [hW13] at HA
   simp only [setsL] at hW13
   go_wp2_with fail
   clear hW13
   refine (qwants_q P (M8) (r12) ⟨#[61]⟩ _ HA.out.ra).mono ?_
   rintro e w14 ⟨x14,r14,rfl,hk,hp,ho,hl⟩
   have HK14:=Hd hk
   have HLL14:=Hd hl
   replace HA:=Hd (HA.out.call ho (Or.inl rfl) hp hk.right)
   replace HLN:=Hd (Nat.le_trans hl HLN.out)
   clear ho hp hl hk
   go_wp2_with fail
   refine (qexpr_x P (M8) (r14) _ HA.out.ra).mono ?_
   rintro e w15 ⟨x15,a15,m15,c15,M15,r15,rfl,hk,hp,ho,hm,hl,hx⟩
   have HK15:=Hd hk
   have HLL15:=Hd hl
   replace HA:=Hd (HA.out.gainX ho hm hp hk.right hx)
   replace HLN:=Hd (Nat.le_trans hl HLN.out)
   clear ho hp hl hk hm hx
   obtain ⟨kk15,oo15,⟨v115,v215,v315⟩,tt15,nn15,ks15,pp15⟩:=x15
   simp only [exV,exC]
   have zb:=eleven_of (HA.out.at 0 rfl)
   replace HA:=Hd (Aq.puts 0 [Vi kk15,Vi oo15,Vi v115,Vi v215,.string v315,.string tt15,.string nn15,.slice a15 m15 c15,Vi pp15] 1 HA.out rfl)
   simp only [putsA,Nat.reduceAdd,Sa,Sb,Sc] at HA
   obtain ⟨W16,hW16⟩:=Vx (setsL w15 (W10.heap.size) 1 [Vi kk15,Vi oo15,Vi v115,Vi v215,.string v315,.string tt15,.string nn15,.slice a15 m15 c15,Vi pp15])
   rw [hW16] at HA
   simp only [setsL,Nat.reduceAdd] at hW16
   have zd:=eleven_of (HA.out.at 0 rfl)
   have zzs:=thirt_of (HA.out.at 3 rfl)
   obtain ⟨W17,hW17,HA⟩:=HA.out.pushE #[.string x12,Vi kk15,Vi oo15,Vi v115,Vi v215,.string v315,.string tt15,.string nn15,.slice a15 m15 c15,Vi pp15,Vi (ta1 : Int)] 65
   have zzs:=thirt_of (HA.out.at 4 rfl)
   have HLT : Hid ((r15).ps.rest.length ≤ r1.ps.rest.length):=Hd (by have h1:=HLL12.out; have h2:=HLL14.out; have h3:=HLL15.out; rw [RS.cnt_rest] at h1; omega)
   have HA8OK:=Hd HA.out.ra.ok
   obtain ⟨i0,hi,hz0,hz1,hz2⟩:=info_parts Tryz.infoSet
   go_wp2_with (first | (at_builtin; refine wpList_append_lies _ rfl _ _ 23 rfl w.heap.size 65 i0 _ 11 136 Tryz.underlying23 hi hz0 hz1 hz2 rfl (by decide) (.slice a N c) (N) (ses acc ks) rfl ?c0 ⟨W16.heap.size,0,none⟩ 1 1 (seC ((x12,(Ex.mk kk15 oo15 (v115,v215,v315) tt15 nn15 ks15 pp15),(ta1 : Int)) : Se) (Value.slice a15 m15 c15)) rfl rfl ?c1 ?c2 (by decide) ?c3 ?c4 ?c5 _ rfl ?_))
   case c0 => exact HOW.out _ fun q hq => Aq.rowAt (L:=[(W16.heap.size,.cells #[.string x12,Vi kk15,Vi oo15,Vi v115,Vi v215,.string v315,.string tt15,.string nn15,.slice a15 m15 c15,Vi pp15,Vi (ta1 : Int)] 65 (0,0)),(W10.heap.size,.cells #[.string x12,Vi kk15,Vi oo15,Vi v115,Vi v215,.string v315,.string tt15,.string nn15,.slice a15 m15 c15,Vi pp15,Vi (ta1 : Int)] 65 (0,0)),(w9.heap.size,.cells (Vk tk1 tn1 tt1 ta1) 43 (0,0)),(W1.heap.size,.cells Vq 27 (0,0)),(w.heap.size,.cells (Vt 2 x3 Vz Vn Vn Vn false (.slice a N c) Vn Vn Vn p0 0) 27 (0,0))]) HA.out hq
   case c1 => exact World.news_of_block (HA.out.at 0 rfl)
   case c2 => exact seC_one _ _ rfl
   case c3 => unfold maxLen; omega
   case c4 => omega
   case c5 => exact HA.out.only.size
   intro g8 cap8 w8 hown8 hgrow8 hor8 hlt8
   clear hi hz0 hz1 hz2 hW16 hW17
   obtain ⟨o8,ho8,hA8⟩:=Aq.growEnd (L:=[(W1.heap.size,.cells Vq 27 (0,0)),(w.heap.size,.cells (Vt 2 x3 Vz Vn Vn Vn false (.slice a N c) Vn Vn Vn p0 0) 27 (0,0))]) HA.out.drop.drop.drop hgrow8 (hor8.imp id fun e => Nat.le_of_eq e.symm) hlt8 (v':=.slice (some ⟨g8,0,none⟩) (N + 1) cap8) rfl
   have HOWN : Hid (∀ W : World,(∀ q,(Value.slice (some ⟨g8,0,none⟩) (N + 1) cap8).ownBlock = some q → W.heap[q]? = some o8) → W.ownsRow w.heap.size 65 11 (.slice (some ⟨g8,0,none⟩) (N + 1) cap8) (N + 1) (ses acc ks ++ seC ((x12,(Ex.mk kk15 oo15 (v115,v215,v315) tt15 nn15 ks15 pp15),(ta1 : Int)) : Se) (Value.slice a15 m15 c15))):=fun W hW => own_kept hown8 fun b hb => by (obtain rfl : g8 = b:=by simpa [Value.ownBlock] using hb); exact (hW g8 rfl).trans ho8.symm
   replace HA:=Hd (hA8.imp (J:=fun W => (True) ∧ SsO W w.heap.size (acc ++ [((x12,(Ex.mk kk15 oo15 (v115,v215,v315) tt15 nn15 ks15 pp15),(ta1 : Int)) : Se)]) (ks ++ [(Value.slice a15 m15 c15)])) fun W _ h => ⟨h.1.1,SsO.snoc h.1.2 HLK0.out h.2⟩)
   clear hown8 hgrow8 hor8 hlt8 ho8 hA8
   have zzt:=thirt_of (HA.out.at 1 rfl)
   replace HA:=Hd (Aq.puts 1 [.slice (some ⟨g8,0,none⟩) (N + 1) cap8] 7 HA.out rfl)
   simp only [putsA,Sa,Sb,Sc] at HA
   obtain ⟨W18,hW18⟩:=Vx (setsL w8 (w.heap.size) 7 [.slice (some ⟨g8,0,none⟩) (N + 1) cap8])
   rw [hW18] at HA
   simp only [setsL] at hW18
   go_wp2_with fail
   clear hW18
   refine (qtakes_any P (M15) (r15) ⟨#[44]⟩ _ HA.out.ra).mono ?_
   rintro e w19 ⟨rfl,hp,ho⟩
   cases hS : (r15).sees [44] with
   | false =>
    rw [show (r15).sees (⟨#[44]⟩ : ByteArray).data.toList = false from hS] at hp
    try rw [show (r15).sees (⟨#[44]⟩ : ByteArray).data.toList = false from hS]
    rw [if_neg (by decide)] at hp
    have HS19:=Hd hS
    replace HA:=Hd (HA.out.call ho (Or.inl rfl) hp fun k => k)
    clear hp ho hS
    have HOWN2 : Hid (∀ W : World,(∀ q,(Value.slice (some ⟨g8,0,none⟩) (N + 1) cap8).ownBlock = some q → W.heap[q]? = some o8) → W.ownsRow w.heap.size 65 11 (.slice (some ⟨g8,0,none⟩) (N + 1) cap8) (N + 1) (ses (acc ++ [((x12,(Ex.mk kk15 oo15 (v115,v215,v315) tt15 nn15 ks15 pp15),(ta1 : Int)) : Se)]) (ks ++ [(Value.slice a15 m15 c15)]))):=fun W hW => by have:=HOWN.out W hW; rw [ses_append _ _ _ _ HLK0.out]; simpa [ses] using this
    have HNL : Hid ((N + 1) = ((acc ++ [((x12,(Ex.mk kk15 oo15 (v115,v215,v315) tt15 nn15 ks15 pp15),(ta1 : Int)) : Se)])).length):=Hd (by simp [HN.out])
    replace HG:=Hd (fun a r' k => HGO.out a r' (Lk.bind (HG.out _ _ (Lk.ls_last (show Lk setR (r1.cnt acc.length 16) ((x12,(Ex.mk kk15 oo15 (v115,v215,v315) tt15 nn15 ks15 pp15),(ta1 : Int)) : Se) _ from by have:=(show Lk setR (r1.cnt N 16) ((x12,(Ex.mk kk15 oo15 (v115,v215,v315) tt15 nn15 ks15 pp15),(ta1 : Int)) : Se) _ from Lk.set (by rw [HH1.out]; exact HK12.out.bind (HK14.out.bind (HK15.out.bind (Lk.ret _ _))))); rw [HN.out] at this; exact this) HS19.out)) k))
    clear HGO
    go_wp2_with fail
    refine (qwhere_l P (M15) (r15) _ HA.out.ra).mono ?_
    rintro e w20 ⟨l20,a20,c20,M20,r20,rfl,hk,hp,ho,hm,hl,hx⟩
    replace HG:=Hd (fun a r' k => HG.out a r' (hk.bind k))
    replace HA:=Hd (HA.out.gainV ho hm hp hk.right (fun _ _ _ hB k => k.mono hB) hx)
    replace HLN:=Hd (Nat.le_trans hl HLN.out)
    clear ho hp hl hk hm hx
    have zs:=thirt_of (HA.out.at 1 rfl)
    replace HA:=Hd (Aq.puts 1 [.slice a20 l20.length c20] 4 HA.out rfl)
    simp only [putsA,Sa,Sb,Sc] at HA
    obtain ⟨W21,hW21⟩:=Vx (setsL w20 (w.heap.size) 4 [.slice a20 l20.length c20])
    rw [hW21] at HA
    simp only [setsL] at hW21
    have zs:=thirt_of (HA.out.at 1 rfl)
    have zzr:=thirt_of (HA.out.at 0 rfl)
    have HLK:=Hd (HG.out _ _ (Lk.ret _ _))
    go_wp2
    clear hW21
    have HD:=Hd (HA.out.fill 0 rfl [Vi 2,.string x3,Vs,Vn,.slice a20 l20.length c20,Vn,.bool false,.slice (some ⟨g8,0,none⟩) (N + 1) cap8,Vn,Vn,Vn,Vi p0,Vi 0] rfl)
    obtain ⟨W99,hW99⟩:=Vx (setsL W21 W1.heap.size 0 [Vi 2,.string x3,Vs,Vn,.slice a20 l20.length c20,Vn,.bool false,.slice (some ⟨g8,0,none⟩) (N + 1) cap8,Vn,Vn,Vn,Vi p0,Vi 0])
    rw [hW99] at HD
    simp only [setsL,Nat.reduceAdd] at hW99
    rw [hW99]
    have zy:=(thirt_of (HD.out.at 0 rfl)).1
    clear hW99
    exact bodyPost_ret (v:=.agg (Vt 2 x3 Vz Vn (.slice a20 l20.length c20) Vn false (.slice (some ⟨g8,0,none⟩) (N + 1) cap8) Vn Vn Vn p0 0)) (by simp [results,Tryz.results57,go_sem,zy]) rfl (HD.out.qs (t:={ st0 with kind:=2,table:=x3,sets:=(acc ++ [((x12,(Ex.mk kk15 oo15 (v115,v215,v315) tt15 nn15 ks15 pp15),(ta1 : Int)) : Se)]),whr:=l20 }) (a0:=none) (n0:=0) (c0:=0) (a1:=a20) (n1:=l20.length) (c1:=c20) (a2:=none) (n2:=0) (c2:=0) (a3:=(some ⟨g8,0,none⟩)) (n3:=(N + 1)) (c3:=cap8) (a4:=none) (n4:=0) (c4:=0) (a5:=none) (n5:=0) (c5:=0) (a6:=none) (n6:=0) (c6:=0) ⟨rfl,rfl,rfl,HNL.out,rfl,rfl,rfl⟩ HLK.out HLN.out (fun W hL h => ⟨XL.nil _ _,h.2,XL.nil _ _,⟨(ks ++ [(Value.slice a15 m15 c15)]),(by simp [HLK0.out]),by have:=HOWN2.out W (fun q hq => row_in (L:=[_,_]) hL hq); rw [HNL.out] at this ⊢; exact this,h.1.2⟩,XL.nil _ _,SoL.nil _ _,IL.nil _ _⟩))
   | true =>
    rw [show (r15).sees (⟨#[44]⟩ : ByteArray).data.toList = true from hS] at hp
    try rw [show (r15).sees (⟨#[44]⟩ : ByteArray).data.toList = true from hS]
    rw [if_pos rfl] at hp
    have HS19:=Hd hS
    replace HA:=Hd (HA.out.call ho (Or.inl rfl) hp fun k => k)
    replace HLN:=Hd (Nat.le_trans (RS.step_le _) HLN.out)
    clear hp ho hS
    go_wp2
    go_roundw
    case rel => exact ⟨acc ++ [((x12,(Ex.mk kk15 oo15 (v115,v215,v315) tt15 nn15 ks15 pp15),(ta1 : Int)) : Se)],ks ++ [(Value.slice a15 m15 c15)],some ⟨g8,0,none⟩,N + 1,cap8,o8,M15,(r15).step,by simp [HN.out],by simp [HLK0.out],(fun W hW => by have:=HOWN.out W hW; rw [ses_append _ _ _ _ HLK0.out]; simpa [ses] using this),HA.out,HLN.out,(by have h1:=HLT.out; have h2:=RS.step_lt HA8OK.out; have h3:=HLN2.out; omega),Or.inr ⟨(RS.sees_true HS19.out).1,HA8OK.out.room⟩,fun l r' q => HG.out l r' (Lk.ls_more HW1.out (show Lk setR (r1.cnt acc.length 16) ((x12,(Ex.mk kk15 oo15 (v115,v215,v315) tt15 nn15 ks15 pp15),(ta1 : Int)) : Se) _ from by have:=(show Lk setR (r1.cnt N 16) ((x12,(Ex.mk kk15 oo15 (v115,v215,v315) tt15 nn15 ks15 pp15),(ta1 : Int)) : Se) _ from Lk.set (by rw [HH1.out]; exact HK12.out.bind (HK14.out.bind (HK15.out.bind (Lk.ret _ _))))); rw [HN.out] at this; exact this) HS19.out q)⟩
    case measure => rw [HA.out.ra.restQ,HRN.out]; have h1:=HLT.out; have h2:=RS.step_lt HA8OK.out; omega
end Go.Proofs.YtffalonhkemieaaGreatDoor
