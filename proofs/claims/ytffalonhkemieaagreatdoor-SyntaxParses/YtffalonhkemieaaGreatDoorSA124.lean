/- A124 -/
import Derived.Test.YtffalonhkemieaaGreatDoorSA122
import Derived.Test.YtffalonhkemieaaGreatDoorSA74
set_option maxHeartbeats 8000000
set_option maxRecDepth 100000
namespace Go.Proofs.YtffalonhkemieaaGreatDoor
open Go.RowKit
theorem Aq.perm {w0 w : World} {P M0 M : Nat} {r : RS} {L L' : List (Nat × Obj)} {I : World → Prop} (h : Aq w0 P M0 M r L I w) (hp : L.Perm L') : Aq w0 P M0 M r L' I w:=by
 refine ⟨h.low,h.lowM,h.ra,h.only,h.mm,fun x hx => h.has x (hp.mem_iff.2 hx),(hp.map Prod.fst).nodup_iff.1 h.nodup,?_⟩
 exact h.inv.keep (Nat.le_refl _) (fun _ _ _ _ => rfl) fun g _ k => k.imp (fun m => (hp.map Prod.fst).mem_iff.2 m) id

theorem Aq.growEnd {w0 w w' : World} {P M0 M g : Nat} {r : RS} {v v' : Value} {o : Obj} {L : List (Nat × Obj)} {I : World → Prop} (h : Aq w0 P M0 M r (L ++ rowL v o) I w) (hg : w.grownBy w' v.ownBlock) (hq : v.ownBlock = some g ∨ w.heap.size ≤ g) (hlt : g < w'.heap.size) (hv : v'.ownBlock = some g) : ∃ o',w'.heap[g]? = some o' ∧ Aq w0 P M0 M r (L ++ rowL v' o') I w':=by
 obtain ⟨o',h1,h2⟩:=(h.perm List.perm_append_comm).grow hg hq hlt
 refine ⟨o',h1,?_⟩
 have e : rowL v' o' = [(g,o')]:=by unfold rowL; rw [hv]
 rw [e]
 exact h2.perm (List.perm_append_comm (l₁:=[(g,o')]))

theorem Aq.rowAt {w0 w : World} {P M0 M q : Nat} {r : RS} {v : Value} {o : Obj} {L : List (Nat × Obj)} {I : World → Prop} (h : Aq w0 P M0 M r (L ++ rowL v o) I w) (hv : v.ownBlock = some q) : w.heap[q]? = some o:=(h.has (q,o) (List.mem_append_right _ (by unfold rowL; rw [hv]; simp))).2.2

theorem row_in {v : Value} {o : Obj} {L : List (Nat × Obj)} {W : World} (h : ∀ y ∈ L ++ rowL v o,W.heap[y.1]? = some y.2) {q : Nat} (hv : v.ownBlock = some q) : W.heap[q]? = some o:=h (q,o) (List.mem_append_right _ (by unfold rowL; rw [hv]; simp))

def QL {α : Type} (f : Rd_ (List α)) (V : World → Nat → List α → Value → Prop) (P M : Nat) (r : RS) (w : World) (e : Ending) (w' : World) : Prop:=∃ l a c M' r',e = .returned (.slice a l.length c) ∧ Lk f r l r' ∧ RA w' P M' r' ∧ Only (Zd P M) w w' ∧ (M' = M ∨ w.heap.size ≤ M') ∧ r'.ps.rest.length ≤ r.ps.rest.length ∧ (r'.wrong = false → FS w' w.heap.size (fun g => g = M') fun W => V W w.heap.size l (.slice a l.length c))

theorem Aq.fs {w0 w : World} {P M0 M : Nat} {r : RS} {L : List (Nat × Obj)} {I : World → Prop} (h : Aq w0 P M0 M r L I w) (hw : r.wrong = false) : FS w w0.heap.size (fun g => g = M) fun W => (∀ x ∈ L,W.heap[x.1]? = some x.2) ∧ I W:=by
 intro W hW
 refine ⟨fun x hx => ?_,h.inv W (fun g hg hn hl => hW g hg (fun e => hn (Or.inr e)) hl) hw⟩
 obtain ⟨h1,h2,h3⟩:=h.has x hx
 exact (hW x.1 h1 h2 (Gx h3)).trans h3

theorem Aq.ql {α : Type} {f : Rd_ (List α)} {V : World → Nat → List α → Value → Prop} {w0 w : World} {P M0 M : Nat} {r0 r : RS} {L : List (Nat × Obj)} {I : World → Prop} {l : List α} {a : Option Addr} {n c : Nat} (h : Aq w0 P M0 M r L I w) (hk : Lk f r0 l r) (hl : r.ps.rest.length ≤ r0.ps.rest.length) (hn : n = l.length) (hv : ∀ W,(∀ y ∈ L,W.heap[y.1]? = some y.2) → I W → V W w0.heap.size l (.slice a n c)) : QL f V P M0 r0 w0 (.returned (.slice a n c)) w:=by
 subst hn
 exact ⟨l,a,c,M,r,rfl,hk,h.ra,h.only,h.mm,hl,fun hw => (h.fs hw).imp fun W k => hv W k.1 k.2⟩

theorem Aq.gainV {α : Type} {V : World → Nat → α → Value → Prop} {w0 w w' : World} {P M0 M M' : Nat} {r r' : RS} {L : List (Nat × Obj)} {I : World → Prop} {x : α} {k : Value} (h : Aq w0 P M0 M r L I w) (ho : Only (Zd P M) w w') (hm : M' = M ∨ w.heap.size ≤ M') (hp : RA w' P M' r') (hr : r'.wrong = false → r.wrong = false) (hV : ∀ W B B',B' ≤ B → V W B x k → V W B' x k) (hx : r'.wrong = false → FS w' w.heap.size (fun g => g = M') fun W => V W w.heap.size x k) : Aq w0 P M0 M' r' L (fun W => I W ∧ V W w0.heap.size x k) w':=h.gain ho hm hp hr _ fun hw => (hx hw).imp fun W k => hV W _ _ h.only.size k

theorem qnumber_q2 (P M : Nat) (r : RS) (w : World) (h : RA w P M r) : Calls Tryz.prog 108 #[.pointer (some ⟨P,0,none⟩)] w fun e w' => ∃ n r',e = .returned (Vi n) ∧ (∃ k t,Lk numR r ((k,n,t),r.ps.hd.2) r') ∧ RA w' P M r' ∧ Only (Zd P M) w w' ∧ r'.ps.rest.length ≤ r.ps.rest.length:=by
 refine (qnumber_any P M r w h).mono ?_
 rintro e w' ⟨rfl,hp,ho⟩
 cases hk : r.isK 2 with
 | true =>
  rw [hk,if_pos rfl] at hp
  rw [if_pos rfl]
  exact ⟨_,_,rfl,⟨r.ps.hd.1.1,r.ps.hd.1.2.2,Lk.num_yes hk⟩,hp,ho,RS.step_le r⟩
 | false =>
  rw [hk,if_neg (by decide)] at hp
  rw [if_neg (by decide)]
  exact ⟨_,_,rfl,⟨2,⟨#[]⟩,Lk.num_not hk⟩,hp,ho,Nat.le_refl _⟩

theorem qwhere_l (P M : Nat) (r : RS) (w : World) (h : RA w P M r) : Calls Tryz.prog 104 #[.pointer (some ⟨P,0,none⟩)] w (QL whereR XL P M r w):=by
 have HA:=Hd (Aq.start h)
 have hPw:=h.lt
 have HLN : Hid (r.ps.rest.length ≤ r.ps.rest.length):=Nat.le_refl _
 have HG : Hid (∀ a r',Lk (whereR) r a r' → Lk (whereR) r a r'):=fun _ _ k => k
 clear h
 go_enter Tryz.func104,Tryz.ntmps104
 go_wp2_with fail
 refine (qtakes_any P (M) (r) ⟨#[87,72,69,82,69]⟩ _ HA.out.ra).mono ?_
 rintro e w1 ⟨rfl,hp,ho⟩
 cases hS : (r).sees wWHERE with
 | false =>
  rw [show (r).sees (⟨#[87,72,69,82,69]⟩ : ByteArray).data.toList = false from hS] at hp
  try rw [show (r).sees (⟨#[87,72,69,82,69]⟩ : ByteArray).data.toList = false from hS]
  rw [if_neg (by decide)] at hp
  have HS1:=Hd hS
  replace HG:=Hd (fun a r' k => HG.out a r' (Lk.not HS1.out k))
  replace HA:=Hd (HA.out.call ho (Or.inl rfl) hp fun k => k)
  clear hp ho hS
  have HLK:=Hd (HG.out _ _ (Lk.ret _ _))
  go_wp2
  exact bodyPost_ret (v:=.slice none 0 0) (by simp [results,Tryz.results104,go_sem]) rfl (HA.out.ql HLK.out HLN.out rfl fun W _ _ => XL.nil _ _)
 | true =>
  rw [show (r).sees (⟨#[87,72,69,82,69]⟩ : ByteArray).data.toList = true from hS] at hp
  try rw [show (r).sees (⟨#[87,72,69,82,69]⟩ : ByteArray).data.toList = true from hS]
  rw [if_pos rfl] at hp
  have HS1:=Hd hS
  replace HG:=Hd (fun a r' k => HG.out a r' (Lk.yes HS1.out k))
  replace HA:=Hd (HA.out.call ho (Or.inl rfl) hp fun k => k)
  replace HLN:=Hd (Nat.le_trans (RS.step_le _) HLN.out)
  clear hp ho hS
  go_wp2_with fail
  refine (qexpr_x P (M) ((r).step) _ HA.out.ra).mono ?_
  rintro e w2 ⟨x2,a2,m2,c2,M2,r2,rfl,hk,hp,ho,hm,hl,hx⟩
  have HK2:=Hd hk
  have HLL2:=Hd hl
  replace HG:=Hd (fun a r' k => HG.out a r' (hk.bind k))
  replace HA:=Hd (HA.out.gainX ho hm hp hk.right hx)
  replace HLN:=Hd (Nat.le_trans hl HLN.out)
  clear ho hp hl hk hm hx
  obtain ⟨kk2,oo2,⟨v12,v22,v32⟩,tt2,nn2,ks2,pp2⟩:=x2
  simp only [exV,exC]
  obtain ⟨W3,hW3,HA⟩:=HA.out.pushE (Ve kk2 oo2 v12 v22 v32 tt2 nn2 (.slice a2 m2 c2) pp2) 48
  have zl:=nine_of (HA.out.at 0 rfl)
  obtain ⟨W4,hW4,HA⟩:=HA.out.pushE (Ve kk2 oo2 v12 v22 v32 tt2 nn2 (.slice a2 m2 c2) pp2) 48
  have hlb : w.heap.size ≤ W3.heap.size:=(HA.out.has _ (List.mem_cons_self)).1
  have HLK:=Hd (HG.out _ _ (Lk.ret _ _))
  go_wp2
  clear hW3 hW4
  exact bodyPost_ret (v:=.slice (some ⟨W3.heap.size,0,none⟩) 1 1) (by simp [results,Tryz.results104,go_sem]) rfl (HA.out.ql HLK.out HLN.out rfl fun W hL h => XL.one h.2 (hL _ (List.mem_of_getElem? (i:=0) rfl)) hlb)

theorem qitem_x (P M : Nat) (r : RS) (w : World) (h : RA w P M r) : Calls Tryz.prog 105 #[.pointer (some ⟨P,0,none⟩)] w (QX itemR P M r w):=by
 have HA:=Hd (Aq.start h)
 have hPw:=h.lt
 have HLN : Hid (r.ps.rest.length ≤ r.ps.rest.length):=Nat.le_refl _
 clear h
 go_enter Tryz.func105,Tryz.ntmps105
 obtain ⟨W1,hW1,HA⟩:=HA.out.pushE Vo 48
 obtain ⟨⟨⟨tk1,tn1,tt1⟩,ta1⟩,hh⟩ : ∃ x,(r).ps.hd = x:=⟨_,rfl⟩
 have HT:=qnh P M hh
 have HH1:=Hd hh
 clear hh
 go_wp2_with fail
 clear hW1
 refine (HT.out _ HA.out.ra).mono ?_
 rintro e w2 ⟨rfl,hb⟩
 replace HA:=Hd (HA.out.bel hb)
 clear hb HT
 obtain ⟨W3,hW3,HA⟩:=HA.out.pushE (Vk tk1 tn1 tt1 ta1) 43
 have HG : Hid (∀ x r',Lk (itemAt ta1) r x r' → Lk itemR r x r'):=fun x r' k => Lk.item (by rw [HH1.out]; exact k)
 go_wp2_with fail
 clear hW3
 refine (qtakes_any P (M) (r) ⟨#[67,79,85,78,84]⟩ _ HA.out.ra).mono ?_
 rintro e w4 ⟨rfl,hp,ho⟩
 cases hS : (r).sees wCOUNT with
 | true =>
  rw [show (r).sees (⟨#[67,79,85,78,84]⟩ : ByteArray).data.toList = true from hS] at hp
  try rw [show (r).sees (⟨#[67,79,85,78,84]⟩ : ByteArray).data.toList = true from hS]
  rw [if_pos rfl] at hp
  have HS4:=Hd hS
  replace HG:=Hd (fun a r' k => HG.out a r' (Lk.yes HS4.out k))
  replace HA:=Hd (HA.out.call ho (Or.inl rfl) hp fun k => k)
  replace HLN:=Hd (Nat.le_trans (RS.step_le _) HLN.out)
  clear hp ho hS
  go_wp2_with fail
  refine (qwants_q P (M) ((r).step) ⟨#[40]⟩ _ HA.out.ra).mono ?_
  rintro e w5 ⟨x5,r5,rfl,hk,hp,ho,hl⟩
  have HK5:=Hd hk
  have HLL5:=Hd hl
  replace HG:=Hd (fun a r' k => HG.out a r' (Lk.want2 hk k))
  replace HA:=Hd (HA.out.call ho (Or.inl rfl) hp hk.right)
  replace HLN:=Hd (Nat.le_trans hl HLN.out)
  clear ho hp hl hk
  go_wp2_with fail
  refine (qwants_q P (M) (r5) ⟨#[42]⟩ _ HA.out.ra).mono ?_
  rintro e w6 ⟨x6,r6,rfl,hk,hp,ho,hl⟩
  have HK6:=Hd hk
  have HLL6:=Hd hl
  replace HG:=Hd (fun a r' k => HG.out a r' (Lk.want2 hk k))
  replace HA:=Hd (HA.out.call ho (Or.inl rfl) hp hk.right)
  replace HLN:=Hd (Nat.le_trans hl HLN.out)
  clear ho hp hl hk
  go_wp2_with fail
  refine (qwants_q P (M) (r6) ⟨#[41]⟩ _ HA.out.ra).mono ?_
  rintro e w7 ⟨x7,r7,rfl,hk,hp,ho,hl⟩
  have HK7:=Hd hk
  have HLL7:=Hd hl
  replace HG:=Hd (fun a r' k => HG.out a r' (hk.bind k))
  replace HA:=Hd (HA.out.call ho (Or.inl rfl) hp hk.right)
  replace HLN:=Hd (Nat.le_trans hl HLN.out)
  clear ho hp hl hk
  have zt:=four_of (HA.out.at 0 rfl)
  have zzr:=nine_of (HA.out.at 1 rfl)
  have HLK:=Hd (HG.out _ _ (Lk.ret _ _))
  go_wp2
  have HD:=Hd (HA.out.fill 1 rfl [Vi 11,Vi 0,Vi 0,Vi 0,Vs,Vs,Vs,Vn,Vi (ta1 : Int)] rfl)
  obtain ⟨W99,hW99⟩:=Vx (setsL w7 w.heap.size 0 [Vi 11,Vi 0,Vi 0,Vi 0,Vs,Vs,Vs,Vn,Vi (ta1 : Int)])
  rw [hW99] at HD
  simp only [setsL,Nat.reduceAdd] at hW99
  rw [hW99]
  have zy:=(nine_of (HD.out.at 1 rfl)).1
  clear hW99
  exact bodyPost_ret (v:=exV (.mk 11 0 v0 ⟨#[]⟩ ⟨#[]⟩ [] (ta1 : Int)) Vn) (by simp [results,Tryz.results105,go_sem,exV,exC,v0,zy]) rfl (HD.out.qx HLK.out HLN.out fun _ _ _ => XO.leaf _ _ _ _ _ _ _ _)
 | false =>
  rw [show (r).sees (⟨#[67,79,85,78,84]⟩ : ByteArray).data.toList = false from hS] at hp
  try rw [show (r).sees (⟨#[67,79,85,78,84]⟩ : ByteArray).data.toList = false from hS]
  rw [if_neg (by decide)] at hp
  have HS4:=Hd hS
  replace HG:=Hd (fun a r' k => HG.out a r' (Lk.not HS4.out k))
  replace HA:=Hd (HA.out.call ho (Or.inl rfl) hp fun k => k)
  clear hp ho hS
  obtain ⟨W8,hW8,HA⟩:=HA.out.pushE #[.string ⟨#[83,85,77]⟩,.string ⟨#[77,73,78]⟩,.string ⟨#[77,65,88]⟩] 9
  have HWD : Hid (WordsAt W8 (w4.heap.size) [⟨#[83,85,77]⟩,⟨#[77,73,78]⟩,⟨#[77,65,88]⟩]):=WordsAt.of3 (HA.out.at 0 rfl)
  have hwb : w4.heap.size < W8.heap.size:=(Array.getElem?_eq_some_iff.1 (HA.out.at 0 rfl)).1
  have hwP : w4.heap.size ≠ P:=Nat.ne_of_gt (Nat.lt_of_lt_of_le hPw (HA.out.has _ (List.mem_cons_self)).1)
  have hwM : w4.heap.size ≠ M:=(HA.out.has _ (List.mem_cons_self)).2.1
  go_wp2_with fail
  clear hW8
  refine (qoneOf_any P (M) (r) (w4.heap.size) [⟨#[83,85,77]⟩,⟨#[77,73,78]⟩,⟨#[77,65,88]⟩] 3 _ HA.out.ra HWD.out hwb hwP hwM (by decide)).mono ?_
  rintro e w9 ⟨rfl,hp,ho⟩
  rw [show wl [⟨#[83,85,77]⟩,⟨#[77,73,78]⟩,⟨#[77,65,88]⟩] = aggW from rfl] at hp ⊢
  replace HA:=Hd HA.out.drop
  clear HWD hwb hwP hwM
  cases hS : (r).pick aggW with
  | none =>
   rw [hS] at hp
   have HS9:=Hd hS
   clear hS
   simp only [pickI]
   replace hp : RA w9 P (M) (r):=hp
   replace HA:=Hd (HA.out.call ho (Or.inl rfl) hp fun k => k)
   clear hp ho
   replace HG:=Hd (fun a r' k => HG.out a r' (Lk.none3 HS9.out k))
   have hjn : ((-1 : Int) < 0):=by decide
   go_wp2_with fail
   refine (qexpr_x P (M) (r) _ HA.out.ra).mono ?_
   rintro e w10 ⟨x10,a10,m10,c10,M10,r10,rfl,hk,hp,ho,hm,hl,hx⟩
   have HK10:=Hd hk
   have HLL10:=Hd hl
   replace HA:=Hd (HA.out.gainX ho hm hp hk.right hx)
   replace HLN:=Hd (Nat.le_trans hl HLN.out)
   clear ho hp hl hk hm hx
   obtain ⟨kk10,oo10,⟨v110,v210,v310⟩,tt10,nn10,ks10,pp10⟩:=x10
   simp only [exV,exC]
   have zzr:=nine_of (HA.out.at 1 rfl)
   have HLK:=Hd (HG.out _ _ HK10.out)
   go_wp2
   have HD:=Hd (HA.out.fill 1 rfl [Vi kk10,Vi oo10,Vi v110,Vi v210,.string v310,.string tt10,.string nn10,.slice a10 m10 c10,Vi pp10] rfl)
   obtain ⟨W99,hW99⟩:=Vx (setsL w10 w.heap.size 0 [Vi kk10,Vi oo10,Vi v110,Vi v210,.string v310,.string tt10,.string nn10,.slice a10 m10 c10,Vi pp10])
   rw [hW99] at HD
   simp only [setsL,Nat.reduceAdd] at hW99
   rw [hW99]
   have zy:=(nine_of (HD.out.at 1 rfl)).1
   clear hW99
   exact bodyPost_ret (v:=exV (Ex.mk kk10 oo10 (v110,v210,v310) tt10 nn10 ks10 pp10) (.slice a10 m10 c10)) (by simp [results,Tryz.results105,go_sem,exV,exC,zy]) rfl (HD.out.qx HLK.out HLN.out fun _ _ h => h.2)
  | some j9 =>
   rw [hS] at hp
   have HS9:=Hd hS
   clear hS
   simp only [pickI]
   replace hp : RA w9 P (M) (r).step:=hp
   replace HA:=Hd (HA.out.call ho (Or.inl rfl) hp fun k => k)
   replace HLN:=Hd (Nat.le_trans (RS.step_le _) HLN.out)
   clear hp ho
   replace HG : Hid (∀ a r',Lk (overR (12 + (j9 : Int)) ta1) ((r).step) a r' → Lk itemR r a r'):=fun a r' k => HG.out a r' (Lk.some3 (f:=fun i => overR (12 + (i : Int)) ta1) HS9.out k)
   have hj0 : (0 : Int) ≤ (j9 : Int):=by omega
   have hjn : ¬ ((j9 : Int) < 0):=by omega
   have hj3 : (j9 : Int) < 3:=by obtain ⟨x,hx,_⟩:=RS.pick_some HS9.out; have:=(List.getElem?_eq_some_iff.1 hx).1; have h2 : aggW.length = 3:=rfl; omega
   go_wp2_with fail
   refine (qwants_q P (M) ((r).step) ⟨#[40]⟩ _ HA.out.ra).mono ?_
   rintro e w11 ⟨x11,r11,rfl,hk,hp,ho,hl⟩
   have HK11:=Hd hk
   have HLL11:=Hd hl
   replace HG:=Hd (fun a r' k => HG.out a r' (hk.bind k))
   replace HA:=Hd (HA.out.call ho (Or.inl rfl) hp hk.right)
   replace HLN:=Hd (Nat.le_trans hl HLN.out)
   clear ho hp hl hk
   go_wp2_with fail
   refine (qexpr_x P (M) (r11) _ HA.out.ra).mono ?_
   rintro e w12 ⟨x12,a12,m12,c12,M12,r12,rfl,hk,hp,ho,hm,hl,hx⟩
   have HK12:=Hd hk
   have HLL12:=Hd hl
   replace HG:=Hd (fun a r' k => HG.out a r' (hk.bind k))
   replace HA:=Hd (HA.out.gainX ho hm hp hk.right hx)
   replace HLN:=Hd (Nat.le_trans hl HLN.out)
   clear ho hp hl hk hm hx
   obtain ⟨kk12,oo12,⟨v112,v212,v312⟩,tt12,nn12,ks12,pp12⟩:=x12
   simp only [exV,exC]
   obtain ⟨W13,hW13,HA⟩:=HA.out.pushE (Ve kk12 oo12 v112 v212 v312 tt12 nn12 (.slice a12 m12 c12) pp12) 48
   go_wp2_with fail
   clear hW13
   refine (qwants_q P (M12) (r12) ⟨#[41]⟩ _ HA.out.ra).mono ?_
   rintro e w14 ⟨x14,r14,rfl,hk,hp,ho,hl⟩
   have HK14:=Hd hk
   have HLL14:=Hd hl
   replace HG:=Hd (fun a r' k => HG.out a r' (hk.bind k))
   replace HA:=Hd (HA.out.call ho (Or.inl rfl) hp hk.right)
   replace HLN:=Hd (Nat.le_trans hl HLN.out)
   clear ho hp hl hk
   have zl:=nine_of (HA.out.at 0 rfl)
   have zt:=four_of (HA.out.at 1 rfl)
   obtain ⟨W15,hW15,HA⟩:=HA.out.pushE (Ve kk12 oo12 v112 v212 v312 tt12 nn12 (.slice a12 m12 c12) pp12) 48
   have hlb : w.heap.size ≤ w14.heap.size:=(HA.out.has _ (List.mem_cons_self)).1
   have zu:=four_of (HA.out.at 2 rfl)
   have zzr:=nine_of (HA.out.at 3 rfl)
   have HLK:=Hd (HG.out _ _ (Lk.ret _ _))
   go_wp2
   clear hW15
   have HD:=Hd (HA.out.fill 3 rfl [Vi (12 + (j9 : Int)),Vi 0,Vi 0,Vi 0,Vs,Vs,Vs,.slice (some ⟨w14.heap.size,0,none⟩) 1 1,Vi (ta1 : Int)] rfl)
   obtain ⟨W99,hW99⟩:=Vx (setsL W15 w.heap.size 0 [Vi (12 + (j9 : Int)),Vi 0,Vi 0,Vi 0,Vs,Vs,Vs,.slice (some ⟨w14.heap.size,0,none⟩) 1 1,Vi (ta1 : Int)])
   rw [hW99] at HD
   simp only [setsL,Nat.reduceAdd] at hW99
   rw [hW99]
   have zy:=(nine_of (HD.out.at 3 rfl)).1
   clear hW99
   exact bodyPost_ret (v:=exV (over (12 + (j9 : Int)) 0 ta1 [(Ex.mk kk12 oo12 (v112,v212,v312) tt12 nn12 ks12 pp12)]) (.slice (some ⟨w14.heap.size,0,none⟩) 1 1)) (by simp [results,Tryz.results105,go_sem,exV,exC,over,v0,zy]) rfl (HD.out.qx HLK.out HLN.out (fun W hL h => XO.one h.2 (fun _ _ _ => rfl) (hL _ (List.mem_of_getElem? (i:=0) rfl)) hlb))

theorem qgroups_l (P M : Nat) (r : RS) (w : World) (h : RA w P M r) : Calls Tryz.prog 106 #[.pointer (some ⟨P,0,none⟩)] w (QL groupR XL P M r w):=by
 have HA:=Hd (Aq.start h)
 have hPw:=h.lt
 have HLN : Hid (r.ps.rest.length ≤ r.ps.rest.length):=Nat.le_refl _
 have HG : Hid (∀ a r',Lk (groupR) r a r' → Lk (groupR) r a r'):=fun _ _ k => k
 clear h
 have hRL : r.ps.rest.length ≤ 1001:=Nat.le_trans (by show (r.all.drop r.pos).length ≤ r.all.length; simp) HA.out.ra.ok.len
 go_enter Tryz.func106,Tryz.ntmps106
 go_wp2_with fail
 refine (qtakes_any P (M) (r) ⟨#[71,82,79,85,80]⟩ _ HA.out.ra).mono ?_
 rintro e w1 ⟨rfl,hp,ho⟩
 cases hS : (r).sees wGROUP with
 | false =>
  rw [show (r).sees (⟨#[71,82,79,85,80]⟩ : ByteArray).data.toList = false from hS] at hp
  try rw [show (r).sees (⟨#[71,82,79,85,80]⟩ : ByteArray).data.toList = false from hS]
  rw [if_neg (by decide)] at hp
  have HS1:=Hd hS
  replace HG:=Hd (fun a r' k => HG.out a r' (Lk.not HS1.out k))
  replace HA:=Hd (HA.out.call ho (Or.inl rfl) hp fun k => k)
  clear hp ho hS
  have HLK:=Hd (HG.out _ _ (Lk.ret _ _))
  go_wp2
  exact bodyPost_ret (v:=.slice none 0 0) (by simp [results,Tryz.results106,go_sem]) rfl (HA.out.ql HLK.out HLN.out rfl fun W _ _ => XL.nil _ _)
 | true =>
  rw [show (r).sees (⟨#[71,82,79,85,80]⟩ : ByteArray).data.toList = true from hS] at hp
  try rw [show (r).sees (⟨#[71,82,79,85,80]⟩ : ByteArray).data.toList = true from hS]
  rw [if_pos rfl] at hp
  have HS1:=Hd hS
  replace HG:=Hd (fun a r' k => HG.out a r' (Lk.yes HS1.out k))
  replace HA:=Hd (HA.out.call ho (Or.inl rfl) hp fun k => k)
  replace HLN:=Hd (Nat.le_trans (RS.step_le _) HLN.out)
  clear hp ho hS
  go_wp2_with fail
  refine (qwants_q P (M) ((r).step) ⟨#[66,89]⟩ _ HA.out.ra).mono ?_
  rintro e w2 ⟨x2,r2,rfl,hk,hp,ho,hl⟩
  have HK2:=Hd hk
  have HLL2:=Hd hl
  replace HG:=Hd (fun a r' k => HG.out a r' (hk.bind k))
  replace HA:=Hd (HA.out.call ho (Or.inl rfl) hp hk.right)
  replace HLN:=Hd (Nat.le_trans hl HLN.out)
  clear ho hp hl hk
  go_wp2_with fail
  go_loopw [4] (fun v wr => ∃ (acc : List Ex) (ks : List Value) (a : Option Addr) (N c : Nat) (o : Obj) (M1 : Nat) (r1 : RS),v = .slice a N c ∧ N = acc.length ∧ acc.length = ks.length ∧ (∀ W : World,(∀ q,(Value.slice a N c).ownBlock = some q → W.heap[q]? = some o) → W.ownsRow w.heap.size 48 9 (.slice a N c) N (xcs acc ks)) ∧ Aq w P M M1 r1 (rowL (.slice a N c) o) (fun W => (True) ∧ XsO W w.heap.size acc ks) wr ∧ r1.ps.rest.length ≤ r.ps.rest.length ∧ r1.ps.rest.length + N ≤ r.ps.rest.length ∧ (N = 0 ∨ (r1.wrong = false ∧ r1.many.length < r1.pos)) ∧ (∀ l r',Lk (lsR colmR 8 acc) r1 l r' → Lk (groupR) r l r')) (fun _ wr => restQ wr P)
  case atStart => exact ⟨[],[],none,0,0,.cells #[] 48 (0,0),M,r2,rfl,rfl,rfl,(fun _ _ => World.ownsRow_nil _ _ _ _),(HA.out.imp fun _ _ h => ⟨h,XsO.nil _ _⟩),HLN.out,HLN.out,Or.inl rfl,HG.out⟩
  case round =>
   obtain ⟨acc,ks,a,N,c,o,M1,r1,rfl,hN,hlk,how,ha,hl,hlN,hroom,hg⟩:=hrel
   have HRN:=Hd ha.ra.restQ
   have HOK1:=Hd ha.ra.ok
   have HLK0:=Hd hlk
   have HOW:=Hd how
   have HN:=Hd hN
   have HLN2:=Hd hlN
   have HROOM:=Hd hroom
   have hN9 : N ≤ 1002:=by omega
   clear HA HLN HG
   have HA:=Hd ha
   have HLN:=Hd hl
   have HG:=Hd hg
   clear ha hl hlk how hN hlN hroom hg
   cases hw1 : r1.wrong with
   | true =>
    obtain ⟨cg,coff,ccap,cka,ckc,ch1,-,-,-,-,cn,-,cl,-,-⟩:=HA.out.ra.cells
    obtain ⟨⟨c0,c1,c2,c3⟩,cf0,cf1,cf2,cf3⟩:=four_of ch1
    have cni : ((r1).pos : Int) + 1 ≤ 1001:=by omega
    clear ch1
    rw [hw1] at c2
    have HLK:=Hd (HG.out acc _ (Lk.ls_wrong hw1))
    have HNL : Hid (N = (acc).length):=Hd HN.out
    go_wp2
    exact bodyPost_ret (v:=.slice a N c) (by simp [results,Tryz.results106,go_sem]) rfl (HA.out.ql HLK.out HLN.out HNL.out fun W hL h => ⟨ks,HLK0.out,by have:=HOW.out W (fun q hq => row_in (L:=[]) hL hq); rw [HNL.out] at this ⊢; exact this,h.2⟩)
   | false =>
    obtain ⟨cg,coff,ccap,cka,ckc,ch1,-,-,-,-,cn,-,cl,-,-⟩:=HA.out.ra.cells
    obtain ⟨⟨c0,c1,c2,c3⟩,cf0,cf1,cf2,cf3⟩:=four_of ch1
    have cni : ((r1).pos : Int) + 1 ≤ 1001:=by omega
    clear ch1
    rw [hw1] at c2
    have HW1:=Hd hw1
    clear hw1
    go_wp2_with fail
    refine (qcounts_any P (M1) (r1) N 8 _ HA.out.ra (fun e => HROOM.out.elim (fun h => by omega) fun h => h.2)).mono ?_
    rintro e w3 ⟨rfl,M3,hp,ho,hm⟩
    replace HA:=Hd (HA.out.call ho hm hp (fun k => by rw [RS.cnt_wrong] at k; exact k))
    replace HLN : Hid ((((r1).cnt N 8)).ps.rest.length ≤ r.ps.rest.length):=Nat.le_trans (Nat.le_of_eq (congrArg List.length (RS.cnt_rest _ _ _))) HLN.out
    clear ho hp hm
    go_wp2_with fail
    refine (qcolumn_x P (M3) (((r1).cnt N 8)) _ HA.out.ra).mono ?_
    rintro e w4 ⟨x4,a4,m4,c4,M4,r4,rfl,hk,hp,ho,hm,hl,hx⟩
    have HK4:=Hd hk
    have HLL4:=Hd hl
    replace HA:=Hd (HA.out.gainX ho hm hp hk.right hx)
    replace HLN:=Hd (Nat.le_trans hl HLN.out)
    clear ho hp hl hk hm hx
    obtain ⟨kk4,oo4,⟨v14,v24,v34⟩,tt4,nn4,ks4,pp4⟩:=x4
    simp only [exV,exC]
    obtain ⟨W5,hW5,HA⟩:=HA.out.pushE (Ve kk4 oo4 v14 v24 v34 tt4 nn4 (.slice a4 m4 c4) pp4) 48
    have zl:=nine_of (HA.out.at 0 rfl)
    obtain ⟨W6,hW6,HA⟩:=HA.out.pushE (Ve kk4 oo4 v14 v24 v34 tt4 nn4 (.slice a4 m4 c4) pp4) 48
    have HA8OK:=Hd HA.out.ra.ok
    obtain ⟨i0,hi,hz0,hz1,hz2⟩:=info_parts Tryz.infoExpr
    go_wp2_with (first | (at_builtin; refine wpList_append_lies _ rfl _ _ 22 rfl w.heap.size 48 i0 _ 9 112 Tryz.underlying22 hi hz0 hz1 hz2 rfl (by decide) (.slice a N c) (N) (xcs acc ks) rfl ?c0 ⟨W5.heap.size,0,none⟩ 1 1 (exC (Ex.mk kk4 oo4 (v14,v24,v34) tt4 nn4 ks4 pp4) (Value.slice a4 m4 c4)) rfl rfl ?c1 ?c2 (by decide) ?c3 ?c4 ?c5 _ rfl ?_))
    case c0 => exact HOW.out _ fun q hq => Aq.rowAt (L:=[(W5.heap.size,.cells (Ve kk4 oo4 v14 v24 v34 tt4 nn4 (.slice a4 m4 c4) pp4) 48 (0,0)),(w4.heap.size,.cells (Ve kk4 oo4 v14 v24 v34 tt4 nn4 (.slice a4 m4 c4) pp4) 48 (0,0))]) HA.out hq
    case c1 => exact World.news_of_block (HA.out.at 0 rfl)
    case c2 => exact exC_one _ _ rfl
    case c3 => unfold maxLen; omega
    case c4 => omega
    case c5 => exact HA.out.only.size
    intro g8 cap8 w8 hown8 hgrow8 hor8 hlt8
    clear hi hz0 hz1 hz2 hW5 hW6
    obtain ⟨o8,ho8,hA8⟩:=Aq.growEnd (L:=[]) HA.out.drop.drop hgrow8 (hor8.imp id fun e => Nat.le_of_eq e.symm) hlt8 (v':=.slice (some ⟨g8,0,none⟩) (N + 1) cap8) rfl
    have HOWN : Hid (∀ W : World,(∀ q,(Value.slice (some ⟨g8,0,none⟩) (N + 1) cap8).ownBlock = some q → W.heap[q]? = some o8) → W.ownsRow w.heap.size 48 9 (.slice (some ⟨g8,0,none⟩) (N + 1) cap8) (N + 1) (xcs acc ks ++ exC (Ex.mk kk4 oo4 (v14,v24,v34) tt4 nn4 ks4 pp4) (Value.slice a4 m4 c4))):=fun W hW => own_kept hown8 fun b hb => by (obtain rfl : g8 = b:=by simpa [Value.ownBlock] using hb); exact (hW g8 rfl).trans ho8.symm
    replace HA:=Hd (hA8.imp (J:=fun W => (True) ∧ XsO W w.heap.size (acc ++ [(Ex.mk kk4 oo4 (v14,v24,v34) tt4 nn4 ks4 pp4)]) (ks ++ [(Value.slice a4 m4 c4)])) fun W _ h => ⟨h.1.1,XsO.snoc h.1.2 HLK0.out h.2⟩)
    clear hown8 hgrow8 hor8 hlt8 ho8 hA8
    go_wp2_with fail
    refine (qtakes_any P (M4) (r4) ⟨#[44]⟩ _ HA.out.ra).mono ?_
    rintro e w7 ⟨rfl,hp,ho⟩
    cases hS : (r4).sees [44] with
    | false =>
     rw [show (r4).sees (⟨#[44]⟩ : ByteArray).data.toList = false from hS] at hp
     try rw [show (r4).sees (⟨#[44]⟩ : ByteArray).data.toList = false from hS]
     rw [if_neg (by decide)] at hp
     have HS7:=Hd hS
     replace HA:=Hd (HA.out.call ho (Or.inl rfl) hp fun k => k)
     clear hp ho hS
     have HOWN2 : Hid (∀ W : World,(∀ q,(Value.slice (some ⟨g8,0,none⟩) (N + 1) cap8).ownBlock = some q → W.heap[q]? = some o8) → W.ownsRow w.heap.size 48 9 (.slice (some ⟨g8,0,none⟩) (N + 1) cap8) (N + 1) (xcs (acc ++ [(Ex.mk kk4 oo4 (v14,v24,v34) tt4 nn4 ks4 pp4)]) (ks ++ [(Value.slice a4 m4 c4)]))):=fun W hW => by have:=HOWN.out W hW; rw [xcs_append _ _ _ _ HLK0.out]; simpa [xcs] using this
     have HLK:=Hd (HG.out _ _ (Lk.ls_last (show Lk colmR (r1.cnt acc.length 8) (Ex.mk kk4 oo4 (v14,v24,v34) tt4 nn4 ks4 pp4) _ from by have:=HK4.out; rw [HN.out] at this; exact this) HS7.out))
     have HNL : Hid ((N + 1) = ((acc ++ [(Ex.mk kk4 oo4 (v14,v24,v34) tt4 nn4 ks4 pp4)])).length):=Hd (by simp [HN.out])
     go_wp2
     exact bodyPost_ret (v:=.slice (some ⟨g8,0,none⟩) (N + 1) cap8) (by simp [results,Tryz.results106,go_sem]) rfl (HA.out.ql HLK.out HLN.out HNL.out fun W hL h => ⟨(ks ++ [(Value.slice a4 m4 c4)]),(by simp [HLK0.out]),by have:=HOWN2.out W (fun q hq => row_in (L:=[]) hL hq); rw [HNL.out] at this ⊢; exact this,h.2⟩)
    | true =>
     rw [show (r4).sees (⟨#[44]⟩ : ByteArray).data.toList = true from hS] at hp
     try rw [show (r4).sees (⟨#[44]⟩ : ByteArray).data.toList = true from hS]
     rw [if_pos rfl] at hp
     have HS7:=Hd hS
     replace HA:=Hd (HA.out.call ho (Or.inl rfl) hp fun k => k)
     replace HLN:=Hd (Nat.le_trans (RS.step_le _) HLN.out)
     clear hp ho hS
     go_wp2
     go_roundw
     case rel => exact ⟨acc ++ [(Ex.mk kk4 oo4 (v14,v24,v34) tt4 nn4 ks4 pp4)],ks ++ [(Value.slice a4 m4 c4)],some ⟨g8,0,none⟩,N + 1,cap8,o8,M4,(r4).step,rfl,by simp [HN.out],by simp [HLK0.out],(fun W hW => by have:=HOWN.out W hW; rw [xcs_append _ _ _ _ HLK0.out]; simpa [xcs] using this),HA.out,HLN.out,(by have h1:=(show (r4).ps.rest.length ≤ r1.ps.rest.length from by have:=HLL4.out; rw [RS.cnt_rest] at this; exact this); have h2:=RS.step_lt HA8OK.out; have h3:=HLN2.out; omega),Or.inr ⟨(RS.sees_true HS7.out).1,HA8OK.out.room⟩,fun l r' q => HG.out l r' (Lk.ls_more HW1.out (show Lk colmR (r1.cnt acc.length 8) (Ex.mk kk4 oo4 (v14,v24,v34) tt4 nn4 ks4 pp4) _ from by have:=HK4.out; rw [HN.out] at this; exact this) HS7.out q)⟩
     case measure => rw [HA.out.ra.restQ,HRN.out]; have h1:=(show (r4).ps.rest.length ≤ r1.ps.rest.length from by have:=HLL4.out; rw [RS.cnt_rest] at this; exact this); have h2:=RS.step_lt HA8OK.out; omega
end Go.Proofs.YtffalonhkemieaaGreatDoor
