/- A71 A72 A73 -/
import Derived.Test.YtbfjmccpcbhljaaGreatDoorTA67
import Derived.Test.YtbfjmccpcbhljaaGreatDoorTA69
import Derived.Maps.AppendAt
import Derived.Deep.AppendLies
set_option maxHeartbeats 4000000
set_option maxRecDepth 100000
namespace Go.Proofs.YtbfjmccpcbhljaaGreatDoor
open Go.RowKit
theorem and_any (P : Nat) (s : PS) (w : World) (h : PA w P s) (hI : Upto_ s.rest.length P 167 .not) : Calls Tryz.prog 151 #[.pointer (some ⟨P,0,none⟩)] w (PXP .and P s w):=by
 have HI:=Hd hI
 have HA:=Hd (Au.start h)
 clear h hI
 go_enter Tryz.func151,Tryz.ntmps151
 have HB:=Hd (HA.out.push Vo 49)
 obtain ⟨W0,hW0⟩:=Vx (w.alloc (.cells Vo 49))
 rw [hW0] at HB
 go_wp2_with fail
 clear hW0 HA
 refine (row_and P s W0 HB.out.pa HI.out).mono ?_
 rintro e w1 ⟨r,hr,ho,hm⟩
 cases r with
 | bad p =>
  have HV:=Hd (px_bad hr (HB.out.only.trans ho))
  rw [hm]
  clear hm hr ho
  go_wp2
  exact ⟨rfl,HV.out⟩
 | ok x s1 =>
  obtain ⟨a,m,c,rfl,hx,hp,hlt⟩:=hm
  have HC:=Hd (HB.out.gainX ho hp hx)
  have HV : Hid (Pr .and s (.ok x s1)):=hr
  have HLN:=Hd hlt
  clear hx hp hlt hr ho HB
  obtain ⟨kk,oo,⟨v1,v2,v3⟩,tt,nn,ks,pp⟩:=x
  simp only [exV,exC]
  have zn:=nine_of (HC.out.at 0 rfl)
  go_wp2
  have HD:=Hd (HC.out.fill 0 rfl [Vi kk,Vi oo,Vi v1,Vi v2,.string v3,.string tt,.string nn,.slice a m c,Vi pp] rfl)
  obtain ⟨W6,hW6⟩:=Vx (setsL w1 w.heap.size 0 [Vi kk,Vi oo,Vi v1,Vi v2,.string v3,.string tt,.string nn,.slice a m c,Vi pp])
  rw [hW6] at HD
  simp only [setsL,Nat.reduceAdd] at hW6
  rw [hW6]
  have zy:=(nine_of (HD.out.at 0 rfl)).1
  clear hW6
  exact bodyPost_ret (v:=exV (.mk kk oo (v1,v2,v3) tt nn ks pp) (.slice a m c)) (by simp [results,Tryz.results151,go_sem,exV,exC,zy]) rfl (px_ok HV.out HD.out.only HD.out.inv.out.2 HD.out.pa HLN.out)

theorem expr_any (P : Nat) (s : PS) (w : World) (h : PA w P s) (hI : Upto_ s.rest.length P 151 .and) : Calls Tryz.prog 125 #[.pointer (some ⟨P,0,none⟩)] w (PXP .or P s w):=by
 have HI:=Hd hI
 have HA:=Hd (Au.start h)
 clear h hI
 go_enter Tryz.func125,Tryz.ntmps125
 have HB:=Hd (HA.out.push Vo 49)
 obtain ⟨W0,hW0⟩:=Vx (w.alloc (.cells Vo 49))
 rw [hW0] at HB
 go_wp2_with fail
 clear hW0 HA
 refine (row_or P s W0 HB.out.pa HI.out).mono ?_
 rintro e w1 ⟨r,hr,ho,hm⟩
 cases r with
 | bad p =>
  have HV:=Hd (px_bad hr (HB.out.only.trans ho))
  rw [hm]
  clear hm hr ho
  go_wp2
  exact ⟨rfl,HV.out⟩
 | ok x s1 =>
  obtain ⟨a,m,c,rfl,hx,hp,hlt⟩:=hm
  have HC:=Hd (HB.out.gainX ho hp hx)
  have HV : Hid (Pr .or s (.ok x s1)):=hr
  have HLN:=Hd hlt
  clear hx hp hlt hr ho HB
  obtain ⟨kk,oo,⟨v1,v2,v3⟩,tt,nn,ks,pp⟩:=x
  simp only [exV,exC]
  have zn:=nine_of (HC.out.at 0 rfl)
  go_wp2
  have HD:=Hd (HC.out.fill 0 rfl [Vi kk,Vi oo,Vi v1,Vi v2,.string v3,.string tt,.string nn,.slice a m c,Vi pp] rfl)
  obtain ⟨W6,hW6⟩:=Vx (setsL w1 w.heap.size 0 [Vi kk,Vi oo,Vi v1,Vi v2,.string v3,.string tt,.string nn,.slice a m c,Vi pp])
  rw [hW6] at HD
  simp only [setsL,Nat.reduceAdd] at hW6
  rw [hW6]
  have zy:=(nine_of (HD.out.at 0 rfl)).1
  clear hW6
  exact bodyPost_ret (v:=exV (.mk kk oo (v1,v2,v3) tt nn ks pp) (.slice a m c)) (by simp [results,Tryz.results125,go_sem,exV,exC,zy]) rfl (px_ok HV.out HD.out.only HD.out.inv.out.2 HD.out.pa HLN.out)

theorem exprs_all (P : Nat) : ∀ n : Nat,Upto_ n P 195 .fact ∧ Upto_ n P 192 .prod ∧ Upto_ n P 187 .sum ∧ Upto_ n P 178 .test ∧ Upto_ n P 167 .not ∧ Upto_ n P 151 .and ∧ Upto_ n P 125 .or
 | 0 => by
  have z : ∀ (f : FuncId) (g : Gl),Upto_ 0 P f g:=fun f g s w hl h => absurd (List.length_pos_iff.2 h.wf.ne) (by omega)
  exact ⟨z _ _,z _ _,z _ _,z _ _,z _ _,z _ _,z _ _⟩
 | n + 1 => by
  obtain ⟨i0,i1,i2,i3,i4,i5,i6⟩:=exprs_all P n
  have b : ∀ (f : FuncId) (g : Gl) (m : Nat),m ≤ n + 1 → Upto_ n P f g → Below_ m P f g:=fun f g m hm h s w hl hp => h s w (by omega) hp
  have u : ∀ (f : FuncId) (g : Gl) (m : Nat),m ≤ n + 1 → Upto_ (n + 1) P f g → Upto_ m P f g:=fun f g m hm h s w hl hp => h s w (by omega) hp
  have j0 : Upto_ (n + 1) P 195 .fact:=fun s w hl h => fact_step P s w h (b _ _ _ hl i0) (b _ _ _ hl i6)
  have j1 : Upto_ (n + 1) P 192 .prod:=fun s w hl h => product_any P s w h (u _ _ _ hl j0)
  have j2 : Upto_ (n + 1) P 187 .sum:=fun s w hl h => sum_any P s w h (u _ _ _ hl j1)
  have j3 : Upto_ (n + 1) P 178 .test:=fun s w hl h => test_any P s w h (u _ _ _ hl j2)
  have j4 : Upto_ (n + 1) P 167 .not:=fun s w hl h => not_step P s w h (b _ _ _ hl i4) (u _ _ _ hl j3)
  have j5 : Upto_ (n + 1) P 151 .and:=fun s w hl h => and_any P s w h (u _ _ _ hl j4)
  have j6 : Upto_ (n + 1) P 125 .or:=fun s w hl h => expr_any P s w h (u _ _ _ hl j5)
  exact ⟨j0,j1,j2,j3,j4,j5,j6⟩

theorem expr_all (P : Nat) (s : PS) (w : World) (h : PA w P s) : Calls Tryz.prog 125 #[.pointer (some ⟨P,0,none⟩)] w (PXP .or P s w):=(exprs_all P s.rest.length).2.2.2.2.2.2 s w (Nat.le_refl _) h

theorem eleven_of {w : World} {x : Nat} {a0 a1 a2 a3 a4 a5 a6 a7 a8 a9 a10 : Value} {t : TypeId} (h : w.heap[x]? = some (.cells #[a0,a1,a2,a3,a4,a5,a6,a7,a8,a9,a10] t (0,0))) : (w.cell? ⟨x,0,none⟩ = some a0 ∧ w.cell? ⟨x,1,none⟩ = some a1 ∧ w.cell? ⟨x,2,none⟩ = some a2 ∧ w.cell? ⟨x,3,none⟩ = some a3 ∧ w.cell? ⟨x,4,none⟩ = some a4 ∧ w.cell? ⟨x,5,none⟩ = some a5 ∧ w.cell? ⟨x,6,none⟩ = some a6 ∧ w.cell? ⟨x,7,none⟩ = some a7 ∧ w.cell? ⟨x,8,none⟩ = some a8 ∧ w.cell? ⟨x,9,none⟩ = some a9 ∧ w.cell? ⟨x,10,none⟩ = some a10) ∧ (w.frozen? ⟨x,0,none⟩ = false ∧ w.frozen? ⟨x,1,none⟩ = false ∧ w.frozen? ⟨x,2,none⟩ = false ∧ w.frozen? ⟨x,3,none⟩ = false ∧ w.frozen? ⟨x,4,none⟩ = false ∧ w.frozen? ⟨x,5,none⟩ = false ∧ w.frozen? ⟨x,6,none⟩ = false ∧ w.frozen? ⟨x,7,none⟩ = false ∧ w.frozen? ⟨x,8,none⟩ = false ∧ w.frozen? ⟨x,9,none⟩ = false ∧ w.frozen? ⟨x,10,none⟩ = false):=by
 simp [World.cell?,World.frozen?,h]

theorem thirt_of {w : World} {x : Nat} {a0 a1 a2 a3 a4 a5 a6 a7 a8 a9 a10 a11 a12 : Value} {t : TypeId} (h : w.heap[x]? = some (.cells #[a0,a1,a2,a3,a4,a5,a6,a7,a8,a9,a10,a11,a12] t (0,0))) : (w.cell? ⟨x,0,none⟩ = some a0 ∧ w.cell? ⟨x,1,none⟩ = some a1 ∧ w.cell? ⟨x,2,none⟩ = some a2 ∧ w.cell? ⟨x,3,none⟩ = some a3 ∧ w.cell? ⟨x,4,none⟩ = some a4 ∧ w.cell? ⟨x,5,none⟩ = some a5 ∧ w.cell? ⟨x,6,none⟩ = some a6 ∧ w.cell? ⟨x,7,none⟩ = some a7 ∧ w.cell? ⟨x,8,none⟩ = some a8 ∧ w.cell? ⟨x,9,none⟩ = some a9 ∧ w.cell? ⟨x,10,none⟩ = some a10 ∧ w.cell? ⟨x,11,none⟩ = some a11 ∧ w.cell? ⟨x,12,none⟩ = some a12) ∧ (w.frozen? ⟨x,0,none⟩ = false ∧ w.frozen? ⟨x,1,none⟩ = false ∧ w.frozen? ⟨x,2,none⟩ = false ∧ w.frozen? ⟨x,3,none⟩ = false ∧ w.frozen? ⟨x,4,none⟩ = false ∧ w.frozen? ⟨x,5,none⟩ = false ∧ w.frozen? ⟨x,6,none⟩ = false ∧ w.frozen? ⟨x,7,none⟩ = false ∧ w.frozen? ⟨x,8,none⟩ = false ∧ w.frozen? ⟨x,9,none⟩ = false ∧ w.frozen? ⟨x,10,none⟩ = false ∧ w.frozen? ⟨x,11,none⟩ = false ∧ w.frozen? ⟨x,12,none⟩ = false):=by
 simp [World.cell?,World.frozen?,h]

def PP {α : Type} (f : Rd_ α) (V : World → Nat → α → Value → Prop) (P : Nat) (s : PS) (w : World) (e : Ending) (w' : World) : Prop:=∃ r,f s r ∧ Only (· = P) w w' ∧ match r with
 | .ok a s1 => ∃ v,e = .returned v ∧ V w' w.heap.size a v ∧ PA w' P s1 ∧ s1.rest.length ≤ s.rest.length
 | .bad p => e = .panicked (wrongV 110 p)

theorem pp_ok {α : Type} {f : Rd_ α} {V : World → Nat → α → Value → Prop} {P : Nat} {s s1 : PS} {a : α} {v : Value} {w w' : World} (h : f s (.ok a s1)) (ho : Only (· = P) w w') (hv : V w' w.heap.size a v) (hp : PA w' P s1) (hl : s1.rest.length ≤ s.rest.length) : PP f V P s w (.returned v) w':=⟨_,h,ho,v,rfl,hv,hp,hl⟩

theorem pp_bad {α : Type} {f : Rd_ α} {V : World → Nat → α → Value → Prop} {P : Nat} {s : PS} {p : Nat} {w w' : World} (h : f s (.bad p)) (ho : Only (· = P) w w') : PP f V P s w (.panicked (wrongV 110 p)) w':=⟨_,h,ho,rfl⟩

def PE {α : Type} (f : Rd_ α) (V : World → Nat → α → Value → Prop) (P : Nat) (s : PS) (w : World) (e : Ending) (w' : World) : Prop:=∃ r,f s r ∧ Only (· = P) w w' ∧ match r with
 | .ok a s1 => ∃ v,e = .returned v ∧ V w' w.heap.size a v ∧ PA w' P s1 ∧ s1.rest.length < s.rest.length
 | .bad p => e = .panicked (wrongV 110 p)

theorem pe_ok {α : Type} {f : Rd_ α} {V : World → Nat → α → Value → Prop} {P : Nat} {s s1 : PS} {a : α} {v : Value} {w w' : World} (h : f s (.ok a s1)) (ho : Only (· = P) w w') (hv : V w' w.heap.size a v) (hp : PA w' P s1) (hl : s1.rest.length < s.rest.length) : PE f V P s w (.returned v) w':=⟨_,h,ho,v,rfl,hv,hp,hl⟩

theorem pe_bad {α : Type} {f : Rd_ α} {V : World → Nat → α → Value → Prop} {P : Nat} {s : PS} {p : Nat} {w w' : World} (h : f s (.bad p)) (ho : Only (· = P) w w') : PE f V P s w (.panicked (wrongV 110 p)) w':=⟨_,h,ho,rfl⟩

def XV (w : World) (B : Nat) (x : Ex) (v : Value) : Prop:=∃ a m c,v = exV x (.slice a m c) ∧ XO w B x (.slice a m c)

theorem PXP.pe {P : Nat} {s : PS} {w w' : World} {e : Ending} (h : PXP .or P s w e w') : PE exprR XV P s w e w':=by
 obtain ⟨r,hr,ho,hm⟩:=h
 refine ⟨r,hr,ho,?_⟩
 cases r with
 | bad p => exact hm
 | ok x s1 =>
  obtain ⟨a,m,c,e1,e2,e3,e4⟩:=hm
  exact ⟨_,e1,⟨a,m,c,rfl,e2⟩,e3,e4⟩

theorem expr_pe (P : Nat) (s : PS) (w : World) (h : PA w P s) : Calls Tryz.prog 125 #[.pointer (some ⟨P,0,none⟩)] w (PE exprR XV P s w):=(expr_all P s w h).mono fun _ _ k => k.pe

theorem column_pe (P : Nat) (s : PS) (w : World) (h : PA w P s) : Calls Tryz.prog 130 #[.pointer (some ⟨P,0,none⟩)] w (PE colmR XV P s w):=by
 refine (column_any P s w h).mono ?_
 rintro e w' ⟨ho,hm⟩
 refine ⟨colR s,rfl,ho,?_⟩
 cases hc : colR s with
 | bad p => rw [hc] at hm; exact hm
 | ok x s1 =>
  rw [hc] at hm
  obtain ⟨rfl,hp⟩:=hm
  have hl:=col_less hc
  obtain ⟨ta,na,pa,rfl⟩:=col_form hc
  exact ⟨_,rfl,⟨none,0,0,rfl,XO.leaf _ _ _ _ _ _ _ _⟩,hp,hl⟩

theorem name_pp (P : Nat) (s : PS) (w : World) (h : PA w P s) : Calls Tryz.prog 123 #[.pointer (some ⟨P,0,none⟩)] w (PP namR (fun _ _ a v => v = .string a) P s w):=by
 refine (name_any P s w h).mono ?_
 rintro e w' ⟨ho,hm⟩
 refine ⟨nameR s,rfl,ho,?_⟩
 cases hc : nameR s with
 | bad p => rw [hc] at hm; exact hm
 | ok x s1 =>
  rw [hc] at hm
  exact ⟨_,hm.1,rfl,hm.2,by rw [(name_less hc).1]; exact tail_le s⟩

theorem number_pp (P : Nat) (s : PS) (w : World) (h : PA w P s) : Calls Tryz.prog 133 #[.pointer (some ⟨P,0,none⟩),Vi 2] w (PP numR (fun _ _ t v => v = tkA t.1 (t.2 : Int)) P s w):=by
 refine (take_any P s 2 w h (by decide)).mono ?_
 rintro e w' ⟨⟨hk,rfl,hp⟩ | ⟨hk,rfl,hp⟩,ho⟩
 ·exact ⟨.ok s.hd s.next,by show _ = ite _ _ _; rw [if_pos hk],ho,_,rfl,rfl,hp,tail_le s⟩
 ·exact ⟨.bad s.hd.2,by show _ = ite _ _ _; rw [if_neg hk],ho,rfl⟩

theorem needR_needs : ∀ (l : List ByteArray) (s : PS),needR l s = needsR (l.map fun x => x.data.toList) s
 | [],_ => rfl
 | x :: l,s => by
  show (if _ then _ else _) = (if _ then _ else _)
  rw [needR_needs l s.next]

theorem needs_le : ∀ (l : List (List UInt8)) (s s1 : PS) (u : Unit),needsR l s = .ok u s1 → s1.rest.length ≤ s.rest.length
 | [],s,s1,u,h => by injection h with _ h; rw [h]; exact Nat.le_refl _
 | x :: l,s,s1,u,h => by
  rw [needsR] at h
  split at h
  ·exact Nat.le_trans (needs_le l _ _ u h) (tail_le s)
  ·exact absurd h (by simp)

theorem need_pp (P : Nat) (s : PS) (p : Option Addr) (l : List ByteArray) (cap : Nat) (w : World) (h : PA w P s) (hl : StrsP w P p l) (hlen : l.length ≤ 100) : Calls Tryz.prog 122 #[.pointer (some ⟨P,0,none⟩),.slice p l.length cap] w (PP (wantR (l.map fun x => x.data.toList)) (fun _ _ _ v => v = .tuple #[]) P s w):=by
 refine (need_any P s p l cap w h hl hlen).mono ?_
 rintro e w' ⟨ho,hm⟩
 refine ⟨needR l s,needR_needs l s,ho,?_⟩
 cases hc : needR l s with
 | bad p => rw [hc] at hm; exact hm
 | ok x s1 =>
  rw [hc] at hm
  exact ⟨_,hm.1,rfl,hm.2,needs_le _ _ _ x ((needR_needs l s).symm.trans hc)⟩

theorem StrsP.two {w : World} {P b : Nat} {x y : ByteArray} {t : TypeId} (h : w.heap[b]? = some (.cells #[.string x,.string y] t (0,0))) (hb : P < b) : StrsP w P (some ⟨b,0,none⟩) [x,y]:=by
 intro i hi
 match i,hi with
 | 0,_ => exact ⟨b,0,rfl,hb,by simp [World.cell?,h]⟩
 | 1,_ => exact ⟨b,0,rfl,hb,by simp [World.cell?,h]⟩

theorem StrsP.three {w : World} {P b : Nat} {x y z : ByteArray} {t : TypeId} (h : w.heap[b]? = some (.cells #[.string x,.string y,.string z] t (0,0))) (hb : P < b) : StrsP w P (some ⟨b,0,none⟩) [x,y,z]:=by
 intro i hi
 match i,hi with
 | 0,_ => exact ⟨b,0,rfl,hb,by simp [World.cell?,h]⟩
 | 1,_ => exact ⟨b,0,rfl,hb,by simp [World.cell?,h]⟩
 | 2,_ => exact ⟨b,0,rfl,hb,by simp [World.cell?,h]⟩

def seC (x : Se) (k : Value) : List Value:=.string x.1 :: (exC x.2.1 k ++ [Vi x.2.2])

def soC (x : So) : List Value:=[Vi x.1,.bool x.2.1,Vi x.2.2]

def ses : List Se → List Value → List Value
 | e :: es,k :: ks => seC e k ++ ses es ks
 | _,_ => []

def sos : List So → List Value → List Value
 | e :: es,_ :: ks => soC e ++ sos es ks
 | _,_ => []

theorem ses_append : ∀ (es : List Se) (ks : List Value) (fs : List Se) (ls : List Value),es.length = ks.length → ses (es ++ fs) (ks ++ ls) = ses es ks ++ ses fs ls
 | [],[],_,_,_ => rfl
 | e :: es,k :: ks,fs,ls,h => by
  simp only [List.cons_append,ses]
  rw [ses_append es ks fs ls (by simpa using h),List.append_assoc]
 | [],_ :: _,_,_,h => by simp at h
 | _ :: _,[],_,_,h => by simp at h

theorem sos_append : ∀ (es : List So) (ks : List Value) (fs : List So) (ls : List Value),es.length = ks.length → sos (es ++ fs) (ks ++ ls) = sos es ks ++ sos fs ls
 | [],[],_,_,_ => rfl
 | e :: es,k :: ks,fs,ls,h => by
  simp only [List.cons_append,sos]
  rw [sos_append es ks fs ls (by simpa using h),List.append_assoc]
 | [],_ :: _,_,_,h => by simp at h
 | _ :: _,[],_,_,h => by simp at h

def SsO (w : World) (B : Nat) (es : List Se) (ks : List Value) : Prop:=∀ i (h : i < es.length) (h' : i < ks.length),XO w B es[i].2.1 ks[i]

theorem SsO.snoc {w : World} {B : Nat} {es : List Se} {ks : List Value} {e : Se} {k : Value} (h : SsO w B es ks) (hl : es.length = ks.length) (he : XO w B e.2.1 k) : SsO w B (es ++ [e]) (ks ++ [k]):=by
 intro i hi hi'
 by_cases h1 : i < es.length
 ·rw [List.getElem_append_left h1,List.getElem_append_left (by omega)]
  exact h i h1 (by omega)
 ·simp at hi
  rw [List.getElem_append_right (by omega),List.getElem_append_right (by omega)]
  have e1 : i - es.length = 0:=by omega
  have e2 : i - ks.length = 0:=by omega
  simp only [e1,e2,List.getElem_cons_zero]
  exact he

def SeV (w : World) (B : Nat) (x : Se) (v : Value) : Prop:=∃ a m c,v = .agg (seC x (.slice a m c)).toArray ∧ XO w B x.2.1 (.slice a m c)

def SoV (_ : World) (_ : Nat) (x : So) (v : Value) : Prop:=v = .agg (soC x).toArray

def XL (w : World) (B : Nat) (l : List Ex) (v : Value) : Prop:=∃ ks : List Value,l.length = ks.length ∧ w.ownsRow B 49 9 v l.length (xcs l ks) ∧ XsO w B l ks

def SeL (w : World) (B : Nat) (l : List Se) (v : Value) : Prop:=∃ ks : List Value,l.length = ks.length ∧ w.ownsRow B 53 11 v l.length (ses l ks) ∧ SsO w B l ks

def SoL (w : World) (B : Nat) (l : List So) (v : Value) : Prop:=∃ ks : List Value,l.length = ks.length ∧ w.ownsRow B 70 3 v l.length (sos l ks)

def IL (w : World) (B : Nat) (l : List Int) (v : Value) : Prop:=w.ownsRow B 3 1 v l.length (l.map fun n => Vi n)

theorem XL.keep {w W : World} {B : Nat} {l : List Ex} {v : Value} (h : XL w B l v) (hk : ∀ g,B ≤ g → g < w.heap.size → W.heap[g]? = w.heap[g]?) : XL W B l v:=by
 obtain ⟨ks,h1,h2,h3⟩:=h
 exact ⟨ks,h1,own_kept h2 fun g hg => hk g (h2.lt g hg).1 (h2.lt g hg).2,fun i a b => (h3 i a b).keep hk⟩

theorem XL.mono {w : World} {B B' : Nat} {l : List Ex} {v : Value} (h : XL w B l v) (hB : B' ≤ B) : XL w B' l v:=by
 obtain ⟨ks,h1,h2,h3⟩:=h
 exact ⟨ks,h1,own_mono h2 hB,fun i a b => (h3 i a b).mono hB⟩

theorem XL.nil (w : World) (B : Nat) : XL w B [] Vn:=⟨[],rfl,World.ownsRow_nil _ _ _ _,XsO.nil _ _⟩

theorem XL.one {w : World} {B b : Nat} {x : Ex} {k : Value} (h : XO w B x k) (hb : w.heap[b]? = some (.cells (exC x k).toArray 49 (0,0))) (hB : B ≤ b) : XL w B [x] (.slice (some ⟨b,0,none⟩) 1 1):=by
 refine ⟨[k],rfl,?_,XsO.one h⟩
 have e : xcs [x] [k] = exC x k:=by simp [xcs]
 rw [e]
 obtain ⟨kk,oo,vv,tt,nn,ks,pp⟩:=x
 exact ⟨rfl,Or.inr ⟨b,1,_,rfl,hB,hb,Nat.le_refl _,by unfold maxLen; omega,rfl,rfl⟩⟩

theorem SeL.keep {w W : World} {B : Nat} {l : List Se} {v : Value} (h : SeL w B l v) (hk : ∀ g,B ≤ g → g < w.heap.size → W.heap[g]? = w.heap[g]?) : SeL W B l v:=by
 obtain ⟨ks,h1,h2,h3⟩:=h
 exact ⟨ks,h1,own_kept h2 fun g hg => hk g (h2.lt g hg).1 (h2.lt g hg).2,fun i a b => (h3 i a b).keep hk⟩

theorem SeL.mono {w : World} {B B' : Nat} {l : List Se} {v : Value} (h : SeL w B l v) (hB : B' ≤ B) : SeL w B' l v:=by
 obtain ⟨ks,h1,h2,h3⟩:=h
 exact ⟨ks,h1,own_mono h2 hB,fun i a b => (h3 i a b).mono hB⟩

theorem SeL.nil (w : World) (B : Nat) : SeL w B [] Vn:=⟨[],rfl,World.ownsRow_nil _ _ _ _,fun _ h => absurd h (Nat.not_lt_zero _)⟩

theorem SoL.keep {w W : World} {B : Nat} {l : List So} {v : Value} (h : SoL w B l v) (hk : ∀ g,B ≤ g → g < w.heap.size → W.heap[g]? = w.heap[g]?) : SoL W B l v:=by
 obtain ⟨ks,h1,h2⟩:=h
 exact ⟨ks,h1,own_kept h2 fun g hg => hk g (h2.lt g hg).1 (h2.lt g hg).2⟩

theorem SoL.mono {w : World} {B B' : Nat} {l : List So} {v : Value} (h : SoL w B l v) (hB : B' ≤ B) : SoL w B' l v:=by
 obtain ⟨ks,h1,h2⟩:=h
 exact ⟨ks,h1,own_mono h2 hB⟩

theorem SoL.nil (w : World) (B : Nat) : SoL w B [] Vn:=⟨[],rfl,World.ownsRow_nil _ _ _ _⟩

theorem IL.keep {w W : World} {B : Nat} {l : List Int} {v : Value} (h : IL w B l v) (hk : ∀ g,B ≤ g → g < w.heap.size → W.heap[g]? = w.heap[g]?) : IL W B l v:=own_kept h fun g hg => hk g (h.lt g hg).1 (h.lt g hg).2

theorem IL.mono {w : World} {B B' : Nat} {l : List Int} {v : Value} (h : IL w B l v) (hB : B' ≤ B) : IL w B' l v:=own_mono h hB

theorem IL.nil (w : World) (B : Nat) : IL w B [] Vn:=World.ownsRow_nil _ _ _ _

theorem IL.one {w : World} {B b : Nat} {n : Int} (hb : w.heap[b]? = some (.cells #[Vi n] 3 (0,0))) (hB : B ≤ b) : IL w B [n] (.slice (some ⟨b,0,none⟩) 1 1):=⟨rfl,Or.inr ⟨b,1,_,rfl,hB,hb,Nat.le_refl _,by unfold maxLen; omega,rfl,rfl⟩⟩

theorem Tryz.infoSet : (Tryz.prog.info? 53).map (fun i => (i.zero,i.size,i.bytes)) = some (some (.agg #[Vs,Vi 0,Vi 0,Vi 0,Vi 0,Vs,Vs,Vs,Vn,Vi 0,Vi 0]),11,136):=by kernel_rfl

theorem Tryz.infoSort : (Tryz.prog.info? 70).map (fun i => (i.zero,i.size,i.bytes)) = some (some (.agg #[Vi 0,.bool false,Vi 0]),3,24):=by kernel_rfl

theorem seC_one (x : Se) (k : Value) (hk : k.oneCell' = true) : ∀ u ∈ seC x k,u.oneCell' = true:=by
 intro u hu
 simp only [seC,List.mem_cons,List.mem_append,List.not_mem_nil,or_false] at hu
 rcases hu with rfl | hu | rfl
 ·rfl
 ·exact exC_one _ _ hk u hu
 ·rfl

theorem soC_one (x : So) : ∀ u ∈ soC x,u.oneCell' = true:=by
 intro u hu
 simp only [soC,List.mem_cons,List.not_mem_nil,or_false] at hu
 rcases hu with rfl | rfl | rfl <;> rfl

theorem list_expr (R : Rd_ Ex) (P most : Nat) (s : PS) (w : World) (h : PA w P s) (hc : ∀ s w,PA w P s → Calls Tryz.prog 125 #[.pointer (some ⟨P,0,none⟩)] w (PE R XV P s w)) : Calls Tryz.prog 124 #[.pointer (some ⟨P,0,none⟩),Vi (most : Int),.func (.func 125) #[] #[]] w (PP (listR R most) (fun w B l v => ∃ a c,v = .slice a l.length c ∧ XL w B l v) P s w):=by
 have HP:=Hd h
 have hPw:=h.lt
 have hRL : s.rest.length ≤ 1001:=by obtain ⟨_,_,_,_,_,_,_,h5⟩:=h.mem; exact h5
 have HC:=Hd hc
 clear h hc
 obtain ⟨i0,hi,hz0,hz1,hz2⟩:=info_parts Tryz.infoExpr
 go_enter Tryz.func124,Tryz.ntmps124
 go_wp2_with fail
 go_loopw [7] (fun v wr => ∃ (acc : List Ex) (ks : List Value) (s1 : PS) (a : Option Addr) (c : Nat),v = .slice a acc.length c ∧ acc.length = ks.length ∧ wr.ownsRow w.heap.size 49 9 (.slice a acc.length c) acc.length (xcs acc ks) ∧ FS wr w.heap.size (Zr P (Value.slice a acc.length c).ownBlock) (fun W => XsO W w.heap.size acc ks) ∧ PA wr P s1 ∧ s1.rest.length + acc.length ≤ s.rest.length ∧ Only (· = P) w wr ∧ ∀ r,LsR R most acc s1 r → listR R most s r) (fun _ wr => restN wr P)
 case atStart => exact ⟨[],[],s,none,0,rfl,rfl,World.ownsRow_nil _ _ _ _,fun W _ => fun _ h => absurd h (Nat.not_lt_zero _),HP.out,Nat.le_refl _,Only.refl _ _,fun r h => h⟩
 case round =>
  obtain ⟨acc,ks,s1,a,c,hv,hlk,hown,hfs,hp,hlt,ho,hg⟩:=hrel
  have HOW:=Hd hown
  have HFS:=Hd hfs
  have H1:=Hd hp
  have HLT:=Hd hlt
  have HG:=Hd hg
  have O1:=Hd ho
  have HRN:=Hd hp.restN
  have HLK:=Hd hlk
  clear hown hfs hp hlt hg ho hlk
  rw [hv]
  clear hv
  go_wp2_with fail
  refine (counted_any P s1 acc.length most _ H1.out).mono ?_
  rintro e w2 ⟨rfl,hp,ho⟩
  have H2:=Hd hp
  have O2:=Hd (O1.out.trans ho)
  have HOW2:=Hd (own_kept HOW.out fun g hg => ho.block g (HOW.out.lt g hg).2 (fun e => by have:=(HOW.out.lt g hg).1; omega))
  have HFS2:=Hd (HFS.out.only ho hPw)
  have HSC : Hid ((s1.cnt acc.length most).rest = s1.rest):=Hd (by unfold PS.cnt; split <;> rfl)
  clear hp ho HOW HFS H1 O1
  have HGB : Hid (∀ r,R (s1.cnt acc.length most) (.bad r) → listR R most s (.bad r)):=fun r h => HG.out _ (LsR.bad h)
  have HGL : Hid (∀ x s2,R (s1.cnt acc.length most) (.ok x s2) → s2.sees [44] = false → listR R most s (.ok (acc ++ [x]) s2)):=fun x s2 h hs => HG.out _ (LsR.last h hs)
  have HGM : Hid (∀ x s2,R (s1.cnt acc.length most) (.ok x s2) → s2.sees [44] = true → ∀ r,LsR R most (acc ++ [x]) s2.next r → listR R most s r):=fun x s2 h hs r k => HG.out _ (LsR.more h hs k)
  obtain ⟨s3,hs3⟩:=Vx (s1.cnt acc.length most)
  rw [hs3] at H2 HSC HGB HGL HGM
  clear hs3 HG
  go_wp2_with fail
  refine (HC.out s3 _ H2.out).mono ?_
  rintro e w3 ⟨r,hr,ho,hm⟩
  cases r with
  | bad p =>
   have HV:=Hd (HGB.out _ hr)
   have O3:=Hd (O2.out.trans ho)
   rw [hm]
   clear hm hr ho
   go_wp2
   exact ⟨rfl,pp_bad HV.out O3.out⟩
  | ok x s2 =>
   obtain ⟨v,rfl,⟨a2,m2,c2,rfl,hx⟩,hp,hl⟩:=hm
   obtain ⟨kk,oo,⟨v1,v2,v3⟩,tt,nn,ks2,pp⟩:=x
   simp only [exV,exC]
   have H3:=Hd hp
   have O3:=Hd (O2.out.trans ho)
   have hlt3 : s2.rest.length < s1.rest.length:=by rw [← HSC.out]; exact hl
   have HOW3:=Hd (own_kept HOW2.out fun g hg => ho.block g (HOW2.out.lt g hg).2 (fun e => by have:=(HOW2.out.lt g hg).1; omega))
   have HFS3:=Hd ((HFS2.out.only ho hPw).and (FS.high hx (Z:=Zr P (Value.slice a acc.length c).ownBlock) (fun g hg k => k.elim (fun k => by have:=O2.out.size; omega) (fun k => by have:=(HOW2.out.lt g k).2; omega)) O2.out.size))
   have hs3 : w.heap.size ≤ w3.heap.size:=O3.out.size
   have HGL2:=Hd (HGL.out _ _ hr)
   have HGM2:=Hd (HGM.out _ _ hr)
   clear hp ho hl hr HGL HGM HGB HOW2 HFS2 H2 O2 hx
   have hal : acc.length ≤ 1001:=by have:=HLT.out; omega
   go_wp2_with (first | (at_builtin; refine wpList_append_own_at _ rfl _ _ 22 rfl w.heap.size 49 i0 _ 9 112 Tryz.underlying22 hi hz0 hz1 hz2 rfl (by decide) _ acc.length (xcs acc ks) rfl ?c0 ⟨w3.heap.size,0,none⟩ 1 1 (exC (Ex.mk kk oo (v1,v2,v3) tt nn ks2 pp) (.slice a2 m2 c2)) rfl rfl ?c1 ?c2 ?c3 ?c4 ?c5 ?_))
   case c0 => exact HOW3.out.alloc _
   case c1 => exact World.news_of_block (cs:=(Ve kk oo v1 v2 v3 tt nn (.slice a2 m2 c2) pp)) (heap_alloc_new w3 _)
   case c2 => exact exC_one _ _ rfl
   case c3 => unfold maxLen; omega
   case c4 => omega
   case c5 => simp; omega
   intro v' w4 hown4 hgrow _ hat
   have HB4 : Hid (Only (· = P) w w4):=⟨hgrow.os.trans (by exact O3.out.os),hgrow.tape.trans (by exact O3.out.tape),hgrow.output.trans (by exact O3.out.output),Nat.le_trans hs3 (Nat.le_trans (by simp) hgrow.size),fun k hk hn => (hgrow.block k (by simp; omega) (fun e => by have:=(HOW3.out.lt k e.symm).1; omega)).trans ((alloc_off (by omega) _).trans (O3.out.block k hk hn))⟩
   have H4 : Hid (PA w4 P s2):=H3.out.keep fun k hk => (hgrow.block k (by simp; omega) (fun e => by have:=(HOW3.out.lt k e.symm).1; omega)).trans (alloc_off (by omega) _)
   have HFS4:=Hd (FS.grow (v:=.slice a acc.length c) (v':=v') (HFS3.out.below ((Below.refl _ _).alloc (Nat.le_refl _) (.cells (Ve kk oo v1 v2 v3 tt nn (.slice a2 m2 c2) pp) 49))) hgrow (hat.imp id fun e => e.trans (by simp)))
   have hlen : (acc ++ [(Ex.mk kk oo (v1,v2,v3) tt nn ks2 pp)]).length = acc.length + 1:=by simp
   have hown5 : w4.ownsRow w.heap.size 49 9 v' (acc ++ [(Ex.mk kk oo (v1,v2,v3) tt nn ks2 pp)]).length (xcs (acc ++ [(Ex.mk kk oo (v1,v2,v3) tt nn ks2 pp)]) (ks ++ [.slice a2 m2 c2])):=by
    rw [hlen,xcs_append _ _ _ _ HLK.out]
    simpa [xcs] using hown4
   obtain ⟨a4,c4,rfl⟩:=own_form hown5
   have HOW4:=Hd hown5
   have HFS5:=Hd (HFS4.out.imp fun W h => XsO.snoc h.1 HLK.out h.2)
   clear hown4 hown5 hgrow hat HFS4 HFS3 HOW3 H3 O3
   go_wp2_with fail
   refine (skip_any P s2 ⟨#[44]⟩ _ H4.out).mono ?_
   rintro e w5 ⟨rfl,hp,ho⟩
   have O5:=Hd (HB4.out.trans ho)
   have HOW5:=Hd (own_kept HOW4.out fun g hg => ho.block g (HOW4.out.lt g hg).2 (fun e => by have:=(HOW4.out.lt g hg).1; omega))
   have HFS6:=Hd (HFS5.out.only ho hPw)
   clear ho HOW4 HFS5 HB4 H4
   cases hS : s2.sees [44] with
   | false =>
    rw [show s2.sees (⟨#[44]⟩ : ByteArray).data.toList = false from hS] at hp
    rw [if_neg (by decide)] at hp
    have HV:=Hd (HGL2.out hS)
    have H5:=Hd hp
    clear hp hS HGL2 HGM2
    go_wp2
    exact bodyPost_ret (v:=.slice a4 (acc ++ [(Ex.mk kk oo (v1,v2,v3) tt nn ks2 pp)]).length c4) (by simp [results,Tryz.results124,go_sem]) rfl (pp_ok HV.out O5.out ⟨a4,c4,rfl,ks ++ [.slice a2 m2 c2],by simp [HLK.out],HOW5.out,HFS6.out.out⟩ H5.out (by have:=HLT.out; omega))
   | true =>
    rw [show s2.sees (⟨#[44]⟩ : ByteArray).data.toList = true from hS] at hp
    rw [if_pos rfl] at hp
    have HV:=Hd (HGM2.out hS)
    have H5:=Hd hp
    clear hp hS HGL2 HGM2
    go_wp2
    go_roundw
    case rel => exact ⟨_,ks ++ [.slice a2 m2 c2],s2.next,a4,c4,by rw [hlen],by simp [HLK.out],HOW5.out,HFS6.out,H5.out,by have h1:=HLT.out; have h2:=tail_le s2; rw [hlen]; omega,O5.out,HV.out⟩
    case measure => rw [H5.out.restN,HRN.out]; have h2:=tail_le s2; omega

theorem list_item (R : Rd_ Ex) (P most : Nat) (s : PS) (w : World) (h : PA w P s) (hc : ∀ s w,PA w P s → Calls Tryz.prog 129 #[.pointer (some ⟨P,0,none⟩)] w (PE R XV P s w)) : Calls Tryz.prog 124 #[.pointer (some ⟨P,0,none⟩),Vi (most : Int),.func (.func 129) #[] #[]] w (PP (listR R most) (fun w B l v => ∃ a c,v = .slice a l.length c ∧ XL w B l v) P s w):=by
 have HP:=Hd h
 have hPw:=h.lt
 have hRL : s.rest.length ≤ 1001:=by obtain ⟨_,_,_,_,_,_,_,h5⟩:=h.mem; exact h5
 have HC:=Hd hc
 clear h hc
 obtain ⟨i0,hi,hz0,hz1,hz2⟩:=info_parts Tryz.infoExpr
 go_enter Tryz.func124,Tryz.ntmps124
 go_wp2_with fail
 go_loopw [7] (fun v wr => ∃ (acc : List Ex) (ks : List Value) (s1 : PS) (a : Option Addr) (c : Nat),v = .slice a acc.length c ∧ acc.length = ks.length ∧ wr.ownsRow w.heap.size 49 9 (.slice a acc.length c) acc.length (xcs acc ks) ∧ FS wr w.heap.size (Zr P (Value.slice a acc.length c).ownBlock) (fun W => XsO W w.heap.size acc ks) ∧ PA wr P s1 ∧ s1.rest.length + acc.length ≤ s.rest.length ∧ Only (· = P) w wr ∧ ∀ r,LsR R most acc s1 r → listR R most s r) (fun _ wr => restN wr P)
 case atStart => exact ⟨[],[],s,none,0,rfl,rfl,World.ownsRow_nil _ _ _ _,fun W _ => fun _ h => absurd h (Nat.not_lt_zero _),HP.out,Nat.le_refl _,Only.refl _ _,fun r h => h⟩
 case round =>
  obtain ⟨acc,ks,s1,a,c,hv,hlk,hown,hfs,hp,hlt,ho,hg⟩:=hrel
  have HOW:=Hd hown
  have HFS:=Hd hfs
  have H1:=Hd hp
  have HLT:=Hd hlt
  have HG:=Hd hg
  have O1:=Hd ho
  have HRN:=Hd hp.restN
  have HLK:=Hd hlk
  clear hown hfs hp hlt hg ho hlk
  rw [hv]
  clear hv
  go_wp2_with fail
  refine (counted_any P s1 acc.length most _ H1.out).mono ?_
  rintro e w2 ⟨rfl,hp,ho⟩
  have H2:=Hd hp
  have O2:=Hd (O1.out.trans ho)
  have HOW2:=Hd (own_kept HOW.out fun g hg => ho.block g (HOW.out.lt g hg).2 (fun e => by have:=(HOW.out.lt g hg).1; omega))
  have HFS2:=Hd (HFS.out.only ho hPw)
  have HSC : Hid ((s1.cnt acc.length most).rest = s1.rest):=Hd (by unfold PS.cnt; split <;> rfl)
  clear hp ho HOW HFS H1 O1
  have HGB : Hid (∀ r,R (s1.cnt acc.length most) (.bad r) → listR R most s (.bad r)):=fun r h => HG.out _ (LsR.bad h)
  have HGL : Hid (∀ x s2,R (s1.cnt acc.length most) (.ok x s2) → s2.sees [44] = false → listR R most s (.ok (acc ++ [x]) s2)):=fun x s2 h hs => HG.out _ (LsR.last h hs)
  have HGM : Hid (∀ x s2,R (s1.cnt acc.length most) (.ok x s2) → s2.sees [44] = true → ∀ r,LsR R most (acc ++ [x]) s2.next r → listR R most s r):=fun x s2 h hs r k => HG.out _ (LsR.more h hs k)
  obtain ⟨s3,hs3⟩:=Vx (s1.cnt acc.length most)
  rw [hs3] at H2 HSC HGB HGL HGM
  clear hs3 HG
  go_wp2_with fail
  refine (HC.out s3 _ H2.out).mono ?_
  rintro e w3 ⟨r,hr,ho,hm⟩
  cases r with
  | bad p =>
   have HV:=Hd (HGB.out _ hr)
   have O3:=Hd (O2.out.trans ho)
   rw [hm]
   clear hm hr ho
   go_wp2
   exact ⟨rfl,pp_bad HV.out O3.out⟩
  | ok x s2 =>
   obtain ⟨v,rfl,⟨a2,m2,c2,rfl,hx⟩,hp,hl⟩:=hm
   obtain ⟨kk,oo,⟨v1,v2,v3⟩,tt,nn,ks2,pp⟩:=x
   simp only [exV,exC]
   have H3:=Hd hp
   have O3:=Hd (O2.out.trans ho)
   have hlt3 : s2.rest.length < s1.rest.length:=by rw [← HSC.out]; exact hl
   have HOW3:=Hd (own_kept HOW2.out fun g hg => ho.block g (HOW2.out.lt g hg).2 (fun e => by have:=(HOW2.out.lt g hg).1; omega))
   have HFS3:=Hd ((HFS2.out.only ho hPw).and (FS.high hx (Z:=Zr P (Value.slice a acc.length c).ownBlock) (fun g hg k => k.elim (fun k => by have:=O2.out.size; omega) (fun k => by have:=(HOW2.out.lt g k).2; omega)) O2.out.size))
   have hs3 : w.heap.size ≤ w3.heap.size:=O3.out.size
   have HGL2:=Hd (HGL.out _ _ hr)
   have HGM2:=Hd (HGM.out _ _ hr)
   clear hp ho hl hr HGL HGM HGB HOW2 HFS2 H2 O2 hx
   have hal : acc.length ≤ 1001:=by have:=HLT.out; omega
   go_wp2_with (first | (at_builtin; refine wpList_append_own_at _ rfl _ _ 22 rfl w.heap.size 49 i0 _ 9 112 Tryz.underlying22 hi hz0 hz1 hz2 rfl (by decide) _ acc.length (xcs acc ks) rfl ?c0 ⟨w3.heap.size,0,none⟩ 1 1 (exC (Ex.mk kk oo (v1,v2,v3) tt nn ks2 pp) (.slice a2 m2 c2)) rfl rfl ?c1 ?c2 ?c3 ?c4 ?c5 ?_))
   case c0 => exact HOW3.out.alloc _
   case c1 => exact World.news_of_block (cs:=(Ve kk oo v1 v2 v3 tt nn (.slice a2 m2 c2) pp)) (heap_alloc_new w3 _)
   case c2 => exact exC_one _ _ rfl
   case c3 => unfold maxLen; omega
   case c4 => omega
   case c5 => simp; omega
   intro v' w4 hown4 hgrow _ hat
   have HB4 : Hid (Only (· = P) w w4):=⟨hgrow.os.trans (by exact O3.out.os),hgrow.tape.trans (by exact O3.out.tape),hgrow.output.trans (by exact O3.out.output),Nat.le_trans hs3 (Nat.le_trans (by simp) hgrow.size),fun k hk hn => (hgrow.block k (by simp; omega) (fun e => by have:=(HOW3.out.lt k e.symm).1; omega)).trans ((alloc_off (by omega) _).trans (O3.out.block k hk hn))⟩
   have H4 : Hid (PA w4 P s2):=H3.out.keep fun k hk => (hgrow.block k (by simp; omega) (fun e => by have:=(HOW3.out.lt k e.symm).1; omega)).trans (alloc_off (by omega) _)
   have HFS4:=Hd (FS.grow (v:=.slice a acc.length c) (v':=v') (HFS3.out.below ((Below.refl _ _).alloc (Nat.le_refl _) (.cells (Ve kk oo v1 v2 v3 tt nn (.slice a2 m2 c2) pp) 49))) hgrow (hat.imp id fun e => e.trans (by simp)))
   have hlen : (acc ++ [(Ex.mk kk oo (v1,v2,v3) tt nn ks2 pp)]).length = acc.length + 1:=by simp
   have hown5 : w4.ownsRow w.heap.size 49 9 v' (acc ++ [(Ex.mk kk oo (v1,v2,v3) tt nn ks2 pp)]).length (xcs (acc ++ [(Ex.mk kk oo (v1,v2,v3) tt nn ks2 pp)]) (ks ++ [.slice a2 m2 c2])):=by
    rw [hlen,xcs_append _ _ _ _ HLK.out]
    simpa [xcs] using hown4
   obtain ⟨a4,c4,rfl⟩:=own_form hown5
   have HOW4:=Hd hown5
   have HFS5:=Hd (HFS4.out.imp fun W h => XsO.snoc h.1 HLK.out h.2)
   clear hown4 hown5 hgrow hat HFS4 HFS3 HOW3 H3 O3
   go_wp2_with fail
   refine (skip_any P s2 ⟨#[44]⟩ _ H4.out).mono ?_
   rintro e w5 ⟨rfl,hp,ho⟩
   have O5:=Hd (HB4.out.trans ho)
   have HOW5:=Hd (own_kept HOW4.out fun g hg => ho.block g (HOW4.out.lt g hg).2 (fun e => by have:=(HOW4.out.lt g hg).1; omega))
   have HFS6:=Hd (HFS5.out.only ho hPw)
   clear ho HOW4 HFS5 HB4 H4
   cases hS : s2.sees [44] with
   | false =>
    rw [show s2.sees (⟨#[44]⟩ : ByteArray).data.toList = false from hS] at hp
    rw [if_neg (by decide)] at hp
    have HV:=Hd (HGL2.out hS)
    have H5:=Hd hp
    clear hp hS HGL2 HGM2
    go_wp2
    exact bodyPost_ret (v:=.slice a4 (acc ++ [(Ex.mk kk oo (v1,v2,v3) tt nn ks2 pp)]).length c4) (by simp [results,Tryz.results124,go_sem]) rfl (pp_ok HV.out O5.out ⟨a4,c4,rfl,ks ++ [.slice a2 m2 c2],by simp [HLK.out],HOW5.out,HFS6.out.out⟩ H5.out (by have:=HLT.out; omega))
   | true =>
    rw [show s2.sees (⟨#[44]⟩ : ByteArray).data.toList = true from hS] at hp
    rw [if_pos rfl] at hp
    have HV:=Hd (HGM2.out hS)
    have H5:=Hd hp
    clear hp hS HGL2 HGM2
    go_wp2
    go_roundw
    case rel => exact ⟨_,ks ++ [.slice a2 m2 c2],s2.next,a4,c4,by rw [hlen],by simp [HLK.out],HOW5.out,HFS6.out,H5.out,by have h1:=HLT.out; have h2:=tail_le s2; rw [hlen]; omega,O5.out,HV.out⟩
    case measure => rw [H5.out.restN,HRN.out]; have h2:=tail_le s2; omega

theorem list_col (R : Rd_ Ex) (P most : Nat) (s : PS) (w : World) (h : PA w P s) (hc : ∀ s w,PA w P s → Calls Tryz.prog 130 #[.pointer (some ⟨P,0,none⟩)] w (PE R XV P s w)) : Calls Tryz.prog 124 #[.pointer (some ⟨P,0,none⟩),Vi (most : Int),.func (.func 130) #[] #[]] w (PP (listR R most) (fun w B l v => ∃ a c,v = .slice a l.length c ∧ XL w B l v) P s w):=by
 have HP:=Hd h
 have hPw:=h.lt
 have hRL : s.rest.length ≤ 1001:=by obtain ⟨_,_,_,_,_,_,_,h5⟩:=h.mem; exact h5
 have HC:=Hd hc
 clear h hc
 obtain ⟨i0,hi,hz0,hz1,hz2⟩:=info_parts Tryz.infoExpr
 go_enter Tryz.func124,Tryz.ntmps124
 go_wp2_with fail
 go_loopw [7] (fun v wr => ∃ (acc : List Ex) (ks : List Value) (s1 : PS) (a : Option Addr) (c : Nat),v = .slice a acc.length c ∧ acc.length = ks.length ∧ wr.ownsRow w.heap.size 49 9 (.slice a acc.length c) acc.length (xcs acc ks) ∧ FS wr w.heap.size (Zr P (Value.slice a acc.length c).ownBlock) (fun W => XsO W w.heap.size acc ks) ∧ PA wr P s1 ∧ s1.rest.length + acc.length ≤ s.rest.length ∧ Only (· = P) w wr ∧ ∀ r,LsR R most acc s1 r → listR R most s r) (fun _ wr => restN wr P)
 case atStart => exact ⟨[],[],s,none,0,rfl,rfl,World.ownsRow_nil _ _ _ _,fun W _ => fun _ h => absurd h (Nat.not_lt_zero _),HP.out,Nat.le_refl _,Only.refl _ _,fun r h => h⟩
 case round =>
  obtain ⟨acc,ks,s1,a,c,hv,hlk,hown,hfs,hp,hlt,ho,hg⟩:=hrel
  have HOW:=Hd hown
  have HFS:=Hd hfs
  have H1:=Hd hp
  have HLT:=Hd hlt
  have HG:=Hd hg
  have O1:=Hd ho
  have HRN:=Hd hp.restN
  have HLK:=Hd hlk
  clear hown hfs hp hlt hg ho hlk
  rw [hv]
  clear hv
  go_wp2_with fail
  refine (counted_any P s1 acc.length most _ H1.out).mono ?_
  rintro e w2 ⟨rfl,hp,ho⟩
  have H2:=Hd hp
  have O2:=Hd (O1.out.trans ho)
  have HOW2:=Hd (own_kept HOW.out fun g hg => ho.block g (HOW.out.lt g hg).2 (fun e => by have:=(HOW.out.lt g hg).1; omega))
  have HFS2:=Hd (HFS.out.only ho hPw)
  have HSC : Hid ((s1.cnt acc.length most).rest = s1.rest):=Hd (by unfold PS.cnt; split <;> rfl)
  clear hp ho HOW HFS H1 O1
  have HGB : Hid (∀ r,R (s1.cnt acc.length most) (.bad r) → listR R most s (.bad r)):=fun r h => HG.out _ (LsR.bad h)
  have HGL : Hid (∀ x s2,R (s1.cnt acc.length most) (.ok x s2) → s2.sees [44] = false → listR R most s (.ok (acc ++ [x]) s2)):=fun x s2 h hs => HG.out _ (LsR.last h hs)
  have HGM : Hid (∀ x s2,R (s1.cnt acc.length most) (.ok x s2) → s2.sees [44] = true → ∀ r,LsR R most (acc ++ [x]) s2.next r → listR R most s r):=fun x s2 h hs r k => HG.out _ (LsR.more h hs k)
  obtain ⟨s3,hs3⟩:=Vx (s1.cnt acc.length most)
  rw [hs3] at H2 HSC HGB HGL HGM
  clear hs3 HG
  go_wp2_with fail
  refine (HC.out s3 _ H2.out).mono ?_
  rintro e w3 ⟨r,hr,ho,hm⟩
  cases r with
  | bad p =>
   have HV:=Hd (HGB.out _ hr)
   have O3:=Hd (O2.out.trans ho)
   rw [hm]
   clear hm hr ho
   go_wp2
   exact ⟨rfl,pp_bad HV.out O3.out⟩
  | ok x s2 =>
   obtain ⟨v,rfl,⟨a2,m2,c2,rfl,hx⟩,hp,hl⟩:=hm
   obtain ⟨kk,oo,⟨v1,v2,v3⟩,tt,nn,ks2,pp⟩:=x
   simp only [exV,exC]
   have H3:=Hd hp
   have O3:=Hd (O2.out.trans ho)
   have hlt3 : s2.rest.length < s1.rest.length:=by rw [← HSC.out]; exact hl
   have HOW3:=Hd (own_kept HOW2.out fun g hg => ho.block g (HOW2.out.lt g hg).2 (fun e => by have:=(HOW2.out.lt g hg).1; omega))
   have HFS3:=Hd ((HFS2.out.only ho hPw).and (FS.high hx (Z:=Zr P (Value.slice a acc.length c).ownBlock) (fun g hg k => k.elim (fun k => by have:=O2.out.size; omega) (fun k => by have:=(HOW2.out.lt g k).2; omega)) O2.out.size))
   have hs3 : w.heap.size ≤ w3.heap.size:=O3.out.size
   have HGL2:=Hd (HGL.out _ _ hr)
   have HGM2:=Hd (HGM.out _ _ hr)
   clear hp ho hl hr HGL HGM HGB HOW2 HFS2 H2 O2 hx
   have hal : acc.length ≤ 1001:=by have:=HLT.out; omega
   go_wp2_with (first | (at_builtin; refine wpList_append_own_at _ rfl _ _ 22 rfl w.heap.size 49 i0 _ 9 112 Tryz.underlying22 hi hz0 hz1 hz2 rfl (by decide) _ acc.length (xcs acc ks) rfl ?c0 ⟨w3.heap.size,0,none⟩ 1 1 (exC (Ex.mk kk oo (v1,v2,v3) tt nn ks2 pp) (.slice a2 m2 c2)) rfl rfl ?c1 ?c2 ?c3 ?c4 ?c5 ?_))
   case c0 => exact HOW3.out.alloc _
   case c1 => exact World.news_of_block (cs:=(Ve kk oo v1 v2 v3 tt nn (.slice a2 m2 c2) pp)) (heap_alloc_new w3 _)
   case c2 => exact exC_one _ _ rfl
   case c3 => unfold maxLen; omega
   case c4 => omega
   case c5 => simp; omega
   intro v' w4 hown4 hgrow _ hat
   have HB4 : Hid (Only (· = P) w w4):=⟨hgrow.os.trans (by exact O3.out.os),hgrow.tape.trans (by exact O3.out.tape),hgrow.output.trans (by exact O3.out.output),Nat.le_trans hs3 (Nat.le_trans (by simp) hgrow.size),fun k hk hn => (hgrow.block k (by simp; omega) (fun e => by have:=(HOW3.out.lt k e.symm).1; omega)).trans ((alloc_off (by omega) _).trans (O3.out.block k hk hn))⟩
   have H4 : Hid (PA w4 P s2):=H3.out.keep fun k hk => (hgrow.block k (by simp; omega) (fun e => by have:=(HOW3.out.lt k e.symm).1; omega)).trans (alloc_off (by omega) _)
   have HFS4:=Hd (FS.grow (v:=.slice a acc.length c) (v':=v') (HFS3.out.below ((Below.refl _ _).alloc (Nat.le_refl _) (.cells (Ve kk oo v1 v2 v3 tt nn (.slice a2 m2 c2) pp) 49))) hgrow (hat.imp id fun e => e.trans (by simp)))
   have hlen : (acc ++ [(Ex.mk kk oo (v1,v2,v3) tt nn ks2 pp)]).length = acc.length + 1:=by simp
   have hown5 : w4.ownsRow w.heap.size 49 9 v' (acc ++ [(Ex.mk kk oo (v1,v2,v3) tt nn ks2 pp)]).length (xcs (acc ++ [(Ex.mk kk oo (v1,v2,v3) tt nn ks2 pp)]) (ks ++ [.slice a2 m2 c2])):=by
    rw [hlen,xcs_append _ _ _ _ HLK.out]
    simpa [xcs] using hown4
   obtain ⟨a4,c4,rfl⟩:=own_form hown5
   have HOW4:=Hd hown5
   have HFS5:=Hd (HFS4.out.imp fun W h => XsO.snoc h.1 HLK.out h.2)
   clear hown4 hown5 hgrow hat HFS4 HFS3 HOW3 H3 O3
   go_wp2_with fail
   refine (skip_any P s2 ⟨#[44]⟩ _ H4.out).mono ?_
   rintro e w5 ⟨rfl,hp,ho⟩
   have O5:=Hd (HB4.out.trans ho)
   have HOW5:=Hd (own_kept HOW4.out fun g hg => ho.block g (HOW4.out.lt g hg).2 (fun e => by have:=(HOW4.out.lt g hg).1; omega))
   have HFS6:=Hd (HFS5.out.only ho hPw)
   clear ho HOW4 HFS5 HB4 H4
   cases hS : s2.sees [44] with
   | false =>
    rw [show s2.sees (⟨#[44]⟩ : ByteArray).data.toList = false from hS] at hp
    rw [if_neg (by decide)] at hp
    have HV:=Hd (HGL2.out hS)
    have H5:=Hd hp
    clear hp hS HGL2 HGM2
    go_wp2
    exact bodyPost_ret (v:=.slice a4 (acc ++ [(Ex.mk kk oo (v1,v2,v3) tt nn ks2 pp)]).length c4) (by simp [results,Tryz.results124,go_sem]) rfl (pp_ok HV.out O5.out ⟨a4,c4,rfl,ks ++ [.slice a2 m2 c2],by simp [HLK.out],HOW5.out,HFS6.out.out⟩ H5.out (by have:=HLT.out; omega))
   | true =>
    rw [show s2.sees (⟨#[44]⟩ : ByteArray).data.toList = true from hS] at hp
    rw [if_pos rfl] at hp
    have HV:=Hd (HGM2.out hS)
    have H5:=Hd hp
    clear hp hS HGL2 HGM2
    go_wp2
    go_roundw
    case rel => exact ⟨_,ks ++ [.slice a2 m2 c2],s2.next,a4,c4,by rw [hlen],by simp [HLK.out],HOW5.out,HFS6.out,H5.out,by have h1:=HLT.out; have h2:=tail_le s2; rw [hlen]; omega,O5.out,HV.out⟩
    case measure => rw [H5.out.restN,HRN.out]; have h2:=tail_le s2; omega

theorem list_set (R : Rd_ Se) (P most : Nat) (s : PS) (w : World) (h : PA w P s) (hc : ∀ s w,PA w P s → Calls Tryz.prog 127 #[.pointer (some ⟨P,0,none⟩)] w (PE R SeV P s w)) : Calls Tryz.prog 126 #[.pointer (some ⟨P,0,none⟩),Vi (most : Int),.func (.func 127) #[] #[]] w (PP (listR R most) (fun w B l v => ∃ a c,v = .slice a l.length c ∧ SeL w B l v) P s w):=by
 have HP:=Hd h
 have hPw:=h.lt
 have hRL : s.rest.length ≤ 1001:=by obtain ⟨_,_,_,_,_,_,_,h5⟩:=h.mem; exact h5
 have HC:=Hd hc
 clear h hc
 obtain ⟨i0,hi,hz0,hz1,hz2⟩:=info_parts Tryz.infoSet
 go_enter Tryz.func126,Tryz.ntmps126
 go_wp2_with fail
 go_loopw [7] (fun v wr => ∃ (acc : List Se) (ks : List Value) (s1 : PS) (a : Option Addr) (c : Nat),v = .slice a acc.length c ∧ acc.length = ks.length ∧ wr.ownsRow w.heap.size 53 11 (.slice a acc.length c) acc.length (ses acc ks) ∧ FS wr w.heap.size (Zr P (Value.slice a acc.length c).ownBlock) (fun W => SsO W w.heap.size acc ks) ∧ PA wr P s1 ∧ s1.rest.length + acc.length ≤ s.rest.length ∧ Only (· = P) w wr ∧ ∀ r,LsR R most acc s1 r → listR R most s r) (fun _ wr => restN wr P)
 case atStart => exact ⟨[],[],s,none,0,rfl,rfl,World.ownsRow_nil _ _ _ _,fun W _ => fun _ h => absurd h (Nat.not_lt_zero _),HP.out,Nat.le_refl _,Only.refl _ _,fun r h => h⟩
 case round =>
  obtain ⟨acc,ks,s1,a,c,hv,hlk,hown,hfs,hp,hlt,ho,hg⟩:=hrel
  have HOW:=Hd hown
  have HFS:=Hd hfs
  have H1:=Hd hp
  have HLT:=Hd hlt
  have HG:=Hd hg
  have O1:=Hd ho
  have HRN:=Hd hp.restN
  have HLK:=Hd hlk
  clear hown hfs hp hlt hg ho hlk
  rw [hv]
  clear hv
  go_wp2_with fail
  refine (counted_any P s1 acc.length most _ H1.out).mono ?_
  rintro e w2 ⟨rfl,hp,ho⟩
  have H2:=Hd hp
  have O2:=Hd (O1.out.trans ho)
  have HOW2:=Hd (own_kept HOW.out fun g hg => ho.block g (HOW.out.lt g hg).2 (fun e => by have:=(HOW.out.lt g hg).1; omega))
  have HFS2:=Hd (HFS.out.only ho hPw)
  have HSC : Hid ((s1.cnt acc.length most).rest = s1.rest):=Hd (by unfold PS.cnt; split <;> rfl)
  clear hp ho HOW HFS H1 O1
  have HGB : Hid (∀ r,R (s1.cnt acc.length most) (.bad r) → listR R most s (.bad r)):=fun r h => HG.out _ (LsR.bad h)
  have HGL : Hid (∀ x s2,R (s1.cnt acc.length most) (.ok x s2) → s2.sees [44] = false → listR R most s (.ok (acc ++ [x]) s2)):=fun x s2 h hs => HG.out _ (LsR.last h hs)
  have HGM : Hid (∀ x s2,R (s1.cnt acc.length most) (.ok x s2) → s2.sees [44] = true → ∀ r,LsR R most (acc ++ [x]) s2.next r → listR R most s r):=fun x s2 h hs r k => HG.out _ (LsR.more h hs k)
  obtain ⟨s3,hs3⟩:=Vx (s1.cnt acc.length most)
  rw [hs3] at H2 HSC HGB HGL HGM
  clear hs3 HG
  go_wp2_with fail
  refine (HC.out s3 _ H2.out).mono ?_
  rintro e w3 ⟨r,hr,ho,hm⟩
  cases r with
  | bad p =>
   have HV:=Hd (HGB.out _ hr)
   have O3:=Hd (O2.out.trans ho)
   rw [hm]
   clear hm hr ho
   go_wp2
   exact ⟨rfl,pp_bad HV.out O3.out⟩
  | ok x s2 =>
   obtain ⟨v,rfl,⟨a2,m2,c2,rfl,hx⟩,hp,hl⟩:=hm
   obtain ⟨nm,⟨kk,oo,⟨v1,v2,v3⟩,tt,nn,ks2,pp⟩,pl⟩:=x
   simp only [seC,exC,List.cons_append,List.nil_append]
   have H3:=Hd hp
   have O3:=Hd (O2.out.trans ho)
   have hlt3 : s2.rest.length < s1.rest.length:=by rw [← HSC.out]; exact hl
   have HOW3:=Hd (own_kept HOW2.out fun g hg => ho.block g (HOW2.out.lt g hg).2 (fun e => by have:=(HOW2.out.lt g hg).1; omega))
   have HFS3:=Hd ((HFS2.out.only ho hPw).and (FS.high hx (Z:=Zr P (Value.slice a acc.length c).ownBlock) (fun g hg k => k.elim (fun k => by have:=O2.out.size; omega) (fun k => by have:=(HOW2.out.lt g k).2; omega)) O2.out.size))
   have hs3 : w.heap.size ≤ w3.heap.size:=O3.out.size
   have HGL2:=Hd (HGL.out _ _ hr)
   have HGM2:=Hd (HGM.out _ _ hr)
   clear hp ho hl hr HGL HGM HGB HOW2 HFS2 H2 O2 hx
   have hal : acc.length ≤ 1001:=by have:=HLT.out; omega
   go_wp2_with (first | (at_builtin; refine wpList_append_own_at _ rfl _ _ 23 rfl w.heap.size 53 i0 _ 11 136 Tryz.underlying23 hi hz0 hz1 hz2 rfl (by decide) _ acc.length (ses acc ks) rfl ?c0 ⟨w3.heap.size,0,none⟩ 1 1 (seC ((nm,(Ex.mk kk oo (v1,v2,v3) tt nn ks2 pp),pl) : Se) (.slice a2 m2 c2)) rfl rfl ?c1 ?c2 ?c3 ?c4 ?c5 ?_))
   case c0 => exact HOW3.out.alloc _
   case c1 => exact fun _ _ h => h
   case c2 => exact seC_one _ _ rfl
   case c3 => unfold maxLen; omega
   case c4 => omega
   case c5 => omega
   intro v' w4 hown4 hgrow _ hat
   have HB4 : Hid (Only (· = P) w w4):=⟨hgrow.os.trans (by exact O3.out.os),hgrow.tape.trans (by exact O3.out.tape),hgrow.output.trans (by exact O3.out.output),Nat.le_trans hs3 (Nat.le_trans (by simp) hgrow.size),fun k hk hn => (hgrow.block k (by simp; omega) (fun e => by have:=(HOW3.out.lt k e.symm).1; omega)).trans ((alloc_off (by omega) _).trans (O3.out.block k hk hn))⟩
   have H4 : Hid (PA w4 P s2):=H3.out.keep fun k hk => (hgrow.block k (by simp; omega) (fun e => by have:=(HOW3.out.lt k e.symm).1; omega)).trans (alloc_off (by omega) _)
   have HFS4:=Hd (FS.grow (v:=.slice a acc.length c) (v':=v') (HFS3.out.below ((Below.refl _ _).alloc (Nat.le_refl _) (.cells #[.string nm,Vi kk,Vi oo,Vi v1,Vi v2,.string v3,.string tt,.string nn,.slice a2 m2 c2,Vi pp,Vi pl] 53))) hgrow (hat.imp id fun e => e.trans (by simp)))
   have hlen : (acc ++ [((nm,(Ex.mk kk oo (v1,v2,v3) tt nn ks2 pp),pl) : Se)]).length = acc.length + 1:=by simp
   have hown5 : w4.ownsRow w.heap.size 53 11 v' (acc ++ [((nm,(Ex.mk kk oo (v1,v2,v3) tt nn ks2 pp),pl) : Se)]).length (ses (acc ++ [((nm,(Ex.mk kk oo (v1,v2,v3) tt nn ks2 pp),pl) : Se)]) (ks ++ [.slice a2 m2 c2])):=by
    rw [hlen,ses_append _ _ _ _ HLK.out]
    simpa [ses] using hown4
   obtain ⟨a4,c4,rfl⟩:=own_form hown5
   have HOW4:=Hd hown5
   have HFS5:=Hd (HFS4.out.imp fun W h => SsO.snoc (e:=((nm,(Ex.mk kk oo (v1,v2,v3) tt nn ks2 pp),pl) : Se)) h.1 HLK.out h.2)
   clear hown4 hown5 hgrow hat HFS4 HFS3 HOW3 H3 O3
   go_wp2_with fail
   refine (skip_any P s2 ⟨#[44]⟩ _ H4.out).mono ?_
   rintro e w5 ⟨rfl,hp,ho⟩
   have O5:=Hd (HB4.out.trans ho)
   have HOW5:=Hd (own_kept HOW4.out fun g hg => ho.block g (HOW4.out.lt g hg).2 (fun e => by have:=(HOW4.out.lt g hg).1; omega))
   have HFS6:=Hd (HFS5.out.only ho hPw)
   clear ho HOW4 HFS5 HB4 H4
   cases hS : s2.sees [44] with
   | false =>
    rw [show s2.sees (⟨#[44]⟩ : ByteArray).data.toList = false from hS] at hp
    rw [if_neg (by decide)] at hp
    have HV:=Hd (HGL2.out hS)
    have H5:=Hd hp
    clear hp hS HGL2 HGM2
    go_wp2
    exact bodyPost_ret (v:=.slice a4 (acc ++ [((nm,(Ex.mk kk oo (v1,v2,v3) tt nn ks2 pp),pl) : Se)]).length c4) (by simp [results,Tryz.results126,go_sem]) rfl (pp_ok HV.out O5.out ⟨a4,c4,rfl,ks ++ [.slice a2 m2 c2],by simp [HLK.out],HOW5.out,HFS6.out.out⟩ H5.out (by have:=HLT.out; omega))
   | true =>
    rw [show s2.sees (⟨#[44]⟩ : ByteArray).data.toList = true from hS] at hp
    rw [if_pos rfl] at hp
    have HV:=Hd (HGM2.out hS)
    have H5:=Hd hp
    clear hp hS HGL2 HGM2
    go_wp2
    go_roundw
    case rel => exact ⟨_,ks ++ [.slice a2 m2 c2],s2.next,a4,c4,by rw [hlen],by simp [HLK.out],HOW5.out,HFS6.out,H5.out,by have h1:=HLT.out; have h2:=tail_le s2; rw [hlen]; omega,O5.out,HV.out⟩
    case measure => rw [H5.out.restN,HRN.out]; have h2:=tail_le s2; omega

theorem list_sort (R : Rd_ So) (P most : Nat) (s : PS) (w : World) (h : PA w P s) (hc : ∀ s w,PA w P s → Calls Tryz.prog 132 #[.pointer (some ⟨P,0,none⟩)] w (PE R SoV P s w)) : Calls Tryz.prog 131 #[.pointer (some ⟨P,0,none⟩),Vi (most : Int),.func (.func 132) #[] #[]] w (PP (listR R most) (fun w B l v => ∃ a c,v = .slice a l.length c ∧ SoL w B l v) P s w):=by
 have HP:=Hd h
 have hPw:=h.lt
 have hRL : s.rest.length ≤ 1001:=by obtain ⟨_,_,_,_,_,_,_,h5⟩:=h.mem; exact h5
 have HC:=Hd hc
 clear h hc
 obtain ⟨i0,hi,hz0,hz1,hz2⟩:=info_parts Tryz.infoSort
 go_enter Tryz.func131,Tryz.ntmps131
 go_wp2_with fail
 go_loopw [7] (fun v wr => ∃ (acc : List So) (ks : List Value) (s1 : PS) (a : Option Addr) (c : Nat),v = .slice a acc.length c ∧ acc.length = ks.length ∧ wr.ownsRow w.heap.size 70 3 (.slice a acc.length c) acc.length (sos acc ks) ∧ FS wr w.heap.size (Zr P (Value.slice a acc.length c).ownBlock) (fun W => True) ∧ PA wr P s1 ∧ s1.rest.length + acc.length ≤ s.rest.length ∧ Only (· = P) w wr ∧ ∀ r,LsR R most acc s1 r → listR R most s r) (fun _ wr => restN wr P)
 case atStart => exact ⟨[],[],s,none,0,rfl,rfl,World.ownsRow_nil _ _ _ _,fun W _ => trivial,HP.out,Nat.le_refl _,Only.refl _ _,fun r h => h⟩
 case round =>
  obtain ⟨acc,ks,s1,a,c,hv,hlk,hown,hfs,hp,hlt,ho,hg⟩:=hrel
  have HOW:=Hd hown
  have HFS:=Hd hfs
  have H1:=Hd hp
  have HLT:=Hd hlt
  have HG:=Hd hg
  have O1:=Hd ho
  have HRN:=Hd hp.restN
  have HLK:=Hd hlk
  clear hown hfs hp hlt hg ho hlk
  rw [hv]
  clear hv
  go_wp2_with fail
  refine (counted_any P s1 acc.length most _ H1.out).mono ?_
  rintro e w2 ⟨rfl,hp,ho⟩
  have H2:=Hd hp
  have O2:=Hd (O1.out.trans ho)
  have HOW2:=Hd (own_kept HOW.out fun g hg => ho.block g (HOW.out.lt g hg).2 (fun e => by have:=(HOW.out.lt g hg).1; omega))
  have HFS2:=Hd (HFS.out.only ho hPw)
  have HSC : Hid ((s1.cnt acc.length most).rest = s1.rest):=Hd (by unfold PS.cnt; split <;> rfl)
  clear hp ho HOW HFS H1 O1
  have HGB : Hid (∀ r,R (s1.cnt acc.length most) (.bad r) → listR R most s (.bad r)):=fun r h => HG.out _ (LsR.bad h)
  have HGL : Hid (∀ x s2,R (s1.cnt acc.length most) (.ok x s2) → s2.sees [44] = false → listR R most s (.ok (acc ++ [x]) s2)):=fun x s2 h hs => HG.out _ (LsR.last h hs)
  have HGM : Hid (∀ x s2,R (s1.cnt acc.length most) (.ok x s2) → s2.sees [44] = true → ∀ r,LsR R most (acc ++ [x]) s2.next r → listR R most s r):=fun x s2 h hs r k => HG.out _ (LsR.more h hs k)
  obtain ⟨s3,hs3⟩:=Vx (s1.cnt acc.length most)
  rw [hs3] at H2 HSC HGB HGL HGM
  clear hs3 HG
  go_wp2_with fail
  refine (HC.out s3 _ H2.out).mono ?_
  rintro e w3 ⟨r,hr,ho,hm⟩
  cases r with
  | bad p =>
   have HV:=Hd (HGB.out _ hr)
   have O3:=Hd (O2.out.trans ho)
   rw [hm]
   clear hm hr ho
   go_wp2
   exact ⟨rfl,pp_bad HV.out O3.out⟩
  | ok x s2 =>
   obtain ⟨v,rfl,hx,hp,hl⟩:=hm
   obtain ⟨it,ds,pl⟩:=x
   rw [show v = .agg #[Vi it,.bool ds,Vi pl] from hx]
   clear hx
   have H3:=Hd hp
   have O3:=Hd (O2.out.trans ho)
   have hlt3 : s2.rest.length < s1.rest.length:=by rw [← HSC.out]; exact hl
   have HOW3:=Hd (own_kept HOW2.out fun g hg => ho.block g (HOW2.out.lt g hg).2 (fun e => by have:=(HOW2.out.lt g hg).1; omega))
   have HFS3:=Hd (HFS2.out.only ho hPw)
   have hs3 : w.heap.size ≤ w3.heap.size:=O3.out.size
   have HGL2:=Hd (HGL.out _ _ hr)
   have HGM2:=Hd (HGM.out _ _ hr)
   clear hp ho hl hr HGL HGM HGB HOW2 HFS2 H2 O2
   have hal : acc.length ≤ 1001:=by have:=HLT.out; omega
   go_wp2_with (first | (at_builtin; refine wpList_append_own_at _ rfl _ _ 24 rfl w.heap.size 70 i0 _ 3 24 Tryz.underlying24 hi hz0 hz1 hz2 rfl (by decide) _ acc.length (sos acc ks) rfl ?c0 ⟨w3.heap.size,0,none⟩ 1 1 (soC ((it,ds,pl) : So)) rfl rfl ?c1 ?c2 ?c3 ?c4 ?c5 ?_))
   case c0 => exact HOW3.out.alloc _
   case c1 => exact World.news_of_block (cs:=#[Vi it,.bool ds,Vi pl]) (heap_alloc_new w3 _)
   case c2 => exact soC_one _
   case c3 => unfold maxLen; omega
   case c4 => omega
   case c5 => simp; omega
   intro v' w4 hown4 hgrow _ hat
   have HB4 : Hid (Only (· = P) w w4):=⟨hgrow.os.trans (by exact O3.out.os),hgrow.tape.trans (by exact O3.out.tape),hgrow.output.trans (by exact O3.out.output),Nat.le_trans hs3 (Nat.le_trans (by simp) hgrow.size),fun k hk hn => (hgrow.block k (by simp; omega) (fun e => by have:=(HOW3.out.lt k e.symm).1; omega)).trans ((alloc_off (by omega) _).trans (O3.out.block k hk hn))⟩
   have H4 : Hid (PA w4 P s2):=H3.out.keep fun k hk => (hgrow.block k (by simp; omega) (fun e => by have:=(HOW3.out.lt k e.symm).1; omega)).trans (alloc_off (by omega) _)
   have HFS4:=Hd (FS.grow (v:=.slice a acc.length c) (v':=v') (HFS3.out.below ((Below.refl _ _).alloc (Nat.le_refl _) (.cells #[Vi it,.bool ds,Vi pl] 70))) hgrow (hat.imp id fun e => e.trans (by simp)))
   have hlen : (acc ++ [((it,ds,pl) : So)]).length = acc.length + 1:=by simp
   have hown5 : w4.ownsRow w.heap.size 70 3 v' (acc ++ [((it,ds,pl) : So)]).length (sos (acc ++ [((it,ds,pl) : So)]) (ks ++ [Vn])):=by
    rw [hlen,sos_append _ _ _ _ HLK.out]
    simpa [sos] using hown4
   obtain ⟨a4,c4,rfl⟩:=own_form hown5
   have HOW4:=Hd hown5
   have HFS5:=Hd (HFS4.out.imp fun W h => h)
   clear hown4 hown5 hgrow hat HFS4 HFS3 HOW3 H3 O3
   go_wp2_with fail
   refine (skip_any P s2 ⟨#[44]⟩ _ H4.out).mono ?_
   rintro e w5 ⟨rfl,hp,ho⟩
   have O5:=Hd (HB4.out.trans ho)
   have HOW5:=Hd (own_kept HOW4.out fun g hg => ho.block g (HOW4.out.lt g hg).2 (fun e => by have:=(HOW4.out.lt g hg).1; omega))
   have HFS6:=Hd (HFS5.out.only ho hPw)
   clear ho HOW4 HFS5 HB4 H4
   cases hS : s2.sees [44] with
   | false =>
    rw [show s2.sees (⟨#[44]⟩ : ByteArray).data.toList = false from hS] at hp
    rw [if_neg (by decide)] at hp
    have HV:=Hd (HGL2.out hS)
    have H5:=Hd hp
    clear hp hS HGL2 HGM2
    go_wp2
    exact bodyPost_ret (v:=.slice a4 (acc ++ [((it,ds,pl) : So)]).length c4) (by simp [results,Tryz.results131,go_sem]) rfl (pp_ok HV.out O5.out ⟨a4,c4,rfl,ks ++ [Vn],by simp [HLK.out],HOW5.out⟩ H5.out (by have:=HLT.out; omega))
   | true =>
    rw [show s2.sees (⟨#[44]⟩ : ByteArray).data.toList = true from hS] at hp
    rw [if_pos rfl] at hp
    have HV:=Hd (HGM2.out hS)
    have H5:=Hd hp
    clear hp hS HGL2 HGM2
    go_wp2
    go_roundw
    case rel => exact ⟨_,ks ++ [Vn],s2.next,a4,c4,by rw [hlen],by simp [HLK.out],HOW5.out,HFS6.out,H5.out,by have h1:=HLT.out; have h2:=tail_le s2; rw [hlen]; omega,O5.out,HV.out⟩
    case measure => rw [H5.out.restN,HRN.out]; have h2:=tail_le s2; omega
end Go.Proofs.YtbfjmccpcbhljaaGreatDoor
