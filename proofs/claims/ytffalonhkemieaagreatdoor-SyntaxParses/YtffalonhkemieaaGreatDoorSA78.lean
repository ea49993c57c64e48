/- A78 A79 A80 A84d A90 A91 A92 A93 A94d A105d -/
import Derived.Test.YtffalonhkemieaaGreatDoorSA77
import Derived.Laws.EntriesVeiled
set_option maxHeartbeats 4000000
set_option maxRecDepth 100000
namespace Go.Proofs.YtffalonhkemieaaGreatDoor
open Go.RowKit
def dpr : Nat → Ex → Bool
 | 0,_ => true
 | n + 1,.mk _ _ _ _ _ kids _ => kids.any (dpr n)

def XRow (w : World) (p : Option Addr) (es : List Ex) (ks : List Value) : Prop:=∀ i (h : i < es.length) (h' : i < ks.length),∃ b off,p = some ⟨b,off,none⟩ ∧ ∀ j u,(exC es[i] ks[i])[j]? = some u → w.cell? ⟨b,off + i * 9 + j,none⟩ = some u

def SRow (w : World) (p : Option Addr) (es : List Se) (ks : List Value) : Prop:=∀ i (h : i < es.length) (h' : i < ks.length),∃ b off,p = some ⟨b,off,none⟩ ∧ ∀ j u,(seC es[i] ks[i])[j]? = some u → w.cell? ⟨b,off + i * 11 + j,none⟩ = some u

inductive XR (w : World) : Ex → Value → Prop
 | mk {kind op : Int} {v : V3} {t n : ByteArray} {kids : List Ex} {pl : Int} {p : Option Addr} {c : Nat} (ks : List Value) (h1 : kids.length = ks.length) (hc : kids.length ≤ c) (hm : kids.length ≤ 9223372036854775807) (h2 : XRow w p kids ks) (h3 : ∀ i (h : i < kids.length) (h' : i < ks.length),XR w kids[i] ks[i]) : XR w (.mk kind op v t n kids pl) (.slice p kids.length c)

theorem XRow.later {w w' : World} {p : Option Addr} {es : List Ex} {ks : List Value} (h : XRow w p es ks) (hb : Below w.heap.size w w') : XRow w' p es ks:=fun i h1 h2 => by
 obtain ⟨b,off,e,hc⟩:=h i h1 h2
 exact ⟨b,off,e,fun j u hu => Cl hb (hc j u hu)⟩

theorem SRow.later {w w' : World} {p : Option Addr} {es : List Se} {ks : List Value} (h : SRow w p es ks) (hb : Below w.heap.size w w') : SRow w' p es ks:=fun i h1 h2 => by
 obtain ⟨b,off,e,hc⟩:=h i h1 h2
 exact ⟨b,off,e,fun j u hu => Cl hb (hc j u hu)⟩

theorem XR.later {w w' : World} {e : Ex} {k : Value} (h : XR w e k) (hb : Below w.heap.size w w') : XR w' e k:=by
 induction h with
 | mk ks h1 hc hm h2 _ ih => exact XR.mk ks h1 hc hm (h2.later hb) ih

theorem XR.slice {w : World} {e : Ex} {k : Value} (h : XR w e k) : ∃ p m c,k = .slice p m c:=by
 cases h with
 | mk ks _ _ _ _ _ => exact ⟨_,_,_,rfl⟩

theorem getElem?_xcs : ∀ (es : List Ex) (ks : List Value) (i j : Nat) (u : Value) (h : i < es.length) (h' : i < ks.length),(exC es[i] ks[i])[j]? = some u → (xcs es ks)[i * 9 + j]? = some u
 | e :: es,k :: ks,0,j,u,_,_,hu => by
  have hj : j < (exC e k).length:=(List.getElem?_eq_some_iff.1 hu).1
  simp only [xcs,Nat.zero_mul,Nat.zero_add]
  rw [List.getElem?_append_left hj]
  exact hu
 | e :: es,k :: ks,i + 1,j,u,h,h',hu => by
  simp only [xcs]
  rw [List.getElem?_append_right (by rw [exC_len]; omega),exC_len,show (i + 1) * 9 + j - 9 = i * 9 + j by omega]
  exact getElem?_xcs es ks i j u (by simpa using h) (by simpa using h') (by simpa using hu)

theorem seC_len (x : Se) (k : Value) : (seC x k).length = 11:=by simp [seC,exC_len]

theorem getElem?_ses : ∀ (es : List Se) (ks : List Value) (i j : Nat) (u : Value) (h : i < es.length) (h' : i < ks.length),(seC es[i] ks[i])[j]? = some u → (ses es ks)[i * 11 + j]? = some u
 | e :: es,k :: ks,0,j,u,_,_,hu => by
  have hj : j < (seC e k).length:=(List.getElem?_eq_some_iff.1 hu).1
  simp only [ses,Nat.zero_mul,Nat.zero_add]
  rw [List.getElem?_append_left hj]
  exact hu
 | e :: es,k :: ks,i + 1,j,u,h,h',hu => by
  simp only [ses]
  rw [List.getElem?_append_right (by rw [seC_len]; omega),seC_len,show (i + 1) * 11 + j - 11 = i * 11 + j by omega]
  exact getElem?_ses es ks i j u (by simpa using h) (by simpa using h') (by simpa using hu)

theorem add_lit0 (b j : Nat) : (⟨b,0,none⟩ : Addr).add j = ⟨b,j,none⟩:=by unfold Addr.add; split <;> simp_all

theorem own_row {w : World} {B : Nat} {T : TypeId} {size : Nat} {v : Value} {n : Nat} {xs : List Value} (h : w.ownsRow B T size v n xs) : ∃ p c,v = .slice p n c ∧ n ≤ c ∧ n ≤ 9223372036854775807 ∧ ∀ j u,xs[j]? = some u → ∃ b,p = some ⟨b,0,none⟩ ∧ w.cell? ⟨b,j,none⟩ = some u:=by
 have hh:=h
 obtain ⟨hl,⟨rfl,rfl⟩ | ⟨g,cap,cur,rfl,hb,hg,hn,hm,hs,ht⟩⟩:=h
 ·refine ⟨none,0,rfl,Nat.le_refl _,Nat.zero_le _,fun j u hu => ?_⟩
  have : xs = []:=List.eq_nil_of_length_eq_zero (by simpa using hl)
  subst this
  simp at hu
 ·refine ⟨some ⟨g,0,none⟩,cap,rfl,hn,by unfold maxLen at hm; omega,fun j u hu => ⟨g,rfl,?_⟩⟩
  have:=hh.cells (g:=g) rfl j u hu
  rw [add_lit0] at this
  exact this

theorem XO.xr {w : World} {B : Nat} {e : Ex} {k : Value} (h : XO w B e k) : XR w e k:=by
 induction h with
 | mk ks h1 h2 _ ih =>
  obtain ⟨p,c,rfl,hc,hm,hr⟩:=own_row h2
  refine XR.mk ks h1 hc hm (fun i hi hi' => ?_) ih
  have h0 : ∃ u,(exC (_ : List Ex)[i] ks[i])[0]? = some u:=⟨_,List.getElem?_eq_getElem (by rw [exC_len]; omega)⟩
  obtain ⟨u,hu⟩:=h0
  obtain ⟨b,rfl,_⟩:=hr _ u (getElem?_xcs _ ks i 0 u hi hi' hu)
  refine ⟨b,0,rfl,fun j u hu => ?_⟩
  obtain ⟨b',e,hc'⟩:=hr _ u (getElem?_xcs _ ks i j u hi hi' hu)
  injection e with e
  injection e with e _ _
  subst e
  rw [show 0 + i * 9 + j = i * 9 + j by omega]
  exact hc'

theorem XL.row {w : World} {B : Nat} {l : List Ex} {v : Value} (h : XL w B l v) : ∃ p c ks,v = .slice p l.length c ∧ l.length ≤ c ∧ l.length ≤ 9223372036854775807 ∧ l.length = ks.length ∧ XRow w p l ks ∧ ∀ i (h : i < l.length) (h' : i < ks.length),XR w l[i] ks[i]:=by
 obtain ⟨ks,h1,h2,h3⟩:=h
 have hx : XR w (.mk 0 0 v0 ⟨#[]⟩ ⟨#[]⟩ l 0) v:=(XO.mk ks h1 h2 h3 : XO w B (.mk 0 0 v0 ⟨#[]⟩ ⟨#[]⟩ l 0) v).xr
 cases hx with
 | mk qs g1 g2 g3 g4 g5 => exact ⟨_,_,qs,rfl,g2,g3,g1,g4,g5⟩

theorem SeL.row {w : World} {B : Nat} {l : List Se} {v : Value} (h : SeL w B l v) : ∃ p c ks,v = .slice p l.length c ∧ l.length ≤ c ∧ l.length ≤ 9223372036854775807 ∧ l.length = ks.length ∧ SRow w p l ks ∧ ∀ i (h : i < l.length) (h' : i < ks.length),XR w l[i].2.1 ks[i]:=by
 obtain ⟨ks,h1,h2,h3⟩:=h
 obtain ⟨p,c,rfl,hc,hm,hr⟩:=own_row h2
 refine ⟨p,c,ks,rfl,hc,hm,h1,fun i hi hi' => ?_,fun i hi hi' => (h3 i hi hi').xr⟩
 have h0 : ∃ u,(seC l[i] ks[i])[0]? = some u:=⟨_,List.getElem?_eq_getElem (by rw [seC_len]; omega)⟩
 obtain ⟨u,hu⟩:=h0
 obtain ⟨b,rfl,_⟩:=hr _ u (getElem?_ses _ ks i 0 u hi hi' hu)
 refine ⟨b,0,rfl,fun j u hu => ?_⟩
 obtain ⟨b',e,hc'⟩:=hr _ u (getElem?_ses _ ks i j u hi hi' hu)
 injection e with e
 injection e with e _ _
 subst e
 rw [show 0 + i * 11 + j = i * 11 + j by omega]
 exact hc'

theorem idx_deeper (w : World) (a : Option Addr) (cap : Nat) (es : List Ex) (ks : List Value) (x0 : Nat) (H : Nat → Bool) (hlk : es.length = ks.length) (hl : es.length ≤ 9223372036854775807) (hr : XRow w a es ks) (hs : ∀ i (h' : i < ks.length),∃ p m c,ks[i] = .slice p m c) (hC : ∀ k (h : k < es.length) (h' : k < ks.length) w1,Below w.heap.size w w1 → Calls Tryz.prog 110 #[.agg (exC es[k] ks[k]).toArray,.pointer (some ⟨x0,0,none⟩)] w1 fun e w2 => e = .returned (.bool (H k)) ∧ Below w1.heap.size w1 w2) : Calls Tryz.prog 111 #[.slice a es.length cap,.func (.func 110) #[] #[.pointer (some ⟨x0,0,none⟩)]] w fun e w' => (∃ i : Int,e = .returned (Vi i) ∧ (0 ≤ i ↔ ∃ k,k < es.length ∧ H k = true)) ∧ Below w.heap.size w w':=by
 have HR:=Hd hr
 have HC:=Hd hC
 have HS:=Hd hs
 have HLK:=Hd hlk
 clear hr hC hs hlk
 go_enter Tryz.func111,Tryz.ntmps111
 go_wp2
 go_loopw [8] (fun i wr => ∃ k : Nat,k ≤ es.length ∧ i = Vi k ∧ (∀ j,j < k → H j = false) ∧ Below w.heap.size w wr) (fun i _ => es.length - (intOf i).toNat)
 case atStart => exact ⟨0,Nat.zero_le _,rfl,fun j g => absurd g (Nat.not_lt_zero _),Below.refl _ _⟩
 case round =>
  obtain ⟨k,hk,rfl,hall,hb1⟩:=hrel
  have HA:=Hd hall
  have HB:=Hd hb1
  have hsz:=hb1.size
  clear hall hb1
  by_cases hlt : k < es.length
  ·have hlti : (k : Int) < (es.length : Int):=by omega
   have hlt' : k < ks.length:=by rw [← HLK.out]; exact hlt
   obtain ⟨b,off,rfl,hcs⟩:=HR.out k hlt hlt'
   obtain ⟨a2,m2,c2,hks⟩:=HS.out k hlt'
   have HCk:=Hd (HC.out k hlt hlt' )
   rw [hks] at hcs HCk
   obtain ⟨⟨kk,oo,⟨v1,v2,v3⟩,tt,nn,ks2,pp⟩,hx⟩ : ∃ x,es[k] = x:=⟨_,rfl⟩
   rw [hx] at hcs HCk
   clear hx hks
   simp only [exC] at HCk
   have HCS : Hid (∀ j u,[Vi kk,Vi oo,Vi v1,Vi v2,.string v3,.string tt,.string nn,.slice a2 m2 c2,Vi pp][j]? = some u → w.cell? ⟨b,off + k * 9 + j,none⟩ = some u):=hcs
   clear hcs
   have q0:=Cl HB.out (HCS.out 0 _ rfl)
   have q1:=Cl HB.out (HCS.out 1 _ rfl)
   have q2:=Cl HB.out (HCS.out 2 _ rfl)
   have q3:=Cl HB.out (HCS.out 3 _ rfl)
   have q4:=Cl HB.out (HCS.out 4 _ rfl)
   have q5:=Cl HB.out (HCS.out 5 _ rfl)
   have q6:=Cl HB.out (HCS.out 6 _ rfl)
   have q7:=Cl HB.out (HCS.out 7 _ rfl)
   have q8:=Cl HB.out (HCS.out 8 _ rfl)
   simp only [Nat.add_zero] at q0
   go_wp2_with fail
   refine (HCk.out _ HB.out).mono ?_
   rintro e w2 ⟨rfl,hb2⟩
   have HB2:=Hd (HB.out.trans (hb2.mono hsz))
   clear hb2 q0 q1 q2 q3 q4 q5 q6 q7 q8
   cases hH : H k with
   | true =>
    have HE : Hid (∃ k,k < es.length ∧ H k = true):=⟨k,hlt,hH⟩
    go_wp2
    exact bodyPost_ret (v:=Vi (k : Int)) (by simp [results,Tryz.results111,go_sem]) rfl ⟨⟨k,rfl,fun _ => HE.out,fun _ => by omega⟩,HB2.out⟩
   | false =>
    have HA2 : Hid (∀ j,j < k + 1 → H j = false):=fun j hj => by
     by_cases e : j = k
     ·rw [e]; exact hH
     ·exact HA.out j (by omega)
    go_wp2
    go_roundw
    case rel => exact ⟨k + 1,by omega,by simp,HA2.out,HB2.out⟩
    case measure => simp [intOf]; omega
  ·have hnlt : ¬ (k : Int) < (es.length : Int):=by omega
   have HE : Hid (¬ ∃ k,k < es.length ∧ H k = true):=fun ⟨j,hj,h⟩ => by rw [HA.out j (by omega)] at h; cases h
   go_wp2
   exact bodyPost_ret (v:=Vi (-1)) (by simp [results,Tryz.results111,go_sem]) rfl ⟨⟨-1,rfl,fun h => absurd h (by decide),fun h => absurd h HE.out⟩,HB.out⟩

theorem con_deeper (w : World) (a : Option Addr) (cap : Nat) (es : List Ex) (ks : List Value) (x0 : Nat) (H : Nat → Bool) (hlk : es.length = ks.length) (hl : es.length ≤ 9223372036854775807) (hr : XRow w a es ks) (hs : ∀ i (h' : i < ks.length),∃ p m c,ks[i] = .slice p m c) (hC : ∀ k (h : k < es.length) (h' : k < ks.length) w1,Below w.heap.size w w1 → Calls Tryz.prog 110 #[.agg (exC es[k] ks[k]).toArray,.pointer (some ⟨x0,0,none⟩)] w1 fun e w2 => e = .returned (.bool (H k)) ∧ Below w1.heap.size w1 w2) : Calls Tryz.prog 64 #[.slice a es.length cap,.func (.func 110) #[] #[.pointer (some ⟨x0,0,none⟩)]] w fun e w' => (∃ b : Bool,e = .returned (.bool b) ∧ (b = true ↔ ∃ k,k < es.length ∧ H k = true)) ∧ Below w.heap.size w w':=by
 have HI:=Hd (idx_deeper w a cap es ks x0 H hlk hl hr hs hC)
 clear hlk hl hr hs hC
 go_enter Tryz.func64,Tryz.ntmps64
 go_wp2_with fail
 refine HI.out.mono ?_
 rintro e w1 ⟨⟨i,rfl,hi⟩,hb⟩
 have HX:=Hd hi
 have HB:=Hd hb
 clear hi hb
 go_wp2
 exact bodyPost_ret (v:=.bool (decide (0 ≤ i))) (by simp [results,Tryz.results64,go_sem]) rfl ⟨⟨_,rfl,by rw [decide_eq_true_iff]; exact HX.out⟩,HB.out⟩

theorem idx_deep1 (w : World) (a : Option Addr) (cap : Nat) (es : List Ex) (ks : List Value) (H : Nat → Bool) (hlk : es.length = ks.length) (hl : es.length ≤ 9223372036854775807) (hr : XRow w a es ks) (hs : ∀ i (h' : i < ks.length),∃ p m c,ks[i] = .slice p m c) (hC : ∀ k (h : k < es.length) (h' : k < ks.length) w1,Below w.heap.size w w1 → Calls Tryz.prog 62 #[.agg (exC es[k] ks[k]).toArray] w1 fun e w2 => e = .returned (.bool (H k)) ∧ Below w1.heap.size w1 w2) : Calls Tryz.prog 111 #[.slice a es.length cap,.func (.func 62) #[] #[]] w fun e w' => (∃ i : Int,e = .returned (Vi i) ∧ (0 ≤ i ↔ ∃ k,k < es.length ∧ H k = true)) ∧ Below w.heap.size w w':=by
 have HR:=Hd hr
 have HC:=Hd hC
 have HS:=Hd hs
 have HLK:=Hd hlk
 clear hr hC hs hlk
 go_enter Tryz.func111,Tryz.ntmps111
 go_wp2
 go_loopw [8] (fun i wr => ∃ k : Nat,k ≤ es.length ∧ i = Vi k ∧ (∀ j,j < k → H j = false) ∧ Below w.heap.size w wr) (fun i _ => es.length - (intOf i).toNat)
 case atStart => exact ⟨0,Nat.zero_le _,rfl,fun j g => absurd g (Nat.not_lt_zero _),Below.refl _ _⟩
 case round =>
  obtain ⟨k,hk,rfl,hall,hb1⟩:=hrel
  have HA:=Hd hall
  have HB:=Hd hb1
  have hsz:=hb1.size
  clear hall hb1
  by_cases hlt : k < es.length
  ·have hlti : (k : Int) < (es.length : Int):=by omega
   have hlt' : k < ks.length:=by rw [← HLK.out]; exact hlt
   obtain ⟨b,off,rfl,hcs⟩:=HR.out k hlt hlt'
   obtain ⟨a2,m2,c2,hks⟩:=HS.out k hlt'
   have HCk:=Hd (HC.out k hlt hlt' )
   rw [hks] at hcs HCk
   obtain ⟨⟨kk,oo,⟨v1,v2,v3⟩,tt,nn,ks2,pp⟩,hx⟩ : ∃ x,es[k] = x:=⟨_,rfl⟩
   rw [hx] at hcs HCk
   clear hx hks
   simp only [exC] at HCk
   have HCS : Hid (∀ j u,[Vi kk,Vi oo,Vi v1,Vi v2,.string v3,.string tt,.string nn,.slice a2 m2 c2,Vi pp][j]? = some u → w.cell? ⟨b,off + k * 9 + j,none⟩ = some u):=hcs
   clear hcs
   have q0:=Cl HB.out (HCS.out 0 _ rfl)
   have q1:=Cl HB.out (HCS.out 1 _ rfl)
   have q2:=Cl HB.out (HCS.out 2 _ rfl)
   have q3:=Cl HB.out (HCS.out 3 _ rfl)
   have q4:=Cl HB.out (HCS.out 4 _ rfl)
   have q5:=Cl HB.out (HCS.out 5 _ rfl)
   have q6:=Cl HB.out (HCS.out 6 _ rfl)
   have q7:=Cl HB.out (HCS.out 7 _ rfl)
   have q8:=Cl HB.out (HCS.out 8 _ rfl)
   simp only [Nat.add_zero] at q0
   go_wp2_with fail
   refine (HCk.out _ HB.out).mono ?_
   rintro e w2 ⟨rfl,hb2⟩
   have HB2:=Hd (HB.out.trans (hb2.mono hsz))
   clear hb2 q0 q1 q2 q3 q4 q5 q6 q7 q8
   cases hH : H k with
   | true =>
    have HE : Hid (∃ k,k < es.length ∧ H k = true):=⟨k,hlt,hH⟩
    go_wp2
    exact bodyPost_ret (v:=Vi (k : Int)) (by simp [results,Tryz.results111,go_sem]) rfl ⟨⟨k,rfl,fun _ => HE.out,fun _ => by omega⟩,HB2.out⟩
   | false =>
    have HA2 : Hid (∀ j,j < k + 1 → H j = false):=fun j hj => by
     by_cases e : j = k
     ·rw [e]; exact hH
     ·exact HA.out j (by omega)
    go_wp2
    go_roundw
    case rel => exact ⟨k + 1,by omega,by simp,HA2.out,HB2.out⟩
    case measure => simp [intOf]; omega
  ·have hnlt : ¬ (k : Int) < (es.length : Int):=by omega
   have HE : Hid (¬ ∃ k,k < es.length ∧ H k = true):=fun ⟨j,hj,h⟩ => by rw [HA.out j (by omega)] at h; cases h
   go_wp2
   exact bodyPost_ret (v:=Vi (-1)) (by simp [results,Tryz.results111,go_sem]) rfl ⟨⟨-1,rfl,fun h => absurd h (by decide),fun h => absurd h HE.out⟩,HB.out⟩

theorem con_deep1 (w : World) (a : Option Addr) (cap : Nat) (es : List Ex) (ks : List Value) (H : Nat → Bool) (hlk : es.length = ks.length) (hl : es.length ≤ 9223372036854775807) (hr : XRow w a es ks) (hs : ∀ i (h' : i < ks.length),∃ p m c,ks[i] = .slice p m c) (hC : ∀ k (h : k < es.length) (h' : k < ks.length) w1,Below w.heap.size w w1 → Calls Tryz.prog 62 #[.agg (exC es[k] ks[k]).toArray] w1 fun e w2 => e = .returned (.bool (H k)) ∧ Below w1.heap.size w1 w2) : Calls Tryz.prog 64 #[.slice a es.length cap,.func (.func 62) #[] #[]] w fun e w' => (∃ b : Bool,e = .returned (.bool b) ∧ (b = true ↔ ∃ k,k < es.length ∧ H k = true)) ∧ Below w.heap.size w w':=by
 have HI:=Hd (idx_deep1 w a cap es ks H hlk hl hr hs hC)
 clear hlk hl hr hs hC
 go_enter Tryz.func64,Tryz.ntmps64
 go_wp2_with fail
 refine HI.out.mono ?_
 rintro e w1 ⟨⟨i,rfl,hi⟩,hb⟩
 have HX:=Hd hi
 have HB:=Hd hb
 clear hi hb
 go_wp2
 exact bodyPost_ret (v:=.bool (decide (0 ≤ i))) (by simp [results,Tryz.results64,go_sem]) rfl ⟨⟨_,rfl,by rw [decide_eq_true_iff]; exact HX.out⟩,HB.out⟩

theorem idx_deep2 (w : World) (a : Option Addr) (cap : Nat) (es : List Se) (ks : List Value) (x0 : Nat) (H : Nat → Bool) (hlk : es.length = ks.length) (hl : es.length ≤ 9223372036854775807) (hr : SRow w a es ks) (hs : ∀ i (h' : i < ks.length),∃ p m c,ks[i] = .slice p m c) (hC : ∀ k (h : k < es.length) (h' : k < ks.length) w1,Below w.heap.size w w1 → Calls Tryz.prog 66 #[.agg (seC es[k] ks[k]).toArray,.pointer (some ⟨x0,0,none⟩)] w1 fun e w2 => e = .returned (.bool (H k)) ∧ Below w1.heap.size w1 w2) : Calls Tryz.prog 112 #[.slice a es.length cap,.func (.func 66) #[] #[.pointer (some ⟨x0,0,none⟩)]] w fun e w' => (∃ i : Int,e = .returned (Vi i) ∧ (0 ≤ i ↔ ∃ k,k < es.length ∧ H k = true)) ∧ Below w.heap.size w w':=by
 have HR:=Hd hr
 have HC:=Hd hC
 have HS:=Hd hs
 have HLK:=Hd hlk
 clear hr hC hs hlk
 go_enter Tryz.func112,Tryz.ntmps112
 go_wp2
 go_loopw [8] (fun i wr => ∃ k : Nat,k ≤ es.length ∧ i = Vi k ∧ (∀ j,j < k → H j = false) ∧ Below w.heap.size w wr) (fun i _ => es.length - (intOf i).toNat)
 case atStart => exact ⟨0,Nat.zero_le _,rfl,fun j g => absurd g (Nat.not_lt_zero _),Below.refl _ _⟩
 case round =>
  obtain ⟨k,hk,rfl,hall,hb1⟩:=hrel
  have HA:=Hd hall
  have HB:=Hd hb1
  have hsz:=hb1.size
  clear hall hb1
  by_cases hlt : k < es.length
  ·have hlti : (k : Int) < (es.length : Int):=by omega
   have hlt' : k < ks.length:=by rw [← HLK.out]; exact hlt
   obtain ⟨b,off,rfl,hcs⟩:=HR.out k hlt hlt'
   obtain ⟨a2,m2,c2,hks⟩:=HS.out k hlt'
   have HCk:=Hd (HC.out k hlt hlt' )
   rw [hks] at hcs HCk
   obtain ⟨⟨nm,⟨kk,oo,⟨v1,v2,v3⟩,tt,nn,ks2,pp⟩,pl⟩,hx⟩ : ∃ x,es[k] = x:=⟨_,rfl⟩
   rw [hx] at hcs HCk
   clear hx hks
   simp only [seC,exC,List.cons_append,List.nil_append] at HCk
   have HCS : Hid (∀ j u,[.string nm,Vi kk,Vi oo,Vi v1,Vi v2,.string v3,.string tt,.string nn,.slice a2 m2 c2,Vi pp,Vi pl][j]? = some u → w.cell? ⟨b,off + k * 11 + j,none⟩ = some u):=hcs
   clear hcs
   have q0:=Cl HB.out (HCS.out 0 _ rfl)
   have q1:=Cl HB.out (HCS.out 1 _ rfl)
   have q2:=Cl HB.out (HCS.out 2 _ rfl)
   have q3:=Cl HB.out (HCS.out 3 _ rfl)
   have q4:=Cl HB.out (HCS.out 4 _ rfl)
   have q5:=Cl HB.out (HCS.out 5 _ rfl)
   have q6:=Cl HB.out (HCS.out 6 _ rfl)
   have q7:=Cl HB.out (HCS.out 7 _ rfl)
   have q8:=Cl HB.out (HCS.out 8 _ rfl)
   have q9:=Cl HB.out (HCS.out 9 _ rfl)
   have q10:=Cl HB.out (HCS.out 10 _ rfl)
   simp only [Nat.add_zero] at q0
   go_wp2_with fail
   refine (HCk.out _ HB.out).mono ?_
   rintro e w2 ⟨rfl,hb2⟩
   have HB2:=Hd (HB.out.trans (hb2.mono hsz))
   clear hb2 q0 q1 q2 q3 q4 q5 q6 q7 q8 q9 q10
   cases hH : H k with
   | true =>
    have HE : Hid (∃ k,k < es.length ∧ H k = true):=⟨k,hlt,hH⟩
    go_wp2
    exact bodyPost_ret (v:=Vi (k : Int)) (by simp [results,Tryz.results112,go_sem]) rfl ⟨⟨k,rfl,fun _ => HE.out,fun _ => by omega⟩,HB2.out⟩
   | false =>
    have HA2 : Hid (∀ j,j < k + 1 → H j = false):=fun j hj => by
     by_cases e : j = k
     ·rw [e]; exact hH
     ·exact HA.out j (by omega)
    go_wp2
    go_roundw
    case rel => exact ⟨k + 1,by omega,by simp,HA2.out,HB2.out⟩
    case measure => simp [intOf]; omega
  ·have hnlt : ¬ (k : Int) < (es.length : Int):=by omega
   have HE : Hid (¬ ∃ k,k < es.length ∧ H k = true):=fun ⟨j,hj,h⟩ => by rw [HA.out j (by omega)] at h; cases h
   go_wp2
   exact bodyPost_ret (v:=Vi (-1)) (by simp [results,Tryz.results112,go_sem]) rfl ⟨⟨-1,rfl,fun h => absurd h (by decide),fun h => absurd h HE.out⟩,HB.out⟩

theorem con_deep2 (w : World) (a : Option Addr) (cap : Nat) (es : List Se) (ks : List Value) (x0 : Nat) (H : Nat → Bool) (hlk : es.length = ks.length) (hl : es.length ≤ 9223372036854775807) (hr : SRow w a es ks) (hs : ∀ i (h' : i < ks.length),∃ p m c,ks[i] = .slice p m c) (hC : ∀ k (h : k < es.length) (h' : k < ks.length) w1,Below w.heap.size w w1 → Calls Tryz.prog 66 #[.agg (seC es[k] ks[k]).toArray,.pointer (some ⟨x0,0,none⟩)] w1 fun e w2 => e = .returned (.bool (H k)) ∧ Below w1.heap.size w1 w2) : Calls Tryz.prog 65 #[.slice a es.length cap,.func (.func 66) #[] #[.pointer (some ⟨x0,0,none⟩)]] w fun e w' => (∃ b : Bool,e = .returned (.bool b) ∧ (b = true ↔ ∃ k,k < es.length ∧ H k = true)) ∧ Below w.heap.size w w':=by
 have HI:=Hd (idx_deep2 w a cap es ks x0 H hlk hl hr hs hC)
 clear hlk hl hr hs hC
 go_enter Tryz.func65,Tryz.ntmps65
 go_wp2_with fail
 refine HI.out.mono ?_
 rintro e w1 ⟨⟨i,rfl,hi⟩,hb⟩
 have HX:=Hd hi
 have HB:=Hd hb
 clear hi hb
 go_wp2
 exact bodyPost_ret (v:=.bool (decide (0 ≤ i))) (by simp [results,Tryz.results65,go_sem]) rfl ⟨⟨_,rfl,by rw [decide_eq_true_iff]; exact HX.out⟩,HB.out⟩

def atB (f : Ex → Bool) (es : List Ex) (k : Nat) : Bool:=match es[k]? with
 | some e => f e
 | none => false

theorem atB_any (f : Ex → Bool) (es : List Ex) : (∃ k,k < es.length ∧ atB f es k = true) ↔ es.any f = true:=by
 rw [List.any_eq_true]
 constructor
 ·rintro ⟨k,hk,h⟩
  unfold atB at h
  rw [List.getElem?_eq_getElem hk] at h
  exact ⟨es[k],List.getElem_mem hk,h⟩
 ·rintro ⟨e,he,h⟩
  obtain ⟨k,hk,rfl⟩:=List.mem_iff_getElem.1 he
  exact ⟨k,hk,by unfold atB; rw [List.getElem?_eq_getElem hk]; exact h⟩

theorem atB_at {f : Ex → Bool} {es : List Ex} {k : Nat} (h : k < es.length) : atB f es k = f es[k]:=by unfold atB; rw [List.getElem?_eq_getElem h]

def XLR (w : World) (l : List Ex) (v : Value) : Prop:=∃ p c ks,v = .slice p l.length c ∧ l.length ≤ c ∧ l.length ≤ 9223372036854775807 ∧ l.length = ks.length ∧ XRow w p l ks ∧ ∀ i (h : i < l.length) (h' : i < ks.length),XR w l[i] ks[i]

def SLR (w : World) (l : List Se) (v : Value) : Prop:=∃ p c ks,v = .slice p l.length c ∧ l.length ≤ c ∧ l.length ≤ 9223372036854775807 ∧ l.length = ks.length ∧ SRow w p l ks ∧ ∀ i (h : i < l.length) (h' : i < ks.length),XR w l[i].2.1 ks[i]

theorem XLR.later {w w' : World} {l : List Ex} {v : Value} (h : XLR w l v) (hb : Below w.heap.size w w') : XLR w' l v:=by
 obtain ⟨p,c,ks,e,h1,h2,h3,h4,h5⟩:=h
 exact ⟨p,c,ks,e,h1,h2,h3,h4.later hb,fun i a b => (h5 i a b).later hb⟩

theorem SLR.later {w w' : World} {l : List Se} {v : Value} (h : SLR w l v) (hb : Below w.heap.size w w') : SLR w' l v:=by
 obtain ⟨p,c,ks,e,h1,h2,h3,h4,h5⟩:=h
 exact ⟨p,c,ks,e,h1,h2,h3,h4.later hb,fun i a b => (h5 i a b).later hb⟩

def deepL (l : List Ex) : Bool:=l.any (dpr 16)

def deepS (t : St) : Bool:=(deepL t.on || deepL t.whr || deepL t.items || deepL t.groups) || t.sets.any fun x => dpr 16 x.2.1

theorem deeper1_any (n x0 : Nat) (e : Ex) (k : Value) (w : World) (hx : XR w e k) (hd : w.cell? ⟨x0,0,none⟩ = some (Vi ((n : Int) + 1))) (hn : n ≤ 16) (IH : ∀ e k w,XR w e k → Calls Tryz.prog 63 #[.agg (exC e k).toArray,Vi (n : Int)] w fun r w' => r = .returned (.bool (dpr n e)) ∧ Below w.heap.size w w') : Calls Tryz.prog 110 #[.agg (exC e k).toArray,.pointer (some ⟨x0,0,none⟩)] w fun r w' => r = .returned (.bool (dpr n e)) ∧ Below w.heap.size w w':=by
 obtain ⟨a,m,c,rfl⟩:=hx.slice
 have HI:=Hd (IH e (.slice a m c))
 have HX:=Hd hx
 have hlt:=World.block_lt_of_cell? _ _ hd
 clear IH hx
 obtain ⟨kk,oo,⟨v1,v2,v3⟩,tt,nn,ks,pp⟩:=e
 simp only [exC] at HI ⊢
 obtain ⟨W,hW⟩:=Vx (w.alloc (.cells (Ve kk oo v1 v2 v3 tt nn (.slice a m c) pp) 48))
 have hb : Below w.heap.size w W:=hW ▸ (Below.refl _ _).alloc (Nat.le_refl _) _
 have hd2:=(hb.cell hlt).trans hd
 have hr : W.heap[w.heap.size]? = some (.cells (Ve kk oo v1 v2 v3 tt nn (.slice a m c) pp) 48 (0,0)):=hW ▸ heap_alloc_new w _
 have zc:=(nine_of hr).1
 have HB:=Hd hb
 clear hr hb
 have hsub : (n : Int) + 1 - 1 = (n : Int):=by omega
 go_enter Tryz.func110,Tryz.ntmps110
 go_wp2_with fail
 clear hW
 refine (HI.out _ (HX.out.later HB.out)).mono ?_
 rintro e w2 ⟨rfl,hb2⟩
 have HB2:=Hd (HB.out.trans (hb2.mono HB.out.size))
 clear hb2
 go_wp2
 exact bodyPost_ret (v:=.bool (dpr n (.mk kk oo (v1,v2,v3) tt nn ks pp))) (by simp [results,Tryz.results110,go_sem]) rfl ⟨rfl,HB2.out⟩

theorem deeper_zero (e : Ex) (k : Value) (w : World) (hx : XR w e k) : Calls Tryz.prog 63 #[.agg (exC e k).toArray,Vi 0] w fun r w' => r = .returned (.bool true) ∧ Below w.heap.size w w':=by
 obtain ⟨a,m,c,rfl⟩:=hx.slice
 clear hx
 obtain ⟨kk,oo,⟨v1,v2,v3⟩,tt,nn,ks,pp⟩:=e
 simp only [exC]
 go_enter Tryz.func63,Tryz.ntmps63
 go_wp2
 exact bodyPost_ret (v:=.bool true) (by simp [results,Tryz.results63,go_sem]) rfl ⟨rfl,by (repeat (first|exact Bxr _ _|assumption|apply Bxd|apply Bxa|apply Bxs|refine Bxt ?_ (by assumption) ?_|omega|simp))⟩

theorem deeper_step (n : Nat) (hn : n ≤ 16) (IH : ∀ e k w,XR w e k → Calls Tryz.prog 63 #[.agg (exC e k).toArray,Vi (n : Int)] w fun r w' => r = .returned (.bool (dpr n e)) ∧ Below w.heap.size w w') (e : Ex) (k : Value) (w : World) (hx : XR w e k) : Calls Tryz.prog 63 #[.agg (exC e k).toArray,Vi ((n : Int) + 1)] w fun r w' => r = .returned (.bool (dpr (n + 1) e)) ∧ Below w.heap.size w w':=by
 have HI:=Hd IH
 clear IH
 have hne : ((n : Int) + 1 == 0) = false:=by simp; omega
 cases hx with
 | @mk kk oo v tt nn kids pp p c ks h1 hc hm h2 h3 =>
  obtain ⟨v1,v2,v3⟩:=v
  have HR:=Hd h2
  have HXs:=Hd h3
  have HLK:=Hd h1
  clear h1 h2 h3
  simp only [exC]
  obtain ⟨W,hW⟩:=Vx ((w.alloc (.cells (Ve kk oo v1 v2 v3 tt nn (.slice p kids.length c) pp) 48)).alloc (.cells #[Vi ((n : Int) + 1)] 3))
  have hb : Below w.heap.size w W:=hW ▸ ((Below.refl _ _).alloc (Nat.le_refl _) _).alloc (by simp) _
  have hs1 : (w.alloc (.cells (Ve kk oo v1 v2 v3 tt nn (.slice p kids.length c) pp) 48)).heap.size = w.heap.size + 1:=by simp
  have hd : W.heap[w.heap.size + 1]? = some (.cells #[Vi ((n : Int) + 1)] 3 (0,0)):=by have:=heap_alloc_new (w.alloc (.cells (Ve kk oo v1 v2 v3 tt nn (.slice p kids.length c) pp) 48)) (.cells #[Vi ((n : Int) + 1)] 3); rw [hW,hs1] at this; exact this
  have he : W.heap[w.heap.size]? = some (.cells (Ve kk oo v1 v2 v3 tt nn (.slice p kids.length c) pp) 48 (0,0)):=by have:=(alloc_off (w:=w.alloc (.cells (Ve kk oo v1 v2 v3 tt nn (.slice p kids.length c) pp) 48)) (k:=w.heap.size) (by simp) (.cells #[Vi ((n : Int) + 1)] 3)).trans (heap_alloc_new w _); rw [hW] at this; exact this
  have zc:=(nine_of he).1
  have hd0 : W.cell? ⟨w.heap.size + 1,0,none⟩ = some (Vi ((n : Int) + 1)):=by simp [World.cell?,hd]
  have HB:=Hd hb
  have HD:=Hd hd0
  clear hd he hb hs1
  go_enter Tryz.func63,Tryz.ntmps63
  go_wp2_with fail
  clear hW
  refine (con_deeper W p c kids ks (w.heap.size + 1) (atB (dpr n) kids) HLK.out hm (HR.out.later HB.out) (fun i h' => (HXs.out i (by rw [HLK.out]; exact h') h').slice) (fun k h h' w1 hb1 => ?_)).mono ?_
  ·rw [atB_at h]
   exact deeper1_any n (w.heap.size + 1) _ _ w1 ((HXs.out k h h').later (HB.out.trans (hb1.mono HB.out.size))) ((hb1.cell (World.block_lt_of_cell? _ _ HD.out)).trans HD.out) hn HI.out
  ·rintro e w2 ⟨⟨b,rfl,hbb⟩,hb2⟩
   have HB2:=Hd (HB.out.trans (hb2.mono HB.out.size))
   have HE : Hid (b = kids.any (dpr n)):=Hd (by rw [atB_any] at hbb; cases b <;> cases hq : kids.any (dpr n) <;> simp_all)
   clear hbb hb2
   go_wp2
   exact bodyPost_ret (v:=.bool b) (by simp [results,Tryz.results63,go_sem]) rfl ⟨by rw [HE.out]; rfl,HB2.out⟩

theorem deeper_any : ∀ (n : Nat),n ≤ 16 → ∀ (e : Ex) (k : Value) (w : World),XR w e k → Calls Tryz.prog 63 #[.agg (exC e k).toArray,Vi (n : Int)] w fun r w' => r = .returned (.bool (dpr n e)) ∧ Below w.heap.size w w'
 | 0,_,e,k,w,hx => deeper_zero e k w hx
 | n + 1,h,e,k,w,hx => deeper_step n (by omega) (deeper_any n (by omega)) e k w hx

theorem deep1_any (e : Ex) (k : Value) (w : World) (hx : XR w e k) : Calls Tryz.prog 62 #[.agg (exC e k).toArray] w fun r w' => r = .returned (.bool (dpr 16 e)) ∧ Below w.heap.size w w':=by
 obtain ⟨a,m,c,rfl⟩:=hx.slice
 have HI:=Hd (deeper_any 16 (by decide) e (.slice a m c))
 have HX:=Hd hx
 clear hx
 obtain ⟨kk,oo,⟨v1,v2,v3⟩,tt,nn,ks,pp⟩:=e
 simp only [exC] at HI ⊢
 obtain ⟨W,hW⟩:=Vx (w.alloc (.cells (Ve kk oo v1 v2 v3 tt nn (.slice a m c) pp) 48))
 have hb : Below w.heap.size w W:=hW ▸ (Below.refl _ _).alloc (Nat.le_refl _) _
 have hr : W.heap[w.heap.size]? = some (.cells (Ve kk oo v1 v2 v3 tt nn (.slice a m c) pp) 48 (0,0)):=hW ▸ heap_alloc_new w _
 have zc:=(nine_of hr).1
 have HB:=Hd hb
 clear hr hb
 go_enter Tryz.func62,Tryz.ntmps62
 go_wp2_with fail
 clear hW
 refine (HI.out _ (HX.out.later HB.out)).mono ?_
 rintro e w2 ⟨rfl,hb2⟩
 have HB2:=Hd (HB.out.trans (hb2.mono HB.out.size))
 clear hb2
 go_wp2
 exact bodyPost_ret (v:=.bool (dpr 16 (.mk kk oo (v1,v2,v3) tt nn ks pp))) (by simp [results,Tryz.results62,go_sem]) rfl ⟨rfl,HB2.out⟩

theorem deep2_any (x : Se) (x0 : Nat) (k : Value) (w : World) (hx : XR w x.2.1 k) (hd : w.cell? ⟨x0,0,none⟩ = some (.func (.func 62) #[] #[])) : Calls Tryz.prog 66 #[.agg (seC x k).toArray,.pointer (some ⟨x0,0,none⟩)] w fun r w' => r = .returned (.bool (dpr 16 x.2.1)) ∧ Below w.heap.size w w':=by
 obtain ⟨a,m,c,rfl⟩:=hx.slice
 have HI:=Hd (deep1_any x.2.1 (.slice a m c))
 have HX:=Hd hx
 have hlt:=World.block_lt_of_cell? _ _ hd
 clear hx
 obtain ⟨nm,⟨kk,oo,⟨v1,v2,v3⟩,tt,nn,ks,pp⟩,pl⟩:=x
 simp only [seC,exC,List.cons_append,List.nil_append] at HI HX ⊢
 obtain ⟨W,hW⟩:=Vx (w.alloc (.cells #[.string nm,Vi kk,Vi oo,Vi v1,Vi v2,.string v3,.string tt,.string nn,.slice a m c,Vi pp,Vi pl] 65))
 have hb : Below w.heap.size w W:=hW ▸ (Below.refl _ _).alloc (Nat.le_refl _) _
 have hd2:=(hb.cell hlt).trans hd
 have hr : W.heap[w.heap.size]? = some (.cells #[.string nm,Vi kk,Vi oo,Vi v1,Vi v2,.string v3,.string tt,.string nn,.slice a m c,Vi pp,Vi pl] 65 (0,0)):=hW ▸ heap_alloc_new w _
 have zc:=(eleven_of hr).1
 have HB:=Hd hb
 clear hr hb
 go_enter Tryz.func66,Tryz.ntmps66
 go_wp2_with fail
 clear hW
 refine (HI.out _ (HX.out.later HB.out)).mono ?_
 rintro e w2 ⟨rfl,hb2⟩
 have HB2:=Hd (HB.out.trans (hb2.mono HB.out.size))
 clear hb2
 go_wp2
 exact bodyPost_ret (v:=.bool (dpr 16 (.mk kk oo (v1,v2,v3) tt nn ks pp))) (by simp [results,Tryz.results66,go_sem]) rfl ⟨rfl,HB2.out⟩

def atS (f : Se → Bool) (es : List Se) (k : Nat) : Bool:=match es[k]? with
 | some e => f e
 | none => false

theorem atS_any (f : Se → Bool) (es : List Se) : (∃ k,k < es.length ∧ atS f es k = true) ↔ es.any f = true:=by
 rw [List.any_eq_true]
 constructor
 ·rintro ⟨k,hk,h⟩
  unfold atS at h
  rw [List.getElem?_eq_getElem hk] at h
  exact ⟨es[k],List.getElem_mem hk,h⟩
 ·rintro ⟨e,he,h⟩
  obtain ⟨k,hk,rfl⟩:=List.mem_iff_getElem.1 he
  exact ⟨k,hk,by unfold atS; rw [List.getElem?_eq_getElem hk]; exact h⟩

theorem atS_at {f : Se → Bool} {es : List Se} {k : Nat} (h : k < es.length) : atS f es k = f es[k]:=by unfold atS; rw [List.getElem?_eq_getElem h]

theorem same_bool {b c : Bool} (h : b = true ↔ c = true) : b = c:=by cases b <;> cases c <;> simp_all

theorem con_deepL (l : List Ex) (p : Option Addr) (c : Nat) (w : World) (h : XLR w l (.slice p l.length c)) : Calls Tryz.prog 64 #[.slice p l.length c,.func (.func 62) #[] #[]] w fun e w' => e = .returned (.bool (deepL l)) ∧ Below w.heap.size w w':=by
 obtain ⟨p',c',ks,e,h1,h2,h3,h4,h5⟩:=h
 injection e with e1 e2 e3
 subst e1 e3
 refine (con_deep1 w p c l ks (atB (dpr 16) l) h3 h2 h4 (fun i h' => (h5 i (by omega) h').slice) fun k h h' w1 hb => ?_).mono ?_
 ·rw [atB_at h]
  exact deep1_any _ _ w1 ((h5 k h h').later hb)
 ·rintro e w2 ⟨⟨b,rfl,hb⟩,hb2⟩
  rw [atB_any] at hb
  exact ⟨by rw [same_bool hb]; rfl,hb2⟩

theorem con_deepSe (l : List Se) (p : Option Addr) (c x0 : Nat) (w : World) (h : SLR w l (.slice p l.length c)) (hd : w.cell? ⟨x0,0,none⟩ = some (.func (.func 62) #[] #[])) : Calls Tryz.prog 65 #[.slice p l.length c,.func (.func 66) #[] #[.pointer (some ⟨x0,0,none⟩)]] w fun e w' => e = .returned (.bool (l.any fun x => dpr 16 x.2.1)) ∧ Below w.heap.size w w':=by
 obtain ⟨p',c',ks,e,h1,h2,h3,h4,h5⟩:=h
 injection e with e1 e2 e3
 subst e1 e3
 refine (con_deep2 w p c l ks x0 (atS (fun x => dpr 16 x.2.1) l) h3 h2 h4 (fun i h' => (h5 i (by omega) h').slice) fun k h h' w1 hb => ?_).mono ?_
 ·rw [atS_at h]
  exact deep2_any _ x0 _ w1 ((h5 k h h').later hb) ((hb.cell (World.block_lt_of_cell? _ _ hd)).trans hd)
 ·rintro e w2 ⟨⟨b,rfl,hb⟩,hb2⟩
  rw [atS_any] at hb
  exact ⟨by rw [same_bool hb],hb2⟩

structure StRd (w : World) (t : St) (on whr items sets groups : Value) : Prop where
 on : XLR w t.on on
 whr : XLR w t.whr whr
 items : XLR w t.items items
 sets : SLR w t.sets sets
 groups : XLR w t.groups groups

theorem StRd.later {w w' : World} {t : St} {a b c d e : Value} (h : StRd w t a b c d e) (hb : Below w.heap.size w w') : StRd w' t a b c d e:=⟨h.on.later hb,h.whr.later hb,h.items.later hb,h.sets.later hb,h.groups.later hb⟩

theorem StO.rd {w : World} {B : Nat} {t : St} {a b c d e f g : Value} (h : StO w B t a b c d e f g) : StRd w t a b c d e:=⟨h.on.row,h.whr.row,h.items.row,h.sets.row,h.groups.row⟩

theorem deep_any (t : St) (a0 a1 a2 a3 a4 a5 a6 : Option Addr) (c0 c1 c2 c3 c4 c5 c6 : Nat) (w : World) (h : StRd w t (.slice a0 t.on.length c0) (.slice a1 t.whr.length c1) (.slice a2 t.items.length c2) (.slice a3 t.sets.length c3) (.slice a4 t.groups.length c4)) : Calls Tryz.prog 28 #[.agg (Vt t.kind t.table t.join (.slice a0 t.on.length c0) (.slice a1 t.whr.length c1) (.slice a2 t.items.length c2) t.star (.slice a3 t.sets.length c3) (.slice a4 t.groups.length c4) (.slice a5 t.sorts.length c5) (.slice a6 t.limit.length c6) t.place t.joinAt)] w fun e w' => e = .returned (.bool (deepS t)) ∧ Below w.heap.size w w':=by
 have HR:=Hd h
 clear h
 obtain ⟨W1,hW1⟩:=Vx (w.alloc (.cells (Vt t.kind t.table t.join (.slice a0 t.on.length c0) (.slice a1 t.whr.length c1) (.slice a2 t.items.length c2) t.star (.slice a3 t.sets.length c3) (.slice a4 t.groups.length c4) (.slice a5 t.sorts.length c5) (.slice a6 t.limit.length c6) t.place t.joinAt) 27))
 have hs1 : W1.heap.size = w.heap.size + 1:=hW1 ▸ (by simp)
 have r1 : W1.heap[w.heap.size]? = some (.cells (Vt t.kind t.table t.join (.slice a0 t.on.length c0) (.slice a1 t.whr.length c1) (.slice a2 t.items.length c2) t.star (.slice a3 t.sets.length c3) (.slice a4 t.groups.length c4) (.slice a5 t.sorts.length c5) (.slice a6 t.limit.length c6) t.place t.joinAt) 27 (0,0)):=hW1 ▸ heap_alloc_new w _
 have k1 : Below w.heap.size w W1:=hW1 ▸ (Below.refl _ _).alloc (Nat.le_refl _) _
 obtain ⟨W2,hW2⟩:=Vx (W1.alloc (.cells #[.func (.func 62) #[] #[]] 69))
 have hs2 : W2.heap.size = w.heap.size + 2:=by rw [← hW2]; simp [hs1]
 have r2 : W2.heap[w.heap.size + 1]? = some (.cells #[.func (.func 62) #[] #[]] 69 (0,0)):=by have:=heap_alloc_new W1 (.cells #[.func (.func 62) #[] #[]] 69); rw [hW2,hs1] at this; exact this
 have k2 : Below W1.heap.size W1 W2:=hW2 ▸ (Below.refl _ _).alloc (Nat.le_refl _) _
 obtain ⟨W3,hW3⟩:=Vx (W2.alloc (.cells #[.slice a0 t.on.length c0,.slice a1 t.whr.length c1,.slice a2 t.items.length c2,.slice a4 t.groups.length c4] 22))
 have r3 : W3.heap[w.heap.size + 2]? = some (.cells #[.slice a0 t.on.length c0,.slice a1 t.whr.length c1,.slice a2 t.items.length c2,.slice a4 t.groups.length c4] 22 (0,0)):=by have:=heap_alloc_new W2 (.cells #[.slice a0 t.on.length c0,.slice a1 t.whr.length c1,.slice a2 t.items.length c2,.slice a4 t.groups.length c4] 22); rw [hW3,hs2] at this; exact this
 have k3 : Below W2.heap.size W2 W3:=hW3 ▸ (Below.refl _ _).alloc (Nat.le_refl _) _
 have HB : Hid (Below w.heap.size w W3):=(k1.trans (k2.mono k1.size)).trans (k3.mono (Nat.le_trans k1.size k2.size))
 have R1 : Hid (W3.heap[w.heap.size]? = some (.cells (Vt t.kind t.table t.join (.slice a0 t.on.length c0) (.slice a1 t.whr.length c1) (.slice a2 t.items.length c2) t.star (.slice a3 t.sets.length c3) (.slice a4 t.groups.length c4) (.slice a5 t.sorts.length c5) (.slice a6 t.limit.length c6) t.place t.joinAt) 27 (0,0))):=(k3.block _ (by omega)).trans ((k2.block _ (by omega)).trans r1)
 have R2 : Hid (W3.heap[w.heap.size + 1]? = some (.cells #[.func (.func 62) #[] #[]] 69 (0,0))):=(k3.block _ (by omega)).trans r2
 have R3:=Hd r3
 obtain ⟨⟨x0,x1,x2,x3,x4,x5,x6,x7,x8,x9,x10,x11,x12⟩,-⟩:=thirt_of r1
 have x7' : W2.cell? ⟨w.heap.size,3,none⟩ = some (.slice a0 t.on.length c0):=(k2.cell (p:=⟨w.heap.size,3,none⟩) (by show w.heap.size < _; omega)).trans x3
 have x8' : W2.cell? ⟨w.heap.size,4,none⟩ = some (.slice a1 t.whr.length c1):=(k2.cell (p:=⟨w.heap.size,4,none⟩) (by show w.heap.size < _; omega)).trans x4
 have x9' : W2.cell? ⟨w.heap.size,5,none⟩ = some (.slice a2 t.items.length c2):=(k2.cell (p:=⟨w.heap.size,5,none⟩) (by show w.heap.size < _; omega)).trans x5
 have x10' : W2.cell? ⟨w.heap.size,8,none⟩ = some (.slice a4 t.groups.length c4):=(k2.cell (p:=⟨w.heap.size,8,none⟩) (by show w.heap.size < _; omega)).trans x8
 have hsz3 : w.heap.size + 2 < W3.heap.size:=(Gx r3)
 clear r1 r2 r3 k1 k2 k3 x0 x1 x2 x3 x4 x5 x6 x7 x8 x9 x10 x11 x12
 have HS1:=Hd hs1
 have HS2:=Hd hs2
 clear hs1 hs2
 go_enter Tryz.func28,Tryz.ntmps28
 go_wp2_with fail
 clear hW1 hW2 hW3 x7' x8' x9' x10'
 rw [HS1.out,HS2.out]
 go_loopw [16] (fun i wr => ∃ k : Nat,k ≤ 4 ∧ i = Vi k ∧ (0 < k → deepL t.on = false) ∧ (1 < k → deepL t.whr = false) ∧ (2 < k → deepL t.items = false) ∧ (3 < k → deepL t.groups = false) ∧ Below W3.heap.size W3 wr) (fun i _ => 4 - (intOf i).toNat)
 case atStart => exact ⟨0,by omega,rfl,fun h => absurd h (by omega),fun h => absurd h (by omega),fun h => absurd h (by omega),fun h => absurd h (by omega),Below.refl _ _⟩
 case round =>
  obtain ⟨k,hk,rfl,h0,h1,h2,h3,hb⟩:=hrel
  have HW:=Hd hb
  have H0:=Hd h0
  have H1:=Hd h1
  have H2:=Hd h2
  have H3:=Hd h3
  clear h0 h1 h2 h3
  have zy:=(four_of ((hb.block _ (by omega)).trans R3.out)).1
  have yf : wr.cell? ⟨w.heap.size + 1,0,none⟩ = some (.func (.func 62) #[] #[]):=by simp [World.cell?,(hb.block (w.heap.size + 1) (by omega)).trans R2.out]
  have HRD:=Hd (HR.out.later (HB.out.trans (hb.mono HB.out.size)))
  clear hb
  have hcs : k = 0 ∨ k = 1 ∨ k = 2 ∨ k = 3 ∨ k = 4:=by omega
  rcases hcs with rfl | rfl | rfl | rfl | rfl
  ·go_wp2_with fail
   refine (con_deepL t.on a0 c0 _ HRD.out.on).mono ?_
   rintro e w2 ⟨rfl,hb2⟩
   have HW2:=Hd (HW.out.trans (hb2.mono HW.out.size))
   clear hb2 zy yf
   cases hd : deepL t.on with
   | true =>
    have HE : Hid (deepS t = true):=Hd (by unfold deepS; simp [hd])
    clear hd
    go_wp2
    exact bodyPost_ret (v:=.bool true) (by simp [results,Tryz.results28,go_sem]) rfl ⟨by rw [HE.out],HB.out.trans (HW2.out.mono HB.out.size)⟩
   | false =>
    have HE:=Hd hd
    clear hd
    go_wp2
    go_roundw
    case rel => exact ⟨1,by omega,rfl,fun _ => HE.out,fun h => absurd h (by omega),fun h => absurd h (by omega),fun h => absurd h (by omega),HW2.out⟩
    case measure => simp [intOf]
  ·go_wp2_with fail
   refine (con_deepL t.whr a1 c1 _ HRD.out.whr).mono ?_
   rintro e w2 ⟨rfl,hb2⟩
   have HW2:=Hd (HW.out.trans (hb2.mono HW.out.size))
   clear hb2 zy yf
   cases hd : deepL t.whr with
   | true =>
    have HE : Hid (deepS t = true):=Hd (by unfold deepS; simp [hd])
    clear hd
    go_wp2
    exact bodyPost_ret (v:=.bool true) (by simp [results,Tryz.results28,go_sem]) rfl ⟨by rw [HE.out],HB.out.trans (HW2.out.mono HB.out.size)⟩
   | false =>
    have HE:=Hd hd
    clear hd
    go_wp2
    go_roundw
    case rel => exact ⟨2,by omega,rfl,fun _ => H0.out (by omega),fun _ => HE.out,fun h => absurd h (by omega),fun h => absurd h (by omega),HW2.out⟩
    case measure => simp [intOf]
  ·go_wp2_with fail
   refine (con_deepL t.items a2 c2 _ HRD.out.items).mono ?_
   rintro e w2 ⟨rfl,hb2⟩
   have HW2:=Hd (HW.out.trans (hb2.mono HW.out.size))
   clear hb2 zy yf
   cases hd : deepL t.items with
   | true =>
    have HE : Hid (deepS t = true):=Hd (by unfold deepS; simp [hd])
    clear hd
    go_wp2
    exact bodyPost_ret (v:=.bool true) (by simp [results,Tryz.results28,go_sem]) rfl ⟨by rw [HE.out],HB.out.trans (HW2.out.mono HB.out.size)⟩
   | false =>
    have HE:=Hd hd
    clear hd
    go_wp2
    go_roundw
    case rel => exact ⟨3,by omega,rfl,fun _ => H0.out (by omega),fun _ => H1.out (by omega),fun _ => HE.out,fun h => absurd h (by omega),HW2.out⟩
    case measure => simp [intOf]
  ·go_wp2_with fail
   refine (con_deepL t.groups a4 c4 _ HRD.out.groups).mono ?_
   rintro e w2 ⟨rfl,hb2⟩
   have HW2:=Hd (HW.out.trans (hb2.mono HW.out.size))
   clear hb2 zy yf
   cases hd : deepL t.groups with
   | true =>
    have HE : Hid (deepS t = true):=Hd (by unfold deepS; simp [hd])
    clear hd
    go_wp2
    exact bodyPost_ret (v:=.bool true) (by simp [results,Tryz.results28,go_sem]) rfl ⟨by rw [HE.out],HB.out.trans (HW2.out.mono HB.out.size)⟩
   | false =>
    have HE:=Hd hd
    clear hd
    go_wp2
    go_roundw
    case rel => exact ⟨4,by omega,rfl,fun _ => H0.out (by omega),fun _ => H1.out (by omega),fun _ => H2.out (by omega),fun _ => HE.out,HW2.out⟩
    case measure => simp [intOf]
  ·have HE : Hid (deepS t = t.sets.any fun x => dpr 16 x.2.1):=Hd (by unfold deepS; rw [H0.out (by omega),H1.out (by omega),H2.out (by omega),H3.out (by omega)]; rfl)
   have zz:=(thirt_of ((HW.out.block _ (by omega)).trans R1.out)).1
   have YF:=Hd yf
   go_wp2_with fail
   refine (con_deepSe t.sets a3 c3 (w.heap.size + 1) _ HRD.out.sets YF.out).mono ?_
   rintro e w2 ⟨rfl,hb2⟩
   have HW2:=Hd (HW.out.trans (hb2.mono HW.out.size))
   clear hb2
   go_wp2
   exact bodyPost_ret (v:=.bool (t.sets.any fun x => dpr 16 x.2.1)) (by simp [results,Tryz.results28,go_sem]) rfl ⟨by rw [HE.out],HB.out.trans (HW2.out.mono HB.out.size)⟩

theorem two_new {w : World} {o p : Obj} : ((w.alloc o).alloc p).heap[w.heap.size]? = some o ∧ ((w.alloc o).alloc p).heap[w.heap.size + 1]? = some p ∧ Below w.heap.size w ((w.alloc o).alloc p):=by
 refine ⟨(alloc_off (by simp) _).trans (heap_alloc_new w o),?_,((Below.refl _ _).alloc (Nat.le_refl _) _).alloc (by simp) _⟩
 have:=heap_alloc_new (w.alloc o) p
 simpa using this

def EqPost (Q : Prop) (w : World) (e : Ending) (w' : World) : Prop:=(∃ b,e = .returned (.bool b) ∧ (b = true ↔ Q)) ∧ Below w.heap.size w w'

theorem eq_yes {Q : Prop} {w w' : World} (h : Q) (hb : Below w.heap.size w w') : EqPost Q w (.returned (.bool true)) w':=⟨⟨true,rfl,fun _ => h,fun _ => rfl⟩,hb⟩

theorem eq_no {Q : Prop} {w w' : World} (h : ¬ Q) (hb : Below w.heap.size w w') : EqPost Q w (.returned (.bool false)) w':=⟨⟨false,rfl,fun k => absurd k (by simp),fun k => absurd k h⟩,hb⟩

inductive SmX : Ex → Ex → Prop
 | mk {kind op : Int} {v : V3} {t n : ByteArray} {ks ls : List Ex} {p q : Int} (h1 : ks.length = ls.length) (h2 : ∀ i (h : i < ks.length) (h' : i < ls.length),SmX ks[i] ls[i]) : SmX (.mk kind op v t n ks p) (.mk kind op v t n ls q)

def SmXs (a b : List Ex) : Prop:=a.length = b.length ∧ ∀ i (h : i < a.length) (h' : i < b.length),SmX a[i] b[i]

theorem SmX.iff {k1 o1 k2 o2 : Int} {v1 v2 : V3} {t1 n1 t2 n2 : ByteArray} {ks ls : List Ex} {p q : Int} : SmX (.mk k1 o1 v1 t1 n1 ks p) (.mk k2 o2 v2 t2 n2 ls q) ↔ k1 = k2 ∧ o1 = o2 ∧ v1 = v2 ∧ t1 = t2 ∧ n1 = n2 ∧ SmXs ks ls:=by
 constructor
 ·intro h
  cases h with
  | mk h1 h2 => exact ⟨rfl,rfl,rfl,rfl,rfl,h1,h2⟩
 ·rintro ⟨rfl,rfl,rfl,rfl,rfl,h1,h2⟩
  exact SmX.mk h1 h2

theorem str_ne {a b : ByteArray} (n : ¬ a = b) : (a.toList == b.toList) = false:=by
 rw [ByteArray.toList_eq,ByteArray.toList_eq,beq_eq_false_iff_ne]
 exact fun h => n (ByteArray.ext (Array.toList_inj.1 h))

inductive AllK : Ex → Prop
 | mk {kind op : Int} {v : V3} {t n : ByteArray} {ks : List Ex} {p : Int} (h : ∀ i (h : i < ks.length),AllK ks[i]) : AllK (.mk kind op v t n ks p)

theorem XR.all {w : World} {e : Ex} {k : Value} (h : XR w e k) : AllK e:=by
 induction h with
 | mk ks h1 _ _ _ _ ih => exact AllK.mk fun i hi => ih i hi (by omega)

def ORow (w : World) (p : Option Addr) (es : List So) : Prop:=∀ i (h : i < es.length),∃ b off,p = some ⟨b,off,none⟩ ∧ ∀ j u,(soC es[i])[j]? = some u → w.cell? ⟨b,off + i * 3 + j,none⟩ = some u

def IRow (w : World) (p : Option Addr) (es : List Int) : Prop:=∀ i (h : i < es.length),∃ b off,p = some ⟨b,off,none⟩ ∧ w.cell? ⟨b,off + i,none⟩ = some (Vi es[i])

theorem ORow.later {w w' : World} {p : Option Addr} {es : List So} (h : ORow w p es) (hb : Below w.heap.size w w') : ORow w' p es:=fun i h1 => by
 obtain ⟨b,off,e,hc⟩:=h i h1
 exact ⟨b,off,e,fun j u hu => Cl hb (hc j u hu)⟩

theorem IRow.later {w w' : World} {p : Option Addr} {es : List Int} (h : IRow w p es) (hb : Below w.heap.size w w') : IRow w' p es:=fun i h1 => by
 obtain ⟨b,off,e,hc⟩:=h i h1
 exact ⟨b,off,e,(hb.cell (World.block_lt_of_cell? _ _ hc)).trans hc⟩

def SmSe (a b : Se) : Prop:=a.1 = b.1 ∧ SmX a.2.1 b.2.1

def SmSo (a b : So) : Prop:=a.1 = b.1 ∧ a.2.1 = b.2.1

def SmSes (a b : List Se) : Prop:=a.length = b.length ∧ ∀ i (h : i < a.length) (h' : i < b.length),SmSe a[i] b[i]

def SmSos (a b : List So) : Prop:=a.length = b.length ∧ ∀ i (h : i < a.length) (h' : i < b.length),SmSo a[i] b[i]

def OLR (w : World) (l : List So) (v : Value) : Prop:=∃ p c,v = .slice p l.length c ∧ l.length ≤ c ∧ l.length ≤ 9223372036854775807 ∧ ORow w p l

def ILR (w : World) (l : List Int) (v : Value) : Prop:=∃ p c,v = .slice p l.length c ∧ l.length ≤ c ∧ l.length ≤ 9223372036854775807 ∧ IRow w p l

theorem OLR.later {w w' : World} {l : List So} {v : Value} (h : OLR w l v) (hb : Below w.heap.size w w') : OLR w' l v:=by
 obtain ⟨p,c,e,h1,h2,h3⟩:=h
 exact ⟨p,c,e,h1,h2,h3.later hb⟩

theorem ILR.later {w w' : World} {l : List Int} {v : Value} (h : ILR w l v) (hb : Below w.heap.size w w') : ILR w' l v:=by
 obtain ⟨p,c,e,h1,h2,h3⟩:=h
 exact ⟨p,c,e,h1,h2,h3.later hb⟩

structure StRA (w : World) (t : St) (on whr items sets groups sorts limit : Value) : Prop where
 rd : StRd w t on whr items sets groups
 sorts : OLR w t.sorts sorts
 limit : ILR w t.limit limit

theorem StRA.later {w w' : World} {t : St} {a b c d e f g : Value} (h : StRA w t a b c d e f g) (hb : Below w.heap.size w w') : StRA w' t a b c d e f g:=⟨h.rd.later hb,h.sorts.later hb,h.limit.later hb⟩

def SmSt (a b : St) : Prop:=a.kind = b.kind ∧ a.table = b.table ∧ a.join = b.join ∧ a.star = b.star ∧ SmXs a.on b.on ∧ SmXs a.whr b.whr ∧ SmXs a.items b.items ∧ SmXs a.groups b.groups ∧ SmSes a.sets b.sets ∧ SmSos a.sorts b.sorts ∧ a.limit = b.limit

theorem soC_len (x : So) : (soC x).length = 3:=rfl

theorem getElem?_sos : ∀ (es : List So) (ks : List Value) (i j : Nat) (u : Value) (h : i < es.length) (_ : es.length = ks.length),(soC es[i])[j]? = some u → (sos es ks)[i * 3 + j]? = some u
 | e :: es,k :: ks,0,j,u,h,_,hu => by
  have hu : (soC e)[j]? = some u:=hu
  have hj : j < (soC e).length:=(List.getElem?_eq_some_iff.1 hu).1
  simp only [sos,Nat.zero_mul,Nat.zero_add]
  rw [List.getElem?_append_left hj]
  exact hu
 | e :: es,k :: ks,i + 1,j,u,h,h',hu => by
  simp only [sos]
  rw [List.getElem?_append_right (by rw [soC_len]; omega),soC_len,show (i + 1) * 3 + j - 3 = i * 3 + j by omega]
  exact getElem?_sos es ks i j u (by simpa using h) (by simpa using h') (by simpa using hu)

theorem SoL.olr {w : World} {B : Nat} {l : List So} {v : Value} (h : SoL w B l v) : OLR w l v:=by
 obtain ⟨ks,h1,h2⟩:=h
 obtain ⟨p,c,rfl,hc,hm,hr⟩:=own_row h2
 refine ⟨p,c,rfl,hc,hm,fun i hi => ?_⟩
 obtain ⟨b,rfl,_⟩:=hr _ _ (getElem?_sos _ ks i 0 _ hi h1 rfl)
 refine ⟨b,0,rfl,fun j u hu => ?_⟩
 obtain ⟨b',e,hc'⟩:=hr _ u (getElem?_sos _ ks i j u hi h1 hu)
 injection e with e
 injection e with e _ _
 subst e
 rw [show 0 + i * 3 + j = i * 3 + j by omega]
 exact hc'

theorem IL.ilr {w : World} {B : Nat} {l : List Int} {v : Value} (h : IL w B l v) : ILR w l v:=by
 obtain ⟨p,c,rfl,hc,hm,hr⟩:=own_row h
 refine ⟨p,c,rfl,hc,hm,fun i hi => ?_⟩
 obtain ⟨b,rfl,h9⟩:=hr i (Vi l[i]) (by simp [hi])
 exact ⟨b,0,rfl,by rw [Nat.zero_add]; exact h9⟩

theorem StO.ra {w : World} {B : Nat} {t : St} {a b c d e f g : Value} (h : StO w B t a b c d e f g) : StRA w t a b c d e f g:=⟨h.rd,h.sorts.olr,h.limit.ilr⟩
end Go.Proofs.YtffalonhkemieaaGreatDoor
