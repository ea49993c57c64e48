/- A78 A79 A80 A84d A81 A82 A83 A85d -/
import Derived.Test.YtbfjmccpcbhljaaGreatDoorTA77
import Derived.Laws.EntriesVeiled
import Derived.Defers
import Derived.Recover
set_option maxHeartbeats 8000000
set_option maxRecDepth 100000
namespace Go.Proofs.YtbfjmccpcbhljaaGreatDoor
open Go.RowKit
def dpr : Nat → Ex → Bool
 | 0,_ => true
 | n + 1,.mk _ _ _ _ _ kids _ => kids.any (dpr n)

def XRow (w : World) (p : Option Addr) (es : List Ex) (ks : List Value) : Prop:=∀ i (h : i < es.length) (h' : i < ks.length),∃ b off,p = some ⟨b,off,none⟩ ∧ ∀ j u,(exC es[i] ks[i])[j]? = some u → w.cell? ⟨b,off + i * 9 + j,none⟩ = some u

def SRow (w : World) (p : Option Addr) (es : List Se) (ks : List Value) : Prop:=∀ i (h : i < es.length) (h' : i < ks.length),∃ b off,p = some ⟨b,off,none⟩ ∧ ∀ j u,(seC es[i] ks[i])[j]? = some u → w.cell? ⟨b,off + i * 11 + j,none⟩ = some u

inductive XR (w : World) : Ex → Value → Prop
 | mk {kind op : Int} {v : V3} {t n : ByteArray} {kids : List Ex} {pl : Int} {p : Option Addr} {c : Nat} (ks : List Value) (h1 : kids.length = ks.length) (hc : kids.length ≤ c) (hm : kids.length ≤ 9223372036854775807) (h2 : XRow w p kids ks) (h3 : ∀ i (h : i < kids.length) (h' : i < ks.length),XR w kids[i] ks[i]) : XR w (.mk kind op v t n kids pl) (.slice p kids.length c)

theorem XRow.later {w w' : World} {p : Option Addr} {es : List Ex} {ks : List Value} (h : XRow w p es ks) (hb : Below w.heap.size w w') : XRow w' p es ks:=fun i h1 h2 => by
 obtain ⟨b,off,e,hc⟩:=h i h1 h2
 exact ⟨b,off,e,fun j u hu => Cl hb (hc j u hu)⟩

theorem SRow.later {w w' : World} {p : Option Addr} {es : List Se} {ks : List Value} (h : SRow w p es ks) (hb : Below w.heap.size w w') : SRow w' p es ks:=fun i h1 h2 => by
 obtain ⟨b,off,e,hc⟩:=h i h1 h2
 exact ⟨b,off,e,fun j u hu => Cl hb (hc j u hu)⟩

theorem XR.later {w w' : World} {e : Ex} {k : Value} (h : XR w e k) (hb : Below w.heap.size w w') : XR w' e k:=by
 induction h with
 | mk ks h1 hc hm h2 _ ih => exact XR.mk ks h1 hc hm (h2.later hb) ih

theorem XR.slice {w : World} {e : Ex} {k : Value} (h : XR w e k) : ∃ p m c,k = .slice p m c:=by
 cases h with
 | mk ks _ _ _ _ _ => exact ⟨_,_,_,rfl⟩

theorem getElem?_xcs : ∀ (es : List Ex) (ks : List Value) (i j : Nat) (u : Value) (h : i < es.length) (h' : i < ks.length),(exC es[i] ks[i])[j]? = some u → (xcs es ks)[i * 9 + j]? = some u
 | e :: es,k :: ks,0,j,u,_,_,hu => by
  have hj : j < (exC e k).length:=(List.getElem?_eq_some_iff.1 hu).1
  simp only [xcs,Nat.zero_mul,Nat.zero_add]
  rw [List.getElem?_append_left hj]
  exact hu
 | e :: es,k :: ks,i + 1,j,u,h,h',hu => by
  simp only [xcs]
  rw [List.getElem?_append_right (by rw [exC_len]; omega),exC_len,show (i + 1) * 9 + j - 9 = i * 9 + j by omega]
  exact getElem?_xcs es ks i j u (by simpa using h) (by simpa using h') (by simpa using hu)

theorem seC_len (x : Se) (k : Value) : (seC x k).length = 11:=by simp [seC,exC_len]

theorem getElem?_ses : ∀ (es : List Se) (ks : List Value) (i j : Nat) (u : Value) (h : i < es.length) (h' : i < ks.length),(seC es[i] ks[i])[j]? = some u → (ses es ks)[i * 11 + j]? = some u
 | e :: es,k :: ks,0,j,u,_,_,hu => by
  have hj : j < (seC e k).length:=(List.getElem?_eq_some_iff.1 hu).1
  simp only [ses,Nat.zero_mul,Nat.zero_add]
  rw [List.getElem?_append_left hj]
  exact hu
 | e :: es,k :: ks,i + 1,j,u,h,h',hu => by
  simp only [ses]
  rw [List.getElem?_append_right (by rw [seC_len]; omega),seC_len,show (i + 1) * 11 + j - 11 = i * 11 + j by omega]
  exact getElem?_ses es ks i j u (by simpa using h) (by simpa using h') (by simpa using hu)

theorem add_lit0 (b j : Nat) : (⟨b,0,none⟩ : Addr).add j = ⟨b,j,none⟩:=by unfold Addr.add; split <;> simp_all

theorem own_row {w : World} {B : Nat} {T : TypeId} {size : Nat} {v : Value} {n : Nat} {xs : List Value} (h : w.ownsRow B T size v n xs) : ∃ p c,v = .slice p n c ∧ n ≤ c ∧ n ≤ 9223372036854775807 ∧ ∀ j u,xs[j]? = some u → ∃ b,p = some ⟨b,0,none⟩ ∧ w.cell? ⟨b,j,none⟩ = some u:=by
 have hh:=h
 obtain ⟨hl,⟨rfl,rfl⟩ | ⟨g,cap,cur,rfl,hb,hg,hn,hm,hs,ht⟩⟩:=h
 ·refine ⟨none,0,rfl,Nat.le_refl _,Nat.zero_le _,fun j u hu => ?_⟩
  have : xs = []:=List.eq_nil_of_length_eq_zero (by simpa using hl)
  subst this
  simp at hu
 ·refine ⟨some ⟨g,0,none⟩,cap,rfl,hn,by unfold maxLen at hm; omega,fun j u hu => ⟨g,rfl,?_⟩⟩
  have:=hh.cells (g:=g) rfl j u hu
  rw [add_lit0] at this
  exact this

theorem XO.xr {w : World} {B : Nat} {e : Ex} {k : Value} (h : XO w B e k) : XR w e k:=by
 induction h with
 | mk ks h1 h2 _ ih =>
  obtain ⟨p,c,rfl,hc,hm,hr⟩:=own_row h2
  refine XR.mk ks h1 hc hm (fun i hi hi' => ?_) ih
  have h0 : ∃ u,(exC (_ : List Ex)[i] ks[i])[0]? = some u:=⟨_,List.getElem?_eq_getElem (by rw [exC_len]; omega)⟩
  obtain ⟨u,hu⟩:=h0
  obtain ⟨b,rfl,_⟩:=hr _ u (getElem?_xcs _ ks i 0 u hi hi' hu)
  refine ⟨b,0,rfl,fun j u hu => ?_⟩
  obtain ⟨b',e,hc'⟩:=hr _ u (getElem?_xcs _ ks i j u hi hi' hu)
  injection e with e
  injection e with e _ _
  subst e
  rw [show 0 + i * 9 + j = i * 9 + j by omega]
  exact hc'

theorem XL.row {w : World} {B : Nat} {l : List Ex} {v : Value} (h : XL w B l v) : ∃ p c ks,v = .slice p l.length c ∧ l.length ≤ c ∧ l.length ≤ 9223372036854775807 ∧ l.length = ks.length ∧ XRow w p l ks ∧ ∀ i (h : i < l.length) (h' : i < ks.length),XR w l[i] ks[i]:=by
 obtain ⟨ks,h1,h2,h3⟩:=h
 have hx : XR w (.mk 0 0 v0 ⟨#[]⟩ ⟨#[]⟩ l 0) v:=(XO.mk ks h1 h2 h3 : XO w B (.mk 0 0 v0 ⟨#[]⟩ ⟨#[]⟩ l 0) v).xr
 cases hx with
 | mk qs g1 g2 g3 g4 g5 => exact ⟨_,_,qs,rfl,g2,g3,g1,g4,g5⟩

theorem SeL.row {w : World} {B : Nat} {l : List Se} {v : Value} (h : SeL w B l v) : ∃ p c ks,v = .slice p l.length c ∧ l.length ≤ c ∧ l.length ≤ 9223372036854775807 ∧ l.length = ks.length ∧ SRow w p l ks ∧ ∀ i (h : i < l.length) (h' : i < ks.length),XR w l[i].2.1 ks[i]:=by
 obtain ⟨ks,h1,h2,h3⟩:=h
 obtain ⟨p,c,rfl,hc,hm,hr⟩:=own_row h2
 refine ⟨p,c,ks,rfl,hc,hm,h1,fun i hi hi' => ?_,fun i hi hi' => (h3 i hi hi').xr⟩
 have h0 : ∃ u,(seC l[i] ks[i])[0]? = some u:=⟨_,List.getElem?_eq_getElem (by rw [seC_len]; omega)⟩
 obtain ⟨u,hu⟩:=h0
 obtain ⟨b,rfl,_⟩:=hr _ u (getElem?_ses _ ks i 0 u hi hi' hu)
 refine ⟨b,0,rfl,fun j u hu => ?_⟩
 obtain ⟨b',e,hc'⟩:=hr _ u (getElem?_ses _ ks i j u hi hi' hu)
 injection e with e
 injection e with e _ _
 subst e
 rw [show 0 + i * 11 + j = i * 11 + j by omega]
 exact hc'

theorem idx_deeper (w : World) (a : Option Addr) (cap : Nat) (es : List Ex) (ks : List Value) (x0 : Nat) (H : Nat → Bool) (hlk : es.length = ks.length) (hl : es.length ≤ 9223372036854775807) (hr : XRow w a es ks) (hs : ∀ i (h' : i < ks.length),∃ p m c,ks[i] = .slice p m c) (hC : ∀ k (h : k < es.length) (h' : k < ks.length) w1,Below w.heap.size w w1 → Calls Tryz.prog 86 #[.agg (exC es[k] ks[k]).toArray,.pointer (some ⟨x0,0,none⟩)] w1 fun e w2 => e = .returned (.bool (H k)) ∧ Below w1.heap.size w1 w2) : Calls Tryz.prog 87 #[.slice a es.length cap,.func (.func 86) #[] #[.pointer (some ⟨x0,0,none⟩)]] w fun e w' => (∃ i : Int,e = .returned (Vi i) ∧ (0 ≤ i ↔ ∃ k,k < es.length ∧ H k = true)) ∧ Below w.heap.size w w':=by
 have HR:=Hd hr
 have HC:=Hd hC
 have HS:=Hd hs
 have HLK:=Hd hlk
 clear hr hC hs hlk
 go_enter Tryz.func87,Tryz.ntmps87
 go_wp2
 go_loopw [8] (fun i wr => ∃ k : Nat,k ≤ es.length ∧ i = Vi k ∧ (∀ j,j < k → H j = false) ∧ Below w.heap.size w wr) (fun i _ => es.length - (intOf i).toNat)
 case atStart => exact ⟨0,Nat.zero_le _,rfl,fun j g => absurd g (Nat.not_lt_zero _),Below.refl _ _⟩
 case round =>
  obtain ⟨k,hk,rfl,hall,hb1⟩:=hrel
  have HA:=Hd hall
  have HB:=Hd hb1
  have hsz:=hb1.size
  clear hall hb1
  by_cases hlt : k < es.length
  ·have hlti : (k : Int) < (es.length : Int):=by omega
   have hlt' : k < ks.length:=by rw [← HLK.out]; exact hlt
   obtain ⟨b,off,rfl,hcs⟩:=HR.out k hlt hlt'
   obtain ⟨a2,m2,c2,hks⟩:=HS.out k hlt'
   have HCk:=Hd (HC.out k hlt hlt' )
   rw [hks] at hcs HCk
   obtain ⟨⟨kk,oo,⟨v1,v2,v3⟩,tt,nn,ks2,pp⟩,hx⟩ : ∃ x,es[k] = x:=⟨_,rfl⟩
   rw [hx] at hcs HCk
   clear hx hks
   simp only [exC] at HCk
   have HCS : Hid (∀ j u,[Vi kk,Vi oo,Vi v1,Vi v2,.string v3,.string tt,.string nn,.slice a2 m2 c2,Vi pp][j]? = some u → w.cell? ⟨b,off + k * 9 + j,none⟩ = some u):=hcs
   clear hcs
   have q0:=Cl HB.out (HCS.out 0 _ rfl)
   have q1:=Cl HB.out (HCS.out 1 _ rfl)
   have q2:=Cl HB.out (HCS.out 2 _ rfl)
   have q3:=Cl HB.out (HCS.out 3 _ rfl)
   have q4:=Cl HB.out (HCS.out 4 _ rfl)
   have q5:=Cl HB.out (HCS.out 5 _ rfl)
   have q6:=Cl HB.out (HCS.out 6 _ rfl)
   have q7:=Cl HB.out (HCS.out 7 _ rfl)
   have q8:=Cl HB.out (HCS.out 8 _ rfl)
   simp only [Nat.add_zero] at q0
   go_wp2_with fail
   refine (HCk.out _ HB.out).mono ?_
   rintro e w2 ⟨rfl,hb2⟩
   have HB2:=Hd (HB.out.trans (hb2.mono hsz))
   clear hb2 q0 q1 q2 q3 q4 q5 q6 q7 q8
   cases hH : H k with
   | true =>
    have HE : Hid (∃ k,k < es.length ∧ H k = true):=⟨k,hlt,hH⟩
    go_wp2
    exact bodyPost_ret (v:=Vi (k : Int)) (by simp [results,Tryz.results87,go_sem]) rfl ⟨⟨k,rfl,fun _ => HE.out,fun _ => by omega⟩,HB2.out⟩
   | false =>
    have HA2 : Hid (∀ j,j < k + 1 → H j = false):=fun j hj => by
     by_cases e : j = k
     ·rw [e]; exact hH
     ·exact HA.out j (by omega)
    go_wp2
    go_roundw
    case rel => exact ⟨k + 1,by omega,by simp,HA2.out,HB2.out⟩
    case measure => simp [intOf]; omega
  ·have hnlt : ¬ (k : Int) < (es.length : Int):=by omega
   have HE : Hid (¬ ∃ k,k < es.length ∧ H k = true):=fun ⟨j,hj,h⟩ => by rw [HA.out j (by omega)] at h; cases h
   go_wp2
   exact bodyPost_ret (v:=Vi (-1)) (by simp [results,Tryz.results87,go_sem]) rfl ⟨⟨-1,rfl,fun h => absurd h (by decide),fun h => absurd h HE.out⟩,HB.out⟩

theorem con_deeper (w : World) (a : Option Addr) (cap : Nat) (es : List Ex) (ks : List Value) (x0 : Nat) (H : Nat → Bool) (hlk : es.length = ks.length) (hl : es.length ≤ 9223372036854775807) (hr : XRow w a es ks) (hs : ∀ i (h' : i < ks.length),∃ p m c,ks[i] = .slice p m c) (hC : ∀ k (h : k < es.length) (h' : k < ks.length) w1,Below w.heap.size w w1 → Calls Tryz.prog 86 #[.agg (exC es[k] ks[k]).toArray,.pointer (some ⟨x0,0,none⟩)] w1 fun e w2 => e = .returned (.bool (H k)) ∧ Below w1.heap.size w1 w2) : Calls Tryz.prog 54 #[.slice a es.length cap,.func (.func 86) #[] #[.pointer (some ⟨x0,0,none⟩)]] w fun e w' => (∃ b : Bool,e = .returned (.bool b) ∧ (b = true ↔ ∃ k,k < es.length ∧ H k = true)) ∧ Below w.heap.size w w':=by
 have HI:=Hd (idx_deeper w a cap es ks x0 H hlk hl hr hs hC)
 clear hlk hl hr hs hC
 go_enter Tryz.func54,Tryz.ntmps54
 go_wp2_with fail
 refine HI.out.mono ?_
 rintro e w1 ⟨⟨i,rfl,hi⟩,hb⟩
 have HX:=Hd hi
 have HB:=Hd hb
 clear hi hb
 go_wp2
 exact bodyPost_ret (v:=.bool (decide (0 ≤ i))) (by simp [results,Tryz.results54,go_sem]) rfl ⟨⟨_,rfl,by rw [decide_eq_true_iff]; exact HX.out⟩,HB.out⟩

theorem idx_deep1 (w : World) (a : Option Addr) (cap : Nat) (es : List Ex) (ks : List Value) (H : Nat → Bool) (hlk : es.length = ks.length) (hl : es.length ≤ 9223372036854775807) (hr : XRow w a es ks) (hs : ∀ i (h' : i < ks.length),∃ p m c,ks[i] = .slice p m c) (hC : ∀ k (h : k < es.length) (h' : k < ks.length) w1,Below w.heap.size w w1 → Calls Tryz.prog 52 #[.agg (exC es[k] ks[k]).toArray] w1 fun e w2 => e = .returned (.bool (H k)) ∧ Below w1.heap.size w1 w2) : Calls Tryz.prog 87 #[.slice a es.length cap,.func (.func 52) #[] #[]] w fun e w' => (∃ i : Int,e = .returned (Vi i) ∧ (0 ≤ i ↔ ∃ k,k < es.length ∧ H k = true)) ∧ Below w.heap.size w w':=by
 have HR:=Hd hr
 have HC:=Hd hC
 have HS:=Hd hs
 have HLK:=Hd hlk
 clear hr hC hs hlk
 go_enter Tryz.func87,Tryz.ntmps87
 go_wp2
 go_loopw [8] (fun i wr => ∃ k : Nat,k ≤ es.length ∧ i = Vi k ∧ (∀ j,j < k → H j = false) ∧ Below w.heap.size w wr) (fun i _ => es.length - (intOf i).toNat)
 case atStart => exact ⟨0,Nat.zero_le _,rfl,fun j g => absurd g (Nat.not_lt_zero _),Below.refl _ _⟩
 case round =>
  obtain ⟨k,hk,rfl,hall,hb1⟩:=hrel
  have HA:=Hd hall
  have HB:=Hd hb1
  have hsz:=hb1.size
  clear hall hb1
  by_cases hlt : k < es.length
  ·have hlti : (k : Int) < (es.length : Int):=by omega
   have hlt' : k < ks.length:=by rw [← HLK.out]; exact hlt
   obtain ⟨b,off,rfl,hcs⟩:=HR.out k hlt hlt'
   obtain ⟨a2,m2,c2,hks⟩:=HS.out k hlt'
   have HCk:=Hd (HC.out k hlt hlt' )
   rw [hks] at hcs HCk
   obtain ⟨⟨kk,oo,⟨v1,v2,v3⟩,tt,nn,ks2,pp⟩,hx⟩ : ∃ x,es[k] = x:=⟨_,rfl⟩
   rw [hx] at hcs HCk
   clear hx hks
   simp only [exC] at HCk
   have HCS : Hid (∀ j u,[Vi kk,Vi oo,Vi v1,Vi v2,.string v3,.string tt,.string nn,.slice a2 m2 c2,Vi pp][j]? = some u → w.cell? ⟨b,off + k * 9 + j,none⟩ = some u):=hcs
   clear hcs
   have q0:=Cl HB.out (HCS.out 0 _ rfl)
   have q1:=Cl HB.out (HCS.out 1 _ rfl)
   have q2:=Cl HB.out (HCS.out 2 _ rfl)
   have q3:=Cl HB.out (HCS.out 3 _ rfl)
   have q4:=Cl HB.out (HCS.out 4 _ rfl)
   have q5:=Cl HB.out (HCS.out 5 _ rfl)
   have q6:=Cl HB.out (HCS.out 6 _ rfl)
   have q7:=Cl HB.out (HCS.out 7 _ rfl)
   have q8:=Cl HB.out (HCS.out 8 _ rfl)
   simp only [Nat.add_zero] at q0
   go_wp2_with fail
   refine (HCk.out _ HB.out).mono ?_
   rintro e w2 ⟨rfl,hb2⟩
   have HB2:=Hd (HB.out.trans (hb2.mono hsz))
   clear hb2 q0 q1 q2 q3 q4 q5 q6 q7 q8
   cases hH : H k with
   | true =>
    have HE : Hid (∃ k,k < es.length ∧ H k = true):=⟨k,hlt,hH⟩
    go_wp2
    exact bodyPost_ret (v:=Vi (k : Int)) (by simp [results,Tryz.results87,go_sem]) rfl ⟨⟨k,rfl,fun _ => HE.out,fun _ => by omega⟩,HB2.out⟩
   | false =>
    have HA2 : Hid (∀ j,j < k + 1 → H j = false):=fun j hj => by
     by_cases e : j = k
     ·rw [e]; exact hH
     ·exact HA.out j (by omega)
    go_wp2
    go_roundw
    case rel => exact ⟨k + 1,by omega,by simp,HA2.out,HB2.out⟩
    case measure => simp [intOf]; omega
  ·have hnlt : ¬ (k : Int) < (es.length : Int):=by omega
   have HE : Hid (¬ ∃ k,k < es.length ∧ H k = true):=fun ⟨j,hj,h⟩ => by rw [HA.out j (by omega)] at h; cases h
   go_wp2
   exact bodyPost_ret (v:=Vi (-1)) (by simp [results,Tryz.results87,go_sem]) rfl ⟨⟨-1,rfl,fun h => absurd h (by decide),fun h => absurd h HE.out⟩,HB.out⟩

theorem con_deep1 (w : World) (a : Option Addr) (cap : Nat) (es : List Ex) (ks : List Value) (H : Nat → Bool) (hlk : es.length = ks.length) (hl : es.length ≤ 9223372036854775807) (hr : XRow w a es ks) (hs : ∀ i (h' : i < ks.length),∃ p m c,ks[i] = .slice p m c) (hC : ∀ k (h : k < es.length) (h' : k < ks.length) w1,Below w.heap.size w w1 → Calls Tryz.prog 52 #[.agg (exC es[k] ks[k]).toArray] w1 fun e w2 => e = .returned (.bool (H k)) ∧ Below w1.heap.size w1 w2) : Calls Tryz.prog 54 #[.slice a es.length cap,.func (.func 52) #[] #[]] w fun e w' => (∃ b : Bool,e = .returned (.bool b) ∧ (b = true ↔ ∃ k,k < es.length ∧ H k = true)) ∧ Below w.heap.size w w':=by
 have HI:=Hd (idx_deep1 w a cap es ks H hlk hl hr hs hC)
 clear hlk hl hr hs hC
 go_enter Tryz.func54,Tryz.ntmps54
 go_wp2_with fail
 refine HI.out.mono ?_
 rintro e w1 ⟨⟨i,rfl,hi⟩,hb⟩
 have HX:=Hd hi
 have HB:=Hd hb
 clear hi hb
 go_wp2
 exact bodyPost_ret (v:=.bool (decide (0 ≤ i))) (by simp [results,Tryz.results54,go_sem]) rfl ⟨⟨_,rfl,by rw [decide_eq_true_iff]; exact HX.out⟩,HB.out⟩

theorem idx_deep2 (w : World) (a : Option Addr) (cap : Nat) (es : List Se) (ks : List Value) (x0 : Nat) (H : Nat → Bool) (hlk : es.length = ks.length) (hl : es.length ≤ 9223372036854775807) (hr : SRow w a es ks) (hs : ∀ i (h' : i < ks.length),∃ p m c,ks[i] = .slice p m c) (hC : ∀ k (h : k < es.length) (h' : k < ks.length) w1,Below w.heap.size w w1 → Calls Tryz.prog 56 #[.agg (seC es[k] ks[k]).toArray,.pointer (some ⟨x0,0,none⟩)] w1 fun e w2 => e = .returned (.bool (H k)) ∧ Below w1.heap.size w1 w2) : Calls Tryz.prog 88 #[.slice a es.length cap,.func (.func 56) #[] #[.pointer (some ⟨x0,0,none⟩)]] w fun e w' => (∃ i : Int,e = .returned (Vi i) ∧ (0 ≤ i ↔ ∃ k,k < es.length ∧ H k = true)) ∧ Below w.heap.size w w':=by
 have HR:=Hd hr
 have HC:=Hd hC
 have HS:=Hd hs
 have HLK:=Hd hlk
 clear hr hC hs hlk
 go_enter Tryz.func88,Tryz.ntmps88
 go_wp2
 go_loopw [8] (fun i wr => ∃ k : Nat,k ≤ es.length ∧ i = Vi k ∧ (∀ j,j < k → H j = false) ∧ Below w.heap.size w wr) (fun i _ => es.length - (intOf i).toNat)
 case atStart => exact ⟨0,Nat.zero_le _,rfl,fun j g => absurd g (Nat.not_lt_zero _),Below.refl _ _⟩
 case round =>
  obtain ⟨k,hk,rfl,hall,hb1⟩:=hrel
  have HA:=Hd hall
  have HB:=Hd hb1
  have hsz:=hb1.size
  clear hall hb1
  by_cases hlt : k < es.length
  ·have hlti : (k : Int) < (es.length : Int):=by omega
   have hlt' : k < ks.length:=by rw [← HLK.out]; exact hlt
   obtain ⟨b,off,rfl,hcs⟩:=HR.out k hlt hlt'
   obtain ⟨a2,m2,c2,hks⟩:=HS.out k hlt'
   have HCk:=Hd (HC.out k hlt hlt' )
   rw [hks] at hcs HCk
   obtain ⟨⟨nm,⟨kk,oo,⟨v1,v2,v3⟩,tt,nn,ks2,pp⟩,pl⟩,hx⟩ : ∃ x,es[k] = x:=⟨_,rfl⟩
   rw [hx] at hcs HCk
   clear hx hks
   simp only [seC,exC,List.cons_append,List.nil_append] at HCk
   have HCS : Hid (∀ j u,[.string nm,Vi kk,Vi oo,Vi v1,Vi v2,.string v3,.string tt,.string nn,.slice a2 m2 c2,Vi pp,Vi pl][j]? = some u → w.cell? ⟨b,off + k * 11 + j,none⟩ = some u):=hcs
   clear hcs
   have q0:=Cl HB.out (HCS.out 0 _ rfl)
   have q1:=Cl HB.out (HCS.out 1 _ rfl)
   have q2:=Cl HB.out (HCS.out 2 _ rfl)
   have q3:=Cl HB.out (HCS.out 3 _ rfl)
   have q4:=Cl HB.out (HCS.out 4 _ rfl)
   have q5:=Cl HB.out (HCS.out 5 _ rfl)
   have q6:=Cl HB.out (HCS.out 6 _ rfl)
   have q7:=Cl HB.out (HCS.out 7 _ rfl)
   have q8:=Cl HB.out (HCS.out 8 _ rfl)
   have q9:=Cl HB.out (HCS.out 9 _ rfl)
   have q10:=Cl HB.out (HCS.out 10 _ rfl)
   simp only [Nat.add_zero] at q0
   go_wp2_with fail
   refine (HCk.out _ HB.out).mono ?_
   rintro e w2 ⟨rfl,hb2⟩
   have HB2:=Hd (HB.out.trans (hb2.mono hsz))
   clear hb2 q0 q1 q2 q3 q4 q5 q6 q7 q8 q9 q10
   cases hH : H k with
   | true =>
    have HE : Hid (∃ k,k < es.length ∧ H k = true):=⟨k,hlt,hH⟩
    go_wp2
    exact bodyPost_ret (v:=Vi (k : Int)) (by simp [results,Tryz.results88,go_sem]) rfl ⟨⟨k,rfl,fun _ => HE.out,fun _ => by omega⟩,HB2.out⟩
   | false =>
    have HA2 : Hid (∀ j,j < k + 1 → H j = false):=fun j hj => by
     by_cases e : j = k
     ·rw [e]; exact hH
     ·exact HA.out j (by omega)
    go_wp2
    go_roundw
    case rel => exact ⟨k + 1,by omega,by simp,HA2.out,HB2.out⟩
    case measure => simp [intOf]; omega
  ·have hnlt : ¬ (k : Int) < (es.length : Int):=by omega
   have HE : Hid (¬ ∃ k,k < es.length ∧ H k = true):=fun ⟨j,hj,h⟩ => by rw [HA.out j (by omega)] at h; cases h
   go_wp2
   exact bodyPost_ret (v:=Vi (-1)) (by simp [results,Tryz.results88,go_sem]) rfl ⟨⟨-1,rfl,fun h => absurd h (by decide),fun h => absurd h HE.out⟩,HB.out⟩

theorem con_deep2 (w : World) (a : Option Addr) (cap : Nat) (es : List Se) (ks : List Value) (x0 : Nat) (H : Nat → Bool) (hlk : es.length = ks.length) (hl : es.length ≤ 9223372036854775807) (hr : SRow w a es ks) (hs : ∀ i (h' : i < ks.length),∃ p m c,ks[i] = .slice p m c) (hC : ∀ k (h : k < es.length) (h' : k < ks.length) w1,Below w.heap.size w w1 → Calls Tryz.prog 56 #[.agg (seC es[k] ks[k]).toArray,.pointer (some ⟨x0,0,none⟩)] w1 fun e w2 => e = .returned (.bool (H k)) ∧ Below w1.heap.size w1 w2) : Calls Tryz.prog 55 #[.slice a es.length cap,.func (.func 56) #[] #[.pointer (some ⟨x0,0,none⟩)]] w fun e w' => (∃ b : Bool,e = .returned (.bool b) ∧ (b = true ↔ ∃ k,k < es.length ∧ H k = true)) ∧ Below w.heap.size w w':=by
 have HI:=Hd (idx_deep2 w a cap es ks x0 H hlk hl hr hs hC)
 clear hlk hl hr hs hC
 go_enter Tryz.func55,Tryz.ntmps55
 go_wp2_with fail
 refine HI.out.mono ?_
 rintro e w1 ⟨⟨i,rfl,hi⟩,hb⟩
 have HX:=Hd hi
 have HB:=Hd hb
 clear hi hb
 go_wp2
 exact bodyPost_ret (v:=.bool (decide (0 ≤ i))) (by simp [results,Tryz.results55,go_sem]) rfl ⟨⟨_,rfl,by rw [decide_eq_true_iff]; exact HX.out⟩,HB.out⟩

def atB (f : Ex → Bool) (es : List Ex) (k : Nat) : Bool:=match es[k]? with
 | some e => f e
 | none => false

theorem atB_any (f : Ex → Bool) (es : List Ex) : (∃ k,k < es.length ∧ atB f es k = true) ↔ es.any f = true:=by
 rw [List.any_eq_true]
 constructor
 ·rintro ⟨k,hk,h⟩
  unfold atB at h
  rw [List.getElem?_eq_getElem hk] at h
  exact ⟨es[k],List.getElem_mem hk,h⟩
 ·rintro ⟨e,he,h⟩
  obtain ⟨k,hk,rfl⟩:=List.mem_iff_getElem.1 he
  exact ⟨k,hk,by unfold atB; rw [List.getElem?_eq_getElem hk]; exact h⟩

theorem atB_at {f : Ex → Bool} {es : List Ex} {k : Nat} (h : k < es.length) : atB f es k = f es[k]:=by unfold atB; rw [List.getElem?_eq_getElem h]

def XLR (w : World) (l : List Ex) (v : Value) : Prop:=∃ p c ks,v = .slice p l.length c ∧ l.length ≤ c ∧ l.length ≤ 9223372036854775807 ∧ l.length = ks.length ∧ XRow w p l ks ∧ ∀ i (h : i < l.length) (h' : i < ks.length),XR w l[i] ks[i]

def SLR (w : World) (l : List Se) (v : Value) : Prop:=∃ p c ks,v = .slice p l.length c ∧ l.length ≤ c ∧ l.length ≤ 9223372036854775807 ∧ l.length = ks.length ∧ SRow w p l ks ∧ ∀ i (h : i < l.length) (h' : i < ks.length),XR w l[i].2.1 ks[i]

theorem XLR.later {w w' : World} {l : List Ex} {v : Value} (h : XLR w l v) (hb : Below w.heap.size w w') : XLR w' l v:=by
 obtain ⟨p,c,ks,e,h1,h2,h3,h4,h5⟩:=h
 exact ⟨p,c,ks,e,h1,h2,h3,h4.later hb,fun i a b => (h5 i a b).later hb⟩

theorem SLR.later {w w' : World} {l : List Se} {v : Value} (h : SLR w l v) (hb : Below w.heap.size w w') : SLR w' l v:=by
 obtain ⟨p,c,ks,e,h1,h2,h3,h4,h5⟩:=h
 exact ⟨p,c,ks,e,h1,h2,h3,h4.later hb,fun i a b => (h5 i a b).later hb⟩

def deepL (l : List Ex) : Bool:=l.any (dpr 16)

def deepS (t : St) : Bool:=(deepL t.on || deepL t.whr || deepL t.items || deepL t.groups) || t.sets.any fun x => dpr 16 x.2.1

theorem deeper1_any (n x0 : Nat) (e : Ex) (k : Value) (w : World) (hx : XR w e k) (hd : w.cell? ⟨x0,0,none⟩ = some (Vi ((n : Int) + 1))) (hn : n ≤ 16) (IH : ∀ e k w,XR w e k → Calls Tryz.prog 53 #[.agg (exC e k).toArray,Vi (n : Int)] w fun r w' => r = .returned (.bool (dpr n e)) ∧ Below w.heap.size w w') : Calls Tryz.prog 86 #[.agg (exC e k).toArray,.pointer (some ⟨x0,0,none⟩)] w fun r w' => r = .returned (.bool (dpr n e)) ∧ Below w.heap.size w w':=by
 obtain ⟨a,m,c,rfl⟩:=hx.slice
 have HI:=Hd (IH e (.slice a m c))
 have HX:=Hd hx
 have hlt:=World.block_lt_of_cell? _ _ hd
 clear IH hx
 obtain ⟨kk,oo,⟨v1,v2,v3⟩,tt,nn,ks,pp⟩:=e
 simp only [exC] at HI ⊢
 obtain ⟨W,hW⟩:=Vx (w.alloc (.cells (Ve kk oo v1 v2 v3 tt nn (.slice a m c) pp) 49))
 have hb : Below w.heap.size w W:=hW ▸ (Below.refl _ _).alloc (Nat.le_refl _) _
 have hd2:=(hb.cell hlt).trans hd
 have hr : W.heap[w.heap.size]? = some (.cells (Ve kk oo v1 v2 v3 tt nn (.slice a m c) pp) 49 (0,0)):=hW ▸ heap_alloc_new w _
 have zc:=(nine_of hr).1
 have HB:=Hd hb
 clear hr hb
 have hsub : (n : Int) + 1 - 1 = (n : Int):=by omega
 go_enter Tryz.func86,Tryz.ntmps86
 go_wp2_with fail
 clear hW
 refine (HI.out _ (HX.out.later HB.out)).mono ?_
 rintro e w2 ⟨rfl,hb2⟩
 have HB2:=Hd (HB.out.trans (hb2.mono HB.out.size))
 clear hb2
 go_wp2
 exact bodyPost_ret (v:=.bool (dpr n (.mk kk oo (v1,v2,v3) tt nn ks pp))) (by simp [results,Tryz.results86,go_sem]) rfl ⟨rfl,HB2.out⟩

theorem deeper_zero (e : Ex) (k : Value) (w : World) (hx : XR w e k) : Calls Tryz.prog 53 #[.agg (exC e k).toArray,Vi 0] w fun r w' => r = .returned (.bool true) ∧ Below w.heap.size w w':=by
 obtain ⟨a,m,c,rfl⟩:=hx.slice
 clear hx
 obtain ⟨kk,oo,⟨v1,v2,v3⟩,tt,nn,ks,pp⟩:=e
 simp only [exC]
 go_enter Tryz.func53,Tryz.ntmps53
 go_wp2
 exact bodyPost_ret (v:=.bool true) (by simp [results,Tryz.results53,go_sem]) rfl ⟨rfl,by (repeat (first|exact Bxr _ _|assumption|apply Bxd|apply Bxa|apply Bxs|refine Bxt ?_ (by assumption) ?_|omega|simp))⟩

theorem deeper_step (n : Nat) (hn : n ≤ 16) (IH : ∀ e k w,XR w e k → Calls Tryz.prog 53 #[.agg (exC e k).toArray,Vi (n : Int)] w fun r w' => r = .returned (.bool (dpr n e)) ∧ Below w.heap.size w w') (e : Ex) (k : Value) (w : World) (hx : XR w e k) : Calls Tryz.prog 53 #[.agg (exC e k).toArray,Vi ((n : Int) + 1)] w fun r w' => r = .returned (.bool (dpr (n + 1) e)) ∧ Below w.heap.size w w':=by
 have HI:=Hd IH
 clear IH
 have hne : ((n : Int) + 1 == 0) = false:=by simp; omega
 cases hx with
 | @mk kk oo v tt nn kids pp p c ks h1 hc hm h2 h3 =>
  obtain ⟨v1,v2,v3⟩:=v
  have HR:=Hd h2
  have HXs:=Hd h3
  have HLK:=Hd h1
  clear h1 h2 h3
  simp only [exC]
  obtain ⟨W,hW⟩:=Vx ((w.alloc (.cells (Ve kk oo v1 v2 v3 tt nn (.slice p kids.length c) pp) 49)).alloc (.cells #[Vi ((n : Int) + 1)] 3))
  have hb : Below w.heap.size w W:=hW ▸ ((Below.refl _ _).alloc (Nat.le_refl _) _).alloc (by simp) _
  have hs1 : (w.alloc (.cells (Ve kk oo v1 v2 v3 tt nn (.slice p kids.length c) pp) 49)).heap.size = w.heap.size + 1:=by simp
  have hd : W.heap[w.heap.size + 1]? = some (.cells #[Vi ((n : Int) + 1)] 3 (0,0)):=by have:=heap_alloc_new (w.alloc (.cells (Ve kk oo v1 v2 v3 tt nn (.slice p kids.length c) pp) 49)) (.cells #[Vi ((n : Int) + 1)] 3); rw [hW,hs1] at this; exact this
  have he : W.heap[w.heap.size]? = some (.cells (Ve kk oo v1 v2 v3 tt nn (.slice p kids.length c) pp) 49 (0,0)):=by have:=(alloc_off (w:=w.alloc (.cells (Ve kk oo v1 v2 v3 tt nn (.slice p kids.length c) pp) 49)) (k:=w.heap.size) (by simp) (.cells #[Vi ((n : Int) + 1)] 3)).trans (heap_alloc_new w _); rw [hW] at this; exact this
  have zc:=(nine_of he).1
  have hd0 : W.cell? ⟨w.heap.size + 1,0,none⟩ = some (Vi ((n : Int) + 1)):=by simp [World.cell?,hd]
  have HB:=Hd hb
  have HD:=Hd hd0
  clear hd he hb hs1
  go_enter Tryz.func53,Tryz.ntmps53
  go_wp2_with fail
  clear hW
  refine (con_deeper W p c kids ks (w.heap.size + 1) (atB (dpr n) kids) HLK.out hm (HR.out.later HB.out) (fun i h' => (HXs.out i (by rw [HLK.out]; exact h') h').slice) (fun k h h' w1 hb1 => ?_)).mono ?_
  ·rw [atB_at h]
   exact deeper1_any n (w.heap.size + 1) _ _ w1 ((HXs.out k h h').later (HB.out.trans (hb1.mono HB.out.size))) ((hb1.cell (World.block_lt_of_cell? _ _ HD.out)).trans HD.out) hn HI.out
  ·rintro e w2 ⟨⟨b,rfl,hbb⟩,hb2⟩
   have HB2:=Hd (HB.out.trans (hb2.mono HB.out.size))
   have HE : Hid (b = kids.any (dpr n)):=Hd (by rw [atB_any] at hbb; cases b <;> cases hq : kids.any (dpr n) <;> simp_all)
   clear hbb hb2
   go_wp2
   exact bodyPost_ret (v:=.bool b) (by simp [results,Tryz.results53,go_sem]) rfl ⟨by rw [HE.out]; rfl,HB2.out⟩

theorem deeper_any : ∀ (n : Nat),n ≤ 16 → ∀ (e : Ex) (k : Value) (w : World),XR w e k → Calls Tryz.prog 53 #[.agg (exC e k).toArray,Vi (n : Int)] w fun r w' => r = .returned (.bool (dpr n e)) ∧ Below w.heap.size w w'
 | 0,_,e,k,w,hx => deeper_zero e k w hx
 | n + 1,h,e,k,w,hx => deeper_step n (by omega) (deeper_any n (by omega)) e k w hx

theorem deep1_any (e : Ex) (k : Value) (w : World) (hx : XR w e k) : Calls Tryz.prog 52 #[.agg (exC e k).toArray] w fun r w' => r = .returned (.bool (dpr 16 e)) ∧ Below w.heap.size w w':=by
 obtain ⟨a,m,c,rfl⟩:=hx.slice
 have HI:=Hd (deeper_any 16 (by decide) e (.slice a m c))
 have HX:=Hd hx
 clear hx
 obtain ⟨kk,oo,⟨v1,v2,v3⟩,tt,nn,ks,pp⟩:=e
 simp only [exC] at HI ⊢
 obtain ⟨W,hW⟩:=Vx (w.alloc (.cells (Ve kk oo v1 v2 v3 tt nn (.slice a m c) pp) 49))
 have hb : Below w.heap.size w W:=hW ▸ (Below.refl _ _).alloc (Nat.le_refl _) _
 have hr : W.heap[w.heap.size]? = some (.cells (Ve kk oo v1 v2 v3 tt nn (.slice a m c) pp) 49 (0,0)):=hW ▸ heap_alloc_new w _
 have zc:=(nine_of hr).1
 have HB:=Hd hb
 clear hr hb
 go_enter Tryz.func52,Tryz.ntmps52
 go_wp2_with fail
 clear hW
 refine (HI.out _ (HX.out.later HB.out)).mono ?_
 rintro e w2 ⟨rfl,hb2⟩
 have HB2:=Hd (HB.out.trans (hb2.mono HB.out.size))
 clear hb2
 go_wp2
 exact bodyPost_ret (v:=.bool (dpr 16 (.mk kk oo (v1,v2,v3) tt nn ks pp))) (by simp [results,Tryz.results52,go_sem]) rfl ⟨rfl,HB2.out⟩

theorem deep2_any (x : Se) (x0 : Nat) (k : Value) (w : World) (hx : XR w x.2.1 k) (hd : w.cell? ⟨x0,0,none⟩ = some (.func (.func 52) #[] #[])) : Calls Tryz.prog 56 #[.agg (seC x k).toArray,.pointer (some ⟨x0,0,none⟩)] w fun r w' => r = .returned (.bool (dpr 16 x.2.1)) ∧ Below w.heap.size w w':=by
 obtain ⟨a,m,c,rfl⟩:=hx.slice
 have HI:=Hd (deep1_any x.2.1 (.slice a m c))
 have HX:=Hd hx
 have hlt:=World.block_lt_of_cell? _ _ hd
 clear hx
 obtain ⟨nm,⟨kk,oo,⟨v1,v2,v3⟩,tt,nn,ks,pp⟩,pl⟩:=x
 simp only [seC,exC,List.cons_append,List.nil_append] at HI HX ⊢
 obtain ⟨W,hW⟩:=Vx (w.alloc (.cells #[.string nm,Vi kk,Vi oo,Vi v1,Vi v2,.string v3,.string tt,.string nn,.slice a m c,Vi pp,Vi pl] 53))
 have hb : Below w.heap.size w W:=hW ▸ (Below.refl _ _).alloc (Nat.le_refl _) _
 have hd2:=(hb.cell hlt).trans hd
 have hr : W.heap[w.heap.size]? = some (.cells #[.string nm,Vi kk,Vi oo,Vi v1,Vi v2,.string v3,.string tt,.string nn,.slice a m c,Vi pp,Vi pl] 53 (0,0)):=hW ▸ heap_alloc_new w _
 have zc:=(eleven_of hr).1
 have HB:=Hd hb
 clear hr hb
 go_enter Tryz.func56,Tryz.ntmps56
 go_wp2_with fail
 clear hW
 refine (HI.out _ (HX.out.later HB.out)).mono ?_
 rintro e w2 ⟨rfl,hb2⟩
 have HB2:=Hd (HB.out.trans (hb2.mono HB.out.size))
 clear hb2
 go_wp2
 exact bodyPost_ret (v:=.bool (dpr 16 (.mk kk oo (v1,v2,v3) tt nn ks pp))) (by simp [results,Tryz.results56,go_sem]) rfl ⟨rfl,HB2.out⟩

def atS (f : Se → Bool) (es : List Se) (k : Nat) : Bool:=match es[k]? with
 | some e => f e
 | none => false

theorem atS_any (f : Se → Bool) (es : List Se) : (∃ k,k < es.length ∧ atS f es k = true) ↔ es.any f = true:=by
 rw [List.any_eq_true]
 constructor
 ·rintro ⟨k,hk,h⟩
  unfold atS at h
  rw [List.getElem?_eq_getElem hk] at h
  exact ⟨es[k],List.getElem_mem hk,h⟩
 ·rintro ⟨e,he,h⟩
  obtain ⟨k,hk,rfl⟩:=List.mem_iff_getElem.1 he
  exact ⟨k,hk,by unfold atS; rw [List.getElem?_eq_getElem hk]; exact h⟩

theorem atS_at {f : Se → Bool} {es : List Se} {k : Nat} (h : k < es.length) : atS f es k = f es[k]:=by unfold atS; rw [List.getElem?_eq_getElem h]

theorem same_bool {b c : Bool} (h : b = true ↔ c = true) : b = c:=by cases b <;> cases c <;> simp_all

theorem con_deepL (l : List Ex) (p : Option Addr) (c : Nat) (w : World) (h : XLR w l (.slice p l.length c)) : Calls Tryz.prog 54 #[.slice p l.length c,.func (.func 52) #[] #[]] w fun e w' => e = .returned (.bool (deepL l)) ∧ Below w.heap.size w w':=by
 obtain ⟨p',c',ks,e,h1,h2,h3,h4,h5⟩:=h
 injection e with e1 e2 e3
 subst e1 e3
 refine (con_deep1 w p c l ks (atB (dpr 16) l) h3 h2 h4 (fun i h' => (h5 i (by omega) h').slice) fun k h h' w1 hb => ?_).mono ?_
 ·rw [atB_at h]
  exact deep1_any _ _ w1 ((h5 k h h').later hb)
 ·rintro e w2 ⟨⟨b,rfl,hb⟩,hb2⟩
  rw [atB_any] at hb
  exact ⟨by rw [same_bool hb]; rfl,hb2⟩

theorem con_deepSe (l : List Se) (p : Option Addr) (c x0 : Nat) (w : World) (h : SLR w l (.slice p l.length c)) (hd : w.cell? ⟨x0,0,none⟩ = some (.func (.func 52) #[] #[])) : Calls Tryz.prog 55 #[.slice p l.length c,.func (.func 56) #[] #[.pointer (some ⟨x0,0,none⟩)]] w fun e w' => e = .returned (.bool (l.any fun x => dpr 16 x.2.1)) ∧ Below w.heap.size w w':=by
 obtain ⟨p',c',ks,e,h1,h2,h3,h4,h5⟩:=h
 injection e with e1 e2 e3
 subst e1 e3
 refine (con_deep2 w p c l ks x0 (atS (fun x => dpr 16 x.2.1) l) h3 h2 h4 (fun i h' => (h5 i (by omega) h').slice) fun k h h' w1 hb => ?_).mono ?_
 ·rw [atS_at h]
  exact deep2_any _ x0 _ w1 ((h5 k h h').later hb) ((hb.cell (World.block_lt_of_cell? _ _ hd)).trans hd)
 ·rintro e w2 ⟨⟨b,rfl,hb⟩,hb2⟩
  rw [atS_any] at hb
  exact ⟨by rw [same_bool hb],hb2⟩

structure StRd (w : World) (t : St) (on whr items sets groups : Value) : Prop where
 on : XLR w t.on on
 whr : XLR w t.whr whr
 items : XLR w t.items items
 sets : SLR w t.sets sets
 groups : XLR w t.groups groups

theorem StRd.later {w w' : World} {t : St} {a b c d e : Value} (h : StRd w t a b c d e) (hb : Below w.heap.size w w') : StRd w' t a b c d e:=⟨h.on.later hb,h.whr.later hb,h.items.later hb,h.sets.later hb,h.groups.later hb⟩

theorem StO.rd {w : World} {B : Nat} {t : St} {a b c d e f g : Value} (h : StO w B t a b c d e f g) : StRd w t a b c d e:=⟨h.on.row,h.whr.row,h.items.row,h.sets.row,h.groups.row⟩

theorem deep_any (t : St) (a0 a1 a2 a3 a4 a5 a6 : Option Addr) (c0 c1 c2 c3 c4 c5 c6 : Nat) (w : World) (h : StRd w t (.slice a0 t.on.length c0) (.slice a1 t.whr.length c1) (.slice a2 t.items.length c2) (.slice a3 t.sets.length c3) (.slice a4 t.groups.length c4)) : Calls Tryz.prog 18 #[.agg (Vt t.kind t.table t.join (.slice a0 t.on.length c0) (.slice a1 t.whr.length c1) (.slice a2 t.items.length c2) t.star (.slice a3 t.sets.length c3) (.slice a4 t.groups.length c4) (.slice a5 t.sorts.length c5) (.slice a6 t.limit.length c6) t.place t.joinAt)] w fun e w' => e = .returned (.bool (deepS t)) ∧ Below w.heap.size w w':=by
 have HR:=Hd h
 clear h
 obtain ⟨W1,hW1⟩:=Vx (w.alloc (.cells (Vt t.kind t.table t.join (.slice a0 t.on.length c0) (.slice a1 t.whr.length c1) (.slice a2 t.items.length c2) t.star (.slice a3 t.sets.length c3) (.slice a4 t.groups.length c4) (.slice a5 t.sorts.length c5) (.slice a6 t.limit.length c6) t.place t.joinAt) 27))
 have hs1 : W1.heap.size = w.heap.size + 1:=hW1 ▸ (by simp)
 have r1 : W1.heap[w.heap.size]? = some (.cells (Vt t.kind t.table t.join (.slice a0 t.on.length c0) (.slice a1 t.whr.length c1) (.slice a2 t.items.length c2) t.star (.slice a3 t.sets.length c3) (.slice a4 t.groups.length c4) (.slice a5 t.sorts.length c5) (.slice a6 t.limit.length c6) t.place t.joinAt) 27 (0,0)):=hW1 ▸ heap_alloc_new w _
 have k1 : Below w.heap.size w W1:=hW1 ▸ (Below.refl _ _).alloc (Nat.le_refl _) _
 obtain ⟨W2,hW2⟩:=Vx (W1.alloc (.cells #[.func (.func 52) #[] #[]] 50))
 have hs2 : W2.heap.size = w.heap.size + 2:=by rw [← hW2]; simp [hs1]
 have r2 : W2.heap[w.heap.size + 1]? = some (.cells #[.func (.func 52) #[] #[]] 50 (0,0)):=by have:=heap_alloc_new W1 (.cells #[.func (.func 52) #[] #[]] 50); rw [hW2,hs1] at this; exact this
 have k2 : Below W1.heap.size W1 W2:=hW2 ▸ (Below.refl _ _).alloc (Nat.le_refl _) _
 obtain ⟨W3,hW3⟩:=Vx (W2.alloc (.cells #[.slice a0 t.on.length c0,.slice a1 t.whr.length c1,.slice a2 t.items.length c2,.slice a4 t.groups.length c4] 22))
 have r3 : W3.heap[w.heap.size + 2]? = some (.cells #[.slice a0 t.on.length c0,.slice a1 t.whr.length c1,.slice a2 t.items.length c2,.slice a4 t.groups.length c4] 22 (0,0)):=by have:=heap_alloc_new W2 (.cells #[.slice a0 t.on.length c0,.slice a1 t.whr.length c1,.slice a2 t.items.length c2,.slice a4 t.groups.length c4] 22); rw [hW3,hs2] at this; exact this
 have k3 : Below W2.heap.size W2 W3:=hW3 ▸ (Below.refl _ _).alloc (Nat.le_refl _) _
 have HB : Hid (Below w.heap.size w W3):=(k1.trans (k2.mono k1.size)).trans (k3.mono (Nat.le_trans k1.size k2.size))
 have R1 : Hid (W3.heap[w.heap.size]? = some (.cells (Vt t.kind t.table t.join (.slice a0 t.on.length c0) (.slice a1 t.whr.length c1) (.slice a2 t.items.length c2) t.star (.slice a3 t.sets.length c3) (.slice a4 t.groups.length c4) (.slice a5 t.sorts.length c5) (.slice a6 t.limit.length c6) t.place t.joinAt) 27 (0,0))):=(k3.block _ (by omega)).trans ((k2.block _ (by omega)).trans r1)
 have R2 : Hid (W3.heap[w.heap.size + 1]? = some (.cells #[.func (.func 52) #[] #[]] 50 (0,0))):=(k3.block _ (by omega)).trans r2
 have R3:=Hd r3
 obtain ⟨⟨x0,x1,x2,x3,x4,x5,x6,x7,x8,x9,x10,x11,x12⟩,-⟩:=thirt_of r1
 have x7' : W2.cell? ⟨w.heap.size,3,none⟩ = some (.slice a0 t.on.length c0):=(k2.cell (p:=⟨w.heap.size,3,none⟩) (by show w.heap.size < _; omega)).trans x3
 have x8' : W2.cell? ⟨w.heap.size,4,none⟩ = some (.slice a1 t.whr.length c1):=(k2.cell (p:=⟨w.heap.size,4,none⟩) (by show w.heap.size < _; omega)).trans x4
 have x9' : W2.cell? ⟨w.heap.size,5,none⟩ = some (.slice a2 t.items.length c2):=(k2.cell (p:=⟨w.heap.size,5,none⟩) (by show w.heap.size < _; omega)).trans x5
 have x10' : W2.cell? ⟨w.heap.size,8,none⟩ = some (.slice a4 t.groups.length c4):=(k2.cell (p:=⟨w.heap.size,8,none⟩) (by show w.heap.size < _; omega)).trans x8
 have hsz3 : w.heap.size + 2 < W3.heap.size:=(Gx r3)
 clear r1 r2 r3 k1 k2 k3 x0 x1 x2 x3 x4 x5 x6 x7 x8 x9 x10 x11 x12
 have HS1:=Hd hs1
 have HS2:=Hd hs2
 clear hs1 hs2
 go_enter Tryz.func18,Tryz.ntmps18
 go_wp2_with fail
 clear hW1 hW2 hW3 x7' x8' x9' x10'
 rw [HS1.out,HS2.out]
 go_loopw [16] (fun i wr => ∃ k : Nat,k ≤ 4 ∧ i = Vi k ∧ (0 < k → deepL t.on = false) ∧ (1 < k → deepL t.whr = false) ∧ (2 < k → deepL t.items = false) ∧ (3 < k → deepL t.groups = false) ∧ Below W3.heap.size W3 wr) (fun i _ => 4 - (intOf i).toNat)
 case atStart => exact ⟨0,by omega,rfl,fun h => absurd h (by omega),fun h => absurd h (by omega),fun h => absurd h (by omega),fun h => absurd h (by omega),Below.refl _ _⟩
 case round =>
  obtain ⟨k,hk,rfl,h0,h1,h2,h3,hb⟩:=hrel
  have HW:=Hd hb
  have H0:=Hd h0
  have H1:=Hd h1
  have H2:=Hd h2
  have H3:=Hd h3
  clear h0 h1 h2 h3
  have zy:=(four_of ((hb.block _ (by omega)).trans R3.out)).1
  have yf : wr.cell? ⟨w.heap.size + 1,0,none⟩ = some (.func (.func 52) #[] #[]):=by simp [World.cell?,(hb.block (w.heap.size + 1) (by omega)).trans R2.out]
  have HRD:=Hd (HR.out.later (HB.out.trans (hb.mono HB.out.size)))
  clear hb
  have hcs : k = 0 ∨ k = 1 ∨ k = 2 ∨ k = 3 ∨ k = 4:=by omega
  rcases hcs with rfl | rfl | rfl | rfl | rfl
  ·go_wp2_with fail
   refine (con_deepL t.on a0 c0 _ HRD.out.on).mono ?_
   rintro e w2 ⟨rfl,hb2⟩
   have HW2:=Hd (HW.out.trans (hb2.mono HW.out.size))
   clear hb2 zy yf
   cases hd : deepL t.on with
   | true =>
    have HE : Hid (deepS t = true):=Hd (by unfold deepS; simp [hd])
    clear hd
    go_wp2
    exact bodyPost_ret (v:=.bool true) (by simp [results,Tryz.results18,go_sem]) rfl ⟨by rw [HE.out],HB.out.trans (HW2.out.mono HB.out.size)⟩
   | false =>
    have HE:=Hd hd
    clear hd
    go_wp2
    go_roundw
    case rel => exact ⟨1,by omega,rfl,fun _ => HE.out,fun h => absurd h (by omega),fun h => absurd h (by omega),fun h => absurd h (by omega),HW2.out⟩
    case measure => simp [intOf]
  ·go_wp2_with fail
   refine (con_deepL t.whr a1 c1 _ HRD.out.whr).mono ?_
   rintro e w2 ⟨rfl,hb2⟩
   have HW2:=Hd (HW.out.trans (hb2.mono HW.out.size))
   clear hb2 zy yf
   cases hd : deepL t.whr with
   | true =>
    have HE : Hid (deepS t = true):=Hd (by unfold deepS; simp [hd])
    clear hd
    go_wp2
    exact bodyPost_ret (v:=.bool true) (by simp [results,Tryz.results18,go_sem]) rfl ⟨by rw [HE.out],HB.out.trans (HW2.out.mono HB.out.size)⟩
   | false =>
    have HE:=Hd hd
    clear hd
    go_wp2
    go_roundw
    case rel => exact ⟨2,by omega,rfl,fun _ => H0.out (by omega),fun _ => HE.out,fun h => absurd h (by omega),fun h => absurd h (by omega),HW2.out⟩
    case measure => simp [intOf]
  ·go_wp2_with fail
   refine (con_deepL t.items a2 c2 _ HRD.out.items).mono ?_
   rintro e w2 ⟨rfl,hb2⟩
   have HW2:=Hd (HW.out.trans (hb2.mono HW.out.size))
   clear hb2 zy yf
   cases hd : deepL t.items with
   | true =>
    have HE : Hid (deepS t = true):=Hd (by unfold deepS; simp [hd])
    clear hd
    go_wp2
    exact bodyPost_ret (v:=.bool true) (by simp [results,Tryz.results18,go_sem]) rfl ⟨by rw [HE.out],HB.out.trans (HW2.out.mono HB.out.size)⟩
   | false =>
    have HE:=Hd hd
    clear hd
    go_wp2
    go_roundw
    case rel => exact ⟨3,by omega,rfl,fun _ => H0.out (by omega),fun _ => H1.out (by omega),fun _ => HE.out,fun h => absurd h (by omega),HW2.out⟩
    case measure => simp [intOf]
  ·go_wp2_with fail
   refine (con_deepL t.groups a4 c4 _ HRD.out.groups).mono ?_
   rintro e w2 ⟨rfl,hb2⟩
   have HW2:=Hd (HW.out.trans (hb2.mono HW.out.size))
   clear hb2 zy yf
   cases hd : deepL t.groups with
   | true =>
    have HE : Hid (deepS t = true):=Hd (by unfold deepS; simp [hd])
    clear hd
    go_wp2
    exact bodyPost_ret (v:=.bool true) (by simp [results,Tryz.results18,go_sem]) rfl ⟨by rw [HE.out],HB.out.trans (HW2.out.mono HB.out.size)⟩
   | false =>
    have HE:=Hd hd
    clear hd
    go_wp2
    go_roundw
    case rel => exact ⟨4,by omega,rfl,fun _ => H0.out (by omega),fun _ => H1.out (by omega),fun _ => H2.out (by omega),fun _ => HE.out,HW2.out⟩
    case measure => simp [intOf]
  ·have HE : Hid (deepS t = t.sets.any fun x => dpr 16 x.2.1):=Hd (by unfold deepS; rw [H0.out (by omega),H1.out (by omega),H2.out (by omega),H3.out (by omega)]; rfl)
   have zz:=(thirt_of ((HW.out.block _ (by omega)).trans R1.out)).1
   have YF:=Hd yf
   go_wp2_with fail
   refine (con_deepSe t.sets a3 c3 (w.heap.size + 1) _ HRD.out.sets YF.out).mono ?_
   rintro e w2 ⟨rfl,hb2⟩
   have HW2:=Hd (HW.out.trans (hb2.mono HW.out.size))
   clear hb2
   go_wp2
   exact bodyPost_ret (v:=.bool (t.sets.any fun x => dpr 16 x.2.1)) (by simp [results,Tryz.results18,go_sem]) rfl ⟨by rw [HE.out],HB.out.trans (HW2.out.mono HB.out.size)⟩

theorem two_new {w : World} {o p : Obj} : ((w.alloc o).alloc p).heap[w.heap.size]? = some o ∧ ((w.alloc o).alloc p).heap[w.heap.size + 1]? = some p ∧ Below w.heap.size w ((w.alloc o).alloc p):=by
 refine ⟨(alloc_off (by simp) _).trans (heap_alloc_new w o),?_,((Below.refl _ _).alloc (Nat.le_refl _) _).alloc (by simp) _⟩
 have:=heap_alloc_new (w.alloc o) p
 simpa using this

inductive Out where
 | fault (c p : Int) : Out
 | st (t : St) : Out

def semi (s : PS) : PS:=if s.sees [59] = true then s.next else s

def outOf : Res St → Out
 | .bad p => .fault 110 p
 | .ok t s1 => if (semi s1).hd.1.1 = 1 then (if (semi s1).code = 0 then (if deepS t = true then .fault 111 t.place else .st t) else .fault (semi s1).code (semi s1).place) else .fault 110 (semi s1).hd.2

def SrcP (P : Nat) (s : PS) (w : World) (e : Ending) (w' : World) : Prop:=∃ r,stR s r ∧ Only (· = P) w w' ∧ match outOf r with
 | .fault c p => e = .panicked (wrongV c p)
 | .st t => ∃ v,e = .returned v ∧ StV w' w.heap.size t v

theorem src_bad {P : Nat} {s : PS} {w w' : World} {r : Res St} {c p : Int} (h : stR s r) (ho : Only (· = P) w w') (e : outOf r = .fault c p) : SrcP P s w (.panicked (wrongV c p)) w':=⟨r,h,ho,by rw [e]⟩

theorem src_ok {P : Nat} {s : PS} {w w' : World} {r : Res St} {t : St} {v : Value} (h : stR s r) (ho : Only (· = P) w w') (e : outOf r = .st t) (hv : StV w' w.heap.size t v) : SrcP P s w (.returned v) w':=⟨r,h,ho,by rw [e]; exact ⟨v,rfl,hv⟩⟩

theorem source_any (P : Nat) (s : PS) (w : World) (h : PA w P s) : Calls Tryz.prog 27 #[.pointer (some ⟨P,0,none⟩)] w (SrcP P s w):=by
 have HA:=Hd (Au.start h)
 have hPw:=h.lt
 have HLN : Hid (s.rest.length ≤ s.rest.length):=Nat.le_refl _
 have HG : Hid (∀ r,stR s r → stR s r):=fun r k => k
 clear h
 go_enter Tryz.func27,Tryz.ntmps27
 clear HG HLN
 obtain ⟨W1,hW1,HA⟩:=HA.out.pushE Vq 27
 go_wp2_with fail
 clear hW1
 refine (statement_pp P s _ HA.out.pa).mono ?_
 rintro e w2 ⟨r,hr,ho,hm⟩
 cases r with
 | bad p =>
  have HV:=Hd (src_bad hr (HA.out.only.trans ho) (c:=110) (p:=p) rfl)
  rw [hm]
  clear hm hr ho
  go_wp2
  exact ⟨rfl,HV.out⟩
 | ok t s1 =>
  obtain ⟨v,rfl,⟨a0,a1,a2,a3,a4,a5,a6,c0,c1,c2,c3,c4,c5,c6,rfl,hx⟩,hp,hl⟩:=hm
  have HR:=Hd hr
  replace HA:=Hd (HA.out.gain ho hp (fun W => StO W w.heap.size t (.slice a0 t.on.length c0) (.slice a1 t.whr.length c1) (.slice a2 t.items.length c2) (.slice a3 t.sets.length c3) (.slice a4 t.groups.length c4) (.slice a5 t.sorts.length c5) (.slice a6 t.limit.length c6)) fun _ hW => (hx.keep hW).mono HA.out.only.size)
  clear ho hp hl hr hx
  simp only [stC]
  obtain ⟨W2,hW2,HA⟩:=HA.out.pushE (Vt t.kind t.table t.join (.slice a0 t.on.length c0) (.slice a1 t.whr.length c1) (.slice a2 t.items.length c2) t.star (.slice a3 t.sets.length c3) (.slice a4 t.groups.length c4) (.slice a5 t.sorts.length c5) (.slice a6 t.limit.length c6) t.place t.joinAt) 27
  go_wp2_with fail
  clear hW2
  refine (skip_any P s1 ⟨#[59]⟩ _ HA.out.pa).mono ?_
  rintro e w3 ⟨rfl,hp,ho⟩
  have hp2 : PA w3 P (semi s1):=hp
  replace HA:=Hd (HA.out.call ho hp2)
  clear ho hp hp2
  have HO : Hid (∀ o,(if (semi s1).hd.1.1 = 1 then (if (semi s1).code = 0 then (if deepS t = true then .fault 111 t.place else .st t) else .fault (semi s1).code (semi s1).place) else .fault 110 (semi s1).hd.2) = o → outOf (.ok t s1) = o):=fun o h => h
  obtain ⟨s2,hs2⟩:=Vx (semi s1)
  rw [hs2] at HA HO
  clear hs2
  obtain ⟨sb,hsb⟩:=Vx (s1.sees (⟨#[59]⟩ : ByteArray).data.toList)
  rw [hsb]
  clear hsb
  go_wp2_with fail
  refine (ctoken_any P s2 _ HA.out.pa).mono ?_
  rintro e w4 ⟨rfl,hb⟩
  replace HA:=Hd (HA.out.bel hb)
  clear hb
  obtain ⟨⟨⟨tk,tn,tt⟩,ta⟩,hh⟩ : ∃ x,s2.hd = x:=⟨_,rfl⟩
  have HHD:=Hd hh
  rw [hh] at HO ⊢
  clear hh
  simp only at HO
  unfold tkA
  have hfd:=fieldT0
  by_cases hk : tk = 1
  ·subst hk
   have HO2:=Hd (fun o h => HO.out o ((if_pos rfl).trans h))
   clear HO
   obtain ⟨g,off,cap,h1,hn,hc,_,hP,hg,hgP,-⟩:=HA.out.pa.open
   obtain ⟨⟨p0,p1,p2⟩,-⟩:=three_of h1
   clear h1 hn hc hg hgP
   by_cases hcd : s2.code = 0
   ·have HO3:=Hd (fun o h => HO2.out o ((if_pos hcd).trans h))
    clear HO2
    rw [hcd] at p1
    clear hcd
    obtain ⟨⟨d0,d1,d2,d3,d4,d5,d6,d7,d8,d9,d10,d11,d12⟩,df0,df1,df2,df3,df4,df5,df6,df7,df8,df9,df10,df11,df12⟩:=thirt_of (HA.out.at 0 rfl)
    go_wp2_with fail
    refine (deep_any t a0 a1 a2 a3 a4 a5 a6 c0 c1 c2 c3 c4 c5 c6 _ HA.out.inv.out.2.rd).mono ?_
    rintro e w5 ⟨rfl,hb⟩
    replace HA:=Hd (HA.out.bel hb)
    clear hb p0 p1 p2 hP d0 d1 d2 d3 d4 d5 d6 d7 d8 d9 d10 d11 d12 df0 df1 df2 df3 df4 df5 df6 df7 df8 df9 df10 df11 df12
    obtain ⟨⟨d0,d1,d2,d3,d4,d5,d6,d7,d8,d9,d10,d11,d12⟩,df0,df1,df2,df3,df4,df5,df6,df7,df8,df9,df10,df11,df12⟩:=thirt_of (HA.out.at 0 rfl)
    have zr:=thirt_of (HA.out.at 1 rfl)
    cases hd : deepS t with
    | true =>
     have HV:=Hd (src_bad HR.out HA.out.only (HO3.out _ (if_pos hd)))
     clear hd
     go_wp2
     exact ⟨rfl,HV.out⟩
    | false =>
     have HE:=Hd (HO3.out _ (if_neg (by rw [hd]; simp)))
     clear hd
     go_wp2
     have HD:=Hd (HA.out.fill 1 rfl [Vi t.kind,.string t.table,.string t.join,.slice a0 t.on.length c0,.slice a1 t.whr.length c1,.slice a2 t.items.length c2,.bool t.star,.slice a3 t.sets.length c3,.slice a4 t.groups.length c4,.slice a5 t.sorts.length c5,.slice a6 t.limit.length c6,Vi t.place,Vi t.joinAt] rfl)
     obtain ⟨W99,hW99⟩:=Vx (setsL w5 w.heap.size 0 [Vi t.kind,.string t.table,.string t.join,.slice a0 t.on.length c0,.slice a1 t.whr.length c1,.slice a2 t.items.length c2,.bool t.star,.slice a3 t.sets.length c3,.slice a4 t.groups.length c4,.slice a5 t.sorts.length c5,.slice a6 t.limit.length c6,Vi t.place,Vi t.joinAt])
     rw [hW99] at HD
     simp only [setsL,Nat.reduceAdd] at hW99
     rw [hW99]
     have zy:=(thirt_of (HD.out.at 1 rfl)).1
     clear hW99
     exact bodyPost_ret (v:=.agg (Vt t.kind t.table t.join (.slice a0 t.on.length c0) (.slice a1 t.whr.length c1) (.slice a2 t.items.length c2) t.star (.slice a3 t.sets.length c3) (.slice a4 t.groups.length c4) (.slice a5 t.sorts.length c5) (.slice a6 t.limit.length c6) t.place t.joinAt)) (by simp [results,Tryz.results27,go_sem,zy]) rfl (src_ok HR.out HD.out.only HE.out ⟨a0,a1,a2,a3,a4,a5,a6,c0,c1,c2,c3,c4,c5,c6,rfl,HD.out.inv.out.2⟩)
   ·have HV:=Hd (src_bad HR.out HA.out.only (HO2.out _ (if_neg hcd)))
    have hce : (s2.code == 0) = false:=by simpa using hcd
    have hcn : (s2.code != 0) = true:=by simpa using hcd
    clear HO2 hcd
    go_wp2
    exact ⟨rfl,HV.out⟩
  ·have HV : Hid (SrcP P s w (.panicked (wrongV 110 s2.hd.2)) w4):=Hd (by rw [HHD.out]; exact src_bad HR.out HA.out.only (HO.out _ (if_neg hk)))
   have hke : (tk == 1) = false:=by simpa using hk
   have hkn : (tk != 1) = true:=by simpa using hk
   clear HO hk
   go_wp2_with fail
   refine (giveUp_any P s2 _ HA.out.pa).mono ?_
   rintro e w' ⟨rfl,hw⟩
   replace hw:=hw.symm
   subst hw
   go_wp2
   exact ⟨rfl,HV.out⟩

theorem setsL_at {b : Nat} {t : TypeId} : ∀ (vs : List Value) (w : World) (cs : Array Value) (i : Nat),w.heap[b]? = some (.cells cs t (0,0)) → (setsL w b i vs).heap[b]? = some (.cells (putsA cs i vs) t (0,0))
 | [],_,_,_,h => h
 | v :: vs,_,_,_,h => setsL_at vs _ _ _ (set_at h v)

theorem setsL_off {b k : Nat} (hk : k ≠ b) : ∀ (vs : List Value) (w : World) (i : Nat),(setsL w b i vs).heap[k]? = w.heap[k]?
 | [],_,_ => rfl
 | v :: vs,_,_ => (setsL_off hk vs _ _).trans (set_off v hk)

theorem setsL_only {b : Nat} {Z : Nat → Prop} (hz : Z b) : ∀ (vs : List Value) (w : World) (i : Nat),Only Z w (setsL w b i vs)
 | [],w,_ => Only.refl _ w
 | v :: vs,w,i => ((Only.refl Z w).setCell (p:=⟨b,i,none⟩) hz v).trans (setsL_only hz vs _ _)

theorem setsL_full {b : Nat} {t : TypeId} {w : World} {cs : Array Value} (vs : List Value) (h : w.heap[b]? = some (.cells cs t (0,0))) (hl : vs.length = cs.size) : (setsL w b 0 vs).heap[b]? = some (.cells vs.toArray t (0,0)):=by
 have e : putsA cs 0 vs = vs.toArray:=by
  apply Array.toList_inj.1
  rw [putsA_list vs cs 0 (by omega)]
  simp [hl]
 rw [setsL_at vs w cs 0 h,e]

theorem Tryz.assertW (v : Value) (W : World) : (Instr.typeAssert (.iface 58 v) 20 58 true).run Tryz.prog W = .ok (.tuple #[v,.bool true]) W:=by kernel_rfl

theorem Tryz.assertN (W : World) : (Instr.typeAssert .nilIface 20 58 true).run Tryz.prog W = .ok (.tuple #[.agg #[Vi 0,Vi 0],.bool false]) W:=by kernel_rfl

theorem catch_wrong (b1 b2 : Nat) (c x : Int) (o0 o1 o2 o3 o4 o5 o6 o7 o8 o9 o10 o11 o12 f0 f1 : Value) (w : World) (h1 : w.heap[b1]? = some (.cells #[o0,o1,o2,o3,o4,o5,o6,o7,o8,o9,o10,o11,o12] 27 (0,0))) (h2 : w.heap[b2]? = some (.cells #[f0,f1] 35 (0,0))) (hne : b1 ≠ b2) : CallsD Tryz.prog 26 #[.pointer (some ⟨b1,0,none⟩),.pointer (some ⟨b2,0,none⟩)] (.panicking [{ v:=.iface 58 (.agg #[Vi c,Vi x]),recovered:=false }]) w fun e u' w' => e = .returned (.tuple #[]) ∧ u' = .panicking [{ v:=.iface 58 (.agg #[Vi c,Vi x]),recovered:=true }] ∧ w'.heap[b1]? = some (.cells Vq 27 (0,0)) ∧ w'.heap[b2]? = some (.cells #[Vi c,Vi x] 35 (0,0)) ∧ Only (fun k => k = b1 ∨ k = b2) w w':=by
 have hta:=Tryz.assertW
 have hl1:=(Gx h1)
 have hl2:=(Gx h2)
 obtain ⟨W,hW⟩:=Vx (w.alloc (.cells #[Vi c,Vi x] 58))
 have k1 : W.heap[b1]? = some (.cells #[o0,o1,o2,o3,o4,o5,o6,o7,o8,o9,o10,o11,o12] 27 (0,0)):=hW ▸ (alloc_off hl1 _).trans h1
 have k2 : W.heap[b2]? = some (.cells #[f0,f1] 35 (0,0)):=hW ▸ (alloc_off hl2 _).trans h2
 have k3 : W.heap[w.heap.size]? = some (.cells #[Vi c,Vi x] 58 (0,0)):=hW ▸ heap_alloc_new w _
 have KB : Hid (Below w.heap.size w W):=hW ▸ (Below.refl _ _).alloc (Nat.le_refl _) _
 obtain ⟨⟨a0,a1,a2,a3,a4,a5,a6,a7,a8,a9,a10,a11,a12⟩,af0,af1,af2,af3,af4,af5,af6,af7,af8,af9,af10,af11,af12⟩:=thirt_of k1
 have q0 : W.cell? ⟨b2,0,none⟩ = some f0:=by simp [World.cell?,k2]
 have q1 : W.cell? ⟨b2,1,none⟩ = some f1:=by simp [World.cell?,k2]
 have qf0 : W.frozen? ⟨b2,0,none⟩ = false:=by simp [World.frozen?,k2]
 have qf1 : W.frozen? ⟨b2,1,none⟩ = false:=by simp [World.frozen?,k2]
 have e0 : W.cell? ⟨w.heap.size,0,none⟩ = some (Vi c):=by simp [World.cell?,k3]
 have e1 : W.cell? ⟨w.heap.size,1,none⟩ = some (Vi x):=by simp [World.cell?,k3]
 have K1:=Hd k1
 have K2:=Hd k2
 have hn2 : ¬ b2 = b1:=fun e => hne e.symm
 have hn3 : ¬ b1 = w.heap.size:=by omega
 have hn4 : ¬ b2 = w.heap.size:=by omega
 clear k1 k2 k3 h1 h2
 refine callsD_of_wpS Tryz.func26 rfl fun c₀ cs hu => ?_
 apply wpS_seq
 apply wpS_region
 simp [wpOpsS,go_sem,recoverD,hu,Tryz.ntmps26,Exit.thenS]
 refine wpS_of_wp ?_
 simp only [show (Array.replicate 15 (undef : Value)) = #[undef,undef,undef,undef,undef,undef,undef,undef,undef,undef,undef,undef,undef,undef,undef] from rfl,Sa,Sb,Sc,List.append_toArray,List.cons_append,List.nil_append]
 go_wp2_with fail
 clear hW
 go_region
 obtain ⟨W8,hW8⟩:=Vx (setsL (setsL W b1 0 [Vi 0,Vs,Vs,Vn,Vn,Vn,.bool false,Vn,Vn,Vn,Vn,Vi 0,Vi 0]) b2 0 [Vi c,Vi x])
 have R1 : Hid (W8.heap[b1]? = some (.cells Vq 27 (0,0))):=Hd (hW8 ▸ (setsL_off hne _ _ _).trans (setsL_full [Vi 0,Vs,Vs,Vn,Vn,Vn,.bool false,Vn,Vn,Vn,Vn,Vi 0,Vi 0] K1.out rfl))
 have R2 : Hid (W8.heap[b2]? = some (.cells #[Vi c,Vi x] 35 (0,0))):=Hd (hW8 ▸ setsL_full [Vi c,Vi x] ((setsL_off (fun e => hne e.symm) _ _ _).trans K2.out) rfl)
 have R3 : Hid (Only (fun k => k = b1 ∨ k = b2) w W8):=(Only.of KB.out).trans (hW8 ▸ (setsL_only (Or.inl rfl) _ _ _).trans (setsL_only (Or.inr rfl) _ _ _))
 simp only [setsL,Nat.reduceAdd] at hW8
 rw [hW8]
 clear hW8 a0 a1 a2 a3 a4 a5 a6 a7 a8 a9 a10 a11 a12 af0 af1 af2 af3 af4 af5 af6 af7 af8 af9 af10 af11 af12 q0 q1 qf0 qf1 e0 e1
 have hR1 : W8.drew.heap[b1]? = _:=R1.out
 have hR2 : W8.drew.heap[b2]? = _:=R2.out
 have hR3 : Only (fun k => k = b1 ∨ k = b2) w W8.drew:=R3.out.trans (Only.of (Below.refl _ _).drew)
 have RR:=Hd (And.intro hR1 (And.intro hR2 hR3))
 clear hR1 hR2 hR3
 obtain ⟨W9,hW9⟩:=Vx W8.drew
 rw [hW9] at RR ⊢
 clear hW9
 go_wp2
 simp [bodyPostS,results,Tryz.results26]
 exact RR.out

theorem catch_idle (b1 b2 : Nat) (w : World) : CallsD Tryz.prog 26 #[.pointer (some ⟨b1,0,none⟩),.pointer (some ⟨b2,0,none⟩)] .returning w fun e u' w' => e = .returned (.tuple #[]) ∧ u' = .returning ∧ Below w.heap.size w w':=by
 have hta:=Tryz.assertN
 refine callsD_of_wpS Tryz.func26 rfl fun c₀ cs hu => ?_
 apply wpS_seq
 apply wpS_region
 simp [wpOpsS,go_sem,recoverD,hu,Tryz.ntmps26,Exit.thenS]
 refine wpS_of_wp ?_
 simp only [show (Array.replicate 15 (undef : Value)) = #[undef,undef,undef,undef,undef,undef,undef,undef,undef,undef,undef,undef,undef,undef,undef] from rfl,Sa,Sb,Sc,List.append_toArray,List.cons_append,List.nil_append]
 go_wp2
 have hb : Below w.heap.size w (w.alloc (.cells #[Vi 0,Vi 0] 58)):=(Below.refl _ _).alloc (Nat.le_refl _) _
 cases c₀
 simp_all [bodyPostS,results,Tryz.results26]

theorem toks_wf {l : List UInt8} {a : Nat} {ts : List (Tk × Nat)} (h : Toks l a ts) : Wf ts:=by
 induction h with
 | fin _ => rfl
 | @more l a t ts hne ht _ ih =>
  have hk : t.1 ≠ 1:=by
   obtain ⟨c,q,hs,hq⟩:=pce_cons hne
   rw [hq] at ht
   have:=tokR_kind c _ (by rw [ht])
   rw [ht] at this
   simp only at this
   omega
  cases ts with
  | nil => exact absurd ih (fun h => h)
  | cons u l => exact ⟨hk,ih⟩

theorem tc_get : ∀ (l : List (Tk × Nat)) (i : Nat) (h : i < l.length),(tc l)[i * 4]? = some (Vi l[i].1.1) ∧ (tc l)[i * 4 + 1]? = some (Vi l[i].1.2.1) ∧ (tc l)[i * 4 + 2]? = some (.string l[i].1.2.2) ∧ (tc l)[i * 4 + 3]? = some (Vi (l[i].2 : Int))
 | t :: l,0,_ => ⟨rfl,rfl,rfl,rfl⟩
 | t :: l,i + 1,h => by
  have:=tc_get l i (by simpa using h)
  have e : (i + 1) * 4 = i * 4 + 4:=by omega
  rw [e]
  exact this

theorem tr_own {w : World} {B : Nat} {v : Value} {ts : List (Tk × Nat)} (h : w.ownsRow B 97 4 v ts.length (tc ts)) (hne : ts ≠ []) : ∃ g c,v = .slice (some ⟨g,0,none⟩) ts.length c ∧ B ≤ g ∧ g < w.heap.size ∧ ts.length ≤ c ∧ TR w (some ⟨g,0,none⟩) ts:=by
 have hh:=h
 have hn:=List.length_pos_iff.2 hne
 obtain ⟨hl,⟨rfl,e⟩ | ⟨g,cap,cur,rfl,hb,hg,hn2,hm,hs,ht⟩⟩:=h
 ·omega
 ·refine ⟨g,cap,rfl,hb,(Gx hg),hn2,fun i hi => ⟨g,0,rfl,?_⟩⟩
  obtain ⟨a0,a1,a2,a3⟩:=tc_get ts i hi
  have key : ∀ j u,(tc ts)[j]? = some u → w.cell? ⟨g,0 + j,none⟩ = some u:=fun j u hu => by
   have:=hh.cells (g:=g) rfl j u hu
   rw [add_lit0] at this
   rw [Nat.zero_add]
   exact this
  exact ⟨key _ _ a0,by have:=key _ _ a1; rwa [← Nat.add_assoc] at this,by have:=key _ _ a2; rwa [← Nat.add_assoc] at this,by have:=key _ _ a3; rwa [← Nat.add_assoc] at this⟩

def ParseIs (s : ByteArray) (o : Out) : Prop:=∃ l p c,ScanIs s l p c ∧ ((c ≠ 0 ∧ o = .fault c p) ∨ (c = 0 ∧ ∃ r,stR ⟨l,0,0⟩ r ∧ o = outOf r))

theorem ParseIs.one {s : ByteArray} {o o' : Out} (h : ParseIs s o) (k : ParseIs s o') : o = o':=by
 obtain ⟨l,p,c,h1,h2⟩:=h
 obtain ⟨l',p',c',k1,k2⟩:=k
 obtain ⟨rfl,rfl,rfl⟩:=h1.one k1
 rcases h2 with ⟨hc,rfl⟩ | ⟨hc,r,hr,rfl⟩ <;> rcases k2 with ⟨kc,rfl⟩ | ⟨kc,r',kr,rfl⟩
 ·rfl
 ·exact absurd kc hc
 ·exact absurd hc kc
 ·rw [Det.st _ _ _ hr kr]

def ParseP (s : ByteArray) (w : World) (e : Ending) (w' : World) : Prop:=∃ o,ParseIs s o ∧ Below w.heap.size w w' ∧ match o with
 | .fault c p => ∃ v,e = .returned (.tuple #[v,.agg #[Vi c,Vi p]]) ∧ StV w' w.heap.size st0 v
 | .st t => ∃ v,e = .returned (.tuple #[v,.agg #[Vi 0,Vi 0]]) ∧ StV w' w.heap.size t v

theorem st0_v (w : World) (B : Nat) : StV w B st0 (.agg Vq):=⟨none,none,none,none,none,none,none,0,0,0,0,0,0,0,rfl,⟨XL.nil _ _,XL.nil _ _,XL.nil _ _,SeL.nil _ _,XL.nil _ _,SoL.nil _ _,IL.nil _ _⟩⟩

theorem parse_fault {s : ByteArray} {w w' : World} {c p : Int} (h : ParseIs s (.fault c p)) (hb : Below w.heap.size w w') : ParseP s w (.returned (.tuple #[.agg Vq,.agg #[Vi c,Vi p]])) w':=⟨_,h,hb,_,rfl,st0_v _ _⟩

theorem parse_st {s : ByteArray} {w w' : World} {t : St} {v : Value} (h : ParseIs s (.st t)) (hb : Below w.heap.size w w') (hv : StV w' w.heap.size t v) : ParseP s w (.returned (.tuple #[v,.agg #[Vi 0,Vi 0]])) w':=⟨_,h,hb,v,rfl,hv⟩

theorem only_below {w0 w w' : World} {Z : Nat → Prop} (h : Below w0.heap.size w0 w) (ho : Only Z w w') (hz : ∀ k,Z k → w0.heap.size ≤ k) : Below w0.heap.size w0 w':=⟨ho.os.trans h.os,ho.tape.trans h.tape,ho.output.trans h.output,Nat.le_trans h.size ho.size,fun k hk => (ho.block k (Nat.lt_of_lt_of_le hk h.size) fun z => by have:=hz k z; omega).trans (h.block k hk)⟩

theorem synParse_any (s : ByteArray) (w : World) (hv : SV w) : Calls Tryz.prog 11 #[.string s] w (ParseP s w):=by
 have hmf : ∀ (fn : Fn) (first cap : Array Value) (w : World),(Instr.makeFunc fn first cap).run Tryz.prog w = .ok (.func fn first cap) w:=fun _ _ _ _ => rfl
 obtain ⟨W1,hW1⟩:=Vx (w.alloc (.cells Vq 27))
 have hs1 : W1.heap.size = w.heap.size + 1:=hW1 ▸ (by simp)
 have r1 : W1.heap[w.heap.size]? = some (.cells Vq 27 (0,0)):=hW1 ▸ heap_alloc_new w _
 have k1 : Below w.heap.size w W1:=hW1 ▸ (Below.refl _ _).alloc (Nat.le_refl _) _
 obtain ⟨W2,hW2⟩:=Vx (W1.alloc (.cells #[Vi 0,Vi 0] 35))
 have r2 : W2.heap[w.heap.size + 1]? = some (.cells #[Vi 0,Vi 0] 35 (0,0)):=by have:=heap_alloc_new W1 (.cells #[Vi 0,Vi 0] 35); rw [hW2,hs1] at this; exact this
 have k2 : Below W1.heap.size W1 W2:=hW2 ▸ (Below.refl _ _).alloc (Nat.le_refl _) _
 have R1 : Hid (W2.heap[w.heap.size]? = some (.cells Vq 27 (0,0))):=(k2.block _ (by omega)).trans r1
 have R2:=Hd r2
 have HB : Hid (Below w.heap.size w W2):=k1.trans (k2.mono k1.size)
 have HV:=Hd (hv.later (k1.trans (k2.mono k1.size)))
 have HS1:=Hd hs1
 clear hs1 r1 r2 k1 k2 hv
 go_enter_defers Tryz.func11,Tryz.ntmps11
 go_wp2_with fail
 clear hW1 hW2
 rw [HS1.out]
 refine (scan_any s W2 HV.out).mono ?_
 rintro e w3 ⟨la,lc,ts,p,c,rfl,hsc,hown,hlen,hb3⟩
 have R13:=Hd ((hb3.block _ (Gx R1.out)).trans R1.out)
 have R23:=Hd ((hb3.block _ (Gx R2.out)).trans R2.out)
 have HB3:=Hd (HB.out.trans (hb3.mono HB.out.size))
 have HSC:=Hd hsc
 have HOW:=Hd hown
 have hs3 : w.heap.size + 1 < w3.heap.size:=(Gx R23.out)
 have hs2 : w.heap.size + 1 < W2.heap.size:=(Gx R2.out)
 clear hb3 hsc hown R1 R2 HB HV HS1
 by_cases hc : c = 0
 ·subst hc
  have htk : Toks s.data.toList 0 ts ∧ p = 0:=by
   rcases HSC.out with ⟨_,_,_,h⟩ | ⟨_,⟨_,hp,h⟩ | ⟨_,h⟩⟩
   ·exact absurd h (by decide)
   ·exact ⟨h,hp⟩
   ·exact absurd rfl h.ne
  have HWF:=Hd (toks_wf htk.1)
  obtain ⟨g,c9,e9,hBg,hgl,hnc,htr⟩:=tr_own HOW.out HWF.out.ne
  injection e9 with e1 _ e3
  subst e1 e3
  have HPI : Hid (∀ r,stR ⟨ts,0,0⟩ r → ParseIs s (outOf r)):=fun r hr => ⟨ts,p,0,HSC.out,Or.inr ⟨rfl,r,hr,rfl⟩⟩
  obtain ⟨W4,hW4⟩:=Vx (w3.alloc (.cells #[.slice (some ⟨g,0,none⟩) ts.length lc,Vi 0,Vi 0] 63))
  have r4 : W4.heap[w3.heap.size]? = some (.cells #[.slice (some ⟨g,0,none⟩) ts.length lc,Vi 0,Vi 0] 63 (0,0)):=hW4 ▸ heap_alloc_new w3 _
  have k4 : Below w3.heap.size w3 W4:=hW4 ▸ (Below.refl _ _).alloc (Nat.le_refl _) _
  have HPA : Hid (PA W4 w3.heap.size ⟨ts,0,0⟩):=⟨HWF.out,g,0,lc,r4,htr.block (k4.block g hgl),hgl,hnc,hlen⟩
  have R14:=Hd ((k4.block _ (Gx R13.out)).trans R13.out)
  have R24:=Hd ((k4.block _ hs3).trans R23.out)
  have HB4:=Hd (HB3.out.trans (k4.mono HB3.out.size))
  have hs5:=k4.size
  clear r4 k4 htr R13 R23 HB3 HOW htk HSC
  have HW4:=Hd hW4
  clear hW4
  go_wp2_with fail
  rw [HW4.out]
  clear HW4
  refine (source_any w3.heap.size ⟨ts,0,0⟩ W4 HPA.out).mono ?_
  rintro e w5 ⟨r,hr,ho,hm⟩
  have HP5:=Hd (HPI.out r hr)
  have R15:=Hd (ho.at R14.out (by omega))
  have R25:=Hd (ho.at R24.out (by omega))
  have HB5:=Hd (only_below HB4.out ho (fun k hk => by omega))
  have hs4:=HB4.out.size
  clear ho hr R14 R24 HPA HPI
  cases hO : outOf r with
  | fault c p =>
   rw [hO] at hm HP5
   have hm2 : e = .panicked (wrongV c p):=hm
   rw [hm2]
   clear hm hm2 hO HB4
   unfold wrongV
   go_wp2
   refine leaves_cons (f:=26) (args:=#[.pointer (some ⟨w.heap.size,0,none⟩),.pointer (some ⟨w.heap.size + 1,0,none⟩)]) (by simp) (by simp [go_sem]) ?_
   refine (catch_wrong w.heap.size (w.heap.size + 1) c p _ _ _ _ _ _ _ _ _ _ _ _ _ _ _ w5 R15.out R25.out (by omega)).mono ?_
   rintro e u' w6 ⟨rfl,rfl,k1,k2,ho⟩
   have HB6:=Hd (only_below HB5.out ho (fun k hk => by omega))
   clear ho
   have zy:=(thirt_of k1).1
   have z0 : w6.cell? ⟨w.heap.size + 1,0,none⟩ = some (Vi c):=by simp [World.cell?,k2]
   have z1 : w6.cell? ⟨w.heap.size + 1,1,none⟩ = some (Vi p):=by simp [World.cell?,k2]
   have HF:=Hd (parse_fault HP5.out HB6.out)
   simp [Leaves,settle,results,Tryz.results11,go_sem,zy,z0,z1]
   exact HF.out
  | st t =>
   rw [hO] at hm HP5
   obtain ⟨v,rfl,⟨a0,a1,a2,a3,a4,a5,a6,c0,c1,c2,c3,c4,c5,c6,rfl,hx⟩⟩:=hm
   have hx9:=hx
   clear hx hO HB4
   simp only [stC]
   obtain ⟨⟨a_0,a_1,a_2,a_3,a_4,a_5,a_6,a_7,a_8,a_9,a_10,a_11,a_12⟩,a_f0,a_f1,a_f2,a_f3,a_f4,a_f5,a_f6,a_f7,a_f8,a_f9,a_f10,a_f11,a_f12⟩:=thirt_of R15.out
   have z0 : w5.cell? ⟨w.heap.size + 1,0,none⟩ = some (Vi 0):=by simp [World.cell?,R25.out]
   have z1 : w5.cell? ⟨w.heap.size + 1,1,none⟩ = some (Vi 0):=by simp [World.cell?,R25.out]
   have zf0 : w5.frozen? ⟨w.heap.size + 1,0,none⟩ = false:=by simp [World.frozen?,R25.out]
   have zf1 : w5.frozen? ⟨w.heap.size + 1,1,none⟩ = false:=by simp [World.frozen?,R25.out]
   have hn1 : ¬ w.heap.size = w.heap.size + 1:=by omega
   go_wp2
   obtain ⟨W8,hW8⟩:=Vx (setsL (setsL w5 w.heap.size 0 [Vi t.kind,.string t.table,.string t.join,.slice a0 t.on.length c0,.slice a1 t.whr.length c1,.slice a2 t.items.length c2,.bool t.star,.slice a3 t.sets.length c3,.slice a4 t.groups.length c4,.slice a5 t.sorts.length c5,.slice a6 t.limit.length c6,Vi t.place,Vi t.joinAt]) (w.heap.size + 1) 0 [Vi 0,Vi 0])
   have K1 : Hid (W8.heap[w.heap.size]? = some (.cells (Vt t.kind t.table t.join (.slice a0 t.on.length c0) (.slice a1 t.whr.length c1) (.slice a2 t.items.length c2) t.star (.slice a3 t.sets.length c3) (.slice a4 t.groups.length c4) (.slice a5 t.sorts.length c5) (.slice a6 t.limit.length c6) t.place t.joinAt) 27 (0,0))):=Hd (hW8 ▸ (setsL_off hn1 _ _ _).trans (setsL_full [Vi t.kind,.string t.table,.string t.join,.slice a0 t.on.length c0,.slice a1 t.whr.length c1,.slice a2 t.items.length c2,.bool t.star,.slice a3 t.sets.length c3,.slice a4 t.groups.length c4,.slice a5 t.sorts.length c5,.slice a6 t.limit.length c6,Vi t.place,Vi t.joinAt] R15.out rfl))
   have K2 : Hid (W8.heap[w.heap.size + 1]? = some (.cells #[Vi 0,Vi 0] 35 (0,0))):=Hd (hW8 ▸ setsL_full [Vi 0,Vi 0] ((setsL_off (fun e => hn1 e.symm) _ _ _).trans R25.out) rfl)
   have HO8 : Hid (Only (fun k => k = w.heap.size ∨ k = w.heap.size + 1) w5 W8):=hW8 ▸ (setsL_only (Or.inl rfl) _ _ _).trans (setsL_only (Or.inr rfl) _ _ _)
   simp only [setsL,Nat.reduceAdd] at hW8
   rw [hW8]
   clear hW8 a_0 a_1 a_2 a_3 a_4 a_5 a_6 a_7 a_8 a_9 a_10 a_11 a_12 a_f0 a_f1 a_f2 a_f3 a_f4 a_f5 a_f6 a_f7 a_f8 a_f9 a_f10 a_f11 a_f12 z0 z1 zf0 zf1
   have HB8:=Hd (only_below HB5.out HO8.out (fun k hk => by omega))
   refine leaves_cons (f:=26) (args:=#[.pointer (some ⟨w.heap.size,0,none⟩),.pointer (some ⟨w.heap.size + 1,0,none⟩)]) (by simp) (by simp [go_sem]) ?_
   refine (catch_idle w.heap.size (w.heap.size + 1) W8).mono ?_
   rintro e u' w6 ⟨rfl,rfl,hb6⟩
   have k1:=(hb6.block _ (Gx K1.out)).trans K1.out
   have k2:=(hb6.block _ (Gx K2.out)).trans K2.out
   have HB6:=Hd (HB8.out.trans (hb6.mono HB8.out.size))
   have HX6:=Hd (hx9.keep fun g hg hl => (hb6.block g (Nat.lt_of_lt_of_le hl HO8.out.size)).trans (HO8.out.block g hl (fun z => by omega)))
   have HX7:=Hd (HX6.out.mono (B':=w.heap.size) (by omega))
   clear hb6
   have zy:=(thirt_of k1).1
   have x0 : w6.cell? ⟨w.heap.size + 1,0,none⟩ = some (Vi 0):=by simp [World.cell?,k2]
   have x1 : w6.cell? ⟨w.heap.size + 1,1,none⟩ = some (Vi 0):=by simp [World.cell?,k2]
   have HF:=Hd (parse_st HP5.out HB6.out (v:=.agg (Vt t.kind t.table t.join (.slice a0 t.on.length c0) (.slice a1 t.whr.length c1) (.slice a2 t.items.length c2) t.star (.slice a3 t.sets.length c3) (.slice a4 t.groups.length c4) (.slice a5 t.sorts.length c5) (.slice a6 t.limit.length c6) t.place t.joinAt)) ⟨a0,a1,a2,a3,a4,a5,a6,c0,c1,c2,c3,c4,c5,c6,rfl,HX7.out⟩)
   simp [Leaves,settle,results,Tryz.results11,go_sem,zy,x0,x1]
   exact HF.out
 ·have HPI : Hid (ParseIs s (.fault c p)):=⟨ts,p,c,HSC.out,Or.inl ⟨hc,rfl⟩⟩
  have hce : (c == 0) = false:=by simpa using hc
  have hcn : (c != 0) = true:=by simpa using hc
  clear hc HSC HOW
  obtain ⟨⟨a_0,a_1,a_2,a_3,a_4,a_5,a_6,a_7,a_8,a_9,a_10,a_11,a_12⟩,a_f0,a_f1,a_f2,a_f3,a_f4,a_f5,a_f6,a_f7,a_f8,a_f9,a_f10,a_f11,a_f12⟩:=thirt_of R13.out
  have z0 : w3.cell? ⟨w.heap.size + 1,0,none⟩ = some (Vi 0):=by simp [World.cell?,R23.out]
  have z1 : w3.cell? ⟨w.heap.size + 1,1,none⟩ = some (Vi 0):=by simp [World.cell?,R23.out]
  have zf0 : w3.frozen? ⟨w.heap.size + 1,0,none⟩ = false:=by simp [World.frozen?,R23.out]
  have zf1 : w3.frozen? ⟨w.heap.size + 1,1,none⟩ = false:=by simp [World.frozen?,R23.out]
  have hn1 : ¬ w.heap.size = w.heap.size + 1:=by omega
  go_wp2
  obtain ⟨W8,hW8⟩:=Vx (setsL (setsL w3 w.heap.size 0 [Vi 0,Vs,Vs,Vn,Vn,Vn,.bool false,Vn,Vn,Vn,Vn,Vi 0,Vi 0]) (w.heap.size + 1) 0 [Vi c,Vi (p : Int)])
  have K1 : Hid (W8.heap[w.heap.size]? = some (.cells Vq 27 (0,0))):=Hd (hW8 ▸ (setsL_off hn1 _ _ _).trans (setsL_full [Vi 0,Vs,Vs,Vn,Vn,Vn,.bool false,Vn,Vn,Vn,Vn,Vi 0,Vi 0] R13.out rfl))
  have K2 : Hid (W8.heap[w.heap.size + 1]? = some (.cells #[Vi c,Vi (p : Int)] 35 (0,0))):=Hd (hW8 ▸ setsL_full [Vi c,Vi (p : Int)] ((setsL_off (fun e => hn1 e.symm) _ _ _).trans R23.out) rfl)
  have HO8 : Hid (Only (fun k => k = w.heap.size ∨ k = w.heap.size + 1) w3 W8):=hW8 ▸ (setsL_only (Or.inl rfl) _ _ _).trans (setsL_only (Or.inr rfl) _ _ _)
  simp only [setsL,Nat.reduceAdd] at hW8
  rw [hW8]
  clear hW8 a_0 a_1 a_2 a_3 a_4 a_5 a_6 a_7 a_8 a_9 a_10 a_11 a_12 a_f0 a_f1 a_f2 a_f3 a_f4 a_f5 a_f6 a_f7 a_f8 a_f9 a_f10 a_f11 a_f12 z0 z1 zf0 zf1
  have HB8:=Hd (only_below HB3.out HO8.out (fun k hk => by omega))
  have zy:=(thirt_of K1.out).1
  have x0 : W8.cell? ⟨w.heap.size + 1,0,none⟩ = some (Vi c):=by simp [World.cell?,K2.out]
  have x1 : W8.cell? ⟨w.heap.size + 1,1,none⟩ = some (Vi (p : Int)):=by simp [World.cell?,K2.out]
  have HF:=Hd (parse_fault HPI.out HB8.out)
  simp [bodyPostD,Leaves,results,Tryz.results11,go_sem,zy,x0,x1]
  exact HF.out
end Go.Proofs.YtbfjmccpcbhljaaGreatDoor
