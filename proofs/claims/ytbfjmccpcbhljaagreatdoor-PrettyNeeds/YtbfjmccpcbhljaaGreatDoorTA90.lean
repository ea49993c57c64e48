/- A90 A91 A92 A93 A94d A105d -/
import Derived.Test.YtbfjmccpcbhljaaGreatDoorTA78
import Derived.Deep.QuietTactic
set_option maxHeartbeats 8000000
set_option maxRecDepth 100000
namespace Go.Proofs.YtbfjmccpcbhljaaGreatDoor
open Go.RowKit
def EqPost (Q : Prop) (w : World) (e : Ending) (w' : World) : Prop:=(∃ b,e = .returned (.bool b) ∧ (b = true ↔ Q)) ∧ Below w.heap.size w w'

theorem eq_yes {Q : Prop} {w w' : World} (h : Q) (hb : Below w.heap.size w w') : EqPost Q w (.returned (.bool true)) w':=⟨⟨true,rfl,fun _ => h,fun _ => rfl⟩,hb⟩

theorem eq_no {Q : Prop} {w w' : World} (h : ¬ Q) (hb : Below w.heap.size w w') : EqPost Q w (.returned (.bool false)) w':=⟨⟨false,rfl,fun k => absurd k (by simp),fun k => absurd k h⟩,hb⟩

inductive SmX : Ex → Ex → Prop
 | mk {kind op : Int} {v : V3} {t n : ByteArray} {ks ls : List Ex} {p q : Int} (h1 : ks.length = ls.length) (h2 : ∀ i (h : i < ks.length) (h' : i < ls.length),SmX ks[i] ls[i]) : SmX (.mk kind op v t n ks p) (.mk kind op v t n ls q)

def SmXs (a b : List Ex) : Prop:=a.length = b.length ∧ ∀ i (h : i < a.length) (h' : i < b.length),SmX a[i] b[i]

theorem SmX.iff {k1 o1 k2 o2 : Int} {v1 v2 : V3} {t1 n1 t2 n2 : ByteArray} {ks ls : List Ex} {p q : Int} : SmX (.mk k1 o1 v1 t1 n1 ks p) (.mk k2 o2 v2 t2 n2 ls q) ↔ k1 = k2 ∧ o1 = o2 ∧ v1 = v2 ∧ t1 = t2 ∧ n1 = n2 ∧ SmXs ks ls:=by
 constructor
 ·intro h
  cases h with
  | mk h1 h2 => exact ⟨rfl,rfl,rfl,rfl,rfl,h1,h2⟩
 ·rintro ⟨rfl,rfl,rfl,rfl,rfl,h1,h2⟩
  exact SmX.mk h1 h2

theorem eqfunc_x (w : World) (a1 a2 : Option Addr) (c1 c2 : Nat) (es fs : List Ex) (ks ls : List Value) (P : Nat → Prop) (hl1 : es.length ≤ 9223372036854775807) (hk1 : es.length = ks.length) (hk2 : fs.length = ls.length) (hr1 : XRow w a1 es ks) (hr2 : XRow w a2 fs ls) (hs1 : ∀ i (h' : i < ks.length),∃ p m c,ks[i] = .slice p m c) (hs2 : ∀ i (h' : i < ls.length),∃ p m c,ls[i] = .slice p m c) (hC : ∀ k (h1 : k < es.length) (h1' : k < ks.length) (h2 : k < fs.length) (h2' : k < ls.length) w1,Below w.heap.size w w1 → Calls Tryz.prog 74 #[.agg (exC es[k] ks[k]).toArray,.agg (exC fs[k] ls[k]).toArray] w1 (EqPost (P k) w1)) : Calls Tryz.prog 73 #[.slice a1 es.length c1,.slice a2 fs.length c2,.func (.func 74) #[] #[]] w (EqPost (es.length = fs.length ∧ ∀ k,k < es.length → P k) w):=by
 obtain ⟨Q,hQ⟩:=Vx (es.length = fs.length ∧ ∀ k,k < es.length → P k)
 rw [hQ]
 have HQ:=Hd hQ
 clear hQ
 have HR1:=Hd hr1
 have HR2:=Hd hr2
 have HC:=Hd hC
 have HS1:=Hd hs1
 have HS2:=Hd hs2
 have HK1:=Hd hk1
 have HK2:=Hd hk2
 clear hr1 hr2 hC hs1 hs2 hk1 hk2
 by_cases hlen : es.length = fs.length
 ·have HLN:=Hd hlen
  obtain ⟨n,hn⟩:=Vx fs.length
  have hn1 : es.length = n:=hlen.trans hn
  have HN:=Hd (And.intro hn1 hn)
  rw [hn1] at hl1
  rw [hn1,hn]
  clear hn hn1 hlen
  go_enter Tryz.func73,Tryz.ntmps73
  go_wp2
  go_loopw [17] (fun i wr => ∃ k : Nat,k ≤ n ∧ i = Vi (k : Int) ∧ (∀ j,j < k → P j) ∧ Below w.heap.size w wr) (fun i _ => n - (intOf i).toNat)
  case atStart => exact ⟨0,Nat.zero_le _,rfl,fun j g => absurd g (Nat.not_lt_zero _),Below.refl _ _⟩
  case round =>
   obtain ⟨k,hk,rfl,hall,hb⟩:=hrel
   have HA:=Hd hall
   have HB:=Hd hb
   have hsz:=hb.size
   clear hall hb
   by_cases hlt : k < n
   ·have hlti : (k : Int) < (n : Int):=by omega
    have x1 : k < es.length:=by rw [HN.out.1]; exact hlt
    have x2 : k < fs.length:=by rw [HN.out.2]; exact hlt
    have y1 : k < ks.length:=by rw [← HK1.out]; exact x1
    have y2 : k < ls.length:=by rw [← HK2.out]; exact x2
    obtain ⟨b1,f1,rfl,g1⟩:=HR1.out k x1 y1
    obtain ⟨b2,f2,rfl,g2⟩:=HR2.out k x2 y2
    obtain ⟨pa,ma,ca,ha⟩:=HS1.out k y1
    obtain ⟨pb,mb,cb,hb⟩:=HS2.out k y2
    have HCk:=Hd (HC.out k x1 y1 x2 y2)
    rw [ha] at g1 HCk
    rw [hb] at g2 HCk
    obtain ⟨⟨kka,ooa,⟨v1a,v2a,v3a⟩,tta,nna,ksa,ppa⟩,ea⟩ : ∃ x,es[k] = x:=⟨_,rfl⟩
    obtain ⟨⟨kkb,oob,⟨v1b,v2b,v3b⟩,ttb,nnb,ksb,ppb⟩,eb⟩ : ∃ x,fs[k] = x:=⟨_,rfl⟩
    rw [ea] at g1 HCk
    rw [eb] at g2 HCk
    clear ea eb ha hb x1 x2 y1 y2
    simp only [exC] at HCk
    have G1 : Hid (∀ j u,[Vi kka,Vi ooa,Vi v1a,Vi v2a,.string v3a,.string tta,.string nna,.slice pa ma ca,Vi ppa][j]? = some u → w.cell? ⟨b1,f1 + k * 9 + j,none⟩ = some u):=g1
    have G2 : Hid (∀ j u,[Vi kkb,Vi oob,Vi v1b,Vi v2b,.string v3b,.string ttb,.string nnb,.slice pb mb cb,Vi ppb][j]? = some u → w.cell? ⟨b2,f2 + k * 9 + j,none⟩ = some u):=g2
    clear g1 g2
    have p0:=Cl HB.out (G1.out 0 _ rfl)
    have p1:=Cl HB.out (G1.out 1 _ rfl)
    have p2:=Cl HB.out (G1.out 2 _ rfl)
    have p3:=Cl HB.out (G1.out 3 _ rfl)
    have p4:=Cl HB.out (G1.out 4 _ rfl)
    have p5:=Cl HB.out (G1.out 5 _ rfl)
    have p6:=Cl HB.out (G1.out 6 _ rfl)
    have p7:=Cl HB.out (G1.out 7 _ rfl)
    have p8:=Cl HB.out (G1.out 8 _ rfl)
    obtain ⟨Wa,hWa⟩:=Vx (wr.alloc (.cells (Ve kka ooa v1a v2a v3a tta nna (.slice pa ma ca) ppa) 49))
    have ra : Wa.heap[wr.heap.size]? = some (.cells (Ve kka ooa v1a v2a v3a tta nna (.slice pa ma ca) ppa) 49 (0,0)):=hWa ▸ heap_alloc_new wr _
    have ka : Below wr.heap.size wr Wa:=hWa ▸ (Below.refl _ _).alloc (Nat.le_refl _) _
    have HBa:=Hd (HB.out.trans (ka.mono hsz))
    have q0:=Cl HBa.out (G2.out 0 _ rfl)
    have q1:=Cl HBa.out (G2.out 1 _ rfl)
    have q2:=Cl HBa.out (G2.out 2 _ rfl)
    have q3:=Cl HBa.out (G2.out 3 _ rfl)
    have q4:=Cl HBa.out (G2.out 4 _ rfl)
    have q5:=Cl HBa.out (G2.out 5 _ rfl)
    have q6:=Cl HBa.out (G2.out 6 _ rfl)
    have q7:=Cl HBa.out (G2.out 7 _ rfl)
    have q8:=Cl HBa.out (G2.out 8 _ rfl)
    obtain ⟨Wb,hWb⟩:=Vx (Wa.alloc (.cells (Ve kkb oob v1b v2b v3b ttb nnb (.slice pb mb cb) ppb) 49))
    have rb : Wb.heap[Wa.heap.size]? = some (.cells (Ve kkb oob v1b v2b v3b ttb nnb (.slice pb mb cb) ppb) 49 (0,0)):=hWb ▸ heap_alloc_new Wa _
    have kb : Below Wa.heap.size Wa Wb:=hWb ▸ (Below.refl _ _).alloc (Nat.le_refl _) _
    have ra2:=(kb.block _ (Gx ra)).trans ra
    have HBb:=Hd (HBa.out.trans (kb.mono HBa.out.size))
    have zs:=(nine_of ra2).1
    have zt:=(nine_of rb).1
    clear ra ra2 rb ka kb
    simp only [Nat.add_zero] at p0 q0
    go_wp2_with fail
    clear hWa hWb
    refine (HCk.out _ HBb.out).mono ?_
    rintro e w2 ⟨⟨bb,rfl,hbb⟩,hb2⟩
    have HB2:=Hd (HBb.out.trans (hb2.mono HBb.out.size))
    clear hb2 p0 p1 p2 p3 p4 p5 p6 p7 p8 q0 q1 q2 q3 q4 q5 q6 q7 q8 zs zt
    cases bb with
    | false =>
     have HE : Hid (¬ Q):=HQ.out ▸ fun h => absurd (hbb.2 (h.2 k (by rw [HN.out.1]; exact hlt))) (by simp)
     clear hbb
     go_wp2
     exact bodyPost_ret (v:=.bool false) (by simp [results,Tryz.results73,go_sem]) rfl (eq_no HE.out HB2.out)
    | true =>
     have HA2 : Hid (∀ j,j < k + 1 → P j):=fun j hj => by
      by_cases e : j = k
      ·rw [e]; exact hbb.1 rfl
      ·exact HA.out j (by omega)
     clear hbb
     go_wp2
     go_roundw
     case rel => exact ⟨k + 1,by omega,by go_num,HA2.out,HB2.out⟩
     case measure => simp [intOf]; omega
   ·have hnlt : ¬ (k : Int) < (n : Int):=by omega
    have HE : Hid Q:=HQ.out ▸ ⟨HLN.out,fun j hj => HA.out j (by have:=HN.out.1; omega)⟩
    go_wp2
    exact bodyPost_ret (v:=.bool true) (by simp [results,Tryz.results73,go_sem]) rfl (eq_yes HE.out HB.out)
 ·have hle : ((es.length : Int) != (fs.length : Int)) = true:=by simp; omega
  have HE : Hid (¬ Q):=HQ.out ▸ fun h => hlen h.1
  clear hlen
  go_enter Tryz.func73,Tryz.ntmps73
  go_wp2
  exact bodyPost_ret (v:=.bool false) (by simp [results,Tryz.results73,go_sem]) rfl (eq_no HE.out (Below.refl _ _))

theorem str_ne {a b : ByteArray} (n : ¬ a = b) : (a.toList == b.toList) = false:=by
 rw [ByteArray.toList_eq,ByteArray.toList_eq,beq_eq_false_iff_ne]
 exact fun h => n (ByteArray.ext (Array.toList_inj.1 h))

inductive AllK : Ex → Prop
 | mk {kind op : Int} {v : V3} {t n : ByteArray} {ks : List Ex} {p : Int} (h : ∀ i (h : i < ks.length),AllK ks[i]) : AllK (.mk kind op v t n ks p)

theorem XR.all {w : World} {e : Ex} {k : Value} (h : XR w e k) : AllK e:=by
 induction h with
 | mk ks h1 _ _ _ _ ih => exact AllK.mk fun i hi => ih i hi (by omega)

def PK (es fs : List Ex) (k : Nat) : Prop:=∀ (h : k < es.length) (h' : k < fs.length),SmX es[k] fs[k]

theorem PK_iff (es fs : List Ex) : (es.length = fs.length ∧ ∀ k,k < es.length → PK es fs k) ↔ SmXs es fs:=⟨fun h => ⟨h.1,fun i a b => h.2 i a a b⟩,fun h => ⟨h.1,fun k _ a b => h.2 k a b⟩⟩

theorem EqPost.of {Q R : Prop} {w w' : World} {e : Ending} (h : EqPost Q w e w') (k : Q ↔ R) : EqPost R w e w':=by
 obtain ⟨⟨b,he,hb⟩,hl⟩:=h
 exact ⟨⟨b,he,hb.trans k⟩,hl⟩

theorem sameExprs_step (es fs : List Ex) (a1 a2 : Option Addr) (c1 c2 : Nat) (w : World) (h1 : XLR w es (.slice a1 es.length c1)) (h2 : XLR w fs (.slice a2 fs.length c2)) (ih : ∀ i (h : i < es.length) (f : Ex) (k1 k2 : Value) (w : World),XR w es[i] k1 → XR w f k2 → Calls Tryz.prog 74 #[.agg (exC es[i] k1).toArray,.agg (exC f k2).toArray] w (EqPost (SmX es[i] f) w)) : Calls Tryz.prog 28 #[.slice a1 es.length c1,.slice a2 fs.length c2] w (EqPost (SmXs es fs) w):=by
 obtain ⟨p1,q1,ks,e1,_,hm1,hk1,hr1,hx1⟩:=h1
 obtain ⟨p2,q2,ls,e2,_,_,hk2,hr2,hx2⟩:=h2
 injection e1 with e11 _ e13
 subst e11 e13
 injection e2 with e21 _ e23
 subst e21 e23
 have HE:=Hd (eqfunc_x w a1 a2 c1 c2 es fs ks ls (PK es fs) hm1 hk1 hk2 hr1 hr2 (fun i h' => (hx1 i (by omega) h').slice) (fun i h' => (hx2 i (by omega) h').slice) (fun k g1 g1' g2 g2' w1 hb => (ih k g1 fs[k] ks[k] ls[k] w1 ((hx1 k g1 g1').later hb) ((hx2 k g2 g2').later hb)).mono fun _ _ h => h.of ⟨fun h _ _ => h,fun h => h g1 g2⟩))
 clear hm1 hk1 hr1 hx1 hk2 hr2 hx2 ih
 go_enter Tryz.func28,Tryz.ntmps28
 go_wp2_with fail
 refine HE.out.mono ?_
 intro e w1 he
 obtain ⟨⟨b,rfl,hb⟩,hl⟩:=he.of (PK_iff es fs)
 have HB:=Hd hb
 have HL:=Hd hl
 clear he hb hl
 go_wp2
 exact bodyPost_ret (v:=.bool b) (by simp [results,Tryz.results28,go_sem]) rfl ⟨⟨b,rfl,HB.out⟩,HL.out⟩

theorem sameExpr_any (e : Ex) (hA : AllK e) : ∀ (f : Ex) (k1 k2 : Value) (w : World),XR w e k1 → XR w f k2 → Calls Tryz.prog 74 #[.agg (exC e k1).toArray,.agg (exC f k2).toArray] w (EqPost (SmX e f) w):=by
 induction hA with
 | @mk kka ooa va tta nna es ppa _ ih =>
  intro f k1 k2 w hx1 hx2
  have HIH:=Hd ih
  clear ih
  obtain ⟨v1a,v2a,v3a⟩:=va
  cases hx1 with
  | @mk _ _ _ _ _ _ _ pa ca ks h1 hc1 hm1 hr1 hs1 =>
   cases hx2 with
   | @mk kkb oob vb ttb nnb fs ppb pb cb ls h2 hc2 hm2 hr2 hs2 =>
    obtain ⟨v1b,v2b,v3b⟩:=vb
    have HA1 : Hid (XLR w es (.slice pa es.length ca)):=⟨pa,ca,ks,rfl,hc1,hm1,h1,hr1,hs1⟩
    have HA2 : Hid (XLR w fs (.slice pb fs.length cb)):=⟨pb,cb,ls,rfl,hc2,hm2,h2,hr2,hs2⟩
    clear h1 hc1 hm1 hr1 hs1 h2 hc2 hm2 hr2 hs2
    obtain ⟨Q,hQ⟩:=Vx (SmX (.mk kka ooa (v1a,v2a,v3a) tta nna es ppa) (.mk kkb oob (v1b,v2b,v3b) ttb nnb fs ppb))
    have HQ : Hid (Q ↔ kka = kkb ∧ ooa = oob ∧ (v1a,v2a,v3a) = (v1b,v2b,v3b) ∧ tta = ttb ∧ nna = nnb ∧ SmXs es fs):=Hd (hQ ▸ SmX.iff)
    rw [hQ]
    clear hQ
    simp only [exC]
    obtain ⟨W,hW⟩:=Vx ((w.alloc (.cells (Ve kka ooa v1a v2a v3a tta nna (.slice pa es.length ca) ppa) 49)).alloc (.cells (Ve kkb oob v1b v2b v3b ttb nnb (.slice pb fs.length cb) ppb) 49))
    obtain ⟨ra,rb,kb⟩:=hW ▸ two_new (w:=w) (o:=.cells (Ve kka ooa v1a v2a v3a tta nna (.slice pa es.length ca) ppa) 49) (p:=.cells (Ve kkb oob v1b v2b v3b ttb nnb (.slice pb fs.length cb) ppb) 49)
    have HB:=Hd kb
    have zs:=(nine_of ra).1
    have zt:=(nine_of rb).1
    clear ra rb kb
    go_enter Tryz.func74,Tryz.ntmps74
    go_upto_region 1 with fail
    clear hW
    by_cases n : kka = kkb
    rotate_left
    ·have d : (kka == kkb) = false:=by simpa using n
     have HE : Hid (¬ Q):=Hd (fun h => n (HQ.out.1 h).1)
     go_wp2
     exact bodyPost_ret (v:=.bool false) (by simp [results,Tryz.results74,go_sem]) rfl (eq_no HE.out HB.out)
    subst n
    by_cases n : ooa = oob
    rotate_left
    ·have d : (ooa == oob) = false:=by simpa using n
     have HE : Hid (¬ Q):=Hd (fun h => n (HQ.out.1 h).2.1)
     go_wp2
     exact bodyPost_ret (v:=.bool false) (by simp [results,Tryz.results74,go_sem]) rfl (eq_no HE.out HB.out)
    subst n
    by_cases n : v1a = v1b
    rotate_left
    ·have d : (v1a == v1b) = false:=by simpa using n
     have HE : Hid (¬ Q):=Hd (fun h => n (Prod.mk.inj (HQ.out.1 h).2.2.1).1)
     go_wp2
     exact bodyPost_ret (v:=.bool false) (by simp [results,Tryz.results74,go_sem]) rfl (eq_no HE.out HB.out)
    subst n
    by_cases n : v2a = v2b
    rotate_left
    ·have d : (v2a == v2b) = false:=by simpa using n
     have HE : Hid (¬ Q):=Hd (fun h => n (Prod.mk.inj (Prod.mk.inj (HQ.out.1 h).2.2.1).2).1)
     go_wp2
     exact bodyPost_ret (v:=.bool false) (by simp [results,Tryz.results74,go_sem]) rfl (eq_no HE.out HB.out)
    subst n
    by_cases n : v3a = v3b
    rotate_left
    ·have d:=str_ne n
     have HE : Hid (¬ Q):=Hd (fun h => n (Prod.mk.inj (Prod.mk.inj (HQ.out.1 h).2.2.1).2).2)
     go_wp2
     exact bodyPost_ret (v:=.bool false) (by simp [results,Tryz.results74,go_sem]) rfl (eq_no HE.out HB.out)
    subst n
    by_cases n : tta = ttb
    rotate_left
    ·have d:=str_ne n
     have HE : Hid (¬ Q):=Hd (fun h => n (HQ.out.1 h).2.2.2.1)
     go_wp2
     exact bodyPost_ret (v:=.bool false) (by simp [results,Tryz.results74,go_sem]) rfl (eq_no HE.out HB.out)
    subst n
    by_cases n : nna = nnb
    rotate_left
    ·have d:=str_ne n
     have HE : Hid (¬ Q):=Hd (fun h => n (HQ.out.1 h).2.2.2.2.1)
     go_wp2
     exact bodyPost_ret (v:=.bool false) (by simp [results,Tryz.results74,go_sem]) rfl (eq_no HE.out HB.out)
    subst n
    have HS:=Hd (sameExprs_step es fs pa pb ca cb W (HA1.out.later HB.out) (HA2.out.later HB.out) HIH.out)
    go_wp2_with fail
    refine HS.out.mono ?_
    rintro e w1 ⟨⟨b,rfl,hb⟩,hl⟩
    have HE : Hid (b = true ↔ Q):=Hd (hb.trans ⟨fun h => HQ.out.2 ⟨trivial,trivial,trivial,trivial,trivial,h⟩,fun h => (HQ.out.1 h).2.2.2.2.2⟩)
    have HL:=Hd (HB.out.trans (hl.mono HB.out.size))
    clear hb hl
    go_wp2
    exact bodyPost_ret (v:=.bool b) (by simp [results,Tryz.results74,go_sem]) rfl ⟨⟨b,rfl,HE.out⟩,HL.out⟩

def ORow (w : World) (p : Option Addr) (es : List So) : Prop:=∀ i (h : i < es.length),∃ b off,p = some ⟨b,off,none⟩ ∧ ∀ j u,(soC es[i])[j]? = some u → w.cell? ⟨b,off + i * 3 + j,none⟩ = some u

def IRow (w : World) (p : Option Addr) (es : List Int) : Prop:=∀ i (h : i < es.length),∃ b off,p = some ⟨b,off,none⟩ ∧ w.cell? ⟨b,off + i,none⟩ = some (Vi es[i])

theorem ORow.later {w w' : World} {p : Option Addr} {es : List So} (h : ORow w p es) (hb : Below w.heap.size w w') : ORow w' p es:=fun i h1 => by
 obtain ⟨b,off,e,hc⟩:=h i h1
 exact ⟨b,off,e,fun j u hu => Cl hb (hc j u hu)⟩

theorem IRow.later {w w' : World} {p : Option Addr} {es : List Int} (h : IRow w p es) (hb : Below w.heap.size w w') : IRow w' p es:=fun i h1 => by
 obtain ⟨b,off,e,hc⟩:=h i h1
 exact ⟨b,off,e,(hb.cell (World.block_lt_of_cell? _ _ hc)).trans hc⟩

def SmSe (a b : Se) : Prop:=a.1 = b.1 ∧ SmX a.2.1 b.2.1

def SmSo (a b : So) : Prop:=a.1 = b.1 ∧ a.2.1 = b.2.1

theorem eqfunc_se (w : World) (a1 a2 : Option Addr) (c1 c2 : Nat) (es fs : List Se) (ks ls : List Value) (hk1 : es.length = ks.length) (hk2 : fs.length = ls.length) (P : Nat → Prop) (hl1 : es.length ≤ 9223372036854775807) (hr1 : SRow w a1 es ks) (hr2 : SRow w a2 fs ls) (hs1 : ∀ i (h' : i < ks.length),∃ p m c,ks[i] = .slice p m c) (hs2 : ∀ i (h' : i < ls.length),∃ p m c,ls[i] = .slice p m c) (hC : ∀ k (h1 : k < es.length) (h2 : k < fs.length) (h1' : k < ks.length) (h2' : k < ls.length) w1,Below w.heap.size w w1 → Calls Tryz.prog 30 #[.agg (seC es[k] ks[k]).toArray,.agg (seC fs[k] ls[k]).toArray] w1 (EqPost (P k) w1)) : Calls Tryz.prog 29 #[.slice a1 es.length c1,.slice a2 fs.length c2,.func (.func 30) #[] #[]] w (EqPost (es.length = fs.length ∧ ∀ k,k < es.length → P k) w):=by
 obtain ⟨Q,hQ⟩:=Vx (es.length = fs.length ∧ ∀ k,k < es.length → P k)
 rw [hQ]
 have HQ:=Hd hQ
 clear hQ
 have HR1:=Hd hr1
 have HR2:=Hd hr2
 have HC:=Hd hC
 clear hr1 hr2 hC
 have HS1:=Hd hs1
 have HS2:=Hd hs2
 have HK1:=Hd hk1
 have HK2:=Hd hk2
 clear hs1 hs2 hk1 hk2
 by_cases hlen : es.length = fs.length
 ·have HLN:=Hd hlen
  obtain ⟨n,hn⟩:=Vx fs.length
  have hn1 : es.length = n:=hlen.trans hn
  have HN:=Hd (And.intro hn1 hn)
  rw [hn1] at hl1
  rw [hn1,hn]
  clear hn hn1 hlen
  go_enter Tryz.func29,Tryz.ntmps29
  go_wp2
  go_loopw [17] (fun i wr => ∃ k : Nat,k ≤ n ∧ i = Vi (k : Int) ∧ (∀ j,j < k → P j) ∧ Below w.heap.size w wr) (fun i _ => n - (intOf i).toNat)
  case atStart => exact ⟨0,Nat.zero_le _,rfl,fun j g => absurd g (Nat.not_lt_zero _),Below.refl _ _⟩
  case round =>
   obtain ⟨k,hk,rfl,hall,hb⟩:=hrel
   have HA:=Hd hall
   have HB:=Hd hb
   have hsz:=hb.size
   clear hall hb
   by_cases hlt : k < n
   ·have hlti : (k : Int) < (n : Int):=by omega
    have x1 : k < es.length:=by rw [HN.out.1]; exact hlt
    have x2 : k < fs.length:=by rw [HN.out.2]; exact hlt
    have y1 : k < ks.length:=by rw [← HK1.out]; exact x1
    have y2 : k < ls.length:=by rw [← HK2.out]; exact x2
    obtain ⟨b1,f1,rfl,g1⟩:=HR1.out k x1 y1
    obtain ⟨b2,f2,rfl,g2⟩:=HR2.out k x2 y2
    obtain ⟨pa,ma,ca,ha⟩:=HS1.out k y1
    obtain ⟨pb,mb,cb,hb⟩:=HS2.out k y2
    have HCk:=Hd (HC.out k x1 x2 y1 y2)
    rw [ha] at g1 HCk
    rw [hb] at g2 HCk
    obtain ⟨⟨nma,⟨kka,ooa,⟨v1a,v2a,v3a⟩,tta,nna,ksa,ppa⟩,pla⟩,ea⟩ : ∃ x,es[k] = x:=⟨_,rfl⟩
    obtain ⟨⟨nmb,⟨kkb,oob,⟨v1b,v2b,v3b⟩,ttb,nnb,ksb,ppb⟩,plb⟩,eb⟩ : ∃ x,fs[k] = x:=⟨_,rfl⟩
    rw [ea] at g1 HCk
    rw [eb] at g2 HCk
    clear ea eb x1 x2 ha hb y1 y2
    simp only [seC,exC,List.cons_append,List.nil_append] at HCk
    have G1 : Hid (∀ j u,[.string nma,Vi kka,Vi ooa,Vi v1a,Vi v2a,.string v3a,.string tta,.string nna,.slice pa ma ca,Vi ppa,Vi pla][j]? = some u → w.cell? ⟨b1,f1 + k * 11 + j,none⟩ = some u):=g1
    have G2 : Hid (∀ j u,[.string nmb,Vi kkb,Vi oob,Vi v1b,Vi v2b,.string v3b,.string ttb,.string nnb,.slice pb mb cb,Vi ppb,Vi plb][j]? = some u → w.cell? ⟨b2,f2 + k * 11 + j,none⟩ = some u):=g2
    clear g1 g2
    have p0:=Cl HB.out (G1.out 0 _ rfl)
    have p1:=Cl HB.out (G1.out 1 _ rfl)
    have p2:=Cl HB.out (G1.out 2 _ rfl)
    have p3:=Cl HB.out (G1.out 3 _ rfl)
    have p4:=Cl HB.out (G1.out 4 _ rfl)
    have p5:=Cl HB.out (G1.out 5 _ rfl)
    have p6:=Cl HB.out (G1.out 6 _ rfl)
    have p7:=Cl HB.out (G1.out 7 _ rfl)
    have p8:=Cl HB.out (G1.out 8 _ rfl)
    have p9:=Cl HB.out (G1.out 9 _ rfl)
    have p10:=Cl HB.out (G1.out 10 _ rfl)
    obtain ⟨Wa,hWa⟩:=Vx (wr.alloc (.cells #[.string nma,Vi kka,Vi ooa,Vi v1a,Vi v2a,.string v3a,.string tta,.string nna,.slice pa ma ca,Vi ppa,Vi pla] 53))
    have ra : Wa.heap[wr.heap.size]? = some (.cells #[.string nma,Vi kka,Vi ooa,Vi v1a,Vi v2a,.string v3a,.string tta,.string nna,.slice pa ma ca,Vi ppa,Vi pla] 53 (0,0)):=hWa ▸ heap_alloc_new wr _
    have ka : Below wr.heap.size wr Wa:=hWa ▸ (Below.refl _ _).alloc (Nat.le_refl _) _
    have HBa:=Hd (HB.out.trans (ka.mono hsz))
    have q0:=Cl HBa.out (G2.out 0 _ rfl)
    have q1:=Cl HBa.out (G2.out 1 _ rfl)
    have q2:=Cl HBa.out (G2.out 2 _ rfl)
    have q3:=Cl HBa.out (G2.out 3 _ rfl)
    have q4:=Cl HBa.out (G2.out 4 _ rfl)
    have q5:=Cl HBa.out (G2.out 5 _ rfl)
    have q6:=Cl HBa.out (G2.out 6 _ rfl)
    have q7:=Cl HBa.out (G2.out 7 _ rfl)
    have q8:=Cl HBa.out (G2.out 8 _ rfl)
    have q9:=Cl HBa.out (G2.out 9 _ rfl)
    have q10:=Cl HBa.out (G2.out 10 _ rfl)
    obtain ⟨Wb,hWb⟩:=Vx (Wa.alloc (.cells #[.string nmb,Vi kkb,Vi oob,Vi v1b,Vi v2b,.string v3b,.string ttb,.string nnb,.slice pb mb cb,Vi ppb,Vi plb] 53))
    have rb : Wb.heap[Wa.heap.size]? = some (.cells #[.string nmb,Vi kkb,Vi oob,Vi v1b,Vi v2b,.string v3b,.string ttb,.string nnb,.slice pb mb cb,Vi ppb,Vi plb] 53 (0,0)):=hWb ▸ heap_alloc_new Wa _
    have kb : Below Wa.heap.size Wa Wb:=hWb ▸ (Below.refl _ _).alloc (Nat.le_refl _) _
    have ra2:=(kb.block _ (Gx ra)).trans ra
    have HBb:=Hd (HBa.out.trans (kb.mono HBa.out.size))
    have zs:=(eleven_of ra2).1
    have zt:=(eleven_of rb).1
    clear ra ra2 rb ka kb
    simp only [Nat.add_zero] at p0 q0
    go_wp2_with fail
    clear hWa hWb
    refine (HCk.out _ HBb.out).mono ?_
    rintro e w2 ⟨⟨bb,rfl,hbb⟩,hb2⟩
    have HB2:=Hd (HBb.out.trans (hb2.mono HBb.out.size))
    clear hb2 p0 p1 p2 p3 p4 p5 p6 p7 p8 p9 p10 q0 q1 q2 q3 q4 q5 q6 q7 q8 q9 q10 zs zt
    cases bb with
    | false =>
     have HE : Hid (¬ Q):=HQ.out ▸ fun h => absurd (hbb.2 (h.2 k (by rw [HN.out.1]; exact hlt))) (by simp)
     clear hbb
     go_wp2
     exact bodyPost_ret (v:=.bool false) (by simp [results,Tryz.results29,go_sem]) rfl (eq_no HE.out HB2.out)
    | true =>
     have HA2 : Hid (∀ j,j < k + 1 → P j):=fun j hj => by
      by_cases e : j = k
      ·rw [e]; exact hbb.1 rfl
      ·exact HA.out j (by omega)
     clear hbb
     go_wp2
     go_roundw
     case rel => exact ⟨k + 1,by omega,by go_num,HA2.out,HB2.out⟩
     case measure => simp [intOf]; omega
   ·have hnlt : ¬ (k : Int) < (n : Int):=by omega
    have HE : Hid Q:=HQ.out ▸ ⟨HLN.out,fun j hj => HA.out j (by have:=HN.out.1; omega)⟩
    go_wp2
    exact bodyPost_ret (v:=.bool true) (by simp [results,Tryz.results29,go_sem]) rfl (eq_yes HE.out HB.out)
 ·have hle : ((es.length : Int) != (fs.length : Int)) = true:=by simp; omega
  have HE : Hid (¬ Q):=HQ.out ▸ fun h => hlen h.1
  clear hlen
  go_enter Tryz.func29,Tryz.ntmps29
  go_wp2
  exact bodyPost_ret (v:=.bool false) (by simp [results,Tryz.results29,go_sem]) rfl (eq_no HE.out (Below.refl _ _))

theorem eqfunc_so (w : World) (a1 a2 : Option Addr) (c1 c2 : Nat) (es fs : List So) (P : Nat → Prop) (hl1 : es.length ≤ 9223372036854775807) (hr1 : ORow w a1 es) (hr2 : ORow w a2 fs) (hC : ∀ k (h1 : k < es.length) (h2 : k < fs.length) w1,Below w.heap.size w w1 → Calls Tryz.prog 32 #[.agg (soC es[k]).toArray,.agg (soC fs[k]).toArray] w1 (EqPost (P k) w1)) : Calls Tryz.prog 31 #[.slice a1 es.length c1,.slice a2 fs.length c2,.func (.func 32) #[] #[]] w (EqPost (es.length = fs.length ∧ ∀ k,k < es.length → P k) w):=by
 obtain ⟨Q,hQ⟩:=Vx (es.length = fs.length ∧ ∀ k,k < es.length → P k)
 rw [hQ]
 have HQ:=Hd hQ
 clear hQ
 have HR1:=Hd hr1
 have HR2:=Hd hr2
 have HC:=Hd hC
 clear hr1 hr2 hC
 by_cases hlen : es.length = fs.length
 ·have HLN:=Hd hlen
  obtain ⟨n,hn⟩:=Vx fs.length
  have hn1 : es.length = n:=hlen.trans hn
  have HN:=Hd (And.intro hn1 hn)
  rw [hn1] at hl1
  rw [hn1,hn]
  clear hn hn1 hlen
  go_enter Tryz.func31,Tryz.ntmps31
  go_wp2
  go_loopw [17] (fun i wr => ∃ k : Nat,k ≤ n ∧ i = Vi (k : Int) ∧ (∀ j,j < k → P j) ∧ Below w.heap.size w wr) (fun i _ => n - (intOf i).toNat)
  case atStart => exact ⟨0,Nat.zero_le _,rfl,fun j g => absurd g (Nat.not_lt_zero _),Below.refl _ _⟩
  case round =>
   obtain ⟨k,hk,rfl,hall,hb⟩:=hrel
   have HA:=Hd hall
   have HB:=Hd hb
   have hsz:=hb.size
   clear hall hb
   by_cases hlt : k < n
   ·have hlti : (k : Int) < (n : Int):=by omega
    have x1 : k < es.length:=by rw [HN.out.1]; exact hlt
    have x2 : k < fs.length:=by rw [HN.out.2]; exact hlt
    obtain ⟨b1,f1,rfl,g1⟩:=HR1.out k x1
    obtain ⟨b2,f2,rfl,g2⟩:=HR2.out k x2
    have HCk:=Hd (HC.out k x1 x2)
    obtain ⟨⟨ita,dsa,pla⟩,ea⟩ : ∃ x,es[k] = x:=⟨_,rfl⟩
    obtain ⟨⟨itb,dsb,plb⟩,eb⟩ : ∃ x,fs[k] = x:=⟨_,rfl⟩
    rw [ea] at g1 HCk
    rw [eb] at g2 HCk
    clear ea eb x1 x2
    simp only [soC] at HCk
    have G1 : Hid (∀ j u,[Vi ita,.bool dsa,Vi pla][j]? = some u → w.cell? ⟨b1,f1 + k * 3 + j,none⟩ = some u):=g1
    have G2 : Hid (∀ j u,[Vi itb,.bool dsb,Vi plb][j]? = some u → w.cell? ⟨b2,f2 + k * 3 + j,none⟩ = some u):=g2
    clear g1 g2
    have p0:=Cl HB.out (G1.out 0 _ rfl)
    have p1:=Cl HB.out (G1.out 1 _ rfl)
    have p2:=Cl HB.out (G1.out 2 _ rfl)
    obtain ⟨Wa,hWa⟩:=Vx (wr.alloc (.cells #[Vi ita,.bool dsa,Vi pla] 70))
    have ra : Wa.heap[wr.heap.size]? = some (.cells #[Vi ita,.bool dsa,Vi pla] 70 (0,0)):=hWa ▸ heap_alloc_new wr _
    have ka : Below wr.heap.size wr Wa:=hWa ▸ (Below.refl _ _).alloc (Nat.le_refl _) _
    have HBa:=Hd (HB.out.trans (ka.mono hsz))
    have q0:=Cl HBa.out (G2.out 0 _ rfl)
    have q1:=Cl HBa.out (G2.out 1 _ rfl)
    have q2:=Cl HBa.out (G2.out 2 _ rfl)
    obtain ⟨Wb,hWb⟩:=Vx (Wa.alloc (.cells #[Vi itb,.bool dsb,Vi plb] 70))
    have rb : Wb.heap[Wa.heap.size]? = some (.cells #[Vi itb,.bool dsb,Vi plb] 70 (0,0)):=hWb ▸ heap_alloc_new Wa _
    have kb : Below Wa.heap.size Wa Wb:=hWb ▸ (Below.refl _ _).alloc (Nat.le_refl _) _
    have ra2:=(kb.block _ (Gx ra)).trans ra
    have HBb:=Hd (HBa.out.trans (kb.mono HBa.out.size))
    have zs:=(three_of ra2).1
    have zt:=(three_of rb).1
    clear ra ra2 rb ka kb
    simp only [Nat.add_zero] at p0 q0
    go_wp2_with fail
    clear hWa hWb
    refine (HCk.out _ HBb.out).mono ?_
    rintro e w2 ⟨⟨bb,rfl,hbb⟩,hb2⟩
    have HB2:=Hd (HBb.out.trans (hb2.mono HBb.out.size))
    clear hb2 p0 p1 p2 q0 q1 q2 zs zt
    cases bb with
    | false =>
     have HE : Hid (¬ Q):=HQ.out ▸ fun h => absurd (hbb.2 (h.2 k (by rw [HN.out.1]; exact hlt))) (by simp)
     clear hbb
     go_wp2
     exact bodyPost_ret (v:=.bool false) (by simp [results,Tryz.results31,go_sem]) rfl (eq_no HE.out HB2.out)
    | true =>
     have HA2 : Hid (∀ j,j < k + 1 → P j):=fun j hj => by
      by_cases e : j = k
      ·rw [e]; exact hbb.1 rfl
      ·exact HA.out j (by omega)
     clear hbb
     go_wp2
     go_roundw
     case rel => exact ⟨k + 1,by omega,by go_num,HA2.out,HB2.out⟩
     case measure => simp [intOf]; omega
   ·have hnlt : ¬ (k : Int) < (n : Int):=by omega
    have HE : Hid Q:=HQ.out ▸ ⟨HLN.out,fun j hj => HA.out j (by have:=HN.out.1; omega)⟩
    go_wp2
    exact bodyPost_ret (v:=.bool true) (by simp [results,Tryz.results31,go_sem]) rfl (eq_yes HE.out HB.out)
 ·have hle : ((es.length : Int) != (fs.length : Int)) = true:=by simp; omega
  have HE : Hid (¬ Q):=HQ.out ▸ fun h => hlen h.1
  clear hlen
  go_enter Tryz.func31,Tryz.ntmps31
  go_wp2
  exact bodyPost_ret (v:=.bool false) (by simp [results,Tryz.results31,go_sem]) rfl (eq_no HE.out (Below.refl _ _))

theorem sameSet_any (x y : Se) (k1 k2 : Value) (w : World) (h1 : XR w x.2.1 k1) (h2 : XR w y.2.1 k2) : Calls Tryz.prog 30 #[.agg (seC x k1).toArray,.agg (seC y k2).toArray] w (EqPost (SmSe x y) w):=by
 obtain ⟨Q,hQ⟩:=Vx (SmSe x y)
 have HQ : Hid (Q ↔ x.1 = y.1 ∧ SmX x.2.1 y.2.1):=Hd (hQ ▸ Iff.rfl)
 rw [hQ]
 clear hQ
 obtain ⟨pa,ma,ca,rfl⟩:=h1.slice
 obtain ⟨pb,mb,cb,rfl⟩:=h2.slice
 have HS:=Hd (fun W (hb : Below w.heap.size w W) => sameExpr_any x.2.1 h1.all y.2.1 (.slice pa ma ca) (.slice pb mb cb) W (h1.later hb) (h2.later hb))
 clear h1 h2
 obtain ⟨nma,⟨kka,ooa,⟨v1a,v2a,v3a⟩,tta,nna,ksa,ppa⟩,pla⟩:=x
 obtain ⟨nmb,⟨kkb,oob,⟨v1b,v2b,v3b⟩,ttb,nnb,ksb,ppb⟩,plb⟩:=y
 simp only [seC,exC,List.cons_append,List.nil_append] at HS ⊢
 obtain ⟨W,hW⟩:=Vx ((w.alloc (.cells #[.string nma,Vi kka,Vi ooa,Vi v1a,Vi v2a,.string v3a,.string tta,.string nna,.slice pa ma ca,Vi ppa,Vi pla] 53)).alloc (.cells #[.string nmb,Vi kkb,Vi oob,Vi v1b,Vi v2b,.string v3b,.string ttb,.string nnb,.slice pb mb cb,Vi ppb,Vi plb] 53))
 obtain ⟨ra,rb,kb⟩:=hW ▸ two_new (w:=w) (o:=.cells #[.string nma,Vi kka,Vi ooa,Vi v1a,Vi v2a,.string v3a,.string tta,.string nna,.slice pa ma ca,Vi ppa,Vi pla] 53) (p:=.cells #[.string nmb,Vi kkb,Vi oob,Vi v1b,Vi v2b,.string v3b,.string ttb,.string nnb,.slice pb mb cb,Vi ppb,Vi plb] 53)
 have HB:=Hd kb
 have zs:=(eleven_of ra).1
 have zt:=(eleven_of rb).1
 clear ra rb kb
 go_enter Tryz.func30,Tryz.ntmps30
 go_upto_region 1 with fail
 clear hW
 by_cases n : nma = nmb
 rotate_left
 ·have d:=str_ne n
  have HE : Hid (¬ Q):=Hd (fun h => n (HQ.out.1 h).1)
  go_wp2
  exact bodyPost_ret (v:=.bool false) (by simp [results,Tryz.results30,go_sem]) rfl (eq_no HE.out HB.out)
 subst n
 go_wp2_with fail
 refine (HS.out _ HB.out).mono ?_
 rintro e w1 ⟨⟨b,rfl,hb⟩,hl⟩
 have HE : Hid (b = true ↔ Q):=Hd (hb.trans ⟨fun h => HQ.out.2 ⟨by trivial,h⟩,fun h => (HQ.out.1 h).2⟩)
 have HL:=Hd (HB.out.trans (hl.mono HB.out.size))
 clear hb hl
 go_wp2
 exact bodyPost_ret (v:=.bool b) (by simp [results,Tryz.results30,go_sem]) rfl ⟨⟨b,rfl,HE.out⟩,HL.out⟩

theorem sameSort_any (x y : So) (w : World) : Calls Tryz.prog 32 #[.agg (soC x).toArray,.agg (soC y).toArray] w (EqPost (SmSo x y) w):=by
 obtain ⟨Q,hQ⟩:=Vx (SmSo x y)
 have HQ : Hid (Q ↔ x.1 = y.1 ∧ x.2.1 = y.2.1):=Hd (hQ ▸ Iff.rfl)
 rw [hQ]
 clear hQ
 obtain ⟨ita,dsa,pla⟩:=x
 obtain ⟨itb,dsb,plb⟩:=y
 simp only [soC]
 simp only at HQ
 obtain ⟨W,hW⟩:=Vx ((w.alloc (.cells #[Vi ita,.bool dsa,Vi pla] 70)).alloc (.cells #[Vi itb,.bool dsb,Vi plb] 70))
 obtain ⟨ra,rb,kb⟩:=hW ▸ two_new (w:=w) (o:=.cells #[Vi ita,.bool dsa,Vi pla] 70) (p:=.cells #[Vi itb,.bool dsb,Vi plb] 70)
 have HB:=Hd kb
 have zs:=(three_of ra).1
 have zt:=(three_of rb).1
 clear ra rb kb
 go_enter Tryz.func32,Tryz.ntmps32
 go_upto_region 1 with fail
 clear hW
 by_cases n : ita = itb
 rotate_left
 ·have d : (ita == itb) = false:=by simpa using n
  have HE : Hid (¬ Q):=Hd (fun h => n (HQ.out.1 h).1)
  go_wp2
  exact bodyPost_ret (v:=.bool false) (by simp [results,Tryz.results32,go_sem]) rfl (eq_no HE.out HB.out)
 subst n
 have HE : Hid ((dsa == dsb) = true ↔ Q):=Hd ⟨fun h => HQ.out.2 ⟨rfl,by simpa using h⟩,fun h => by simpa using (HQ.out.1 h).2⟩
 clear HQ
 cases dsa <;> cases dsb <;> (go_wp2; first | exact bodyPost_ret (v:=.bool true) (by simp [results,Tryz.results32,go_sem]) rfl (eq_yes (HE.out.1 rfl) HB.out) | exact bodyPost_ret (v:=.bool false) (by simp [results,Tryz.results32,go_sem]) rfl (eq_no (fun h => absurd (HE.out.2 h) (by decide)) HB.out))

theorem sameExprs_any (es fs : List Ex) (a1 a2 : Option Addr) (c1 c2 : Nat) (w : World) (h1 : XLR w es (.slice a1 es.length c1)) (h2 : XLR w fs (.slice a2 fs.length c2)) : Calls Tryz.prog 28 #[.slice a1 es.length c1,.slice a2 fs.length c2] w (EqPost (SmXs es fs) w):=sameExprs_step es fs a1 a2 c1 c2 w h1 h2 fun i _ f k1 k2 w g1 g2 => sameExpr_any es[i] g1.all f k1 k2 w g1 g2

def SmSes (a b : List Se) : Prop:=a.length = b.length ∧ ∀ i (h : i < a.length) (h' : i < b.length),SmSe a[i] b[i]

def SmSos (a b : List So) : Prop:=a.length = b.length ∧ ∀ i (h : i < a.length) (h' : i < b.length),SmSo a[i] b[i]

def OLR (w : World) (l : List So) (v : Value) : Prop:=∃ p c,v = .slice p l.length c ∧ l.length ≤ c ∧ l.length ≤ 9223372036854775807 ∧ ORow w p l

def ILR (w : World) (l : List Int) (v : Value) : Prop:=∃ p c,v = .slice p l.length c ∧ l.length ≤ c ∧ l.length ≤ 9223372036854775807 ∧ IRow w p l

theorem OLR.later {w w' : World} {l : List So} {v : Value} (h : OLR w l v) (hb : Below w.heap.size w w') : OLR w' l v:=by
 obtain ⟨p,c,e,h1,h2,h3⟩:=h
 exact ⟨p,c,e,h1,h2,h3.later hb⟩

theorem ILR.later {w w' : World} {l : List Int} {v : Value} (h : ILR w l v) (hb : Below w.heap.size w w') : ILR w' l v:=by
 obtain ⟨p,c,e,h1,h2,h3⟩:=h
 exact ⟨p,c,e,h1,h2,h3.later hb⟩

structure StRA (w : World) (t : St) (on whr items sets groups sorts limit : Value) : Prop where
 rd : StRd w t on whr items sets groups
 sorts : OLR w t.sorts sorts
 limit : ILR w t.limit limit

theorem StRA.later {w w' : World} {t : St} {a b c d e f g : Value} (h : StRA w t a b c d e f g) (hb : Below w.heap.size w w') : StRA w' t a b c d e f g:=⟨h.rd.later hb,h.sorts.later hb,h.limit.later hb⟩

theorem eq_sets (es fs : List Se) (a1 a2 : Option Addr) (c1 c2 : Nat) (w : World) (h1 : SLR w es (.slice a1 es.length c1)) (h2 : SLR w fs (.slice a2 fs.length c2)) : Calls Tryz.prog 29 #[.slice a1 es.length c1,.slice a2 fs.length c2,.func (.func 30) #[] #[]] w (EqPost (SmSes es fs) w):=by
 obtain ⟨p1,q1,ks,e1,_,hm1,hk1,hr1,hx1⟩:=h1
 obtain ⟨p2,q2,ls,e2,_,_,hk2,hr2,hx2⟩:=h2
 injection e1 with e11 _ e13
 subst e11 e13
 injection e2 with e21 _ e23
 subst e21 e23
 refine (eqfunc_se w a1 a2 c1 c2 es fs ks ls hk1 hk2 (fun k => ∀ (h : k < es.length) (h' : k < fs.length),SmSe es[k] fs[k]) hm1 hr1 hr2 (fun i h' => (hx1 i (by omega) h').slice) (fun i h' => (hx2 i (by omega) h').slice) fun k g1 g2 g1' g2' w1 hb => (sameSet_any es[k] fs[k] ks[k] ls[k] w1 ((hx1 k g1 g1').later hb) ((hx2 k g2 g2').later hb)).mono fun _ _ h => h.of ⟨fun h _ _ => h,fun h => h g1 g2⟩).mono fun _ _ h => h.of ⟨fun h => ⟨h.1,fun i a b => h.2 i a a b⟩,fun h => ⟨h.1,fun k _ a b => h.2 k a b⟩⟩

theorem eq_sorts (es fs : List So) (a1 a2 : Option Addr) (c1 c2 : Nat) (w : World) (h1 : OLR w es (.slice a1 es.length c1)) (h2 : OLR w fs (.slice a2 fs.length c2)) : Calls Tryz.prog 31 #[.slice a1 es.length c1,.slice a2 fs.length c2,.func (.func 32) #[] #[]] w (EqPost (SmSos es fs) w):=by
 obtain ⟨p1,q1,e1,_,hm1,hr1⟩:=h1
 obtain ⟨p2,q2,e2,_,_,hr2⟩:=h2
 injection e1 with e11 _ e13
 subst e11 e13
 injection e2 with e21 _ e23
 subst e21 e23
 refine (eqfunc_so w a1 a2 c1 c2 es fs (fun k => ∀ (h : k < es.length) (h' : k < fs.length),SmSo es[k] fs[k]) hm1 hr1 hr2 fun k g1 g2 w1 _ => (sameSort_any es[k] fs[k] w1).mono fun _ _ h => h.of ⟨fun h _ _ => h,fun h => h g1 g2⟩).mono fun _ _ h => h.of ⟨fun h => ⟨h.1,fun i a b => h.2 i a a b⟩,fun h => ⟨h.1,fun k _ a b => h.2 k a b⟩⟩

theorem eq_ints (es fs : List Int) (a1 a2 : Option Addr) (c1 c2 : Nat) (w : World) (h1 : ILR w es (.slice a1 es.length c1)) (h2 : ILR w fs (.slice a2 fs.length c2)) : Calls Tryz.prog 33 #[.slice a1 es.length c1,.slice a2 fs.length c2] w (EqPost (es = fs) w):=by
 obtain ⟨p1,q1,e1,_,hl1,hr1⟩:=h1
 obtain ⟨p2,q2,e2,_,_,hr2⟩:=h2
 injection e1 with e11 _ e13
 subst e11 e13
 injection e2 with e21 _ e23
 subst e21 e23
 obtain ⟨Q,hQ⟩:=Vx (es = fs)
 rw [hQ]
 have HQ:=Hd hQ
 clear hQ
 have HR1:=Hd hr1
 have HR2:=Hd hr2
 clear hr1 hr2
 by_cases hlen : es.length = fs.length
 ·have HLN:=Hd hlen
  obtain ⟨n,hn⟩:=Vx fs.length
  have hn1 : es.length = n:=hlen.trans hn
  have HN:=Hd (And.intro hn1 hn)
  rw [hn1] at hl1
  rw [hn1,hn]
  clear hn hn1 hlen
  go_enter Tryz.func33,Tryz.ntmps33
  go_wp2
  go_loopw [13] (fun i wr => ∃ k : Nat,k ≤ n ∧ i = Vi (k : Int) ∧ (∀ j (h : j < es.length) (h' : j < fs.length),j < k → es[j] = fs[j]) ∧ Below w.heap.size w wr) (fun i _ => n - (intOf i).toNat)
  case atStart => exact ⟨0,Nat.zero_le _,rfl,fun j _ _ g => absurd g (Nat.not_lt_zero _),Below.refl _ _⟩
  case round =>
   obtain ⟨k,hk,rfl,hall,hb⟩:=hrel
   have HA:=Hd hall
   have HB:=Hd hb
   have hsz:=hb.size
   clear hall hb
   by_cases hlt : k < n
   ·have hlti : (k : Int) < (n : Int):=by omega
    have x1 : k < es.length:=by rw [HN.out.1]; exact hlt
    have x2 : k < fs.length:=by rw [HN.out.2]; exact hlt
    obtain ⟨b1,f1,rfl,g1⟩:=HR1.out k x1
    obtain ⟨b2,f2,rfl,g2⟩:=HR2.out k x2
    have p0:=(HB.out.cell (World.block_lt_of_cell? _ _ g1)).trans g1
    have q0:=(HB.out.cell (World.block_lt_of_cell? _ _ g2)).trans g2
    obtain ⟨X,hX⟩:=Vx (es[k])
    obtain ⟨Y,hY⟩:=Vx (fs[k])
    have HXY : Hid (∀ (h : k < es.length) (h' : k < fs.length),es[k] = X ∧ fs[k] = Y):=fun _ _ => ⟨hX,hY⟩
    rw [hX] at p0
    rw [hY] at q0
    clear hX hY g1 g2
    by_cases he : X = Y
    ·subst he
     have HA2 : Hid (∀ j (h : j < es.length) (h' : j < fs.length),j < k + 1 → es[j] = fs[j]):=fun j h h' hj => by
      by_cases e : j = k
      ·subst e; have:=HXY.out h h'; rw [this.1,this.2]
      ·exact HA.out j h h' (by omega)
     go_wp2
     go_quiet (fail)
     go_wp2
     go_roundw
     case rel => exact ⟨k + 1,by omega,by go_num,HA2.out,by have h0:=HB.out; have hz:=h0.size; (repeat (first | exact Below.refl _ _ | assumption | refine Below.drew ?_ | refine below_drewN ?_ _ | refine Below.alloc ?_ (by first | omega | (simp; done) | (simp; omega)) _ | refine Below.setCell ?_ (by first | omega | (simp; done) | (simp; omega)) _ | refine Below.trans ?_ (Below.mono (by assumption) (by first | omega | (simp; done) | (simp; omega)))))⟩
     case measure => simp [intOf]; omega
    ·have hne : (X != Y) = true:=by simpa using he
     have HE : Hid (¬ Q):=HQ.out ▸ fun h => he (by have:=HXY.out x1 x2; rw [← this.1,← this.2]; simp [h])
     clear he
     go_wp2
     go_quiet (fail)
     go_wp2
     exact bodyPost_ret (v:=.bool false) (by simp [results,Tryz.results33,go_sem]) rfl (eq_no HE.out (by have h0:=HB.out; have hz:=h0.size; (repeat (first | exact Below.refl _ _ | assumption | refine Below.drew ?_ | refine below_drewN ?_ _ | refine Below.alloc ?_ (by first | omega | (simp; done) | (simp; omega)) _ | refine Below.setCell ?_ (by first | omega | (simp; done) | (simp; omega)) _ | refine Below.trans ?_ (Below.mono (by assumption) (by first | omega | (simp; done) | (simp; omega)))))))
   ·have hnlt : ¬ (k : Int) < (n : Int):=by omega
    have HE : Hid Q:=HQ.out ▸ List.ext_getElem HLN.out fun j h h' => HA.out j h h' (by have:=HN.out.1; omega)
    go_wp2
    exact bodyPost_ret (v:=.bool true) (by simp [results,Tryz.results33,go_sem]) rfl (eq_yes HE.out HB.out)
 ·have hle : ((es.length : Int) != (fs.length : Int)) = true:=by simp; omega
  have HE : Hid (¬ Q):=HQ.out ▸ fun h => hlen (by rw [h])
  clear hlen
  go_enter Tryz.func33,Tryz.ntmps33
  go_wp2
  exact bodyPost_ret (v:=.bool false) (by simp [results,Tryz.results33,go_sem]) rfl (eq_no HE.out (Below.refl _ _))

def SmSt (a b : St) : Prop:=a.kind = b.kind ∧ a.table = b.table ∧ a.join = b.join ∧ a.star = b.star ∧ SmXs a.on b.on ∧ SmXs a.whr b.whr ∧ SmXs a.items b.items ∧ SmXs a.groups b.groups ∧ SmSes a.sets b.sets ∧ SmSos a.sorts b.sorts ∧ a.limit = b.limit

theorem soC_len (x : So) : (soC x).length = 3:=rfl

theorem getElem?_sos : ∀ (es : List So) (ks : List Value) (i j : Nat) (u : Value) (h : i < es.length) (_ : es.length = ks.length),(soC es[i])[j]? = some u → (sos es ks)[i * 3 + j]? = some u
 | e :: es,k :: ks,0,j,u,h,_,hu => by
  have hu : (soC e)[j]? = some u:=hu
  have hj : j < (soC e).length:=(List.getElem?_eq_some_iff.1 hu).1
  simp only [sos,Nat.zero_mul,Nat.zero_add]
  rw [List.getElem?_append_left hj]
  exact hu
 | e :: es,k :: ks,i + 1,j,u,h,h',hu => by
  simp only [sos]
  rw [List.getElem?_append_right (by rw [soC_len]; omega),soC_len,show (i + 1) * 3 + j - 3 = i * 3 + j by omega]
  exact getElem?_sos es ks i j u (by simpa using h) (by simpa using h') (by simpa using hu)

theorem SoL.olr {w : World} {B : Nat} {l : List So} {v : Value} (h : SoL w B l v) : OLR w l v:=by
 obtain ⟨ks,h1,h2⟩:=h
 obtain ⟨p,c,rfl,hc,hm,hr⟩:=own_row h2
 refine ⟨p,c,rfl,hc,hm,fun i hi => ?_⟩
 obtain ⟨b,rfl,_⟩:=hr _ _ (getElem?_sos _ ks i 0 _ hi h1 rfl)
 refine ⟨b,0,rfl,fun j u hu => ?_⟩
 obtain ⟨b',e,hc'⟩:=hr _ u (getElem?_sos _ ks i j u hi h1 hu)
 injection e with e
 injection e with e _ _
 subst e
 rw [show 0 + i * 3 + j = i * 3 + j by omega]
 exact hc'

theorem IL.ilr {w : World} {B : Nat} {l : List Int} {v : Value} (h : IL w B l v) : ILR w l v:=by
 obtain ⟨p,c,rfl,hc,hm,hr⟩:=own_row h
 refine ⟨p,c,rfl,hc,hm,fun i hi => ?_⟩
 obtain ⟨b,rfl,h9⟩:=hr i (Vi l[i]) (by simp [hi])
 exact ⟨b,0,rfl,by rw [Nat.zero_add]; exact h9⟩

theorem StO.ra {w : World} {B : Nat} {t : St} {a b c d e f g : Value} (h : StO w B t a b c d e f g) : StRA w t a b c d e f g:=⟨h.rd,h.sorts.olr,h.limit.ilr⟩
end Go.Proofs.YtbfjmccpcbhljaaGreatDoor
