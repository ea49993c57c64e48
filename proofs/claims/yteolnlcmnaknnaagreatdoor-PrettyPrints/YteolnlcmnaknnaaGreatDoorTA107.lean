/- A107 -/
import Derived.Test.YteolnlcmnaknnaaGreatDoorTA102
set_option maxHeartbeats 32000000
set_option maxRecDepth 100000
namespace Go.Proofs.YteolnlcmnaknnaaGreatDoor
open Go.RowKit
def dk (k : Int) : Int × Int:=if k = 1 ∨ k = 2 ∨ k = 3 then (0,0) else if k = 4 ∨ k = 7 ∨ k = 8 then (1,1) else if k = 5 ∨ k = 6 then (2,2) else if k = 9 ∨ k = 10 then (2,8) else (0,-1)

theorem dKids_any (k : Int) (w : World) : Calls Tryz.prog 80 #[.int .i64 k] w fun e w' => e = .returned (.tuple #[.int .i64 (dk k).1,.int .i64 (dk k).2]) ∧ Below w.heap.size w w':=by
 by_cases n1 : k = 1
 ·subst n1
  skip
  go_enter Tryz.func80,Tryz.ntmps80
  go_wp2
  exact bodyPost_ret (v:=.tuple #[.int .i64 0,.int .i64 0]) (by simp [results,Tryz.results80,go_sem]) rfl ⟨rfl,by (repeat (first | exact Below.refl _ _ | assumption | refine Below.drew ?_ | refine below_drewN ?_ _ | refine Below.alloc ?_ (by first | omega | (simp; done) | (simp; omega)) _ | refine Below.setCell ?_ (by first | omega | (simp; done) | (simp; omega)) _ | refine Below.trans ?_ (Below.mono (by assumption) (by first | omega | (simp; done) | (simp; omega)))))⟩
 by_cases n2 : k = 2
 ·subst n2
  clear n1
  go_enter Tryz.func80,Tryz.ntmps80
  go_wp2
  exact bodyPost_ret (v:=.tuple #[.int .i64 0,.int .i64 0]) (by simp [results,Tryz.results80,go_sem]) rfl ⟨rfl,by (repeat (first | exact Below.refl _ _ | assumption | refine Below.drew ?_ | refine below_drewN ?_ _ | refine Below.alloc ?_ (by first | omega | (simp; done) | (simp; omega)) _ | refine Below.setCell ?_ (by first | omega | (simp; done) | (simp; omega)) _ | refine Below.trans ?_ (Below.mono (by assumption) (by first | omega | (simp; done) | (simp; omega)))))⟩
 by_cases n3 : k = 3
 ·subst n3
  clear n1 n2
  go_enter Tryz.func80,Tryz.ntmps80
  go_wp2
  exact bodyPost_ret (v:=.tuple #[.int .i64 0,.int .i64 0]) (by simp [results,Tryz.results80,go_sem]) rfl ⟨rfl,by (repeat (first | exact Below.refl _ _ | assumption | refine Below.drew ?_ | refine below_drewN ?_ _ | refine Below.alloc ?_ (by first | omega | (simp; done) | (simp; omega)) _ | refine Below.setCell ?_ (by first | omega | (simp; done) | (simp; omega)) _ | refine Below.trans ?_ (Below.mono (by assumption) (by first | omega | (simp; done) | (simp; omega)))))⟩
 by_cases n4 : k = 4
 ·subst n4
  clear n1 n2 n3
  go_enter Tryz.func80,Tryz.ntmps80
  go_wp2
  exact bodyPost_ret (v:=.tuple #[.int .i64 1,.int .i64 1]) (by simp [results,Tryz.results80,go_sem]) rfl ⟨rfl,by (repeat (first | exact Below.refl _ _ | assumption | refine Below.drew ?_ | refine below_drewN ?_ _ | refine Below.alloc ?_ (by first | omega | (simp; done) | (simp; omega)) _ | refine Below.setCell ?_ (by first | omega | (simp; done) | (simp; omega)) _ | refine Below.trans ?_ (Below.mono (by assumption) (by first | omega | (simp; done) | (simp; omega)))))⟩
 by_cases n5 : k = 5
 ·subst n5
  clear n1 n2 n3 n4
  go_enter Tryz.func80,Tryz.ntmps80
  go_wp2
  exact bodyPost_ret (v:=.tuple #[.int .i64 2,.int .i64 2]) (by simp [results,Tryz.results80,go_sem]) rfl ⟨rfl,by (repeat (first | exact Below.refl _ _ | assumption | refine Below.drew ?_ | refine below_drewN ?_ _ | refine Below.alloc ?_ (by first | omega | (simp; done) | (simp; omega)) _ | refine Below.setCell ?_ (by first | omega | (simp; done) | (simp; omega)) _ | refine Below.trans ?_ (Below.mono (by assumption) (by first | omega | (simp; done) | (simp; omega)))))⟩
 by_cases n6 : k = 6
 ·subst n6
  clear n1 n2 n3 n4 n5
  go_enter Tryz.func80,Tryz.ntmps80
  go_wp2
  exact bodyPost_ret (v:=.tuple #[.int .i64 2,.int .i64 2]) (by simp [results,Tryz.results80,go_sem]) rfl ⟨rfl,by (repeat (first | exact Below.refl _ _ | assumption | refine Below.drew ?_ | refine below_drewN ?_ _ | refine Below.alloc ?_ (by first | omega | (simp; done) | (simp; omega)) _ | refine Below.setCell ?_ (by first | omega | (simp; done) | (simp; omega)) _ | refine Below.trans ?_ (Below.mono (by assumption) (by first | omega | (simp; done) | (simp; omega)))))⟩
 by_cases n7 : k = 7
 ·subst n7
  clear n1 n2 n3 n4 n5 n6
  go_enter Tryz.func80,Tryz.ntmps80
  go_wp2
  exact bodyPost_ret (v:=.tuple #[.int .i64 1,.int .i64 1]) (by simp [results,Tryz.results80,go_sem]) rfl ⟨rfl,by (repeat (first | exact Below.refl _ _ | assumption | refine Below.drew ?_ | refine below_drewN ?_ _ | refine Below.alloc ?_ (by first | omega | (simp; done) | (simp; omega)) _ | refine Below.setCell ?_ (by first | omega | (simp; done) | (simp; omega)) _ | refine Below.trans ?_ (Below.mono (by assumption) (by first | omega | (simp; done) | (simp; omega)))))⟩
 by_cases n8 : k = 8
 ·subst n8
  clear n1 n2 n3 n4 n5 n6 n7
  go_enter Tryz.func80,Tryz.ntmps80
  go_wp2
  exact bodyPost_ret (v:=.tuple #[.int .i64 1,.int .i64 1]) (by simp [results,Tryz.results80,go_sem]) rfl ⟨rfl,by (repeat (first | exact Below.refl _ _ | assumption | refine Below.drew ?_ | refine below_drewN ?_ _ | refine Below.alloc ?_ (by first | omega | (simp; done) | (simp; omega)) _ | refine Below.setCell ?_ (by first | omega | (simp; done) | (simp; omega)) _ | refine Below.trans ?_ (Below.mono (by assumption) (by first | omega | (simp; done) | (simp; omega)))))⟩
 by_cases n9 : k = 9
 ·subst n9
  clear n1 n2 n3 n4 n5 n6 n7 n8
  go_enter Tryz.func80,Tryz.ntmps80
  go_wp2
  exact bodyPost_ret (v:=.tuple #[.int .i64 2,.int .i64 8]) (by simp [results,Tryz.results80,go_sem]) rfl ⟨rfl,by (repeat (first | exact Below.refl _ _ | assumption | refine Below.drew ?_ | refine below_drewN ?_ _ | refine Below.alloc ?_ (by first | omega | (simp; done) | (simp; omega)) _ | refine Below.setCell ?_ (by first | omega | (simp; done) | (simp; omega)) _ | refine Below.trans ?_ (Below.mono (by assumption) (by first | omega | (simp; done) | (simp; omega)))))⟩
 by_cases n10 : k = 10
 ·subst n10
  clear n1 n2 n3 n4 n5 n6 n7 n8 n9
  go_enter Tryz.func80,Tryz.ntmps80
  go_wp2
  exact bodyPost_ret (v:=.tuple #[.int .i64 2,.int .i64 8]) (by simp [results,Tryz.results80,go_sem]) rfl ⟨rfl,by (repeat (first | exact Below.refl _ _ | assumption | refine Below.drew ?_ | refine below_drewN ?_ _ | refine Below.alloc ?_ (by first | omega | (simp; done) | (simp; omega)) _ | refine Below.setCell ?_ (by first | omega | (simp; done) | (simp; omega)) _ | refine Below.trans ?_ (Below.mono (by assumption) (by first | omega | (simp; done) | (simp; omega)))))⟩
 have d1 : (k == 1) = false:=by simpa using n1
 have d2 : (k == 2) = false:=by simpa using n2
 have d3 : (k == 3) = false:=by simpa using n3
 have d4 : (k == 4) = false:=by simpa using n4
 have d5 : (k == 5) = false:=by simpa using n5
 have d6 : (k == 6) = false:=by simpa using n6
 have d7 : (k == 7) = false:=by simpa using n7
 have d8 : (k == 8) = false:=by simpa using n8
 have d9 : (k == 9) = false:=by simpa using n9
 have d10 : (k == 10) = false:=by simpa using n10
 have hf : dk k = (0,-1):=by unfold dk; simp [n1,n2,n3,n4,n5,n6,n7,n8,n9,n10]
 rw [hf]
 clear hf n1 n2 n3 n4 n5 n6 n7 n8 n9 n10
 go_enter Tryz.func80,Tryz.ntmps80
 go_wp2
 exact bodyPost_ret (v:=.tuple #[.int .i64 0,.int .i64 (-1)]) (by simp [results,Tryz.results80,go_sem]) rfl ⟨rfl,by (repeat (first | exact Below.refl _ _ | assumption | refine Below.drew ?_ | refine below_drewN ?_ _ | refine Below.alloc ?_ (by first | omega | (simp; done) | (simp; omega)) _ | refine Below.setCell ?_ (by first | omega | (simp; done) | (simp; omega)) _ | refine Below.trans ?_ (Below.mono (by assumption) (by first | omega | (simp; done) | (simp; omega)))))⟩

def DF : Ex → Prop
 | .mk k o v t n ks p => (formK k).1 ≤ o ∧ o ≤ (formK k).2.1 ∧ wdOk (.mk k o v t n ks p)

theorem lit_alike {v : V3} (h : rgt v.1 v.2.1 v.2.2 = true) : (v.1 ≠ 1 ∨ 0 ≤ v.2.1) ↔ 0 ≤ v.2.1:=by
 refine ⟨fun k => ?_,Or.inr⟩
 rcases k with k | k
 ·unfold rgt at h
  repeat' split at h
  all_goals simp_all
  all_goals omega
 ·exact k

theorem dFields_any (e : Ex) (k : Value) (w : World) (hx : XR w e k) : Calls Tryz.prog 81 #[.agg (exC e k).toArray] w (EqPost (DF e) w):=by
 obtain ⟨a,m,c,rfl⟩:=hx.slice
 clear hx
 obtain ⟨kk,oo,⟨v1,v2,v3⟩,tt,nn,ks,pp⟩:=e
 obtain ⟨Q,hQ⟩ : ∃ Q,DF (.mk kk oo (v1,v2,v3) tt nn ks pp) = Q:=⟨_,rfl⟩
 have HQ : Hid (Q ↔ (formK kk).1 ≤ oo ∧ oo ≤ (formK kk).2.1 ∧ ((kk = 1 → tt = ⟨#[]⟩ ∧ nn = ⟨#[]⟩ ∧ litOk (v1,v2,v3)) ∧ (kk = 2 → tt = ⟨#[]⟩ ∧ isName nn = true ∧ v1 = 0 ∧ v2 = 0 ∧ v3 = ⟨#[]⟩) ∧ (kk = 3 → (tt = ⟨#[]⟩ ∨ isName tt = true) ∧ isName nn = true ∧ v1 = 0 ∧ v2 = 0 ∧ v3 = ⟨#[]⟩) ∧ (kk ≠ 1 → kk ≠ 2 → kk ≠ 3 → tt = ⟨#[]⟩ ∧ nn = ⟨#[]⟩ ∧ v1 = 0 ∧ v2 = 0 ∧ v3 = ⟨#[]⟩))):=Lib.hid (hQ ▸ Iff.rfl)
 rw [hQ]
 clear hQ
 simp only [exC]
 obtain ⟨W,hW⟩ : ∃ W,w.alloc (.cells #[.int .i64 kk,.int .i64 oo,.int .i64 v1,.int .i64 v2,.string v3,.string tt,.string nn,.slice a m c,.int .i64 pp] 49) = W:=⟨_,rfl⟩
 have hb : Below w.heap.size w W:=hW ▸ (Below.refl _ _).alloc (Nat.le_refl _) _
 have hr : W.heap[w.heap.size]? = some (.cells #[.int .i64 kk,.int .i64 oo,.int .i64 v1,.int .i64 v2,.string v3,.string tt,.string nn,.slice a m c,.int .i64 pp] 49 (0,0)):=hW ▸ heap_alloc_new w _
 have HB:=Lib.hid hb
 have HR:=Lib.hid hr
 obtain ⟨⟨y0,y1,y2,y3,y4,y5,y6,y7,y8⟩,-⟩:=nine_of hr
 clear hb hr
 go_enter Tryz.func81,Tryz.ntmps81
 go_upto_region 1 with fail
 clear hW
 by_cases n1 : kk = 1
 ·subst n1
  have HR2 : Hid (Q ↔ (0 ≤ oo ∧ oo ≤ 0 ∧ nn = ⟨#[]⟩ ∧ tt = ⟨#[]⟩ ∧ litOk (v1,v2,v3))):=Lib.hid (HQ.out.trans (by
   rw [show formK 1 = (0,0,0,0) from by decide]
   constructor
   ·rintro ⟨h1,h2,h3⟩
    obtain ⟨a,b,c⟩:=h3.1 rfl; exact ⟨h1,h2,b,a,c⟩
   ·rintro ⟨h1,h2,h3⟩
    exact ⟨h1,h2,fun _ => ⟨h3.2.1,h3.1,h3.2.2⟩,fun e => absurd e (by decide),fun e => absurd e (by decide),fun e => absurd rfl e⟩))
  clear HQ
  by_cases na : (0 : Int) ≤ oo
  rotate_left
  ·have d1 : oo < 0:=by omega
   have HE : Hid (¬ Q):=Lib.hid (fun h => na (HR2.out.1 h).1)
   go_wp2
   exact bodyPost_ret (v:=.bool false) (by simp [results,Tryz.results81,go_sem]) rfl (eq_no HE.out HB.out)
  by_cases nb : oo ≤ (0 : Int)
  rotate_left
  ·have d1 : ¬ oo < 0:=by omega
   have d2 : 0 < oo:=by omega
   have HE : Hid (¬ Q):=Lib.hid (fun h => nb (HR2.out.1 h).2.1)
   go_wp2
   exact bodyPost_ret (v:=.bool false) (by simp [results,Tryz.results81,go_sem]) rfl (eq_no HE.out HB.out)
  have d1 : ¬ oo < 0:=by omega
  have d2 : ¬ 0 < oo:=by omega
  have NA:=Lib.hid na
  have NB:=Lib.hid nb
  clear na nb
  go_wp2_with fail
  refine (dIsName_any nn _).mono ?_
  rintro e w' ⟨rfl,hw⟩
  replace hw:=hw.symm
  subst hw
  obtain ⟨bnn,hbnn⟩ : ∃ b,isName nn = b:=⟨_,rfl⟩
  rw [hbnn]
  have Hnn:=Lib.hid hbnn
  clear hbnn
  go_wp2_with fail
  refine (dIsName_any tt _).mono ?_
  rintro e w' ⟨rfl,hw⟩
  replace hw:=hw.symm
  subst hw
  obtain ⟨btt,hbtt⟩ : ∃ b,isName tt = b:=⟨_,rfl⟩
  rw [hbtt]
  have Htt:=Lib.hid hbtt
  clear hbtt
  by_cases en : nn = ⟨#[]⟩
  rotate_left
  ·obtain ⟨z1,z2⟩:=not_nil en
   have z3:=str_ne en
   have HE : Hid (¬ Q):=Lib.hid (fun h => en (HR2.out.1 h).2.2.1)
   go_wp2
   exact bodyPost_ret (v:=.bool false) (by simp [results,Tryz.results81,go_sem]) rfl (eq_no HE.out HB.out)
  subst en
  by_cases et : tt = ⟨#[]⟩
  rotate_left
  ·obtain ⟨z5,z6⟩:=not_nil et
   have z7:=str_ne et
   have HE : Hid (¬ Q):=Lib.hid (fun h => et (HR2.out.1 h).2.2.2.1)
   go_wp2
   exact bodyPost_ret (v:=.bool false) (by simp [results,Tryz.results81,go_sem]) rfl (eq_no HE.out HB.out)
  subst et
  go_wp2_with fail
  refine (rright_any v1 v2 v3 _).mono ?_
  rintro e w1 ⟨rfl,hl⟩
  have HB1:=Hbt HB hl
  have HRx:=Hbk hl HR
  clear hl HR y0 y1 y2 y3 y4 y5 y6 y7 y8
  obtain ⟨⟨y0,y1,y2,y3,y4,y5,y6,y7,y8⟩,-⟩:=nine_of HRx.out
  obtain ⟨br,hbr⟩ : ∃ b,rgt v1 v2 v3 = b:=⟨_,rfl⟩
  rw [hbr]
  have Hbr:=Lib.hid hbr
  clear hbr
  cases br with
  | false =>
   have HE : Hid (¬ Q):=Lib.hid (fun h => absurd ((HR2.out.1 h).2.2.2.2.1.symm.trans Hbr.out) (by simp))
   go_wp2
   exact bodyPost_ret (v:=.bool false) (by simp [results,Tryz.results81,go_sem]) rfl (eq_no HE.out HB1.out)
  | true =>
   by_cases e1 : v1 = 1
   ·subst e1
    by_cases e2 : 0 ≤ v2
    ·have HE : Hid Q:=HR2.out.2 ⟨NA.out,NB.out,by trivial,by trivial,Hbr.out,e2⟩
     go_wp2
     exact bodyPost_ret (v:=.bool true) (by simp [results,Tryz.results81,go_sem]) rfl (eq_yes HE.out HB1.out)
    ·have HE : Hid (¬ Q):=Lib.hid (fun h => e2 (HR2.out.1 h).2.2.2.2.2)
     go_wp2
     exact bodyPost_ret (v:=.bool false) (by simp [results,Tryz.results81,go_sem]; omega) rfl (eq_no HE.out HB1.out)
   ·have z1 : (v1 != 1) = true:=by simpa using e1
    have HE : Hid Q:=HR2.out.2 ⟨NA.out,NB.out,by trivial,by trivial,Hbr.out,(lit_alike (v:=(v1,v2,v3)) Hbr.out).1 (Or.inl e1)⟩
    clear e1
    go_wp2
    exact bodyPost_ret (v:=.bool true) (by simp [results,Tryz.results81,go_sem]) rfl (eq_yes HE.out HB1.out)
 have N1:=Lib.hid n1
 have d1_ : (kk == 1) = false:=by simpa using n1
 have d1__ : (kk != 1) = true:=by simpa using n1
 clear n1
 by_cases n2 : kk = 2
 ·subst n2
  have HR2 : Hid (Q ↔ (0 ≤ oo ∧ oo ≤ 0 ∧ isName nn = true ∧ tt = ⟨#[]⟩ ∧ v1 = 0 ∧ v2 = 0 ∧ v3 = ⟨#[]⟩)):=Lib.hid (HQ.out.trans (by
   rw [show formK 2 = (0,0,0,0) from by decide]
   constructor
   ·rintro ⟨h1,h2,h3⟩
    obtain ⟨a,b,c⟩:=h3.2.1 rfl; exact ⟨h1,h2,b,a,c⟩
   ·rintro ⟨h1,h2,h3⟩
    exact ⟨h1,h2,fun e => absurd e (by decide),fun _ => ⟨h3.2.1,h3.1,h3.2.2⟩,fun e => absurd e (by decide),fun _ e => absurd rfl e⟩))
  clear HQ
  by_cases na : (0 : Int) ≤ oo
  rotate_left
  ·have d1 : oo < 0:=by omega
   have HE : Hid (¬ Q):=Lib.hid (fun h => na (HR2.out.1 h).1)
   go_wp2
   exact bodyPost_ret (v:=.bool false) (by simp [results,Tryz.results81,go_sem]) rfl (eq_no HE.out HB.out)
  by_cases nb : oo ≤ (0 : Int)
  rotate_left
  ·have d1 : ¬ oo < 0:=by omega
   have d2 : 0 < oo:=by omega
   have HE : Hid (¬ Q):=Lib.hid (fun h => nb (HR2.out.1 h).2.1)
   go_wp2
   exact bodyPost_ret (v:=.bool false) (by simp [results,Tryz.results81,go_sem]) rfl (eq_no HE.out HB.out)
  have d1 : ¬ oo < 0:=by omega
  have d2 : ¬ 0 < oo:=by omega
  have NA:=Lib.hid na
  have NB:=Lib.hid nb
  clear na nb
  go_wp2_with fail
  refine (dIsName_any nn _).mono ?_
  rintro e w' ⟨rfl,hw⟩
  replace hw:=hw.symm
  subst hw
  obtain ⟨bnn,hbnn⟩ : ∃ b,isName nn = b:=⟨_,rfl⟩
  rw [hbnn]
  have Hnn:=Lib.hid hbnn
  clear hbnn
  go_wp2_with fail
  refine (dIsName_any tt _).mono ?_
  rintro e w' ⟨rfl,hw⟩
  replace hw:=hw.symm
  subst hw
  obtain ⟨btt,hbtt⟩ : ∃ b,isName tt = b:=⟨_,rfl⟩
  rw [hbtt]
  have Htt:=Lib.hid hbtt
  clear hbtt
  cases bnn with
  | false =>
   have HE : Hid (¬ Q):=Lib.hid (fun h => absurd ((HR2.out.1 h).2.2.1.symm.trans Hnn.out) (by simp))
   go_wp2
   exact bodyPost_ret (v:=.bool false) (by simp [results,Tryz.results81,go_sem]) rfl (eq_no HE.out HB.out)
  | true =>
   by_cases et : tt = ⟨#[]⟩
   rotate_left
   ·obtain ⟨z5,z6⟩:=not_nil et
    have z7:=str_ne et
    have HE : Hid (¬ Q):=Lib.hid (fun h => et (HR2.out.1 h).2.2.2.1)
    go_wp2
    exact bodyPost_ret (v:=.bool false) (by simp [results,Tryz.results81,go_sem]) rfl (eq_no HE.out HB.out)
   subst et
   by_cases m0 : v1 = 0
   rotate_left
   ·have z1 : (v1 == 0) = false:=by simpa using m0
    have HE : Hid (¬ Q):=Lib.hid (fun h => m0 (HR2.out.1 h).2.2.2.2.1)
    go_wp2
    exact bodyPost_ret (v:=.bool false) (by simp [results,Tryz.results81,go_sem]) rfl (eq_no HE.out HB.out)
   subst m0
   by_cases m1 : v2 = 0
   rotate_left
   ·have z1 : (v2 == 0) = false:=by simpa using m1
    have HE : Hid (¬ Q):=Lib.hid (fun h => m1 (HR2.out.1 h).2.2.2.2.2.1)
    go_wp2
    exact bodyPost_ret (v:=.bool false) (by simp [results,Tryz.results81,go_sem]) rfl (eq_no HE.out HB.out)
   subst m1
   by_cases m2 : v3 = ⟨#[]⟩
   rotate_left
   ·obtain ⟨z1,z2⟩:=not_nil m2
    have HE : Hid (¬ Q):=Lib.hid (fun h => m2 (HR2.out.1 h).2.2.2.2.2.2)
    go_wp2
    exact bodyPost_ret (v:=.bool false) (by simp [results,Tryz.results81,go_sem]) rfl (eq_no HE.out HB.out)
   subst m2
   have HE : Hid Q:=HR2.out.2 ⟨NA.out,NB.out,Hnn.out,by trivial,by trivial,by trivial,by trivial⟩
   go_wp2
   exact bodyPost_ret (v:=.bool true) (by simp [results,Tryz.results81,go_sem]) rfl (eq_yes HE.out HB.out)
 have N2:=Lib.hid n2
 have d2_ : (kk == 2) = false:=by simpa using n2
 have d2__ : (kk != 2) = true:=by simpa using n2
 clear n2
 by_cases n3 : kk = 3
 ·subst n3
  have HR2 : Hid (Q ↔ (0 ≤ oo ∧ oo ≤ 0 ∧ isName nn = true ∧ (tt = ⟨#[]⟩ ∨ isName tt = true) ∧ v1 = 0 ∧ v2 = 0 ∧ v3 = ⟨#[]⟩)):=Lib.hid (HQ.out.trans (by
   rw [show formK 3 = (0,0,0,0) from by decide]
   constructor
   ·rintro ⟨h1,h2,h3⟩
    obtain ⟨a,b,c⟩:=h3.2.2.1 rfl; exact ⟨h1,h2,b,a,c⟩
   ·rintro ⟨h1,h2,h3⟩
    exact ⟨h1,h2,fun e => absurd e (by decide),fun e => absurd e (by decide),fun _ => ⟨h3.2.1,h3.1,h3.2.2⟩,fun _ _ e => absurd rfl e⟩))
  clear HQ
  by_cases na : (0 : Int) ≤ oo
  rotate_left
  ·have d1 : oo < 0:=by omega
   have HE : Hid (¬ Q):=Lib.hid (fun h => na (HR2.out.1 h).1)
   go_wp2
   exact bodyPost_ret (v:=.bool false) (by simp [results,Tryz.results81,go_sem]) rfl (eq_no HE.out HB.out)
  by_cases nb : oo ≤ (0 : Int)
  rotate_left
  ·have d1 : ¬ oo < 0:=by omega
   have d2 : 0 < oo:=by omega
   have HE : Hid (¬ Q):=Lib.hid (fun h => nb (HR2.out.1 h).2.1)
   go_wp2
   exact bodyPost_ret (v:=.bool false) (by simp [results,Tryz.results81,go_sem]) rfl (eq_no HE.out HB.out)
  have d1 : ¬ oo < 0:=by omega
  have d2 : ¬ 0 < oo:=by omega
  have NA:=Lib.hid na
  have NB:=Lib.hid nb
  clear na nb
  go_wp2_with fail
  refine (dIsName_any nn _).mono ?_
  rintro e w' ⟨rfl,hw⟩
  replace hw:=hw.symm
  subst hw
  obtain ⟨bnn,hbnn⟩ : ∃ b,isName nn = b:=⟨_,rfl⟩
  rw [hbnn]
  have Hnn:=Lib.hid hbnn
  clear hbnn
  go_wp2_with fail
  refine (dIsName_any tt _).mono ?_
  rintro e w' ⟨rfl,hw⟩
  replace hw:=hw.symm
  subst hw
  obtain ⟨btt,hbtt⟩ : ∃ b,isName tt = b:=⟨_,rfl⟩
  rw [hbtt]
  have Htt:=Lib.hid hbtt
  clear hbtt
  cases bnn with
  | false =>
   have HE : Hid (¬ Q):=Lib.hid (fun h => absurd ((HR2.out.1 h).2.2.1.symm.trans Hnn.out) (by simp))
   go_wp2
   exact bodyPost_ret (v:=.bool false) (by simp [results,Tryz.results81,go_sem]) rfl (eq_no HE.out HB.out)
  | true =>
   by_cases et : tt = ⟨#[]⟩
   ·have HT : Hid (tt = ⟨#[]⟩ ∨ isName tt = true):=Or.inl et
    subst et
    by_cases m0 : v1 = 0
    rotate_left
    ·have z1 : (v1 == 0) = false:=by simpa using m0
     have HE : Hid (¬ Q):=Lib.hid (fun h => m0 (HR2.out.1 h).2.2.2.2.1)
     go_wp2
     exact bodyPost_ret (v:=.bool false) (by simp [results,Tryz.results81,go_sem]) rfl (eq_no HE.out HB.out)
    subst m0
    by_cases m1 : v2 = 0
    rotate_left
    ·have z1 : (v2 == 0) = false:=by simpa using m1
     have HE : Hid (¬ Q):=Lib.hid (fun h => m1 (HR2.out.1 h).2.2.2.2.2.1)
     go_wp2
     exact bodyPost_ret (v:=.bool false) (by simp [results,Tryz.results81,go_sem]) rfl (eq_no HE.out HB.out)
    subst m1
    by_cases m2 : v3 = ⟨#[]⟩
    rotate_left
    ·obtain ⟨z1,z2⟩:=not_nil m2
     have HE : Hid (¬ Q):=Lib.hid (fun h => m2 (HR2.out.1 h).2.2.2.2.2.2)
     go_wp2
     exact bodyPost_ret (v:=.bool false) (by simp [results,Tryz.results81,go_sem]) rfl (eq_no HE.out HB.out)
    subst m2
    have HE : Hid Q:=HR2.out.2 ⟨NA.out,NB.out,Hnn.out,by simp,by trivial,by trivial,by trivial⟩
    go_wp2
    exact bodyPost_ret (v:=.bool true) (by simp [results,Tryz.results81,go_sem]) rfl (eq_yes HE.out HB.out)
   ·obtain ⟨z5,z6⟩:=not_nil et
    have z7:=str_ne et
    have ET:=Lib.hid et
    clear et
    cases btt with
    | false =>
     have HE : Hid (¬ Q):=Lib.hid (fun h => absurd (((HR2.out.1 h).2.2.2.1.resolve_left ET.out).symm.trans Htt.out) (by simp))
     go_wp2
     exact bodyPost_ret (v:=.bool false) (by simp [results,Tryz.results81,go_sem]) rfl (eq_no HE.out HB.out)
    | true =>
     by_cases m0 : v1 = 0
     rotate_left
     ·have z1 : (v1 == 0) = false:=by simpa using m0
      have HE : Hid (¬ Q):=Lib.hid (fun h => m0 (HR2.out.1 h).2.2.2.2.1)
      go_wp2
      exact bodyPost_ret (v:=.bool false) (by simp [results,Tryz.results81,go_sem]) rfl (eq_no HE.out HB.out)
     subst m0
     by_cases m1 : v2 = 0
     rotate_left
     ·have z1 : (v2 == 0) = false:=by simpa using m1
      have HE : Hid (¬ Q):=Lib.hid (fun h => m1 (HR2.out.1 h).2.2.2.2.2.1)
      go_wp2
      exact bodyPost_ret (v:=.bool false) (by simp [results,Tryz.results81,go_sem]) rfl (eq_no HE.out HB.out)
     subst m1
     by_cases m2 : v3 = ⟨#[]⟩
     rotate_left
     ·obtain ⟨z1,z2⟩:=not_nil m2
      have HE : Hid (¬ Q):=Lib.hid (fun h => m2 (HR2.out.1 h).2.2.2.2.2.2)
      go_wp2
      exact bodyPost_ret (v:=.bool false) (by simp [results,Tryz.results81,go_sem]) rfl (eq_no HE.out HB.out)
     subst m2
     have HE : Hid Q:=HR2.out.2 ⟨NA.out,NB.out,Hnn.out,Or.inr Htt.out,by trivial,by trivial,by trivial⟩
     go_wp2
     exact bodyPost_ret (v:=.bool true) (by simp [results,Tryz.results81,go_sem]) rfl (eq_yes HE.out HB.out)
 have N3:=Lib.hid n3
 have d3_ : (kk == 3) = false:=by simpa using n3
 have d3__ : (kk != 3) = true:=by simpa using n3
 clear n3
 by_cases n5 : kk = 5
 ·subst n5
  have HR2 : Hid (Q ↔ (1 ≤ oo ∧ oo ≤ 5 ∧ nn = ⟨#[]⟩ ∧ tt = ⟨#[]⟩ ∧ v1 = 0 ∧ v2 = 0 ∧ v3 = ⟨#[]⟩)):=Lib.hid (HQ.out.trans (by
   rw [show formK 5 = (1,5,2,2) from by decide]
   constructor
   ·rintro ⟨h1,h2,h3⟩
    obtain ⟨a,b,c⟩:=h3.2.2.2 (by decide) (by decide) (by decide); exact ⟨h1,h2,b,a,c⟩
   ·rintro ⟨h1,h2,h3⟩
    exact ⟨h1,h2,fun e => absurd e (by decide),fun e => absurd e (by decide),fun e => absurd e (by decide),fun _ _ _ => ⟨h3.2.1,h3.1,h3.2.2⟩⟩))
  clear HQ
  by_cases na : (1 : Int) ≤ oo
  rotate_left
  ·have d1 : oo < 1:=by omega
   have HE : Hid (¬ Q):=Lib.hid (fun h => na (HR2.out.1 h).1)
   go_wp2
   exact bodyPost_ret (v:=.bool false) (by simp [results,Tryz.results81,go_sem]) rfl (eq_no HE.out HB.out)
  by_cases nb : oo ≤ (5 : Int)
  rotate_left
  ·have d1 : ¬ oo < 1:=by omega
   have d2 : 5 < oo:=by omega
   have HE : Hid (¬ Q):=Lib.hid (fun h => nb (HR2.out.1 h).2.1)
   go_wp2
   exact bodyPost_ret (v:=.bool false) (by simp [results,Tryz.results81,go_sem]) rfl (eq_no HE.out HB.out)
  have d1 : ¬ oo < 1:=by omega
  have d2 : ¬ 5 < oo:=by omega
  have NA:=Lib.hid na
  have NB:=Lib.hid nb
  clear na nb
  go_wp2_with fail
  refine (dIsName_any nn _).mono ?_
  rintro e w' ⟨rfl,hw⟩
  replace hw:=hw.symm
  subst hw
  obtain ⟨bnn,hbnn⟩ : ∃ b,isName nn = b:=⟨_,rfl⟩
  rw [hbnn]
  have Hnn:=Lib.hid hbnn
  clear hbnn
  go_wp2_with fail
  refine (dIsName_any tt _).mono ?_
  rintro e w' ⟨rfl,hw⟩
  replace hw:=hw.symm
  subst hw
  obtain ⟨btt,hbtt⟩ : ∃ b,isName tt = b:=⟨_,rfl⟩
  rw [hbtt]
  have Htt:=Lib.hid hbtt
  clear hbtt
  by_cases en : nn = ⟨#[]⟩
  rotate_left
  ·obtain ⟨z1,z2⟩:=not_nil en
   have z3:=str_ne en
   have HE : Hid (¬ Q):=Lib.hid (fun h => en (HR2.out.1 h).2.2.1)
   go_wp2
   exact bodyPost_ret (v:=.bool false) (by simp [results,Tryz.results81,go_sem]) rfl (eq_no HE.out HB.out)
  subst en
  by_cases et : tt = ⟨#[]⟩
  rotate_left
  ·obtain ⟨z5,z6⟩:=not_nil et
   have z7:=str_ne et
   have HE : Hid (¬ Q):=Lib.hid (fun h => et (HR2.out.1 h).2.2.2.1)
   go_wp2
   exact bodyPost_ret (v:=.bool false) (by simp [results,Tryz.results81,go_sem]) rfl (eq_no HE.out HB.out)
  subst et
  by_cases m0 : v1 = 0
  rotate_left
  ·have z1 : (v1 == 0) = false:=by simpa using m0
   have HE : Hid (¬ Q):=Lib.hid (fun h => m0 (HR2.out.1 h).2.2.2.2.1)
   go_wp2
   exact bodyPost_ret (v:=.bool false) (by simp [results,Tryz.results81,go_sem]) rfl (eq_no HE.out HB.out)
  subst m0
  by_cases m1 : v2 = 0
  rotate_left
  ·have z1 : (v2 == 0) = false:=by simpa using m1
   have HE : Hid (¬ Q):=Lib.hid (fun h => m1 (HR2.out.1 h).2.2.2.2.2.1)
   go_wp2
   exact bodyPost_ret (v:=.bool false) (by simp [results,Tryz.results81,go_sem]) rfl (eq_no HE.out HB.out)
  subst m1
  by_cases m2 : v3 = ⟨#[]⟩
  rotate_left
  ·obtain ⟨z1,z2⟩:=not_nil m2
   have HE : Hid (¬ Q):=Lib.hid (fun h => m2 (HR2.out.1 h).2.2.2.2.2.2)
   go_wp2
   exact bodyPost_ret (v:=.bool false) (by simp [results,Tryz.results81,go_sem]) rfl (eq_no HE.out HB.out)
  subst m2
  have HE : Hid Q:=HR2.out.2 ⟨NA.out,NB.out,by trivial,by trivial,by trivial,by trivial,by trivial⟩
  go_wp2
  exact bodyPost_ret (v:=.bool true) (by simp [results,Tryz.results81,go_sem]) rfl (eq_yes HE.out HB.out)
 have N5:=Lib.hid n5
 have d5_ : (kk == 5) = false:=by simpa using n5
 have d5__ : (kk != 5) = true:=by simpa using n5
 clear n5
 by_cases n6 : kk = 6
 ·subst n6
  have HR2 : Hid (Q ↔ (1 ≤ oo ∧ oo ≤ 6 ∧ nn = ⟨#[]⟩ ∧ tt = ⟨#[]⟩ ∧ v1 = 0 ∧ v2 = 0 ∧ v3 = ⟨#[]⟩)):=Lib.hid (HQ.out.trans (by
   rw [show formK 6 = (1,6,2,2) from by decide]
   constructor
   ·rintro ⟨h1,h2,h3⟩
    obtain ⟨a,b,c⟩:=h3.2.2.2 (by decide) (by decide) (by decide); exact ⟨h1,h2,b,a,c⟩
   ·rintro ⟨h1,h2,h3⟩
    exact ⟨h1,h2,fun e => absurd e (by decide),fun e => absurd e (by decide),fun e => absurd e (by decide),fun _ _ _ => ⟨h3.2.1,h3.1,h3.2.2⟩⟩))
  clear HQ
  by_cases na : (1 : Int) ≤ oo
  rotate_left
  ·have d1 : oo < 1:=by omega
   have HE : Hid (¬ Q):=Lib.hid (fun h => na (HR2.out.1 h).1)
   go_wp2
   exact bodyPost_ret (v:=.bool false) (by simp [results,Tryz.results81,go_sem]) rfl (eq_no HE.out HB.out)
  by_cases nb : oo ≤ (6 : Int)
  rotate_left
  ·have d1 : ¬ oo < 1:=by omega
   have d2 : 6 < oo:=by omega
   have HE : Hid (¬ Q):=Lib.hid (fun h => nb (HR2.out.1 h).2.1)
   go_wp2
   exact bodyPost_ret (v:=.bool false) (by simp [results,Tryz.results81,go_sem]) rfl (eq_no HE.out HB.out)
  have d1 : ¬ oo < 1:=by omega
  have d2 : ¬ 6 < oo:=by omega
  have NA:=Lib.hid na
  have NB:=Lib.hid nb
  clear na nb
  go_wp2_with fail
  refine (dIsName_any nn _).mono ?_
  rintro e w' ⟨rfl,hw⟩
  replace hw:=hw.symm
  subst hw
  obtain ⟨bnn,hbnn⟩ : ∃ b,isName nn = b:=⟨_,rfl⟩
  rw [hbnn]
  have Hnn:=Lib.hid hbnn
  clear hbnn
  go_wp2_with fail
  refine (dIsName_any tt _).mono ?_
  rintro e w' ⟨rfl,hw⟩
  replace hw:=hw.symm
  subst hw
  obtain ⟨btt,hbtt⟩ : ∃ b,isName tt = b:=⟨_,rfl⟩
  rw [hbtt]
  have Htt:=Lib.hid hbtt
  clear hbtt
  by_cases en : nn = ⟨#[]⟩
  rotate_left
  ·obtain ⟨z1,z2⟩:=not_nil en
   have z3:=str_ne en
   have HE : Hid (¬ Q):=Lib.hid (fun h => en (HR2.out.1 h).2.2.1)
   go_wp2
   exact bodyPost_ret (v:=.bool false) (by simp [results,Tryz.results81,go_sem]) rfl (eq_no HE.out HB.out)
  subst en
  by_cases et : tt = ⟨#[]⟩
  rotate_left
  ·obtain ⟨z5,z6⟩:=not_nil et
   have z7:=str_ne et
   have HE : Hid (¬ Q):=Lib.hid (fun h => et (HR2.out.1 h).2.2.2.1)
   go_wp2
   exact bodyPost_ret (v:=.bool false) (by simp [results,Tryz.results81,go_sem]) rfl (eq_no HE.out HB.out)
  subst et
  by_cases m0 : v1 = 0
  rotate_left
  ·have z1 : (v1 == 0) = false:=by simpa using m0
   have HE : Hid (¬ Q):=Lib.hid (fun h => m0 (HR2.out.1 h).2.2.2.2.1)
   go_wp2
   exact bodyPost_ret (v:=.bool false) (by simp [results,Tryz.results81,go_sem]) rfl (eq_no HE.out HB.out)
  subst m0
  by_cases m1 : v2 = 0
  rotate_left
  ·have z1 : (v2 == 0) = false:=by simpa using m1
   have HE : Hid (¬ Q):=Lib.hid (fun h => m1 (HR2.out.1 h).2.2.2.2.2.1)
   go_wp2
   exact bodyPost_ret (v:=.bool false) (by simp [results,Tryz.results81,go_sem]) rfl (eq_no HE.out HB.out)
  subst m1
  by_cases m2 : v3 = ⟨#[]⟩
  rotate_left
  ·obtain ⟨z1,z2⟩:=not_nil m2
   have HE : Hid (¬ Q):=Lib.hid (fun h => m2 (HR2.out.1 h).2.2.2.2.2.2)
   go_wp2
   exact bodyPost_ret (v:=.bool false) (by simp [results,Tryz.results81,go_sem]) rfl (eq_no HE.out HB.out)
  subst m2
  have HE : Hid Q:=HR2.out.2 ⟨NA.out,NB.out,by trivial,by trivial,by trivial,by trivial,by trivial⟩
  go_wp2
  exact bodyPost_ret (v:=.bool true) (by simp [results,Tryz.results81,go_sem]) rfl (eq_yes HE.out HB.out)
 have N6:=Lib.hid n6
 have d6_ : (kk == 6) = false:=by simpa using n6
 have d6__ : (kk != 6) = true:=by simpa using n6
 clear n6
 by_cases n7 : kk = 7
 ·subst n7
  have HR2 : Hid (Q ↔ (0 ≤ oo ∧ oo ≤ 1 ∧ nn = ⟨#[]⟩ ∧ tt = ⟨#[]⟩ ∧ v1 = 0 ∧ v2 = 0 ∧ v3 = ⟨#[]⟩)):=Lib.hid (HQ.out.trans (by
   rw [show formK 7 = (0,1,1,1) from by decide]
   constructor
   ·rintro ⟨h1,h2,h3⟩
    obtain ⟨a,b,c⟩:=h3.2.2.2 (by decide) (by decide) (by decide); exact ⟨h1,h2,b,a,c⟩
   ·rintro ⟨h1,h2,h3⟩
    exact ⟨h1,h2,fun e => absurd e (by decide),fun e => absurd e (by decide),fun e => absurd e (by decide),fun _ _ _ => ⟨h3.2.1,h3.1,h3.2.2⟩⟩))
  clear HQ
  by_cases na : (0 : Int) ≤ oo
  rotate_left
  ·have d1 : oo < 0:=by omega
   have HE : Hid (¬ Q):=Lib.hid (fun h => na (HR2.out.1 h).1)
   go_wp2
   exact bodyPost_ret (v:=.bool false) (by simp [results,Tryz.results81,go_sem]) rfl (eq_no HE.out HB.out)
  by_cases nb : oo ≤ (1 : Int)
  rotate_left
  ·have d1 : ¬ oo < 0:=by omega
   have d2 : 1 < oo:=by omega
   have HE : Hid (¬ Q):=Lib.hid (fun h => nb (HR2.out.1 h).2.1)
   go_wp2
   exact bodyPost_ret (v:=.bool false) (by simp [results,Tryz.results81,go_sem]) rfl (eq_no HE.out HB.out)
  have d1 : ¬ oo < 0:=by omega
  have d2 : ¬ 1 < oo:=by omega
  have NA:=Lib.hid na
  have NB:=Lib.hid nb
  clear na nb
  go_wp2_with fail
  refine (dIsName_any nn _).mono ?_
  rintro e w' ⟨rfl,hw⟩
  replace hw:=hw.symm
  subst hw
  obtain ⟨bnn,hbnn⟩ : ∃ b,isName nn = b:=⟨_,rfl⟩
  rw [hbnn]
  have Hnn:=Lib.hid hbnn
  clear hbnn
  go_wp2_with fail
  refine (dIsName_any tt _).mono ?_
  rintro e w' ⟨rfl,hw⟩
  replace hw:=hw.symm
  subst hw
  obtain ⟨btt,hbtt⟩ : ∃ b,isName tt = b:=⟨_,rfl⟩
  rw [hbtt]
  have Htt:=Lib.hid hbtt
  clear hbtt
  by_cases en : nn = ⟨#[]⟩
  rotate_left
  ·obtain ⟨z1,z2⟩:=not_nil en
   have z3:=str_ne en
   have HE : Hid (¬ Q):=Lib.hid (fun h => en (HR2.out.1 h).2.2.1)
   go_wp2
   exact bodyPost_ret (v:=.bool false) (by simp [results,Tryz.results81,go_sem]) rfl (eq_no HE.out HB.out)
  subst en
  by_cases et : tt = ⟨#[]⟩
  rotate_left
  ·obtain ⟨z5,z6⟩:=not_nil et
   have z7:=str_ne et
   have HE : Hid (¬ Q):=Lib.hid (fun h => et (HR2.out.1 h).2.2.2.1)
   go_wp2
   exact bodyPost_ret (v:=.bool false) (by simp [results,Tryz.results81,go_sem]) rfl (eq_no HE.out HB.out)
  subst et
  by_cases m0 : v1 = 0
  rotate_left
  ·have z1 : (v1 == 0) = false:=by simpa using m0
   have HE : Hid (¬ Q):=Lib.hid (fun h => m0 (HR2.out.1 h).2.2.2.2.1)
   go_wp2
   exact bodyPost_ret (v:=.bool false) (by simp [results,Tryz.results81,go_sem]) rfl (eq_no HE.out HB.out)
  subst m0
  by_cases m1 : v2 = 0
  rotate_left
  ·have z1 : (v2 == 0) = false:=by simpa using m1
   have HE : Hid (¬ Q):=Lib.hid (fun h => m1 (HR2.out.1 h).2.2.2.2.2.1)
   go_wp2
   exact bodyPost_ret (v:=.bool false) (by simp [results,Tryz.results81,go_sem]) rfl (eq_no HE.out HB.out)
  subst m1
  by_cases m2 : v3 = ⟨#[]⟩
  rotate_left
  ·obtain ⟨z1,z2⟩:=not_nil m2
   have HE : Hid (¬ Q):=Lib.hid (fun h => m2 (HR2.out.1 h).2.2.2.2.2.2)
   go_wp2
   exact bodyPost_ret (v:=.bool false) (by simp [results,Tryz.results81,go_sem]) rfl (eq_no HE.out HB.out)
  subst m2
  have HE : Hid Q:=HR2.out.2 ⟨NA.out,NB.out,by trivial,by trivial,by trivial,by trivial,by trivial⟩
  go_wp2
  exact bodyPost_ret (v:=.bool true) (by simp [results,Tryz.results81,go_sem]) rfl (eq_yes HE.out HB.out)
 have N7:=Lib.hid n7
 have d7_ : (kk == 7) = false:=by simpa using n7
 have d7__ : (kk != 7) = true:=by simpa using n7
 clear n7
 have hfk : (formK kk).1 = 0 ∧ (formK kk).2.1 = 0:=by
  unfold formK
  rw [if_neg N5.out,if_neg N6.out,if_neg N7.out]
  repeat' split
  all_goals exact ⟨rfl,rfl⟩
 have HFK:=Lib.hid hfk
 clear hfk
 have HR2 : Hid (Q ↔ (0 ≤ oo ∧ oo ≤ 0 ∧ nn = ⟨#[]⟩ ∧ tt = ⟨#[]⟩ ∧ v1 = 0 ∧ v2 = 0 ∧ v3 = ⟨#[]⟩)):=Lib.hid (HQ.out.trans (by
  rw [HFK.out.1,HFK.out.2]
  constructor
  ·rintro ⟨h1,h2,h3⟩
   obtain ⟨a,b,c⟩:=h3.2.2.2 N1.out N2.out N3.out; exact ⟨h1,h2,b,a,c⟩
  ·rintro ⟨h1,h2,h3⟩
   exact ⟨h1,h2,fun e => absurd e N1.out,fun e => absurd e N2.out,fun e => absurd e N3.out,fun _ _ _ => ⟨h3.2.1,h3.1,h3.2.2⟩⟩))
 clear HQ
 by_cases na : (0 : Int) ≤ oo
 rotate_left
 ·have d1 : oo < 0:=by omega
  have HE : Hid (¬ Q):=Lib.hid (fun h => na (HR2.out.1 h).1)
  go_wp2
  exact bodyPost_ret (v:=.bool false) (by simp [results,Tryz.results81,go_sem]) rfl (eq_no HE.out HB.out)
 by_cases nb : oo ≤ (0 : Int)
 rotate_left
 ·have d1 : ¬ oo < 0:=by omega
  have d2 : 0 < oo:=by omega
  have HE : Hid (¬ Q):=Lib.hid (fun h => nb (HR2.out.1 h).2.1)
  go_wp2
  exact bodyPost_ret (v:=.bool false) (by simp [results,Tryz.results81,go_sem]) rfl (eq_no HE.out HB.out)
 have d1 : ¬ oo < 0:=by omega
 have d2 : ¬ 0 < oo:=by omega
 have NA:=Lib.hid na
 have NB:=Lib.hid nb
 clear na nb
 go_wp2_with fail
 refine (dIsName_any nn _).mono ?_
 rintro e w' ⟨rfl,hw⟩
 replace hw:=hw.symm
 subst hw
 obtain ⟨bnn,hbnn⟩ : ∃ b,isName nn = b:=⟨_,rfl⟩
 rw [hbnn]
 have Hnn:=Lib.hid hbnn
 clear hbnn
 go_wp2_with fail
 refine (dIsName_any tt _).mono ?_
 rintro e w' ⟨rfl,hw⟩
 replace hw:=hw.symm
 subst hw
 obtain ⟨btt,hbtt⟩ : ∃ b,isName tt = b:=⟨_,rfl⟩
 rw [hbtt]
 have Htt:=Lib.hid hbtt
 clear hbtt
 by_cases en : nn = ⟨#[]⟩
 rotate_left
 ·obtain ⟨z1,z2⟩:=not_nil en
  have z3:=str_ne en
  have HE : Hid (¬ Q):=Lib.hid (fun h => en (HR2.out.1 h).2.2.1)
  go_wp2
  exact bodyPost_ret (v:=.bool false) (by simp [results,Tryz.results81,go_sem]) rfl (eq_no HE.out HB.out)
 subst en
 by_cases et : tt = ⟨#[]⟩
 rotate_left
 ·obtain ⟨z5,z6⟩:=not_nil et
  have z7:=str_ne et
  have HE : Hid (¬ Q):=Lib.hid (fun h => et (HR2.out.1 h).2.2.2.1)
  go_wp2
  exact bodyPost_ret (v:=.bool false) (by simp [results,Tryz.results81,go_sem]) rfl (eq_no HE.out HB.out)
 subst et
 by_cases m0 : v1 = 0
 rotate_left
 ·have z1 : (v1 == 0) = false:=by simpa using m0
  have HE : Hid (¬ Q):=Lib.hid (fun h => m0 (HR2.out.1 h).2.2.2.2.1)
  go_wp2
  exact bodyPost_ret (v:=.bool false) (by simp [results,Tryz.results81,go_sem]) rfl (eq_no HE.out HB.out)
 subst m0
 by_cases m1 : v2 = 0
 rotate_left
 ·have z1 : (v2 == 0) = false:=by simpa using m1
  have HE : Hid (¬ Q):=Lib.hid (fun h => m1 (HR2.out.1 h).2.2.2.2.2.1)
  go_wp2
  exact bodyPost_ret (v:=.bool false) (by simp [results,Tryz.results81,go_sem]) rfl (eq_no HE.out HB.out)
 subst m1
 by_cases m2 : v3 = ⟨#[]⟩
 rotate_left
 ·obtain ⟨z1,z2⟩:=not_nil m2
  have HE : Hid (¬ Q):=Lib.hid (fun h => m2 (HR2.out.1 h).2.2.2.2.2.2)
  go_wp2
  exact bodyPost_ret (v:=.bool false) (by simp [results,Tryz.results81,go_sem]) rfl (eq_no HE.out HB.out)
 subst m2
 have HE : Hid Q:=HR2.out.2 ⟨NA.out,NB.out,by trivial,by trivial,by trivial,by trivial,by trivial⟩
 go_wp2
 exact bodyPost_ret (v:=.bool true) (by simp [results,Tryz.results81,go_sem]) rfl (eq_yes HE.out HB.out)
end Go.Proofs.YteolnlcmnaknnaaGreatDoor
