/- A27 A28 A29 A30 A31 -/
import Derived.Test.YtffalonhkemieaaGreatDoorSA20
set_option maxHeartbeats 8000000
set_option maxRecDepth 100000
namespace Go.Proofs.YtffalonhkemieaaGreatDoor
open Go.RowKit
theorem dnext_run (s : ByteArray) (a : Nat) (w : World) (ha : a < s.size) (hs : s.size ≤ 1000) (hr : runB s[a]) : Calls Tryz.prog 54 #[.string s,Vi (a : Int)] w (DTokP (pcA s a) a w):=by
 have hai : (a : Int) < (s.size : Int):=by omega
 obtain ⟨p1,p2⟩:=pcA_run ha hr
 have hRU:=drun_any s a
 have hle:=runN_le (bl s a)
 rw [bl_len] at hle
 obtain ⟨X,hX⟩:=Vx (s.extract a (a + runN (bl s a)))
 have hXs : X.size = runN (bl s a):=by rw [← hX,ByteArray.size_extract]; omega
 rw [hX] at p1
 have hRU2 : ∀ w,Calls Tryz.prog 95 #[.string s,Vi (a : Int)] w fun e w' => e = .returned (.string X) ∧ w' = w:=fun w => by have:=hRU w (by omega) hs; rw [hX] at this; exact this
 have HRU:=Hd hRU2
 have hX0 : 0 < X.size:=by omega
 have hne : (X.toList == []) = false:=by
  rw [beq_eq_false_iff_ne,ByteArray.toList_eq]
  intro e
  have : X.data.toList.length = X.size:=by simp
  rw [e] at this
  simp at this
  omega
 have hX1 : runB X[0]:=by
  have h1:=bl_in hX0
  have h2:=bl_in ha
  have h3 : X.data.toList = (bl s a).take (runN (bl s a)):=by rw [← hX,extract_bl]
  rw [bl,List.drop_zero,h3] at h1
  obtain ⟨n,hn⟩ : ∃ n,runN (bl s a) = n + 1:=⟨runN (bl s a) - 1,by omega⟩
  rw [hn,h2,List.take_succ_cons] at h1
  rw [← (List.cons.inj h1).1]
  exact hr
 have HWD : Hid (∀ W,Calls Tryz.prog 96 #[.agg (Vk 0 0 Vz a),.string X] W (DTokP (pcA s a) a W)):=by
  intro W
  have:=dword_any X a W hX0 (by omega) (by omega) hX1
  rw [p1] at this
  exact this
 clear hRU hRU2 hX p1 p2 hX1 hr hle hXs
 go_enter Tryz.func54,Tryz.ntmps54
 go_wp2_with (first | (go_at_call 95; refine (HRU.out _).mono ?_; rintro e w' ⟨rfl,he⟩; rw [he]; clear he))
 refine (HWD.out _).mono ?_
 rintro e w1 ⟨⟨k,n,t⟩,b,z,rfl,hz,ht,hb⟩
 obtain ⟨e1,e2,e3,e4,hbw⟩:=two_blocks hb
 have zm:=four_of e1
 have HZ:=Hd hz
 have HT:=Hd ht
 clear hb hz ht e1 e2
 unfold tkA
 go_wp2
 exact bodyPost_ret (v:=.tuple #[tkA (k,n,t) (a : Int),Vi b,Vi z]) (by simp [results,Tryz.results54,go_sem,tkA,zm]) rfl (⟨(k,n,t),b,z,rfl,HZ.out,HT.out,by (repeat (first | with_reducible exact Below.refl _ _ | with_reducible assumption | refine Below.drew ?_ | refine Below.setCell ?_ (by first | omega | (simp; done) | (simp; omega)) _ | refine Below.alloc ?_ (by first | omega | (simp; done) | (simp; omega)) _ | refine Below.trans ?_ (Below.mono (by with_reducible assumption) (by first | omega | (simp; done) | (simp; omega)))))⟩)

theorem dnext_param (s : ByteArray) (a : Nat) (w : World) (ha : a < s.size) (hs : s.size ≤ 1000) (hr : ¬ runB s[a]) (hc : s[a].toNat = 58) : Calls Tryz.prog 54 #[.string s,Vi (a : Int)] w (DTokP (pcA s a) a w):=by
 have hai : (a : Int) < (s.size : Int):=by omega
 have hRU : ∀ w,Calls Tryz.prog 95 #[.string s,Vi (a : Int)] w fun e w' => e = .returned Vs ∧ w' = w:=fun w => by have:=drun_any s a w (by omega) hs; rw [run_none ha hr] at this; exact this
 have HRU:=Hd hRU
 have hnil : ((⟨#[]⟩ : ByteArray).toList == []) = true:=by rw [ByteArray.toList_eq]; rfl
 have hp:=pcA_colon ha hc
 have q1 : ((s[a].toNat : Int) == 58) = true:=by simp; omega
 have hle:=runN_le (bl s (a + 1))
 rw [bl_len] at hle
 have hw1 : IntKind.i64.wrap ((a : Int) + 1) = (a : Int) + 1:=by rw [IntKind.wrap_i64]; omega
 obtain ⟨X,hX⟩:=Vx (s.extract (a + 1) (a + 1 + runN (bl s (a + 1))))
 have hXs : X.size ≤ 1000:=by rw [← hX,ByteArray.size_extract]; omega
 have hRV : ∀ w,Calls Tryz.prog 95 #[.string s,Vi ((a : Int) + 1)] w fun e w' => e = .returned (.string X) ∧ w' = w:=fun w => by have:=drun_any s (a + 1) w (by omega) hs; rw [hX] at this; exact this
 have HRV:=Hd hRV
 have hw2 : IntKind.i64.wrap ((a : Int) + 1 + (X.size : Int)) = (a : Int) + 1 + (X.size : Int):=by rw [IntKind.wrap_i64]; omega
 rw [hX] at hp
 have HTK : Hid (tokR (pcA s a) = if isName X = true then ((6,0,X),0) else (tk0,102)):=by
  show tokR (pcA s a) = _
  rw [hp,tokR_colon (by decide),isName_list,ofL_list]
 have HL : Hid (((a : Int) + 1 + (X.size : Int)) = (a : Int) + ((pcA s a).length : Int)):=by
  show ((a : Int) + 1 + (X.size : Int)) = (a : Int) + ((pcA s a).length : Int)
  rw [hp,List.length_cons,show X.data.toList.length = X.size from by simp]
  omega
 have hN:=dIsName_any X
 obtain ⟨y,hy⟩:=Vx (isName X)
 rw [hy] at hN HTK
 have HN:=Hd hN
 clear hRU hRV hX hp hN hy hc hr hle
 cases y
 ·have HT : Hid (tokR (pcA s a) = (tk0,102)):=HTK.out
  go_enter Tryz.func54,Tryz.ntmps54
  go_wp2_with fail
  refine (HRU.out _).mono ?_
  rintro e w' ⟨rfl,rfl⟩
  go_wp2_with fail
  refine (HRV.out _).mono ?_
  rintro e w' ⟨rfl,rfl⟩
  go_wp2_with (first | (go_at_call 41; refine (HN.out _).mono ?_; rintro e w' ⟨rfl,he⟩; rw [he]; clear he))
  exact bodyPost_ret (v:=.tuple #[tkA tk0 (a : Int),Vi 0,Vi 102]) (by simp [results,Tryz.results54,go_sem,tkA,tk0]) rfl (dtok_no HT.out (by decide) (by (repeat (first | with_reducible exact Below.refl _ _ | with_reducible assumption | refine Below.drew ?_ | refine Below.setCell ?_ (by first | omega | (simp; done) | (simp; omega)) _ | refine Below.alloc ?_ (by first | omega | (simp; done) | (simp; omega)) _ | refine Below.trans ?_ (Below.mono (by with_reducible assumption) (by first | omega | (simp; done) | (simp; omega)))))))
 ·have HT : Hid (tokR (pcA s a) = ((6,0,X),0)):=HTK.out
  go_enter Tryz.func54,Tryz.ntmps54
  go_wp2_with fail
  refine (HRU.out _).mono ?_
  rintro e w' ⟨rfl,rfl⟩
  go_wp2_with fail
  refine (HRV.out _).mono ?_
  rintro e w' ⟨rfl,rfl⟩
  go_wp2_with (first | (go_at_call 41; refine (HN.out _).mono ?_; rintro e w' ⟨rfl,he⟩; rw [he]; clear he))
  refine bodyPost_ret (v:=.tuple #[tkA (6,0,X) (a : Int),Vi ((a : Int) + 1 + (X.size : Int)),Vi 0]) (by simp [results,Tryz.results54,go_sem,tkA]) rfl ?_
  rw [HL.out]
  exact dtok_yes HT.out (by (repeat (first | with_reducible exact Below.refl _ _ | with_reducible assumption | refine Below.drew ?_ | refine Below.setCell ?_ (by first | omega | (simp; done) | (simp; omega)) _ | refine Below.alloc ?_ (by first | omega | (simp; done) | (simp; omega)) _ | refine Below.trans ?_ (Below.mono (by with_reducible assumption) (by first | omega | (simp; done) | (simp; omega))))))

theorem dnext_text (s : ByteArray) (a : Nat) (w : World) (ha : a < s.size) (hs : s.size ≤ 1000) (hr : ¬ runB s[a]) (hc : s[a].toNat = 39) : Calls Tryz.prog 54 #[.string s,Vi (a : Int)] w (DTokP (pcA s a) a w):=by
 have hai : (a : Int) < (s.size : Int):=by omega
 have hRU : ∀ w,Calls Tryz.prog 95 #[.string s,Vi (a : Int)] w fun e w' => e = .returned Vs ∧ w' = w:=fun w => by have:=drun_any s a w (by omega) hs; rw [run_none ha hr] at this; exact this
 have HRU:=Hd hRU
 have hnil : ((⟨#[]⟩ : ByteArray).toList == []) = true:=by rw [ByteArray.toList_eq]; rfl
 obtain ⟨hp,hp2⟩:=pcA_mark ha hc
 have q1 : ((s[a].toNat : Int) == 58) = false:=by simp; omega
 have q2 : ((s[a].toNat : Int) == 39) = true:=by simp; omega
 have hle:=txtN_le (bl s (a + 1)) false
 rw [bl_len] at hle
 have HU : Hid (txtC false (bl s (a + 1)) = false → tokR (pcA s a) = (tk0,103)):=by
  intro h
  rw [hp,txtN_open _ _ h,List.take_length]
  exact tok_no (lit_open h)
 obtain ⟨X,hX⟩:=Vx (s.extract a (a + 1 + txtN false (bl s (a + 1))))
 have hXs : X.size ≤ 1000:=by rw [← hX,ByteArray.size_extract]; omega
 have hXe : X.data.toList = pcA s a:=by rw [← hX]; exact hp2
 have HV : Hid (tokR (pcA s a) = if (parR X.data.toList).2 = 0 then ((5,0,(parR X.data.toList).1.2.2),0) else (tk0,103)):=by
  rw [hXe,hp]
  exact tokR_mark (by decide)
 have HK : Hid (∀ v,LitOf X.data.toList v → v.1 = 3):=by
  intro v hv
  rw [hXe,hp] at hv
  exact (lit_mark hv).1
 have hw2 : IntKind.i64.wrap ((a : Int) + (X.size : Int)) = (a : Int) + (X.size : Int):=by rw [IntKind.wrap_i64]; omega
 have HL : Hid (((a : Int) + (X.size : Int)) = (a : Int) + ((pcA s a).length : Int)):=by
  show ((a : Int) + (X.size : Int)) = (a : Int) + ((pcA s a).length : Int)
  rw [← hXe,show X.data.toList.length = X.size from by simp]
 have HX:=Hd hX
 clear hRU hX hp hp2 hXe hc hr hle
 go_enter Tryz.func54,Tryz.ntmps54
 go_wp2_with (first | (go_at_call 95; refine (HRU.out _).mono ?_; rintro e w' ⟨rfl,he⟩; rw [he]; clear he))
 refine (dtext_any s a _ ha hs).mono ?_
 rintro e w1 ⟨p,ok,rfl,hok,hpp,rfl⟩
 cases ok with
 | false =>
  have HT:=Hd (HU.out hok.symm)
  clear hok hpp
  go_wp2
  exact bodyPost_ret (v:=.tuple #[tkA tk0 (a : Int),Vi 0,Vi 103]) (by simp [results,Tryz.results54,go_sem,tkA,tk0]) rfl (dtok_no HT.out (by decide) (by (repeat (first | with_reducible exact Below.refl _ _ | with_reducible assumption | refine Below.drew ?_ | refine Below.setCell ?_ (by first | omega | (simp; done) | (simp; omega)) _ | refine Below.alloc ?_ (by first | omega | (simp; done) | (simp; omega)) _ | refine Below.trans ?_ (Below.mono (by with_reducible assumption) (by first | omega | (simp; done) | (simp; omega)))))))
 | true =>
  have hpX:=hpp rfl
  rw [HX.out] at hpX
  subst hpX
  clear hok hpp
  go_wp2_with fail
  refine (rparse_any p _ (by omega)).mono ?_
  rintro e w1 ⟨rfl,hb⟩
  obtain ⟨e1,e2,e3,e4,hbw⟩:=two_blocks hb
  have zm:=four_of e1
  have zk:=four_of e2
  have E1:=Hd e1
  clear hb e1 e2
  rcases pa_or p with ⟨k,n,t,hp,h0,h1⟩ | ⟨h0,hp⟩
  ·have HT : Hid (tokR (pcA s a) = ((5,0,t),0)):=by
    have:=HV.out
    rw [if_pos h0,h1] at this
    exact this
   have hk3 : k = 3:=by
    by_cases g : ∃ v,LitOf p.data.toList v
    ·obtain ⟨v,g⟩:=g
     have:=HK.out v g
     rw [parR_ok g] at h1
     rw [show v = (k,n,t) from h1] at this
     exact this
    ·rw [parR_no fun v q => g ⟨v,q⟩] at h0
     exact absurd h0 (by decide)
   subst hk3
   rw [hp]
   clear hp h0 h1 HV HK HU
   go_wp2
   obtain ⟨W6,hW6⟩:=Vx (((((((w1.setCell ⟨w.heap.size + 1,0,none⟩ (Vi 5)).setCell ⟨w.heap.size + 1,2,none⟩ (.string t)).setCell ⟨w.heap.size,0,none⟩ (Vi 5)).setCell ⟨w.heap.size,1,none⟩ (Vi 0)).setCell ⟨w.heap.size,2,none⟩ (.string t)).setCell ⟨w.heap.size,3,none⟩ (Vi (a : Int))).alloc (.cells #[Vi 3,Vi n,.string t] 46))
   rw [hW6]
   have x1 : W6.heap[w.heap.size]? = some (.cells (Vk 5 0 t a) 43 (0,0)):=by
    rw [← hW6]
    refine (alloc_other (by simp only [size_set]; exact e4) _).trans ?_
    exact (set_at (set_at (set_at (set_at ((set_other _ (by omega)).trans ((set_other _ (by omega)).trans E1.out)) _) _) _) _)
   have HB6 : Hid (Below w.heap.size w W6):=by
    show Below w.heap.size w W6
    rw [← hW6]
    exact ((((((hbw.setCell (Nat.le_succ _) _).setCell (Nat.le_succ _) _).setCell (Nat.le_refl _) _).setCell (Nat.le_refl _) _).setCell (Nat.le_refl _) _).setCell (Nat.le_refl _) _).alloc (by simp only [size_set]; omega) _
   have zy:=(four_of x1).1
   clear hW6 x1
   refine bodyPost_ret (v:=.tuple #[tkA (5,0,t) (a : Int),Vi ((a : Int) + (p.size : Int)),Vi 0]) (by simp [results,Tryz.results54,go_sem,tkA,zy]) rfl ?_
   rw [HL.out]
   exact dtok_yes HT.out HB6.out
  ·have HT : Hid (tokR (pcA s a) = (tk0,103)):=by
    have:=HV.out
    rw [if_neg h0] at this
    exact this
   rw [hp]
   clear hp h0 HV HK HU
   go_wp2
   obtain ⟨W6,hW6⟩:=Vx (((((w1.setCell ⟨w.heap.size,0,none⟩ (Vi 0)).setCell ⟨w.heap.size,1,none⟩ (Vi 0)).setCell ⟨w.heap.size,2,none⟩ Vs).setCell ⟨w.heap.size,3,none⟩ (Vi (a : Int))).alloc (.cells #[Vi 0,Vi 0,Vs] 46))
   rw [hW6]
   have x1 : W6.heap[w.heap.size]? = some (.cells (Vk 0 0 Vz a) 43 (0,0)):=by
    rw [← hW6]
    refine (alloc_other (by simp only [size_set]; exact e4) _).trans ?_
    exact (set_at (set_at (set_at (set_at E1.out _) _) _) _)
   have HB6 : Hid (Below w.heap.size w W6):=by
    show Below w.heap.size w W6
    rw [← hW6]
    (repeat (first | with_reducible exact Below.refl _ _ | with_reducible assumption | refine Below.drew ?_ | refine Below.setCell ?_ (by first | omega | (simp; done) | (simp; omega)) _ | refine Below.alloc ?_ (by first | omega | (simp; done) | (simp; omega)) _ | refine Below.trans ?_ (Below.mono (by with_reducible assumption) (by first | omega | (simp; done) | (simp; omega)))))
   have zy:=(four_of x1).1
   clear hW6 x1
   exact bodyPost_ret (v:=.tuple #[tkA tk0 (a : Int),Vi 0,Vi 103]) (by simp [results,Tryz.results54,go_sem,tkA,tk0,zy]) rfl (dtok_no HT.out (by decide) HB6.out)

theorem dnext_sign (s : ByteArray) (a : Nat) (w : World) (ha : a < s.size) (hs : s.size ≤ 1000) (hr : ¬ runB s[a]) (hc8 : s[a].toNat ≠ 58) (hc9 : s[a].toNat ≠ 39) (h0 : skp false (bl s a) = 0) : Calls Tryz.prog 54 #[.string s,Vi (a : Int)] w (DTokP (pcA s a) a w):=by
 have hai : (a : Int) < (s.size : Int):=by omega
 have hRU : ∀ w,Calls Tryz.prog 95 #[.string s,Vi (a : Int)] w fun e w' => e = .returned Vs ∧ w' = w:=fun w => by have:=drun_any s a w (by omega) hs; rw [run_none ha hr] at this; exact this
 have HRU:=Hd hRU
 have hnil : ((⟨#[]⟩ : ByteArray).toList == []) = true:=by rw [ByteArray.toList_eq]; rfl
 have q1 : ((s[a].toNat : Int) == 58) = false:=by simp; omega
 have q2 : ((s[a].toNat : Int) == 39) = false:=by simp; omega
 have hSG:=dsign_any s a
 cases hsg : sgn s[a] with
 | true =>
  obtain ⟨h10,hX⟩:=pcA_sign ha hr hsg
  obtain ⟨X,hXX⟩:=Vx (sgnT s a ha)
  rw [hXX] at hX
  have hS2 : ∀ w,Calls Tryz.prog 99 #[.string s,Vi (a : Int)] w fun e w' => e = .returned (.string X) ∧ ∃ m,w' = w.drewN m:=fun w => by have:=hSG w ha hs; rw [hXX] at this; exact this
  have HSG:=Hd hS2
  have hpl:=pieceN_le (bl s a)
  rw [bl_len] at hpl
  have hXl : X.size = (pcA s a).length:=by rw [← hX]; simp
  have hXs : X.size ≤ 1000:=by rw [hXl,pcA,List.length_take]; omega
  have hw2 : IntKind.i64.wrap ((a : Int) + (X.size : Int)) = (a : Int) + (X.size : Int):=by rw [IntKind.wrap_i64]; omega
  have HT : Hid (tokR (pcA s a) = ((7,0,X),0)):=by
   have hne : ∃ c q,pcA s a = c :: q ∧ cls c = 10:=by
    obtain ⟨n,hn⟩ : ∃ n,pieceN (bl s a) = n + 1:=⟨pieceN (bl s a) - 1,by have:=pieceN_pos s[a] (bl s (a + 1)); rw [← bl_in ha] at this; omega⟩
    exact ⟨s[a],_,by rw [pcA,hn,bl_in ha,List.take_succ_cons],h10⟩
   obtain ⟨c,q,e1,e2⟩:=hne
   have:=tokR_sign (l:=q) e2
   rw [← e1,← hX,ofL_list] at this
   rw [← hX]
   exact this
  have hne : (X.toList == []) = false:=by
   rw [beq_eq_false_iff_ne,ByteArray.toList_eq,hX,pcA,bl_in ha]
   have:=pieceN_pos s[a] (bl s (a + 1))
   obtain ⟨n,hn⟩ : ∃ n,pieceN (s[a] :: bl s (a + 1)) = n + 1:=⟨pieceN (s[a] :: bl s (a + 1)) - 1,by omega⟩
   rw [hn,List.take_succ_cons]
   simp
  have HL:=Hd hXl
  clear hRU hSG hS2 hXX hX h10 hsg hr hc8 hc9 h0 hpl hXl
  go_enter Tryz.func54,Tryz.ntmps54
  go_wp2_with fail
  refine (HRU.out _).mono ?_
  rintro e w' ⟨rfl,rfl⟩
  go_wp2_with fail
  refine (HSG.out _).mono ?_
  rintro e w1 ⟨rfl,m,he⟩
  have hb:=below_draws ((w.alloc (.cells (Vk 0 0 Vz 0) 43)).alloc (.cells (Vk 7 0 Vz a) 43)) m
  rw [← he] at hb
  obtain ⟨e1,e2,e3,e4,hbw⟩:=two_blocks hb
  obtain ⟨⟨k0,k1,k2,k3⟩,f0,f1,f2,f3⟩:=four_of e2
  have E1:=Hd e1
  have E2:=Hd e2
  clear hb e1 e2 he
  go_wp2
  clear k0 k1 k2 k3 f0 f1 f2 f3
  obtain ⟨W5,hW5⟩:=Vx (w1.setCell ⟨w.heap.size + 1,2,none⟩ (.string X))
  have x1 : W5.heap[w.heap.size]? = some (.cells (Vk 0 0 Vz 0) 43 (0,0)):=by
   rw [← hW5]
   exact (set_other _ (by omega)).trans E1.out
  have x2 : W5.heap[w.heap.size + 1]? = some (.cells (Vk 7 0 X a) 43 (0,0)):=by
   rw [← hW5]
   exact set_at E2.out _
  have HB5 : Hid (Below w.heap.size w W5):=by
   show Below w.heap.size w W5
   rw [← hW5]
   (repeat (first | with_reducible exact Below.refl _ _ | with_reducible assumption | refine Below.drew ?_ | refine Below.setCell ?_ (by first | omega | (simp; done) | (simp; omega)) _ | refine Below.alloc ?_ (by first | omega | (simp; done) | (simp; omega)) _ | refine Below.trans ?_ (Below.mono (by with_reducible assumption) (by first | omega | (simp; done) | (simp; omega)))))
  have hz5 : w.heap.size + 1 < W5.heap.size:=(Gx x2)
  have hz6 : w.heap.size < W5.heap.size:=by omega
  have zm:=four_of x1
  obtain ⟨⟨k0,k1,k2,k3⟩,f0,f1,f2,f3⟩:=four_of x2
  rw [hW5]
  clear hW5 x1 x2 hbw e3 e4
  go_region
  all_goals
   go_wp2
   refine bodyPost_ret (v:=.tuple #[tkA (7,0,X) (a : Int),Vi ((a : Int) + (X.size : Int)),Vi 0]) (by simp [results,Tryz.results54,go_sem,tkA,zm]) rfl ?_
   rw [HL.out]
   exact dtok_yes HT.out (by have h0:=HB5.out; (repeat (first | with_reducible exact Below.refl _ _ | with_reducible assumption | refine Below.drew ?_ | refine Below.setCell ?_ (by first | omega | (simp; done) | (simp; omega)) _ | refine Below.alloc ?_ (by first | omega | (simp; done) | (simp; omega)) _ | refine Below.trans ?_ (Below.mono (by with_reducible assumption) (by first | omega | (simp; done) | (simp; omega))))))
 | false =>
  have HT:=Hd (pcA_other ha h0 hr hc8 hc9 hsg)
  have hS2 : ∀ w,Calls Tryz.prog 99 #[.string s,Vi (a : Int)] w fun e w' => e = .returned Vs ∧ ∃ m,w' = w.drewN m:=fun w => by have:=hSG w ha hs; rw [sgnT_no ha hsg] at this; exact this
  have HSG:=Hd hS2
  clear hRU hSG hS2 hsg hr hc8 hc9 h0
  go_enter Tryz.func54,Tryz.ntmps54
  go_wp2_with fail
  refine (HRU.out _).mono ?_
  rintro e w' ⟨rfl,rfl⟩
  go_wp2_with fail
  refine (HSG.out _).mono ?_
  rintro e w1 ⟨rfl,m,he⟩
  have hb:=below_draws ((w.alloc (.cells (Vk 0 0 Vz 0) 43)).alloc (.cells (Vk 7 0 Vz a) 43)) m
  rw [← he] at hb
  obtain ⟨e1,e2,e3,e4,hbw⟩:=two_blocks hb
  obtain ⟨⟨k0,k1,k2,k3⟩,f0,f1,f2,f3⟩:=four_of e2
  have E1:=Hd e1
  have E2:=Hd e2
  have zm:=four_of e1
  clear hb e1 e2 he
  go_wp2
  obtain ⟨W6,hW6⟩:=Vx (((((w1.setCell ⟨w.heap.size + 1,2,none⟩ Vs).setCell ⟨w.heap.size,0,none⟩ (Vi 7)).setCell ⟨w.heap.size,1,none⟩ (Vi 0)).setCell ⟨w.heap.size,2,none⟩ Vs).setCell ⟨w.heap.size,3,none⟩ (Vi (a : Int)))
  rw [hW6]
  have x1 : W6.heap[w.heap.size]? = some (.cells (Vk 7 0 Vz a) 43 (0,0)):=by
   rw [← hW6]
   exact set_at (set_at (set_at (set_at ((set_other _ (by omega)).trans E1.out) _) _) _) _
  have HB6 : Hid (Below w.heap.size w W6):=by
   show Below w.heap.size w W6
   rw [← hW6]
   (repeat (first | with_reducible exact Below.refl _ _ | with_reducible assumption | refine Below.drew ?_ | refine Below.setCell ?_ (by first | omega | (simp; done) | (simp; omega)) _ | refine Below.alloc ?_ (by first | omega | (simp; done) | (simp; omega)) _ | refine Below.trans ?_ (Below.mono (by with_reducible assumption) (by first | omega | (simp; done) | (simp; omega)))))
  have zy:=(four_of x1).1
  clear hW6 x1
  exact bodyPost_ret (v:=.tuple #[tkA (7,0,⟨#[]⟩) (a : Int),Vi 0,Vi 100]) (by simp [results,Tryz.results54,go_sem,tkA,zy]) rfl (dtok_no HT.out (by decide) HB6.out)

theorem dnext_any (s : ByteArray) (a : Nat) (w : World) (ha : a < s.size) (hs : s.size ≤ 1000) (h0 : skp false (bl s a) = 0) : Calls Tryz.prog 54 #[.string s,Vi (a : Int)] w (DTokP (pcA s a) a w):=by
 by_cases hr : runB s[a]
 ·exact dnext_run s a w ha hs hr
 ·by_cases h8 : s[a].toNat = 58
  ·exact dnext_param s a w ha hs hr h8
  ·by_cases h9 : s[a].toNat = 39
   ·exact dnext_text s a w ha hs hr h9
   ·exact dnext_sign s a w ha hs hr h8 h9 h0

theorem skip_at {s : ByteArray} {e : Nat} (hn : e + skp false (bl s e) < s.size) : skp false (bl s (e + skp false (bl s e))) = 0 ∧ skipL (bl s e) = bl s (e + skp false (bl s e)) ∧ skipL (bl s e) ≠ []:=by
 have e1 : skipL (bl s e) = bl s (e + skp false (bl s e)):=by rw [skipL,bl_drop]
 have hne : skipL (bl s e) ≠ []:=by
  rw [e1,bl_in hn]
  simp
 refine ⟨?_,e1,hne⟩
 rw [← e1]
 exact (skip_zero hne).2

theorem Scq.dstep {s : ByteArray} {e a : Nat} {ts : List (Tk × Nat)} (h : Scq s e ts) (ha : e + skp false (bl s e) = a) (hn : a < s.size) {t : Tk} (ht : tokR (pcA s a) = (t,0)) : Scq s (a + (pcA s a).length) (ts ++ [(t,a)]) ∧ a < a + (pcA s a).length:=by
 subst ha
 obtain ⟨h1,h2,h3⟩:=skip_at hn
 have hp : pce (bl s e) = pcA s (e + skp false (bl s e)):=by rw [pce,h2,pcA]
 have hpl:=pieceN_le (bl s (e + skp false (bl s e)))
 have hl : (pcA s (e + skp false (bl s e))).length = pieceN (bl s (e + skp false (bl s e))):=by rw [pcA,List.length_take]; omega
 have hpos : 0 < pieceN (bl s (e + skp false (bl s e))):=by rw [bl_in hn]; exact pieceN_pos _ _
 have hlen:=bl_len s (e + skp false (bl s e))
 have hr : rst (bl s e) = bl s (e + skp false (bl s e) + pieceN (bl s (e + skp false (bl s e)))):=by rw [rst,h2,bl_drop]
 rw [hl]
 refine ⟨⟨by omega,?_,fun us g => ?_,fun p c g => ?_⟩,by omega⟩
 ·have:=h.few
  simp
  omega
 ·rw [List.append_assoc]
  refine h.toks _ (Toks.more h3 (by rw [hp]; exact ht) ?_)
  rw [hr,h2]
  exact g
 ·refine h.bad _ _ (Bad.more h3 (by rw [hp]; exact ht) ?_)
  rw [hr,h2]
  exact g

theorem Scq.dbad {s : ByteArray} {e a : Nat} {ts : List (Tk × Nat)} (h : Scq s e ts) (ha : e + skp false (bl s e) = a) (hn : a < s.size) (ht : (tokR (pcA s a)).2 ≠ 0) : Bad s.data.toList 0 a (tokR (pcA s a)).2:=by
 subst ha
 obtain ⟨h1,h2,h3⟩:=skip_at hn
 have hp : pce (bl s e) = pcA s (e + skp false (bl s e)):=by rw [pce,h2,pcA]
 exact h.bad _ _ (Bad.here (t:=(tokR (pcA s (e + skp false (bl s e)))).1) (by rw [hp]) ht)

theorem Scq.dfin {s : ByteArray} {e a : Nat} {ts : List (Tk × Nat)} (h : Scq s e ts) (ha : e + skp false (bl s e) = a) (hn : ¬ a < s.size) : Toks s.data.toList 0 (ts ++ [((1,0,⟨#[]⟩),s.size)]):=by
 subst ha
 have h1:=skp_le (bl s e) false
 rw [bl_len] at h1
 have hle:=h.le
 have e1 : skipL (bl s e) = []:=by rw [skipL,bl_drop,bl_out hn]
 have:=Toks.fin (l:=bl s e) (a:=e) e1
 rw [show e + skp false (bl s e) = s.size from by omega] at this
 exact h.toks _ this

theorem dscan_any (s : ByteArray) (w : World) : Calls Tryz.prog 22 #[.string s] w (ScanP s w):=by
 obtain ⟨i0,hi,hz0,hz1,hz2⟩:=info_parts Tryz.infoTok
 by_cases hl : 1000 < s.size
 ·have hli : (1000 : Int) < (s.size : Int):=by omega
  have HX : Hid (ScanIs s [] 0 2):=Or.inl ⟨hl,rfl,rfl,rfl⟩
  go_enter Tryz.func22,Tryz.ntmps22
  go_wp2
  exact bodyPost_ret (v:=.tuple #[Vn,Vi 0,Vi 2]) (by simp [results,Tryz.results22,go_sem]) rfl (scan_bad HX.out (by (repeat (first|exact Bxr _ _|assumption|apply Bxd|apply Bxa|apply Bxs|refine Bxt ?_ (by assumption) ?_|omega|simp))))
 ·have hli : ¬ (1000 : Int) < (s.size : Int):=by omega
  have hs : s.size ≤ 1000:=by omega
  clear hl
  go_enter Tryz.func22,Tryz.ntmps22
  go_wp2_with fail
  refine (dskip_any s 0 _ (by omega) hs).mono ?_
  rintro e w1 ⟨rfl,rfl⟩
  obtain ⟨a0,ha0⟩:=Vx (0 + skp false (bl s 0))
  have HA0:=Hd ha0
  rw [ha0]
  clear ha0 hli
  go_wp2
  go_loopw [5,6] (fun v at_ wr => ∃ (ts : List (Tk × Nat)) (e a : Nat),at_ = Vi (a : Int) ∧ e + skp false (bl s e) = a ∧ a ≤ s.size ∧ Scq s e ts ∧ wr.ownsRow w1.heap.size 43 4 v ts.length (tc ts) ∧ Below w1.heap.size w1 wr) (fun _ a _ => s.size - (intOf a).toNat)
  case atStart => exact ⟨[],0,a0,rfl,HA0.out,by have:=skp_le (bl s 0) false; rw [bl_len] at this; have:=HA0.out; omega,Scq.start s,World.ownsRow_nil _ _ _ _,by (repeat (first|exact Bxr _ _|assumption|apply Bxd|apply Bxa|apply Bxs|refine Bxt ?_ (by assumption) ?_|omega|simp))⟩
  case round =>
   clear HA0
   obtain ⟨ts,e,a,rfl,hea,has,hsc,hown,hb⟩:=hrel
   have HEA:=Hd hea
   have HS:=Hd hsc
   clear hea hsc
   have hsz:=hb.size
   have hts : ts.length ≤ 1000:=by have:=HS.out.few; have:=HS.out.le; omega
   by_cases hlt : a < s.size
   ·have hlti : (a : Int) < (s.size : Int):=by omega
    have h0:=(skip_at (by rw [HEA.out]; exact hlt)).1
    rw [HEA.out] at h0
    have HNX:=Hd (dnext_any s a · hlt hs h0)
    clear h0
    go_wp2_with fail
    refine (HNX.out _).mono ?_
    rintro e3 w3 ⟨⟨k,n,t⟩,b,z,rfl,hzz,htk,hb3⟩
    have hb3' : Below w1.heap.size w1 w3:=hb.trans (hb3.mono hsz)
    have hz3:=hb3'.size
    have hown3:=own_later hown hb3
    have hlt3:=hown3.lt
    clear hown hb3 HNX
    unfold tkA
    by_cases hz : z = 0
    ·subst hz
     obtain ⟨ht1,hb0⟩:=htk rfl
     obtain ⟨B,hB⟩:=Vx (a + (pcA s a).length)
     rw [hB] at hb0
     subst hb0
     have htt : tokR (pcA s a) = ((k,n,t),0):=Prod.ext ht1.symm hzz.symm
     have hst:=HS.out.dstep HEA.out hlt htt
     rw [hB] at hst
     have HST:=Hd hst
     clear hst hB
     clear hzz htk ht1 htt
     go_wp2_with (first | (at_builtin; refine wpList_append_own _ rfl _ _ 39 rfl w1.heap.size 43 i0 _ 4 40 Tryz.underlying39 hi hz0 hz1 hz2 rfl (by decide) _ ts.length (tc ts) rfl ?c0 ⟨w3.heap.size + 1,0,none⟩ 1 1 (tc [((k,n,t),a)]) rfl rfl ?c1 ?c2 ?c3 ?c4 ?c5 ?_))
     case c0 => exact (hown3.alloc _).alloc _
     case c1 =>
      have:=cells_alloc (w3.alloc (.cells (Vk k n t a) 43)) (tc [((k,n,t),a)]) 43
      simpa [tc] using this
     case c2 => exact tc_one _
     case c3 => unfold maxLen; omega
     case c4 => omega
     case c5 => simp; omega
     intro v' w4 hown4 hgrow _
     have hbb : Below w1.heap.size w1 w4:=((hb3'.alloc (by omega) _).alloc (by simp; omega) _).grown hgrow (by simp; omega) fun k hk => (hlt3 k hk).1
     rw [← tc_append] at hown4
     have hlen : (ts ++ [(((k,n,t) : Tk),a)]).length = ts.length + 1:=by simp
     clear hown3 hlt3 hb3' hgrow
     rw [← hlen] at hown4
     have HO:=Hd hown4
     clear hown4
     have hBs:=HST.out.1.le
     go_wp2_with fail
     refine (dskip_any s B _ hBs hs).mono ?_
     rintro e5 w5 ⟨rfl,rfl⟩
     obtain ⟨a2,ha2⟩:=Vx (B + skp false (bl s B))
     have hq:=skp_le (bl s B) false
     rw [bl_len] at hq
     have HA2:=Hd ha2
     rw [ha2]
     have hab2 : a < a2:=by have:=HST.out.2; omega
     have ha2s : a2 ≤ s.size:=by omega
     clear ha2
     go_wp2
     go_roundw
     case rel => exact ⟨ts ++ [((k,n,t),a)],B,a2,rfl,HA2.out,ha2s,HST.out.1,HO.out,hbb⟩
     case measure => simp [intOf]; omega
    ·have hzi : (z != 0) = true:=by simpa using hz
     have HB : Hid (ScanIs s [] a z):=by
      have h1:=HS.out.dbad HEA.out hlt (by rw [← hzz]; exact hz)
      rw [← hzz] at h1
      exact Or.inr ⟨hs,Or.inr ⟨rfl,h1⟩⟩
     clear hz hown3 hlt3 hzz htk
     go_wp2
     exact bodyPost_ret (v:=.tuple #[Vn,Vi (a : Int),Vi z]) (by simp [results,Tryz.results22,go_sem]) rfl (scan_bad HB.out (by (repeat (first|exact Bxr _ _|assumption|apply Bxd|apply Bxa|apply Bxs|refine Bxt ?_ (by assumption) ?_|omega|simp))))
   ·have hlti : ¬ (a : Int) < (s.size : Int):=by omega
    have HF:=Hd (HS.out.dfin HEA.out hlt)
    have hlt0:=hown.lt
    go_wp2_with (first | (at_builtin; refine wpList_append_own _ rfl _ _ 39 rfl w1.heap.size 43 i0 _ 4 40 Tryz.underlying39 hi hz0 hz1 hz2 rfl (by decide) _ ts.length (tc ts) rfl ?c0 ⟨wr.heap.size,0,none⟩ 1 1 (tc [((1,0,⟨#[]⟩),s.size)]) rfl rfl ?c1 ?c2 ?c3 ?c4 ?c5 ?_))
    case c0 => exact hown.alloc _
    case c1 => exact fun _ _ h => h
    case c2 => exact tc_one _
    case c3 => unfold maxLen; omega
    case c4 => omega
    case c5 => first | omega | (simp; omega)
    intro v' w4 hown4 hgrow _
    have hbb : Below w1.heap.size w1 w4:=(hb.alloc (by omega) _).grown hgrow (by simp; omega) fun k hk => (hlt0 k hk).1
    rw [← tc_append] at hown4
    have hlen : (ts ++ [(((1,0,⟨#[]⟩) : Tk),s.size)]).length = ts.length + 1:=by simp
    clear hown hlt0 hb hgrow
    rw [← hlen] at hown4
    obtain ⟨la,lc,rfl⟩:=own_form hown4
    have HO:=Hd hown4
    clear hown4
    go_wp2
    exact bodyPost_ret (v:=.tuple #[.slice la (ts ++ [(((1,0,⟨#[]⟩) : Tk),s.size)]).length lc,Vi 0,Vi 0]) (by simp [results,Tryz.results22,go_sem]) rfl ⟨la,lc,_,0,0,rfl,Or.inr ⟨hs,Or.inl ⟨rfl,rfl,HF.out⟩⟩,HO.out,by rw [hlen]; omega,by (repeat (first|exact Bxr _ _|assumption|apply Bxd|apply Bxa|apply Bxs|refine Bxt ?_ (by assumption) ?_|omega|simp))⟩
end Go.Proofs.YtffalonhkemieaaGreatDoor
