/- A56 A6 A7 A8 -/
import Derived.Test.YtbfjmccpcbhljaaGreatDoorTA50
import Derived.Test.YtbfjmccpcbhljaaGreatDoorTV1
import Derived.Laws.CopyOwn
import Derived.Laws.OwnMore
import Derived.OwnWalk
set_option maxHeartbeats 64000000
set_option maxRecDepth 100000
namespace Go.Proofs.YtbfjmccpcbhljaaGreatDoor
open Go.RowKit
theorem cut_any (s : ByteArray) (e0 : Nat) (w : World) (h0 : e0 ≤ s.size) (hs : s.size ≤ 2147483647) : Calls Tryz.prog 67 #[.string s,Vi (e0 : Int)] w (CutP s e0 w):=by
 go_enter Tryz.func67,Tryz.ntmps67
 go_wp2
 refine wp_scope6 (AtL s e0 w) (muL s) rfl rfl rfl rfl rfl rfl (fun _ _ _ h => h.1) rfl ?_ ?_ ?_ ?_ ?_ ?_ ?_
 ·go_wp2
  exact ⟨by decide,rfl,0,e0,_,_,_,_,_,_,_,_,_,_,_,_,_,_,_,_,_,_,_,_,_,_,_,_,_,_,_,_,_,_,_,_,_,_,_,_,_,_,_,_,_,_,_,_,_,_,_,_,_,_,_,_,_,_,_,_,_,_,_,_,_,_,_,_,_,_,_,_,_,_,_,_,_,_,_,_,_,_,_,_,_,_,_,_,rfl,h0,fun h => by omega,fun h => by omega,fun _ h => h⟩
 ·exact cut_pass0 s e0 w hs rfl
 ·exact cut_pass1 s e0 w hs rfl
 ·exact cut_pass2 s e0 w hs rfl
 ·exact cut_pass3 s e0 w hs rfl
 ·exact cut_pass4 s e0 w hs rfl
 ·exact cut_pass5 s e0 w hs rfl

theorem clone_any (s : ByteArray) (w : World) (hs : s.size ≤ 2147483648) : Calls Tryz.prog 121 #[.string s] w fun e w' => e = .returned (.string s) ∧ Below w.heap.size w w':=by
 go_enter Tryz.func121,Tryz.ntmps121
 go_wp2_with fail
 refine (Tryz.stringslite_Clone s _ (by omega)).mono ?_
 rintro e w1 ⟨rfl,hb1⟩
 go_wp2
 go_ret
 exact ⟨rfl,hb1⟩

def tkA (t : Tk) (a : Int) : Value:=.agg (Vk t.1 t.2.1 t.2.2 a)

def tkE (r : Tk × Int) : Value:=.tuple #[tkA r.1 0,Vi r.2]

def TkP (r : Tk × Int) (w : World) (e : Ending) (w' : World) : Prop:=e = .returned (tkE r) ∧ Below w.heap.size w w'

theorem lettered_any (k : Int) (s : ByteArray) (w : World) (hs : s.size ≤ 2147483648) : Calls Tryz.prog 100 #[Vi k,.string s] w fun e w' => e = .returned (.agg (Vk k 0 s 0)) ∧ Below w.heap.size w w':=by
 go_enter Tryz.func100,Tryz.ntmps100
 go_wp2_with fail
 refine (clone_any s _ hs).mono ?_
 rintro e w' ⟨rfl,hb⟩
 (obtain ⟨hc, hf⟩ := bcell hb; have hz := hb.size; (try simp at hz); (try have hz0 : w.heap.size < w'.heap.size := by omega); (try have hz1 : w.heap.size + 1 < w'.heap.size := by omega); (try have hz2 : w.heap.size + 1 + 1 < w'.heap.size := by omega); (try have hz3 : w.heap.size + 1 + 1 + 1 < w'.heap.size := by omega))
 go_wp2
 exact bodyPost_ret (v:=.agg (Vk k 0 s 0)) (by simp [results,Tryz.results100,go_sem, *]) rfl ⟨rfl,by (repeat (first|exact Bxr _ _|assumption|apply Bxd|apply Bxa|apply Bxs|refine Bxt ?_ (by assumption) ?_|omega|simp))⟩

theorem param_any (s : ByteArray) (w : World) (hs : s.size ≤ 2147483648) : Calls Tryz.prog 98 #[.string s] w (TkP (if isName s = true then ((6,0,s),0) else (tk0,102)) w):=by
 have HN:=isName_any s
 cases hn : isName s with
 | true =>
  rw [hn] at HN
  have HI:=Hd HN
  clear HN hn
  rw [if_pos rfl]
  go_enter Tryz.func98,Tryz.ntmps98
  go_wp2_with (first | (go_at_call 19; refine (HI.out _).mono ?_; rintro e w' ⟨rfl,he⟩; rw [he]; clear he) | (go_at_call 100; refine (lettered_any _ _ _ hs).mono ?_; rintro e w' ⟨rfl,hb⟩; (obtain ⟨hc, hf⟩ := bcell hb; have hz := hb.size; (try simp at hz); (try have hz0 : w.heap.size < w'.heap.size := by omega); (try have hz1 : w.heap.size + 1 < w'.heap.size := by omega); (try have hz2 : w.heap.size + 1 + 1 < w'.heap.size := by omega); (try have hz3 : w.heap.size + 1 + 1 + 1 < w'.heap.size := by omega))))
  exact bodyPost_ret (v:=tkE ((6,0,s),0)) (by simp [results,Tryz.results98,go_sem,tkE,tkA, *]) rfl ⟨rfl,by (repeat (first|exact Bxr _ _|assumption|apply Bxd|apply Bxa|apply Bxs|refine Bxt ?_ (by assumption) ?_|omega|simp))⟩
 | false =>
  rw [hn] at HN
  have HI:=Hd HN
  clear HN hn
  rw [if_neg (by simp)]
  go_enter Tryz.func98,Tryz.ntmps98
  go_wp2_with (first | (go_at_call 19; refine (HI.out _).mono ?_; rintro e w' ⟨rfl,he⟩; rw [he]; clear he))
  exact bodyPost_ret (v:=tkE (tk0,102)) (by simp [results,Tryz.results98,go_sem,tkE,tkA,tk0, *]) rfl ⟨rfl,by (repeat (first|exact Bxr _ _|assumption|apply Bxd|apply Bxa|apply Bxs|refine Bxt ?_ (by assumption) ?_|omega|simp))⟩

theorem nameOrWord_any (s : ByteArray) (w : World) (hs : s.size ≤ 2147483648) : Calls Tryz.prog 97 #[.string s] w (TkP (if isWord s = true then ((4,0,s),0) else if isName s = true then ((3,0,s),0) else (tk0,102)) w):=by
 have HW:=isWord_any s
 cases hw : isWord s with
 | true =>
  rw [hw] at HW
  have HJ:=Hd HW
  clear HW hw
  rw [if_pos rfl]
  go_enter Tryz.func97,Tryz.ntmps97
  go_wp2_with (first | (go_at_call 120; refine (HJ.out _).mono ?_; rintro e w' ⟨rfl,he⟩; rw [he]; clear he) | (go_at_call 100; refine (lettered_any _ _ _ hs).mono ?_; rintro e w' ⟨rfl,hb⟩; (obtain ⟨hc, hf⟩ := bcell hb; have hz := hb.size; (try simp at hz); (try have hz0 : w.heap.size < w'.heap.size := by omega); (try have hz1 : w.heap.size + 1 < w'.heap.size := by omega); (try have hz2 : w.heap.size + 1 + 1 < w'.heap.size := by omega); (try have hz3 : w.heap.size + 1 + 1 + 1 < w'.heap.size := by omega))))
  exact bodyPost_ret (v:=tkE ((4,0,s),0)) (by simp [results,Tryz.results97,go_sem,tkE,tkA, *]) rfl ⟨rfl,by (repeat (first|exact Bxr _ _|assumption|apply Bxd|apply Bxa|apply Bxs|refine Bxt ?_ (by assumption) ?_|omega|simp))⟩
 | false =>
  rw [hw] at HW
  have HJ:=Hd HW
  clear HW hw
  rw [if_neg (by simp)]
  have HN:=isName_any s
  cases hn : isName s with
  | true =>
   rw [hn] at HN
   have HI:=Hd HN
   clear HN hn
   rw [if_pos rfl]
   go_enter Tryz.func97,Tryz.ntmps97
   go_wp2_with (first | (go_at_call 120; refine (HJ.out _).mono ?_; rintro e w' ⟨rfl,he⟩; rw [he]; clear he) | (go_at_call 19; refine (HI.out _).mono ?_; rintro e w' ⟨rfl,he⟩; rw [he]; clear he) | (go_at_call 100; refine (lettered_any _ _ _ hs).mono ?_; rintro e w' ⟨rfl,hb⟩; (obtain ⟨hc, hf⟩ := bcell hb; have hz := hb.size; (try simp at hz); (try have hz0 : w.heap.size < w'.heap.size := by omega); (try have hz1 : w.heap.size + 1 < w'.heap.size := by omega); (try have hz2 : w.heap.size + 1 + 1 < w'.heap.size := by omega); (try have hz3 : w.heap.size + 1 + 1 + 1 < w'.heap.size := by omega))))
   exact bodyPost_ret (v:=tkE ((3,0,s),0)) (by simp [results,Tryz.results97,go_sem,tkE,tkA, *]) rfl ⟨rfl,by (repeat (first|exact Bxr _ _|assumption|apply Bxd|apply Bxa|apply Bxs|refine Bxt ?_ (by assumption) ?_|omega|simp))⟩
  | false =>
   rw [hn] at HN
   have HI:=Hd HN
   clear HN hn
   rw [if_neg (by simp)]
   go_enter Tryz.func97,Tryz.ntmps97
   go_wp2_with (first | (go_at_call 120; refine (HJ.out _).mono ?_; rintro e w' ⟨rfl,he⟩; rw [he]; clear he) | (go_at_call 19; refine (HI.out _).mono ?_; rintro e w' ⟨rfl,he⟩; rw [he]; clear he))
   exact bodyPost_ret (v:=tkE (tk0,102)) (by simp [results,Tryz.results97,go_sem,tkE,tkA,tk0, *]) rfl ⟨rfl,by (repeat (first|exact Bxr _ _|assumption|apply Bxd|apply Bxa|apply Bxs|refine Bxt ?_ (by assumption) ?_|omega|simp))⟩

theorem pa_or (s : ByteArray) : (∃ k n t,paV s = .tuple #[.agg #[Vi k,Vi n,.string t],Vi 0] ∧ (parR s.data.toList).2 = 0 ∧ (parR s.data.toList).1 = (k,n,t)) ∨ ((parR s.data.toList).2 ≠ 0 ∧ paV s = .tuple #[.agg #[Vi 0,Vi 0,Vs],Vi 10]):=by
 by_cases h : ∃ v,LitOf s.data.toList v
 ·obtain ⟨⟨k,n,t⟩,h⟩:=h
  exact Or.inl ⟨k,n,t,paV_ok h,by rw [parR_ok h],by rw [parR_ok h]⟩
 ·have h' : ∀ v,¬ LitOf s.data.toList v:=fun v g => h ⟨v,g⟩
  exact Or.inr ⟨by rw [parR_no h']; decide,paV_no h'⟩

theorem numTok_any (s : ByteArray) (w : World) (hs : s.size ≤ 2147483648) (hv : SV w) : Calls Tryz.prog 96 #[.string s] w (TkP (if (parR s.data.toList).2 = 0 then ((2,(parR s.data.toList).1.2.1,⟨#[]⟩),0) else (tk0,101)) w):=by
 have HSV:=Hd hv
 clear hv
 rcases pa_or s with ⟨k,n,t,hp,h0,h1⟩ | ⟨h0,hp⟩
 ·rw [if_pos h0,h1]
  clear h0 h1
  have HP:=Hd hp
  clear hp
  go_enter Tryz.func96,Tryz.ntmps96
  go_wp2_with fail
  refine (parse_any s _ hs (HSV.out.alloc _)).mono ?_
  rintro e w' ⟨rfl,hb⟩
  rw [HP.out]
  (obtain ⟨hc, hf⟩ := bcell hb; have hz := hb.size; (try simp at hz); (try have hz0 : w.heap.size < w'.heap.size := by omega); (try have hz1 : w.heap.size + 1 < w'.heap.size := by omega); (try have hz2 : w.heap.size + 1 + 1 < w'.heap.size := by omega); (try have hz3 : w.heap.size + 1 + 1 + 1 < w'.heap.size := by omega))
  go_wp2
  exact bodyPost_ret (v:=tkE ((2,n,⟨#[]⟩),0)) (by simp [results,Tryz.results96,go_sem,tkE,tkA, *]) rfl ⟨rfl,by (repeat (first|exact Bxr _ _|assumption|apply Bxd|apply Bxa|apply Bxs|refine Bxt ?_ (by assumption) ?_|omega|simp))⟩
 ·rw [if_neg h0]
  clear h0
  have HP:=Hd hp
  clear hp
  go_enter Tryz.func96,Tryz.ntmps96
  go_wp2_with fail
  refine (parse_any s _ hs (HSV.out.alloc _)).mono ?_
  rintro e w' ⟨rfl,hb⟩
  rw [HP.out]
  (obtain ⟨hc, hf⟩ := bcell hb; have hz := hb.size; (try simp at hz); (try have hz0 : w.heap.size < w'.heap.size := by omega); (try have hz1 : w.heap.size + 1 < w'.heap.size := by omega); (try have hz2 : w.heap.size + 1 + 1 < w'.heap.size := by omega); (try have hz3 : w.heap.size + 1 + 1 + 1 < w'.heap.size := by omega))
  go_wp2
  exact bodyPost_ret (v:=tkE (tk0,101)) (by simp [results,Tryz.results96,go_sem,tkE,tkA,tk0, *]) rfl ⟨rfl,by (repeat (first|exact Bxr _ _|assumption|apply Bxd|apply Bxa|apply Bxs|refine Bxt ?_ (by assumption) ?_|omega|simp))⟩

theorem par_text {s : List UInt8} (h : (parR s).2 = 0) : (parR s).1.2.2.size ≤ 64:=by
 by_cases g : ∃ v,LitOf s v
 ·obtain ⟨v,g⟩:=g
  rw [parR_ok g]
  rcases rt_kind g.1 with k | k | k | k
  ·rw [(right_null g.1 k).2]; decide
  ·rw [(rt_num g.1 k).2.2]; decide
  ·rw [(right_bool g.1 k).2]; decide
  ·exact (rt_text g.1 k).2
 ·rw [parR_no fun v q => g ⟨v,q⟩] at h
  exact absurd h (by decide)

theorem text_tok (s : ByteArray) (w : World) (hs : s.size ≤ 2147483648) (hv : SV w) : Calls Tryz.prog 99 #[.string s] w (TkP (if (parR s.data.toList).2 = 0 then ((5,0,(parR s.data.toList).1.2.2),0) else (tk0,103)) w):=by
 have HSV:=Hd hv
 clear hv
 rcases pa_or s with ⟨k,n,t,hp,h0,h1⟩ | ⟨h0,hp⟩
 ·have ht:=par_text h0
  rw [h1] at ht
  rw [if_pos h0,h1]
  clear h0 h1
  have ht2 : t.size ≤ 2147483648:=by have : t.size ≤ 64:=ht; omega
  clear ht
  have HP:=Hd hp
  clear hp
  go_enter Tryz.func99,Tryz.ntmps99
  go_wp2_with fail
  refine (parse_any s _ hs (HSV.out.alloc _)).mono ?_
  rintro e w' ⟨rfl,hb⟩
  rw [HP.out]
  (obtain ⟨hc, hf⟩ := bcell hb; have hz := hb.size; (try simp at hz); (try have hz0 : w.heap.size < w'.heap.size := by omega); (try have hz1 : w.heap.size + 1 < w'.heap.size := by omega); (try have hz2 : w.heap.size + 1 + 1 < w'.heap.size := by omega); (try have hz3 : w.heap.size + 1 + 1 + 1 < w'.heap.size := by omega))
  go_wp2_with fail
  refine (lettered_any _ _ _ ht2).mono ?_
  rintro e w2 ⟨rfl,hb2⟩
  obtain ⟨hc2,hf2⟩:=bcell hb2
  have hy:=hb2.size
  simp at hy
  have hy0 : w.heap.size < w2.heap.size:=by omega
  have hy1 : w'.heap.size < w2.heap.size:=by omega
  obtain ⟨ha,hg⟩:=bcell ((Below.refl w'.heap.size w').alloc (Nat.le_refl _) (.cells #[Vi k,Vi n,.string t] 47))
  have k0 : w2.cell? ⟨w.heap.size,0,none⟩ = some (Vi 0):=(hc2 w.heap.size 0 (by simp; omega)).trans ((ha _ _ hz0).trans ((hc _ _ (by simp)).trans (by simp)))
  have f0 : w2.frozen? ⟨w.heap.size,0,none⟩ = false:=(hf2 w.heap.size 0 (by simp; omega)).trans ((hg _ _ hz0).trans ((hf _ _ (by simp)).trans (by simp)))
  have k1 : w2.cell? ⟨w.heap.size,1,none⟩ = some (Vi 0):=(hc2 w.heap.size 1 (by simp; omega)).trans ((ha _ _ hz0).trans ((hc _ _ (by simp)).trans (by simp)))
  have f1 : w2.frozen? ⟨w.heap.size,1,none⟩ = false:=(hf2 w.heap.size 1 (by simp; omega)).trans ((hg _ _ hz0).trans ((hf _ _ (by simp)).trans (by simp)))
  have k2 : w2.cell? ⟨w.heap.size,2,none⟩ = some Vs:=(hc2 w.heap.size 2 (by simp; omega)).trans ((ha _ _ hz0).trans ((hc _ _ (by simp)).trans (by simp)))
  have f2 : w2.frozen? ⟨w.heap.size,2,none⟩ = false:=(hf2 w.heap.size 2 (by simp; omega)).trans ((hg _ _ hz0).trans ((hf _ _ (by simp)).trans (by simp)))
  have k3 : w2.cell? ⟨w.heap.size,3,none⟩ = some (Vi 0):=(hc2 w.heap.size 3 (by simp; omega)).trans ((ha _ _ hz0).trans ((hc _ _ (by simp)).trans (by simp)))
  have f3 : w2.frozen? ⟨w.heap.size,3,none⟩ = false:=(hf2 w.heap.size 3 (by simp; omega)).trans ((hg _ _ hz0).trans ((hf _ _ (by simp)).trans (by simp)))
  go_wp2
  exact bodyPost_ret (v:=tkE ((5,0,t),0)) (by simp [results,Tryz.results99,go_sem,tkE,tkA, *]) rfl ⟨rfl,by (repeat (first|exact Bxr _ _|assumption|apply Bxd|apply Bxa|apply Bxs|refine Bxt ?_ (by assumption) ?_|omega|simp))⟩
 ·rw [if_neg h0]
  clear h0
  have HP:=Hd hp
  clear hp
  go_enter Tryz.func99,Tryz.ntmps99
  go_wp2_with fail
  refine (parse_any s _ hs (HSV.out.alloc _)).mono ?_
  rintro e w' ⟨rfl,hb⟩
  rw [HP.out]
  (obtain ⟨hc, hf⟩ := bcell hb; have hz := hb.size; (try simp at hz); (try have hz0 : w.heap.size < w'.heap.size := by omega); (try have hz1 : w.heap.size + 1 < w'.heap.size := by omega); (try have hz2 : w.heap.size + 1 + 1 < w'.heap.size := by omega); (try have hz3 : w.heap.size + 1 + 1 + 1 < w'.heap.size := by omega))
  go_wp2
  exact bodyPost_ret (v:=tkE (tk0,103)) (by simp [results,Tryz.results99,go_sem,tkE,tkA,tk0, *]) rfl ⟨rfl,by (repeat (first|exact Bxr _ _|assumption|apply Bxd|apply Bxa|apply Bxs|refine Bxt ?_ (by assumption) ?_|omega|simp))⟩

noncomputable def tokC (c : Int) (p : ByteArray) : Tk × Int :=
 if c = 1 then ((1,0,⟨#[]⟩),0)
 else if c = 4 then (if (parR p.data.toList).2 = 0 then ((2,(parR p.data.toList).1.2.1,⟨#[]⟩),0) else (tk0,101))
 else if c = 5 ∨ c = 6 ∨ c = 7 then (if isWord p = true then ((4,0,p),0) else if isName p = true then ((3,0,p),0) else (tk0,102))
 else if c = 8 then (if isName (p.extract 1 p.size) = true then ((6,0,p.extract 1 p.size),0) else (tk0,102))
 else if c = 9 then (if (parR p.data.toList).2 = 0 then ((5,0,(parR p.data.toList).1.2.2),0) else (tk0,103))
 else if c = 10 then ((7,0,p),0) else (tk0,100)

theorem tokR_cls (p : ByteArray) : tokR p.data.toList = tokC (clsAt p 0) p:=by
 cases hp : p.data.toList with
 | nil =>
  have : ¬ 0 < p.size:=by
   have : p.data.toList.length = p.size:=by simp
   rw [hp] at this
   simp at this
   omega
  rw [clsAt_out this]
  rfl
 | cons c l =>
  have hz : p.data.toList.length = p.size:=by simp
  have h0 : 0 < p.size:=by rw [hp] at hz; simp at hz; omega
  have hc : p[0] = c:=by
   have:=bl_in h0
   rw [bl,List.drop_zero,hp] at this
   exact (List.cons.inj this).1.symm
  have hl : ofL (c :: l) = p:=by rw [← hp,ofL_list]
  have hx : ofL l = p.extract 1 p.size:=by
   rw [← ofL_list (p.extract 1 p.size)]
   congr 1
   have : (p.extract 1 p.size).data.toList = p.data.toList.drop 1:=by
    rw [ByteArray.data_extract]
    simp [List.extract_eq_take_drop]
    rw [← hz,List.take_of_length_le]
    simp
   rw [this,hp]
   rfl
  rw [clsAt_in h0,hc]
  simp only [tokR,tokC]
  rw [if_neg (cls_one c),hl,hx,hp]

theorem tok_none (p : ByteArray) (w : World) (_hs : p.size ≤ 2147483648) (hc : clsAt p 0 = 1) : Calls Tryz.prog 68 #[.string p] w (TkP (tokR p.data.toList) w):=by
 rw [tokR_cls,hc,show tokC 1 p = ((1,0,⟨#[]⟩),0) from rfl]
 have HQ : Hid (∀ w,Calls Tryz.prog 57 #[.string p,Vi 0] w fun e w' => e = .returned (Vi (1)) ∧ w' = w):=by have:=classAt_any p 0; rw [hc] at this; exact this
 clear hc
 go_enter Tryz.func68,Tryz.ntmps68
 go_wp2_with (first | (go_at_call 57; refine (HQ.out _).mono ?_; rintro e' w' ⟨rfl,he⟩; rw [he]; clear he))
 exact bodyPost_ret (v:=tkE (((1,0,⟨#[]⟩),0))) (by simp [results,Tryz.results68,go_sem,tkE,tkA, *]) rfl ⟨rfl,by (repeat (first|exact Bxr _ _|assumption|apply Bxd|apply Bxa|apply Bxs|refine Bxt ?_ (by assumption) ?_|omega|simp))⟩

theorem tok_other0 (p : ByteArray) (w : World) (_hs : p.size ≤ 2147483648) (hc : clsAt p 0 = 0) : Calls Tryz.prog 68 #[.string p] w (TkP (tokR p.data.toList) w):=by
 rw [tokR_cls,hc,show tokC 0 p = (tk0,100) from by unfold tokC; simp]
 have HQ : Hid (∀ w,Calls Tryz.prog 57 #[.string p,Vi 0] w fun e w' => e = .returned (Vi (0)) ∧ w' = w):=by have:=classAt_any p 0; rw [hc] at this; exact this
 clear hc
 go_enter Tryz.func68,Tryz.ntmps68
 go_wp2_with (first | (go_at_call 57; refine (HQ.out _).mono ?_; rintro e' w' ⟨rfl,he⟩; rw [he]; clear he))
 exact bodyPost_ret (v:=tkE ((tk0,100))) (by simp [results,Tryz.results68,go_sem,tkE,tkA,tk0, *]) rfl ⟨rfl,by (repeat (first|exact Bxr _ _|assumption|apply Bxd|apply Bxa|apply Bxs|refine Bxt ?_ (by assumption) ?_|omega|simp))⟩

theorem tok_other2 (p : ByteArray) (w : World) (_hs : p.size ≤ 2147483648) (hc : clsAt p 0 = 2) : Calls Tryz.prog 68 #[.string p] w (TkP (tokR p.data.toList) w):=by
 rw [tokR_cls,hc,show tokC 2 p = (tk0,100) from by unfold tokC; simp]
 have HQ : Hid (∀ w,Calls Tryz.prog 57 #[.string p,Vi 0] w fun e w' => e = .returned (Vi (2)) ∧ w' = w):=by have:=classAt_any p 0; rw [hc] at this; exact this
 clear hc
 go_enter Tryz.func68,Tryz.ntmps68
 go_wp2_with (first | (go_at_call 57; refine (HQ.out _).mono ?_; rintro e' w' ⟨rfl,he⟩; rw [he]; clear he))
 exact bodyPost_ret (v:=tkE ((tk0,100))) (by simp [results,Tryz.results68,go_sem,tkE,tkA,tk0, *]) rfl ⟨rfl,by (repeat (first|exact Bxr _ _|assumption|apply Bxd|apply Bxa|apply Bxs|refine Bxt ?_ (by assumption) ?_|omega|simp))⟩

theorem tok_other3 (p : ByteArray) (w : World) (_hs : p.size ≤ 2147483648) (hc : clsAt p 0 = 3) : Calls Tryz.prog 68 #[.string p] w (TkP (tokR p.data.toList) w):=by
 rw [tokR_cls,hc,show tokC 3 p = (tk0,100) from by unfold tokC; simp]
 have HQ : Hid (∀ w,Calls Tryz.prog 57 #[.string p,Vi 0] w fun e w' => e = .returned (Vi (3)) ∧ w' = w):=by have:=classAt_any p 0; rw [hc] at this; exact this
 clear hc
 go_enter Tryz.func68,Tryz.ntmps68
 go_wp2_with (first | (go_at_call 57; refine (HQ.out _).mono ?_; rintro e' w' ⟨rfl,he⟩; rw [he]; clear he))
 exact bodyPost_ret (v:=tkE ((tk0,100))) (by simp [results,Tryz.results68,go_sem,tkE,tkA,tk0, *]) rfl ⟨rfl,by (repeat (first|exact Bxr _ _|assumption|apply Bxd|apply Bxa|apply Bxs|refine Bxt ?_ (by assumption) ?_|omega|simp))⟩

theorem tok_num (p : ByteArray) (w : World) (hs : p.size ≤ 2147483648) (hv : SV w) (hc : clsAt p 0 = 4) : Calls Tryz.prog 68 #[.string p] w (TkP (tokR p.data.toList) w):=by
 rw [tokR_cls,hc,show tokC 4 p = (if (parR p.data.toList).2 = 0 then ((2,(parR p.data.toList).1.2.1,⟨#[]⟩),0) else (tk0,101)) from by unfold tokC; simp]
 have HQ : Hid (∀ w,Calls Tryz.prog 57 #[.string p,Vi 0] w fun e w' => e = .returned (Vi (4)) ∧ w' = w):=by have:=classAt_any p 0; rw [hc] at this; exact this
 clear hc
 have HSV:=Hd hv
 clear hv
 obtain ⟨⟨⟨k,n,t⟩,z⟩,hr⟩ : ∃ r : Tk × Int,(if (parR p.data.toList).2 = 0 then ((2,(parR p.data.toList).1.2.1,⟨#[]⟩),0) else (tk0,101)) = r:=⟨_,rfl⟩
 have HK : Hid (∀ W,SV W → Calls Tryz.prog 96 #[.string p] W (TkP ((k,n,t),z) W)):=by
  show ∀ W,_
  intro W h
  rw [← hr]
  exact numTok_any p W hs h
 rw [hr]
 clear hr
 go_enter Tryz.func68,Tryz.ntmps68
 go_wp2_with (first | (go_at_call 57; refine (HQ.out _).mono ?_; rintro e' w' ⟨rfl,he⟩; rw [he]; clear he) | (go_at_call 96; refine (HK.out _ (HSV.out.alloc _)).mono ?_; rintro e w1 ⟨rfl,hb⟩; simp only [tkE,tkA]; obtain ⟨hc,hf⟩:=bcell hb; have hz:=hb.size; (try simp at hz); have hz0 : w.heap.size < w1.heap.size:=by omega))
 exact bodyPost_ret (v:=tkE (((k,n,t),z))) (by simp [results,Tryz.results68,go_sem,tkE,tkA, *]) rfl ⟨rfl,by (repeat (first|exact Bxr _ _|assumption|apply Bxd|apply Bxa|apply Bxs|refine Bxt ?_ (by assumption) ?_|omega|simp))⟩

theorem tok_name5 (p : ByteArray) (w : World) (hs : p.size ≤ 2147483648) (hc : clsAt p 0 = 5) : Calls Tryz.prog 68 #[.string p] w (TkP (tokR p.data.toList) w):=by
 rw [tokR_cls,hc,show tokC 5 p = (if isWord p = true then ((4,0,p),0) else if isName p = true then ((3,0,p),0) else (tk0,102)) from by unfold tokC; simp]
 have HQ : Hid (∀ w,Calls Tryz.prog 57 #[.string p,Vi 0] w fun e w' => e = .returned (Vi (5)) ∧ w' = w):=by have:=classAt_any p 0; rw [hc] at this; exact this
 clear hc
 obtain ⟨⟨⟨k,n,t⟩,z⟩,hr⟩ : ∃ r : Tk × Int,(if isWord p = true then ((4,0,p),0) else if isName p = true then ((3,0,p),0) else (tk0,102)) = r:=⟨_,rfl⟩
 have HK : Hid (∀ W,Calls Tryz.prog 97 #[.string p] W (TkP ((k,n,t),z) W)):=by
  show ∀ W,_
  intro W
  rw [← hr]
  exact nameOrWord_any p W hs
 rw [hr]
 clear hr
 go_enter Tryz.func68,Tryz.ntmps68
 go_wp2_with (first | (go_at_call 57; refine (HQ.out _).mono ?_; rintro e' w' ⟨rfl,he⟩; rw [he]; clear he) | (go_at_call 97; refine (HK.out _).mono ?_; rintro e w1 ⟨rfl,hb⟩; simp only [tkE,tkA]; obtain ⟨hc,hf⟩:=bcell hb; have hz:=hb.size; (try simp at hz); have hz0 : w.heap.size < w1.heap.size:=by omega))
 exact bodyPost_ret (v:=tkE (((k,n,t),z))) (by simp [results,Tryz.results68,go_sem,tkE,tkA, *]) rfl ⟨rfl,by (repeat (first|exact Bxr _ _|assumption|apply Bxd|apply Bxa|apply Bxs|refine Bxt ?_ (by assumption) ?_|omega|simp))⟩

theorem tok_name6 (p : ByteArray) (w : World) (hs : p.size ≤ 2147483648) (hc : clsAt p 0 = 6) : Calls Tryz.prog 68 #[.string p] w (TkP (tokR p.data.toList) w):=by
 rw [tokR_cls,hc,show tokC 6 p = (if isWord p = true then ((4,0,p),0) else if isName p = true then ((3,0,p),0) else (tk0,102)) from by unfold tokC; simp]
 have HQ : Hid (∀ w,Calls Tryz.prog 57 #[.string p,Vi 0] w fun e w' => e = .returned (Vi (6)) ∧ w' = w):=by have:=classAt_any p 0; rw [hc] at this; exact this
 clear hc
 obtain ⟨⟨⟨k,n,t⟩,z⟩,hr⟩ : ∃ r : Tk × Int,(if isWord p = true then ((4,0,p),0) else if isName p = true then ((3,0,p),0) else (tk0,102)) = r:=⟨_,rfl⟩
 have HK : Hid (∀ W,Calls Tryz.prog 97 #[.string p] W (TkP ((k,n,t),z) W)):=by
  show ∀ W,_
  intro W
  rw [← hr]
  exact nameOrWord_any p W hs
 rw [hr]
 clear hr
 go_enter Tryz.func68,Tryz.ntmps68
 go_wp2_with (first | (go_at_call 57; refine (HQ.out _).mono ?_; rintro e' w' ⟨rfl,he⟩; rw [he]; clear he) | (go_at_call 97; refine (HK.out _).mono ?_; rintro e w1 ⟨rfl,hb⟩; simp only [tkE,tkA]; obtain ⟨hc,hf⟩:=bcell hb; have hz:=hb.size; (try simp at hz); have hz0 : w.heap.size < w1.heap.size:=by omega))
 exact bodyPost_ret (v:=tkE (((k,n,t),z))) (by simp [results,Tryz.results68,go_sem,tkE,tkA, *]) rfl ⟨rfl,by (repeat (first|exact Bxr _ _|assumption|apply Bxd|apply Bxa|apply Bxs|refine Bxt ?_ (by assumption) ?_|omega|simp))⟩

theorem tok_name7 (p : ByteArray) (w : World) (hs : p.size ≤ 2147483648) (hc : clsAt p 0 = 7) : Calls Tryz.prog 68 #[.string p] w (TkP (tokR p.data.toList) w):=by
 rw [tokR_cls,hc,show tokC 7 p = (if isWord p = true then ((4,0,p),0) else if isName p = true then ((3,0,p),0) else (tk0,102)) from by unfold tokC; simp]
 have HQ : Hid (∀ w,Calls Tryz.prog 57 #[.string p,Vi 0] w fun e w' => e = .returned (Vi (7)) ∧ w' = w):=by have:=classAt_any p 0; rw [hc] at this; exact this
 clear hc
 obtain ⟨⟨⟨k,n,t⟩,z⟩,hr⟩ : ∃ r : Tk × Int,(if isWord p = true then ((4,0,p),0) else if isName p = true then ((3,0,p),0) else (tk0,102)) = r:=⟨_,rfl⟩
 have HK : Hid (∀ W,Calls Tryz.prog 97 #[.string p] W (TkP ((k,n,t),z) W)):=by
  show ∀ W,_
  intro W
  rw [← hr]
  exact nameOrWord_any p W hs
 rw [hr]
 clear hr
 go_enter Tryz.func68,Tryz.ntmps68
 go_wp2_with (first | (go_at_call 57; refine (HQ.out _).mono ?_; rintro e' w' ⟨rfl,he⟩; rw [he]; clear he) | (go_at_call 97; refine (HK.out _).mono ?_; rintro e w1 ⟨rfl,hb⟩; simp only [tkE,tkA]; obtain ⟨hc,hf⟩:=bcell hb; have hz:=hb.size; (try simp at hz); have hz0 : w.heap.size < w1.heap.size:=by omega))
 exact bodyPost_ret (v:=tkE (((k,n,t),z))) (by simp [results,Tryz.results68,go_sem,tkE,tkA, *]) rfl ⟨rfl,by (repeat (first|exact Bxr _ _|assumption|apply Bxd|apply Bxa|apply Bxs|refine Bxt ?_ (by assumption) ?_|omega|simp))⟩

theorem tok_param (p : ByteArray) (w : World) (hs : p.size ≤ 2147483648) (HZ1 : 0 < p.size) (hc : clsAt p 0 = 8) : Calls Tryz.prog 68 #[.string p] w (TkP (tokR p.data.toList) w):=by
 rw [tokR_cls,hc,show tokC 8 p = (if isName (p.extract 1 p.size) = true then ((6,0,p.extract 1 p.size),0) else (tk0,102)) from by unfold tokC; simp]
 have HQ : Hid (∀ w,Calls Tryz.prog 57 #[.string p,Vi 0] w fun e w' => e = .returned (Vi (8)) ∧ w' = w):=by have:=classAt_any p 0; rw [hc] at this; exact this
 clear hc
 obtain ⟨⟨⟨k,n,t⟩,z⟩,hr⟩ : ∃ r : Tk × Int,(if isName (p.extract 1 p.size) = true then ((6,0,p.extract 1 p.size),0) else (tk0,102)) = r:=⟨_,rfl⟩
 have HK : Hid (∀ W,Calls Tryz.prog 98 #[.string (p.extract 1 p.size)] W (TkP ((k,n,t),z) W)):=by
  show ∀ W,_
  intro W
  rw [← hr]
  exact param_any _ W (by simp; omega)
 rw [hr]
 clear hr
 have h1 : (1 : Int) ≤ (p.size : Int):=by have:=HZ1; omega
 go_enter Tryz.func68,Tryz.ntmps68
 go_wp2_with (first | (go_at_call 57; refine (HQ.out _).mono ?_; rintro e' w' ⟨rfl,he⟩; rw [he]; clear he) | (go_at_call 98; refine (HK.out _).mono ?_; rintro e w1 ⟨rfl,hb⟩; simp only [tkE,tkA]; obtain ⟨hc,hf⟩:=bcell hb; have hz:=hb.size; (try simp at hz); have hz0 : w.heap.size < w1.heap.size:=by omega))
 exact bodyPost_ret (v:=tkE (((k,n,t),z))) (by simp [results,Tryz.results68,go_sem,tkE,tkA, *]) rfl ⟨rfl,by (repeat (first|exact Bxr _ _|assumption|apply Bxd|apply Bxa|apply Bxs|refine Bxt ?_ (by assumption) ?_|omega|simp))⟩

theorem tok_text (p : ByteArray) (w : World) (hs : p.size ≤ 2147483648) (hv : SV w) (hc : clsAt p 0 = 9) : Calls Tryz.prog 68 #[.string p] w (TkP (tokR p.data.toList) w):=by
 rw [tokR_cls,hc,show tokC 9 p = (if (parR p.data.toList).2 = 0 then ((5,0,(parR p.data.toList).1.2.2),0) else (tk0,103)) from by unfold tokC; simp]
 have HQ : Hid (∀ w,Calls Tryz.prog 57 #[.string p,Vi 0] w fun e w' => e = .returned (Vi (9)) ∧ w' = w):=by have:=classAt_any p 0; rw [hc] at this; exact this
 clear hc
 have HSV:=Hd hv
 clear hv
 obtain ⟨⟨⟨k,n,t⟩,z⟩,hr⟩ : ∃ r : Tk × Int,(if (parR p.data.toList).2 = 0 then ((5,0,(parR p.data.toList).1.2.2),0) else (tk0,103)) = r:=⟨_,rfl⟩
 have HK : Hid (∀ W,SV W → Calls Tryz.prog 99 #[.string p] W (TkP ((k,n,t),z) W)):=by
  show ∀ W,_
  intro W h
  rw [← hr]
  exact text_tok p W hs h
 rw [hr]
 clear hr
 go_enter Tryz.func68,Tryz.ntmps68
 go_wp2_with (first | (go_at_call 57; refine (HQ.out _).mono ?_; rintro e' w' ⟨rfl,he⟩; rw [he]; clear he) | (go_at_call 99; refine (HK.out _ (HSV.out.alloc _)).mono ?_; rintro e w1 ⟨rfl,hb⟩; simp only [tkE,tkA]; obtain ⟨hc,hf⟩:=bcell hb; have hz:=hb.size; (try simp at hz); have hz0 : w.heap.size < w1.heap.size:=by omega))
 exact bodyPost_ret (v:=tkE (((k,n,t),z))) (by simp [results,Tryz.results68,go_sem,tkE,tkA, *]) rfl ⟨rfl,by (repeat (first|exact Bxr _ _|assumption|apply Bxd|apply Bxa|apply Bxs|refine Bxt ?_ (by assumption) ?_|omega|simp))⟩

theorem tok_sign (p : ByteArray) (w : World) (hs : p.size ≤ 2147483648) (hc : clsAt p 0 = 10) : Calls Tryz.prog 68 #[.string p] w (TkP (tokR p.data.toList) w):=by
 rw [tokR_cls,hc,show tokC 10 p = ((7,0,p),0) from by unfold tokC; simp]
 have HQ : Hid (∀ w,Calls Tryz.prog 57 #[.string p,Vi 0] w fun e w' => e = .returned (Vi (10)) ∧ w' = w):=by have:=classAt_any p 0; rw [hc] at this; exact this
 clear hc
 go_enter Tryz.func68,Tryz.ntmps68
 go_wp2_with (first | (go_at_call 57; refine (HQ.out _).mono ?_; rintro e' w' ⟨rfl,he⟩; rw [he]; clear he) | (go_at_call 100; refine (lettered_any _ _ _ hs).mono ?_; rintro e w' ⟨rfl,hb⟩; (obtain ⟨hc, hf⟩ := bcell hb; have hz := hb.size; (try simp at hz); (try have hz0 : w.heap.size < w'.heap.size := by omega); (try have hz1 : w.heap.size + 1 < w'.heap.size := by omega); (try have hz2 : w.heap.size + 1 + 1 < w'.heap.size := by omega); (try have hz3 : w.heap.size + 1 + 1 + 1 < w'.heap.size := by omega))))
 exact bodyPost_ret (v:=tkE (((7,0,p),0))) (by simp [results,Tryz.results68,go_sem,tkE,tkA, *]) rfl ⟨rfl,by (repeat (first|exact Bxr _ _|assumption|apply Bxd|apply Bxa|apply Bxs|refine Bxt ?_ (by assumption) ?_|omega|simp))⟩

theorem token_any (p : ByteArray) (w : World) (hs : p.size ≤ 2147483648) (hv : SV w) : Calls Tryz.prog 68 #[.string p] w (TkP (tokR p.data.toList) w):=by
 rcases clsAt_range p 0 with h | h | h | h | h | h | h | h | h | h | h
 ·exact tok_other0 p w hs h
 ·exact tok_none p w hs h
 ·exact tok_other2 p w hs h
 ·exact tok_other3 p w hs h
 ·exact tok_num p w hs hv h
 ·exact tok_name5 p w hs h
 ·exact tok_name6 p w hs h
 ·exact tok_name7 p w hs h
 ·exact tok_param p w hs (clsAt_lt (by rw [h]; decide)) h
 ·exact tok_text p w hs hv h
 ·exact tok_sign p w hs h

theorem own_kept {w w' : World} {base n : Nat} {e : TypeId} {size : Nat} {v : Value} {xs : List Value} (h : w.ownsRow base e size v n xs) (hk : ∀ g,v.ownBlock = some g → w'.heap[g]? = w.heap[g]?) : w'.ownsRow base e size v n xs:=by
 obtain ⟨h1,h2 | ⟨g,cap,cur,rfl,a,b,c⟩⟩:=h
 ·exact ⟨h1,Or.inl h2⟩
 ·exact ⟨h1,Or.inr ⟨g,cap,cur,rfl,a,(hk g rfl).trans b,c⟩⟩

theorem own_later {w w' : World} {B : Nat} {e : TypeId} {size : Nat} {v : Value} {n : Nat} {xs : List Value} (h : w.ownsRow B e size v n xs) (hb : Below w.heap.size w w') : w'.ownsRow B e size v n xs:=own_kept h fun g hg => hb.block g (h.lt g hg).2

theorem own_mono {w : World} {base base' : Nat} {e : TypeId} {size : Nat} {v : Value} {n : Nat} {xs : List Value} (h : w.ownsRow base e size v n xs) (hb : base' ≤ base) : w.ownsRow base' e size v n xs:=by
 obtain ⟨h1,h2 | ⟨g,cap,cur,e,a,r⟩⟩:=h
 ·exact ⟨h1,Or.inl h2⟩
 ·exact ⟨h1,Or.inr ⟨g,cap,cur,e,Nat.le_trans hb a,r⟩⟩

theorem own_form {w : World} {base n : Nat} {e : TypeId} {size : Nat} {v : Value} {xs : List Value} (h : w.ownsRow base e size v n xs) : ∃ p cap,v = .slice p n cap:=by
 obtain ⟨_,⟨rfl,rfl⟩ | ⟨g,cap,cur,rfl,_⟩⟩:=h
 ·exact ⟨none,0,rfl⟩
 ·exact ⟨_,cap,rfl⟩

theorem cells_alloc (w : World) (us : List Value) (t : TypeId) : ∀ j u,us[j]? = some u → (w.alloc (.cells us.toArray t)).cell? ((⟨w.heap.size,0,none⟩ : Addr).add j) = some u:=by
 intro j u hj
 have hadd : (⟨w.heap.size,0,none⟩ : Addr).add j = ⟨w.heap.size,j,none⟩:=by rw [Addr.add_lit,Nat.zero_add]
 rw [hadd]
 obtain ⟨hl,rfl⟩:=List.getElem?_eq_some_iff.1 hj
 have:=heap_alloc_new w (.cells us.toArray t (0,0))
 simp only [World.cell?,this]
 simp [hl]

theorem Tryz.infoTok : (Tryz.prog.info? 97).map (fun i => (i.zero,i.size,i.bytes)) = some (some (.agg (Vk 0 0 Vz 0)),4,40):=by kernel_rfl

def ScanP (s : ByteArray) (w : World) (e : Ending) (w' : World) : Prop:=∃ (a : Option Addr) (cap : Nat) (l : List (Tk × Nat)) (p : Nat) (c : Int),e = .returned (.tuple #[.slice a l.length cap,Vi (p : Int),Vi c]) ∧ ScanIs s l p c ∧ w'.ownsRow w.heap.size 97 4 (.slice a l.length cap) l.length (tc l) ∧ l.length ≤ 1001 ∧ Below w.heap.size w w'

structure Scq (s : ByteArray) (e : Nat) (ts : List (Tk × Nat)) : Prop where
 le : e ≤ s.size
 few : ts.length ≤ e
 toks : ∀ us,Toks (bl s e) e us → Toks s.data.toList 0 (ts ++ us)
 bad : ∀ p c,Bad (bl s e) e p c → Bad s.data.toList 0 p c

theorem bl_zero (s : ByteArray) : bl s 0 = s.data.toList:=rfl

theorem Scq.start (s : ByteArray) : Scq s 0 []:=⟨Nat.zero_le _,Nat.zero_le _,fun us h => by rw [bl_zero] at h; exact h,fun p c h => by rw [bl_zero] at h; exact h⟩

theorem cut_le {s : ByteArray} {e : Nat} (h : e ≤ s.size) : e ≤ (cutR s false e).1 ∧ (cutR s false e).1 ≤ (cutR s false e).2 ∧ (cutR s false e).2 ≤ s.size:=by
 rw [cut_skip]
 have h1:=skp_le (bl s e) false
 have h2:=pieceN_le (skipL (bl s e))
 have h3 : (skipL (bl s e)).length = (bl s e).length - skp false (bl s e):=by simp [skipL]
 have h4:=bl_len s e
 simp only
 omega

theorem Scq.step {s : ByteArray} {e : Nat} {ts : List (Tk × Nat)} (h : Scq s e ts) {a b : Nat} (hc : cutR s false e = (a,b)) {t : Tk} (ht : tokR (s.extract a b).data.toList = (t,0)) (hk : t.1 ≠ 1) : Scq s b (ts ++ [(t,a)]) ∧ a < b:=by
 have hp:=piece_at s e
 have hr:=rest_at s e
 have hl:=cut_le h.le
 have hn:=cut_skip s e
 rw [hc] at hp hr hl hn
 simp only at hp hr hl hn
 rw [hp] at ht
 have hne : skipL (bl s e) ≠ []:=fun g => by
  rw [pce_nil g] at ht
  exact hk (by rw [← (Prod.mk.inj ht).1])
 obtain ⟨rfl,rfl⟩:=Prod.mk.inj hn
 obtain ⟨c,q,hs,_⟩:=pce_cons hne
 have hpos:=pieceN_pos c q
 rw [← hs] at hpos
 refine ⟨⟨hl.2.2,?_,fun us g => ?_,fun p c g => ?_⟩,by omega⟩
 ·have:=h.few
  simp
  omega
 ·rw [List.append_assoc]
  refine h.toks _ (Toks.more hne ht ?_)
  rw [hr]
  exact g
 ·refine h.bad _ _ (Bad.more hne ht ?_)
  rw [hr]
  exact g

theorem Scq.fin {s : ByteArray} {e : Nat} {ts : List (Tk × Nat)} (h : Scq s e ts) {a b : Nat} (hc : cutR s false e = (a,b)) {t : Tk} (ht : tokR (s.extract a b).data.toList = (t,0)) (hk : t.1 = 1) : Toks s.data.toList 0 (ts ++ [(t,a)]):=by
 have hp:=piece_at s e
 have hn:=cut_skip s e
 rw [hc] at hp hn
 simp only at hp hn
 rw [hp] at ht
 by_cases hne : skipL (bl s e) = []
 ·rw [pce_nil hne] at ht
  obtain ⟨rfl,_⟩:=Prod.mk.inj ht
  obtain ⟨rfl,rfl⟩:=Prod.mk.inj hn
  exact h.toks _ (Toks.fin hne)
 ·obtain ⟨c,q,hs,hq⟩:=pce_cons hne
  rw [hq] at ht
  have:=tokR_kind c _ (by rw [ht])
  rw [ht] at this
  simp only at this
  omega

theorem Scq.wrong {s : ByteArray} {e : Nat} {ts : List (Tk × Nat)} (h : Scq s e ts) {a b : Nat} (hc : cutR s false e = (a,b)) {t : Tk} {z : Int} (ht : tokR (s.extract a b).data.toList = (t,z)) (hz : z ≠ 0) : Bad s.data.toList 0 a z:=by
 have hp:=piece_at s e
 have hn:=cut_skip s e
 rw [hc] at hp hn
 simp only at hp hn
 rw [hp] at ht
 obtain ⟨rfl,rfl⟩:=Prod.mk.inj hn
 exact h.bad _ _ (Bad.here ht hz)

theorem scan_bad {s : ByteArray} {w w' : World} {p : Nat} {c : Int} (h : ScanIs s [] p c) (hb : Below w.heap.size w w') : ScanP s w (.returned (.tuple #[Vn,Vi (p : Int),Vi c])) w' :=
 ⟨none,0,[],p,c,rfl,h,World.ownsRow_nil _ _ _ _,by simp,hb⟩

theorem scan_any (s : ByteArray) (w : World) (hv : SV w) : Calls Tryz.prog 25 #[.string s] w (ScanP s w):=by
 obtain ⟨i0,hi,hz0,hz1,hz2⟩:=info_parts Tryz.infoTok
 by_cases hl : 1000 < s.size
 ·have hli : (1000 : Int) < (s.size : Int):=by omega
  have HX : Hid (ScanIs s [] 0 2):=Or.inl ⟨hl,rfl,rfl,rfl⟩
  go_enter Tryz.func25,Tryz.ntmps25
  go_wp2
  exact bodyPost_ret (v:=.tuple #[Vn,Vi 0,Vi 2]) (by simp [results,Tryz.results25,go_sem]) rfl (scan_bad HX.out (by (repeat (first|exact Bxr _ _|assumption|apply Bxd|apply Bxa|apply Bxs|refine Bxt ?_ (by assumption) ?_|omega|simp))))
 ·have hli : ¬ (1000 : Int) < (s.size : Int):=by omega
  have hs : s.size ≤ 1000:=by omega
  have HSV:=Hd hv
  clear hv hl
  go_enter Tryz.func25,Tryz.ntmps25
  go_wp2_with fail
  refine (cut_any s 0 _ (by omega) (by omega)).mono ?_
  rintro e w1 ⟨a0,b0,rfl,hcut0,hb00,hb01,rfl⟩
  have HC0 : Hid (cutR s false 0 = (a0,b0)):=hcut0.mean.symm
  clear hcut0 hli
  go_wp2
  go_loopw [5,6,7] (fun v at_ en wr => ∃ (ts : List (Tk × Nat)) (e a b : Nat),at_ = Vi (a : Int) ∧ en = Vi (b : Int) ∧ cutR s false e = (a,b) ∧ a ≤ b ∧ b ≤ s.size ∧ Scq s e ts ∧ wr.ownsRow w1.heap.size 97 4 v ts.length (tc ts) ∧ Below w1.heap.size w1 wr) (fun _ a _ _ => s.size + 1 - (intOf a).toNat)
  case atStart => exact ⟨[],0,a0,b0,rfl,rfl,HC0.out,hb01,hb00,Scq.start s,World.ownsRow_nil _ _ _ _,by (repeat (first|exact Bxr _ _|assumption|apply Bxd|apply Bxa|apply Bxs|refine Bxt ?_ (by assumption) ?_|omega|simp))⟩
  case round =>
   clear HC0
   obtain ⟨ts,e,a,b,rfl,rfl,hcut,hab,hbs,hsc,hown,hb⟩:=hrel
   have HC:=Hd hcut
   have HS:=Hd hsc
   clear hcut hsc
   have hsz:=hb.size
   have ha0 : (0 : Int) ≤ (a : Int):=by omega
   have habi : (a : Int) ≤ (b : Int):=by omega
   have hbsi : (b : Int) ≤ (s.size : Int):=by omega
   have hts : ts.length ≤ 1000:=by have:=HS.out.few; have:=HS.out.le; omega
   obtain ⟨⟨⟨k,n,t⟩,z⟩,hr⟩ : ∃ r,tokR (s.extract a b).data.toList = r:=⟨_,rfl⟩
   have HT:=token_any (s.extract a b)
   rw [hr] at HT
   have HTK:=Hd HT
   have HR:=Hd hr
   clear HT hr
   go_wp2_with fail
   refine (HTK.out _ (by simp; omega) (HSV.out.later hb)).mono ?_
   rintro e3 w3 ⟨rfl,hb3⟩
   have hb3' : Below w1.heap.size w1 w3:=hb.trans (hb3.mono hsz)
   have hz3:=hb3'.size
   have hown3:=own_later hown hb3
   have hlt3:=hown3.lt
   clear hown hb3 HTK
   simp only [tkE,tkA]
   by_cases hz : z = 0
   ·subst hz
    by_cases hk : k = 1
    ·subst hk
     have HF : Hid (Toks s.data.toList 0 (ts ++ [((1,n,t),a)])):=HS.out.fin HC.out HR.out rfl
     go_wp2_with (first | (at_builtin; refine wpList_append_own _ rfl _ _ 55 rfl w1.heap.size 97 i0 _ 4 40 Tryz.underlying55 hi hz0 hz1 hz2 rfl (by decide) _ ts.length (tc ts) rfl ?c0 ⟨w3.heap.size + 1,0,none⟩ 1 1 (tc [((1,n,t),a)]) rfl rfl ?c1 ?c2 ?c3 ?c4 ?c5 ?_))
     case c0 => exact (hown3.alloc _).alloc _
     case c1 =>
      have:=cells_alloc (w3.alloc (.cells (Vk 1 n t a) 97)) (tc [((1,n,t),a)]) 97
      simpa [tc] using this
     case c2 => exact tc_one _
     case c3 => unfold maxLen; omega
     case c4 => omega
     case c5 => simp; omega
     intro v' w4 hown4 hgrow _
     have hbb : Below w1.heap.size w1 w4:=((hb3'.alloc (by omega) _).alloc (by simp; omega) _).grown hgrow (by simp; omega) fun k hk => (hlt3 k hk).1
     rw [← tc_append] at hown4
     have hlen : (ts ++ [(((1,n,t) : Tk),a)]).length = ts.length + 1:=by simp
     have hcell : w4.cell? ⟨w3.heap.size,0,none⟩ = some (Vi 1):=hgrow.cell (a:=⟨w3.heap.size,0,none⟩) (by simp) fun hg => Nat.lt_irrefl _ (hlt3 _ hg.symm).2
     clear hown3 hlt3 hb3' hgrow
     rw [← hlen] at hown4
     obtain ⟨la,lc,rfl⟩:=own_form hown4
     have HO:=Hd hown4
     clear hown4
     go_wp2
     exact bodyPost_ret (v:=.tuple #[.slice la (ts ++ [(((1,n,t) : Tk),a)]).length lc,Vi 0,Vi 0]) (by simp [results,Tryz.results25,go_sem]) rfl ⟨la,lc,_,0,0,rfl,Or.inr ⟨hs,Or.inl ⟨rfl,rfl,HF.out⟩⟩,HO.out,by rw [hlen]; omega,by (repeat (first|exact Bxr _ _|assumption|apply Bxd|apply Bxa|apply Bxs|refine Bxt ?_ (by assumption) ?_|omega|simp))⟩
    ·have hki : (k == 1) = false:=by simpa using hk
     have HST:=Hd (HS.out.step HC.out HR.out hk)
     clear hk
     go_wp2_with (first | (at_builtin; refine wpList_append_own _ rfl _ _ 55 rfl w1.heap.size 97 i0 _ 4 40 Tryz.underlying55 hi hz0 hz1 hz2 rfl (by decide) _ ts.length (tc ts) rfl ?c0 ⟨w3.heap.size + 1,0,none⟩ 1 1 (tc [((k,n,t),a)]) rfl rfl ?c1 ?c2 ?c3 ?c4 ?c5 ?_))
     case c0 => exact (hown3.alloc _).alloc _
     case c1 =>
      have:=cells_alloc (w3.alloc (.cells (Vk k n t a) 97)) (tc [((k,n,t),a)]) 97
      simpa [tc] using this
     case c2 => exact tc_one _
     case c3 => unfold maxLen; omega
     case c4 => omega
     case c5 => simp; omega
     intro v' w4 hown4 hgrow _
     have hbb : Below w1.heap.size w1 w4:=((hb3'.alloc (by omega) _).alloc (by simp; omega) _).grown hgrow (by simp; omega) fun k hk => (hlt3 k hk).1
     rw [← tc_append] at hown4
     have hlen : (ts ++ [(((k,n,t) : Tk),a)]).length = ts.length + 1:=by simp
     have hcell : w4.cell? ⟨w3.heap.size,0,none⟩ = some (Vi k):=hgrow.cell (a:=⟨w3.heap.size,0,none⟩) (by simp) fun hg => Nat.lt_irrefl _ (hlt3 _ hg.symm).2
     clear hown3 hlt3 hb3' hgrow
     rw [← hlen] at hown4
     have HO:=Hd hown4
     clear hown4
     go_wp2_with fail
     refine (cut_any s b _ hbs (by omega)).mono ?_
     rintro e5 w5 ⟨a2,b2,rfl,hcut2,hb20,hb21,rfl⟩
     have HC2 : Hid (cutR s false b = (a2,b2)):=hcut2.mean.symm
     clear hcut2
     have hcl:=cut_le hbs
     rw [HC2.out] at hcl
     simp only at hcl
     have hab2:=HST.out.2
     go_wp2
     go_roundw
     case rel => exact ⟨ts ++ [((k,n,t),a)],b,a2,b2,rfl,rfl,HC2.out,hb21,hb20,HST.out.1,HO.out,hbb⟩
     case measure => simp [intOf]; omega
   ·have hzi : (z != 0) = true:=by simpa using hz
    have HB : Hid (ScanIs s [] a z):=Or.inr ⟨hs,Or.inr ⟨rfl,HS.out.wrong HC.out HR.out hz⟩⟩
    clear hz hown3 hlt3
    go_wp2
    exact bodyPost_ret (v:=.tuple #[Vn,Vi (a : Int),Vi z]) (by simp [results,Tryz.results25,go_sem]) rfl (scan_bad HB.out (by (repeat (first|exact Bxr _ _|assumption|apply Bxd|apply Bxa|apply Bxs|refine Bxt ?_ (by assumption) ?_|omega|simp))))
end Go.Proofs.YtbfjmccpcbhljaaGreatDoor
