/- M157 N20 N21 N22 N23 M158 -/
import Derived.Test.YteolnlcmnaknnaaGreatDoorTN8p
set_option maxHeartbeats 8000000
set_option maxRecDepth 100000
namespace Go.Proofs.YteolnlcmnaknnaaGreatDoor
open Go.RowKit
theorem xwr_len (need : Nat) (e : Ex) (b : List UInt8) : (xwr need e b).length ≤ b.length + 2:=by
 unfold xwr
 split <;> simp

theorem xrow_len (w : List UInt8) (need L : Nat) : ∀ (l : List Ex),(∀ e ∈ l,(xB e).length ≤ L) → (xrowM w need l (l.map xB)).length ≤ l.length * (L + w.length + 4)
 | [],_ => by simp [xrowM]
 | e :: l,h => by
  have h1:=xwr_len need e (xB e)
  have h2:=h e (by simp)
  have h3:=xrow_len w need L l fun x hx => h x (by simp [hx])
  rw [List.map_cons,xrowM]
  simp only [List.length_cons,List.length_append,Nat.succ_mul]
  omega

theorem xB_len : ∀ (n : Nat) (e : Ex),dpr n e = false → RtE e → (xB e).length + 100 ≤ 500 * 8 ^ n
 | 0,e,hd,_ => by cases e; simp [dpr] at hd
 | n + 1,e,hd,hr => by
  obtain ⟨kk,oo,⟨v1,v2,v3⟩,tt,nn,es,pp⟩:=e
  obtain ⟨o1,o2,⟨l1,l2,hk⟩,hw1,hw2,hw3,-⟩:=RtI.iff.1 hr.2
  have ih : ∀ e ∈ es,(xB e).length + 100 ≤ 500 * 8 ^ n:=fun e he => by
   obtain ⟨i,hi,rfl⟩:=List.getElem_of_mem he
   exact xB_len n _ (dpr_kids hd i hi) (hk i hi)
  have hp : 1 ≤ 8 ^ n:=Nat.one_le_pow _ _ (by decide)
  have hp2 : 8 ^ (n + 1) = 8 * 8 ^ n:=by rw [Nat.pow_succ]; omega
  obtain ⟨L,hL⟩ : ∃ L,8 ^ n = L:=⟨_,rfl⟩
  rw [hL] at ih hp hp2
  rw [hp2,xB_mk]
  clear hp2 hL hd hr
  by_cases q : kk = 1
  ·subst q
   unfold xF
   rw [if_pos rfl]
   have:=lit_len (v:=(v1,v2,v3)) (hw1 rfl).2.2.1
   omega
  by_cases q : kk = 2
  ·subst q
   unfold xF
   rw [if_neg (by decide),if_pos rfl]
   have:=name16 (hw2 rfl).2.1
   simp
   omega
  by_cases q : kk = 3
  ·subst q
   have ht : tt.size ≤ 16:=by
    rcases (hw3 rfl).1 with e | e
    ·rw [e]; decide
    ·exact name16 e
   have:=name16 (hw3 rfl).2.1
   unfold xF
   rw [if_neg (show ¬ (3 : Int) = 1 by decide),if_neg (show ¬ (3 : Int) = 2 by decide),if_pos rfl]
   split <;> simp <;> omega
  clear hw1 hw2 hw3
  have hf : (formK kk).2.2.2 ≤ 8:=by
   unfold formK
   split <;> (try split) <;> (try split) <;> (try split) <;> (try split) <;> (try split) <;> decide
  have hl8 : es.length ≤ 8:=Nat.le_trans l2 hf
  match es,hl8,ih with
  | [],_,_ =>
   unfold xF
   rw [if_neg (by omega),if_neg (by omega),if_neg (by omega)]
   simp
   omega
  | a :: ar,hl8,ih =>
   have ha:=ih a (by simp)
   have w1:=xwr_len 7 a (xB a)
   have w2:=xwr_len (if oo ≤ 2 then 5 else 6) a (xB a)
   have w3:=xwr_len 5 a (xB a)
   have w4:=xwr_len 3 a (xB a)
   have w5:=xwr_len 2 a (xB a)
   have r1:=xrow_len wAnd 3 (500 * L - 100) ar fun x hx => by have:=ih x (by simp [hx]); omega
   have r2:=xrow_len wOr 2 (500 * L - 100) ar fun x hx => by have:=ih x (by simp [hx]); omega
   have hlr : ar.length ≤ 7:=by simpa using hl8
   have m1 : ar.length * (500 * L - 100 + wAnd.length + 4) ≤ 7 * (500 * L - 100 + wAnd.length + 4):=Nat.mul_le_mul_right _ hlr
   have m2 : ar.length * (500 * L - 100 + wOr.length + 4) ≤ 7 * (500 * L - 100 + wOr.length + 4):=Nat.mul_le_mul_right _ hlr
   have g1 : wAnd.length = 3:=rfl
   have g2 : wOr.length = 2:=rfl
   have g3 : (ariS oo).length ≤ 2:=by unfold ariS; split <;> (try split) <;> (try split) <;> (try split) <;> decide
   have g4 : (cmpS oo).length ≤ 2:=by unfold cmpS; split <;> (try split) <;> (try split) <;> (try split) <;> (try split) <;> decide
   unfold xF
   rw [if_neg (by omega),if_neg (by omega),if_neg (by omega)]
   simp only [List.map_cons]
   split
   ·split <;> simp only [List.length_cons] <;> omega
   split
   ·cases ar with
    | nil =>
     simp only [List.length_cons,List.length_append,List.length_nil]
     omega
    | cons b l =>
     have hb:=ih b (by simp)
     have:=xwr_len (if oo ≤ 2 then 6 else 7) b (xB b)
     simp only [List.map_cons,List.length_cons,List.length_append]
     omega
   split
   ·cases ar with
    | nil =>
     simp only [List.length_cons,List.length_append,List.length_nil]
     omega
    | cons b l =>
     have hb:=ih b (by simp)
     have:=xwr_len 5 b (xB b)
     simp only [List.map_cons,List.length_cons,List.length_append]
     omega
   split
   ·split <;> simp [wIs,wNot,wNull] <;> omega
   split
   ·simp [wNot]
    omega
   split
   ·simp only [List.length_append]
    omega
   ·simp only [List.length_append]
    omega

def RP (x : List UInt8) (w : World) (e : Ending) (w' : World) : Prop:=∃ s : ByteArray,e = .returned (.string s) ∧ s.data.toList = x ∧ Below w.heap.size w w'

theorem rrank_any (kk oo v1 v2 : Int) (v3 tt nn : ByteArray) (ks : List Ex) (pp : Int) (a : Option Addr) (m c : Nat) (w : World) : Calls Tryz.prog 111 #[.agg #[.int .i64 kk,.int .i64 oo,.int .i64 v1,.int .i64 v2,.string v3,.string tt,.string nn,.slice a m c,.int .i64 pp]] w fun e w' => e = .returned (.int .i64 (rankX (.mk kk oo (v1,v2,v3) tt nn ks pp) : Int)) ∧ Below w.heap.size w w':=by
 obtain ⟨r,hr⟩ : ∃ r,rankX (.mk kk oo (v1,v2,v3) tt nn ks pp) = r:=⟨_,rfl⟩
 rw [hr]
 replace hr : (if kk = 10 then 1 else if kk = 9 then 2 else if kk = 8 then 3 else if kk = 6 ∨ kk = 7 then 4 else if kk = 5 then (if oo ≤ 2 then 5 else 6) else 7) = r:=hr
 obtain ⟨W,hW⟩ : ∃ W,w.alloc (.cells #[.int .i64 kk,.int .i64 oo,.int .i64 v1,.int .i64 v2,.string v3,.string tt,.string nn,.slice a m c,.int .i64 pp] 49) = W:=⟨_,rfl⟩
 have hb : Below w.heap.size w W:=hW ▸ (Below.refl _ _).alloc (Nat.le_refl _) _
 have hn : W.heap[w.heap.size]? = some (.cells #[.int .i64 kk,.int .i64 oo,.int .i64 v1,.int .i64 v2,.string v3,.string tt,.string nn,.slice a m c,.int .i64 pp] 49 (0,0)):=hW ▸ heap_alloc_new w _
 have HB:=Lib.hid hb
 obtain ⟨⟨y0,y1,y2,y3,y4,y5,y6,y7,y8⟩,-⟩:=nine_of hn
 clear hb hn
 by_cases q10 : kk = 10
 ·subst q10
  rw [if_pos rfl] at hr
  subst hr
  go_enter Tryz.func111,Tryz.ntmps111
  go_wp2
  exact bodyPost_ret (v:=.int .i64 1) (by simp [results,Tryz.results111,go_sem]) rfl ⟨rfl,by (try rw [hW]); exact HB.out⟩
 by_cases q9 : kk = 9
 ·subst q9
  rw [if_neg (by decide),if_pos rfl] at hr
  clear q10
  subst hr
  go_enter Tryz.func111,Tryz.ntmps111
  go_wp2
  exact bodyPost_ret (v:=.int .i64 2) (by simp [results,Tryz.results111,go_sem]) rfl ⟨rfl,by (try rw [hW]); exact HB.out⟩
 by_cases q8 : kk = 8
 ·subst q8
  rw [if_neg (by decide),if_neg (by decide),if_pos rfl] at hr
  clear q10 q9
  subst hr
  go_enter Tryz.func111,Tryz.ntmps111
  go_wp2
  exact bodyPost_ret (v:=.int .i64 3) (by simp [results,Tryz.results111,go_sem]) rfl ⟨rfl,by (try rw [hW]); exact HB.out⟩
 by_cases q6 : kk = 6
 ·subst q6
  rw [if_neg (by decide),if_neg (by decide),if_neg (by decide),if_pos (by decide)] at hr
  clear q10 q9 q8
  subst hr
  go_enter Tryz.func111,Tryz.ntmps111
  go_wp2
  exact bodyPost_ret (v:=.int .i64 4) (by simp [results,Tryz.results111,go_sem]) rfl ⟨rfl,by (try rw [hW]); exact HB.out⟩
 by_cases q7 : kk = 7
 ·subst q7
  rw [if_neg (by decide),if_neg (by decide),if_neg (by decide),if_pos (by decide)] at hr
  clear q10 q9 q8 q6
  subst hr
  go_enter Tryz.func111,Tryz.ntmps111
  go_wp2
  exact bodyPost_ret (v:=.int .i64 4) (by simp [results,Tryz.results111,go_sem]) rfl ⟨rfl,by (try rw [hW]); exact HB.out⟩
 by_cases q5 : kk = 5
 ·subst q5
  rw [if_neg (by decide),if_neg (by decide),if_neg (by decide),if_neg (by decide),if_pos rfl] at hr
  clear q10 q9 q8 q6 q7
  by_cases o2 : oo ≤ 2
  ·rw [if_pos o2] at hr
   subst hr
   go_enter Tryz.func111,Tryz.ntmps111
   go_wp2
   exact bodyPost_ret (v:=.int .i64 5) (by simp [results,Tryz.results111,go_sem]) rfl ⟨rfl,by (try rw [hW]); exact HB.out⟩
  ·rw [if_neg o2] at hr
   subst hr
   go_enter Tryz.func111,Tryz.ntmps111
   go_wp2
   exact bodyPost_ret (v:=.int .i64 6) (by simp [results,Tryz.results111,go_sem]) rfl ⟨rfl,by (try rw [hW]); exact HB.out⟩
 rw [if_neg q10,if_neg q9,if_neg q8,if_neg (by omega),if_neg q5] at hr
 have n10 : (kk == 10) = false:=by simp; omega
 have n9 : (kk == 9) = false:=by simp; omega
 have n8 : (kk == 8) = false:=by simp; omega
 have n6 : (kk == 6) = false:=by simp; omega
 have n7 : (kk == 7) = false:=by simp; omega
 have n5 : (kk == 5) = false:=by simp; omega
 clear q10 q9 q8 q6 q7 q5
 subst hr
 go_enter Tryz.func111,Tryz.ntmps111
 go_wp2
 exact bodyPost_ret (v:=.int .i64 7) (by simp [results,Tryz.results111,go_sem]) rfl ⟨rfl,by (try rw [hW]); exact HB.out⟩

theorem rkid_w (kk oo v1 v2 : Int) (v3 tt nn : ByteArray) (a : Option Addr) (m c : Nat) (pp : Int) (need r : Nat) (w : World) (x : List UInt8) (hx : x.length ≤ 1000000000000000000) (hE : ∀ W,Below w.heap.size w W → Calls Tryz.prog 50 #[.agg #[.int .i64 kk,.int .i64 oo,.int .i64 v1,.int .i64 v2,.string v3,.string tt,.string nn,.slice a m c,.int .i64 pp]] W (RP x W)) (hR : ∀ W,Calls Tryz.prog 111 #[.agg #[.int .i64 kk,.int .i64 oo,.int .i64 v1,.int .i64 v2,.string v3,.string tt,.string nn,.slice a m c,.int .i64 pp]] W fun e w' => e = .returned (.int .i64 (r : Int)) ∧ Below W.heap.size W w') : Calls Tryz.prog 82 #[.agg #[.int .i64 kk,.int .i64 oo,.int .i64 v1,.int .i64 v2,.string v3,.string tt,.string nn,.slice a m c,.int .i64 pp],.int .i64 (need : Int)] w (RP (if r < need then 40 :: (x ++ [41]) else x) w):=by
 have HE:=Lib.hid hE
 have HR:=Lib.hid hR
 clear hE hR
 obtain ⟨W1,hW1⟩ : ∃ W,w.alloc (.cells #[.int .i64 kk,.int .i64 oo,.int .i64 v1,.int .i64 v2,.string v3,.string tt,.string nn,.slice a m c,.int .i64 pp] 49) = W:=⟨_,rfl⟩
 have HB1 : Hid (Below w.heap.size w W1):=Lib.hid (hW1 ▸ (Below.refl _ _).alloc (Nat.le_refl _) _)
 have HN1 : Hid (W1.heap[w.heap.size]? = some (.cells #[.int .i64 kk,.int .i64 oo,.int .i64 v1,.int .i64 v2,.string v3,.string tt,.string nn,.slice a m c,.int .i64 pp] 49 (0,0))):=Lib.hid (hW1 ▸ heap_alloc_new w _)
 obtain ⟨⟨y0,y1,y2,y3,y4,y5,y6,y7,y8⟩,-⟩:=nine_of HN1.out
 by_cases g : r < need
 ·rw [if_pos g]
  have gi : (r : Int) < (need : Int):=by omega
  clear g
  go_enter Tryz.func82,Tryz.ntmps82
  go_wp2_with fail
  clear hW1
  refine (HE.out _ HB1.out).mono ?_
  rintro e w2 ⟨s,rfl,hs,hb⟩
  have e1 : s.data.toList.length = s.size:=by simp
  have hss : s.size ≤ 1000000000000000000:=by rw [← e1,hs]; exact hx
  clear e1
  have HS:=Lib.hid hs
  have HB2:=Hbt HB1 hb
  have HN2:=Hbk hb HN1
  clear hb hs HN1 y0 y1 y2 y3 y4 y5 y6 y7 y8
  obtain ⟨⟨y0,y1,y2,y3,y4,y5,y6,y7,y8⟩,-⟩:=nine_of HN2.out
  go_wp2_with (first | (go_at_call 111; refine (HR.out _).mono ?_; rintro e w3 ⟨rfl,hb⟩; (have HB3:=Hbt HB2 hb); clear hb))
  have HT : Hid (((⟨#[40]⟩ : ByteArray) ++ s ++ ⟨#[41]⟩).data.toList = 40 :: (x ++ [41])):=by
   show _ = _
   rw [← HS.out]
   simp
  exact bodyPost_ret (v:=.string ((⟨#[40]⟩ : ByteArray) ++ s ++ ⟨#[41]⟩)) (by simp [results,Tryz.results82,go_sem]) rfl ⟨_,rfl,HT.out,HB3.out⟩
 ·rw [if_neg g]
  have gi : ¬ ((r : Int) < (need : Int)):=by omega
  clear g
  go_enter Tryz.func82,Tryz.ntmps82
  go_wp2_with fail
  clear hW1
  refine (HE.out _ HB1.out).mono ?_
  rintro e w2 ⟨s,rfl,hs,hb⟩
  have e1 : s.data.toList.length = s.size:=by simp
  have hss : s.size ≤ 1000000000000000000:=by rw [← e1,hs]; exact hx
  clear e1
  have HS:=Lib.hid hs
  have HB2:=Hbt HB1 hb
  have HN2:=Hbk hb HN1
  clear hb hs HN1 y0 y1 y2 y3 y4 y5 y6 y7 y8
  obtain ⟨⟨y0,y1,y2,y3,y4,y5,y6,y7,y8⟩,-⟩:=nine_of HN2.out
  go_wp2_with (first | (go_at_call 111; refine (HR.out _).mono ?_; rintro e w3 ⟨rfl,hb⟩; (have HB3:=Hbt HB2 hb); clear hb))
  exact bodyPost_ret (v:=.string s) (by simp [results,Tryz.results82,go_sem]) rfl ⟨_,rfl,HS.out,HB3.out⟩

theorem rsign_5 (op : Int) (h1 : 1 ≤ op) (h2 : op ≤ 5) (w : World) : Calls Tryz.prog 114 #[.int .i64 5,.int .i64 op] w (RP (ariS op) w):=by
 obtain ⟨W,hW⟩ : ∃ W,w.alloc (.cells #[.string ⟨#[]⟩,.string ⟨#[43]⟩,.string ⟨#[45]⟩,.string ⟨#[42]⟩,.string ⟨#[47]⟩,.string ⟨#[37]⟩] 9) = W:=⟨_,rfl⟩
 have HB : Hid (Below w.heap.size w W):=Lib.hid (hW ▸ (Below.refl _ _).alloc (Nat.le_refl _) _)
 have hn : W.heap[w.heap.size]? = some (.cells #[.string ⟨#[]⟩,.string ⟨#[43]⟩,.string ⟨#[45]⟩,.string ⟨#[42]⟩,.string ⟨#[47]⟩,.string ⟨#[37]⟩] 9 (0,0)):=hW ▸ heap_alloc_new w _
 have hop : op = 1 ∨ op = 2 ∨ op = 3 ∨ op = 4 ∨ op = 5:=by omega
 rcases hop with rfl | rfl | rfl | rfl | rfl
 ·have c0 : W.cell? ⟨w.heap.size,1,none⟩ = some (.string ⟨#[43]⟩):=by simp [World.cell?,hn]
  clear hn h1 h2
  go_enter Tryz.func114,Tryz.ntmps114
  go_wp2
  exact bodyPost_ret (v:=.string ⟨#[43]⟩) (by simp [results,Tryz.results114,go_sem]) rfl ⟨_,rfl,rfl,by (try rw [hW]); exact HB.out⟩
 ·have c1 : W.cell? ⟨w.heap.size,2,none⟩ = some (.string ⟨#[45]⟩):=by simp [World.cell?,hn]
  clear hn h1 h2
  go_enter Tryz.func114,Tryz.ntmps114
  go_wp2
  exact bodyPost_ret (v:=.string ⟨#[45]⟩) (by simp [results,Tryz.results114,go_sem]) rfl ⟨_,rfl,rfl,by (try rw [hW]); exact HB.out⟩
 ·have c2 : W.cell? ⟨w.heap.size,3,none⟩ = some (.string ⟨#[42]⟩):=by simp [World.cell?,hn]
  clear hn h1 h2
  go_enter Tryz.func114,Tryz.ntmps114
  go_wp2
  exact bodyPost_ret (v:=.string ⟨#[42]⟩) (by simp [results,Tryz.results114,go_sem]) rfl ⟨_,rfl,rfl,by (try rw [hW]); exact HB.out⟩
 ·have c3 : W.cell? ⟨w.heap.size,4,none⟩ = some (.string ⟨#[47]⟩):=by simp [World.cell?,hn]
  clear hn h1 h2
  go_enter Tryz.func114,Tryz.ntmps114
  go_wp2
  exact bodyPost_ret (v:=.string ⟨#[47]⟩) (by simp [results,Tryz.results114,go_sem]) rfl ⟨_,rfl,rfl,by (try rw [hW]); exact HB.out⟩
 ·have c4 : W.cell? ⟨w.heap.size,5,none⟩ = some (.string ⟨#[37]⟩):=by simp [World.cell?,hn]
  clear hn h1 h2
  go_enter Tryz.func114,Tryz.ntmps114
  go_wp2
  exact bodyPost_ret (v:=.string ⟨#[37]⟩) (by simp [results,Tryz.results114,go_sem]) rfl ⟨_,rfl,rfl,by (try rw [hW]); exact HB.out⟩

theorem rsign_6 (op : Int) (h1 : 1 ≤ op) (h2 : op ≤ 6) (w : World) : Calls Tryz.prog 114 #[.int .i64 6,.int .i64 op] w (RP (cmpS op) w):=by
 obtain ⟨W,hW⟩ : ∃ W,w.alloc (.cells #[.string ⟨#[]⟩,.string ⟨#[61]⟩,.string ⟨#[60,62]⟩,.string ⟨#[60]⟩,.string ⟨#[60,61]⟩,.string ⟨#[62]⟩,.string ⟨#[62,61]⟩] 9) = W:=⟨_,rfl⟩
 have HB : Hid (Below w.heap.size w W):=Lib.hid (hW ▸ (Below.refl _ _).alloc (Nat.le_refl _) _)
 have hn : W.heap[w.heap.size]? = some (.cells #[.string ⟨#[]⟩,.string ⟨#[61]⟩,.string ⟨#[60,62]⟩,.string ⟨#[60]⟩,.string ⟨#[60,61]⟩,.string ⟨#[62]⟩,.string ⟨#[62,61]⟩] 9 (0,0)):=hW ▸ heap_alloc_new w _
 have hop : op = 1 ∨ op = 2 ∨ op = 3 ∨ op = 4 ∨ op = 5 ∨ op = 6:=by omega
 rcases hop with rfl | rfl | rfl | rfl | rfl | rfl
 ·have c0 : W.cell? ⟨w.heap.size,1,none⟩ = some (.string ⟨#[61]⟩):=by simp [World.cell?,hn]
  clear hn h1 h2
  go_enter Tryz.func114,Tryz.ntmps114
  go_wp2
  exact bodyPost_ret (v:=.string ⟨#[61]⟩) (by simp [results,Tryz.results114,go_sem]) rfl ⟨_,rfl,rfl,by (try rw [hW]); exact HB.out⟩
 ·have c1 : W.cell? ⟨w.heap.size,2,none⟩ = some (.string ⟨#[60,62]⟩):=by simp [World.cell?,hn]
  clear hn h1 h2
  go_enter Tryz.func114,Tryz.ntmps114
  go_wp2
  exact bodyPost_ret (v:=.string ⟨#[60,62]⟩) (by simp [results,Tryz.results114,go_sem]) rfl ⟨_,rfl,rfl,by (try rw [hW]); exact HB.out⟩
 ·have c2 : W.cell? ⟨w.heap.size,3,none⟩ = some (.string ⟨#[60]⟩):=by simp [World.cell?,hn]
  clear hn h1 h2
  go_enter Tryz.func114,Tryz.ntmps114
  go_wp2
  exact bodyPost_ret (v:=.string ⟨#[60]⟩) (by simp [results,Tryz.results114,go_sem]) rfl ⟨_,rfl,rfl,by (try rw [hW]); exact HB.out⟩
 ·have c3 : W.cell? ⟨w.heap.size,4,none⟩ = some (.string ⟨#[60,61]⟩):=by simp [World.cell?,hn]
  clear hn h1 h2
  go_enter Tryz.func114,Tryz.ntmps114
  go_wp2
  exact bodyPost_ret (v:=.string ⟨#[60,61]⟩) (by simp [results,Tryz.results114,go_sem]) rfl ⟨_,rfl,rfl,by (try rw [hW]); exact HB.out⟩
 ·have c4 : W.cell? ⟨w.heap.size,5,none⟩ = some (.string ⟨#[62]⟩):=by simp [World.cell?,hn]
  clear hn h1 h2
  go_enter Tryz.func114,Tryz.ntmps114
  go_wp2
  exact bodyPost_ret (v:=.string ⟨#[62]⟩) (by simp [results,Tryz.results114,go_sem]) rfl ⟨_,rfl,rfl,by (try rw [hW]); exact HB.out⟩
 ·have c5 : W.cell? ⟨w.heap.size,6,none⟩ = some (.string ⟨#[62,61]⟩):=by simp [World.cell?,hn]
  clear hn h1 h2
  go_enter Tryz.func114,Tryz.ntmps114
  go_wp2
  exact bodyPost_ret (v:=.string ⟨#[62,61]⟩) (by simp [results,Tryz.results114,go_sem]) rfl ⟨_,rfl,rfl,by (try rw [hW]); exact HB.out⟩

theorem rrow_any (w : World) (wd : ByteArray) (hwd : wd.size ≤ 64) (es : List Ex) (a : Option Addr) (cap : Nat) (ks : List Value) (hlk : es.length = ks.length) (hr : XRow w a es ks) (hs : ∀ i (h' : i < ks.length),∃ p m c,ks[i] = .slice p m c) (hlen : es.length ≤ 16) (need : Nat) (f : Ex → List UInt8) (L : Nat) (hL : L ≤ 200000000000000000) (hf : ∀ e ∈ es,(f e).length ≤ L) (hC : ∀ k (h : k < es.length) (h' : k < ks.length) (W : World),Below w.heap.size w W → Calls Tryz.prog 82 #[.agg (exC es[k] ks[k]).toArray,.int .i64 (need : Int)] W (RP (f es[k]) W)) : Calls Tryz.prog 49 #[.slice a es.length cap,.string wd,.int .i64 (need : Int)] w (RP (laid [] wd.data.toList f es) w):=by
 have HR:=Lib.hid hr
 have HC:=Lib.hid hC
 have HLK:=Lib.hid hlk
 have HS:=Lib.hid hs
 have HF:=Lib.hid hf
 clear hr hC hlk hs hf
 go_enter Tryz.func49,Tryz.ntmps49
 go_wp2
 go_loopw [7,8] (fun v i wr => ∃ (k : Nat) (s : ByteArray),k ≤ es.length ∧ v = .string s ∧ i = .int .i64 (k : Int) ∧ s.data.toList = laid [] wd.data.toList f (es.take k) ∧ s.size ≤ k * (L + 64) ∧ Below w.heap.size w wr) (fun _ i _ => es.length - (intOf i).toNat)
 case atStart => exact ⟨0,⟨#[]⟩,Nat.zero_le _,rfl,rfl,by simp [laid],by show 0 ≤ _; omega,Below.refl _ _⟩
 case round =>
  obtain ⟨k,s,hk,rfl,rfl,hst,hsz,hb⟩:=hrel
  have HST:=Lib.hid hst
  have HB:=Lib.hid hb
  have hmk : k * (L + 64) ≤ 16 * (L + 64):=Nat.mul_le_mul_right _ (by omega)
  have hs1 : s.size ≤ 4000000000000000000:=by omega
  have HSZ:=Lib.hid hsz
  clear hst hb hmk hsz
  by_cases hlt : k < es.length
  ·have hlti : (k : Int) < (es.length : Int):=by omega
   have hlt' : k < ks.length:=by rw [← HLK.out]; exact hlt
   obtain ⟨b,off,rfl,hcs⟩:=HR.out k hlt hlt'
   obtain ⟨a2,m2,c2,hks⟩:=HS.out k hlt'
   have hCk:=HC.out k hlt hlt'
   have hfl:=HF.out es[k] (List.getElem_mem hlt)
   rw [hks] at hcs hCk
   obtain ⟨x,hx⟩ : ∃ x,es[k] = x:=⟨_,rfl⟩
   rw [hx] at hcs hCk hfl
   have HFT:=Lib.hid (laid_take [] wd.data.toList f es k hlt)
   rw [hx] at HFT
   clear hx hks
   obtain ⟨y,hy⟩ : ∃ y,f x = y:=⟨_,rfl⟩
   rw [hy] at HFT hCk hfl
   clear hy
   obtain ⟨kk,oo,⟨v1,v2,v3⟩,tt,nn,ks2,pp⟩:=x
   simp only [exC] at hCk
   have HCk:=Lib.hid hCk
   have HCS : Hid (∀ j u,[.int .i64 kk,.int .i64 oo,.int .i64 v1,.int .i64 v2,.string v3,.string tt,.string nn,.slice a2 m2 c2,.int .i64 pp][j]? = some u → w.cell? ⟨b,off + k * 9 + j,none⟩ = some u):=hcs
   clear hcs hCk
   have q0:=Cl HB.out (HCS.out 0 _ rfl)
   have q1:=Cl HB.out (HCS.out 1 _ rfl)
   have q2:=Cl HB.out (HCS.out 2 _ rfl)
   have q3:=Cl HB.out (HCS.out 3 _ rfl)
   have q4:=Cl HB.out (HCS.out 4 _ rfl)
   have q5:=Cl HB.out (HCS.out 5 _ rfl)
   have q6:=Cl HB.out (HCS.out 6 _ rfl)
   have q7:=Cl HB.out (HCS.out 7 _ rfl)
   have q8:=Cl HB.out (HCS.out 8 _ rfl)
   simp only [Nat.add_zero] at q0
   by_cases k0 : k = 0
   ·have kz : ¬ (0 : Int) < (k : Int):=by omega
    have HK0:=Lib.hid k0
    clear k0
    go_wp2_with fail
    refine (HCk.out _ HB.out).mono ?_
    rintro e w2 ⟨s2,rfl,hs2,hb2⟩
    have e2 : s2.data.toList.length = s2.size:=by simp
    have hz2 : s2.size ≤ L:=by rw [← e2,hs2]; exact hfl
    have HS2:=Lib.hid hs2
    have HB2:=Hbt HB hb2
    clear hb2 hs2 e2 q0 q1 q2 q3 q4 q5 q6 q7 q8
    go_wp2
    go_roundw
    case rel => exact ⟨k + 1,s ++ s2,by omega,rfl,by go_num,by rw [HFT.out,if_pos HK0.out,← HST.out,← HS2.out]; simp,by have:=HSZ.out; rw [Nat.succ_mul]; simp; omega,HB2.out⟩
    case measure => simp [intOf]; omega
   ·have kz : (0 : Int) < (k : Int):=by omega
    have HK0:=Lib.hid k0
    clear k0
    go_wp2_with fail
    refine (HCk.out _ HB.out).mono ?_
    rintro e w2 ⟨s2,rfl,hs2,hb2⟩
    have e2 : s2.data.toList.length = s2.size:=by simp
    have hz2 : s2.size ≤ L:=by rw [← e2,hs2]; exact hfl
    have HS2:=Lib.hid hs2
    have HB2:=Hbt HB hb2
    clear hb2 hs2 e2 q0 q1 q2 q3 q4 q5 q6 q7 q8
    go_wp2
    go_roundw
    case rel => exact ⟨k + 1,s ++ wd ++ s2,by omega,rfl,by go_num,by rw [HFT.out,if_neg HK0.out,← HST.out,← HS2.out]; simp,by have:=HSZ.out; rw [Nat.succ_mul]; simp; omega,HB2.out⟩
    case measure => simp [intOf]; omega
  ·have hk' : k = es.length:=by omega
   subst hk'
   have HT : Hid (s.data.toList = laid [] wd.data.toList f es):=by
    show _ = _
    rw [HST.out,List.take_length]
   clear HST
   go_wp2
   exact bodyPost_ret (v:=.string s) (by simp [results,Tryz.results49,go_sem]) rfl ⟨_,rfl,HT.out,HB.out⟩

def RC (n : Nat) : Prop:=∀ (e : Ex),dpr n e = false → RtE e → ∀ (w : World) (k : Value),XR w e k → Calls Tryz.prog 50 #[.agg (exC e k).toArray] w (RP (xB e) w)

theorem xE_len {n : Nat} (hn : n ≤ 16) {e : Ex} (hd : dpr n e = false) (hr : RtE e) (need : Nat) : (xE need e).length ≤ 200000000000000000:=by
 have h1:=xB_len n e hd hr
 have h2:=xwr_len need e (xB e)
 have h3 : 8 ^ n ≤ 8 ^ 16:=Nat.pow_le_pow_right (by decide) hn
 have h4 : (8 : Nat) ^ 16 = 281474976710656:=by decide
 unfold xE
 omega

theorem rkids_use {n : Nat} (hx : RC n) (hn : n ≤ 16) {kk oo : Int} {v : V3} {tt nn : ByteArray} {es : List Ex} {pp : Int} {w : World} {k : Value} (h : XR w (.mk kk oo v tt nn es pp) k) (h0 : 0 < es.length) (hd : ∀ i (h : i < es.length),dpr n es[i] = false ∧ RtE es[i]) :
  ∃ b off c,k = .slice (some ⟨b,off,none⟩) es.length c ∧ ∀ i (hi : i < es.length),∃ k1 o1 x1 x2 x3 t1 n1 a1 m1 c1 p1,kindOf es[i] = k1 ∧ (∀ j u,[.int .i64 k1,.int .i64 o1,.int .i64 x1,.int .i64 x2,.string x3,.string t1,.string n1,.slice a1 m1 c1,.int .i64 p1][j]? = some u → w.cell? ⟨b,off + i * 9 + j,none⟩ = some u) ∧
  ∀ (need : Nat) (W : World),Below w.heap.size w W → Calls Tryz.prog 82 #[.agg #[.int .i64 k1,.int .i64 o1,.int .i64 x1,.int .i64 x2,.string x3,.string t1,.string n1,.slice a1 m1 c1,.int .i64 p1],.int .i64 (need : Int)] W (RP (xE need es[i]) W):=by
 cases h with
 | mk ks h1 hc hm h2 h3 =>
  obtain ⟨b,off,rfl,-⟩:=h2 0 h0 (by omega)
  refine ⟨b,off,_,rfl,fun i hi => ?_⟩
  have hi' : i < ks.length:=by omega
  obtain ⟨b2,off2,e2,hcs⟩:=h2 i hi hi'
  injection e2 with e2
  injection e2 with e4 e5 _
  subst e4 e5
  have hxr:=h3 i hi hi'
  obtain ⟨a1,m1,c1,hk⟩:=hxr.slice
  have hu:=fun W (hb : Below w.heap.size w W) => hx es[i] (hd i hi).1 (hd i hi).2 W ks[i] (hxr.later hb)
  have hl:=xE_len hn (hd i hi).1 (hd i hi).2 1
  rw [xE_one] at hl
  rw [hk] at hcs hu
  obtain ⟨⟨k1,o1,⟨x1,x2,x3⟩,t1,n1,ks1,p1⟩,he⟩ : ∃ x,es[i] = x:=⟨_,rfl⟩
  rw [he] at hcs hu hl ⊢
  refine ⟨k1,o1,x1,x2,x3,t1,n1,a1,m1,c1,p1,rfl,hcs,fun need W hW => ?_⟩
  exact rkid_w k1 o1 x1 x2 x3 t1 n1 a1 m1 c1 p1 need _ W _ (by omega) (fun W2 h2 => hu W2 (hW.trans (h2.mono hW.size))) (rrank_any k1 o1 x1 x2 x3 t1 n1 ks1 p1 a1 m1 c1)

theorem rtwo_5 {n : Nat} (hX : RC n) (hn : n ≤ 16) (w : World) (oo v1 v2 : Int) (h1 : 1 ≤ oo) (h2 : oo ≤ 5) (v3 tt nn : ByteArray) (es : List Ex) (pp : Int) (k : Value) (hxr : XR w (.mk 5 oo (v1,v2,v3) tt nn es pp) k) (hl2 : es.length = 2) (hd : ∀ i (h : i < es.length),dpr n es[i] = false ∧ RtE es[i]) (r : Nat) (hr : (if oo ≤ 2 then 5 else 6) = r) : Calls Tryz.prog 84 #[.agg (exC (.mk 5 oo (v1,v2,v3) tt nn es pp) k).toArray] w (RP (xE r es[0] ++ (32 : UInt8) :: (ariS oo ++ (32 : UInt8) :: xE (r + 1) es[1])) w):=by
 obtain ⟨b,off,c,rfl,hu⟩:=rkids_use hX hn hxr (by omega) hd
 have hb0:=xE_len hn (hd 0 (by omega)).1 (hd 0 (by omega)).2 r
 have hb1:=xE_len hn (hd 1 (by omega)).1 (hd 1 (by omega)).2 (r + 1)
 simp only [exC,hl2]
 have HU:=Lib.hid hu
 obtain ⟨z0,hz0⟩ : ∃ z,es[0] = z:=⟨_,rfl⟩
 obtain ⟨z9,hz9⟩ : ∃ z,es[1] = z:=⟨_,rfl⟩
 rw [hz0] at hb0 ⊢
 rw [hz9] at hb1 ⊢
 have HZ0:=Lib.hid hz0
 have HZ9:=Lib.hid hz9
 have HRK:=Lib.hid (rrank_any 5 oo v1 v2 v3 tt nn es pp (some ⟨b,off,none⟩) 2 c)
 rw [show rankX (.mk 5 oo (v1,v2,v3) tt nn es pp) = r from hr] at HRK
 have HWR : Hid (IntKind.i64.wrap ((r : Int) + 1) = ((r + 1 : Nat) : Int)):=by
  show _ = _
  have h56 : r = 5 ∨ r = 6:=by rw [← hr]; split <;> simp
  rcases h56 with rfl | rfl <;> rfl
 have hr6 : r ≤ 6:=by rw [← hr]; split <;> decide
 clear hr
 clear hu hxr hd hX hz0 hz9
 have hsg : (ariS oo).length ≤ 300000000000000000:=by
  have : (ariS oo).length ≤ 2:=by unfold ariS; split <;> (try split) <;> (try split) <;> (try split) <;> (try split) <;> decide
  omega
 obtain ⟨W1,hW1⟩ : ∃ W,w.alloc (.cells #[.int .i64 5,.int .i64 oo,.int .i64 v1,.int .i64 v2,.string v3,.string tt,.string nn,.slice (some ⟨b,off,none⟩) 2 c,.int .i64 pp] 49) = W:=⟨_,rfl⟩
 have HB1 : Hid (Below w.heap.size w W1):=Lib.hid (hW1 ▸ (Below.refl _ _).alloc (Nat.le_refl _) _)
 have HN1 : Hid (W1.heap[w.heap.size]? = some (.cells #[.int .i64 5,.int .i64 oo,.int .i64 v1,.int .i64 v2,.string v3,.string tt,.string nn,.slice (some ⟨b,off,none⟩) 2 c,.int .i64 pp] 49 (0,0))):=Lib.hid (hW1 ▸ heap_alloc_new w _)
 have z1:=nine_of HN1.out
 obtain ⟨k1,o1,x1,x2,x3,t1,n1,a1,m1,c1,p1,-,hc,hu⟩:=HU.out 0 (by omega)
 have HX:=Lib.hid (hu r)
 have HCS:=Lib.hid hc
 rw [HZ0.out] at HX
 clear hc hu
 go_enter Tryz.func84,Tryz.ntmps84
 go_wp2_with (first | (go_at_call 111; refine (HRK.out _).mono ?_; rintro e w2 ⟨rfl,hb⟩; (have HB2:=Hbt HB1 hb); (have HN2:=Hbk hb HN1); clear hb z1; (have z1:=nine_of HN2.out); (have q0:=Cl HB2.out (HCS.out 0 _ rfl)); (have q1:=Cl HB2.out (HCS.out 1 _ rfl)); (have q2:=Cl HB2.out (HCS.out 2 _ rfl)); (have q3:=Cl HB2.out (HCS.out 3 _ rfl)); (have q4:=Cl HB2.out (HCS.out 4 _ rfl)); (have q5:=Cl HB2.out (HCS.out 5 _ rfl)); (have q6:=Cl HB2.out (HCS.out 6 _ rfl)); (have q7:=Cl HB2.out (HCS.out 7 _ rfl)); (have q8:=Cl HB2.out (HCS.out 8 _ rfl)); (simp only [Nat.zero_mul,Nat.add_zero] at q0 q1 q2 q3 q4 q5 q6 q7 q8)))
 try rw [HWR.out]
 clear hW1 HN1
 refine (HX.out _ HB2.out).mono ?_
 rintro e w3 ⟨s0,rfl,hs,hb⟩
 have HS0:=Lib.hid hs
 have HB3:=Hbt HB2 hb
 have HN3:=Hbk hb HN2
 have e1 : s0.data.toList.length = s0.size:=by simp
 have hzs0 : s0.size ≤ 300000000000000000:=by rw [← e1,hs]; omega
 clear e1 hb hs z1 HN2 HX HCS q0 q1 q2 q3 q4 q5 q6 q7 q8
 have z1:=nine_of HN3.out
 obtain ⟨k1,o1,x1,x2,x3,t1,n1,a1,m1,c1,p1,hkk,hc,hu⟩:=HU.out 1 (by omega)
 have HX:=Lib.hid (hu (r + 1))
 have HCS:=Lib.hid hc
 have q0:=Cl HB3.out (HCS.out 0 _ rfl)
 have q1:=Cl HB3.out (HCS.out 1 _ rfl)
 have q2:=Cl HB3.out (HCS.out 2 _ rfl)
 have q3:=Cl HB3.out (HCS.out 3 _ rfl)
 have q4:=Cl HB3.out (HCS.out 4 _ rfl)
 have q5:=Cl HB3.out (HCS.out 5 _ rfl)
 have q6:=Cl HB3.out (HCS.out 6 _ rfl)
 have q7:=Cl HB3.out (HCS.out 7 _ rfl)
 have q8:=Cl HB3.out (HCS.out 8 _ rfl)
 simp only [Nat.one_mul,Nat.add_zero] at q0 q1 q2 q3 q4 q5 q6 q7 q8
 clear hc hu
 rw [HZ9.out] at HX
 clear hkk
 go_wp2_with fail
 refine (HX.out _ HB3.out).mono ?_
 rintro e w4 ⟨s1,rfl,hs,hb⟩
 have HS1:=Lib.hid hs
 have HB4:=Hbt HB3 hb
 have HN4:=Hbk hb HN3
 have e1 : s1.data.toList.length = s1.size:=by simp
 have hzs1 : s1.size ≤ 300000000000000000:=by rw [← e1,hs]; exact (by omega)
 clear e1
 clear hb hs z1 HN3 q0 q1 q2 q3 q4 q5 q6 q7 q8 HX HCS
 have z1:=nine_of HN4.out
 go_wp2_with fail
 refine (rsign_5 oo h1 h2 _).mono ?_
 rintro e w5 ⟨s2,rfl,hs,hb⟩
 have HS2:=Lib.hid hs
 have HB5:=Hbt HB4 hb
 have HN5:=Hbk hb HN4
 have e1 : s2.data.toList.length = s2.size:=by simp
 have hzs2 : s2.size ≤ 300000000000000000:=by rw [← e1,hs]; exact hsg
 clear e1
 clear hb hs z1 HN4
 have z1:=nine_of HN5.out
 have HT : Hid ((s0 ++ (⟨#[32]⟩ : ByteArray) ++ s2 ++ ⟨#[32]⟩ ++ s1 : ByteArray).data.toList = xE r z0 ++ (32 : UInt8) :: (ariS oo ++ (32 : UInt8) :: xE (r + 1) z9)):=by
  show _ = _
  rw [← HS0.out,← HS1.out,← HS2.out]; simp
 go_wp2
 exact bodyPost_ret (v:=.string (s0 ++ (⟨#[32]⟩ : ByteArray) ++ s2 ++ ⟨#[32]⟩ ++ s1)) (by simp [results,Tryz.results84,go_sem]) rfl ⟨_,rfl,HT.out,HB5.out⟩

theorem rtwo_6 {n : Nat} (hX : RC n) (hn : n ≤ 16) (w : World) (oo v1 v2 : Int) (h1 : 1 ≤ oo) (h2 : oo ≤ 6) (v3 tt nn : ByteArray) (es : List Ex) (pp : Int) (k : Value) (hxr : XR w (.mk 6 oo (v1,v2,v3) tt nn es pp) k) (hl2 : es.length = 2) (hd : ∀ i (h : i < es.length),dpr n es[i] = false ∧ RtE es[i]) : Calls Tryz.prog 84 #[.agg (exC (.mk 6 oo (v1,v2,v3) tt nn es pp) k).toArray] w (RP (xE 5 es[0] ++ (32 : UInt8) :: (cmpS oo ++ (32 : UInt8) :: xE 5 es[1])) w):=by
 obtain ⟨b,off,c,rfl,hu⟩:=rkids_use hX hn hxr (by omega) hd
 have hb0:=xE_len hn (hd 0 (by omega)).1 (hd 0 (by omega)).2 5
 have hb1:=xE_len hn (hd 1 (by omega)).1 (hd 1 (by omega)).2 5
 simp only [exC,hl2]
 have HU:=Lib.hid hu
 obtain ⟨z0,hz0⟩ : ∃ z,es[0] = z:=⟨_,rfl⟩
 obtain ⟨z9,hz9⟩ : ∃ z,es[1] = z:=⟨_,rfl⟩
 rw [hz0] at hb0 ⊢
 rw [hz9] at hb1 ⊢
 have HZ0:=Lib.hid hz0
 have HZ9:=Lib.hid hz9
 clear hu hxr hd hX hz0 hz9
 have hsg : (cmpS oo).length ≤ 300000000000000000:=by
  have : (cmpS oo).length ≤ 2:=by unfold cmpS; split <;> (try split) <;> (try split) <;> (try split) <;> (try split) <;> decide
  omega
 obtain ⟨W1,hW1⟩ : ∃ W,w.alloc (.cells #[.int .i64 6,.int .i64 oo,.int .i64 v1,.int .i64 v2,.string v3,.string tt,.string nn,.slice (some ⟨b,off,none⟩) 2 c,.int .i64 pp] 49) = W:=⟨_,rfl⟩
 have HB1 : Hid (Below w.heap.size w W1):=Lib.hid (hW1 ▸ (Below.refl _ _).alloc (Nat.le_refl _) _)
 have HN1 : Hid (W1.heap[w.heap.size]? = some (.cells #[.int .i64 6,.int .i64 oo,.int .i64 v1,.int .i64 v2,.string v3,.string tt,.string nn,.slice (some ⟨b,off,none⟩) 2 c,.int .i64 pp] 49 (0,0))):=Lib.hid (hW1 ▸ heap_alloc_new w _)
 have z1:=nine_of HN1.out
 go_enter Tryz.func84,Tryz.ntmps84
 obtain ⟨k1,o1,x1,x2,x3,t1,n1,a1,m1,c1,p1,hkk,hc,hu⟩:=HU.out 0 (by omega)
 have HX:=Lib.hid (hu 5)
 have HCS:=Lib.hid hc
 have q0:=Cl HB1.out (HCS.out 0 _ rfl)
 have q1:=Cl HB1.out (HCS.out 1 _ rfl)
 have q2:=Cl HB1.out (HCS.out 2 _ rfl)
 have q3:=Cl HB1.out (HCS.out 3 _ rfl)
 have q4:=Cl HB1.out (HCS.out 4 _ rfl)
 have q5:=Cl HB1.out (HCS.out 5 _ rfl)
 have q6:=Cl HB1.out (HCS.out 6 _ rfl)
 have q7:=Cl HB1.out (HCS.out 7 _ rfl)
 have q8:=Cl HB1.out (HCS.out 8 _ rfl)
 simp only [Nat.zero_mul,Nat.add_zero] at q0 q1 q2 q3 q4 q5 q6 q7 q8
 clear hc hu
 rw [HZ0.out] at HX
 clear hkk
 go_wp2_with fail
 clear hW1
 refine (HX.out _ HB1.out).mono ?_
 rintro e w2 ⟨s0,rfl,hs,hb⟩
 have HS0:=Lib.hid hs
 have HB2:=Hbt HB1 hb
 have HN2:=Hbk hb HN1
 have e1 : s0.data.toList.length = s0.size:=by simp
 have hzs0 : s0.size ≤ 300000000000000000:=by rw [← e1,hs]; exact (by omega)
 clear e1
 clear hb hs z1 HN1 q0 q1 q2 q3 q4 q5 q6 q7 q8 HX HCS
 have z1:=nine_of HN2.out
 obtain ⟨k1,o1,x1,x2,x3,t1,n1,a1,m1,c1,p1,hkk,hc,hu⟩:=HU.out 1 (by omega)
 have HX:=Lib.hid (hu 5)
 have HCS:=Lib.hid hc
 have q0:=Cl HB2.out (HCS.out 0 _ rfl)
 have q1:=Cl HB2.out (HCS.out 1 _ rfl)
 have q2:=Cl HB2.out (HCS.out 2 _ rfl)
 have q3:=Cl HB2.out (HCS.out 3 _ rfl)
 have q4:=Cl HB2.out (HCS.out 4 _ rfl)
 have q5:=Cl HB2.out (HCS.out 5 _ rfl)
 have q6:=Cl HB2.out (HCS.out 6 _ rfl)
 have q7:=Cl HB2.out (HCS.out 7 _ rfl)
 have q8:=Cl HB2.out (HCS.out 8 _ rfl)
 simp only [Nat.one_mul,Nat.add_zero] at q0 q1 q2 q3 q4 q5 q6 q7 q8
 clear hc hu
 rw [HZ9.out] at HX
 clear hkk
 go_wp2_with fail
 refine (HX.out _ HB2.out).mono ?_
 rintro e w3 ⟨s1,rfl,hs,hb⟩
 have HS1:=Lib.hid hs
 have HB3:=Hbt HB2 hb
 have HN3:=Hbk hb HN2
 have e1 : s1.data.toList.length = s1.size:=by simp
 have hzs1 : s1.size ≤ 300000000000000000:=by rw [← e1,hs]; exact (by omega)
 clear e1
 clear hb hs z1 HN2 q0 q1 q2 q3 q4 q5 q6 q7 q8 HX HCS
 have z1:=nine_of HN3.out
 go_wp2_with fail
 refine (rsign_6 oo h1 h2 _).mono ?_
 rintro e w4 ⟨s2,rfl,hs,hb⟩
 have HS2:=Lib.hid hs
 have HB4:=Hbt HB3 hb
 have HN4:=Hbk hb HN3
 have e1 : s2.data.toList.length = s2.size:=by simp
 have hzs2 : s2.size ≤ 300000000000000000:=by rw [← e1,hs]; exact hsg
 clear e1
 clear hb hs z1 HN3
 have z1:=nine_of HN4.out
 have HT : Hid ((s0 ++ (⟨#[32]⟩ : ByteArray) ++ s2 ++ ⟨#[32]⟩ ++ s1 : ByteArray).data.toList = xE 5 z0 ++ (32 : UInt8) :: (cmpS oo ++ (32 : UInt8) :: xE 5 z9)):=by
  show _ = _
  rw [← HS0.out,← HS1.out,← HS2.out]; simp
 go_wp2
 exact bodyPost_ret (v:=.string (s0 ++ (⟨#[32]⟩ : ByteArray) ++ s2 ++ ⟨#[32]⟩ ++ s1)) (by simp [results,Tryz.results84,go_sem]) rfl ⟨_,rfl,HT.out,HB4.out⟩

theorem rank7_kind {a : Ex} (h : RtE a) (hr : ¬ rankX a < 7) : kindOf a = 1 ∨ kindOf a = 2 ∨ kindOf a = 3 ∨ kindOf a = 4:=by
 obtain ⟨ho,h⟩:=h
 obtain ⟨k,o,v,t,n,ks,q⟩:=a
 have hov : ¬ (k = 11 ∨ k = 12 ∨ k = 13 ∨ k = 14):=ho
 obtain ⟨_,_,⟨c1,c2,_⟩,f⟩:=RtI.iff.1 h
 show k = 1 ∨ k = 2 ∨ k = 3 ∨ k = 4
 apply Classical.byContradiction
 intro hn
 by_cases hx : k = 5 ∨ k = 6 ∨ k = 7 ∨ k = 8 ∨ k = 9 ∨ k = 10
 ·apply hr
  show (if k = 10 then 1 else if k = 9 then 2 else if k = 8 then 3 else if k = 6 ∨ k = 7 then 4 else if k = 5 then (if o ≤ 2 then 5 else 6) else 7) < 7
  repeat' split
  all_goals omega
 ·have hf : formK k = (0,0,1,0):=by
   unfold formK
   rw [if_neg (by omega),if_neg (by omega),if_neg (by omega),if_neg (by omega),if_neg (by omega),if_neg (by omega)]
  rw [hf] at c1 c2
  simp only at c1 c2
  omega

theorem lit_ne {v : V3} (h : litOk v) : lit v ≠ []:=by
 rcases rt_kind (v:=v) h.1 with k | k | k | k
 ·rw [lit_null k]
  simp
 ·obtain ⟨c,q,e,_⟩:=itoa_head v.2.1
  rw [lit_int k,e]
  simp
 ·unfold lit
  rw [if_neg (by omega),if_pos k]
  split <;> simp
 ·rw [lit_text k,quo]
  simp

theorem name_ne {n : ByteArray} (h : isName n = true) : n.data.toList ≠ []:=by
 obtain ⟨c,q,e,_⟩:=name_parts (by rw [← isName_list]; exact h)
 rw [e]
 simp

theorem xE7_ne {a : Ex} (h : RtE a) : xE 7 a ≠ []:=by
 by_cases hr : rankX a < 7
 ·have e1 : xE 7 a = 40 :: (xB a ++ [41]):=by unfold xE xwr; rw [if_pos hr]
  rw [e1]
  simp
 ·have e1 : xE 7 a = xB a:=by unfold xE xwr; rw [if_neg hr]
  have hk:=rank7_kind h hr
  rw [e1]
  obtain ⟨ho,h⟩:=h
  obtain ⟨k,o,v,t,n,ks,q⟩:=a
  obtain ⟨_,_,⟨c1,c2,_⟩,f⟩:=RtI.iff.1 h
  replace hk : k = 1 ∨ k = 2 ∨ k = 3 ∨ k = 4:=hk
  rw [xB_mk]
  unfold xF
  rcases hk with rfl | rfl | rfl | rfl
  ·rw [if_pos rfl]
   exact lit_ne (f.1 rfl).2.2
  ·rw [if_neg (by decide),if_pos rfl]
   simp
  ·rw [if_neg (by decide),if_neg (by decide),if_pos rfl]
   obtain ⟨htn,hn,_⟩:=f.2.2.1 rfl
   by_cases et : t = ⟨#[]⟩
   ·rw [if_pos et]
    exact name_ne hn
   ·rw [if_neg et]
    simp
  ·have hl : 1 ≤ ks.length:=by simpa [formK] using c1
   match ks,hl with
   | b :: bs,_ => simp

theorem xE7_head {a : Ex} (h : RtE a) : ∃ c l,xE 7 a = c :: l ∧ (c = 45 ↔ kindOf a = 4):=by
 by_cases hk : kindOf a = 4
 ·obtain ⟨k,o,v,t,n,ks,q⟩:=a
  have e4 : k = 4:=hk
  subst e4
  obtain ⟨_,_,⟨c1,_,_⟩,_⟩:=RtI.iff.1 h.2
  have hl : 1 ≤ ks.length:=by simpa [formK] using c1
  match ks,hl with
  | b :: bs,_ =>
   have e1 : xE 7 (.mk 4 o v t n (b :: bs) q) = 45 :: (if kindOf b = 4 then 32 :: xwr 7 b (xB b) else xwr 7 b (xB b)):=by
    unfold xE xwr
    rw [if_neg (by unfold rankX; simp),xB_mk]
    simp [xF,xwr]
   exact ⟨45,_,e1,fun _ => rfl,fun _ => rfl⟩
 ·have h1:=hd45 h hk []
  rw [List.append_nil] at h1
  cases hx : xE 7 a with
  | nil => exact absurd hx (xE7_ne h)
  | cons c l =>
   rw [hx] at h1
   exact ⟨c,l,rfl,fun e => by subst e; simp at h1,fun e => absurd e hk⟩

theorem xI_len {n : Nat} (hn : n ≤ 15) {e : Ex} (hd : dpr (n + 1) e = false) (hr : RtI e) : (xI e).length ≤ 200000000000000000:=by
 by_cases ho : isOver e
 ·obtain ⟨kk,oo,v,tt,nn,es,pp⟩:=e
  obtain ⟨o1,o2,⟨l1,l2,hk⟩,-⟩:=RtI.iff.1 hr
  have ho' : kk = 11 ∨ kk = 12 ∨ kk = 13 ∨ kk = 14:=ho
  rw [xI]
  by_cases q : kk = 11
  ·rw [if_pos q]
   simp [wCOUNT]
  ·have q2 : kk = 12 ∨ kk = 13 ∨ kk = 14:=by omega
   rw [if_neg q,if_pos q2]
   have hl : es.length = 1:=by
    have : formK kk = (0,0,1,1):=by
     unfold formK
     rw [if_neg (by omega),if_pos (by omega)]
    rw [this] at l1 l2
    simp only at l1 l2
    omega
   obtain ⟨a,rfl⟩:=len1 hl
   have h1:=xB_len n a (dpr_kids hd 0 (by simp)) (hk 0 (by simp))
   have h3 : 8 ^ n ≤ 8 ^ 16:=Nat.pow_le_pow_right (by decide) (by omega)
   have h4 : (8 : Nat) ^ 16 = 281474976710656:=by decide
   have h5 : (if kk = 12 then wSUM else if kk = 13 then wMIN else wMAX).length = 3:=by split <;> (try split) <;> rfl
   have h6 : xkid [a] = xB a:=by first | rfl | (show xE 1 a = xB a; exact xE_one a)
   rw [h6]
   simp only [List.length_append,List.length_cons,List.length_nil,h5]
   omega
 ·rw [xI_B ho,← xE_one]
  exact xE_len (n:=n + 1) (by omega) hd ⟨ho,hr⟩ 1
end Go.Proofs.YteolnlcmnaknnaaGreatDoor
