/- ZR3 ZR4 ZR5 ZR7 ZR8 ZR9 -/
import Derived.Test.YtmmmkjhpmlfopaaGreatDoorSB17
import Derived.BigRegion
set_option maxHeartbeats 4000000
set_option maxRecDepth 100000
namespace Go.Proofs.YtmmmkjhpmlfopaaGreatDoor
open Go.RowKit
namespace RR
def AV (B n : Nat) (xs : List UInt8) (u : V3) (w : World) (e : Ending) (w' : World) : Prop:=∃ v',e = .returned v' ∧ w'.ownsRow B 5 1 v' (n + (rb u).length) (bv (xs ++ rb u)) ∧ Below B w w'
theorem strCells_ba (s : ByteArray) : Lib.strCells s = bv s.data.toList:=by simp [Lib.strCells,bv]
theorem av_null (B n : Nat) (v : Value) (xs : List UInt8) (w : World) (hown : w.ownsRow B 5 1 v n (bv xs)) (hB : B ≤ w.heap.size) :
  Calls Tryz.prog 122 #[v,.agg #[.int .i64 0,.int .i64 0,.string ⟨#[]⟩]] w (AV B n xs (0,0,⟨#[]⟩) w):=by
 go_enter Tryz.func122,Tryz.ntmps122
 go_wp2
 go_ret
 refine ⟨v,rfl,?_,(Bxr _ _).alloc hB _⟩
 rw [rb_null rfl]
 simpa using hown.alloc _
theorem av_int (B n : Nat) (v : Value) (xs : List UInt8) (w : World) (c : Int) (hc1 : -4611686018427387904 ≤ c) (hc2 : c ≤ 4611686018427387904) (hown : w.ownsRow B 5 1 v n (bv xs)) (hn : n ≤ 1000000000) (hB : B ≤ w.heap.size) :
  Calls Tryz.prog 122 #[v,.agg #[.int .i64 1,.int .i64 c,.string ⟨#[]⟩]] w (AV B n xs (1,c,⟨#[]⟩) w):=by
 have hf:=fd_le hc1 hc2
 go_enter Tryz.func122,Tryz.ntmps122
 go_wp2_with fail
 refine (fold_any c _ hc1 hc2).mono ?_
 rintro e w1 ⟨rfl,rfl⟩
 go_wp2_with fail
 refine (digits_any B n v xs (fd c) _ (hown.alloc _) hn (by simp; omega) Om).mono ?_
 rintro e w2 ⟨v',rfl,hown2,hb2⟩
 go_wp2
 go_ret
 exact ⟨v',rfl,by rw [rb_int rfl]; exact hown2,((Bxr _ _).alloc hB _).trans hb2⟩
theorem av_bool (B n : Nat) (v : Value) (xs : List UInt8) (w : World) (c : Int) (hc : c = 0 ∨ c = 1) (hown : w.ownsRow B 5 1 v n (bv xs)) (hn : n ≤ 1000000000) (hB : B ≤ w.heap.size) :
  Calls Tryz.prog 122 #[v,.agg #[.int .i64 2,.int .i64 c,.string ⟨#[]⟩]] w (AV B n xs (2,c,⟨#[]⟩) w):=by
 obtain ⟨i0,hi,hz0,hz1,hz2⟩:=info_parts Tryz.info5
 have hlt:=hown.lt
 rcases hc with rfl | rfl
 ·go_enter Tryz.func122,Tryz.ntmps122
  go_wp2_with (first | (at_builtin; refine wpList_append_own _ rfl _ _ 114 rfl B 5 i0 (.int .u8 0) 1 1 Tryz.underlying114 hi hz0 hz1 hz2 rfl (by decide) _ _ _ rfl ((hown.alloc _).alloc _) ⟨w.heap.size + 1,0,none⟩ 1 1 (bv [0]) rfl rfl ?c1 ?c2 ?c3 ?c4 ?c5 ?_))
  case c1 =>
   have:=cells1 (w.alloc (.cells #[.int .i64 2,.int .i64 0,.string ⟨#[]⟩] 73)) 0 0 5 rfl
   simpa using this
  case c2 => exact bv_one _
  case c3 => unfold maxLen; omega
  case c4 => omega
  case c5 => simp; omega
  ·intro v' w1 hown' hgrow _
   rw [← bv_append] at hown'
   have hbb : Below B w w1:=(((Bxr _ _).alloc hB _).alloc (by simp; omega) _).grown hgrow (by simp; omega) fun k hk => (hlt k hk).1
   clear hgrow
   go_wp2
   go_ret
   exact ⟨_,rfl,hown',hbb⟩
 ·go_enter Tryz.func122,Tryz.ntmps122
  go_wp2_with (first | (at_builtin; refine wpList_append_own _ rfl _ _ 114 rfl B 5 i0 (.int .u8 0) 1 1 Tryz.underlying114 hi hz0 hz1 hz2 rfl (by decide) _ _ _ rfl ((hown.alloc _).alloc _) ⟨w.heap.size + 1,0,none⟩ 1 1 (bv [1]) rfl rfl ?c1 ?c2 ?c3 ?c4 ?c5 ?_))
  case c1 =>
   have:=cells1 (w.alloc (.cells #[.int .i64 2,.int .i64 1,.string ⟨#[]⟩] 73)) 1 1 5 rfl
   simpa using this
  case c2 => exact bv_one _
  case c3 => unfold maxLen; omega
  case c4 => omega
  case c5 => simp; omega
  ·intro v' w1 hown' hgrow _
   rw [← bv_append] at hown'
   have hbb : Below B w w1:=(((Bxr _ _).alloc hB _).alloc (by simp; omega) _).grown hgrow (by simp; omega) fun k hk => (hlt k hk).1
   clear hgrow
   go_wp2
   go_ret
   exact ⟨_,rfl,hown',hbb⟩
theorem av_text (B n : Nat) (v : Value) (xs : List UInt8) (w : World) (s : ByteArray) (hs : s.size ≤ 64) (hown : w.ownsRow B 5 1 v n (bv xs)) (hn : n ≤ 1000000000) (hB : B ≤ w.heap.size) :
  Calls Tryz.prog 122 #[v,.agg #[.int .i64 3,.int .i64 0,.string s]] w (AV B n xs (3,0,s) w):=by
 obtain ⟨i0,hi,hz0,hz1,hz2⟩:=info_parts Tryz.info5
 have hlt:=hown.lt
 have hne : some w.heap.size ≠ v.ownBlock:=fun h => absurd (hlt _ h.symm).2 (Nat.lt_irrefl _)
 have hwr : IntKind.u8.wrap (s.size : Int) = (s.size : Int):=by rw [IntKind.wrap_u8]; omega
 have HC1 : ∀ j u,(bv [UInt8.ofNat s.size])[j]? = some u → (((w.alloc (.cells #[.int .i64 3,.int .i64 0,.string s] 73)).drew).alloc (.cells #[.int .u8 (s.size : Int)] 5)).cell? ((⟨w.heap.size + 1,0,none⟩ : Addr).add j) = some u:=by
  intro j u hj
  have:=cells1 (w.alloc (.cells #[.int .i64 3,.int .i64 0,.string s] 73)).drew (s.size : Int) (UInt8.ofNat s.size) 5 (by rw [UInt8.toNat_ofNat']; omega) j u hj
  simpa using this
 go_enter Tryz.func122,Tryz.ntmps122
 go_wp2
 go_region_law (first
  | (refine step_append_lies _ rfl _ _ 114 rfl B 5 i0 (.int .u8 0) 1 1 Tryz.underlying114 hi hz0 hz1 hz2 rfl (by decide) v n (bv xs) rfl ((ownsRow_drew (hown.alloc _)).alloc _) ⟨w.heap.size + 1,0,none⟩ 1 1 (bv [UInt8.ofNat s.size]) rfl rfl HC1 (bv_one _) (by decide) (by unfold maxLen; omega) Om (by simp; omega) (w.heap.size + 1 + 1) Si ?_; intro g' cap' w1 hown' hgrow _ hlt1; (have hS : w1.cell? ⟨w.heap.size,2,none⟩ = some (.string s):=(hgrow.cell_far ⟨w.heap.size,2,none⟩ (by simp; omega) hne).trans Si); (have hbb : Below B w w1:=((((Bxr _ _).alloc hB _).drew).alloc (by simp; omega) _).grown hgrow (by simp; omega) fun k hk => (hlt k hk).1); (have hlt1':=hown'.lt); (have hz1':=hbb.size))
  | (refine step_append_own_string _ rfl _ _ 114 9 rfl B 5 i0 Tryz.underlying114 Tryz.underlying9 hi hz0 hz1 hz2 _ _ _ rfl hown' s rfl (by unfold maxLen; omega) Om Om ?_; intro v2 w2 hown2 hgrow2))
 all_goals
  go_wp2
  go_ret
  refine ⟨v2,rfl,?_,hbb.grown hgrow2 Om fun k hk => (hlt1' k hk).1⟩
  rw [strCells_ba,← bv_append,← bv_append] at hown2
  rw [rb_text rfl]
  have e5 : n + (UInt8.ofNat s.size :: s.data.toList).length = n + 1 + s.size:=by simp; omega
  rw [e5]
  simpa using hown2
theorem av_any (B n : Nat) (v : Value) (xs : List UInt8) (u : V3) (w : World) (hr : V3.right u = true) (hown : w.ownsRow B 5 1 v n (bv xs)) (hn : n ≤ 1000000000) (hB : B ≤ w.heap.size) :
  Calls Tryz.prog 122 #[v,.agg #[.int .i64 u.1,.int .i64 u.2.1,.string u.2.2]] w (AV B n xs u w):=by
 obtain ⟨k,c,s⟩:=u
 rcases right_kind hr with h | h | h | h
 all_goals simp only at h; subst h
 ·obtain ⟨h1,h2⟩:=right_null hr rfl
  simp only at h1 h2
  subst h1 h2
  exact av_null B n v xs w hown hB
 ·obtain ⟨h1,h2,h3⟩:=right_num hr rfl
  simp only at h1 h2 h3
  subst h3
  exact av_int B n v xs w c h1 h2 hown hn hB
 ·obtain ⟨h1,h2⟩:=right_bool hr rfl
  simp only at h1 h2
  subst h2
  exact av_bool B n v xs w c h1 hown hn hB
 ·obtain ⟨h1,h2⟩:=right_text hr rfl
  simp only at h1 h2
  subst h1
  exact av_text B n v xs w s h2 hown hn hB
theorem bv_set (l : List UInt8) (j : Nat) (c : UInt8) : (bv l).set j (.int .u8 (c.toNat : Int)) = bv (l.set j c):=by simp [bv]
theorem bv_zero (n : Nat) : (madeCells #[.int .u8 0] n).toList = bv (List.replicate n 0):=by
 rw [toList_madeCells_one]
 simp [bv]
theorem kq_or : ∀ (X : Fin 64) (K : Fin 4),(X.val < 1 → bits BinOp.or IntKind.u8 (X.val : Int) (K.val : Int) = ((X.val + 1 * K.val : Nat) : Int)) ∧ (X.val < 4 → bits BinOp.or IntKind.u8 (X.val : Int) ((K.val : Int) * 4) = ((X.val + 4 * K.val : Nat) : Int)) ∧ (X.val < 16 → bits BinOp.or IntKind.u8 (X.val : Int) ((K.val : Int) * 16) = ((X.val + 16 * K.val : Nat) : Int)) ∧ bits BinOp.or IntKind.u8 (X.val : Int) ((K.val : Int) * 64) = ((X.val + 64 * K.val : Nat) : Int):=by decide +kernel
theorem own_step {w : World} {B N n g : Nat} {l : List UInt8} (hown : w.ownsRow B 5 1 (.slice (some ⟨g,0,none⟩) n N) n (bv l)) (q : Nat) (x : Int) (c : UInt8) (hx : x = (c.toNat : Int)) : (w.setCell ⟨g,q,none⟩ (.int .u8 x)).ownsRow B 5 1 (.slice (some ⟨g,0,none⟩) n N) n (bv (l.set q c)):=by
 subst hx
 rw [← bv_set]
 exact (hown.stored q _).1
theorem pack_any (a : Option Addr) (cap : Nat) (vs : List V3) (w : World) (hlen : vs.length ≤ 16) (hrt : ∀ v ∈ vs,V3.right v = true) (hrow : Row w a vs) :
  Calls Tryz.prog 121 #[.slice a vs.length cap] w fun e w' => ∃ v',e = .returned v' ∧ w'.ownsRow w.heap.size 5 1 v' ((vs.length + 3) / 4) (bv (pk ((vs.length + 3) / 4) vs)) ∧ Below w.heap.size w w':=by
 obtain ⟨i0,hi,hz0,hz1,hz2⟩:=info_parts Tryz.info5
 have HR : Hid (Row w a vs):=hrow
 have HT : Hid (∀ v ∈ vs,V3.right v = true):=hrt
 clear hrow hrt
 obtain ⟨N,hN⟩:=Vx ((vs.length + 3) / 4)
 have HN : Hid ((vs.length + 3) / 4 = N):=hN
 have hN4 : N ≤ 4:=by omega
 have hNi : (((vs.length + 3) / 4 : Nat) : Int) = (N : Int):=by rw [hN]
 rw [hN]
 clear hN
 go_enter Tryz.func121,Tryz.ntmps121
 go_wp2_with fail
 refine (kbytes_any vs.length _ Om).mono ?_
 rintro e w1 ⟨rfl,rfl⟩
 rw [hNi]
 clear hNi
 go_wp2_with (first | (at_make; refine wpList_make_full _ rfl _ _ 114 rfl w1.heap.size 5 i0 _ 1 Tryz.underlying114 hi hz0 hz1 .i64 .i64 _ _ N rfl rfl ?h1 ?h2 ?h3 ?h4 ?h5 ?_))
 case h1 => omega
 case h2 => omega
 case h3 => rw [hz2]; omega
 case h4 => unfold maxLen; omega
 case h5 => exact Nat.le_refl _
 intro w2 hown2 hgrow2
 have hb2 : Below w1.heap.size w1 w2:=(Bxr _ _).grown hgrow2 Zlr (fun k h => by cases h)
 rw [bv_zero] at hown2
 clear hgrow2
 go_wp2
 go_loopw [12] (fun i wr => ∃ k : Nat,k ≤ vs.length ∧ i = .int .i64 k ∧ wr.ownsRow w1.heap.size 5 1 (.slice (some ⟨w1.heap.size,0,none⟩) N N) N (bv (pk N (vs.take k))) ∧ Below w1.heap.size w1 wr) (fun i _ => vs.length - (intOf i).toNat)
 case atStart => exact ⟨0,Nat.zero_le _,rfl,by rw [pk_zero]; exact hown2,hb2⟩
 case round =>
  clear hown2 hb2
  obtain ⟨k,hk,rfl,hown,hb⟩:=hrel
  have hsz:=hb.size
  by_cases hlt : k < vs.length
  ·obtain ⟨b,off,rfl,c0,c1,c2⟩:=HR.out k hlt
   have hbz:=cell_lt c0
   have d0:=cell_later hb c0
   have d1:=cell_later hb c1
   have d2:=cell_later hb c2
   clear c0 c1 c2
   have hqN : k / 4 < N:=by have:=HN.out; omega
   obtain ⟨q,hq⟩:=Vx (k / 4)
   rw [hq] at hqN
   have hqi : (k : Int) / 4 = (q : Int):=by omega
   have hq0 : (0 : Int) ≤ (q : Int):=by omega
   have hq1 : (q : Int) < (N : Int):=by omega
   have hXl:=kq_take_lt HT.out k
   rw [hq] at hXl
   have hcell:=hown.cellAt q Om
   have hatp : (bv (pk N (vs.take k)))[q]? = some (.int .u8 ((kq (vs.take k) q : Nat) : Int)):=by
    have h64 : q4 (k % 4) ≤ 64:=by unfold q4; split <;> (try split) <;> (try split) <;> omega
    have h1 : q < (pk N (vs.take k)).length:=by rw [pk_length]; exact hqN
    simp only [bv,List.getElem?_map,List.getElem?_eq_getElem h1,pk_at hqN,Option.map_some,UInt8.toNat_ofNat']
    rw [Nat.mod_eq_of_lt Om]
   rw [hatp] at hcell
   have hfr:=hown.frozenAt q
   have hstep:=pk_step (n:=N) hlt
   obtain ⟨K,hK,hK4⟩ : ∃ K : Nat,(vs[k]).1 = (K : Int) ∧ K < 4:=by
    rcases right_kind (HT.out _ (List.getElem_mem hlt)) with h | h | h | h
    ·exact ⟨0,by omega,by omega⟩
    ·exact ⟨1,by omega,by omega⟩
    ·exact ⟨2,by omega,by omega⟩
    ·exact ⟨3,by omega,by omega⟩
   rw [kOf_at hlt,hK,hq] at hstep
   rw [hK] at d0
   obtain ⟨X,hX⟩:=Vx (kq (vs.take k) q)
   rw [hX] at hcell hstep hXl
   have HS : Hid (pk N (vs.take (k + 1)) = (pk N (vs.take k)).set q (UInt8.ofNat (X + q4 (k % 4) * (K : Int).toNat))):=hstep
   have hg1 : w1.heap.size < wr.heap.size:=(hown.lt _ rfl).2
   have hkw : IntKind.u8.wrap (K : Int) = (K : Int):=by rw [IntKind.wrap_u8]; omega
   clear hstep hX hatp hK hq
   have hr4 : k % 4 = 0 ∨ k % 4 = 1 ∨ k % 4 = 2 ∨ k % 4 = 3:=by omega
   rcases hr4 with hr | hr | hr | hr
   ·have hri : (k : Int) % 4 = 0:=by omega
    rw [hr,show q4 0 = 1 from rfl] at hXl
    have hkw2 : IntKind.u8.wrap (K : Int) = (K : Int):=by rw [IntKind.wrap_u8]; omega
    have HB : Hid (bits BinOp.or IntKind.u8 (X : Int) (K : Int) = ((UInt8.ofNat (X + q4 (k % 4) * (K : Int).toNat)).toNat : Int)):=by
     have e : bits BinOp.or IntKind.u8 (X : Int) (K : Int) = ((UInt8.ofNat (X + q4 (k % 4) * (K : Int).toNat)).toNat : Int):=by
      have:=(kq_or ⟨X,by omega⟩ ⟨K,hK4⟩).1
      rw [hr,show q4 0 = 1 from rfl,Int.toNat_natCast,UInt8.toNat_ofNat',Nat.mod_eq_of_lt Om]
      exact this (by simpa using hXl)
     exact e
    go_wp2
    go_region
    all_goals
     go_wp2
     go_roundw
     case rel => exact ⟨k + 1,by omega,by go_num,by rw [HS.out]; exact (own_step hown q _ _ HB.out).alloc _,((hb.setCell (p:=⟨w1.heap.size,q,none⟩) Zlr _).alloc (by simp; omega) _).drew⟩
     case measure => simp [intOf]; omega
   ·have hri : (k : Int) % 4 = 1:=by omega
    rw [hr,show q4 1 = 4 from rfl] at hXl
    have hkw2 : IntKind.u8.wrap ((K : Int) * 4) = ((K : Int) * 4):=by rw [IntKind.wrap_u8]; omega
    have HB : Hid (bits BinOp.or IntKind.u8 (X : Int) ((K : Int) * 4) = ((UInt8.ofNat (X + q4 (k % 4) * (K : Int).toNat)).toNat : Int)):=by
     have e : bits BinOp.or IntKind.u8 (X : Int) ((K : Int) * 4) = ((UInt8.ofNat (X + q4 (k % 4) * (K : Int).toNat)).toNat : Int):=by
      have:=(kq_or ⟨X,by omega⟩ ⟨K,hK4⟩).2.1
      rw [hr,show q4 1 = 4 from rfl,Int.toNat_natCast,UInt8.toNat_ofNat',Nat.mod_eq_of_lt Om]
      exact this (by simpa using hXl)
     exact e
    go_wp2
    go_region
    all_goals
     go_wp2
     go_roundw
     case rel => exact ⟨k + 1,by omega,by go_num,by rw [HS.out]; exact (own_step hown q _ _ HB.out).alloc _,((hb.setCell (p:=⟨w1.heap.size,q,none⟩) Zlr _).alloc (by simp; omega) _).drew⟩
     case measure => simp [intOf]; omega
   ·have hri : (k : Int) % 4 = 2:=by omega
    rw [hr,show q4 2 = 16 from rfl] at hXl
    have hkw2 : IntKind.u8.wrap ((K : Int) * 16) = ((K : Int) * 16):=by rw [IntKind.wrap_u8]; omega
    have HB : Hid (bits BinOp.or IntKind.u8 (X : Int) ((K : Int) * 16) = ((UInt8.ofNat (X + q4 (k % 4) * (K : Int).toNat)).toNat : Int)):=by
     have e : bits BinOp.or IntKind.u8 (X : Int) ((K : Int) * 16) = ((UInt8.ofNat (X + q4 (k % 4) * (K : Int).toNat)).toNat : Int):=by
      have:=(kq_or ⟨X,by omega⟩ ⟨K,hK4⟩).2.2.1
      rw [hr,show q4 2 = 16 from rfl,Int.toNat_natCast,UInt8.toNat_ofNat',Nat.mod_eq_of_lt Om]
      exact this (by simpa using hXl)
     exact e
    go_wp2
    go_region
    all_goals
     go_wp2
     go_roundw
     case rel => exact ⟨k + 1,by omega,by go_num,by rw [HS.out]; exact (own_step hown q _ _ HB.out).alloc _,((hb.setCell (p:=⟨w1.heap.size,q,none⟩) Zlr _).alloc (by simp; omega) _).drew⟩
     case measure => simp [intOf]; omega
   ·have hri : (k : Int) % 4 = 3:=by omega
    rw [hr,show q4 3 = 64 from rfl] at hXl
    have hkw2 : IntKind.u8.wrap ((K : Int) * 64) = ((K : Int) * 64):=by rw [IntKind.wrap_u8]; omega
    have HB : Hid (bits BinOp.or IntKind.u8 (X : Int) ((K : Int) * 64) = ((UInt8.ofNat (X + q4 (k % 4) * (K : Int).toNat)).toNat : Int)):=by
     have e : bits BinOp.or IntKind.u8 (X : Int) ((K : Int) * 64) = ((UInt8.ofNat (X + q4 (k % 4) * (K : Int).toNat)).toNat : Int):=by
      have:=(kq_or ⟨X,by omega⟩ ⟨K,hK4⟩).2.2.2
      rw [hr,show q4 3 = 64 from rfl,Int.toNat_natCast,UInt8.toNat_ofNat',Nat.mod_eq_of_lt Om]
      exact this
     exact e
    go_wp2
    go_region
    all_goals
     go_wp2
     go_roundw
     case rel => exact ⟨k + 1,by omega,by go_num,by rw [HS.out]; exact (own_step hown q _ _ HB.out).alloc _,((hb.setCell (p:=⟨w1.heap.size,q,none⟩) Zlr _).alloc (by simp; omega) _).drew⟩
     case measure => simp [intOf]; omega
  ·have hk' : k = vs.length:=by omega
   subst hk'
   rw [List.take_length] at hown
   go_wp2
   go_ret
   exact ⟨_,rfl,hown,hb⟩
def wrV (vs : List V3) : Value:=.tuple #[.string ⟨(wrR vs).1.toArray⟩,.int .i64 (wrR vs).2]
theorem own_hnews {w : World} {B n : Nat} {v : Value} {xs : List UInt8} (h : w.ownsRow B 5 1 v n (bv xs)) : ∃ sp cap,v = .slice sp n cap ∧ (0 < (bv xs).length → ∃ ad,sp = some ad ∧ ∀ j u,(bv xs)[j]? = some u → w.cell? (ad.add j) = some u):=by
 have hl:=h.1
 by_cases hn : 0 < n
 ·obtain ⟨g,cap,e,hc⟩:=own_cells h hn
  exact ⟨_,cap,e,fun _ => ⟨_,rfl,hc⟩⟩
 ·obtain rfl : n = 0:=by omega
  obtain ⟨_,⟨h0,_⟩ | ⟨g,cap,cur,h0,_⟩⟩:=h
  ·exact ⟨none,0,h0,fun h => by omega⟩
  ·exact ⟨_,cap,h0,fun h => by omega⟩
theorem enc_any (a : Option Addr) (cap : Nat) (vs : List V3) (w : World) (hlen : vs.length ≤ 2147483648) (hrow : Row w a vs) :
  Calls Tryz.prog 70 #[.slice a vs.length cap] w fun e w' => e = .returned (wrV vs) ∧ Below w.heap.size w w':=by
 obtain ⟨i0,hi,hz0,hz1,hz2⟩:=info_parts Tryz.info5
 have HR : Hid (Row w a vs):=hrow
 clear hrow
 by_cases h8 : 16 < vs.length
 ·have HE : Hid (wrR vs = ([],2)):=wrR_long h8
  have h8' : (16 : Int) < (vs.length : Int):=by omega
  go_enter Tryz.func70,Tryz.ntmps70
  go_wp2
  exact bodyPost_ret (v:=.tuple #[.string ⟨#[]⟩,.int .i64 2]) (by simp [results,Tryz.results70,go_sem]) rfl ⟨by rw [wrV,HE.out],Bz⟩
 ·have h8' : ¬ (16 : Int) < (vs.length : Int):=by omega
  have h8n : vs.length ≤ 16:=by omega
  have H8 : Hid (¬ 16 < vs.length):=h8
  clear h8
  go_enter Tryz.func70,Tryz.ntmps70
  go_wp2
  go_loopw [14] (fun i wr => ∃ k : Nat,k ≤ vs.length ∧ i = .int .i64 k ∧ (∀ j (g : j < vs.length),j < k → V3.right vs[j] = true) ∧ Below w.heap.size w wr) (fun i _ => vs.length - (intOf i).toNat)
  case atStart => exact ⟨0,Nat.zero_le _,rfl,fun j _ g => absurd g (Nat.not_lt_zero _),Bxr _ _⟩
  case round =>
   obtain ⟨k,hk,rfl,hall,hb⟩:=hrel
   have HA : Hid (∀ j (g : j < vs.length),j < k → V3.right vs[j] = true):=hall
   clear hall
   have hsz:=hb.size
   by_cases hlt : k < vs.length
   ·obtain ⟨b,off,rfl,c0,c1,c2⟩:=HR.out k hlt
    have hbz:=cell_lt c0
    have d0:=cell_later hb c0
    have d1:=cell_later hb c1
    have d2:=cell_later hb c2
    clear c0 c1 c2
    cases hrt : V3.right vs[k] with
    | true =>
     have hrg : rgt (vs[k]).1 (vs[k]).2.1 (vs[k]).2.2 = true:=hrt
     have HT : Hid (V3.right vs[k] = true):=hrt
     clear hrt
     go_wp2_with fail
     refine (right_any _ _ _ _).mono ?_
     rintro e w1 ⟨rfl,hb1⟩
     rw [hrg]
     have hbw1 : Below w.heap.size w w1:=Bz
     clear hb1
     go_wp2
     go_roundw
     case rel => exact ⟨k + 1,by omega,by go_num,upto_succ HA.out HT.out,hbw1⟩
     case measure => simp [intOf]; omega
    | false =>
     have hrg : rgt (vs[k]).1 (vs[k]).2.1 (vs[k]).2.2 = false:=hrt
     have HE : Hid (wrR vs = ([],10)):=wrR_wrong H8.out k hlt hrt
     clear hrt
     go_wp2_with fail
     refine (right_any _ _ _ _).mono ?_
     rintro e w1 ⟨rfl,hb1⟩
     rw [hrg]
     go_wp2
     exact bodyPost_ret (v:=.tuple #[.string ⟨#[]⟩,.int .i64 10]) (by simp [results,Tryz.results70,go_sem]) rfl ⟨by rw [wrV,HE.out],Bz⟩
   ·have hk' : k = vs.length:=by omega
    subst hk'
    have HE : Hid (wrR vs = (rowB vs,0)):=wrR_ok H8.out fun j g => HA.out j g g
    have HT : Hid (∀ v ∈ vs,V3.right v = true):=by
     have:=upto_right HA.out
     rw [List.take_length] at this
     exact this
    clear HA hlt
    obtain ⟨N,hN⟩:=Vx ((vs.length + 3) / 4)
    have HN : Hid ((vs.length + 3) / 4 = N):=hN
    have hN4 : N ≤ 4:=by omega
    have hwl : IntKind.u8.wrap (vs.length : Int) = (vs.length : Int):=by rw [IntKind.wrap_u8]; omega
    have hto : ((UInt8.ofNat vs.length).toNat : Int) = (vs.length : Int):=by rw [UInt8.toNat_ofNat']; omega
    have hown0:=own_first wr w.heap.size (UInt8.ofNat vs.length) hsz
    rw [hto] at hown0
    clear hN hto
    go_wp2_with fail
    refine (pack_any a cap vs _ h8n HT.out ((HR.out.later hb).alloc _)).mono ?_
    rintro e w1 ⟨v1,rfl,hown1,hb1⟩
    rw [HN.out] at hown1
    obtain ⟨sp,spc,rfl,hnews⟩:=own_hnews hown1
    have hown2:=own_later hown0 hb1
    have hz1':=hb1.size
    simp at hz1'
    have hbw1 : Below w.heap.size w w1:=Bz
    have hlt1:=hown2.lt
    have HNW : Hid (0 < (bv (pk N vs)).length → ∃ ad,sp = some ad ∧ ∀ j u,(bv (pk N vs))[j]? = some u → w1.cell? (ad.add j) = some u):=hnews
    clear hown0 hown1 hb1 hnews
    go_wp2_with (first | (at_builtin; refine wpList_append_whole _ rfl _ _ 114 rfl w.heap.size 5 i0 (.int .u8 0) 1 1 Tryz.underlying114 hi hz0 hz1 hz2 rfl (by decide) _ _ _ rfl hown2 sp N spc (bv (pk N vs)) rfl ?c0 HNW.out ?c2 ?c3 ?c4 ?c5 ?_))
    case c0 => rw [bv_length,pk_length]; omega
    case c2 => exact bv_one _
    case c3 => unfold maxLen; omega
    case c4 => omega
    case c5 => omega
    intro v2 w2 hown3 hgrow
    rw [← bv_append] at hown3
    have hb2 : Below w.heap.size w w2:=hbw1.grown hgrow Om fun k hk => (hlt1 k hk).1
    clear hgrow hown2 hlt1 HNW hbw1 hb
    go_wp2
    go_loopw [6,31] (fun v i wr => ∃ k : Nat,k ≤ vs.length ∧ i = .int .i64 k ∧ wr.ownsRow w.heap.size 5 1 v (1 + N + (rbs (vs.take k)).length) (bv ([UInt8.ofNat vs.length] ++ pk N vs ++ rbs (vs.take k))) ∧ Below w.heap.size w wr) (fun _ i _ => vs.length - (intOf i).toNat)
    case atStart => exact ⟨0,Nat.zero_le _,rfl,by simpa [rbs] using hown3,hb2⟩
    case round =>
     clear hown3 hb2
     obtain ⟨k,hk,rfl,hown,hb⟩:=hrel
     have hsz2:=hb.size
     have hbd:=rbs_bound (vs:=vs.take k) fun v hv => HT.out v (List.mem_of_mem_take hv)
     have htl : (vs.take k).length ≤ k:=List.length_take_le _ _
     by_cases hlt : k < vs.length
     ·obtain ⟨b,off,rfl,c0,c1,c2⟩:=HR.out k hlt
      have hbz:=cell_lt c0
      have d0:=cell_later hb c0
      have d1:=cell_later hb c1
      have d2:=cell_later hb c2
      clear c0 c1 c2
      go_wp2_with fail
      refine (av_any w.heap.size _ _ _ vs[k] _ (HT.out _ (List.getElem_mem hlt)) (hown.alloc _) Om (by simp; omega)).mono ?_
      rintro e w3 ⟨v3,rfl,hown3,hb3⟩
      have hbb : Below w.heap.size w w3:=(hb.alloc Om _).trans hb3
      have ho4 : w3.ownsRow w.heap.size 5 1 v3 (1 + N + (rbs (vs.take (k + 1))).length) (bv ([UInt8.ofNat vs.length] ++ pk N vs ++ rbs (vs.take (k + 1)))):=by
       rw [rbs_take hlt,Zla,← Nat.add_assoc,← Zas]
       exact hown3
      clear hown3 hb3 hown
      go_wp2
      go_roundw
      case rel => exact ⟨k + 1,by omega,by go_num,ho4,hbb⟩
      case measure => simp [intOf]; omega
     ·have hk' : k = vs.length:=by omega
      subst hk'
      rw [List.take_length] at hown
      have hrb : [UInt8.ofNat vs.length] ++ pk N vs ++ rbs vs = rowB vs:=by unfold rowB; rw [HN.out]; simp
      rw [hrb] at hown
      obtain ⟨ar,cp,rfl,hcv⟩:=own_str hown
      clear hown hrb
      go_wp2
      exact bodyPost_ret (v:=.tuple #[.string ⟨(rowB vs).toArray⟩,.int .i64 0]) (by simp [results,Tryz.results70,go_sem]) rfl ⟨by rw [wrV,HE.out],Bz⟩
theorem drop_next {s : ByteArray} {k : Nat} (h : k < s.size) : s.data.toList.drop k = s[k] :: s.data.toList.drop (k + 1):=by
 rw [List.drop_eq_getElem_cons (by simpa using h)]
 rfl
theorem front {s : ByteArray} (h : 0 < s.size) : s.data.toList = s[0] :: s.data.toList.drop 1:=by
 have:=drop_next (s:=s) (k:=0) h
 simpa using this
def VR (K : Int) (s : ByteArray) (w : World) (e : Ending) (w' : World) : Prop:=∃ (v : V3) (r : ByteArray) (ok : Bool),e = .returned (.tuple #[.agg #[.int .i64 v.1,.int .i64 v.2.1,.string v.2.2],.string r,.bool ok]) ∧ RF K s.data.toList v r.data.toList ok ∧ r.size ≤ s.size ∧ Below w.heap.size w w'
theorem kat_num : ∀ (c : Fin 256) (r : Fin 4),bits BinOp.and IntKind.u8 ((c.val / q4 r.val : Nat) : Int) 3 = ((c.val / q4 r.val % 4 : Nat) : Int):=by decide +kernel
theorem kat_q (s : ByteArray) (i q r : Nat) (w : World) (hqi : (i : Int) / 4 = (q : Int)) (hri : (i : Int) % 4 = (r : Int)) (hr4 : r < 4) (hq1 : q ≤ 1000) (h : q < s.size) :
  Calls Tryz.prog 226 #[.string s,.int .i64 (i : Int)] w fun e w' => e = .returned (.int .i64 ((s[q].toNat / q4 r % 4 : Nat) : Int)) ∧ w' = w:=by
 have hqs : (q : Int) < (s.size : Int):=by omega
 have hcb:=UInt8.toNat_lt s[q]
 have hnum:=fun r => kat_num ⟨s[q].toNat,hcb⟩ r
 obtain ⟨c,hc⟩:=Vx (s[q].toNat)
 simp only [hc] at hnum hcb ⊢
 have hrd : r = 0 ∨ r = 1 ∨ r = 2 ∨ r = 3:=by omega
 rcases hrd with rfl | rfl | rfl | rfl
 ·have hn : bits BinOp.and IntKind.u8 ((c : Int)) 3 = ((c / q4 0 % 4 : Nat) : Int):=by
   have:=hnum ⟨0,by omega⟩
   simpa [q4] using this
  have HN : Hid (bits BinOp.and IntKind.u8 ((c : Int)) 3 = ((c / q4 0 % 4 : Nat) : Int)):=hn
  have hb : (0 : Int) ≤ ((c / q4 0 % 4 : Nat) : Int) ∧ ((c / q4 0 % 4 : Nat) : Int) < 4:=by omega
  clear hnum hn
  have hri' : (i : Int) % 4 = 0:=hri
  clear hri
  go_enter Tryz.func226,Tryz.ntmps226
  go_wp2
  go_ret
  refine ⟨ret_int ?_,rfl⟩
  first | (rw [HN.out]; unfold wrap64; omega) | (simp only [hc]; rw [HN.out]; unfold wrap64; omega) | exact HN.out | (simp only [hc]; exact HN.out)
 ·have hn : bits BinOp.and IntKind.u8 ((c : Int) / 4) 3 = ((c / q4 1 % 4 : Nat) : Int):=by
   have:=hnum ⟨1,by omega⟩
   simpa [q4] using this
  have HN : Hid (bits BinOp.and IntKind.u8 ((c : Int) / 4) 3 = ((c / q4 1 % 4 : Nat) : Int)):=hn
  have hb : (0 : Int) ≤ ((c / q4 1 % 4 : Nat) : Int) ∧ ((c / q4 1 % 4 : Nat) : Int) < 4:=by omega
  clear hnum hn
  have hri' : (i : Int) % 4 = 1:=hri
  clear hri
  go_enter Tryz.func226,Tryz.ntmps226
  go_wp2
  go_ret
  refine ⟨ret_int ?_,rfl⟩
  first | (rw [HN.out]; unfold wrap64; omega) | (simp only [hc]; rw [HN.out]; unfold wrap64; omega) | exact HN.out | (simp only [hc]; exact HN.out)
 ·have hn : bits BinOp.and IntKind.u8 ((c : Int) / 16) 3 = ((c / q4 2 % 4 : Nat) : Int):=by
   have:=hnum ⟨2,by omega⟩
   simpa [q4] using this
  have HN : Hid (bits BinOp.and IntKind.u8 ((c : Int) / 16) 3 = ((c / q4 2 % 4 : Nat) : Int)):=hn
  have hb : (0 : Int) ≤ ((c / q4 2 % 4 : Nat) : Int) ∧ ((c / q4 2 % 4 : Nat) : Int) < 4:=by omega
  clear hnum hn
  have hri' : (i : Int) % 4 = 2:=hri
  clear hri
  go_enter Tryz.func226,Tryz.ntmps226
  go_wp2
  go_ret
  refine ⟨ret_int ?_,rfl⟩
  first | (rw [HN.out]; unfold wrap64; omega) | (simp only [hc]; rw [HN.out]; unfold wrap64; omega) | exact HN.out | (simp only [hc]; exact HN.out)
 ·have hn : bits BinOp.and IntKind.u8 ((c : Int) / 64) 3 = ((c / q4 3 % 4 : Nat) : Int):=by
   have:=hnum ⟨3,by omega⟩
   simpa [q4] using this
  have HN : Hid (bits BinOp.and IntKind.u8 ((c : Int) / 64) 3 = ((c / q4 3 % 4 : Nat) : Int)):=hn
  have hb : (0 : Int) ≤ ((c / q4 3 % 4 : Nat) : Int) ∧ ((c / q4 3 % 4 : Nat) : Int) < 4:=by omega
  clear hnum hn
  have hri' : (i : Int) % 4 = 3:=hri
  clear hri
  go_enter Tryz.func226,Tryz.ntmps226
  go_wp2
  go_ret
  refine ⟨ret_int ?_,rfl⟩
  first | (rw [HN.out]; unfold wrap64; omega) | (simp only [hc]; rw [HN.out]; unfold wrap64; omega) | exact HN.out | (simp only [hc]; exact HN.out)
theorem kat_any (s : ByteArray) (i : Nat) (w : World) (hi : i < 1000) (h : i / 4 < s.size) :
  Calls Tryz.prog 226 #[.string s,.int .i64 (i : Int)] w fun e w' => e = .returned (.int .i64 ((s[i / 4].toNat / q4 (i % 4) % 4 : Nat) : Int)) ∧ w' = w :=
 kat_q s i (i / 4) (i % 4) w Om Om Om Om h
theorem clone_any (s : ByteArray) (w : World) (hs : s.size ≤ 2147483648) : Calls Tryz.prog 123 #[.string s] w fun e w' => e = .returned (.string s) ∧ Below w.heap.size w w':=by
 go_enter Tryz.func123,Tryz.ntmps123
 go_wp2_with fail
 refine (Tryz.stringslite_Clone s _ Om).mono ?_
 rintro e w1 ⟨rfl,hb1⟩
 go_wp2
 go_ret
 exact ⟨rfl,hb1⟩
theorem ba_nil {s : ByteArray} (h : s.size = 0) : s = ⟨#[]⟩:=by
 apply ByteArray.ext
 exact Array.eq_empty_of_size_eq_zero h
theorem toList_ne {s : ByteArray} (h : 0 < s.size) : (s.toList == []) = false:=by
 rw [beq_eq_false_iff_ne,ByteArray.toList_eq]
 intro e
 have:=congrArg List.length e
 rw [size_toList,List.length_nil] at this
 omega
theorem rbool_any (s : ByteArray) (w : World) (hs : s.size ≤ 2147483648) : Calls Tryz.prog 235 #[.string s] w (VR 2 s w):=by
 by_cases h0 : 0 < s.size
 ·have hne:=toList_ne h0
  have h0i : (0 : Int) < (s.size : Int):=by omega
  have h1i : (1 : Int) ≤ (s.size : Int):=by omega
  have HV : Hid (RF 2 s.data.toList (2,(s[0].toNat : Int),⟨#[]⟩) (s.extract 1 s.size).data.toList true):=by
   rw [ext_drop,front h0]
   exact rf_bool
  have hcb:=UInt8.toNat_lt s[0]
  go_enter Tryz.func235,Tryz.ntmps235
  go_wp2
  go_region
  all_goals
   go_wp2
   exact bodyPost_ret (v:=.tuple #[.agg #[.int .i64 2,.int .i64 (s[0].toNat : Int),.string ⟨#[]⟩],.string (s.extract 1 s.size),.bool true]) (by simp [results,Tryz.results235,go_sem]) rfl ⟨(2,(s[0].toNat : Int),⟨#[]⟩),s.extract 1 s.size,true,rfl,HV.out,by simp,Bz⟩
 ·obtain rfl:=ba_nil (by omega : s.size = 0)
  go_enter Tryz.func235,Tryz.ntmps235
  go_wp2
  exact bodyPost_ret (v:=.tuple #[.agg #[.int .i64 0,.int .i64 0,.string ⟨#[]⟩],.string ⟨#[]⟩,.bool false]) (by simp [results,Tryz.results235,go_sem]) rfl ⟨(0,0,⟨#[]⟩),⟨#[]⟩,false,rfl,rf_bool0,by simp,Bz⟩
theorem rtext_any (s : ByteArray) (w : World) (hs : s.size ≤ 2147483648) : Calls Tryz.prog 236 #[.string s] w (VR 3 s w):=by
 by_cases h0 : 0 < s.size
 ·have hne:=toList_ne h0
  have h0i : (0 : Int) < (s.size : Int):=by omega
  have hcb:=UInt8.toNat_lt s[0]
  have hdl : (s.data.toList.drop 1).length = s.size - 1:=by simp
  obtain ⟨c,hc⟩:=Vx (s[0].toNat)
  have hfr:=front h0
  by_cases hsh : s.size < 1 + c
  ·have hshi : (s.size : Int) < 1 + (c : Int):=by omega
   have HV : Hid (RF 3 s.data.toList (0,0,⟨#[]⟩) (⟨#[]⟩ : ByteArray).data.toList false):=by
    have:=rf_textshort (c:=s[0]) (l:=s.data.toList.drop 1) (v:=(0,0,⟨#[]⟩)) (r:=(⟨#[]⟩ : ByteArray).data.toList) (ok:=false) Om
    rw [← hfr] at this
    exact this
   clear hfr hdl
   go_enter Tryz.func236,Tryz.ntmps236
   go_wp2
   exact bodyPost_ret (v:=.tuple #[.agg #[.int .i64 0,.int .i64 0,.string ⟨#[]⟩],.string ⟨#[]⟩,.bool false]) (by simp [results,Tryz.results236,go_sem]) rfl ⟨(0,0,⟨#[]⟩),⟨#[]⟩,false,rfl,HV.out,Nat.zero_le _,Bz⟩
  ·have hshi : ¬ (s.size : Int) < 1 + (c : Int):=by omega
   obtain ⟨E,hE⟩:=Vx (1 + c)
   have hEi : (1 : Int) + (c : Int) = (E : Int):=by omega
   have hEs : (E : Int) ≤ (s.size : Int):=by omega
   have hE1 : (1 : Int) ≤ (E : Int):=by omega
   have hEn : ¬ (s.size : Int) < (E : Int):=by omega
   have hx : (s.extract 1 E).data.toList = (s.data.toList.drop 1).take c:=by
    rw [← hE]
    simp [ByteArray.data_extract]
   have HV : Hid (RF 3 s.data.toList (3,0,s.extract 1 E) (s.extract E s.size).data.toList true):=by
    have:=rf_text (c:=s[0]) (l:=s.data.toList.drop 1) (x:=s.extract 1 E) (by rw [hc]; exact hx)
    rw [← hfr,hc,List.drop_drop,hE] at this
    rw [ext_drop]
    exact this
   have hxs : (s.extract 1 E).size ≤ 2147483648:=by simp; omega
   clear hfr hdl hx hE
   go_enter Tryz.func236,Tryz.ntmps236
   go_wp2
   go_region_law (first
    | (go_simp; go_at_call 123; refine (clone_any (s.extract 1 E) _ hxs).mono ?_; rintro e w2 ⟨rfl,hb2⟩; dsimp only; (have k0 : w2.cell? ⟨w.heap.size,0,none⟩ = some (.int .i64 0):=cell_later hb2 Si); (have k1 : w2.cell? ⟨w.heap.size,1,none⟩ = some (.int .i64 0):=cell_later hb2 Si); (have k2 : w2.cell? ⟨w.heap.size,2,none⟩ = some (.string ⟨#[]⟩):=cell_later hb2 Si); (have kf : ∀ o,w2.frozen? ⟨w.heap.size,o,none⟩ = false:=fun o => by rw [hb2.frozen (p:=⟨w.heap.size,o,none⟩) Si]; simp)))
   all_goals
    go_wp2
    exact bodyPost_ret (v:=.tuple #[.agg #[.int .i64 3,.int .i64 0,.string (s.extract 1 E)],.string (s.extract E s.size),.bool true]) (by simp [results,Tryz.results236,go_sem, *]) rfl ⟨(3,0,s.extract 1 E),s.extract E s.size,true,rfl,HV.out,by simp,Bz⟩
 ·obtain rfl:=ba_nil (by omega : s.size = 0)
  go_enter Tryz.func236,Tryz.ntmps236
  go_wp2
  exact bodyPost_ret (v:=.tuple #[.agg #[.int .i64 0,.int .i64 0,.string ⟨#[]⟩],.string ⟨#[]⟩,.bool false]) (by simp [results,Tryz.results236,go_sem]) rfl ⟨(0,0,⟨#[]⟩),⟨#[]⟩,false,rfl,rf_text0,by simp,Bz⟩
theorem lo_take {s : ByteArray} {k : Nat} (h : k < s.size) : lo (s.data.toList.take (k + 1)) = lo (s.data.toList.take k) + 128 ^ k * (s[k].toNat % 128):=by
 rw [List.take_succ_eq_append_getElem (by simpa using h),lo_snoc,List.length_take,Nat.min_eq_left (by simp; omega)]
 rfl
theorem pow7 (k : Nat) : (128 : Nat) ^ k = 2 ^ (7 * k):=by rw [Nat.pow_mul]
theorem pow_far {k : Nat} (h : 10 ≤ k) : ∃ e,(128 : Nat) ^ k = 18446744073709551616 * e:=by
 refine ⟨2 ^ (7 * k - 64),?_⟩
 rw [pow7,show (18446744073709551616 : Nat) = 2 ^ 64 from rfl,← Nat.pow_add]
 congr 1
 omega
def pl (c k : Nat) : Nat:=128 ^ k * (c % 128) % 18446744073709551616
theorem pl_lt (c k : Nat) : pl c k < 18446744073709551616:=Nat.mod_lt _ Om
theorem shl_nat (c k : Nat) : IntKind.u64.wrap ((c : Int) % 128 * 2 ^ min (k * 7) 64) = (pl c k : Int):=by
 rw [IntKind.wrap_u64,Nat.mul_comm k 7]
 unfold pl
 by_cases h : 7 * k ≤ 64
 ·rw [Nat.min_eq_left h,pow7]
  simp [Int.mul_comm]
 ·rw [Nat.min_eq_right Om]
  obtain ⟨e,he⟩:=pow_far (k:=k) Om
  rw [he,Nat.mul_assoc,Nat.mul_mod_right]
  simp
theorem lo_step {L k c : Nat} (hL : L < 128 ^ k) : (pl c k % 128 ^ k = 0 ∨ 10 ≤ k) ∧ (k < 10 → L < 18446744073709551616) ∧ (L + 128 ^ k * (c % 128)) % 18446744073709551616 = (if 10 ≤ k then L % 18446744073709551616 else L + pl c k) ∧ (10 ≤ k → pl c k = 0):=by
 have hc : c % 128 < 128:=Nat.mod_lt _ Om
 unfold pl
 by_cases h : 10 ≤ k
 ·obtain ⟨e,he⟩:=pow_far h
  rw [if_pos h,he,Nat.mul_assoc]
  refine ⟨Or.inr h,fun g => by omega,by rw [Nat.add_mul_mod_self_left],fun _ => Nat.mul_mod_right _ _⟩
 ·rw [if_neg h]
  have hk : k = 0 ∨ k = 1 ∨ k = 2 ∨ k = 3 ∨ k = 4 ∨ k = 5 ∨ k = 6 ∨ k = 7 ∨ k = 8 ∨ k = 9:=by omega
  rcases hk with rfl | rfl | rfl | rfl | rfl | rfl | rfl | rfl | rfl | rfl <;> simp only [Nat.reducePow] at hL ⊢ <;> omega
theorem lo_or {L k c : Nat} (hL : L < 128 ^ k) : bits BinOp.or IntKind.u64 ((L % 18446744073709551616 : Nat) : Int) (pl c k : Int) = (((L + 128 ^ k * (c % 128)) % 18446744073709551616 : Nat) : Int):=by
 obtain ⟨h1,h2,h3,h4⟩:=lo_step (c:=c) hL
 rw [u64_or_nat _ _ (Nat.mod_lt _ Om) (pl_lt _ _),h3]
 by_cases h : 10 ≤ k
 ·rw [if_pos h,h4 h,Nat.or_zero]
 ·rw [if_neg h,Nat.mod_eq_of_lt (h2 Om),Nat.or_comm]
  rcases h1 with h1 | h1
  ·rw [pow7] at h1 hL
   rw [nat_join (7 * k) _ _ h1 hL,Nat.add_comm]
  ·omega
theorem rnum_any (s : ByteArray) (w : World) (hs : s.size ≤ 2147483648) : Calls Tryz.prog 234 #[.string s] w (VR 1 s w):=by
 go_enter Tryz.func234,Tryz.ntmps234
 go_wp2
 go_loopw [5,9] (fun v i wr => ∃ k : Nat,k ≤ s.size ∧ i = .int .i64 k ∧ (∃ x : Nat,v = .int .u64 (x : Int) ∧ x = lo (s.data.toList.take k) % 18446744073709551616) ∧ (∀ b ∈ s.data.toList.take k,128 ≤ b.toNat) ∧ wr = w.alloc (.cells #[.int .i64 0,.int .i64 0,.string ⟨#[]⟩] 73)) (fun _ i _ => s.size - (intOf i).toNat)
 case atStart => exact ⟨0,Nat.zero_le _,rfl,⟨0,rfl,by simp [lo]⟩,by simp,rfl⟩
 case round =>
  obtain ⟨k,hk,rfl,⟨x,rfl,hx⟩,hall,rfl⟩:=hrel
  have HA : Hid (∀ b ∈ s.data.toList.take k,128 ≤ b.toNat):=hall
  by_cases hlt : k < s.size
  ·have hcb:=UInt8.toNat_lt s[k]
   have h7 : (0 : Int) ≤ (k : Int) * 7:=by omega
   have h7' : ¬ (k : Int) * 7 < 0:=by omega
   obtain ⟨Y,hY⟩:=Vx (pl s[k].toNat k)
   have hsh:=shl_nat s[k].toNat k
   obtain ⟨X,hX⟩:=Vx (lo (s.data.toList.take (k + 1)) % 18446744073709551616)
   have hor : bits BinOp.or IntKind.u64 (x : Int) (Y : Int) = (X : Int):=by
    have hl:=lo_lt (s.data.toList.take k)
    rw [List.length_take,Nat.min_eq_left (by simp; omega)] at hl
    rw [hx,← hY,← hX,lo_or hl,lo_take hlt]
   rw [hY] at hsh
   have hXl : X < 18446744073709551616:=by rw [← hX]; exact Nat.mod_lt _ Om
   have HX : Hid (lo (s.data.toList.take (k + 1)) % 18446744073709551616 = X):=hX
   clear hx hall hX hY
   by_cases hc : s[k].toNat < 128
   ·have hci : (s[k].toNat : Int) < 128:=by omega
    have HV : Hid (RF 1 s.data.toList (1,unf X,⟨#[]⟩) (s.extract (k + 1) s.size).data.toList true):=by
     have:=rf_int (s:=s.data.toList) (i:=k) (by simpa using hlt) HA.out hc
     rw [HX.out] at this
     rw [ext_drop]
     exact this
    have hk1 : (k : Int) + 1 ≤ (s.size : Int):=by omega
    have hk2 : IntKind.i64.wrap ((k : Int) + 1) = (k : Int) + 1:=by rw [IntKind.wrap_i64]; omega
    have hk3 : (0 : Int) ≤ (k : Int) + 1:=by omega
    have hk4 : ((k : Int) + 1).toNat = k + 1:=by omega
    clear hc
    go_wp2
    go_region_law (first | (go_simp; go_at_call 244; refine (unfold_any X _ hXl).mono ?_; rintro e w2 ⟨rfl,rfl⟩; dsimp only))
    all_goals
     go_wp2
     exact bodyPost_ret (v:=.tuple #[.agg #[.int .i64 1,.int .i64 (unf X),.string ⟨#[]⟩],.string (s.extract (k + 1) s.size),.bool true]) (by simp [results,Tryz.results234,go_sem]) rfl ⟨(1,unf X,⟨#[]⟩),s.extract (k + 1) s.size,true,rfl,HV.out,by simp,Bz⟩
   ·have hci : ¬ (s[k].toNat : Int) < 128:=by omega
    have HA1 : Hid (∀ b ∈ s.data.toList.take (k + 1),128 ≤ b.toNat):=by
     show ∀ b ∈ s.data.toList.take (k + 1),128 ≤ b.toNat
     rw [List.take_succ_eq_append_getElem (by simpa using hlt)]
     intro b hb
     rcases Zma hb with hb | hb
     ·exact HA.out b hb
     ·rw [Zms hb]
      show 128 ≤ s[k].toNat
      omega
    clear hc
    go_wp2
    go_roundw
    case rel => exact ⟨k + 1,by omega,by go_num,⟨X,rfl,HX.out.symm⟩,HA1.out,trivial⟩
    case measure => simp [intOf]; omega
  ·have hk' : k = s.size:=by omega
   subst hk'
   have HV : Hid (RF 1 s.data.toList (0,0,⟨#[]⟩) (⟨#[]⟩ : ByteArray).data.toList false):=rf_int0 s.size (Or.inr Si) HA.out
   clear hall hx
   go_wp2
   exact bodyPost_ret (v:=.tuple #[.agg #[.int .i64 0,.int .i64 0,.string ⟨#[]⟩],.string ⟨#[]⟩,.bool false]) (by simp [results,Tryz.results234,go_sem]) rfl ⟨(0,0,⟨#[]⟩),⟨#[]⟩,false,rfl,HV.out,Nat.zero_le _,Bz⟩
end RR
end Go.Proofs.YtmmmkjhpmlfopaaGreatDoor
