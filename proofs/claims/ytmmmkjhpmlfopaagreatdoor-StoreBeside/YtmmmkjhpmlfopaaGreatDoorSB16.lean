/- ZK4 ZM22 ZK5 ZK6 ZM23 ZK9 -/
import Derived.Test.YtmmmkjhpmlfopaaGreatDoorSB15
import Derived.Lib.Replace
import Derived.Laws.BitsAllLaws
set_option maxHeartbeats 4000000
set_option maxRecDepth 100000
namespace Go.Proofs.YtmmmkjhpmlfopaaGreatDoor
open Go.RowKit
namespace KK
theorem cells1 (w : World) (x : Int) (c : UInt8) (t : TypeId) (h : x = (c.toNat : Int)) : ∀ j u,(bv [c])[j]? = some u → (w.alloc (.cells #[.int .u8 x] t)).cell? ((⟨w.heap.size,0,none⟩ : Addr).add j) = some u:=by
 subst h
 intro j u hj
 match j,hj with
 | 0,hj => simp [bv] at hj; subst hj; simp [Addr.add]
theorem word_any (B n N : Nat) (v : Value) (xs : List UInt8) (w : World) (hown : w.ownsRow B 5 1 v n (bv xs)) (hn : n ≤ 1000000000000) (hB : B ≤ w.heap.size) (hN : N < 18446744073709551616) :
  Calls Tryz.prog 184 #[v,.int .u64 (N : Int)] w fun e w' => ∃ v',e = .returned v' ∧ w'.ownsRow B 5 1 v' (n + 8) (bv (xs ++ be8 N)) ∧ Below B w w':=by
 obtain ⟨i0,hi,hz0,hz1,hz2⟩:=info_parts Tryz.info5
 have HN : Hid (N < 18446744073709551616):=hN
 have hN0 : (0 : Int) ≤ (N : Int):=by omega
 clear hN
 go_enter Tryz.func184,Tryz.ntmps184
 go_wp2
 go_loopw [0,5] (fun v i wr => ∃ k : Nat,k ≤ 8 ∧ i = .int .i64 (56 - 8 * (k : Int)) ∧ wr.ownsRow B 5 1 v (n + k) (bv (xs ++ (be8 N).take k)) ∧ Below B w wr) (fun _ i _ => (intOf i + 8).toNat)
 case atStart => exact ⟨0,Nat.zero_le _,rfl,by simpa using hown,Bxr _ _⟩
 case round =>
  clear hown
  obtain ⟨k,hk,rfl,hown,hb⟩:=hrel
  have hsz:=hb.size
  have hlt:=hown.lt
  by_cases h8 : k = 8
  ·subst h8
   have ht : (be8 N).take 8 = be8 N:=rfl
   rw [ht] at hown
   go_wp2
   go_ret
   exact ⟨_,rfl,hown,hb⟩
  ·have hk7 : k ≤ 7:=by omega
   clear hk h8
   rcases (by omega : k = 0 ∨ k = 1 ∨ k = 2 ∨ k = 3 ∨ k = 4 ∨ k = 5 ∨ k = 6 ∨ k = 7) with rfl | rfl | rfl | rfl | rfl | rfl | rfl | rfl
   ·go_wp2_with (first | (at_builtin; refine wpList_append_own _ rfl _ _ 114 rfl B 5 i0 (.int .u8 0) 1 1 Tryz.underlying114 hi hz0 hz1 hz2 rfl (by decide) _ _ _ rfl (hown.alloc _) ⟨wr.heap.size,0,none⟩ 1 1 (bv [(UInt8.ofNat (N / 72057594037927936))]) rfl rfl ?c1 ?c2 ?c3 ?c4 ?c5 ?_))
    case c1 => exact cells1 wr _ _ _ (by rw [UInt8.toNat_ofNat']; omega)
    case c2 => exact bv_one _
    case c3 => unfold maxLen; omega
    case c4 => omega
    case c5 => simp; omega
    ·intro v' w1 hown' hgrow _
     have hbb : Below B w w1:=(hb.alloc Om _).grown hgrow (by simp; omega) fun k hk => (hlt k hk).1
     have ho2 : w1.ownsRow B 5 1 v' (n + 1) (bv (xs ++ (be8 N).take 1)):=by
      have e : xs ++ (be8 N).take 1 = (xs ++ (be8 N).take 0) ++ [(UInt8.ofNat (N / 72057594037927936))]:=by rw [Zas]; rfl
      rw [e,bv_append]
      first | exact hown' | simpa using hown'
     clear hown' hgrow hown hlt
     go_wp2
     go_roundw
     case rel => exact ⟨1,by omega,by go_num,ho2,hbb⟩
     case measure => simp [intOf]
   ·go_wp2_with (first | (at_builtin; refine wpList_append_own _ rfl _ _ 114 rfl B 5 i0 (.int .u8 0) 1 1 Tryz.underlying114 hi hz0 hz1 hz2 rfl (by decide) _ _ _ rfl (hown.alloc _) ⟨wr.heap.size,0,none⟩ 1 1 (bv [(UInt8.ofNat (N / 281474976710656))]) rfl rfl ?c1 ?c2 ?c3 ?c4 ?c5 ?_))
    case c1 => exact cells1 wr _ _ _ (by rw [UInt8.toNat_ofNat']; omega)
    case c2 => exact bv_one _
    case c3 => unfold maxLen; omega
    case c4 => omega
    case c5 => simp; omega
    ·intro v' w1 hown' hgrow _
     have hbb : Below B w w1:=(hb.alloc Om _).grown hgrow (by simp; omega) fun k hk => (hlt k hk).1
     have ho2 : w1.ownsRow B 5 1 v' (n + 2) (bv (xs ++ (be8 N).take 2)):=by
      have e : xs ++ (be8 N).take 2 = (xs ++ (be8 N).take 1) ++ [(UInt8.ofNat (N / 281474976710656))]:=by rw [Zas]; rfl
      rw [e,bv_append]
      first | exact hown' | simpa using hown'
     clear hown' hgrow hown hlt
     go_wp2
     go_roundw
     case rel => exact ⟨2,by omega,by go_num,ho2,hbb⟩
     case measure => simp [intOf]
   ·go_wp2_with (first | (at_builtin; refine wpList_append_own _ rfl _ _ 114 rfl B 5 i0 (.int .u8 0) 1 1 Tryz.underlying114 hi hz0 hz1 hz2 rfl (by decide) _ _ _ rfl (hown.alloc _) ⟨wr.heap.size,0,none⟩ 1 1 (bv [(UInt8.ofNat (N / 1099511627776))]) rfl rfl ?c1 ?c2 ?c3 ?c4 ?c5 ?_))
    case c1 => exact cells1 wr _ _ _ (by rw [UInt8.toNat_ofNat']; omega)
    case c2 => exact bv_one _
    case c3 => unfold maxLen; omega
    case c4 => omega
    case c5 => simp; omega
    ·intro v' w1 hown' hgrow _
     have hbb : Below B w w1:=(hb.alloc Om _).grown hgrow (by simp; omega) fun k hk => (hlt k hk).1
     have ho2 : w1.ownsRow B 5 1 v' (n + 3) (bv (xs ++ (be8 N).take 3)):=by
      have e : xs ++ (be8 N).take 3 = (xs ++ (be8 N).take 2) ++ [(UInt8.ofNat (N / 1099511627776))]:=by rw [Zas]; rfl
      rw [e,bv_append]
      first | exact hown' | simpa using hown'
     clear hown' hgrow hown hlt
     go_wp2
     go_roundw
     case rel => exact ⟨3,by omega,by go_num,ho2,hbb⟩
     case measure => simp [intOf]
   ·go_wp2_with (first | (at_builtin; refine wpList_append_own _ rfl _ _ 114 rfl B 5 i0 (.int .u8 0) 1 1 Tryz.underlying114 hi hz0 hz1 hz2 rfl (by decide) _ _ _ rfl (hown.alloc _) ⟨wr.heap.size,0,none⟩ 1 1 (bv [(UInt8.ofNat (N / 4294967296))]) rfl rfl ?c1 ?c2 ?c3 ?c4 ?c5 ?_))
    case c1 => exact cells1 wr _ _ _ (by rw [UInt8.toNat_ofNat']; omega)
    case c2 => exact bv_one _
    case c3 => unfold maxLen; omega
    case c4 => omega
    case c5 => simp; omega
    ·intro v' w1 hown' hgrow _
     have hbb : Below B w w1:=(hb.alloc Om _).grown hgrow (by simp; omega) fun k hk => (hlt k hk).1
     have ho2 : w1.ownsRow B 5 1 v' (n + 4) (bv (xs ++ (be8 N).take 4)):=by
      have e : xs ++ (be8 N).take 4 = (xs ++ (be8 N).take 3) ++ [(UInt8.ofNat (N / 4294967296))]:=by rw [Zas]; rfl
      rw [e,bv_append]
      first | exact hown' | simpa using hown'
     clear hown' hgrow hown hlt
     go_wp2
     go_roundw
     case rel => exact ⟨4,by omega,by go_num,ho2,hbb⟩
     case measure => simp [intOf]
   ·go_wp2_with (first | (at_builtin; refine wpList_append_own _ rfl _ _ 114 rfl B 5 i0 (.int .u8 0) 1 1 Tryz.underlying114 hi hz0 hz1 hz2 rfl (by decide) _ _ _ rfl (hown.alloc _) ⟨wr.heap.size,0,none⟩ 1 1 (bv [(UInt8.ofNat (N / 16777216))]) rfl rfl ?c1 ?c2 ?c3 ?c4 ?c5 ?_))
    case c1 => exact cells1 wr _ _ _ (by rw [UInt8.toNat_ofNat']; omega)
    case c2 => exact bv_one _
    case c3 => unfold maxLen; omega
    case c4 => omega
    case c5 => simp; omega
    ·intro v' w1 hown' hgrow _
     have hbb : Below B w w1:=(hb.alloc Om _).grown hgrow (by simp; omega) fun k hk => (hlt k hk).1
     have ho2 : w1.ownsRow B 5 1 v' (n + 5) (bv (xs ++ (be8 N).take 5)):=by
      have e : xs ++ (be8 N).take 5 = (xs ++ (be8 N).take 4) ++ [(UInt8.ofNat (N / 16777216))]:=by rw [Zas]; rfl
      rw [e,bv_append]
      first | exact hown' | simpa using hown'
     clear hown' hgrow hown hlt
     go_wp2
     go_roundw
     case rel => exact ⟨5,by omega,by go_num,ho2,hbb⟩
     case measure => simp [intOf]
   ·go_wp2_with (first | (at_builtin; refine wpList_append_own _ rfl _ _ 114 rfl B 5 i0 (.int .u8 0) 1 1 Tryz.underlying114 hi hz0 hz1 hz2 rfl (by decide) _ _ _ rfl (hown.alloc _) ⟨wr.heap.size,0,none⟩ 1 1 (bv [(UInt8.ofNat (N / 65536))]) rfl rfl ?c1 ?c2 ?c3 ?c4 ?c5 ?_))
    case c1 => exact cells1 wr _ _ _ (by rw [UInt8.toNat_ofNat']; omega)
    case c2 => exact bv_one _
    case c3 => unfold maxLen; omega
    case c4 => omega
    case c5 => simp; omega
    ·intro v' w1 hown' hgrow _
     have hbb : Below B w w1:=(hb.alloc Om _).grown hgrow (by simp; omega) fun k hk => (hlt k hk).1
     have ho2 : w1.ownsRow B 5 1 v' (n + 6) (bv (xs ++ (be8 N).take 6)):=by
      have e : xs ++ (be8 N).take 6 = (xs ++ (be8 N).take 5) ++ [(UInt8.ofNat (N / 65536))]:=by rw [Zas]; rfl
      rw [e,bv_append]
      first | exact hown' | simpa using hown'
     clear hown' hgrow hown hlt
     go_wp2
     go_roundw
     case rel => exact ⟨6,by omega,by go_num,ho2,hbb⟩
     case measure => simp [intOf]
   ·go_wp2_with (first | (at_builtin; refine wpList_append_own _ rfl _ _ 114 rfl B 5 i0 (.int .u8 0) 1 1 Tryz.underlying114 hi hz0 hz1 hz2 rfl (by decide) _ _ _ rfl (hown.alloc _) ⟨wr.heap.size,0,none⟩ 1 1 (bv [(UInt8.ofNat (N / 256))]) rfl rfl ?c1 ?c2 ?c3 ?c4 ?c5 ?_))
    case c1 => exact cells1 wr _ _ _ (by rw [UInt8.toNat_ofNat']; omega)
    case c2 => exact bv_one _
    case c3 => unfold maxLen; omega
    case c4 => omega
    case c5 => simp; omega
    ·intro v' w1 hown' hgrow _
     have hbb : Below B w w1:=(hb.alloc Om _).grown hgrow (by simp; omega) fun k hk => (hlt k hk).1
     have ho2 : w1.ownsRow B 5 1 v' (n + 7) (bv (xs ++ (be8 N).take 7)):=by
      have e : xs ++ (be8 N).take 7 = (xs ++ (be8 N).take 6) ++ [(UInt8.ofNat (N / 256))]:=by rw [Zas]; rfl
      rw [e,bv_append]
      first | exact hown' | simpa using hown'
     clear hown' hgrow hown hlt
     go_wp2
     go_roundw
     case rel => exact ⟨7,by omega,by go_num,ho2,hbb⟩
     case measure => simp [intOf]
   ·go_wp2_with (first | (at_builtin; refine wpList_append_own _ rfl _ _ 114 rfl B 5 i0 (.int .u8 0) 1 1 Tryz.underlying114 hi hz0 hz1 hz2 rfl (by decide) _ _ _ rfl (hown.alloc _) ⟨wr.heap.size,0,none⟩ 1 1 (bv [(UInt8.ofNat N)]) rfl rfl ?c1 ?c2 ?c3 ?c4 ?c5 ?_))
    case c1 => exact cells1 wr _ _ _ (by rw [UInt8.toNat_ofNat']; omega)
    case c2 => exact bv_one _
    case c3 => unfold maxLen; omega
    case c4 => omega
    case c5 => simp; omega
    ·intro v' w1 hown' hgrow _
     have hbb : Below B w w1:=(hb.alloc Om _).grown hgrow (by simp; omega) fun k hk => (hlt k hk).1
     have ho2 : w1.ownsRow B 5 1 v' (n + 8) (bv (xs ++ (be8 N).take 8)):=by
      have e : xs ++ (be8 N).take 8 = (xs ++ (be8 N).take 7) ++ [(UInt8.ofNat N)]:=by rw [Zas]; rfl
      rw [e,bv_append]
      first | exact hown' | simpa using hown'
     clear hown' hgrow hown hlt
     go_wp2
     go_roundw
     case rel => exact ⟨8,by omega,by go_num,ho2,hbb⟩
     case measure => simp [intOf]
theorem rep_skip {b : UInt8} (h : b ≠ 0) (nw : List UInt8) : ∀ (k : Nat) (l : List UInt8),k ≤ Lib.count l [0] → Lib.replaceK [0] nw k (b :: l) = b :: Lib.replaceK [0] nw k l
 | 0,l,_ => rfl
 | k + 1,l,hk => by
  obtain ⟨j,hj⟩:=Lib.index_of_count (s:=l) (old:=[0]) Om
  have hp : ([0] : List UInt8).isPrefixOf (b :: l) = false:=by simp [List.isPrefixOf,Ne.symm h]
  have hix : Lib.index (b :: l) [0] = ((j + 1 : Nat) : Int):=by
   rw [Lib.index,hp]
   simp only [Bool.false_eq_true,if_false]
   rw [if_neg (by rw [hj]; simp),hj]
   omega
  rw [Lib.replaceK_hit _ _ _ _ _ hj,Lib.replaceK_hit _ _ _ _ _ hix]
  rw [List.take_succ_cons,List.length_singleton,List.drop_succ_cons,List.cons_append,List.cons_append]
theorem rep_esc : ∀ l : List UInt8,Lib.replaceK [0] [0,255] (Lib.count l [0]) l = esc l
 | [] => by rw [Lib.count_one]; rfl
 | b :: l => by
  by_cases h : b = 0
  ·subst h
   have hix : Lib.index (0 :: l) [0] = ((0 : Nat) : Int):=by rw [Lib.index]; simp [List.isPrefixOf]
   rw [Lib.count_cons_eq,Nat.add_comm,Lib.replaceK_hit _ _ _ _ _ hix,esc_cons,esc1_zero]
   simp [rep_esc l]
  ·rw [Lib.count_cons_ne _ _ _ h,rep_skip h _ _ _ Zlr,rep_esc l,esc_cons,esc1_other h]
   rfl
theorem repAll_esc (l : List UInt8) : Lib.replaceAll l [0] [0,255] = esc l:=by
 unfold Lib.replaceAll Lib.replace Lib.replaceNum
 rw [if_neg (by decide),if_pos (Or.inl (by decide)),rep_esc]
theorem cells2 (w : World) (x : Int) (b c : UInt8) (t : TypeId) (h : x = (c.toNat : Int)) : ∀ j u,(bv [b,c])[j]? = some u → (w.alloc (.cells #[.int .u8 (b.toNat : Int),.int .u8 x] t)).cell? ((⟨w.heap.size,0,none⟩ : Addr).add j) = some u:=by
 subst h
 intro j u hj
 match j,hj with
 | 0,hj => simp [bv] at hj; subst hj; simp [Addr.add]
 | 1,hj => simp [bv] at hj; subst hj; simp [Addr.add]
theorem strCells_bv (l : List UInt8) : Lib.strCells ⟨l.toArray⟩ = bv l:=by simp [Lib.strCells,bv]
theorem word_int (B n N : Nat) (x : Int) (v : Value) (xs : List UInt8) (w : World) (hx : x = (N : Int)) (hown : w.ownsRow B 5 1 v n (bv xs)) (hn : n ≤ 1000000000000) (hB : B ≤ w.heap.size) (hN : N < 18446744073709551616) :
  Calls Tryz.prog 184 #[v,.int .u64 x] w fun e w' => ∃ v',e = .returned v' ∧ w'.ownsRow B 5 1 v' (n + 8) (bv (xs ++ be8 N)) ∧ Below B w w':=by
 subst hx
 exact word_any B n N v xs w hown hn hB hN
def AV (B n : Nat) (xs : List UInt8) (u : V3) (w : World) (e : Ending) (w' : World) : Prop:=∃ v',e = .returned v' ∧ w'.ownsRow B 5 1 v' (n + (kb u).length) (bv (xs ++ kb u)) ∧ Below B w w'
theorem av_null (B n : Nat) (v : Value) (xs : List UInt8) (w : World) (hown : w.ownsRow B 5 1 v n (bv xs)) (hn : n ≤ 1000000000) (hB : B ≤ w.heap.size) :
  Calls Tryz.prog 132 #[v,.agg #[.int .i64 0,.int .i64 0,.string ⟨#[]⟩]] w (AV B n xs (0,0,⟨#[]⟩) w):=by
 obtain ⟨i0,hi,hz0,hz1,hz2⟩:=info_parts Tryz.info5
 have hlt:=hown.lt
 go_enter Tryz.func132,Tryz.ntmps132
 go_wp2_with (first | (at_builtin; refine wpList_append_own _ rfl _ _ 114 rfl B 5 i0 (.int .u8 0) 1 1 Tryz.underlying114 hi hz0 hz1 hz2 rfl (by decide) _ _ _ rfl ((hown.alloc _).alloc _) ⟨w.heap.size + 1,0,none⟩ 1 1 (bv [1]) rfl rfl ?c1 ?c2 ?c3 ?c4 ?c5 ?_))
 case c1 =>
  have:=cells1 (w.alloc (.cells #[.int .i64 0,.int .i64 0,.string ⟨#[]⟩] 73)) 1 1 5 rfl
  simpa using this
 case c2 => exact bv_one _
 case c3 => unfold maxLen; omega
 case c4 => omega
 case c5 => simp; omega
 ·intro v' w1 hown' hgrow _
  rw [← bv_append] at hown'
  have hbb : Below B w w1:=(((Bxr _ _).alloc hB _).alloc (by simp; omega) _).grown hgrow (by simp; omega) fun k hk => (hlt k hk).1
  clear hgrow
  go_wp2
  go_ret
  exact ⟨_,rfl,hown',hbb⟩
theorem av_bool (B n : Nat) (v : Value) (xs : List UInt8) (w : World) (c : Int) (hc : c = 0 ∨ c = 1) (hown : w.ownsRow B 5 1 v n (bv xs)) (hn : n ≤ 1000000000) (hB : B ≤ w.heap.size) :
  Calls Tryz.prog 132 #[v,.agg #[.int .i64 2,.int .i64 c,.string ⟨#[]⟩]] w (AV B n xs (2,c,⟨#[]⟩) w):=by
 obtain ⟨i0,hi,hz0,hz1,hz2⟩:=info_parts Tryz.info5
 have hlt:=hown.lt
 rcases hc with rfl | rfl
 ·go_enter Tryz.func132,Tryz.ntmps132
  go_wp2_with (first | (at_builtin; refine wpList_append_own _ rfl _ _ 114 rfl B 5 i0 (.int .u8 0) 1 1 Tryz.underlying114 hi hz0 hz1 hz2 rfl (by decide) _ _ _ rfl ((hown.alloc _).alloc _) ⟨w.heap.size + 1,0,none⟩ 2 2 (bv [3,0]) rfl rfl ?c1 ?c2 ?c3 ?c4 ?c5 ?_))
  case c1 =>
   have:=cells2 (w.alloc (.cells #[.int .i64 2,.int .i64 0,.string ⟨#[]⟩] 73)) 0 3 0 5 rfl
   simpa using this
  case c2 => exact bv_one _
  case c3 => unfold maxLen; omega
  case c4 => omega
  case c5 => simp; omega
  ·intro v' w1 hown' hgrow _
   rw [← bv_append] at hown'
   have hbb : Below B w w1:=(((Bxr _ _).alloc hB _).alloc (by simp; omega) _).grown hgrow (by simp; omega) fun k hk => (hlt k hk).1
   clear hgrow
   go_wp2
   go_ret
   exact ⟨_,rfl,hown',hbb⟩
 ·go_enter Tryz.func132,Tryz.ntmps132
  go_wp2_with (first | (at_builtin; refine wpList_append_own _ rfl _ _ 114 rfl B 5 i0 (.int .u8 0) 1 1 Tryz.underlying114 hi hz0 hz1 hz2 rfl (by decide) _ _ _ rfl ((hown.alloc _).alloc _) ⟨w.heap.size + 1,0,none⟩ 2 2 (bv [3,1]) rfl rfl ?c1 ?c2 ?c3 ?c4 ?c5 ?_))
  case c1 =>
   have:=cells2 (w.alloc (.cells #[.int .i64 2,.int .i64 1,.string ⟨#[]⟩] 73)) 1 3 1 5 rfl
   simpa using this
  case c2 => exact bv_one _
  case c3 => unfold maxLen; omega
  case c4 => omega
  case c5 => simp; omega
  ·intro v' w1 hown' hgrow _
   rw [← bv_append] at hown'
   have hbb : Below B w w1:=(((Bxr _ _).alloc hB _).alloc (by simp; omega) _).grown hgrow (by simp; omega) fun k hk => (hlt k hk).1
   clear hgrow
   go_wp2
   go_ret
   exact ⟨_,rfl,hown',hbb⟩
theorem av_int (B n : Nat) (v : Value) (xs : List UInt8) (w : World) (c : Int) (hc1 : -4611686018427387904 ≤ c) (hc2 : c ≤ 4611686018427387904) (hown : w.ownsRow B 5 1 v n (bv xs)) (hn : n ≤ 1000000000) (hB : B ≤ w.heap.size) :
  Calls Tryz.prog 132 #[v,.agg #[.int .i64 1,.int .i64 c,.string ⟨#[]⟩]] w (AV B n xs (1,c,⟨#[]⟩) w):=by
 obtain ⟨i0,hi,hz0,hz1,hz2⟩:=info_parts Tryz.info5
 have hlt:=hown.lt
 obtain ⟨N,hN⟩ : ∃ N : Nat,(c + 9223372036854775808).toNat = N:=⟨_,rfl⟩
 have hN2 : N < 18446744073709551616:=by omega
 have hne : some w.heap.size ≠ v.ownBlock:=fun h => absurd (hlt _ h.symm).2 (Nat.lt_irrefl _)
 have HC1 : ∀ j u,(bv [2])[j]? = some u → (((w.alloc (.cells #[.int .i64 1,.int .i64 c,.string ⟨#[]⟩] 73)).alloc (.cells #[.int .u8 2] 5)).drew).cell? ((⟨w.heap.size + 1,0,none⟩ : Addr).add j) = some u:=by
  intro j u hj
  have:=cells1 (w.alloc (.cells #[.int .i64 1,.int .i64 c,.string ⟨#[]⟩] 73)) 2 2 5 rfl j u hj
  simpa using this
 go_enter Tryz.func132,Tryz.ntmps132
 go_wp2
 go_region_law (first
  | (refine step_append_lies _ rfl _ _ 114 rfl B 5 i0 (.int .u8 0) 1 1 Tryz.underlying114 hi hz0 hz1 hz2 rfl (by decide) v n (bv xs) rfl (ownsRow_drew ((hown.alloc _).alloc _)) ⟨w.heap.size + 1,0,none⟩ 1 1 (bv [2]) rfl rfl HC1 (bv_one _) (by decide) (by unfold maxLen; omega) Om (by simp; omega) (w.heap.size + 1 + 1) Si ?_; intro g' cap' w1 hown' hgrow _ hlt1; (have hS : w1.cell? ⟨w.heap.size,1,none⟩ = some (.int .i64 c):=(hgrow.cell_far ⟨w.heap.size,1,none⟩ (by simp; omega) hne).trans Si); (have hbb : Below B w w1:=((((Bxr _ _).alloc hB _).alloc (by simp; omega) _).drew).grown hgrow (by simp; omega) fun k hk => (hlt k hk).1))
  | (go_simp; go_at_call 184; refine (word_int B (n + 1) N _ _ (xs ++ [2]) _ (by rw [IntKind.wrap_u64,IntKind.wrap_u64]; omega) (by rw [bv_append]; exact hown') Om (by have:=hbb.size; omega) hN2).mono ?_; rintro e w2 ⟨v',rfl,hown2,hb2⟩; dsimp only))
 all_goals
  go_wp2
  go_ret
  refine ⟨v',rfl,?_,hbb.trans hb2⟩
  rw [kb_int rfl]
  simp only [hN]
  simpa [Nat.add_assoc,be8_length] using hown2
theorem own_later {w w' : World} {B : Nat} {e : TypeId} {size : Nat} {v : Value} {n : Nat} {xs : List Value} (h : w.ownsRow B e size v n xs) (hb : Below w.heap.size w w') : w'.ownsRow B e size v n xs:=by
 have hl:=h.lt
 obtain ⟨h1,h2 | ⟨g,cap,cur,rfl,a,b,c⟩⟩:=h
 ·exact ⟨h1,Or.inl h2⟩
 ·exact ⟨h1,Or.inr ⟨g,cap,cur,rfl,a,(hb.block g (hl g rfl).2).trans b,c⟩⟩
def ML (w : World) : Prop:=∃ m,w.cell? ⟨0,0,none⟩ = some (.int .i64 m)
theorem ML.later {w w' : World} {B : Nat} (h : ML w) (hb : Below B w w') (h0 : 0 < B) : ML w':=by
 obtain ⟨m,h⟩:=h
 exact ⟨m,by rw [hb.cell (p:=⟨0,0,none⟩) h0]; exact h⟩
theorem av_text (B n : Nat) (v : Value) (xs : List UInt8) (w : World) (s : ByteArray) (hs : s.size ≤ 64) (hown : w.ownsRow B 5 1 v n (bv xs)) (hn : n ≤ 1000000000) (hB : B ≤ w.heap.size) (h0 : 0 < B) (hm : ML w) :
  Calls Tryz.prog 132 #[v,.agg #[.int .i64 3,.int .i64 0,.string s]] w (AV B n xs (3,0,s) w):=by
 obtain ⟨i0,hi,hz0,hz1,hz2⟩:=info_parts Tryz.info5
 have hlt:=hown.lt
 have hne : some w.heap.size ≠ v.ownBlock:=fun h => absurd (hlt _ h.symm).2 (Nat.lt_irrefl _)
 go_enter Tryz.func132,Tryz.ntmps132
 go_wp2_with (first | (at_builtin; refine wpList_append_own _ rfl _ _ 114 rfl B 5 i0 (.int .u8 0) 1 1 Tryz.underlying114 hi hz0 hz1 hz2 rfl (by decide) _ _ _ rfl ((hown.alloc _).alloc _) ⟨w.heap.size + 1,0,none⟩ 1 1 (bv [4]) rfl rfl ?c1 ?c2 ?c3 ?c4 ?c5 ?_))
 case c1 =>
  have:=cells1 (w.alloc (.cells #[.int .i64 3,.int .i64 0,.string s] 73)) 4 4 5 rfl
  simpa using this
 case c2 => exact bv_one _
 case c3 => unfold maxLen; omega
 case c4 => omega
 case c5 => simp; omega
 ·intro v1 w1 hown1 hgrow1 _
  rw [← bv_append] at hown1
  have hb1 : Below B w w1:=(((Bxr _ _).alloc hB _).alloc (by simp; omega) _).grown hgrow1 (by simp; omega) fun k hk => (hlt k hk).1
  have hS : w1.cell? ⟨w.heap.size,2,none⟩ = some (.string s):=(hgrow1.cell_far ⟨w.heap.size,2,none⟩ (by simp; omega) hne).trans Si
  have hm1:=hm.later hb1 h0
  have hz1':=hb1.size
  have hlt1:=hown1.lt
  clear hgrow1 hown hm
  obtain ⟨m,hm⟩:=hm1
  go_wp2_with fail
  have hcb : Lib.countB s ⟨#[0]⟩ ≤ s.size:=Lib.countB_le ⟨#[0]⟩ (by decide) s.size s Zlr
  refine (Tryz.strings_ReplaceAll s ⟨#[0]⟩ ⟨#[0,255]⟩ m _ Om hm (by decide) (by have : (⟨#[0,255]⟩ : ByteArray).size = 2:=rfl; rw [this]; omega)).mono ?_
  rintro e w2 ⟨rfl,hb2⟩
  have he : Lib.replaceAll s.data.toList (⟨#[0]⟩ : ByteArray).data.toList (⟨#[0,255]⟩ : ByteArray).data.toList = esc s.data.toList:=repAll_esc _
  rw [he]
  have hel:=esc_len s.data.toList
  have hsl : s.data.toList.length = s.size:=by simp
  have hown2:=own_later hown1 hb2
  have hz2':=hb2.size
  have hesz : (⟨(esc s.data.toList).toArray⟩ : ByteArray).size = (esc s.data.toList).length:=rfl
  clear hown1 hm
  go_wp2_with (first | (at_builtin; refine Lib.wpList_append_own_string _ rfl _ _ 114 9 rfl B 5 i0 Tryz.underlying114 Tryz.underlying9 hi hz0 hz1 hz2 _ _ _ rfl hown2 ⟨(esc s.data.toList).toArray⟩ rfl ?d1 ?d2 ?d3 ?_))
  case d1 => rw [hesz]; unfold maxLen; omega
  case d2 => rw [hesz]; omega
  case d3 => omega
  ·intro v3 w3 hown3 hgrow3 _
   rw [strCells_bv,← bv_append] at hown3
   have hb3 : Below B w w3:=(hb1.trans (hb2.mono Om)).grown hgrow3 Om fun k hk => (hlt1 k hk).1
   have hz3:=hb3.size
   have hlt3:=hown3.lt
   clear hgrow3 hown2
   go_wp2_with (first | (at_builtin; refine Lib.wpList_append_own_string _ rfl _ _ 114 9 rfl B 5 i0 Tryz.underlying114 Tryz.underlying9 hi hz0 hz1 hz2 _ _ _ rfl hown3 ⟨#[0,0]⟩ rfl ?d1 ?d2 ?d3 ?_))
   case d1 => unfold maxLen; show n + 1 + (esc s.data.toList).length + 2 ≤ _; omega
   case d2 => show n + 1 + (esc s.data.toList).length + 2 ≤ _; omega
   case d3 => omega
   ·intro v4 w4 hown4 hgrow4 _
    have e4 : Lib.strCells ⟨#[0,0]⟩ = bv [0,0]:=rfl
    rw [e4,← bv_append] at hown4
    have hb4 : Below B w w4:=hb3.grown hgrow4 Om fun k hk => (hlt3 k hk).1
    clear hgrow4 hown3
    go_wp2
    go_ret
    refine ⟨v4,rfl,?_,hb4⟩
    rw [kb_text rfl]
    have e5 : n + (4 :: (esc s.data.toList ++ [0,0])).length = n + 1 + (esc s.data.toList).length + 2:=by simp; omega
    rw [e5]
    simpa using hown4
theorem av_any (B n : Nat) (v : Value) (xs : List UInt8) (u : V3) (w : World) (hr : V3.right u = true) (hown : w.ownsRow B 5 1 v n (bv xs)) (hn : n ≤ 1000000000) (hB : B ≤ w.heap.size) (h0 : 0 < B) (hm : ML w) :
  Calls Tryz.prog 132 #[v,.agg #[.int .i64 u.1,.int .i64 u.2.1,.string u.2.2]] w (AV B n xs u w):=by
 obtain ⟨k,c,s⟩:=u
 rcases right_kind hr with h | h | h | h
 all_goals simp only at h; subst h
 ·obtain ⟨h1,h2⟩:=right_null hr rfl
  simp only at h1 h2
  subst h1 h2
  exact av_null B n v xs w hown hn hB
 ·obtain ⟨h1,h2,h3⟩:=right_num hr rfl
  simp only at h1 h2 h3
  subst h3
  exact av_int B n v xs w c h1 h2 hown hn hB
 ·obtain ⟨h1,h2⟩:=right_bool hr rfl
  simp only at h1 h2
  subst h2
  exact av_bool B n v xs w c h1 hown hn hB
 ·obtain ⟨h1,h2⟩:=right_text hr rfl
  simp only at h1 h2
  subst h1
  exact av_text B n v xs w s h2 hown hn hB h0 hm
theorem kbs_take {vs : List V3} {k : Nat} (h : k < vs.length) : kbs (vs.take (k + 1)) = kbs (vs.take k) ++ kb vs[k]:=by
 rw [List.take_succ_eq_append_getElem h,kbs_append,kbs_one]
theorem kbs_bound : ∀ {vs : List V3},(∀ v ∈ vs,V3.right v = true) → (kbs vs).length ≤ 150 * vs.length
 | [],_ => by simp [kbs_nil]
 | v :: vs,h => by
  have ih:=kbs_bound (vs:=vs) (fun x hx => h x (by simp [hx]))
  have hl:=kb_len v
  have hv:=h v Si
  have hs : v.2.2.size ≤ 64:=by
   rcases right_kind hv with k | k | k | k
   ·rw [(right_null hv k).2]; decide
   ·rw [(right_num hv k).2.2]; decide
   ·rw [(right_bool hv k).2]; decide
   ·exact (right_text hv k).2
  rw [kbs_cons,Zla,List.length_cons]
  omega
theorem upto_right {vs : List V3} {k : Nat} (h : ∀ j (g : j < vs.length),j < k → V3.right vs[j] = true) : ∀ v ∈ vs.take k,V3.right v = true:=by
 intro v hv
 obtain ⟨j,hj,rfl⟩:=List.getElem_of_mem hv
 rw [List.getElem_take]
 have hj' : j < k ∧ j < vs.length:=Nat.lt_min.1 (by simpa using hj)
 exact h j hj'.2 hj'.1
theorem own_str {w : World} {B n : Nat} {v : Value} {xs : List UInt8} (h : w.ownsRow B 5 1 v n (bv xs)) : ∃ a cap,v = .slice a n cap ∧ (convert 114 9 (.slice a n cap)).run Tryz.prog w = .ok (.string ⟨xs.toArray⟩) w:=by
 by_cases h0 : 0 < n
 ·obtain ⟨g,cap,e,r⟩:=own_string h h0
  exact ⟨_,_,e,r⟩
 ·have hn : n = 0:=by omega
  subst hn
  have hx : xs = []:=by
   have:=h.1
   rw [bv_length] at this
   exact List.eq_nil_of_length_eq_zero Om
  subst hx
  obtain ⟨_,⟨rfl,_⟩ | ⟨g,cap,cur,rfl,_⟩⟩:=h
  ·refine ⟨none,0,rfl,?_⟩
   rw [run_convert_bytes_string w 114 9 5 none 0 0 Tryz.underlying114 Tryz.underlying5 Tryz.underlying9]
   rfl
  ·exact ⟨_,cap,rfl,run_convert_bytes_back w 114 9 5 ⟨g,0,none⟩ cap [] Tryz.underlying114 Tryz.underlying5 Tryz.underlying9 (by intro j hj; simp at hj)⟩
def encV (vs : List V3) : Value:=.tuple #[.string ⟨(encR vs).1.toArray⟩,.int .i64 (encR vs).2]
theorem enc_any (a : Option Addr) (cap : Nat) (vs : List V3) (w : World) (hlen : vs.length ≤ 2147483648) (hrow : Row w a vs) (h0 : 0 < w.heap.size) (hm : ML w) :
  Calls Tryz.prog 82 #[.slice a vs.length cap] w fun e w' => e = .returned (encV vs) ∧ Below w.heap.size w w':=by
 have HR : Hid (Row w a vs):=hrow
 clear hrow
 by_cases h8 : 8 < vs.length
 ·have HE : Hid (encR vs = ([],2)):=encR_long h8
  have h8' : (8 : Int) < (vs.length : Int):=by omega
  go_enter Tryz.func82,Tryz.ntmps82
  go_wp2
  exact bodyPost_ret (v:=.tuple #[.string ⟨#[]⟩,.int .i64 2]) (by simp [results,Tryz.results82,go_sem]) rfl ⟨by rw [encV,HE.out],Bz⟩
 ·have h8' : ¬ (8 : Int) < (vs.length : Int):=by omega
  have h8n : vs.length ≤ 8:=by omega
  have H8 : Hid (¬ 8 < vs.length):=h8
  clear h8
  go_enter Tryz.func82,Tryz.ntmps82
  go_wp2
  go_loopw [4,12] (fun v i wr => ∃ k : Nat,k ≤ vs.length ∧ i = .int .i64 k ∧ (∀ j (g : j < vs.length),j < k → V3.right vs[j] = true) ∧ wr.ownsRow w.heap.size 5 1 v (kbs (vs.take k)).length (bv (kbs (vs.take k))) ∧ Below w.heap.size w wr) (fun _ i _ => vs.length - (intOf i).toNat)
  case atStart => exact ⟨0,Nat.zero_le _,rfl,fun j _ g => absurd g (Nat.not_lt_zero _),by simpa [kbs,bv] using World.ownsRow_nil w w.heap.size 5 1,Bxr _ _⟩
  case round =>
   obtain ⟨k,hk,rfl,hall,hown,hb⟩:=hrel
   have HA : Hid (∀ j (g : j < vs.length),j < k → V3.right vs[j] = true):=hall
   clear hall
   have hsz:=hb.size
   have hm1:=hm.later hb h0
   have hbd:=kbs_bound (upto_right HA.out)
   have htl : (vs.take k).length ≤ k:=List.length_take_le _ _
   by_cases hlt : k < vs.length
   ·obtain ⟨b,off,rfl,c0,c1,c2⟩:=HR.out k hlt
    have d0:=cell_later hb c0
    have d1:=cell_later hb c1
    have d2:=cell_later hb c2
    clear c0 c1 c2
    cases hrt : V3.right vs[k] with
    | true =>
     have hrg : rgt (vs[k]).1 (vs[k]).2.1 (vs[k]).2.2 = true:=hrt
     have HT : Hid (V3.right vs[k] = true):=hrt
     clear hrt
     go_wp2_with (first | (go_at_call 107; refine (right_any _ _ _ _).mono ?_; rintro e w' ⟨rfl,hb'⟩; rw [hrg]; obtain ⟨hc,hf⟩:=bcell hb'; have hz:=hb'.size; (try simp at hz); (have hz0 : wr.heap.size < w'.heap.size:=by omega)) | (go_at_call 132; refine (av_any w.heap.size _ _ _ vs[k] _ HT.out (own_later (hown.alloc _) hb') Om Om h0 ((hm1.later ((Below.refl wr.heap.size _).alloc Zlr _) Om).later hb' Si)).mono ?_; rintro e w2 ⟨v2,rfl,hown2,hb2⟩))
     go_roundw
     case rel =>
      refine ⟨k + 1,by omega,by go_num,upto_succ HA.out HT.out,?_,Bz⟩
      rw [kbs_take hlt,Zla]
      exact hown2
     case measure => simp [intOf]; omega
    | false =>
     have hrg : rgt (vs[k]).1 (vs[k]).2.1 (vs[k]).2.2 = false:=hrt
     have HE : Hid (encR vs = ([],10)):=encR_wrong H8.out k hlt hrt
     clear hrt
     go_wp2_with (first | (go_at_call 107; refine (right_any _ _ _ _).mono ?_; rintro e w' ⟨rfl,hb'⟩; rw [hrg]; obtain ⟨hc,hf⟩:=bcell hb'; have hz:=hb'.size; (try simp at hz); (have hz0 : wr.heap.size < w'.heap.size:=by omega)))
     exact bodyPost_ret (v:=.tuple #[.string ⟨#[]⟩,.int .i64 10]) (by simp [results,Tryz.results82,go_sem]) rfl ⟨by rw [encV,HE.out],Bz⟩
   ·have hk' : k = vs.length:=by omega
    subst hk'
    rw [List.take_length] at hown
    have HE : Hid (encR vs = (kbs vs,0)):=encR_ok H8.out fun j g => HA.out j g g
    obtain ⟨ar,cp,rfl,hcv⟩:=own_str hown
    clear hown
    go_wp2
    exact bodyPost_ret (v:=.tuple #[.string ⟨(kbs vs).toArray⟩,.int .i64 0]) (by simp [results,Tryz.results82,go_sem]) rfl ⟨by rw [encV,HE.out],Bz⟩
theorem head_null {u : V3} {c : UInt8} {l : List UInt8} (hu : V3.right u = true) (h : kb u <+: c :: l) (hc : c = 1) : u = (0,0,⟨#[]⟩):=by
 obtain ⟨t,h⟩:=h
 subst hc
 rcases right_kind hu with k | k | k | k
 ·obtain ⟨a,b⟩:=right_null hu k
  exact v3_ext k a b
 all_goals (first | rw [kb_int k] at h | rw [kb_bool k] at h | rw [kb_text k] at h)
 all_goals simp at h
theorem head_int {u : V3} {c : UInt8} {l : List UInt8} (hu : V3.right u = true) (h : kb u <+: c :: l) (hc : c = 2) : u.1 = 1 ∧ be8 (u.2.1 + 9223372036854775808).toNat <+: l:=by
 obtain ⟨t,h⟩:=h
 subst hc
 rcases right_kind hu with k | k | k | k
 ·rw [kb_null k] at h; simp at h
 ·rw [kb_int k,List.cons_append] at h
  exact ⟨k,t,(List.cons.inj h).2⟩
 ·rw [kb_bool k] at h; simp at h
 ·rw [kb_text k] at h; simp at h
theorem head_bool {u : V3} {c : UInt8} {l : List UInt8} (hu : V3.right u = true) (h : kb u <+: c :: l) (hc : c = 3) : u.1 = 2 ∧ [UInt8.ofNat u.2.1.toNat] <+: l:=by
 obtain ⟨t,h⟩:=h
 subst hc
 rcases right_kind hu with k | k | k | k
 ·rw [kb_null k] at h; simp at h
 ·rw [kb_int k] at h; simp at h
 ·rw [kb_bool k] at h
  exact ⟨k,t,(List.cons.inj h).2⟩
 ·rw [kb_text k] at h; simp at h
theorem head_text {u : V3} {c : UInt8} {l : List UInt8} (hu : V3.right u = true) (h : kb u <+: c :: l) (hc : c = 4) : u.1 = 3 ∧ ∃ t,esc u.2.2.data.toList ++ 0 :: 0 :: t = l:=by
 obtain ⟨t,h⟩:=h
 subst hc
 rcases right_kind hu with k | k | k | k
 ·rw [kb_null k] at h; simp at h
 ·rw [kb_int k] at h; simp at h
 ·rw [kb_bool k] at h; simp at h
 ·rw [kb_text k,List.cons_append] at h
  exact ⟨k,t,by have:=(List.cons.inj h).2; simpa using this⟩
theorem head_none {u : V3} {c : UInt8} {l : List UInt8} (hu : V3.right u = true) (h : kb u <+: c :: l) (h1 : c ≠ 1) (h2 : c ≠ 2) (h3 : c ≠ 3) (h4 : c ≠ 4) : False:=by
 obtain ⟨t,h⟩:=h
 rcases right_kind hu with k | k | k | k
 ·rw [kb_null k] at h; simp at h; exact h1 h.1.symm
 ·rw [kb_int k] at h; simp at h; exact h2 h.1.symm
 ·rw [kb_bool k] at h; simp at h; exact h3 h.1.symm
 ·rw [kb_text k] at h; simp at h; exact h4 h.1.symm
theorem rv_none {c : UInt8} {l : List UInt8} (v : V3) (h1 : c ≠ 1) (h2 : c ≠ 2) (h3 : c ≠ 3) (h4 : c ≠ 4) : RV (c :: l) v 0:=Or.inl ⟨rfl,fun _ hu h => head_none hu h h1 h2 h3 h4⟩
theorem rv_null {c : UInt8} {l : List UInt8} (hc : c = 1) : RV (c :: l) (0,0,⟨#[]⟩) 1:=by
 refine Or.inr ⟨by decide,by simp,fun u hu h => ?_,fun _ => by rw [hc]; rfl⟩
 obtain rfl:=head_null hu h hc
 exact ⟨rfl,rfl⟩
theorem rv_short {c : UInt8} {l : List UInt8} (v : V3) (hc : c = 2) (hl : l.length < 8) : RV (c :: l) v 0:=by
 refine Or.inl ⟨rfl,fun u hu h => ?_⟩
 obtain ⟨_,h⟩:=head_int hu h hc
 have:=h.length_le
 rw [be8_length] at this
 omega
theorem int_read {u : V3} {l : List UInt8} (hu : V3.right u = true) (k : u.1 = 1) (h : be8 (u.2.1 + 9223372036854775808).toNat <+: l) : u = (1,(val8 (l.take 8) : Int) - 9223372036854775808,⟨#[]⟩):=by
 obtain ⟨a,b,c⟩:=right_num hu k
 obtain ⟨t,rfl⟩:=h
 have e : (be8 (u.2.1 + 9223372036854775808).toNat ++ t).take 8 = be8 (u.2.1 + 9223372036854775808).toNat:=List.take_left' (be8_length _)
 rw [e,val8_be8 Om]
 exact v3_ext k (by show u.2.1 = ((u.2.1 + 9223372036854775808).toNat : Int) - 9223372036854775808; omega) c
theorem rv_int {c : UInt8} {l : List UInt8} (hc : c = 2) (hl : 8 ≤ l.length) : RV (c :: l) (1,(val8 (l.take 8) : Int) - 9223372036854775808,⟨#[]⟩) 9:=by
 refine Or.inr ⟨by decide,by simp; omega,fun u hu h => ?_,fun _ => ?_⟩
 ·obtain ⟨k,h⟩:=head_int hu h hc
  have e:=int_read hu k h
  exact ⟨e,by rw [kb_int k]; rfl⟩
 ·rw [kb_int rfl]
  have e : ((val8 (l.take 8) : Int) - 9223372036854775808 + 9223372036854775808).toNat = val8 (l.take 8):=by omega
  simp only [e]
  rw [be8_val8 (by simp; omega),hc]
  rfl
theorem rv_bool1 {c : UInt8} {l : List UInt8} (v : V3) (hc : c = 3) (hl : l.length < 1) : RV (c :: l) v 0:=by
 refine Or.inl ⟨rfl,fun u hu h => ?_⟩
 obtain ⟨_,h⟩:=head_bool hu h hc
 have:=h.length_le
 simp at this
 omega
theorem bool_read {u : V3} {d : UInt8} {l : List UInt8} (hu : V3.right u = true) (k : u.1 = 2) (h : [UInt8.ofNat u.2.1.toNat] <+: d :: l) : u = (2,(d.toNat : Int),⟨#[]⟩):=by
 obtain ⟨a,b⟩:=right_bool hu k
 obtain ⟨t,h⟩:=h
 have e:=(List.cons.inj h).1
 refine v3_ext k ?_ b
 show u.2.1 = (d.toNat : Int)
 rw [← e]
 rcases a with a | a <;> rw [a] <;> rfl
theorem rv_bool {c d : UInt8} {l : List UInt8} (hc : c = 3) : RV (c :: d :: l) (2,(d.toNat : Int),⟨#[]⟩) 2:=by
 refine Or.inr ⟨by decide,by simp,fun u hu h => ?_,fun _ => ?_⟩
 ·obtain ⟨k,h⟩:=head_bool hu h hc
  exact ⟨bool_read hu k h,by rw [kb_bool k]; rfl⟩
 ·rw [kb_bool rfl,hc]
  simp
theorem rv_text0 {s xs r : List UInt8} (v : V3) (h : s = 4 :: (esc xs ++ r)) (hr : Ends r) (hn : ∀ t,r ≠ 0 :: 0 :: t) : RV s v 0:=by
 refine Or.inl ⟨rfl,fun u hu g => ?_⟩
 subst h
 obtain ⟨_,t,e⟩:=head_text hu g rfl
 exact hn t (esc_inj _ _ _ _ (ends_zero t) hr e).2.symm
theorem text_read {u : V3} {xs r l : List UInt8} (hu : V3.right u = true) (hr : Ends r) (g : kb u <+: l) (h : l = 4 :: (esc xs ++ r)) : u = (3,0,⟨xs.toArray⟩) ∧ (kb u).length = (esc xs).length + 3:=by
 subst h
 obtain ⟨k,t,e⟩:=head_text hu g rfl
 obtain ⟨rfl,_⟩:=esc_inj _ _ _ _ (ends_zero t) hr e
 obtain ⟨a,_⟩:=right_text hu k
 exact ⟨v3_ext k a (ba_ext Si),by rw [kb_text k]; simp⟩
theorem rv_text {s xs t : List UInt8} (h : s = 4 :: (esc xs ++ 0 :: 0 :: t)) : RV s (3,0,⟨xs.toArray⟩) ((esc xs).length + 3):=by
 refine Or.inr ⟨by omega,by rw [h]; simp,fun u hu g => ?_,fun _ => ?_⟩
 ·obtain ⟨e,f⟩:=text_read hu (ends_zero t) g h
  exact ⟨e,f.symm⟩
 ·have e : (4 :: (esc xs ++ [0,0])) ++ t = 4 :: (esc xs ++ 0 :: 0 :: t):=by simp
  rw [kb_text rfl,h,← e]
  refine List.take_left' ?_
  simp
theorem ends_one : Ends [0]:=Or.inr ⟨[],rfl,fun d q e => by simp at e⟩
theorem ends_other {d : UInt8} (h : d ≠ 255) (l : List UInt8) : Ends (0 :: d :: l):=Or.inr ⟨_,rfl,fun x q e => by rw [(List.cons.inj e).1.symm]; exact h⟩
theorem val8_take {s : ByteArray} {k : Nat} (h : k < s.size) : val8 (s.data.toList.take (k + 1)) = val8 (s.data.toList.take k) * 256 + s[k].toNat:=by
 rw [List.take_succ_eq_append_getElem (by simpa using h),val8_snoc]
 rfl
theorem or_byte (X c : Nat) (hX : X * 256 < 18446744073709551616) (hc : c < 256) : bits BinOp.or IntKind.u64 (IntKind.u64.wrap ((X : Int) * 256)) (IntKind.u64.wrap (c : Int)) = ((X * 256 + c : Nat) : Int):=by
 have e1 : IntKind.u64.wrap ((X : Int) * 256) = ((X * 256 : Nat) : Int):=by rw [IntKind.wrap_u64]; omega
 have e2 : IntKind.u64.wrap (c : Int) = (c : Int):=by rw [IntKind.wrap_u64]; omega
 rw [e1,e2,u64_or_nat _ _ hX Om,Nat.or_comm,nat_join8' _ _ Om hc]
theorem rword_any (s : ByteArray) (w : World) (hs : s.size ≤ 8) :
  Calls Tryz.prog 167 #[.string s] w fun e w' => e = .returned (.int .u64 (val8 s.data.toList : Int)) ∧ w' = w:=by
 go_enter Tryz.func167,Tryz.ntmps167
 go_wp2
 go_loopw [3,7] (fun v i wr => ∃ k : Nat,k ≤ s.size ∧ i = .int .i64 k ∧ (∃ x : Int,v = .int .u64 x ∧ x = (val8 (s.data.toList.take k) : Int)) ∧ wr = w) (fun _ i _ => s.size - (intOf i).toNat)
 case atStart => exact ⟨0,Nat.zero_le _,rfl,⟨0,rfl,by simp [val8]⟩,rfl⟩
 case round =>
  obtain ⟨k,hk,rfl,⟨x,rfl,hx⟩,rfl⟩:=hrel
  by_cases hlt : k < s.size
  ·have HX : Hid (x = (val8 (s.data.toList.take k) : Int)):=hx
   have hv : val8 (s.data.toList.take (k + 1)) < 18446744073709551616:=val8_lt _ (by rw [List.length_take]; omega)
   rw [val8_take hlt] at hv
   have hcb:=UInt8.toNat_lt s[k]
   have HB : Hid (bits BinOp.or IntKind.u64 (IntKind.u64.wrap (x * 256)) (IntKind.u64.wrap (s[k].toNat : Int)) = (val8 (s.data.toList.take (k + 1)) : Int)):=by
    have:=or_byte (val8 (s.data.toList.take k)) s[k].toNat Om hcb
    rw [← hx,← val8_take hlt] at this
    exact this
   clear hx hv hcb
   go_wp2
   go_roundw
   case rel => exact ⟨k + 1,by omega,by go_num,⟨_,rfl,HB.out⟩,trivial⟩
   case measure => simp [intOf]; omega
  ·have hk' : k = s.size:=by omega
   subst hk'
   have htk : s.data.toList.take s.size = s.data.toList:=List.take_of_length_le Si
   rw [htk] at hx
   have HX : Hid (x = (val8 s.data.toList : Int)):=hx
   clear hx htk
   go_wp2
   go_ret
   exact ⟨ret_int HX.out,rfl⟩
end KK
end Go.Proofs.YtmmmkjhpmlfopaaGreatDoor
