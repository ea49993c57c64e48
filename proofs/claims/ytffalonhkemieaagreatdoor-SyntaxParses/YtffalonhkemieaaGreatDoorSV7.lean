/- V7 V8 V9 V10 V11 V12p -/
import Derived.Test.YtffalonhkemieaaGreatDoorSM114
import Derived.Test.YtffalonhkemieaaGreatDoorSV1
set_option maxHeartbeats 4000000
set_option maxRecDepth 100000
namespace Go.Proofs.YtffalonhkemieaaGreatDoor
open Go.RowKit
theorem app_dig (c : UInt8) (l : List UInt8) : (⟨#[c]⟩ : ByteArray) ++ (⟨l.toArray⟩ : ByteArray) = ⟨(c :: l).toArray⟩:=by
 apply bytes_eq
 simp [ByteArray.data_append]

theorem digits_pos (u : Nat) (w : World) (hu : u ≤ 4611686018427387904) :
  Calls Tryz.prog 158 #[Vi (u : Int)] w fun e w' => e = .returned (.string ⟨(Lib.decDigits u).toArray⟩) ∧ w' = w:=by
 obtain ⟨g,hg⟩:=Vx (u / 10)
 obtain ⟨d,hd⟩:=Vx (u % 10)
 have HD : Hid (Lib.decDigits u = ddl g ++ [UInt8.ofNat (48 + d)]):=by
  have:=dec_eq u
  rw [hg,hd] at this
  exact this
 have hq : (u : Int).tdiv 10 = (g : Int):=by rw [Int.tdiv_eq_ediv_of_nonneg (by omega)]; omega
 have hr : (u : Int).tmod 10 = (d : Int):=by rw [Int.tmod_eq_emod_of_nonneg (by omega)]; omega
 have d0 : ¬ (d : Int) < 0:=by omega
 have d1 : (0 : Int) ≤ (d : Int) + 1:=by omega
 have d2 : (d : Int) + 1 ≤ 10:=by omega
 have d3 : (d : Int) ≤ (d : Int) + 1:=by omega
 have d4 : ((d : Int) + 1).toNat = d + 1:=by omega
 have d5:=dig_ext d (by omega)
 obtain ⟨c,hc⟩:=Vx (UInt8.ofNat (48 + d))
 rw [hc] at d5 HD
 have u0 : ¬ (u : Int) < 0:=by omega
 have hg2 : g ≤ 4611686018427387904:=by omega
 clear hg hd hc
 go_enter Tryz.func158,Tryz.ntmps158
 go_wp2
 go_loopw [3,5] (fun i v wr => ∃ (m : Nat) (l : List UInt8),m ≤ 4611686018427387904 ∧ i = Vi m ∧ v = .string ⟨l.toArray⟩ ∧ Lib.decDigits u = ddl m ++ l ∧ wr = w) (fun i _ _ => (intOf i).toNat)
 case atStart => exact ⟨g,[c],hg2,rfl,rfl,HD.out,rfl⟩
 case round =>
  obtain ⟨m,l,hm,rfl,rfl,hl,rfl⟩:=hrel
  have HL : Hid (Lib.decDigits u = ddl m ++ l):=hl
  clear hl hq hr d0 d1 d2 d3 d4 d5
  by_cases hm0 : m = 0
  ·subst hm0
   go_wp2
   go_ret
   exact ⟨by rw [HL.out]; rfl,rfl⟩
  ·obtain ⟨g',hg'⟩ : ∃ g',m / 10 = g':=⟨_,rfl⟩
   obtain ⟨d',hd'⟩ : ∃ d',m % 10 = d':=⟨_,rfl⟩
   have HD' : Hid (Lib.decDigits u = ddl g' ++ (UInt8.ofNat (48 + d') :: l)):=by
    have:=ddl_step hm0
    rw [hg',hd'] at this
    have e:=HL.out
    rw [this] at e
    have e2 : Lib.decDigits u = ddl g' ++ (UInt8.ofNat (48 + d') :: l):=by rw [e]; simp
    exact e2
   have hq : (m : Int).tdiv 10 = (g' : Int):=by rw [Int.tdiv_eq_ediv_of_nonneg (by omega)]; omega
   have hr : (m : Int).tmod 10 = (d' : Int):=by rw [Int.tmod_eq_emod_of_nonneg (by omega)]; omega
   have d0 : ¬ (d' : Int) < 0:=by omega
   have d1 : (0 : Int) ≤ (d' : Int) + 1:=by omega
   have d2 : (d' : Int) + 1 ≤ 10:=by omega
   have d3 : (d' : Int) ≤ (d' : Int) + 1:=by omega
   have d4 : ((d' : Int) + 1).toNat = d' + 1:=by omega
   have d5:=dig_ext d' (by omega)
   obtain ⟨c',hc'⟩ : ∃ c',UInt8.ofNat (48 + d') = c':=⟨_,rfl⟩
   rw [hc'] at d5 HD'
   have d6:=app_dig c' l
   have d7 : ¬ 9223372036854775807 < 1 + l.length:=by
    have h1:=dec_len 18 u (by omega)
    have h2:=congrArg List.length HL.out
    rw [List.length_append] at h2
    omega
   have hg2' : g' ≤ 4611686018427387904:=by omega
   have hg3 : g' < m:=by omega
   have hmi : ((m : Int) != 0) = true:=by simp; omega
   clear hg' hd' hc'
   go_wp2
   go_roundw
   case rel => exact ⟨g',c' :: l,hg2',rfl,rfl,HD'.out,by first | rfl | trivial⟩
   case measure => simp [intOf]; omega

theorem digits_neg (u : Nat) (w : World) (hu : u ≤ 4611686018427387904) (hp : 0 < u) :
  Calls Tryz.prog 158 #[Vi (-(u : Int))] w fun e w' => e = .returned (.string ⟨(45 :: Lib.decDigits u).toArray⟩) ∧ w' = w:=by
 obtain ⟨g,hg⟩:=Vx (u / 10)
 obtain ⟨d,hd⟩:=Vx (u % 10)
 have HD : Hid (Lib.decDigits u = ddl g ++ [UInt8.ofNat (48 + d)]):=by
  have:=dec_eq u
  rw [hg,hd] at this
  exact this
 have hq : (-(u : Int)).tdiv 10 = -(g : Int):=by rw [Int.neg_tdiv,Int.tdiv_eq_ediv_of_nonneg (by omega)]; omega
 have hr0 : (-(u : Int)).tmod 10 = -(d : Int):=by rw [Int.neg_tmod,Int.tmod_eq_emod_of_nonneg (by omega)]; omega
 have hr1 : ((-(u : Int)).tmod 10 = (d : Int) ∧ ¬ (d : Int) < 0) ∨ ((-(u : Int)).tmod 10 = -(d : Int) ∧ -(d : Int) < 0):=by omega
 have d1 : (0 : Int) ≤ (d : Int) + 1:=by omega
 have d2 : (d : Int) + 1 ≤ 10:=by omega
 have d3 : (d : Int) ≤ (d : Int) + 1:=by omega
 have d4 : ((d : Int) + 1).toNat = d + 1:=by omega
 have d5:=dig_ext d (by omega)
 obtain ⟨c,hc⟩:=Vx (UInt8.ofNat (48 + d))
 rw [hc] at d5 HD
 have u0 : -(u : Int) < 0:=by omega
 have hg2 : g ≤ 4611686018427387904:=by omega
 clear hg hd hc hr0
 rcases hr1 with ⟨hr,d0⟩ | ⟨hr,d0⟩
 all_goals
  go_enter Tryz.func158,Tryz.ntmps158
  go_wp2
  go_loopw [3,5] (fun i v wr => ∃ (m : Nat) (l : List UInt8),m ≤ 4611686018427387904 ∧ i = Vi (-(m : Int)) ∧ v = .string ⟨l.toArray⟩ ∧ Lib.decDigits u = ddl m ++ l ∧ wr = w) (fun i _ _ => (-(intOf i)).toNat)
  case atStart => exact ⟨g,[c],hg2,rfl,rfl,HD.out,rfl⟩
  case round =>
   obtain ⟨m,l,hm,rfl,rfl,hl,rfl⟩:=hrel
   have HL : Hid (Lib.decDigits u = ddl m ++ l):=hl
   clear hl hq hr d0 d1 d2 d3 d4 d5
   by_cases hm0 : m = 0
   ·subst hm0
    have d6:=app_dig 45 l
    have d7 : ¬ 9223372036854775807 < 1 + l.length:=by
     have h1:=dec_len 18 u (by omega)
     have h2:=congrArg List.length HL.out
     rw [List.length_append] at h2
     omega
    go_wp2
    go_ret
    exact ⟨by rw [HL.out]; rfl,rfl⟩
   ·obtain ⟨g',hg'⟩ : ∃ g',m / 10 = g':=⟨_,rfl⟩
    obtain ⟨d',hd'⟩ : ∃ d',m % 10 = d':=⟨_,rfl⟩
    have HD' : Hid (Lib.decDigits u = ddl g' ++ (UInt8.ofNat (48 + d') :: l)):=by
     have:=ddl_step hm0
     rw [hg',hd'] at this
     have e:=HL.out
     rw [this] at e
     have e2 : Lib.decDigits u = ddl g' ++ (UInt8.ofNat (48 + d') :: l):=by rw [e]; simp
     exact e2
    have hq : (-(m : Int)).tdiv 10 = -(g' : Int):=by rw [Int.neg_tdiv,Int.tdiv_eq_ediv_of_nonneg (by omega)]; omega
    have hr0 : (-(m : Int)).tmod 10 = -(d' : Int):=by rw [Int.neg_tmod,Int.tmod_eq_emod_of_nonneg (by omega)]; omega
    have hr1 : ((-(m : Int)).tmod 10 = (d' : Int) ∧ ¬ (d' : Int) < 0) ∨ ((-(m : Int)).tmod 10 = -(d' : Int) ∧ -(d' : Int) < 0):=by omega
    have d1 : (0 : Int) ≤ (d' : Int) + 1:=by omega
    have d2 : (d' : Int) + 1 ≤ 10:=by omega
    have d3 : (d' : Int) ≤ (d' : Int) + 1:=by omega
    have d4 : ((d' : Int) + 1).toNat = d' + 1:=by omega
    have d5:=dig_ext d' (by omega)
    obtain ⟨c',hc'⟩ : ∃ c',UInt8.ofNat (48 + d') = c':=⟨_,rfl⟩
    rw [hc'] at d5 HD'
    have d6:=app_dig c' l
    have d7 : ¬ 9223372036854775807 < 1 + l.length:=by
     have h1:=dec_len 18 u (by omega)
     have h2:=congrArg List.length HL.out
     rw [List.length_append] at h2
     omega
    have hg2' : g' ≤ 4611686018427387904:=by omega
    have hg3 : g' < m:=by omega
    have hmi : (-(m : Int) != 0) = true:=by simp; omega
    clear hg' hd' hc' hr0
    rcases hr1 with ⟨hr,d0⟩ | ⟨hr,d0⟩
    all_goals
     go_wp2
     go_roundw
     case rel => exact ⟨g',c' :: l,hg2',rfl,rfl,HD'.out,by first | rfl | trivial⟩
     case measure => simp [intOf]; omega

theorem digits_any (n : Int) (w : World) (h1 : -4611686018427387904 ≤ n) (h2 : n ≤ 4611686018427387904) :
  Calls Tryz.prog 158 #[Vi n] w fun e w' => e = .returned (.string ⟨(Lib.itoa n).toArray⟩) ∧ w' = w:=by
 by_cases h : n < 0
 ·have e : n = -((n.natAbs : Nat) : Int):=by omega
  have e2 : Lib.itoa n = 45 :: Lib.decDigits n.natAbs:=by unfold Lib.itoa; rw [if_pos h]
  rw [e2]
  have:=digits_neg n.natAbs w (by omega) (by omega)
  rw [← e] at this
  exact this
 ·have e : n = ((n.toNat : Nat) : Int):=by omega
  have e2 : Lib.itoa n = Lib.decDigits n.toNat:=by unfold Lib.itoa; rw [if_neg h]
  rw [e2]
  have:=digits_pos n.toNat w (by omega)
  rw [← e] at this
  exact this

theorem cell2 (w : World) (t : TypeId) : ∀ j u,(bv [39,39])[j]? = some u → (w.alloc (.cells #[.int .u8 39,.int .u8 39] t)).cell? ((⟨w.heap.size,0,none⟩ : Addr).add j) = some u:=by
 intro j u hj
 match j,hj with
 | 0,hj => simp [bv] at hj; subst hj; simp [Addr.add]
 | 1,hj => simp [bv] at hj; subst hj; simp [Addr.add]

theorem quoted_any (s : ByteArray) (w : World) (hs : s.size ≤ 2147483648) :
  Calls Tryz.prog 159 #[.string s] w fun e w' => e = .returned (.string ⟨(quo s).toArray⟩) ∧ Below w.heap.size w w':=by
 obtain ⟨i0,hi,hz0,hz1,hz2⟩:=info_parts Tryz.info5
 go_enter Tryz.func159,Tryz.ntmps159
 go_wp2
 go_loopw [3,4] (fun v i wr => ∃ (k : Nat) (xs : List UInt8),k ≤ s.size ∧ i = Vi k ∧ xs = 39 :: qbs (s.data.toList.take k) ∧ xs.length ≤ 3 * k + 1 ∧ wr.ownsRow w.heap.size 5 1 v xs.length (bv xs) ∧ Below w.heap.size w wr) (fun _ i _ => s.size - (intOf i).toNat)
 case atStart =>
  refine ⟨0,[39],Nat.zero_le _,rfl,rfl,by simp,⟨by simp [bv],Or.inr ⟨w.heap.size,1,#[.int .u8 39],rfl,Nat.le_refl _,?_,by simp,by decide,by simp,by simp [bv]⟩⟩,(Below.refl _ _).alloc (Nat.le_refl _) _⟩
  exact heap_alloc_new w _
 case round =>
  obtain ⟨k,xs,hk,rfl,hxs,hxl,hown,hb⟩:=hrel
  have hsz:=hb.size
  have hlt:=hown.lt
  by_cases hlt2 : k < s.size
  ·have HQ : Hid (xs ++ qb s[k] = 39 :: qbs (s.data.toList.take (k + 1))):=by
    have : xs ++ qb s[k] = 39 :: qbs (s.data.toList.take (k + 1)):=by rw [qbs_take s k hlt2,hxs]; rfl
    exact this
   have hq3:=qb_len s[k]
   have hcl:=UInt8.toNat_lt s[k]
   obtain ⟨c,hc⟩:=Vx (s[k])
   rw [hc] at HQ hq3 hcl
   clear hxs
   by_cases c39 : c.toNat = 39
   ·rw [qb_mark c39] at HQ
    have e39 : ((c.toNat : Int) == 39) = true:=by rw [c39]; rfl
    clear c39 hq3
    go_wp2_with (first | (at_builtin; refine wpList_append_own _ rfl _ _ 150 rfl w.heap.size 5 i0 (.int .u8 0) 1 1 Tryz.underlying150 hi hz0 hz1 hz2 rfl (by decide) _ _ _ rfl (hown.alloc _) ⟨wr.heap.size,0,none⟩ 2 2 (bv [39,39]) rfl rfl ?c1 ?c2 ?c3 ?c4 ?c5 ?_))
    case c1 => exact cell2 wr _
    case c2 => exact bv_one _
    case c3 => unfold maxLen; omega
    case c4 => omega
    case c5 => simp; omega
    ·intro v1 w1 hown1 hgrow1 _
     rw [← bv_append] at hown1
     have hb1 : Below w.heap.size w w1:=(hb.alloc (by omega) _).grown hgrow1 (by simp; omega) fun k hk => (hlt k hk).1
     clear hgrow1 hown
     go_wp2
     go_roundw
     case rel => exact ⟨k + 1,xs ++ [39,39],by omega,by go_num,HQ.out,by simp; omega,by simpa using hown1,hb1⟩
     case measure => simp [intOf]; omega
   ·have c39' : ((c.toNat : Int) == 39) = false:=by rw [beq_eq_false_iff_ne]; omega
    by_cases h2 : c.toNat = 92 ∨ c.toNat < 32 ∨ 126 < c.toNat
    ·rw [qb_hex c39 h2] at HQ
     obtain ⟨d,hd⟩:=Vx (c.toNat % 16)
     obtain ⟨g,hg⟩:=Vx (c.toNat / 16)
     rw [hd,hg] at HQ
     have e1 : (c.toNat : Int).tdiv 16 = (g : Int):=by rw [Int.tdiv_eq_ediv_of_nonneg (by omega)]; omega
     have e2 : (c.toNat : Int).tmod 16 = (d : Int):=by rw [Int.tmod_eq_emod_of_nonneg (by omega)]; omega
     have e3 : (0 : Int) ≤ (g : Int):=by omega
     have eg : IntKind.u8.wrap (g : Int) = g:=by rw [IntKind.wrap_u8]; omega
     have e4 : (g : Int) < 16:=by omega
     have e5 : (0 : Int) ≤ (d : Int):=by omega
     have e6 : (d : Int) < 16:=by omega
     have hx1:=fun h => hexd_at g h
     have hx2:=fun h => hexd_at d h
     have h2' : ((c.toNat : Int) < 32) ∨ (¬ (c.toNat : Int) < 32 ∧ 126 < (c.toNat : Int)) ∨ (¬ (c.toNat : Int) < 32 ∧ ¬ 126 < (c.toNat : Int) ∧ ((c.toNat : Int) == 92) = true):=by
      by_cases a : (c.toNat : Int) < 32
      ·exact Or.inl a
      ·by_cases b : 126 < (c.toNat : Int)
       ·exact Or.inr (Or.inl ⟨a,b⟩)
       ·exact Or.inr (Or.inr ⟨a,b,by rw [beq_iff_eq]; omega⟩)
     clear h2 hd hg c39 hq3
     rcases h2' with k1 | ⟨k1,k2⟩ | ⟨k1,k2,k3⟩
     all_goals
      go_wp2
      go_region_law (first | (refine step_append_lies _ rfl _ _ 150 rfl w.heap.size 5 i0 (.int .u8 0) 1 1 Tryz.underlying150 hi hz0 hz1 hz2 rfl (by decide) _ xs.length (bv xs) rfl (ownsRow_drew (hown.alloc _)) ⟨wr.heap.size,0,none⟩ 3 3 (bv [92,hexd g,hexd d]) rfl rfl (cells3 wr (hexd g) (hexd d) _) (bv_one _) (by decide) (by unfold maxLen; omega) (by omega) (by simp; omega) (wr.heap.size + 1) (by simp) ?_; intro g' cap' w1 hown1 hgrow1 _ _))
      all_goals
       rw [← bv_append] at hown1
       have hb1 : Below w.heap.size w w1:=((hb.alloc (by omega) _).drew).grown hgrow1 (by simp; omega) fun k hk => (hlt k hk).1
       clear hgrow1 hown
       go_wp2
       go_roundw
       case rel => exact ⟨k + 1,xs ++ [92,hexd g,hexd d],by omega,by go_num,HQ.out,by simp; omega,by simpa using hown1,hb1⟩
       case measure => simp [intOf]; omega
    ·rw [qb_plain c39 h2] at HQ
     have k1 : ¬ (c.toNat : Int) < 32:=by omega
     have k2 : ¬ 126 < (c.toNat : Int):=by omega
     have k3 : ((c.toNat : Int) == 92) = false:=by rw [beq_eq_false_iff_ne]; omega
     clear h2 c39 hq3
     go_wp2_with (first | (at_builtin; refine wpList_append_own _ rfl _ _ 150 rfl w.heap.size 5 i0 (.int .u8 0) 1 1 Tryz.underlying150 hi hz0 hz1 hz2 rfl (by decide) _ _ _ rfl (hown.alloc _) ⟨wr.heap.size,0,none⟩ 1 1 (bv [c]) rfl rfl ?c1 ?c2 ?c3 ?c4 ?c5 ?_))
     case c1 =>
      intro j u hj
      match j,hj with
      | 0,hj => simp [bv] at hj; subst hj; simp
     case c2 => exact bv_one _
     case c3 => unfold maxLen; omega
     case c4 => omega
     case c5 => first | omega | (simp; omega)
     ·intro v1 w1 hown1 hgrow1 _
      rw [← bv_append] at hown1
      have hb1 : Below w.heap.size w w1:=(hb.alloc (by omega) _).grown hgrow1 (by simp; omega) fun k hk => (hlt k hk).1
      clear hgrow1 hown
      go_wp2
      go_roundw
      case rel => exact ⟨k + 1,xs ++ [c],by omega,by go_num,HQ.out,by simp; omega,by simpa using hown1,hb1⟩
      case measure => simp [intOf]; omega
  ·have hk' : k = s.size:=by omega
   subst hk'
   have htk : s.data.toList.take s.size = s.data.toList:=List.take_of_length_le (by simp)
   rw [htk] at hxs
   have HQ : Hid (xs ++ [39] = quo s):=by
    have : xs ++ [39] = quo s:=by rw [hxs]; rfl
    exact this
   clear htk hxs
   go_wp2_with (first | (at_builtin; refine wpList_append_own _ rfl _ _ 150 rfl w.heap.size 5 i0 (.int .u8 0) 1 1 Tryz.underlying150 hi hz0 hz1 hz2 rfl (by decide) _ _ _ rfl (hown.alloc _) ⟨wr.heap.size,0,none⟩ 1 1 (bv [39]) rfl rfl ?c1 ?c2 ?c3 ?c4 ?c5 ?_))
   case c1 => exact cellb wr _ _ _ rfl
   case c2 => exact bv_one _
   case c3 => unfold maxLen; omega
   case c4 => omega
   case c5 => simp; omega
   ·intro v1 w1 hown1 hgrow1 _
    rw [← bv_append] at hown1
    obtain ⟨g,cap,rfl,hcv⟩:=own_string hown1 (by simp)
    have hbb : Below w.heap.size w w1:=(hb.alloc (by omega) _).grown hgrow1 (by simp; omega) fun k hk => (hlt k hk).1
    clear hown1 hgrow1 hown hlt
    go_wp2
    go_ret
    exact ⟨by rw [HQ.out]; rfl,hbb⟩

theorem rprint_any (v : V3) (w : World) :
  Calls Tryz.prog 140 #[.agg #[Vi v.1,Vi v.2.1,.string v.2.2]] w fun e w' => e = .returned (prV v) ∧ Below w.heap.size w w':=by
 obtain ⟨k,n,s⟩:=v
 cases hr : V3.right (k,n,s) with
 | false =>
  have hrg : rgt k n s = false:=hr
  have HP : Hid (prV (k,n,s) = .tuple #[Vs,Vi 10]):=by
   have : prV (k,n,s) = .tuple #[Vs,Vi 10]:=by unfold prV; rw [prR_no hr]
   exact this
  clear hr
  go_enter Tryz.func140,Tryz.ntmps140
  go_wp2_with (first | (go_at_call 120; refine (rright_any _ _ _ _).mono ?_; rintro e w' ⟨rfl,hb⟩; rw [hrg]; (obtain ⟨hc, hf⟩ := bcell hb; have hz := hb.size; (try simp at hz); (try have hz0 : w.heap.size < w'.heap.size := by omega); (try have hz1 : w.heap.size + 1 < w'.heap.size := by omega); (try have hz2 : w.heap.size + 1 + 1 < w'.heap.size := by omega); (try have hz3 : w.heap.size + 1 + 1 + 1 < w'.heap.size := by omega))))
  exact bodyPost_ret (v:=.tuple #[Vs,Vi 10]) (by simp [results,Tryz.results140,go_sem]) rfl ⟨by rw [HP.out],by (repeat (first|exact Bxr _ _|assumption|apply Bxd|apply Bxa|apply Bxs|refine Bxt ?_ (by assumption) ?_|omega|simp))⟩
 | true =>
  have hrg : rgt k n s = true:=hr
  have HP : Hid (prV (k,n,s) = .tuple #[.string ⟨(lit (k,n,s)).toArray⟩,Vi 0]):=by
   have : prV (k,n,s) = .tuple #[.string ⟨(lit (k,n,s)).toArray⟩,Vi 0]:=by unfold prV; rw [prR_ok hr]
   exact this
  rcases rt_kind hr with q | q | q | q
  all_goals simp only at q; subst q
  ·have HL : Hid (lit (0,n,s) = [78,85,76,76]):=lit_null rfl
   clear hr
   go_enter Tryz.func140,Tryz.ntmps140
   go_wp2_with (first | (go_at_call 120; refine (rright_any _ _ _ _).mono ?_; rintro e w' ⟨rfl,hb⟩; rw [hrg]; (obtain ⟨hc, hf⟩ := bcell hb; have hz := hb.size; (try simp at hz); (try have hz0 : w.heap.size < w'.heap.size := by omega); (try have hz1 : w.heap.size + 1 < w'.heap.size := by omega); (try have hz2 : w.heap.size + 1 + 1 < w'.heap.size := by omega); (try have hz3 : w.heap.size + 1 + 1 + 1 < w'.heap.size := by omega))))
   exact bodyPost_ret (v:=.tuple #[.string ⟨#[78,85,76,76]⟩,Vi 0]) (by simp [results,Tryz.results140,go_sem]) rfl ⟨by rw [HP.out,HL.out],by (repeat (first|exact Bxr _ _|assumption|apply Bxd|apply Bxa|apply Bxs|refine Bxt ?_ (by assumption) ?_|omega|simp))⟩
  ·have HL : Hid (lit (1,n,s) = Lib.itoa n):=lit_int rfl
   have b1:=(rt_num hr rfl).1
   have b2:=(rt_num hr rfl).2.1
   simp only at b1 b2
   clear hr
   go_enter Tryz.func140,Tryz.ntmps140
   go_wp2_with fail
   refine (rright_any _ _ _ _).mono ?_
   rintro e w1 ⟨rfl,hb1⟩
   rw [hrg]
   have z1:=hb1.size
   simp at z1
   have c1 : w1.cell? ⟨w.heap.size,0,none⟩ = some (Vi 1):=cell_later hb1 (by simp)
   have c2 : w1.cell? ⟨w.heap.size,1,none⟩ = some (Vi n):=cell_later hb1 (by simp)
   go_wp2_with fail
   refine (digits_any _ _ (by omega) (by omega)).mono ?_
   rintro e w2 ⟨rfl,hw2⟩
   rw [hw2]
   clear hw2
   go_wp2
   exact bodyPost_ret (v:=.tuple #[.string ⟨(Lib.itoa n).toArray⟩,Vi 0]) (by simp [results,Tryz.results140,go_sem]) rfl ⟨by rw [HP.out,HL.out],by (repeat (first|exact Bxr _ _|assumption|apply Bxd|apply Bxa|apply Bxs|refine Bxt ?_ (by assumption) ?_|omega|simp))⟩
  ·have b1:=(right_bool hr rfl).1
   simp only at b1
   rcases b1 with rfl | rfl
   ·have HL : Hid (lit (2,0,s) = [70,65,76,83,69]):=lit_false rfl rfl
    clear hr
    go_enter Tryz.func140,Tryz.ntmps140
    go_wp2_with (first | (go_at_call 120; refine (rright_any _ _ _ _).mono ?_; rintro e w' ⟨rfl,hb⟩; rw [hrg]; (obtain ⟨hc, hf⟩ := bcell hb; have hz := hb.size; (try simp at hz); (try have hz0 : w.heap.size < w'.heap.size := by omega); (try have hz1 : w.heap.size + 1 < w'.heap.size := by omega); (try have hz2 : w.heap.size + 1 + 1 < w'.heap.size := by omega); (try have hz3 : w.heap.size + 1 + 1 + 1 < w'.heap.size := by omega))))
    exact bodyPost_ret (v:=.tuple #[.string ⟨#[70,65,76,83,69]⟩,Vi 0]) (by simp [results,Tryz.results140,go_sem]) rfl ⟨by rw [HP.out,HL.out],by (repeat (first|exact Bxr _ _|assumption|apply Bxd|apply Bxa|apply Bxs|refine Bxt ?_ (by assumption) ?_|omega|simp))⟩
   ·have HL : Hid (lit (2,1,s) = [84,82,85,69]):=lit_true rfl rfl
    clear hr
    go_enter Tryz.func140,Tryz.ntmps140
    go_wp2_with (first | (go_at_call 120; refine (rright_any _ _ _ _).mono ?_; rintro e w' ⟨rfl,hb⟩; rw [hrg]; (obtain ⟨hc, hf⟩ := bcell hb; have hz := hb.size; (try simp at hz); (try have hz0 : w.heap.size < w'.heap.size := by omega); (try have hz1 : w.heap.size + 1 < w'.heap.size := by omega); (try have hz2 : w.heap.size + 1 + 1 < w'.heap.size := by omega); (try have hz3 : w.heap.size + 1 + 1 + 1 < w'.heap.size := by omega))))
    exact bodyPost_ret (v:=.tuple #[.string ⟨#[84,82,85,69]⟩,Vi 0]) (by simp [results,Tryz.results140,go_sem]) rfl ⟨by rw [HP.out,HL.out],by (repeat (first|exact Bxr _ _|assumption|apply Bxd|apply Bxa|apply Bxs|refine Bxt ?_ (by assumption) ?_|omega|simp))⟩
  ·have HL : Hid (lit (3,n,s) = quo s):=lit_text rfl
   have b1:=(rt_text hr rfl).2
   simp only at b1
   clear hr
   go_enter Tryz.func140,Tryz.ntmps140
   go_wp2_with (first | (go_at_call 120; refine (rright_any _ _ _ _).mono ?_; rintro e w' ⟨rfl,hb⟩; rw [hrg]; (obtain ⟨hc, hf⟩ := bcell hb; have hz := hb.size; (try simp at hz); (try have hz0 : w.heap.size < w'.heap.size := by omega); (try have hz1 : w.heap.size + 1 < w'.heap.size := by omega); (try have hz2 : w.heap.size + 1 + 1 < w'.heap.size := by omega); (try have hz3 : w.heap.size + 1 + 1 + 1 < w'.heap.size := by omega))) | (go_at_call 159; refine (quoted_any _ _ (by omega)).mono ?_; rintro e w2 ⟨rfl,hb2⟩))
   exact bodyPost_ret (v:=.tuple #[.string ⟨(quo s).toArray⟩,Vi 0]) (by simp [results,Tryz.results140,go_sem]) rfl ⟨by rw [HP.out,HL.out],by (repeat (first|exact Bxr _ _|assumption|apply Bxd|apply Bxa|apply Bxs|refine Bxt ?_ (by assumption) ?_|omega|simp))⟩

noncomputable def plc (c : UInt8) : Nat:=open Classical in if h : ∃ j,j < 16 ∧ hexd j = c then Classical.choose h else 0

theorem plc_at {j : Nat} {c : UInt8} (h : j < 16) (e : hexd j = c) : plc c = j:=by
 have hx : ∃ j,j < 16 ∧ hexd j = c:=⟨j,h,e⟩
 unfold plc
 rw [dif_pos hx]
 have:=Classical.choose_spec hx
 exact hexd_inj this.1 h (this.2.trans e.symm)

theorem plc_no {c : UInt8} (h : ∀ j,j < 16 → hexd j ≠ c) : plc c = 0:=by
 unfold plc
 rw [dif_neg]
 rintro ⟨j,a,b⟩
 exact h j a b

theorem plc_lt (c : UInt8) : plc c < 16:=by
 by_cases h : ∃ j,j < 16 ∧ hexd j = c
 ·obtain ⟨j,a,b⟩:=h
  rw [plc_at a b]; exact a
 ·rw [plc_no fun j a b => h ⟨j,a,b⟩]; decide

theorem place_any (c : UInt8) (w : World) :
  Calls Tryz.prog 157 #[.int .u8 (c.toNat : Int)] w fun e w' => e = .returned (Vi (plc c : Int)) ∧ w' = w:=by
 go_enter Tryz.func157,Tryz.ntmps157
 go_wp2
 go_loopw [3] (fun i wr => ∃ k : Nat,k ≤ 16 ∧ i = Vi k ∧ (∀ j,j < k → hexd j ≠ c) ∧ wr = w) (fun i _ => 16 - (intOf i).toNat)
 case atStart => exact ⟨0,Nat.zero_le _,rfl,fun j h => absurd h (Nat.not_lt_zero _),rfl⟩
 case round =>
  obtain ⟨k,hk,rfl,hall,rfl⟩:=hrel
  have HA : Hid (∀ j,j < k → hexd j ≠ c):=hall
  clear hall
  by_cases hlt : k < 16
  ·have k0 : (k : Int) < 16:=by omega
   have hx:=fun h => hexd_at k h
   by_cases he : hexd k = c
   ·have hb : (((hexd k).toNat : Int) == (c.toNat : Int)) = true:=by rw [he]; simp
    have HP : Hid (plc c = k):=plc_at hlt he
    clear he
    go_wp2
    go_ret
    exact ⟨by rw [HP.out]; rfl,rfl⟩
   ·have hb : (((hexd k).toNat : Int) == (c.toNat : Int)) = false:=by
     rw [beq_eq_false_iff_ne]
     intro g
     exact he (UInt8.toNat_inj.1 (by omega))
    have HE : Hid (hexd k ≠ c):=he
    clear he
    go_wp2
    go_roundw
    case rel => exact ⟨k + 1,by omega,by go_num,fun j hj => by
     by_cases e : j = k
     ·subst e; exact HE.out
     ·exact HA.out j (by omega),by first | rfl | trivial⟩
    case measure => simp [intOf]; omega
  ·have hk' : k = 16:=by omega
   subst hk'
   have HP : Hid (plc c = 0):=plc_no HA.out
   go_wp2
   go_ret
   exact ⟨by rw [HP.out]; rfl,rfl⟩

def SaidP (s : ByteArray) (w : World) (e : Ending) (w' : World) : Prop:=∃ v : V3,e = .returned (.agg #[Vi v.1,Vi v.2.1,.string v.2.2]) ∧ (∀ u,LitOf s.data.toList u → v = u) ∧ Below w.heap.size w w'

theorem said_at {s : ByteArray} {w w' : World} (v : V3) (h : LitOf s.data.toList v) (hb : Below w.heap.size w w') : SaidP s w (.returned (.agg #[Vi v.1,Vi v.2.1,.string v.2.2])) w':=⟨v,rfl,fun _ hu => lit_unique h hu,hb⟩

theorem said_no {s : ByteArray} {w w' : World} (v : V3) (h : ∀ u,¬ LitOf s.data.toList u) (hb : Below w.heap.size w w') : SaidP s w (.returned (.agg #[Vi v.1,Vi v.2.1,.string v.2.2])) w':=⟨v,rfl,fun u hu => absurd hu (h u),hb⟩

theorem lit_some {u : V3} (h : LitOf [] u) : False:=by
 obtain ⟨hr,h⟩:=h
 rcases rt_kind hr with k | k | k | k
 ·rw [lit_null k] at h; cases h
 ·rw [lit_int k] at h
  obtain ⟨c,l,e,_⟩:=itoa_head u.2.1
  rw [e] at h; cases h
 ·rcases (right_bool hr k).1 with q | q
  ·rw [lit_false k q] at h; cases h
  ·rw [lit_true k q] at h; cases h
 ·rw [lit_text k,quo] at h; cases h

theorem said_words (s : ByteArray) (w : World) (h : s = ⟨#[78,85,76,76]⟩ ∨ s = ⟨#[84,82,85,69]⟩ ∨ s = ⟨#[70,65,76,83,69]⟩ ∨ s = ⟨#[]⟩) : Calls Tryz.prog 139 #[.string s] w (SaidP s w):=by
 rcases h with rfl | rfl | rfl | rfl
 ·have hl : LitOf (⟨#[78,85,76,76]⟩ : ByteArray).data.toList (0,0,⟨#[]⟩):=⟨by decide +kernel,by decide +kernel⟩
  have HR : Hid (LitOf (⟨#[78,85,76,76]⟩ : ByteArray).data.toList (0,0,⟨#[]⟩)):=hl
  clear hl
  go_enter Tryz.func139,Tryz.ntmps139
  go_wp2
  exact bodyPost_ret (v:=.agg #[Vi 0,Vi 0,Vs]) (by simp [results,Tryz.results139,go_sem, *]) rfl (said_at (0,0,⟨#[]⟩) HR.out (by (repeat (first|exact Bxr _ _|assumption|apply Bxd|apply Bxa|apply Bxs|refine Bxt ?_ (by assumption) ?_|omega|simp))))
 ·have hl : LitOf (⟨#[84,82,85,69]⟩ : ByteArray).data.toList (2,b2i true,⟨#[]⟩):=⟨by decide +kernel,by decide +kernel⟩
  have HR : Hid (LitOf (⟨#[84,82,85,69]⟩ : ByteArray).data.toList (2,b2i true,⟨#[]⟩)):=hl
  clear hl
  go_enter Tryz.func139,Tryz.ntmps139
  go_wp2_with (first | (go_at_call 155; refine (bool_any _ _).mono ?_; rintro e w' ⟨rfl, hb⟩; obtain ⟨hc, hf⟩ := bcell hb; have hz := hb.size; (try simp at hz); (try have hz0 : w.heap.size < w'.heap.size := by omega); (try have hz1 : w.heap.size + 1 < w'.heap.size := by omega); (try have hz2 : w.heap.size + 1 + 1 < w'.heap.size := by omega); (try have hz3 : w.heap.size + 1 + 1 + 1 < w'.heap.size := by omega)))
  exact bodyPost_ret (v:=.agg #[Vi 2,Vi (b2i true),Vs]) (by simp [results,Tryz.results139,go_sem, *]) rfl (said_at (2,b2i true,⟨#[]⟩) HR.out (by (repeat (first|exact Bxr _ _|assumption|apply Bxd|apply Bxa|apply Bxs|refine Bxt ?_ (by assumption) ?_|omega|simp))))
 ·have hl : LitOf (⟨#[70,65,76,83,69]⟩ : ByteArray).data.toList (2,b2i false,⟨#[]⟩):=⟨by decide +kernel,by decide +kernel⟩
  have HR : Hid (LitOf (⟨#[70,65,76,83,69]⟩ : ByteArray).data.toList (2,b2i false,⟨#[]⟩)):=hl
  clear hl
  go_enter Tryz.func139,Tryz.ntmps139
  go_wp2_with (first | (go_at_call 155; refine (bool_any _ _).mono ?_; rintro e w' ⟨rfl, hb⟩; obtain ⟨hc, hf⟩ := bcell hb; have hz := hb.size; (try simp at hz); (try have hz0 : w.heap.size < w'.heap.size := by omega); (try have hz1 : w.heap.size + 1 < w'.heap.size := by omega); (try have hz2 : w.heap.size + 1 + 1 < w'.heap.size := by omega); (try have hz3 : w.heap.size + 1 + 1 + 1 < w'.heap.size := by omega)))
  exact bodyPost_ret (v:=.agg #[Vi 2,Vi (b2i false),Vs]) (by simp [results,Tryz.results139,go_sem, *]) rfl (said_at (2,b2i false,⟨#[]⟩) HR.out (by (repeat (first|exact Bxr _ _|assumption|apply Bxd|apply Bxa|apply Bxs|refine Bxt ?_ (by assumption) ?_|omega|simp))))
 ·go_enter Tryz.func139,Tryz.ntmps139
  go_wp2
  exact bodyPost_ret (v:=.agg #[Vi 0,Vi 0,Vs]) (by simp [results,Tryz.results139,go_sem, *]) rfl (said_no (0,0,⟨#[]⟩) (fun u hu => lit_some hu) (by (repeat (first|exact Bxr _ _|assumption|apply Bxd|apply Bxa|apply Bxs|refine Bxt ?_ (by assumption) ?_|omega|simp))))

theorem take_mg {s : ByteArray} {k : Nat} (h : k < s.size) : mg (s.data.toList.take (k + 1)) = if s[k].toNat = 45 then mg (s.data.toList.take k) else 10 * mg (s.data.toList.take k) + (s[k].toNat - 48):=by
 have e : s.data.toList.take (k + 1) = s.data.toList.take k ++ [s[k]]:=by
  rw [List.take_succ_eq_append_getElem (by simpa using h)]
  rfl
 rw [e,mg_snoc]

theorem take_mg_le (s : ByteArray) (k : Nat) : mg (s.data.toList.take k) ≤ mg s.data.toList:=by
 have:=mg_le (s.data.toList.take k) (s.data.toList.drop k)
 rw [List.take_append_drop] at this
 exact this

theorem said_num (s : ByteArray) (w : World) (n : Int) (n1 : (s.toList == [78,85,76,76]) = false) (n2 : (s.toList == [84,82,85,69]) = false) (n3 : (s.toList == [70,65,76,83,69]) = false) (n4 : (s.toList == []) = false)
  (h0 : 0 < s.size) (c0 : ¬ s[0].toNat = 39) (hl : LitOf s.data.toList (1,n,⟨#[]⟩)) : Calls Tryz.prog 139 #[.string s] w (SaidP s w):=by
 obtain ⟨b1,b2,_⟩:=rt_num hl.1 rfl
 have hit : Lib.itoa n = s.data.toList:=by have:=hl.2; rw [lit_int rfl] at this; exact this
 simp only at b1 b2
 have hsz : s.size ≤ 20:=by
  have h1:=itoa_len b1 b2
  rw [hit] at h1
  simpa using h1
 have HM : Hid (mg s.data.toList = n.natAbs):=by
  have h1:=itoa_mg n
  rw [hit] at h1
  exact h1
 have HB : Hid (∀ k (h : k < s.size),s[k].toNat = 45 ∨ 48 ≤ s[k].toNat ∧ s[k].toNat ≤ 57):=fun k h => by
  have h1:=itoa_bytes n s[k]
  rw [hit] at h1
  exact h1 (by rw [List.mem_iff_getElem]; exact ⟨k,by simpa using h,rfl⟩)
 have hsg : s[0].toNat = 45 ↔ n < 0:=by
  obtain ⟨c,l,e,h1⟩:=itoa_sign n
  rw [hit] at e
  have e0 : s.data.toList[0]? = some s[0]:=by rw [List.getElem?_eq_getElem (by simpa using h0)]; rfl
  rw [e] at e0
  have e1:=Option.some.inj e0
  rw [← e1]
  exact h1
 have HSG : Hid (s[0].toNat = 45 ↔ n < 0):=hsg
 have HL : Hid (LitOf s.data.toList (1,n,⟨#[]⟩)):=hl
 have c0' : ((s[0].toNat : Int) != 39) = true:=by simp; omega
 have h0i : (0 : Int) < (s.size : Int):=by omega
 clear hl hit hsg c0
 go_enter Tryz.func139,Tryz.ntmps139
 go_wp2
 go_loopw [3,4] (fun x i wr => ∃ (k : Nat) (X : Int),k ≤ s.size ∧ i = Vi k ∧ x = Vi X ∧ X = -(mg (s.data.toList.take k) : Int) ∧ wr = w.alloc (.cells #[Vi 0,Vi 0,Vs] 46)) (fun _ i _ => s.size - (intOf i).toNat)
 case atStart => exact ⟨0,0,Nat.zero_le _,rfl,rfl,rfl,rfl⟩
 case round =>
  obtain ⟨k,X,hk,rfl,rfl,hX,rfl⟩:=hrel
  have hle:=take_mg_le s (k + 1)
  have hle0:=take_mg_le s k
  rw [HM.out] at hle hle0
  by_cases hlt : k < s.size
  ·have hst:=take_mg hlt
   have k0 : (k : Int) < (s.size : Int):=by omega
   have k1 : (k : Int) < 20:=by omega
   by_cases hc : s[k].toNat = 45
   ·have hc' : ((s[k].toNat : Int) != 45) = false:=by simp; omega
    rw [if_pos hc] at hst
    have HX : Hid (X = -(mg (s.data.toList.take (k + 1)) : Int)):=by
     have : X = -(mg (s.data.toList.take (k + 1)) : Int):=by rw [hst]; exact hX
     exact this
    clear hX hst hle hle0 hc
    go_wp2
    go_roundw
    case rel => exact ⟨k + 1,X,by omega,by go_num,rfl,HX.out,by first | rfl | trivial⟩
    case measure => simp [intOf]; omega
   ·have hc' : ((s[k].toNat : Int) != 45) = true:=by simp; omega
    have hr:=HB.out k hlt
    rw [if_neg hc] at hst
    obtain ⟨c,hcc⟩ : ∃ c : Int,(s[k].toNat : Int) = c:=⟨_,rfl⟩
    have f1 : -4611686018427387904 ≤ 10 * X:=by omega
    have f2 : 10 * X ≤ 0:=by omega
    have f3 : 48 ≤ c:=by omega
    have f4 : c ≤ 57:=by omega
    have HX : Hid (10 * X - c + 48 = -(mg (s.data.toList.take (k + 1)) : Int)):=by
     have : 10 * X - c + 48 = -(mg (s.data.toList.take (k + 1)) : Int):=by omega
     exact this
    rw [hcc] at hc'
    clear hX hst hle hle0 hc hr
    go_wp2
    go_roundw
    case rel => exact ⟨k + 1,10 * X - c + 48,by omega,by go_num,by go_num,HX.out,by first | rfl | trivial⟩
    case measure => simp [intOf]; omega
  ·have hk' : k = s.size:=by omega
   subst hk'
   have htk : s.data.toList.take s.size = s.data.toList:=List.take_of_length_le (by simp)
   rw [htk,HM.out] at hX
   clear hle hle0 htk
   by_cases hn : n < 0
   ·have g0 : ((s[0].toNat : Int) != 45) = false:=by have:=HSG.out.2 hn; simp; omega
    have HX : Hid (X = n):=by
     have : X = n:=by omega
     exact this
    clear hX hn
    go_wp2_with (first | (go_at_call 156; refine (rnumber_any _ _).mono ?_; rintro e w' ⟨rfl, hb⟩; obtain ⟨hc, hf⟩ := bcell hb; have hz := hb.size; (try simp at hz); (try have hz0 : w.heap.size < w'.heap.size := by omega); (try have hz1 : w.heap.size + 1 < w'.heap.size := by omega); (try have hz2 : w.heap.size + 1 + 1 < w'.heap.size := by omega); (try have hz3 : w.heap.size + 1 + 1 + 1 < w'.heap.size := by omega)))
    exact bodyPost_ret (v:=.agg #[Vi 1,Vi X,Vs]) (by simp [results,Tryz.results139,go_sem, *]) rfl (by rw [HX.out]; exact said_at (1,n,⟨#[]⟩) HL.out (by (repeat (first|exact Bxr _ _|assumption|apply Bxd|apply Bxa|apply Bxs|refine Bxt ?_ (by assumption) ?_|omega|simp))))
   ·have g0 : ((s[0].toNat : Int) != 45) = true:=by
     have h1 : ¬ s[0].toNat = 45:=fun h => hn (HSG.out.1 h)
     simp; omega
    have hX2 : X = -n:=by omega
    subst hX2
    clear hX
    go_wp2_with (first | (go_at_call 156; refine (rnumber_any _ _).mono ?_; rintro e w' ⟨rfl, hb⟩; obtain ⟨hc, hf⟩ := bcell hb; have hz := hb.size; (try simp at hz); (try have hz0 : w.heap.size < w'.heap.size := by omega); (try have hz1 : w.heap.size + 1 < w'.heap.size := by omega); (try have hz2 : w.heap.size + 1 + 1 < w'.heap.size := by omega); (try have hz3 : w.heap.size + 1 + 1 + 1 < w'.heap.size := by omega)))
    exact bodyPost_ret (v:=.agg #[Vi 1,Vi n,Vs]) (by simp [results,Tryz.results139,go_sem, *]) rfl (said_at (1,n,⟨#[]⟩) HL.out (by (repeat (first|exact Bxr _ _|assumption|apply Bxd|apply Bxa|apply Bxs|refine Bxt ?_ (by assumption) ?_|omega|simp))))

theorem said_none (s : ByteArray) (w : World) (hs : s.size ≤ 2147483648) (n1 : (s.toList == [78,85,76,76]) = false) (n2 : (s.toList == [84,82,85,69]) = false) (n3 : (s.toList == [70,65,76,83,69]) = false) (n4 : (s.toList == []) = false)
  (h0 : 0 < s.size) (c0 : ¬ s[0].toNat = 39) (hl : ∀ u,¬ LitOf s.data.toList u) : Calls Tryz.prog 139 #[.string s] w (SaidP s w):=by
 have HL : Hid (∀ u,¬ LitOf s.data.toList u):=hl
 have c0' : ((s[0].toNat : Int) != 39) = true:=by simp; omega
 have h0i : (0 : Int) < (s.size : Int):=by omega
 clear hl c0
 go_enter Tryz.func139,Tryz.ntmps139
 go_wp2
 go_loopw [3,4] (fun x i wr => ∃ (k : Nat) (X : Int),k ≤ s.size ∧ i = Vi k ∧ x = Vi X ∧ wr = w.alloc (.cells #[Vi 0,Vi 0,Vs] 46)) (fun _ i _ => s.size - (intOf i).toNat)
 case atStart => exact ⟨0,0,Nat.zero_le _,rfl,rfl,rfl⟩
 case round =>
  obtain ⟨k,X,hk,rfl,rfl,rfl⟩:=hrel
  have hcase : ((k : Int) < (s.size : Int) ∧ (k : Int) < 20) ∨ ¬ (k : Int) < (s.size : Int) ∨ ((k : Int) < (s.size : Int) ∧ ¬ (k : Int) < 20):=by omega
  have hg : ((s[0].toNat : Int) != 45) = true ∨ ((s[0].toNat : Int) != 45) = false:=by cases ((s[0].toNat : Int) != 45) <;> simp
  rcases hcase with ⟨k0,k1⟩ | k0 | ⟨k0,k1⟩
  ·have hlt : k < s.size:=by omega
   have hc : ((s[k].toNat : Int) != 45) = true ∨ ((s[k].toNat : Int) != 45) = false:=by cases ((s[k].toNat : Int) != 45) <;> simp
   clear hg
   rcases hc with hc | hc
   all_goals
    go_wp2
    go_roundw
    case rel => exact ⟨k + 1,_,by omega,by go_num,rfl,by first | rfl | trivial⟩
    case measure => simp [intOf]; omega
  all_goals
   rcases hg with g0 | g0
   all_goals
    go_wp2_with fail
    refine (rnumber_any _ _).mono ?_
    rintro e w' ⟨rfl,hb⟩
    (obtain ⟨hc, hf⟩ := bcell hb; have hz := hb.size; (try simp at hz); (try have hz0 : w.heap.size < w'.heap.size := by omega); (try have hz1 : w.heap.size + 1 < w'.heap.size := by omega); (try have hz2 : w.heap.size + 1 + 1 < w'.heap.size := by omega); (try have hz3 : w.heap.size + 1 + 1 + 1 < w'.heap.size := by omega))
    go_wp2
    refine bodyPost_ret (by simp [results,Tryz.results139,go_sem, *]; rfl) rfl (said_no (1,_,⟨#[]⟩) HL.out (by (repeat (first|exact Bxr _ _|assumption|apply Bxd|apply Bxa|apply Bxs|refine Bxt ?_ (by assumption) ?_|omega|simp))))

theorem body_at {s : ByteArray} {j : Nat} (h1 : 1 ≤ j) (h2 : j + 1 < s.size) : (s.extract 1 (s.size - 1)).data.toList.drop (j - 1) = s[j] :: (s.extract 1 (s.size - 1)).data.toList.drop j:=by
 have hs : (s.extract 1 (s.size - 1)).size = s.size - 1 - 1:=by simp
 have hj : j - 1 < (s.extract 1 (s.size - 1)).size:=by omega
 rw [drop_one hj]
 have e1 : (s.extract 1 (s.size - 1))[j - 1] = s[j]:=by
  rw [ByteArray.getElem_extract]
  congr 1
  omega
 have e2 : j - 1 + 1 = j:=by omega
 rw [e1,e2]

theorem body_len {s : ByteArray} : (s.extract 1 (s.size - 1)).data.toList.length = s.size - 2:=by
 have hs : (s.extract 1 (s.size - 1)).size = s.size - 1 - 1:=by simp
 have : (s.extract 1 (s.size - 1)).data.toList.length = (s.extract 1 (s.size - 1)).size:=by simp
 omega

theorem cellbd (w : World) (x : Int) (c : UInt8) (t : TypeId) (h : x = (c.toNat : Int)) : ∀ j u,(bv [c])[j]? = some u → ((w.alloc (.cells #[.int .u8 x] t)).drew).cell? ((⟨w.heap.size,0,none⟩ : Addr).add j) = some u:=by
 subst h
 intro j u hj
 match j,hj with
 | 0,hj => simp [bv] at hj; subst hj; simp [Addr.add]

theorem said_text (s : ByteArray) (w : World) (hs : s.size ≤ 2147483648) (n1 : (s.toList == [78,85,76,76]) = false) (n2 : (s.toList == [84,82,85,69]) = false) (n3 : (s.toList == [70,65,76,83,69]) = false) (n4 : (s.toList == []) = false)
    (h0 : 0 < s.size) (c0 : s[0].toNat = 39) : Calls Tryz.prog 139 #[.string s] w (SaidP s w):=by
  obtain ⟨i0,hi,hz0,hz1,hz2⟩:=info_parts Tryz.info5
  have HL : Hid (∀ u,LitOf s.data.toList u → u.1 = 3 ∧ u.2.1 = 0 ∧ qbs u.2.2.data.toList = (s.extract 1 (s.size - 1)).data.toList):=fun u hu => by
    have k:=lit_first hu.1 hu.2 (by omega) c0
    exact ⟨k,(rt_text hu.1 k).1,(lit_body k hu.2).2.1.symm⟩
  have c0' : ((s[0].toNat : Int) != 39) = false:=by rw [c0]; rfl
  have h0i : (0 : Int) < (s.size : Int):=by omega
  have HBL : Hid ((s.extract 1 (s.size - 1)).data.toList.length = s.size - 2):=body_len
  have HBA : Hid (∀ j (h1 : 1 ≤ j) (h2 : j + 1 < s.size),(s.extract 1 (s.size - 1)).data.toList.drop (j - 1) = s[j] :: (s.extract 1 (s.size - 1)).data.toList.drop j):=fun j h1 h2 => body_at h1 h2
  obtain ⟨B,hB⟩:=Vx ((s.extract 1 (s.size - 1)).data.toList)
  rw [hB] at HL HBL HBA
  clear hB c0
  go_enter Tryz.func139,Tryz.ntmps139
  go_wp2
  go_loopw [5,6] (fun v i wr => ∃ (j : Nat) (xs : List UInt8),1 ≤ j ∧ j ≤ s.size + 1 ∧ i = Vi j ∧ xs.length ≤ j ∧ UQ B xs (j - 1) ∧ wr.ownsRow (w.heap.size + 1) 5 1 v xs.length (bv xs) ∧ Below (w.heap.size + 1) (w.alloc (.cells #[Vi 0,Vi 0,Vs] 46)) wr) (fun _ i _ => s.size + 1 - (intOf i).toNat)
  case atStart => exact ⟨1,[],Nat.le_refl _,by omega,rfl,by simp,uq_start _,World.ownsRow_nil _ _ _ _,Below.refl _ _⟩
  case round =>
    obtain ⟨j,xs,hj1,hj2,rfl,hxl,huq,hown,hb⟩:=hrel
    have HU : Hid (UQ B xs (j - 1)):=huq
    clear huq
    have hsz:=hb.size
    simp at hsz
    have hlt:=hown.lt
    have HB0:=hb
    by_cases hlt2 : j + 1 < s.size
    · have HDR : Hid (B.drop (j - 1) = s[j] :: B.drop j):=HBA.out j hj1 hlt2
      have hBL:=HBL.out
      have k0 : (j : Int) < (s.size : Int) - 1:=by omega
      have k1 : (j : Int) < (s.size : Int):=by omega
      have hjs : j < s.size:=by omega
      by_cases c39 : s[j].toNat = 39
      · have e39 : s[j] = 39:=UInt8.toNat_inj.1 c39
        have HU2 : Hid (UQ B (xs ++ [39]) (j - 1 + 2)):=uq_step HU.out (by omega) (fun d t e => by
          rw [HDR.out,e39] at e
          obtain ⟨a,b,_⟩:=qb_head39 e
          exact ⟨a,b.symm⟩)
        clear e39 hBL
        go_wp2_with (first | (at_builtin; refine wpList_append_own _ rfl _ _ 150 rfl (w.heap.size + 1) 5 i0 (.int .u8 0) 1 1 Tryz.underlying150 hi hz0 hz1 hz2 rfl (by decide) _ _ _ rfl (hown.alloc _) ⟨wr.heap.size,0,none⟩ 1 1 (bv [39]) rfl rfl ?c1 ?c2 ?c3 ?c4 ?c5 ?_))
        case c1 => exact cellb wr _ _ _ (by first | rfl | (rw [c39]; rfl))
        case c2 => exact bv_one _
        case c3 => unfold maxLen; omega
        case c4 => omega
        case c5 => first | omega | (simp; omega)
        · intro v1 w1 hown1 hgrow1 _
          rw [← bv_append] at hown1
          have hb1 : Below (w.heap.size + 1) (w.alloc (.cells #[Vi 0,Vi 0,Vs] 46)) w1:=(hb.alloc (by omega) _).grown hgrow1 (by simp; omega) fun k hk => (hlt k hk).1
          clear hgrow1 hown HB0 hb
          go_wp2
          go_roundw
          case rel => exact ⟨j + 2,xs ++ [39],by omega,by omega,by go_num,by simp; omega,by have:=HU2.out; rw [show j + 2 - 1 = j - 1 + 2 by omega]; exact this,by simpa using hown1,hb1⟩
          case measure => simp [intOf]; omega
      · have c39' : ((s[j].toNat : Int) == 39) = false:=by rw [beq_eq_false_iff_ne]; omega
        by_cases c92 : s[j].toNat = 92 ∧ j + 2 < s.size
        · obtain ⟨c92,h2s⟩:=c92
          have e92 : s[j] = 92:=UInt8.toNat_inj.1 c92
          have m1 : (j : Int) + 1 < (s.size : Int):=by omega
          have m2 : (j : Int) + 2 < (s.size : Int):=by omega
          have m3 : ((j : Int) + 1).toNat = j + 1:=by omega
          have m4 : ((j : Int) + 2).toNat = j + 2:=by omega
          have m5 : (0 : Int) ≤ (j : Int) + 1:=by omega
          have m6 : (0 : Int) ≤ (j : Int) + 2:=by omega
          have m7 : j + 1 < s.size:=by omega
          have m8 : IntKind.i64.wrap ((j : Int) + 1) = (j : Int) + 1:=by rw [IntKind.wrap_i64] <;> omega
          have m9 : IntKind.i64.wrap ((j : Int) + 2) = (j : Int) + 2:=by rw [IntKind.wrap_i64] <;> omega
          have r1 : ∀ h3 : j + 2 + 1 ≤ s.size - 1,B.drop j = s[j + 1] :: B.drop (j + 1):=fun h3 => by
            have r1:=HBA.out (j + 1) (by omega) (by omega)
            rw [show j + 1 - 1 = j by omega] at r1
            exact r1
          have r2 : ∀ h3 : j + 2 + 1 ≤ s.size - 1,B.drop (j + 1) = s[j + 2] :: B.drop (j + 2):=fun h3 => by
            have r2:=HBA.out (j + 2) (by omega) (by omega)
            rw [show j + 2 - 1 = j + 1 by omega] at r2
            exact r2
          obtain ⟨x,hx⟩:=Vx (s[j + 1])
          obtain ⟨y,hy⟩:=Vx (s[j + 2])
          rw [hx] at r1
          rw [hy] at r2
          obtain ⟨P,hP⟩:=Vx (plc x)
          obtain ⟨Q,hQ⟩:=Vx (plc y)
          have hP16 : P < 16:=by rw [← hP]; exact plc_lt _
          have hQ16 : Q < 16:=by rw [← hQ]; exact plc_lt _
          obtain ⟨b,hb8⟩ : ∃ b : UInt8,b.toNat = 16 * P + Q:=⟨UInt8.ofNat (16 * P + Q),by rw [UInt8.toNat_ofNat']; omega⟩
          have ew1 : IntKind.i64.wrap (16 * (P : Int)) = 16 * (P : Int):=by rw [IntKind.wrap_i64] <;> omega
          have ew2 : IntKind.i64.wrap (16 * (P : Int) + (Q : Int)) = 16 * (P : Int) + (Q : Int):=by rw [IntKind.wrap_i64] <;> omega
          have HEB : Hid (IntKind.u8.wrap (16 * (P : Int) + (Q : Int)) = (b.toNat : Int)):=by
            have : IntKind.u8.wrap (16 * (P : Int) + (Q : Int)) = (b.toNat : Int):=by rw [IntKind.wrap_u8]; omega
            exact this
          have HU2 : Hid (UQ B (xs ++ [b]) (j - 1 + 3)):=uq_step HU.out (by omega) (fun d t e => by
            rw [HDR.out,e92] at e
            obtain ⟨p,q⟩:=qb_head92 e
            refine ⟨?_,p.symm⟩
            have hd:=UInt8.toNat_lt d
            by_cases h3 : j + 2 + 1 ≤ s.size - 1
            · rw [r1 h3,r2 h3] at q
              obtain ⟨t',q⟩:=q
              simp only [List.cons_append,List.nil_append,List.cons.injEq] at q
              have p1:=plc_at (j:=d.toNat / 16) (by omega) q.1
              have p2:=plc_at (j:=d.toNat % 16) (by omega) q.2.1
              rw [hP] at p1
              rw [hQ] at p2
              exact UInt8.toNat_inj.1 (by omega)
            · exfalso
              obtain ⟨t',q⟩:=q
              have:=congrArg List.length q
              rw [List.length_append,List.length_drop] at this
              simp at this
              omega)
          clear e92 hBL r1 r2 hb8
          go_wp2
          go_region_law (first
            | (refine step_append_lies _ rfl _ _ 150 rfl (w.heap.size + 1) 5 i0 (.int .u8 0) 1 1 Tryz.underlying150 hi hz0 hz1 hz2 rfl (by decide) _ xs.length (bv xs) rfl (ownsRow_drew (hown.alloc _)) ⟨wr.heap.size,0,none⟩ 1 1 (bv [b]) rfl rfl (cellbd wr (IntKind.u8.wrap (16 * (P : Int) + (Q : Int))) b _ HEB.out) (bv_one _) (by decide) (by unfold maxLen; omega) (by omega) (by first | omega | (simp; done) | (simp; omega)) (wr.heap.size + 1) (by first | (simp; done) | (simp; omega)) ?_; intro g' cap' w1 hown1 hgrow1 _ _)
            | (go_simp; go_at_call 157; refine (place_any _ _).mono ?_; rintro e w' ⟨rfl,rfl⟩; dsimp only))
          all_goals
            rw [← bv_append] at hown1
            have hb1 : Below (w.heap.size + 1) (w.alloc (.cells #[Vi 0,Vi 0,Vs] 46)) w1:=((hb.alloc (by omega) _).drew).grown hgrow1 (by simp; omega) fun k hk => (hlt k hk).1
            clear hgrow1 hown HB0 hb
            go_wp2
            go_roundw
            case rel => exact ⟨j + 3,xs ++ [b],by omega,by omega,by go_num,by simp; omega,by have:=HU2.out; rw [show j + 3 - 1 = j - 1 + 3 by omega]; exact this,by simpa using hown1,hb1⟩
            case measure => simp [intOf]; omega
        · have hcase : ((s[j].toNat : Int) == 92) = false ∨ (((s[j].toNat : Int) == 92) = true ∧ ¬ (j : Int) + 2 < (s.size : Int)):=by
            by_cases q : s[j].toNat = 92
            · exact Or.inr ⟨by rw [q]; rfl,by omega⟩
            · exact Or.inl (by rw [beq_eq_false_iff_ne]; omega)
          have HU2 : Hid (UQ B (xs ++ [s[j]]) (j - 1 + 1)):=uq_step HU.out (by omega) (fun d t e => by
            rw [HDR.out] at e
            by_cases q : s[j].toNat = 92
            · exfalso
              have e92 : s[j] = 92:=UInt8.toNat_inj.1 q
              rw [e92] at e
              obtain ⟨_,⟨t',q'⟩⟩:=qb_head92 e
              have:=congrArg List.length q'
              rw [List.length_append,List.length_drop] at this
              simp at this
              omega
            · exact qb_headp (fun h => c39 (by rw [h]; rfl)) (fun h => q (by rw [h]; rfl)) e)
          clear c39 c92 hBL
          rcases hcase with k2 | ⟨k2,k3⟩
          all_goals
            go_wp2_with (first | (at_builtin; refine wpList_append_own _ rfl _ _ 150 rfl (w.heap.size + 1) 5 i0 (.int .u8 0) 1 1 Tryz.underlying150 hi hz0 hz1 hz2 rfl (by decide) _ _ _ rfl (hown.alloc _) ⟨wr.heap.size,0,none⟩ 1 1 (bv [s[j]]) rfl rfl ?c1 ?c2 ?c3 ?c4 ?c5 ?_))
            case c1 =>
              first
                | exact cellb wr _ _ _ rfl
                | (intro j u hj
                   match j,hj with
                   | 0,hj => simp [bv] at hj; subst hj; simp)
            case c2 => exact bv_one _
            case c3 => unfold maxLen; omega
            case c4 => omega
            case c5 => first | omega | (simp; omega)
            · intro v1 w1 hown1 hgrow1 _
              rw [← bv_append] at hown1
              have hb1 : Below (w.heap.size + 1) (w.alloc (.cells #[Vi 0,Vi 0,Vs] 46)) w1:=(hb.alloc (by omega) _).grown hgrow1 (by simp; omega) fun k hk => (hlt k hk).1
              clear hgrow1 hown HB0 hb
              go_wp2
              go_roundw
              case rel => exact ⟨j + 1,xs ++ [s[j]],by omega,by omega,by go_num,by simp; omega,by have:=HU2.out; rw [show j + 1 - 1 = j - 1 + 1 by omega]; exact this,by simpa using hown1,hb1⟩
              case measure => simp [intOf]; omega
    · have HE : Hid (∀ l,qbs l = B → xs = l):=fun l hl => (uq_end HU.out (by have:=HBL.out; omega) hl).symm
      obtain ⟨ar,cp,rfl,hcv⟩:=own_text hown
      have k0 : ¬ (j : Int) < (s.size : Int) - 1:=by omega
      have hc : ∀ b o,b < w.heap.size + 1 → wr.cell? ⟨b,o,none⟩ = (w.alloc (.cells #[Vi 0,Vi 0,Vs] 46)).cell? ⟨b,o,none⟩:=fun b o h => hb.cell (p:=⟨b,o,none⟩) h
      have hf : ∀ b o,b < w.heap.size + 1 → wr.frozen? ⟨b,o,none⟩ = (w.alloc (.cells #[Vi 0,Vi 0,Vs] 46)).frozen? ⟨b,o,none⟩:=fun b o h => hb.frozen (p:=⟨b,o,none⟩) h
      have g0 : w.heap.size < wr.heap.size:=by omega
      have g1 : w.heap.size < w.heap.size + 1:=by omega
      have hbw : Below w.heap.size w wr:=((Below.refl w.heap.size w).alloc (Nat.le_refl _) _).trans (hb.mono (by omega))
      clear hown hlt hb HB0
      go_wp2
      exact bodyPost_ret (v:=.agg #[Vi 3,Vi 0,.string ⟨xs.toArray⟩]) (by simp [results,Tryz.results139,go_sem, *]) rfl ⟨(3,0,⟨xs.toArray⟩),rfl,fun u hu => by
        obtain ⟨a,b,c⟩:=HL.out u hu
        exact v3_eq a.symm b.symm (by rw [HE.out _ c]),by (repeat (first|exact Bxr _ _|assumption|apply Bxd|apply Bxa|apply Bxs|refine Bxt ?_ (by assumption) ?_|omega|simp))⟩

theorem said_any (s : ByteArray) (w : World) (hs : s.size ≤ 2147483648) : Calls Tryz.prog 139 #[.string s] w (SaidP s w):=by
 by_cases n1 : s.data.toList = [78,85,76,76]
 ·exact said_words s w (Or.inl (bytes_eq (by simpa using n1)))
 by_cases n2 : s.data.toList = [84,82,85,69]
 ·exact said_words s w (Or.inr (Or.inl (bytes_eq (by simpa using n2))))
 by_cases n3 : s.data.toList = [70,65,76,83,69]
 ·exact said_words s w (Or.inr (Or.inr (Or.inl (bytes_eq (by simpa using n3)))))
 by_cases n4 : s.data.toList = []
 ·exact said_words s w (Or.inr (Or.inr (Or.inr (bytes_eq (by simpa using n4)))))
 have h0 : 0 < s.size:=by
  rcases Nat.eq_zero_or_pos s.size with h | h
  ·exact absurd (List.eq_nil_of_length_eq_zero (by simpa using h)) n4
  ·exact h
 by_cases c0 : s[0].toNat = 39
 ·exact said_text s w hs (beq_no n1) (beq_no n2) (beq_no n3) (beq_no n4) h0 c0
 ·by_cases hl : ∃ u,LitOf s.data.toList u
  ·obtain ⟨⟨k,n,t⟩,hu⟩:=hl
   have n5 : k ≠ 3:=by
    intro k3
    obtain ⟨a,_,b⟩:=lit_body (u:=(k,n,t)) k3 hu.2
    exact c0 (b a).1
   obtain ⟨a,b,_⟩:=lit_other hu.1 hu.2 n1 n2 n3 n5
   simp only at a b
   subst a b
   exact said_num s w n (beq_no n1) (beq_no n2) (beq_no n3) (beq_no n4) h0 c0 hu
  ·exact said_none s w hs (beq_no n1) (beq_no n2) (beq_no n3) (beq_no n4) h0 c0 fun u hu => hl ⟨u,hu⟩

theorem rparse_any (s : ByteArray) (w : World) (hs : s.size ≤ 2147483648) :
  Calls Tryz.prog 98 #[.string s] w fun e w' => e = .returned (paV s) ∧ Below w.heap.size w w':=by
 go_enter Tryz.func98,Tryz.ntmps98
 go_wp2_with fail
 refine (said_any s _ hs).mono ?_
 rintro e w1 ⟨⟨k,n,t⟩,rfl,hx,hb1⟩
 have hz1:=hb1.size
 simp at hz1
 have hz0 : w.heap.size < w1.heap.size:=by omega
 have hz0' : w.heap.size < w1.heap.size + 1:=by omega
 obtain ⟨hc1,hf1⟩:=bcell hb1
 have HX : Hid (∀ u,LitOf s.data.toList u → (k,n,t) = u):=hx
 clear hx
 go_wp2_with fail
 refine (rprint_any (k,n,t) _).mono ?_
 rintro e w2 ⟨rfl,hb2⟩
 have hz2:=hb2.size
 simp at hz2
 have hz3 : w.heap.size < w2.heap.size:=by omega
 have hz4 : w1.heap.size < w2.heap.size:=by omega
 obtain ⟨hc2,hf2⟩:=bcell hb2
 have c0 : w2.cell? ⟨w1.heap.size,0,none⟩ = some (Vi k):=cell_later hb2 (by simp)
 have c1 : w2.cell? ⟨w1.heap.size,1,none⟩ = some (Vi n):=cell_later hb2 (by simp)
 have c2 : w2.cell? ⟨w1.heap.size,2,none⟩ = some (.string t):=cell_later hb2 (by simp)
 by_cases hr : (prR (k,n,t)).2 = 0 ∧ (prR (k,n,t)).1 = s.data.toList
 ·have hl:=prR_lit hr.1 hr.2
  have HP : Hid (paV s = .tuple #[.agg #[Vi k,Vi n,.string t],Vi 0]):=paV_ok hl
  have hpv : prV (k,n,t) = .tuple #[.string s,Vi 0]:=by
   unfold prV
   rw [hr.1,hr.2]
  have hss : (s.toList == s.toList) = true:=by simp
  rw [hpv]
  clear hr hl hpv
  go_wp2
  exact bodyPost_ret (v:=.tuple #[.agg #[Vi k,Vi n,.string t],Vi 0]) (by simp [results,Tryz.results98,go_sem, *]) rfl ⟨by rw [HP.out],by (repeat (first|exact Bxr _ _|assumption|apply Bxd|apply Bxa|apply Bxs|refine Bxt ?_ (by assumption) ?_|omega|simp))⟩
 ·have HP : Hid (paV s = .tuple #[.agg #[Vi 0,Vi 0,Vs],Vi 10]):=paV_no fun v g => by
   have e:=HX.out v g
   subst e
   exact hr (by rw [prR_ok g.1]; exact ⟨rfl,g.2⟩)
  obtain ⟨p,hp⟩ : ∃ p : ByteArray,(⟨(prR (k,n,t)).1.toArray⟩ : ByteArray) = p:=⟨_,rfl⟩
  obtain ⟨z,hzz⟩:=Vx ((prR (k,n,t)).2)
  have hpv : prV (k,n,t) = .tuple #[.string p,Vi z]:=by unfold prV; rw [hp,hzz]
  have hcase : (z != 0) = true ∨ ((z != 0) = false ∧ (p.toList == s.toList) = false):=by
   by_cases q : z = 0
   ·refine Or.inr ⟨by simp [q],?_⟩
    rw [beq_eq_false_iff_ne,ByteArray.toList_eq,ByteArray.toList_eq]
    intro e
    refine hr ⟨hzz.trans q,?_⟩
    rw [← e,← hp]
   ·exact Or.inl (by simpa using q)
  rw [hpv]
  clear hr hpv hp hzz
  rcases hcase with q | ⟨q,q'⟩
  all_goals
   go_wp2
   exact bodyPost_ret (v:=.tuple #[.agg #[Vi 0,Vi 0,Vs],Vi 10]) (by simp [results,Tryz.results98,go_sem, *]) rfl ⟨by rw [HP.out],by (repeat (first|exact Bxr _ _|assumption|apply Bxd|apply Bxa|apply Bxs|refine Bxt ?_ (by assumption) ?_|omega|simp))⟩
end Go.Proofs.YtffalonhkemieaaGreatDoor
