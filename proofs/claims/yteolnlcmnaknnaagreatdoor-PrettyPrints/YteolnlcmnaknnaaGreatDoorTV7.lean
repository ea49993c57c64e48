/- V7 V8 V9 -/
import Derived.Test.YteolnlcmnaknnaaGreatDoorTV1
import Derived.Deep.RegionLaw
import Derived.Deep.AppendLies
set_option maxHeartbeats 4000000
set_option maxRecDepth 100000
namespace Go.Proofs.YteolnlcmnaknnaaGreatDoor
open Go.RowKit
theorem app_dig (c : UInt8) (l : List UInt8) : (⟨#[c]⟩ : ByteArray) ++ (⟨l.toArray⟩ : ByteArray) = ⟨(c :: l).toArray⟩:=by
 apply bytes_eq
 simp [ByteArray.data_append]

theorem digits_pos (u : Nat) (w : World) (hu : u ≤ 4611686018427387904) :
  Calls Tryz.prog 112 #[Vi (u : Int)] w fun e w' => e = .returned (.string ⟨(Lib.decDigits u).toArray⟩) ∧ w' = w:=by
 obtain ⟨g,hg⟩:=Vx (u / 10)
 obtain ⟨d,hd⟩:=Vx (u % 10)
 have HD : Hid (Lib.decDigits u = ddl g ++ [UInt8.ofNat (48 + d)]):=by
  have:=dec_eq u
  rw [hg,hd] at this
  exact this
 have hq : (u : Int).tdiv 10 = (g : Int):=by rw [Int.tdiv_eq_ediv_of_nonneg (by omega)]; omega
 have hr : (u : Int).tmod 10 = (d : Int):=by rw [Int.tmod_eq_emod_of_nonneg (by omega)]; omega
 have d0 : ¬ (d : Int) < 0:=by omega
 have d1 : (0 : Int) ≤ (d : Int) + 1:=by omega
 have d2 : (d : Int) + 1 ≤ 10:=by omega
 have d3 : (d : Int) ≤ (d : Int) + 1:=by omega
 have d4 : ((d : Int) + 1).toNat = d + 1:=by omega
 have d5:=dig_ext d (by omega)
 obtain ⟨c,hc⟩:=Vx (UInt8.ofNat (48 + d))
 rw [hc] at d5 HD
 have u0 : ¬ (u : Int) < 0:=by omega
 have hg2 : g ≤ 4611686018427387904:=by omega
 clear hg hd hc
 go_enter Tryz.func112,Tryz.ntmps112
 go_wp2
 go_loopw [3,5] (fun i v wr => ∃ (m : Nat) (l : List UInt8),m ≤ 4611686018427387904 ∧ i = Vi m ∧ v = .string ⟨l.toArray⟩ ∧ Lib.decDigits u = ddl m ++ l ∧ wr = w) (fun i _ _ => (intOf i).toNat)
 case atStart => exact ⟨g,[c],hg2,rfl,rfl,HD.out,rfl⟩
 case round =>
  obtain ⟨m,l,hm,rfl,rfl,hl,rfl⟩:=hrel
  have HL : Hid (Lib.decDigits u = ddl m ++ l):=hl
  clear hl hq hr d0 d1 d2 d3 d4 d5
  by_cases hm0 : m = 0
  ·subst hm0
   go_wp2
   go_ret
   exact ⟨by rw [HL.out]; rfl,rfl⟩
  ·obtain ⟨g',hg'⟩ : ∃ g',m / 10 = g':=⟨_,rfl⟩
   obtain ⟨d',hd'⟩ : ∃ d',m % 10 = d':=⟨_,rfl⟩
   have HD' : Hid (Lib.decDigits u = ddl g' ++ (UInt8.ofNat (48 + d') :: l)):=by
    have:=ddl_step hm0
    rw [hg',hd'] at this
    have e:=HL.out
    rw [this] at e
    have e2 : Lib.decDigits u = ddl g' ++ (UInt8.ofNat (48 + d') :: l):=by rw [e]; simp
    exact e2
   have hq : (m : Int).tdiv 10 = (g' : Int):=by rw [Int.tdiv_eq_ediv_of_nonneg (by omega)]; omega
   have hr : (m : Int).tmod 10 = (d' : Int):=by rw [Int.tmod_eq_emod_of_nonneg (by omega)]; omega
   have d0 : ¬ (d' : Int) < 0:=by omega
   have d1 : (0 : Int) ≤ (d' : Int) + 1:=by omega
   have d2 : (d' : Int) + 1 ≤ 10:=by omega
   have d3 : (d' : Int) ≤ (d' : Int) + 1:=by omega
   have d4 : ((d' : Int) + 1).toNat = d' + 1:=by omega
   have d5:=dig_ext d' (by omega)
   obtain ⟨c',hc'⟩ : ∃ c',UInt8.ofNat (48 + d') = c':=⟨_,rfl⟩
   rw [hc'] at d5 HD'
   have d6:=app_dig c' l
   have d7 : ¬ 9223372036854775807 < 1 + l.length:=by
    have h1:=dec_len 18 u (by omega)
    have h2:=congrArg List.length HL.out
    rw [List.length_append] at h2
    omega
   have hg2' : g' ≤ 4611686018427387904:=by omega
   have hg3 : g' < m:=by omega
   have hmi : ((m : Int) != 0) = true:=by simp; omega
   clear hg' hd' hc'
   go_wp2
   go_roundw
   case rel => exact ⟨g',c' :: l,hg2',rfl,rfl,HD'.out,by first | rfl | trivial⟩
   case measure => simp [intOf]; omega

theorem digits_neg (u : Nat) (w : World) (hu : u ≤ 4611686018427387904) (hp : 0 < u) :
  Calls Tryz.prog 112 #[Vi (-(u : Int))] w fun e w' => e = .returned (.string ⟨(45 :: Lib.decDigits u).toArray⟩) ∧ w' = w:=by
 obtain ⟨g,hg⟩:=Vx (u / 10)
 obtain ⟨d,hd⟩:=Vx (u % 10)
 have HD : Hid (Lib.decDigits u = ddl g ++ [UInt8.ofNat (48 + d)]):=by
  have:=dec_eq u
  rw [hg,hd] at this
  exact this
 have hq : (-(u : Int)).tdiv 10 = -(g : Int):=by rw [Int.neg_tdiv,Int.tdiv_eq_ediv_of_nonneg (by omega)]; omega
 have hr0 : (-(u : Int)).tmod 10 = -(d : Int):=by rw [Int.neg_tmod,Int.tmod_eq_emod_of_nonneg (by omega)]; omega
 have hr1 : ((-(u : Int)).tmod 10 = (d : Int) ∧ ¬ (d : Int) < 0) ∨ ((-(u : Int)).tmod 10 = -(d : Int) ∧ -(d : Int) < 0):=by omega
 have d1 : (0 : Int) ≤ (d : Int) + 1:=by omega
 have d2 : (d : Int) + 1 ≤ 10:=by omega
 have d3 : (d : Int) ≤ (d : Int) + 1:=by omega
 have d4 : ((d : Int) + 1).toNat = d + 1:=by omega
 have d5:=dig_ext d (by omega)
 obtain ⟨c,hc⟩:=Vx (UInt8.ofNat (48 + d))
 rw [hc] at d5 HD
 have u0 : -(u : Int) < 0:=by omega
 have hg2 : g ≤ 4611686018427387904:=by omega
 clear hg hd hc hr0
 rcases hr1 with ⟨hr,d0⟩ | ⟨hr,d0⟩
 all_goals
  go_enter Tryz.func112,Tryz.ntmps112
  go_wp2
  go_loopw [3,5] (fun i v wr => ∃ (m : Nat) (l : List UInt8),m ≤ 4611686018427387904 ∧ i = Vi (-(m : Int)) ∧ v = .string ⟨l.toArray⟩ ∧ Lib.decDigits u = ddl m ++ l ∧ wr = w) (fun i _ _ => (-(intOf i)).toNat)
  case atStart => exact ⟨g,[c],hg2,rfl,rfl,HD.out,rfl⟩
  case round =>
   obtain ⟨m,l,hm,rfl,rfl,hl,rfl⟩:=hrel
   have HL : Hid (Lib.decDigits u = ddl m ++ l):=hl
   clear hl hq hr d0 d1 d2 d3 d4 d5
   by_cases hm0 : m = 0
   ·subst hm0
    have d6:=app_dig 45 l
    have d7 : ¬ 9223372036854775807 < 1 + l.length:=by
     have h1:=dec_len 18 u (by omega)
     have h2:=congrArg List.length HL.out
     rw [List.length_append] at h2
     omega
    go_wp2
    go_ret
    exact ⟨by rw [HL.out]; rfl,rfl⟩
   ·obtain ⟨g',hg'⟩ : ∃ g',m / 10 = g':=⟨_,rfl⟩
    obtain ⟨d',hd'⟩ : ∃ d',m % 10 = d':=⟨_,rfl⟩
    have HD' : Hid (Lib.decDigits u = ddl g' ++ (UInt8.ofNat (48 + d') :: l)):=by
     have:=ddl_step hm0
     rw [hg',hd'] at this
     have e:=HL.out
     rw [this] at e
     have e2 : Lib.decDigits u = ddl g' ++ (UInt8.ofNat (48 + d') :: l):=by rw [e]; simp
     exact e2
    have hq : (-(m : Int)).tdiv 10 = -(g' : Int):=by rw [Int.neg_tdiv,Int.tdiv_eq_ediv_of_nonneg (by omega)]; omega
    have hr0 : (-(m : Int)).tmod 10 = -(d' : Int):=by rw [Int.neg_tmod,Int.tmod_eq_emod_of_nonneg (by omega)]; omega
    have hr1 : ((-(m : Int)).tmod 10 = (d' : Int) ∧ ¬ (d' : Int) < 0) ∨ ((-(m : Int)).tmod 10 = -(d' : Int) ∧ -(d' : Int) < 0):=by omega
    have d1 : (0 : Int) ≤ (d' : Int) + 1:=by omega
    have d2 : (d' : Int) + 1 ≤ 10:=by omega
    have d3 : (d' : Int) ≤ (d' : Int) + 1:=by omega
    have d4 : ((d' : Int) + 1).toNat = d' + 1:=by omega
    have d5:=dig_ext d' (by omega)
    obtain ⟨c',hc'⟩ : ∃ c',UInt8.ofNat (48 + d') = c':=⟨_,rfl⟩
    rw [hc'] at d5 HD'
    have d6:=app_dig c' l
    have d7 : ¬ 9223372036854775807 < 1 + l.length:=by
     have h1:=dec_len 18 u (by omega)
     have h2:=congrArg List.length HL.out
     rw [List.length_append] at h2
     omega
    have hg2' : g' ≤ 4611686018427387904:=by omega
    have hg3 : g' < m:=by omega
    have hmi : (-(m : Int) != 0) = true:=by simp; omega
    clear hg' hd' hc' hr0
    rcases hr1 with ⟨hr,d0⟩ | ⟨hr,d0⟩
    all_goals
     go_wp2
     go_roundw
     case rel => exact ⟨g',c' :: l,hg2',rfl,rfl,HD'.out,by first | rfl | trivial⟩
     case measure => simp [intOf]; omega

theorem digits_any (n : Int) (w : World) (h1 : -4611686018427387904 ≤ n) (h2 : n ≤ 4611686018427387904) :
  Calls Tryz.prog 112 #[Vi n] w fun e w' => e = .returned (.string ⟨(Lib.itoa n).toArray⟩) ∧ w' = w:=by
 by_cases h : n < 0
 ·have e : n = -((n.natAbs : Nat) : Int):=by omega
  have e2 : Lib.itoa n = 45 :: Lib.decDigits n.natAbs:=by unfold Lib.itoa; rw [if_pos h]
  rw [e2]
  have:=digits_neg n.natAbs w (by omega) (by omega)
  rw [← e] at this
  exact this
 ·have e : n = ((n.toNat : Nat) : Int):=by omega
  have e2 : Lib.itoa n = Lib.decDigits n.toNat:=by unfold Lib.itoa; rw [if_neg h]
  rw [e2]
  have:=digits_pos n.toNat w (by omega)
  rw [← e] at this
  exact this

theorem cell2 (w : World) (t : TypeId) : ∀ j u,(bv [39,39])[j]? = some u → (w.alloc (.cells #[.int .u8 39,.int .u8 39] t)).cell? ((⟨w.heap.size,0,none⟩ : Addr).add j) = some u:=by
 intro j u hj
 match j,hj with
 | 0,hj => simp [bv] at hj; subst hj; simp [Addr.add]
 | 1,hj => simp [bv] at hj; subst hj; simp [Addr.add]

theorem quoted_any (s : ByteArray) (w : World) (hs : s.size ≤ 2147483648) :
  Calls Tryz.prog 113 #[.string s] w fun e w' => e = .returned (.string ⟨(quo s).toArray⟩) ∧ Below w.heap.size w w':=by
 obtain ⟨i0,hi,hz0,hz1,hz2⟩:=info_parts Tryz.info5
 go_enter Tryz.func113,Tryz.ntmps113
 go_wp2
 go_loopw [3,4] (fun v i wr => ∃ (k : Nat) (xs : List UInt8),k ≤ s.size ∧ i = Vi k ∧ xs = 39 :: qbs (s.data.toList.take k) ∧ xs.length ≤ 3 * k + 1 ∧ wr.ownsRow w.heap.size 5 1 v xs.length (bv xs) ∧ Below w.heap.size w wr) (fun _ i _ => s.size - (intOf i).toNat)
 case atStart =>
  refine ⟨0,[39],Nat.zero_le _,rfl,rfl,by simp,⟨by simp [bv],Or.inr ⟨w.heap.size,1,#[.int .u8 39],rfl,Nat.le_refl _,?_,by simp,by decide,by simp,by simp [bv]⟩⟩,(Below.refl _ _).alloc (Nat.le_refl _) _⟩
  exact heap_alloc_new w _
 case round =>
  obtain ⟨k,xs,hk,rfl,hxs,hxl,hown,hb⟩:=hrel
  have hsz:=hb.size
  have hlt:=hown.lt
  by_cases hlt2 : k < s.size
  ·have HQ : Hid (xs ++ qb s[k] = 39 :: qbs (s.data.toList.take (k + 1))):=by
    have : xs ++ qb s[k] = 39 :: qbs (s.data.toList.take (k + 1)):=by rw [qbs_take s k hlt2,hxs]; rfl
    exact this
   have hq3:=qb_len s[k]
   have hcl:=UInt8.toNat_lt s[k]
   obtain ⟨c,hc⟩:=Vx (s[k])
   rw [hc] at HQ hq3 hcl
   clear hxs
   by_cases c39 : c.toNat = 39
   ·rw [qb_mark c39] at HQ
    have e39 : ((c.toNat : Int) == 39) = true:=by rw [c39]; rfl
    clear c39 hq3
    go_wp2_with (first | (at_builtin; refine wpList_append_own _ rfl _ _ 40 rfl w.heap.size 5 i0 (.int .u8 0) 1 1 Tryz.underlying40 hi hz0 hz1 hz2 rfl (by decide) _ _ _ rfl (hown.alloc _) ⟨wr.heap.size,0,none⟩ 2 2 (bv [39,39]) rfl rfl ?c1 ?c2 ?c3 ?c4 ?c5 ?_))
    case c1 => exact cell2 wr _
    case c2 => exact bv_one _
    case c3 => unfold maxLen; omega
    case c4 => omega
    case c5 => simp; omega
    ·intro v1 w1 hown1 hgrow1 _
     rw [← bv_append] at hown1
     have hb1 : Below w.heap.size w w1:=(hb.alloc (by omega) _).grown hgrow1 (by simp; omega) fun k hk => (hlt k hk).1
     clear hgrow1 hown
     go_wp2
     go_roundw
     case rel => exact ⟨k + 1,xs ++ [39,39],by omega,by go_num,HQ.out,by simp; omega,by simpa using hown1,hb1⟩
     case measure => simp [intOf]; omega
   ·have c39' : ((c.toNat : Int) == 39) = false:=by rw [beq_eq_false_iff_ne]; omega
    by_cases h2 : c.toNat = 92 ∨ c.toNat < 32 ∨ 126 < c.toNat
    ·rw [qb_hex c39 h2] at HQ
     obtain ⟨d,hd⟩:=Vx (c.toNat % 16)
     obtain ⟨g,hg⟩:=Vx (c.toNat / 16)
     rw [hd,hg] at HQ
     have e1 : (c.toNat : Int).tdiv 16 = (g : Int):=by rw [Int.tdiv_eq_ediv_of_nonneg (by omega)]; omega
     have e2 : (c.toNat : Int).tmod 16 = (d : Int):=by rw [Int.tmod_eq_emod_of_nonneg (by omega)]; omega
     have e3 : (0 : Int) ≤ (g : Int):=by omega
     have eg : IntKind.u8.wrap (g : Int) = g:=by rw [IntKind.wrap_u8]; omega
     have e4 : (g : Int) < 16:=by omega
     have e5 : (0 : Int) ≤ (d : Int):=by omega
     have e6 : (d : Int) < 16:=by omega
     have hx1:=fun h => hexd_at g h
     have hx2:=fun h => hexd_at d h
     have h2' : ((c.toNat : Int) < 32) ∨ (¬ (c.toNat : Int) < 32 ∧ 126 < (c.toNat : Int)) ∨ (¬ (c.toNat : Int) < 32 ∧ ¬ 126 < (c.toNat : Int) ∧ ((c.toNat : Int) == 92) = true):=by
      by_cases a : (c.toNat : Int) < 32
      ·exact Or.inl a
      ·by_cases b : 126 < (c.toNat : Int)
       ·exact Or.inr (Or.inl ⟨a,b⟩)
       ·exact Or.inr (Or.inr ⟨a,b,by rw [beq_iff_eq]; omega⟩)
     clear h2 hd hg c39 hq3
     rcases h2' with k1 | ⟨k1,k2⟩ | ⟨k1,k2,k3⟩
     all_goals
      go_wp2
      go_region_law (first | (refine step_append_lies _ rfl _ _ 40 rfl w.heap.size 5 i0 (.int .u8 0) 1 1 Tryz.underlying40 hi hz0 hz1 hz2 rfl (by decide) _ xs.length (bv xs) rfl (ownsRow_drew (hown.alloc _)) ⟨wr.heap.size,0,none⟩ 3 3 (bv [92,hexd g,hexd d]) rfl rfl (cells3 wr (hexd g) (hexd d) _) (bv_one _) (by decide) (by unfold maxLen; omega) (by omega) (by simp; omega) (wr.heap.size + 1) (by simp) ?_; intro g' cap' w1 hown1 hgrow1 _ _))
      all_goals
       rw [← bv_append] at hown1
       have hb1 : Below w.heap.size w w1:=((hb.alloc (by omega) _).drew).grown hgrow1 (by simp; omega) fun k hk => (hlt k hk).1
       clear hgrow1 hown
       go_wp2
       go_roundw
       case rel => exact ⟨k + 1,xs ++ [92,hexd g,hexd d],by omega,by go_num,HQ.out,by simp; omega,by simpa using hown1,hb1⟩
       case measure => simp [intOf]; omega
    ·rw [qb_plain c39 h2] at HQ
     have k1 : ¬ (c.toNat : Int) < 32:=by omega
     have k2 : ¬ 126 < (c.toNat : Int):=by omega
     have k3 : ((c.toNat : Int) == 92) = false:=by rw [beq_eq_false_iff_ne]; omega
     clear h2 c39 hq3
     go_wp2_with (first | (at_builtin; refine wpList_append_own _ rfl _ _ 40 rfl w.heap.size 5 i0 (.int .u8 0) 1 1 Tryz.underlying40 hi hz0 hz1 hz2 rfl (by decide) _ _ _ rfl (hown.alloc _) ⟨wr.heap.size,0,none⟩ 1 1 (bv [c]) rfl rfl ?c1 ?c2 ?c3 ?c4 ?c5 ?_))
     case c1 =>
      intro j u hj
      match j,hj with
      | 0,hj => simp [bv] at hj; subst hj; simp
     case c2 => exact bv_one _
     case c3 => unfold maxLen; omega
     case c4 => omega
     case c5 => first | omega | (simp; omega)
     ·intro v1 w1 hown1 hgrow1 _
      rw [← bv_append] at hown1
      have hb1 : Below w.heap.size w w1:=(hb.alloc (by omega) _).grown hgrow1 (by simp; omega) fun k hk => (hlt k hk).1
      clear hgrow1 hown
      go_wp2
      go_roundw
      case rel => exact ⟨k + 1,xs ++ [c],by omega,by go_num,HQ.out,by simp; omega,by simpa using hown1,hb1⟩
      case measure => simp [intOf]; omega
  ·have hk' : k = s.size:=by omega
   subst hk'
   have htk : s.data.toList.take s.size = s.data.toList:=List.take_of_length_le (by simp)
   rw [htk] at hxs
   have HQ : Hid (xs ++ [39] = quo s):=by
    have : xs ++ [39] = quo s:=by rw [hxs]; rfl
    exact this
   clear htk hxs
   go_wp2_with (first | (at_builtin; refine wpList_append_own _ rfl _ _ 40 rfl w.heap.size 5 i0 (.int .u8 0) 1 1 Tryz.underlying40 hi hz0 hz1 hz2 rfl (by decide) _ _ _ rfl (hown.alloc _) ⟨wr.heap.size,0,none⟩ 1 1 (bv [39]) rfl rfl ?c1 ?c2 ?c3 ?c4 ?c5 ?_))
   case c1 => exact cellb wr _ _ _ rfl
   case c2 => exact bv_one _
   case c3 => unfold maxLen; omega
   case c4 => omega
   case c5 => simp; omega
   ·intro v1 w1 hown1 hgrow1 _
    rw [← bv_append] at hown1
    obtain ⟨g,cap,rfl,hcv⟩:=own_string hown1 (by simp)
    have hbb : Below w.heap.size w w1:=(hb.alloc (by omega) _).grown hgrow1 (by simp; omega) fun k hk => (hlt k hk).1
    clear hown1 hgrow1 hown hlt
    go_wp2
    go_ret
    exact ⟨by rw [HQ.out]; rfl,hbb⟩

theorem rprint_any (v : V3) (w : World) :
  Calls Tryz.prog 83 #[.agg #[Vi v.1,Vi v.2.1,.string v.2.2]] w fun e w' => e = .returned (prV v) ∧ Below w.heap.size w w':=by
 obtain ⟨k,n,s⟩:=v
 cases hr : V3.right (k,n,s) with
 | false =>
  have hrg : rgt k n s = false:=hr
  have HP : Hid (prV (k,n,s) = .tuple #[Vs,Vi 10]):=by
   have : prV (k,n,s) = .tuple #[Vs,Vi 10]:=by unfold prV; rw [prR_no hr]
   exact this
  clear hr
  go_enter Tryz.func83,Tryz.ntmps83
  go_wp2_with (first | (go_at_call 110; refine (rright_any _ _ _ _).mono ?_; rintro e w' ⟨rfl,hb⟩; rw [hrg]; (obtain ⟨hc, hf⟩ := bcell hb; have hz := hb.size; (try simp at hz); (try have hz0 : w.heap.size < w'.heap.size := by omega); (try have hz1 : w.heap.size + 1 < w'.heap.size := by omega); (try have hz2 : w.heap.size + 1 + 1 < w'.heap.size := by omega); (try have hz3 : w.heap.size + 1 + 1 + 1 < w'.heap.size := by omega))))
  exact bodyPost_ret (v:=.tuple #[Vs,Vi 10]) (by simp [results,Tryz.results83,go_sem]) rfl ⟨by rw [HP.out],by (repeat (first|exact Bxr _ _|assumption|apply Bxd|apply Bxa|apply Bxs|refine Bxt ?_ (by assumption) ?_|omega|simp))⟩
 | true =>
  have hrg : rgt k n s = true:=hr
  have HP : Hid (prV (k,n,s) = .tuple #[.string ⟨(lit (k,n,s)).toArray⟩,Vi 0]):=by
   have : prV (k,n,s) = .tuple #[.string ⟨(lit (k,n,s)).toArray⟩,Vi 0]:=by unfold prV; rw [prR_ok hr]
   exact this
  rcases rt_kind hr with q | q | q | q
  all_goals simp only at q; subst q
  ·have HL : Hid (lit (0,n,s) = [78,85,76,76]):=lit_null rfl
   clear hr
   go_enter Tryz.func83,Tryz.ntmps83
   go_wp2_with (first | (go_at_call 110; refine (rright_any _ _ _ _).mono ?_; rintro e w' ⟨rfl,hb⟩; rw [hrg]; (obtain ⟨hc, hf⟩ := bcell hb; have hz := hb.size; (try simp at hz); (try have hz0 : w.heap.size < w'.heap.size := by omega); (try have hz1 : w.heap.size + 1 < w'.heap.size := by omega); (try have hz2 : w.heap.size + 1 + 1 < w'.heap.size := by omega); (try have hz3 : w.heap.size + 1 + 1 + 1 < w'.heap.size := by omega))))
   exact bodyPost_ret (v:=.tuple #[.string ⟨#[78,85,76,76]⟩,Vi 0]) (by simp [results,Tryz.results83,go_sem]) rfl ⟨by rw [HP.out,HL.out],by (repeat (first|exact Bxr _ _|assumption|apply Bxd|apply Bxa|apply Bxs|refine Bxt ?_ (by assumption) ?_|omega|simp))⟩
  ·have HL : Hid (lit (1,n,s) = Lib.itoa n):=lit_int rfl
   have b1:=(rt_num hr rfl).1
   have b2:=(rt_num hr rfl).2.1
   simp only at b1 b2
   clear hr
   go_enter Tryz.func83,Tryz.ntmps83
   go_wp2_with fail
   refine (rright_any _ _ _ _).mono ?_
   rintro e w1 ⟨rfl,hb1⟩
   rw [hrg]
   have z1:=hb1.size
   simp at z1
   have c1 : w1.cell? ⟨w.heap.size,0,none⟩ = some (Vi 1):=cell_later hb1 (by simp)
   have c2 : w1.cell? ⟨w.heap.size,1,none⟩ = some (Vi n):=cell_later hb1 (by simp)
   go_wp2_with fail
   refine (digits_any _ _ (by omega) (by omega)).mono ?_
   rintro e w2 ⟨rfl,hw2⟩
   rw [hw2]
   clear hw2
   go_wp2
   exact bodyPost_ret (v:=.tuple #[.string ⟨(Lib.itoa n).toArray⟩,Vi 0]) (by simp [results,Tryz.results83,go_sem]) rfl ⟨by rw [HP.out,HL.out],by (repeat (first|exact Bxr _ _|assumption|apply Bxd|apply Bxa|apply Bxs|refine Bxt ?_ (by assumption) ?_|omega|simp))⟩
  ·have b1:=(right_bool hr rfl).1
   simp only at b1
   rcases b1 with rfl | rfl
   ·have HL : Hid (lit (2,0,s) = [70,65,76,83,69]):=lit_false rfl rfl
    clear hr
    go_enter Tryz.func83,Tryz.ntmps83
    go_wp2_with (first | (go_at_call 110; refine (rright_any _ _ _ _).mono ?_; rintro e w' ⟨rfl,hb⟩; rw [hrg]; (obtain ⟨hc, hf⟩ := bcell hb; have hz := hb.size; (try simp at hz); (try have hz0 : w.heap.size < w'.heap.size := by omega); (try have hz1 : w.heap.size + 1 < w'.heap.size := by omega); (try have hz2 : w.heap.size + 1 + 1 < w'.heap.size := by omega); (try have hz3 : w.heap.size + 1 + 1 + 1 < w'.heap.size := by omega))))
    exact bodyPost_ret (v:=.tuple #[.string ⟨#[70,65,76,83,69]⟩,Vi 0]) (by simp [results,Tryz.results83,go_sem]) rfl ⟨by rw [HP.out,HL.out],by (repeat (first|exact Bxr _ _|assumption|apply Bxd|apply Bxa|apply Bxs|refine Bxt ?_ (by assumption) ?_|omega|simp))⟩
   ·have HL : Hid (lit (2,1,s) = [84,82,85,69]):=lit_true rfl rfl
    clear hr
    go_enter Tryz.func83,Tryz.ntmps83
    go_wp2_with (first | (go_at_call 110; refine (rright_any _ _ _ _).mono ?_; rintro e w' ⟨rfl,hb⟩; rw [hrg]; (obtain ⟨hc, hf⟩ := bcell hb; have hz := hb.size; (try simp at hz); (try have hz0 : w.heap.size < w'.heap.size := by omega); (try have hz1 : w.heap.size + 1 < w'.heap.size := by omega); (try have hz2 : w.heap.size + 1 + 1 < w'.heap.size := by omega); (try have hz3 : w.heap.size + 1 + 1 + 1 < w'.heap.size := by omega))))
    exact bodyPost_ret (v:=.tuple #[.string ⟨#[84,82,85,69]⟩,Vi 0]) (by simp [results,Tryz.results83,go_sem]) rfl ⟨by rw [HP.out,HL.out],by (repeat (first|exact Bxr _ _|assumption|apply Bxd|apply Bxa|apply Bxs|refine Bxt ?_ (by assumption) ?_|omega|simp))⟩
  ·have HL : Hid (lit (3,n,s) = quo s):=lit_text rfl
   have b1:=(rt_text hr rfl).2
   simp only at b1
   clear hr
   go_enter Tryz.func83,Tryz.ntmps83
   go_wp2_with (first | (go_at_call 110; refine (rright_any _ _ _ _).mono ?_; rintro e w' ⟨rfl,hb⟩; rw [hrg]; (obtain ⟨hc, hf⟩ := bcell hb; have hz := hb.size; (try simp at hz); (try have hz0 : w.heap.size < w'.heap.size := by omega); (try have hz1 : w.heap.size + 1 < w'.heap.size := by omega); (try have hz2 : w.heap.size + 1 + 1 < w'.heap.size := by omega); (try have hz3 : w.heap.size + 1 + 1 + 1 < w'.heap.size := by omega))) | (go_at_call 113; refine (quoted_any _ _ (by omega)).mono ?_; rintro e w2 ⟨rfl,hb2⟩))
   exact bodyPost_ret (v:=.tuple #[.string ⟨(quo s).toArray⟩,Vi 0]) (by simp [results,Tryz.results83,go_sem]) rfl ⟨by rw [HP.out,HL.out],by (repeat (first|exact Bxr _ _|assumption|apply Bxd|apply Bxa|apply Bxs|refine Bxt ?_ (by assumption) ?_|omega|simp))⟩
end Go.Proofs.YteolnlcmnaknnaaGreatDoor
