/- N34 -/
import Derived.Test.YtbfjmccpcbhljaaGreatDoorTM163
import Derived.Test.YtbfjmccpcbhljaaGreatDoorTN34a
import Derived.Test.YtbfjmccpcbhljaaGreatDoorTF70
import Derived.Deep.RegionWith
import Derived.Deep.CutRange
set_option maxHeartbeats 16000000
set_option maxRecDepth 100000
namespace Go.Proofs.YtbfjmccpcbhljaaGreatDoor
open Go.RowKit
theorem cut_two (x : List UInt8) (i j : Nat) (hij : i < j) (hj : j < x.length) : x.take i ++ 32 :: ((x.take j).drop (i + 1) ++ 32 :: x.drop (j + 1)) = (x.set i 32).set j 32:=by
 have h1 : x.set i 32 = x.take i ++ 32 :: x.drop (i + 1):=List.set_eq_take_append_cons_drop ▸ by rw [if_pos (by omega)]
 rw [h1,List.set_append_right _ _ (by rw [List.length_take]; omega),List.length_take,Nat.min_eq_left (by omega)]
 obtain ⟨m,rfl⟩ : ∃ m,j = i + 1 + m:=⟨j - i - 1,by omega⟩
 rw [show i + 1 + m - i = m + 1 by omega,List.set_cons_succ]
 congr 2
 have h2 : (x.drop (i + 1)).set m 32 = (x.drop (i + 1)).take m ++ 32 :: (x.drop (i + 1)).drop (m + 1):=List.set_eq_take_append_cons_drop ▸ by rw [if_pos (by rw [List.length_drop]; omega)]
 rw [h2,List.drop_drop,List.take_drop]
 rfl

theorem twq_of {w : World} {x : Nat} {a b : Value} {t : TypeId} (h : w.heap[x]? = some (.cells #[a,b] t (0,0))) : (w.cell? ⟨x,0,none⟩ = some a ∧ w.cell? ⟨x,1,none⟩ = some b) ∧ w.frozen? ⟨x,0,none⟩ = false ∧ w.frozen? ⟨x,1,none⟩ = false:=by
 simp [World.cell?,World.frozen?,h]

theorem ps0 {α : Type} (h : Array α) (a : α) : (h.push a)[h.size]? = some a:=by simp

theorem ps1 {α : Type} (h : Array α) (a b : α) : ((h.push a).push b)[h.size]? = some a:=by
 rw [Array.getElem?_push,if_neg (by simp)]
 simp

theorem ps2 {α : Type} (h : Array α) (a b : α) : ((h.push a).push b)[h.size + 1]? = some b:=by
 rw [Array.getElem?_push,if_pos (by simp)]

theorem extract_list (s : ByteArray) (a b : Nat) : (s.extract a b).data.toList = (s.data.toList.take b).drop a:=by
 rw [ByteArray.data_extract,Array.toList_extract,List.extract_eq_take_drop,List.drop_take]

theorem prettyNeeds_law (x : St) (v : Value) (w : World) (h1 : StIn w x v) (hv : SV w) : Calls Tryz.prog 6 #[v] w fun e w' => e = .returned (.bool true) ∧ Below w.heap.size w w':=by
 obtain ⟨a0,a1,a2,a3,a4,a5,a6,c0,c1,c2,c3,c4,c5,c6,rfl,h1⟩:=h1
 have HV:=Lib.hid hv
 have HX:=Lib.hid h1
 clear hv h1
 obtain ⟨W,hW⟩ : ∃ W,w.alloc (.cells #[.int .i64 x.kind,.string x.table,.string x.join,.slice a0 x.on.length c0,.slice a1 x.whr.length c1,.slice a2 x.items.length c2,.bool x.star,.slice a3 x.sets.length c3,.slice a4 x.groups.length c4,.slice a5 x.sorts.length c5,.slice a6 x.limit.length c6,.int .i64 x.place,.int .i64 x.joinAt] 27) = W:=⟨_,rfl⟩
 have HB0 : Hid (Below w.heap.size w W):=Lib.hid (hW ▸ (Below.refl _ _).alloc (Nat.le_refl _) _)
 have RA0 : Hid (W.heap[w.heap.size]? = some (.cells #[.int .i64 x.kind,.string x.table,.string x.join,.slice a0 x.on.length c0,.slice a1 x.whr.length c1,.slice a2 x.items.length c2,.bool x.star,.slice a3 x.sets.length c3,.slice a4 x.groups.length c4,.slice a5 x.sorts.length c5,.slice a6 x.limit.length c6,.int .i64 x.place,.int .i64 x.joinAt] 27 (0,0))):=Lib.hid (hW ▸ heap_alloc_new w _)
 go_enter Tryz.func6,Tryz.ntmps6
 go_wp2_with fail
 clear hW
 refine (awake12_any _ (HV.out.later HB0.out)).mono ?_
 rintro e w1 ⟨rfl,hb⟩
 have HB1:=Hbt HB0 hb
 have RA1:=Hbk hb RA0
 clear hb RA0 HB0
 have z1:=thirt_of RA1.out
 go_wp2_with fail
 refine (print_st x a0 a1 a2 a3 a4 a5 a6 c0 c1 c2 c3 c4 c5 c6 _ (HV.out.later HB1.out) (HX.out.later HB1.out)).mono ?_
 rintro e w3 ⟨hb,hor⟩
 have HB3:=Hbt HB1 hb
 have RA3:=Hbk hb RA1
 clear hb RA1 HB1 z1
 rcases hor with ⟨-,rfl⟩ | ⟨-,-,rfl⟩ | ⟨h,hl,rfl⟩
 ·go_wp2
  exact bodyPost_ret (v:=.bool true) (by simp [results,Tryz.results6,go_sem]) rfl ⟨rfl,HB3.out⟩
 ·go_wp2
  exact bodyPost_ret (v:=.bool true) (by simp [results,Tryz.results6,go_sem]) rfl ⟨rfl,HB3.out⟩
 have HRT:=Lib.hid h
 obtain ⟨X,hX⟩ : ∃ X,xS x = X:=⟨_,rfl⟩
 have HNO : Hid (∀ (u : St) (i j : Nat),X[i]? = some 40 → qr false (X.take i) = false → X[j]? = some 41 → qr false (X.take j) = false → ∀ s : ByteArray,s.data.toList = (X.set i 32).set j 32 → ParseIs s (.st u) → ¬ SmSt u x):=by
  rw [← hX]
  exact fun u i j h1 h2 h3 h4 s hs hp => needs_no HRT.out h1 h2 h3 h4 hs hp
 have HSH : Hid (∀ i,qr false (X.take i) = false → bdp false (X.drop i) ≤ 0):=by
  rw [← hX]
  exact fun i hi => shut_bdp HRT.out hi
 rw [hX] at hl ⊢
 clear h hX HRT
 obtain ⟨U,hU⟩ : ∃ U,(⟨X.toArray⟩ : ByteArray) = U:=⟨_,rfl⟩
 have HU : Hid (U.data.toList = X):=by
  show _ = _
  rw [← hU]
 have hxl : X.length = U.size:=by rw [← HU.out]; simp
 have hus : U.size ≤ 1000:=by omega
 have HGET : Hid (∀ j (h : j < U.size),X[j]? = some U[j]):=fun j h => by
  rw [← HU.out,List.getElem?_eq_getElem (by simpa using h)]
  rfl
 have HXL:=Lib.hid hxl
 rw [hU]
 clear hU hl hxl
 go_wp2
 go_loopw [6,7] (fun q i wr => ∃ (k : Nat) (b : Bool),k ≤ U.size ∧ q = .bool b ∧ i = .int .i64 (k : Int) ∧ b = qr false (X.take k) ∧ Below w.heap.size w wr ∧ wr.heap[w.heap.size]? = some (.cells #[.int .i64 x.kind,.string x.table,.string x.join,.slice a0 x.on.length c0,.slice a1 x.whr.length c1,.slice a2 x.items.length c2,.bool x.star,.slice a3 x.sets.length c3,.slice a4 x.groups.length c4,.slice a5 x.sorts.length c5,.slice a6 x.limit.length c6,.int .i64 x.place,.int .i64 x.joinAt] 27 (0,0))) (fun _ i _ => U.size - (intOf i).toNat)
 case atStart => exact ⟨0,false,Nat.zero_le _,rfl,rfl,by simp [qr],HB3.out,RA3.out⟩
 case round =>
  obtain ⟨k,b,hk,rfl,rfl,hb,hbe,hra⟩:=hrel
  have HQ:=Lib.hid hb
  have HB4:=Lib.hid hbe
  have RA4:=Lib.hid hra
  clear hb hbe hra
  by_cases hlt : k < U.size
  ·have hlti : (k : Int) < (U.size : Int):=by omega
   obtain ⟨c,hc⟩ : ∃ c,U[k] = c:=⟨_,rfl⟩
   have HC : Hid (X[k]? = some c):=by
    show _ = _
    rw [HGET.out k hlt,hc]
   have HNQ : Hid (qr false (X.take (k + 1)) = if c = 39 then !b else b):=by
    show _ = _
    have hl : k < X.length:=by rw [HXL.out]; exact hlt
    have e : X[k] = c:=by
     have:=HC.out
     rw [List.getElem?_eq_getElem hl] at this
     exact Option.some.inj this
    rw [List.take_succ_eq_append_getElem hl,qr_app,← HQ.out,e]
    rfl
   by_cases c39 : c = 39
   ·subst c39
    cases b with
    | true =>
     go_wp2
     go_roundw
     case rel => exact ⟨k + 1,false,by omega,rfl,by go_num,by rw [HNQ.out]; simp,HB4.out,RA4.out⟩
     case measure => simp [intOf]; omega
    | false =>
     go_wp2
     go_roundw
     case rel => exact ⟨k + 1,true,by omega,rfl,by go_num,by rw [HNQ.out]; simp,HB4.out,RA4.out⟩
     case measure => simp [intOf]; omega
   have n39 : ((c.toNat : Int) == 39) = false:=by
    rw [beq_eq_false_iff_ne]
    intro e
    exact c39 (UInt8.toNat_inj.1 (by show c.toNat = 39; omega))
   have HN9:=Lib.hid c39
   clear c39
   cases b with
   | true =>
    go_wp2
    go_roundw
    case rel => exact ⟨k + 1,true,by omega,rfl,by go_num,by rw [HNQ.out]; simp [HN9.out],HB4.out,RA4.out⟩
    case measure => simp [intOf]; omega
   | false =>
    by_cases c40 : c = 40
    ·subst c40
     have HCL:=Lib.hid (closing_any U X HU.out hus k HC.out (HSH.out k HQ.out.symm))
     go_upto_region 11 with fail
     go_cut [75] from 21 to 109 (fun v wx => ∃ g,v = .bool g ∧ wx = wr)
     case first =>
      by_cases k0 : k = 0
      ·have k0i : ¬ (0 : Int) < (k : Int):=by omega
       have k1i : ¬ (1 : Int) < (k : Int):=by omega
       clear k0
       go_wp2
       go_meet
       case rel => exact ⟨_,rfl,rfl⟩
      have k0i : (0 : Int) < (k : Int):=by omega
      obtain ⟨m,hm⟩ : ∃ m,k = m + 1:=⟨k - 1,by omega⟩
      have hml : m < U.size:=by omega
      have hmi : (m : Int) < (U.size : Int):=by omega
      have em : (k : Int) - 1 = (m : Int):=by omega
      obtain ⟨p,hp⟩ : ∃ p,U[m] = p:=⟨_,rfl⟩
      clear k0 hm
      by_cases p65 : (65 : Int) ≤ (p.toNat : Int)
      ·by_cases p90 : (p.toNat : Int) ≤ 90
       ·skip
        go_wp2
        go_meet
        case rel => exact ⟨_,rfl,rfl⟩
       ·skip
        by_cases k1 : k = 1
        ·have k1i : ¬ (1 : Int) < (k : Int):=by omega
         clear k1
         go_wp2
         go_meet
         case rel => exact ⟨_,rfl,rfl⟩
        have k1i : (1 : Int) < (k : Int):=by omega
        obtain ⟨l,hl⟩ : ∃ l,k = l + 2:=⟨k - 2,by omega⟩
        have hll : l < U.size:=by omega
        have el : (k : Int) - 2 = (l : Int):=by omega
        obtain ⟨q,hq⟩ : ∃ q,U[l] = q:=⟨_,rfl⟩
        clear k1 hl
        cases hq83 : ((q.toNat : Int) == 83) with
        | false =>
         go_wp2
         go_meet
         case rel => exact ⟨_,rfl,rfl⟩
        | true =>
         cases hp32 : ((p.toNat : Int) == 32) with
         | false =>
          go_wp2
          go_meet
          case rel => exact ⟨_,rfl,rfl⟩
         | true =>
          go_wp2
          go_meet
          case rel => exact ⟨_,rfl,rfl⟩
      ·skip
       by_cases k1 : k = 1
       ·have k1i : ¬ (1 : Int) < (k : Int):=by omega
        clear k1
        go_wp2
        go_meet
        case rel => exact ⟨_,rfl,rfl⟩
       have k1i : (1 : Int) < (k : Int):=by omega
       obtain ⟨l,hl⟩ : ∃ l,k = l + 2:=⟨k - 2,by omega⟩
       have hll : l < U.size:=by omega
       have el : (k : Int) - 2 = (l : Int):=by omega
       obtain ⟨q,hq⟩ : ∃ q,U[l] = q:=⟨_,rfl⟩
       clear k1 hl
       cases hq83 : ((q.toNat : Int) == 83) with
       | false =>
        go_wp2
        go_meet
        case rel => exact ⟨_,rfl,rfl⟩
       | true =>
        cases hp32 : ((p.toNat : Int) == 32) with
        | false =>
         go_wp2
         go_meet
         case rel => exact ⟨_,rfl,rfl⟩
        | true =>
         go_wp2
         go_meet
         case rel => exact ⟨_,rfl,rfl⟩
     case rest =>
      obtain ⟨g,rfl,rfl⟩:=hcut
      cases g with
      | true =>
       go_wp2
       go_roundw
       case rel => exact ⟨k + 1,false,by omega,rfl,by go_num,by rw [HNQ.out]; simp,HB4.out,RA4.out⟩
       case measure => simp [intOf]; omega
      | false =>
       go_wp2_with fail
       refine (HCL.out _).mono ?_
       rintro e w5 ⟨⟨j,rfl,hij,hj,hqj⟩,rfl⟩
       have hjl : j < U.size:=by
        obtain ⟨h,_⟩:=List.getElem?_eq_some_iff.1 hj
        have:=HXL.out
        omega
       have HQJ : Hid (qr false (X.take j) = false):=by
        show _ = _
        have e : X.take j = X.take k ++ (X.drop k).take (j - k):=by
         rw [← List.take_append_drop k (X.take j),List.take_take,Nat.min_eq_left (by omega),List.drop_take]
        rw [e,qr_app,← HQ.out]
        exact hqj
       have HJ:=Lib.hid hj
       have hij2 : (k : Int) + 1 ≤ (j : Int):=by omega
       have hj0 : ¬ (j : Int) < 0:=by omega
       have hjs : (j : Int) ≤ (U.size : Int):=by omega
       have hjs1 : (j : Int) + 1 ≤ (U.size : Int):=by omega
       have hks : (k : Int) ≤ (U.size : Int):=by omega
       have ek1 : ((k : Int) + 1).toNat = k + 1:=by omega
       have ej1 : ((j : Int) + 1).toNat = j + 1:=by omega
       obtain ⟨s1,hs1⟩ : ∃ s,U.extract 0 k = s:=⟨_,rfl⟩
       obtain ⟨s2,hs2⟩ : ∃ s,U.extract (k + 1) j = s:=⟨_,rfl⟩
       obtain ⟨s3,hs3⟩ : ∃ s,U.extract (j + 1) U.size = s:=⟨_,rfl⟩
       have z1 : s1.size ≤ 1000:=by rw [← hs1]; simp; omega
       have z2 : s2.size ≤ 1000:=by rw [← hs2]; simp; omega
       have z3 : s3.size ≤ 1000:=by rw [← hs3]; simp; omega
       have HVB : Hid ((s1 ++ (⟨#[32]⟩ : ByteArray) ++ s2 ++ ⟨#[32]⟩ ++ s3 : ByteArray).data.toList = (X.set k 32).set j 32):=by
        show _ = _
        rw [← cut_two X k j (by omega) (by rw [HXL.out]; exact hjl),← hs1,← hs2,← hs3]
        have hl : X.take U.size = X:=List.take_of_length_le (by rw [HXL.out]; exact Nat.le_refl _)
        simp only [ByteArray.data_append,Array.toList_append,extract_list,HU.out,List.drop_zero,hl,List.append_assoc]
        rfl
       obtain ⟨V,hV⟩ : ∃ V,s1 ++ (⟨#[32]⟩ : ByteArray) ++ s2 ++ ⟨#[32]⟩ ++ s3 = V:=⟨_,rfl⟩
       rw [hV] at HVB
       have HFD : Hid (∀ (W W6 : World) (e : Ending),ParseP V W e W6 → ∃ (z : St) (fd fq : Int) (p0 p1 p2 p3 p4 p5 p6 : Option Addr) (q0 q1 q2 q3 q4 q5 q6 : Nat),e = .returned (.tuple #[.agg #[.int .i64 z.kind,.string z.table,.string z.join,.slice p0 z.on.length q0,.slice p1 z.whr.length q1,.slice p2 z.items.length q2,.bool z.star,.slice p3 z.sets.length q3,.slice p4 z.groups.length q4,.slice p5 z.sorts.length q5,.slice p6 z.limit.length q6,.int .i64 z.place,.int .i64 z.joinAt],.agg #[.int .i64 fd,.int .i64 fq]]) ∧ Below W.heap.size W W6 ∧ StO W6 W.heap.size z (.slice p0 z.on.length q0) (.slice p1 z.whr.length q1) (.slice p2 z.items.length q2) (.slice p3 z.sets.length q3) (.slice p4 z.groups.length q4) (.slice p5 z.sorts.length q5) (.slice p6 z.limit.length q6) ∧ ((fd ≠ 0) ∨ (fd = 0 ∧ ¬ SmSt z x))):=by
        intro W W6 e hpp
        obtain ⟨fd,fq,z,v,o,rfl,⟨p0,p1,p2,p3,p4,p5,p6,q0,q1,q2,q3,q4,q5,q6,rfl,hy⟩,hb,hpi,hor⟩:=parse_all hpp
        refine ⟨z,fd,fq,p0,p1,p2,p3,p4,p5,p6,q0,q1,q2,q3,q4,q5,q6,rfl,hb,hy,?_⟩
        rcases hor with ⟨h,-,-⟩ | ⟨h,-,ho⟩
        ·exact Or.inl h
        ·subst ho
         exact Or.inr ⟨h,HNO.out z k j HC.out HQ.out.symm HJ.out HQJ.out V HVB.out hpi⟩
       have w1 : IntKind.i64.wrap ((k : Int) + 1) = (k : Int) + 1:=by rw [IntKind.wrap_i64]; omega
       have w2 : IntKind.i64.wrap ((j : Int) + 1) = (j : Int) + 1:=by rw [IntKind.wrap_i64]; omega
       have g1 : (0 : Int) ≤ (k : Int):=by omega
       have g2 : (0 : Int) ≤ (k : Int) + 1:=by omega
       have g3 : (0 : Int) ≤ (j : Int):=by omega
       have g4 : (0 : Int) ≤ (j : Int) + 1:=by omega
       have y1 : ¬ 9223372036854775807 < s1.size + 1:=by omega
       have y2 : ¬ 9223372036854775807 < s1.size + 1 + s2.size:=by omega
       have y3 : ¬ 9223372036854775807 < s1.size + 1 + s2.size + 1:=by omega
       have y4 : ¬ 9223372036854775807 < s1.size + 1 + s2.size + 1 + s3.size:=by omega
       clear hij hj hqj
       go_upto_region 15 with fail
       have zA:=thirt_of RA4.out
       go_cut [9,10] from 21 to 109 (fun v9 v10 wx => ∃ (b9 b10 : Nat),v9 = .pointer (some ⟨b9,0,none⟩) ∧ v10 = .pointer (some ⟨b10,0,none⟩) ∧ NR w x a0 a1 a2 a3 a4 a5 a6 c0 c1 c2 c3 c4 c5 c6 b9 b10 wx)
       case first =>
        clear zA
        have hb4:=HB4.out
        have hsz:=HB4.out.size
        go_region_with (first
         | (go_at_call 11; refine (synParse_any V _ (HV.out.later (by (repeat (first | exact Below.refl _ _ | assumption | refine Below.drew ?_ | refine below_drewN ?_ _ | refine Below.alloc ?_ (by first | omega | (simp; done) | (simp; omega)) _ | refine Below.setCell ?_ (by first | omega | (simp; done) | (simp; omega)) _ | refine Below.trans ?_ (Below.mono (by assumption) (by first | omega | (simp; done) | (simp; omega)))))))).mono ?_; intro e w6 hpp; (obtain ⟨z,fd,fq,p0,p1,p2,p3,p4,p5,p6,q0,q1,q2,q3,q4,q5,q6,rfl,hb6,hy6,hfd⟩:=HFD.out _ _ _ hpp); clear hpp; (first | ((have hs6 : w5.heap.size + 2 ≤ w6.heap.size:=Nat.le_trans (by simp) hb6.size); (have hl6 : w5.heap.size < w6.heap.size:=by omega); (have hl7 : w5.heap.size + 1 < w6.heap.size:=by omega); (first | ((have fS : w6.heap[w5.heap.size]? = some (.cells #[.int .i64 0,.string ⟨#[]⟩,.string ⟨#[]⟩,.slice none 0 0,.slice none 0 0,.slice none 0 0,.bool false,.slice none 0 0,.slice none 0 0,.slice none 0 0,.slice none 0 0,.int .i64 0,.int .i64 0] 27 (0,0)):=(hb6.block _ (by first | (simp; done) | (simp; omega))).trans (ps1 w5.heap (.cells #[.int .i64 0,.string ⟨#[]⟩,.string ⟨#[]⟩,.slice none 0 0,.slice none 0 0,.slice none 0 0,.bool false,.slice none 0 0,.slice none 0 0,.slice none 0 0,.slice none 0 0,.int .i64 0,.int .i64 0] 27 (0,0)) (.cells #[.int .i64 0,.int .i64 0] 35 (0,0)))); (have zS:=thirt_of fS); (have fF : w6.heap[w5.heap.size + 1]? = some (.cells #[.int .i64 0,.int .i64 0] 35 (0,0)):=(hb6.block _ (by first | (simp; done) | (simp; omega))).trans (ps2 w5.heap (.cells #[.int .i64 0,.string ⟨#[]⟩,.string ⟨#[]⟩,.slice none 0 0,.slice none 0 0,.slice none 0 0,.bool false,.slice none 0 0,.slice none 0 0,.slice none 0 0,.slice none 0 0,.int .i64 0,.int .i64 0] 27 (0,0)) (.cells #[.int .i64 0,.int .i64 0] 35 (0,0)))); (have zF:=twq_of fF)) | ((have fF : w6.heap[w5.heap.size]? = some (.cells #[.int .i64 0,.int .i64 0] 35 (0,0)):=(hb6.block _ (by first | (simp; done) | (simp; omega))).trans (ps1 w5.heap (.cells #[.int .i64 0,.int .i64 0] 35 (0,0)) (.cells #[.int .i64 0,.string ⟨#[]⟩,.string ⟨#[]⟩,.slice none 0 0,.slice none 0 0,.slice none 0 0,.bool false,.slice none 0 0,.slice none 0 0,.slice none 0 0,.slice none 0 0,.int .i64 0,.int .i64 0] 27 (0,0)))); (have zF:=twq_of fF); (have fS : w6.heap[w5.heap.size + 1]? = some (.cells #[.int .i64 0,.string ⟨#[]⟩,.string ⟨#[]⟩,.slice none 0 0,.slice none 0 0,.slice none 0 0,.bool false,.slice none 0 0,.slice none 0 0,.slice none 0 0,.slice none 0 0,.int .i64 0,.int .i64 0] 27 (0,0)):=(hb6.block _ (by first | (simp; done) | (simp; omega))).trans (ps2 w5.heap (.cells #[.int .i64 0,.int .i64 0] 35 (0,0)) (.cells #[.int .i64 0,.string ⟨#[]⟩,.string ⟨#[]⟩,.slice none 0 0,.slice none 0 0,.slice none 0 0,.bool false,.slice none 0 0,.slice none 0 0,.slice none 0 0,.slice none 0 0,.int .i64 0,.int .i64 0] 27 (0,0)))); (have zS:=thirt_of fS)))) | ((have hs6 : w5.heap.size + 1 ≤ w6.heap.size:=Nat.le_trans (by simp) hb6.size); (have hl6 : w5.heap.size < w6.heap.size:=by omega); (first | ((have fS : w6.heap[w5.heap.size]? = some (.cells #[.int .i64 0,.string ⟨#[]⟩,.string ⟨#[]⟩,.slice none 0 0,.slice none 0 0,.slice none 0 0,.bool false,.slice none 0 0,.slice none 0 0,.slice none 0 0,.slice none 0 0,.int .i64 0,.int .i64 0] 27 (0,0)):=(hb6.block _ (by first | (simp; done) | (simp; omega))).trans (ps0 w5.heap (.cells #[.int .i64 0,.string ⟨#[]⟩,.string ⟨#[]⟩,.slice none 0 0,.slice none 0 0,.slice none 0 0,.bool false,.slice none 0 0,.slice none 0 0,.slice none 0 0,.slice none 0 0,.int .i64 0,.int .i64 0] 27 (0,0)))); (have zS:=thirt_of fS)) | ((have fF : w6.heap[w5.heap.size]? = some (.cells #[.int .i64 0,.int .i64 0] 35 (0,0)):=(hb6.block _ (by first | (simp; done) | (simp; omega))).trans (ps0 w5.heap (.cells #[.int .i64 0,.int .i64 0] 35 (0,0)))); (have zF:=twq_of fF)))) | (have hs6 : w5.heap.size ≤ w6.heap.size:=Nat.le_trans (by simp) hb6.size))))
        all_goals
         go_wp2
         go_meet
         case rel =>
          with_reducible first | exact ⟨_,_,rfl,rfl,needs_e1 hb4 RA4.out hb6 hy6 hfd⟩ | exact ⟨_,_,rfl,rfl,needs_e2 hb4 RA4.out hb6 hy6 hfd⟩ | exact ⟨_,_,rfl,rfl,needs_e3 hb4 RA4.out hb6 hy6 hfd⟩ | exact ⟨_,_,rfl,rfl,needs_e4 hb4 RA4.out hb6 hy6 hfd⟩ | exact ⟨_,_,rfl,rfl,needs_e5 hb4 RA4.out hb6 hy6 hfd⟩ | exact ⟨_,_,rfl,rfl,needs_e6 hb4 RA4.out hb6 hy6 hfd⟩
       case rest =>
        obtain ⟨b9,b10,rfl,rfl,z,fd,fq,p0,p1,p2,p3,p4,p5,p6,q0,q1,q2,q3,q4,q5,q6,hbw,hra,r3,r4,hz,hfd⟩:=hcut
        have HB7:=Lib.hid hbw
        have RA7:=Lib.hid hra
        have HZ7:=Lib.hid hz
        have T7:=Lib.hid r4
        have HFZ:=Lib.hid hfd
        have z1:=thirt_of hra
        have z2:=thirt_of r3
        clear hbw hra r3 r4 hz hfd RA4 HB4 zA
        go_wp2_with fail
        refine (same_st z x p0 p1 p2 p3 p4 p5 p6 a0 a1 a2 a3 a4 a5 a6 q0 q1 q2 q3 q4 q5 q6 c0 c1 c2 c3 c4 c5 c6 _ HZ7.out (HX.out.later HB7.out)).mono ?_
        rintro e w8 ⟨⟨t,rfl,hbb⟩,hb⟩
        have HB8:=Hbt HB7 hb
        have RA8:=Hbk hb RA7
        have T8:=(hb.block _ (Gx T7.out)).trans T7.out
        have g0 : w8.cell? ⟨b10,0,none⟩ = some (.int .i64 fd):=by simp [World.cell?,T8]
        clear hb z1 z2 T7 T8 RA7 HB7 HZ7
        rcases HFZ.out with hfd | ⟨rfl,hns⟩
        ·have hfe : (fd == 0) = false:=by simpa using hfd
         clear hfd hbb
         go_wp2
         go_roundw
         case rel => exact ⟨k + 1,false,by omega,rfl,by go_num,by rw [HNQ.out]; simp,HB8.out,RA8.out⟩
         case measure => simp [intOf]; omega
        ·have ht : t = false:=by
          cases t with
          | false => rfl
          | true => exact absurd (hbb.1 rfl) hns
         subst ht
         clear hns hbb
         go_wp2
         go_roundw
         case rel => exact ⟨k + 1,false,by omega,rfl,by go_num,by rw [HNQ.out]; simp,HB8.out,RA8.out⟩
         case measure => simp [intOf]; omega
    ·have n40 : ((c.toNat : Int) != 40) = true:=by
      rw [bne_iff_ne]
      intro e
      exact c40 (UInt8.toNat_inj.1 (by show c.toNat = 40; omega))
     have HN0:=Lib.hid c40
     clear c40
     go_wp2
     go_roundw
     case rel => exact ⟨k + 1,false,by omega,rfl,by go_num,by rw [HNQ.out]; simp [HN9.out],HB4.out,RA4.out⟩
     case measure => simp [intOf]; omega
  ·have hks : k = U.size:=by omega
   subst hks
   have hlt0 : ¬ (U.size : Int) < (U.size : Int):=by omega
   go_wp2
   exact bodyPost_ret (v:=.bool true) (by simp [results,Tryz.results6,go_sem]) rfl ⟨rfl,HB4.out⟩
end Go.Proofs.YtbfjmccpcbhljaaGreatDoor
