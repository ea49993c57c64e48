/- ZK10 ZK11 W23 ZK12 ZR1 ZR2 ZC5 -/
import Derived.Test.YtmmmkjhpmlfopaaGreatDoorSB16
set_option maxHeartbeats 4000000
set_option maxRecDepth 100000
namespace Go.Proofs.YtmmmkjhpmlfopaaGreatDoor
open Go.RowKit
namespace KK
theorem take_next {s : ByteArray} {k : Nat} (h : k < s.size) : s.data.toList.take (k + 1) = s.data.toList.take k ++ [s[k]]:=by
 rw [List.take_succ_eq_append_getElem (by simpa using h)]
 rfl
theorem drop_next {s : ByteArray} {k : Nat} (h : k < s.size) : s.data.toList.drop k = s[k] :: s.data.toList.drop (k + 1):=by
 rw [List.drop_eq_getElem_cons (by simpa using h)]
 rfl
theorem split_at {s : ByteArray} {k : Nat} {xs : List UInt8} (h : s.data.toList.take k = 4 :: esc xs) : s.data.toList = 4 :: (esc xs ++ s.data.toList.drop k):=by
 have:=List.take_append_drop k s.data.toList
 rw [h] at this
 simpa using this.symm
theorem u8_ne {c : UInt8} {n : Nat} (h : ¬ c.toNat = n) : ((c.toNat : Int) == (n : Int)) = false:=by
 rw [beq_eq_false_iff_ne]
 omega
def VN (s : ByteArray) (w : World) (e : Ending) (w' : World) : Prop:=∃ (v : V3) (n : Nat),e = .returned (.tuple #[.agg #[.int .i64 v.1,.int .i64 v.2.1,.string v.2.2],.int .i64 n]) ∧ RV s.data.toList v n ∧ Below w.heap.size w w'
theorem rtext_any (s : ByteArray) (w : World) (h4 : s.data.toList.take 1 = [4]) (hs : s.size ≤ 2147483648) : Calls Tryz.prog 168 #[.string s] w (VN s w):=by
 obtain ⟨i0,hi,hz0,hz1,hz2⟩:=info_parts Tryz.info5
 have hpos : 1 ≤ s.size:=by
  have:=congrArg List.length h4
  rw [List.length_take] at this
  simp at this
  omega
 have HF : Hid (s.data.toList.take 1 = [4]):=h4
 clear h4
 go_enter Tryz.func168,Tryz.ntmps168
 go_wp2
 go_loopw [4,5] (fun v i wr => ∃ (k : Nat) (xs : List UInt8),1 ≤ k ∧ k ≤ s.size ∧ i = .int .i64 k ∧ s.data.toList.take k = 4 :: esc xs ∧ xs.length ≤ k ∧ wr.ownsRow (w.heap.size + 1) 5 1 v xs.length (bv xs) ∧ Below (w.heap.size + 1) (w.alloc (.cells #[.int .i64 0,.int .i64 0,.string ⟨#[]⟩] 73)) wr) (fun _ i _ => s.size - (intOf i).toNat)
 case atStart => exact ⟨1,[],Nat.le_refl _,hpos,rfl,HF.out,Nat.zero_le _,World.ownsRow_nil _ _ _ _,Bxr _ _⟩
 case round =>
  obtain ⟨k,xs,hk1,hk,rfl,htk,hxl,hown,hb⟩:=hrel
  have HT : Hid (s.data.toList.take k = 4 :: esc xs):=htk
  have HL : Hid (k = (esc xs).length + 1):=by
   have:=congrArg List.length htk
   rw [List.length_take] at this
   simp at this
   show k = (esc xs).length + 1
   omega
  clear htk HF
  have hsz:=hb.size
  simp at hsz
  have hlt:=hown.lt
  have hbz : w.heap.size < wr.heap.size:=by omega
  have r0 : wr.cell? ⟨w.heap.size,0,none⟩ = some (.int .i64 0):=by rw [hb.cell (p:=⟨w.heap.size,0,none⟩) Si]; simp
  have r1 : wr.cell? ⟨w.heap.size,1,none⟩ = some (.int .i64 0):=by rw [hb.cell (p:=⟨w.heap.size,1,none⟩) Si]; simp
  have r2 : wr.cell? ⟨w.heap.size,2,none⟩ = some (.string ⟨#[]⟩):=by rw [hb.cell (p:=⟨w.heap.size,2,none⟩) Si]; simp
  have rf : ∀ o,wr.frozen? ⟨w.heap.size,o,none⟩ = false:=by intro o; rw [hb.frozen (p:=⟨w.heap.size,o,none⟩) Si]; simp
  have hbw : Below w.heap.size w wr:=((Bxr _ _).alloc Zlr _).trans (hb.mono Om)
  by_cases hlt2 : k < s.size
  ·by_cases hc : s[k].toNat = 0
   ·have hc0 : s[k] = 0:=UInt8.toNat_inj.1 hc
    by_cases hl2 : k + 1 < s.size
    ·have hl2i : ((k : Int) + 1 == (s.size : Int)) = false:=by rw [beq_eq_false_iff_ne]; omega
     have hl2j : (k : Int) + 1 < (s.size : Int):=by omega
     by_cases hd : s[k + 1].toNat = 0
     ·have hd0 : s[k + 1] = 0:=UInt8.toNat_inj.1 hd
      have HV : Hid (RV s.data.toList (3,0,⟨xs.toArray⟩) (k + 2)):=by
       have:=rv_text (s:=s.data.toList) (xs:=xs) (t:=s.data.toList.drop (k + 2)) (by have e0:=split_at HT.out; rw [drop_next hlt2,drop_next hl2,hc0,hd0] at e0; exact e0)
       have e : (esc xs).length + 3 = k + 2:=by have:=HL.out; omega
       rw [e] at this
       exact this
      obtain ⟨ar,cp,rfl,hcv⟩:=own_str hown
      clear hown hlt hc0 hd0
      go_wp2
      exact bodyPost_ret (v:=.tuple #[.agg #[.int .i64 3,.int .i64 0,.string ⟨xs.toArray⟩],.int .i64 (k + 2 : Nat)]) (by simp [results,Tryz.results168,go_sem, *]; omega) rfl ⟨(3,0,⟨xs.toArray⟩),k + 2,rfl,HV.out,Bz⟩
     ·by_cases hd2 : s[k + 1].toNat = 255
      ·have hdz : ((s[k + 1].toNat : Int) == 0) = false:=u8_ne (n:=0) hd
       have HT2 : Hid (s.data.toList.take (k + 2) = 4 :: esc (xs ++ [0])):=by
        have : s.data.toList.take (k + 2) = 4 :: esc (xs ++ [0]):=by
         rw [take_next hl2,take_next hlt2,HT.out,hc0,esc_append,show s[k + 1] = 255 from UInt8.toNat_inj.1 hd2]
         simp [esc,esc1_zero]
        exact this
       clear hc0 hd
       go_wp2_with (first | (at_builtin; refine wpList_append_own _ rfl _ _ 114 rfl (w.heap.size + 1) 5 i0 (.int .u8 0) 1 1 Tryz.underlying114 hi hz0 hz1 hz2 rfl (by decide) _ _ _ rfl (hown.alloc _) ⟨wr.heap.size,0,none⟩ 1 1 (bv [0]) rfl rfl ?c1 ?c2 ?c3 ?c4 ?c5 ?_))
       case c1 => exact cells1 wr _ _ _ rfl
       case c2 => exact bv_one _
       case c3 => unfold maxLen; omega
       case c4 => omega
       case c5 => simp; omega
       ·intro v1 w1 hown1 hgrow1 _
        rw [← bv_append] at hown1
        have hb1 : Below (w.heap.size + 1) (w.alloc (.cells #[.int .i64 0,.int .i64 0,.string ⟨#[]⟩] 73)) w1:=(hb.alloc Om _).grown hgrow1 (by simp; omega) fun k hk => (hlt k hk).1
        clear hgrow1 hown r0 r1 r2 rf hbw
        go_wp2
        go_roundw
        case rel => exact ⟨k + 2,xs ++ [0],by omega,by omega,by go_num,HT2.out,by simp; omega,by simpa using hown1,hb1⟩
        case measure => simp [intOf]; omega
      ·have hdz : ((s[k + 1].toNat : Int) == 0) = false:=u8_ne (n:=0) hd
       have hdz2 : ((s[k + 1].toNat : Int) != 255) = true:=by simp; omega
       have HV : Hid (RV s.data.toList (0,0,⟨#[]⟩) 0):=rv_text0 (xs:=xs) _ (split_at HT.out) (by rw [drop_next hlt2,drop_next hl2,hc0]; exact ends_other (fun h => hd2 (by rw [h]; rfl)) _) (by
        intro t h
        rw [drop_next hlt2,drop_next hl2] at h
        exact hd (by rw [(List.cons.inj (List.cons.inj h).2).1]; rfl))
       clear hown hlt hc0 hd hd2
       go_wp2
       exact bodyPost_ret (v:=.tuple #[.agg #[.int .i64 0,.int .i64 0,.string ⟨#[]⟩],.int .i64 (0 : Nat)]) (by simp [results,Tryz.results168,go_sem, *]) rfl ⟨(0,0,⟨#[]⟩),0,rfl,HV.out,Bz⟩
    ·have hke : k + 1 = s.size:=by omega
     have hkei : ((k : Int) + 1 == (s.size : Int)) = true:=by rw [beq_iff_eq]; omega
     have HV : Hid (RV s.data.toList (0,0,⟨#[]⟩) 0):=rv_text0 (xs:=xs) _ (split_at HT.out) (by rw [drop_next hlt2,List.drop_of_length_le (by simp; omega),hc0]; exact ends_one) (by
      intro t h
      rw [drop_next hlt2,List.drop_of_length_le (by simp; omega)] at h
      simp at h)
     clear hown hlt hc0 hke
     go_wp2
     exact bodyPost_ret (v:=.tuple #[.agg #[.int .i64 0,.int .i64 0,.string ⟨#[]⟩],.int .i64 (0 : Nat)]) (by simp [results,Tryz.results168,go_sem, *]) rfl ⟨(0,0,⟨#[]⟩),0,rfl,HV.out,Bz⟩
   ·have hcz : ((s[k].toNat : Int) != 0) = true:=by simp; omega
    have HT2 : Hid (s.data.toList.take (k + 1) = 4 :: esc (xs ++ [s[k]])):=by
     have : s.data.toList.take (k + 1) = 4 :: esc (xs ++ [s[k]]):=by
      rw [take_next hlt2,HT.out,esc_append]
      simp [esc,esc1_other (fun h => hc (by rw [h]; rfl) : s[k] ≠ 0)]
     exact this
    clear hc
    go_wp2_with (first | (at_builtin; refine wpList_append_own _ rfl _ _ 114 rfl (w.heap.size + 1) 5 i0 (.int .u8 0) 1 1 Tryz.underlying114 hi hz0 hz1 hz2 rfl (by decide) _ _ _ rfl (hown.alloc _) ⟨wr.heap.size,0,none⟩ 1 1 (bv [s[k]]) rfl rfl ?c1 ?c2 ?c3 ?c4 ?c5 ?_))
    case c1 => exact cells1 wr _ _ _ rfl
    case c2 => exact bv_one _
    case c3 => unfold maxLen; omega
    case c4 => omega
    case c5 => simp; omega
    ·intro v1 w1 hown1 hgrow1 _
     rw [← bv_append] at hown1
     have hb1 : Below (w.heap.size + 1) (w.alloc (.cells #[.int .i64 0,.int .i64 0,.string ⟨#[]⟩] 73)) w1:=(hb.alloc Om _).grown hgrow1 (by simp; omega) fun k hk => (hlt k hk).1
     clear hgrow1 hown r0 r1 r2 rf hbw
     go_wp2
     go_roundw
     case rel => exact ⟨k + 1,xs ++ [s[k]],by omega,by omega,by go_num,HT2.out,by simp; omega,by simpa using hown1,hb1⟩
     case measure => simp [intOf]; omega
  ·have hk' : k = s.size:=by omega
   have HV : Hid (RV s.data.toList (0,0,⟨#[]⟩) 0):=rv_text0 (xs:=xs) _ (split_at HT.out) (by rw [List.drop_of_length_le (by simp; omega)]; exact Or.inl rfl) (by
    intro t h
    rw [List.drop_of_length_le (by simp; omega)] at h
    simp at h)
   clear hown hlt
   subst hk'
   go_wp2
   exact bodyPost_ret (v:=.tuple #[.agg #[.int .i64 0,.int .i64 0,.string ⟨#[]⟩],.int .i64 (0 : Nat)]) (by simp [results,Tryz.results168,go_sem, *]) rfl ⟨(0,0,⟨#[]⟩),0,rfl,HV.out,Bz⟩
theorem front {s : ByteArray} (h : 0 < s.size) : s.data.toList = s[0] :: s.data.toList.drop 1:=by
 have:=drop_next (s:=s) (k:=0) h
 simpa using this
theorem rval_any (s : ByteArray) (w : World) (h0 : 0 < s.size) (hs : s.size ≤ 2147483648) : Calls Tryz.prog 126 #[.string s] w (VN s w):=by
 have HF : Hid (s.data.toList = s[0] :: s.data.toList.drop 1):=front h0
 have hdl : (s.data.toList.drop 1).length = s.size - 1:=by simp
 have h0i : (0 : Int) < (s.size : Int):=by omega
 by_cases c1 : s[0].toNat = 1
 ·have HV : Hid (RV s.data.toList (0,0,⟨#[]⟩) 1):=by
   have:=rv_null (l:=s.data.toList.drop 1) (UInt8.toNat_inj.1 c1 : s[0] = 1)
   rw [← HF.out] at this
   exact this
  go_enter Tryz.func126,Tryz.ntmps126
  go_wp2
  exact bodyPost_ret (v:=.tuple #[.agg #[.int .i64 0,.int .i64 0,.string ⟨#[]⟩],.int .i64 (1 : Nat)]) (by simp [results,Tryz.results126,go_sem]) rfl ⟨(0,0,⟨#[]⟩),1,rfl,HV.out,Bz⟩
 ·have c1' : ((s[0].toNat : Int) == 1) = false:=u8_ne (n:=1) c1
  by_cases c2 : s[0].toNat = 2
  ·by_cases h9 : s.size < 9
   ·have h9' : (s.size : Int) < 9:=by omega
    have HV : Hid (RV s.data.toList (0,0,⟨#[]⟩) 0):=by
     have:=rv_short (l:=s.data.toList.drop 1) (0,0,⟨#[]⟩) (UInt8.toNat_inj.1 c2 : s[0] = 2) Om
     rw [← HF.out] at this
     exact this
    clear c1
    go_enter Tryz.func126,Tryz.ntmps126
    go_wp2
    exact bodyPost_ret (v:=.tuple #[.agg #[.int .i64 0,.int .i64 0,.string ⟨#[]⟩],.int .i64 (0 : Nat)]) (by simp [results,Tryz.results126,go_sem]) rfl ⟨(0,0,⟨#[]⟩),0,rfl,HV.out,Bz⟩
   ·have h9' : ¬ (s.size : Int) < 9:=by omega
    have h9'' : (9 : Int) ≤ (s.size : Int):=by omega
    have hxe : (s.extract 1 9).data.toList = (s.data.toList.drop 1).take 8:=by
     simp [ByteArray.data_extract]
    have HV : Hid (RV s.data.toList (1,(val8 (s.extract 1 9).data.toList : Int) - 9223372036854775808,⟨#[]⟩) 9):=by
     have:=rv_int (l:=s.data.toList.drop 1) (UInt8.toNat_inj.1 c2 : s[0] = 2) Om
     rw [← HF.out,← hxe] at this
     exact this
    have hvl : val8 (s.extract 1 9).data.toList < 18446744073709551616:=val8_lt _ (by rw [hxe]; simp; omega)
    obtain ⟨X,hX⟩:=Vx (val8 (s.extract 1 9).data.toList)
    have hxs : (s.extract 1 9).size ≤ 8:=by simp; omega
    rw [hX] at HV hvl
    have HX : Hid (val8 (s.extract 1 9).data.toList = X):=hX
    clear c1 h9 hX hxe
    go_enter Tryz.func126,Tryz.ntmps126
    go_wp2_with (first | (go_at_call 167; refine (rword_any _ _ hxs).mono ?_; rintro e w' ⟨rfl,rfl⟩; rw [HX.out]))
    exact bodyPost_ret (v:=.tuple #[.agg #[.int .i64 1,.int .i64 ((X : Int) - 9223372036854775808),.string ⟨#[]⟩],.int .i64 (9 : Nat)]) (by simp [results,Tryz.results126,go_sem]; unfold wrap64; rw [IntKind.wrap_u64]; omega) rfl ⟨(1,(X : Int) - 9223372036854775808,⟨#[]⟩),9,rfl,HV.out,Bz⟩
  ·have c2' : ((s[0].toNat : Int) == 2) = false:=u8_ne (n:=2) c2
   by_cases c3 : s[0].toNat = 3
   ·by_cases h9 : s.size < 2
    ·have h9' : (s.size : Int) < 2:=by omega
     have HV : Hid (RV s.data.toList (0,0,⟨#[]⟩) 0):=by
      have:=rv_bool1 (l:=s.data.toList.drop 1) (0,0,⟨#[]⟩) (UInt8.toNat_inj.1 c3 : s[0] = 3) Om
      rw [← HF.out] at this
      exact this
     clear c1 c2
     go_enter Tryz.func126,Tryz.ntmps126
     go_wp2
     exact bodyPost_ret (v:=.tuple #[.agg #[.int .i64 0,.int .i64 0,.string ⟨#[]⟩],.int .i64 (0 : Nat)]) (by simp [results,Tryz.results126,go_sem]) rfl ⟨(0,0,⟨#[]⟩),0,rfl,HV.out,Bz⟩
    ·have h9' : ¬ (s.size : Int) < 2:=by omega
     have h9'' : (1 : Int) < (s.size : Int):=by omega
     have h1s : 1 < s.size:=by omega
     have HV : Hid (RV s.data.toList (2,(s[1].toNat : Int),⟨#[]⟩) 2):=by
      have:=rv_bool (d:=s[1]) (l:=s.data.toList.drop 2) (UInt8.toNat_inj.1 c3 : s[0] = 3)
      rw [← drop_next h1s,← HF.out] at this
      exact this
     clear c1 c2 h9
     go_enter Tryz.func126,Tryz.ntmps126
     go_wp2
     exact bodyPost_ret (v:=.tuple #[.agg #[.int .i64 2,.int .i64 (s[1].toNat : Int),.string ⟨#[]⟩],.int .i64 (2 : Nat)]) (by have hcb:=UInt8.toNat_lt s[1]; simp [results,Tryz.results126,go_sem]; unfold wrap64; omega) rfl ⟨(2,(s[1].toNat : Int),⟨#[]⟩),2,rfl,HV.out,Bz⟩
   ·have c3' : ((s[0].toNat : Int) == 3) = false:=u8_ne (n:=3) c3
    by_cases c4 : s[0].toNat = 4
    ·have H4 : Hid (s.data.toList.take 1 = [4]):=by
      have : s.data.toList.take 1 = [4]:=by
       rw [HF.out,(UInt8.toNat_inj.1 c4 : s[0] = 4)]
       rfl
      exact this
     clear c1 c2 c3
     go_enter Tryz.func126,Tryz.ntmps126
     go_wp2_with (first | (go_at_call 168; refine (rtext_any _ _ H4.out hs).mono ?_; rintro e w' ⟨v,n,rfl,hv,hb⟩; obtain ⟨hc,hf⟩:=bcell hb; have hz:=hb.size; (try simp at hz); (have hz0 : w.heap.size < w'.heap.size:=by omega)))
     exact bodyPost_ret (v:=.tuple #[.agg #[.int .i64 v.1,.int .i64 v.2.1,.string v.2.2],.int .i64 n]) (by simp [results,Tryz.results126,go_sem, *]) rfl ⟨v,n,rfl,hv,Bz⟩
    ·have c4' : ((s[0].toNat : Int) == 4) = false:=u8_ne (n:=4) c4
     have HV : Hid (RV s.data.toList (0,0,⟨#[]⟩) 0):=by
      have:=rv_none (c:=s[0]) (l:=s.data.toList.drop 1) (0,0,⟨#[]⟩) (fun h => c1 (by rw [h]; rfl)) (fun h => c2 (by rw [h]; rfl)) (fun h => c3 (by rw [h]; rfl)) (fun h => c4 (by rw [h]; rfl))
      rw [← HF.out] at this
      exact this
     clear c1 c2 c3 c4
     go_enter Tryz.func126,Tryz.ntmps126
     go_wp2
     exact bodyPost_ret (v:=.tuple #[.agg #[.int .i64 0,.int .i64 0,.string ⟨#[]⟩],.int .i64 (0 : Nat)]) (by simp [results,Tryz.results126,go_sem]) rfl ⟨(0,0,⟨#[]⟩),0,rfl,HV.out,Bz⟩
end KK
theorem Row.of_own {w : World} {B n : Nat} {v : Value} {vs : List V3} (h : w.ownsRow B 73 3 v n (vc vs)) : ∃ a cap,v = .slice a vs.length cap ∧ Row w a vs:=by
 have hc:=fun g => h.cells (g:=g)
 obtain ⟨hl,⟨h0,hn⟩ | ⟨g,cap,cur,rfl,_⟩⟩:=h
 ·rw [vc_length] at hl
  have e : vs.length = 0:=by omega
  obtain rfl : vs = []:=List.eq_nil_of_length_eq_zero e
  exact ⟨none,0,h0,fun i hi => absurd hi (Nat.not_lt_zero _)⟩
 ·rw [vc_length] at hl
  have e : n = vs.length:=by omega
  subst e
  refine ⟨some ⟨g,0,none⟩,cap,rfl,Row.of_cells ?_⟩
  intro j u hj
  have:=hc g rfl j u hj
  have hadd : (⟨g,0,none⟩ : Addr).add j = ⟨g,0 + j,none⟩:=by unfold Addr.add; split <;> simp_all
  rwa [hadd] at this
theorem cells_new (w : World) (v : V3) (t : TypeId) : ∀ j u,(vc [v])[j]? = some u → (w.alloc (.cells #[.int .i64 v.1,.int .i64 v.2.1,.string v.2.2] t)).cell? ((⟨w.heap.size,0,none⟩ : Addr).add j) = some u:=by
 intro j u hj
 match j,hj with
 | 0,hj => simp [vc] at hj; subst hj; simp [Addr.add]
 | 1,hj => simp [vc] at hj; subst hj; simp [Addr.add]
 | 2,hj => simp [vc] at hj; subst hj; simp [Addr.add]
namespace KK
def strLen : Value → Nat
 | .string s => s.size
 | _ => 0
def DV (s : ByteArray) (w : World) (e : Ending) (w' : World) : Prop:=∃ v : Value,e = .returned (.tuple #[v,.int .i64 (decR s.data.toList).2]) ∧ w'.ownsRow w.heap.size 73 3 v (decR s.data.toList).1.length (vc (decR s.data.toList).1) ∧ Below w.heap.size w w'
theorem dv_ok {s : ByteArray} {w : World} {v : Value} {vs : List V3} {w' : World} (h : KeyOf s.data.toList vs) (ho : w'.ownsRow w.heap.size 73 3 v vs.length (vc vs)) (hb : Below w.heap.size w w') : DV s w (.returned (.tuple #[v,.int .i64 0])) w':=by
 refine ⟨v,?_,?_,hb⟩
 ·rw [decR_ok h]
 ·rw [decR_ok h]; exact ho
theorem dv_no {s : ByteArray} {w w' : World} (h : ∀ vs,¬ KeyOf s.data.toList vs) (hb : Below w.heap.size w w') : DV s w (.returned (.tuple #[.slice none 0 0,.int .i64 20])) w':=by
 refine ⟨.slice none 0 0,?_,?_,hb⟩
 ·rw [decR_no h]
 ·rw [decR_no h]; exact World.ownsRow_nil _ _ _ _
theorem ext_drop {t : ByteArray} {n : Nat} : (t.extract n t.size).data.toList = t.data.toList.drop n:=by
 simp
 exact List.take_of_length_le Si
theorem dec_any (s : ByteArray) (w : World) (hs : s.size ≤ 2147483648) : Calls Tryz.prog 72 #[.string s] w (DV s w):=by
 obtain ⟨i0,hi,hz0,hz1,hz2⟩:=info_parts Tryz.info23
 go_enter Tryz.func72,Tryz.ntmps72
 go_wp2
 go_loopw [0,4] (fun a l wr => ∃ (t : ByteArray) (vs : List V3),a = .string t ∧ t.size ≤ s.size ∧ s.data.toList = kbs vs ++ t.data.toList ∧ (∀ v ∈ vs,V3.right v = true) ∧ vs.length ≤ 8 ∧ wr.ownsRow w.heap.size 73 3 l vs.length (vc vs) ∧ Below w.heap.size w wr) (fun a _ _ => strLen a)
 case atStart => exact ⟨s,[],rfl,Nat.le_refl _,rfl,by simp,by simp,World.ownsRow_nil _ _ _ _,Bxr _ _⟩
 case round =>
  obtain ⟨t,vs,rfl,hts,hsp,hall,h8,hown,hb⟩:=hrel
  have HS : Hid (s.data.toList = kbs vs ++ t.data.toList):=hsp
  have HA : Hid (∀ v ∈ vs,V3.right v = true):=hall
  clear hsp hall
  have hsz:=hb.size
  by_cases ht : t.size = 0
  ·have hte : t = ⟨#[]⟩:=ba_ext (by
    have : t.data.toList.length = 0:=by simpa using ht
    rw [List.eq_nil_of_length_eq_zero this])
   subst hte
   have HK : Hid (KeyOf s.data.toList vs):=⟨h8,HA.out,by have:=HS.out; simpa using this.symm⟩
   clear ht
   go_wp2
   exact bodyPost_ret (by simp [results,Tryz.results72,go_sem]) rfl (dv_ok HK.out hown hb)
  ·have htl : t.data.toList ≠ []:=by
    intro h
    apply ht
    have : t.data.toList.length = 0:=by rw [h]; rfl
    simpa using this
   have ht1 : (t.toList == []) = false:=by rw [beq_eq_false_iff_ne,ByteArray.toList_eq]; exact htl
   have ht2 : t.toList.isEmpty = false:=by rw [ByteArray.toList_eq]; simpa using htl
   have ht3 : (t.toList != []) = true:=by rw [bne_iff_ne,ByteArray.toList_eq]; exact htl
   have HTL : Hid (t.data.toList ≠ []):=htl
   clear htl
   go_wp2_with fail
   refine (rval_any t _ Om Om).mono ?_
   rintro e w1 ⟨v,n,rfl,hrv,hb1⟩
   have HRV : Hid (RV t.data.toList v n):=hrv
   clear hrv ht1 ht2 ht3
   have hown1:=own_later hown hb1
   have hz1':=hb1.size
   have hbw1 : Below w.heap.size w w1:=hb.trans (hb1.mono hsz)
   clear hown hb1 hb
   by_cases hn0 : n = 0
   ·have HN : Hid (∀ us,¬ KeyOf s.data.toList us):=dec_stuck HS.out HA.out HTL.out HRV.out (Or.inl hn0)
    subst hn0
    clear hown1
    go_wp2
    exact bodyPost_ret (by simp [results,Tryz.results72,go_sem]) rfl (dv_no HN.out Bz)
   ·have hn0' : ((n : Int) == 0) = false:=by rw [beq_eq_false_iff_ne]; omega
    have hnl : n ≤ t.size:=by
     rcases HRV.out with ⟨h,_⟩ | ⟨_,h,_⟩
     ·exact absurd h hn0
     ·simpa using h
    cases hrt : V3.right v with
    | false =>
     have HN : Hid (∀ us,¬ KeyOf s.data.toList us):=dec_stuck HS.out HA.out HTL.out HRV.out (Or.inr (Or.inl hrt))
     have hrg : rgt v.1 v.2.1 v.2.2 = false:=hrt
     clear hown1 hrt
     go_wp2_with (first | (go_at_call 107; refine (right_any _ _ _ _).mono ?_; rintro e w2 ⟨rfl,hb2⟩; rw [hrg]))
     exact bodyPost_ret (by simp [results,Tryz.results72,go_sem]) rfl (dv_no HN.out Bz)
    | true =>
     have hrg : rgt v.1 v.2.1 v.2.2 = true:=hrt
     by_cases h88 : vs.length = 8
     ·have HN : Hid (∀ us,¬ KeyOf s.data.toList us):=dec_stuck HS.out HA.out HTL.out HRV.out (Or.inr (Or.inr h88))
      obtain ⟨la,lc,rfl,_⟩:=Row.of_own hown1
      have h88' : ((vs.length : Int) == 8) = true:=by rw [beq_iff_eq]; omega
      clear hown1 hrt h88
      go_wp2_with (first | (go_at_call 107; refine (right_any _ _ _ _).mono ?_; rintro e w2 ⟨rfl,hb2⟩; rw [hrg]))
      exact bodyPost_ret (by simp [results,Tryz.results72,go_sem]) rfl (dv_no HN.out Bz)
     ·have h88' : ((vs.length : Int) == 8) = false:=by rw [beq_eq_false_iff_ne]; omega
      have HRT : Hid (V3.right v = true):=hrt
      have HS2 : Hid (s.data.toList = kbs (vs ++ [v]) ++ (t.extract n t.size).data.toList):=by
       have:=dec_more HS.out HRV.out hn0 hrt
       rw [ext_drop]
       exact this
      obtain ⟨la,lc,rfl,_⟩:=Row.of_own hown1
      have hnl1 : (n : Int) ≤ (t.size : Int):=by omega
      clear hrt
      go_wp2_with fail
      refine (right_any _ _ _ _).mono ?_
      rintro e w2 ⟨rfl,hb2⟩
      rw [hrg]
      have hz2':=hb2.size
      simp at hz2'
      have hown2:=own_later (hown1.alloc _) hb2
      have e0 : w2.cell? ⟨w1.heap.size,0,none⟩ = some (.int .i64 v.1):=cell_later hb2 Si
      have e1 : w2.cell? ⟨w1.heap.size,1,none⟩ = some (.int .i64 v.2.1):=cell_later hb2 Si
      have e2 : w2.cell? ⟨w1.heap.size,2,none⟩ = some (.string v.2.2):=cell_later hb2 Si
      have hbw2 : Below w.heap.size w w2:=Bz
      have hlt2:=hown2.lt
      clear hown1 hb2 hrg
      go_wp2_with (first | (at_builtin; refine wpList_append_own _ rfl _ _ 26 rfl w.heap.size 73 i0 _ 3 32 Tryz.underlying26 hi hz0 hz1 hz2 rfl (by decide) _ _ _ rfl (hown2.alloc _) ⟨w2.heap.size,0,none⟩ 1 1 (vc [v]) rfl rfl ?c1 ?c2 ?c3 ?c4 ?c5 ?_))
      case c1 => exact cells_new w2 v _
      case c2 => exact vc_one _
      case c3 => unfold maxLen; omega
      case c4 => omega
      case c5 => simp; omega
      ·intro v' w3 hown3 hgrow _
       have hbb : Below w.heap.size w w3:=(hbw2.alloc Om _).grown hgrow (by simp; omega) fun k hk => (hlt2 k hk).1
       rw [← vc_append] at hown3
       clear hgrow hown2 hlt2 e0 e1 e2
       go_wp2
       go_roundw
       case rel => exact ⟨t.extract n t.size,vs ++ [v],rfl,by simp; omega,HS2.out,fun x hx => by rcases Zma hx with h | h; exact HA.out x h; rw [Zms h]; exact HRT.out,by simp; omega,by simpa using hown3,hbb⟩
       case measure => simp [strLen]; omega
end KK
namespace RR
theorem cells1 (w : World) (x : Int) (c : UInt8) (t : TypeId) (h : x = (c.toNat : Int)) : ∀ j u,(bv [c])[j]? = some u → (w.alloc (.cells #[.int .u8 x] t)).cell? ((⟨w.heap.size,0,none⟩ : Addr).add j) = some u:=by
 subst h
 intro j u hj
 match j,hj with
 | 0,hj => simp [bv] at hj; subst hj; simp [Addr.add]
theorem own_later {w w' : World} {B : Nat} {e : TypeId} {size : Nat} {v : Value} {n : Nat} {xs : List Value} (h : w.ownsRow B e size v n xs) (hb : Below w.heap.size w w') : w'.ownsRow B e size v n xs:=by
 have hl:=h.lt
 obtain ⟨h1,h2 | ⟨g,cap,cur,rfl,a,b,c⟩⟩:=h
 ·exact ⟨h1,Or.inl h2⟩
 ·exact ⟨h1,Or.inr ⟨g,cap,cur,rfl,a,(hb.block g (hl g rfl).2).trans b,c⟩⟩
theorem upto_right {vs : List V3} {k : Nat} (h : ∀ j (g : j < vs.length),j < k → V3.right vs[j] = true) : ∀ v ∈ vs.take k,V3.right v = true:=by
 intro v hv
 obtain ⟨j,hj,rfl⟩:=List.getElem_of_mem hv
 rw [List.getElem_take]
 have hj' : j < k ∧ j < vs.length:=Nat.lt_min.1 (by simpa using hj)
 exact h j hj'.2 hj'.1
theorem own_str {w : World} {B n : Nat} {v : Value} {xs : List UInt8} (h : w.ownsRow B 5 1 v n (bv xs)) : ∃ a cap,v = .slice a n cap ∧ (convert 114 9 (.slice a n cap)).run Tryz.prog w = .ok (.string ⟨xs.toArray⟩) w:=by
 by_cases h0 : 0 < n
 ·obtain ⟨g,cap,e,r⟩:=own_string h h0
  exact ⟨_,_,e,r⟩
 ·have hn : n = 0:=by omega
  subst hn
  have hx : xs = []:=by
   have:=h.1
   rw [bv_length] at this
   exact List.eq_nil_of_length_eq_zero Om
  subst hx
  obtain ⟨_,⟨rfl,_⟩ | ⟨g,cap,cur,rfl,_⟩⟩:=h
  ·refine ⟨none,0,rfl,?_⟩
   rw [run_convert_bytes_string w 114 9 5 none 0 0 Tryz.underlying114 Tryz.underlying5 Tryz.underlying9]
   rfl
  ·exact ⟨_,cap,rfl,run_convert_bytes_back w 114 9 5 ⟨g,0,none⟩ cap [] Tryz.underlying114 Tryz.underlying5 Tryz.underlying9 (by intro j hj; simp at hj)⟩
theorem own_first (w : World) (B : Nat) (c : UInt8) (hB : B ≤ w.heap.size) : (w.alloc (.cells #[.int .u8 (c.toNat : Int)] 5)).ownsRow B 5 1 (.slice (some ⟨w.heap.size,0,none⟩) 1 1) 1 (bv [c]) :=
 ⟨rfl,Or.inr ⟨w.heap.size,1,#[.int .u8 (c.toNat : Int)],rfl,hB,heap_alloc_new w _,Nat.le_refl _,by decide,rfl,rfl⟩⟩
theorem ext_drop {t : ByteArray} {n : Nat} : (t.extract n t.size).data.toList = t.data.toList.drop n:=by
 simp
 exact List.take_of_length_le Si
theorem own_cells {w : World} {B n : Nat} {v : Value} {xs : List UInt8} (h : w.ownsRow B 5 1 v n (bv xs)) (hn : 0 < n) :
  ∃ g cap,v = .slice (some ⟨g,0,none⟩) n cap ∧ ∀ j u,(bv xs)[j]? = some u → w.cell? ((⟨g,0,none⟩ : Addr).add j) = some u:=by
 have hc:=fun g => h.cells (g:=g)
 obtain ⟨_,⟨_,h0⟩ | ⟨g,cap,cur,rfl,_⟩⟩:=h
 ·omega
 ·exact ⟨g,cap,rfl,hc g rfl⟩
theorem cell_lt {w : World} {b o : Nat} {v : Value} (h : w.cell? ⟨b,o,none⟩ = some v) : b < w.heap.size:=by
 by_cases g : b < w.heap.size
 ·exact g
 ·simp [World.cell?,Array.getElem?_eq_none (by omega : w.heap.size ≤ b)] at h
theorem kbytes_any (n : Nat) (w : World) (hn : n ≤ 1000000) :
  Calls Tryz.prog 160 #[.int .i64 (n : Int)] w fun e w' => e = .returned (.int .i64 ((n + 3) / 4 : Nat)) ∧ w' = w:=by
 go_enter Tryz.func160,Tryz.ntmps160
 go_wp2
 go_ret
 exact ⟨ret_int (by first | omega | (go_simp; omega)),rfl⟩
theorem fold_any (n : Int) (w : World) (h : -4611686018427387904 ≤ n) (h' : n ≤ 4611686018427387904) :
  Calls Tryz.prog 162 #[.int .i64 n] w fun e w' => e = .returned (.int .u64 (fd n : Int)) ∧ w' = w:=by
 by_cases h0 : n < 0
 ·go_enter Tryz.func162,Tryz.ntmps162
  go_wp2
  go_ret
  exact ⟨ret_int (by unfold fd; rw [if_pos h0]; first | omega | (simp only [IntKind.wrap_u64,IntKind.wrap_i64]; omega)),rfl⟩
 ·go_enter Tryz.func162,Tryz.ntmps162
  go_wp2
  go_ret
  exact ⟨ret_int (by unfold fd; rw [if_neg Om]; first | omega | (simp only [IntKind.wrap_u64,IntKind.wrap_i64]; omega)),rfl⟩
theorem unfold_any (m : Nat) (w : World) (hm : m < 18446744073709551616) :
  Calls Tryz.prog 244 #[.int .u64 (m : Int)] w fun e w' => e = .returned (.int .i64 (unf m)) ∧ w' = w:=by
 by_cases h0 : m % 2 = 1
 ·have h0' : (m : Int) % 2 = 1:=by omega
  go_enter Tryz.func244,Tryz.ntmps244
  go_wp2
  go_ret
  exact ⟨ret_int (by unfold unf; rw [if_pos h0]; first | omega | (simp only [IntKind.wrap_u64,IntKind.wrap_i64]; omega)),rfl⟩
 ·have h0' : (m : Int) % 2 = 0:=by omega
  go_enter Tryz.func244,Tryz.ntmps244
  go_wp2
  go_ret
  exact ⟨ret_int (by unfold unf; rw [if_neg h0]; first | omega | (simp only [IntKind.wrap_u64,IntKind.wrap_i64]; omega)),rfl⟩
def DA (B n : Nat) (xs : List UInt8) (m : Nat) (w : World) (e : Ending) (w' : World) : Prop:=∃ v',e = .returned v' ∧ w'.ownsRow B 5 1 v' (n + (dg m).length) (bv (xs ++ dg m)) ∧ Below B w w'
theorem digits_any (B n : Nat) (v : Value) (xs : List UInt8) (m : Nat) (w : World) (hown : w.ownsRow B 5 1 v n (bv xs)) (hn : n ≤ 1000000000) (hB : B ≤ w.heap.size) (hm : m < 18446744073709551616) :
  Calls Tryz.prog 161 #[v,.int .u64 (m : Int)] w (DA B n xs m w):=by
 obtain ⟨i0,hi,hz0,hz1,hz2⟩:=info_parts Tryz.info5
 have hdl:=dg_len 9 m Om
 go_enter Tryz.func161,Tryz.ntmps161
 go_wp2
 go_loopw [0,1] (fun v i wr => ∃ (k : Nat) (p : List UInt8),k < 18446744073709551616 ∧ i = .int .u64 k ∧ dg m = p ++ dg k ∧ wr.ownsRow B 5 1 v (n + p.length) (bv (xs ++ p)) ∧ Below B w wr) (fun _ i _ => (intOf i).toNat)
 case atStart => exact ⟨m,[],hm,rfl,rfl,by simpa using hown,Bxr _ _⟩
 case round =>
  clear hown
  obtain ⟨k,p,hk,rfl,hp,hown,hb⟩:=hrel
  have hsz:=hb.size
  have hlt:=hown.lt
  have hpl : p.length + (dg k).length ≤ 10:=by have:=congrArg List.length hp; rw [Zla] at this; omega
  have hkp:=dg_pos k
  have HP : Hid (dg m = p ++ dg k):=hp
  clear hp
  by_cases h : 128 ≤ k
  ·have h' : (128 : Int) ≤ (k : Int):=by omega
   have HD : Hid (dg k = UInt8.ofNat (k % 128 + 128) :: dg (k / 128)):=dg_big Om
   go_wp2_with (first | (at_builtin; refine wpList_append_own _ rfl _ _ 114 rfl B 5 i0 (.int .u8 0) 1 1 Tryz.underlying114 hi hz0 hz1 hz2 rfl (by decide) _ _ _ rfl (hown.alloc _) ⟨wr.heap.size,0,none⟩ 1 1 (bv [UInt8.ofNat (k % 128 + 128)]) rfl rfl ?c1 ?c2 ?c3 ?c4 ?c5 ?_))
   case c1 => exact cells1 wr _ _ _ (by rw [UInt8.toNat_ofNat']; omega)
   case c2 => exact bv_one _
   case c3 => unfold maxLen; omega
   case c4 => omega
   case c5 => simp; omega
   ·intro v' w1 hown' hgrow _
    have hbb : Below B w w1:=(hb.alloc Om _).grown hgrow (by simp; omega) fun k hk => (hlt k hk).1
    rw [← bv_append,Zas] at hown'
    clear hgrow hown hlt
    go_wp2
    go_roundw
    case rel => exact ⟨k / 128,p ++ [UInt8.ofNat (k % 128 + 128)],by omega,by go_num,by rw [HP.out,HD.out]; simp,by simpa [Nat.add_assoc] using hown',hbb⟩
    case measure => simp [intOf]; omega
  ·have h' : ¬ (128 : Int) ≤ (k : Int):=by omega
   have HD : Hid (dg k = [UInt8.ofNat k]):=dg_small Om
   go_wp2_with (first | (at_builtin; refine wpList_append_own _ rfl _ _ 114 rfl B 5 i0 (.int .u8 0) 1 1 Tryz.underlying114 hi hz0 hz1 hz2 rfl (by decide) _ _ _ rfl (hown.alloc _) ⟨wr.heap.size,0,none⟩ 1 1 (bv [UInt8.ofNat k]) rfl rfl ?c1 ?c2 ?c3 ?c4 ?c5 ?_))
   case c1 =>
    intro j u hj
    simpa [bv,Nat.mod_eq_of_lt (show k < 256 by omega)] using hj
   case c2 => exact bv_one _
   case c3 => unfold maxLen; omega
   case c4 => omega
   case c5 => first | omega | (simp; omega)
   ·intro v' w1 hown' hgrow _
    have hbb : Below B w w1:=(hb.alloc Om _).grown hgrow (by simp; omega) fun k hk => (hlt k hk).1
    rw [← bv_append,Zas] at hown'
    clear hgrow hown hlt
    go_wp2
    go_ret
    refine ⟨v',rfl,?_,hbb⟩
    rw [HP.out,HD.out,Zla,← Nat.add_assoc]
    exact hown'
section
open Go
theorem step_append_own_string {P : Program} (w : World) {ops : Array Oper} {o : Oper} {a : Act} {K : Act → World → Prop} {Q : Exit → Act → World → Prop} {E : Prop} (hgd : o.guard = none) (sl x : Operand) (t u : TypeId)
  (ho : o.op = .call { callee:=.builtin .append,args:=#[sl,x],argTypes:=#[t,u] })
  (base : Nat) (e : TypeId) (i : TypeInfo) (ht : P.underlying t = some (.slice e)) (hu : P.underlying u = some .string) (hi : P.info? e = some i) (hz : i.zero = some (.int .u8 0))
  (hsize : i.size = 1) (hby : i.bytes = 1)
  (v : Value) (n : Nat) (xs : List Value) (hs : a.eval sl = v) (hown : w.ownsRow base e 1 v n xs) (s : ByteArray) (hx : a.eval x = .string s)
  (h63 : n + s.size ≤ maxLen) (hbytes : n + s.size ≤ 140737488355328) (hbase : base ≤ w.heap.size)
  (h : ∀ v' w',w'.ownsRow base e 1 v' (n + s.size) (xs ++ Lib.strCells s) → w.grownBy w' v.ownBlock → K (a.put o.dst v') w') :
  if Region.wanted o (yielded ops a.tmps) = true then Oper.wp P o a w K Q else E:=by
 have hw : Region.wanted o (yielded ops a.tmps) = true:=by simp [Region.wanted,hgd]
 rw [if_pos hw]
 obtain ⟨v',w',hr,h2,h3,_⟩:=Lib.run_append_own_string (P:=P) w base t u o.type e i ht hu hi hz hsize hby v n xs hown s h63 hbytes hbase
 unfold Oper.wp execOp
 simp only [ho,resolve,invoke,builtin,Sem.run_bind,Sem.run_pure,Result.andThen_ok,List.map_toArray,List.map_cons,List.map_nil,hs,hx,hr]
 exact h v' w' h2 h3
end
end RR
end Go.Proofs.YtmmmkjhpmlfopaaGreatDoor
