/- A20 A21 A25 A22 A23 A24 A26 -/
import Derived.Test.YtffalonhkemieaaGreatDoorSA16
import Derived.Test.YtffalonhkemieaaGreatDoorSV7
set_option maxHeartbeats 16000000
set_option maxRecDepth 100000
namespace Go.Proofs.YtffalonhkemieaaGreatDoor
open Go.RowKit
def DNumP (s : ByteArray) (w : World) (e : Ending) (w' : World) : Prop:=∃ (z : Int) (ok : Bool),e = .returned (.tuple #[Vi z,.bool ok]) ∧ (ok = true → NumOk s.data.toList ∧ z = (mg s.data.toList : Int)) ∧ (ok = false → ¬ NumOk s.data.toList) ∧ w' = w

theorem take_all {s : ByteArray} {k : Nat} (h : k < s.size) (ha : ∀ c ∈ s.data.toList.take k,48 ≤ c.toNat ∧ c.toNat ≤ 57) (hc : 48 ≤ s[k].toNat ∧ s[k].toNat ≤ 57) : ∀ c ∈ s.data.toList.take (k + 1),48 ≤ c.toNat ∧ c.toNat ≤ 57:=by
 have hk : k < s.data.toList.length:=by rw [show s.data.toList.length = s.size from by simp]; exact h
 rw [List.take_succ_eq_append_getElem hk]
 intro c hm
 rcases List.mem_append.1 hm with q | q
 ·exact ha c q
 ·rw [List.mem_singleton.1 q]
  exact hc

theorem mem_byte {s : ByteArray} {k : Nat} (h : k < s.size) : s[k] ∈ s.data.toList:=by
 have hk : k < s.data.toList.length:=by rw [show s.data.toList.length = s.size from by simp]; exact h
 exact List.getElem_mem hk

theorem head_byte {s : ByteArray} (h : 0 < s.size) : s.data.toList.head? = some s[0]:=by
 have:=bl_in h
 rw [bl,List.drop_zero] at this
 rw [this]
 rfl

theorem dnum_any (s : ByteArray) (w : World) (h0 : 0 < s.size) (hs : s.size ≤ 1000) : Calls Tryz.prog 137 #[.string s] w (DNumP s w):=by
  have hsl : s.data.toList.length = s.size:=by simp
  have h0i : (0 : Int) < (s.size : Int):=by omega
  have HH:=Hd (head_byte h0)
  go_enter Tryz.func137,Tryz.ntmps137
  go_wp2
  go_loop [4,5] (fun n i => ∃ k m : Nat,k ≤ s.size ∧ i = Vi (k : Int) ∧ n = Vi (m : Int) ∧ m = mg (s.data.toList.take k) ∧ m ≤ 4611686018427387904 ∧ (∀ c ∈ s.data.toList.take k,48 ≤ c.toNat ∧ c.toNat ≤ 57) ∧ (1 < k → s[0].toNat ≠ 48)) (fun _ i => s.size - (intOf i).toNat)
  case atStart => exact ⟨0,0,Nat.zero_le _,rfl,rfl,rfl,by omega,fun c h => absurd h (by simp),fun h => by omega⟩
  case round =>
    obtain ⟨k,m,hk,rfl,rfl,hm,hmx,hall,hld⟩:=hrel
    have HM:=Hd hm
    have HA:=Hd hall
    have HL:=Hd hld
    clear hm hall hld
    by_cases hlt : k < s.size
    · have hlti : (k : Int) < (s.size : Int):=by omega
      have hb:=UInt8.toNat_lt s[k]
      have hD:=ddigit_any s[k]
      have hcd:=cls_digit s[k]
      obtain ⟨x,hx⟩:=Vx (s[k].toNat)
      by_cases hdg : cls s[k] = 4
      · rw [decide_eq_true hdg] at hD
        have HDG:=Hd hD
        have hr:=hcd.1 hdg
        have HT:=Hd (take_all hlt HA.out hr)
        have HMG : Hid (mg (s.data.toList.take (k + 1)) = 10 * m + (x - 48)):=by
          show mg (s.data.toList.take (k + 1)) = 10 * m + (x - 48)
          rw [take_mg hlt,if_neg (by omega),← HM.out,hx]
        rw [hx] at hr HDG
        clear hD hdg hcd hb
        by_cases hz : k = 1 ∧ s[0].toNat = 48
        · obtain ⟨rfl,hz⟩:=hz
          have HN : Hid (¬ NumOk s.data.toList):=fun h => h.lead (by rw [hsl]; exact hlt) s[0] (by rw [HH.out]; rfl) hz
          have q1 : ((s[0].toNat : Int) == 48) = true:=by simp; omega
          clear hz
          go_wp2_with (first | (go_at_call 80; refine (HDG.out _).mono ?_; rintro e w' ⟨rfl,he⟩; rw [he]; clear he))
          exact bodyPost_ret (v:=.tuple #[Vi 0,.bool false]) (by simp [results,Tryz.results137,go_sem]) rfl ⟨_,_,rfl,fun h => by simp at h,fun _ => HN.out,rfl⟩
        · obtain ⟨D,hDD⟩ : ∃ D,x - 48 = D:=⟨_,rfl⟩
          have hD9 : D ≤ 9:=by omega
          have v1 : IntKind.u8.wrap ((x : Int) - 48) = (D : Int):=by rw [IntKind.wrap_u8]; omega
          have v2 : IntKind.i64.wrap (D : Int) = (D : Int):=by rw [IntKind.wrap_i64]; omega
          have v3 : IntKind.i64.wrap (4611686018427387904 - (D : Int)) = 4611686018427387904 - (D : Int):=by rw [IntKind.wrap_i64]; omega
          obtain ⟨Q,hQ⟩ : ∃ Q : Int,(4611686018427387904 - (D : Int)) / 10 = Q:=⟨_,rfl⟩
          have v4 : (4611686018427387904 - (D : Int)).tdiv 10 = Q:=by rw [Int.tdiv_eq_ediv_of_nonneg (by omega)]; exact hQ
          have v5 : IntKind.i64.wrap Q = Q:=by rw [IntKind.wrap_i64]; omega
          rw [hDD] at HMG
          have HST : Hid (k = 1 → s[0].toNat ≠ 48):=fun e g => hz ⟨e,g⟩
          have hcase : ((k : Int) == 1) = false ∨ (((k : Int) == 1) = true ∧ ((s[0].toNat : Int) == 48) = false):=by
            by_cases e : k = 1
            · refine Or.inr ⟨by simp; omega,?_⟩
              have:=HST.out e
              simp
              omega
            · exact Or.inl (by simp; omega)
          clear hz hDD
          by_cases hbig : Q < (m : Int)
          · have HN : Hid (¬ NumOk s.data.toList):=fun h => by
              have h1:=h.most
              have h2:=take_mg_le s (k + 1)
              rw [HMG.out] at h2
              omega
            rcases hcase with q | ⟨q,q2⟩
            all_goals
              go_wp2_with (first | (go_at_call 80; refine (HDG.out _).mono ?_; rintro e w' ⟨rfl,he⟩; rw [he]; clear he))
              exact bodyPost_ret (v:=.tuple #[Vi 0,.bool false]) (by simp [results,Tryz.results137,go_sem]) rfl ⟨_,_,rfl,fun h => by simp at h,fun _ => HN.out,rfl⟩
          · have v6 : IntKind.i64.wrap (10 * (m : Int)) = 10 * (m : Int):=by rw [IntKind.wrap_i64]; omega
            have v7 : IntKind.i64.wrap (10 * (m : Int) + (D : Int)) = 10 * (m : Int) + (D : Int):=by rw [IntKind.wrap_i64]; omega
            have HN : Hid (10 * m + D ≤ 4611686018427387904 ∧ (1 < k + 1 → s[0].toNat ≠ 48)):=by
              refine ⟨by omega,fun g => ?_⟩
              by_cases e : k = 1
              · exact HST.out e
              · exact HL.out (by omega)
            rcases hcase with q | ⟨q,q2⟩
            all_goals
              go_wp2_with (first | (go_at_call 80; refine (HDG.out _).mono ?_; rintro e w' ⟨rfl,he⟩; rw [he]; clear he))
              go_round
              case rel => exact ⟨k + 1,10 * m + D,by omega,by go_num,by simp,HMG.out.symm,HN.out.1,HT.out,HN.out.2⟩
              case measure => simp [intOf]; omega
      · rw [decide_eq_false hdg] at hD
        have HDG:=Hd hD
        have HN : Hid (¬ NumOk s.data.toList):=fun h => hdg (hcd.2 (h.all _ (mem_byte hlt)))
        rw [hx] at HDG
        clear hD hdg hcd hb
        go_wp2_with (first | (go_at_call 80; refine (HDG.out _).mono ?_; rintro e w' ⟨rfl,he⟩; rw [he]; clear he))
        exact bodyPost_ret (v:=.tuple #[Vi 0,.bool false]) (by simp [results,Tryz.results137,go_sem]) rfl ⟨_,_,rfl,fun h => by simp at h,fun _ => HN.out,rfl⟩
    · have hlti : ¬ (k : Int) < (s.size : Int):=by omega
      obtain rfl : k = s.size:=by omega
      have htk : s.data.toList.take s.size = s.data.toList:=List.take_of_length_le (by omega)
      have HN : Hid (NumOk s.data.toList ∧ m = mg s.data.toList):=by
        have h1:=HM.out
        have h2:=HA.out
        rw [htk] at h1 h2
        exact ⟨⟨fun e => by rw [e] at hsl; simp at hsl; omega, h2, fun g c hc => by rw [hsl] at g; rw [HH.out] at hc; obtain rfl : s[0] = c := by simpa using hc
                                                                                    exact HL.out g,by rw [← h1]; exact hmx⟩,h1⟩
      go_wp2
      exact bodyPost_ret (v:=.tuple #[Vi (m : Int),.bool true]) (by simp [results,Tryz.results137,go_sem]) rfl ⟨_,_,rfl,fun _ => ⟨HN.out.1,by rw [← HN.out.2]⟩,fun h => by simp at h,rfl⟩

def DTokP (p : List UInt8) (a : Nat) (w : World) (e : Ending) (w' : World) : Prop:=∃ (t : Tk) (b : Int) (z : Int),e = .returned (.tuple #[tkA t (a : Int),Vi b,Vi z]) ∧ z = (tokR p).2 ∧ (z = 0 → t = (tokR p).1 ∧ b = ((a + p.length : Nat) : Int)) ∧ Below w.heap.size w w'

theorem dtok_no {p : List UInt8} {a : Nat} {w w' : World} {t : Tk} {z : Int} (h : tokR p = (tk0,z)) (hz : z ≠ 0) (hb : Below w.heap.size w w') : DTokP p a w (.returned (.tuple #[tkA t (a : Int),Vi 0,Vi z])) w':=⟨t,0,z,rfl,by rw [h],fun g => absurd g hz,hb⟩

theorem dtok_yes {p : List UInt8} {a : Nat} {w w' : World} {t : Tk} (h : tokR p = (t,0)) (hb : Below w.heap.size w w') : DTokP p a w (.returned (.tuple #[tkA t (a : Int),Vi ((a : Int) + (p.length : Int)),Vi 0])) w':=⟨t,_,0,rfl,by rw [h],fun _ => ⟨by rw [h],by omega⟩,hb⟩

theorem four_of {w : World} {x : Nat} {a b c d : Value} {t : TypeId} (h : w.heap[x]? = some (.cells #[a,b,c,d] t (0,0))) : (w.cell? ⟨x,0,none⟩ = some a ∧ w.cell? ⟨x,1,none⟩ = some b ∧ w.cell? ⟨x,2,none⟩ = some c ∧ w.cell? ⟨x,3,none⟩ = some d) ∧ w.frozen? ⟨x,0,none⟩ = false ∧ w.frozen? ⟨x,1,none⟩ = false ∧ w.frozen? ⟨x,2,none⟩ = false ∧ w.frozen? ⟨x,3,none⟩ = false:=by
 simp [World.cell?,World.frozen?,h]

theorem set_at {w : World} {l i : Nat} {cs : Array Value} {t : TypeId} {fr : Nat × Nat} (h : w.heap[l]? = some (.cells cs t fr)) (v : Value) : (w.setCell ⟨l,i,none⟩ v).heap[l]? = some (.cells (cs.setIfInBounds i v) t fr):=by
 have hl : l < w.heap.size:=(Gx h)
 simp [World.setCell,Array.getElem?_modify,h]

theorem set_other {w : World} {l k i : Nat} (v : Value) (h : k ≠ l) : (w.setCell ⟨l,i,none⟩ v).heap[k]? = w.heap[k]?:=Below.heap_setCell _ _ _ _ (fun e => h e)

theorem two_blocks {w w1 : World} {c1 c2 : Array Value} {t : TypeId} (hb : Below ((w.alloc (.cells c1 t)).alloc (.cells c2 t)).heap.size ((w.alloc (.cells c1 t)).alloc (.cells c2 t)) w1) : w1.heap[w.heap.size]? = some (.cells c1 t (0,0)) ∧ w1.heap[w.heap.size + 1]? = some (.cells c2 t (0,0)) ∧ w.heap.size + 1 < w1.heap.size ∧ w.heap.size < w1.heap.size ∧ Below w.heap.size w w1:=by
 have hz:=hb.size
 simp at hz
 refine ⟨(hb.block _ (by simp; omega)).trans ?_,(hb.block _ (by simp)).trans ?_,by omega,by omega,(((Below.refl _ _).alloc (Nat.le_refl _) _).alloc (by simp) _).trans (hb.mono (by simp; omega))⟩
 ·have:=((Below.refl (w.alloc (.cells c1 t)).heap.size (w.alloc (.cells c1 t))).alloc (Nat.le_refl _) (.cells c2 t)).block w.heap.size (by simp)
  exact this.trans (heap_alloc_new w _)
 ·have:=heap_alloc_new (w.alloc (.cells c1 t)) (.cells c2 t)
  simpa using this

theorem dword_num (s : ByteArray) (a : Nat) (w : World) (h0 : 0 < s.size) (hs : s.size ≤ 1000) (ha : a ≤ 1000) (hc : cls s[0] = 4) : Calls Tryz.prog 96 #[tkA tk0 (a : Int),.string s] w (DTokP s.data.toList a w):=by
 have h0i : (0 : Int) < (s.size : Int):=by omega
 have hD:=ddigit_any s[0]
 rw [decide_eq_true hc] at hD
 have HD:=Hd hD
 have hbl : s.data.toList = s[0] :: bl s 1:=by have:=bl_in h0; rw [bl,List.drop_zero] at this; exact this
 have HY : Hid (NumOk s.data.toList → tokR s.data.toList = ((2,(mg s.data.toList : Int),⟨#[]⟩),0)):=by
  intro h
  rw [hbl] at h ⊢
  exact tok_num_ok hc h
 have HX : Hid (¬ NumOk s.data.toList → tokR s.data.toList = (tk0,101)):=by
  intro h
  rw [hbl] at h ⊢
  exact tok_num_no hc h
 have hv : IntKind.i64.wrap ((a : Int) + (s.size : Int)) = (a : Int) + (s.size : Int):=by rw [IntKind.wrap_i64]; omega
 have hl : s.data.toList.length = s.size:=by simp
 have HLS:=Hd hl
 clear hD hbl hl hc
 unfold tkA tk0
 go_enter Tryz.func96,Tryz.ntmps96
 go_wp2_with (first | (go_at_call 80; refine (HD.out _).mono ?_; rintro e w' ⟨rfl,he⟩; rw [he]; clear he))
 refine (dnum_any s _ h0 hs).mono ?_
 rintro e w1 ⟨z,ok,rfl,hy,hn,rfl⟩
 cases ok with
 | false =>
  have HT:=Hd (HX.out (hn rfl))
  clear hy hn
  go_wp2
  exact bodyPost_ret (v:=.tuple #[tkA tk0 (a : Int),Vi 0,Vi 101]) (by simp [results,Tryz.results96,go_sem,tkA,tk0]) rfl (dtok_no HT.out (by decide) (by (repeat (first|exact Bxr _ _|assumption|apply Bxd|apply Bxa|apply Bxs|refine Bxt ?_ (by assumption) ?_|omega|simp))))
 | true =>
  obtain ⟨g1,rfl⟩:=hy rfl
  have HT:=Hd (HY.out g1)
  clear hn g1
  obtain ⟨M,hM⟩ : ∃ M : Int,(mg s.data.toList : Int) = M:=⟨_,rfl⟩
  rw [hM] at HT ⊢
  go_wp2
  go_region
  all_goals
   go_wp2
   refine bodyPost_ret (v:=.tuple #[tkA (2,M,⟨#[]⟩) (a : Int),Vi ((a : Int) + (s.size : Int)),Vi 0]) (by simp [results,Tryz.results96,go_sem,tkA]) rfl ?_
   rw [← HLS.out]
   exact dtok_yes HT.out (by (repeat (first|exact Bxr _ _|assumption|apply Bxd|apply Bxa|apply Bxs|refine Bxt ?_ (by assumption) ?_|omega|simp)))

theorem dIsWord_exact (s : ByteArray) (w : World) : Calls Tryz.prog 138 #[.string s] w fun e w' => e = .returned (.bool (isWord s)) ∧ ∃ o,w' = w.alloc o:=by
 obtain ⟨Z,hZ⟩:=Vx (w.alloc (.cells #[.string ⟨#[83,69,76,69,67,84]⟩,.string ⟨#[73,78,83,69,82,84]⟩,.string ⟨#[73,78,84,79]⟩,.string ⟨#[86,65,76,85,69,83]⟩,.string ⟨#[85,80,68,65,84,69]⟩,.string ⟨#[83,69,84]⟩,.string ⟨#[68,69,76,69,84,69]⟩,.string ⟨#[70,82,79,77]⟩,.string ⟨#[74,79,73,78]⟩,.string ⟨#[79,78]⟩,.string ⟨#[87,72,69,82,69]⟩,.string ⟨#[71,82,79,85,80]⟩,.string ⟨#[79,82,68,69,82]⟩,.string ⟨#[66,89]⟩,.string ⟨#[68,69,83,67]⟩,.string ⟨#[76,73,77,73,84]⟩,.string ⟨#[65,78,68]⟩,.string ⟨#[79,82]⟩,.string ⟨#[78,79,84]⟩,.string ⟨#[73,83]⟩,.string ⟨#[78,85,76,76]⟩,.string ⟨#[84,82,85,69]⟩,.string ⟨#[70,65,76,83,69]⟩,.string ⟨#[67,79,85,78,84]⟩,.string ⟨#[83,85,77]⟩,.string ⟨#[77,73,78]⟩,.string ⟨#[77,65,88]⟩] 9))
 have HCL : Hid (∀ k (hk : k < 27),Z.cell? ⟨w.heap.size,k,none⟩ = some (.string ⟨(wordsL[k]'(by simpa [wordsL] using hk)).toArray⟩)):=fun k hk => by rw [← hZ]; exact words_cell w k hk
 have HBL : Hid (∃ o,Z = w.alloc o):=⟨_,hZ.symm⟩
 go_enter Tryz.func138,Tryz.ntmps138
 go_wp2
 clear hZ
 go_loopw [4] (fun i wz => ∃ k : Nat,k ≤ 27 ∧ i = Vi k ∧ (∀ j (hj : j < 27),j < k → (s.toList == wordsL[j]'(by simpa [wordsL] using hj)) = false) ∧ wz = Z) (fun i _ => 27 - (intOf i).toNat)
 case atStart => exact ⟨0,Nat.zero_le _,rfl,fun _ _ g => absurd g (Nat.not_lt_zero _),rfl⟩
 case round =>
  obtain ⟨k,hk,rfl,hall,rfl⟩:=hrel
  have HA:=Hd hall
  clear hall
  by_cases hlt : k < 27
  ·have hlti : (k : Int) < 27:=by omega
   have c0:=HCL.out k hlt
   have hkw : k < wordsL.length:=by simpa [wordsL] using hlt
   obtain ⟨x,hx⟩:=Vx (wordsL[k])
   rw [hx] at c0
   have HM : Hid (x ∈ wordsL):=by show x ∈ wordsL; rw [← hx]; exact List.getElem_mem hkw
   have hse : ((⟨x.toArray⟩ : ByteArray).toList == s.toList) = (s.toList == x):=by
    rw [ByteArray.toList_eq,Bool.eq_iff_iff,beq_iff_eq,beq_iff_eq]
    exact eq_comm
   have hse2 : (x == s.toList) = (s.toList == x):=by
    rw [Bool.eq_iff_iff,beq_iff_eq,beq_iff_eq]
    exact eq_comm
   cases hb : (s.toList == x) with
   | true =>
    rw [hb] at hse hse2
    have HV : Hid (isWord s = true):=isWord_yes x HM.out hb
    clear hb hx
    go_wp2
    go_ret
    exact ⟨ret_bool HV.out.symm,HBL.out⟩
   | false =>
    rw [hb] at hse hse2
    have HA2 : Hid (∀ j (hj : j < 27),j < k + 1 → (s.toList == wordsL[j]'(by simpa [wordsL] using hj)) = false):=fun j hj g => by
     by_cases e : j = k
     ·subst e; rw [hx]; exact hb
     ·exact HA.out j hj (by omega)
    clear hb hx
    go_wp2
    go_roundw
    case rel => exact ⟨k + 1,by omega,by go_num,HA2.out,trivial⟩
    case measure => simp [intOf]; omega
  ·have hlti : ¬ (k : Int) < 27:=by omega
   have HV : Hid (isWord s = false):=by
    show isWord s = false
    rw [isWord,List.any_eq_false]
    intro x hx
    obtain ⟨j,hj,rfl⟩:=List.getElem_of_mem hx
    have hj27 : j < 27:=by simpa [wordsL] using hj
    rw [HA.out j hj27 (by omega)]
    decide
   go_wp2
   go_ret
   exact ⟨ret_bool HV.out.symm,HBL.out⟩

theorem dword_none (s : ByteArray) (a : Nat) (w : World) (h0 : 0 < s.size) (hs : s.size ≤ 1000) (ha : a ≤ 1000) (hc : cls s[0] = 5 ∨ cls s[0] = 6 ∨ cls s[0] = 7) (hx : isWord s = false) (hy : isName s = false) : Calls Tryz.prog 96 #[tkA tk0 (a : Int),.string s] w (DTokP s.data.toList a w):=by
 have h0i : (0 : Int) < (s.size : Int):=by omega
 have hD:=ddigit_any s[0]
 rw [decide_eq_false (by omega)] at hD
 have HD:=Hd hD
 have hbl : s.data.toList = s[0] :: bl s 1:=by have:=bl_in h0; rw [bl,List.drop_zero] at this; exact this
 have HTK : Hid (tokR s.data.toList = if isWord s = true then ((4,0,s),0) else if isName s = true then ((3,0,s),0) else (tk0,102)):=by
  rw [isWord_list,isName_list]
  have:=tokR_run (l:=bl s 1) hc
  rw [← hbl,ofL_list] at this
  exact this
 have hv : IntKind.i64.wrap ((a : Int) + (s.size : Int)) = (a : Int) + (s.size : Int):=by rw [IntKind.wrap_i64]; omega
 have HLS : Hid (s.data.toList.length = s.size):=by show s.data.toList.length = s.size; simp
 have hW:=dIsWord_exact s
 have hN:=dIsName_any s
 rw [hx] at hW HTK
 rw [hy] at hN HTK
 have HW:=Hd hW
 have HN:=Hd hN
 clear hD hbl hc hW hN hx hy
 unfold tkA tk0
 have HT : Hid (tokR s.data.toList = (tk0,102)):=HTK.out
 go_enter Tryz.func96,Tryz.ntmps96
 go_wp2_with (first | (go_at_call 80; refine (HD.out _).mono ?_; rintro e w' ⟨rfl,he⟩; rw [he]; clear he) | (go_at_call 41; refine (HN.out _).mono ?_; rintro e w' ⟨rfl,he⟩; rw [he]; clear he) | (go_at_call 138; refine (HW.out _).mono ?_; rintro e w1 ⟨rfl,o,he⟩; rw [he]; clear he))
 exact bodyPost_ret (v:=.tuple #[tkA (3,0,s) (a : Int),Vi 0,Vi 102]) (by simp [results,Tryz.results96,go_sem,tkA]) rfl (dtok_no HT.out (by decide) (by (repeat (first|exact Bxr _ _|assumption|apply Bxd|apply Bxa|apply Bxs|refine Bxt ?_ (by assumption) ?_|omega|simp))))

theorem dword_name (s : ByteArray) (a : Nat) (w : World) (h0 : 0 < s.size) (hs : s.size ≤ 1000) (ha : a ≤ 1000) (hc : cls s[0] = 5 ∨ cls s[0] = 6 ∨ cls s[0] = 7) (hx : isWord s = false) (hy : isName s = true) : Calls Tryz.prog 96 #[tkA tk0 (a : Int),.string s] w (DTokP s.data.toList a w):=by
 have h0i : (0 : Int) < (s.size : Int):=by omega
 have hD:=ddigit_any s[0]
 rw [decide_eq_false (by omega)] at hD
 have HD:=Hd hD
 have hbl : s.data.toList = s[0] :: bl s 1:=by have:=bl_in h0; rw [bl,List.drop_zero] at this; exact this
 have HTK : Hid (tokR s.data.toList = if isWord s = true then ((4,0,s),0) else if isName s = true then ((3,0,s),0) else (tk0,102)):=by
  rw [isWord_list,isName_list]
  have:=tokR_run (l:=bl s 1) hc
  rw [← hbl,ofL_list] at this
  exact this
 have hv : IntKind.i64.wrap ((a : Int) + (s.size : Int)) = (a : Int) + (s.size : Int):=by rw [IntKind.wrap_i64]; omega
 have HLS : Hid (s.data.toList.length = s.size):=by show s.data.toList.length = s.size; simp
 have hW:=dIsWord_any s
 have hN:=dIsName_any s
 rw [hx] at hW HTK
 rw [hy] at hN HTK
 have HW:=Hd hW
 have HN:=Hd hN
 clear hD hbl hc hW hN hx hy
 unfold tkA tk0
 have HT : Hid (tokR s.data.toList = ((3,0,s),0)):=HTK.out
 go_enter Tryz.func96,Tryz.ntmps96
 go_wp2_with (first | (go_at_call 80; refine (HD.out _).mono ?_; rintro e w' ⟨rfl,he⟩; rw [he]; clear he) | (go_at_call 41; refine (HN.out _).mono ?_; rintro e w' ⟨rfl,he⟩; rw [he]; clear he) | (go_at_call 138; refine (HW.out _).mono ?_; rintro e w1 ⟨rfl,hb⟩; obtain ⟨e1,e2,e3,e4,hbw⟩:=two_blocks hb; have E1:=Hd e1; have E2:=Hd e2; obtain ⟨⟨k0,k1,k2,k3⟩,f0,f1,f2,f3⟩:=four_of e1; clear e1 e2 hb))
 clear k0 k1 k2 k3 f0 f1 f2 f3
 obtain ⟨W5,hW5⟩:=Vx ((w1.setCell ⟨w.heap.size,0,none⟩ (Vi 3)).setCell ⟨w.heap.size,2,none⟩ (.string s))
 have x1 : W5.heap[w.heap.size]? = some (.cells (Vk 3 0 s a) 43 (0,0)):=by
  rw [← hW5]
  exact set_at (set_at (E1.out) _) _
 have x2 : W5.heap[w.heap.size + 1]? = some (.cells (Vk 0 0 Vz 0) 43 (0,0)):=by
  rw [← hW5]
  exact (set_other _ (by omega)).trans ((set_other _ (by omega)).trans (E2.out))
 have HB5 : Hid (Below w.heap.size w W5):=by
  show Below w.heap.size w W5
  rw [← hW5]
  (repeat (first|exact Bxr _ _|assumption|apply Bxd|apply Bxa|apply Bxs|refine Bxt ?_ (by assumption) ?_|omega|simp))
 have hz5 : w.heap.size + 1 < W5.heap.size:=(Gx x2)
 obtain ⟨⟨k0,k1,k2,k3⟩,f0,f1,f2,f3⟩:=four_of x1
 have zm:=four_of x2
 rw [hW5]
 clear hW5 x1 x2 hbw e3 e4
 go_region
 all_goals
  go_wp2
  refine bodyPost_ret (v:=.tuple #[tkA (3,0,s) (a : Int),Vi ((a : Int) + (s.size : Int)),Vi 0]) (by simp [results,Tryz.results96,go_sem,tkA,zm]) rfl ?_
  rw [← HLS.out]
  exact dtok_yes HT.out (by have h0:=HB5.out; (repeat (first|exact Bxr _ _|assumption|apply Bxd|apply Bxa|apply Bxs|refine Bxt ?_ (by assumption) ?_|omega|simp)))

theorem dword_word (s : ByteArray) (a : Nat) (w : World) (h0 : 0 < s.size) (hs : s.size ≤ 1000) (ha : a ≤ 1000) (hc : cls s[0] = 5 ∨ cls s[0] = 6 ∨ cls s[0] = 7) (y : Bool) (hx : isWord s = true) (hy : isName s = y) : Calls Tryz.prog 96 #[tkA tk0 (a : Int),.string s] w (DTokP s.data.toList a w):=by
 have h0i : (0 : Int) < (s.size : Int):=by omega
 have hD:=ddigit_any s[0]
 rw [decide_eq_false (by omega)] at hD
 have HD:=Hd hD
 have hbl : s.data.toList = s[0] :: bl s 1:=by have:=bl_in h0; rw [bl,List.drop_zero] at this; exact this
 have HTK : Hid (tokR s.data.toList = if isWord s = true then ((4,0,s),0) else if isName s = true then ((3,0,s),0) else (tk0,102)):=by
  rw [isWord_list,isName_list]
  have:=tokR_run (l:=bl s 1) hc
  rw [← hbl,ofL_list] at this
  exact this
 have hv : IntKind.i64.wrap ((a : Int) + (s.size : Int)) = (a : Int) + (s.size : Int):=by rw [IntKind.wrap_i64]; omega
 have HLS : Hid (s.data.toList.length = s.size):=by show s.data.toList.length = s.size; simp
 have hW:=dIsWord_any s
 have hN:=dIsName_any s
 rw [hx] at hW HTK
 rw [hy] at hN HTK
 have HW:=Hd hW
 have HN:=Hd hN
 clear hD hbl hc hW hN hx hy
 unfold tkA tk0
 have HT : Hid (tokR s.data.toList = ((4,0,s),0)):=HTK.out
 go_enter Tryz.func96,Tryz.ntmps96
 go_wp2_with (first | (go_at_call 80; refine (HD.out _).mono ?_; rintro e w' ⟨rfl,he⟩; rw [he]; clear he) | (go_at_call 41; refine (HN.out _).mono ?_; rintro e w' ⟨rfl,he⟩; rw [he]; clear he) | (go_at_call 138; refine (HW.out _).mono ?_; rintro e w1 ⟨rfl,hb⟩; obtain ⟨e1,e2,e3,e4,hbw⟩:=two_blocks hb; have E1:=Hd e1; have E2:=Hd e2; obtain ⟨⟨k0,k1,k2,k3⟩,f0,f1,f2,f3⟩:=four_of e1; clear e1 e2 hb))
 clear k0 k1 k2 k3 f0 f1 f2 f3
 obtain ⟨W5,hW5⟩:=Vx (((w1.setCell ⟨w.heap.size,0,none⟩ (Vi 3)).setCell ⟨w.heap.size,0,none⟩ (Vi 4)).setCell ⟨w.heap.size,2,none⟩ (.string s))
 have x1 : W5.heap[w.heap.size]? = some (.cells (Vk 4 0 s a) 43 (0,0)):=by
  rw [← hW5]
  exact set_at (set_at (set_at (E1.out) _) _) _
 have x2 : W5.heap[w.heap.size + 1]? = some (.cells (Vk 0 0 Vz 0) 43 (0,0)):=by
  rw [← hW5]
  exact (set_other _ (by omega)).trans ((set_other _ (by omega)).trans ((set_other _ (by omega)).trans (E2.out)))
 have HB5 : Hid (Below w.heap.size w W5):=by
  show Below w.heap.size w W5
  rw [← hW5]
  (repeat (first|exact Bxr _ _|assumption|apply Bxd|apply Bxa|apply Bxs|refine Bxt ?_ (by assumption) ?_|omega|simp))
 have hz5 : w.heap.size + 1 < W5.heap.size:=(Gx x2)
 obtain ⟨⟨k0,k1,k2,k3⟩,f0,f1,f2,f3⟩:=four_of x1
 have zm:=four_of x2
 rw [hW5]
 clear hW5 x1 x2 hbw e3 e4
 go_region
 all_goals
  go_wp2
  refine bodyPost_ret (v:=.tuple #[tkA (4,0,s) (a : Int),Vi ((a : Int) + (s.size : Int)),Vi 0]) (by simp [results,Tryz.results96,go_sem,tkA,zm]) rfl ?_
  rw [← HLS.out]
  exact dtok_yes HT.out (by have h0:=HB5.out; (repeat (first|exact Bxr _ _|assumption|apply Bxd|apply Bxa|apply Bxs|refine Bxt ?_ (by assumption) ?_|omega|simp)))

theorem dword_any (s : ByteArray) (a : Nat) (w : World) (h0 : 0 < s.size) (hs : s.size ≤ 1000) (ha : a ≤ 1000) (hc : runB s[0]) : Calls Tryz.prog 96 #[tkA tk0 (a : Int),.string s] w (DTokP s.data.toList a w):=by
 by_cases h4 : cls s[0] = 4
 ·exact dword_num s a w h0 hs ha h4
 ·have h5 : cls s[0] = 5 ∨ cls s[0] = 6 ∨ cls s[0] = 7:=by unfold runB at hc; omega
  cases hx : isWord s with
  | true => exact dword_word s a w h0 hs ha h5 _ hx rfl
  | false =>
   cases hy : isName s with
   | true => exact dword_name s a w h0 hs ha h5 hx hy
   | false => exact dword_none s a w h0 hs ha h5 hx hy

theorem size_set (w : World) (p : Addr) (v : Value) : (w.setCell p v).heap.size = w.heap.size:=by simp [World.setCell]

theorem alloc_other {w : World} {k : Nat} (h : k < w.heap.size) (o : Obj) : (w.alloc o).heap[k]? = w.heap[k]?:=((Below.refl w.heap.size w).alloc (Nat.le_refl _) o).block k h

theorem below_draws (w : World) (n : Nat) : Below w.heap.size w (w.drewN n):=⟨rfl,rfl,rfl,Nat.le_refl _,fun _ _ => rfl⟩

def pcA (s : ByteArray) (a : Nat) : List UInt8:=(bl s a).take (pieceN (bl s a))

theorem pcA_run {s : ByteArray} {a : Nat} (h : a < s.size) (hr : runB s[a]) : (s.extract a (a + runN (bl s a))).data.toList = pcA s a ∧ 0 < runN (bl s a):=by
 have e : pieceN (bl s a) = runN (bl s a):=by
  rw [bl_in h]
  simp only [pieceN,runN]
  rw [if_pos (Or.inl hr),if_pos hr]
 rw [extract_bl,pcA,e]
 refine ⟨rfl,?_⟩
 rw [bl_in h]
 simp only [runN]
 rw [if_pos hr]
 omega

theorem run_none {s : ByteArray} {a : Nat} (h : a < s.size) (hr : ¬ runB s[a]) : s.extract a (a + runN (bl s a)) = ⟨#[]⟩:=by
 have e : runN (bl s a) = 0:=by
  rw [bl_in h]
  simp only [runN]
  rw [if_neg hr]
 apply bytes_eq
 rw [extract_bl,e]
 rfl

theorem pcA_colon {s : ByteArray} {a : Nat} (h : a < s.size) (hc : s[a].toNat = 58) : pcA s a = 58 :: (s.extract (a + 1) (a + 1 + runN (bl s (a + 1)))).data.toList:=by
 have e : s[a] = 58:=UInt8.toNat_inj.1 hc
 rw [pcA,extract_bl,bl_in h]
 simp only [pieceN]
 rw [if_pos (Or.inr (by rw [e]; decide)),e,Nat.add_comm,List.take_succ_cons]

theorem pcA_mark {s : ByteArray} {a : Nat} (h : a < s.size) (hc : s[a].toNat = 39) : pcA s a = 39 :: (bl s (a + 1)).take (txtN false (bl s (a + 1))) ∧ (s.extract a (a + 1 + txtN false (bl s (a + 1)))).data.toList = pcA s a:=by
 have e : s[a] = 39:=UInt8.toNat_inj.1 hc
 have hp : pieceN (bl s a) = txtN false (bl s (a + 1)) + 1:=by
  rw [bl_in h]
  simp only [pieceN]
  rw [if_neg (by rw [e]; decide),if_pos (by rw [e]; decide),Nat.add_comm]
 refine ⟨?_,?_⟩
 ·rw [pcA,hp,bl_in h,List.take_succ_cons,e]
 ·rw [show a + 1 + txtN false (bl s (a + 1)) = a + (txtN false (bl s (a + 1)) + 1) from by omega,extract_bl,pcA,hp]

theorem pcA_sign {s : ByteArray} {a : Nat} (h : a < s.size) (h1 : ¬ runB s[a]) (hs : sgn s[a] = true) : cls s[a] = 10 ∧ (sgnT s a h).data.toList = pcA s a:=by
  have h10 : cls s[a] = 10:=by
    have : ∀ b : UInt8,sgn b = true → cls b = 10:=cls_all (fun b => sgn b = true → cls b = 10) (by decide +kernel)
    exact this _ hs
  have hp : pieceN (bl s a) = sgnN (bl s a):=by
    rw [bl_in h]
    simp only [pieceN]
    rw [if_neg (by rintro (q | q); · exact h1 q
                   · omega),if_neg (by omega),if_pos h10]
  refine ⟨h10,?_⟩
  unfold sgnT
  rw [if_pos hs,extract_bl,pcA,hp]

theorem pcA_other {s : ByteArray} {a : Nat} (h : a < s.size) (h0 : skp false (bl s a) = 0) (h1 : ¬ runB s[a]) (h2 : s[a].toNat ≠ 58) (h3 : s[a].toNat ≠ 39) (hs : sgn s[a] = false) : tokR (pcA s a) = (tk0,100):=by
 have hc : cls s[a] = 0:=by
  have k2 : cls s[a] ≠ 2 ∧ cls s[a] ≠ 3:=by
   rw [bl_in h] at h0
   simp only [skp] at h0
   by_cases q : cls s[a] = 2 ∨ cls s[a] = 3
   ·rw [if_pos q] at h0; omega
   ·exact ⟨fun g => q (Or.inl g),fun g => q (Or.inr g)⟩
  have k8 : cls s[a] ≠ 8:=fun g => h2 (by rw [(cls_colon _).1 g]; rfl)
  have k9 : cls s[a] ≠ 9:=fun g => h3 (by rw [(cls_mark _).1 g]; rfl)
  have k10 : cls s[a] ≠ 10:=fun g => by
   have : ∀ b : UInt8,cls b = 10 → sgn b = true:=cls_all (fun b => cls b = 10 → sgn b = true) (by decide +kernel)
   rw [this _ g] at hs
   exact absurd hs (by decide)
  have kr : ¬ (cls s[a] = 4 ∨ cls s[a] = 5 ∨ cls s[a] = 6 ∨ cls s[a] = 7):=h1
  have:=clsAt_range s a
  rw [clsAt_in h] at this
  have k1:=cls_one s[a]
  omega
 obtain ⟨n,hn⟩ : ∃ n,pieceN (bl s a) = n + 1:=⟨pieceN (bl s a) - 1,by have:=pieceN_pos s[a] (bl s (a + 1)); rw [← bl_in h] at this; omega⟩
 rw [pcA,hn,bl_in h,List.take_succ_cons,tokR_byte (Or.inl hc)]
end Go.Proofs.YtffalonhkemieaaGreatDoor
