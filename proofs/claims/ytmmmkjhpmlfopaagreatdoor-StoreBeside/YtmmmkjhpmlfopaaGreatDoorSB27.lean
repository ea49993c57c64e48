/- ZT6 ZT7 ZT8 ZT9 -/
import Derived.Test.YtmmmkjhpmlfopaaGreatDoorSB26
set_option maxHeartbeats 8000000
set_option maxRecDepth 100000
namespace Go.Proofs.YtmmmkjhpmlfopaaGreatDoor
open Go.RowKit
namespace TT
structure AskX (w : World) (b x : Nat) (ks : List (List UInt8)) : Prop where
 ex : ∃ q,w.heap[x]? = some (.cells #[.func (.func 134) #[] #[.pointer (some ⟨q,0,none⟩)]] 130 (0,0)) ∧ AskN w b q ks
theorem AskX.later {w w' : World} {b x : Nat} {ks : List (List UInt8)} (h : AskX w b x ks) (hb : Below w.heap.size w w') : AskX w' b x ks:=by
 obtain ⟨p,h1,h2⟩:=h.ex
 exact ⟨p,heap_of h1 hb,h2.later hb⟩
theorem AskX.lt {w : World} {b x : Nat} {ks : List (List UInt8)} (h : AskX w b x ks) : b < w.heap.size:=by
 obtain ⟨p,h1,h2⟩:=h.ex
 exact h2.lt.2
theorem AskX.ne {w : World} {b x : Nat} {ks : List (List UInt8)} (h : AskX w b x ks) {k : Nat} {cs : Array Value} {t : TypeId} {fr : Nat × Nat} (hk : w.heap[k]? = some (.cells cs t fr)) : k ≠ b:=by
 obtain ⟨p,h1,h2⟩:=h.ex
 exact h2.ne hk
theorem AskX.beside {w w' : World} {b b' q : Nat} {ks : List (List UInt8)} (h : AskX w b q ks) (ho : Only (fun k => k = b') w w') (hb : b ≠ b') (hm : ∀ k cs t fr,w.heap[k]? = some (.cells cs t fr) → k ≠ b') : AskX w' b q ks:=by
 obtain ⟨p,h1,h2⟩:=h.ex
 exact ⟨p,heap_only h1 ho (hm _ _ _ _ h1),h2.beside ho hb hm⟩
theorem AskX.ask {w : World} {b x : Nat} {ks : List (List UInt8)} (h : AskX w b x ks) (hk : ks.length ≤ 1000000) : ∃ q,w.cell? ⟨x,0,none⟩ = some (.func (.func 134) #[] #[.pointer (some ⟨q,0,none⟩)]) ∧ x < w.heap.size ∧
  ∀ (s : ByteArray) (w1 : World),Below w.heap.size w w1 → Calls Tryz.prog 134 #[.string s,.pointer (some ⟨q,0,none⟩)] w1 fun e w' => e = .returned (.bool (isNm (bs s) && !decide (bs s ∈ ks))) ∧ (isNm (bs s) = true → AskX w' b x (ks ++ [bs s])) ∧ Only (fun k => k = b) w1 w':=by
 obtain ⟨q,h1,h2⟩:=h.ex
 refine ⟨q,cell_of_one h1,(Gx h1),fun s w1 hb => ?_⟩
 refine (newName1_any s w1 b q ks (h2.later hb) hk).mono ?_
 rintro e w2 ⟨rfl,g1,g2⟩
 exact ⟨rfl,fun hn => ⟨q,heap_only (heap_of h1 hb) g2 ((h2.later hb).ne (heap_of h1 hb)),g1 hn⟩,g2⟩
theorem newNm_at {α : Type} (f : α → List UInt8) (l : List α) (k : Nat) (h : k < l.length) : newNm (l.map f) k = (isNm (f l[k]) && !decide (f l[k] ∈ (l.map f).take k)):=by simp [newNm,h]
theorem names_snoc {α : Type} (f : α → List UInt8) (l : List α) (k : Nat) (h : k < l.length) : (l.map f).take k ++ [f l[k]] = (l.map f).take (k + 1):=by
 have:=take_snoc (l.map f) k (by simpa using h)
 rw [List.getElem_map] at this
 exact this
theorem col1_any (c : Col) (vs : List Value) (w : World) (x b : Nat) (ks : List (List UInt8)) (hR : ColR c vs) (h : AskX w b x ks) (hk : ks.length ≤ 1000000) :
  Calls Tryz.prog 190 #[.agg vs.toArray,.pointer (some ⟨x,0,none⟩)] w fun e w' => e = .returned (.bool ((isNm (bs c.nm) && !decide (bs c.nm ∈ ks)) && typB c.ty)) ∧ (isNm (bs c.nm) = true → AskX w' b x (ks ++ [bs c.nm])) ∧ Only (fun k => k = b) w w':=by
 obtain rfl:=hR
 have hbl:=h.lt
 obtain ⟨q,c0,hx,hq⟩:=h.ask hk
 have HQ:=Hd hq
 clear hq h
 obtain ⟨g,hg⟩:=Vx ((isNm (bs c.nm) && !decide (bs c.nm ∈ ks)))
 have HG:=Hd hg
 rw [hg]
 clear hg
 cases g with
 | false =>
  go_enter Tryz.func190,Tryz.ntmps190
  go_wp2_with (first | (go_at_call 134; refine (HQ.out c.nm _ Bz).mono ?_; rintro e w1 ⟨rfl,ha,hb⟩; rw [HG.out]))
  go_ret
  exact ⟨rfl,ha,((Only.refl _ _).alloc _).trans hb⟩
 | true =>
  go_enter Tryz.func190,Tryz.ntmps190
  go_wp2_with (first
   | (go_at_call 134; refine (HQ.out c.nm _ Bz).mono ?_; rintro e w1 ⟨rfl,ha,hb⟩; rw [HG.out]; have hc1 : w1.cell? ⟨w.heap.size,1,none⟩ = some (.int .i64 c.ty):=cell_at (hb.block w.heap.size Si Om) Si)
   | (go_at_call 191; refine (type_any _ _).mono ?_; rintro e w2 ⟨rfl,he⟩; rw [he]; clear he))
  go_ret
  exact ⟨ret_bool Si,ha,((Only.refl _ _).alloc _).trans hb⟩
theorem mayCols_len {l : List Col} (h : ¬ (1 ≤ l.length ∧ l.length ≤ 16)) : mayCols l = false:=by
 cases e : mayCols l with
 | false => rfl
 | true =>
  simp only [mayCols,Bool.and_eq_true,decide_eq_true_eq] at e
  exact absurd e.1 h
theorem columns_any (a : Option Addr) (cap : Nat) (l : List Col) (w : World) (hr : RowR 3 ColR w a l) :
  Calls Tryz.prog 136 #[.slice a l.length cap] w fun e w' => e = .returned (.bool (mayCols l)) ∧ Below w.heap.size w w':=by
 have HR:=Hd hr
 clear hr
 by_cases hl : 1 ≤ l.length ∧ l.length ≤ 16
 ·have hl' : l.length ≤ 1000000:=by omega
  have hfr : fromB 1 16 (l.length : Int) = true:=by simp [fromB]; omega
  have HE : Hid (mayCols l = allB l.length (fun i => newNm (l.map fun x => bs x.nm) i && (l[i]?).any fun c => typB c.ty)):=by
   show mayCols l = _
   simp [mayCols,hl]
  go_enter Tryz.func136,Tryz.ntmps136
  go_wp2_with fail
  refine (newName_any _).mono ?_
  rintro e w1 ⟨q,b,rfl,ha,hb,hB⟩
  have HB1:=Hd hb
  have HA:=Hd ha
  have hs:=hb.size
  clear ha hb
  go_wp2_with (first
   | (go_at_call 141; refine (from_any _ _ _ _).mono ?_; rintro e w' ⟨rfl,he⟩; rw [hfr,he]; clear he)
   | (go_at_call 189; refine (evCol_any w _ a cap l w1.heap.size (fun i => newNm (l.map fun x => bs x.nm) i && (l[i]?).any fun c => typB c.ty) (fun k wr => AskX wr b w1.heap.size ((l.map fun x => bs x.nm).take k)) hl' HR.out ?_ ?_ ?_ ?_).mono ?_))
  ·exact ⟨q,heap_alloc_new w1 _,HA.out.later ((Bxr _ _).alloc Zlr _)⟩
  ·exact below_two HB1.out ((Bxr _ _).alloc Zlr _)
  ·exact fun k v1 v2 i2 hv => i2.later hv
  ·intro k hk vs v1 hR i2 hv
   refine (col1_any l[k] vs v1 _ b _ hR i2 (by simp; omega)).mono ?_
   rintro e v2 ⟨rfl,g1,g2⟩
   have e1 : ((l[k]?).any fun c => typB c.ty) = typB l[k].ty:=by simp [hk]
   have e2:=newNm_at (fun x : Col => bs x.nm) l k hk
   refine ⟨ret_bool (by rw [e1,e2]),fun h => ?_,below_only hv g2 Om⟩
   rw [e2,Bool.and_eq_true,Bool.and_eq_true] at h
   rw [← names_snoc (fun x : Col => bs x.nm) l k hk]
   exact g1 h.1.1
  ·rintro e w2 ⟨rfl,hb2⟩
   go_wp2
   go_ret
   exact ⟨ret_bool HE.out.symm,hb2⟩
 ·have hfr : fromB 1 16 (l.length : Int) = false:=fromB_no (a:=1) (b:=16) hl
  have HE : Hid (mayCols l = false):=mayCols_len hl
  clear hl
  go_enter Tryz.func136,Tryz.ntmps136
  go_wp2_with fail
  refine (newName_any _).mono ?_
  rintro e w1 ⟨q,b,rfl,ha,hb,hB⟩
  have hs:=hb.size
  clear ha
  go_wp2_with (first | (go_at_call 141; refine (from_any _ _ _ _).mono ?_; rintro e w' ⟨rfl,he⟩; rw [hfr,he]; clear he))
  go_ret
  exact ⟨ret_bool HE.out.symm,Bz⟩
theorem pm1_any (c : Pm) (vs : List Value) (w : World) (x b : Nat) (ks : List (List UInt8)) (hR : PmR c vs) (h : AskX w b x ks) (hk : ks.length ≤ 1000000) :
  Calls Tryz.prog 199 #[.agg vs.toArray,.pointer (some ⟨x,0,none⟩)] w fun e w' => e = .returned (.bool ((isNm (bs c.nm) && !decide (bs c.nm ∈ ks)) && typB c.ty)) ∧ (isNm (bs c.nm) = true → AskX w' b x (ks ++ [bs c.nm])) ∧ Only (fun k => k = b) w w':=by
 obtain rfl:=hR
 have hbl:=h.lt
 obtain ⟨q,c0,hx,hq⟩:=h.ask hk
 have HQ:=Hd hq
 clear hq h
 obtain ⟨g,hg⟩:=Vx ((isNm (bs c.nm) && !decide (bs c.nm ∈ ks)))
 have HG:=Hd hg
 rw [hg]
 clear hg
 cases g with
 | false =>
  go_enter Tryz.func199,Tryz.ntmps199
  go_wp2_with (first | (go_at_call 134; refine (HQ.out c.nm _ Bz).mono ?_; rintro e w1 ⟨rfl,ha,hb⟩; rw [HG.out]))
  go_ret
  exact ⟨rfl,ha,((Only.refl _ _).alloc _).trans hb⟩
 | true =>
  go_enter Tryz.func199,Tryz.ntmps199
  go_wp2_with (first
   | (go_at_call 134; refine (HQ.out c.nm _ Bz).mono ?_; rintro e w1 ⟨rfl,ha,hb⟩; rw [HG.out]; have hc1 : w1.cell? ⟨w.heap.size,1,none⟩ = some (.int .i64 c.ty):=cell_at (hb.block w.heap.size Si Om) Si)
   | (go_at_call 191; refine (type_any _ _).mono ?_; rintro e w2 ⟨rfl,he⟩; rw [he]; clear he))
  go_ret
  exact ⟨ret_bool Si,ha,((Only.refl _ _).alloc _).trans hb⟩
theorem mayPms_len {l : List Pm} (h : ¬ (l.length ≤ 8)) : mayPms l = false:=by
 cases e : mayPms l with
 | false => rfl
 | true =>
  simp only [mayPms,Bool.and_eq_true,decide_eq_true_eq] at e
  exact absurd e.1 h
theorem params_any (a : Option Addr) (cap : Nat) (l : List Pm) (w : World) (hr : RowR 2 PmR w a l) :
  Calls Tryz.prog 139 #[.slice a l.length cap] w fun e w' => e = .returned (.bool (mayPms l)) ∧ Below w.heap.size w w':=by
 have HR:=Hd hr
 clear hr
 by_cases hl : l.length ≤ 8
 ·have hl' : l.length ≤ 1000000:=by omega
  have hfr : decide ((l.length : Int) ≤ 8) = true:=decide_eq_true Om
  have HE : Hid (mayPms l = allB l.length (fun i => newNm (l.map fun x => bs x.nm) i && (l[i]?).any fun c => typB c.ty)):=by
   show mayPms l = _
   simp [mayPms,hl]
  go_enter Tryz.func139,Tryz.ntmps139
  go_wp2_with fail
  refine (newName_any _).mono ?_
  rintro e w1 ⟨q,b,rfl,ha,hb,hB⟩
  have HB1:=Hd hb
  have HA:=Hd ha
  have hs:=hb.size
  clear ha hb
  go_wp2_with (first
   | fail
   | (go_at_call 198; refine (evPm_any w _ a cap l w1.heap.size (fun i => newNm (l.map fun x => bs x.nm) i && (l[i]?).any fun c => typB c.ty) (fun k wr => AskX wr b w1.heap.size ((l.map fun x => bs x.nm).take k)) hl' HR.out ?_ ?_ ?_ ?_).mono ?_))
  ·exact ⟨q,heap_alloc_new w1 _,HA.out.later ((Bxr _ _).alloc Zlr _)⟩
  ·exact below_two HB1.out ((Bxr _ _).alloc Zlr _)
  ·exact fun k v1 v2 i2 hv => i2.later hv
  ·intro k hk vs v1 hR i2 hv
   refine (pm1_any l[k] vs v1 _ b _ hR i2 (by simp; omega)).mono ?_
   rintro e v2 ⟨rfl,g1,g2⟩
   have e1 : ((l[k]?).any fun c => typB c.ty) = typB l[k].ty:=by simp [hk]
   have e2:=newNm_at (fun x : Pm => bs x.nm) l k hk
   refine ⟨ret_bool (by rw [e1,e2]),fun h => ?_,below_only hv g2 Om⟩
   rw [e2,Bool.and_eq_true,Bool.and_eq_true] at h
   rw [← names_snoc (fun x : Pm => bs x.nm) l k hk]
   exact g1 h.1.1
  ·rintro e w2 ⟨rfl,hb2⟩
   go_wp2
   go_ret
   exact ⟨ret_bool HE.out.symm,hb2⟩
 ·have hfr : decide ((l.length : Int) ≤ 8) = false:=decide_eq_false Om
  have HE : Hid (mayPms l = false):=mayPms_len hl
  clear hl
  go_enter Tryz.func139,Tryz.ntmps139
  go_wp2_with fail
  refine (newName_any _).mono ?_
  rintro e w1 ⟨q,b,rfl,ha,hb,hB⟩
  have hs:=hb.size
  clear ha
  go_wp2_with (first | fail)
  go_ret
  exact ⟨ret_bool HE.out.symm,Bz⟩
theorem index_any (a : Option Addr) (cap : Nat) (l : List Int) (x : Int) (w : World) (hl : l.length ≤ 1099511627776) (hr : RowR 1 IntR w a l) :
  Calls Tryz.prog 115 #[.slice a l.length cap,.int .i64 x] w fun e w' => ∃ i : Int,e = .returned (.int .i64 i) ∧ decide (0 ≤ i) = decide (x ∈ l) ∧ ∃ n,w' = w.drewN n:=by
 have HR:=Hd hr
 clear hr
 go_enter Tryz.func115,Tryz.ntmps115
 go_wp2
 go_loopw [8] (fun i wr => ∃ k : Nat,k ≤ l.length ∧ i = .int .i64 k ∧ (∀ j (h : j < l.length),j < k → l[j] ≠ x) ∧ ∃ n,wr = w.drewN n) (fun i _ => l.length - (intOf i).toNat)
 case atStart => exact ⟨0,Nat.zero_le _,rfl,fun j _ g => absurd g (Nat.not_lt_zero _),0,rfl⟩
 case round =>
  obtain ⟨k,hk,rfl,hall,n,rfl⟩:=hrel
  have HA:=Hd hall
  clear hall
  by_cases hlt : k < l.length
  ·have hlti : (k : Int) < (l.length : Int):=by omega
   obtain ⟨b,off,v0,rfl,hR,c0⟩:=HR.out.at1 hlt
   simp only [IntR] at hR
   simp only [List.cons.injEq,and_true] at hR
   obtain rfl:=hR
   by_cases hx : x = l[k]
   ·have HX : Hid (x ∈ l):=by rw [hx]; exact List.getElem_mem hlt
    have hx' : (x == l[k]) = true:=by simpa using hx
    clear hx
    go_wp2
    all_goals go_ret
    all_goals exact ⟨_,rfl,by simp [HX.out],_,rfl⟩
   ·have HA2 : Hid (∀ j (h : j < l.length),j < k + 1 → l[j] ≠ x):=fun j h g => by
     by_cases e : j = k
     ·subst e; exact fun e => hx e.symm
     ·exact HA.out j h Om
    have hx' : (x == l[k]) = false:=by simpa using hx
    clear hx
    go_wp2
    go_roundw
    case rel => exact ⟨k + 1,by omega,by go_num,HA2.out,_,rfl⟩
    case measure => simp [intOf]; omega
  ·have hk' : k = l.length:=by omega
   subst hk'
   have HX : Hid (¬ x ∈ l):=fun h => by
    obtain ⟨j,hj,e⟩:=List.getElem_of_mem h
    exact HA.out j hj hj e
   go_wp2
   go_ret
   exact ⟨-1,rfl,by simp [HX.out],_,rfl⟩
theorem contains_any (a : Option Addr) (cap : Nat) (l : List Int) (x : Int) (w : World) (hl : l.length ≤ 1099511627776) (hr : RowR 1 IntR w a l) :
  Calls Tryz.prog 193 #[.slice a l.length cap,.int .i64 x] w fun e w' => e = .returned (.bool (decide (x ∈ l))) ∧ Below w.heap.size w w':=by
 go_enter Tryz.func193,Tryz.ntmps193
 go_wp2_with fail
 refine (index_any a cap l x _ hl hr).mono ?_
 rintro e w1 ⟨i,rfl,hi,n,rfl⟩
 have HI:=Hd hi
 clear hi
 go_wp2
 go_ret
 exact ⟨ret_bool HI.out,below_drewN (Bxr _ _) _⟩
theorem key1_any (p : Nat) (pc : Option Addr) (cc : Nat) (l : List Col) (x : Nat) (w : World) (hp : p < l.length) (c1 : w.cell? ⟨x,1,none⟩ = some (.slice pc l.length cc)) (hr : RowR 3 ColR w pc l) :
  Calls Tryz.prog 195 #[.int .i64 (p : Int),.pointer (some ⟨x,0,none⟩)] w fun e w' => e = .returned (.bool (nnB l (p : Int))) ∧ Below w.heap.size w w':=by
 obtain ⟨b,off,v0,v1,v2,rfl,hR,d0,d1,d2⟩:=hr.at3 hp
 simp only [ColR] at hR
 simp only [List.cons.injEq,and_true] at hR
 obtain ⟨rfl,rfl,rfl⟩:=hR
 have hpi : (p : Int) < (l.length : Int):=by omega
 have HE : Hid (nnB l (p : Int) = l[p].nn):=by
  show nnB l (p : Int) = _
  simp [nnB,hp]
 clear hr
 go_enter Tryz.func195,Tryz.ntmps195
 go_wp2
 go_ret
 exact ⟨ret_bool HE.out.symm,Bz⟩
theorem mayPl_at {l : List Int} {m k : Nat} (h : mayPl l m = true) (hk : k < l.length) : ∃ p : Nat,l[k] = (p : Int) ∧ p < m:=by
 simp only [mayPl,Bool.and_eq_true] at h
 have:=allB_iff.1 h.2 k hk
 simp only [Bool.and_eq_true,List.getElem?_eq_getElem hk,Option.any_some,placeB,decide_eq_true_eq] at this
 exact ⟨l[k].toNat,by omega,by omega⟩
theorem mayPl_size {l : List Int} {m : Nat} (h : mayPl l m = true) : 1 ≤ l.length ∧ l.length ≤ 8:=by
 simp only [mayPl,Bool.and_eq_true,decide_eq_true_eq] at h
 exact h.1
theorem key_any (t : Tb) (vs : List Value) (w : World) (hR : TbR w t vs) (hm : t.cols.length ≤ 1099511627776) :
  Calls Tryz.prog 137 #[.agg vs.toArray] w fun e w' => e = .returned (.bool (mayKey t)) ∧ Below w.heap.size w w':=by
 obtain ⟨pc,cc,pk,ck,px,cx,rfl,r1,r2,r3⟩:=hR
 have HR1:=Hd r1
 have HR2:=Hd r2
 clear r1 r2 r3
 cases h1 : mayPl t.key t.cols.length with
 | false =>
  have HE : Hid (mayKey t = false):=by
   show mayKey t = false
   simp [mayKey,h1]
  go_enter Tryz.func137,Tryz.ntmps137
  go_wp2_with (first | (go_at_call 192; refine (places_any pk ck t.key t.cols.length _ hm (HR2.out.later Bz fun _ _ h => h)).mono ?_; rintro e w1 ⟨rfl,hb⟩; rw [h1]))
  go_ret
  exact ⟨ret_bool HE.out.symm,Bz⟩
 | true =>
  have hsz:=mayPl_size h1
  have H1:=Hd h1
  cases h2 : decide (t.part ∈ t.key) with
  | false =>
   have HE : Hid (mayKey t = false):=by
    show mayKey t = false
    simp [mayKey,h2]
   go_enter Tryz.func137,Tryz.ntmps137
   go_wp2_with (first
    | (go_at_call 192; refine (places_any pk ck t.key t.cols.length _ hm (HR2.out.later Bz fun _ _ h => h)).mono ?_; rintro e w1 ⟨rfl,hb⟩; rw [h1]; obtain ⟨hc,hf⟩:=bcell hb; have hs:=hb.size; simp at hs; have hz : w.heap.size < w1.heap.size:=by omega)
    | (go_at_call 193; refine (contains_any pk ck t.key t.part _ Om (HR2.out.later Bz fun _ _ h => h)).mono ?_; rintro e w2 ⟨rfl,hb2⟩; rw [h2]))
   go_ret
   exact ⟨ret_bool HE.out.symm,Bz⟩
  | true =>
   have HE : Hid (mayKey t = allB t.key.length (fun i => (t.key[i]?).any fun p => nnB t.cols p)):=by
    show mayKey t = _
    rw [mayKey,h1,h2]
    rfl
   go_enter Tryz.func137,Tryz.ntmps137
   go_wp2_with (first
    | (go_at_call 192; refine (places_any pk ck t.key t.cols.length _ hm (HR2.out.later Bz fun _ _ h => h)).mono ?_; rintro e w1 ⟨rfl,hb⟩; rw [h1]; obtain ⟨hc,hf⟩:=bcell hb; have hs:=hb.size; simp at hs; have hz : w.heap.size < w1.heap.size:=by omega)
    | (go_at_call 193; refine (contains_any pk ck t.key t.part _ Om (HR2.out.later Bz fun _ _ h => h)).mono ?_; rintro e w2 ⟨rfl,hb2⟩; rw [h2]; obtain ⟨hc2,hf2⟩:=bcell hb2; have hs2:=hb2.size)
    | (go_at_call 194; refine (evIntA_any w _ pk ck t.key w.heap.size (fun i => (t.key[i]?).any fun p => nnB t.cols p) (fun k wr => wr.cell? ⟨w.heap.size,1,none⟩ = some (.slice pc t.cols.length cc) ∧ Below w.heap.size w wr) Om HR2.out ?_ ?_ ?_ ?_).mono ?_))
   ·have hbb : Below w.heap.size w w2:=Bz
    refine ⟨?_,hbb⟩
    rw [hc2 _ _ Om,hc _ _ Si]
    simp
   ·(repeat (first | exact Below.refl _ _ | assumption | refine Below.drew ?_ | refine below_drewN ?_ _ | refine Below.alloc ?_ (by first | omega | (simp; done) | (simp; omega)) _ | refine Below.setCell ?_ (by first | omega | (simp; done) | (simp; omega)) _ | refine Below.trans ?_ (Below.mono (by assumption) (by first | omega | (simp; done) | (simp; omega)))))
   ·rintro k v1 v2 ⟨i1,i2⟩ hv
    exact ⟨cell_later hv i1,below_two i2 hv⟩
   ·rintro k hk v1 ⟨i1,i2⟩ hv
    obtain ⟨p,e,hp⟩:=mayPl_at H1.out hk
    rw [e]
    refine (key1_any p pc cc t.cols w.heap.size v1 hp i1 (HR1.out.later i2 fun _ _ h => h)).mono ?_
    rintro e v2 ⟨rfl,g1⟩
    have e1 : ((t.key[k]?).any fun p => nnB t.cols p) = nnB t.cols (p : Int):=by
     rw [List.getElem?_eq_getElem hk]
     simp [*]
    exact ⟨ret_bool e1.symm,fun _ => ⟨cell_later g1 i1,below_two i2 g1⟩,below_two i2 g1⟩
   ·rintro e w3 ⟨rfl,hb3⟩
    go_wp2
    go_ret
    exact ⟨ret_bool HE.out.symm,hb3⟩
theorem ix1_any (c : Ix) (vs : List Value) (w0 w : World) (x y b m cc : Nat) (pc : Option Addr) (ks : List (List UInt8)) (hR : IxR w0 c vs) (hb0 : Below w0.heap.size w0 w) (hB : w0.heap.size ≤ b) (h : AskX w b x ks) (hk : ks.length ≤ 1000000) (hm : m ≤ 1099511627776) (hy : w.cell? ⟨y,1,none⟩ = some (.slice pc m cc)) (hyb : y ≠ b) :
  Calls Tryz.prog 197 #[.agg vs.toArray,.pointer (some ⟨x,0,none⟩),.pointer (some ⟨y,0,none⟩)] w fun e w' => e = .returned (.bool ((isNm (bs c.nm) && !decide (bs c.nm ∈ ks)) && mayPl c.cols m)) ∧ (isNm (bs c.nm) = true → AskX w' b x (ks ++ [bs c.nm])) ∧ Only (fun k => k = b) w w':=by
 obtain ⟨p,cp,rfl,r1⟩:=hR
 have HR:=Hd r1
 have HB0:=Hd hb0
 have hbl:=h.lt
 have hyl:=cell_lt hy
 obtain ⟨q,c0,hx,hq⟩:=h.ask hk
 have HQ:=Hd hq
 clear hq h r1 hb0
 obtain ⟨g,hg⟩:=Vx ((isNm (bs c.nm) && !decide (bs c.nm ∈ ks)))
 have HG:=Hd hg
 rw [hg]
 clear hg
 cases g with
 | false =>
  go_enter Tryz.func197,Tryz.ntmps197
  go_wp2_with (first | (go_at_call 134; refine (HQ.out c.nm _ Bz).mono ?_; rintro e w1 ⟨rfl,ha,hb⟩; rw [HG.out]))
  go_ret
  exact ⟨rfl,ha,((Only.refl _ _).alloc _).trans hb⟩
 | true =>
  go_enter Tryz.func197,Tryz.ntmps197
  go_wp2_with (first
   | (go_at_call 134; refine (HQ.out c.nm _ Bz).mono ?_; rintro e w1 ⟨rfl,ha,hb⟩; rw [HG.out]; have hc1 : w1.cell? ⟨w.heap.size,1,none⟩ = some (.slice p c.cols.length cp):=cell_at (hb.block w.heap.size Si Om) Si; have hc2 : w1.cell? ⟨y,1,none⟩ = some (.slice pc m cc):=cell_at (hb.block y (by simp; omega) hyb) (by simpa using cell_later ((Bxr _ _).alloc Zlr _) hy))
   | (go_at_call 192; refine (places_any p cp c.cols m _ hm (HR.out.later (below_only (HB0.out.alloc HB0.out.size _) hb hB) fun _ _ h => h)).mono ?_; rintro e w2 ⟨rfl,hb2⟩))
  go_ret
  exact ⟨ret_bool Si,fun h => (ha h).later hb2,(((Only.refl _ _).alloc _).trans hb).trans (Only.of hb2)⟩
theorem mayIxs_len {t : Tb} (h : ¬ t.ixs.length ≤ 4) : mayIxs t = false:=by
 cases e : mayIxs t with
 | false => rfl
 | true =>
  simp only [mayIxs,Bool.and_eq_true,decide_eq_true_eq] at e
  exact absurd e.1 h
theorem indexes_any (t : Tb) (vs : List Value) (w : World) (hR : TbR w t vs) (hm : t.cols.length ≤ 1099511627776) :
  Calls Tryz.prog 138 #[.agg vs.toArray] w fun e w' => e = .returned (.bool (mayIxs t)) ∧ Below w.heap.size w w':=by
 obtain ⟨pc,cc,pk,ck,px,cx,rfl,r1,r2,r3⟩:=hR
 have HR:=Hd r3
 clear r1 r2 r3
 by_cases hl : t.ixs.length ≤ 4
 ·have hl' : t.ixs.length ≤ 1000000:=by omega
  have hfr : decide ((t.ixs.length : Int) ≤ 4) = true:=decide_eq_true Om
  have HE : Hid (mayIxs t = allB t.ixs.length (fun i => newNm (t.ixs.map fun x => bs x.nm) i && (t.ixs[i]?).any fun x => mayPl x.cols t.cols.length)):=by
   show mayIxs t = _
   simp [mayIxs,hl]
  go_enter Tryz.func138,Tryz.ntmps138
  go_wp2_with fail
  refine (newName_any _).mono ?_
  rintro e w1 ⟨q,b,rfl,ha,hb,hB⟩
  have HB1 : Hid (Below w.heap.size w w1):=by
   show Below w.heap.size w w1
   (repeat (first | exact Below.refl _ _ | assumption | refine Below.drew ?_ | refine below_drewN ?_ _ | refine Below.alloc ?_ (by first | omega | (simp; done) | (simp; omega)) _ | refine Below.setCell ?_ (by first | omega | (simp; done) | (simp; omega)) _ | refine Below.trans ?_ (Below.mono (by assumption) (by first | omega | (simp; done) | (simp; omega)))))
  have HA:=Hd ha
  have hs:=hb.size
  simp at hs hB
  obtain ⟨hc,hf⟩:=bcell hb
  have hz : w.heap.size < w1.heap.size:=by omega
  have HC1 : Hid (w1.cell? ⟨w.heap.size,1,none⟩ = some (.slice pc t.cols.length cc)):=by
   show w1.cell? _ = _
   rw [hc _ _ Si]
   simp
  clear ha hb
  go_wp2_with (first
   | (go_at_call 196; refine (evIx_any w _ px cx t.ixs w1.heap.size w.heap.size (fun i => newNm (t.ixs.map fun x => bs x.nm) i && (t.ixs[i]?).any fun x => mayPl x.cols t.cols.length) (fun k wr => AskX wr b w1.heap.size ((t.ixs.map fun x => bs x.nm).take k) ∧ wr.cell? ⟨w.heap.size,1,none⟩ = some (.slice pc t.cols.length cc)) hl' HR.out ?_ ?_ ?_ ?_).mono ?_))
  ·exact ⟨⟨q,heap_alloc_new w1 _,HA.out.later ((Bxr _ _).alloc Zlr _)⟩,cell_later ((Bxr _ _).alloc Zlr _) HC1.out⟩
  ·exact below_two HB1.out ((Bxr _ _).alloc Zlr _)
  ·exact fun k v1 v2 i2 hv => ⟨i2.1.later hv,cell_later hv i2.2⟩
  ·rintro k hk vs v1 hR ⟨i2,i3⟩ hv
   refine (ix1_any t.ixs[k] vs w v1 _ _ b t.cols.length cc pc _ hR hv Om i2 (by simp; omega) hm i3 Om).mono ?_
   rintro e v2 ⟨rfl,g1,g2⟩
   have e1 : ((t.ixs[k]?).any fun x => mayPl x.cols t.cols.length) = mayPl t.ixs[k].cols t.cols.length:=by simp [hk]
   have e2:=newNm_at (fun x : Ix => bs x.nm) t.ixs k hk
   refine ⟨ret_bool (by rw [e1,e2]),fun h => ?_,below_only hv g2 Om⟩
   rw [e2,Bool.and_eq_true,Bool.and_eq_true] at h
   rw [← names_snoc (fun x : Ix => bs x.nm) t.ixs k hk]
   exact ⟨g1 h.1.1,cell_at (g2.block w.heap.size (by have:=hv.size; have:=cell_lt i3; omega) Om) i3⟩
  ·rintro e w2 ⟨rfl,hb2⟩
   go_wp2
   go_ret
   exact ⟨ret_bool HE.out.symm,hb2⟩
 ·have hfr : decide ((t.ixs.length : Int) ≤ 4) = false:=decide_eq_false Om
  have HE : Hid (mayIxs t = false):=mayIxs_len hl
  clear hl
  go_enter Tryz.func138,Tryz.ntmps138
  go_wp2_with fail
  refine (newName_any _).mono ?_
  rintro e w1 ⟨q,b,rfl,ha,hb,hB⟩
  have hs:=hb.size
  simp at hs hB
  obtain ⟨hc,hf⟩:=bcell hb
  have hz : w.heap.size < w1.heap.size:=by omega
  clear ha
  go_wp2
  go_ret
  exact ⟨ret_bool HE.out.symm,Bz⟩
theorem table_any (t : Tb) (vs : List Value) (w : World) (hR : TbR w t vs) (hm : t.cols.length ≤ 1099511627776) :
  Calls Tryz.prog 87 #[.agg vs.toArray] w fun e w' => e = .returned (.bool (mayTb t)) ∧ Below w.heap.size w w':=by
 have HT:=Hd hR
 obtain ⟨pc,cc,pk,ck,px,cx,rfl,r1,r2,r3⟩:=hR
 have HR1:=Hd r1
 clear r1 r2 r3
 cases h1 : isNm (bs t.nm) with
 | false =>
  have HE : Hid (mayTb t = false):=by
   show mayTb t = false
   simp [mayTb,h1]
  go_enter Tryz.func87,Tryz.ntmps87
  go_wp2_with (first | (go_at_call 135; refine (name_any _ _).mono ?_; rintro e w1 ⟨rfl,he⟩; rw [h1,he]; clear he))
  go_ret
  exact ⟨ret_bool HE.out.symm,Bz⟩
 | true =>
  cases h2 : mayCols t.cols with
  | false =>
   have HE : Hid (mayTb t = false):=by
    show mayTb t = false
    simp [mayTb,h2]
   go_enter Tryz.func87,Tryz.ntmps87
   go_wp2_with (first
    | (go_at_call 135; refine (name_any _ _).mono ?_; rintro e w1 ⟨rfl,he⟩; rw [h1,he]; clear he)
    | (go_at_call 136; refine (columns_any pc cc t.cols _ (HR1.out.later Bz fun _ _ h => h)).mono ?_; rintro e w2 ⟨rfl,hb2⟩; rw [h2]))
   go_ret
   exact ⟨ret_bool HE.out.symm,Bz⟩
  | true =>
   cases h3 : mayKey t with
   | false =>
    have HE : Hid (mayTb t = false):=by
     show mayTb t = false
     simp [mayTb,h3]
    go_enter Tryz.func87,Tryz.ntmps87
    go_wp2_with (first
     | (go_at_call 135; refine (name_any _ _).mono ?_; rintro e w1 ⟨rfl,he⟩; rw [h1,he]; clear he)
     | (go_at_call 136; refine (columns_any pc cc t.cols _ (HR1.out.later Bz fun _ _ h => h)).mono ?_; rintro e w2 ⟨rfl,hb2⟩; rw [h2]; obtain ⟨hc2,hf2⟩:=bcell hb2; have hs2:=hb2.size; simp at hs2; have hz2 : w.heap.size < w2.heap.size:=by omega)
     | (go_at_call 137; refine (key_any t _ _ (HT.out.later Bz) hm).mono ?_; rintro e w3 ⟨rfl,hb3⟩; rw [h3]))
    go_ret
    exact ⟨ret_bool HE.out.symm,Bz⟩
   | true =>
    have HE : Hid (mayTb t = mayIxs t):=by
     show mayTb t = mayIxs t
     simp [mayTb,h1,h2,h3]
    go_enter Tryz.func87,Tryz.ntmps87
    go_wp2_with (first
     | (go_at_call 135; refine (name_any _ _).mono ?_; rintro e w1 ⟨rfl,he⟩; rw [h1,he]; clear he)
     | (go_at_call 136; refine (columns_any pc cc t.cols _ (HR1.out.later Bz fun _ _ h => h)).mono ?_; rintro e w2 ⟨rfl,hb2⟩; rw [h2]; obtain ⟨hc2,hf2⟩:=bcell hb2; have hs2:=hb2.size; simp at hs2; have hz2 : w.heap.size < w2.heap.size:=by omega)
     | (go_at_call 137; refine (key_any t _ _ (HT.out.later Bz) hm).mono ?_; rintro e w3 ⟨rfl,hb3⟩; rw [h3]; obtain ⟨hc3,hf3⟩:=bcell hb3; have hs3:=hb3.size; have hz3 : w.heap.size < w3.heap.size:=by omega)
     | (go_at_call 138; refine (indexes_any t _ _ (HT.out.later Bz) hm).mono ?_; rintro e w4 ⟨rfl,hb4⟩))
    go_ret
    exact ⟨ret_bool (by rw [HE.out]),Bz⟩
theorem body1_any (s : ByteArray) (w : World) :
  Calls Tryz.prog 201 #[.string s] w fun e w' => e = .returned (.bool (srcB s)) ∧ w' = w:=by
 have hfr : fromB 1 1000 (s.size : Int) = srcB s:=by
  rw [Bool.eq_iff_iff]
  simp [fromB,srcB]
  omega
 go_enter Tryz.func201,Tryz.ntmps201
 go_wp2_with (first | (go_at_call 141; refine (from_any _ _ _ _).mono ?_; rintro e w' ⟨rfl,he⟩; rw [hfr,he]; clear he))
 go_ret
 exact ⟨rfl,rfl⟩
theorem mayBody_len {l : List ByteArray} (h : ¬ (1 ≤ l.length ∧ l.length ≤ 8)) : mayBody l = false:=by
 cases e : mayBody l with
 | false => rfl
 | true =>
  simp only [mayBody,Bool.and_eq_true,decide_eq_true_eq] at e
  exact absurd e.1 h
theorem body_any (a : Option Addr) (cap : Nat) (l : List ByteArray) (w : World) (hr : RowR 1 StrR w a l) :
  Calls Tryz.prog 140 #[.slice a l.length cap] w fun e w' => e = .returned (.bool (mayBody l)) ∧ Below w.heap.size w w':=by
 have HR:=Hd hr
 clear hr
 by_cases hl : 1 ≤ l.length ∧ l.length ≤ 8
 ·have hfr : fromB 1 8 (l.length : Int) = true:=by simp [fromB]; omega
  have hl' : l.length ≤ 1000000:=by omega
  have HE : Hid (mayBody l = allB l.length (fun i => (l[i]?).any srcB)):=by
   show mayBody l = _
   simp [mayBody,hl.1,hl.2]
  go_enter Tryz.func140,Tryz.ntmps140
  go_wp2_with (first
   | (go_at_call 141; refine (from_any _ _ _ _).mono ?_; rintro e w' ⟨rfl,he⟩; rw [hfr,he]; clear he)
   | (go_at_call 200; refine (evStr_any w _ a cap l (fun i => (l[i]?).any srcB) (fun k wr => True) hl' HR.out trivial (Bxr _ _) (fun _ _ _ _ _ => trivial) ?_).mono ?_))
  ·rintro k hk v1 - hv
   refine (body1_any l[k] v1).mono ?_
   rintro e v2 ⟨rfl,rfl⟩
   exact ⟨ret_bool (by simp [hk]),fun _ => trivial,hv⟩
  ·rintro e w2 ⟨rfl,hb2⟩
   go_wp2
   go_ret
   exact ⟨ret_bool HE.out.symm,hb2⟩
 ·have hfr : fromB 1 8 (l.length : Int) = false:=fromB_no (a:=1) (b:=8) hl
  have HE : Hid (mayBody l = false):=mayBody_len hl
  clear hl
  go_enter Tryz.func140,Tryz.ntmps140
  go_wp2_with (first | (go_at_call 141; refine (from_any _ _ _ _).mono ?_; rintro e w' ⟨rfl,he⟩; rw [hfr,he]; clear he))
  go_ret
  exact ⟨ret_bool HE.out.symm,Bz⟩
theorem proc_any (p : Pc) (vs : List Value) (w : World) (hR : PcR w p vs) :
  Calls Tryz.prog 90 #[.agg vs.toArray] w fun e w' => e = .returned (.bool (mayPc p)) ∧ Below w.heap.size w w':=by
 obtain ⟨pp,cp,pb,cb,rfl,r1,r2⟩:=hR
 have HR1:=Hd r1
 have HR2:=Hd r2
 clear r1 r2
 cases h1 : isNm (bs p.nm) with
 | false =>
  have HE : Hid (mayPc p = false):=by
   show mayPc p = false
   simp [mayPc,h1]
  go_enter Tryz.func90,Tryz.ntmps90
  go_wp2_with (first
   | (go_at_call 135; refine (name_any _ _).mono ?_; rintro e w1 ⟨rfl,he⟩; rw [h1,he]; clear he))
  go_ret
  exact ⟨ret_bool HE.out.symm,Bz⟩
 | true =>
  cases h2 : mayPms p.prms with
  | false =>
   have HE : Hid (mayPc p = false):=by
    show mayPc p = false
    simp [mayPc,h2]
   go_enter Tryz.func90,Tryz.ntmps90
   go_wp2_with (first
    | (go_at_call 135; refine (name_any _ _).mono ?_; rintro e w1 ⟨rfl,he⟩; rw [h1,he]; clear he)
    | (go_at_call 139; refine (params_any pp cp p.prms _ (HR1.out.later Bz fun _ _ h => h)).mono ?_; rintro e w2 ⟨rfl,hb2⟩; rw [h2]; obtain ⟨hc2,hf2⟩:=bcell hb2; have hs2:=hb2.size; simp at hs2; have hz2 : w.heap.size < w2.heap.size:=by omega))
   go_ret
   exact ⟨ret_bool HE.out.symm,Bz⟩
  | true =>
   cases h3 : mayBody p.body with
   | false =>
    have HE : Hid (mayPc p = false):=by
     show mayPc p = false
     simp [mayPc,h3]
    go_enter Tryz.func90,Tryz.ntmps90
    go_wp2_with (first
     | (go_at_call 135; refine (name_any _ _).mono ?_; rintro e w1 ⟨rfl,he⟩; rw [h1,he]; clear he)
     | (go_at_call 139; refine (params_any pp cp p.prms _ (HR1.out.later Bz fun _ _ h => h)).mono ?_; rintro e w2 ⟨rfl,hb2⟩; rw [h2]; obtain ⟨hc2,hf2⟩:=bcell hb2; have hs2:=hb2.size; simp at hs2; have hz2 : w.heap.size < w2.heap.size:=by omega)
     | (go_at_call 140; refine (body_any pb cb p.body _ (HR2.out.later Bz fun _ _ h => h)).mono ?_; rintro e w3 ⟨rfl,hb3⟩; rw [h3]; obtain ⟨hc3,hf3⟩:=bcell hb3; have hs3:=hb3.size; have hz3 : w.heap.size < w3.heap.size:=by omega))
    go_ret
    exact ⟨ret_bool HE.out.symm,Bz⟩
   | true =>
    cases h4 : budB p.rows with
    | false =>
     have h5 : fromB 0 1048576 p.rows = false:=h4
     have HE : Hid (mayPc p = false):=by
      show mayPc p = false
      simp [mayPc,h4]
     go_enter Tryz.func90,Tryz.ntmps90
     go_wp2_with (first
      | (go_at_call 135; refine (name_any _ _).mono ?_; rintro e w1 ⟨rfl,he⟩; rw [h1,he]; clear he)
      | (go_at_call 139; refine (params_any pp cp p.prms _ (HR1.out.later Bz fun _ _ h => h)).mono ?_; rintro e w2 ⟨rfl,hb2⟩; rw [h2]; obtain ⟨hc2,hf2⟩:=bcell hb2; have hs2:=hb2.size; simp at hs2; have hz2 : w.heap.size < w2.heap.size:=by omega)
      | (go_at_call 140; refine (body_any pb cb p.body _ (HR2.out.later Bz fun _ _ h => h)).mono ?_; rintro e w3 ⟨rfl,hb3⟩; rw [h3]; obtain ⟨hc3,hf3⟩:=bcell hb3; have hs3:=hb3.size; have hz3 : w.heap.size < w3.heap.size:=by omega)
      | (go_at_call 141; refine (from_any _ _ _ _).mono ?_; rintro e w4 ⟨rfl,he⟩; (try rw [h5]); rw [he]; clear he))
     go_ret
     exact ⟨ret_bool HE.out.symm,Bz⟩
    | true =>
     have HE : Hid (mayPc p = fromB 0 1048576 p.bytes):=by
      show mayPc p = _
      rw [mayPc,h1,h2,h3,h4]
      rfl
     have h5 : fromB 0 1048576 p.rows = true:=h4
     go_enter Tryz.func90,Tryz.ntmps90
     go_wp2_with (first
       | (go_at_call 135; refine (name_any _ _).mono ?_; rintro e w1 ⟨rfl,he⟩; rw [h1,he]; clear he)
       | (go_at_call 139; refine (params_any pp cp p.prms _ (HR1.out.later Bz fun _ _ h => h)).mono ?_; rintro e w2 ⟨rfl,hb2⟩; rw [h2]; obtain ⟨hc2,hf2⟩:=bcell hb2; have hs2:=hb2.size; simp at hs2; have hz2 : w.heap.size < w2.heap.size:=by omega)
       | (go_at_call 140; refine (body_any pb cb p.body _ (HR2.out.later Bz fun _ _ h => h)).mono ?_; rintro e w3 ⟨rfl,hb3⟩; rw [h3]; obtain ⟨hc3,hf3⟩:=bcell hb3; have hs3:=hb3.size; have hz3 : w.heap.size < w3.heap.size:=by omega)
       | (go_at_call 141; refine (from_any _ _ _ _).mono ?_; rintro e w4 ⟨rfl,he⟩; (try rw [h5]); rw [he]; clear he))
     go_ret
     exact ⟨ret_bool HE.out.symm,Bz⟩
end TT
end Go.Proofs.YtmmmkjhpmlfopaaGreatDoor
