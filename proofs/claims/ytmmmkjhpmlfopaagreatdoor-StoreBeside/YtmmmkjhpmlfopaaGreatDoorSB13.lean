/- ZM30 M6 ZM100 M50 -/
import Derived.Test.YtmmmkjhpmlfopaaGreatDoorSB12
namespace Go.Proofs.YtmmmkjhpmlfopaaGreatDoor
open Go.RowKit
namespace RR
def fd (n : Int) : Nat:=if n < 0 then (-2 * n - 1).toNat else (2 * n).toNat
def unf (m : Nat) : Int:=if m % 2 = 1 then -((m / 2 : Nat) : Int) - 1 else ((m / 2 : Nat) : Int)
theorem unf_fd (n : Int) : unf (fd n) = n:=by unfold unf fd; split <;> split <;> omega
theorem fd_le {n : Int} (h : -4611686018427387904 ≤ n) (h' : n ≤ 4611686018427387904) : fd n ≤ 9223372036854775808:=by unfold fd; split <;> omega
def dgs : Nat → Nat → List UInt8
 | 0,m => [UInt8.ofNat m]
 | f + 1,m => if m < 128 then [UInt8.ofNat m] else UInt8.ofNat (m % 128 + 128) :: dgs f (m / 128)
theorem dgs_enough : ∀ (f g m : Nat),m ≤ f → m ≤ g → dgs f m = dgs g m
 | 0,g,m,h,_ => by
  obtain rfl : m = 0:=by omega
  cases g with
  | zero => rfl
  | succ g => rw [dgs,dgs,if_pos Om]
 | f + 1,0,m,_,h => by
  obtain rfl : m = 0:=by omega
  rw [dgs,dgs,if_pos Om]
 | f + 1,g + 1,m,h,h' => by
  rw [dgs,dgs]
  by_cases hm : m < 128
  ·rw [if_pos hm,if_pos hm]
  ·rw [if_neg hm,if_neg hm,dgs_enough f g (m / 128) Om Om]
def dg (m : Nat) : List UInt8:=dgs m m
theorem dg_small {m : Nat} (h : m < 128) : dg m = [UInt8.ofNat m]:=by
 unfold dg
 cases m with
 | zero => rfl
 | succ m => rw [dgs,if_pos h]
theorem dg_big {m : Nat} (h : ¬ m < 128) : dg m = UInt8.ofNat (m % 128 + 128) :: dg (m / 128):=by
 unfold dg
 cases m with
 | zero => omega
 | succ m => rw [dgs,if_neg h,dgs_enough m ((m + 1) / 128) ((m + 1) / 128) Om Zlr]
theorem dg_pos (m : Nat) : 0 < (dg m).length:=by
 by_cases h : m < 128
 ·rw [dg_small h]; simp
 ·rw [dg_big h]; simp
theorem dg_len (k : Nat) : ∀ m,m < 128 ^ (k + 1) → (dg m).length ≤ k + 1:=by
 induction k with
 | zero => intro m h; rw [dg_small (by simpa using h)]; simp
 | succ k ih =>
  intro m h
  by_cases hm : m < 128
  ·rw [dg_small hm]; simp
  ·rw [dg_big hm,List.length_cons]
   have:=ih (m / 128) (by rw [Nat.pow_succ] at h; exact Nat.div_lt_of_lt_mul (by rw [Nat.mul_comm]; exact h))
   omega
def lo : List UInt8 → Nat
 | [] => 0
 | c :: l => c.toNat % 128 + 128 * lo l
theorem lo_snoc (c : UInt8) : ∀ l : List UInt8,lo (l ++ [c]) = lo l + 128 ^ l.length * (c.toNat % 128)
 | [] => by simp [lo]
 | d :: l => by
  rw [List.cons_append,lo,lo,lo_snoc c l,List.length_cons,Nat.pow_succ,Nat.mul_add,Nat.mul_comm (128 ^ l.length) 128,Nat.mul_assoc]
  omega
theorem lo_lt : ∀ l : List UInt8,lo l < 128 ^ l.length
 | [] => by simp [lo]
 | d :: l => by
  have:=lo_lt l
  rw [lo,List.length_cons,Nat.pow_succ]
  omega
theorem lo_dg : ∀ m,lo (dg m) = m:=by
 intro m
 induction m using Nat.strongRecOn with
 | ind m ih =>
  by_cases h : m < 128
  ·rw [dg_small h]; simp [lo]; omega
  ·rw [dg_big h,lo,ih _ Om]
   simp only [UInt8.toNat_ofNat']
   omega
theorem dg_front (c : UInt8) (q t : List UInt8) (hc : c.toNat < 128) : ∀ (p : List UInt8) (m : Nat),(∀ b ∈ p,128 ≤ b.toNat) → dg m ++ t = p ++ c :: q → dg m = p ++ [c] ∧ t = q
 | [],m,_,h => by
  by_cases hm : m < 128
  ·rw [dg_small hm] at h ⊢
   simp at h
   exact ⟨by rw [h.1]; rfl,h.2⟩
  ·rw [dg_big hm] at h
   simp at h
   have:=congrArg UInt8.toNat h.1
   simp at this
   omega
 | b :: p,m,hp,h => by
  have hb:=hp b Si
  by_cases hm : m < 128
  ·rw [dg_small hm] at h
   simp at h
   have:=congrArg UInt8.toNat h.1
   simp at this
   omega
  ·rw [dg_big hm,List.cons_append,List.cons_append] at h
   obtain ⟨h1,h2⟩:=List.cons.inj h
   obtain ⟨e1,e2⟩:=dg_front c q t hc p (m / 128) (fun b hb => hp b (by simp [hb])) h2
   exact ⟨by rw [dg_big hm,e1,h1]; rfl,e2⟩
theorem dg_shape : ∀ m,∃ p c,dg m = p ++ [c] ∧ (∀ b ∈ p,128 ≤ b.toNat) ∧ c.toNat < 128:=by
 intro m
 induction m using Nat.strongRecOn with
 | ind m ih =>
  by_cases h : m < 128
  ·exact ⟨[],_,dg_small h,by simp,by simp; omega⟩
  ·obtain ⟨p,c,e,hp,hc⟩:=ih (m / 128) Om
   refine ⟨UInt8.ofNat (m % 128 + 128) :: p,c,by rw [dg_big h,e]; rfl,?_,hc⟩
   intro b hb
   rcases Zmc hb with rfl | hb
   ·simp; omega
   ·exact hp b hb
theorem dg_inj {m m' : Nat} {x y : List UInt8} (h : dg m ++ x = dg m' ++ y) : m = m' ∧ x = y:=by
 obtain ⟨p,c,e,hp,hc⟩:=dg_shape m'
 rw [e,Zas] at h
 obtain ⟨e1,e2⟩:=dg_front c y x hc p m hp h
 exact ⟨by rw [← lo_dg m,← lo_dg m',e1,e],e2⟩
theorem dg_open {m n : Nat} {t s : List UInt8} (h : s = dg m ++ t) (hn : ∀ b ∈ s.take n,128 ≤ b.toNat) : n < (dg m).length:=by
 obtain ⟨p,c,e,hp,hc⟩:=dg_shape m
 apply Decidable.byContradiction
 intro hlt
 have : c ∈ s.take n:=by
  rw [h,List.take_append,List.take_of_length_le Om,e]
  simp
 have:=hn c this
 omega
def rb (v : V3) : List UInt8 :=
 if v.1 = 1 then dg (fd v.2.1)
 else if v.1 = 2 then [UInt8.ofNat v.2.1.toNat]
 else if v.1 = 3 then UInt8.ofNat v.2.2.size :: v.2.2.data.toList
 else []
theorem rb_null {v : V3} (h : v.1 = 0) : rb v = []:=by unfold rb; rw [if_neg Om,if_neg Om,if_neg Om]
theorem rb_int {v : V3} (h : v.1 = 1) : rb v = dg (fd v.2.1):=by unfold rb; rw [if_pos h]
theorem rb_bool {v : V3} (h : v.1 = 2) : rb v = [UInt8.ofNat v.2.1.toNat]:=by unfold rb; rw [if_neg Om,if_pos h]
theorem rb_text {v : V3} (h : v.1 = 3) : rb v = UInt8.ofNat v.2.2.size :: v.2.2.data.toList:=by unfold rb; rw [if_neg Om,if_neg Om,if_pos h]
theorem rb_len {v : V3} (h : V3.right v = true) : (rb v).length ≤ 65:=by
 rcases right_kind h with k | k | k | k
 ·rw [rb_null k]; simp
 ·obtain ⟨a,b,_⟩:=right_num h k
  have:=dg_len 9 (fd v.2.1) (by have:=fd_le a b; omega)
  rw [rb_int k]; omega
 ·rw [rb_bool k]; simp
 ·obtain ⟨_,a⟩:=right_text h k
  rw [rb_text k]; simp; omega
theorem size_toList (s : ByteArray) : s.data.toList.length = s.size:=by simp
theorem rb_inj {u v : V3} (hu : V3.right u = true) (hv : V3.right v = true) (hk : u.1 = v.1) {x y : List UInt8} (h : rb u ++ x = rb v ++ y) : u = v ∧ x = y:=by
 rcases right_kind hu with ku | ku | ku | ku
 ·have kv : v.1 = 0:=by omega
  obtain ⟨a,b⟩:=right_null hu ku
  obtain ⟨c,d⟩:=right_null hv kv
  rw [rb_null ku,rb_null kv] at h
  exact ⟨v3_ext hk (by rw [a,c]) (by rw [b,d]),by simpa using h⟩
 ·have kv : v.1 = 1:=by omega
  obtain ⟨_,_,c⟩:=right_num hu ku
  obtain ⟨_,_,c'⟩:=right_num hv kv
  rw [rb_int ku,rb_int kv] at h
  obtain ⟨e1,e2⟩:=dg_inj h
  exact ⟨v3_ext hk (by rw [← unf_fd u.2.1,← unf_fd v.2.1,e1]) (by rw [c,c']),e2⟩
 ·have kv : v.1 = 2:=by omega
  obtain ⟨a,b⟩:=right_bool hu ku
  obtain ⟨c,d⟩:=right_bool hv kv
  rw [rb_bool ku,rb_bool kv] at h
  simp at h
  refine ⟨v3_ext hk ?_ (by rw [b,d]),h.2⟩
  rcases a with a | a <;> rcases c with c | c <;> rw [a,c] at h <;> simp_all
 ·have kv : v.1 = 3:=by omega
  obtain ⟨a,a'⟩:=right_text hu ku
  obtain ⟨c,c'⟩:=right_text hv kv
  rw [rb_text ku,rb_text kv,List.cons_append,List.cons_append] at h
  obtain ⟨h1,h2⟩:=List.cons.inj h
  have e:=congrArg UInt8.toNat h1
  simp only [UInt8.toNat_ofNat'] at e
  obtain ⟨e1,e2⟩:=List.append_inj h2 (by rw [size_toList,size_toList]; omega)
  exact ⟨v3_ext hk (by rw [a,c]) (ba_ext e1),e2⟩
def rbs (vs : List V3) : List UInt8:=vs.flatMap rb
theorem rbs_cons (v : V3) (vs : List V3) : rbs (v :: vs) = rb v ++ rbs vs:=rfl
theorem rbs_append (us vs : List V3) : rbs (us ++ vs) = rbs us ++ rbs vs:=List.flatMap_append
theorem rbs_one (v : V3) : rbs [v] = rb v:=by simp [rbs]
theorem rbs_take {vs : List V3} {k : Nat} (h : k < vs.length) : rbs (vs.take (k + 1)) = rbs (vs.take k) ++ rb vs[k]:=by
 rw [List.take_succ_eq_append_getElem h,rbs_append,rbs_one]
theorem rbs_drop {vs : List V3} {k : Nat} (h : k < vs.length) : rbs (vs.drop k) = rb vs[k] ++ rbs (vs.drop (k + 1)):=by
 rw [List.drop_eq_getElem_cons h,rbs_cons]
theorem rbs_bound : ∀ {vs : List V3},(∀ v ∈ vs,V3.right v = true) → (rbs vs).length ≤ 65 * vs.length
 | [],_ => by simp [rbs]
 | v :: vs,h => by
  have h1:=rbs_bound (vs:=vs) fun x hx => h x (by simp [hx])
  have h2:=rb_len (h v Si)
  rw [rbs_cons,Zla,List.length_cons]
  omega
theorem rbs_inj : ∀ (us vs : List V3) (t : List UInt8),us.length = vs.length → (∀ v ∈ us,V3.right v = true) → (∀ v ∈ vs,V3.right v = true) → (∀ i (h : i < us.length) (h' : i < vs.length),us[i].1 = vs[i].1) → rbs us ++ t = rbs vs → us = vs
 | [],[],_,_,_,_,_,_ => rfl
 | u :: us,v :: vs,t,hl,hu,hv,hk,h => by
  rw [rbs_cons,rbs_cons,Zas] at h
  obtain ⟨rfl,h'⟩:=rb_inj (hu u Si) (hv v Si) (hk 0 Si Si) h
  rw [rbs_inj us vs t (by simpa using hl) (fun x hx => hu x (by simp [hx])) (fun x hx => hv x (by simp [hx])) (fun i g g' => hk (i + 1) (by simpa using g) (by simpa using g')) h']
def kOf (vs : List V3) (i : Nat) : Nat:=match vs[i]? with | some v => v.1.toNat | none => 0
theorem kOf_lt {vs : List V3} (h : ∀ v ∈ vs,V3.right v = true) (i : Nat) : kOf vs i < 4:=by
 unfold kOf
 split
 ·rename_i v e
  rcases right_kind (h v (List.mem_of_getElem? e)) with k | k | k | k <;> omega
 ·omega
theorem kOf_at {vs : List V3} {i : Nat} (h : i < vs.length) : kOf vs i = (vs[i]).1.toNat:=by unfold kOf; rw [List.getElem?_eq_getElem h]
theorem kOf_take {vs : List V3} {i k : Nat} : kOf (vs.take k) i = if i < k then kOf vs i else 0:=by
 unfold kOf
 by_cases h : i < k
 ·rw [if_pos h,List.getElem?_take_of_lt h]
 ·rw [if_neg h,List.getElem?_eq_none (by rw [List.length_take]; omega)]
def kq (vs : List V3) (j : Nat) : Nat:=kOf vs (4 * j) + 4 * kOf vs (4 * j + 1) + 16 * kOf vs (4 * j + 2) + 64 * kOf vs (4 * j + 3)
theorem kq_lt {vs : List V3} (h : ∀ v ∈ vs,V3.right v = true) (j : Nat) : kq vs j < 256:=by
 have a:=kOf_lt h (4 * j); have b:=kOf_lt h (4 * j + 1); have c:=kOf_lt h (4 * j + 2); have d:=kOf_lt h (4 * j + 3)
 unfold kq; omega
def q4 (r : Nat) : Nat:=if r = 0 then 1 else if r = 1 then 4 else if r = 2 then 16 else 64
theorem kq_at {vs : List V3} (h : ∀ v ∈ vs,V3.right v = true) (i : Nat) : kq vs (i / 4) / q4 (i % 4) % 4 = kOf vs i:=by
 have a:=kOf_lt h (4 * (i / 4)); have b:=kOf_lt h (4 * (i / 4) + 1); have c:=kOf_lt h (4 * (i / 4) + 2); have d:=kOf_lt h (4 * (i / 4) + 3)
 unfold kq q4
 have hr : i % 4 = 0 ∨ i % 4 = 1 ∨ i % 4 = 2 ∨ i % 4 = 3:=by omega
 rcases hr with r | r | r | r
 ·have e : kOf vs i = kOf vs (4 * (i / 4)):=congrArg _ Om
  rw [r,e]; simp; omega
 ·have e : kOf vs i = kOf vs (4 * (i / 4) + 1):=congrArg _ Om
  rw [r,e]; simp; omega
 ·have e : kOf vs i = kOf vs (4 * (i / 4) + 2):=congrArg _ Om
  rw [r,e]; simp; omega
 ·have e : kOf vs i = kOf vs (4 * (i / 4) + 3):=congrArg _ Om
  rw [r,e]; simp; omega
theorem kq_take_lt {vs : List V3} (h : ∀ v ∈ vs,V3.right v = true) (k : Nat) : kq (vs.take k) (k / 4) < q4 (k % 4):=by
 have a:=kOf_lt h (4 * (k / 4)); have b:=kOf_lt h (4 * (k / 4) + 1); have c:=kOf_lt h (4 * (k / 4) + 2); have d:=kOf_lt h (4 * (k / 4) + 3)
 unfold kq q4
 simp only [kOf_take]
 have hr : k % 4 = 0 ∨ k % 4 = 1 ∨ k % 4 = 2 ∨ k % 4 = 3:=by omega
 rcases hr with r | r | r | r <;> rw [r] <;> simp <;> (repeat' split) <;> omega
theorem if_lt {a b x : Nat} (h : a < b) : (if a < b then x else 0) = x:=if_pos h
theorem if_ge {a b x : Nat} (h : b ≤ a) : (if a < b then x else 0) = 0:=if_neg Om
theorem kq_take_same {vs : List V3} {k : Nat} (_h : k < vs.length) : kq (vs.take (k + 1)) (k / 4) = kq (vs.take k) (k / 4) + q4 (k % 4) * kOf vs k:=by
 unfold kq q4
 simp only [kOf_take]
 obtain ⟨q,hq⟩:=Vx (k / 4)
 rw [hq]
 have hr : k = 4 * q ∨ k = 4 * q + 1 ∨ k = 4 * q + 2 ∨ k = 4 * q + 3:=by omega
 rcases hr with r | r | r | r <;> subst r
 ·rw [if_lt (b:=4 * q + 1) Om,if_ge (b:=4 * q + 1) Om,if_ge (b:=4 * q + 1) Om,if_ge (b:=4 * q + 1) Om,if_ge (b:=4 * q) Om,if_ge (b:=4 * q) Om,if_ge (b:=4 * q) Om,if_ge (b:=4 * q) Om,show 4 * q % 4 = 0 by omega]; simp
 ·rw [if_lt (a:=4 * q) (b:=4 * q + 1 + 1) Om,if_lt (a:=4 * q + 1) (b:=4 * q + 1 + 1) Om,if_ge (a:=4 * q + 2) (b:=4 * q + 1 + 1) Om,if_ge (a:=4 * q + 3) (b:=4 * q + 1 + 1) Om,if_lt (a:=4 * q) (b:=4 * q + 1) Om,if_ge (a:=4 * q + 1) (b:=4 * q + 1) Om,if_ge (a:=4 * q + 2) (b:=4 * q + 1) Om,if_ge (a:=4 * q + 3) (b:=4 * q + 1) Om,show (4 * q + 1) % 4 = 1 by omega]; simp
 ·rw [if_lt (a:=4 * q) (b:=4 * q + 2 + 1) Om,if_lt (a:=4 * q + 1) (b:=4 * q + 2 + 1) Om,if_lt (a:=4 * q + 2) (b:=4 * q + 2 + 1) Om,if_ge (a:=4 * q + 3) (b:=4 * q + 2 + 1) Om,if_lt (a:=4 * q) (b:=4 * q + 2) Om,if_lt (a:=4 * q + 1) (b:=4 * q + 2) Om,if_ge (a:=4 * q + 2) (b:=4 * q + 2) Om,if_ge (a:=4 * q + 3) (b:=4 * q + 2) Om,show (4 * q + 2) % 4 = 2 by omega]; simp
 ·rw [if_lt (a:=4 * q) (b:=4 * q + 3 + 1) Om,if_lt (a:=4 * q + 1) (b:=4 * q + 3 + 1) Om,if_lt (a:=4 * q + 2) (b:=4 * q + 3 + 1) Om,if_lt (a:=4 * q + 3) (b:=4 * q + 3 + 1) Om,if_lt (a:=4 * q) (b:=4 * q + 3) Om,if_lt (a:=4 * q + 1) (b:=4 * q + 3) Om,if_lt (a:=4 * q + 2) (b:=4 * q + 3) Om,if_ge (a:=4 * q + 3) (b:=4 * q + 3) Om,show (4 * q + 3) % 4 = 3 by omega]; simp
theorem kq_take_other {vs : List V3} {k j : Nat} (h : j ≠ k / 4) : kq (vs.take (k + 1)) j = kq (vs.take k) j:=by
 unfold kq
 simp only [kOf_take]
 have e : ∀ r,r < 4 → ((4 * j + r < k + 1) ↔ (4 * j + r < k)):=by intro r hr; omega
 have e0:=e 0 Om
 simp only [Nat.add_zero] at e0
 simp only [e0,e 1 Om,e 2 Om,e 3 Om]
def pk (n : Nat) (vs : List V3) : List UInt8:=(List.range n).map fun j => UInt8.ofNat (kq vs j)
theorem pk_length (n : Nat) (vs : List V3) : (pk n vs).length = n:=by simp [pk]
theorem pk_at {n j : Nat} {vs : List V3} (h : j < n) : (pk n vs)[j]'(by rw [pk_length]; exact h) = UInt8.ofNat (kq vs j):=by simp [pk]
theorem pk_zero (n : Nat) (vs : List V3) : pk n (vs.take 0) = List.replicate n 0:=by
 apply List.ext_getElem
 ·simp [pk]
 ·intro i h h'
  simp [pk,kq,kOf]
theorem pk_step {n k : Nat} {vs : List V3} (h : k < vs.length) : pk n (vs.take (k + 1)) = (pk n (vs.take k)).set (k / 4) (UInt8.ofNat (kq (vs.take k) (k / 4) + q4 (k % 4) * kOf vs k)):=by
 apply List.ext_getElem
 ·simp [pk_length]
 ·intro i h1 h2
  rw [List.getElem_set]
  rw [pk_length] at h1
  split
  ·rename_i e
   subst e
   rw [pk_at h1,kq_take_same h]
  ·rename_i e
   rw [pk_at h1,pk_at h1,kq_take_other (fun f => e f.symm)]
def rowB (vs : List V3) : List UInt8:=UInt8.ofNat vs.length :: (pk ((vs.length + 3) / 4) vs ++ rbs vs)
theorem rowB_len {vs : List V3} (hl : vs.length ≤ 16) (h : ∀ v ∈ vs,V3.right v = true) : (rowB vs).length ≤ 2000:=by
 have:=rbs_bound h
 unfold rowB
 simp [pk_length]
 omega
theorem rowB_begins {us vs : List V3} (hl : us.length ≤ 16) (hl' : vs.length ≤ 16) (hu : ∀ v ∈ us,V3.right v = true) (hv : ∀ v ∈ vs,V3.right v = true) {t : List UInt8} (h : rowB us ++ t = rowB vs) : us = vs:=by
 unfold rowB at h
 rw [List.cons_append] at h
 obtain ⟨h1,h2⟩:=List.cons.inj h
 have e:=congrArg UInt8.toNat h1
 simp only [UInt8.toNat_ofNat'] at e
 have e' : us.length = vs.length:=by omega
 rw [Zas,e'] at h2
 obtain ⟨h3,h4⟩:=List.append_inj h2 (by rw [pk_length,pk_length])
 refine rbs_inj us vs t e' hu hv ?_ h4
 intro i g g'
 have hq : UInt8.ofNat (kq us (i / 4)) = UInt8.ofNat (kq vs (i / 4)):=by
  rw [← pk_at (n:=(vs.length + 3) / 4) (vs:=us) Om,← pk_at (n:=(vs.length + 3) / 4) (vs:=vs) Om]
  simp only [h3]
 have hq':=congrArg UInt8.toNat hq
 simp only [UInt8.toNat_ofNat'] at hq'
 have l1:=kq_lt hu (i / 4)
 have l2:=kq_lt hv (i / 4)
 have hq2 : kq us (i / 4) = kq vs (i / 4):=by omega
 have a1:=kq_at hu i
 have a2:=kq_at hv i
 rw [hq2,a2,kOf_at g,kOf_at g'] at a1
 have r1:=right_kind (hu _ (List.getElem_mem g))
 have r2:=right_kind (hv _ (List.getElem_mem g'))
 omega
def wrR (vs : List V3) : List UInt8 × Int:=if 16 < vs.length then ([],2) else if vs.all V3.right then (rowB vs,0) else ([],10)
theorem wrR_long {vs : List V3} (h : 16 < vs.length) : wrR vs = ([],2):=by unfold wrR; rw [if_pos h]
theorem wrR_wrong {vs : List V3} (h : ¬ 16 < vs.length) (i : Nat) (hi : i < vs.length) (g : V3.right vs[i] = false) : wrR vs = ([],10):=by
 unfold wrR
 rw [if_neg h,if_neg]
 intro e
 have:=List.all_eq_true.1 e (vs[i]) (List.getElem_mem hi)
 rw [g] at this
 exact absurd this Si
theorem wrR_ok {vs : List V3} (h : ¬ 16 < vs.length) (g : ∀ i (hi : i < vs.length),V3.right vs[i] = true) : wrR vs = (rowB vs,0):=by
 unfold wrR
 rw [if_neg h,if_pos]
 rw [List.all_eq_true]
 intro v hv
 obtain ⟨j,hj,rfl⟩:=List.getElem_of_mem hv
 exact g j hj
theorem wrR_zero {vs : List V3} (h : (wrR vs).2 = 0) : vs.length ≤ 16 ∧ (∀ v ∈ vs,V3.right v = true) ∧ (wrR vs).1 = rowB vs:=by
 unfold wrR at h ⊢
 by_cases h1 : 16 < vs.length
 ·rw [if_pos h1] at h; exact absurd h Si
 ·rw [if_neg h1] at h ⊢
  by_cases h2 : vs.all V3.right = true
  ·rw [if_pos h2]; exact ⟨by omega,List.all_eq_true.1 h2,rfl⟩
  ·rw [if_neg h2] at h; exact absurd h Si
def RowOf (s : List UInt8) (vs : List V3) : Prop:=vs.length ≤ 16 ∧ (∀ v ∈ vs,V3.right v = true) ∧ rowB vs = s
theorem rowOf_unique {s : List UInt8} {us vs : List V3} (h : RowOf s us) (g : RowOf s vs) : us = vs :=
 rowB_begins (t:=[]) h.1 g.1 h.2.1 g.2.1 (by rw [List.append_nil,h.2.2,g.2.2])
theorem rowOf_wr {s : List UInt8} {vs : List V3} (h : RowOf s vs) : wrR vs = (s,0):=by
 rw [wrR_ok (by have:=h.1; omega) (fun i hi => h.2.1 _ (List.getElem_mem hi)),h.2.2]
theorem rowOf_of {s : List UInt8} {vs : List V3} (h : (wrR vs).2 = 0) (g : (wrR vs).1 = s) : RowOf s vs:=by
 obtain ⟨a,b,c⟩:=wrR_zero h
 exact ⟨a,b,by rw [← g,c]⟩
open Classical in
noncomputable def rdR (s : List UInt8) : List V3 × Int:=if h : ∃ vs,RowOf s vs then (Classical.choose h,0) else ([],30)
theorem rdR_ok {s : List UInt8} {vs : List V3} (h : RowOf s vs) : rdR s = (vs,0):=by
 unfold rdR
 rw [dif_pos ⟨vs,h⟩,rowOf_unique (Classical.choose_spec (⟨vs,h⟩ : ∃ vs,RowOf s vs)) h]
theorem rdR_no {s : List UInt8} (h : ∀ vs,¬ RowOf s vs) : rdR s = ([],30):=by
 unfold rdR
 rw [dif_neg (fun ⟨vs,g⟩ => h vs g)]
def RF (K : Int) (s : List UInt8) (v : V3) (r : List UInt8) (ok : Bool) : Prop:=∀ u t,V3.right u = true → u.1 = K → s = rb u ++ t → ok = true ∧ v = u ∧ r = t
def RP (s : List UInt8) (i : Nat) (l : List V3) (r : List UInt8) : Prop:=∀ vs,RowOf s vs → l = vs.take i ∧ r = rbs (vs.drop i)
theorem rowOf_head {s : List UInt8} {vs : List V3} (h : RowOf s vs) : ∃ c l,s = c :: l ∧ c.toNat = vs.length ∧ 1 + (vs.length + 3) / 4 ≤ s.length ∧ s.drop (1 + (vs.length + 3) / 4) = rbs vs:=by
 obtain ⟨h1,h2,h3⟩:=h
 subst h3
 refine ⟨_,_,rfl,by simp; omega,by simp [rowB,pk_length]; omega,?_⟩
 unfold rowB
 rw [Nat.add_comm,List.drop_succ_cons,List.drop_append_of_le_length (by rw [pk_length]; exact Nat.le_refl _),List.drop_of_length_le (by rw [pk_length]; exact Nat.le_refl _),List.nil_append]
theorem rp_start {s : List UInt8} {c : UInt8} {l : List UInt8} (h : s = c :: l) : RP s 0 [] (s.drop (1 + (c.toNat + 3) / 4)):=by
 intro vs g
 obtain ⟨c',l',e,e1,_,e2⟩:=rowOf_head g
 rw [h] at e
 obtain ⟨rfl,rfl⟩:=List.cons.inj e
 rw [e1,e2]
 exact ⟨rfl,rfl⟩
theorem rowOf_kind {s : List UInt8} {vs : List V3} {i : Nat} (h : RowOf s vs) (hi : i < vs.length) (hj : 1 + i / 4 < s.length) : ((s[1 + i / 4].toNat / q4 (i % 4) % 4 : Nat) : Int) = (vs[i]).1:=by
 obtain ⟨h1,h2,h3⟩:=h
 have hlt : i / 4 < (vs.length + 3) / 4:=by omega
 have e : s[1 + i / 4] = UInt8.ofNat (kq vs (i / 4)):=by
  subst h3
  simp only [rowB,Nat.add_comm 1,List.getElem_cons_succ]
  rw [List.getElem_append_left (by rw [pk_length]; exact hlt),pk_at hlt]
 have l1:=kq_lt h2 (i / 4)
 rw [e,UInt8.toNat_ofNat',Nat.mod_eq_of_lt l1,kq_at h2,kOf_at hi]
 have r1:=right_kind (h2 _ (List.getElem_mem hi))
 omega
theorem rp_step {s : List UInt8} {i : Nat} {l : List V3} {r r' : List UInt8} {v : V3} {K : Int} {c : UInt8} {q : List UInt8} (hs : s = c :: q) (h : RP s i l r) (hi : i < c.toNat) (hk : ∀ vs,RowOf s vs → ∀ g : i < vs.length,K = (vs[i]).1) (hf : RF K r v r' true) : RP s (i + 1) (l ++ [v]) r':=by
 intro vs g
 obtain ⟨c',l',e,e1,_,_⟩:=rowOf_head g
 rw [hs] at e
 obtain ⟨rfl,rfl⟩:=List.cons.inj e
 have hi' : i < vs.length:=by omega
 obtain ⟨a,b⟩:=h vs g
 rw [rbs_drop hi'] at b
 obtain ⟨_,x,y⟩:=hf _ _ (g.2.1 _ (List.getElem_mem hi')) (hk vs g hi').symm b
 exact ⟨by rw [List.take_succ_eq_append_getElem hi',a,x],y⟩
theorem rp_stuck {s : List UInt8} {i : Nat} {l : List V3} {r r' : List UInt8} {v : V3} {K : Int} {c : UInt8} {q : List UInt8} (hs : s = c :: q) (h : RP s i l r) (hi : i < c.toNat) (hk : ∀ vs,RowOf s vs → ∀ g : i < vs.length,K = (vs[i]).1) (hf : RF K r v r' false) : ∀ vs,¬ RowOf s vs:=by
 intro vs g
 obtain ⟨c',l',e,e1,_,_⟩:=rowOf_head g
 rw [hs] at e
 obtain ⟨rfl,rfl⟩:=List.cons.inj e
 have hi' : i < vs.length:=by omega
 obtain ⟨a,b⟩:=h vs g
 rw [rbs_drop hi'] at b
 exact absurd (hf _ _ (g.2.1 _ (List.getElem_mem hi')) (hk vs g hi').symm b).1 Si
theorem rp_end {s : List UInt8} {l : List V3} {r : List UInt8} {c : UInt8} {q : List UInt8} (hs : s = c :: q) (h : RP s c.toNat l r) (hn : ¬ ((wrR l).2 = 0 ∧ (wrR l).1 = s)) : ∀ vs,¬ RowOf s vs:=by
 intro vs g
 obtain ⟨c',l',e,e1,_,_⟩:=rowOf_head g
 rw [hs] at e
 obtain ⟨rfl,rfl⟩:=List.cons.inj e
 obtain ⟨a,_⟩:=h vs g
 rw [e1,List.take_length] at a
 subst a
 rw [rowOf_wr g] at hn
 exact hn ⟨rfl,rfl⟩
theorem row_short {s : List UInt8} {c : UInt8} {q : List UInt8} (hs : s = c :: q) (h : s.length < 1 + (c.toNat + 3) / 4) : ∀ vs,¬ RowOf s vs:=by
 intro vs g
 obtain ⟨c',l',e,e1,e2,_⟩:=rowOf_head g
 rw [hs] at e
 obtain ⟨rfl,rfl⟩:=List.cons.inj e
 omega
theorem row_empty : ∀ vs,¬ RowOf [] vs:=by
 intro vs g
 obtain ⟨c',l',e,_⟩:=rowOf_head g
 cases e
theorem rf_null {K : Int} {s : List UInt8} (h : K = 0) : RF K s (0,0,⟨#[]⟩) s true:=by
 intro u t hu hk e
 subst h
 obtain ⟨a,b⟩:=right_null hu hk
 rw [rb_null hk] at e
 exact ⟨rfl,v3_ext hk.symm a.symm b.symm,by simpa using e⟩
theorem rf_bool {c : UInt8} {l : List UInt8} : RF 2 (c :: l) (2,(c.toNat : Int),⟨#[]⟩) l true:=by
 intro u t hu hk e
 obtain ⟨a,b⟩:=right_bool hu hk
 rw [rb_bool hk] at e
 simp at e
 refine ⟨rfl,v3_ext hk.symm ?_ b.symm,e.2⟩
 rw [e.1]
 rcases a with a | a <;> rw [a] <;> rfl
theorem rf_bool0 {v : V3} {r : List UInt8} : RF 2 [] v r false:=by
 intro u t hu hk e
 rw [rb_bool hk] at e
 simp at e
theorem rf_text {c : UInt8} {l : List UInt8} {x : ByteArray} (hx : x.data.toList = l.take c.toNat) : RF 3 (c :: l) (3,0,x) (l.drop c.toNat) true:=by
 intro u t hu hk e
 obtain ⟨a,b⟩:=right_text hu hk
 rw [rb_text hk,List.cons_append] at e
 obtain ⟨e1,e2⟩:=List.cons.inj e
 have hc : c.toNat = u.2.2.data.toList.length:=by rw [e1,size_toList]; simp; omega
 refine ⟨rfl,v3_ext hk.symm a.symm (ba_ext ?_),?_⟩
 ·rw [hx,e2,hc,List.take_left]
 ·rw [e2,hc,List.drop_left]
theorem rf_text0 {v : V3} {r : List UInt8} {ok : Bool} : RF 3 [] v r ok:=by
 intro u t hu hk e
 rw [rb_text hk] at e
 simp at e
theorem rf_textshort {c : UInt8} {l : List UInt8} {v : V3} {r : List UInt8} {ok : Bool} (h : l.length < c.toNat) : RF 3 (c :: l) v r ok:=by
 intro u t hu hk e
 obtain ⟨a,b⟩:=right_text hu hk
 rw [rb_text hk,List.cons_append] at e
 obtain ⟨e1,e2⟩:=List.cons.inj e
 have hc : c.toNat = u.2.2.size:=by rw [e1]; simp; omega
 have:=congrArg List.length e2
 rw [Zla,size_toList] at this
 omega
theorem rf_int {s : List UInt8} {i : Nat} (hi : i < s.length) (hp : ∀ b ∈ s.take i,128 ≤ b.toNat) (hc : s[i].toNat < 128) : RF 1 s (1,unf (lo (s.take (i + 1)) % 18446744073709551616),⟨#[]⟩) (s.drop (i + 1)) true:=by
 intro u t hu hk e
 obtain ⟨a,b,c⟩:=right_num hu hk
 rw [rb_int hk] at e
 have hs : s = s.take i ++ s[i] :: s.drop (i + 1):=by rw [← List.drop_eq_getElem_cons hi,List.take_append_drop]
 obtain ⟨e1,e2⟩:=dg_front s[i] (s.drop (i + 1)) t hc (s.take i) (fd u.2.1) hp (by rw [← e]; exact hs)
 rw [← List.take_succ_eq_append_getElem hi] at e1
 have hf:=fd_le a b
 refine ⟨rfl,v3_ext hk.symm ?_ c.symm,e2.symm⟩
 show unf (lo (s.take (i + 1)) % 18446744073709551616) = u.2.1
 rw [← e1,lo_dg,Nat.mod_eq_of_lt Om,unf_fd]
theorem rf_int0 {s : List UInt8} {v : V3} {r : List UInt8} {ok : Bool} (n : Nat) (hn : 10 ≤ n ∨ s.length ≤ n) (hp : ∀ b ∈ s.take n,128 ≤ b.toNat) : RF 1 s v r ok:=by
 intro u t hu hk e
 obtain ⟨a,b,c⟩:=right_num hu hk
 rw [rb_int hk] at e
 have hf:=fd_le a b
 have h1:=dg_open e hp
 have h2:=dg_len 9 (fd u.2.1) Om
 have h3:=congrArg List.length e
 rw [Zla] at h3
 omega
end RR
section
theorem ordI_zero {a b : Int} : ordI a b = 0 ↔ a = b:=by unfold ordI; repeat' split <;> omega
theorem ordS_zero {a b : ByteArray} : ordS a b = 0 ↔ a.toList = b.toList:=by
 unfold ordS
 by_cases h : Op.bytesLess a.toList b.toList = true
 ·rw [if_pos h]
  refine ⟨fun e => by omega,fun e => ?_⟩
  rw [e,bl_irrefl] at h; cases h
 ·rw [if_neg h]
  by_cases g : a.toList = b.toList
  ·simp [g]
  ·simp [g]
theorem orI_zero {x y z : Int} : orI x y z = 0 ↔ x = 0 ∧ y = 0 ∧ z = 0:=by unfold orI; repeat' split <;> omega
section
variable (k n : Int) (s : ByteArray) (k' n' : Int) (s' : ByteArray) (k2 n2 : Int) (s2 : ByteArray)
theorem ordV_zero : ordV k n s k' n' s' = 0 ↔ k = k' ∧ n = n' ∧ s.toList = s'.toList:=by unfold ordV; rw [orI_zero,ordI_zero,ordI_zero,ordS_zero]
end
end
namespace TT
section
open Go
structure Col where
 nm : ByteArray
 ty : Int
 nn : Bool
structure Ix where
 nm : ByteArray
 cols : List Int
 un : Bool
structure Tb where
 nm : ByteArray
 cols : List Col
 key : List Int
 part : Int
 ixs : List Ix
structure Pm where
 nm : ByteArray
 ty : Int
structure Pc where
 nm : ByteArray
 prms : List Pm
 body : List ByteArray
 rows : Int
 bytes : Int
structure Ct where
 tbs : List Tb
 prs : List Pc
def smallB (b : UInt8) : Bool:=decide (97 ≤ b.toNat) && decide (b.toNat ≤ 122)
def digitB (b : UInt8) : Bool:=decide (48 ≤ b.toNat) && decide (b.toNat ≤ 57)
def nameB (b : UInt8) : Bool:=smallB b || digitB b || decide (b.toNat = 95)
def isNm (s : List UInt8) : Bool:=decide (1 ≤ s.length) && decide (s.length ≤ 16) && (s.head?.any smallB) && s.all nameB
def bs (s : ByteArray) : List UInt8:=s.data.toList
theorem bs_len (s : ByteArray) : (bs s).length = s.size:=by simp [bs]
theorem bs_inj {s t : ByteArray} (h : bs s = bs t) : s = t:=by
 cases s; cases t
 simp only [bs] at h
 congr
 exact Array.toList_inj.1 h
def typB (n : Int) : Bool:=decide (1 ≤ n) && decide (n ≤ 3)
def allB (n : Nat) (H : Nat → Bool) : Bool:=(List.range n).all H
theorem allB_iff {n : Nat} {H : Nat → Bool} : allB n H = true ↔ ∀ i,i < n → H i = true:=by simp [allB]
theorem allB_false {n : Nat} {H : Nat → Bool} (k : Nat) (h : k < n) (e : H k = false) : allB n H = false:=by
 cases g : allB n H with
 | false => rfl
 | true => rw [allB_iff.1 g k h] at e; cases e
def newNm (l : List (List UInt8)) (i : Nat) : Bool:=(l[i]?).any fun s => isNm s && !decide (s ∈ l.take i)
def newIn (l : List Int) (i : Nat) : Bool:=(l[i]?).any fun s => !decide (s ∈ l.take i)
def mayCols (l : List Col) : Bool:=decide (1 ≤ l.length) && decide (l.length ≤ 16) && allB l.length (fun i => newNm (l.map fun x => bs x.nm) i && (l[i]?).any fun c => typB c.ty)
def placeB (m : Nat) (p : Int) : Bool:=decide (0 ≤ p) && decide (p ≤ (m : Int) - 1)
def mayPl (l : List Int) (m : Nat) : Bool:=decide (1 ≤ l.length) && decide (l.length ≤ 8) && allB l.length (fun i => ((l[i]?).any fun p => placeB m p) && newIn l i)
def nnB (l : List Col) (p : Int) : Bool:=(l[p.toNat]?).any fun c => c.nn
def mayKey (t : Tb) : Bool:=mayPl t.key t.cols.length && decide (t.part ∈ t.key) && allB t.key.length (fun i => (t.key[i]?).any fun p => nnB t.cols p)
def mayIxs (t : Tb) : Bool:=decide (t.ixs.length ≤ 4) && allB t.ixs.length (fun i => newNm (t.ixs.map fun x => bs x.nm) i && (t.ixs[i]?).any fun x => mayPl x.cols t.cols.length)
def mayTb (t : Tb) : Bool:=isNm (bs t.nm) && mayCols t.cols && mayKey t && mayIxs t
def mayPms (l : List Pm) : Bool:=decide (l.length ≤ 8) && allB l.length (fun i => newNm (l.map fun x => bs x.nm) i && (l[i]?).any fun c => typB c.ty)
def srcB (s : ByteArray) : Bool:=decide (1 ≤ s.size) && decide (s.size ≤ 1000)
def mayBody (l : List ByteArray) : Bool:=decide (1 ≤ l.length) && decide (l.length ≤ 8) && allB l.length (fun i => (l[i]?).any srcB)
def budB (n : Int) : Bool:=decide (0 ≤ n) && decide (n ≤ 1048576)
def mayPc (p : Pc) : Bool:=isNm (bs p.nm) && mayPms p.prms && mayBody p.body && budB p.rows && budB p.bytes
def rightC (c : Ct) : Bool:=decide (c.tbs.length ≤ 8) && decide (c.prs.length ≤ 16) && allB c.tbs.length (fun i => newNm (c.tbs.map fun x => bs x.nm) i && (c.tbs[i]?).any mayTb) && allB c.prs.length (fun i => newNm (c.prs.map fun x => bs x.nm) i && (c.prs[i]?).any mayPc)
def numF : Nat → Nat → List UInt8
 | 0,n => [UInt8.ofNat n]
 | f + 1,n => if n < 128 then [UInt8.ofNat n] else UInt8.ofNat (n % 128 + 128) :: numF f (n / 128)
def num (n : Nat) : List UInt8:=numF 2 n
theorem num_last {n : Nat} (h : n < 128) : num n = [UInt8.ofNat n]:=by simp [num,numF,h]
theorem num_step {n : Nat} (h : 128 ≤ n) (h' : n < 2097152) : num n = UInt8.ofNat (n % 128 + 128) :: num (n / 128):=by
 have h1 : ¬ n < 128:=by omega
 have h2 : n / 128 < 16384:=by omega
 by_cases h3 : n / 128 < 128
 ·simp [num,numF,h1,h3]
 ·have h4 : n / 128 / 128 < 128:=by omega
  simp [num,numF,h1,h3,h4]
theorem num_len (n : Nat) : (num n).length ≤ 3:=by
 unfold num numF numF numF
 split
 ·simp
 ·split <;> simp
def txt (s : ByteArray) : List UInt8:=num s.size ++ bs s
def flag (b : Bool) : List UInt8:=[if b then 1 else 0]
theorem flag_num (b : Bool) : flag b = num (if b then 1 else 0):=by cases b <;> rfl
def lst {α : Type} (f : α → List UInt8) (l : List α) : List UInt8:=num l.length ++ l.flatMap f
def numI (n : Int) : List UInt8:=num n.toNat
def encCol (c : Col) : List UInt8:=txt c.nm ++ numI c.ty ++ flag c.nn
def encIx (x : Ix) : List UInt8:=txt x.nm ++ flag x.un ++ lst numI x.cols
def encTb (t : Tb) : List UInt8:=txt t.nm ++ lst encCol t.cols ++ lst numI t.key ++ numI t.part ++ lst encIx t.ixs
def encPm (p : Pm) : List UInt8:=txt p.nm ++ numI p.ty
def encPc (p : Pc) : List UInt8:=txt p.nm ++ lst encPm p.prms ++ lst txt p.body ++ numI p.rows ++ numI p.bytes
def encC (c : Ct) : List UInt8:=lst encTb c.tbs ++ lst encPc c.prs
theorem flat_take {α : Type} (f : α → List UInt8) (l : List α) (k : Nat) (h : k < l.length) : (l.take (k + 1)).flatMap f = (l.take k).flatMap f ++ f l[k]:=by
 rw [List.take_succ_eq_append_getElem h,List.flatMap_append,List.flatMap_cons,List.flatMap_nil,List.append_nil]
theorem flat_le {α : Type} (f : α → List UInt8) (l : List α) (k : Nat) : ((l.take k).flatMap f).length ≤ (l.flatMap f).length:=by
 have : l.flatMap f = (l.take k).flatMap f ++ (l.drop k).flatMap f:=by rw [← List.flatMap_append,List.take_append_drop]
 rw [this,Zla]
 omega
theorem flat_bound {α : Type} (f : α → List UInt8) (K : Nat) : ∀ l : List α,(∀ x ∈ l,(f x).length ≤ K) → (l.flatMap f).length ≤ l.length * K
 | [],_ => by simp
 | x :: r,h => by
  have h1:=flat_bound f K r fun y hy => h y (List.mem_cons_of_mem _ hy)
  have h2:=h x List.mem_cons_self
  rw [List.flatMap_cons,Zla,List.length_cons,Nat.add_mul]
  omega
end
end TT
def sb (v : Nat) : Nat:=(v / 2) ^^^ (v % 2 * 3988292384)
def sbs : Nat → Nat → Nat
 | 0,v => v
 | k + 1,v => sb (sbs k v)
def sy (v : Nat) (b : UInt8) : Nat:=sbs 8 (v ^^^ b.toNat)
def crcF (v : Nat) (l : List UInt8) : Nat:=l.foldl sy v
def crc (l : List UInt8) : Nat:=crcF 4294967295 l ^^^ 4294967295
theorem sb_lt {v : Nat} (h : v < 4294967296) : sb v < 4294967296:=by
 have h1 : v / 2 < 2 ^ 32:=by omega
 have h2 : v % 2 * 3988292384 < 2 ^ 32:=by
  have : v % 2 < 2:=Nat.mod_lt _ (by decide)
  omega
 exact Nat.xor_lt_two_pow h1 h2
theorem sbs_lt {v : Nat} (h : v < 4294967296) : ∀ k,sbs k v < 4294967296
 | 0 => h
 | k + 1 => sb_lt (sbs_lt h k)
theorem sx_lt {v : Nat} (b : UInt8) (h : v < 4294967296) : v ^^^ b.toNat < 4294967296:=by
 have hb:=UInt8.toNat_lt b
 exact Nat.xor_lt_two_pow (n:=32) h Om
theorem sy_lt {v : Nat} (b : UInt8) (h : v < 4294967296) : sy v b < 4294967296:=sbs_lt (sx_lt b h) 8
theorem crcF_lt : ∀ (l : List UInt8) {v : Nat},v < 4294967296 → crcF v l < 4294967296
 | [],_,h => h
 | b :: l,_,h => crcF_lt l (sy_lt b h)
theorem crc_lt (l : List UInt8) : crc l < 4294967296:=Nat.xor_lt_two_pow (n:=32) (crcF_lt l (by decide)) (by decide)
theorem crcF_snoc (v : Nat) (l : List UInt8) (b : UInt8) : crcF v (l ++ [b]) = sy (crcF v l) b:=by simp [crcF]
end Go.Proofs.YtmmmkjhpmlfopaaGreatDoor
