/- M140 M141 M142 M143 M144 M145 -/
import Derived.Test.YtonbafpnaphckaaGreatDoorTM131
namespace Go.Proofs.YtonbafpnaphckaaGreatDoor
open Go Go.RowKit
def sgT (b : List UInt8) : T:=((7,0,ofL b),0)

def wdT (b : List UInt8) : T:=((4,0,ofL b),0)

def rankX : Ex → Nat
 | .mk k o _ _ _ _ _ => if k = 10 then 1 else if k = 9 then 2 else if k = 8 then 3 else if k = 6 ∨ k = 7 then 4 else if k = 5 then (if o ≤ 2 then 5 else 6) else 7

def wr (need : Nat) (e : Ex) (b : List T) : List T:=if rankX e < need then sgT [40] :: (b ++ [sgT [41]]) else b

def rowM (w : List UInt8) (need : Nat) : List Ex → List (List T) → List T
 | e :: es,b :: bs => wdT w :: (wr need e b ++ rowM w need es bs)
 | _,_ => []

def cmpS (o : Int) : List UInt8:=if o = 1 then [61] else if o = 2 then [60,62] else if o = 3 then [60] else if o = 4 then [60,61] else if o = 5 then [62] else [62,61]

def ariS (o : Int) : List UInt8:=if o = 1 then [43] else if o = 2 then [45] else if o = 3 then [42] else if o = 4 then [47] else [37]

def litT (v : V3) : T:=if v.1 = 1 then ((2,v.2.1,⟨#[]⟩),0) else if v.1 = 3 then ((5,0,v.2.2),0) else if v.1 = 2 then (if v.2.1 = 1 then wdT wTrue else wdT wFalse) else wdT wNull

def tF (k o : Int) (v : V3) (t n : ByteArray) (ks : List Ex) (bs : List (List T)) : List T :=
 if k = 1 then [litT v]
 else if k = 2 then [((6,0,n),0)]
 else if k = 3 then (if t = ⟨#[]⟩ then [((3,0,n),0)] else [((3,0,t),0),sgT [46],((3,0,n),0)])
 else match ks,bs with
  | a :: ar,x :: xs =>
   if k = 4 then sgT [45] :: wr 7 a x
   else if k = 5 then wr (if o ≤ 2 then 5 else 6) a x ++ sgT (ariS o) :: (match ar,xs with
    | b :: _,y :: _ => wr (if o ≤ 2 then 6 else 7) b y
    | _,_ => [])
   else if k = 6 then wr 5 a x ++ sgT (cmpS o) :: (match ar,xs with
    | b :: _,y :: _ => wr 5 b y
    | _,_ => [])
   else if k = 7 then wr 5 a x ++ wdT wIs :: (if o = 1 then [wdT wNot,wdT wNull] else [wdT wNull])
   else if k = 8 then wdT wNot :: wr 3 a x
   else if k = 9 then wr 3 a x ++ rowM wAnd 3 ar xs
   else wr 2 a x ++ rowM wOr 2 ar xs
  | _,_ => []

mutual
def tB : Ex → List T
 | .mk k o v t n ks _ => tF k o v t n ks (tBs ks)
def tBs : List Ex → List (List T)
 | [] => []
 | e :: l => tB e :: tBs l
end

def tE (need : Nat) (e : Ex) : List T:=wr need e (tB e)

theorem tBs_map : ∀ l,tBs l = l.map tB
 | [] => by rw [tBs]; rfl
 | e :: l => by rw [tBs,tBs_map l]; rfl

theorem tB_mk (k o : Int) (v : V3) (t n : ByteArray) (ks : List Ex) (p : Int) : tB (.mk k o v t n ks p) = tF k o v t n ks (ks.map tB):=by rw [tB,tBs_map]

theorem sees_sg (b x : List UInt8) (l : List T) (c p : Int) : (⟨sgT b :: l,c,p⟩ : PS).sees x = (b == x):=by
 show ((decide ((7 : Int) = 4) || decide ((7 : Int) = 7)) && ((ofL b).data.toList == x)) = _
 rw [list_ofL]
 simp

theorem sees_wd (b x : List UInt8) (l : List T) (c p : Int) : (⟨wdT b :: l,c,p⟩ : PS).sees x = (b == x):=by
 show ((decide ((4 : Int) = 4) || decide ((4 : Int) = 7)) && ((ofL b).data.toList == x)) = _
 rw [list_ofL]
 simp

theorem sees_kd {k n : Int} {s : ByteArray} {q : Nat} (h4 : k ≠ 4) (h7 : k ≠ 7) (x : List UInt8) (l : List T) (c p : Int) : (⟨((k,n,s),q) :: l,c,p⟩ : PS).sees x = false:=by
 show ((decide (k = 4) || decide (k = 7)) && _) = false
 simp [h4,h7]

structure Stp (n : Nat) (s : PS) : Prop where
 dot : s.sees [46] = false
 prod : n ≤ 6 → opOf s prodO = 0
 sum : n ≤ 5 → opOf s sumO = 0
 is : n ≤ 4 → s.sees wIs = false
 cmp : n ≤ 4 → opOf s cmpO = 0
 and : n ≤ 2 → s.sees wAnd = false
 or : n ≤ 1 → s.sees wOr = false

theorem Stp.mono {n m : Nat} {s : PS} (h : Stp n s) (hn : n ≤ m) : Stp m s:=⟨h.dot,fun k => h.prod (by omega),fun k => h.sum (by omega),fun k => h.is (by omega),fun k => h.cmp (by omega),fun k => h.and (by omega),fun k => h.or (by omega)⟩

theorem prodL_stop {s : PS} {x : Ex} (h : opOf s prodO = 0) : Pr (.prodL x) s (.ok x s):=⟨1,by rw [pX,if_pos h]⟩

theorem sumL_stop {s : PS} {x : Ex} (h : opOf s sumO = 0) : Pr (.sumL x) s (.ok x s):=⟨1,by rw [pX,if_pos h]⟩

theorem lift76 {s s1 : PS} {x : Ex} {r : Res Ex} (h : Pr .fact s (.ok x s1)) (k : Pr (.prodL x) s1 r) : Pr .prod s r:=by
 obtain ⟨m,k⟩:=k
 exact Pr.bind (g1:=.fact) (s0:=s) (f:=fun n l s1 => pX n (.prodL l) s1) (fun n => by rw [pX]) h ⟨m,fun q hq => pX_le hq k⟩

theorem lift65 {s s1 : PS} {x : Ex} {r : Res Ex} (h : Pr .prod s (.ok x s1)) (k : Pr (.sumL x) s1 r) : Pr .sum s r:=by
 obtain ⟨m,k⟩:=k
 exact Pr.bind (g1:=.prod) (s0:=s) (f:=fun n l s1 => pX n (.sumL l) s1) (fun n => by rw [pX]) h ⟨m,fun q hq => pX_le hq k⟩

theorem lift54 {s s1 : PS} {x : Ex} (h : Pr .sum s (.ok x s1)) (h1 : s1.sees wIs = false) (h2 : opOf s1 cmpO = 0) : Pr .test s (.ok x s1):=by
 obtain ⟨m,h⟩:=h
 refine ⟨m + 1,?_⟩
 rw [pX,bindR_ok h,if_neg (by rw [h1]; simp),if_pos h2]

theorem lift43 {s s1 : PS} {x : Ex} (h : Pr .test s (.ok x s1)) (h1 : s.sees wNot = false) : Pr .not s (.ok x s1):=by
 obtain ⟨m,h⟩:=h
 refine ⟨m + 1,?_⟩
 rw [pX,if_neg (by rw [h1]; simp)]
 exact h

theorem lift32 {s s1 : PS} {x : Ex} (h : Pr .not s (.ok x s1)) (h1 : s1.sees wAnd = false) : Pr .and s (.ok x s1):=by
 obtain ⟨m,h⟩:=h
 refine ⟨m + 1,?_⟩
 rw [pX,bindR_ok h,if_neg (by rw [h1]; simp)]

theorem lift21 {s s1 : PS} {x : Ex} (h : Pr .and s (.ok x s1)) (h1 : s1.sees wOr = false) : Pr .or s (.ok x s1):=by
 obtain ⟨m,h⟩:=h
 refine ⟨m + 1,?_⟩
 rw [pX,bindR_ok h,if_neg (by rw [h1]; simp)]

theorem brack {l rest : List T} {c p : Int} {x : Ex} (h : Pr .or ⟨l ++ sgT [41] :: rest,c,p⟩ (.ok x ⟨sgT [41] :: rest,c,p⟩)) : Pr .fact ⟨sgT [40] :: (l ++ [sgT [41]]) ++ rest,c,p⟩ (.ok x ⟨rest,c,p⟩):=by
 obtain ⟨m,h⟩:=h
 refine ⟨m + 1,?_⟩
 have e : sgT [40] :: (l ++ [sgT [41]]) ++ rest = sgT [40] :: (l ++ sgT [41] :: rest):=by simp
 rw [e,pX,if_neg (by rw [sees_sg]; decide),if_pos (by rw [sees_sg]; decide)]
 have hn : (PS.next ⟨sgT [40] :: (l ++ sgT [41] :: rest),c,p⟩) = ⟨l ++ sgT [41] :: rest,c,p⟩:=rfl
 rw [hn,bindR_ok h,if_pos (by rw [sees_sg]; decide)]
 rfl

theorem stp_close (n : Nat) (l : List T) (c p : Int) : Stp n ⟨sgT [41] :: l,c,p⟩:=by
 refine ⟨by rw [sees_sg]; decide,fun _ => ?_,fun _ => ?_,fun _ => by rw [sees_sg]; decide,fun _ => ?_,fun _ => by rw [sees_sg]; decide,fun _ => by rw [sees_sg]; decide⟩
 all_goals
  simp only [prodO,sumO,cmpO,opOf,sees_sg]
  decide

structure Rdg (c p : Int) (e : Ex) : Prop where
 hd : 4 ≤ rankX e → ∀ rest,(⟨tB e ++ rest,c,p⟩ : PS).sees wNot = false
 fact : ∀ rest,Stp 7 ⟨rest,c,p⟩ → Pr .fact ⟨tE 7 e ++ rest,c,p⟩ (.ok e.z ⟨rest,c,p⟩)
 prod : ∀ rest r,Stp 7 ⟨rest,c,p⟩ → Pr (.prodL e.z) ⟨rest,c,p⟩ r → Pr .prod ⟨tE 6 e ++ rest,c,p⟩ r
 sum : ∀ rest r,Stp 6 ⟨rest,c,p⟩ → Pr (.sumL e.z) ⟨rest,c,p⟩ r → Pr .sum ⟨tE 5 e ++ rest,c,p⟩ r
 not : ∀ rest,Stp 3 ⟨rest,c,p⟩ → Pr .not ⟨tE 3 e ++ rest,c,p⟩ (.ok e.z ⟨rest,c,p⟩)
 and : ∀ rest,Stp 2 ⟨rest,c,p⟩ → Pr .and ⟨tE 2 e ++ rest,c,p⟩ (.ok e.z ⟨rest,c,p⟩)
 or : ∀ rest,Stp 1 ⟨rest,c,p⟩ → Pr .or ⟨tE 1 e ++ rest,c,p⟩ (.ok e.z ⟨rest,c,p⟩)

theorem tE_bare {n : Nat} {e : Ex} (h : n ≤ rankX e) : tE n e = tB e:=by unfold tE wr; rw [if_neg (by omega)]

theorem tE_brack {n : Nat} {e : Ex} (h : rankX e < n) : tE n e = sgT [40] :: (tB e ++ [sgT [41]]):=by unfold tE wr; rw [if_pos h]

theorem rank_le (e : Ex) : 1 ≤ rankX e ∧ rankX e ≤ 7:=by
 obtain ⟨k,o,v,t,n,ks,p⟩:=e
 unfold rankX
 repeat' split
 all_goals omega

inductive Bare (c p : Int) (e : Ex) : Prop
 | r7 (hr : rankX e = 7) (h : ∀ rest,Stp 7 ⟨rest,c,p⟩ → Pr .fact ⟨tB e ++ rest,c,p⟩ (.ok e.z ⟨rest,c,p⟩)) : Bare c p e
 | r6 (hr : rankX e = 6) (h : ∀ rest r,Stp 7 ⟨rest,c,p⟩ → Pr (.prodL e.z) ⟨rest,c,p⟩ r → Pr .prod ⟨tB e ++ rest,c,p⟩ r) : Bare c p e
 | r5 (hr : rankX e = 5) (h : ∀ rest r,Stp 6 ⟨rest,c,p⟩ → Pr (.sumL e.z) ⟨rest,c,p⟩ r → Pr .sum ⟨tB e ++ rest,c,p⟩ r) : Bare c p e
 | r4 (hr : rankX e = 4) (h : ∀ rest,Stp 4 ⟨rest,c,p⟩ → Pr .test ⟨tB e ++ rest,c,p⟩ (.ok e.z ⟨rest,c,p⟩)) : Bare c p e
 | r3 (hr : rankX e = 3) (h : ∀ rest,Stp 3 ⟨rest,c,p⟩ → Pr .not ⟨tB e ++ rest,c,p⟩ (.ok e.z ⟨rest,c,p⟩)) : Bare c p e
 | r2 (hr : rankX e = 2) (h : ∀ rest,Stp 2 ⟨rest,c,p⟩ → Pr .and ⟨tB e ++ rest,c,p⟩ (.ok e.z ⟨rest,c,p⟩)) : Bare c p e
 | r1 (hr : rankX e = 1) (h : ∀ rest,Stp 1 ⟨rest,c,p⟩ → Pr .or ⟨tB e ++ rest,c,p⟩ (.ok e.z ⟨rest,c,p⟩)) : Bare c p e

theorem Bare.rdg {c p : Int} {e : Ex} (h : Bare c p e) (hd : 4 ≤ rankX e → ∀ rest,(⟨tB e ++ rest,c,p⟩ : PS).sees wNot = false) : Rdg c p e:=by
 -- bare,at each rank not above its own
 have b7 : 7 ≤ rankX e → ∀ rest,Stp 7 ⟨rest,c,p⟩ → Pr .fact ⟨tB e ++ rest,c,p⟩ (.ok e.z ⟨rest,c,p⟩):=fun hr => by
  cases h with
  | r7 _ h => exact h
  | r6 h | r5 h | r4 h | r3 h | r2 h | r1 h => omega
 have b6 : 6 ≤ rankX e → ∀ rest r,Stp 7 ⟨rest,c,p⟩ → Pr (.prodL e.z) ⟨rest,c,p⟩ r → Pr .prod ⟨tB e ++ rest,c,p⟩ r:=fun hr rest r hs k => by
  by_cases h7 : 7 ≤ rankX e
  ·exact lift76 (b7 h7 rest hs) k
  ·cases h with
   | r6 _ h => exact h rest r hs k
   | r7 h | r5 h | r4 h | r3 h | r2 h | r1 h => omega
 have b5 : 5 ≤ rankX e → ∀ rest r,Stp 6 ⟨rest,c,p⟩ → Pr (.sumL e.z) ⟨rest,c,p⟩ r → Pr .sum ⟨tB e ++ rest,c,p⟩ r:=fun hr rest r hs k => by
  by_cases h6 : 6 ≤ rankX e
  ·exact lift65 (b6 h6 rest _ (hs.mono (by omega)) (prodL_stop (hs.prod (by omega)))) k
  ·cases h with
   | r5 _ h => exact h rest r hs k
   | r7 h | r6 h | r4 h | r3 h | r2 h | r1 h => omega
 have b4 : 4 ≤ rankX e → ∀ rest,Stp 4 ⟨rest,c,p⟩ → Pr .test ⟨tB e ++ rest,c,p⟩ (.ok e.z ⟨rest,c,p⟩):=fun hr rest hs => by
  by_cases h5 : 5 ≤ rankX e
  ·exact lift54 (b5 h5 rest _ (hs.mono (by omega)) (sumL_stop (hs.sum (by omega)))) (hs.is (by omega)) (hs.cmp (by omega))
  ·cases h with
   | r4 _ h => exact h rest hs
   | r7 h | r6 h | r5 h | r3 h | r2 h | r1 h => omega
 have s34 : ∀ rest,Stp 3 ⟨rest,c,p⟩ → Stp 4 ⟨rest,c,p⟩:=fun rest hs => hs.mono (by omega)
 have b3 : 3 ≤ rankX e → ∀ rest,Stp 3 ⟨rest,c,p⟩ → Pr .not ⟨tB e ++ rest,c,p⟩ (.ok e.z ⟨rest,c,p⟩):=fun hr rest hs => by
  by_cases h4 : 4 ≤ rankX e
  ·exact lift43 (b4 h4 rest (s34 rest hs)) (hd h4 rest)
  ·cases h with
   | r3 _ h => exact h rest hs
   | r7 h | r6 h | r5 h | r4 h | r2 h | r1 h => omega
 have b2 : 2 ≤ rankX e → ∀ rest,Stp 2 ⟨rest,c,p⟩ → Pr .and ⟨tB e ++ rest,c,p⟩ (.ok e.z ⟨rest,c,p⟩):=fun hr rest hs => by
  by_cases h3 : 3 ≤ rankX e
  ·exact lift32 (b3 h3 rest (hs.mono (by omega))) (hs.and (by omega))
  ·cases h with
   | r2 _ h => exact h rest hs
   | r7 h | r6 h | r5 h | r4 h | r3 h | r1 h => omega
 have b1 : ∀ rest,Stp 1 ⟨rest,c,p⟩ → Pr .or ⟨tB e ++ rest,c,p⟩ (.ok e.z ⟨rest,c,p⟩):=fun rest hs => by
  by_cases h2 : 2 ≤ rankX e
  ·exact lift21 (b2 h2 rest (hs.mono (by omega))) (hs.or (by omega))
  ·have:=rank_le e
   cases h with
   | r1 _ h => exact h rest hs
   | r7 h | r6 h | r5 h | r4 h | r3 h | r2 h => omega
 -- in brackets
 have kb : ∀ rest,Pr .fact ⟨sgT [40] :: (tB e ++ [sgT [41]]) ++ rest,c,p⟩ (.ok e.z ⟨rest,c,p⟩):=fun rest => brack (b1 _ (stp_close 1 rest c p))
 have hnb : ∀ rest,(⟨sgT [40] :: (tB e ++ [sgT [41]]) ++ rest,c,p⟩ : PS).sees wNot = false:=fun rest => by
  rw [List.cons_append,sees_sg]
  decide
 have k6 : ∀ rest r,Pr (.prodL e.z) ⟨rest,c,p⟩ r → Pr .prod ⟨sgT [40] :: (tB e ++ [sgT [41]]) ++ rest,c,p⟩ r:=fun rest r k => lift76 (kb rest) k
 have k5 : ∀ rest r,Stp 6 ⟨rest,c,p⟩ → Pr (.sumL e.z) ⟨rest,c,p⟩ r → Pr .sum ⟨sgT [40] :: (tB e ++ [sgT [41]]) ++ rest,c,p⟩ r:=fun rest r hs k => lift65 (k6 rest _ (prodL_stop (hs.prod (by omega)))) k
 have k4 : ∀ rest,Stp 4 ⟨rest,c,p⟩ → Pr .test ⟨sgT [40] :: (tB e ++ [sgT [41]]) ++ rest,c,p⟩ (.ok e.z ⟨rest,c,p⟩):=fun rest hs => lift54 (k5 rest _ (hs.mono (by omega)) (sumL_stop (hs.sum (by omega)))) (hs.is (by omega)) (hs.cmp (by omega))
 have k3 : ∀ rest,Stp 3 ⟨rest,c,p⟩ → Pr .not ⟨sgT [40] :: (tB e ++ [sgT [41]]) ++ rest,c,p⟩ (.ok e.z ⟨rest,c,p⟩):=fun rest hs => lift43 (k4 rest (s34 rest hs)) (hnb rest)
 have k2 : ∀ rest,Stp 2 ⟨rest,c,p⟩ → Pr .and ⟨sgT [40] :: (tB e ++ [sgT [41]]) ++ rest,c,p⟩ (.ok e.z ⟨rest,c,p⟩):=fun rest hs => lift32 (k3 rest (hs.mono (by omega))) (hs.and (by omega))
 refine ⟨hd,fun rest hs => ?_,fun rest r hs k => ?_,fun rest r hs k => ?_,fun rest hs => ?_,fun rest hs => ?_,fun rest hs => ?_⟩
 ·by_cases hr : 7 ≤ rankX e
  ·rw [tE_bare hr]; exact b7 hr rest hs
  ·rw [tE_brack (by omega)]; exact kb rest
 ·by_cases hr : 6 ≤ rankX e
  ·rw [tE_bare hr]; exact b6 hr rest r hs k
  ·rw [tE_brack (by omega)]; exact k6 rest r k
 ·by_cases hr : 5 ≤ rankX e
  ·rw [tE_bare hr]; exact b5 hr rest r hs k
  ·rw [tE_brack (by omega)]; exact k5 rest r hs k
 ·by_cases hr : 3 ≤ rankX e
  ·rw [tE_bare hr]; exact b3 hr rest hs
  ·rw [tE_brack (by omega)]; exact k3 rest hs
 ·by_cases hr : 2 ≤ rankX e
  ·rw [tE_bare hr]; exact b2 hr rest hs
  ·rw [tE_brack (by omega)]; exact k2 rest hs
 ·rw [tE_bare (rank_le e).1]; exact b1 rest hs

theorem blank_of {s : ByteArray} (h : s.toList.isEmpty = true) : s = ⟨#[]⟩:=by
 rw [ByteArray.toList_eq,List.isEmpty_iff] at h
 rw [← ofL_list s,h]
 rfl

theorem lit_read {v : V3} (h : litOk v) (rest : List T) (c p : Int) : litR ⟨litT v :: rest,c,p⟩ = .ok v ⟨rest,c,p⟩ ∧ (⟨litT v :: rest,c,p⟩ : PS).sees [45] = false ∧ (⟨litT v :: rest,c,p⟩ : PS).sees [40] = false ∧ (⟨litT v :: rest,c,p⟩ : PS).sees wNot = false ∧ (litT v).1.1 ≠ 3 ∧ (litT v).1.1 ≠ 6:=by
 obtain ⟨hr,h0⟩:=h
 obtain ⟨k,n,s⟩:=v
 unfold rgt at hr
 simp only at hr h0
 by_cases k0 : k = 0
 ·subst k0
  simp only [if_true,Bool.and_eq_true,beq_iff_eq] at hr
  obtain ⟨rfl,h2⟩:=hr
  rw [blank_of h2]
  have e : litT (0,0,⟨#[]⟩) = wdT wNull:=rfl
  rw [e]
  refine ⟨?_,by rw [sees_wd]; decide,by rw [sees_wd]; decide,by rw [sees_wd]; decide,by decide,by decide⟩
  unfold litR
  rw [if_pos (by rw [sees_wd]; decide)]
  rfl
 rw [if_neg k0] at hr
 by_cases k1 : k = 1
 ·subst k1
  simp only [if_true,Bool.and_eq_true] at hr
  rw [blank_of hr.2]
  have e : litT (1,n,⟨#[]⟩) = ((2,n,⟨#[]⟩),0):=rfl
  rw [e]
  refine ⟨?_,sees_kd (by decide) (by decide) _ _ _ _,sees_kd (by decide) (by decide) _ _ _ _,sees_kd (by decide) (by decide) _ _ _ _,by show (2 : Int) ≠ 3; decide,by show (2 : Int) ≠ 6; decide⟩
  unfold litR
  rw [sees_kd (by decide) (by decide),sees_kd (by decide) (by decide),sees_kd (by decide) (by decide)]
  rfl
 rw [if_neg k1] at hr
 by_cases k2 : k = 2
 ·subst k2
  simp only [if_true,Bool.and_eq_true,Bool.or_eq_true,beq_iff_eq] at hr
  obtain ⟨h1,h2⟩:=hr
  rw [blank_of h2]
  rcases h1 with rfl | rfl
  ·have e : litT (2,0,⟨#[]⟩) = wdT wFalse:=rfl
   rw [e]
   refine ⟨?_,by rw [sees_wd]; decide,by rw [sees_wd]; decide,by rw [sees_wd]; decide,by decide,by decide⟩
   unfold litR
   rw [if_neg (by rw [sees_wd]; decide),if_pos (by rw [sees_wd]; decide)]
   rfl
  ·have e : litT (2,1,⟨#[]⟩) = wdT wTrue:=rfl
   rw [e]
   refine ⟨?_,by rw [sees_wd]; decide,by rw [sees_wd]; decide,by rw [sees_wd]; decide,by decide,by decide⟩
   unfold litR
   rw [if_neg (by rw [sees_wd]; decide),if_neg (by rw [sees_wd]; decide),if_pos (by rw [sees_wd]; decide)]
   rfl
 rw [if_neg k2] at hr
 by_cases k3 : k = 3
 ·subst k3
  simp only [if_true,Bool.and_eq_true,beq_iff_eq] at hr
  obtain ⟨rfl,_⟩:=hr
  have e : litT (3,0,s) = ((5,0,s),0):=rfl
  rw [e]
  refine ⟨?_,sees_kd (by decide) (by decide) _ _ _ _,sees_kd (by decide) (by decide) _ _ _ _,sees_kd (by decide) (by decide) _ _ _ _,by show (5 : Int) ≠ 3; decide,by show (5 : Int) ≠ 6; decide⟩
  unfold litR
  rw [sees_kd (by decide) (by decide),sees_kd (by decide) (by decide),sees_kd (by decide) (by decide)]
  rfl
 rw [if_neg k3] at hr
 cases hr

theorem hdE {c p : Int} {a : Ex} (h : Rdg c p a) {n : Nat} (hn : 4 ≤ n) (rest : List T) : (⟨tE n a ++ rest,c,p⟩ : PS).sees wNot = false:=by
 by_cases hr : rankX a < n
 ·rw [tE_brack hr,List.cons_append,sees_sg]
  decide
 ·rw [tE_bare (by omega)]
  exact h.hd (by omega) rest

theorem ari_sum {o : Int} (h : o = 1 ∨ o = 2) (l : List T) (c p : Int) : opOf ⟨sgT (ariS o) :: l,c,p⟩ sumO = o ∧ opOf ⟨sgT (ariS o) :: l,c,p⟩ prodO = 0 ∧ (⟨sgT (ariS o) :: l,c,p⟩ : PS).sees [46] = false:=by
 simp only [sumO,prodO,opOf,sees_sg]
 rcases h with rfl | rfl <;> decide

theorem ari_prod {o : Int} (h : o = 3 ∨ o = 4 ∨ o = 5) (l : List T) (c p : Int) : opOf ⟨sgT (ariS o) :: l,c,p⟩ prodO = o ∧ (⟨sgT (ariS o) :: l,c,p⟩ : PS).sees [46] = false:=by
 simp only [prodO,opOf,sees_sg]
 rcases h with rfl | rfl | rfl <;> decide

theorem cmp_op {o : Int} (h1 : 1 ≤ o) (h2 : o ≤ 6) (l : List T) (c p : Int) : opOf ⟨sgT (cmpS o) :: l,c,p⟩ cmpO = o ∧ opOf ⟨sgT (cmpS o) :: l,c,p⟩ sumO = 0 ∧ opOf ⟨sgT (cmpS o) :: l,c,p⟩ prodO = 0 ∧ (⟨sgT (cmpS o) :: l,c,p⟩ : PS).sees [46] = false ∧ (⟨sgT (cmpS o) :: l,c,p⟩ : PS).sees wIs = false:=by
 simp only [cmpO,sumO,prodO,opOf,sees_sg]
 rcases (by omega : o = 1 ∨ o = 2 ∨ o = 3 ∨ o = 4 ∨ o = 5 ∨ o = 6) with rfl | rfl | rfl | rfl | rfl | rfl <;> decide

theorem wd_ops {b : List UInt8} (h : b = wIs ∨ b = wAnd ∨ b = wOr) (l : List T) (c p : Int) : opOf ⟨wdT b :: l,c,p⟩ cmpO = 0 ∧ opOf ⟨wdT b :: l,c,p⟩ sumO = 0 ∧ opOf ⟨wdT b :: l,c,p⟩ prodO = 0 ∧ (⟨wdT b :: l,c,p⟩ : PS).sees [46] = false:=by
 simp only [cmpO,sumO,prodO,opOf,sees_wd]
 rcases h with rfl | rfl | rfl <;> decide

theorem row_read {c p : Int} {b : Bool} {rest : List T} (hs : Stp (if b then 1 else 2) ⟨rest,c,p⟩) : ∀ (es : List Ex) (acc : List Ex),(∀ e ∈ es,Rdg c p e) → acc.length + es.length ≤ 8 → 1 ≤ acc.length → Pr (.rowL b 0 acc) ⟨rowM (if b then wOr else wAnd) (if b then 2 else 3) es (es.map tB) ++ rest,c,p⟩ (.ok (over (if b then 10 else 9) 0 0 (acc ++ es.map Ex.z)) ⟨rest,c,p⟩)
 | [],acc,_,_,_ => by
  refine ⟨1,?_⟩
  have hn : (⟨rest,c,p⟩ : PS).sees (if b then wOr else wAnd) = false:=by
   cases b
   ·exact hs.and (by decide)
   ·exact hs.or (by decide)
  show pX 1 (.rowL b 0 acc) ⟨[] ++ rest,c,p⟩ = _
  rw [List.nil_append,pX,if_neg (by rw [hn]; simp),List.map_nil,List.append_nil]
 | e :: es,acc,hall,hlen,h1 => by
  have he:=hall e (by simp)
  obtain ⟨m,hm⟩:=row_read hs es (acc ++ [e.z]) (fun x hx => hall x (by simp [hx])) (by simp at hlen ⊢; omega) (by simp)
  rw [List.append_assoc] at hm
  have hrest : Stp (if b then 2 else 3) ⟨rowM (if b then wOr else wAnd) (if b then 2 else 3) es (es.map tB) ++ rest,c,p⟩:=by
   cases es with
   | nil =>
    show Stp _ ⟨[] ++ rest,c,p⟩
    rw [List.nil_append]
    exact hs.mono (by cases b <;> decide)
   | cons f fs =>
    show Stp _ ⟨wdT _ :: _,c,p⟩
    cases b with
    | false =>
     obtain ⟨w1,w2,w3,w4⟩:=wd_ops (Or.inr (Or.inl rfl)) (wr 3 f (tB f) ++ rowM wAnd 3 fs (fs.map tB) ++ rest) c p
     exact ⟨w4,fun _ => w3,fun _ => w2,fun _ => (by show (⟨wdT wAnd :: _,c,p⟩ : PS).sees wIs = false; rw [sees_wd]; decide),fun _ => w1,fun h => absurd h (by decide),fun h => absurd h (by decide)⟩
    | true =>
     obtain ⟨w1,w2,w3,w4⟩:=wd_ops (Or.inr (Or.inr rfl)) (wr 2 f (tB f) ++ rowM wOr 2 fs (fs.map tB) ++ rest) c p
     exact ⟨w4,fun _ => w3,fun _ => w2,fun _ => (by show (⟨wdT wOr :: _,c,p⟩ : PS).sees wIs = false; rw [sees_wd]; decide),fun _ => w1,fun _ => (by show (⟨wdT wOr :: _,c,p⟩ : PS).sees wAnd = false; rw [sees_wd]; decide),fun h => absurd h (by decide)⟩
  have hk : Pr (if b then .and else .not) ⟨tE (if b then 2 else 3) e ++ (rowM (if b then wOr else wAnd) (if b then 2 else 3) es (es.map tB) ++ rest),c,p⟩ (.ok e.z ⟨rowM (if b then wOr else wAnd) (if b then 2 else 3) es (es.map tB) ++ rest,c,p⟩):=by
   cases b
   ·exact he.not _ hrest
   ·exact he.and _ hrest
  obtain ⟨q,hq⟩:=hk
  refine ⟨max m q + 1,?_⟩
  have e1 : rowM (if b then wOr else wAnd) (if b then 2 else 3) (e :: es) ((e :: es).map tB) ++ rest = wdT (if b then wOr else wAnd) :: (tE (if b then 2 else 3) e ++ (rowM (if b then wOr else wAnd) (if b then 2 else 3) es (es.map tB) ++ rest)):=by
   show wdT _ :: (_ ++ _) ++ rest = _
   rw [List.cons_append,List.append_assoc]
   rfl
  rw [e1,pX,if_pos (by rw [sees_wd]; simp)]
  have hn : (PS.next ⟨wdT (if b then wOr else wAnd) :: (tE (if b then 2 else 3) e ++ (rowM (if b then wOr else wAnd) (if b then 2 else 3) es (es.map tB) ++ rest)),c,p⟩).cnt acc.length 8 = ⟨tE (if b then 2 else 3) e ++ (rowM (if b then wOr else wAnd) (if b then 2 else 3) es (es.map tB) ++ rest),c,p⟩:=by
   unfold PS.cnt
   rw [if_neg (by intro h; simp at hlen; omega)]
   rfl
  rw [hn,bindR_ok (pX_le (Nat.le_max_right m q) hq)]
  have:=pX_le (Nat.le_max_left m q) hm
  rw [List.map_cons]
  exact this

theorem v0_of {v : V3} (h1 : v.1 = 0) (h2 : v.2.1 = 0) (h3 : v.2.2 = ⟨#[]⟩) : v = v0:=by
 obtain ⟨a,b,d⟩:=v
 simp only at h1 h2 h3
 subst h1 h2 h3
 rfl

theorem one_of_len {l : List Ex} (h : l.length = 1) : ∃ a,l = [a]:=List.length_eq_one_iff.1 h

theorem two_of_len {l : List Ex} (h : l.length = 2) : ∃ a b,l = [a,b]:=by
 match l,h with
 | [a,b],_ => exact ⟨a,b,rfl⟩

theorem hd_cons (t : T) (l : List T) (c p : Int) : (⟨t :: l,c,p⟩ : PS).hd = t:=rfl

theorem rdg_leaf {c p : Int} {k o : Int} {v : V3} {t n : ByteArray} {q : Int} (hk : k = 1 ∨ k = 2 ∨ k = 3) (ho : o = 0) (hw : wdOk (.mk k o v t n [] q)) : Rdg c p (.mk k o v t n [] q):=by
  subst ho
  have hr : rankX (.mk k 0 v t n [] q) = 7:=by rcases hk with rfl | rfl | rfl <;> rfl
  rcases hk with rfl | rfl | rfl
  · obtain ⟨rfl,rfl,hl⟩:=hw.1 rfl
    have ht : tB (.mk 1 0 v ⟨#[]⟩ ⟨#[]⟩ [] q) = [litT v]:=by rw [tB_mk]; rfl
    have hz : (Ex.mk 1 0 v ⟨#[]⟩ ⟨#[]⟩ [] q).z = .mk 1 0 v ⟨#[]⟩ ⟨#[]⟩ [] 0:=z_mk _ _ _ _ _ _ _
    refine Bare.rdg (.r7 hr fun rest _ => ?_) fun _ rest => ?_
    · obtain ⟨l1,l2,l3,_,l5,l6⟩:=lit_read hl rest c p
      refine ⟨1,?_⟩
      rw [ht,hz]
      show pX 1 .fact ⟨litT v :: rest,c,p⟩ = _
      rw [pX,if_neg (by rw [l2]; simp),if_neg (by rw [l3]; simp),hd_cons,if_neg l5,if_neg l6,l1]
      have : (litT v).2 = 0 := by unfold litT; repeat' split
                                  all_goals rfl
      show some (Res.ok (Ex.mk 1 0 v ⟨#[]⟩ ⟨#[]⟩ [] ((litT v).2 : Int)) _) = _
      rw [this]
      rfl
    · rw [ht]
      exact (lit_read hl rest c p).2.2.2.1
  · obtain ⟨rfl,hn,h1,h2,h3⟩:=hw.2.1 rfl
    rw [v0_of h1 h2 h3] at hr ⊢
    have ht : tB (.mk 2 0 v0 ⟨#[]⟩ n [] q) = [((6,0,n),0)]:=by rw [tB_mk]; rfl
    have hz : (Ex.mk 2 0 v0 ⟨#[]⟩ n [] q).z = .mk 2 0 v0 ⟨#[]⟩ n [] 0:=z_mk _ _ _ _ _ _ _
    refine Bare.rdg (.r7 hr fun rest _ => ?_) fun _ rest => ?_
    · refine ⟨1,?_⟩
      rw [ht,hz]
      show pX 1 .fact ⟨((6,0,n),0) :: rest,c,p⟩ = _
      rw [pX,if_neg (by rw [sees_kd (by decide) (by decide)]; simp),if_neg (by rw [sees_kd (by decide) (by decide)]; simp),hd_cons,if_neg (show ¬ (((6,0,n),0) : T).1.1 = 3 from by show ¬ (6 : Int) = 3; decide),if_pos (show (((6,0,n),0) : T).1.1 = 6 from rfl)]
      rfl
    · rw [ht]
      exact sees_kd (by decide) (by decide) _ _ _ _
  · obtain ⟨htn,hn,h1,h2,h3⟩:=hw.2.2.1 rfl
    rw [v0_of h1 h2 h3] at hr ⊢
    have hz : (Ex.mk 3 0 v0 t n [] q).z = .mk 3 0 v0 t n [] 0:=z_mk _ _ _ _ _ _ _
    by_cases et : t = ⟨#[]⟩
    · subst et
      have ht : tB (.mk 3 0 v0 ⟨#[]⟩ n [] q) = [((3,0,n),0)]:=by rw [tB_mk]; rfl
      refine Bare.rdg (.r7 hr fun rest hs => ?_) fun _ rest => ?_
      · refine ⟨1,?_⟩
        rw [ht,hz]
        show pX 1 .fact ⟨((3,0,n),0) :: rest,c,p⟩ = _
        rw [pX,if_neg (by rw [sees_kd (by decide) (by decide)]; simp),if_neg (by rw [sees_kd (by decide) (by decide)]; simp),hd_cons,if_pos (show (((3,0,n),0) : T).1.1 = 3 from rfl)]
        have hnm : nameR ⟨((3,0,n),0) :: rest,c,p⟩ = .ok n ⟨rest,c,p⟩:=by unfold nameR; exact if_pos rfl
        unfold colR
        rw [hnm]
        simp only
        rw [if_neg (by rw [hs.dot]; simp)]
        rfl
      · rw [ht]
        exact sees_kd (by decide) (by decide) _ _ _ _
    · have ht : tB (.mk 3 0 v0 t n [] q) = [((3,0,t),0),sgT [46],((3,0,n),0)]:=by
        rw [tB_mk]
        show (if t = ⟨#[]⟩ then _ else _) = _
        rw [if_neg et]
      refine Bare.rdg (.r7 hr fun rest _ => ?_) fun _ rest => ?_
      · refine ⟨1,?_⟩
        rw [ht,hz]
        show pX 1 .fact ⟨((3,0,t),0) :: sgT [46] :: ((3,0,n),0) :: rest,c,p⟩ = _
        rw [pX,if_neg (by rw [sees_kd (by decide) (by decide)]; simp),if_neg (by rw [sees_kd (by decide) (by decide)]; simp),hd_cons,if_pos (show (((3,0,t),0) : T).1.1 = 3 from rfl)]
        have hnm : nameR ⟨((3,0,t),0) :: sgT [46] :: ((3,0,n),0) :: rest,c,p⟩ = .ok t ⟨sgT [46] :: ((3,0,n),0) :: rest,c,p⟩:=by unfold nameR; exact if_pos rfl
        have hnn : nameR (PS.next ⟨sgT [46] :: ((3,0,n),0) :: rest,c,p⟩) = .ok n ⟨rest,c,p⟩:=by unfold nameR; exact if_pos rfl
        unfold colR
        rw [hnm]
        simp only
        rw [if_pos (by rw [sees_sg]; decide),hnn]
        rfl
      · rw [ht]
        exact sees_kd (by decide) (by decide) _ _ _ _

theorem z_kids1 {k o : Int} {a : Ex} {q : Int} : (Ex.mk k o v0 ⟨#[]⟩ ⟨#[]⟩ [a] q).z = over k o 0 [a.z]:=z_mk _ _ _ _ _ _ _

theorem z_kids2 {k o : Int} {a b : Ex} {q : Int} : (Ex.mk k o v0 ⟨#[]⟩ ⟨#[]⟩ [a,b] q).z = over k o 0 [a.z,b.z]:=z_mk _ _ _ _ _ _ _

theorem rdg_neg {c p : Int} {a : Ex} {q : Int} (ha : Rdg c p a) : Rdg c p (.mk 4 0 v0 ⟨#[]⟩ ⟨#[]⟩ [a] q):=by
 have ht : tB (.mk 4 0 v0 ⟨#[]⟩ ⟨#[]⟩ [a] q) = sgT [45] :: tE 7 a:=by rw [tB_mk]; rfl
 refine Bare.rdg (.r7 rfl fun rest hs => ?_) fun _ rest => ?_
 ·obtain ⟨m,hm⟩:=ha.fact rest hs
  refine ⟨m + 1,?_⟩
  rw [ht,z_kids1,List.cons_append,pX,if_pos (by rw [sees_sg]; decide)]
  have hn : PS.next ⟨sgT [45] :: (tE 7 a ++ rest),c,p⟩ = ⟨tE 7 a ++ rest,c,p⟩:=rfl
  rw [hn,bindR_ok hm]
  rfl
 ·rw [ht,List.cons_append,sees_sg]
  decide

theorem rdg_not {c p : Int} {a : Ex} {q : Int} (ha : Rdg c p a) : Rdg c p (.mk 8 0 v0 ⟨#[]⟩ ⟨#[]⟩ [a] q):=by
 have ht : tB (.mk 8 0 v0 ⟨#[]⟩ ⟨#[]⟩ [a] q) = wdT wNot :: tE 3 a:=by rw [tB_mk]; rfl
 refine Bare.rdg (.r3 rfl fun rest hs => ?_) fun h _ => absurd h (by show ¬ 4 ≤ 3; decide)
 obtain ⟨m,hm⟩:=ha.not rest hs
 refine ⟨m + 1,?_⟩
 rw [ht,z_kids1,List.cons_append,pX,if_pos (by rw [sees_wd]; decide)]
 have hn : PS.next ⟨wdT wNot :: (tE 3 a ++ rest),c,p⟩ = ⟨tE 3 a ++ rest,c,p⟩:=rfl
 rw [hn,bindR_ok hm]
 rfl

theorem rdg_null {c p : Int} {o : Int} {a : Ex} {q : Int} (ho : o = 0 ∨ o = 1) (ha : Rdg c p a) : Rdg c p (.mk 7 o v0 ⟨#[]⟩ ⟨#[]⟩ [a] q):=by
 have ht : tB (.mk 7 o v0 ⟨#[]⟩ ⟨#[]⟩ [a] q) = tE 5 a ++ wdT wIs :: (if o = 1 then [wdT wNot,wdT wNull] else [wdT wNull]):=by rw [tB_mk]; rfl
 refine Bare.rdg (.r4 rfl fun rest hs => ?_) fun _ rest => ?_
 ·obtain ⟨w1,w2,w3,w4⟩:=wd_ops (b:=wIs) (Or.inl rfl) ((if o = 1 then [wdT wNot,wdT wNull] else [wdT wNull]) ++ rest) c p
  obtain ⟨m,hm⟩:=ha.sum (wdT wIs :: ((if o = 1 then [wdT wNot,wdT wNull] else [wdT wNull]) ++ rest)) _ ⟨w4,fun _ => w3,fun h => absurd h (by decide),fun h => absurd h (by decide),fun h => absurd h (by decide),fun h => absurd h (by decide),fun h => absurd h (by decide)⟩ (sumL_stop w2)
  refine ⟨m + 1,?_⟩
  rw [ht,z_kids1,List.append_assoc,List.cons_append,pX,bindR_ok hm,if_pos (by rw [sees_wd]; decide)]
  rcases ho with rfl | rfl
  ·show (let s2:=(⟨wdT wNull :: rest,c,p⟩ : PS); let op : Int:=if s2.sees wNot = true then 1 else 0; let s3:=if s2.sees wNot = true then s2.next else s2; if s3.sees wNull = true then some (Res.ok (over 7 op 0 [a.z]) s3.next) else some (.bad s3.hd.2)) = _
   simp only [sees_wd]
   rfl
  ·show (let s2:=(⟨wdT wNot :: wdT wNull :: rest,c,p⟩ : PS); let op : Int:=if s2.sees wNot = true then 1 else 0; let s3:=if s2.sees wNot = true then s2.next else s2; if s3.sees wNull = true then some (Res.ok (over 7 op 0 [a.z]) s3.next) else some (.bad s3.hd.2)) = _
   simp only [sees_wd]
   rfl
 ·rw [ht,List.append_assoc]
  exact hdE ha (by decide) _

theorem rdg_cmp {c p : Int} {o : Int} {a b : Ex} {q : Int} (h1 : 1 ≤ o) (h2 : o ≤ 6) (ha : Rdg c p a) (hb : Rdg c p b) : Rdg c p (.mk 6 o v0 ⟨#[]⟩ ⟨#[]⟩ [a,b] q):=by
 have ht : tB (.mk 6 o v0 ⟨#[]⟩ ⟨#[]⟩ [a,b] q) = tE 5 a ++ sgT (cmpS o) :: tE 5 b:=by rw [tB_mk]; rfl
 refine Bare.rdg (.r4 rfl fun rest hs => ?_) fun _ rest => ?_
 ·obtain ⟨w1,w2,w3,w4,w5⟩:=cmp_op h1 h2 (tE 5 b ++ rest) c p
  obtain ⟨m,hm⟩:=ha.sum (sgT (cmpS o) :: (tE 5 b ++ rest)) _ ⟨w4,fun _ => w3,fun h => absurd h (by decide),fun h => absurd h (by decide),fun h => absurd h (by decide),fun h => absurd h (by decide),fun h => absurd h (by decide)⟩ (sumL_stop w2)
  obtain ⟨m2,hm2⟩:=hb.sum rest _ (hs.mono (by decide)) (sumL_stop (hs.sum (by decide)))
  refine ⟨max m m2 + 1,?_⟩
  rw [ht,z_kids2,List.append_assoc,List.cons_append,pX,bindR_ok (pX_le (Nat.le_max_left m m2) hm),if_neg (by rw [w5]; simp),if_neg (by rw [w1]; omega),w1]
  have hn : PS.next ⟨sgT (cmpS o) :: (tE 5 b ++ rest),c,p⟩ = ⟨tE 5 b ++ rest,c,p⟩:=rfl
  rw [hn,bindR_ok (pX_le (Nat.le_max_right m m2) hm2)]
  rfl
 ·rw [ht,List.append_assoc]
  exact hdE ha (by decide) _

theorem rdg_ari {c p : Int} {o : Int} {a b : Ex} {q : Int} (h1 : 1 ≤ o) (h2 : o ≤ 5) (ha : Rdg c p a) (hb : Rdg c p b) : Rdg c p (.mk 5 o v0 ⟨#[]⟩ ⟨#[]⟩ [a,b] q):=by
 by_cases h : o ≤ 2
 ·have ht : tB (.mk 5 o v0 ⟨#[]⟩ ⟨#[]⟩ [a,b] q) = tE 5 a ++ sgT (ariS o) :: tE 6 b:=by
   rw [tB_mk]
   show wr (if o ≤ 2 then 5 else 6) a (tB a) ++ sgT (ariS o) :: wr (if o ≤ 2 then 6 else 7) b (tB b) = _
   rw [if_pos h,if_pos h]
   rfl
  have hr : rankX (.mk 5 o v0 ⟨#[]⟩ ⟨#[]⟩ [a,b] q) = 5:=by show (if o ≤ 2 then 5 else 6) = 5; rw [if_pos h]
  refine Bare.rdg (.r5 hr fun rest r hs k => ?_) fun _ rest => ?_
  ·obtain ⟨w1,w2,w3⟩:=ari_sum (show o = 1 ∨ o = 2 by omega) (tE 6 b ++ rest) c p
   rw [ht,List.append_assoc,List.cons_append]
   refine ha.sum _ r ⟨w3,fun _ => w2,fun h => absurd h (by decide),fun h => absurd h (by decide),fun h => absurd h (by decide),fun h => absurd h (by decide),fun h => absurd h (by decide)⟩ ?_
   obtain ⟨m2,hm2⟩:=hb.prod rest _ (hs.mono (by decide)) (prodL_stop (hs.prod (by decide)))
   rw [z_kids2] at k
   obtain ⟨m3,hm3⟩:=k
   refine ⟨max m2 m3 + 1,?_⟩
   rw [pX,if_neg (by rw [w1]; omega),w1]
   have hn : PS.next ⟨sgT (ariS o) :: (tE 6 b ++ rest),c,p⟩ = ⟨tE 6 b ++ rest,c,p⟩:=rfl
   rw [hn,bindR_ok (pX_le (Nat.le_max_left m2 m3) hm2)]
   exact pX_le (Nat.le_max_right m2 m3) hm3
  ·rw [ht,List.append_assoc]
   exact hdE ha (by decide) _
 ·have ht : tB (.mk 5 o v0 ⟨#[]⟩ ⟨#[]⟩ [a,b] q) = tE 6 a ++ sgT (ariS o) :: tE 7 b:=by
   rw [tB_mk]
   show wr (if o ≤ 2 then 5 else 6) a (tB a) ++ sgT (ariS o) :: wr (if o ≤ 2 then 6 else 7) b (tB b) = _
   rw [if_neg h,if_neg h]
   rfl
  have hr : rankX (.mk 5 o v0 ⟨#[]⟩ ⟨#[]⟩ [a,b] q) = 6:=by show (if o ≤ 2 then 5 else 6) = 6; rw [if_neg h]
  refine Bare.rdg (.r6 hr fun rest r hs k => ?_) fun _ rest => ?_
  ·obtain ⟨w1,w3⟩:=ari_prod (show o = 3 ∨ o = 4 ∨ o = 5 by omega) (tE 7 b ++ rest) c p
   rw [ht,List.append_assoc,List.cons_append]
   refine ha.prod _ r ⟨w3,fun h => absurd h (by decide),fun h => absurd h (by decide),fun h => absurd h (by decide),fun h => absurd h (by decide),fun h => absurd h (by decide),fun h => absurd h (by decide)⟩ ?_
   obtain ⟨m2,hm2⟩:=hb.fact rest hs
   rw [z_kids2] at k
   obtain ⟨m3,hm3⟩:=k
   refine ⟨max m2 m3 + 1,?_⟩
   rw [pX,if_neg (by rw [w1]; omega),w1]
   have hn : PS.next ⟨sgT (ariS o) :: (tE 7 b ++ rest),c,p⟩ = ⟨tE 7 b ++ rest,c,p⟩:=rfl
   rw [hn,bindR_ok (pX_le (Nat.le_max_left m2 m3) hm2)]
   exact pX_le (Nat.le_max_right m2 m3) hm3
  ·rw [ht,List.append_assoc]
   exact hdE ha (by decide) _

theorem rdg_row {c p : Int} {b : Bool} {a : Ex} {es : List Ex} {q : Int} (hl : es.length ≤ 7) (h1 : 1 ≤ es.length) (ha : Rdg c p a) (he : ∀ e ∈ es,Rdg c p e) : Rdg c p (.mk (if b then 10 else 9) 0 v0 ⟨#[]⟩ ⟨#[]⟩ (a :: es) q):=by
 obtain ⟨f,fs,rfl⟩ : ∃ f fs,es = f :: fs:=by
  cases es with
  | nil => simp at h1
  | cons f fs => exact ⟨f,fs,rfl⟩
 have hz : (Ex.mk (if b then 10 else 9) 0 v0 ⟨#[]⟩ ⟨#[]⟩ (a :: f :: fs) q).z = over (if b then 10 else 9) 0 0 ([a.z] ++ (f :: fs).map Ex.z):=z_mk _ _ _ _ _ _ _
 cases b with
 | false =>
  have ht : tB (.mk 9 0 v0 ⟨#[]⟩ ⟨#[]⟩ (a :: f :: fs) q) = tE 3 a ++ rowM wAnd 3 (f :: fs) ((f :: fs).map tB):=by rw [tB_mk]; rfl
  refine Bare.rdg (.r2 rfl fun rest hs => ?_) fun h _ => absurd h (by show ¬ 4 ≤ 2; decide)
  obtain ⟨m2,hm2⟩:=row_read (b:=false) hs (f :: fs) [a.z] he (by simp at hl ⊢; omega) (by simp)
  obtain ⟨w1,w2,w3,w4⟩:=wd_ops (b:=wAnd) (Or.inr (Or.inl rfl)) (wr 3 f (tB f) ++ rowM wAnd 3 fs (fs.map tB) ++ rest) c p
  obtain ⟨m,hm⟩:=ha.not (rowM wAnd 3 (f :: fs) ((f :: fs).map tB) ++ rest) ⟨w4,fun _ => w3,fun _ => w2,fun _ => (by show (⟨wdT wAnd :: _,c,p⟩ : PS).sees wIs = false; rw [sees_wd]; decide),fun _ => w1,fun h => absurd h (by decide),fun h => absurd h (by decide)⟩
  refine ⟨max m m2 + 1,?_⟩
  show pX (max m m2 + 1) .and ⟨tB (.mk 9 0 v0 ⟨#[]⟩ ⟨#[]⟩ (a :: f :: fs) q) ++ rest,c,p⟩ = some (.ok (Ex.z (.mk 9 0 v0 ⟨#[]⟩ ⟨#[]⟩ (a :: f :: fs) q)) _)
  rw [ht,List.append_assoc,pX,bindR_ok (pX_le (Nat.le_max_left m m2) hm)]
  rw [if_pos (by show (⟨wdT wAnd :: _,c,p⟩ : PS).sees wAnd = true; rw [sees_wd]; decide)]
  have:=pX_le (Nat.le_max_right m m2) hm2
  rw [show (Ex.mk 9 0 v0 ⟨#[]⟩ ⟨#[]⟩ (a :: f :: fs) q).z = _ from hz]
  exact this
 | true =>
  have ht : tB (.mk 10 0 v0 ⟨#[]⟩ ⟨#[]⟩ (a :: f :: fs) q) = tE 2 a ++ rowM wOr 2 (f :: fs) ((f :: fs).map tB):=by rw [tB_mk]; rfl
  refine Bare.rdg (.r1 rfl fun rest hs => ?_) fun h _ => absurd h (by show ¬ 4 ≤ 1; decide)
  obtain ⟨m2,hm2⟩:=row_read (b:=true) hs (f :: fs) [a.z] he (by simp at hl ⊢; omega) (by simp)
  obtain ⟨w1,w2,w3,w4⟩:=wd_ops (b:=wOr) (Or.inr (Or.inr rfl)) (wr 2 f (tB f) ++ rowM wOr 2 fs (fs.map tB) ++ rest) c p
  obtain ⟨m,hm⟩:=ha.and (rowM wOr 2 (f :: fs) ((f :: fs).map tB) ++ rest) ⟨w4,fun _ => w3,fun _ => w2,fun _ => (by show (⟨wdT wOr :: _,c,p⟩ : PS).sees wIs = false; rw [sees_wd]; decide),fun _ => w1,fun _ => (by show (⟨wdT wOr :: _,c,p⟩ : PS).sees wAnd = false; rw [sees_wd]; decide),fun h => absurd h (by decide)⟩
  refine ⟨max m m2 + 1,?_⟩
  show pX (max m m2 + 1) .or ⟨tB (.mk 10 0 v0 ⟨#[]⟩ ⟨#[]⟩ (a :: f :: fs) q) ++ rest,c,p⟩ = some (.ok (Ex.z (.mk 10 0 v0 ⟨#[]⟩ ⟨#[]⟩ (a :: f :: fs) q)) _)
  rw [ht,List.append_assoc,pX,bindR_ok (pX_le (Nat.le_max_left m m2) hm)]
  rw [if_pos (by show (⟨wdT wOr :: _,c,p⟩ : PS).sees wOr = true; rw [sees_wd]; decide)]
  have:=pX_le (Nat.le_max_right m m2) hm2
  rw [show (Ex.mk 10 0 v0 ⟨#[]⟩ ⟨#[]⟩ (a :: f :: fs) q).z = _ from hz]
  exact this

theorem rdg_all (c p : Int) {e : Ex} (h : RtI e) : ¬ isOver e → Rdg c p e:=by
 induction h with
 | @mk k o v t n ks q h1 h2 h3 h4 h5 _ h7 ih =>
  intro ho
  have hov : ¬ (k = 11 ∨ k = 12 ∨ k = 13 ∨ k = 14):=ho
  have hk : ∀ i (hi : i < ks.length),Rdg c p ks[i]:=fun i hi => ih i hi (h5 i hi)
  have hm : ∀ x ∈ ks,Rdg c p x:=fun x hx => by
   obtain ⟨i,hi,rfl⟩:=List.getElem_of_mem hx
   exact hk i hi
  by_cases k13 : k = 1 ∨ k = 2 ∨ k = 3
  ·have hf : formK k = (0,0,0,0):=by rcases k13 with rfl | rfl | rfl <;> decide
   rw [hf] at h1 h2 h4
   have : ks = []:=List.length_eq_zero_iff.1 (Nat.le_zero.1 h4)
   subst this
   exact rdg_leaf k13 (Int.le_antisymm h2 h1) h7
  obtain ⟨rfl,rfl,v1,v2,v3⟩:=h7.2.2.2 (by omega) (by omega) (by omega)
  rw [v0_of v1 v2 v3]
  by_cases k48 : k = 4 ∨ k = 8
  ·have hf : formK k = (0,0,1,1):=by rcases k48 with rfl | rfl <;> decide
   rw [hf] at h1 h2 h3 h4
   obtain ⟨a,rfl⟩:=one_of_len (Nat.le_antisymm h4 h3)
   obtain rfl : o = 0:=Int.le_antisymm h2 h1
   rcases k48 with rfl | rfl
   ·exact rdg_neg (hm a (by simp))
   ·exact rdg_not (hm a (by simp))
  by_cases k5 : k = 5
  ·subst k5
   rw [show formK 5 = (1,5,2,2) from by decide] at h1 h2 h3 h4
   obtain ⟨a,b,rfl⟩:=two_of_len (Nat.le_antisymm h4 h3)
   exact rdg_ari h1 h2 (hm a (by simp)) (hm b (by simp))
  by_cases k6 : k = 6
  ·subst k6
   rw [show formK 6 = (1,6,2,2) from by decide] at h1 h2 h3 h4
   obtain ⟨a,b,rfl⟩:=two_of_len (Nat.le_antisymm h4 h3)
   exact rdg_cmp h1 h2 (hm a (by simp)) (hm b (by simp))
  by_cases k7 : k = 7
  ·subst k7
   rw [show formK 7 = (0,1,1,1) from by decide] at h1 h2 h3 h4
   obtain ⟨a,rfl⟩:=one_of_len (Nat.le_antisymm h4 h3)
   have ho2 : o = 0 ∨ o = 1:=by simp only at h1 h2; omega
   exact rdg_null ho2 (hm a (by simp))
  by_cases k9 : k = 9 ∨ k = 10
  ·have hf : formK k = (0,0,2,8):=by rcases k9 with rfl | rfl <;> decide
   rw [hf] at h1 h2 h3 h4
   obtain rfl : o = 0:=Int.le_antisymm h2 h1
   cases ks with
   | nil => simp at h3
   | cons a es =>
    have hl : es.length ≤ 7:=by simp at h4; omega
    have h1' : 1 ≤ es.length:=by simp at h3; omega
    rcases k9 with rfl | rfl
    ·exact rdg_row (b:=false) hl h1' (hm a (by simp)) fun e he => hm e (by simp [he])
    ·exact rdg_row (b:=true) hl h1' (hm a (by simp)) fun e he => hm e (by simp [he])
  ·have hf : formK k = (0,0,1,0):=by
    unfold formK
    rw [if_neg (by omega),if_neg (by omega),if_neg k5,if_neg k6,if_neg k7,if_neg k9]
   rw [hf] at h3 h4
   simp only at h3 h4
   omega

theorem rdg_right (c p : Int) {e : Ex} (h : RtE e) : Rdg c p e:=rdg_all c p h.2 h.1

def nmT (n : ByteArray) : T:=((3,0,n),0)

def nuT (n : Int) : T:=((2,n,⟨#[]⟩),0)

def enT : T:=((1,0,⟨#[]⟩),0)

def sepT {α : Type} (f : α → List T) : List α → List T
 | [] => []
 | [a] => f a
 | a :: b :: l => f a ++ sgT [44] :: sepT f (b :: l)

def itT : Ex → List T
 | .mk k o v t n ks p =>
  if k = 11 then [wdT wCOUNT,sgT [40],sgT [42],sgT [41]]
  else if k = 12 ∨ k = 13 ∨ k = 14 then wdT (if k = 12 then wSUM else if k = 13 then wMIN else wMAX) :: sgT [40] :: ((match ks with
   | a :: _ => tE 1 a
   | [] => []) ++ [sgT [41]])
  else tE 1 (.mk k o v t n ks p)

def seT (x : Se) : List T:=nmT x.1 :: sgT [61] :: tE 1 x.2.1

def soT (x : So) : List T:=nuT x.1 :: (if x.2.1 then [wdT wDESC] else [])

def whT (l : List Ex) : List T:=match l with
 | e :: _ => wdT wWHERE :: tE 1 e
 | [] => []

def joT (t : St) : List T:=match t.on with
 | e :: _ => wdT wJOIN :: nmT t.join :: wdT wON :: tE 1 e
 | [] => []

def grT (l : List Ex) : List T:=if l = [] then [] else wdT wGROUP :: wdT wBY :: sepT (tE 1) l

def orT (l : List So) : List T:=if l = [] then [] else wdT wORDER :: wdT wBY :: sepT soT l

def liT (l : List Int) : List T:=match l with
 | n :: _ => [wdT wLIMIT,nuT n]
 | [] => []

def Stq (s : PS) : Prop:=Stp 1 s ∧ s.sees wDESC = false

def StTk (t : T) : Prop:=∀ l c p,Stq ⟨t :: l,c,p⟩

theorem st_wd {b : List UInt8} (h : b = wFROM ∨ b = wWHERE ∨ b = wGROUP ∨ b = wORDER ∨ b = wLIMIT ∨ b = wJOIN ∨ b = wON) : StTk (wdT b):=by
 intro l c p
 refine ⟨⟨?_,fun _ => ?_,fun _ => ?_,fun _ => ?_,fun _ => ?_,fun _ => ?_,fun _ => ?_⟩,?_⟩
 all_goals
  simp only [prodO,sumO,cmpO,opOf,sees_wd]
  rcases h with rfl | rfl | rfl | rfl | rfl | rfl | rfl <;> decide

theorem st_sg {b : List UInt8} (h : b = [44] ∨ b = [41] ∨ b = [59]) : StTk (sgT b):=by
 intro l c p
 refine ⟨⟨?_,fun _ => ?_,fun _ => ?_,fun _ => ?_,fun _ => ?_,fun _ => ?_,fun _ => ?_⟩,?_⟩
 all_goals
  simp only [prodO,sumO,cmpO,opOf,sees_sg]
  rcases h with rfl | rfl | rfl <;> decide

theorem st_en : StTk enT:=by
 intro l c p
 have h : ∀ x,(⟨enT :: l,c,p⟩ : PS).sees x = false:=fun x => sees_kd (by decide) (by decide) x l c p
 refine ⟨⟨h _,fun _ => ?_,fun _ => ?_,fun _ => h _,fun _ => ?_,fun _ => h _,fun _ => h _⟩,h _⟩
 all_goals
  simp only [prodO,sumO,cmpO,opOf,h]
  rfl

def Rds {α : Type} (c p : Int) (f : Rd_ α) (tk : List T) (a : α) : Prop:=∀ rest,Stq ⟨rest,c,p⟩ → f ⟨tk ++ rest,c,p⟩ (.ok a ⟨rest,c,p⟩)

theorem rds_expr {c p : Int} {e : Ex} (h : RtE e) : Rds c p exprR (tE 1 e) e.z:=fun rest hs => (rdg_right c p h).or rest hs.1

theorem list_read {α : Type} {c p : Int} {f : Rd_ α} {tk : α → List T} {z : α → α} {most : Nat} {rest : List T} (hs : Stq ⟨rest,c,p⟩) (hn : (⟨rest,c,p⟩ : PS).sees [44] = false) : ∀ (l : List α) (acc : List α),l ≠ [] → (∀ a ∈ l,Rds c p f (tk a) (z a)) → acc.length + l.length ≤ most → LsR f most acc ⟨sepT tk l ++ rest,c,p⟩ (.ok (acc ++ l.map z) ⟨rest,c,p⟩)
 | [],_,h,_,_ => absurd rfl h
 | [a],acc,_,h,hl => by
  have hc : (⟨tk a ++ rest,c,p⟩ : PS).cnt acc.length most = ⟨tk a ++ rest,c,p⟩:=by
   unfold PS.cnt
   rw [if_neg (by intro q; simp at hl; omega)]
  show LsR f most acc ⟨tk a ++ rest,c,p⟩ _
  exact LsR.last (by rw [hc]; exact h a (by simp) rest hs) hn
 | a :: b :: l,acc,_,h,hl => by
  have e : sepT tk (a :: b :: l) ++ rest = tk a ++ (sgT [44] :: (sepT tk (b :: l) ++ rest)):=by
   show (tk a ++ sgT [44] :: sepT tk (b :: l)) ++ rest = _
   simp
  have hc : (⟨tk a ++ (sgT [44] :: (sepT tk (b :: l) ++ rest)),c,p⟩ : PS).cnt acc.length most = ⟨tk a ++ (sgT [44] :: (sepT tk (b :: l) ++ rest)),c,p⟩:=by
   unfold PS.cnt
   rw [if_neg (by intro q; simp at hl; omega)]
  have hk:=list_read (f:=f) (tk:=tk) (z:=z) (most:=most) hs hn (b :: l) (acc ++ [z a]) (by simp) (fun x hx => h x (by simp at hx ⊢; right; exact hx)) (by rw [List.length_append]; simp only [List.length_cons,List.length_nil] at hl ⊢; omega)
  rw [List.append_assoc] at hk
  rw [e]
  refine LsR.more (a:=z a) (by rw [hc]; exact h a (by simp) _ (st_sg (Or.inl rfl) _ _ _)) (by rw [sees_sg]; decide) ?_
  exact hk

theorem want_wd {b : List UInt8} {l : List T} {c p : Int} : wantR [b] ⟨wdT b :: l,c,p⟩ (.ok () ⟨l,c,p⟩):=by
 show Res.ok () _ = needsR [b] _
 rw [needsR,if_pos (by rw [sees_wd]; simp)]
 rfl

theorem want_sg {b : List UInt8} {l : List T} {c p : Int} : wantR [b] ⟨sgT b :: l,c,p⟩ (.ok () ⟨l,c,p⟩):=by
 show Res.ok () _ = needsR [b] _
 rw [needsR,if_pos (by rw [sees_sg]; simp)]
 rfl

theorem name_tk {n : ByteArray} {l : List T} {c p : Int} : namR ⟨nmT n :: l,c,p⟩ (.ok n ⟨l,c,p⟩):=by
 show Res.ok n _ = nameR _
 unfold nameR
 exact (if_pos rfl).symm

theorem num_tk {n : Int} {l : List T} {c p : Int} : numR ⟨nuT n :: l,c,p⟩ (.ok (nuT n) ⟨l,c,p⟩):=by
 show Res.ok (nuT n) _ = _
 exact (if_pos rfl).symm

theorem if_wd {α : Type} {b : List UInt8} {f g : Rd_ α} {l : List T} {c p : Int} {r : Res α} (h : f ⟨l,c,p⟩ r) : ifR b f g ⟨wdT b :: l,c,p⟩ r:=ifR_yes (by rw [sees_wd]; simp) h

theorem rds_set {c p : Int} {x : Se} (h : RtSe x) : Rds c p setR (seT x) (Se.z x):=fun rest hs => by
 show setR ⟨nmT x.1 :: sgT [61] :: (tE 1 x.2.1 ++ rest),c,p⟩ _
 exact thenR_ok name_tk (thenR_ok want_sg (thenR_ok (rds_expr h.2 rest hs) rfl))

theorem rds_sort {c p : Int} {x : So} : Rds c p sortR (soT x) (So.z x):=fun rest hs => by
 obtain ⟨n,b,q⟩:=x
 cases b with
 | true => exact thenR_ok num_tk (if_wd rfl)
 | false => exact thenR_ok num_tk (ifR_not hs.2 rfl)

theorem list_rd {α : Type} {c p : Int} {f : Rd_ α} {tk : α → List T} {z : α → α} {most : Nat} {l : List α} {rest : List T} (hs : Stq ⟨rest,c,p⟩) (hn : (⟨rest,c,p⟩ : PS).sees [44] = false) (hne : l ≠ []) (h : ∀ a ∈ l,Rds c p f (tk a) (z a)) (hl : l.length ≤ most) : listR f most ⟨sepT tk l ++ rest,c,p⟩ (.ok (l.map z) ⟨rest,c,p⟩):=list_read hs hn l [] hne h (by simpa using hl)

theorem wi_mem {lo hi : Nat} {α : Type} {P : α → Prop} {l : List α} (h : Wi lo hi P l) : ∀ a ∈ l,P a:=fun a ha => by
 obtain ⟨i,hi,rfl⟩:=List.getElem_of_mem ha
 exact h.2.2 i hi

theorem where_rd {c p : Int} {l : List Ex} {rest : List T} (h : Wi 0 1 RtE l) (hs : Stq ⟨rest,c,p⟩) (hn : (⟨rest,c,p⟩ : PS).sees wWHERE = false) : whereR ⟨whT l ++ rest,c,p⟩ (.ok (l.map Ex.z) ⟨rest,c,p⟩):=by
 match l,h with
 | [],_ => exact ifR_not hn rfl
 | [e],h => exact if_wd (thenR_ok (rds_expr (wi_mem h e (by simp)) rest hs) rfl)
 | _ :: _ :: _,h => exact absurd h.2.1 (by simp)

theorem over_rd {c p : Int} {k : Int} {a : Ex} {rest : List T} (h : RtE a) : overR k 0 ⟨sgT [40] :: (tE 1 a ++ [sgT [41]]) ++ rest,c,p⟩ (.ok (over k 0 0 [a.z]) ⟨rest,c,p⟩):=by
 have e : sgT [40] :: (tE 1 a ++ [sgT [41]]) ++ rest = sgT [40] :: (tE 1 a ++ sgT [41] :: rest):=by simp
 rw [e]
 exact thenR_ok want_sg (thenR_ok (rds_expr h _ (st_sg (Or.inr (Or.inl rfl)) _ _ _)) (thenR_ok want_sg rfl))

def OvW (x : List UInt8) : Prop:=x = wCOUNT ∨ x = wSUM ∨ x = wMIN ∨ x = wMAX ∨ x = [42]

def NoOv (b : List T) : Prop:=∀ rest c p x,OvW x → (⟨b ++ rest,c,p⟩ : PS).sees x = false

theorem noov_wr {n : Nat} {a : Ex} {b : List T} (h : NoOv b) : NoOv (wr n a b):=by
 unfold wr
 split
 ·intro rest c p x hx
  rw [List.cons_append,sees_sg]
  rcases hx with rfl | rfl | rfl | rfl | rfl <;> decide
 ·exact h

theorem noov_app {a b : List T} (h : NoOv a) : NoOv (a ++ b):=fun rest c p x hx => by rw [List.append_assoc]; exact h _ c p x hx

theorem noov_tk {k n : Int} {s : ByteArray} (h4 : k ≠ 4) (h7 : k ≠ 7) (l : List T) : NoOv (((k,n,s),0) :: l):=fun _ _ _ _ _ => sees_kd h4 h7 _ _ _ _

theorem noov_lit (v : V3) : NoOv [litT v]:=fun rest c p x hx => by
 show (⟨litT v :: rest,c,p⟩ : PS).sees x = false
 unfold litT
 repeat' split
 ·exact sees_kd (by decide) (by decide) _ _ _ _
 ·exact sees_kd (by decide) (by decide) _ _ _ _
 ·rw [sees_wd]; rcases hx with rfl | rfl | rfl | rfl | rfl <;> decide
 ·rw [sees_wd]; rcases hx with rfl | rfl | rfl | rfl | rfl <;> decide
 ·rw [sees_wd]; rcases hx with rfl | rfl | rfl | rfl | rfl <;> decide

theorem noov_all {e : Ex} (h : RtI e) : ¬ isOver e → NoOv (tB e):=by
 induction h with
 | @mk k o v t n ks q h1 h2 h3 h4 h5 _ h7 ih =>
  intro ho
  have hov : ¬ (k = 11 ∨ k = 12 ∨ k = 13 ∨ k = 14):=ho
  rw [tB_mk]
  unfold tF
  by_cases k1 : k = 1
  ·rw [if_pos k1]; exact noov_lit v
  rw [if_neg k1]
  by_cases k2 : k = 2
  ·rw [if_pos k2]; exact noov_tk (by decide) (by decide) _
  rw [if_neg k2]
  by_cases k3 : k = 3
  ·rw [if_pos k3]
   split
   ·exact noov_tk (by decide) (by decide) _
   ·exact noov_tk (by decide) (by decide) _
  rw [if_neg k3]
  have hl : 1 ≤ ks.length:=by
   have : (formK k).2.2.1 ≠ 0:=by
    unfold formK
    rw [if_neg (by omega)]
    repeat' split
    all_goals decide
   omega
  cases ks with
  | nil => simp at hl
  | cons a ar =>
   have ha : NoOv (tB a):=ih 0 (by simp) (h5 0 (by simp))
   rw [List.map_cons]
   simp only
   by_cases k4 : k = 4
   ·rw [if_pos k4]
    intro rest c p x hx
    rw [List.cons_append,sees_sg]
    rcases hx with rfl | rfl | rfl | rfl | rfl <;> decide
   rw [if_neg k4]
   by_cases k5 : k = 5
   ·rw [if_pos k5]; exact noov_app (noov_wr ha)
   rw [if_neg k5]
   by_cases k6 : k = 6
   ·rw [if_pos k6]; exact noov_app (noov_wr ha)
   rw [if_neg k6]
   by_cases k7 : k = 7
   ·rw [if_pos k7]; exact noov_app (noov_wr ha)
   rw [if_neg k7]
   by_cases k8 : k = 8
   ·rw [if_pos k8]
    intro rest c p x hx
    rw [List.cons_append,sees_wd]
    rcases hx with rfl | rfl | rfl | rfl | rfl <;> decide
   rw [if_neg k8]
   by_cases k9 : k = 9
   ·rw [if_pos k9]; exact noov_app (noov_wr ha)
   rw [if_neg k9]
   exact noov_app (noov_wr ha)

theorem noov_right {e : Ex} (h : RtE e) (n : Nat) : NoOv (tE n e):=noov_wr (noov_all h.2 h.1)

theorem over_parts {k o : Int} {v : V3} {t n : ByteArray} {ks : List Ex} {q : Int} (h : RtI (.mk k o v t n ks q)) (ho : k = 11 ∨ k = 12 ∨ k = 13 ∨ k = 14) : o = 0 ∧ v = v0 ∧ t = ⟨#[]⟩ ∧ n = ⟨#[]⟩ ∧ (k = 11 → ks = []) ∧ (k ≠ 11 → ∃ a,ks = [a] ∧ RtE a):=by
 obtain ⟨a,b,⟨c1,c2,c3⟩,f⟩:=RtI.iff.1 h
 obtain ⟨f1,f2,f3,f4,f5⟩:=f.2.2.2 (by omega) (by omega) (by omega)
 refine ⟨?_,v0_of f3 f4 f5,f1,f2,fun e => ?_,fun e => ?_⟩
 ·have : (formK k).1 = 0 ∧ (formK k).2.1 = 0:=by rcases ho with rfl | rfl | rfl | rfl <;> decide
  omega
 ·subst e
  exact List.length_eq_zero_iff.1 (Nat.le_zero.1 c2)
 ·have hf : formK k = (0,0,1,1):=by rcases ho with rfl | rfl | rfl | rfl <;> first | decide | exact absurd rfl e
  rw [hf] at c1 c2
  obtain ⟨x,rfl⟩:=one_of_len (Nat.le_antisymm c2 c1)
  exact ⟨x,rfl,c3 0 (by simp)⟩

def kidT : List Ex → List T
 | a :: _ => tE 1 a
 | [] => []

theorem itT_mk (k o : Int) (v : V3) (t n : ByteArray) (ks : List Ex) (q : Int) : itT (.mk k o v t n ks q) = if k = 11 then [wdT wCOUNT,sgT [40],sgT [42],sgT [41]] else if k = 12 ∨ k = 13 ∨ k = 14 then wdT (if k = 12 then wSUM else if k = 13 then wMIN else wMAX) :: sgT [40] :: (kidT ks ++ [sgT [41]]) else tE 1 (.mk k o v t n ks q):=by
 cases ks <;> rfl

theorem rds_item {c p : Int} {e : Ex} (h : RtI e) : Rds c p itemR (itT e) e.z:=fun rest hs => by
 by_cases ho : isOver e
 ·obtain ⟨k,o,v,t,n,ks,q⟩:=e
  obtain ⟨rfl,rfl,rfl,rfl,h1,h2⟩:=over_parts h ho
  have hk : k = 11 ∨ k = 12 ∨ k = 13 ∨ k = 14:=ho
  by_cases k11 : k = 11
  ·subst k11
   obtain rfl:=h1 rfl
   rw [z_mk]
   show itemR ⟨wdT wCOUNT :: sgT [40] :: sgT [42] :: sgT [41] :: rest,c,p⟩ _
   refine if_wd (thenR_ok (a:=()) ?_ rfl)
   show Res.ok () _ = needsR [[40],[42],[41]] _
   rw [needsR,if_pos (by rw [sees_sg]; decide)]
   show _ = needsR [[42],[41]] ⟨sgT [42] :: sgT [41] :: rest,c,p⟩
   rw [needsR,if_pos (by rw [sees_sg]; decide)]
   show _ = needsR [[41]] ⟨sgT [41] :: rest,c,p⟩
   rw [needsR,if_pos (by rw [sees_sg]; decide)]
   rfl
  ·obtain ⟨a,rfl,ha⟩:=h2 k11
   rw [z_kids1]
   rcases hk with rfl | rfl | rfl | rfl
   ·exact absurd rfl k11
   ·exact ifR_not (by show (⟨wdT wSUM :: _,c,p⟩ : PS).sees wCOUNT = false; rw [sees_wd]; decide) (if_wd (over_rd ha))
   ·exact ifR_not (by show (⟨wdT wMIN :: _,c,p⟩ : PS).sees wCOUNT = false; rw [sees_wd]; decide) (ifR_not (by show (⟨wdT wMIN :: _,c,p⟩ : PS).sees wSUM = false; rw [sees_wd]; decide) (if_wd (over_rd ha)))
   ·exact ifR_not (by show (⟨wdT wMAX :: _,c,p⟩ : PS).sees wCOUNT = false; rw [sees_wd]; decide) (ifR_not (by show (⟨wdT wMAX :: _,c,p⟩ : PS).sees wSUM = false; rw [sees_wd]; decide) (ifR_not (by show (⟨wdT wMAX :: _,c,p⟩ : PS).sees wMIN = false; rw [sees_wd]; decide) (if_wd (over_rd ha))))
 ·have ht : itT e = tE 1 e:=by
   obtain ⟨k,o,v,t,n,ks,q⟩:=e
   have hov : ¬ (k = 11 ∨ k = 12 ∨ k = 13 ∨ k = 14):=ho
   rw [itT_mk]
   rw [if_neg (by omega),if_neg (by omega)]
  rw [ht]
  have hn:=noov_right ⟨ho,h⟩ 1 rest c p
  exact ifR_not (hn _ (Or.inl rfl)) (ifR_not (hn _ (Or.inr (Or.inl rfl))) (ifR_not (hn _ (Or.inr (Or.inr (Or.inl rfl)))) (ifR_not (hn _ (Or.inr (Or.inr (Or.inr (Or.inl rfl))))) (rds_expr ⟨ho,h⟩ rest hs))))

theorem item_star {e : Ex} (h : RtI e) (rest : List T) (c p : Int) : (⟨itT e ++ rest,c,p⟩ : PS).sees [42] = false:=by
 by_cases ho : isOver e
 ·obtain ⟨k,o,v,t,n,ks,q⟩:=e
  have hk : k = 11 ∨ k = 12 ∨ k = 13 ∨ k = 14:=ho
  rw [itT_mk]
  by_cases k11 : k = 11
  ·rw [if_pos k11]
   show (⟨wdT wCOUNT :: _,c,p⟩ : PS).sees [42] = false
   rw [sees_wd]; decide
  ·rw [if_neg k11,if_pos (by omega),List.cons_append,sees_wd]
   repeat' split
   all_goals decide
 ·have ht : itT e = tE 1 e:=by
   obtain ⟨k,o,v,t,n,ks,q⟩:=e
   have hov : ¬ (k = 11 ∨ k = 12 ∨ k = 13 ∨ k = 14):=ho
   rw [itT_mk]
   rw [if_neg (by omega),if_neg (by omega)]
  rw [ht]
  exact noov_right ⟨ho,h⟩ 1 rest c p _ (Or.inr (Or.inr (Or.inr (Or.inr rfl))))

theorem sep_star {l : List Ex} (hne : l ≠ []) (h : ∀ e ∈ l,RtI e) (rest : List T) (c p : Int) : (⟨sepT itT l ++ rest,c,p⟩ : PS).sees [42] = false:=by
 match l,hne with
 | [e],_ => exact item_star (h e (by simp)) rest c p
 | e :: f :: l,_ =>
  have e1 : sepT itT (e :: f :: l) ++ rest = itT e ++ (sgT [44] :: (sepT itT (f :: l) ++ rest)):=by
   show (itT e ++ sgT [44] :: sepT itT (f :: l)) ++ rest = _
   simp
  rw [e1]
  exact item_star (h e (by simp)) _ c p

def Hd (ws : List (List UInt8)) (l : List T) : Prop:=∃ t l',l = t :: l' ∧ (t = enT ∨ ∃ w ∈ ws,t = wdT w)

def allW : List (List UInt8):=[wFROM,wWHERE,wGROUP,wORDER,wLIMIT,wJOIN,wON]

theorem Hd.stq {ws : List (List UInt8)} {l : List T} (h : Hd ws l) (hw : ∀ w ∈ ws,w ∈ allW) (c p : Int) : Stq ⟨l,c,p⟩:=by
 obtain ⟨t,l',rfl,rfl | ⟨w,hm,rfl⟩⟩:=h
 ·exact st_en _ _ _
 ·have:=hw w hm
  simp only [allW,List.mem_cons,List.not_mem_nil,or_false] at this
  exact st_wd this _ _ _

theorem Hd.not {ws : List (List UInt8)} {l : List T} (h : Hd ws l) {x : List UInt8} (hx : ∀ w ∈ ws,w ≠ x) (c p : Int) : (⟨l,c,p⟩ : PS).sees x = false:=by
 obtain ⟨t,l',rfl,rfl | ⟨w,hm,rfl⟩⟩:=h
 ·exact sees_kd (by decide) (by decide) _ _ _ _
 ·rw [sees_wd,beq_eq_false_iff_ne]
  exact hx w hm

theorem Hd.more {ws vs : List (List UInt8)} {l : List T} (h : Hd ws l) (hv : ∀ w ∈ ws,w ∈ vs) : Hd vs l:=by
 obtain ⟨t,l',e,h | ⟨w,hm,h⟩⟩:=h
 ·exact ⟨t,l',e,Or.inl h⟩
 ·exact ⟨t,l',e,Or.inr ⟨w,hv w hm,h⟩⟩

def W5 : List (List UInt8):=[wLIMIT]

def W4 : List (List UInt8):=[wORDER,wLIMIT]

def W3 : List (List UInt8):=[wGROUP,wORDER,wLIMIT]

def W2 : List (List UInt8):=[wWHERE,wGROUP,wORDER,wLIMIT]

def W1 : List (List UInt8):=[wJOIN,wWHERE,wGROUP,wORDER,wLIMIT]

def l5 (t : St) : List T:=liT t.limit ++ [enT]

def l4 (t : St) : List T:=orT t.sorts ++ l5 t

def l3 (t : St) : List T:=grT t.groups ++ l4 t

def l2 (t : St) : List T:=whT t.whr ++ l3 t

def l1 (t : St) : List T:=joT t ++ l2 t

theorem hd_en (ws : List (List UInt8)) : Hd ws [enT]:=⟨enT,[],rfl,Or.inl rfl⟩

theorem hd5 (t : St) : Hd W5 (l5 t):=by
 unfold l5 liT
 split
 ·exact ⟨wdT wLIMIT,_,rfl,Or.inr ⟨wLIMIT,by decide,rfl⟩⟩
 ·exact hd_en _

theorem hd4 (t : St) : Hd W4 (l4 t):=by
 unfold l4 orT
 split
 ·exact (hd5 t).more (by decide)
 ·exact ⟨wdT wORDER,_,rfl,Or.inr ⟨wORDER,by decide,rfl⟩⟩

theorem hd3 (t : St) : Hd W3 (l3 t):=by
 unfold l3 grT
 split
 ·exact (hd4 t).more (by decide)
 ·exact ⟨wdT wGROUP,_,rfl,Or.inr ⟨wGROUP,by decide,rfl⟩⟩

theorem hd2 (t : St) : Hd W2 (l2 t):=by
 unfold l2 whT
 split
 ·exact ⟨wdT wWHERE,_,rfl,Or.inr ⟨wWHERE,by decide,rfl⟩⟩
 ·exact (hd3 t).more (by decide)

theorem limit_rd {c p : Int} {t : St} (h : Wi 0 1 RtN t.limit) : limitR ⟨l5 t,c,p⟩ (.ok t.limit ⟨[enT],c,p⟩):=by
 unfold l5 liT
 match t.limit,h with
 | [],_ => exact ifR_not ((hd_en []).not (fun _ hw => absurd hw List.not_mem_nil) c p) rfl
 | [n],_ => exact if_wd (thenR_ok num_tk rfl)
 | _ :: _ :: _,h => exact absurd h.2.1 (by simp)

theorem order_rd {c p : Int} {t : St} (h : Wi 0 8 RtSo t.sorts) : orderR ⟨l4 t,c,p⟩ (.ok (t.sorts.map So.z) ⟨l5 t,c,p⟩):=by
 unfold l4 orT
 by_cases hn : t.sorts = []
 ·rw [if_pos hn,hn]
  exact ifR_not ((hd5 t).not (by decide) c p) rfl
 ·rw [if_neg hn]
  exact if_wd (thenR_ok want_wd (list_rd ((hd5 t).stq (by decide) c p) ((hd5 t).not (by decide) c p) hn (fun _ _ => rds_sort) h.2.1))

theorem rds_col {c p : Int} {e : Ex} (h : RtC e) : Rds c p colmR (tE 1 e) e.z:=fun rest hs => by
 obtain ⟨k,o,v,t,n,ks,q⟩:=e
 have hk : k = 3:=h.1
 subst hk
 obtain ⟨a,b,⟨_,c2,_⟩,f⟩:=RtI.iff.1 h.2.2
 rw [show formK 3 = (0,0,0,0) from by decide] at a b c2
 obtain rfl : o = 0:=Int.le_antisymm b a
 obtain rfl : ks = []:=List.length_eq_zero_iff.1 (Nat.le_zero.1 c2)
 obtain ⟨_,_,f3,f4,f5⟩:=f.2.2.1 rfl
 rw [v0_of f3 f4 f5,tE_bare (rank_le _).1,z_mk]
 show Res.ok _ _ = colR _
 by_cases et : t = ⟨#[]⟩
 ·subst et
  have ht : tB (.mk 3 0 v0 ⟨#[]⟩ n [] q) = [nmT n]:=by rw [tB_mk]; rfl
  rw [ht]
  have hnm : nameR ⟨[nmT n] ++ rest,c,p⟩ = .ok n ⟨rest,c,p⟩:=by unfold nameR; exact if_pos rfl
  unfold colR
  rw [hnm]
  simp only
  rw [if_neg (by rw [hs.1.dot]; simp)]
  rfl
 ·have ht : tB (.mk 3 0 v0 t n [] q) = [nmT t,sgT [46],nmT n]:=by
   rw [tB_mk]
   show (if t = ⟨#[]⟩ then _ else _) = _
   rw [if_neg et]
   rfl
  rw [ht]
  have hnm : nameR ⟨[nmT t,sgT [46],nmT n] ++ rest,c,p⟩ = .ok t ⟨sgT [46] :: nmT n :: rest,c,p⟩:=by unfold nameR; exact if_pos rfl
  have hnn : nameR (PS.next ⟨sgT [46] :: nmT n :: rest,c,p⟩) = .ok n ⟨rest,c,p⟩:=by unfold nameR; exact if_pos rfl
  unfold colR
  rw [hnm]
  simp only
  rw [if_pos (by rw [sees_sg]; decide),hnn]
  rfl

theorem group_rd {c p : Int} {t : St} (h : Wi 0 8 RtC t.groups) : groupR ⟨l3 t,c,p⟩ (.ok (t.groups.map Ex.z) ⟨l4 t,c,p⟩):=by
 unfold l3 grT
 by_cases hn : t.groups = []
 ·rw [if_pos hn,hn]
  exact ifR_not ((hd4 t).not (by decide) c p) rfl
 ·rw [if_neg hn]
  exact if_wd (thenR_ok want_wd (list_rd ((hd4 t).stq (by decide) c p) ((hd4 t).not (by decide) c p) hn (fun e he => rds_col (wi_mem h e he)) h.2.1))

theorem join_rd {c p : Int} {t : St} (ho : Wi 0 1 RtE t.on) (hj : decide (t.join = ⟨#[]⟩) = decide (t.on.length = 0)) : joinR ⟨l1 t,c,p⟩ (.ok (0,t.join,t.on.map Ex.z) ⟨l2 t,c,p⟩):=by
 unfold l1 joT
 match h : t.on,ho with
 | [],_ =>
  rw [h] at hj
  have : t.join = ⟨#[]⟩:=of_decide_eq_true (hj.trans rfl)
  rw [this]
  exact ifR_not ((hd2 t).not (by decide) c p) rfl
 | [e],ho => exact if_wd (thenR_ok rfl (thenR_ok name_tk (thenR_ok want_wd (thenR_ok (rds_expr (wi_mem ho e (by simp)) _ ((hd2 t).stq (by decide) c p)) rfl))))
 | _ :: _ :: _,ho => exact absurd ho.2.1 (by simp)

def tS (t : St) : List T :=
 if t.kind = 1 then wdT wINSERT :: wdT wINTO :: nmT t.table :: wdT wVALUES :: sgT [40] :: (sepT (tE 1) t.items ++ [sgT [41]])
 else if t.kind = 2 then wdT wUPDATE :: nmT t.table :: wdT wSET :: (sepT seT t.sets ++ whT t.whr)
 else if t.kind = 3 then wdT wDELETE :: wdT wFROM :: nmT t.table :: whT t.whr
 else wdT wSELECT :: ((if t.star then [sgT [42]] else sepT itT t.items) ++ wdT wFROM :: nmT t.table :: (joT t ++ (whT t.whr ++ (grT t.groups ++ (orT t.sorts ++ liT t.limit)))))

theorem nil_of {α : Type} {l : List α} (h : l.length = 0) : l = []:=List.length_eq_zero_iff.1 h

theorem no_word {α : Type} {b : List UInt8} {f g : Rd_ α} {x : List UInt8} {l : List T} {c p : Int} {r : Res α} (h : x ≠ b) (k : g ⟨wdT x :: l,c,p⟩ r) : ifR b f g ⟨wdT x :: l,c,p⟩ r:=ifR_not (by rw [sees_wd,beq_eq_false_iff_ne]; exact h) k

theorem st_read {t : St} (h : RtSt t) : stR ⟨tS t ++ [enT],0,0⟩ (.ok t.z ⟨[enT],0,0⟩):=by
 obtain ⟨_,hn,hk⟩:=h
 rcases hk with ⟨hk,hs,hi⟩ | ⟨hk,hs,hi,hw⟩ | ⟨hk,hs,hw⟩ | ⟨hk,hs⟩
 ·obtain ⟨_,_,s1,s2,s3,s4,_,s6,s7,s8,s9⟩:=hs
  have e : t.z = { st0 with kind:=1,table:=t.table,items:=t.items.map Ex.z,place:=0 }:=by
   unfold St.z
   rw [hk,s1,s2,nil_of s3.1,nil_of s4.1,nil_of s6.1,nil_of s7.1,nil_of s8.1,s9]
   rfl
  rw [e]
  have ht : tS t ++ [enT] = wdT wINSERT :: wdT wINTO :: nmT t.table :: wdT wVALUES :: sgT [40] :: (sepT (tE 1) t.items ++ (sgT [41] :: [enT])):=by
   unfold tS
   rw [if_pos hk]
   simp
  rw [ht]
  have hw2 : wantR [wVALUES,[40]] ⟨wdT wVALUES :: sgT [40] :: (sepT (tE 1) t.items ++ (sgT [41] :: [enT])),0,0⟩ (.ok () ⟨sepT (tE 1) t.items ++ (sgT [41] :: [enT]),0,0⟩):=by
   show Res.ok () _ = needsR [wVALUES,[40]] _
   rw [needsR,if_pos (by rw [sees_wd]; decide)]
   show _ = needsR [[40]] ⟨sgT [40] :: (sepT (tE 1) t.items ++ (sgT [41] :: [enT])),0,0⟩
   rw [needsR,if_pos (by rw [sees_sg]; decide)]
   rfl
  have hne : t.items ≠ []:=fun e => by have:=hi.1; rw [e] at this; simp at this
  exact thenR_ok (if_wd (thenR_ok want_wd (thenR_ok name_tk (thenR_ok hw2 (thenR_ok (list_rd (st_sg (Or.inr (Or.inl rfl)) _ _ _) (by rw [sees_sg]; decide) hne (fun e he => rds_expr (wi_mem hi e he)) hi.2.1) (thenR_ok want_sg rfl)))))) rfl
 ·obtain ⟨_,_,s1,s2,s3,_,s5,s6,_,s8,s9⟩:=hs
  have e : t.z = { st0 with kind:=2,table:=t.table,sets:=t.sets.map Se.z,whr:=t.whr.map Ex.z,place:=0 }:=by
   unfold St.z
   rw [hk,s1,s2,nil_of s3.1,nil_of s5.1,nil_of s6.1,nil_of s8.1,s9]
   rfl
  rw [e]
  have ht : tS t ++ [enT] = wdT wUPDATE :: nmT t.table :: wdT wSET :: (sepT seT t.sets ++ (whT t.whr ++ [enT])):=by
   unfold tS
   rw [if_neg (by omega),if_pos hk]
   simp
  rw [ht]
  have hh : Hd [wWHERE] (whT t.whr ++ [enT]):=by
   unfold whT
   split
   ·exact ⟨wdT wWHERE,_,rfl,Or.inr ⟨wWHERE,by decide,rfl⟩⟩
   ·exact hd_en _
  have hne : t.sets ≠ []:=fun e => by have:=hi.1; rw [e] at this; simp at this
  exact thenR_ok (no_word (by decide) (if_wd (thenR_ok name_tk (thenR_ok want_wd (thenR_ok (list_rd (hh.stq (by decide) _ _) (hh.not (by decide) _ _) hne (fun x hx => rds_set (wi_mem hi x hx)) hi.2.1) (thenR_ok (where_rd hw (st_en _ _ _) ((hd_en []).not (fun _ hw => absurd hw List.not_mem_nil) _ _)) rfl)))))) rfl
 ·obtain ⟨_,_,s1,s2,s3,_,s5,s6,s7,s8,s9⟩:=hs
  have e : t.z = { st0 with kind:=3,table:=t.table,whr:=t.whr.map Ex.z,place:=0 }:=by
   unfold St.z
   rw [hk,s1,s2,nil_of s3.1,nil_of s5.1,nil_of s6.1,nil_of s7.1,nil_of s8.1,s9]
   rfl
  rw [e]
  have ht : tS t ++ [enT] = wdT wDELETE :: wdT wFROM :: nmT t.table :: (whT t.whr ++ [enT]):=by
   unfold tS
   rw [if_neg (by omega),if_neg (by omega),if_pos hk]
   simp
  rw [ht]
  exact thenR_ok (no_word (by decide) (no_word (by decide) (if_wd (thenR_ok want_wd (thenR_ok name_tk (thenR_ok (where_rd hw (st_en _ _ _) ((hd_en []).not (fun _ hw => absurd hw List.not_mem_nil) _ _)) rfl)))))) rfl
 ·have e : t.z = ⟨4,t.table,t.join,t.on.map Ex.z,t.whr.map Ex.z,t.items.map Ex.z,t.star,[],t.groups.map Ex.z,t.sorts.map So.z,t.limit,0,0⟩:=by
   unfold St.z
   rw [hk,nil_of hs.sets]
   rfl
  rw [e]
  have ht : tS t ++ [enT] = wdT wSELECT :: ((if t.star then [sgT [42]] else sepT itT t.items) ++ wdT wFROM :: nmT t.table :: l1 t):=by
   unfold tS l1 l2 l3 l4 l5
   rw [if_neg (by omega),if_neg (by omega),if_neg (by omega)]
   simp
  rw [ht]
  have hstar : starR ⟨(if t.star then [sgT [42]] else sepT itT t.items) ++ wdT wFROM :: nmT t.table :: l1 t,0,0⟩ (.ok (t.star,t.items.map Ex.z) ⟨wdT wFROM :: nmT t.table :: l1 t,0,0⟩):=by
   by_cases hst : t.star = true
   ·have hi0 : t.items = []:=nil_of (of_decide_eq_true (hs.star.symm.trans hst))
    rw [hst,hi0]
    exact ifR_yes (by show (⟨sgT [42] :: _,0,0⟩ : PS).sees [42] = true; rw [sees_sg]; decide) rfl
   ·have hsf : t.star = false:=by simpa using hst
    have hne : t.items ≠ []:=fun e => by have:=hs.star; rw [hsf,e] at this; simp at this
    rw [hsf]
    have hit:=wi_mem hs.items
    exact ifR_not (sep_star hne hit _ _ _) (thenR_ok (list_rd (st_wd (Or.inl rfl) _ _ _) (by rw [sees_wd]; decide) hne (fun x hx => rds_item (hit x hx)) hs.items.2.1) rfl)
  exact thenR_ok (no_word (by decide) (no_word (by decide) (no_word (by decide) (if_wd (thenR_ok hstar (thenR_ok want_wd (thenR_ok name_tk (thenR_ok (join_rd hs.on hs.jon) (thenR_ok (where_rd hs.whr ((hd3 t).stq (by decide) _ _) ((hd3 t).not (by decide) _ _)) (thenR_ok (group_rd hs.groups) (thenR_ok (order_rd hs.sorts) (thenR_ok (limit_rd hs.limit) rfl)))))))))))) rfl
end Go.Proofs.YtonbafpnaphckaaGreatDoor
