/- M140 M141 M142 M143 M144 M145 -/
import Derived.Test.YtbfjmccpcbhljaaGreatDoorTM131
namespace Go.Proofs.YtbfjmccpcbhljaaGreatDoor
open Go Go.RowKit
def sgT (b : List UInt8) : T:=((7,0,ofL b),0)

def wdT (b : List UInt8) : T:=((4,0,ofL b),0)

def rankX : Ex → Nat
 | .mk k o _ _ _ _ _ => if k = 10 then 1 else if k = 9 then 2 else if k = 8 then 3 else if k = 6 ∨ k = 7 then 4 else if k = 5 then (if o ≤ 2 then 5 else 6) else 7

def wr (need : Nat) (e : Ex) (b : List T) : List T:=if rankX e < need then sgT [40] :: (b ++ [sgT [41]]) else b

def rowM (w : List UInt8) (need : Nat) : List Ex → List (List T) → List T
 | e :: es,b :: bs => wdT w :: (wr need e b ++ rowM w need es bs)
 | _,_ => []

def cmpS (o : Int) : List UInt8:=if o = 1 then [61] else if o = 2 then [60,62] else if o = 3 then [60] else if o = 4 then [60,61] else if o = 5 then [62] else [62,61]

def ariS (o : Int) : List UInt8:=if o = 1 then [43] else if o = 2 then [45] else if o = 3 then [42] else if o = 4 then [47] else [37]

def litT (v : V3) : T:=if v.1 = 1 then ((2,v.2.1,⟨#[]⟩),0) else if v.1 = 3 then ((5,0,v.2.2),0) else if v.1 = 2 then (if v.2.1 = 1 then wdT wTrue else wdT wFalse) else wdT wNull

def tF (k o : Int) (v : V3) (t n : ByteArray) (ks : List Ex) (bs : List (List T)) : List T :=
 if k = 1 then [litT v]
 else if k = 2 then [((6,0,n),0)]
 else if k = 3 then (if t = ⟨#[]⟩ then [((3,0,n),0)] else [((3,0,t),0),sgT [46],((3,0,n),0)])
 else match ks,bs with
  | a :: ar,x :: xs =>
   if k = 4 then sgT [45] :: wr 7 a x
   else if k = 5 then wr (if o ≤ 2 then 5 else 6) a x ++ sgT (ariS o) :: (match ar,xs with
    | b :: _,y :: _ => wr (if o ≤ 2 then 6 else 7) b y
    | _,_ => [])
   else if k = 6 then wr 5 a x ++ sgT (cmpS o) :: (match ar,xs with
    | b :: _,y :: _ => wr 5 b y
    | _,_ => [])
   else if k = 7 then wr 5 a x ++ wdT wIs :: (if o = 1 then [wdT wNot,wdT wNull] else [wdT wNull])
   else if k = 8 then wdT wNot :: wr 3 a x
   else if k = 9 then wr 3 a x ++ rowM wAnd 3 ar xs
   else wr 2 a x ++ rowM wOr 2 ar xs
  | _,_ => []

mutual
def tB : Ex → List T
 | .mk k o v t n ks _ => tF k o v t n ks (tBs ks)
def tBs : List Ex → List (List T)
 | [] => []
 | e :: l => tB e :: tBs l
end

def tE (need : Nat) (e : Ex) : List T:=wr need e (tB e)

theorem tBs_map : ∀ l,tBs l = l.map tB
 | [] => by rw [tBs]; rfl
 | e :: l => by rw [tBs,tBs_map l]; rfl

theorem tB_mk (k o : Int) (v : V3) (t n : ByteArray) (ks : List Ex) (p : Int) : tB (.mk k o v t n ks p) = tF k o v t n ks (ks.map tB):=by rw [tB,tBs_map]

theorem tE_bare {n : Nat} {e : Ex} (h : n ≤ rankX e) : tE n e = tB e:=by unfold tE wr; rw [if_neg (by omega)]

theorem tE_brack {n : Nat} {e : Ex} (h : rankX e < n) : tE n e = sgT [40] :: (tB e ++ [sgT [41]]):=by unfold tE wr; rw [if_pos h]

theorem v0_of {v : V3} (h1 : v.1 = 0) (h2 : v.2.1 = 0) (h3 : v.2.2 = ⟨#[]⟩) : v = v0:=by
 obtain ⟨a,b,d⟩:=v
 simp only at h1 h2 h3
 subst h1 h2 h3
 rfl

theorem one_of_len {l : List Ex} (h : l.length = 1) : ∃ a,l = [a]:=List.length_eq_one_iff.1 h

def nmT (n : ByteArray) : T:=((3,0,n),0)

def nuT (n : Int) : T:=((2,n,⟨#[]⟩),0)

def enT : T:=((1,0,⟨#[]⟩),0)

def sepT {α : Type} (f : α → List T) : List α → List T
 | [] => []
 | [a] => f a
 | a :: b :: l => f a ++ sgT [44] :: sepT f (b :: l)

def itT : Ex → List T
 | .mk k o v t n ks p =>
  if k = 11 then [wdT wCOUNT,sgT [40],sgT [42],sgT [41]]
  else if k = 12 ∨ k = 13 ∨ k = 14 then wdT (if k = 12 then wSUM else if k = 13 then wMIN else wMAX) :: sgT [40] :: ((match ks with
   | a :: _ => tE 1 a
   | [] => []) ++ [sgT [41]])
  else tE 1 (.mk k o v t n ks p)

def seT (x : Se) : List T:=nmT x.1 :: sgT [61] :: tE 1 x.2.1

def soT (x : So) : List T:=nuT x.1 :: (if x.2.1 then [wdT wDESC] else [])

def whT (l : List Ex) : List T:=match l with
 | e :: _ => wdT wWHERE :: tE 1 e
 | [] => []

def joT (t : St) : List T:=match t.on with
 | e :: _ => wdT wJOIN :: nmT t.join :: wdT wON :: tE 1 e
 | [] => []

def grT (l : List Ex) : List T:=if l = [] then [] else wdT wGROUP :: wdT wBY :: sepT (tE 1) l

def orT (l : List So) : List T:=if l = [] then [] else wdT wORDER :: wdT wBY :: sepT soT l

def liT (l : List Int) : List T:=match l with
 | n :: _ => [wdT wLIMIT,nuT n]
 | [] => []

theorem wi_mem {lo hi : Nat} {α : Type} {P : α → Prop} {l : List α} (h : Wi lo hi P l) : ∀ a ∈ l,P a:=fun a ha => by
 obtain ⟨i,hi,rfl⟩:=List.getElem_of_mem ha
 exact h.2.2 i hi

theorem over_parts {k o : Int} {v : V3} {t n : ByteArray} {ks : List Ex} {q : Int} (h : RtI (.mk k o v t n ks q)) (ho : k = 11 ∨ k = 12 ∨ k = 13 ∨ k = 14) : o = 0 ∧ v = v0 ∧ t = ⟨#[]⟩ ∧ n = ⟨#[]⟩ ∧ (k = 11 → ks = []) ∧ (k ≠ 11 → ∃ a,ks = [a] ∧ RtE a):=by
 obtain ⟨a,b,⟨c1,c2,c3⟩,f⟩:=RtI.iff.1 h
 obtain ⟨f1,f2,f3,f4,f5⟩:=f.2.2.2 (by omega) (by omega) (by omega)
 refine ⟨?_,v0_of f3 f4 f5,f1,f2,fun e => ?_,fun e => ?_⟩
 ·have : (formK k).1 = 0 ∧ (formK k).2.1 = 0:=by rcases ho with rfl | rfl | rfl | rfl <;> decide
  omega
 ·subst e
  exact List.length_eq_zero_iff.1 (Nat.le_zero.1 c2)
 ·have hf : formK k = (0,0,1,1):=by rcases ho with rfl | rfl | rfl | rfl <;> first | decide | exact absurd rfl e
  rw [hf] at c1 c2
  obtain ⟨x,rfl⟩:=one_of_len (Nat.le_antisymm c2 c1)
  exact ⟨x,rfl,c3 0 (by simp)⟩

def kidT : List Ex → List T
 | a :: _ => tE 1 a
 | [] => []

theorem itT_mk (k o : Int) (v : V3) (t n : ByteArray) (ks : List Ex) (q : Int) : itT (.mk k o v t n ks q) = if k = 11 then [wdT wCOUNT,sgT [40],sgT [42],sgT [41]] else if k = 12 ∨ k = 13 ∨ k = 14 then wdT (if k = 12 then wSUM else if k = 13 then wMIN else wMAX) :: sgT [40] :: (kidT ks ++ [sgT [41]]) else tE 1 (.mk k o v t n ks q):=by
 cases ks <;> rfl

def tS (t : St) : List T :=
 if t.kind = 1 then wdT wINSERT :: wdT wINTO :: nmT t.table :: wdT wVALUES :: sgT [40] :: (sepT (tE 1) t.items ++ [sgT [41]])
 else if t.kind = 2 then wdT wUPDATE :: nmT t.table :: wdT wSET :: (sepT seT t.sets ++ whT t.whr)
 else if t.kind = 3 then wdT wDELETE :: wdT wFROM :: nmT t.table :: whT t.whr
 else wdT wSELECT :: ((if t.star then [sgT [42]] else sepT itT t.items) ++ wdT wFROM :: nmT t.table :: (joT t ++ (whT t.whr ++ (grT t.groups ++ (orT t.sorts ++ liT t.limit)))))
end Go.Proofs.YtbfjmccpcbhljaaGreatDoor
