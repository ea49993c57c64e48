/- M146 M147 M148 M149 M150 -/
import Derived.Test.YteolnlcmnaknnaaGreatDoorTM140
namespace Go.Proofs.YteolnlcmnaknnaaGreatDoor
open Go Go.RowKit
theorem words_up : ∀ w ∈ wordsL,w ≠ [] ∧ ∀ d ∈ w,cls d = 6:=by decide +kernel

theorem name_parts {l : List UInt8} (h : nameL l = true) : ∃ c q,l = c :: q ∧ cls c = 5 ∧ (∀ d ∈ q,runB d) ∧ wordL l = false:=by
 cases l with
 | nil => simp [nameL] at h
 | cons c q =>
  simp only [nameL,Bool.and_eq_true,decide_eq_true_eq,List.all_eq_true] at h
  obtain ⟨⟨h1,_⟩,h3⟩:=h
  refine ⟨c,q,rfl,h1,fun d hd => ?_,?_⟩
  ·have:=h3 d (by simp [hd])
   unfold nmB at this
   simp only [Bool.or_eq_true,decide_eq_true_eq] at this
   unfold runB
   omega
  ·unfold wordL
   rw [List.any_eq_false]
   intro w hw e
   have e2 : c :: q = w:=by simpa using e
   have:=(words_up w hw).2 c (by rw [← e2]; simp)
   omega

def xwr (need : Nat) (e : Ex) (b : List UInt8) : List UInt8:=if rankX e < need then 40 :: (b ++ [41]) else b

def xrowM (w : List UInt8) (need : Nat) : List Ex → List (List UInt8) → List UInt8
 | e :: es,b :: bs => 32 :: (w ++ 32 :: (xwr need e b ++ xrowM w need es bs))
 | _,_ => []

def xF (k o : Int) (v : V3) (t n : ByteArray) (ks : List Ex) (bs : List (List UInt8)) : List UInt8 :=
 if k = 1 then lit v
 else if k = 2 then 58 :: n.data.toList
 else if k = 3 then (if t = ⟨#[]⟩ then n.data.toList else t.data.toList ++ 46 :: n.data.toList)
 else match ks,bs with
  | a :: ar,x :: xs =>
   if k = 4 then 45 :: (if kindOf a = 4 then 32 :: xwr 7 a x else xwr 7 a x)
   else if k = 5 then xwr (if o ≤ 2 then 5 else 6) a x ++ (32 : UInt8) :: (ariS o ++ (32 : UInt8) :: (match ar,xs with
    | b :: _,y :: _ => xwr (if o ≤ 2 then 6 else 7) b y
    | _,_ => []))
   else if k = 6 then xwr 5 a x ++ (32 : UInt8) :: (cmpS o ++ (32 : UInt8) :: (match ar,xs with
    | b :: _,y :: _ => xwr 5 b y
    | _,_ => []))
   else if k = 7 then xwr 5 a x ++ (32 : UInt8) :: (wIs ++ 32 :: (if o = 1 then wNot ++ 32 :: wNull else wNull))
   else if k = 8 then wNot ++ 32 :: xwr 3 a x
   else if k = 9 then xwr 3 a x ++ xrowM wAnd 3 ar xs
   else xwr 2 a x ++ xrowM wOr 2 ar xs
  | _,_ => []

mutual
def xB : Ex → List UInt8
 | .mk k o v t n ks _ => xF k o v t n ks (xBs ks)
def xBs : List Ex → List (List UInt8)
 | [] => []
 | e :: l => xB e :: xBs l
end

def xE (need : Nat) (e : Ex) : List UInt8:=xwr need e (xB e)

theorem xBs_map : ∀ l,xBs l = l.map xB
 | [] => by rw [xBs]; rfl
 | e :: l => by rw [xBs,xBs_map l]; rfl

theorem xB_mk (k o : Int) (v : V3) (t n : ByteArray) (ks : List Ex) (p : Int) : xB (.mk k o v t n ks p) = xF k o v t n ks (ks.map xB):=by rw [xB,xBs_map]

theorem lit_hd45 {v : V3} (h : litOk v) (y : List UInt8) : (lit v ++ y).head? ≠ some 45:=by
 obtain ⟨hr,h0⟩:=h
 rcases rt_kind hr with k | k | k | k
 ·rw [lit_null k]; simp
 ·have hall : ∀ c ∈ lit v,48 ≤ c.toNat ∧ c.toNat ≤ 57:=by
   rw [lit_int k]
   unfold Lib.itoa
   rw [if_neg (by omega)]
   exact (mg_dec _).2.2
  obtain ⟨c,q,e,_⟩:=itoa_head v.2.1
  rw [← lit_int k] at e
  rw [e] at hall ⊢
  have:=hall c (by simp)
  simp only [List.cons_append,List.head?_cons,ne_eq,Option.some.injEq]
  intro e2
  rw [e2] at this
  exact absurd this (by decide)
 ·unfold lit
  rw [if_neg (by omega),if_pos k]
  split <;> simp
 ·rw [lit_text k,quo]; simp

theorem name_hd45 {n : ByteArray} (h : isName n = true) (y : List UInt8) : (n.data.toList ++ y).head? ≠ some 45:=by
 obtain ⟨c,q,e,hc,_,_⟩:=name_parts (by rw [← isName_list]; exact h)
 rw [e]
 simp only [List.cons_append,List.head?_cons,ne_eq,Option.some.injEq]
 intro e2
 rw [e2] at hc
 exact absurd hc (by decide)

theorem hd45 {a : Ex} (h : RtE a) (hk : kindOf a ≠ 4) (y : List UInt8) : (xE 7 a ++ y).head? ≠ some 45:=by
 by_cases hr : rankX a < 7
 ·have e1 : xE 7 a = 40 :: (xB a ++ [41]):=by unfold xE xwr; rw [if_pos hr]
  rw [e1]
  simp
 ·have e1 : xE 7 a = xB a:=by unfold xE xwr; rw [if_neg hr]
  rw [e1]
  obtain ⟨ho,h⟩:=h
  obtain ⟨k,o,v,t,n,ks,q⟩:=a
  have hk4 : k ≠ 4:=hk
  have hov : ¬ (k = 11 ∨ k = 12 ∨ k = 13 ∨ k = 14):=ho
  obtain ⟨_,_,⟨c1,c2,_⟩,f⟩:=RtI.iff.1 h
  have k123 : k = 1 ∨ k = 2 ∨ k = 3:=by
   apply Classical.byContradiction
   intro hn
   by_cases hx : k = 5 ∨ k = 6 ∨ k = 7 ∨ k = 8 ∨ k = 9 ∨ k = 10
   ·apply hr
    show (if k = 10 then 1 else if k = 9 then 2 else if k = 8 then 3 else if k = 6 ∨ k = 7 then 4 else if k = 5 then (if o ≤ 2 then 5 else 6) else 7) < 7
    repeat' split
    all_goals omega
   ·have hf : formK k = (0,0,1,0):=by
     unfold formK
     rw [if_neg (by omega),if_neg (by omega),if_neg (by omega),if_neg (by omega),if_neg (by omega),if_neg (by omega)]
    rw [hf] at c1 c2
    simp only at c1 c2
    omega
  rw [xB_mk]
  unfold xF
  rcases k123 with rfl | rfl | rfl
  ·rw [if_pos rfl]
   exact lit_hd45 (f.1 rfl).2.2 y
  ·rw [if_neg (by decide),if_pos rfl]
   simp
  ·rw [if_neg (by decide),if_neg (by decide),if_pos rfl]
   obtain ⟨htn,hn,_⟩:=f.2.2.1 rfl
   by_cases et : t = ⟨#[]⟩
   ·rw [if_pos et]; exact name_hd45 hn y
   ·rw [if_neg et,List.append_assoc]; exact name_hd45 (htn.resolve_left et) _

def xsep {α : Type} (f : α → List UInt8) : List α → List UInt8
 | [] => []
 | [a] => f a
 | a :: b :: l => f a ++ 44 :: 32 :: xsep f (b :: l)

def xkid : List Ex → List UInt8
 | a :: _ => xE 1 a
 | [] => []

def xIt : Ex → List UInt8
 | .mk k o v t n ks p => if k = 11 then wCOUNT ++ [40,42,41] else if k = 12 ∨ k = 13 ∨ k = 14 then (if k = 12 then wSUM else if k = 13 then wMIN else wMAX) ++ 40 :: (xkid ks ++ [41]) else xE 1 (.mk k o v t n ks p)

def xSe (x : Se) : List UInt8:=x.1.data.toList ++ 32 :: 61 :: 32 :: xE 1 x.2.1

def xSo (x : So) : List UInt8:=lit (1,x.1,⟨#[]⟩) ++ (if x.2.1 then 32 :: wDESC else [])

def xWh : List Ex → List UInt8
 | e :: _ => 32 :: (wWHERE ++ 32 :: xE 1 e)
 | [] => []

def xJo (t : St) : List UInt8:=match t.on with
 | e :: _ => 32 :: (wJOIN ++ 32 :: (t.join.data.toList ++ 32 :: (wON ++ 32 :: xE 1 e)))
 | [] => []

def xGr (l : List Ex) : List UInt8:=if l = [] then [] else 32 :: (wGROUP ++ 32 :: (wBY ++ 32 :: xsep (xE 1) l))

def xOr (l : List So) : List UInt8:=if l = [] then [] else 32 :: (wORDER ++ 32 :: (wBY ++ 32 :: xsep xSo l))

def xLi : List Int → List UInt8
 | n :: _ => 32 :: (wLIMIT ++ 32 :: lit (1,n,⟨#[]⟩))
 | [] => []

def xS (t : St) : List UInt8 :=
 if t.kind = 1 then wINSERT ++ 32 :: (wINTO ++ 32 :: (t.table.data.toList ++ 32 :: (wVALUES ++ 32 :: 40 :: (xsep (xE 1) t.items ++ [41]))))
 else if t.kind = 2 then wUPDATE ++ 32 :: (t.table.data.toList ++ 32 :: (wSET ++ 32 :: (xsep xSe t.sets ++ xWh t.whr)))
 else if t.kind = 3 then wDELETE ++ 32 :: (wFROM ++ 32 :: (t.table.data.toList ++ xWh t.whr))
 else wSELECT ++ 32 :: ((if t.star then [42] else xsep xIt t.items) ++ 32 :: (wFROM ++ 32 :: (t.table.data.toList ++ (xJo t ++ (xWh t.whr ++ (xGr t.groups ++ (xOr t.sorts ++ xLi t.limit)))))))
end Go.Proofs.YteolnlcmnaknnaaGreatDoor
