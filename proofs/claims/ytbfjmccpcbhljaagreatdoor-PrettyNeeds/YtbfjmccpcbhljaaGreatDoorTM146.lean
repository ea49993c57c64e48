/- M146 M147 M148 M149 M150 -/
import Derived.Test.YtbfjmccpcbhljaaGreatDoorTM140
namespace Go.Proofs.YtbfjmccpcbhljaaGreatDoor
open Go Go.RowKit
def Lx (y : List UInt8) (ts : List Tk) : Prop:=∀ a,∃ us,Toks y a us ∧ us.map Prod.fst = ts

def NoRun (y : List UInt8) : Prop:=∀ d ∈ y.head?,¬ runB d

theorem lx_nil : Lx [] [(1,0,⟨#[]⟩)]:=fun _ => ⟨_,Toks.fin rfl,rfl⟩

theorem lx_piece {c : UInt8} {q y : List UInt8} {t : Tk} {ts : List Tk} (h0 : skp false ((c :: q) ++ y) = 0) (hp : pieceN ((c :: q) ++ y) = (c :: q).length) (ht : tokR (c :: q) = (t,0)) (hy : Lx y ts) : Lx ((c :: q) ++ y) (t :: ts):=fun a => by
 obtain ⟨us,u1,u2⟩:=hy (a + 0 + (c :: q).length)
 have hs : skipL ((c :: q) ++ y) = (c :: q) ++ y:=by rw [skipL,h0]; rfl
 have hpc : pce ((c :: q) ++ y) = c :: q:=by rw [pce,hs,hp,List.take_left' rfl]
 have hr : rst ((c :: q) ++ y) = y:=by rw [rst,hs,hp,List.drop_left' rfl]
 refine ⟨_,Toks.more (l:=(c :: q) ++ y) (a:=a) (t:=t) (ts:=us) (by rw [hs]; simp) (by rw [hpc]; exact ht) (by rw [hr,h0,hs,hp]; exact u1),?_⟩
 rw [List.map_cons,u2]

theorem lx_blank {y : List UInt8} {ts : List Tk} (hy : Lx y ts) : Lx (32 :: y) ts:=fun a => by
 obtain ⟨us,u1,u2⟩:=hy (a + 1)
 have hk : skp false (32 :: y) = 1 + skp false y:=by simp only [skp]; rw [if_pos (by decide)]
 have hs : skipL (32 :: y) = skipL y:=by rw [skipL,hk,Nat.add_comm]; rfl
 have hp : pce (32 :: y) = pce y:=by rw [pce,pce,hs]
 have hr : rst (32 :: y) = rst y:=by rw [rst,rst,hs]
 have ea : a + skp false (32 :: y) = a + 1 + skp false y:=by omega
 cases u1 with
 | fin h =>
  have:=Toks.fin (l:=32 :: y) (a:=a) (by rw [hs]; exact h)
  rw [ea] at this
  exact ⟨_,this,u2⟩
 | more h1 h2 h3 =>
  have:=Toks.more (l:=32 :: y) (a:=a) (by rw [hs]; exact h1) (by rw [hp]; exact h2) (by rw [hr,ea,hs]; exact h3)
  rw [ea] at this
  exact ⟨_,this,u2⟩

theorem run_part : ∀ (q y : List UInt8),(∀ d ∈ q,runB d) → NoRun y → runN (q ++ y) = q.length
 | [],y,_,h => by
  cases y with
  | nil => rfl
  | cons d y =>
   simp only [List.nil_append,runN,List.length_nil]
   rw [if_neg (h d (by simp))]
 | c :: q,y,hq,h => by
  simp only [List.cons_append,runN,List.length_cons]
  rw [if_pos (hq c (by simp)),run_part q y (fun d hd => hq d (by simp [hd])) h]
  omega

theorem run_not {c : UInt8} (h : runB c ∨ cls c = 8) : cls c ≠ 2 ∧ cls c ≠ 3 ∧ c ≠ 45:=by
 refine ⟨?_,?_,fun e => ?_⟩
 ·unfold runB at h; omega
 ·unfold runB at h; omega
 ·subst e
  have : ¬ (runB 45 ∨ cls 45 = 8):=by unfold runB; decide
  exact this h

theorem lx_sg1 {c : UInt8} {y : List UInt8} {ts : List Tk} (hc : cls c = 10) (h1 : c ≠ 60) (h2 : c ≠ 62) (h3 : c ≠ 45 ∨ y.head? ≠ some 45) (hy : Lx y ts) : Lx (c :: y) ((7,0,ofL [c]) :: ts):=by
 refine lx_piece (c:=c) (q:=[]) (skp_here (by omega) (by omega) h3) ?_ (tokR_sign hc) hy
 show pieceN (c :: y) = 1
 simp only [pieceN]
 rw [if_neg (by unfold runB; omega),if_neg (by omega),if_pos hc]
 cases y with
 | nil => rfl
 | cons d y =>
  simp only [sgnN]
  rw [if_neg]
  unfold twoS
  rintro (⟨e,_⟩ | ⟨e,_⟩ | ⟨e,_⟩)
  ·exact h1 e
  ·exact h1 e
  ·exact h2 e

theorem words_up : ∀ w ∈ wordsL,w ≠ [] ∧ ∀ d ∈ w,cls d = 6:=by decide +kernel

theorem name_parts {l : List UInt8} (h : nameL l = true) : ∃ c q,l = c :: q ∧ cls c = 5 ∧ (∀ d ∈ q,runB d) ∧ wordL l = false:=by
 cases l with
 | nil => simp [nameL] at h
 | cons c q =>
  simp only [nameL,Bool.and_eq_true,decide_eq_true_eq,List.all_eq_true] at h
  obtain ⟨⟨h1,_⟩,h3⟩:=h
  refine ⟨c,q,rfl,h1,fun d hd => ?_,?_⟩
  ·have:=h3 d (by simp [hd])
   unfold nmB at this
   simp only [Bool.or_eq_true,decide_eq_true_eq] at this
   unfold runB
   omega
  ·unfold wordL
   rw [List.any_eq_false]
   intro w hw e
   have e2 : c :: q = w:=by simpa using e
   have:=(words_up w hw).2 c (by rw [← e2]; simp)
   omega

theorem dig_run {c : UInt8} (h : 48 ≤ c.toNat ∧ c.toNat ≤ 57) : cls c = 4:=by
 unfold cls
 rw [if_neg (by omega),if_neg (by omega),if_pos h]

def Fol (y : List UInt8) : Prop:=NoRun y ∧ y.head? ≠ some 39

theorem fol_cons {c : UInt8} (y : List UInt8) (h : ¬ runB c) (h2 : c ≠ 39) : Fol (c :: y):=⟨fun d hd => by simp at hd; subst hd; exact h,by simp; exact h2⟩

theorem fol32 (y : List UInt8) : Fol (32 :: y):=fol_cons y (by unfold runB; decide) (by decide)

theorem fol41 (y : List UInt8) : Fol (41 :: y):=fol_cons y (by unfold runB; decide) (by decide)

theorem fol44 (y : List UInt8) : Fol (44 :: y):=fol_cons y (by unfold runB; decide) (by decide)

theorem fol_nil : Fol []:=⟨fun _ h => by simp at h,by simp⟩

def xwr (need : Nat) (e : Ex) (b : List UInt8) : List UInt8:=if rankX e < need then 40 :: (b ++ [41]) else b

def xrowM (w : List UInt8) (need : Nat) : List Ex → List (List UInt8) → List UInt8
 | e :: es,b :: bs => 32 :: (w ++ 32 :: (xwr need e b ++ xrowM w need es bs))
 | _,_ => []

def xF (k o : Int) (v : V3) (t n : ByteArray) (ks : List Ex) (bs : List (List UInt8)) : List UInt8 :=
 if k = 1 then lit v
 else if k = 2 then 58 :: n.data.toList
 else if k = 3 then (if t = ⟨#[]⟩ then n.data.toList else t.data.toList ++ 46 :: n.data.toList)
 else match ks,bs with
  | a :: ar,x :: xs =>
   if k = 4 then 45 :: (if kindOf a = 4 then 32 :: xwr 7 a x else xwr 7 a x)
   else if k = 5 then xwr (if o ≤ 2 then 5 else 6) a x ++ (32 : UInt8) :: (ariS o ++ (32 : UInt8) :: (match ar,xs with
    | b :: _,y :: _ => xwr (if o ≤ 2 then 6 else 7) b y
    | _,_ => []))
   else if k = 6 then xwr 5 a x ++ (32 : UInt8) :: (cmpS o ++ (32 : UInt8) :: (match ar,xs with
    | b :: _,y :: _ => xwr 5 b y
    | _,_ => []))
   else if k = 7 then xwr 5 a x ++ (32 : UInt8) :: (wIs ++ 32 :: (if o = 1 then wNot ++ 32 :: wNull else wNull))
   else if k = 8 then wNot ++ 32 :: xwr 3 a x
   else if k = 9 then xwr 3 a x ++ xrowM wAnd 3 ar xs
   else xwr 2 a x ++ xrowM wOr 2 ar xs
  | _,_ => []

mutual
def xB : Ex → List UInt8
 | .mk k o v t n ks _ => xF k o v t n ks (xBs ks)
def xBs : List Ex → List (List UInt8)
 | [] => []
 | e :: l => xB e :: xBs l
end

def xE (need : Nat) (e : Ex) : List UInt8:=xwr need e (xB e)

theorem xBs_map : ∀ l,xBs l = l.map xB
 | [] => by rw [xBs]; rfl
 | e :: l => by rw [xBs,xBs_map l]; rfl

theorem xB_mk (k o : Int) (v : V3) (t n : ByteArray) (ks : List Ex) (p : Int) : xB (.mk k o v t n ks p) = xF k o v t n ks (ks.map xB):=by rw [xB,xBs_map]

theorem norun46 (y : List UInt8) : NoRun (46 :: y):=fun d hd => by simp at hd; subst hd; unfold runB; decide

theorem lit_hd45 {v : V3} (h : litOk v) (y : List UInt8) : (lit v ++ y).head? ≠ some 45:=by
 obtain ⟨hr,h0⟩:=h
 rcases rt_kind hr with k | k | k | k
 ·rw [lit_null k]; simp
 ·have hall : ∀ c ∈ lit v,48 ≤ c.toNat ∧ c.toNat ≤ 57:=by
   rw [lit_int k]
   unfold Lib.itoa
   rw [if_neg (by omega)]
   exact (mg_dec _).2.2
  obtain ⟨c,q,e,_⟩:=itoa_head v.2.1
  rw [← lit_int k] at e
  rw [e] at hall ⊢
  have:=hall c (by simp)
  simp only [List.cons_append,List.head?_cons,ne_eq,Option.some.injEq]
  intro e2
  rw [e2] at this
  exact absurd this (by decide)
 ·unfold lit
  rw [if_neg (by omega),if_pos k]
  split <;> simp
 ·rw [lit_text k,quo]; simp

theorem name_hd45 {n : ByteArray} (h : isName n = true) (y : List UInt8) : (n.data.toList ++ y).head? ≠ some 45:=by
 obtain ⟨c,q,e,hc,_,_⟩:=name_parts (by rw [← isName_list]; exact h)
 rw [e]
 simp only [List.cons_append,List.head?_cons,ne_eq,Option.some.injEq]
 intro e2
 rw [e2] at hc
 exact absurd hc (by decide)

theorem hd45 {a : Ex} (h : RtE a) (hk : kindOf a ≠ 4) (y : List UInt8) : (xE 7 a ++ y).head? ≠ some 45:=by
 by_cases hr : rankX a < 7
 ·have e1 : xE 7 a = 40 :: (xB a ++ [41]):=by unfold xE xwr; rw [if_pos hr]
  rw [e1]
  simp
 ·have e1 : xE 7 a = xB a:=by unfold xE xwr; rw [if_neg hr]
  rw [e1]
  obtain ⟨ho,h⟩:=h
  obtain ⟨k,o,v,t,n,ks,q⟩:=a
  have hk4 : k ≠ 4:=hk
  have hov : ¬ (k = 11 ∨ k = 12 ∨ k = 13 ∨ k = 14):=ho
  obtain ⟨_,_,⟨c1,c2,_⟩,f⟩:=RtI.iff.1 h
  have k123 : k = 1 ∨ k = 2 ∨ k = 3:=by
   apply Classical.byContradiction
   intro hn
   by_cases hx : k = 5 ∨ k = 6 ∨ k = 7 ∨ k = 8 ∨ k = 9 ∨ k = 10
   ·apply hr
    show (if k = 10 then 1 else if k = 9 then 2 else if k = 8 then 3 else if k = 6 ∨ k = 7 then 4 else if k = 5 then (if o ≤ 2 then 5 else 6) else 7) < 7
    repeat' split
    all_goals omega
   ·have hf : formK k = (0,0,1,0):=by
     unfold formK
     rw [if_neg (by omega),if_neg (by omega),if_neg (by omega),if_neg (by omega),if_neg (by omega),if_neg (by omega)]
    rw [hf] at c1 c2
    simp only at c1 c2
    omega
  rw [xB_mk]
  unfold xF
  rcases k123 with rfl | rfl | rfl
  ·rw [if_pos rfl]
   exact lit_hd45 (f.1 rfl).2.2 y
  ·rw [if_neg (by decide),if_pos rfl]
   simp
  ·rw [if_neg (by decide),if_neg (by decide),if_pos rfl]
   obtain ⟨htn,hn,_⟩:=f.2.2.1 rfl
   by_cases et : t = ⟨#[]⟩
   ·rw [if_pos et]; exact name_hd45 hn y
   ·rw [if_neg et,List.append_assoc]; exact name_hd45 (htn.resolve_left et) _

def xsep {α : Type} (f : α → List UInt8) : List α → List UInt8
 | [] => []
 | [a] => f a
 | a :: b :: l => f a ++ 44 :: 32 :: xsep f (b :: l)

def xkid : List Ex → List UInt8
 | a :: _ => xE 1 a
 | [] => []

def xIt : Ex → List UInt8
 | .mk k o v t n ks p => if k = 11 then wCOUNT ++ [40,42,41] else if k = 12 ∨ k = 13 ∨ k = 14 then (if k = 12 then wSUM else if k = 13 then wMIN else wMAX) ++ 40 :: (xkid ks ++ [41]) else xE 1 (.mk k o v t n ks p)

def xSe (x : Se) : List UInt8:=x.1.data.toList ++ 32 :: 61 :: 32 :: xE 1 x.2.1

def xSo (x : So) : List UInt8:=lit (1,x.1,⟨#[]⟩) ++ (if x.2.1 then 32 :: wDESC else [])

def xWh : List Ex → List UInt8
 | e :: _ => 32 :: (wWHERE ++ 32 :: xE 1 e)
 | [] => []

def xJo (t : St) : List UInt8:=match t.on with
 | e :: _ => 32 :: (wJOIN ++ 32 :: (t.join.data.toList ++ 32 :: (wON ++ 32 :: xE 1 e)))
 | [] => []

def xGr (l : List Ex) : List UInt8:=if l = [] then [] else 32 :: (wGROUP ++ 32 :: (wBY ++ 32 :: xsep (xE 1) l))

def xOr (l : List So) : List UInt8:=if l = [] then [] else 32 :: (wORDER ++ 32 :: (wBY ++ 32 :: xsep xSo l))

def xLi : List Int → List UInt8
 | n :: _ => 32 :: (wLIMIT ++ 32 :: lit (1,n,⟨#[]⟩))
 | [] => []

def xS (t : St) : List UInt8 :=
 if t.kind = 1 then wINSERT ++ 32 :: (wINTO ++ 32 :: (t.table.data.toList ++ 32 :: (wVALUES ++ 32 :: 40 :: (xsep (xE 1) t.items ++ [41]))))
 else if t.kind = 2 then wUPDATE ++ 32 :: (t.table.data.toList ++ 32 :: (wSET ++ 32 :: (xsep xSe t.sets ++ xWh t.whr)))
 else if t.kind = 3 then wDELETE ++ 32 :: (wFROM ++ 32 :: (t.table.data.toList ++ xWh t.whr))
 else wSELECT ++ 32 :: ((if t.star then [42] else xsep xIt t.items) ++ 32 :: (wFROM ++ 32 :: (t.table.data.toList ++ (xJo t ++ (xWh t.whr ++ (xGr t.groups ++ (xOr t.sorts ++ xLi t.limit)))))))

theorem norun40 (y : List UInt8) : NoRun (40 :: y):=fun d hd => by simp at hd; subst hd; unfold runB; decide

theorem xIt_mk (k o : Int) (v : V3) (t n : ByteArray) (ks : List Ex) (q : Int) : xIt (.mk k o v t n ks q) = if k = 11 then wCOUNT ++ [40,42,41] else if k = 12 ∨ k = 13 ∨ k = 14 then (if k = 12 then wSUM else if k = 13 then wMIN else wMAX) ++ 40 :: (xkid ks ++ [41]) else xE 1 (.mk k o v t n ks q):=by
 cases ks <;> rfl

theorem fol_wh (l : List Ex) {y : List UInt8} (h : Fol y) : Fol (xWh l ++ y):=by
 cases l with
 | nil => exact h
 | cons e l => exact fol32 _

theorem fol_jo (t : St) {y : List UInt8} (h : Fol y) : Fol (xJo t ++ y):=by
 unfold xJo
 split
 ·exact fol32 _
 ·exact h

theorem fol_gr (l : List Ex) {y : List UInt8} (h : Fol y) : Fol (xGr l ++ y):=by
 unfold xGr
 split
 ·exact h
 ·exact fol32 _

theorem fol_or (l : List So) {y : List UInt8} (h : Fol y) : Fol (xOr l ++ y):=by
 unfold xOr
 split
 ·exact h
 ·exact fol32 _

theorem fol_li (l : List Int) {y : List UInt8} (h : Fol y) : Fol (xLi l ++ y):=by
 cases l with
 | nil => exact h
 | cons e l => exact fol32 _
end Go.Proofs.YtbfjmccpcbhljaaGreatDoor
