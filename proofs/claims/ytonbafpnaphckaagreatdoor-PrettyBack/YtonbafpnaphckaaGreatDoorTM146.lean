/- M146 M147 M148 M149 M150 -/
import Derived.Test.YtonbafpnaphckaaGreatDoorTM140
namespace Go.Proofs.YtonbafpnaphckaaGreatDoor
open Go Go.RowKit
def Lx (y : List UInt8) (ts : List Tk) : Prop:=∀ a,∃ us,Toks y a us ∧ us.map Prod.fst = ts

def NoRun (y : List UInt8) : Prop:=∀ d ∈ y.head?,¬ runB d

theorem lx_nil : Lx [] [(1,0,⟨#[]⟩)]:=fun _ => ⟨_,Toks.fin rfl,rfl⟩

theorem lx_piece {c : UInt8} {q y : List UInt8} {t : Tk} {ts : List Tk} (h0 : skp false ((c :: q) ++ y) = 0) (hp : pieceN ((c :: q) ++ y) = (c :: q).length) (ht : tokR (c :: q) = (t,0)) (hy : Lx y ts) : Lx ((c :: q) ++ y) (t :: ts):=fun a => by
 obtain ⟨us,u1,u2⟩:=hy (a + 0 + (c :: q).length)
 have hs : skipL ((c :: q) ++ y) = (c :: q) ++ y:=by rw [skipL,h0]; rfl
 have hpc : pce ((c :: q) ++ y) = c :: q:=by rw [pce,hs,hp,List.take_left' rfl]
 have hr : rst ((c :: q) ++ y) = y:=by rw [rst,hs,hp,List.drop_left' rfl]
 refine ⟨_,Toks.more (l:=(c :: q) ++ y) (a:=a) (t:=t) (ts:=us) (by rw [hs]; simp) (by rw [hpc]; exact ht) (by rw [hr,h0,hs,hp]; exact u1),?_⟩
 rw [List.map_cons,u2]

theorem lx_blank {y : List UInt8} {ts : List Tk} (hy : Lx y ts) : Lx (32 :: y) ts:=fun a => by
 obtain ⟨us,u1,u2⟩:=hy (a + 1)
 have hk : skp false (32 :: y) = 1 + skp false y:=by simp only [skp]; rw [if_pos (by decide)]
 have hs : skipL (32 :: y) = skipL y:=by rw [skipL,hk,Nat.add_comm]; rfl
 have hp : pce (32 :: y) = pce y:=by rw [pce,pce,hs]
 have hr : rst (32 :: y) = rst y:=by rw [rst,rst,hs]
 have ea : a + skp false (32 :: y) = a + 1 + skp false y:=by omega
 cases u1 with
 | fin h =>
  have:=Toks.fin (l:=32 :: y) (a:=a) (by rw [hs]; exact h)
  rw [ea] at this
  exact ⟨_,this,u2⟩
 | more h1 h2 h3 =>
  have:=Toks.more (l:=32 :: y) (a:=a) (by rw [hs]; exact h1) (by rw [hp]; exact h2) (by rw [hr,ea,hs]; exact h3)
  rw [ea] at this
  exact ⟨_,this,u2⟩

theorem run_part : ∀ (q y : List UInt8),(∀ d ∈ q,runB d) → NoRun y → runN (q ++ y) = q.length
 | [],y,_,h => by
  cases y with
  | nil => rfl
  | cons d y =>
   simp only [List.nil_append,runN,List.length_nil]
   rw [if_neg (h d (by simp))]
 | c :: q,y,hq,h => by
  simp only [List.cons_append,runN,List.length_cons]
  rw [if_pos (hq c (by simp)),run_part q y (fun d hd => hq d (by simp [hd])) h]
  omega

theorem run_not {c : UInt8} (h : runB c ∨ cls c = 8) : cls c ≠ 2 ∧ cls c ≠ 3 ∧ c ≠ 45:=by
 refine ⟨?_,?_,fun e => ?_⟩
 ·unfold runB at h; omega
 ·unfold runB at h; omega
 ·subst e
  have : ¬ (runB 45 ∨ cls 45 = 8):=by unfold runB; decide
  exact this h

theorem lx_run {c : UInt8} {q y : List UInt8} {t : Tk} {ts : List Tk} (hc : runB c ∨ cls c = 8) (hq : ∀ d ∈ q,runB d) (hn : NoRun y) (ht : tokR (c :: q) = (t,0)) (hy : Lx y ts) : Lx ((c :: q) ++ y) (t :: ts):=by
 obtain ⟨n2,n3,n4⟩:=run_not hc
 refine lx_piece (skp_here n2 n3 (Or.inl n4)) ?_ ht hy
 show pieceN (c :: (q ++ y)) = _
 simp only [pieceN]
 rw [if_pos hc,run_part q y hq hn,List.length_cons]
 omega

theorem lx_sg1 {c : UInt8} {y : List UInt8} {ts : List Tk} (hc : cls c = 10) (h1 : c ≠ 60) (h2 : c ≠ 62) (h3 : c ≠ 45 ∨ y.head? ≠ some 45) (hy : Lx y ts) : Lx (c :: y) ((7,0,ofL [c]) :: ts):=by
 refine lx_piece (c:=c) (q:=[]) (skp_here (by omega) (by omega) h3) ?_ (tokR_sign hc) hy
 show pieceN (c :: y) = 1
 simp only [pieceN]
 rw [if_neg (by unfold runB; omega),if_neg (by omega),if_pos hc]
 cases y with
 | nil => rfl
 | cons d y =>
  simp only [sgnN]
  rw [if_neg]
  unfold twoS
  rintro (⟨e,_⟩ | ⟨e,_⟩ | ⟨e,_⟩)
  ·exact h1 e
  ·exact h1 e
  ·exact h2 e

theorem lx_cmp {o : Int} (h1 : 1 ≤ o) (h2 : o ≤ 6) {y : List UInt8} {ts : List Tk} (hy : Lx y ts) : Lx (cmpS o ++ 32 :: y) ((7,0,ofL (cmpS o)) :: ts):=by
 rcases (by omega : o = 1 ∨ o = 2 ∨ o = 3 ∨ o = 4 ∨ o = 5 ∨ o = 6) with rfl | rfl | rfl | rfl | rfl | rfl
 all_goals exact lx_piece (by rfl) (by rfl) (tokR_sign (by decide)) (lx_blank hy)

theorem words_up : ∀ w ∈ wordsL,w ≠ [] ∧ ∀ d ∈ w,cls d = 6:=by decide +kernel

theorem lx_word {w y : List UInt8} {ts : List Tk} (hw : w ∈ wordsL) (hn : NoRun y) (hy : Lx y ts) : Lx (w ++ y) ((4,0,ofL w) :: ts):=by
 obtain ⟨hne,hu⟩:=words_up w hw
 cases w with
 | nil => exact absurd rfl hne
 | cons c q =>
  have hc:=hu c (by simp)
  refine lx_run (Or.inl (by unfold runB; omega)) (fun d hd => by have:=hu d (by simp [hd]); unfold runB; omega) hn ?_ hy
  rw [tokR_run (by omega),if_pos]
  unfold wordL
  rw [List.any_eq_true]
  exact ⟨c :: q,hw,by simp⟩

theorem name_parts {l : List UInt8} (h : nameL l = true) : ∃ c q,l = c :: q ∧ cls c = 5 ∧ (∀ d ∈ q,runB d) ∧ wordL l = false:=by
 cases l with
 | nil => simp [nameL] at h
 | cons c q =>
  simp only [nameL,Bool.and_eq_true,decide_eq_true_eq,List.all_eq_true] at h
  obtain ⟨⟨h1,_⟩,h3⟩:=h
  refine ⟨c,q,rfl,h1,fun d hd => ?_,?_⟩
  ·have:=h3 d (by simp [hd])
   unfold nmB at this
   simp only [Bool.or_eq_true,decide_eq_true_eq] at this
   unfold runB
   omega
  ·unfold wordL
   rw [List.any_eq_false]
   intro w hw e
   have e2 : c :: q = w:=by simpa using e
   have:=(words_up w hw).2 c (by rw [← e2]; simp)
   omega

theorem lx_name {n : ByteArray} {y : List UInt8} {ts : List Tk} (h : isName n = true) (hn : NoRun y) (hy : Lx y ts) : Lx (n.data.toList ++ y) ((3,0,n) :: ts):=by
 have hl : nameL n.data.toList = true:=by rw [← isName_list]; exact h
 obtain ⟨c,q,e,hc,hq,hw⟩:=name_parts hl
 have hofl : ofL (c :: q) = n:=by rw [← e,ofL_list]
 rw [e] at hl hw ⊢
 refine lx_run (Or.inl (by unfold runB; omega)) hq hn ?_ hy
 rw [tokR_run (by omega),if_neg (by rw [hw]; simp),if_pos hl,hofl]

theorem lx_param {n : ByteArray} {y : List UInt8} {ts : List Tk} (h : isName n = true) (hn : NoRun y) (hy : Lx y ts) : Lx ((58 :: n.data.toList) ++ y) ((6,0,n) :: ts):=by
 have hl : nameL n.data.toList = true:=by rw [← isName_list]; exact h
 obtain ⟨c,q,e,hc,hq,_⟩:=name_parts hl
 refine lx_run (Or.inr (by decide)) (fun d hd => ?_) hn ?_ hy
 ·rw [e] at hd
  rcases List.mem_cons.1 hd with rfl | hd
  ·unfold runB; omega
  ·exact hq d hd
 ·rw [tokR_colon (by decide),if_pos hl,ofL_list]

theorem dig_run {c : UInt8} (h : 48 ≤ c.toNat ∧ c.toNat ≤ 57) : cls c = 4:=by
 unfold cls
 rw [if_neg (by omega),if_neg (by omega),if_pos h]

def Fol (y : List UInt8) : Prop:=NoRun y ∧ y.head? ≠ some 39

theorem fol_cons {c : UInt8} (y : List UInt8) (h : ¬ runB c) (h2 : c ≠ 39) : Fol (c :: y):=⟨fun d hd => by simp at hd; subst hd; exact h,by simp; exact h2⟩

theorem fol32 (y : List UInt8) : Fol (32 :: y):=fol_cons y (by unfold runB; decide) (by decide)

theorem fol41 (y : List UInt8) : Fol (41 :: y):=fol_cons y (by unfold runB; decide) (by decide)

theorem fol44 (y : List UInt8) : Fol (44 :: y):=fol_cons y (by unfold runB; decide) (by decide)

theorem fol_nil : Fol []:=⟨fun _ h => by simp at h,by simp⟩

theorem lx_lit {v : V3} {y : List UInt8} {ts : List Tk} (h : litOk v) (hf : Fol y) (hy : Lx y ts) : Lx (lit v ++ y) ((litT v).1 :: ts):=by
 obtain ⟨hr,h0⟩:=h
 have hl : LitOf (lit v) v:=⟨hr,rfl⟩
 rcases rt_kind hr with k | k | k | k
 ·rw [lit_null k]
  have : (litT v).1 = (4,0,ofL wNull):=by unfold litT; rw [if_neg (by omega),if_neg (by omega),if_neg (by omega)]; rfl
  rw [this]
  exact lx_word (w:=wNull) (by decide) hf.1 hy
 ·have ht : (litT v).1 = (2,v.2.1,⟨#[]⟩):=by unfold litT; rw [if_pos k]
  rw [ht]
  have hall : ∀ c ∈ lit v,48 ≤ c.toNat ∧ c.toNat ≤ 57:=by
   rw [lit_int k]
   unfold Lib.itoa
   rw [if_neg (by omega)]
   exact (mg_dec _).2.2
  obtain ⟨c,q,e,_⟩:=itoa_head v.2.1
  rw [← lit_int k] at e
  rw [e] at hall hl ⊢
  have hrun : ∀ d ∈ c :: q,runB d:=fun d hd => Or.inl (dig_run (hall d hd))
  refine lx_run (Or.inl (hrun c (by simp))) (fun d hd => hrun d (by simp [hd])) hf.1 ?_ hy
  rw [tokR_digit (dig_run (hall c (by simp))),parR_ok hl,if_pos rfl]
 ·have hb : v.2.1 = 0 ∨ v.2.1 = 1:=by
   unfold rgt at hr
   rw [if_neg (by omega),if_neg (by omega),if_pos k] at hr
   simp only [Bool.and_eq_true,Bool.or_eq_true,beq_iff_eq] at hr
   exact hr.1
  rcases hb with hb | hb
  ·rw [lit_false k hb]
   have : (litT v).1 = (4,0,ofL wFalse):=by unfold litT; rw [if_neg (by omega),if_neg (by omega),if_pos k,if_neg (by omega)]; rfl
   rw [this]
   exact lx_word (w:=wFalse) (by decide) hf.1 hy
  ·rw [lit_true k hb]
   have : (litT v).1 = (4,0,ofL wTrue):=by unfold litT; rw [if_neg (by omega),if_neg (by omega),if_pos k,if_pos hb]; rfl
   rw [this]
   exact lx_word (w:=wTrue) (by decide) hf.1 hy
 ·have ht : (litT v).1 = (5,0,v.2.2):=by unfold litT; rw [if_neg (by omega),if_pos k]
  rw [ht]
  rw [lit_text k,quo] at hl ⊢
  rw [List.cons_append] at hl ⊢
  refine lx_piece (skp_here (by decide) (by decide) (Or.inl (by decide))) ?_ ?_ hy
  ·show pieceN (39 :: ((qbs v.2.2.data.toList ++ [39]) ++ y)) = _
   have hy0 : txtN true y = 0:=by
    cases y with
    | nil => rfl
    | cons d y =>
     simp only [txtN]
     rw [if_neg (fun e => hf.2 (by rw [e]; rfl))]
   have e : (qbs v.2.2.data.toList ++ [39]) ++ y = qbs v.2.2.data.toList ++ 39 :: y:=by simp
   simp only [pieceN]
   rw [if_neg (by unfold runB; decide),if_pos (by decide),e,(txt_qbs _ y).1,hy0]
   simp
   omega
  ·rw [tokR_mark (by decide),parR_ok hl,if_pos rfl]

def xwr (need : Nat) (e : Ex) (b : List UInt8) : List UInt8:=if rankX e < need then 40 :: (b ++ [41]) else b

def xrowM (w : List UInt8) (need : Nat) : List Ex → List (List UInt8) → List UInt8
 | e :: es,b :: bs => 32 :: (w ++ 32 :: (xwr need e b ++ xrowM w need es bs))
 | _,_ => []

def xF (k o : Int) (v : V3) (t n : ByteArray) (ks : List Ex) (bs : List (List UInt8)) : List UInt8 :=
 if k = 1 then lit v
 else if k = 2 then 58 :: n.data.toList
 else if k = 3 then (if t = ⟨#[]⟩ then n.data.toList else t.data.toList ++ 46 :: n.data.toList)
 else match ks,bs with
  | a :: ar,x :: xs =>
   if k = 4 then 45 :: (if kindOf a = 4 then 32 :: xwr 7 a x else xwr 7 a x)
   else if k = 5 then xwr (if o ≤ 2 then 5 else 6) a x ++ (32 : UInt8) :: (ariS o ++ (32 : UInt8) :: (match ar,xs with
    | b :: _,y :: _ => xwr (if o ≤ 2 then 6 else 7) b y
    | _,_ => []))
   else if k = 6 then xwr 5 a x ++ (32 : UInt8) :: (cmpS o ++ (32 : UInt8) :: (match ar,xs with
    | b :: _,y :: _ => xwr 5 b y
    | _,_ => []))
   else if k = 7 then xwr 5 a x ++ (32 : UInt8) :: (wIs ++ 32 :: (if o = 1 then wNot ++ 32 :: wNull else wNull))
   else if k = 8 then wNot ++ 32 :: xwr 3 a x
   else if k = 9 then xwr 3 a x ++ xrowM wAnd 3 ar xs
   else xwr 2 a x ++ xrowM wOr 2 ar xs
  | _,_ => []

mutual
def xB : Ex → List UInt8
 | .mk k o v t n ks _ => xF k o v t n ks (xBs ks)
def xBs : List Ex → List (List UInt8)
 | [] => []
 | e :: l => xB e :: xBs l
end

def xE (need : Nat) (e : Ex) : List UInt8:=xwr need e (xB e)

theorem xBs_map : ∀ l,xBs l = l.map xB
 | [] => by rw [xBs]; rfl
 | e :: l => by rw [xBs,xBs_map l]; rfl

theorem xB_mk (k o : Int) (v : V3) (t n : ByteArray) (ks : List Ex) (p : Int) : xB (.mk k o v t n ks p) = xF k o v t n ks (ks.map xB):=by rw [xB,xBs_map]

def LxF (x : List UInt8) (tk : List T) : Prop:=∀ y ts,Fol y → Lx y ts → Lx (x ++ y) (tk.map Prod.fst ++ ts)

theorem lxf_wr {n : Nat} {e : Ex} (h : LxF (xB e) (tB e)) : LxF (xE n e) (tE n e):=by
 intro y ts hf hy
 by_cases hr : rankX e < n
 ·have e1 : xE n e = 40 :: (xB e ++ [41]):=by unfold xE xwr; rw [if_pos hr]
  rw [e1,tE_brack hr]
  have e2 : 40 :: (xB e ++ [41]) ++ y = 40 :: (xB e ++ 41 :: y):=by simp
  have e3 : (sgT [40] :: (tB e ++ [sgT [41]])).map Prod.fst ++ ts = (7,0,ofL [40]) :: ((tB e).map Prod.fst ++ (7,0,ofL [41]) :: ts):=by simp [sgT]
  rw [e2,e3]
  exact lx_sg1 (by decide) (by decide) (by decide) (Or.inl (by decide)) (h _ _ (fol41 y) (lx_sg1 (by decide) (by decide) (by decide) (Or.inl (by decide)) hy))
 ·have e1 : xE n e = xB e:=by unfold xE xwr; rw [if_neg hr]
  rw [e1,tE_bare (by omega)]
  exact h y ts hf hy

theorem norun46 (y : List UInt8) : NoRun (46 :: y):=fun d hd => by simp at hd; subst hd; unfold runB; decide

theorem lit_hd45 {v : V3} (h : litOk v) (y : List UInt8) : (lit v ++ y).head? ≠ some 45:=by
 obtain ⟨hr,h0⟩:=h
 rcases rt_kind hr with k | k | k | k
 ·rw [lit_null k]; simp
 ·have hall : ∀ c ∈ lit v,48 ≤ c.toNat ∧ c.toNat ≤ 57:=by
   rw [lit_int k]
   unfold Lib.itoa
   rw [if_neg (by omega)]
   exact (mg_dec _).2.2
  obtain ⟨c,q,e,_⟩:=itoa_head v.2.1
  rw [← lit_int k] at e
  rw [e] at hall ⊢
  have:=hall c (by simp)
  simp only [List.cons_append,List.head?_cons,ne_eq,Option.some.injEq]
  intro e2
  rw [e2] at this
  exact absurd this (by decide)
 ·unfold lit
  rw [if_neg (by omega),if_pos k]
  split <;> simp
 ·rw [lit_text k,quo]; simp

theorem name_hd45 {n : ByteArray} (h : isName n = true) (y : List UInt8) : (n.data.toList ++ y).head? ≠ some 45:=by
 obtain ⟨c,q,e,hc,_,_⟩:=name_parts (by rw [← isName_list]; exact h)
 rw [e]
 simp only [List.cons_append,List.head?_cons,ne_eq,Option.some.injEq]
 intro e2
 rw [e2] at hc
 exact absurd hc (by decide)

theorem hd45 {a : Ex} (h : RtE a) (hk : kindOf a ≠ 4) (y : List UInt8) : (xE 7 a ++ y).head? ≠ some 45:=by
 by_cases hr : rankX a < 7
 ·have e1 : xE 7 a = 40 :: (xB a ++ [41]):=by unfold xE xwr; rw [if_pos hr]
  rw [e1]
  simp
 ·have e1 : xE 7 a = xB a:=by unfold xE xwr; rw [if_neg hr]
  rw [e1]
  obtain ⟨ho,h⟩:=h
  obtain ⟨k,o,v,t,n,ks,q⟩:=a
  have hk4 : k ≠ 4:=hk
  have hov : ¬ (k = 11 ∨ k = 12 ∨ k = 13 ∨ k = 14):=ho
  obtain ⟨_,_,⟨c1,c2,_⟩,f⟩:=RtI.iff.1 h
  have k123 : k = 1 ∨ k = 2 ∨ k = 3:=by
   apply Classical.byContradiction
   intro hn
   by_cases hx : k = 5 ∨ k = 6 ∨ k = 7 ∨ k = 8 ∨ k = 9 ∨ k = 10
   ·apply hr
    show (if k = 10 then 1 else if k = 9 then 2 else if k = 8 then 3 else if k = 6 ∨ k = 7 then 4 else if k = 5 then (if o ≤ 2 then 5 else 6) else 7) < 7
    repeat' split
    all_goals omega
   ·have hf : formK k = (0,0,1,0):=by
     unfold formK
     rw [if_neg (by omega),if_neg (by omega),if_neg (by omega),if_neg (by omega),if_neg (by omega),if_neg (by omega)]
    rw [hf] at c1 c2
    simp only at c1 c2
    omega
  rw [xB_mk]
  unfold xF
  rcases k123 with rfl | rfl | rfl
  ·rw [if_pos rfl]
   exact lit_hd45 (f.1 rfl).2.2 y
  ·rw [if_neg (by decide),if_pos rfl]
   simp
  ·rw [if_neg (by decide),if_neg (by decide),if_pos rfl]
   obtain ⟨htn,hn,_⟩:=f.2.2.1 rfl
   by_cases et : t = ⟨#[]⟩
   ·rw [if_pos et]; exact name_hd45 hn y
   ·rw [if_neg et,List.append_assoc]; exact name_hd45 (htn.resolve_left et) _

theorem lxf_row {w : List UInt8} {n : Nat} (hw : w ∈ wordsL) : ∀ es : List Ex,(∀ e ∈ es,LxF (xB e) (tB e)) → ∀ y ts,Fol y → Lx y ts → Lx (xrowM w n es (es.map xB) ++ y) ((rowM w n es (es.map tB)).map Prod.fst ++ ts) ∧ Fol (xrowM w n es (es.map xB) ++ y)
 | [],_,y,ts,hf,hy => ⟨hy,hf⟩
 | e :: es,h,y,ts,hf,hy => by
  obtain ⟨i1,i2⟩:=lxf_row hw es (fun x hx => h x (by simp [hx])) y ts hf hy
  have hk:=lxf_wr (n:=n) (h e (by simp)) _ _ i2 i1
  have e1 : xrowM w n (e :: es) ((e :: es).map xB) ++ y = 32 :: (w ++ 32 :: (xE n e ++ (xrowM w n es (es.map xB) ++ y))):=by
   show 32 :: (w ++ 32 :: (xwr n e (xB e) ++ xrowM w n es (es.map xB))) ++ y = _
   simp [xE]
  have e2 : (rowM w n (e :: es) ((e :: es).map tB)).map Prod.fst ++ ts = (4,0,ofL w) :: ((tE n e).map Prod.fst ++ ((rowM w n es (es.map tB)).map Prod.fst ++ ts)):=by
   show (wdT w :: (wr n e (tB e) ++ rowM w n es (es.map tB))).map Prod.fst ++ ts = _
   simp [tE,wdT]
  rw [e1,e2]
  exact ⟨lx_blank (lx_word hw (fol32 _).1 (lx_blank hk)),fol32 _⟩

theorem lx_ari {o : Int} (h1 : 1 ≤ o) (h2 : o ≤ 5) {y : List UInt8} {ts : List Tk} (hy : Lx y ts) : Lx (ariS o ++ 32 :: y) ((7,0,ofL (ariS o)) :: ts):=by
 rcases (by omega : o = 1 ∨ o = 2 ∨ o = 3 ∨ o = 4 ∨ o = 5) with rfl | rfl | rfl | rfl | rfl
 all_goals exact lx_piece (by rfl) (by rfl) (tokR_sign (by decide)) (lx_blank hy)

theorem lxf_all {e : Ex} (h : RtI e) : ¬ isOver e → LxF (xB e) (tB e):=by
 induction h with
 | @mk k o v t n ks q h1 h2 h3 h4 h5 h6 h7 ih =>
  intro ho
  have hov : ¬ (k = 11 ∨ k = 12 ∨ k = 13 ∨ k = 14):=ho
  have hm : ∀ x ∈ ks,LxF (xB x) (tB x):=fun x hx => by
   obtain ⟨i,hi,rfl⟩:=List.getElem_of_mem hx
   exact ih i hi (h5 i hi)
  have hr : ∀ x ∈ ks,RtE x:=fun x hx => by
   obtain ⟨i,hi,rfl⟩:=List.getElem_of_mem hx
   exact ⟨h5 i hi,h6 i hi⟩
  intro y ts hf hy
  rw [xB_mk,tB_mk]
  unfold xF tF
  by_cases k1 : k = 1
  ·subst k1
   rw [if_pos rfl,if_pos rfl]
   exact lx_lit (h7.1 rfl).2.2 hf hy
  rw [if_neg k1,if_neg k1]
  by_cases k2 : k = 2
  ·subst k2
   rw [if_pos rfl,if_pos rfl]
   exact lx_param (h7.2.1 rfl).2.1 hf.1 hy
  rw [if_neg k2,if_neg k2]
  by_cases k3 : k = 3
  ·subst k3
   rw [if_pos rfl,if_pos rfl]
   obtain ⟨htn,hn,_⟩:=h7.2.2.1 rfl
   by_cases et : t = ⟨#[]⟩
   ·rw [if_pos et,if_pos et]
    exact lx_name hn hf.1 hy
   ·rw [if_neg et,if_neg et,List.append_assoc]
    exact lx_name (htn.resolve_left et) (norun46 _) (lx_sg1 (by decide) (by decide) (by decide) (Or.inl (by decide)) (lx_name hn hf.1 hy))
  rw [if_neg k3,if_neg k3]
  have hl : 1 ≤ ks.length:=by
   have : (formK k).2.2.1 ≠ 0:=by
    unfold formK
    rw [if_neg (by omega)]
    repeat' split
    all_goals decide
   omega
  cases ks with
  | nil => simp at hl
  | cons a ar =>
   have ha : ∀ n,LxF (xE n a) (tE n a):=fun n => lxf_wr (hm a (by simp))
   rw [List.map_cons,List.map_cons]
   simp only
   by_cases k4 : k = 4
   ·rw [if_pos k4,if_pos k4]
    have hk:=ha 7 y ts hf hy
    by_cases kn : kindOf a = 4
    ·rw [if_pos kn]
     exact lx_sg1 (by decide) (by decide) (by decide) (Or.inr (by simp)) (lx_blank hk)
    ·rw [if_neg kn]
     exact lx_sg1 (by decide) (by decide) (by decide) (Or.inr (hd45 (hr a (by simp)) kn y)) hk
   rw [if_neg k4,if_neg k4]
   by_cases k5 : k = 5
   ·subst k5
    rw [if_pos rfl,if_pos rfl]
    rw [show formK 5 = (1,5,2,2) from by decide] at h1 h2 h3 h4
    obtain ⟨b,rfl⟩ : ∃ b,ar = [b]:=one_of_len (by simp at h3 h4; omega)
    have hb:=lxf_wr (n:=if o ≤ 2 then 6 else 7) (hm b (by simp)) y ts hf hy
    have:=ha (if o ≤ 2 then 5 else 6) _ _ (fol32 _) (lx_blank (lx_ari h1 h2 hb))
    simp only [List.map_cons,List.map_nil,List.append_assoc,List.cons_append,List.map_append]
    exact this
   rw [if_neg k5,if_neg k5]
   by_cases k6 : k = 6
   ·subst k6
    rw [if_pos rfl,if_pos rfl]
    rw [show formK 6 = (1,6,2,2) from by decide] at h1 h2 h3 h4
    obtain ⟨b,rfl⟩ : ∃ b,ar = [b]:=one_of_len (by simp at h3 h4; omega)
    have hb:=lxf_wr (n:=5) (hm b (by simp)) y ts hf hy
    have:=ha 5 _ _ (fol32 _) (lx_blank (lx_cmp h1 h2 hb))
    simp only [List.map_cons,List.map_nil,List.append_assoc,List.cons_append,List.map_append]
    exact this
   rw [if_neg k6,if_neg k6]
   by_cases k7 : k = 7
   ·rw [if_pos k7,if_pos k7]
    have hN : Lx (wNull ++ y) ((4,0,ofL wNull) :: ts):=lx_word (by decide) hf.1 hy
    by_cases o1 : o = 1
    ·rw [if_pos o1,if_pos o1]
     have:=ha 5 _ _ (fol32 _) (lx_blank (lx_word (w:=wIs) (by decide) (fol32 _).1 (lx_blank (lx_word (w:=wNot) (by decide) (fol32 _).1 (lx_blank hN)))))
     simp only [List.append_assoc,List.cons_append,List.map_append,List.map_cons,List.map_nil,List.nil_append]
     exact this
    ·rw [if_neg o1,if_neg o1]
     have:=ha 5 _ _ (fol32 _) (lx_blank (lx_word (w:=wIs) (by decide) (fol32 _).1 (lx_blank hN)))
     simp only [List.append_assoc,List.cons_append,List.map_append,List.map_cons,List.map_nil,List.nil_append]
     exact this
   rw [if_neg k7,if_neg k7]
   by_cases k8 : k = 8
   ·rw [if_pos k8,if_pos k8]
    have:=lx_word (w:=wNot) (by decide) (fol32 _).1 (lx_blank (ha 3 y ts hf hy))
    simp only [List.append_assoc,List.cons_append,List.map_cons]
    exact this
   rw [if_neg k8,if_neg k8]
   by_cases k9 : k = 9
   ·rw [if_pos k9,if_pos k9]
    obtain ⟨r1,r2⟩:=lxf_row (w:=wAnd) (n:=3) (by decide) ar (fun x hx => hm x (by simp [hx])) y ts hf hy
    have:=ha 3 _ _ r2 r1
    simp only [List.append_assoc,List.map_append]
    exact this
   ·rw [if_neg k9,if_neg k9]
    obtain ⟨r1,r2⟩:=lxf_row (w:=wOr) (n:=2) (by decide) ar (fun x hx => hm x (by simp [hx])) y ts hf hy
    have:=ha 2 _ _ r2 r1
    simp only [List.append_assoc,List.map_append]
    exact this

theorem lx_expr {e : Ex} (h : RtE e) (n : Nat) : LxF (xE n e) (tE n e):=lxf_wr (lxf_all h.2 h.1)

def xsep {α : Type} (f : α → List UInt8) : List α → List UInt8
 | [] => []
 | [a] => f a
 | a :: b :: l => f a ++ 44 :: 32 :: xsep f (b :: l)

def xkid : List Ex → List UInt8
 | a :: _ => xE 1 a
 | [] => []

def xIt : Ex → List UInt8
 | .mk k o v t n ks p => if k = 11 then wCOUNT ++ [40,42,41] else if k = 12 ∨ k = 13 ∨ k = 14 then (if k = 12 then wSUM else if k = 13 then wMIN else wMAX) ++ 40 :: (xkid ks ++ [41]) else xE 1 (.mk k o v t n ks p)

def xSe (x : Se) : List UInt8:=x.1.data.toList ++ 32 :: 61 :: 32 :: xE 1 x.2.1

def xSo (x : So) : List UInt8:=lit (1,x.1,⟨#[]⟩) ++ (if x.2.1 then 32 :: wDESC else [])

def xWh : List Ex → List UInt8
 | e :: _ => 32 :: (wWHERE ++ 32 :: xE 1 e)
 | [] => []

def xJo (t : St) : List UInt8:=match t.on with
 | e :: _ => 32 :: (wJOIN ++ 32 :: (t.join.data.toList ++ 32 :: (wON ++ 32 :: xE 1 e)))
 | [] => []

def xGr (l : List Ex) : List UInt8:=if l = [] then [] else 32 :: (wGROUP ++ 32 :: (wBY ++ 32 :: xsep (xE 1) l))

def xOr (l : List So) : List UInt8:=if l = [] then [] else 32 :: (wORDER ++ 32 :: (wBY ++ 32 :: xsep xSo l))

def xLi : List Int → List UInt8
 | n :: _ => 32 :: (wLIMIT ++ 32 :: lit (1,n,⟨#[]⟩))
 | [] => []

def xS (t : St) : List UInt8 :=
 if t.kind = 1 then wINSERT ++ 32 :: (wINTO ++ 32 :: (t.table.data.toList ++ 32 :: (wVALUES ++ 32 :: 40 :: (xsep (xE 1) t.items ++ [41]))))
 else if t.kind = 2 then wUPDATE ++ 32 :: (t.table.data.toList ++ 32 :: (wSET ++ 32 :: (xsep xSe t.sets ++ xWh t.whr)))
 else if t.kind = 3 then wDELETE ++ 32 :: (wFROM ++ 32 :: (t.table.data.toList ++ xWh t.whr))
 else wSELECT ++ 32 :: ((if t.star then [42] else xsep xIt t.items) ++ 32 :: (wFROM ++ 32 :: (t.table.data.toList ++ (xJo t ++ (xWh t.whr ++ (xGr t.groups ++ (xOr t.sorts ++ xLi t.limit)))))))

theorem lxf_sep {α : Type} {f : α → List UInt8} {tk : α → List T} : ∀ l : List α,l ≠ [] → (∀ a ∈ l,LxF (f a) (tk a)) → LxF (xsep f l) (sepT tk l)
 | [],h,_ => absurd rfl h
 | [a],_,h => h a (by simp)
 | a :: b :: l,_,h => fun y ts hf hy => by
  have i:=lxf_sep (b :: l) (by simp) (fun x hx => h x (by simp at hx ⊢; right; exact hx)) y ts hf hy
  have:=h a (by simp) _ _ (fol44 _) (lx_sg1 (c:=44) (by decide) (by decide) (by decide) (Or.inl (by decide)) (lx_blank i))
  have e1 : xsep f (a :: b :: l) ++ y = f a ++ 44 :: 32 :: (xsep f (b :: l) ++ y):=by
   show (f a ++ 44 :: 32 :: xsep f (b :: l)) ++ y = _
   simp
  have e2 : (sepT tk (a :: b :: l)).map Prod.fst ++ ts = (tk a).map Prod.fst ++ ((7,0,ofL [44]) :: ((sepT tk (b :: l)).map Prod.fst ++ ts)):=by
   show (tk a ++ sgT [44] :: sepT tk (b :: l)).map Prod.fst ++ ts = _
   simp [sgT]
  rw [e1,e2]
  exact this

theorem lxf_num {n : Int} (h : RtN n) : LxF (lit (1,n,⟨#[]⟩)) [nuT n]:=fun y ts hf hy => by
 have hl : litOk (1,n,⟨#[]⟩):=⟨by unfold rgt; have h1:=h.1; have h2:=h.2; simp [h2]; omega,h.1⟩
 exact lx_lit hl hf hy

theorem lxf_set {x : Se} (h : RtSe x) : LxF (xSe x) (seT x):=fun y ts hf hy => by
 have:=lx_name h.1 (fol32 _).1 (lx_blank (lx_piece (c:=61) (q:=[]) (y:=32 :: (xE 1 x.2.1 ++ y)) (by rfl) (by rfl) (tokR_sign (by decide)) (lx_blank (lx_expr h.2 1 y ts hf hy))))
 have e1 : xSe x ++ y = x.1.data.toList ++ 32 :: ([61] ++ 32 :: (xE 1 x.2.1 ++ y)):=by simp [xSe]
 rw [e1]
 exact this

theorem lxf_sort {x : So} (h : RtSo x) : LxF (xSo x) (soT x):=fun y ts hf hy => by
 obtain ⟨n,b,q⟩:=x
 cases b with
 | true =>
  have:=lxf_num h _ _ (fol32 _) (lx_blank (lx_word (w:=wDESC) (by decide) hf.1 hy))
  have e1 : xSo (n,true,q) ++ y = lit (1,n,⟨#[]⟩) ++ 32 :: (wDESC ++ y):=by simp [xSo]
  rw [e1]
  exact this
 | false =>
  have:=lxf_num h y ts hf hy
  have e1 : xSo (n,false,q) ++ y = lit (1,n,⟨#[]⟩) ++ y:=by simp [xSo]
  rw [e1]
  exact this

theorem norun40 (y : List UInt8) : NoRun (40 :: y):=fun d hd => by simp at hd; subst hd; unfold runB; decide

theorem xIt_mk (k o : Int) (v : V3) (t n : ByteArray) (ks : List Ex) (q : Int) : xIt (.mk k o v t n ks q) = if k = 11 then wCOUNT ++ [40,42,41] else if k = 12 ∨ k = 13 ∨ k = 14 then (if k = 12 then wSUM else if k = 13 then wMIN else wMAX) ++ 40 :: (xkid ks ++ [41]) else xE 1 (.mk k o v t n ks q):=by
 cases ks <;> rfl

theorem lxf_item {e : Ex} (h : RtI e) : LxF (xIt e) (itT e):=fun y ts hf hy => by
 by_cases ho : isOver e
 ·obtain ⟨k,o,v,t,n,ks,q⟩:=e
  have hk : k = 11 ∨ k = 12 ∨ k = 13 ∨ k = 14:=ho
  obtain ⟨_,_,_,_,_,h2⟩:=over_parts h ho
  rw [xIt_mk,itT_mk]
  by_cases k11 : k = 11
  ·rw [if_pos k11,if_pos k11]
   have c1 : Lx (41 :: y) ((7,0,ofL [41]) :: ts):=lx_sg1 (by decide) (by decide) (by decide) (Or.inl (by decide)) hy
   have c2 : Lx (42 :: 41 :: y) ((7,0,ofL [42]) :: (7,0,ofL [41]) :: ts):=lx_sg1 (by decide) (by decide) (by decide) (Or.inl (by decide)) c1
   have c3 : Lx (40 :: 42 :: 41 :: y) ((7,0,ofL [40]) :: (7,0,ofL [42]) :: (7,0,ofL [41]) :: ts):=lx_sg1 (by decide) (by decide) (by decide) (Or.inl (by decide)) c2
   have:=lx_word (w:=wCOUNT) (by decide) (norun40 _) c3
   rw [List.append_assoc]
   exact this
  ·obtain ⟨a,rfl,ha⟩:=h2 k11
   have h3 : k = 12 ∨ k = 13 ∨ k = 14:=by omega
   rw [if_neg k11,if_neg k11,if_pos h3,if_pos h3]
   have c1 : Lx (41 :: y) ((7,0,ofL [41]) :: ts):=lx_sg1 (by decide) (by decide) (by decide) (Or.inl (by decide)) hy
   have c2:=lx_expr ha 1 _ _ (fol41 y) c1
   have c3:=lx_sg1 (c:=40) (by decide) (by decide) (by decide) (Or.inl (by decide)) c2
   have hw : (if k = 12 then wSUM else if k = 13 then wMIN else wMAX) ∈ wordsL:=by
    repeat' split
    all_goals decide
   have:=lx_word hw (norun40 _) c3
   have e1 : (if k = 12 then wSUM else if k = 13 then wMIN else wMAX) ++ 40 :: (xkid [a] ++ [41]) ++ y = (if k = 12 then wSUM else if k = 13 then wMIN else wMAX) ++ 40 :: (xE 1 a ++ 41 :: y):=by simp [xkid]
   have e2 : (wdT (if k = 12 then wSUM else if k = 13 then wMIN else wMAX) :: sgT [40] :: (kidT [a] ++ [sgT [41]])).map Prod.fst ++ ts = (4,0,ofL (if k = 12 then wSUM else if k = 13 then wMIN else wMAX)) :: (7,0,ofL [40]) :: ((tE 1 a).map Prod.fst ++ (7,0,ofL [41]) :: ts):=by simp [kidT,wdT,sgT]
   rw [e1,e2]
   exact this
 ·have ht : itT e = tE 1 e ∧ xIt e = xE 1 e:=by
   obtain ⟨k,o,v,t,n,ks,q⟩:=e
   have hov : ¬ (k = 11 ∨ k = 12 ∨ k = 13 ∨ k = 14):=ho
   rw [itT_mk,xIt_mk]
   rw [if_neg (by omega),if_neg (by omega),if_neg (by omega),if_neg (by omega)]
   exact ⟨rfl,rfl⟩
  rw [ht.1,ht.2]
  exact lx_expr ⟨ho,h⟩ 1 y ts hf hy

theorem fol_wh (l : List Ex) {y : List UInt8} (h : Fol y) : Fol (xWh l ++ y):=by
 cases l with
 | nil => exact h
 | cons e l => exact fol32 _

theorem fol_jo (t : St) {y : List UInt8} (h : Fol y) : Fol (xJo t ++ y):=by
 unfold xJo
 split
 ·exact fol32 _
 ·exact h

theorem fol_gr (l : List Ex) {y : List UInt8} (h : Fol y) : Fol (xGr l ++ y):=by
 unfold xGr
 split
 ·exact h
 ·exact fol32 _

theorem fol_or (l : List So) {y : List UInt8} (h : Fol y) : Fol (xOr l ++ y):=by
 unfold xOr
 split
 ·exact h
 ·exact fol32 _

theorem fol_li (l : List Int) {y : List UInt8} (h : Fol y) : Fol (xLi l ++ y):=by
 cases l with
 | nil => exact h
 | cons e l => exact fol32 _

theorem lxf_wh {l : List Ex} (h : Wi 0 1 RtE l) : LxF (xWh l) (whT l):=fun y ts hf hy => by
 match l,h with
 | [],_ => exact hy
 | [e],h =>
  have:=lx_blank (lx_word (w:=wWHERE) (by decide) (fol32 _).1 (lx_blank (lx_expr (wi_mem h e (by simp)) 1 y ts hf hy)))
  have e1 : xWh [e] ++ y = 32 :: (wWHERE ++ 32 :: (xE 1 e ++ y)):=by simp [xWh]
  rw [e1]
  exact this
 | _ :: _ :: _,h => exact absurd h.2.1 (by simp)

theorem lxf_li {l : List Int} (h : Wi 0 1 RtN l) : LxF (xLi l) (liT l):=fun y ts hf hy => by
 match l,h with
 | [],_ => exact hy
 | [n],h =>
  have:=lx_blank (lx_word (w:=wLIMIT) (by decide) (fol32 _).1 (lx_blank (lxf_num (wi_mem h n (by simp)) y ts hf hy)))
  have e1 : xLi [n] ++ y = 32 :: (wLIMIT ++ 32 :: (lit (1,n,⟨#[]⟩) ++ y)):=by simp [xLi]
  rw [e1]
  exact this
 | _ :: _ :: _,h => exact absurd h.2.1 (by simp)

theorem lxf_or {l : List So} (h : Wi 0 8 RtSo l) : LxF (xOr l) (orT l):=fun y ts hf hy => by
 by_cases hn : l = []
 ·subst hn
  exact hy
 ·have:=lx_blank (lx_word (w:=wORDER) (by decide) (fol32 _).1 (lx_blank (lx_word (w:=wBY) (by decide) (fol32 _).1 (lx_blank (lxf_sep l hn (fun x hx => lxf_sort (wi_mem h x hx)) y ts hf hy)))))
  have e1 : xOr l ++ y = 32 :: (wORDER ++ 32 :: (wBY ++ 32 :: (xsep xSo l ++ y))):=by unfold xOr; rw [if_neg hn]; simp
  have e2 : orT l = wdT wORDER :: wdT wBY :: sepT soT l:=by unfold orT; rw [if_neg hn]
  rw [e1,e2]
  exact this

theorem lxf_gr {l : List Ex} (h : Wi 0 8 RtC l) : LxF (xGr l) (grT l):=fun y ts hf hy => by
 by_cases hn : l = []
 ·subst hn
  exact hy
 ·have:=lx_blank (lx_word (w:=wGROUP) (by decide) (fol32 _).1 (lx_blank (lx_word (w:=wBY) (by decide) (fol32 _).1 (lx_blank (lxf_sep l hn (fun x hx => lx_expr (wi_mem h x hx).2 1) y ts hf hy)))))
  have e1 : xGr l ++ y = 32 :: (wGROUP ++ 32 :: (wBY ++ 32 :: (xsep (xE 1) l ++ y))):=by unfold xGr; rw [if_neg hn]; simp
  have e2 : grT l = wdT wGROUP :: wdT wBY :: sepT (tE 1) l:=by unfold grT; rw [if_neg hn]
  rw [e1,e2]
  exact this

theorem lxf_jo {t : St} (ho : Wi 0 1 RtE t.on) (hj : t.join = ⟨#[]⟩ ∨ isName t.join = true) (hd : decide (t.join = ⟨#[]⟩) = decide (t.on.length = 0)) : LxF (xJo t) (joT t):=fun y ts hf hy => by
 match h : t.on,ho with
 | [],_ =>
  have e1 : xJo t = []:=by unfold xJo; rw [h]
  have e2 : joT t = []:=by unfold joT; rw [h]
  rw [e1,e2]
  exact hy
 | [e],ho =>
  have hn : isName t.join = true:=by
   refine hj.resolve_left fun e => ?_
   rw [h,e] at hd
   simp at hd
  have:=lx_blank (lx_word (w:=wJOIN) (by decide) (fol32 _).1 (lx_blank (lx_name hn (fol32 _).1 (lx_blank (lx_word (w:=wON) (by decide) (fol32 _).1 (lx_blank (lx_expr (wi_mem ho e (by simp)) 1 y ts hf hy)))))))
  have e1 : xJo t ++ y = 32 :: (wJOIN ++ 32 :: (t.join.data.toList ++ 32 :: (wON ++ 32 :: (xE 1 e ++ y)))):=by unfold xJo; rw [h]; simp
  have e2 : joT t = wdT wJOIN :: nmT t.join :: wdT wON :: tE 1 e:=by unfold joT; rw [h]
  rw [e1,e2]
  exact this
 | _ :: _ :: _,ho => exact absurd ho.2.1 (by simp)

theorem lx_st {t : St} (h : RtSt t) : Lx (xS t) ((tS t ++ [enT]).map Prod.fst):=by
 obtain ⟨_,hn,hk⟩:=h
 rcases hk with ⟨hk,hs,hi⟩ | ⟨hk,hs,hi,hw⟩ | ⟨hk,hs,hw⟩ | ⟨hk,hs⟩
 ·have hne : t.items ≠ []:=fun e => by have:=hi.1; rw [e] at this; simp at this
  have c1 : Lx (41 :: []) ((7,0,ofL [41]) :: [(1,0,⟨#[]⟩)]):=lx_sg1 (by decide) (by decide) (by decide) (Or.inl (by decide)) lx_nil
  have c2:=lxf_sep (f:=xE 1) (tk:=tE 1) t.items hne (fun x hx => lx_expr (wi_mem hi x hx) 1) _ _ (fol41 _) c1
  have c3:=lx_sg1 (c:=40) (by decide) (by decide) (by decide) (Or.inl (by decide)) c2
  have c4:=lx_word (w:=wINSERT) (by decide) (fol32 _).1 (lx_blank (lx_word (w:=wINTO) (by decide) (fol32 _).1 (lx_blank (lx_name hn (fol32 _).1 (lx_blank (lx_word (w:=wVALUES) (by decide) (fol32 _).1 (lx_blank c3)))))))
  have e1 : xS t = wINSERT ++ 32 :: (wINTO ++ 32 :: (t.table.data.toList ++ 32 :: (wVALUES ++ 32 :: 40 :: (xsep (xE 1) t.items ++ [41])))):=by unfold xS; rw [if_pos hk]
  have e2 : (tS t ++ [enT]).map Prod.fst = (4,0,ofL wINSERT) :: (4,0,ofL wINTO) :: (3,0,t.table) :: (4,0,ofL wVALUES) :: (7,0,ofL [40]) :: ((sepT (tE 1) t.items).map Prod.fst ++ (7,0,ofL [41]) :: [(1,0,⟨#[]⟩)]):=by unfold tS; rw [if_pos hk]; simp [wdT,sgT,nmT,enT]
  rw [e1,e2]
  exact c4
 ·have hne : t.sets ≠ []:=fun e => by have:=hi.1; rw [e] at this; simp at this
  have c1:=lxf_wh hw [] _ fol_nil lx_nil
  have c2:=lxf_sep (f:=xSe) (tk:=seT) t.sets hne (fun x hx => lxf_set (wi_mem hi x hx)) _ _ (fol_wh t.whr fol_nil) c1
  have c4:=lx_word (w:=wUPDATE) (by decide) (fol32 _).1 (lx_blank (lx_name hn (fol32 _).1 (lx_blank (lx_word (w:=wSET) (by decide) (fol32 _).1 (lx_blank c2)))))
  have e1 : xS t = wUPDATE ++ 32 :: (t.table.data.toList ++ 32 :: (wSET ++ 32 :: (xsep xSe t.sets ++ (xWh t.whr ++ [])))):=by unfold xS; rw [if_neg (by omega),if_pos hk,List.append_nil]
  have e2 : (tS t ++ [enT]).map Prod.fst = (4,0,ofL wUPDATE) :: (3,0,t.table) :: (4,0,ofL wSET) :: ((sepT seT t.sets).map Prod.fst ++ ((whT t.whr).map Prod.fst ++ [(1,0,⟨#[]⟩)])):=by unfold tS; rw [if_neg (by omega),if_pos hk]; simp [wdT,nmT,enT]
  rw [e1,e2]
  exact c4
 ·have c1:=lxf_wh hw [] _ fol_nil lx_nil
  have c4:=lx_word (w:=wDELETE) (by decide) (fol32 _).1 (lx_blank (lx_word (w:=wFROM) (by decide) (fol32 _).1 (lx_blank (lx_name hn (fol_wh t.whr fol_nil).1 c1))))
  have e1 : xS t = wDELETE ++ 32 :: (wFROM ++ 32 :: (t.table.data.toList ++ (xWh t.whr ++ []))):=by unfold xS; rw [if_neg (by omega),if_neg (by omega),if_pos hk,List.append_nil]
  have e2 : (tS t ++ [enT]).map Prod.fst = (4,0,ofL wDELETE) :: (4,0,ofL wFROM) :: (3,0,t.table) :: ((whT t.whr).map Prod.fst ++ [(1,0,⟨#[]⟩)]):=by unfold tS; rw [if_neg (by omega),if_neg (by omega),if_pos hk]; simp [wdT,nmT,enT]
  rw [e1,e2]
  exact c4
 ·have f5:=fol_li t.limit fol_nil
  have f4:=fol_or t.sorts f5
  have f3:=fol_gr t.groups f4
  have f2:=fol_wh t.whr f3
  have f1:=fol_jo t f2
  have c5:=lxf_li hs.limit [] _ fol_nil lx_nil
  have c4:=lxf_or hs.sorts _ _ f5 c5
  have c3:=lxf_gr hs.groups _ _ f4 c4
  have c2:=lxf_wh hs.whr _ _ f3 c3
  have c1:=lxf_jo hs.on hs.join hs.jon _ _ f2 c2
  have c0:=lx_blank (lx_word (w:=wFROM) (by decide) (fol32 _).1 (lx_blank (lx_name hn f1.1 c1)))
  have e2 : (tS t ++ [enT]).map Prod.fst = (4,0,ofL wSELECT) :: ((if t.star then [sgT [42]] else sepT itT t.items).map Prod.fst ++ ((4,0,ofL wFROM) :: (3,0,t.table) :: ((joT t).map Prod.fst ++ ((whT t.whr).map Prod.fst ++ ((grT t.groups).map Prod.fst ++ ((orT t.sorts).map Prod.fst ++ ((liT t.limit).map Prod.fst ++ [(1,0,⟨#[]⟩)]))))))):=by
   unfold tS
   rw [if_neg (by omega),if_neg (by omega),if_neg (by omega)]
   simp [wdT,nmT,enT]
  have e1 : xS t = wSELECT ++ 32 :: ((if t.star then [42] else xsep xIt t.items) ++ 32 :: (wFROM ++ 32 :: (t.table.data.toList ++ (xJo t ++ (xWh t.whr ++ (xGr t.groups ++ (xOr t.sorts ++ (xLi t.limit ++ [])))))))):=by
   unfold xS
   rw [if_neg (by omega),if_neg (by omega),if_neg (by omega),List.append_nil]
  rw [e1,e2]
  refine lx_word (w:=wSELECT) (by decide) (fol32 _).1 (lx_blank ?_)
  by_cases hst : t.star = true
  ·rw [if_pos hst,if_pos hst]
   exact lx_sg1 (c:=42) (by decide) (by decide) (by decide) (Or.inl (by decide)) c0
  ·have hsf : t.star = false:=by simpa using hst
   have hne : t.items ≠ []:=fun e => by have:=hs.star; rw [hsf,e] at this; simp at this
   rw [if_neg hst,if_neg hst]
   exact lxf_sep (f:=xIt) (tk:=itT) t.items hne (fun x hx => lxf_item (wi_mem hs.items x hx)) _ _ (fol32 _) c0

theorem z_z (e : Ex) : e.z.z = e.z:=by
 induction e using Ex.rec (motive_2:=fun l => ∀ x ∈ l,x.z.z = x.z) with
 | mk k o v t n ks p ih =>
  rw [z_mk,z_mk,List.map_map]
  congr 1
  exact List.map_congr_left fun x hx => ih x hx
 | nil => rename_i x hx; exact absurd hx List.not_mem_nil
 | cons e l h1 h2 =>
  rename_i x hx
  rcases List.mem_cons.1 hx with rfl | hx
  ·exact h1
  ·exact h2 x hx

theorem st_z_z (t : St) : t.z.z = t.z:=by
 have h : ∀ l : List Ex,(l.map Ex.z).map Ex.z = l.map Ex.z:=fun l => by rw [List.map_map]; exact List.map_congr_left fun x _ => z_z x
 have h2 : (t.sets.map Se.z).map Se.z = t.sets.map Se.z:=by
  rw [List.map_map]
  refine List.map_congr_left fun x _ => ?_
  show (x.1,x.2.1.z.z,(0 : Int)) = (x.1,x.2.1.z,0)
  rw [z_z]
 have h3 : (t.sorts.map So.z).map So.z = t.sorts.map So.z:=by rw [List.map_map]; rfl
 show (⟨t.kind,t.table,t.join,(t.on.map Ex.z).map Ex.z,(t.whr.map Ex.z).map Ex.z,(t.items.map Ex.z).map Ex.z,t.star,(t.sets.map Se.z).map Se.z,(t.groups.map Ex.z).map Ex.z,(t.sorts.map So.z).map So.z,t.limit,0,0⟩ : St) = _
 rw [h,h,h,h,h2,h3]
 rfl

theorem form_read {t : St} (h : RtSt t) {s : ByteArray} (hs : s.data.toList = xS t) (hl : s.size ≤ 1000) {o : Out} (ho : ParseIs s o) : ∃ u,o = .st u ∧ u.z = t.z ∧ SmSt u t:=by
 obtain ⟨us,u1,u2⟩:=lx_st h 0
 rw [← hs] at u1
 obtain ⟨l',p',c',e1,e2⟩:=ho
 obtain ⟨rfl,rfl,rfl⟩:=e1.one (show ScanIs s us 0 0 from Or.inr ⟨hl,Or.inl ⟨rfl,rfl,u1⟩⟩)
 rcases e2 with ⟨e,_⟩ | ⟨_,r,hr,rfl⟩
 ·exact absurd rfl e
 ·have ha:=out_alike (st_alike u2.symm (st_read h) hr)
  have hd : deepS t.z = false:=by rw [deepS_z]; exact h.1
  have hout : outOf (.ok t.z ⟨[enT],0,0⟩) = .st t.z:=by
   have hse : semi ⟨[enT],0,0⟩ = ⟨[enT],0,0⟩:=by
    unfold semi
    rw [if_neg]
    have : (⟨[enT],0,0⟩ : PS).sees [59] = false:=sees_kd (by decide) (by decide) _ _ _ _
    rw [this]
    simp
   rw [outOf,hse,if_pos (show (⟨[enT],0,0⟩ : PS).hd.1.1 = 1 from rfl),if_pos (show (⟨[enT],0,0⟩ : PS).code = 0 from rfl),if_neg (by rw [hd]; simp)]
  rw [hout] at ha
  cases hq : outOf r with
  | fault c p => rw [hq] at ha; exact ha.elim
  | st u =>
   rw [hq] at ha
   have hz : t.z.z = u.z:=ha
   rw [st_z_z] at hz
   exact ⟨u,rfl,hz.symm,smst_z hz.symm⟩
end Go.Proofs.YtonbafpnaphckaaGreatDoor
