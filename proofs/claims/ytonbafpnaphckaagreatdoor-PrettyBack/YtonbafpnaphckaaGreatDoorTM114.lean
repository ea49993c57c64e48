/- M114 M115 M116 -/
import Derived.Test.YtonbafpnaphckaaGreatDoorTM110
namespace Go.Proofs.YtonbafpnaphckaaGreatDoor
open Go Go.RowKit
def txOf (t : Tk) : List UInt8:=if t.1 = 6 then 58 :: t.2.2.data.toList else t.2.2.data.toList

def Pl (S : List UInt8) : List (Tk × Nat) → Prop
 | [] => False
 | [t] => t = ((1,0,⟨#[]⟩),S.length)
 | t :: u :: ts => t.2 < u.2 ∧ u.2 ≤ S.length ∧ 2 ≤ t.1.1 ∧ t.1.1 ≤ 7 ∧ (t.1.1 ≠ 2 → t.1.1 ≠ 5 → (txOf t.1) <+: S.drop t.2 ∧ t.2 + (txOf t.1).length ≤ u.2) ∧ Pl S (u :: ts)

theorem skipL_len (l : List UInt8) : (skipL l).length = l.length - skp false l:=by simp [skipL]

theorem Toks.head {l : List UInt8} {a : Nat} {ts : List (Tk × Nat)} (h : Toks l a ts) : ∃ t us,ts = (t,a + skp false l) :: us:=by
 cases h with
 | fin h => exact ⟨_,_,rfl⟩
 | more h1 h2 h3 => exact ⟨_,_,rfl⟩

theorem Bad.within {l : List UInt8} {a p : Nat} {c : Int} (h : Bad l a p c) : a ≤ p ∧ p ≤ a + l.length:=by
 induction h with
 | @here l a t c h1 h2 => have:=skp_le l false; omega
 | @more l a p t c h1 h2 _ ih =>
  have h3:=skp_le l false
  have h4:=pieceN_le (skipL l)
  have h5:=skipL_len l
  have : (rst l).length = (skipL l).length - pieceN (skipL l):=by simp [rst]
  omega

theorem Pl.at {S : List UInt8} : ∀ {ts : List (Tk × Nat)} (_ : Pl S ts) (i : Nat) (h : i + 1 < ts.length),ts[i].2 < ts[i + 1].2 ∧ ts[i + 1].2 ≤ S.length ∧ 2 ≤ ts[i].1.1 ∧ ts[i].1.1 ≤ 7 ∧ (ts[i].1.1 ≠ 2 → ts[i].1.1 ≠ 5 → (txOf ts[i].1) <+: S.drop ts[i].2 ∧ ts[i].2 + (txOf ts[i].1).length ≤ ts[i + 1].2)
 | [],h,_,_ => h.elim
 | [t],_,i,h => by simp at h
 | t :: u :: ts,h,0,_ => ⟨h.1,h.2.1,h.2.2.1,h.2.2.2.1,h.2.2.2.2.1⟩
 | t :: u :: ts,h,i + 1,hi => by
  have:=Pl.at (ts:=u :: ts) h.2.2.2.2.2 i (by simpa using hi)
  exact this

theorem Pl.last {S : List UInt8} : ∀ {ts : List (Tk × Nat)} (_ : Pl S ts),∃ h : 0 < ts.length,ts[ts.length - 1] = ((1,0,⟨#[]⟩),S.length)
 | [],h => h.elim
 | [t],h => ⟨by simp,h⟩
 | t :: u :: ts,h => by
  obtain ⟨h1,h2⟩:=Pl.last (ts:=u :: ts) h.2.2.2.2.2
  refine ⟨by simp,?_⟩
  simp only [List.length_cons,Nat.add_sub_cancel] at h2 ⊢
  rw [List.getElem_cons_succ]
  exact h2

def txtC : Bool → List UInt8 → Bool
 | b,[] => b
 | false,c :: l => txtC (decide (c = 39)) l
 | true,c :: l => if c = 39 then txtC false l else true

theorem txtN_open : ∀ (l : List UInt8) (b : Bool),txtC b l = false → txtN b l = l.length
 | [],b,_ => by cases b <;> rfl
 | c :: l,false,h => by
  simp only [txtC] at h
  simp only [txtN,List.length_cons,txtN_open l _ h]
  omega
 | c :: l,true,h => by
  simp only [txtC] at h
  simp only [txtN]
  split at h
  ·rename_i hc
   rw [if_pos hc,txtN_open l _ h,List.length_cons]
   omega
  ·exact absurd h (by simp)

theorem txtN_closed : ∀ (l m : List UInt8) (b : Bool),txtC b l = true → m.head? ≠ some 39 → txtN b (l ++ m) = txtN b l
 | [],m,b,h,hm => by
  have hb : b = true:=h
  subst hb
  cases m with
  | nil => rfl
  | cons d m =>
   simp only [List.nil_append,txtN]
   rw [if_neg (by simpa using hm)]
 | c :: l,m,false,h,hm => by
  simp only [txtC] at h
  simp only [List.cons_append,txtN,txtN_closed l m _ h hm]
 | c :: l,m,true,h,hm => by
  simp only [txtC] at h
  simp only [List.cons_append,txtN]
  split at h
  ·rename_i hc
   rw [if_pos hc,if_pos hc,txtN_closed l m _ h hm]
  ·rename_i hc
   rw [if_neg hc,if_neg hc]

theorem hexd_mark (i : Nat) (h : i < 16) : hexd i ≠ 39:=by
 have : ∀ i : Fin 16,hexd i.val ≠ 39:=by decide +kernel
 exact this ⟨i,h⟩

theorem txt_qbs : ∀ (x r : List UInt8),txtN false (qbs x ++ 39 :: r) = (qbs x).length + 1 + txtN true r ∧ txtC false (qbs x ++ 39 :: r) = txtC true r
 | [],r => by
  constructor
  ·show 1 + txtN (decide ((39 : UInt8) = 39)) r = 0 + 1 + txtN true r
   rw [show decide ((39 : UInt8) = 39) = true from rfl]
  ·rfl
 | c :: x,r => by
  obtain ⟨h1,h2⟩:=txt_qbs x r
  have hc:=UInt8.toNat_lt c
  rw [qbs_cons,List.append_assoc]
  by_cases c1 : c.toNat = 39
  ·rw [qb_mark c1]
   simp only [List.cons_append,List.nil_append,txtN,txtC,decide_true,if_true,List.length_cons]
   exact ⟨by omega,h2⟩
  ·by_cases c2 : c.toNat = 92 ∨ c.toNat < 32 ∨ 126 < c.toNat
   ·rw [qb_hex c1 c2]
    have e0 : decide ((92 : UInt8) = 39) = false:=by decide
    have e1 : decide (hexd (c.toNat / 16) = 39) = false:=decide_eq_false (hexd_mark _ (by omega))
    have e2 : decide (hexd (c.toNat % 16) = 39) = false:=decide_eq_false (hexd_mark _ (by omega))
    simp only [List.cons_append,List.nil_append,txtN,txtC,e0,e1,e2,List.length_cons]
    exact ⟨by omega,h2⟩
   ·rw [qb_plain c1 c2]
    have e0 : decide (c = 39) = false:=decide_eq_false fun q => c1 (by rw [q]; rfl)
    simp only [List.cons_append,List.nil_append,txtN,txtC,e0,List.length_cons]
    exact ⟨by omega,h2⟩

theorem qb_high (c d : UInt8) (h : d ∈ qb c) : 32 ≤ d.toNat:=by
 have hc:=UInt8.toNat_lt c
 by_cases c1 : c.toNat = 39
 ·rw [qb_mark c1] at h
  simp at h
  rw [h]; decide
 ·by_cases c2 : c.toNat = 92 ∨ c.toNat < 32 ∨ 126 < c.toNat
  ·rw [qb_hex c1 c2] at h
   simp only [List.mem_cons,List.not_mem_nil,or_false] at h
   rcases h with rfl | rfl | rfl
   ·decide
   ·have:=(hexd_at_list _ (by omega : c.toNat / 16 < 16)).1; omega
   ·have:=(hexd_at_list _ (by omega : c.toNat % 16 < 16)).1; omega
  ·rw [qb_plain c1 c2] at h
   simp at h
   rw [h]
   omega

theorem qbs_high (x : List UInt8) (d : UInt8) (h : d ∈ qbs x) : 32 ≤ d.toNat:=by
 unfold qbs at h
 rw [List.mem_flatMap] at h
 obtain ⟨c,_,h⟩:=h
 exact qb_high c d h

theorem lit_mark {l : List UInt8} {v : V3} (h : LitOf (39 :: l) v) : v.1 = 3 ∧ l = qbs v.2.2.data.toList ++ [39]:=by
 obtain ⟨hr,he⟩:=h
 rcases rt_kind hr with k | k | k | k
 ·rw [lit_null k] at he; exact absurd he (by simp)
 ·rw [lit_int k] at he
  obtain ⟨c,q,e,g⟩:=itoa_head v.2.1
  rw [e] at he
  rw [(List.cons.inj he).1] at g
  exact absurd g (by decide)
 ·rcases (right_bool hr k).1 with g | g
  ·rw [lit_false k g] at he; exact absurd he (by simp)
  ·rw [lit_true k g] at he; exact absurd he (by simp)
 ·rw [lit_text k,quo] at he
  exact ⟨k,(List.cons.inj he).2.symm⟩

theorem lit_line {l : List UInt8} (hl : (10 : UInt8) ∈ l) : ∀ v,¬ LitOf (39 :: l) v:=by
 intro v h
 rw [(lit_mark h).2] at hl
 rcases List.mem_append.1 hl with h | h
 ·exact absurd (qbs_high _ _ h) (by decide)
 ·exact absurd h (by decide)

theorem lit_open {l : List UInt8} (hl : txtC false l = false) : ∀ v,¬ LitOf (39 :: l) v:=by
 intro v h
 rw [(lit_mark h).2,(txt_qbs _ []).2] at hl
 exact absurd hl (by decide)

theorem tok_no {l : List UInt8} (h : ∀ v,¬ LitOf (39 :: l) v) : tokR (39 :: l) = (tk0,103):=by
 rw [tokR_mark (by decide),parR_no h]
 rfl

theorem runN_end : ∀ (l m : List UInt8),(∀ c ∈ m.head?,¬ runB c) → runN (l ++ m) = runN l
 | [],m,h => by
  cases m with
  | nil => rfl
  | cons d m =>
   simp only [List.nil_append,runN]
   rw [if_neg (h d (by simp))]
 | c :: l,m,h => by
  simp only [List.cons_append,runN,runN_end l m h]

def gapB (c : UInt8) : Prop:=c = 32 ∨ c = 9 ∨ c = 10

theorem gap_run {c : UInt8} (h : gapB c) : ¬ runB c:=by rcases h with rfl | rfl | rfl <;> decide

theorem pieceN_gap {c : UInt8} {l : List UInt8} {d : UInt8} {m : List UInt8} (hd : gapB d) (ht : c = 39 → txtC false l = true) : pieceN ((c :: l) ++ d :: m) = pieceN (c :: l):=by
 have hm : (d :: m).head? ≠ some 39:=by rcases hd with rfl | rfl | rfl <;> simp
 simp only [List.cons_append,pieceN]
 rw [runN_end l (d :: m) (fun x hx => by simp at hx; rw [← hx]; exact gap_run hd)]
 by_cases h1 : runB c ∨ cls c = 8
 ·rw [if_pos h1,if_pos h1]
 ·rw [if_neg h1,if_neg h1]
  by_cases h2 : cls c = 9
  ·rw [if_pos h2,if_pos h2,txtN_closed l (d :: m) false (ht ((cls_mark c).1 h2)) hm]
  ·rw [if_neg h2,if_neg h2]
   by_cases h3 : cls c = 10
   ·rw [if_pos h3,if_pos h3]
    cases l with
    | nil =>
     simp only [List.nil_append,sgnN]
     rw [if_neg]
     unfold twoS
     rcases hd with rfl | rfl | rfl <;> simp
    | cons e l => rfl
   ·rw [if_neg h3,if_neg h3]

theorem skp_all : ∀ (l m : List UInt8) (b : Bool),skp b l = l.length → skp b (l ++ 10 :: m) = l.length + 1 + skp false m
 | [],m,true,_ => by simp [skp]
 | [],m,false,_ => by
  simp only [List.nil_append,skp]
  rw [if_pos (Or.inr (by decide))]
  simp
 | c :: l,m,true,h => by
  simp only [skp,List.length_cons,List.cons_append] at h ⊢
  by_cases hc : c = 10
  ·rw [if_pos hc] at h ⊢
   rw [skp_all l m false (by omega)]
   omega
  ·rw [if_neg hc] at h ⊢
   rw [skp_all l m true (by omega)]
   omega
 | c :: l,m,false,h => by
  simp only [skp,List.length_cons,List.cons_append] at h ⊢
  by_cases hc : cls c = 2 ∨ cls c = 3
  ·rw [if_pos hc] at h ⊢
   rw [skp_all l m false (by omega)]
   omega
  ·rw [if_neg hc] at h ⊢
   by_cases hd : c = 45 ∧ l.head? = some 45
   ·rw [if_pos hd] at h
    have hne : (l ++ 10 :: m).head? = some 45:=by
     cases l with
     | nil => simp at hd
     | cons d l => simpa using hd.2
    rw [if_pos ⟨hd.1,hne⟩,skp_all l m true (by omega)]
    omega
   ·rw [if_neg hd] at h
    omega

theorem skp_split : ∀ (g r : List UInt8) (b : Bool),r ≠ [] → skp b (g ++ r) = g.length → (b = true → g ≠ []) ∧ ∀ y,skp b (g ++ y) = g.length + skp false y
 | [],c :: r,true,_,h => by
  simp only [List.nil_append,skp,List.length_nil] at h
  split at h <;> omega
 | [],r,false,_,_ => ⟨fun h => by simp at h,fun y => by simp⟩
 | [],[],true,hr,_ => absurd rfl hr
 | c :: g,r,true,hr,h => by
  refine ⟨fun _ => by simp,fun y => ?_⟩
  simp only [skp,List.length_cons,List.cons_append] at h ⊢
  by_cases hc : c = 10
  ·rw [if_pos hc] at h ⊢
   rw [(skp_split g r false hr (by omega)).2 y]
   omega
  ·rw [if_neg hc] at h ⊢
   rw [(skp_split g r true hr (by omega)).2 y]
   omega
 | c :: g,r,false,hr,h => by
  refine ⟨fun h => by simp at h,fun y => ?_⟩
  simp only [skp,List.length_cons,List.cons_append] at h ⊢
  by_cases hc : cls c = 2 ∨ cls c = 3
  ·rw [if_pos hc] at h ⊢
   rw [(skp_split g r false hr (by omega)).2 y]
   omega
  ·rw [if_neg hc] at h ⊢
   by_cases hd : c = 45 ∧ (g ++ r).head? = some 45
   ·rw [if_pos hd] at h
    obtain ⟨i1,i2⟩:=skp_split g r true hr (by omega)
    have hg:=i1 rfl
    have hne : (g ++ y).head? = some 45:=by
     cases g with
     | nil => exact absurd rfl hg
     | cons d g => simpa using hd.2
    rw [if_pos ⟨hd.1,hne⟩,i2 y]
    omega
   ·rw [if_neg hd] at h
    omega

theorem skp_zero {c d : UInt8} {r m : List UInt8} (h : skp false (c :: r) = 0) (hd : r = [] → d ≠ 45) : skp false ((c :: r) ++ d :: m) = 0:=by
 simp only [skp,List.cons_append] at h ⊢
 by_cases hc : cls c = 2 ∨ cls c = 3
 ·rw [if_pos hc] at h; omega
 ·rw [if_neg hc] at h ⊢
  by_cases hq : c = 45 ∧ r.head? = some 45
  ·rw [if_pos hq] at h; omega
  ·rw [if_neg]
   rintro ⟨h1,h2⟩
   cases r with
   | nil => simp at h2; exact hd rfl h2
   | cons e r => exact hq ⟨h1,by simpa using h2⟩

theorem gap_split (l : List UInt8) : l = l.take (skp false l) ++ skipL l:=(List.take_append_drop _ _).symm

theorem gap_len (l : List UInt8) : (l.take (skp false l)).length = skp false l:=by
 have:=skp_le l false
 rw [List.length_take]
 omega

theorem skip_zero {l : List UInt8} (h : skipL l ≠ []) : (∀ y,skp false (l.take (skp false l) ++ y) = skp false l + skp false y) ∧ skp false (skipL l) = 0:=by
 have hs:=skp_split (l.take (skp false l)) (skipL l) false h (by rw [← gap_split,gap_len])
 have h2 : ∀ y,skp false (l.take (skp false l) ++ y) = skp false l + skp false y:=fun y => by rw [hs.2 y,gap_len]
 refine ⟨h2,?_⟩
 have:=h2 (skipL l)
 rw [← gap_split] at this
 omega

theorem skip_on {l : List UInt8} (m : List UInt8) (h : skipL l ≠ []) : skp false (l ++ 10 :: m) = skp false l ∧ skipL (l ++ 10 :: m) = skipL l ++ 10 :: m:=by
 obtain ⟨h1,h2⟩:=skip_zero h
 have hk : skp false (l ++ 10 :: m) = skp false l:=by
  have e : l ++ 10 :: m = l.take (skp false l) ++ (skipL l ++ 10 :: m):=by rw [← List.append_assoc,← gap_split]
  rw [e,h1]
  cases hs : skipL l with
  | nil => exact absurd hs h
  | cons c r =>
   rw [hs] at h2
   rw [skp_zero h2 (fun _ => by decide)]
   rfl
 refine ⟨hk,?_⟩
 rw [skipL,hk,skipL,List.drop_append_of_le_length (skp_le l false)]

theorem skip_over {l : List UInt8} (m : List UInt8) (h : skipL l = []) : skp false (l ++ 10 :: m) = l.length + 1 + skp false m ∧ skipL (l ++ 10 :: m) = skipL m:=by
 have h0:=skp_le l false
 have h1:=skipL_len l
 rw [h] at h1
 simp at h1
 have hk:=skp_all l m false (by omega)
 refine ⟨hk,?_⟩
 rw [skipL,hk,skipL]
 rw [show l.length + 1 + skp false m = l.length + (1 + skp false m) from by omega,← List.drop_drop,List.drop_left,Nat.add_comm 1,List.drop_succ_cons]

theorem txtN_over : ∀ (l : List UInt8) (b : Bool) (d : UInt8) (m : List UInt8),txtC b l = false → l.length + 1 ≤ txtN b (l ++ d :: m)
 | [],b,d,m,h => by
  have hb : b = false:=h
  subst hb
  simp only [List.nil_append,txtN,List.length_nil]
  omega
 | c :: l,false,d,m,h => by
  simp only [txtC] at h
  have:=txtN_over l _ d m h
  simp only [List.cons_append,txtN,List.length_cons]
  omega
 | c :: l,true,d,m,h => by
  simp only [txtC] at h
  split at h
  ·rename_i hc
   have:=txtN_over l _ d m h
   simp only [List.cons_append,txtN,List.length_cons]
   rw [if_pos hc]
   omega
  ·exact absurd h (by simp)

theorem pce_on {l : List UInt8} (m : List UInt8) (h : skipL l ≠ []) : (tokR (pce l)).2 ≠ 0 → (tokR (pce (l ++ 10 :: m))).2 = (tokR (pce l)).2:=by
 intro hz
 have hs:=(skip_on m h).2
 cases hl : skipL l with
 | nil => exact absurd hl h
 | cons c q =>
  by_cases ho : c = 39 ∧ txtC false q = false
  ·obtain ⟨rfl,ho⟩:=ho
   have h1 : pce l = 39 :: q:=by
    rw [pce,hl]
    simp only [pieceN]
    rw [if_neg (by decide),if_pos (by decide),txtN_open q _ ho]
    exact List.take_of_length_le (by simp; omega)
   have h2 : ∃ r,pce (l ++ 10 :: m) = 39 :: r ∧ (10 : UInt8) ∈ r:=by
    have hn:=txtN_over q false 10 m ho
    rw [pce,hs,hl]
    simp only [List.cons_append,pieceN]
    rw [if_neg (by decide),if_pos (by decide),Nat.add_comm,List.take_succ_cons]
    refine ⟨_,rfl,?_⟩
    obtain ⟨k,hk⟩ : ∃ k,txtN false (q ++ 10 :: m) = q.length + (k + 1):=⟨txtN false (q ++ 10 :: m) - q.length - 1,by omega⟩
    rw [hk,List.take_length_add_append,List.take_succ_cons]
    simp
   obtain ⟨r,h2,h3⟩:=h2
   rw [h1,h2,tok_no (lit_open ho),tok_no (lit_line h3)]
  ·have ht : c = 39 → txtC false q = true:=fun e => by
    cases hq : txtC false q with
    | true => rfl
    | false => exact absurd ⟨e,hq⟩ ho
   have : pce (l ++ 10 :: m) = pce l:=by
    rw [pce,hs,pce,hl,pieceN_gap (Or.inr (Or.inr rfl)) ht,List.take_append_of_le_length]
    exact pieceN_le _
   rw [this]

theorem tok_closed {c : UInt8} {q : List UInt8} {t : Tk} (h : tokR ((c :: q).take (pieceN (c :: q))) = (t,0)) : c = 39 → txtC false q = true:=by
 rintro rfl
 cases ho : txtC false q with
 | true => rfl
 | false =>
  have h1 : (39 :: q).take (pieceN (39 :: q)) = 39 :: q:=by
   simp only [pieceN]
   rw [if_neg (by decide),if_pos (by decide),txtN_open q _ ho]
   exact List.take_of_length_le (by simp; omega)
  rw [h1,tok_no (lit_open ho)] at h
  exact absurd (Prod.mk.inj h).2 (by decide)

theorem piece_on {l : List UInt8} {t : Tk} (m : List UInt8) (h : skipL l ≠ []) (ht : tokR (pce l) = (t,0)) : pieceN (skipL (l ++ 10 :: m)) = pieceN (skipL l) ∧ pce (l ++ 10 :: m) = pce l ∧ rst (l ++ 10 :: m) = rst l ++ 10 :: m:=by
 have hs:=(skip_on m h).2
 cases hl : skipL l with
 | nil => exact absurd hl h
 | cons c q =>
  have hp : pieceN (skipL (l ++ 10 :: m)) = pieceN (skipL l):=by
   rw [hs,hl]
   exact pieceN_gap (Or.inr (Or.inr rfl)) (tok_closed (by rw [pce,hl] at ht; exact ht))
  refine ⟨by rw [hp,hl],?_,?_⟩
  ·rw [pce,hp,hs,pce,List.take_append_of_le_length (pieceN_le _)]
  ·rw [rst,hp,hs,rst,List.drop_append_of_le_length (pieceN_le _)]

theorem Bad.join {l : List UInt8} {a p : Nat} {c : Int} (h : Bad l a p c) (m : List UInt8) : Bad (l ++ 10 :: m) a p c:=by
 induction h with
 | @here l a t c h1 h2 =>
  have hne : skipL l ≠ []:=fun g => by
   rw [pce_nil g] at h1
   exact h2 (Prod.mk.inj h1).2.symm
  have hk:=(skip_on m hne).1
  have hp:=pce_on m hne (by rw [h1]; exact h2)
  rw [h1] at hp
  simp only at hp
  have:=Bad.here (l:=l ++ 10 :: m) (a:=a) (t:=(tokR (pce (l ++ 10 :: m))).1) (c:=c) (by rw [← hp]) h2
  rw [hk] at this
  exact this
 | @more l a p t c h1 h2 h3 ih =>
  obtain ⟨e1,e2,e3⟩:=piece_on m h1 h2
  have hk:=skip_on m h1
  refine Bad.more (t:=t) ?_ (by rw [e2]; exact h2) ?_
  ·rw [hk.2]
   simp
  ·rw [e3,hk.1,e1]
   exact ih

theorem Toks.join {l m : List UInt8} {a : Nat} {ts us : List (Tk × Nat)} (h : Toks l a ts) (g : Toks m (a + l.length + 1) us) : Toks (l ++ 10 :: m) a (ts.dropLast ++ us):=by
 induction h with
 | @fin l a h =>
  obtain ⟨e1,e2⟩:=skip_over m h
  have hp : pce (l ++ 10 :: m) = pce m:=by rw [pce,e2,pce]
  have hr : rst (l ++ 10 :: m) = rst m:=by rw [rst,e2,rst]
  have ha : a + skp false (l ++ 10 :: m) = a + l.length + 1 + skp false m:=by omega
  cases g with
  | fin g1 =>
   have:=Toks.fin (l:=l ++ 10 :: m) (a:=a) (by rw [e2]; exact g1)
   rw [ha] at this
   exact this
  | more g1 g2 g3 =>
   have:=Toks.more (l:=l ++ 10 :: m) (a:=a) (by rw [e2]; exact g1) (by rw [hp]; exact g2) (by rw [hr,ha,e2]; exact g3)
   rw [ha] at this
   exact this
 | @more l a t ts h1 h2 h3 ih =>
  obtain ⟨e1,e2,e3⟩:=piece_on m h1 h2
  have hk:=skip_on m h1
  have h4:=skp_le l false
  have h5:=pieceN_le (skipL l)
  have h6:=skipL_len l
  have hrl : (rst l).length = (skipL l).length - pieceN (skipL l):=by simp [rst]
  have hih:=ih (by rw [show a + skp false l + pieceN (skipL l) + (rst l).length + 1 = a + l.length + 1 from by omega]; exact g)
  have:=Toks.more (l:=l ++ 10 :: m) (a:=a) (t:=t) (by rw [hk.2]; simp) (by rw [e2]; exact h2) (by rw [e3,hk.1,e1]; exact hih)
  rw [hk.1] at this
  obtain ⟨u,v,rfl⟩:=h3.head
  exact this
end Go.Proofs.YtonbafpnaphckaaGreatDoor
