/- M114 M115 M116 M27 M117 M119 -/
import Derived.Test.YtffalonhkemieaaGreatDoorSM110
namespace Go.Proofs.YtffalonhkemieaaGreatDoor
open Go Go.RowKit
theorem skipL_len (l : List UInt8) : (skipL l).length = l.length - skp false l:=by simp [skipL]

def txtC : Bool → List UInt8 → Bool
 | b,[] => b
 | false,c :: l => txtC (decide (c = 39)) l
 | true,c :: l => if c = 39 then txtC false l else true

theorem txtN_open : ∀ (l : List UInt8) (b : Bool),txtC b l = false → txtN b l = l.length
 | [],b,_ => by cases b <;> rfl
 | c :: l,false,h => by
  simp only [txtC] at h
  simp only [txtN,List.length_cons,txtN_open l _ h]
  omega
 | c :: l,true,h => by
  simp only [txtC] at h
  simp only [txtN]
  split at h
  ·rename_i hc
   rw [if_pos hc,txtN_open l _ h,List.length_cons]
   omega
  ·exact absurd h (by simp)

theorem hexd_mark (i : Nat) (h : i < 16) : hexd i ≠ 39:=by
 have : ∀ i : Fin 16,hexd i.val ≠ 39:=by decide +kernel
 exact this ⟨i,h⟩

theorem txt_qbs : ∀ (x r : List UInt8),txtN false (qbs x ++ 39 :: r) = (qbs x).length + 1 + txtN true r ∧ txtC false (qbs x ++ 39 :: r) = txtC true r
 | [],r => by
  constructor
  ·show 1 + txtN (decide ((39 : UInt8) = 39)) r = 0 + 1 + txtN true r
   rw [show decide ((39 : UInt8) = 39) = true from rfl]
  ·rfl
 | c :: x,r => by
  obtain ⟨h1,h2⟩:=txt_qbs x r
  have hc:=UInt8.toNat_lt c
  rw [qbs_cons,List.append_assoc]
  by_cases c1 : c.toNat = 39
  ·rw [qb_mark c1]
   simp only [List.cons_append,List.nil_append,txtN,txtC,decide_true,if_true,List.length_cons]
   exact ⟨by omega,h2⟩
  ·by_cases c2 : c.toNat = 92 ∨ c.toNat < 32 ∨ 126 < c.toNat
   ·rw [qb_hex c1 c2]
    have e0 : decide ((92 : UInt8) = 39) = false:=by decide
    have e1 : decide (hexd (c.toNat / 16) = 39) = false:=decide_eq_false (hexd_mark _ (by omega))
    have e2 : decide (hexd (c.toNat % 16) = 39) = false:=decide_eq_false (hexd_mark _ (by omega))
    simp only [List.cons_append,List.nil_append,txtN,txtC,e0,e1,e2,List.length_cons]
    exact ⟨by omega,h2⟩
   ·rw [qb_plain c1 c2]
    have e0 : decide (c = 39) = false:=decide_eq_false fun q => c1 (by rw [q]; rfl)
    simp only [List.cons_append,List.nil_append,txtN,txtC,e0,List.length_cons]
    exact ⟨by omega,h2⟩

theorem lit_mark {l : List UInt8} {v : V3} (h : LitOf (39 :: l) v) : v.1 = 3 ∧ l = qbs v.2.2.data.toList ++ [39]:=by
 obtain ⟨hr,he⟩:=h
 rcases rt_kind hr with k | k | k | k
 ·rw [lit_null k] at he; exact absurd he (by simp)
 ·rw [lit_int k] at he
  obtain ⟨c,q,e,g⟩:=itoa_head v.2.1
  rw [e] at he
  rw [(List.cons.inj he).1] at g
  exact absurd g (by decide)
 ·rcases (right_bool hr k).1 with g | g
  ·rw [lit_false k g] at he; exact absurd he (by simp)
  ·rw [lit_true k g] at he; exact absurd he (by simp)
 ·rw [lit_text k,quo] at he
  exact ⟨k,(List.cons.inj he).2.symm⟩

theorem lit_open {l : List UInt8} (hl : txtC false l = false) : ∀ v,¬ LitOf (39 :: l) v:=by
 intro v h
 rw [(lit_mark h).2,(txt_qbs _ []).2] at hl
 exact absurd hl (by decide)

theorem tok_no {l : List UInt8} (h : ∀ v,¬ LitOf (39 :: l) v) : tokR (39 :: l) = (tk0,103):=by
 rw [tokR_mark (by decide),parR_no h]
 rfl

theorem skp_all : ∀ (l m : List UInt8) (b : Bool),skp b l = l.length → skp b (l ++ 10 :: m) = l.length + 1 + skp false m
 | [],m,true,_ => by simp [skp]
 | [],m,false,_ => by
  simp only [List.nil_append,skp]
  rw [if_pos (Or.inr (by decide))]
  simp
 | c :: l,m,true,h => by
  simp only [skp,List.length_cons,List.cons_append] at h ⊢
  by_cases hc : c = 10
  ·rw [if_pos hc] at h ⊢
   rw [skp_all l m false (by omega)]
   omega
  ·rw [if_neg hc] at h ⊢
   rw [skp_all l m true (by omega)]
   omega
 | c :: l,m,false,h => by
  simp only [skp,List.length_cons,List.cons_append] at h ⊢
  by_cases hc : cls c = 2 ∨ cls c = 3
  ·rw [if_pos hc] at h ⊢
   rw [skp_all l m false (by omega)]
   omega
  ·rw [if_neg hc] at h ⊢
   by_cases hd : c = 45 ∧ l.head? = some 45
   ·rw [if_pos hd] at h
    have hne : (l ++ 10 :: m).head? = some 45:=by
     cases l with
     | nil => simp at hd
     | cons d l => simpa using hd.2
    rw [if_pos ⟨hd.1,hne⟩,skp_all l m true (by omega)]
    omega
   ·rw [if_neg hd] at h
    omega

theorem skp_split : ∀ (g r : List UInt8) (b : Bool),r ≠ [] → skp b (g ++ r) = g.length → (b = true → g ≠ []) ∧ ∀ y,skp b (g ++ y) = g.length + skp false y
 | [],c :: r,true,_,h => by
  simp only [List.nil_append,skp,List.length_nil] at h
  split at h <;> omega
 | [],r,false,_,_ => ⟨fun h => by simp at h,fun y => by simp⟩
 | [],[],true,hr,_ => absurd rfl hr
 | c :: g,r,true,hr,h => by
  refine ⟨fun _ => by simp,fun y => ?_⟩
  simp only [skp,List.length_cons,List.cons_append] at h ⊢
  by_cases hc : c = 10
  ·rw [if_pos hc] at h ⊢
   rw [(skp_split g r false hr (by omega)).2 y]
   omega
  ·rw [if_neg hc] at h ⊢
   rw [(skp_split g r true hr (by omega)).2 y]
   omega
 | c :: g,r,false,hr,h => by
  refine ⟨fun h => by simp at h,fun y => ?_⟩
  simp only [skp,List.length_cons,List.cons_append] at h ⊢
  by_cases hc : cls c = 2 ∨ cls c = 3
  ·rw [if_pos hc] at h ⊢
   rw [(skp_split g r false hr (by omega)).2 y]
   omega
  ·rw [if_neg hc] at h ⊢
   by_cases hd : c = 45 ∧ (g ++ r).head? = some 45
   ·rw [if_pos hd] at h
    obtain ⟨i1,i2⟩:=skp_split g r true hr (by omega)
    have hg:=i1 rfl
    have hne : (g ++ y).head? = some 45:=by
     cases g with
     | nil => exact absurd rfl hg
     | cons d g => simpa using hd.2
    rw [if_pos ⟨hd.1,hne⟩,i2 y]
    omega
   ·rw [if_neg hd] at h
    omega

theorem gap_split (l : List UInt8) : l = l.take (skp false l) ++ skipL l:=(List.take_append_drop _ _).symm

theorem gap_len (l : List UInt8) : (l.take (skp false l)).length = skp false l:=by
 have:=skp_le l false
 rw [List.length_take]
 omega

theorem skip_zero {l : List UInt8} (h : skipL l ≠ []) : (∀ y,skp false (l.take (skp false l) ++ y) = skp false l + skp false y) ∧ skp false (skipL l) = 0:=by
 have hs:=skp_split (l.take (skp false l)) (skipL l) false h (by rw [← gap_split,gap_len])
 have h2 : ∀ y,skp false (l.take (skp false l) ++ y) = skp false l + skp false y:=fun y => by rw [hs.2 y,gap_len]
 refine ⟨h2,?_⟩
 have:=h2 (skipL l)
 rw [← gap_split] at this
 omega

def ddl (m : Nat) : List UInt8:=if m = 0 then [] else Lib.decDigits m

theorem ddl_zero : ddl 0 = []:=rfl

theorem dec_eq (u : Nat) : Lib.decDigits u = ddl (u / 10) ++ [UInt8.ofNat (48 + u % 10)]:=by
 rw [Lib.decDigits]
 by_cases h : u < 10
 ·rw [dif_pos h]
  have e1 : u / 10 = 0:=by omega
  have e2 : u % 10 = u:=by omega
  rw [e1,e2]; rfl
 ·rw [dif_neg h,ddl,if_neg (by omega)]

theorem ddl_step {m : Nat} (h : m ≠ 0) : ddl m = ddl (m / 10) ++ [UInt8.ofNat (48 + m % 10)]:=by
 rw [ddl,if_neg h]; exact dec_eq m

theorem dig_ext (d : Nat) (h : d < 10) : (⟨#[48,49,50,51,52,53,54,55,56,57]⟩ : ByteArray).extract d (d + 1) = ⟨#[UInt8.ofNat (48 + d)]⟩:=by
 have : ∀ d : Fin 10,(⟨#[48,49,50,51,52,53,54,55,56,57]⟩ : ByteArray).extract d.val (d.val + 1) = ⟨#[UInt8.ofNat (48 + d.val)]⟩:=by decide +kernel
 exact this ⟨d,h⟩

def mg (l : List UInt8) : Nat:=l.foldl (fun a c => if c.toNat = 45 then a else 10 * a + (c.toNat - 48)) 0

theorem mg_snoc (l : List UInt8) (c : UInt8) : mg (l ++ [c]) = if c.toNat = 45 then mg l else 10 * mg l + (c.toNat - 48):=by
 unfold mg; rw [List.foldl_append]; rfl

theorem mg_le (l m : List UInt8) : mg l ≤ mg (l ++ m):=by
 induction m generalizing l with
 | nil => rw [List.append_nil]; exact Nat.le_refl _
 | cons c m ih =>
  have e : l ++ c :: m = (l ++ [c]) ++ m:=by simp
  rw [e]
  refine Nat.le_trans ?_ (ih (l ++ [c]))
  rw [mg_snoc]
  split
  ·exact Nat.le_refl _
  ·omega

theorem mg_dec (u : Nat) : mg (Lib.decDigits u) = u ∧ mg (45 :: Lib.decDigits u) = u ∧ ∀ c ∈ Lib.decDigits u,48 ≤ c.toNat ∧ c.toNat ≤ 57:=by
 induction u using Nat.strongRecOn with
 | _ u ih =>
  have e : (UInt8.ofNat (48 + u % 10)).toNat = 48 + u % 10:=by rw [UInt8.toNat_ofNat']; omega
  by_cases h : u < 10
  ·have e2 : u % 10 = u:=by omega
   rw [e2] at e
   rw [Lib.decDigits,dif_pos h]
   refine ⟨?_,?_,?_⟩
   ·have:=mg_snoc [] (UInt8.ofNat (48 + u))
    rw [List.nil_append] at this
    rw [this,if_neg (by omega),e]
    have : mg [] = 0:=rfl
    omega
   ·have:=mg_snoc [45] (UInt8.ofNat (48 + u))
    have h0 : mg [45] = 0:=rfl
    show mg ([45] ++ [UInt8.ofNat (48 + u)]) = u
    rw [this,if_neg (by omega),e,h0]
    omega
   ·intro c hc
    rw [List.mem_singleton] at hc
    subst hc
    omega
  ·obtain ⟨a,b,c⟩:=ih (u / 10) (by omega)
   rw [Lib.decDigits,dif_neg h]
   refine ⟨?_,?_,?_⟩
   ·rw [mg_snoc,if_neg (by omega),e,a]; omega
   ·have e3 : (45 :: (Lib.decDigits (u / 10) ++ [UInt8.ofNat (48 + u % 10)])) = (45 :: Lib.decDigits (u / 10)) ++ [UInt8.ofNat (48 + u % 10)]:=rfl
    rw [e3,mg_snoc,if_neg (by omega),e,b]; omega
   ·intro x hx
    rcases List.mem_append.1 hx with hx | hx
    ·exact c x hx
    ·rw [List.mem_singleton] at hx; subst hx; omega

theorem dec_len : ∀ (k u : Nat),u < 10 ^ (k + 1) → (Lib.decDigits u).length ≤ k + 1
 | 0,u,h => by rw [Lib.decDigits,dif_pos (by simpa using h)]; simp
 | k + 1,u,h => by
  rw [Lib.decDigits]
  by_cases g : u < 10
  ·rw [dif_pos g]; simp
  ·rw [dif_neg g]
   have h2 : u / 10 < 10 ^ (k + 1):=by
    rw [Nat.pow_succ] at h
    omega
   have:=dec_len k (u / 10) h2
   simp
   omega

theorem itoa_mg (n : Int) : mg (Lib.itoa n) = n.natAbs:=by
 unfold Lib.itoa
 split
 ·exact (mg_dec _).2.1
 ·rw [(mg_dec _).1]; omega

theorem itoa_bytes (n : Int) : ∀ c ∈ Lib.itoa n,c.toNat = 45 ∨ 48 ≤ c.toNat ∧ c.toNat ≤ 57:=by
 unfold Lib.itoa
 split
 ·intro c hc
  rcases List.mem_cons.1 hc with rfl | hc
  ·exact Or.inl rfl
  ·exact Or.inr ((mg_dec _).2.2 c hc)
 ·exact fun c hc => Or.inr ((mg_dec _).2.2 c hc)

theorem itoa_len {n : Int} (h1 : -4611686018427387904 ≤ n) (h2 : n ≤ 4611686018427387904) : (Lib.itoa n).length ≤ 20:=by
 unfold Lib.itoa
 split
 ·have:=dec_len 18 n.natAbs (by omega)
  simp; omega
 ·have:=dec_len 18 n.toNat (by omega)
  omega

theorem itoa_sign (n : Int) : ∃ c l,Lib.itoa n = c :: l ∧ (c.toNat = 45 ↔ n < 0):=by
 unfold Lib.itoa
 split
 ·rename_i h
  exact ⟨45,_,rfl,⟨fun _ => h,fun _ => rfl⟩⟩
 ·rename_i h
  obtain ⟨c,l,e,a,b⟩:=dec_head n.toNat
  exact ⟨c,l,e,⟨fun g => by omega,fun g => absurd g h⟩⟩

theorem dec_lead (u : Nat) : 0 < u → ∃ c l,Lib.decDigits u = c :: l ∧ c.toNat ≠ 48:=by
 induction u using Nat.strongRecOn with
 | _ u ih =>
  intro h0
  rw [Lib.decDigits]
  by_cases h : u < 10
  ·rw [dif_pos h]
   refine ⟨_,_,rfl,?_⟩
   rw [UInt8.toNat_ofNat']
   omega
  ·rw [dif_neg h]
   obtain ⟨c,l,e,hc⟩:=ih (u / 10) (by omega) (by omega)
   rw [e]
   exact ⟨c,_,rfl,hc⟩

structure NumOk (l : List UInt8) : Prop where
 ne : l ≠ []
 all : ∀ c ∈ l,48 ≤ c.toNat ∧ c.toNat ≤ 57
 lead : 1 < l.length → ∀ c ∈ l.head?,c.toNat ≠ 48
 most : mg l ≤ 4611686018427387904

theorem dec_mg : ∀ (n : Nat) (l : List UInt8),l.length = n → l ≠ [] → (∀ c ∈ l,48 ≤ c.toNat ∧ c.toNat ≤ 57) → (1 < l.length → ∀ c ∈ l.head?,c.toNat ≠ 48) → Lib.decDigits (mg l) = l ∧ ((∀ c ∈ l.head?,c.toNat ≠ 48) → 0 < mg l):=by
 intro n
 induction n with
 | zero => intro l h1 h2; exact absurd (List.length_eq_zero_iff.1 h1) h2
 | succ n ih =>
  intro l hl hne hall hlead
  obtain ⟨q,c,rfl⟩ : ∃ q c,l = q ++ [c]:=⟨l.dropLast,l.getLast hne,(List.dropLast_concat_getLast hne).symm⟩
  have hc:=hall c (by simp)
  rw [mg_snoc,if_neg (by omega)]
  have e : UInt8.ofNat (48 + (c.toNat - 48)) = c:=by
   apply UInt8.toNat_inj.1
   rw [UInt8.toNat_ofNat']
   omega
  cases q with
  | nil =>
   refine ⟨?_,fun h => ?_⟩
   ·rw [dec_eq,show (10 * mg [] + (c.toNat - 48)) / 10 = 0 from by simp [mg]; omega,ddl_zero,show (10 * mg [] + (c.toNat - 48)) % 10 = c.toNat - 48 from by simp [mg]; omega,e]
   ·have:=h c (by simp)
    simp [mg]
    omega
  | cons d q =>
   have hd : ∀ x ∈ (d :: q).head?,x.toNat ≠ 48:=by
    intro x hx
    exact hlead (by simp) x (by simpa using hx)
   obtain ⟨i1,i2⟩:=ih (d :: q) (by simpa using hl) (by simp) (fun x hx => hall x (List.mem_append.2 (Or.inl hx))) (fun _ => hd)
   have hp:=i2 hd
   refine ⟨?_,fun _ => by omega⟩
   rw [dec_eq,show (10 * mg (d :: q) + (c.toNat - 48)) / 10 = mg (d :: q) from by omega,show (10 * mg (d :: q) + (c.toNat - 48)) % 10 = c.toNat - 48 from by omega,e,ddl,if_neg (by omega),i1]

theorem num_lit {l : List UInt8} (h : NumOk l) : LitOf l (1,(mg l : Int),⟨#[]⟩):=by
 have hm:=h.most
 refine ⟨?_,?_⟩
 ·simp [V3.right,rgt]
  omega
 ·rw [lit_int rfl]
  show Lib.itoa (mg l : Int) = l
  unfold Lib.itoa
  rw [if_neg (by omega),Int.toNat_natCast]
  exact (dec_mg _ l rfl h.ne h.all h.lead).1

theorem lit_num {c : UInt8} {q : List UInt8} {v : V3} (hc : 48 ≤ c.toNat ∧ c.toNat ≤ 57) (h : LitOf (c :: q) v) : NumOk (c :: q) ∧ v = (1,(mg (c :: q) : Int),⟨#[]⟩):=by
 obtain ⟨hr,he⟩:=h
 rcases rt_kind hr with k | k | k | k
 ·rw [lit_null k] at he
  rw [← (List.cons.inj he).1] at hc
  exact absurd hc (by decide)
 ·obtain ⟨h1,h2,h3⟩:=rt_num hr k
  rw [lit_int k] at he
  obtain ⟨d,l,e,hs⟩:=itoa_sign v.2.1
  have h0 : ¬ v.2.1 < 0:=fun g => by
   have:=hs.2 g
   rw [e] at he
   rw [(List.cons.inj he).1] at this
   omega
  have hd : Lib.decDigits v.2.1.toNat = c :: q:=by
   unfold Lib.itoa at he
   rw [if_neg h0] at he
   exact he
  obtain ⟨m1,_,m3⟩:=mg_dec v.2.1.toNat
  rw [hd] at m1 m3
  refine ⟨⟨by simp,m3,fun hl x hx => ?_,by rw [m1]; omega⟩,?_⟩
  ·by_cases hz : v.2.1.toNat = 0
   ·rw [hz,Lib.decDigits,dif_pos (by omega)] at hd
    have h5:=congrArg List.length hd
    simp only [List.length_cons,List.length_nil] at h5 hl
    omega
   ·obtain ⟨y,z,e1,e2⟩:=dec_lead v.2.1.toNat (by omega)
    rw [hd] at e1
    simp at hx
    rw [← hx,(List.cons.inj e1).1]
    exact e2
  ·refine v3_eq k ?_ h3
   show v.2.1 = ((mg (c :: q) : Nat) : Int)
   rw [m1]
   omega
 ·rcases (right_bool hr k).1 with g | g
  ·rw [lit_false k g] at he
   rw [← (List.cons.inj he).1] at hc
   exact absurd hc (by decide)
  ·rw [lit_true k g] at he
   rw [← (List.cons.inj he).1] at hc
   exact absurd hc (by decide)
 ·rw [lit_text k,quo] at he
  simp only [List.cons_append] at he
  rw [← (List.cons.inj he).1] at hc
  exact absurd hc (by decide)

theorem tok_num_ok {c : UInt8} {q : List UInt8} (hc : cls c = 4) (h : NumOk (c :: q)) : tokR (c :: q) = ((2,(mg (c :: q) : Int),⟨#[]⟩),0):=by
 rw [tokR_digit hc,parR_ok (num_lit h),if_pos rfl]

theorem tok_num_no {c : UInt8} {q : List UInt8} (hc : cls c = 4) (h : ¬ NumOk (c :: q)) : tokR (c :: q) = (tk0,101):=by
 have hd : 48 ≤ c.toNat ∧ c.toNat ≤ 57:=by
  unfold cls at hc
  by_cases g : 48 ≤ c.toNat ∧ c.toNat ≤ 57
  ·exact g
  ·rw [if_neg g] at hc
   repeat (first | (split at hc; · simp at hc) | (simp at hc; done))
 rw [tokR_digit hc,parR_no fun v g => h (lit_num hd g).1,if_neg (by decide)]
end Go.Proofs.YtffalonhkemieaaGreatDoor
