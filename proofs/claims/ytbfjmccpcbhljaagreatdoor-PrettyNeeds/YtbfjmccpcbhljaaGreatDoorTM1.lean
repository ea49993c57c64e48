/- M1 M5 M2 M3 M8 M26 M27 -/
import Derived.Test.YtbfjmccpcbhljaaGreatDoorTAb
import GoSem.Op.String
import Derived.WalkKit
import Derived.Lib.ItoaNum
import Derived.Lib.AtoiAll
namespace Go.Proofs.YtbfjmccpcbhljaaGreatDoor
def rgt (k n : Int) (s : ByteArray) : Bool :=
 if k = 0 then n == 0 && s.toList.isEmpty
 else if k = 1 then decide (-4611686018427387904 ≤ n) && decide (n ≤ 4611686018427387904) && s.toList.isEmpty
 else if k = 2 then (n == 0 || n == 1) && s.toList.isEmpty
 else if k = 3 then n == 0 && decide ((s.size : Int) ≤ 64)
 else false

def b2i (b : Bool) : Int:=if b then 1 else 0

def hexd (i : Nat) : UInt8:=(#[48,49,50,51,52,53,54,55,56,57,97,98,99,100,101,102] : Array UInt8).getD i 0

def qb (c : UInt8) : List UInt8 :=
 if c.toNat = 39 then [39,39] else if c.toNat = 92 ∨ c.toNat < 32 ∨ 126 < c.toNat then [92,hexd (c.toNat / 16),hexd (c.toNat % 16)] else [c]

theorem qb_mark {c : UInt8} (h : c.toNat = 39) : qb c = [39,39]:=by unfold qb; rw [if_pos h]

theorem qb_hex {c : UInt8} (h : ¬ c.toNat = 39) (g : c.toNat = 92 ∨ c.toNat < 32 ∨ 126 < c.toNat) : qb c = [92,hexd (c.toNat / 16),hexd (c.toNat % 16)]:=by unfold qb; rw [if_neg h,if_pos g]

theorem qb_plain {c : UInt8} (h : ¬ c.toNat = 39) (g : ¬ (c.toNat = 92 ∨ c.toNat < 32 ∨ 126 < c.toNat)) : qb c = [c]:=by unfold qb; rw [if_neg h,if_neg g]

theorem qb_len (c : UInt8) : (qb c).length ≤ 3 := by unfold qb; split; · simp
                                                     · split <;> simp

def qbs (l : List UInt8) : List UInt8:=l.flatMap qb

theorem qbs_len (l : List UInt8) : (qbs l).length ≤ 3 * l.length:=by
 unfold qbs
 induction l with
 | nil => simp
 | cons c l ih => have:=qb_len c; simp only [List.flatMap_cons,List.length_append,List.length_cons]; omega

theorem qbs_take (s : ByteArray) (k : Nat) (h : k < s.size) : qbs (s.data.toList.take (k + 1)) = qbs (s.data.toList.take k) ++ qb s[k]:=by
 unfold qbs
 rw [List.take_succ_eq_append_getElem (by simpa using h),List.flatMap_append]
 simp
 rfl

def quo (s : ByteArray) : List UInt8:=39 :: qbs s.data.toList ++ [39]

abbrev V3 : Type:=Int × Int × ByteArray

def V3.right (v : V3) : Bool:=rgt v.1 v.2.1 v.2.2

theorem empty_of {s : ByteArray} (h : s.toList.isEmpty = true) : s = ⟨#[]⟩:=by
 have e : s.data.toList = []:=by rw [← ByteArray.toList_eq]; simpa using h
 cases s with
 | mk d => simp at e; rw [e]

theorem right_bool {v : V3} (h : V3.right v = true) (k : v.1 = 2) : (v.2.1 = 0 ∨ v.2.1 = 1) ∧ v.2.2 = ⟨#[]⟩:=by
 unfold V3.right rgt at h
 rw [k] at h
 simp at h
 exact ⟨h.1,empty_of (by simpa using h.2)⟩

theorem right_null {v : V3} (h : V3.right v = true) (k : v.1 = 0) : v.2.1 = 0 ∧ v.2.2 = ⟨#[]⟩:=by
 unfold V3.right rgt at h
 rw [k] at h
 simp at h
 exact ⟨h.1,empty_of (by simpa using h.2)⟩

theorem v3_eq {u v : V3} (h1 : u.1 = v.1) (h2 : u.2.1 = v.2.1) (h3 : u.2.2 = v.2.2) : u = v:=Prod.ext h1 (Prod.ext h2 h3)

theorem bytes_eq {s t : ByteArray} (h : s.data.toList = t.data.toList) : s = t:=by
 cases s with | mk a => cases t with | mk b => simp at h; rw [h]

theorem rt_text {v : V3} (h : V3.right v = true) (k : v.1 = 3) : v.2.1 = 0 ∧ v.2.2.size ≤ 64:=by
 unfold V3.right rgt at h
 rw [k] at h
 simp at h
 exact ⟨h.1,by have:=h.2; omega⟩

theorem rt_num {v : V3} (h : V3.right v = true) (k : v.1 = 1) : -4611686018427387904 ≤ v.2.1 ∧ v.2.1 ≤ 4611686018427387904 ∧ v.2.2 = ⟨#[]⟩:=by
 unfold V3.right rgt at h
 rw [k] at h
 simp at h
 exact ⟨h.1.1,h.1.2,empty_of (by simpa using h.2)⟩

theorem rt_kind {v : V3} (h : V3.right v = true) : v.1 = 0 ∨ v.1 = 1 ∨ v.1 = 2 ∨ v.1 = 3:=by
 unfold V3.right rgt at h
 by_cases h0 : v.1 = 0
 ·exact Or.inl h0
 ·by_cases h1 : v.1 = 1
  ·exact Or.inr (Or.inl h1)
  ·by_cases h2 : v.1 = 2
   ·exact Or.inr (Or.inr (Or.inl h2))
   ·by_cases h3 : v.1 = 3
    ·exact Or.inr (Or.inr (Or.inr h3))
    ·rw [if_neg h0,if_neg h1,if_neg h2,if_neg h3] at h; exact absurd h (by simp)

def lit (v : V3) : List UInt8 :=
 if v.1 = 1 then Lib.itoa v.2.1
 else if v.1 = 2 then (if v.2.1 = 1 then [84,82,85,69] else [70,65,76,83,69])
 else if v.1 = 3 then quo v.2.2
 else [78,85,76,76]

theorem lit_null {v : V3} (h : v.1 = 0) : lit v = [78,85,76,76]:=by unfold lit; rw [if_neg (by omega),if_neg (by omega),if_neg (by omega)]

theorem lit_int {v : V3} (h : v.1 = 1) : lit v = Lib.itoa v.2.1:=by unfold lit; rw [if_pos h]

theorem lit_true {v : V3} (h : v.1 = 2) (g : v.2.1 = 1) : lit v = [84,82,85,69]:=by unfold lit; rw [if_neg (by omega),if_pos h,if_pos g]

theorem lit_false {v : V3} (h : v.1 = 2) (g : v.2.1 = 0) : lit v = [70,65,76,83,69]:=by unfold lit; rw [if_neg (by omega),if_pos h,if_neg (by omega)]

theorem lit_text {v : V3} (h : v.1 = 3) : lit v = quo v.2.2:=by unfold lit; rw [if_neg (by omega),if_neg (by omega),if_pos h]

def prR (v : V3) : List UInt8 × Int:=if V3.right v then (lit v,0) else ([],10)

theorem dec_head (u : Nat) : ∃ c l,Lib.decDigits u = c :: l ∧ 48 ≤ c.toNat ∧ c.toNat ≤ 57:=by
 induction u using Nat.strongRecOn with
 | _ u ih =>
  rw [Lib.decDigits]
  by_cases h : u < 10
  ·rw [dif_pos h]
   refine ⟨_,_,rfl,?_,?_⟩
   ·rw [UInt8.toNat_ofNat']; omega
   ·rw [UInt8.toNat_ofNat']; omega
  ·rw [dif_neg h]
   obtain ⟨c,l,e,a,b⟩:=ih (u / 10) (by omega)
   rw [e]
   exact ⟨c,_,rfl,a,b⟩

theorem parse_snoc : ∀ (l : List UInt8) (a m : Nat) (c : UInt8),Lib.parseUint10 a l = .ok m → 48 ≤ c.toNat → c.toNat ≤ 57 → m < 1844674407370955161 → Lib.parseUint10 a (l ++ [c]) = .ok (m * 10 + (c.toNat - 48))
 | [],a,m,c,h,h1,h2,h3 => by
  simp only [Lib.parseUint10] at h
  injection h with h
  subst h
  simp only [List.nil_append,Lib.parseUint10]
  rw [if_pos ⟨h1,h2⟩,if_neg (by omega),if_neg (by omega)]
 | d :: l,a,m,c,h,h1,h2,h3 => by
  simp only [Lib.parseUint10,List.cons_append] at h ⊢
  split at h
  ·rename_i hd
   rw [if_pos hd]
   split at h
   ·cases h
   ·rename_i ha
    rw [if_neg ha]
    split at h
    ·cases h
    ·rename_i hb
     rw [if_neg hb]
     exact parse_snoc l _ m c h h1 h2 h3
  ·cases h

theorem parse_dec (u : Nat) (h : u ≤ 4611686018427387904) : Lib.parseUint10 0 (Lib.decDigits u) = .ok u:=by
 induction u using Nat.strongRecOn with
 | _ u ih =>
  rw [Lib.decDigits]
  by_cases h10 : u < 10
  ·rw [dif_pos h10]
   have e : (UInt8.ofNat (48 + u)).toNat = 48 + u:=by rw [UInt8.toNat_ofNat']; omega
   simp only [Lib.parseUint10]
   rw [if_pos (by omega),if_neg (by omega),if_neg (by omega),e]
   congr 1
   omega
  ·rw [dif_neg h10]
   have e : (UInt8.ofNat (48 + u % 10)).toNat = 48 + u % 10:=by rw [UInt8.toNat_ofNat']; omega
   rw [parse_snoc _ 0 (u / 10) _ (ih (u / 10) (by omega) (by omega)) (by omega) (by omega) (by omega),e]
   congr 1
   omega

theorem atoi_itoa {n : Int} (h1 : -4611686018427387904 ≤ n) (h2 : n ≤ 4611686018427387904) : Lib.atoiAll (Lib.itoa n) = .ok n:=by
 unfold Lib.itoa
 by_cases hn : n < 0
 ·rw [if_pos hn]
  obtain ⟨c,l,e,_,_⟩:=dec_head n.natAbs
  have hm : Lib.parseMag (Lib.decDigits n.natAbs) = .ok n.natAbs:=by
   unfold Lib.parseMag
   rw [if_neg (by rw [e]; simp),parse_dec _ (by omega)]
  simp only [Lib.atoiAll]
  rw [if_pos (Or.inr (by decide)),hm]
  simp only
  rw [if_neg (by simp),if_neg (by omega),if_pos (by decide)]
  congr 1
  omega
 ·rw [if_neg hn]
  obtain ⟨c,l,e,a,b⟩:=dec_head n.toNat
  have hm : Lib.parseMag (Lib.decDigits n.toNat) = .ok n.toNat:=by
   unfold Lib.parseMag
   rw [if_neg (by rw [e]; simp),parse_dec _ (by omega)]
  rw [e] at hm ⊢
  simp only [Lib.atoiAll]
  rw [if_neg (by omega),hm]
  simp only
  rw [if_neg (by omega),if_neg (by omega),if_neg (by omega)]
  congr 1
  omega

theorem itoa_head (n : Int) : ∃ c l,Lib.itoa n = c :: l ∧ (c.toNat = 45 ∨ 48 ≤ c.toNat ∧ c.toNat ≤ 57):=by
 unfold Lib.itoa
 split
 ·exact ⟨45,_,rfl,Or.inl rfl⟩
 ·obtain ⟨c,l,e,a,b⟩:=dec_head n.toNat
  exact ⟨c,l,e,Or.inr ⟨a,b⟩⟩

theorem hexd_inj {i j : Nat} (hi : i < 16) (hj : j < 16) (h : hexd i = hexd j) : i = j:=by
 have : ∀ i j : Fin 16,hexd i.val = hexd j.val → i.val = j.val:=by decide +kernel
 exact this ⟨i,hi⟩ ⟨j,hj⟩ h

theorem qb_inj {c d : UInt8} {x y : List UInt8} (h : qb c ++ x = qb d ++ y) : c = d ∧ x = y:=by
 have hc:=UInt8.toNat_lt c
 have hd:=UInt8.toNat_lt d
 by_cases c1 : c.toNat = 39
 ·by_cases d1 : d.toNat = 39
  ·rw [qb_mark c1,qb_mark d1] at h
   simp at h
   exact ⟨UInt8.toNat_inj.1 (by omega),h⟩
  ·exfalso
   rw [qb_mark c1] at h
   by_cases d2 : d.toNat = 92 ∨ d.toNat < 32 ∨ 126 < d.toNat
   ·rw [qb_hex d1 d2] at h; simp at h
   ·rw [qb_plain d1 d2] at h; simp at h; exact d1 (by rw [← h.1]; rfl)
 ·by_cases c2 : c.toNat = 92 ∨ c.toNat < 32 ∨ 126 < c.toNat
  ·rw [qb_hex c1 c2] at h
   by_cases d1 : d.toNat = 39
   ·rw [qb_mark d1] at h; simp at h
   ·by_cases d2 : d.toNat = 92 ∨ d.toNat < 32 ∨ 126 < d.toNat
    ·rw [qb_hex d1 d2] at h
     simp at h
     obtain ⟨e1,e2,e3⟩:=h
     have a:=hexd_inj (by omega) (by omega) e1
     have b:=hexd_inj (by omega) (by omega) e2
     exact ⟨UInt8.toNat_inj.1 (by omega),e3⟩
    ·exfalso
     rw [qb_plain d1 d2] at h
     simp at h
     exact d2 (Or.inl (by rw [← h.1]; rfl))
  ·rw [qb_plain c1 c2] at h
   by_cases d1 : d.toNat = 39
   ·exfalso
    rw [qb_mark d1] at h; simp at h; exact c1 (by rw [h.1]; rfl)
   ·by_cases d2 : d.toNat = 92 ∨ d.toNat < 32 ∨ 126 < d.toNat
    ·exfalso
     rw [qb_hex d1 d2] at h
     simp at h
     exact c2 (Or.inl (by rw [h.1]; rfl))
    ·rw [qb_plain d1 d2] at h
     simp at h
     exact ⟨h.1,h.2⟩

theorem qb_pos (c : UInt8) : 0 < (qb c).length:=by
 unfold qb
 split
 ·simp
 ·split <;> simp

theorem qbs_cons (c : UInt8) (l : List UInt8) : qbs (c :: l) = qb c ++ qbs l:=rfl

theorem qbs_append (l m : List UInt8) : qbs (l ++ m) = qbs l ++ qbs m:=List.flatMap_append

theorem qbs_inj : ∀ (l m : List UInt8),qbs l = qbs m → l = m
 | [],[],_ => rfl
 | [],d :: m,h => by
  have:=congrArg List.length h
  have hp:=qb_pos d
  rw [qbs_cons,List.length_append] at this
  have e : (qbs []).length = 0:=rfl
  omega
 | c :: l,[],h => by
  have:=congrArg List.length h
  have hp:=qb_pos c
  rw [qbs_cons,List.length_append] at this
  have e : (qbs []).length = 0:=rfl
  omega
 | c :: l,d :: m,h => by
  rw [qbs_cons,qbs_cons] at h
  obtain ⟨rfl,e⟩:=qb_inj h
  rw [qbs_inj l m e]

def UQ (body xs : List UInt8) (k : Nat) : Prop:=∀ l,qbs l = body → xs <+: l ∧ k = (qbs xs).length

theorem uq_start (body : List UInt8) : UQ body [] 0:=fun _ _ => ⟨List.nil_prefix,rfl⟩

theorem uq_rest {body xs l : List UInt8} {k : Nat} (h : UQ body xs k) (hl : qbs l = body) : ∃ l',l = xs ++ l' ∧ qbs l' = body.drop k:=by
 obtain ⟨⟨l',rfl⟩,hk⟩:=h l hl
 refine ⟨l',rfl,?_⟩
 rw [qbs_append] at hl
 rw [← hl,hk,List.drop_left]

theorem uq_step {body xs : List UInt8} {k n : Nat} {c : UInt8} (h : UQ body xs k) (hk : k < body.length) (hc : ∀ d t,qb d ++ t = body.drop k → d = c ∧ n = (qb d).length) : UQ body (xs ++ [c]) (k + n):=by
 intro l hl
 obtain ⟨l',rfl,e⟩:=uq_rest h hl
 have hk2:=(h _ hl).2
 cases l' with
 | nil =>
  have:=congrArg List.length e
  rw [List.length_drop] at this
  simp [qbs] at this
  omega
 | cons d l' =>
  rw [qbs_cons] at e
  obtain ⟨rfl,hn⟩:=hc d _ e
  refine ⟨⟨l',by simp⟩,?_⟩
  have e1 : qbs [d] = qb d:=by simp [qbs]
  rw [qbs_append,List.length_append,e1,← hk2,hn]

theorem uq_stuck {body xs : List UInt8} {k : Nat} (h : UQ body xs k) (hk : k < body.length) (hc : ∀ d t,¬ qb d ++ t = body.drop k) : ∀ l,¬ qbs l = body:=by
 intro l hl
 obtain ⟨l',rfl,e⟩:=uq_rest h hl
 cases l' with
 | nil =>
  have:=congrArg List.length e
  rw [List.length_drop] at this
  simp [qbs] at this
  omega
 | cons d l' =>
  rw [qbs_cons] at e
  exact hc d _ e

theorem uq_end {body xs l : List UInt8} {k : Nat} (h : UQ body xs k) (hk : body.length ≤ k) (hl : qbs l = body) : l = xs:=by
 obtain ⟨l',rfl,e⟩:=uq_rest h hl
 rw [List.drop_of_length_le hk] at e
 cases l' with
 | nil => simp
 | cons d l' =>
  have hp:=qb_pos d
  rw [qbs_cons] at e
  have:=congrArg List.length e
  rw [List.length_append,List.length_nil] at this
  omega

def LitOf (s : List UInt8) (v : V3) : Prop:=V3.right v = true ∧ lit v = s

theorem lit_unique {s : List UInt8} {u v : V3} (hu : LitOf s u) (hv : LitOf s v) : u = v:=by
 obtain ⟨ru,eu⟩:=hu
 obtain ⟨rv,ev⟩:=hv
 have h : lit u = lit v:=by rw [eu,ev]
 rcases rt_kind ru with ku | ku | ku | ku <;> rcases rt_kind rv with kv | kv | kv | kv
 ·obtain ⟨a,b⟩:=right_null ru ku
  obtain ⟨c,d⟩:=right_null rv kv
  exact v3_eq (by rw [ku,kv]) (by rw [a,c]) (by rw [b,d])
 ·exfalso
  rw [lit_null ku,lit_int kv] at h
  obtain ⟨c,l,e,g⟩:=itoa_head v.2.1
  rw [e] at h
  have:=(List.cons.inj h).1
  rw [← this] at g
  exact absurd g (by decide)
 ·exfalso
  rw [lit_null ku] at h
  rcases (right_bool rv kv).1 with g | g
  ·rw [lit_false kv g] at h; exact absurd h (by decide)
  ·rw [lit_true kv g] at h; exact absurd h (by decide)
 ·exfalso
  rw [lit_null ku,lit_text kv,quo] at h
  simp at h
 ·exfalso
  rw [lit_int ku,lit_null kv] at h
  obtain ⟨c,l,e,g⟩:=itoa_head u.2.1
  rw [e] at h
  have:=(List.cons.inj h).1
  rw [this] at g
  exact absurd g (by decide)
 ·obtain ⟨a,b,c⟩:=rt_num ru ku
  obtain ⟨a',b',c'⟩:=rt_num rv kv
  rw [lit_int ku,lit_int kv] at h
  have e1:=atoi_itoa a b
  rw [h,atoi_itoa a' b'] at e1
  injection e1 with e1
  exact v3_eq (by rw [ku,kv]) e1.symm (by rw [c,c'])
 ·exfalso
  rw [lit_int ku] at h
  obtain ⟨c,l,e,g⟩:=itoa_head u.2.1
  rw [e] at h
  rcases (right_bool rv kv).1 with q | q
  ·rw [lit_false kv q] at h; rw [(List.cons.inj h).1] at g; exact absurd g (by decide)
  ·rw [lit_true kv q] at h; rw [(List.cons.inj h).1] at g; exact absurd g (by decide)
 ·exfalso
  rw [lit_int ku,lit_text kv,quo] at h
  obtain ⟨c,l,e,g⟩:=itoa_head u.2.1
  rw [e] at h
  rw [(List.cons.inj h).1] at g
  exact absurd g (by decide)
 ·exfalso
  rw [lit_null kv] at h
  rcases (right_bool ru ku).1 with g | g
  ·rw [lit_false ku g] at h; exact absurd h (by decide)
  ·rw [lit_true ku g] at h; exact absurd h (by decide)
 ·exfalso
  rw [lit_int kv] at h
  obtain ⟨c,l,e,g⟩:=itoa_head v.2.1
  rw [e] at h
  rcases (right_bool ru ku).1 with q | q
  ·rw [lit_false ku q] at h; rw [← (List.cons.inj h).1] at g; exact absurd g (by decide)
  ·rw [lit_true ku q] at h; rw [← (List.cons.inj h).1] at g; exact absurd g (by decide)
 ·obtain ⟨a,b⟩:=right_bool ru ku
  obtain ⟨c,d⟩:=right_bool rv kv
  refine v3_eq (by rw [ku,kv]) ?_ (by rw [b,d])
  rcases a with a | a <;> rcases c with c | c
  ·rw [a,c]
  ·rw [lit_false ku a,lit_true kv c] at h; exact absurd h (by decide)
  ·rw [lit_true ku a,lit_false kv c] at h; exact absurd h (by decide)
  ·rw [a,c]
 ·exfalso
  rw [lit_text kv,quo] at h
  rcases (right_bool ru ku).1 with g | g
  ·rw [lit_false ku g] at h; simp at h
  ·rw [lit_true ku g] at h; simp at h
 ·exfalso
  rw [lit_text ku,lit_null kv,quo] at h
  simp at h
 ·exfalso
  rw [lit_text ku,lit_int kv,quo] at h
  obtain ⟨c,l,e,g⟩:=itoa_head v.2.1
  rw [e] at h
  rw [← (List.cons.inj h).1] at g
  exact absurd g (by decide)
 ·exfalso
  rw [lit_text ku,quo] at h
  rcases (right_bool rv kv).1 with g | g
  ·rw [lit_false kv g] at h; simp at h
  ·rw [lit_true kv g] at h; simp at h
 ·obtain ⟨a,_⟩:=rt_text ru ku
  obtain ⟨c,_⟩:=rt_text rv kv
  rw [lit_text ku,lit_text kv,quo,quo] at h
  have h1:=(List.cons.inj h).2
  have h2:=(List.append_inj' h1 rfl).1
  exact v3_eq (by rw [ku,kv]) (by rw [a,c]) (bytes_eq (qbs_inj _ _ h2))

open Classical in
noncomputable def parR (s : List UInt8) : V3 × Int:=if h : ∃ v,LitOf s v then (Classical.choose h,0) else ((0,0,⟨#[]⟩),10)

theorem parR_ok {s : List UInt8} {v : V3} (h : LitOf s v) : parR s = (v,0):=by
 unfold parR
 rw [dif_pos ⟨v,h⟩,lit_unique (Classical.choose_spec (⟨v,h⟩ : ∃ v,LitOf s v)) h]

theorem parR_no {s : List UInt8} (h : ∀ v,¬ LitOf s v) : parR s = ((0,0,⟨#[]⟩),10):=by
 unfold parR
 rw [dif_neg (fun ⟨v,g⟩ => h v g)]

theorem prR_ok {v : V3} (h : V3.right v = true) : prR v = (lit v,0):=by unfold prR; rw [if_pos h]

theorem prR_no {v : V3} (h : V3.right v = false) : prR v = ([],10):=by unfold prR; rw [if_neg (by rw [h]; simp)]

theorem prR_lit {s : List UInt8} {v : V3} (h : (prR v).2 = 0) (g : (prR v).1 = s) : LitOf s v:=by
 cases e : V3.right v with
 | true => rw [prR_ok e] at g; exact ⟨e,g⟩
 | false => rw [prR_no e] at h; exact absurd h (by decide)

def mg (l : List UInt8) : Nat:=l.foldl (fun a c => if c.toNat = 45 then a else 10 * a + (c.toNat - 48)) 0

theorem mg_snoc (l : List UInt8) (c : UInt8) : mg (l ++ [c]) = if c.toNat = 45 then mg l else 10 * mg l + (c.toNat - 48):=by
 unfold mg; rw [List.foldl_append]; rfl

theorem mg_dec (u : Nat) : mg (Lib.decDigits u) = u ∧ mg (45 :: Lib.decDigits u) = u ∧ ∀ c ∈ Lib.decDigits u,48 ≤ c.toNat ∧ c.toNat ≤ 57:=by
 induction u using Nat.strongRecOn with
 | _ u ih =>
  have e : (UInt8.ofNat (48 + u % 10)).toNat = 48 + u % 10:=by rw [UInt8.toNat_ofNat']; omega
  by_cases h : u < 10
  ·have e2 : u % 10 = u:=by omega
   rw [e2] at e
   rw [Lib.decDigits,dif_pos h]
   refine ⟨?_,?_,?_⟩
   ·have:=mg_snoc [] (UInt8.ofNat (48 + u))
    rw [List.nil_append] at this
    rw [this,if_neg (by omega),e]
    have : mg [] = 0:=rfl
    omega
   ·have:=mg_snoc [45] (UInt8.ofNat (48 + u))
    have h0 : mg [45] = 0:=rfl
    show mg ([45] ++ [UInt8.ofNat (48 + u)]) = u
    rw [this,if_neg (by omega),e,h0]
    omega
   ·intro c hc
    rw [List.mem_singleton] at hc
    subst hc
    omega
  ·obtain ⟨a,b,c⟩:=ih (u / 10) (by omega)
   rw [Lib.decDigits,dif_neg h]
   refine ⟨?_,?_,?_⟩
   ·rw [mg_snoc,if_neg (by omega),e,a]; omega
   ·have e3 : (45 :: (Lib.decDigits (u / 10) ++ [UInt8.ofNat (48 + u % 10)])) = (45 :: Lib.decDigits (u / 10)) ++ [UInt8.ofNat (48 + u % 10)]:=rfl
    rw [e3,mg_snoc,if_neg (by omega),e,b]; omega
   ·intro x hx
    rcases List.mem_append.1 hx with hx | hx
    ·exact c x hx
    ·rw [List.mem_singleton] at hx; subst hx; omega

theorem dec_len : ∀ (k u : Nat),u < 10 ^ (k + 1) → (Lib.decDigits u).length ≤ k + 1
 | 0,u,h => by rw [Lib.decDigits,dif_pos (by simpa using h)]; simp
 | k + 1,u,h => by
  rw [Lib.decDigits]
  by_cases g : u < 10
  ·rw [dif_pos g]; simp
  ·rw [dif_neg g]
   have h2 : u / 10 < 10 ^ (k + 1):=by
    rw [Nat.pow_succ] at h
    omega
   have:=dec_len k (u / 10) h2
   simp
   omega

theorem itoa_len {n : Int} (h1 : -4611686018427387904 ≤ n) (h2 : n ≤ 4611686018427387904) : (Lib.itoa n).length ≤ 20:=by
 unfold Lib.itoa
 split
 ·have:=dec_len 18 n.natAbs (by omega)
  simp; omega
 ·have:=dec_len 18 n.toNat (by omega)
  omega
end Go.Proofs.YtbfjmccpcbhljaaGreatDoor
