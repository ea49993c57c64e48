/- M110 M111 M112 M113 M120 M121 M122 -/
import Derived.WalkKit
import Derived.WalkSpells
import Derived.Lib.Bytealg
import Derived.Test.YtbfjmccpcbhljaaGreatDoorTM1
namespace Go.Proofs.YtbfjmccpcbhljaaGreatDoor
open Go Go.RowKit
def sgn (b : UInt8) : Bool:=decide ((0 : Int) ≤ Lib.indexByte [59,44,40,41,46,42,43,45,47,37,61,60,62] b)

def cls (b : UInt8) : Int:=if b.toNat = 32 ∨ b.toNat = 9 then 2 else if b.toNat = 10 then 3 else if 48 ≤ b.toNat ∧ b.toNat ≤ 57 then 4 else if 97 ≤ b.toNat ∧ b.toNat ≤ 122 then 5 else if 65 ≤ b.toNat ∧ b.toNat ≤ 90 then 6 else if b.toNat = 95 then 7 else if b.toNat = 58 then 8 else if b.toNat = 39 then 9 else if sgn b = true then 10 else 0

def clsAt (s : ByteArray) (k : Nat) : Int:=if h : k < s.size then cls s[k] else 1

theorem clsAt_in {s : ByteArray} {k : Nat} (h : k < s.size) : clsAt s k = cls s[k]:=dif_pos h

theorem clsAt_out {s : ByteArray} {k : Nat} (h : ¬ k < s.size) : clsAt s k = 1:=dif_neg h

theorem cls_all (P : UInt8 → Prop) [DecidablePred P] (h : ∀ n : Fin 256,P (UInt8.ofNat n.val)) (b : UInt8) : P b:=by
 have:=h ⟨b.toNat,UInt8.toNat_lt b⟩
 simpa using this

theorem cls_one (b : UInt8) : cls b ≠ 1:=cls_all (fun b => cls b ≠ 1) (by decide +kernel) b

theorem cls_mark (b : UInt8) : cls b = 9 ↔ b = 39:=cls_all (fun b => cls b = 9 ↔ b = 39) (by decide +kernel) b

theorem cls_line (b : UInt8) : cls b = 3 ↔ b = 10:=cls_all (fun b => cls b = 3 ↔ b = 10) (by decide +kernel) b

def runB (b : UInt8) : Prop:=cls b = 4 ∨ cls b = 5 ∨ cls b = 6 ∨ cls b = 7

instance (b : UInt8) : Decidable (runB b):=inferInstanceAs (Decidable (_ ∨ _))

def skp : Bool → List UInt8 → Nat
 | _,[] => 0
 | true,c :: l => if c = 10 then 1 + skp false l else 1 + skp true l
 | false,c :: l => if cls c = 2 ∨ cls c = 3 then 1 + skp false l else if c = 45 ∧ l.head? = some 45 then 1 + skp true l else 0

def runN : List UInt8 → Nat
 | [] => 0
 | c :: l => if runB c then 1 + runN l else 0

def txtN : Bool → List UInt8 → Nat
 | _,[] => 0
 | false,c :: l => 1 + txtN (decide (c = 39)) l
 | true,c :: l => if c = 39 then 1 + txtN false l else 0

def twoS (c d : UInt8) : Prop:=(c = 60 ∧ d = 62) ∨ (c = 60 ∧ d = 61) ∨ (c = 62 ∧ d = 61)

instance (c d : UInt8) : Decidable (twoS c d):=inferInstanceAs (Decidable (_ ∨ _))

def sgnN : List UInt8 → Nat
 | c :: d :: _ => if twoS c d then 2 else 1
 | _ => 1

def pieceN : List UInt8 → Nat
 | [] => 0
 | c :: l => if runB c ∨ cls c = 8 then 1 + runN l else if cls c = 9 then 1 + txtN false l else if cls c = 10 then sgnN (c :: l) else 1

theorem skp_le : ∀ (l : List UInt8) (b : Bool),skp b l ≤ l.length
 | [],b => by cases b <;> simp [skp]
 | c :: l,true => by
  have h1:=skp_le l true
  have h2:=skp_le l false
  simp only [skp,List.length_cons]
  split <;> omega
 | c :: l,false => by
  have h1:=skp_le l true
  have h2:=skp_le l false
  simp only [skp,List.length_cons]
  split
  ·omega
  ·split <;> omega

theorem runN_le : ∀ l : List UInt8,runN l ≤ l.length
 | [] => Nat.le_refl _
 | c :: l => by
  have:=runN_le l
  simp only [runN,List.length_cons]
  split <;> omega

theorem txtN_le : ∀ (l : List UInt8) (b : Bool),txtN b l ≤ l.length
 | [],b => by cases b <;> simp [txtN]
 | c :: l,true => by
  have:=txtN_le l false
  simp only [txtN,List.length_cons]
  split <;> omega
 | c :: l,false => by
  have:=txtN_le l (decide (c = 39))
  simp only [txtN,List.length_cons]
  omega

theorem pieceN_le : ∀ l : List UInt8,pieceN l ≤ l.length
 | [] => Nat.le_refl _
 | c :: l => by
  have h1:=runN_le l
  have h2:=txtN_le l false
  simp only [pieceN,List.length_cons]
  split
  ·omega
  ·split
   ·omega
   ·split
    ·cases l with
     | nil => simp [sgnN]
     | cons d l =>
      simp only [sgnN,List.length_cons]
      split <;> omega
    ·omega

theorem pieceN_pos (c : UInt8) (l : List UInt8) : 0 < pieceN (c :: l):=by
 simp only [pieceN]
 split
 ·omega
 ·split
  ·omega
  ·split
   ·cases l with
    | nil => simp [sgnN]
    | cons d l =>
     simp only [sgnN]
     split <;> omega
   ·omega

def bl (s : ByteArray) (e : Nat) : List UInt8:=s.data.toList.drop e

theorem bl_in {s : ByteArray} {e : Nat} (h : e < s.size) : bl s e = s[e] :: bl s (e + 1):=by
 have h' : e < s.data.toList.length:=by simpa using h
 rw [bl,List.drop_eq_getElem_cons h']
 rfl

theorem bl_out {s : ByteArray} {e : Nat} (h : ¬ e < s.size) : bl s e = []:=by
 rw [bl,List.drop_eq_nil_iff]
 have : s.data.toList.length = s.size:=by simp
 omega

theorem bl_len (s : ByteArray) (e : Nat) : (bl s e).length = s.size - e:=by simp [bl]

theorem bl_drop (s : ByteArray) (e n : Nat) : (bl s e).drop n = bl s (e + n):=by simp [bl,List.drop_drop]

def cutR (s : ByteArray) (b : Bool) (e : Nat) : Nat × Nat:=(e + skp b (bl s e),e + skp b (bl s e) + pieceN (bl s (e + skp b (bl s e))))

theorem cutR_blank {s : ByteArray} {e : Nat} (h : e < s.size) (g : cls s[e] = 2 ∨ cls s[e] = 3) : cutR s false e = cutR s false (e + 1):=by
 have : skp false (bl s e) = 1 + skp false (bl s (e + 1)):=by rw [bl_in h]; simp only [skp]; rw [if_pos g]
 unfold cutR
 rw [this,show e + (1 + skp false (bl s (e + 1))) = e + 1 + skp false (bl s (e + 1)) from by omega]

theorem cutR_here {s : ByteArray} {e : Nat} (h : skp false (bl s e) = 0) : cutR s false e = (e,e + pieceN (bl s e)):=by
 unfold cutR
 rw [h]
 rfl

def nmB (c : Int) : Bool:=decide (c = 5) || decide (c = 4) || decide (c = 7)

def isName (s : ByteArray) : Bool:=decide (clsAt s 0 = 5) && decide (s.size ≤ 16) && (List.range s.size).all fun k => nmB (clsAt s k)

theorem isName_head {s : ByteArray} (h : clsAt s 0 ≠ 5) : isName s = false:=by simp [isName,h]

theorem isName_long {s : ByteArray} (h : ¬ s.size ≤ 16) : isName s = false:=by simp [isName,h]

theorem isName_at {s : ByteArray} {k : Nat} (hk : k < s.size) (h : nmB (clsAt s k) = false) : isName s = false:=by
 have : ((List.range s.size).all fun k => nmB (clsAt s k)) = false:=by
  rw [List.all_eq_false]
  exact ⟨k,by simpa using hk,by simp [h]⟩
 rw [isName,this,Bool.and_false]

theorem isName_yes {s : ByteArray} (h1 : clsAt s 0 = 5) (h2 : s.size ≤ 16) (h : ∀ k,k < s.size → nmB (clsAt s k) = true) : isName s = true:=by
 simp only [isName,h1,h2,decide_true,Bool.true_and,List.all_eq_true,List.mem_range]
 exact h

def wordsL : List (List UInt8):=[[83,69,76,69,67,84],
 [73,78,83,69,82,84],
 [73,78,84,79],
 [86,65,76,85,69,83],
 [85,80,68,65,84,69],
 [83,69,84],
 [68,69,76,69,84,69],
 [70,82,79,77],
 [74,79,73,78],
 [79,78],
 [87,72,69,82,69],
 [71,82,79,85,80],
 [79,82,68,69,82],
 [66,89],
 [68,69,83,67],
 [76,73,77,73,84],
 [65,78,68],
 [79,82],
 [78,79,84],
 [73,83],
 [78,85,76,76],
 [84,82,85,69],
 [70,65,76,83,69],
 [67,79,85,78,84],
 [83,85,77],
 [77,73,78],
 [77,65,88]]

def isWord (s : ByteArray) : Bool:=wordsL.any fun x => s.toList == x

theorem isWord_yes {s : ByteArray} (x : List UInt8) (hx : x ∈ wordsL) (h : (s.toList == x) = true) : isWord s = true:=by
 rw [isWord,List.any_eq_true]
 exact ⟨x,hx,h⟩

def runC (c : Int) : Prop:=c = 4 ∨ c = 5 ∨ c = 6 ∨ c = 7

def twoAt (s : ByteArray) (a : Nat) : List UInt8:=(s.extract a (min (a + 2) s.size)).toList

inductive Cut (s : ByteArray) : Nat → Nat → Nat → Nat × Nat → Prop
 | stop {a e : Nat} : clsAt s e = 1 → Cut s 0 a e (e,e)
 | blank {a e : Nat} {r : Nat × Nat} : clsAt s e = 2 ∨ clsAt s e = 3 → Cut s 0 e (e + 1) r → Cut s 0 a e r
 | run {a e : Nat} {r : Nat × Nat} : runC (clsAt s e) ∨ clsAt s e = 8 → Cut s 1 e (e + 1) r → Cut s 0 a e r
 | text {a e : Nat} {r : Nat × Nat} : clsAt s e = 9 → Cut s 2 e (e + 1) r → Cut s 0 a e r
 | sign {a e : Nat} {r : Nat × Nat} : clsAt s e = 10 → Cut s 3 e (e + 1) r → Cut s 0 a e r
 | other {a e : Nat} : clsAt s e = 0 → Cut s 0 a e (e,e + 1)
 | runOn {a e : Nat} {r : Nat × Nat} : runC (clsAt s e) → Cut s 1 a (e + 1) r → Cut s 1 a e r
 | runEnd {a e : Nat} : ¬ runC (clsAt s e) → Cut s 1 a e (a,e)
 | textNone {a e : Nat} : clsAt s e = 1 → Cut s 2 a e (a,e)
 | textMark {a e : Nat} {r : Nat × Nat} : clsAt s e = 9 → Cut s 4 a (e + 1) r → Cut s 2 a e r
 | textOn {a e : Nat} {r : Nat × Nat} : clsAt s e ≠ 1 → clsAt s e ≠ 9 → Cut s 2 a (e + 1) r → Cut s 2 a e r
 | markOn {a e : Nat} {r : Nat × Nat} : clsAt s e = 9 → Cut s 2 a (e + 1) r → Cut s 4 a e r
 | markEnd {a e : Nat} : clsAt s e ≠ 9 → Cut s 4 a e (a,e)
 | remark {a e : Nat} {r : Nat × Nat} : twoAt s a = [45,45] → Cut s 5 a e r → Cut s 3 a e r
 | two {a e : Nat} : twoAt s a = [60,62] ∨ twoAt s a = [60,61] ∨ twoAt s a = [62,61] → Cut s 3 a e (a,e + 1)
 | one {a e : Nat} : twoAt s a ≠ [45,45] → twoAt s a ≠ [60,62] → twoAt s a ≠ [60,61] → twoAt s a ≠ [62,61] → Cut s 3 a e (a,e)
 | remEnd {a e : Nat} {r : Nat × Nat} : clsAt s e = 1 ∨ clsAt s e = 3 → Cut s 0 a e r → Cut s 5 a e r
 | remOn {a e : Nat} {r : Nat × Nat} : clsAt s e ≠ 1 → clsAt s e ≠ 3 → Cut s 5 a (e + 1) r → Cut s 5 a e r

theorem clsAt_some {s : ByteArray} {e : Nat} (h : clsAt s e ≠ 1) : ∃ g : e < s.size,clsAt s e = cls s[e]:=by
 by_cases g : e < s.size
 ·exact ⟨g,clsAt_in g⟩
 ·exact absurd (clsAt_out g) h

theorem clsAt_none {s : ByteArray} {e : Nat} (h : clsAt s e = 1) : ¬ e < s.size:=fun g => by rw [clsAt_in g] at h; exact cls_one _ h

theorem twoAt_bl (s : ByteArray) (a : Nat) : twoAt s a = (bl s a).take 2:=by
 rw [twoAt,ByteArray.toList_eq]
 have : (s.extract a (min (a + 2) s.size)).data.toList = (s.data.toList.take (min (a + 2) s.size)).drop a:=by simp [ByteArray.data_extract,List.extract_eq_take_drop,List.drop_take]
 rw [this,bl,List.drop_take,List.take_eq_take_iff]
 simp
 omega

def meanL (s : ByteArray) : Nat → Nat → Nat → Nat × Nat
 | 0,_,e => cutR s false e
 | 1,a,e => (a,e + runN (bl s e))
 | 2,a,e => (a,e + txtN false (bl s e))
 | 3,a,e => if twoAt s a = [45,45] then cutR s true e else if twoAt s a = [60,62] ∨ twoAt s a = [60,61] ∨ twoAt s a = [62,61] then (a,e + 1) else (a,e)
 | 4,a,e => (a,e + txtN true (bl s e))
 | _,_,e => cutR s true e

theorem cutR_next {s : ByteArray} {b b' : Bool} {e : Nat} (h : skp b (bl s e) = 1 + skp b' (bl s (e + 1))) : cutR s b e = cutR s b' (e + 1):=by
 unfold cutR
 rw [h,show e + (1 + skp b' (bl s (e + 1))) = e + 1 + skp b' (bl s (e + 1)) from by omega]

theorem skp_here {c : UInt8} {l : List UInt8} (h1 : cls c ≠ 2) (h2 : cls c ≠ 3) (h3 : c ≠ 45 ∨ l.head? ≠ some 45) : skp false (c :: l) = 0:=by
  simp only [skp]
  rw [if_neg (by rintro (g | g); · exact h1 g
                 · exact h2 g), if_neg (by rintro ⟨g1, g2⟩; rcases h3 with h | h; · exact h g1
                                           · exact h g2)]

theorem cls_minus : cls 45 = 10:=by decide

theorem Cut.mean {s : ByteArray} {l a e : Nat} {r : Nat × Nat} (h : Cut s l a e r) : r = meanL s l a e:=by
 induction h with
 | @stop a e h => exact (cutR_here (by rw [bl_out (clsAt_none h)]; rfl)).trans (by rw [bl_out (clsAt_none h)]; rfl) |>.symm
 | @blank a e r h _ ih =>
  obtain ⟨g,hg⟩:=clsAt_some (s:=s) (e:=e) (by omega)
  rw [hg] at h
  rw [ih]
  exact (cutR_blank g h).symm
 | @run a e r h _ ih =>
  obtain ⟨g,hg⟩:=clsAt_some (s:=s) (e:=e) (by unfold runC at h; omega)
  rw [hg] at h
  rw [ih]
  have hr : runB s[e] ∨ cls s[e] = 8:=h
  have h0 : skp false (bl s e) = 0:=by
   rw [bl_in g]
   refine skp_here ?_ ?_ (Or.inl fun q => ?_)
   ·unfold runB at hr; omega
   ·unfold runB at hr; omega
   ·unfold runB at hr; rw [q] at hr; exact absurd hr (by decide)
  refine Eq.trans ?_ (cutR_here h0).symm
  rw [bl_in g]
  simp only [pieceN,meanL]
  rw [if_pos hr]
  simp
  omega
 | @text a e r h _ ih =>
  obtain ⟨g,hg⟩:=clsAt_some (s:=s) (e:=e) (by omega)
  rw [hg] at h
  rw [ih]
  have h0 : skp false (bl s e) = 0:=by
   rw [bl_in g]
   refine skp_here (by omega) (by omega) (Or.inl fun q => ?_)
   rw [q,cls_minus] at h; omega
  refine Eq.trans ?_ (cutR_here h0).symm
  rw [bl_in g]
  simp only [pieceN,meanL]
  rw [if_neg (by unfold runB; omega),if_pos h]
  simp
  omega
 | @sign a e r h _ ih =>
  obtain ⟨g,hg⟩:=clsAt_some (s:=s) (e:=e) (by omega)
  rw [hg] at h
  rw [ih]
  have htw:=twoAt_bl s e
  rw [bl_in g] at htw
  simp only [meanL]
  by_cases h45 : twoAt s e = [45,45]
  ·rw [if_pos h45]
   refine (cutR_next ?_).symm
   rw [htw] at h45
   rw [bl_in g]
   cases hb : bl s (e + 1) with
   | nil => rw [hb] at h45; simp at h45
   | cons d l =>
    rw [hb] at h45
    simp at h45
    simp only [skp]
    rw [if_neg (by omega),if_pos ⟨h45.1,by simp [h45.2]⟩]
  ·rw [if_neg h45]
   have h0 : skp false (bl s e) = 0:=by
    rw [bl_in g]
    refine skp_here (by omega) (by omega) ?_
    by_cases q : s[e] = 45
    ·refine Or.inr fun q2 => h45 ?_
     rw [htw]
     cases hb : bl s (e + 1) with
     | nil => rw [hb] at q2; simp at q2
     | cons d l =>
      rw [hb] at q2
      simp at q2
      simp [q,q2]
    ·exact Or.inl q
   refine Eq.trans ?_ (cutR_here h0).symm
   rw [bl_in g]
   simp only [pieceN]
   rw [if_neg (c:=runB s[e] ∨ cls s[e] = 8) (by unfold runB; omega),if_neg (c:=cls s[e] = 9) (by omega),if_pos h]
   rw [htw]
   cases hb : bl s (e + 1) with
   | nil => simp [sgnN]
   | cons d l =>
    simp only [sgnN,twoS,List.take_succ_cons,List.take_zero,List.cons.injEq,and_true]
    split <;> rename_i q <;> simp [q]
 | @other a e h =>
  obtain ⟨g,hg⟩:=clsAt_some (s:=s) (e:=e) (by omega)
  rw [hg] at h
  have h0 : skp false (bl s e) = 0:=by
   rw [bl_in g]
   refine skp_here (by omega) (by omega) (Or.inl fun q => ?_)
   rw [q,cls_minus] at h; omega
  refine Eq.trans ?_ (cutR_here h0).symm
  rw [bl_in g]
  simp only [pieceN]
  rw [if_neg (by unfold runB; omega),if_neg (by omega),if_neg (by omega)]
 | @runOn a e r h _ ih =>
  obtain ⟨g,hg⟩:=clsAt_some (s:=s) (e:=e) (by unfold runC at h; omega)
  rw [hg] at h
  rw [ih]
  simp only [meanL]
  rw [bl_in g]
  simp only [runN]
  rw [if_pos (show runB s[e] from h)]
  simp
  omega
 | @runEnd a e h =>
  simp only [meanL]
  by_cases g : e < s.size
  ·rw [clsAt_in g] at h
   rw [bl_in g]
   simp only [runN]
   rw [if_neg (show ¬ runB s[e] from h)]
   rfl
  ·rw [bl_out g]; rfl
 | @textNone a e h =>
  simp only [meanL]
  rw [bl_out (clsAt_none h)]; rfl
 | @textMark a e r h _ ih =>
  obtain ⟨g,hg⟩:=clsAt_some (s:=s) (e:=e) (by omega)
  rw [hg] at h
  rw [ih]
  simp only [meanL]
  rw [bl_in g]
  simp only [txtN]
  rw [decide_eq_true ((cls_mark _).1 h)]
  simp
  omega
 | @textOn a e r h1 h2 _ ih =>
  obtain ⟨g,hg⟩:=clsAt_some (s:=s) (e:=e) h1
  rw [hg] at h2
  rw [ih]
  simp only [meanL]
  rw [bl_in g]
  simp only [txtN]
  rw [decide_eq_false fun q => h2 ((cls_mark _).2 q)]
  simp
  omega
 | @markOn a e r h _ ih =>
  obtain ⟨g,hg⟩:=clsAt_some (s:=s) (e:=e) (by omega)
  rw [hg] at h
  rw [ih]
  simp only [meanL]
  rw [bl_in g]
  simp only [txtN]
  rw [if_pos ((cls_mark _).1 h)]
  simp
  omega
 | @markEnd a e h =>
  simp only [meanL]
  by_cases g : e < s.size
  ·rw [clsAt_in g] at h
   rw [bl_in g]
   simp only [txtN]
   rw [if_neg fun q => h ((cls_mark _).2 q)]
   rfl
  ·rw [bl_out g]; rfl
 | @remark a e r h _ ih =>
  rw [ih]
  simp only [meanL]
  rw [if_pos h]
 | @two a e h =>
  simp only [meanL]
  rw [if_neg,if_pos h]
  intro q
  rw [q] at h
  exact absurd h (by decide)
 | @one a e h1 h2 h3 h4 =>
  simp only [meanL]
  rw [if_neg h1,if_neg (by simp [h2,h3,h4])]
 | @remEnd a e r h _ ih =>
  rw [ih]
  simp only [meanL]
  unfold cutR
  have : skp false (bl s e) = skp true (bl s e):=by
   by_cases g : e < s.size
   ·rw [clsAt_in g] at h
    have h3 : cls s[e] = 3:=by have:=cls_one s[e]; omega
    rw [bl_in g]
    simp only [skp]
    rw [if_pos (Or.inr h3),if_pos ((cls_line _).1 h3)]
   ·rw [bl_out g]; rfl
  rw [this]
 | @remOn a e r h1 h2 _ ih =>
  obtain ⟨g,hg⟩:=clsAt_some (s:=s) (e:=e) h1
  rw [hg] at h2
  rw [ih]
  refine (cutR_next ?_).symm
  rw [bl_in g]
  simp only [skp]
  rw [if_neg fun q => h2 ((cls_line _).2 q)]

abbrev Tk:=Int × Int × ByteArray

def tk0 : Tk:=(0,0,⟨#[]⟩)

def ofL (l : List UInt8) : ByteArray:=⟨l.toArray⟩

theorem ofL_list (s : ByteArray) : ofL s.data.toList = s:=by
 cases s
 simp [ofL]

theorem list_ofL (l : List UInt8) : (ofL l).data.toList = l:=by simp [ofL]

noncomputable def tokR : List UInt8 → Tk × Int
 | [] => ((1,0,⟨#[]⟩),0)
 | c :: l =>
  if cls c = 4 then (if (parR (c :: l)).2 = 0 then ((2,(parR (c :: l)).1.2.1,⟨#[]⟩),0) else (tk0,101))
  else if cls c = 5 ∨ cls c = 6 ∨ cls c = 7 then (if isWord (ofL (c :: l)) = true then ((4,0,ofL (c :: l)),0) else if isName (ofL (c :: l)) = true then ((3,0,ofL (c :: l)),0) else (tk0,102))
  else if cls c = 8 then (if isName (ofL l) = true then ((6,0,ofL l),0) else (tk0,102))
  else if cls c = 9 then (if (parR (c :: l)).2 = 0 then ((5,0,(parR (c :: l)).1.2.2),0) else (tk0,103))
  else if cls c = 10 then ((7,0,ofL (c :: l)),0) else (tk0,100)

theorem tokR_kind (c : UInt8) (l : List UInt8) (h : (tokR (c :: l)).2 = 0) : 2 ≤ (tokR (c :: l)).1.1 ∧ (tokR (c :: l)).1.1 ≤ 7:=by
 simp only [tokR] at h ⊢
 repeat' split at h
 all_goals first | (exfalso; revert h; simp; done) | skip
 all_goals (repeat (first | rw [if_pos (by assumption)] | rw [if_neg (by assumption)]))
 all_goals simp

def skipL (l : List UInt8) : List UInt8:=l.drop (skp false l)

def pce (l : List UInt8) : List UInt8:=(skipL l).take (pieceN (skipL l))

def rst (l : List UInt8) : List UInt8:=(skipL l).drop (pieceN (skipL l))

inductive Toks : List UInt8 → Nat → List (Tk × Nat) → Prop
 | fin {l : List UInt8} {a : Nat} : skipL l = [] → Toks l a [((1,0,⟨#[]⟩),a + skp false l)]
 | more {l : List UInt8} {a : Nat} {t : Tk} {ts : List (Tk × Nat)} : skipL l ≠ [] → tokR (pce l) = (t,0) → Toks (rst l) (a + skp false l + pieceN (skipL l)) ts → Toks l a ((t,a + skp false l) :: ts)

inductive Bad : List UInt8 → Nat → Nat → Int → Prop
 | here {l : List UInt8} {a : Nat} {t : Tk} {c : Int} : tokR (pce l) = (t,c) → c ≠ 0 → Bad l a (a + skp false l) c
 | more {l : List UInt8} {a p : Nat} {t : Tk} {c : Int} : skipL l ≠ [] → tokR (pce l) = (t,0) → Bad (rst l) (a + skp false l + pieceN (skipL l)) p c → Bad l a p c

theorem pce_nil {l : List UInt8} (h : skipL l = []) : pce l = []:=by rw [pce,h]; rfl

theorem pce_cons {l : List UInt8} (h : skipL l ≠ []) : ∃ c q,skipL l = c :: q ∧ pce l = c :: q.take (pieceN (c :: q) - 1):=by
 cases hl : skipL l with
 | nil => exact absurd hl h
 | cons c q =>
  refine ⟨c,q,rfl,?_⟩
  have:=pieceN_pos c q
  rw [pce,hl]
  obtain ⟨n,hn⟩ : ∃ n,pieceN (c :: q) = n + 1:=⟨pieceN (c :: q) - 1,by omega⟩
  rw [hn]
  rfl

theorem Bad.ne {l : List UInt8} {a p : Nat} {c : Int} (h : Bad l a p c) : c ≠ 0:=by
 induction h with
 | here _ h => exact h
 | more _ _ _ ih => exact ih

theorem Toks.one {l : List UInt8} {a : Nat} {ts us : List (Tk × Nat)} (h : Toks l a ts) (g : Toks l a us) : ts = us:=by
 induction h generalizing us with
 | fin h =>
  cases g with
  | fin => rfl
  | more g => exact absurd h g
 | more h1 h2 _ ih =>
  cases g with
  | fin g => exact absurd g h1
  | more g1 g2 g3 =>
   rw [h2] at g2
   rw [ih g3,(Prod.mk.inj g2).1]

theorem Toks.good {l : List UInt8} {a p : Nat} {c : Int} {ts : List (Tk × Nat)} (h : Toks l a ts) (g : Bad l a p c) : False:=by
 induction h with
 | fin h =>
  cases g with
  | here g1 g2 => rw [pce_nil h] at g1; exact g2 (by have:=(Prod.mk.inj g1).2; exact this.symm)
  | more g1 => exact g1 h
 | more h1 h2 _ ih =>
  cases g with
  | here g1 g2 => rw [h2] at g1; exact g2 (Prod.mk.inj g1).2.symm
  | more _ _ g3 => exact ih g3

theorem Bad.one {l : List UInt8} {a p q : Nat} {c d : Int} (h : Bad l a p c) (g : Bad l a q d) : p = q ∧ c = d:=by
 induction h with
 | here h1 h2 =>
  cases g with
  | here g1 g2 => rw [h1] at g1; exact ⟨rfl,(Prod.mk.inj g1).2⟩
  | more g1 g2 g3 => rw [h1] at g2; exact absurd (Prod.mk.inj g2).2 h2
 | more h1 h2 _ ih =>
  cases g with
  | here g1 g2 => rw [h2] at g1; exact absurd (Prod.mk.inj g1).2.symm g2
  | more g1 g2 g3 => exact ih g3

def ScanIs (s : ByteArray) (l : List (Tk × Nat)) (p : Nat) (c : Int) : Prop :=
 (1000 < s.size ∧ l = [] ∧ p = 0 ∧ c = 2) ∨ (s.size ≤ 1000 ∧ ((c = 0 ∧ p = 0 ∧ Toks s.data.toList 0 l) ∨ (l = [] ∧ Bad s.data.toList 0 p c)))

theorem ScanIs.one {s : ByteArray} {l m : List (Tk × Nat)} {p q : Nat} {c d : Int} (h : ScanIs s l p c) (g : ScanIs s m q d) : l = m ∧ p = q ∧ c = d:=by
 rcases h with ⟨h0,rfl,rfl,rfl⟩ | ⟨h0,⟨rfl,rfl,h⟩ | ⟨rfl,h⟩⟩ <;> rcases g with ⟨g0,rfl,rfl,rfl⟩ | ⟨g0,⟨rfl,rfl,g⟩ | ⟨rfl,g⟩⟩
 ·exact ⟨rfl,rfl,rfl⟩
 ·omega
 ·omega
 ·omega
 ·exact ⟨h.one g,rfl,rfl⟩
 ·exact (h.good g).elim
 ·omega
 ·exact (g.good h).elim
 ·exact ⟨rfl,h.one g⟩

theorem cut_skip (s : ByteArray) (e : Nat) : cutR s false e = (e + skp false (bl s e),e + skp false (bl s e) + pieceN (skipL (bl s e))):=by
 unfold cutR skipL
 rw [bl_drop]

theorem extract_bl (s : ByteArray) (a n : Nat) : (s.extract a (a + n)).data.toList = (bl s a).take n:=by
 rw [ByteArray.data_extract]
 simp [bl,List.extract_eq_take_drop]

theorem piece_at (s : ByteArray) (e : Nat) : (s.extract (cutR s false e).1 (cutR s false e).2).data.toList = pce (bl s e):=by
 rw [cut_skip]
 simp only
 rw [extract_bl,pce]
 congr 1
 rw [skipL,bl_drop]

theorem rest_at (s : ByteArray) (e : Nat) : rst (bl s e) = bl s (cutR s false e).2:=by
 rw [cut_skip,rst,skipL,bl_drop,bl_drop]

def tc : List (Tk × Nat) → List Value
 | [] => []
 | t :: l => Vi t.1.1 :: Vi t.1.2.1 :: .string t.1.2.2 :: Vi (t.2 : Int) :: tc l

theorem tc_append : ∀ l m : List (Tk × Nat),tc (l ++ m) = tc l ++ tc m
 | [],_ => rfl
 | t :: l,m => by simp only [tc,List.cons_append,tc_append l m]

theorem tc_one : ∀ (l : List (Tk × Nat)),∀ u ∈ tc l,u.oneCell' = true
 | [],u,h => by simp [tc] at h
 | t :: l,u,h => by
  simp only [tc,List.mem_cons] at h
  rcases h with rfl | rfl | rfl | rfl | h
  ·rfl
  ·rfl
  ·rfl
  ·rfl
  ·exact tc_one l u h

def nameL (l : List UInt8) : Bool:=(match l with | [] => false | c :: _ => decide (cls c = 5)) && decide (l.length ≤ 16) && l.all fun c => nmB (cls c)

def wordL (l : List UInt8) : Bool:=wordsL.any fun x => l == x

theorem isWord_list (s : ByteArray) : isWord s = wordL s.data.toList:=by
 unfold isWord wordL
 rw [ByteArray.toList_eq]

theorem isName_list (s : ByteArray) : isName s = nameL s.data.toList:=by
 unfold isName nameL
 have h1 : decide (clsAt s 0 = 5) = (match s.data.toList with | [] => false | c :: _ => decide (cls c = 5)):=by
  by_cases h : 0 < s.size
  ·have:=bl_in h
   rw [bl,List.drop_zero] at this
   rw [this,clsAt_in h]
  ·have:=bl_out h
   rw [bl,List.drop_zero] at this
   rw [this,clsAt_out h]
   rfl
 have h2 : ((List.range s.size).all fun k => nmB (clsAt s k)) = s.data.toList.all fun c => nmB (cls c):=by
  have hz : s.data.toList.length = s.size:=by simp
  rw [Bool.eq_iff_iff,List.all_eq_true,List.all_eq_true]
  constructor
  ·intro h c hc
   obtain ⟨i,hi,rfl⟩:=List.getElem_of_mem hc
   have:=h i (by simp; omega)
   rw [clsAt_in (by omega)] at this
   exact this
  ·intro h k hk
   have hk' : k < s.size:=by simpa using hk
   rw [clsAt_in hk']
   exact h _ (List.getElem_mem (by omega : k < s.data.toList.length))
 rw [h1,h2]
 simp

theorem isWord_ofL (l : List UInt8) : isWord (ofL l) = wordL l:=by rw [isWord_list,list_ofL]

theorem isName_ofL (l : List UInt8) : isName (ofL l) = nameL l:=by rw [isName_list,list_ofL]

theorem tokR_digit {c : UInt8} {l : List UInt8} (h : cls c = 4) : tokR (c :: l) = if (parR (c :: l)).2 = 0 then ((2,(parR (c :: l)).1.2.1,⟨#[]⟩),0) else (tk0,101):=by
 simp only [tokR]
 rw [if_pos h]

theorem tokR_run {c : UInt8} {l : List UInt8} (h : cls c = 5 ∨ cls c = 6 ∨ cls c = 7) : tokR (c :: l) = if wordL (c :: l) = true then ((4,0,ofL (c :: l)),0) else if nameL (c :: l) = true then ((3,0,ofL (c :: l)),0) else (tk0,102):=by
 simp only [tokR,isWord_ofL,isName_ofL]
 rw [if_neg (by omega),if_pos h]

theorem tokR_colon {c : UInt8} {l : List UInt8} (h : cls c = 8) : tokR (c :: l) = if nameL l = true then ((6,0,ofL l),0) else (tk0,102):=by
 simp only [tokR,isName_ofL]
 rw [if_neg (by omega),if_neg (by omega),if_pos h]

theorem tokR_mark {c : UInt8} {l : List UInt8} (h : cls c = 9) : tokR (c :: l) = if (parR (c :: l)).2 = 0 then ((5,0,(parR (c :: l)).1.2.2),0) else (tk0,103):=by
 simp only [tokR]
 rw [if_neg (by omega),if_neg (by omega),if_neg (by omega),if_pos h]

theorem tokR_sign {c : UInt8} {l : List UInt8} (h : cls c = 10) : tokR (c :: l) = ((7,0,ofL (c :: l)),0):=by
 simp only [tokR]
 rw [if_neg (by omega),if_neg (by omega),if_neg (by omega),if_neg (by omega),if_pos h]

inductive Ex where
 | mk (kind op : Int) (val : V3) (table name : ByteArray) (kids : List Ex) (place : Int) : Ex

abbrev T:=Tk × Nat

structure PS where
 rest : List T
 code : Int
 place : Int

def PS.hd (s : PS) : T:=s.rest.headD ((1,0,⟨#[]⟩),0)

def PS.next (s : PS) : PS:={ s with rest:=s.rest.tail }

inductive Res (α : Type) where
 | ok (a : α) (s : PS) : Res α
 | bad (p : Nat) : Res α

def PS.sees (s : PS) (x : List UInt8) : Bool:=(decide (s.hd.1.1 = 4) || decide (s.hd.1.1 = 7)) && (s.hd.1.2.2.data.toList == x)

def PS.cnt (s : PS) (n most : Nat) : PS:=if n = most ∧ s.code = 0 then { s with code:=112,place:=s.hd.2 } else s

def v0 : V3:=(0,0,⟨#[]⟩)

def over (kind op : Int) (place : Nat) (kids : List Ex) : Ex:=.mk kind op v0 ⟨#[]⟩ ⟨#[]⟩ kids place

def opOf (s : PS) : List (List UInt8 × Int) → Int
 | [] => 0
 | x :: l => if s.sees x.1 = true then x.2 else opOf s l

def cmpO : List (List UInt8 × Int):=[([61],1),([60,62],2),([60],3),([60,61],4),([62],5),([62,61],6)]

def sumO : List (List UInt8 × Int):=[([43],1),([45],2)]

def prodO : List (List UInt8 × Int):=[([42],3),([47],4),([37],5)]

def wOr : List UInt8:=[79,82]

def wAnd : List UInt8:=[65,78,68]

def wNot : List UInt8:=[78,79,84]

def wIs : List UInt8:=[73,83]

def wNull : List UInt8:=[78,85,76,76]

def wFalse : List UInt8:=[70,65,76,83,69]

def wTrue : List UInt8:=[84,82,85,69]

def nameR (s : PS) : Res ByteArray:=if s.hd.1.1 = 3 then .ok s.hd.1.2.2 s.next else .bad s.hd.2

def colR (s : PS) : Res Ex :=
 match nameR s with
 | .bad p => .bad p
 | .ok a s1 =>
  if s1.sees [46] = true then
   match nameR s1.next with
   | .bad p => .bad p
   | .ok b s2 => .ok (.mk 3 0 v0 a b [] s.hd.2) s2
  else .ok (.mk 3 0 v0 ⟨#[]⟩ a [] s.hd.2) s1

def litR (s : PS) : Res V3 :=
 if s.sees wNull = true then .ok v0 s.next
 else if s.sees wFalse = true then .ok (2,0,⟨#[]⟩) s.next
 else if s.sees wTrue = true then .ok (2,1,⟨#[]⟩) s.next
 else if s.hd.1.1 = 5 then .ok (3,0,s.hd.1.2.2) s.next
 else if s.hd.1.1 = 2 then .ok (1,s.hd.1.2.1,⟨#[]⟩) s.next
 else .bad s.hd.2

inductive Gl where
 | or | and | not | test | sum | prod | fact
 | rowL (b : Bool) (place : Nat) (acc : List Ex)
 | sumL (l : Ex)
 | prodL (l : Ex)

def bindR {α β : Type} (x : Option (Res α)) (f : α → PS → Option (Res β)) : Option (Res β) :=
 match x with
 | none => none
 | some (.bad p) => some (.bad p)
 | some (.ok a s) => f a s

def pX : Nat → Gl → PS → Option (Res Ex)
 | 0,_,_ => none
 | n + 1,.or,s => bindR (pX n .and s) fun e s1 => if s1.sees wOr = true then pX n (.rowL true s1.hd.2 [e]) s1 else some (.ok e s1)
 | n + 1,.and,s => bindR (pX n .not s) fun e s1 => if s1.sees wAnd = true then pX n (.rowL false s1.hd.2 [e]) s1 else some (.ok e s1)
 | n + 1,.rowL b a acc,s =>
  if s.sees (if b then wOr else wAnd) = true then bindR (pX n (if b then .and else .not) (s.next.cnt acc.length 8)) fun e s1 => pX n (.rowL b a (acc ++ [e])) s1
  else some (.ok (over (if b then 10 else 9) 0 a acc) s)
 | n + 1,.not,s => if s.sees wNot = true then bindR (pX n .not s.next) fun e s1 => some (.ok (over 8 0 s.hd.2 [e]) s1) else pX n .test s
 | n + 1,.test,s => bindR (pX n .sum s) fun l s1 =>
  if s1.sees wIs = true then
   let s2:=s1.next
   let op : Int:=if s2.sees wNot = true then 1 else 0
   let s3:=if s2.sees wNot = true then s2.next else s2
   if s3.sees wNull = true then some (.ok (over 7 op s1.hd.2 [l]) s3.next) else some (.bad s3.hd.2)
  else if opOf s1 cmpO = 0 then some (.ok l s1)
  else bindR (pX n .sum s1.next) fun r s2 => some (.ok (over 6 (opOf s1 cmpO) s1.hd.2 [l,r]) s2)
 | n + 1,.sum,s => bindR (pX n .prod s) fun l s1 => pX n (.sumL l) s1
 | n + 1,.sumL l,s => if opOf s sumO = 0 then some (.ok l s) else bindR (pX n .prod s.next) fun r s1 => pX n (.sumL (over 5 (opOf s sumO) s.hd.2 [l,r])) s1
 | n + 1,.prod,s => bindR (pX n .fact s) fun l s1 => pX n (.prodL l) s1
 | n + 1,.prodL l,s => if opOf s prodO = 0 then some (.ok l s) else bindR (pX n .fact s.next) fun r s1 => pX n (.prodL (over 5 (opOf s prodO) s.hd.2 [l,r])) s1
 | n + 1,.fact,s =>
  if s.sees [45] = true then bindR (pX n .fact s.next) fun e s1 => some (.ok (over 4 0 s.hd.2 [e]) s1)
  else if s.sees [40] = true then bindR (pX n .or s.next) fun e s1 => if s1.sees [41] = true then some (.ok e s1.next) else some (.bad s1.hd.2)
  else if s.hd.1.1 = 3 then some (colR s)
  else if s.hd.1.1 = 6 then some (.ok (.mk 2 0 v0 ⟨#[]⟩ s.hd.1.2.2 [] s.hd.2) s.next)
  else match litR s with
   | .bad p => some (.bad p)
   | .ok v s1 => some (.ok (.mk 1 0 v ⟨#[]⟩ ⟨#[]⟩ [] s.hd.2) s1)

theorem bindR_some {α β : Type} {x : Option (Res α)} {f : α → PS → Option (Res β)} {r : Res β} (h : bindR x f = some r) : (∃ p,x = some (.bad p) ∧ r = .bad p) ∨ ∃ a s,x = some (.ok a s) ∧ f a s = some r:=by
 cases x with
 | none => simp [bindR] at h
 | some y =>
  cases y with
  | bad p => simp [bindR] at h; exact Or.inl ⟨p,rfl,h.symm⟩
  | ok a s => exact Or.inr ⟨a,s,rfl,h⟩

theorem bindR_bad {α β : Type} {x : Option (Res α)} {f : α → PS → Option (Res β)} {p : Nat} (h : x = some (.bad p)) : bindR x f = some (.bad p):=by rw [h]; rfl

theorem bindR_ok {α β : Type} {x : Option (Res α)} {f : α → PS → Option (Res β)} {a : α} {s : PS} (h : x = some (.ok a s)) : bindR x f = f a s:=by rw [h]; rfl

theorem bindR_mono {α β : Type} {x y : Option (Res α)} {f g : α → PS → Option (Res β)} {r : Res β} (hx : ∀ r,x = some r → y = some r) (hf : ∀ a s r,f a s = some r → g a s = some r) (h : bindR x f = some r) : bindR y g = some r:=by
 rcases bindR_some h with ⟨p,e,rfl⟩ | ⟨a,s,e,h⟩
 ·exact bindR_bad (hx _ e)
 ·rw [bindR_ok (hx _ e)]
  exact hf _ _ _ h

theorem pX_succ : ∀ (n : Nat) (g : Gl) (s : PS) (r : Res Ex),pX n g s = some r → pX (n + 1) g s = some r:=by
 intro n
 induction n with
 | zero => intro g s r h; simp [pX] at h
 | succ n ih =>
  intro g s r h
  cases g with
  | or =>
   rw [pX] at h ⊢
   refine bindR_mono (ih _ _) (fun e s1 r h => ?_) h
   by_cases hs : s1.sees wOr = true
   ·rw [if_pos hs] at h ⊢
    exact ih _ _ _ h
   ·rw [if_neg hs] at h ⊢
    exact h
  | and =>
   rw [pX] at h ⊢
   refine bindR_mono (ih _ _) (fun e s1 r h => ?_) h
   by_cases hs : s1.sees wAnd = true
   ·rw [if_pos hs] at h ⊢
    exact ih _ _ _ h
   ·rw [if_neg hs] at h ⊢
    exact h
  | rowL b a acc =>
   rw [pX] at h ⊢
   by_cases hs : s.sees (if b = true then wOr else wAnd) = true
   ·rw [if_pos hs] at h ⊢
    exact bindR_mono (ih _ _) (fun e s1 r h => ih _ _ _ h) h
   ·rw [if_neg hs] at h ⊢
    exact h
  | not =>
   rw [pX] at h ⊢
   split at h
   ·rename_i hs
    rw [if_pos hs]
    exact bindR_mono (ih _ _) (fun e s1 r h => h) h
   ·rename_i hs
    rw [if_neg hs]
    exact ih _ _ _ h
  | test =>
   rw [pX] at h ⊢
   refine bindR_mono (ih _ _) (fun e s1 r h => ?_) h
   split at h
   ·rename_i hs
    rw [if_pos hs]
    exact h
   ·rename_i hs
    rw [if_neg hs]
    split at h
    ·rename_i ho
     rw [if_pos ho]
     exact h
    ·rename_i ho
     rw [if_neg ho]
     exact bindR_mono (ih _ _) (fun e s1 r h => h) h
  | sum =>
   rw [pX] at h ⊢
   exact bindR_mono (ih _ _) (fun e s1 r h => ih _ _ _ h) h
  | prod =>
   rw [pX] at h ⊢
   exact bindR_mono (ih _ _) (fun e s1 r h => ih _ _ _ h) h
  | sumL l =>
   rw [pX] at h ⊢
   split at h
   ·rename_i ho
    rw [if_pos ho]
    exact h
   ·rename_i ho
    rw [if_neg ho]
    exact bindR_mono (ih _ _) (fun e s1 r h => ih _ _ _ h) h
  | prodL l =>
   rw [pX] at h ⊢
   split at h
   ·rename_i ho
    rw [if_pos ho]
    exact h
   ·rename_i ho
    rw [if_neg ho]
    exact bindR_mono (ih _ _) (fun e s1 r h => ih _ _ _ h) h
  | fact =>
   rw [pX] at h ⊢
   split at h
   ·rename_i hs
    rw [if_pos hs]
    exact bindR_mono (ih _ _) (fun e s1 r h => h) h
   ·rename_i hs
    rw [if_neg hs]
    split at h
    ·rename_i hs2
     rw [if_pos hs2]
     exact bindR_mono (ih _ _) (fun e s1 r h => h) h
    ·rename_i hs2
     rw [if_neg hs2]
     exact h

theorem pX_le {n m : Nat} (hm : n ≤ m) {g : Gl} {s : PS} {r : Res Ex} (h : pX n g s = some r) : pX m g s = some r:=by
 induction hm with
 | refl => exact h
 | step _ ih => exact pX_succ _ _ _ _ ih

def Pr (g : Gl) (s : PS) (r : Res Ex) : Prop:=∃ n,pX n g s = some r

theorem Pr.one {g : Gl} {s : PS} {r r' : Res Ex} (h : Pr g s r) (k : Pr g s r') : r = r':=by
 obtain ⟨n,h⟩:=h
 obtain ⟨m,k⟩:=k
 have h1:=pX_le (Nat.le_max_left n m) h
 have h2:=pX_le (Nat.le_max_right n m) k
 rw [h1] at h2
 exact Option.some.inj h2

theorem Pr.bind {g g1 : Gl} {s s0 s1 : PS} {e : Ex} {r : Res Ex} {f : Nat → Ex → PS → Option (Res Ex)} (hg : ∀ n,pX (n + 1) g s = bindR (pX n g1 s0) (f n)) (h1 : Pr g1 s0 (.ok e s1)) (h2 : ∃ n,∀ m,n ≤ m → f m e s1 = some r) : Pr g s r:=by
 obtain ⟨n,h1⟩:=h1
 obtain ⟨m,h2⟩:=h2
 refine ⟨max n m + 1,?_⟩
 rw [hg,bindR_ok (pX_le (Nat.le_max_left n m) h1)]
 exact h2 _ (Nat.le_max_right n m)

theorem Pr.bad {g g1 : Gl} {s s0 : PS} {p : Nat} {f : Nat → Ex → PS → Option (Res Ex)} (hg : ∀ n,pX (n + 1) g s = bindR (pX n g1 s0) (f n)) (h1 : Pr g1 s0 (.bad p)) : Pr g s (.bad p):=by
 obtain ⟨n,h1⟩:=h1
 exact ⟨n + 1,by rw [hg,bindR_bad h1]⟩

abbrev Se:=ByteArray × Ex × Int

abbrev So:=Int × Bool × Int

structure St where
 kind : Int
 table : ByteArray
 join : ByteArray
 on : List Ex
 whr : List Ex
 items : List Ex
 star : Bool
 sets : List Se
 groups : List Ex
 sorts : List So
 limit : List Int
 place : Int
 joinAt : Int

def st0 : St:=⟨0,⟨#[]⟩,⟨#[]⟩,[],[],[],false,[],[],[],[],0,0⟩

abbrev Rd_ (α : Type):=PS → Res α → Prop

def retR {α : Type} (a : α) : Rd_ α:=fun s r => r = .ok a s

def thenR {α β : Type} (f : Rd_ α) (g : α → Rd_ β) : Rd_ β:=fun s r => (∃ p,f s (.bad p) ∧ r = .bad p) ∨ ∃ a s1,f s (.ok a s1) ∧ g a s1 r

def Det {α : Type} (f : Rd_ α) : Prop:=∀ s r r',f s r → f s r' → r = r'

theorem Det.ret {α : Type} (a : α) : Det (retR a):=fun _ _ _ h k => h.trans k.symm

theorem Det.bind {α β : Type} {f : Rd_ α} {g : α → Rd_ β} (hf : Det f) (hg : ∀ a,Det (g a)) : Det (thenR f g):=by
 rintro s r r' (⟨p,h,rfl⟩ | ⟨a,s1,h,hr⟩) (⟨q,k,rfl⟩ | ⟨b,s2,k,kr⟩)
 ·injection hf _ _ _ h k with e
  rw [e]
 ·exact absurd (hf _ _ _ h k) (by simp)
 ·exact absurd (hf _ _ _ h k) (by simp)
 ·injection hf _ _ _ h k with e1 e2
  subst e1 e2
  exact hg a _ _ _ hr kr

theorem thenR_ok {α β : Type} {f : Rd_ α} {g : α → Rd_ β} {s s1 : PS} {a : α} {r : Res β} (h : f s (.ok a s1)) (k : g a s1 r) : thenR f g s r:=Or.inr ⟨a,s1,h,k⟩

theorem thenR_bad {α β : Type} {f : Rd_ α} {g : α → Rd_ β} {s : PS} {p : Nat} (h : f s (.bad p)) : thenR f g s (.bad p):=Or.inl ⟨p,h,rfl⟩

def needsR : List (List UInt8) → PS → Res Unit
 | [],s => .ok () s
 | x :: l,s => if s.sees x = true then needsR l s.next else .bad s.hd.2

def wantR (l : List (List UInt8)) : Rd_ Unit:=fun s r => r = needsR l s

def namR : Rd_ ByteArray:=fun s r => r = nameR s

def numR : Rd_ T:=fun s r => r = if s.hd.1.1 = 2 then .ok s.hd s.next else .bad s.hd.2

def placeR : Rd_ Nat:=fun s r => r = .ok s.hd.2 s

inductive LsR {α : Type} (f : Rd_ α) (most : Nat) : List α → PS → Res (List α) → Prop
 | bad {acc : List α} {s : PS} {p : Nat} (h : f (s.cnt acc.length most) (.bad p)) : LsR f most acc s (.bad p)
 | last {acc : List α} {s s1 : PS} {a : α} (h : f (s.cnt acc.length most) (.ok a s1)) (hs : s1.sees [44] = false) : LsR f most acc s (.ok (acc ++ [a]) s1)
 | more {acc : List α} {s s1 : PS} {a : α} {r : Res (List α)} (h : f (s.cnt acc.length most) (.ok a s1)) (hs : s1.sees [44] = true) (k : LsR f most (acc ++ [a]) s1.next r) : LsR f most acc s r

theorem LsR.one {α : Type} {f : Rd_ α} {most : Nat} (hf : Det f) {acc : List α} {s : PS} {r r' : Res (List α)} (h : LsR f most acc s r) (k : LsR f most acc s r') : r = r':=by
 induction h generalizing r' with
 | bad h =>
  cases k with
  | bad k => injection hf _ _ _ h k with e; rw [e]
  | last k _ => exact absurd (hf _ _ _ h k) (by simp)
  | more k _ _ => exact absurd (hf _ _ _ h k) (by simp)
 | last h hs =>
  cases k with
  | bad k => exact absurd (hf _ _ _ h k) (by simp)
  | last k _ => injection hf _ _ _ h k with e1 e2; rw [e1,e2]
  | more k ks _ =>
   injection hf _ _ _ h k with e1 e2
   subst e2
   rw [hs] at ks
   exact absurd ks (by simp)
 | more h hs _ ih =>
  cases k with
  | bad k => exact absurd (hf _ _ _ h k) (by simp)
  | last k ks =>
   injection hf _ _ _ h k with e1 e2
   subst e2
   rw [hs] at ks
   exact absurd ks (by simp)
  | more k ks kk =>
   injection hf _ _ _ h k with e1 e2
   subst e1 e2
   exact ih kk

def listR {α : Type} (f : Rd_ α) (most : Nat) : Rd_ (List α):=fun s r => LsR f most [] s r

def exprR : Rd_ Ex:=fun s r => Pr .or s r

def colmR : Rd_ Ex:=fun s r => r = colR s

def wCOUNT : List UInt8:=[67,79,85,78,84]

def wSUM : List UInt8:=[83,85,77]

def wMIN : List UInt8:=[77,73,78]

def wMAX : List UInt8:=[77,65,88]

def wINSERT : List UInt8:=[73,78,83,69,82,84]

def wUPDATE : List UInt8:=[85,80,68,65,84,69]

def wDELETE : List UInt8:=[68,69,76,69,84,69]

def wSELECT : List UInt8:=[83,69,76,69,67,84]

def wINTO : List UInt8:=[73,78,84,79]

def wVALUES : List UInt8:=[86,65,76,85,69,83]

def wSET : List UInt8:=[83,69,84]

def wFROM : List UInt8:=[70,82,79,77]

def wWHERE : List UInt8:=[87,72,69,82,69]

def wJOIN : List UInt8:=[74,79,73,78]

def wON : List UInt8:=[79,78]

def wGROUP : List UInt8:=[71,82,79,85,80]

def wBY : List UInt8:=[66,89]

def wORDER : List UInt8:=[79,82,68,69,82]

def wLIMIT : List UInt8:=[76,73,77,73,84]

def wDESC : List UInt8:=[68,69,83,67]

def ifR {α : Type} (x : List UInt8) (f g : Rd_ α) : Rd_ α:=fun s r => if s.sees x = true then f s.next r else g s r

def overR (kind : Int) (place : Nat) : Rd_ Ex:=thenR (wantR [[40]]) fun _ => thenR exprR fun e => thenR (wantR [[41]]) fun _ => retR (over kind 0 place [e])

def itemR : Rd_ Ex:=fun s => ifR wCOUNT (thenR (wantR [[40],[42],[41]]) fun _ => retR (.mk 11 0 v0 ⟨#[]⟩ ⟨#[]⟩ [] s.hd.2)) (ifR wSUM (overR 12 s.hd.2) (ifR wMIN (overR 13 s.hd.2) (ifR wMAX (overR 14 s.hd.2) exprR))) s

def setR : Rd_ Se:=fun s => (thenR namR fun n => thenR (wantR [[61]]) fun _ => thenR exprR fun e => retR (n,e,(s.hd.2 : Int))) s

def sortR : Rd_ So:=thenR numR fun t => ifR wDESC (retR (t.1.2.1,true,(t.2 : Int))) (retR (t.1.2.1,false,(t.2 : Int)))

def whereR : Rd_ (List Ex):=ifR wWHERE (thenR exprR fun e => retR [e]) (retR [])

def insR : Rd_ St:=thenR (wantR [wINTO]) fun _ => thenR namR fun t => thenR (wantR [wVALUES,[40]]) fun _ => thenR (listR exprR 16) fun l => thenR (wantR [[41]]) fun _ => retR { st0 with kind:=1,table:=t,items:=l }

def updR : Rd_ St:=thenR namR fun t => thenR (wantR [wSET]) fun _ => thenR (listR setR 16) fun l => thenR whereR fun e => retR { st0 with kind:=2,table:=t,sets:=l,whr:=e }

def delR : Rd_ St:=thenR (wantR [wFROM]) fun _ => thenR namR fun t => thenR whereR fun e => retR { st0 with kind:=3,table:=t,whr:=e }

def starR : Rd_ (Bool × List Ex):=ifR [42] (retR (true,[])) (thenR (listR itemR 8) fun l => retR (false,l))

def joinR : Rd_ (Int × ByteArray × List Ex):=ifR wJOIN (thenR placeR fun p => thenR namR fun n => thenR (wantR [wON]) fun _ => thenR exprR fun e => retR ((p : Int),n,[e])) (retR (0,⟨#[]⟩,[]))

def groupR : Rd_ (List Ex):=ifR wGROUP (thenR (wantR [wBY]) fun _ => listR colmR 8) (retR [])

def orderR : Rd_ (List So):=ifR wORDER (thenR (wantR [wBY]) fun _ => listR sortR 8) (retR [])

def limitR : Rd_ (List Int):=ifR wLIMIT (thenR numR fun t => retR [t.1.2.1]) (retR [])

def selR : Rd_ St:=thenR starR fun l => thenR (wantR [wFROM]) fun _ => thenR namR fun t => thenR joinR fun j => thenR whereR fun e => thenR groupR fun g => thenR orderR fun o => thenR limitR fun n => retR ⟨4,t,j.2.1,j.2.2,e,l.2,l.1,[],g,o,n,0,j.1⟩

def badR {α : Type} : Rd_ α:=fun s r => r = .bad s.hd.2

def stR : Rd_ St:=fun s => (thenR (ifR wINSERT insR (ifR wUPDATE updR (ifR wDELETE delR (ifR wSELECT selR badR)))) fun t => retR { t with place:=s.hd.2 }) s

theorem Det.want (l : List (List UInt8)) : Det (wantR l):=fun _ _ _ h k => h.trans k.symm

theorem Det.nam : Det namR:=fun _ _ _ h k => h.trans k.symm

theorem Det.num : Det numR:=fun _ _ _ h k => h.trans k.symm

theorem Det.place : Det placeR:=fun _ _ _ h k => h.trans k.symm

theorem Det.colm : Det colmR:=fun _ _ _ h k => h.trans k.symm

theorem Det.bad {α : Type} : Det (badR (α:=α)):=fun _ _ _ h k => h.trans k.symm

theorem Det.expr : Det exprR:=fun _ _ _ h k => Pr.one h k

theorem Det.list {α : Type} {f : Rd_ α} (hf : Det f) (most : Nat) : Det (listR f most):=fun _ _ _ h k => LsR.one hf h k

theorem Det.if {α : Type} {f g : Rd_ α} (hf : Det f) (hg : Det g) (x : List UInt8) : Det (ifR x f g):=by
 intro s r r' h k
 unfold ifR at h k
 split at h
 ·rename_i e
  rw [if_pos e] at k
  exact hf _ _ _ h k
 ·rename_i e
  rw [if_neg e] at k
  exact hg _ _ _ h k

theorem Det.over (kind : Int) (p : Nat) : Det (overR kind p):=(Det.want _).bind fun _ => Det.expr.bind fun _ => (Det.want _).bind fun _ => Det.ret _

theorem Det.item : Det itemR:=fun s _ _ h k => (Det.if ((Det.want _).bind fun _ => Det.ret _) (Det.if (Det.over _ _) (Det.if (Det.over _ _) (Det.if (Det.over _ _) Det.expr _) _) _) _) s _ _ h k

theorem Det.set : Det setR:=fun s _ _ h k => (Det.nam.bind fun _ => (Det.want _).bind fun _ => Det.expr.bind fun _ => Det.ret _) s _ _ h k

theorem Det.sort : Det sortR:=Det.num.bind fun _ => Det.if (Det.ret _) (Det.ret _) _

theorem Det.whr : Det whereR:=Det.if (Det.expr.bind fun _ => Det.ret _) (Det.ret _) _

theorem Det.ins : Det insR:=(Det.want _).bind fun _ => Det.nam.bind fun _ => (Det.want _).bind fun _ => (Det.expr.list _).bind fun _ => (Det.want _).bind fun _ => Det.ret _

theorem Det.upd : Det updR:=Det.nam.bind fun _ => (Det.want _).bind fun _ => (Det.set.list _).bind fun _ => Det.whr.bind fun _ => Det.ret _

theorem Det.del : Det delR:=(Det.want _).bind fun _ => Det.nam.bind fun _ => Det.whr.bind fun _ => Det.ret _

theorem Det.star : Det starR:=Det.if (Det.ret _) ((Det.item.list _).bind fun _ => Det.ret _) _

theorem Det.join : Det joinR:=Det.if (Det.place.bind fun _ => Det.nam.bind fun _ => (Det.want _).bind fun _ => Det.expr.bind fun _ => Det.ret _) (Det.ret _) _

theorem Det.group : Det groupR:=Det.if ((Det.want _).bind fun _ => Det.colm.list _) (Det.ret _) _

theorem Det.order : Det orderR:=Det.if ((Det.want _).bind fun _ => Det.sort.list _) (Det.ret _) _

theorem Det.limit : Det limitR:=Det.if (Det.num.bind fun _ => Det.ret _) (Det.ret _) _

theorem Det.sel : Det selR:=Det.star.bind fun _ => (Det.want _).bind fun _ => Det.nam.bind fun _ => Det.join.bind fun _ => Det.whr.bind fun _ => Det.group.bind fun _ => Det.order.bind fun _ => Det.limit.bind fun _ => Det.ret _

theorem Det.st : Det stR:=fun s _ _ h k => ((Det.if Det.ins (Det.if Det.upd (Det.if Det.del (Det.if Det.sel Det.bad _) _) _) _).bind fun _ => Det.ret _) s _ _ h k

def selL (l : Bool × List Ex) (t : ByteArray) (j : Int × ByteArray × List Ex) (e g : List Ex) (o : List So) : Rd_ St:=thenR limitR fun n => retR ⟨4,t,j.2.1,j.2.2,e,l.2,l.1,[],g,o,n,0,j.1⟩

def selO (l : Bool × List Ex) (t : ByteArray) (j : Int × ByteArray × List Ex) (e g : List Ex) : Rd_ St:=thenR orderR fun o => selL l t j e g o

def selG (l : Bool × List Ex) (t : ByteArray) (j : Int × ByteArray × List Ex) (e : List Ex) : Rd_ St:=thenR groupR fun g => selO l t j e g

def selW (l : Bool × List Ex) (t : ByteArray) (j : Int × ByteArray × List Ex) : Rd_ St:=thenR whereR fun e => selG l t j e

def selJ (l : Bool × List Ex) (t : ByteArray) : Rd_ St:=thenR joinR fun j => selW l t j

def selF (l : Bool × List Ex) : Rd_ St:=thenR (wantR [wFROM]) fun _ => thenR namR fun t => selJ l t

theorem ifR_yes {α : Type} {x : List UInt8} {f g : Rd_ α} {s : PS} {r : Res α} (h : s.sees x = true) (k : f s.next r) : ifR x f g s r:=by unfold ifR; rw [if_pos h]; exact k

theorem ifR_not {α : Type} {x : List UInt8} {f g : Rd_ α} {s : PS} {r : Res α} (h : s.sees x = false) (k : g s r) : ifR x f g s r:=by unfold ifR; rw [if_neg (by rw [h]; simp)]; exact k

theorem then_yes {α β : Type} {x : List UInt8} {f g : Rd_ α} {h : α → Rd_ β} {s : PS} {F : Res β → Prop} (hS : s.sees x = true) (k : ∀ r,thenR (ifR x f g) h s r → F r) : ∀ r,thenR f h s.next r → F r:=fun r t => k r (by
 rcases t with ⟨p,t,e⟩ | ⟨a,s1,t,u⟩
 ·exact Or.inl ⟨p,ifR_yes hS t,e⟩
 ·exact Or.inr ⟨a,s1,ifR_yes hS t,u⟩)

theorem then_not {α β : Type} {x : List UInt8} {f g : Rd_ α} {h : α → Rd_ β} {s : PS} {F : Res β → Prop} (hS : s.sees x = false) (k : ∀ r,thenR (ifR x f g) h s r → F r) : ∀ r,thenR g h s r → F r:=fun r t => k r (by
 rcases t with ⟨p,t,e⟩ | ⟨a,s1,t,u⟩
 ·exact Or.inl ⟨p,ifR_not hS t,e⟩
 ·exact Or.inr ⟨a,s1,ifR_not hS t,u⟩)

theorem then_then {α β γ : Type} {f : Rd_ α} {g : α → Rd_ β} {h : β → Rd_ γ} {s : PS} {F : Res γ → Prop} (k : ∀ r,thenR (thenR f g) h s r → F r) : ∀ r,thenR f (fun a => thenR (g a) h) s r → F r:=fun r t => k r (by
 rcases t with ⟨p,t,e⟩ | ⟨a,s1,t,u⟩
 ·exact Or.inl ⟨p,Or.inl ⟨p,t,rfl⟩,e⟩
 ·rcases u with ⟨p,u,e⟩ | ⟨b,s2,u,v⟩
  ·exact Or.inl ⟨p,Or.inr ⟨a,s1,t,u⟩,e⟩
  ·exact Or.inr ⟨b,s2,Or.inr ⟨a,s1,t,u⟩,v⟩)
end Go.Proofs.YtbfjmccpcbhljaaGreatDoor
