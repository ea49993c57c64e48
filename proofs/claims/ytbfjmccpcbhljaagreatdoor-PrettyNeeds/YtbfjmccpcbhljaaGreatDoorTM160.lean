/- M160 M161 M162 -/
import Derived.Test.YtbfjmccpcbhljaaGreatDoorTM146
namespace Go.Proofs.YtbfjmccpcbhljaaGreatDoor
open Go Go.RowKit
def isB (t : T) : Bool:=(decide (t.1.1 = 4) || decide (t.1.1 = 7)) && (t.1.2.2.data.toList == [40])

def brk (l : List T) : Nat:=l.countP isB

def nB (s : PS) : Nat:=brk s.rest

theorem brk_nil : brk [] = 0:=rfl

theorem brk_cons (t : T) (l : List T) : brk (t :: l) = brk l + (if isB t = true then 1 else 0):=List.countP_cons

theorem brk_app (a b : List T) : brk (a ++ b) = brk a + brk b:=List.countP_append

theorem isB_sg (b : List UInt8) : isB (sgT b) = (b == [40]):=by
 show ((decide ((7 : Int) = 4) || decide ((7 : Int) = 7)) && ((ofL b).data.toList == [40])) = _
 rw [list_ofL]
 simp

theorem isB_wd (b : List UInt8) : isB (wdT b) = (b == [40]):=by
 show ((decide ((4 : Int) = 4) || decide ((4 : Int) = 7)) && ((ofL b).data.toList == [40])) = _
 rw [list_ofL]
 simp

theorem isB_kd {k n : Int} {s : ByteArray} {q : Nat} (h4 : k ≠ 4) (h7 : k ≠ 7) : isB ((k,n,s),q) = false:=by
 show ((decide (k = 4) || decide (k = 7)) && _) = false
 simp [h4,h7]

theorem isB_nm (n : ByteArray) : isB (nmT n) = false:=isB_kd (by decide) (by decide)

theorem isB_nu (n : Int) : isB (nuT n) = false:=isB_kd (by decide) (by decide)

theorem sg_brk {b : List UInt8} (h : b ≠ [40]) (l : List T) : brk (sgT b :: l) = brk l:=by
 rw [brk_cons,isB_sg,if_neg (by simpa using h),Nat.add_zero]

theorem wd_brk {b : List UInt8} (h : b ≠ [40]) (l : List T) : brk (wdT b :: l) = brk l:=by
 rw [brk_cons,isB_wd,if_neg (by simpa using h),Nat.add_zero]

theorem op_brk (l : List T) : brk (sgT [40] :: l) = brk l + 1:=by
 rw [brk_cons,isB_sg,if_pos (by decide)]

theorem nm_brk (n : ByteArray) (l : List T) : brk (nmT n :: l) = brk l:=by
 rw [brk_cons,isB_nm,if_neg (by decide),Nat.add_zero]

theorem nu_brk (n : Int) (l : List T) : brk (nuT n :: l) = brk l:=by
 rw [brk_cons,isB_nu,if_neg (by decide),Nat.add_zero]

theorem nB_next (s : PS) : nB s.next ≤ nB s:=by
 unfold nB PS.next
 cases s.rest with
 | nil => exact Nat.le_refl _
 | cons t l =>
  show brk l ≤ brk (t :: l)
  rw [brk_cons]
  omega

theorem nB_open {s : PS} (h : s.sees [40] = true) : nB s = nB s.next + 1:=by
 unfold PS.sees PS.hd at h
 unfold nB PS.next
 revert h
 cases s.rest with
 | nil => intro h; exact absurd h (by decide)
 | cons t l =>
  intro h
  show brk (t :: l) = brk l + 1
  have h' : isB t = true:=h
  rw [brk_cons,if_pos h']

theorem nB_cnt (s : PS) (n m : Nat) : nB (s.cnt n m) = nB s:=by
 unfold PS.cnt
 split <;> rfl

def cE (n : Nat) (e : Ex) : Nat:=brk (tE n e)

theorem cE_eq (n : Nat) (e : Ex) : cE n e = (if rankX e < n then 1 else 0) + brk (tB e):=by
 unfold cE tE wr
 split
 ·rw [op_brk,brk_app,sg_brk (by decide)]
  simp [brk_nil]
  omega
 ·omega

theorem cE_mono {n m : Nat} (h : n ≤ m) (e : Ex) : cE n e ≤ cE m e:=by
 rw [cE_eq,cE_eq]
 split <;> split <;> omega

theorem cE_up (n m : Nat) (e : Ex) : cE m e ≤ cE n e + 1:=by
 rw [cE_eq,cE_eq]
 split <;> split <;> omega

theorem cE_bare {n : Nat} {e : Ex} (h : n ≤ rankX e) : cE n e = brk (tB e):=by
 rw [cE_eq,if_neg (by omega)]
 omega

def sumE (n : Nat) (l : List Ex) : Nat:=(l.map (cE n)).sum

theorem sumE_app (n : Nat) (l : List Ex) (e : Ex) : sumE n (l ++ [e]) = sumE n l + cE n e:=by simp [sumE]

theorem rowM_brk {w : List UInt8} (hw : w ≠ [40]) (n : Nat) : ∀ l : List Ex,brk (rowM w n l (l.map tB)) = sumE n l
 | [] => rfl
 | e :: l => by
  rw [List.map_cons,rowM,wd_brk hw,brk_app,rowM_brk hw n l]
  rfl

theorem ariS_ne (o : Int) : ariS o ≠ [40]:=by
 unfold ariS
 split <;> (try split) <;> (try split) <;> (try split) <;> decide

theorem cmpS_ne (o : Int) : cmpS o ≠ [40]:=by
 unfold cmpS
 split <;> (try split) <;> (try split) <;> (try split) <;> (try split) <;> decide

theorem over_4 (o : Int) (p : Nat) (e : Ex) : cE 7 (over 4 o p [e]) = cE 7 e:=by
 rw [cE_bare (show 7 ≤ rankX (over 4 o p [e]) from Nat.le_refl 7),over,tB_mk]
 show brk (sgT [45] :: wr 7 e (tB e)) = _
 rw [sg_brk (by decide)]
 rfl

theorem over_5s {o : Int} (h : o ≤ 2) (p : Nat) (l r : Ex) : cE 5 (over 5 o p [l,r]) = cE 5 l + cE 6 r:=by
 have hr : rankX (over 5 o p [l,r]) = 5:=by
  show (if (5 : Int) = 10 then 1 else if (5 : Int) = 9 then 2 else if (5 : Int) = 8 then 3 else if (5 : Int) = 6 ∨ (5 : Int) = 7 then 4 else if (5 : Int) = 5 then (if o ≤ 2 then 5 else 6) else 7) = 5
  simp [h]
 have ht : tB (over 5 o p [l,r]) = wr 5 l (tB l) ++ sgT (ariS o) :: wr 6 r (tB r):=by
  rw [over,tB_mk]
  simp [tF,h]
 rw [cE_bare (by omega),ht,brk_app,sg_brk (ariS_ne o)]
 rfl

theorem over_5p {o : Int} (h : ¬ o ≤ 2) (p : Nat) (l r : Ex) : cE 6 (over 5 o p [l,r]) = cE 6 l + cE 7 r:=by
 have hr : rankX (over 5 o p [l,r]) = 6:=by
  show (if (5 : Int) = 10 then 1 else if (5 : Int) = 9 then 2 else if (5 : Int) = 8 then 3 else if (5 : Int) = 6 ∨ (5 : Int) = 7 then 4 else if (5 : Int) = 5 then (if o ≤ 2 then 5 else 6) else 7) = 6
  simp [h]
 have ht : tB (over 5 o p [l,r]) = wr 6 l (tB l) ++ sgT (ariS o) :: wr 7 r (tB r):=by
  rw [over,tB_mk]
  simp [tF,h]
 rw [cE_bare (by omega),ht,brk_app,sg_brk (ariS_ne o)]
 rfl

theorem over_6 (o : Int) (p : Nat) (l r : Ex) : cE 4 (over 6 o p [l,r]) = cE 5 l + cE 5 r:=by
 have ht : tB (over 6 o p [l,r]) = wr 5 l (tB l) ++ sgT (cmpS o) :: wr 5 r (tB r):=by
  rw [over,tB_mk]
  simp [tF]
 rw [cE_bare (show 4 ≤ rankX (over 6 o p [l,r]) from Nat.le_refl 4),ht,brk_app,sg_brk (cmpS_ne o)]
 rfl

theorem over_7 (o : Int) (p : Nat) (l : Ex) : cE 4 (over 7 o p [l]) = cE 5 l:=by
 have ht : tB (over 7 o p [l]) = wr 5 l (tB l) ++ wdT wIs :: (if o = 1 then [wdT wNot,wdT wNull] else [wdT wNull]):=by
  rw [over,tB_mk]
  simp [tF]
 have h0 : brk (wdT wIs :: (if o = 1 then [wdT wNot,wdT wNull] else [wdT wNull])) = 0:=by
  rw [wd_brk (by decide)]
  split
  ·rw [wd_brk (by decide),wd_brk (by decide)]
   rfl
  ·rw [wd_brk (by decide)]
   rfl
 rw [cE_bare (show 4 ≤ rankX (over 7 o p [l]) from Nat.le_refl 4),ht,brk_app,h0]
 rfl

theorem over_8 (o : Int) (p : Nat) (e : Ex) : cE 3 (over 8 o p [e]) = cE 3 e:=by
 have ht : tB (over 8 o p [e]) = wdT wNot :: wr 3 e (tB e):=by
  rw [over,tB_mk]
  simp [tF]
 rw [cE_bare (show 3 ≤ rankX (over 8 o p [e]) from Nat.le_refl 3),ht,wd_brk (by decide)]
 rfl

theorem over_9 (o : Int) (p : Nat) (l : List Ex) : cE 2 (over 9 o p l) = sumE 3 l:=by
 rw [cE_bare (show 2 ≤ rankX (over 9 o p l) from Nat.le_refl 2),over,tB_mk]
 cases l with
 | nil => rfl
 | cons a l =>
  have : tF 9 o v0 ⟨#[]⟩ ⟨#[]⟩ (a :: l) ((a :: l).map tB) = wr 3 a (tB a) ++ rowM wAnd 3 l (l.map tB):=by simp [tF]
  rw [this,brk_app,rowM_brk (by decide)]
  rfl

theorem over_10 (o : Int) (p : Nat) (l : List Ex) : cE 1 (over 10 o p l) = sumE 2 l:=by
 rw [cE_bare (show 1 ≤ rankX (over 10 o p l) from Nat.le_refl 1),over,tB_mk]
 cases l with
 | nil => rfl
 | cons a l =>
  have : tF 10 o v0 ⟨#[]⟩ ⟨#[]⟩ (a :: l) ((a :: l).map tB) = wr 2 a (tB a) ++ rowM wOr 2 l (l.map tB):=by simp [tF]
  rw [this,brk_app,rowM_brk (by decide)]
  rfl

theorem leaf_1 (n : Nat) (hn : n ≤ 7) (o : Int) (v : V3) (t m : ByteArray) (ks : List Ex) (p : Int) : cE n (.mk 1 o v t m ks p) = 0:=by
 rw [cE_bare (show n ≤ rankX (.mk 1 o v t m ks p) from hn),tB_mk]
 show brk [litT v] = 0
 unfold litT
 split
 ·exact nu_brk _ []
 split
 ·rw [brk_cons,isB_kd (by decide) (by decide)]
  rfl
 split
 ·split
  ·exact wd_brk (by decide) []
  ·exact wd_brk (by decide) []
 ·exact wd_brk (by decide) []

theorem leaf_2 (n : Nat) (hn : n ≤ 7) (o : Int) (v : V3) (t m : ByteArray) (ks : List Ex) (p : Int) : cE n (.mk 2 o v t m ks p) = 0:=by
 rw [cE_bare (show n ≤ rankX (.mk 2 o v t m ks p) from hn),tB_mk]
 show brk [((6,0,m),0)] = 0
 rw [brk_cons,isB_kd (by decide) (by decide)]
 rfl

theorem leaf_3 (n : Nat) (hn : n ≤ 7) (o : Int) (v : V3) (t m : ByteArray) (ks : List Ex) (p : Int) : cE n (.mk 3 o v t m ks p) = 0:=by
 rw [cE_bare (show n ≤ rankX (.mk 3 o v t m ks p) from hn),tB_mk]
 show brk (if t = ⟨#[]⟩ then [nmT m] else [nmT t,sgT [46],nmT m]) = 0
 split
 ·exact nm_brk _ []
 ·rw [nm_brk,sg_brk (by decide),nm_brk]
  rfl

theorem name_nB {s s1 : PS} {a : ByteArray} (h : nameR s = .ok a s1) : nB s1 ≤ nB s:=by
 unfold nameR at h
 split at h
 ·injection h with _ h
  rw [← h]
  exact nB_next s
 ·cases h

theorem col_nB {s s1 : PS} {e : Ex} (h : colR s = .ok e s1) : (∀ n,n ≤ 7 → cE n e = 0) ∧ kindOf e = 3 ∧ nB s1 ≤ nB s:=by
 unfold colR at h
 cases h1 : nameR s with
 | bad p => rw [h1] at h; cases h
 | ok a s2 =>
  rw [h1] at h
  simp only at h
  have i1:=name_nB h1
  split at h
  ·cases h2 : nameR s2.next with
   | bad p => rw [h2] at h; cases h
   | ok b s3 =>
    rw [h2] at h
    simp only at h
    have i2:=name_nB h2
    have i3:=nB_next s2
    injection h with e1 e2
    subst e1 e2
    exact ⟨fun n hn => leaf_3 n hn _ _ _ _ _ _,rfl,by omega⟩
  ·injection h with e1 e2
   subst e1 e2
   exact ⟨fun n hn => leaf_3 n hn _ _ _ _ _ _,rfl,i1⟩

theorem lit_nB {s s1 : PS} {v : V3} (h : litR s = .ok v s1) : nB s1 ≤ nB s:=by
 unfold litR at h
 repeat' split at h
 all_goals first | (cases h; done) | (injection h with _ h; rw [← h]; exact nB_next s)

def Gain : Gl → PS → Ex → PS → Prop
 | .or,s,e,s1 => cE 1 e + nB s1 ≤ nB s
 | .and,s,e,s1 => cE 2 e + nB s1 ≤ nB s
 | .not,s,e,s1 => cE 3 e + nB s1 ≤ nB s
 | .test,s,e,s1 => cE 4 e + nB s1 ≤ nB s
 | .sum,s,e,s1 => cE 5 e + nB s1 ≤ nB s
 | .prod,s,e,s1 => cE 6 e + nB s1 ≤ nB s
 | .fact,s,e,s1 => cE 7 e + nB s1 ≤ nB s
 | .rowL true _ acc,s,e,s1 => cE 1 e + nB s1 ≤ nB s + sumE 2 acc
 | .rowL false _ acc,s,e,s1 => cE 2 e + nB s1 ≤ nB s + sumE 3 acc
 | .sumL l,s,e,s1 => cE 5 e + nB s1 ≤ nB s + cE 5 l
 | .prodL l,s,e,s1 => cE 6 e + nB s1 ≤ nB s + cE 6 l

theorem opS_le {s : PS} : opOf s sumO ≤ 2:=by
 unfold sumO opOf
 split
 ·decide
 unfold opOf
 split
 ·decide
 ·unfold opOf
  decide

theorem opP_gt {s : PS} (h : opOf s prodO ≠ 0) : ¬ opOf s prodO ≤ 2:=by
 revert h
 unfold prodO opOf
 split
 ·decide
 unfold opOf
 split
 ·decide
 unfold opOf
 split
 ·decide
 ·unfold opOf
  intro h
  exact absurd rfl h

theorem bindR_ok2 {α β : Type} {x : Option (Res α)} {f : α → PS → Option (Res β)} {b : β} {s : PS} (h : bindR x f = some (.ok b s)) : ∃ a s1,x = some (.ok a s1) ∧ f a s1 = some (.ok b s):=by
 rcases bindR_some h with ⟨p,_,e⟩ | h
 ·cases e
 ·exact h

theorem pX_gain : ∀ (n : Nat) (g : Gl) (s : PS) (e : Ex) (s1 : PS),pX n g s = some (.ok e s1) → Gain g s e s1:=by
 intro n
 induction n with
 | zero => intro g s e s1 h; simp [pX] at h
 | succ n ih =>
  intro g s e s1 h
  cases g with
  | or =>
   rw [pX] at h
   obtain ⟨a,s2,h1,h2⟩:=bindR_ok2 h
   have i1 : cE 2 a + nB s2 ≤ nB s:=ih .and _ _ _ h1
   show cE 1 e + nB s1 ≤ nB s
   by_cases hs : s2.sees wOr = true
   ·rw [if_pos hs] at h2
    have i2 : cE 1 e + nB s1 ≤ nB s2 + sumE 2 [a]:=ih _ _ _ _ h2
    have i3 : sumE 2 [a] = cE 2 a:=by simp [sumE]
    omega
   ·rw [if_neg hs] at h2
    injection h2 with h2
    injection h2 with e1 e2
    subst e1 e2
    have:=cE_mono (show 1 ≤ 2 by decide) a
    omega
  | and =>
   rw [pX] at h
   obtain ⟨a,s2,h1,h2⟩:=bindR_ok2 h
   have i1 : cE 3 a + nB s2 ≤ nB s:=ih .not _ _ _ h1
   show cE 2 e + nB s1 ≤ nB s
   by_cases hs : s2.sees wAnd = true
   ·rw [if_pos hs] at h2
    have i2 : cE 2 e + nB s1 ≤ nB s2 + sumE 3 [a]:=ih _ _ _ _ h2
    have i3 : sumE 3 [a] = cE 3 a:=by simp [sumE]
    omega
   ·rw [if_neg hs] at h2
    injection h2 with h2
    injection h2 with e1 e2
    subst e1 e2
    have:=cE_mono (show 2 ≤ 3 by decide) a
    omega
  | rowL b p acc =>
   rw [pX] at h
   cases b with
   | true =>
    simp only [if_true] at h
    show cE 1 e + nB s1 ≤ nB s + sumE 2 acc
    by_cases hs : s.sees wOr = true
    ·rw [if_pos hs] at h
     obtain ⟨a,s2,h1,h2⟩:=bindR_ok2 h
     have i1 : cE 2 a + nB s2 ≤ nB (s.next.cnt acc.length 8):=ih .and _ _ _ h1
     rw [nB_cnt] at i1
     have i2 : cE 1 e + nB s1 ≤ nB s2 + sumE 2 (acc ++ [a]):=ih _ _ _ _ h2
     rw [sumE_app] at i2
     have:=nB_next s
     omega
    ·rw [if_neg hs] at h
     injection h with h2
     injection h2 with e1 e2
     subst e1 e2
     rw [over_10]
     omega
   | false =>
    simp only [Bool.false_eq_true,if_false] at h
    show cE 2 e + nB s1 ≤ nB s + sumE 3 acc
    by_cases hs : s.sees wAnd = true
    ·rw [if_pos hs] at h
     obtain ⟨a,s2,h1,h2⟩:=bindR_ok2 h
     have i1 : cE 3 a + nB s2 ≤ nB (s.next.cnt acc.length 8):=ih .not _ _ _ h1
     rw [nB_cnt] at i1
     have i2 : cE 2 e + nB s1 ≤ nB s2 + sumE 3 (acc ++ [a]):=ih _ _ _ _ h2
     rw [sumE_app] at i2
     have:=nB_next s
     omega
    ·rw [if_neg hs] at h
     injection h with h2
     injection h2 with e1 e2
     subst e1 e2
     rw [over_9]
     omega
  | not =>
   rw [pX] at h
   show cE 3 e + nB s1 ≤ nB s
   by_cases hs : s.sees wNot = true
   ·rw [if_pos hs] at h
    obtain ⟨a,s2,h1,h2⟩:=bindR_ok2 h
    have i1 : cE 3 a + nB s2 ≤ nB s.next:=ih .not _ _ _ h1
    injection h2 with h2
    injection h2 with e1 e2
    subst e1 e2
    rw [over_8]
    have:=nB_next s
    omega
   ·rw [if_neg hs] at h
    have i1 : cE 4 e + nB s1 ≤ nB s:=ih .test _ _ _ h
    have:=cE_mono (show 3 ≤ 4 by decide) e
    omega
  | test =>
   rw [pX] at h
   obtain ⟨a,s2,h1,h2⟩:=bindR_ok2 h
   have i1 : cE 5 a + nB s2 ≤ nB s:=ih .sum _ _ _ h1
   show cE 4 e + nB s1 ≤ nB s
   by_cases hs : s2.sees wIs = true
   ·rw [if_pos hs] at h2
    simp only at h2
    have j1:=nB_next s2
    have j2:=nB_next s2.next
    generalize hs3 : (if s2.next.sees wNot = true then s2.next.next else s2.next) = s3 at h2
    have j3 : nB s3 ≤ nB s2.next:=by rw [← hs3]; split <;> omega
    have j4:=nB_next s3
    by_cases hn : s3.sees wNull = true
    ·rw [if_pos hn] at h2
     injection h2 with h2
     injection h2 with e1 e2
     subst e1 e2
     rw [over_7]
     omega
    ·rw [if_neg hn] at h2
     injection h2 with h2
     cases h2
   ·rw [if_neg hs] at h2
    by_cases ho : opOf s2 cmpO = 0
    ·rw [if_pos ho] at h2
     injection h2 with h2
     injection h2 with e1 e2
     subst e1 e2
     have:=cE_mono (show 4 ≤ 5 by decide) a
     omega
    ·rw [if_neg ho] at h2
     obtain ⟨b,s3,h3,h4⟩:=bindR_ok2 h2
     have i2 : cE 5 b + nB s3 ≤ nB s2.next:=ih .sum _ _ _ h3
     have:=nB_next s2
     injection h4 with h4
     injection h4 with e1 e2
     subst e1 e2
     rw [over_6]
     omega
  | sum =>
   rw [pX] at h
   obtain ⟨a,s2,h1,h2⟩:=bindR_ok2 h
   have i1 : cE 6 a + nB s2 ≤ nB s:=ih .prod _ _ _ h1
   have i2 : cE 5 e + nB s1 ≤ nB s2 + cE 5 a:=ih (.sumL a) _ _ _ h2
   show cE 5 e + nB s1 ≤ nB s
   have:=cE_mono (show 5 ≤ 6 by decide) a
   omega
  | sumL l =>
   rw [pX] at h
   show cE 5 e + nB s1 ≤ nB s + cE 5 l
   by_cases ho : opOf s sumO = 0
   ·rw [if_pos ho] at h
    injection h with h2
    injection h2 with e1 e2
    subst e1 e2
    omega
   ·rw [if_neg ho] at h
    obtain ⟨a,s2,h1,h2⟩:=bindR_ok2 h
    have i1 : cE 6 a + nB s2 ≤ nB s.next:=ih .prod _ _ _ h1
    have i2 : cE 5 e + nB s1 ≤ nB s2 + cE 5 (over 5 (opOf s sumO) s.hd.2 [l,a]):=ih (.sumL _) _ _ _ h2
    rw [over_5s opS_le] at i2
    have:=nB_next s
    omega
  | prod =>
   rw [pX] at h
   obtain ⟨a,s2,h1,h2⟩:=bindR_ok2 h
   have i1 : cE 7 a + nB s2 ≤ nB s:=ih .fact _ _ _ h1
   have i2 : cE 6 e + nB s1 ≤ nB s2 + cE 6 a:=ih (.prodL a) _ _ _ h2
   show cE 6 e + nB s1 ≤ nB s
   have:=cE_mono (show 6 ≤ 7 by decide) a
   omega
  | prodL l =>
   rw [pX] at h
   show cE 6 e + nB s1 ≤ nB s + cE 6 l
   by_cases ho : opOf s prodO = 0
   ·rw [if_pos ho] at h
    injection h with h2
    injection h2 with e1 e2
    subst e1 e2
    omega
   ·rw [if_neg ho] at h
    obtain ⟨a,s2,h1,h2⟩:=bindR_ok2 h
    have i1 : cE 7 a + nB s2 ≤ nB s.next:=ih .fact _ _ _ h1
    have i2 : cE 6 e + nB s1 ≤ nB s2 + cE 6 (over 5 (opOf s prodO) s.hd.2 [l,a]):=ih (.prodL _) _ _ _ h2
    rw [over_5p (opP_gt ho)] at i2
    have:=nB_next s
    omega
  | fact =>
   rw [pX] at h
   show cE 7 e + nB s1 ≤ nB s
   have j1:=nB_next s
   by_cases hs : s.sees [45] = true
   ·rw [if_pos hs] at h
    obtain ⟨a,s2,h1,h2⟩:=bindR_ok2 h
    have i1 : cE 7 a + nB s2 ≤ nB s.next:=ih .fact _ _ _ h1
    injection h2 with h2
    injection h2 with e1 e2
    subst e1 e2
    rw [over_4]
    omega
   rw [if_neg hs] at h
   by_cases hs2 : s.sees [40] = true
   ·rw [if_pos hs2] at h
    obtain ⟨a,s2,h1,h2⟩:=bindR_ok2 h
    have i1 : cE 1 a + nB s2 ≤ nB s.next:=ih .or _ _ _ h1
    have i2:=nB_open hs2
    have i3:=nB_next s2
    split at h2
    ·injection h2 with h2
     injection h2 with e1 e2
     subst e1 e2
     have:=cE_up 1 7 a
     omega
    ·injection h2 with h2
     cases h2
   rw [if_neg hs2] at h
   by_cases hs3 : s.hd.1.1 = 3
   ·rw [if_pos hs3] at h
    injection h with h
    obtain ⟨k1,_,k2⟩:=col_nB h
    rw [k1 7 (Nat.le_refl _)]
    omega
   rw [if_neg hs3] at h
   by_cases hs4 : s.hd.1.1 = 6
   ·rw [if_pos hs4] at h
    injection h with h2
    injection h2 with e1 e2
    subst e1 e2
    rw [leaf_2 7 (Nat.le_refl _)]
    omega
   rw [if_neg hs4] at h
   cases h1 : litR s with
   | bad p => rw [h1] at h; simp only at h; injection h with h; cases h
   | ok v s2 =>
    rw [h1] at h
    simp only at h
    have:=lit_nB h1
    injection h with h2
    injection h2 with e1 e2
    subst e1 e2
    rw [leaf_1 7 (Nat.le_refl _)]
    omega

def NK (e : Ex) : Prop:=kindOf e ≤ 10

def NKg : Gl → Prop
 | .sumL l => NK l
 | .prodL l => NK l
 | _ => True

theorem pX_nk : ∀ (n : Nat) (g : Gl) (s : PS) (e : Ex) (s1 : PS),NKg g → pX n g s = some (.ok e s1) → NK e:=by
 intro n
 induction n with
 | zero => intro g s e s1 _ h; simp [pX] at h
 | succ n ih =>
  intro g s e s1 hg h
  have fin : ∀ {a : Ex} {s2 : PS},NK a → (some (Res.ok a s2) : Option (Res Ex)) = some (.ok e s1) → NK e:=fun {a s2} ha k => by
   injection k with k
   injection k with k _
   rw [← k]
   exact ha
  cases g with
  | or =>
   rw [pX] at h
   obtain ⟨a,s2,h1,h2⟩:=bindR_ok2 h
   split at h2
   ·exact ih (.rowL _ _ _) _ _ _ trivial h2
   ·exact fin (ih .and _ _ _ trivial h1) h2
  | and =>
   rw [pX] at h
   obtain ⟨a,s2,h1,h2⟩:=bindR_ok2 h
   split at h2
   ·exact ih (.rowL _ _ _) _ _ _ trivial h2
   ·exact fin (ih .not _ _ _ trivial h1) h2
  | rowL b p acc =>
   rw [pX] at h
   by_cases hs : s.sees (if b = true then wOr else wAnd) = true
   ·rw [if_pos hs] at h
    obtain ⟨a,s2,h1,h2⟩:=bindR_ok2 h
    exact ih (.rowL _ _ _) _ _ _ trivial h2
   ·rw [if_neg hs] at h
    refine fin ?_ h
    show (if b = true then (10 : Int) else 9) ≤ 10
    split <;> decide
  | not =>
   rw [pX] at h
   split at h
   ·obtain ⟨a,s2,h1,h2⟩:=bindR_ok2 h
    refine fin ?_ h2
    show (8 : Int) ≤ 10
    decide
   ·exact ih .test _ _ _ trivial h
  | test =>
   rw [pX] at h
   obtain ⟨a,s2,h1,h2⟩:=bindR_ok2 h
   split at h2
   ·simp only at h2
    generalize (if s2.next.sees wNot = true then s2.next.next else s2.next) = s3 at h2
    by_cases hn : s3.sees wNull = true
    ·rw [if_pos hn] at h2
     refine fin ?_ h2
     show (7 : Int) ≤ 10
     decide
    ·rw [if_neg hn] at h2
     injection h2 with h2
     cases h2
   ·split at h2
    ·exact fin (ih .sum _ _ _ trivial h1) h2
    ·obtain ⟨b,s3,h3,h4⟩:=bindR_ok2 h2
     refine fin ?_ h4
     show (6 : Int) ≤ 10
     decide
  | sum =>
   rw [pX] at h
   obtain ⟨a,s2,h1,h2⟩:=bindR_ok2 h
   exact ih (.sumL a) _ _ _ (ih .prod _ _ _ trivial h1) h2
  | sumL l =>
   rw [pX] at h
   split at h
   ·exact fin hg h
   ·obtain ⟨a,s2,h1,h2⟩:=bindR_ok2 h
    refine ih (.sumL _) _ _ _ ?_ h2
    show (5 : Int) ≤ 10
    decide
  | prod =>
   rw [pX] at h
   obtain ⟨a,s2,h1,h2⟩:=bindR_ok2 h
   exact ih (.prodL a) _ _ _ (ih .fact _ _ _ trivial h1) h2
  | prodL l =>
   rw [pX] at h
   split at h
   ·exact fin hg h
   ·obtain ⟨a,s2,h1,h2⟩:=bindR_ok2 h
    refine ih (.prodL _) _ _ _ ?_ h2
    show (5 : Int) ≤ 10
    decide
  | fact =>
   rw [pX] at h
   split at h
   ·obtain ⟨a,s2,h1,h2⟩:=bindR_ok2 h
    refine fin ?_ h2
    show (4 : Int) ≤ 10
    decide
   split at h
   ·obtain ⟨a,s2,h1,h2⟩:=bindR_ok2 h
    split at h2
    ·exact fin (ih .or _ _ _ trivial h1) h2
    ·injection h2 with h2
     cases h2
   split at h
   ·injection h with h
    obtain ⟨_,k,_⟩:=col_nB h
    unfold NK
    rw [k]
    decide
   split at h
   ·refine fin ?_ h
    show (2 : Int) ≤ 10
    decide
   cases h1 : litR s with
   | bad p => rw [h1] at h; simp only at h; injection h with h; cases h
   | ok v s2 =>
    rw [h1] at h
    refine fin ?_ h
    show (1 : Int) ≤ 10
    decide

theorem then_ok {α β : Type} {f : Rd_ α} {g : α → Rd_ β} {s s2 : PS} {b : β} (h : thenR f g s (.ok b s2)) : ∃ a s1,f s (.ok a s1) ∧ g a s1 (.ok b s2):=by
 rcases h with ⟨p,_,e⟩ | h
 ·cases e
 ·exact h

theorem ret_ok {α : Type} {a b : α} {s s1 : PS} (h : retR a s (.ok b s1)) : b = a ∧ s1 = s:=by
 injection h with e1 e2
 exact ⟨e1,e2⟩

theorem nam_nB {s s1 : PS} {a : ByteArray} (h : namR s (.ok a s1)) : nB s1 ≤ nB s:=name_nB (Eq.symm h)

theorem num_nB {s s1 : PS} {a : T} (h : numR s (.ok a s1)) : nB s1 ≤ nB s:=by
 unfold numR at h
 split at h
 ·injection h with _ h
  rw [h]
  exact nB_next s
 ·cases h

theorem want_nB : ∀ (l : List (List UInt8)) {s s1 : PS},wantR l s (.ok () s1) → l.countP (· == [40]) + nB s1 ≤ nB s
 | [],s,s1,h => by
  injection h with _ h
  rw [h]
  simp
 | x :: l,s,s1,h => by
  unfold wantR at h
  rw [needsR] at h
  split at h
  ·rename_i hs
   have ih:=want_nB l (s:=s.next) h
   have j:=nB_next s
   rw [List.countP_cons]
   by_cases hx : x = [40]
   ·subst hx
    have:=nB_open hs
    rw [if_pos (by decide)]
    omega
   ·rw [if_neg (by simpa using hx)]
    omega
  ·cases h

theorem expr_nB {s s1 : PS} {e : Ex} (h : exprR s (.ok e s1)) : cE 1 e + nB s1 ≤ nB s:=by
 obtain ⟨n,h⟩:=h
 exact pX_gain n .or s e s1 h

theorem expr_nk {s s1 : PS} {e : Ex} (h : exprR s (.ok e s1)) : kindOf e ≤ 10:=by
 obtain ⟨n,h⟩:=h
 exact pX_nk n .or s e s1 trivial h

def Cn {α : Type} (m : α → Nat) (f : Rd_ α) : Prop:=∀ s a s1,f s (.ok a s1) → m a + nB s1 ≤ nB s

def sumM {α : Type} (m : α → Nat) (l : List α) : Nat:=(l.map m).sum

theorem Cn.list {α : Type} {m : α → Nat} {f : Rd_ α} (hf : Cn m f) (most : Nat) : Cn (sumM m) (listR f most):=by
 have key : ∀ acc s r,LsR f most acc s r → ∀ l s1,r = .ok l s1 → sumM m l + nB s1 ≤ nB s + sumM m acc:=by
  intro acc s r h
  induction h with
  | bad h => intro l s1 e; cases e
  | @last acc s s1 a h hs =>
   intro l s2 e
   injection e with e1 e2
   subst e1 e2
   have:=hf _ _ _ h
   rw [nB_cnt] at this
   simp only [sumM,List.map_append,List.sum_append,List.map_cons,List.map_nil,List.sum_cons,List.sum_nil]
   omega
  | @more acc s s1 a r h hs _ ih =>
   intro l s2 e
   have i1:=hf _ _ _ h
   rw [nB_cnt] at i1
   have i2:=ih l s2 e
   have i3:=nB_next s1
   simp only [sumM,List.map_append,List.sum_append,List.map_cons,List.map_nil,List.sum_cons,List.sum_nil] at i2 ⊢
   omega
 intro s l s1 h
 have:=key [] s _ h l s1 rfl
 simpa [sumM] using this

theorem sep_brk {α : Type} (f : α → List T) : ∀ l : List α,brk (sepT f l) = sumM (fun a => brk (f a)) l
 | [] => rfl
 | [a] => by simp [sepT,sumM]
 | a :: b :: l => by
  rw [sepT,brk_app,sg_brk (by decide),sep_brk f (b :: l)]
  simp [sumM]

theorem it_x {e : Ex} (h : kindOf e ≤ 10) : itT e = tE 1 e:=by
 obtain ⟨k,o,v,t,n,ks,p⟩:=e
 replace h : k ≤ 10:=h
 rw [itT.eq_def]
 simp only
 rw [if_neg (by omega),if_neg (by omega)]

theorem if_ok {α : Type} {x : List UInt8} {f g : Rd_ α} {s : PS} {r : Res α} (h : ifR x f g s r) : (s.sees x = true ∧ f s.next r) ∨ g s r:=by
 unfold ifR at h
 split at h
 ·rename_i hs
  exact Or.inl ⟨hs,h⟩
 ·exact Or.inr h

theorem over_nB {k : Int} (hk : k = 12 ∨ k = 13 ∨ k = 14) {p : Nat} {s s1 : PS} {e : Ex} (h : overR k p s (.ok e s1)) : brk (itT e) + nB s1 ≤ nB s:=by
 obtain ⟨_,s2,h1,h⟩:=then_ok h
 obtain ⟨a,s3,h2,h⟩:=then_ok h
 obtain ⟨_,s4,h3,h⟩:=then_ok h
 obtain ⟨rfl,rfl⟩:=ret_ok h
 have i1:=want_nB _ h1
 have i2:=expr_nB h2
 have i3:=want_nB _ h3
 have e1 : ([[40]] : List (List UInt8)).countP (· == [40]) = 1:=by decide
 rw [e1] at i1
 have e2 : brk (itT (over k 0 p [a])) = cE 1 a + 1:=by
  have e3 : itT (over k 0 p [a]) = wdT (if k = 12 then wSUM else if k = 13 then wMIN else wMAX) :: sgT [40] :: (tE 1 a ++ [sgT [41]]):=by
   rw [over,itT,if_neg (by omega),if_pos hk]
  rw [e3,wd_brk (by split <;> (try split) <;> decide),op_brk,brk_app,sg_brk (by decide)]
  rfl
 omega

theorem item_nB : Cn (fun e => brk (itT e)) itemR:=by
 intro s e s1 h
 show brk (itT e) + nB s1 ≤ nB s
 have j:=nB_next s
 unfold itemR at h
 rcases if_ok h with ⟨_,h⟩ | h
 ·obtain ⟨_,s2,h1,h⟩:=then_ok h
  obtain ⟨rfl,rfl⟩:=ret_ok h
  have i1:=want_nB _ h1
  have e1 : ([[40],[42],[41]] : List (List UInt8)).countP (· == [40]) = 1:=by decide
  rw [e1] at i1
  have e2 : brk (itT (.mk 11 0 v0 ⟨#[]⟩ ⟨#[]⟩ [] s.hd.2)) = 1:=by
   rw [itT,if_pos rfl,wd_brk (by decide),op_brk,sg_brk (by decide),sg_brk (by decide)]
   rfl
  omega
 rcases if_ok h with ⟨_,h⟩ | h
 ·have:=over_nB (Or.inl rfl) h
  omega
 rcases if_ok h with ⟨_,h⟩ | h
 ·have:=over_nB (Or.inr (Or.inl rfl)) h
  omega
 rcases if_ok h with ⟨_,h⟩ | h
 ·have:=over_nB (Or.inr (Or.inr rfl)) h
  omega
 rw [it_x (expr_nk h)]
 exact expr_nB h

theorem set_nB : Cn (fun x => brk (seT x)) setR:=by
 intro s x s1 h
 show brk (seT x) + nB s1 ≤ nB s
 unfold setR at h
 obtain ⟨n,s2,h1,h⟩:=then_ok h
 obtain ⟨_,s3,h2,h⟩:=then_ok h
 obtain ⟨e,s4,h3,h⟩:=then_ok h
 obtain ⟨rfl,rfl⟩:=ret_ok h
 have i1:=nam_nB h1
 have i2:=want_nB _ h2
 have i3:=expr_nB h3
 have e1 : brk (seT (n,e,(s.hd.2 : Int))) = cE 1 e:=by
  unfold seT
  rw [nm_brk,sg_brk (by decide)]
  rfl
 omega

theorem so_brk (x : So) : brk (soT x) = 0:=by
 unfold soT
 rw [nu_brk]
 split
 ·exact wd_brk (by decide) []
 ·rfl

theorem sort_nB : Cn (fun x => brk (soT x)) sortR:=by
 intro s x s1 h
 show brk (soT x) + nB s1 ≤ nB s
 rw [so_brk]
 unfold sortR at h
 obtain ⟨t,s2,h1,h⟩:=then_ok h
 have i1:=num_nB h1
 rcases if_ok h with ⟨_,h⟩ | h
 ·obtain ⟨-,rfl⟩:=ret_ok h
  have:=nB_next s2
  omega
 ·obtain ⟨-,rfl⟩:=ret_ok h
  omega

theorem where_nB : Cn (fun l => brk (whT l)) whereR:=by
 intro s x s1 h
 show brk (whT x) + nB s1 ≤ nB s
 rcases if_ok h with ⟨_,h⟩ | h
 ·obtain ⟨e,s2,h1,h⟩:=then_ok h
  obtain ⟨rfl,rfl⟩:=ret_ok h
  have i1:=expr_nB h1
  have j:=nB_next s
  have e1 : brk (whT [e]) = cE 1 e:=wd_brk (by decide) _
  omega
 ·obtain ⟨rfl,rfl⟩:=ret_ok h
  show 0 + _ ≤ _
  omega

theorem col_cn : Cn (fun e => brk (tE 1 e)) colmR:=by
 intro s e s1 h
 obtain ⟨k1,_,k2⟩:=col_nB (Eq.symm h)
 have : brk (tE 1 e) = 0:=k1 1 (by decide)
 show brk (tE 1 e) + _ ≤ _
 omega

theorem group_nB : Cn (fun l => brk (grT l)) groupR:=by
 intro s l s1 h
 show brk (grT l) + nB s1 ≤ nB s
 rcases if_ok h with ⟨_,h⟩ | h
 ·obtain ⟨_,s2,h1,h⟩:=then_ok h
  have i1:=want_nB _ h1
  have i2:=col_cn.list 8 _ _ _ h
  have j:=nB_next s
  have e1 : brk (grT l) ≤ sumM (fun e => brk (tE 1 e)) l:=by
   unfold grT
   split
   ·exact Nat.zero_le _
   ·rw [wd_brk (by decide),wd_brk (by decide),sep_brk]
    exact Nat.le_refl _
  omega
 ·obtain ⟨rfl,rfl⟩:=ret_ok h
  have e0 : brk (grT []) = 0:=by
   unfold grT
   rw [if_pos rfl]
   rfl
  omega

theorem sum_zero : ∀ l : List So,(l.map fun _ => 0).sum = 0
 | [] => rfl
 | _ :: l => by simp [sum_zero l]

theorem or_brk (l : List So) : brk (orT l) = 0:=by
 unfold orT
 split
 ·rfl
 ·rw [wd_brk (by decide),wd_brk (by decide),sep_brk]
  simp only [so_brk,sumM]
  exact sum_zero l

theorem order_nB {s s1 : PS} {l : List So} (h : orderR s (.ok l s1)) : nB s1 ≤ nB s:=by
 rcases if_ok h with ⟨_,h⟩ | h
 ·obtain ⟨_,s2,h1,h⟩:=then_ok h
  have i1:=want_nB _ h1
  have i2:=sort_nB.list 8 _ _ _ h
  have j:=nB_next s
  omega
 ·obtain ⟨rfl,rfl⟩:=ret_ok h
  exact Nat.le_refl _

theorem limit_nB {s s1 : PS} {l : List Int} (h : limitR s (.ok l s1)) : nB s1 ≤ nB s:=by
 rcases if_ok h with ⟨_,h⟩ | h
 ·obtain ⟨t,s2,h1,h⟩:=then_ok h
  obtain ⟨rfl,rfl⟩:=ret_ok h
  have i1:=num_nB h1
  have j:=nB_next s
  omega
 ·obtain ⟨rfl,rfl⟩:=ret_ok h
  exact Nat.le_refl _

theorem li_brk (l : List Int) : brk (liT l) = 0:=by
 unfold liT
 split
 ·rw [wd_brk (by decide),nu_brk]
  rfl
 ·rfl

def joL (j : ByteArray) (l : List Ex) : List T:=match l with
 | e :: _ => wdT wJOIN :: nmT j :: wdT wON :: tE 1 e
 | [] => []

theorem join_nB : Cn (fun j => brk (joL j.2.1 j.2.2)) joinR:=by
 intro s j s1 h
 show brk (joL j.2.1 j.2.2) + nB s1 ≤ nB s
 rcases if_ok h with ⟨_,h⟩ | h
 ·obtain ⟨p,s2,h1,h⟩:=then_ok h
  obtain ⟨n,s3,h2,h⟩:=then_ok h
  obtain ⟨_,s4,h3,h⟩:=then_ok h
  obtain ⟨e,s5,h4,h⟩:=then_ok h
  obtain ⟨rfl,rfl⟩:=ret_ok h
  injection h1 with _ h1
  subst h1
  have i2:=nam_nB h2
  have i3:=want_nB _ h3
  have i4:=expr_nB h4
  have j:=nB_next s
  have e1 : brk (joL n [e]) = cE 1 e:=by
   show brk (wdT wJOIN :: nmT n :: wdT wON :: tE 1 e) = _
   rw [wd_brk (by decide),nm_brk,wd_brk (by decide)]
   rfl
  show brk (joL n [e]) + _ ≤ _
  omega
 ·obtain ⟨rfl,rfl⟩:=ret_ok h
  show 0 + _ ≤ _
  omega

theorem star_nB : Cn (fun j => if j.1 then 0 else sumM (fun e => brk (itT e)) j.2) starR:=by
 intro s j s1 h
 have jn:=nB_next s
 rcases if_ok h with ⟨_,h⟩ | h
 ·obtain ⟨rfl,rfl⟩:=ret_ok h
  show 0 + _ ≤ _
  omega
 ·obtain ⟨l,s2,h1,h⟩:=then_ok h
  obtain ⟨rfl,rfl⟩:=ret_ok h
  exact item_nB.list 8 _ _ _ h1

theorem st_nB {s s1 : PS} {t : St} (h : stR s (.ok t s1)) : brk (tS t) + nB s1 ≤ nB s:=by
 unfold stR at h
 obtain ⟨u,s2,h,h9⟩:=then_ok h
 obtain ⟨rfl,rfl⟩:=ret_ok h9
 have e0 : tS { u with place:=(s.hd.2 : Int) } = tS u:=rfl
 rw [e0]
 have jn:=nB_next s
 rcases if_ok h with ⟨_,h⟩ | h
 ·unfold insR at h
  obtain ⟨_,s3,h1,h⟩:=then_ok h
  obtain ⟨n,s4,h2,h⟩:=then_ok h
  obtain ⟨_,s5,h3,h⟩:=then_ok h
  obtain ⟨l,s6,h4,h⟩:=then_ok h
  obtain ⟨_,s7,h5,h⟩:=then_ok h
  obtain ⟨rfl,rfl⟩:=ret_ok h
  have i1:=want_nB _ h1
  have i2:=nam_nB h2
  have i3:=want_nB _ h3
  have i4:=(show Cn (fun e => brk (tE 1 e)) exprR from fun _ _ _ h => expr_nB h).list 16 _ _ _ h4
  have i5:=want_nB _ h5
  have e1 : ([wVALUES,[40]] : List (List UInt8)).countP (· == [40]) = 1:=by decide
  rw [e1] at i3
  have e2 : brk (tS { st0 with kind:=1,table:=n,items:=l }) = sumM (fun e => brk (tE 1 e)) l + 1:=by
   unfold tS
   rw [if_pos rfl,wd_brk (by decide),wd_brk (by decide),nm_brk,wd_brk (by decide),op_brk,brk_app,sg_brk (by decide),sep_brk]
   rfl
  omega
 rcases if_ok h with ⟨_,h⟩ | h
 ·unfold updR at h
  obtain ⟨n,s3,h1,h⟩:=then_ok h
  obtain ⟨_,s4,h2,h⟩:=then_ok h
  obtain ⟨l,s5,h3,h⟩:=then_ok h
  obtain ⟨e,s6,h4,h⟩:=then_ok h
  obtain ⟨rfl,rfl⟩:=ret_ok h
  have i1:=nam_nB h1
  have i2:=want_nB _ h2
  have i3:=set_nB.list 16 _ _ _ h3
  have i4:=where_nB _ _ _ h4
  simp only at i4
  have e2 : brk (tS { st0 with kind:=2,table:=n,sets:=l,whr:=e }) = sumM (fun x => brk (seT x)) l + brk (whT e):=by
   unfold tS
   rw [if_neg (by show ¬ (2 : Int) = 1; decide),if_pos rfl,wd_brk (by decide),nm_brk,wd_brk (by decide),brk_app,sep_brk]
  omega
 rcases if_ok h with ⟨_,h⟩ | h
 ·unfold delR at h
  obtain ⟨_,s3,h1,h⟩:=then_ok h
  obtain ⟨n,s4,h2,h⟩:=then_ok h
  obtain ⟨e,s5,h3,h⟩:=then_ok h
  obtain ⟨rfl,rfl⟩:=ret_ok h
  have i1:=want_nB _ h1
  have i2:=nam_nB h2
  have i3:=where_nB _ _ _ h3
  simp only at i3
  have e2 : brk (tS { st0 with kind:=3,table:=n,whr:=e }) = brk (whT e):=by
   unfold tS
   rw [if_neg (by show ¬ (3 : Int) = 1; decide),if_neg (by show ¬ (3 : Int) = 2; decide),if_pos rfl,wd_brk (by decide),wd_brk (by decide),nm_brk]
  omega
 rcases if_ok h with ⟨_,h⟩ | h
 ·unfold selR at h
  obtain ⟨l,s3,h1,h⟩:=then_ok h
  obtain ⟨_,s4,h2,h⟩:=then_ok h
  obtain ⟨n,s5,h3,h⟩:=then_ok h
  obtain ⟨j,s6,h4,h⟩:=then_ok h
  obtain ⟨e,s7,h5,h⟩:=then_ok h
  obtain ⟨g,s8,h6,h⟩:=then_ok h
  obtain ⟨o,s9,h7,h⟩:=then_ok h
  obtain ⟨m,s10,h8,h⟩:=then_ok h
  obtain ⟨rfl,rfl⟩:=ret_ok h
  have i1:=star_nB _ _ _ h1
  have i2:=want_nB _ h2
  have i3:=nam_nB h3
  have i4:=join_nB _ _ _ h4
  have i5:=where_nB _ _ _ h5
  have i6:=group_nB _ _ _ h6
  have i7:=order_nB h7
  have i8:=limit_nB h8
  simp only at i1 i4 i5 i6
  have ej : joT ⟨4,n,j.2.1,j.2.2,e,l.2,l.1,[],g,o,m,0,j.1⟩ = joL j.2.1 j.2.2:=rfl
  have es : brk (if l.1 = true then [sgT [42]] else sepT itT l.2) = (if l.1 = true then 0 else sumM (fun e => brk (itT e)) l.2):=by
   split
   ·exact sg_brk (by decide) []
   ·exact sep_brk _ _
  have e2 : brk (tS ⟨4,n,j.2.1,j.2.2,e,l.2,l.1,[],g,o,m,0,j.1⟩) = (if l.1 = true then 0 else sumM (fun e => brk (itT e)) l.2) + (brk (joL j.2.1 j.2.2) + (brk (whT e) + brk (grT g))):=by
   unfold tS
   rw [if_neg (by show ¬ (4 : Int) = 1; decide),if_neg (by show ¬ (4 : Int) = 2; decide),if_neg (by show ¬ (4 : Int) = 3; decide),ej,wd_brk (by decide),brk_app,es,wd_brk (by decide),nm_brk,brk_app,brk_app,brk_app,brk_app,or_brk,li_brk]
   rfl
  omega
 ·cases h

theorem sm_tB {a b : Ex} (h : SmX a b) : tB a = tB b ∧ rankX a = rankX b:=by
 induction h with
 | @mk k o v t n ks ls p q h1 h2 ih =>
  have hm : ks.map tB = ls.map tB:=by
   apply List.ext_getElem
   ·simpa using h1
   ·intro i g1 g2
    simp only [List.getElem_map]
    exact (ih i (by simpa using g1) (by simpa using g2)).1
  have hr : ∀ (n : Nat) (l1 l2 : List Ex),l1.length = l2.length → True:=fun _ _ _ _ => trivial
  refine ⟨?_,rfl⟩
  rw [tB_mk,tB_mk,hm]
  have hk : ∀ i (g1 : i < ks.length) (g2 : i < ls.length),rankX ks[i] = rankX ls[i]:=fun i g1 g2 => (ih i g1 g2).2
  clear hm h2 ih hr
  have hwr : ∀ (need i : Nat) (g1 : i < ks.length) (g2 : i < ls.length) (x : List T),wr need ks[i] x = wr need ls[i] x:=fun need i g1 g2 x => by
   unfold wr
   rw [hk i g1 g2]
  have hrow : ∀ (w : List UInt8) (need : Nat) (k1 l1 : List Ex) (xs : List (List T)),k1.length = l1.length → (∀ i (g1 : i < k1.length) (g2 : i < l1.length),rankX k1[i] = rankX l1[i]) → rowM w need k1 xs = rowM w need l1 xs:=by
   intro w need k1
   induction k1 with
   | nil =>
    intro l1 xs e _
    cases l1 with
    | nil => rfl
    | cons b l1 => simp at e
   | cons a k1 ih =>
    intro l1 xs e hh
    cases l1 with
    | nil => simp at e
    | cons b l1 =>
     cases xs with
     | nil => rfl
     | cons x xs =>
      have e1 : rankX a = rankX b:=hh 0 (by simp) (by simp)
      rw [rowM,rowM,ih l1 xs (by simpa using e) (fun i g1 g2 => hh (i + 1) (by simp; omega) (by simp; omega))]
      unfold wr
      rw [e1]
  cases ks with
  | nil =>
   cases ls with
   | nil => rfl
   | cons b ls => simp at h1
  | cons a ks =>
   cases ls with
   | nil => simp at h1
   | cons b ls =>
    have e1 : ∀ need x,wr need a x = wr need b x:=fun need x => hwr need 0 (by simp) (by simp) x
    have e2 : ∀ w need xs,rowM w need ks xs = rowM w need ls xs:=fun w need xs => hrow w need ks ls xs (by simpa using h1) (fun i g1 g2 => hk (i + 1) (by simp; omega) (by simp; omega))
    unfold tF
    cases ks with
    | nil =>
     cases ls with
     | nil => simp only [List.map_cons,List.map_nil,e1]
     | cons c ls => simp at h1
    | cons c ks =>
     cases ls with
     | nil => simp at h1
     | cons d ls =>
      have e3 : ∀ need x,wr need c x = wr need d x:=fun need x => hwr need 1 (by simp) (by simp) x
      simp only [List.map_cons,e1,e2,e3]

theorem sm_tE {a b : Ex} (h : SmX a b) (n : Nat) : tE n a = tE n b:=by
 obtain ⟨h1,h2⟩:=sm_tB h
 unfold tE wr
 rw [h1,h2]

theorem sm_itT {a b : Ex} (h : SmX a b) : itT a = itT b:=by
 have hE:=sm_tE h 1
 cases h with
 | @mk k o v t n ks ls p q h1 h2 =>
  rw [itT.eq_def,itT.eq_def]
  simp only
  rw [hE]
  congr 1
  cases ks with
  | nil =>
   cases ls with
   | nil => rfl
   | cons b ls => simp at h1
  | cons a ks =>
   cases ls with
   | nil => simp at h1
   | cons b ls =>
    have:=sm_tE (h2 0 (by simp) (by simp)) 1
    simp only [List.getElem_cons_zero] at this
    simp only [this]

theorem sep_sm {α : Type} {f : α → List T} : ∀ {a b : List α},a.length = b.length → (∀ i (h : i < a.length) (h' : i < b.length),f a[i] = f b[i]) → sepT f a = sepT f b
 | [],[],_,_ => rfl
 | [],_ :: _,h,_ => by simp at h
 | _ :: _,[],h,_ => by simp at h
 | [x],[y],_,h => h 0 (by simp) (by simp)
 | [x],_ :: _ :: _,h,_ => by simp at h
 | _ :: _ :: _,[y],h,_ => by simp at h
 | x :: x2 :: a,y :: y2 :: b,e,h => by
  have h1 : f x = f y:=h 0 (by simp) (by simp)
  have h2:=sep_sm (f:=f) (a:=x2 :: a) (b:=y2 :: b) (by simpa using e) (fun i g1 g2 => h (i + 1) (by simp at g1 ⊢; omega) (by simp at g2 ⊢; omega))
  rw [sepT,sepT,h1,h2]

theorem nil_sm {a b : List Ex} (h : SmXs a b) : a = [] ↔ b = []:=by
 rw [← List.length_eq_zero_iff,← List.length_eq_zero_iff,h.1]

theorem sm_tS {a b : St} (h : SmSt a b) : tS a = tS b:=by
 obtain ⟨h1,h2,h3,h4,h5,h6,h7,h8,h9,h10,h11⟩:=h
 have e6 : whT a.whr = whT b.whr:=by
  unfold whT
  obtain ⟨l,k⟩:=h6
  revert l k
  cases a.whr with
  | nil =>
   cases b.whr with
   | nil => intro _ _; rfl
   | cons y l => intro l _; simp at l
  | cons x l =>
   cases b.whr with
   | nil => intro l _; simp at l
   | cons y m =>
    intro _ k
    have:=sm_tE (k 0 (by simp) (by simp)) 1
    simp only [List.getElem_cons_zero] at this
    simp only [this]
 have e5 : joT a = joT b:=by
  unfold joT
  rw [h3]
  obtain ⟨l,k⟩:=h5
  revert l k
  cases a.on with
  | nil =>
   cases b.on with
   | nil => intro _ _; rfl
   | cons y l => intro l _; simp at l
  | cons x l =>
   cases b.on with
   | nil => intro l _; simp at l
   | cons y m =>
    intro _ k
    have:=sm_tE (k 0 (by simp) (by simp)) 1
    simp only [List.getElem_cons_zero] at this
    simp only [this]
 have e8 : grT a.groups = grT b.groups:=by
  unfold grT
  by_cases q : a.groups = []
  ·rw [if_pos q,if_pos ((nil_sm h8).1 q)]
  ·rw [if_neg q,if_neg (fun e => q ((nil_sm h8).2 e)),sep_sm h8.1 fun i g1 g2 => sm_tE (h8.2 i g1 g2) 1]
 have e10 : orT a.sorts = orT b.sorts:=by
  have hs : sepT soT a.sorts = sepT soT b.sorts:=sep_sm h10.1 fun i g1 g2 => by
   obtain ⟨k1,k2⟩:=h10.2 i g1 g2
   unfold soT
   rw [k1,k2]
  unfold orT
  by_cases q : a.sorts = []
  ·have : b.sorts = []:=List.length_eq_zero_iff.1 (by rw [← h10.1,q]; rfl)
   rw [if_pos q,if_pos this]
  ·have : ¬ b.sorts = []:=fun e => q (List.length_eq_zero_iff.1 (by rw [h10.1,e]; rfl))
   rw [if_neg q,if_neg this,hs]
 have e7 : sepT itT a.items = sepT itT b.items:=sep_sm h7.1 fun i g1 g2 => sm_itT (h7.2 i g1 g2)
 have e7' : sepT (tE 1) a.items = sepT (tE 1) b.items:=sep_sm h7.1 fun i g1 g2 => sm_tE (h7.2 i g1 g2) 1
 have e9 : sepT seT a.sets = sepT seT b.sets:=sep_sm h9.1 fun i g1 g2 => by
  obtain ⟨k1,k2⟩:=h9.2 i g1 g2
  unfold seT
  rw [k1,sm_tE k2 1]
 unfold tS
 rw [h1,h2,h4,e5,e6,e7,e7',e8,e9,e10,h11]

def isBk (t : Tk) : Bool:=(decide (t.1 = 4) || decide (t.1 = 7)) && (t.2.2.data.toList == [40])

def isCk (t : Tk) : Bool:=(decide (t.1 = 4) || decide (t.1 = 7)) && (t.2.2.data.toList == [41])

def lpT : Tk:=(7,0,ofL [40])

def rpT : Tk:=(7,0,ofL [41])

def cnt (l : List Tk) : Nat:=l.countP isBk

theorem brk_cnt (l : List T) : brk l = cnt (l.map Prod.fst):=by
 unfold brk cnt
 rw [List.countP_map]
 rfl

theorem sg_bk (b : List UInt8) : isBk (7,0,ofL b) = (b == [40]):=isB_sg b

theorem sg_ck (b : List UInt8) : isCk (7,0,ofL b) = (b == [41]):=by
 show ((decide ((7 : Int) = 4) || decide ((7 : Int) = 7)) && ((ofL b).data.toList == [41])) = _
 rw [list_ofL]
 simp

theorem wd_bk (b : List UInt8) : isBk (4,0,ofL b) = (b == [40]):=isB_wd b

theorem wd_ck (b : List UInt8) : isCk (4,0,ofL b) = (b == [41]):=by
 show ((decide ((4 : Int) = 4) || decide ((4 : Int) = 7)) && ((ofL b).data.toList == [41])) = _
 rw [list_ofL]
 simp

theorem kd_bk {k n : Int} {s : ByteArray} (h4 : k ≠ 4) (h7 : k ≠ 7) : isBk (k,n,s) = false:=by
 show ((decide (k = 4) || decide (k = 7)) && _) = false
 simp [h4,h7]

theorem kd_ck {k n : Int} {s : ByteArray} (h4 : k ≠ 4) (h7 : k ≠ 7) : isCk (k,n,s) = false:=by
 show ((decide (k = 4) || decide (k = 7)) && _) = false
 simp [h4,h7]

def qr : Bool → List UInt8 → Bool
 | q,[] => q
 | q,c :: l => qr (if c = 39 then !q else q) l

def qt : Bool → List UInt8 → Prop
 | q,[] => q = false
 | q,c :: l => ((c = 40 ∨ c = 41) → q = true) ∧ qt (if c = 39 then !q else q) l

def bdp : Bool → List UInt8 → Int
 | _,[] => 0
 | q,c :: l => (if q = true then 0 else if c = 40 then 1 else if c = 41 then -1 else 0) + bdp (if c = 39 then !q else q) l

theorem qr_app : ∀ (a b : List UInt8) (q : Bool),qr q (a ++ b) = qr (qr q a) b
 | [],_,_ => rfl
 | c :: a,b,q => by
  rw [List.cons_append,qr,qr,qr_app a b]

theorem bdp_app : ∀ (a b : List UInt8) (q : Bool),bdp q (a ++ b) = bdp q a + bdp (qr q a) b
 | [],b,q => by simp [bdp,qr]
 | c :: a,b,q => by
  rw [List.cons_append,bdp,bdp,qr,bdp_app a b]
  omega

theorem qt_end : ∀ (a : List UInt8) (q : Bool),qt q a → qr q a = false
 | [],_,h => h
 | _ :: a,_,h => qt_end a _ h.2

theorem qt_at : ∀ (a : List UInt8) (q : Bool),qt q a → ∀ i c,(c = 40 ∨ c = 41) → a[i]? = some c → qr q (a.take i) = true
 | [],q,h,i,c,_,e => by simp at e
 | d :: a,q,h,0,c,hc,e => by
  simp at e
  subst e
  exact h.1 hc
 | d :: a,q,h,i + 1,c,hc,e => by
  rw [List.take_succ_cons,qr]
  exact qt_at a _ h.2 i c hc (by simpa using e)

theorem qt_bdp : ∀ (a : List UInt8) (q : Bool),qt q a → ∀ i,bdp q (a.take i) = 0
 | [],q,h,i => by simp [bdp]
 | d :: a,q,h,0 => by simp [bdp]
 | d :: a,q,h,i + 1 => by
  rw [List.take_succ_cons,bdp,qt_bdp a _ h.2 i]
  by_cases hq : q = true
  ·rw [if_pos hq]
   rfl
  ·rw [if_neg hq,if_neg (fun e => hq (h.1 (Or.inl e))),if_neg (fun e => hq (h.1 (Or.inr e)))]
   rfl

theorem qt_plain : ∀ (a : List UInt8),(∀ c ∈ a,c ≠ 39 ∧ c ≠ 40 ∧ c ≠ 41) → qt false a
 | [],_ => rfl
 | c :: a,h => by
  obtain ⟨h1,h2,h3⟩:=h c (by simp)
  refine ⟨fun e => ?_,?_⟩
  ·rcases e with e | e
   ·exact absurd e h2
   ·exact absurd e h3
  ·rw [if_neg h1]
   exact qt_plain a fun d hd => h d (by simp [hd])

inductive Pcs : List UInt8 → List Tk → Prop
 | nil : Pcs [] [(1,0,⟨#[]⟩)]
 | blank {y : List UInt8} {ts : List Tk} : Pcs y ts → Pcs (32 :: y) ts
 | opn {y : List UInt8} {ts : List Tk} : Pcs y ts → Pcs (40 :: y) (lpT :: ts)
 | shut {y : List UInt8} {ts : List Tk} : Pcs y ts → Pcs (41 :: y) (rpT :: ts)
 | pc {c : UInt8} {q y : List UInt8} {t : Tk} {ts : List Tk} (hf : ∀ y',(y'.head? = y.head? ∨ y'.head? = some 32) → skp false ((c :: q) ++ y') = 0 ∧ pieceN ((c :: q) ++ y') = (c :: q).length) (ht : tokR (c :: q) = (t,0)) (hq : qt false (c :: q)) (hb : isBk t = false) (hc : isCk t = false) : Pcs y ts → Pcs ((c :: q) ++ y) (t :: ts)

theorem Pcs.lx {x : List UInt8} {ts : List Tk} (h : Pcs x ts) : Lx x ts:=by
 induction h with
 | nil => exact lx_nil
 | blank _ ih => exact lx_blank ih
 | opn _ ih => exact lx_sg1 (by decide) (by decide) (by decide) (Or.inl (by decide)) ih
 | shut _ ih => exact lx_sg1 (by decide) (by decide) (by decide) (Or.inl (by decide)) ih
 | @pc c q y t ts hf ht hq hb hc _ ih =>
  obtain ⟨h1,h2⟩:=hf y (Or.inl rfl)
  exact lx_piece h1 h2 ht ih

theorem head_set (y : List UInt8) (j : Nat) : (y.set j 32).head? = y.head? ∨ (y.set j 32).head? = some 32:=by
 cases y with
 | nil => exact Or.inl rfl
 | cons c y =>
  cases j with
  | zero => exact Or.inr rfl
  | succ j => exact Or.inl rfl

theorem Pcs.off {x : List UInt8} {ts : List Tk} (h : Pcs x ts) : ∀ i c,(c = 40 ∨ c = 41) → x[i]? = some c → qr false (x.take i) = false → ∃ ts',Pcs (x.set i 32) ts' ∧ cnt ts' + (if c = 40 then 1 else 0) = cnt ts:=by
 induction h with
 | nil => intro i c _ e; simp at e
 | @blank y ts _ ih =>
  intro i c hc e hq
  cases i with
  | zero =>
   simp at e
   subst e
   rcases hc with hc | hc <;> exact absurd hc (by decide)
  | succ j =>
   rw [List.take_succ_cons,qr,if_neg (by decide)] at hq
   obtain ⟨ts',h1,h2⟩:=ih j c hc (by simpa using e) hq
   exact ⟨ts',h1.blank,h2⟩
 | @opn y ts hy ih =>
  intro i c hc e hq
  cases i with
  | zero =>
   simp at e
   subst e
   refine ⟨ts,hy.blank,?_⟩
   show _ = cnt (lpT :: ts)
   rw [cnt,cnt,List.countP_cons,lpT,sg_bk]
   rfl
  | succ j =>
   rw [List.take_succ_cons,qr,if_neg (by decide)] at hq
   obtain ⟨ts',h1,h2⟩:=ih j c hc (by simpa using e) hq
   refine ⟨lpT :: ts',h1.opn,?_⟩
   unfold cnt at h2 ⊢
   rw [List.countP_cons,List.countP_cons]
   omega
 | @shut y ts hy ih =>
  intro i c hc e hq
  cases i with
  | zero =>
   simp at e
   subst e
   refine ⟨ts,hy.blank,?_⟩
   show _ = cnt (rpT :: ts)
   rw [cnt,cnt,List.countP_cons,rpT,sg_bk]
   rfl
  | succ j =>
   rw [List.take_succ_cons,qr,if_neg (by decide)] at hq
   obtain ⟨ts',h1,h2⟩:=ih j c hc (by simpa using e) hq
   refine ⟨rpT :: ts',h1.shut,?_⟩
   unfold cnt at h2 ⊢
   rw [List.countP_cons,List.countP_cons]
   omega
 | @pc d q y t ts hf ht hqt hb hck hy ih =>
  intro i c hc e hq
  by_cases hi : i < (d :: q).length
  ·exfalso
   rw [List.getElem?_append_left hi] at e
   rw [List.take_append_of_le_length (Nat.le_of_lt hi),qt_at _ _ hqt i c hc e] at hq
   cases hq
  ·obtain ⟨j,rfl⟩:=Nat.exists_eq_add_of_le (Nat.le_of_not_lt hi)
   rw [List.getElem?_append_right (by omega),Nat.add_sub_cancel_left] at e
   rw [List.take_length_add_append,qr_app,qt_end _ _ hqt] at hq
   obtain ⟨ts',h1,h2⟩:=ih j c hc e hq
   have e1 : ((d :: q) ++ y).set ((d :: q).length + j) 32 = (d :: q) ++ y.set j 32:=by
    rw [List.set_append_right _ _ (by omega),Nat.add_sub_cancel_left]
   rw [e1]
   refine ⟨t :: ts',Pcs.pc (fun y' hy' => hf y' ?_) ht hqt hb hck h1,?_⟩
   ·rcases hy' with hy' | hy'
    ·rw [hy']
     exact head_set y j
    ·exact Or.inr hy'
   ·unfold cnt at h2 ⊢
    rw [List.countP_cons,List.countP_cons,if_neg (by rw [hb]; decide)]
    omega

def td : List Tk → Int
 | [] => 0
 | t :: l => (if isBk t = true then 1 else if isCk t = true then -1 else 0) + td l

theorem td_app : ∀ a b,td (a ++ b) = td a + td b
 | [],b => by simp [td]
 | t :: a,b => by
  rw [List.cons_append,td,td,td_app a b]
  omega

theorem td_lp (l : List Tk) : td (lpT :: l) = 1 + td l:=by
 rw [td,lpT,sg_bk,if_pos (by decide)]

theorem td_rp (l : List Tk) : td (rpT :: l) = -1 + td l:=by
 rw [td,rpT,sg_bk,if_neg (by decide),sg_ck,if_pos (by decide)]

theorem td_no {t : Tk} (hb : isBk t = false) (hc : isCk t = false) (l : List Tk) : td (t :: l) = td l:=by
 rw [td,hb,hc]
 simp

theorem Pcs.dp {x : List UInt8} {ts : List Tk} (h : Pcs x ts) : bdp false x = td ts ∧ ∀ i,∃ k,bdp false (x.take i) = td (ts.take k):=by
 induction h with
 | nil => exact ⟨by rw [td_no (kd_bk (by decide) (by decide)) (kd_ck (by decide) (by decide))]; rfl,fun i => ⟨0,by simp [bdp,td]⟩⟩
 | @blank y ts _ ih =>
  have e : ∀ l,bdp false (32 :: l) = bdp false l:=fun l => by
   rw [bdp]
   simp
  refine ⟨by rw [e]; exact ih.1,fun i => ?_⟩
  cases i with
  | zero => exact ⟨0,rfl⟩
  | succ j =>
   obtain ⟨k,hk⟩:=ih.2 j
   exact ⟨k,by rw [List.take_succ_cons,e]; exact hk⟩
 | @opn y ts _ ih =>
  have e : ∀ l,bdp false (40 :: l) = 1 + bdp false l:=fun l => by
   rw [bdp]
   simp
  refine ⟨by rw [e,td_lp,ih.1],fun i => ?_⟩
  cases i with
  | zero => exact ⟨0,rfl⟩
  | succ j =>
   obtain ⟨k,hk⟩:=ih.2 j
   exact ⟨k + 1,by rw [List.take_succ_cons,List.take_succ_cons,e,td_lp,hk]⟩
 | @shut y ts _ ih =>
  have e : ∀ l,bdp false (41 :: l) = -1 + bdp false l:=fun l => by
   rw [bdp]
   simp
  refine ⟨by rw [e,td_rp,ih.1],fun i => ?_⟩
  cases i with
  | zero => exact ⟨0,rfl⟩
  | succ j =>
   obtain ⟨k,hk⟩:=ih.2 j
   exact ⟨k + 1,by rw [List.take_succ_cons,List.take_succ_cons,e,td_rp,hk]⟩
 | @pc d q y t ts hf ht hqt hb hck hy ih =>
  have h0 : bdp false (d :: q) = 0:=by
   have:=qt_bdp _ _ hqt (d :: q).length
   rwa [List.take_length] at this
  refine ⟨by rw [bdp_app,h0,qt_end _ _ hqt,td_no hb hck,ih.1]; omega,fun i => ?_⟩
  by_cases hi : i ≤ (d :: q).length
  ·exact ⟨0,by rw [List.take_append_of_le_length hi,qt_bdp _ _ hqt]; rfl⟩
  ·obtain ⟨j,rfl⟩:=Nat.exists_eq_add_of_le (Nat.le_of_lt (Nat.lt_of_not_le hi))
   obtain ⟨k,hk⟩:=ih.2 j
   exact ⟨k + 1,by rw [List.take_length_add_append,bdp_app,h0,qt_end _ _ hqt,List.take_succ_cons,td_no hb hck,hk]; omega⟩

def Bal (l : List Tk) : Prop:=td l = 0 ∧ ∀ k,0 ≤ td (l.take k)

theorem Bal.nil : Bal []:=⟨rfl,fun k => by simp [td]⟩

theorem Bal.app {a b : List Tk} (h : Bal a) (g : Bal b) : Bal (a ++ b):=by
 refine ⟨by rw [td_app,h.1,g.1]; rfl,fun k => ?_⟩
 rw [List.take_append,td_app]
 have:=h.2 k
 have:=g.2 (k - a.length)
 omega

theorem Bal.no {t : Tk} {l : List Tk} (hb : isBk t = false) (hc : isCk t = false) (h : Bal l) : Bal (t :: l):=by
 refine ⟨by rw [td_no hb hc]; exact h.1,fun k => ?_⟩
 cases k with
 | zero => exact Int.le_refl 0
 | succ k =>
  rw [List.take_succ_cons,td_no hb hc]
  exact h.2 k

theorem Bal.wrap {b l : List Tk} (h : Bal b) (g : Bal l) : Bal (lpT :: (b ++ rpT :: l)):=by
 refine ⟨by rw [td_lp,td_app,td_rp,h.1,g.1]; rfl,fun k => ?_⟩
 cases k with
 | zero => exact Int.le_refl 0
 | succ k =>
  rw [List.take_succ_cons,td_lp,List.take_append,td_app]
  have h1:=h.2 k
  cases hm : k - b.length with
  | zero =>
   simp only [List.take_zero,td]
   omega
  | succ m =>
   rw [List.take_succ_cons,td_rp]
   have h2:=g.2 m
   omega
end Go.Proofs.YtbfjmccpcbhljaaGreatDoor
