/- M131 M132 M133 M134 -/
import Derived.Test.YtbfjmccpcbhljaaGreatDoorTA99
import Derived.Test.YtbfjmccpcbhljaaGreatDoorTM114
import Derived.Test.YtbfjmccpcbhljaaGreatDoorTA94
namespace Go.Proofs.YtbfjmccpcbhljaaGreatDoor
open Go Go.RowKit
structure TkOk (N : Nat) (t : T) : Prop where
 le : t.2 ≤ N
 lt : t.1.1 ≠ 1 → t.2 < N
 name : t.1.1 = 3 → isName t.1.2.2 = true
 param : t.1.1 = 6 → isName t.1.2.2 = true
 num : t.1.1 = 2 → 0 ≤ t.1.2.1 ∧ t.1.2.1 ≤ 4611686018427387904
 text : t.1.1 = 5 → t.1.2.2.size ≤ 64

theorem tk_num {c : UInt8} {l : List UInt8} (h : cls c = 4) (h2 : (parR (c :: l)).2 = 0) : 0 ≤ (parR (c :: l)).1.2.1 ∧ (parR (c :: l)).1.2.1 ≤ 4611686018427387904:=by
 by_cases hv : ∃ v,LitOf (c :: l) v
 ·obtain ⟨v,hv⟩:=hv
  rw [parR_ok hv]
  obtain ⟨hr,hl⟩:=hv
  have hd : 48 ≤ c.toNat ∧ c.toNat ≤ 57:=by
   unfold cls at h
   repeat' split at h
   all_goals first | omega | skip
  rcases rt_kind hr with k | k | k | k
  ·rw [lit_null k] at hl
   injection hl with e _
   rw [← e] at hd
   exact absurd hd (by decide)
  ·obtain ⟨h1,h3,_⟩:=rt_num hr k
   refine ⟨?_,h3⟩
   apply Int.not_lt.1
   intro hn
   rw [lit_int k] at hl
   unfold Lib.itoa at hl
   rw [if_pos hn] at hl
   injection hl with e _
   rw [← e] at hd
   exact absurd hd (by decide)
  ·unfold lit at hl
   rw [if_neg (by omega),if_pos k] at hl
   split at hl
   all_goals
    injection hl with e _
    rw [← e] at hd
    exact absurd hd (by decide)
  ·rw [lit_text k,quo] at hl
   injection hl with e _
   rw [← e] at hd
   exact absurd hd (by decide)
 ·rw [parR_no fun v hv2 => hv ⟨v,hv2⟩] at h2
  exact absurd h2 (by decide)

theorem tk_text {c : UInt8} {l : List UInt8} (h2 : (parR (c :: l)).2 = 0) : (parR (c :: l)).1.2.2.size ≤ 64:=by
 by_cases hv : ∃ v,LitOf (c :: l) v
 ·obtain ⟨v,hv⟩:=hv
  rw [parR_ok hv]
  have hr:=hv.1
  unfold V3.right rgt at hr
  show v.2.2.size ≤ 64
  have key : v.2.2.toList.isEmpty = true → v.2.2.size ≤ 64:=fun h => by
   rw [ByteArray.toList_eq,List.isEmpty_iff] at h
   have : v.2.2.size = v.2.2.data.toList.length:=by simp
   rw [this,h]
   simp
  repeat' split at hr
  ·simp only [Bool.and_eq_true] at hr; exact key hr.2
  ·simp only [Bool.and_eq_true] at hr; exact key hr.2
  ·simp only [Bool.and_eq_true] at hr; exact key hr.2
  ·simp only [Bool.and_eq_true,decide_eq_true_eq] at hr; omega
  ·exact absurd hr (by decide)
 ·rw [parR_no fun v hv2 => hv ⟨v,hv2⟩] at h2
  exact absurd h2 (by decide)

theorem tokR_ok {N a : Nat} {c : UInt8} {l : List UInt8} {t : Tk} (h : tokR (c :: l) = (t,0)) (ha : a < N) : TkOk N (t,a):=by
 refine ⟨Nat.le_of_lt ha,fun _ => ha,?_,?_,?_,?_⟩
 all_goals
  intro hk
  simp only [tokR] at h
  simp only at hk ⊢
  repeat' split at h
  all_goals obtain ⟨rfl,hz⟩:=Prod.mk.inj h
  all_goals first | (exact absurd hz (by decide)) | (exfalso; revert hk; simp; done) | assumption | skip
 ·rename_i h4 h5
  exact tk_num h4 h5
 ·rename_i h5
  exact tk_text h5

theorem toks_tk {S l : List UInt8} {a : Nat} {ts : List T} (h : Toks l a ts) (hl : l.length = S.length - a) (ha : a ≤ S.length) : ∀ t ∈ ts,TkOk S.length t:=by
 induction h with
 | @fin l a h =>
  intro t ht
  simp only [List.mem_singleton] at ht
  subst ht
  have:=skp_le l false
  exact ⟨by show a + skp false l ≤ _; omega,fun h => absurd rfl h,fun h => absurd h (by simp),fun h => absurd h (by simp),fun h => absurd h (by simp),fun h => absurd h (by simp)⟩
 | @more l a t ts h1 h2 h3 ih =>
  obtain ⟨c,q,hq,hp⟩:=pce_cons h1
  have hpos:=pieceN_pos c q
  have hle:=pieceN_le (skipL l)
  have hsl:=skipL_len l
  have hsk:=skp_le l false
  rw [← hq] at hpos
  have hr : (rst l).length = (skipL l).length - pieceN (skipL l):=by simp [rst]
  intro u hu
  rcases List.mem_cons.1 hu with rfl | hu
  ·rw [hp] at h2
   exact tokR_ok h2 (by omega)
  ·exact ih (by omega) (by omega) u hu

structure Iv (N : Nat) (s : PS) : Prop where
 tk : ∀ t ∈ s.rest,TkOk N t
 at0 : 0 ≤ s.place
 atN : s.place ≤ N

theorem Iv.hd {N : Nat} {s : PS} (h : Iv N s) : TkOk N s.hd:=by
 unfold PS.hd
 cases hr : s.rest with
 | nil => exact ⟨Nat.zero_le _,fun h => absurd rfl h,fun h => absurd h (by simp),fun h => absurd h (by simp),fun h => absurd h (by simp),fun h => absurd h (by simp)⟩
 | cons t l => exact h.tk t (by rw [hr]; simp)

theorem Iv.next {N : Nat} {s : PS} (h : Iv N s) : Iv N s.next:=⟨fun t ht => h.tk t (List.mem_of_mem_tail ht),h.at0,h.atN⟩

theorem Iv.cnt {N : Nat} {s : PS} (h : Iv N s) (n m : Nat) : Iv N (s.cnt n m):=by
 unfold PS.cnt
 split
 ·exact ⟨h.tk,by show (0 : Int) ≤ (s.hd.2 : Int); omega,by have:=h.hd.le; show (s.hd.2 : Int) ≤ N; omega⟩
 ·exact h

theorem cnt_code {s : PS} {n m : Nat} (h : (s.cnt n m).code = 0) : s.code = 0 ∧ n ≠ m:=by
 unfold PS.cnt at h
 split at h
 ·exact absurd h (by show ¬ (112 : Int) = 0; decide)
 ·rename_i c
  exact ⟨h,fun e => c ⟨e,h⟩⟩

def Inv (N : Nat) {α : Type} (P : α → Prop) (f : Rd_ α) : Prop:=∀ s,Iv N s → (∀ p,f s (.bad p) → p ≤ N) ∧ ∀ a s1,f s (.ok a s1) → Iv N s1 ∧ (s1.code = 0 → s.code = 0 ∧ P a)

theorem Inv.ret {N : Nat} {α : Type} {P : α → Prop} {a : α} (h : P a) : Inv N P (retR a):=fun s hs => ⟨fun p hp => (by cases hp),fun b s1 k => by injection k with e1 e2; subst e1 e2; exact ⟨hs,fun h0 => ⟨h0,h⟩⟩⟩

theorem Inv.none {N : Nat} {α : Type} {P : α → Prop} : Inv N P badR:=fun s hs => ⟨fun p hp => by injection hp with e; rw [e]; exact hs.hd.le,fun b s1 k => by cases k⟩

theorem Inv.bind {N : Nat} {α β : Type} {P : α → Prop} {Q : β → Prop} {f : Rd_ α} {g : α → Rd_ β} (hf : Inv N P f) (hg : ∀ a,Inv N (fun b => P a → Q b) (g a)) : Inv N Q (thenR f g):=by
 intro s hs
 constructor
 ·rintro p (⟨q,h,e⟩ | ⟨a,s1,h,k⟩)
  ·injection e with e
   rw [e]
   exact (hf s hs).1 q h
  ·exact (hg a s1 ((hf s hs).2 a s1 h).1).1 p k
 ·rintro b s2 (⟨q,h,e⟩ | ⟨a,s1,h,k⟩)
  ·cases e
  ·obtain ⟨i1,k1⟩:=(hf s hs).2 a s1 h
   obtain ⟨i2,k2⟩:=(hg a s1 i1).2 b s2 k
   exact ⟨i2,fun h0 => ⟨(k1 (k2 h0).1).1,(k2 h0).2 (k1 (k2 h0).1).2⟩⟩

theorem Inv.if {N : Nat} {α : Type} {P : α → Prop} {x : List UInt8} {f g : Rd_ α} (hf : Inv N P f) (hg : Inv N P g) : Inv N P (ifR x f g):=by
 intro s hs
 unfold ifR
 by_cases c : s.sees x = true
 ·simp only [if_pos c]; exact hf s.next hs.next
 ·simp only [if_neg c]; exact hg s hs

theorem Inv.mono {N : Nat} {α : Type} {P Q : α → Prop} {f : Rd_ α} (h : Inv N P f) (k : ∀ a,P a → Q a) : Inv N Q f:=fun s hs => ⟨(h s hs).1,fun a s1 h1 => ⟨((h s hs).2 a s1 h1).1,fun h0 => ⟨(((h s hs).2 a s1 h1).2 h0).1,k a (((h s hs).2 a s1 h1).2 h0).2⟩⟩⟩

theorem Inv.want (N : Nat) : ∀ l,Inv N (fun _ => True) (wantR l)
 | [] => Inv.ret trivial
 | x :: l => fun s hs => by
  unfold wantR
  rw [needsR]
  by_cases c : s.sees x = true
  ·rw [if_pos c]; exact Inv.want N l s.next hs.next
  ·rw [if_neg c]; exact Inv.none (α:=Unit) s hs

theorem Inv.nam (N : Nat) : Inv N (fun n => isName n = true) namR:=fun s hs => by
 unfold namR nameR
 split
 ·rename_i c
  exact ⟨fun p hp => by (cases hp),fun b s1 k => by injection k with e1 e2; subst e1 e2; exact ⟨hs.next,fun h0 => ⟨h0,hs.hd.name c⟩⟩⟩
 ·exact Inv.none (α:=ByteArray) s hs

def RtN (n : Int) : Prop:=0 ≤ n ∧ n ≤ 4611686018427387904

theorem Inv.num (N : Nat) : Inv N (fun t => RtN t.1.2.1) numR:=fun s hs => by
 unfold numR
 split
 ·rename_i c
  exact ⟨fun p hp => by (cases hp),fun b s1 k => by injection k with e1 e2; subst e1 e2; exact ⟨hs.next,fun h0 => ⟨h0,hs.hd.num c⟩⟩⟩
 ·exact Inv.none (α:=T) s hs

def Wi (lo hi : Nat) {α : Type} (P : α → Prop) (l : List α) : Prop:=lo ≤ l.length ∧ l.length ≤ hi ∧ ∀ i (h : i < l.length),P l[i]

theorem Inv.list {N : Nat} {α : Type} {P : α → Prop} {f : Rd_ α} (hf : Inv N P f) (most : Nat) : Inv N (Wi 1 most P) (listR f most):=by
 have key : ∀ acc s r,LsR f most acc s r → Iv N s → (∀ p,r = .bad p → p ≤ N) ∧ ∀ l s1,r = .ok l s1 → Iv N s1 ∧ (s1.code = 0 → s.code = 0 ∧ (acc.length ≤ most → (∀ x ∈ acc,P x) → 1 ≤ l.length ∧ l.length ≤ most ∧ ∀ x ∈ l,P x)):=by
  intro acc s r h
  induction h with
  | @bad acc s p h =>
   intro hs
   refine ⟨fun q e => ?_,fun l s1 e => by cases e⟩
   injection e with e
   subst e
   exact (hf _ (hs.cnt _ _)).1 _ h
  | @last acc s s1 a h hsee =>
   intro hs
   refine ⟨fun q e => (by cases e),fun l s1' e => ?_⟩
   injection e with e1 e2
   subst e1 e2
   obtain ⟨i1,k1⟩:=(hf _ (hs.cnt _ _)).2 _ _ h
   refine ⟨i1,fun h0 => ?_⟩
   obtain ⟨c0,pa⟩:=k1 h0
   obtain ⟨c1,c2⟩:=cnt_code c0
   refine ⟨c1,fun hl hx => ⟨by simp,by simp; omega,fun x hx2 => ?_⟩⟩
   rcases List.mem_append.1 hx2 with hx2 | hx2
   ·exact hx x hx2
   ·rw [List.mem_singleton] at hx2; rw [hx2]; exact pa
  | @more acc s s1 a r h hsee _ ih =>
   intro hs
   obtain ⟨i1,k1⟩:=(hf _ (hs.cnt _ _)).2 _ _ h
   obtain ⟨j1,j2⟩:=ih i1.next
   refine ⟨j1,fun l s2 e => ⟨(j2 l s2 e).1,fun h0 => ?_⟩⟩
   obtain ⟨c0,k⟩:=(j2 l s2 e).2 h0
   obtain ⟨c00,pa⟩:=k1 c0
   obtain ⟨c1,c2⟩:=cnt_code c00
   refine ⟨c1,fun hl hx => k (by simp; omega) fun x hx2 => ?_⟩
   rcases List.mem_append.1 hx2 with hx2 | hx2
   ·exact hx x hx2
   ·rw [List.mem_singleton] at hx2; rw [hx2]; exact pa
 intro s hs
 refine ⟨fun p hp => (key [] s _ hp hs).1 p rfl,fun l s1 h => ?_⟩
 obtain ⟨i1,k⟩:=(key [] s _ h hs).2 l s1 rfl
 refine ⟨i1,fun h0 => ⟨(k h0).1,?_⟩⟩
 obtain ⟨a,b,c⟩:=(k h0).2 (Nat.zero_le _) (fun x hx => absurd hx (by simp))
 exact ⟨a,b,fun i hi => c _ (List.getElem_mem hi)⟩

theorem rt_over {k op a b : Int} {c d p : Nat} {ks : List Ex} (h1 : 4 ≤ k) (hf : formK k = (a,b,c,d)) (h3 : a ≤ op) (h4 : op ≤ b) (h5 : c ≤ ks.length) (h6 : ks.length ≤ d) (h7 : ∀ x ∈ ks,RtE x) : RtI (over k op p ks):=by
 refine RtI.iff.2 ?_
 rw [hf]
 refine ⟨h3,h4,⟨h5,h6,fun i hi => h7 _ (List.getElem_mem hi)⟩,?_⟩
 exact ⟨fun e => by omega,fun e => by omega,fun e => by omega,fun _ _ _ => ⟨rfl,rfl,rfl,rfl,rfl⟩⟩

theorem rte_over {k op a b : Int} {c d p : Nat} {ks : List Ex} (h1 : 4 ≤ k) (h2 : k ≤ 10) (hf : formK k = (a,b,c,d)) (h3 : a ≤ op) (h4 : op ≤ b) (h5 : c ≤ ks.length) (h6 : ks.length ≤ d) (h7 : ∀ x ∈ ks,RtE x) : RtE (over k op p ks):=⟨by show ¬ (k = 11 ∨ k = 12 ∨ k = 13 ∨ k = 14); omega,rt_over h1 hf h3 h4 h5 h6 h7⟩

theorem op_cmp (s : PS) (h : opOf s cmpO ≠ 0) : 1 ≤ opOf s cmpO ∧ opOf s cmpO ≤ 6:=by
 revert h
 simp only [cmpO,opOf]
 repeat' split
 all_goals simp

theorem op_sum (s : PS) (h : opOf s sumO ≠ 0) : 1 ≤ opOf s sumO ∧ opOf s sumO ≤ 5:=by
 revert h
 simp only [sumO,opOf]
 repeat' split
 all_goals simp

theorem op_prod (s : PS) (h : opOf s prodO ≠ 0) : 1 ≤ opOf s prodO ∧ opOf s prodO ≤ 5:=by
 revert h
 simp only [prodO,opOf]
 repeat' split
 all_goals simp

theorem rte_leaf {k : Int} {v : V3} {t n : ByteArray} {p : Int} (h : k = 1 ∨ k = 2 ∨ k = 3) (hw : wdOk (.mk k 0 v t n [] p)) : RtE (.mk k 0 v t n [] p):=by
 refine ⟨by show ¬ (k = 11 ∨ k = 12 ∨ k = 13 ∨ k = 14); omega,RtI.iff.2 ?_⟩
 have e : formK k = (0,0,0,0):=by unfold formK; rw [if_pos (by omega)]
 rw [e]
 exact ⟨by decide,by decide,⟨Nat.zero_le _,Nat.le_refl _,fun i hi => absurd hi (by simp)⟩,hw⟩

def RtC (e : Ex) : Prop:=kindOf e = 3 ∧ RtE e

theorem Inv.colm (N : Nat) : Inv N RtC colmR:=fun s hs => by
 unfold colmR colR
 cases hn : nameR s with
 | bad p => exact ⟨fun q e => by injection e with e; rw [e]; exact (Inv.nam N s hs).1 p hn.symm,fun b s1 k => by cases k⟩
 | ok a s1 =>
  obtain ⟨i1,k1⟩:=(Inv.nam N s hs).2 a s1 hn.symm
  simp only
  by_cases c : s1.sees [46] = true
  ·simp only [if_pos c]
   cases hm : nameR s1.next with
   | bad p => exact ⟨fun q e => by injection e with e; rw [e]; exact (Inv.nam N s1.next i1.next).1 p hm.symm,fun b s1 k => by cases k⟩
   | ok b s2 =>
    obtain ⟨i2,k2⟩:=(Inv.nam N s1.next i1.next).2 b s2 hm.symm
    refine ⟨fun q e => (by cases e),fun x s3 e => ?_⟩
    injection e with e1 e2
    subst e1 e2
    refine ⟨i2,fun h0 => ⟨(k1 (k2 h0).1).1,rfl,rte_leaf (by omega) ?_⟩⟩
    exact ⟨fun h => absurd h (by decide),fun h => absurd h (by decide),fun _ => ⟨Or.inr (k1 (k2 h0).1).2,(k2 h0).2,rfl,rfl,rfl⟩,fun _ _ h => absurd rfl h⟩
  ·simp only [if_neg c]
   refine ⟨fun q e => (by cases e),fun x s3 e => ?_⟩
   injection e with e1 e2
   subst e1 e2
   refine ⟨i1,fun h0 => ⟨(k1 h0).1,rfl,rte_leaf (by omega) ?_⟩⟩
   exact ⟨fun h => absurd h (by decide),fun h => absurd h (by decide),fun _ => ⟨Or.inl rfl,(k1 h0).2,rfl,rfl,rfl⟩,fun _ _ h => absurd rfl h⟩

theorem Inv.lit (N : Nat) : Inv N litOk (fun s r => r = litR s):=fun s hs => by
 unfold litR
 have ok : ∀ v,litOk v → (∀ p,Res.bad p = Res.ok v s.next → p ≤ N) ∧ ∀ a s1,Res.ok a s1 = Res.ok v s.next → Iv N s1 ∧ (s1.code = 0 → s.code = 0 ∧ litOk a):=fun v hv => ⟨fun p e => (by cases e),fun a s1 e => by injection e with e1 e2; subst e1 e2; exact ⟨hs.next,fun h0 => ⟨h0,hv⟩⟩⟩
 by_cases c1 : s.sees wNull = true
 ·simp only [if_pos c1]
  exact ok v0 ⟨by unfold v0 rgt; simp,Int.le_refl _⟩
 by_cases c2 : s.sees wFalse = true
 ·simp only [if_neg c1,if_pos c2]
  exact ok (2,0,⟨#[]⟩) ⟨by unfold rgt; simp,Int.le_refl _⟩
 by_cases c3 : s.sees wTrue = true
 ·simp only [if_neg c1,if_neg c2,if_pos c3]
  exact ok (2,1,⟨#[]⟩) ⟨by unfold rgt; simp,by decide⟩
 by_cases c4 : s.hd.1.1 = 5
 ·simp only [if_neg c1,if_neg c2,if_neg c3,if_pos c4]
  have:=hs.hd.text c4
  exact ok (3,0,s.hd.1.2.2) ⟨by unfold rgt; simp; omega,Int.le_refl _⟩
 by_cases c5 : s.hd.1.1 = 2
 ·simp only [if_neg c1,if_neg c2,if_neg c3,if_neg c4,if_pos c5]
  obtain ⟨h1,h2⟩:=hs.hd.num c5
  exact ok (1,s.hd.1.2.1,⟨#[]⟩) ⟨by unfold rgt; simp [h2]; omega,h1⟩
 ·simp only [if_neg c1,if_neg c2,if_neg c3,if_neg c4,if_neg c5]
  exact Inv.none (α:=V3) s hs

def Gok : Gl → PS → Prop
 | .rowL b _ acc,s => acc.length ≤ 8 ∧ (∀ x ∈ acc,RtE x) ∧ 1 ≤ acc.length ∧ (acc.length = 1 → s.sees (if b = true then wOr else wAnd) = true)
 | .sumL l,_ => RtE l
 | .prodL l,_ => RtE l
 | _,_ => True

def Ans (N : Nat) (s : PS) (G : Prop) (r : Res Ex) : Prop:=(∀ p,r = .bad p → p ≤ N) ∧ ∀ a s1,r = .ok a s1 → Iv N s1 ∧ (s1.code = 0 → s.code = 0 ∧ (G → RtE a))

theorem Ans.bad {N : Nat} {s : PS} {G : Prop} {p : Nat} (h : p ≤ N) : Ans N s G (.bad p):=⟨fun q e => by injection e with e; rw [← e]; exact h,fun a s1 e => by cases e⟩

theorem Ans.ok {N : Nat} {s s1 : PS} {G : Prop} {e : Ex} (hs : Iv N s1) (h : s1.code = 0 → s.code = 0 ∧ (G → RtE e)) : Ans N s G (.ok e s1):=⟨fun q e => (by cases e),fun a s2 k => by injection k with e1 e2; subst e1 e2; exact ⟨hs,h⟩⟩

theorem Ans.bind {N : Nat} {s s0 : PS} {G G0 : Prop} {x : Option (Res Ex)} {f : Ex → PS → Option (Res Ex)} {r : Res Ex} (hx : ∀ r,x = some r → Ans N s0 G0 r) (hG : G → G0) (h0 : s0.code = 0 → s.code = 0) (hf : ∀ a s1 r,f a s1 = some r → Iv N s1 → (s1.code = 0 → s.code = 0) → (s1.code = 0 → G → RtE a) → Ans N s G r) (h : bindR x f = some r) : Ans N s G r:=by
 rcases bindR_some h with ⟨p,e,rfl⟩ | ⟨a,s1,e,h⟩
 ·exact Ans.bad ((hx _ e).1 p rfl)
 ·obtain ⟨i1,k1⟩:=(hx _ e).2 a s1 rfl
  exact hf a s1 r h i1 (fun c => h0 (k1 c).1) (fun c g => (k1 c).2 (hG g))

theorem Ans.of {N : Nat} {s s0 : PS} {G G0 : Prop} {r : Res Ex} (h : Ans N s0 G0 r) (h0 : s0.code = 0 → s.code = 0) (hG : s0.code = 0 → G → G0) : Ans N s G r:=⟨h.1,fun a s1 e => ⟨(h.2 a s1 e).1,fun c => ⟨h0 ((h.2 a s1 e).2 c).1,fun g => ((h.2 a s1 e).2 c).2 (hG ((h.2 a s1 e).2 c).1 g)⟩⟩⟩

theorem pX_right (N : Nat) : ∀ (n : Nat) (g : Gl) (s : PS) (r : Res Ex),Iv N s → pX n g s = some r → Ans N s (Gok g s) r:=by
 intro n
 induction n with
 | zero => intro g s r _ h; simp [pX] at h
 | succ n ih =>
  intro g s r hs h
  cases g with
  | or =>
   rw [pX] at h
   refine Ans.bind (fun r => ih .and s r hs) (fun _ => trivial) (fun c => c) (fun e s1 r h i1 c1 k1 => ?_) h
   by_cases hc : s1.sees wOr = true
   ·rw [if_pos hc] at h
    exact (ih _ _ _ i1 h).of c1 fun c g => ⟨by simp,fun x hx => by rw [List.mem_singleton] at hx; rw [hx]; exact k1 c g,Nat.le_refl _,fun _ => hc⟩
   ·rw [if_neg hc] at h
    rw [← Option.some.inj h]
    exact Ans.ok i1 fun c => ⟨c1 c,k1 c⟩
  | and =>
   rw [pX] at h
   refine Ans.bind (fun r => ih .not s r hs) (fun _ => trivial) (fun c => c) (fun e s1 r h i1 c1 k1 => ?_) h
   by_cases hc : s1.sees wAnd = true
   ·rw [if_pos hc] at h
    exact (ih _ _ _ i1 h).of c1 fun c g => ⟨by simp,fun x hx => by rw [List.mem_singleton] at hx; rw [hx]; exact k1 c g,Nat.le_refl _,fun _ => hc⟩
   ·rw [if_neg hc] at h
    rw [← Option.some.inj h]
    exact Ans.ok i1 fun c => ⟨c1 c,k1 c⟩
  | rowL b a acc =>
   rw [pX] at h
   by_cases hc : s.sees (if b = true then wOr else wAnd) = true
   ·rw [if_pos hc] at h
    rcases bindR_some h with ⟨p,e,rfl⟩ | ⟨x,s1,e,h⟩
    ·exact Ans.bad ((ih _ _ _ (hs.next.cnt _ _) e).1 p rfl)
    ·obtain ⟨i1,k1⟩:=(ih _ _ _ (hs.next.cnt _ _) e).2 _ _ rfl
     refine (ih _ _ _ i1 h).of (fun c => (cnt_code (k1 c).1).1) fun c g => ?_
     obtain ⟨_,c2⟩:=cnt_code (k1 c).1
     refine ⟨by have:=g.1; simp; omega,fun y hy => ?_,by simp,fun e => by have:=g.2.2.1; rw [List.length_append] at e; simp only [List.length_singleton] at e; omega⟩
     rcases List.mem_append.1 hy with hy | hy
     ·exact g.2.1 y hy
     ·rw [List.mem_singleton] at hy; rw [hy]; exact (k1 c).2 (by cases b <;> trivial)
   ·rw [if_neg hc] at h
    rw [← Option.some.inj h]
    refine Ans.ok hs fun c => ⟨c,fun g => ?_⟩
    have h2 : 2 ≤ acc.length:=by
     have h1:=g.2.2.1
     have h3:=g.2.2.2
     by_cases e : acc.length = 1
     ·exact absurd (h3 e) hc
     ·omega
    cases b with
    | true => exact rte_over (by decide) (by decide) (by decide : formK 10 = (0,0,2,8)) (by decide) (by decide) h2 g.1 g.2.1
    | false => exact rte_over (by decide) (by decide) (by decide : formK 9 = (0,0,2,8)) (by decide) (by decide) h2 g.1 g.2.1
  | not =>
   rw [pX] at h
   by_cases hc : s.sees wNot = true
   ·rw [if_pos hc] at h
    refine Ans.bind (fun r => ih .not s.next r hs.next) (fun _ => trivial) (fun c => c) (fun e s1 r h i1 c1 k1 => ?_) h
    rw [← Option.some.inj h]
    exact Ans.ok i1 fun c => ⟨c1 c,fun g => rte_over (by decide) (by decide) (by decide : formK 8 = (0,0,1,1)) (by decide) (by decide) (Nat.le_refl _) (Nat.le_refl _) fun x hx => by rw [List.mem_singleton] at hx; rw [hx]; exact k1 c g⟩
   ·rw [if_neg hc] at h
    exact (ih .test s r hs h).of (fun c => c) fun _ g => g
  | test =>
   rw [pX] at h
   refine Ans.bind (fun r => ih .sum s r hs) (fun _ => trivial) (fun c => c) (fun l s1 r h i1 c1 k1 => ?_) h
   by_cases hc : s1.sees wIs = true
   ·rw [if_pos hc] at h
    simp only at h
    have i3 : Iv N (if s1.next.sees wNot = true then s1.next.next else s1.next):=by
     split
     ·exact i1.next.next
     ·exact i1.next
    have c3 : (if s1.next.sees wNot = true then s1.next.next else s1.next).code = s1.code:=by split <;> rfl
    by_cases h4 : (if s1.next.sees wNot = true then s1.next.next else s1.next).sees wNull = true
    ·rw [if_pos h4] at h
     rw [← Option.some.inj h]
     refine Ans.ok i3.next fun c => ?_
     have c4 : s1.code = 0:=c3 ▸ c
     refine ⟨c1 c4,fun g => rte_over (by decide) (by decide) (by decide : formK 7 = (0,1,1,1)) ?_ ?_ (Nat.le_refl _) (Nat.le_refl _) fun x hx => by rw [List.mem_singleton] at hx; rw [hx]; exact k1 c4 g⟩
     ·show (0 : Int) ≤ _
      split <;> decide
     ·show _ ≤ (1 : Int)
      split <;> decide
    ·rw [if_neg h4] at h
     rw [← Option.some.inj h]
     exact Ans.bad i3.hd.le
   ·rw [if_neg hc] at h
    by_cases ho : opOf s1 cmpO = 0
    ·rw [if_pos ho] at h
     rw [← Option.some.inj h]
     exact Ans.ok i1 fun c => ⟨c1 c,k1 c⟩
    ·rw [if_neg ho] at h
     rcases bindR_some h with ⟨p,e,rfl⟩ | ⟨x,s2,e,h⟩
     ·exact Ans.bad ((ih _ _ _ i1.next e).1 p rfl)
     ·obtain ⟨i2,k2⟩:=(ih _ _ _ i1.next e).2 _ _ rfl
      rw [← Option.some.inj h]
      refine Ans.ok i2 fun c => ?_
      have c4 : s1.code = 0:=(k2 c).1
      obtain ⟨o1,o2⟩:=op_cmp s1 ho
      refine ⟨c1 c4,fun g => rte_over (by decide) (by decide) (by decide : formK 6 = (1,6,2,2)) o1 o2 (Nat.le_refl _) (Nat.le_refl _) fun y hy => ?_⟩
      simp only [List.mem_cons,List.not_mem_nil,or_false] at hy
      rcases hy with rfl | rfl
      ·exact k1 c4 g
      ·exact (k2 c).2 trivial
  | sum =>
   rw [pX] at h
   exact Ans.bind (fun r => ih .prod s r hs) (fun _ => trivial) (fun c => c) (fun e s1 r h i1 c1 k1 => (ih (.sumL e) s1 r i1 h).of c1 k1) h
  | prod =>
   rw [pX] at h
   exact Ans.bind (fun r => ih .fact s r hs) (fun _ => trivial) (fun c => c) (fun e s1 r h i1 c1 k1 => (ih (.prodL e) s1 r i1 h).of c1 k1) h
  | sumL l =>
   rw [pX] at h
   by_cases ho : opOf s sumO = 0
   ·rw [if_pos ho] at h
    rw [← Option.some.inj h]
    exact Ans.ok hs fun c => ⟨c,fun g => g⟩
   ·rw [if_neg ho] at h
    refine Ans.bind (fun r => ih .prod s.next r hs.next) (fun _ => trivial) (fun c => c) (fun e s1 r h i1 c1 k1 => ?_) h
    refine (ih _ _ _ i1 h).of c1 fun c g => ?_
    obtain ⟨o1,o2⟩:=op_sum s ho
    refine rte_over (by decide) (by decide) (by decide : formK 5 = (1,5,2,2)) o1 o2 (Nat.le_refl _) (Nat.le_refl _) fun y hy => ?_
    simp only [List.mem_cons,List.not_mem_nil,or_false] at hy
    rcases hy with rfl | rfl
    ·exact g
    ·exact k1 c g
  | prodL l =>
   rw [pX] at h
   by_cases ho : opOf s prodO = 0
   ·rw [if_pos ho] at h
    rw [← Option.some.inj h]
    exact Ans.ok hs fun c => ⟨c,fun g => g⟩
   ·rw [if_neg ho] at h
    refine Ans.bind (fun r => ih .fact s.next r hs.next) (fun _ => trivial) (fun c => c) (fun e s1 r h i1 c1 k1 => ?_) h
    refine (ih _ _ _ i1 h).of c1 fun c g => ?_
    obtain ⟨o1,o2⟩:=op_prod s ho
    refine rte_over (by decide) (by decide) (by decide : formK 5 = (1,5,2,2)) o1 o2 (Nat.le_refl _) (Nat.le_refl _) fun y hy => ?_
    simp only [List.mem_cons,List.not_mem_nil,or_false] at hy
    rcases hy with rfl | rfl
    ·exact g
    ·exact k1 c g
  | fact =>
   rw [pX] at h
   by_cases h1 : s.sees [45] = true
   ·rw [if_pos h1] at h
    refine Ans.bind (fun r => ih .fact s.next r hs.next) (fun _ => trivial) (fun c => c) (fun e s1 r h i1 c1 k1 => ?_) h
    rw [← Option.some.inj h]
    exact Ans.ok i1 fun c => ⟨c1 c,fun g => rte_over (by decide) (by decide) (by decide : formK 4 = (0,0,1,1)) (by decide) (by decide) (Nat.le_refl _) (Nat.le_refl _) fun x hx => by rw [List.mem_singleton] at hx; rw [hx]; exact k1 c g⟩
   ·rw [if_neg h1] at h
    by_cases h2 : s.sees [40] = true
    ·rw [if_pos h2] at h
     refine Ans.bind (fun r => ih .or s.next r hs.next) (fun _ => trivial) (fun c => c) (fun e s1 r h i1 c1 k1 => ?_) h
     by_cases h3 : s1.sees [41] = true
     ·rw [if_pos h3] at h
      rw [← Option.some.inj h]
      exact Ans.ok i1.next fun c => ⟨c1 c,k1 c⟩
     ·rw [if_neg h3] at h
      rw [← Option.some.inj h]
      exact Ans.bad i1.hd.le
    ·rw [if_neg h2] at h
     by_cases h3 : s.hd.1.1 = 3
     ·rw [if_pos h3] at h
      rw [← Option.some.inj h]
      obtain ⟨k1,k2⟩:=Inv.colm N s hs
      exact ⟨fun p e => k1 p e.symm,fun a s1 e => ⟨(k2 a s1 e.symm).1,fun c => ⟨((k2 a s1 e.symm).2 c).1,fun _ => ((k2 a s1 e.symm).2 c).2.2⟩⟩⟩
     ·rw [if_neg h3] at h
      by_cases h4 : s.hd.1.1 = 6
      ·rw [if_pos h4] at h
       rw [← Option.some.inj h]
       refine Ans.ok hs.next fun c => ⟨c,fun _ => rte_leaf (by omega) ?_⟩
       exact ⟨fun h => absurd h (by decide),fun _ => ⟨rfl,hs.hd.param h4,rfl,rfl,rfl⟩,fun h => absurd h (by decide),fun _ h => absurd rfl h⟩
      ·rw [if_neg h4] at h
       obtain ⟨k1,k2⟩:=Inv.lit N s hs
       cases hl : litR s with
       | bad p => rw [hl] at h; rw [← Option.some.inj h]; exact Ans.bad (k1 p hl.symm)
       | ok v s1 =>
        rw [hl] at h
        rw [← Option.some.inj h]
        obtain ⟨i1,k⟩:=k2 v s1 hl.symm
        refine Ans.ok i1 fun c => ⟨(k c).1,fun _ => rte_leaf (by omega) ?_⟩
        exact ⟨fun _ => ⟨rfl,rfl,(k c).2⟩,fun h => absurd h (by decide),fun h => absurd h (by decide),fun h => absurd rfl h⟩

theorem Inv.expr (N : Nat) : Inv N RtE exprR:=by
 intro s hs
 constructor
 ·rintro p ⟨n,h⟩
  exact (pX_right N n .or s _ hs h).1 p rfl
 ·rintro a s1 ⟨n,h⟩
  obtain ⟨i1,k⟩:=(pX_right N n .or s _ hs h).2 a s1 rfl
  exact ⟨i1,fun c => ⟨(k c).1,(k c).2 trivial⟩⟩

def RtSo (x : So) : Prop:=RtN x.1

structure RtSel (t : St) : Prop where
 sets : t.sets.length = 0
 star : t.star = decide (t.items.length = 0)
 items : Wi 0 8 RtI t.items
 join : t.join = ⟨#[]⟩ ∨ isName t.join = true
 jon : (decide (t.join = ⟨#[]⟩)) = decide (t.on.length = 0)
 on : Wi 0 1 RtE t.on
 whr : Wi 0 1 RtE t.whr
 groups : Wi 0 8 RtC t.groups
 sorts : Wi 0 8 RtSo t.sorts
 limit : Wi 0 1 RtN t.limit

def RtSt (t : St) : Prop:=deepS t = false ∧ isName t.table = true ∧ (
 (t.kind = 1 ∧ SmSt t { st0 with kind:=t.kind,table:=t.table,items:=t.items } ∧ Wi 1 16 RtE t.items) ∨
 (t.kind = 2 ∧ SmSt t { st0 with kind:=t.kind,table:=t.table,sets:=t.sets,whr:=t.whr } ∧ Wi 1 16 RtSe t.sets ∧ Wi 0 1 RtE t.whr) ∨
 (t.kind = 3 ∧ SmSt t { st0 with kind:=t.kind,table:=t.table,whr:=t.whr } ∧ Wi 0 1 RtE t.whr) ∨
 (t.kind = 4 ∧ RtSel t))

theorem name_empty : isName ⟨#[]⟩ = false:=by rw [isName_list]; rfl

theorem not_rt0 : ¬ RtSt st0:=fun h => by
 have:=h.2.1
 rw [show st0.table = ⟨#[]⟩ from rfl,name_empty] at this
 cases this

theorem SmX.refl (e : Ex) : SmX e e:=by
 induction e using Ex.rec (motive_2:=fun l => ∀ i (h : i < l.length),SmX l[i] l[i]) with
 | mk k o v t n ks p ih => exact SmX.mk rfl fun i h _ => ih i h
 | nil => rename_i i h; exact absurd h (Nat.not_lt_zero _)
 | cons e l h1 h2 =>
  rename_i i h
  cases i with
  | zero => exact h1
  | succ i => exact h2 i (by simpa using h)

theorem SmXs.refl (l : List Ex) : SmXs l l:=⟨rfl,fun _ _ _ => SmX.refl _⟩

theorem SmSes.refl (l : List Se) : SmSes l l:=⟨rfl,fun _ _ _ => ⟨rfl,SmX.refl _⟩⟩

theorem SmSos.refl (l : List So) : SmSos l l:=⟨rfl,fun _ _ _ => ⟨rfl,rfl⟩⟩

theorem SmSt.refl (t : St) : SmSt t t:=⟨rfl,rfl,rfl,rfl,SmXs.refl _,SmXs.refl _,SmXs.refl _,SmXs.refl _,SmSes.refl _,SmSos.refl _,rfl⟩

theorem wi_some {α : Type} {P : α → Prop} {a : α} (h : P a) : Wi 0 1 P [a]:=⟨Nat.zero_le _,Nat.le_refl _,fun i hi => by cases i with | zero => exact h | succ i => exact absurd hi (by simp)⟩

theorem wi_none {hi : Nat} {α : Type} {P : α → Prop} : Wi 0 hi P ([] : List α):=⟨Nat.zero_le _,Nat.zero_le _,fun _ hi => absurd hi (Nat.not_lt_zero _)⟩

theorem Wi.low {hi : Nat} {α : Type} {P : α → Prop} {l : List α} (h : Wi 1 hi P l) : Wi 0 hi P l:=⟨Nat.zero_le _,h.2⟩

theorem Inv.over (N : Nat) {k : Int} {p : Nat} (hk : formK k = (0,0,1,1)) (h4 : 4 ≤ k) : Inv N RtI (overR k p) :=
 (Inv.want N _).bind fun _ => (Inv.expr N).bind fun e => (Inv.want N _).bind fun _ => Inv.ret fun _ he _ => rt_over h4 hk (Int.le_refl _) (Int.le_refl _) (Nat.le_refl _) (Nat.le_refl _) fun x hx => by rw [List.mem_singleton] at hx; rw [hx]; exact he

theorem Inv.item (N : Nat) : Inv N RtI itemR:=fun s hs => Inv.if ((Inv.want N _).bind fun _ => Inv.ret fun _ => RtI.iff.2 (by
 rw [show formK 11 = (0,0,0,0) from by decide]
 exact ⟨Int.le_refl _,Int.le_refl _,⟨Nat.zero_le _,Nat.le_refl _,fun i hi => absurd hi (Nat.not_lt_zero _)⟩,fun h => absurd h (by decide),fun h => absurd h (by decide),fun h => absurd h (by decide),fun _ _ _ => ⟨rfl,rfl,rfl,rfl,rfl⟩⟩)) (Inv.if (Inv.over N (by decide) (by decide)) (Inv.if (Inv.over N (by decide) (by decide)) (Inv.if (Inv.over N (by decide) (by decide)) ((Inv.expr N).mono fun _ h => h.2)))) s hs

theorem Inv.set (N : Nat) : Inv N RtSe setR:=fun s hs => ((Inv.nam N).bind fun _ => (Inv.want N _).bind fun _ => (Inv.expr N).bind fun _ => Inv.ret fun h2 _ h1 => ⟨h1,h2⟩) s hs

theorem Inv.sort (N : Nat) : Inv N RtSo sortR:=(Inv.num N).bind fun _ => Inv.if (Inv.ret fun h => h) (Inv.ret fun h => h)

theorem Inv.whr (N : Nat) : Inv N (Wi 0 1 RtE) whereR:=Inv.if ((Inv.expr N).bind fun _ => Inv.ret fun h => wi_some h) (Inv.ret wi_none)

def RtA (N : Nat) (t : St) : Prop:=(deepS t = false → RtSt t) ∧ t.joinAt = 0 ∨ (deepS t = false → RtSt t) ∧ 0 ≤ t.joinAt ∧ t.joinAt < N

theorem Inv.ins (N : Nat) : Inv N (RtA N) insR:=(Inv.want N _).bind fun _ => (Inv.nam N).bind fun _ => (Inv.want N _).bind fun _ => ((Inv.expr N).list _).bind fun _ => (Inv.want N _).bind fun _ => Inv.ret fun _ hl _ hn _ => Or.inl ⟨fun hd => ⟨hd,hn,Or.inl ⟨rfl,SmSt.refl _,hl⟩⟩,rfl⟩

theorem Inv.upd (N : Nat) : Inv N (RtA N) updR:=(Inv.nam N).bind fun _ => (Inv.want N _).bind fun _ => ((Inv.set N).list _).bind fun _ => (Inv.whr N).bind fun _ => Inv.ret fun hw hl _ hn => Or.inl ⟨fun hd => ⟨hd,hn,Or.inr (Or.inl ⟨rfl,SmSt.refl _,hl,hw⟩)⟩,rfl⟩

theorem Inv.del (N : Nat) : Inv N (RtA N) delR:=(Inv.want N _).bind fun _ => (Inv.nam N).bind fun _ => (Inv.whr N).bind fun _ => Inv.ret fun hw hn _ => Or.inl ⟨fun hd => ⟨hd,hn,Or.inr (Or.inr (Or.inl ⟨rfl,SmSt.refl _,hw⟩))⟩,rfl⟩

theorem Inv.star (N : Nat) : Inv N (fun l => Wi 0 8 RtI l.2 ∧ l.1 = decide (l.2.length = 0)) starR:=Inv.if (Inv.ret ⟨wi_none,rfl⟩) (((Inv.item N).list _).bind fun l => Inv.ret fun h => ⟨h.low,by
 have:=h.1
 show false = decide (l.length = 0)
 rw [eq_comm,decide_eq_false_iff_not]
 omega⟩)

def RtJ (N : Nat) (j : Int × ByteArray × List Ex) : Prop:=(j.1 = 0 ∨ 0 ≤ j.1 ∧ j.1 < N) ∧ (j.2.1 = ⟨#[]⟩ ∨ isName j.2.1 = true) ∧ decide (j.2.1 = ⟨#[]⟩) = decide (j.2.2.length = 0) ∧ Wi 0 1 RtE j.2.2

theorem Inv.join (N : Nat) : Inv N (RtJ N) joinR:=by
 refine Inv.if ?_ (Inv.ret ⟨Or.inl rfl,Or.inl rfl,rfl,wi_none⟩)
 intro s hs
 have key:=((Inv.nam N).bind (Q:=RtJ N) (g:=fun n => thenR (wantR [wON]) fun _ => thenR exprR fun e => retR ((if s.hd.1.1 = 3 then (s.hd.2 : Int) else 0),n,[e])) fun n => (Inv.want N _).bind fun _ => (Inv.expr N).bind fun e => Inv.ret fun he _ hn => ⟨by
  split
  ·rename_i c
   refine Or.inr ⟨by omega,?_⟩
   have:=hs.hd.lt (by omega)
   show (s.hd.2 : Int) < N
   omega
  ·exact Or.inl rfl,Or.inr hn,by
  have h1 : ¬ n = ⟨#[]⟩:=fun e => by rw [e,name_empty] at hn; cases hn
  show decide (n = ⟨#[]⟩) = decide (1 = 0)
  rw [decide_eq_false h1]
  rfl,wi_some he⟩) s hs
 have conv : ∀ r,thenR placeR (fun p => thenR namR fun n => thenR (wantR [wON]) fun _ => thenR exprR fun e => retR ((p : Int),n,[e])) s r → thenR namR (fun n => thenR (wantR [wON]) fun _ => thenR exprR fun e => retR ((if s.hd.1.1 = 3 then (s.hd.2 : Int) else 0),n,[e])) s r:=by
  rintro r (⟨p,h,_⟩ | ⟨p,s1,h,k⟩)
  ·cases h
  ·injection h with e1 e2
   subst e1 e2
   by_cases c : s1.hd.1.1 = 3
   ·simp only [if_pos c]
    exact k
   ·rcases k with ⟨p,h,e⟩ | ⟨n,s2,h,k⟩
    ·exact Or.inl ⟨p,h,e⟩
    ·unfold namR nameR at h
     rw [if_neg c] at h
     cases h
 exact ⟨fun p hp => key.1 p (conv _ hp),fun a s1 h => key.2 a s1 (conv _ h)⟩

theorem Inv.group (N : Nat) : Inv N (Wi 0 8 RtC) groupR:=Inv.if ((Inv.want N _).bind fun _ => ((Inv.colm N).list _).mono fun _ h _ => h.low) (Inv.ret wi_none)

theorem Inv.order (N : Nat) : Inv N (Wi 0 8 RtSo) orderR:=Inv.if ((Inv.want N _).bind fun _ => ((Inv.sort N).list _).mono fun _ h _ => h.low) (Inv.ret wi_none)

theorem Inv.limit (N : Nat) : Inv N (Wi 0 1 RtN) limitR:=Inv.if ((Inv.num N).bind fun _ => Inv.ret fun h => wi_some h) (Inv.ret wi_none)

theorem Inv.sel (N : Nat) : Inv N (RtA N) selR:=(Inv.star N).bind fun l => (Inv.want N _).bind fun _ => (Inv.nam N).bind fun t => (Inv.join N).bind fun j => (Inv.whr N).bind fun e => (Inv.group N).bind fun g => (Inv.order N).bind fun o => (Inv.limit N).bind fun n => Inv.ret fun hl ho hg hw hj hn _ hs => by
 have key : deepS ⟨4,t,j.2.1,j.2.2,e,l.2,l.1,[],g,o,n,0,j.1⟩ = false → RtSt ⟨4,t,j.2.1,j.2.2,e,l.2,l.1,[],g,o,n,0,j.1⟩:=fun hd => ⟨hd,hn,Or.inr (Or.inr (Or.inr ⟨rfl,⟨rfl,hs.2,hs.1,hj.2.1,hj.2.2.1,hj.2.2.2,hw,hg,ho,hl⟩⟩))⟩
 rcases hj.1 with e | e
 ·exact Or.inl ⟨key,e⟩
 ·exact Or.inr ⟨key,e⟩

theorem seen_kind {s : PS} {x : List UInt8} (h : s.sees x = true) : s.hd.1.1 ≠ 1:=by
 intro e
 unfold PS.sees at h
 rw [e] at h
 simp at h

theorem rta_place {N : Nat} {t : St} (h : RtA N t) (p : Int) : RtA N { t with place:=p }:=by
 have e : RtSt { t with place:=p } ↔ RtSt t:=⟨fun h => ⟨h.1,h.2.1,by
  rcases h.2.2 with h | h | h | ⟨h1,h⟩
  ·exact Or.inl h
  ·exact Or.inr (Or.inl h)
  ·exact Or.inr (Or.inr (Or.inl h))
  ·exact Or.inr (Or.inr (Or.inr ⟨h1,⟨h.sets,h.star,h.items,h.join,h.jon,h.on,h.whr,h.groups,h.sorts,h.limit⟩⟩))⟩,fun h => ⟨h.1,h.2.1,by
  rcases h.2.2 with h | h | h | ⟨h1,h⟩
  ·exact Or.inl h
  ·exact Or.inr (Or.inl h)
  ·exact Or.inr (Or.inr (Or.inl h))
  ·exact Or.inr (Or.inr (Or.inr ⟨h1,⟨h.sets,h.star,h.items,h.join,h.jon,h.on,h.whr,h.groups,h.sorts,h.limit⟩⟩))⟩⟩
 rcases h with ⟨h,k⟩ | ⟨h,k⟩
 ·exact Or.inl ⟨fun hd => e.2 (h hd),k⟩
 ·exact Or.inr ⟨fun hd => e.2 (h hd),k⟩

theorem st_right {N : Nat} {s : PS} (hs : Iv N s) : (∀ p,stR s (.bad p) → p ≤ N) ∧ ∀ t s1,stR s (.ok t s1) → Iv N s1 ∧ 0 ≤ t.place ∧ t.place < N ∧ (s1.code = 0 → RtA N t):=by
 have key : Inv N (RtA N) stR:=fun s hs => ((Inv.if (Inv.ins N) (Inv.if (Inv.upd N) (Inv.if (Inv.del N) (Inv.if (Inv.sel N) Inv.none)))).bind fun _ => Inv.ret fun h => rta_place h _) s hs
 refine ⟨(key s hs).1,fun t s1 h => ?_⟩
 obtain ⟨i1,k⟩:=(key s hs).2 t s1 h
 rcases h with ⟨p,_,e⟩ | ⟨u,s2,h,e⟩
 ·cases e
 ·injection e with e1 e2
  subst e1 e2
  have hk : s.hd.1.1 ≠ 1:=by
   unfold ifR at h
   by_cases c1 : s.sees wINSERT = true
   ·exact seen_kind c1
   rw [if_neg c1] at h
   by_cases c2 : s.sees wUPDATE = true
   ·exact seen_kind c2
   rw [if_neg c2] at h
   by_cases c3 : s.sees wDELETE = true
   ·exact seen_kind c3
   rw [if_neg c3] at h
   by_cases c4 : s.sees wSELECT = true
   ·exact seen_kind c4
   rw [if_neg c4] at h
   cases h
  have:=hs.hd.lt hk
  refine ⟨i1,?_,?_,fun c => (k c).2⟩
  ·show (0 : Int) ≤ (s.hd.2 : Int)
   omega
  ·show (s.hd.2 : Int) < N
   omega

theorem semi_iv {N : Nat} {s : PS} (h : Iv N s) : Iv N (semi s):=by
 unfold semi
 split
 ·exact h.next
 ·exact h

theorem semi_code (s : PS) : (semi s).code = s.code:=by unfold semi; split <;> rfl

def OutOk (n : Nat) : Out → Prop
 | .fault _ p => 0 ≤ p ∧ p ≤ n
 | .st t => RtSt t ∧ 0 ≤ t.place ∧ t.place < n ∧ 0 ≤ t.joinAt ∧ t.joinAt < n

theorem parse_right {s : ByteArray} {o : Out} (h : ParseIs s o) : OutOk s.size o:=by
 have hlen : s.size = s.data.toList.length:=by simp
 obtain ⟨l,p,c,hsc,h⟩:=h
 rcases h with ⟨hc,rfl⟩ | ⟨hc,r,hr,rfl⟩
 ·show 0 ≤ (p : Int) ∧ (p : Int) ≤ s.size
  rcases hsc with ⟨_,_,rfl,_⟩ | ⟨_,⟨e,_⟩ | ⟨_,hb⟩⟩
  ·omega
  ·exact absurd e hc
  ·have:=hb.within
   omega
 ·subst hc
  have ht : Toks s.data.toList 0 l:=by
   rcases hsc with ⟨_,_,_,h⟩ | ⟨_,⟨_,_,h⟩ | ⟨_,h⟩⟩
   ·exact absurd h (by decide)
   ·exact h
   ·exact absurd rfl h.ne
  have hI : Iv s.size ⟨l,0,0⟩:=⟨by rw [hlen]; exact toks_tk ht (by simp) (Nat.zero_le _),Int.le_refl _,by show (0 : Int) ≤ s.size; omega⟩
  obtain ⟨k1,k2⟩:=st_right hI
  cases r with
  | bad q =>
   show 0 ≤ (q : Int) ∧ (q : Int) ≤ s.size
   have:=k1 q hr
   omega
  | ok t s1 =>
   obtain ⟨i1,p1,p2,ka⟩:=k2 t s1 hr
   have i2:=semi_iv i1
   rw [outOf]
   by_cases c1 : (semi s1).hd.1.1 = 1
   ·rw [if_pos c1]
    by_cases c2 : (semi s1).code = 0
    ·rw [if_pos c2]
     by_cases c3 : deepS t = true
     ·rw [if_pos c3]
      exact ⟨p1,Int.le_of_lt p2⟩
     ·rw [if_neg c3]
      rw [semi_code] at c2
      have hd : deepS t = false:=by simpa using c3
      rcases ka c2 with ⟨a,b⟩ | ⟨a,b,c⟩
      ·exact ⟨a hd,p1,p2,by omega,by omega⟩
      ·exact ⟨a hd,p1,p2,b,c⟩
    ·rw [if_neg c2]
     exact ⟨i2.at0,i2.atN⟩
   ·rw [if_neg c1]
    have:=i2.hd.le
    show 0 ≤ ((semi s1).hd.2 : Int) ∧ ((semi s1).hd.2 : Int) ≤ s.size
    omega
end Go.Proofs.YtbfjmccpcbhljaaGreatDoor
