/- M139 A128 -/
import Derived.Test.YtffalonhkemieaaGreatDoorSA78
set_option maxHeartbeats 16000000
set_option maxRecDepth 100000
namespace Go.Proofs.YtffalonhkemieaaGreatDoor
open Go Go.RowKit
mutual
def dep : Ex → Nat
 | .mk _ _ _ _ _ ks _ => depL ks + 1
def depL : List Ex → Nat
 | [] => 0
 | e :: l => max (dep e) (depL l)
end

theorem depL_le : ∀ (l : List Ex) (n : Nat),depL l ≤ n ↔ ∀ e ∈ l,dep e ≤ n
 | [],n => by rw [depL]; simp
 | e :: l,n => by
  rw [depL]
  simp only [List.mem_cons,forall_eq_or_imp,Nat.max_le,depL_le l n]

theorem dep_mk (k o : Int) (v : V3) (t n : ByteArray) (ks : List Ex) (p : Int) : dep (.mk k o v t n ks p) = depL ks + 1:=by rw [dep]

theorem dep_over (k o : Int) (p : Nat) (ks : List Ex) : dep (over k o p ks) = depL ks + 1:=dep_mk _ _ _ _ _ _ _

theorem dep_pos (e : Ex) : 0 < dep e:=by
 obtain ⟨k,o,v,t,n,ks,p⟩:=e
 rw [dep_mk]
 omega

theorem depL_one (e : Ex) : depL [e] = dep e:=by rw [depL,depL]; omega

theorem depL_two (e f : Ex) : depL [e,f] = max (dep e) (dep f):=by rw [depL,depL_one]

theorem depL_any (n : Nat) (h : ∀ e,dpr n e = decide (n < dep e)) : ∀ l : List Ex,l.any (dpr n) = decide (n < depL l)
 | [] => by rw [depL]; simp
 | e :: l => by
  rw [List.any_cons,h e,depL_any n h l,depL]
  by_cases h1 : n < dep e <;> by_cases h2 : n < depL l <;> simp [h1,h2] <;> omega

theorem dpr_dep : ∀ (n : Nat) (e : Ex),dpr n e = decide (n < dep e)
 | 0,e => by
  rw [dpr]
  simp [dep_pos e]
 | n + 1,.mk k o v t m ks p => by
  rw [dpr,depL_any n (dpr_dep n),dep_mk]
  simp

theorem next_len {s : PS} {x : List UInt8} (h : s.sees x = true) : s.next.rest.length + 1 = s.rest.length:=by
 unfold PS.sees PS.hd at h
 show s.rest.tail.length + 1 = _
 cases hr : s.rest with
 | nil => rw [hr] at h; simp at h
 | cons t l => simp

theorem kind_len {s : PS} {k : Int} (h : s.hd.1.1 = k) (hk : k ≠ 1) : s.next.rest.length + 1 = s.rest.length:=by
 unfold PS.hd at h
 show s.rest.tail.length + 1 = _
 cases hr : s.rest with
 | nil => rw [hr] at h; simp at h; omega
 | cons t l => simp

theorem cnt_len (s : PS) (n m : Nat) : (s.cnt n m).rest = s.rest:=by
 unfold PS.cnt
 split <;> rfl

theorem opOf_len {s : PS} : ∀ {l : List (List UInt8 × Int)},opOf s l ≠ 0 → s.next.rest.length + 1 = s.rest.length
 | [],h => absurd rfl h
 | x :: l,h => by
  rw [opOf] at h
  split at h
  ·rename_i hs
   exact next_len hs
  ·exact opOf_len h

theorem name_len {s s1 : PS} {a : ByteArray} (h : nameR s = .ok a s1) : s1.rest.length + 1 = s.rest.length:=by
 unfold nameR at h
 split at h
 ·rename_i hk
  injection h with _ h
  rw [← h]
  exact kind_len hk (by decide)
 ·exact absurd h (by simp)

theorem col_len {s s1 : PS} {e : Ex} (h : colR s = .ok e s1) : dep e + s1.rest.length ≤ s.rest.length:=by
 unfold colR at h
 split at h
 ·exact absurd h (by simp)
 ·rename_i a s2 hn
  have h1:=name_len hn
  split at h
  ·rename_i hd
   have h2:=next_len hd
   split at h
   ·exact absurd h (by simp)
   ·rename_i b s3 hn2
    have h3:=name_len hn2
    injection h with e1 e2
    rw [← e1,← e2,dep_mk,depL]
    omega
  ·injection h with e1 e2
   rw [← e1,← e2,dep_mk,depL]
   omega

theorem lit_len {s s1 : PS} {v : V3} (h : litR s = .ok v s1) : s1.rest.length + 1 = s.rest.length:=by
 unfold litR at h
 repeat' split at h
 ·rename_i hs; injection h with _ h; rw [← h]; exact next_len hs
 ·rename_i hs; injection h with _ h; rw [← h]; exact next_len hs
 ·rename_i hs; injection h with _ h; rw [← h]; exact next_len hs
 ·rename_i hk; injection h with _ h; rw [← h]; exact kind_len hk (by decide)
 ·rename_i hk; injection h with _ h; rw [← h]; exact kind_len hk (by decide)
 ·exact absurd h (by simp)

def DpG (K : Nat) : Gl → PS → Prop
 | .rowL b _ acc,s => acc ≠ [] ∧ ((∀ x ∈ acc,dep x + s.rest.length + 1 ≤ K) ∨ ((∀ x ∈ acc,dep x + s.rest.length ≤ K) ∧ s.sees (if b then wOr else wAnd) = true))
 | .sumL l,s => dep l + s.rest.length ≤ K
 | .prodL l,s => dep l + s.rest.length ≤ K
 | _,s => s.rest.length ≤ K

theorem pX_dep : ∀ (n : Nat) (g : Gl) (s s1 : PS) (e : Ex) (K : Nat),pX n g s = some (.ok e s1) → DpG K g s → dep e + s1.rest.length ≤ K:=by
 intro n
 induction n with
 | zero => intro g s s1 e K h; simp [pX] at h
 | succ n ih =>
  intro g s s1 e K h hK
  cases g with
  | or =>
   rw [pX] at h
   rcases bindR_some h with ⟨p,_,h⟩ | ⟨a,s2,h1,h⟩
   ·exact absurd h (by simp)
   ·have i1:=ih _ _ _ _ K h1 hK
    split at h
    ·rename_i hs
     exact ih _ _ _ _ K h ⟨by simp,Or.inr ⟨by simpa using i1,hs⟩⟩
    ·injection h with h
     injection h with e1 e2
     subst e1 e2
     exact i1
  | and =>
   rw [pX] at h
   rcases bindR_some h with ⟨p,_,h⟩ | ⟨a,s2,h1,h⟩
   ·exact absurd h (by simp)
   ·have i1:=ih _ _ _ _ K h1 hK
    split at h
    ·rename_i hs
     exact ih _ _ _ _ K h ⟨by simp,Or.inr ⟨by simpa using i1,hs⟩⟩
    ·injection h with h
     injection h with e1 e2
     subst e1 e2
     exact i1
  | rowL b a acc =>
   obtain ⟨hne,hK⟩:=hK
   rw [pX] at h
   by_cases hs : s.sees (if b = true then wOr else wAnd) = true
   ·rw [if_pos hs] at h
    have hl:=next_len hs
    rcases bindR_some h with ⟨p,_,h⟩ | ⟨x,s2,h1,h⟩
    ·exact absurd h (by simp)
    ·have hle : ∀ y ∈ acc,dep y + s.rest.length ≤ K:=by
      rcases hK with hK | hK
      ·intro y hy
       have:=hK y hy
       omega
      ·exact hK.1
     have i1:=ih _ _ _ _ s.next.rest.length h1 (by cases b <;> (show (s.next.cnt acc.length 8).rest.length ≤ _; rw [cnt_len]; exact Nat.le_refl _))
     have hx:=dep_pos x
     refine ih _ _ _ _ K h ⟨by simp,Or.inl fun y hy => ?_⟩
     rcases List.mem_append.1 hy with hy | hy
     ·have:=hle y hy
      omega
     ·simp only [List.mem_singleton] at hy
      subst hy
      obtain ⟨z,hz⟩:=List.exists_mem_of_ne_nil _ hne
      have:=hle z hz
      have:=dep_pos z
      omega
   ·rw [if_neg hs] at h
    injection h with h
    injection h with e1 e2
    subst e1 e2
    rcases hK with hK | hK
    ·rw [dep_over]
     obtain ⟨z,hz⟩:=List.exists_mem_of_ne_nil _ hne
     have h0:=hK z hz
     have:=(depL_le acc (K - s.rest.length - 1)).2 fun y hy => by have:=hK y hy; omega
     omega
    ·exact absurd hK.2 hs
  | not =>
   rw [pX] at h
   split at h
   ·rename_i hs
    have hl:=next_len hs
    rcases bindR_some h with ⟨p,_,h⟩ | ⟨a,s2,h1,h⟩
    ·exact absurd h (by simp)
    ·injection h with h
     injection h with e1 e2
     subst e1 e2
     have i1:=ih _ _ _ _ s.next.rest.length h1 (Nat.le_refl _)
     have hK' : s.rest.length ≤ K:=hK
     rw [dep_over,depL_one]
     omega
   ·exact ih _ _ _ _ K h hK
  | test =>
   rw [pX] at h
   rcases bindR_some h with ⟨p,_,h⟩ | ⟨l,s2,h1,h⟩
   ·exact absurd h (by simp)
   ·have i1:=ih _ _ _ _ K h1 hK
    split at h
    ·rename_i hs
     have hl:=next_len hs
     have key : ∀ (s3 : PS) (op : Int),s3.rest.length ≤ s2.next.rest.length → (if s3.sees wNull = true then some (Res.ok (over 7 op s2.hd.2 [l]) s3.next) else some (.bad s3.hd.2)) = some (.ok e s1) → dep e + s1.rest.length ≤ K:=by
      intro s3 op h3 h
      split at h
      ·rename_i hs2
       have hl2:=next_len hs2
       injection h with h
       injection h with e1 e2
       rw [← e1,← e2,dep_over,depL_one]
       omega
      ·exact absurd h (by simp)
     by_cases hs3 : s2.next.sees wNot = true
     ·have hl3:=next_len hs3
      simp only [hs3,if_true] at h
      exact key _ _ (by omega) h
     ·simp only [hs3,Bool.false_eq_true,if_false] at h
      exact key _ _ (Nat.le_refl _) h
    ·split at h
     ·injection h with h
      injection h with e1 e2
      subst e1 e2
      exact i1
     ·rename_i ho
      have hl:=opOf_len ho
      rcases bindR_some h with ⟨p,_,h⟩ | ⟨f,s3,h2,h⟩
      ·exact absurd h (by simp)
      ·injection h with h
       injection h with e1 e2
       have i2:=ih _ _ _ _ s2.next.rest.length h2 (Nat.le_refl _)
       have hp:=dep_pos l
       rw [← e1,← e2,dep_over,depL_two]
       omega
  | sum =>
   rw [pX] at h
   rcases bindR_some h with ⟨p,_,h⟩ | ⟨l,s2,h1,h⟩
   ·exact absurd h (by simp)
   ·exact ih _ _ _ _ K h (ih _ _ _ _ K h1 hK)
  | prod =>
   rw [pX] at h
   rcases bindR_some h with ⟨p,_,h⟩ | ⟨l,s2,h1,h⟩
   ·exact absurd h (by simp)
   ·exact ih _ _ _ _ K h (ih _ _ _ _ K h1 hK)
  | sumL l =>
   have hK' : dep l + s.rest.length ≤ K:=hK
   rw [pX] at h
   split at h
   ·injection h with h
    injection h with e1 e2
    subst e1 e2
    exact hK'
   ·rename_i ho
    have hl:=opOf_len ho
    rcases bindR_some h with ⟨p,_,h⟩ | ⟨f,s2,h1,h⟩
    ·exact absurd h (by simp)
    ·have i1:=ih _ _ _ _ s.next.rest.length h1 (Nat.le_refl _)
     have hp:=dep_pos l
     refine ih _ _ _ _ K h ?_
     show dep (over _ _ _ _) + _ ≤ K
     rw [dep_over,depL_two]
     omega
  | prodL l =>
   have hK' : dep l + s.rest.length ≤ K:=hK
   rw [pX] at h
   split at h
   ·injection h with h
    injection h with e1 e2
    subst e1 e2
    exact hK'
   ·rename_i ho
    have hl:=opOf_len ho
    rcases bindR_some h with ⟨p,_,h⟩ | ⟨f,s2,h1,h⟩
    ·exact absurd h (by simp)
    ·have i1:=ih _ _ _ _ s.next.rest.length h1 (Nat.le_refl _)
     have hp:=dep_pos l
     refine ih _ _ _ _ K h ?_
     show dep (over _ _ _ _) + _ ≤ K
     rw [dep_over,depL_two]
     omega
  | fact =>
   have hK' : s.rest.length ≤ K:=hK
   rw [pX] at h
   split at h
   ·rename_i hs
    have hl:=next_len hs
    rcases bindR_some h with ⟨p,_,h⟩ | ⟨a,s2,h1,h⟩
    ·exact absurd h (by simp)
    ·injection h with h
     injection h with e1 e2
     have i1:=ih _ _ _ _ s.next.rest.length h1 (Nat.le_refl _)
     rw [← e1,← e2,dep_over,depL_one]
     omega
   ·split at h
    ·rename_i hs
     have hl:=next_len hs
     rcases bindR_some h with ⟨p,_,h⟩ | ⟨a,s2,h1,h⟩
     ·exact absurd h (by simp)
     ·have i1:=ih _ _ _ _ s.next.rest.length h1 (Nat.le_refl _)
      split at h
      ·rename_i hs2
       have hl2:=next_len hs2
       injection h with h
       injection h with e1 e2
       rw [← e1,← e2]
       omega
      ·exact absurd h (by simp)
    ·split at h
     ·injection h with h
      have:=col_len h
      omega
     ·split at h
      ·rename_i hk
       have hl:=kind_len hk (by decide)
       injection h with h
       injection h with e1 e2
       rw [← e1,← e2,dep_mk,depL]
       omega
      ·split at h
       ·exact absurd h (by simp)
       ·rename_i v s2 hv
        have hl:=lit_len hv
        injection h with h
        injection h with e1 e2
        rw [← e1,← e2,dep_mk,depL]
        omega

def Bd {α : Type} (n : Nat) (Q : α → Prop) (f : Rd_ α) : Prop:=∀ s a s1,s.rest.length ≤ n → f s (.ok a s1) → s1.rest.length ≤ s.rest.length ∧ Q a

theorem Bd.bind {α β : Type} {n : Nat} {Q : α → Prop} {R : β → Prop} {f : Rd_ α} {g : α → Rd_ β} (hf : Bd n Q f) (hg : ∀ a,Q a → Bd n R (g a)) : Bd n R (thenR f g):=by
 rintro s b s2 hn (⟨p,_,h⟩ | ⟨a,s1,h1,h2⟩)
 ·exact absurd h (by simp)
 ·obtain ⟨l1,q1⟩:=hf s a s1 hn h1
  obtain ⟨l2,q2⟩:=hg a q1 s1 b s2 (by omega) h2
  exact ⟨by omega,q2⟩

theorem Bd.ret {α : Type} {n : Nat} {Q : α → Prop} {a : α} (h : Q a) : Bd n Q (retR a):=by
 intro s b s1 _ e
 replace e : Res.ok b s1 = .ok a s:=e
 injection e with e1 e2
 subst e1 e2
 exact ⟨Nat.le_refl _,h⟩

theorem Bd.if {α : Type} {n : Nat} {Q : α → Prop} {x : List UInt8} {f g : Rd_ α} (hf : Bd n Q f) (hg : Bd n Q g) : Bd n Q (ifR x f g):=by
 intro s a s1 hn h
 unfold ifR at h
 split at h
 ·rename_i hs
  have:=next_len hs
  obtain ⟨h1,h2⟩:=hf _ _ _ (by omega) h
  exact ⟨by omega,h2⟩
 ·exact hg _ _ _ hn h

theorem Bd.want {n : Nat} : ∀ l,Bd n (fun _ => True) (wantR l)
 | [],s,a,s1,_,h => by
  replace h : Res.ok a s1 = .ok () s:=h
  injection h with _ h
  rw [h]
  exact ⟨Nat.le_refl _,trivial⟩
 | x :: l,s,a,s1,hn,h => by
  replace h : Res.ok a s1 = needsR (x :: l) s:=h
  rw [needsR] at h
  split at h
  ·rename_i hs
   have:=next_len hs
   obtain ⟨h1,_⟩:=Bd.want (n:=n) l s.next a s1 (by omega) h
   exact ⟨by omega,trivial⟩
  ·exact absurd h (by simp)

theorem Bd.nam {n : Nat} : Bd n (fun _ => True) namR:=fun s a s1 _ h => ⟨by have:=name_len (show nameR s = .ok a s1 from h.symm); omega,trivial⟩

theorem Bd.num {n : Nat} : Bd n (fun _ => True) numR:=by
 intro s a s1 _ h
 replace h : Res.ok a s1 = ite _ _ _:=h
 split at h
 ·rename_i hk
  have:=kind_len hk (by decide)
  injection h with _ h
  rw [h]
  exact ⟨by omega,trivial⟩
 ·exact absurd h (by simp)

theorem Bd.place {n : Nat} : Bd n (fun _ => True) placeR:=by
 intro s a s1 _ h
 replace h : Res.ok a s1 = .ok s.hd.2 s:=h
 injection h with _ h
 rw [h]
 exact ⟨Nat.le_refl _,trivial⟩

theorem Bd.expr {n : Nat} : Bd n (fun e => dep e ≤ n) exprR:=by
 rintro s a s1 hn ⟨m,h⟩
 have:=pX_dep m _ _ _ _ s.rest.length h (Nat.le_refl _)
 exact ⟨by omega,by omega⟩

theorem Bd.colm {n : Nat} : Bd n (fun e => dep e ≤ n) colmR:=fun s a s1 hn h => by
 have:=col_len (show colR s = .ok a s1 from h.symm)
 exact ⟨by omega,by omega⟩

theorem Bd.mono {α : Type} {n : Nat} {Q R : α → Prop} {f : Rd_ α} (h : Bd n Q f) (k : ∀ a,Q a → R a) : Bd n R f:=fun s a s1 hn hf => ⟨(h s a s1 hn hf).1,k a (h s a s1 hn hf).2⟩

theorem LsR.bd {α : Type} {n most : Nat} {Q : α → Prop} {f : Rd_ α} (hf : Bd n Q f) {acc : List α} {s : PS} {r : Res (List α)} (h : LsR f most acc s r) : ∀ l s1,r = .ok l s1 → s.rest.length ≤ n → (∀ x ∈ acc,Q x) → s1.rest.length ≤ s.rest.length ∧ (∀ x ∈ l,Q x) ∧ l.length + s1.rest.length ≤ acc.length + s.rest.length + 1:=by
 induction h with
 | bad _ => intro l s1 e; exact absurd e (by simp)
 | @last acc s s2 a h hs =>
  intro l s1 e hn ha
  injection e with e1 e2
  subst e1 e2
  obtain ⟨h1,h2⟩:=hf _ _ _ (by rw [cnt_len]; exact hn) h
  rw [cnt_len] at h1
  refine ⟨h1,fun x hx => ?_,by simp; omega⟩
  rcases List.mem_append.1 hx with hx | hx
  ·exact ha x hx
  ·simp only [List.mem_singleton] at hx
   subst hx
   exact h2
 | @more acc s s2 a r h hs _ ih =>
  intro l s1 e hn ha
  obtain ⟨h1,h2⟩:=hf _ _ _ (by rw [cnt_len]; exact hn) h
  rw [cnt_len] at h1
  have hl:=next_len hs
  obtain ⟨i1,i2,i3⟩:=ih l s1 e (by omega) fun x hx => by
   rcases List.mem_append.1 hx with hx | hx
   ·exact ha x hx
   ·simp only [List.mem_singleton] at hx
    subst hx
    exact h2
  simp at i3
  exact ⟨by omega,i2,by omega⟩

def LnQ {α : Type} (n : Nat) (Q : α → Prop) (l : List α) : Prop:=l.length ≤ n + 1 ∧ ∀ x ∈ l,Q x

theorem Bd.list {α : Type} {n most : Nat} {Q : α → Prop} {f : Rd_ α} (hf : Bd n Q f) : Bd n (LnQ n Q) (listR f most):=fun s l s1 hn h => by
 obtain ⟨h1,h2,h3⟩:=LsR.bd hf h l s1 rfl hn (fun _ h => absurd h (by simp))
 simp at h3
 exact ⟨h1,by omega,h2⟩

theorem LnQ.nil {α : Type} {n : Nat} {Q : α → Prop} : LnQ n Q []:=⟨by simp,fun _ h => absurd h (by simp)⟩

theorem LnQ.one {α : Type} {n : Nat} {Q : α → Prop} {a : α} (h : Q a) : LnQ n Q [a]:=⟨by simp,fun x hx => by simp only [List.mem_singleton] at hx; subst hx; exact h⟩

theorem Bd.over {n : Nat} {k : Int} {p : Nat} : Bd n (fun e => dep e ≤ n + 1) (overR k p):=(Bd.want _).bind fun _ _ => Bd.expr.bind fun e he => (Bd.want _).bind fun _ _ => Bd.ret (by rw [dep_over,depL_one]; omega)

theorem Bd.item {n : Nat} : Bd n (fun e => dep e ≤ n + 1) itemR:=fun s a s1 hn h => (Bd.if ((Bd.want _).bind fun _ _ => Bd.ret (by rw [dep_mk,depL]; omega)) (Bd.if Bd.over (Bd.if Bd.over (Bd.if Bd.over (Bd.expr.mono fun _ h => by omega)))) : Bd n (fun e => dep e ≤ n + 1) _) s a s1 hn h

theorem Bd.set {n : Nat} : Bd n (fun x => dep x.2.1 ≤ n + 1) setR:=fun s a s1 hn h => (Bd.nam.bind fun _ _ => (Bd.want _).bind fun _ _ => Bd.expr.bind fun e he => Bd.ret (by show dep e ≤ n + 1; omega) : Bd n (fun x => dep x.2.1 ≤ n + 1) _) s a s1 hn h

theorem Bd.sort {n : Nat} : Bd n (fun _ => True) sortR:=Bd.num.bind fun _ _ => Bd.if (Bd.ret trivial) (Bd.ret trivial)

structure StB (n : Nat) (t : St) : Prop where
 on : LnQ n (fun e => dep e ≤ n + 1) t.on
 whr : LnQ n (fun e => dep e ≤ n + 1) t.whr
 items : LnQ n (fun e => dep e ≤ n + 1) t.items
 sets : LnQ n (fun x => dep x.2.1 ≤ n + 1) t.sets
 groups : LnQ n (fun e => dep e ≤ n + 1) t.groups
 sorts : t.sorts.length ≤ n + 1
 limit : t.limit.length ≤ n + 1

theorem Bd.exprB {n : Nat} : Bd n (fun e => dep e ≤ n + 1) exprR:=Bd.expr.mono fun _ h => by omega

theorem Bd.whr {n : Nat} : Bd n (LnQ n fun e => dep e ≤ n + 1) whereR:=Bd.if (Bd.exprB.bind fun _ h => Bd.ret (LnQ.one h)) (Bd.ret LnQ.nil)

theorem Bd.ins {n : Nat} : Bd n (StB n) insR:=(Bd.want _).bind fun _ _ => Bd.nam.bind fun _ _ => (Bd.want _).bind fun _ _ => Bd.exprB.list.bind fun _ hl => (Bd.want _).bind fun _ _ => Bd.ret ⟨LnQ.nil,LnQ.nil,hl,LnQ.nil,LnQ.nil,Nat.zero_le _,Nat.zero_le _⟩

theorem Bd.upd {n : Nat} : Bd n (StB n) updR:=Bd.nam.bind fun _ _ => (Bd.want _).bind fun _ _ => Bd.set.list.bind fun _ hl => Bd.whr.bind fun _ he => Bd.ret ⟨LnQ.nil,he,LnQ.nil,hl,LnQ.nil,Nat.zero_le _,Nat.zero_le _⟩

theorem Bd.del {n : Nat} : Bd n (StB n) delR:=(Bd.want _).bind fun _ _ => Bd.nam.bind fun _ _ => Bd.whr.bind fun _ he => Bd.ret ⟨LnQ.nil,he,LnQ.nil,LnQ.nil,LnQ.nil,Nat.zero_le _,Nat.zero_le _⟩

theorem Bd.sel {n : Nat} : Bd n (StB n) selR:=by
 have hs : Bd n (fun l => LnQ n (fun e => dep e ≤ n + 1) l.2) starR:=Bd.if (Bd.ret LnQ.nil) (Bd.item.list.bind fun l hl => Bd.ret hl)
 have hj : Bd n (fun j => LnQ n (fun e => dep e ≤ n + 1) j.2.2) joinR:=Bd.if (Bd.place.bind fun _ _ => Bd.nam.bind fun _ _ => (Bd.want _).bind fun _ _ => Bd.exprB.bind fun _ h => Bd.ret (LnQ.one h)) (Bd.ret LnQ.nil)
 have hg : Bd n (LnQ n fun e => dep e ≤ n + 1) groupR:=Bd.if ((Bd.want _).bind fun _ _ => (Bd.colm.mono fun _ h => by omega).list) (Bd.ret LnQ.nil)
 have ho : Bd n (LnQ n fun _ => True) orderR:=Bd.if ((Bd.want _).bind fun _ _ => Bd.sort.list) (Bd.ret LnQ.nil)
 have hl : Bd n (fun l => l.length ≤ n + 1) limitR:=Bd.if (Bd.num.bind fun _ _ => Bd.ret (by simp)) (Bd.ret (by simp))
 exact hs.bind fun l h1 => (Bd.want _).bind fun _ _ => Bd.nam.bind fun _ _ => hj.bind fun j h2 => Bd.whr.bind fun e h3 => hg.bind fun g h4 => ho.bind fun o h5 => hl.bind fun m h6 => Bd.ret ⟨h2,h3,h1,LnQ.nil,h4,h5.1,h6⟩

theorem Bd.bad {α : Type} {n : Nat} {Q : α → Prop} : Bd n Q badR:=fun s a s1 _ h => absurd (show Res.ok a s1 = .bad s.hd.2 from h) (by simp)

theorem Bd.st {n : Nat} : Bd n (StB n) stR:=fun s a s1 hn h => by
 have : Bd n (StB n) (thenR (ifR wINSERT insR (ifR wUPDATE updR (ifR wDELETE delR (ifR wSELECT selR badR)))) fun t => retR { t with place:=(s.hd.2 : Int) }):=(Bd.if Bd.ins (Bd.if Bd.upd (Bd.if Bd.del (Bd.if Bd.sel Bd.bad)))).bind fun t ht => Bd.ret ⟨ht.on,ht.whr,ht.items,ht.sets,ht.groups,ht.sorts,ht.limit⟩
 exact this s a s1 hn h
end Go.Proofs.YtffalonhkemieaaGreatDoor

namespace Go.Proofs.YtffalonhkemieaaGreatDoor
open Go.RowKit
def exE (t : St) : List Ex:=(((t.on ++ t.whr) ++ t.items) ++ t.sets.map fun x => x.2.1) ++ t.groups

theorem addr_lit (b o j : Nat) : (⟨b,o,none⟩ : Addr).add j = ⟨b,o + j,none⟩:=by unfold Addr.add; split <;> simp_all

theorem xcs_len : ∀ (es : List Ex) (qs : List Value),es.length = qs.length → (xcs es qs).length = es.length * 9
 | [],[],_ => rfl
 | e :: es,q :: qs,h => by
  simp only [xcs,List.length_append,exC_len,List.length_cons]
  rw [xcs_len es qs (by simpa using h)]
  omega
 | [],_ :: _,h => by simp at h
 | _ :: _,[],h => by simp at h

theorem xcs_get : ∀ (es : List Ex) (qs : List Value) (J : Nat) (u : Value),es.length = qs.length → (xcs es qs)[J]? = some u → ∃ i j,∃ (h : i < es.length) (h' : i < qs.length),J = i * 9 + j ∧ (exC es[i] qs[i])[j]? = some u
 | [],[],J,u,_,hu => by simp [xcs] at hu
 | e :: es,q :: qs,J,u,h,hu => by
  simp only [xcs] at hu
  by_cases hJ : J < 9
  ·rw [List.getElem?_append_left (by rw [exC_len]; exact hJ)] at hu
   exact ⟨0,J,by simp,by simp,by omega,hu⟩
  ·rw [List.getElem?_append_right (by rw [exC_len]; omega),exC_len] at hu
   obtain ⟨i,j,h1,h2,h3,h4⟩:=xcs_get es qs (J - 9) u (by simpa using h) hu
   exact ⟨i + 1,j,by simpa using h1,by simpa using h2,by omega,by simpa using h4⟩
 | [],_ :: _,_,_,h,_ => by simp at h
 | _ :: _,[],_,_,h,_ => by simp at h

theorem xcs_one : ∀ (es : List Ex) (qs : List Value),(∀ i (h : i < qs.length),∃ p m c,qs[i] = Value.slice p m c) → ∀ u ∈ xcs es qs,u.oneCell' = true
 | [],_,_,u,hu => by simp [xcs] at hu
 | _ :: _,[],_,u,hu => by simp [xcs] at hu
 | e :: es,q :: qs,hq,u,hu => by
  simp only [xcs,List.mem_append] at hu
  rcases hu with hu | hu
  ·obtain ⟨p,m,c,e0⟩:=hq 0 (by simp)
   exact exC_one e q (by rw [show q = .slice p m c from e0]; rfl) u hu
  ·exact xcs_one es qs (fun i h => hq (i + 1) (by simpa using h)) u hu

theorem xrow_news {w : World} {p : Option Addr} {es : List Ex} {qs : List Value} (h : XRow w p es qs) (hl : es.length = qs.length) (h0 : 0 < (xcs es qs).length) : ∃ ad,p = some ad ∧ ∀ j u,(xcs es qs)[j]? = some u → w.cell? (ad.add j) = some u:=by
 have hn : 0 < es.length:=by rw [xcs_len es qs hl] at h0; omega
 obtain ⟨b,off,e,_⟩:=h 0 hn (by omega)
 refine ⟨_,e,fun J u hu => ?_⟩
 obtain ⟨i,j,h1,h2,rfl,h4⟩:=xcs_get es qs J u hl hu
 obtain ⟨b',off',e',hc⟩:=h i h1 h2
 rw [e] at e'
 injection e' with e'
 injection e' with e1 e2 _
 subst e1 e2
 rw [addr_lit,← Nat.add_assoc]
 exact hc j u h4

structure ER (w W : World) (o : Obj) (l : List Ex) (ks : List Value) (v : Value) : Prop where
 len : l.length = ks.length
 own : W.ownsRow (w.heap.size + 1) 48 9 v l.length (xcs l ks)
 bel : Below w.heap.size w W
 blk : W.heap[w.heap.size]? = some o
 kids : ∀ i (h : i < l.length) (h' : i < ks.length),XR w l[i] ks[i]

theorem ER.far {w W : World} {o : Obj} {l : List Ex} {ks : List Value} {v : Value} (h : ER w W o l ks v) : v.ownBlock ≠ some w.heap.size:=fun e => by have:=(h.own.lt _ e).1; omega

theorem ER.grow {w W X Y : World} {o : Obj} {l es : List Ex} {ks qs : List Value} {v v' : Value} {n : Nat} (h : ER w W o l ks v) (hl : es.length = qs.length) (hn : n = es.length) (hX : Below W.heap.size W X) (ho : Y.ownsRow (w.heap.size + 1) 48 9 v' (l.length + n) (xcs l ks ++ xcs es qs)) (hg : X.grownBy Y v.ownBlock) (hk : ∀ i (h : i < es.length) (h' : i < qs.length),XR w es[i] qs[i]) : ER w Y o (l ++ es) (ks ++ qs) v':=by
 subst hn
 have hlt : w.heap.size < W.heap.size:=(Gx h.blk)
 refine ⟨by simp [h.len,hl],?_,?_,?_,?_⟩
 ·rw [List.length_append,xcs_append _ _ _ _ h.len]
  exact ho
 ·refine ⟨hg.os.trans (hX.os.trans h.bel.os),hg.tape.trans (hX.tape.trans h.bel.tape),hg.output.trans (hX.output.trans h.bel.output),Nat.le_trans h.bel.size (Nat.le_trans hX.size hg.size),fun k hk => ?_⟩
  have h1 : k < W.heap.size:=Nat.lt_of_lt_of_le hk h.bel.size
  refine (hg.block k (Nat.lt_of_lt_of_le h1 hX.size) fun e => ?_).trans ((hX.block k h1).trans (h.bel.block k hk))
  have:=(h.own.lt _ e.symm).1
  omega
 ·exact (hg.block _ (Nat.lt_of_lt_of_le hlt hX.size) fun e => h.far e.symm).trans ((hX.block _ hlt).trans h.blk)
 ·intro i h1 h2
  by_cases hi : i < l.length
  ·rw [List.getElem_append_left hi,List.getElem_append_left (by rw [← h.len]; exact hi)]
   exact h.kids i hi _
  ·simp at h1 h2
   have e : i - l.length = i - ks.length:=by rw [h.len]
   rw [List.getElem_append_right (by omega),List.getElem_append_right (by have:=h.len; omega)]
   simp only [← h.len]
   exact hk (i - l.length) (by omega) (by have:=h.len; omega)

def ExP (t : St) (w : World) (e : Ending) (w' : World) : Prop:=∃ ks p c,e = .returned (.slice p (exE t).length c) ∧ (exE t).length = ks.length ∧ (exE t).length ≤ c ∧ (exE t).length ≤ 9223372036854775807 ∧ XRow w' p (exE t) ks ∧ Below w.heap.size w w' ∧ ∀ i (h : i < (exE t).length) (h' : i < ks.length),XR w (exE t)[i] ks[i]

theorem ER.done {w W : World} {o : Obj} {t : St} {ks : List Value} {v : Value} (h : ER w W o (exE t) ks v) : ExP t w (.returned v) W:=by
 obtain ⟨p,c,e,h1,h2,h3⟩:=own_row h.own
 refine ⟨ks,p,c,by rw [e],h.len,h1,h2,fun i hi hi' => ?_,h.bel,h.kids⟩
 have hx : (exC (exE t)[i] ks[i])[0]? ≠ none:=by
  intro e
  have:=List.getElem?_eq_none_iff.1 e
  rw [exC_len] at this
  omega
 obtain ⟨u,hu⟩:=Option.ne_none_iff_exists'.1 hx
 obtain ⟨b,eb,_⟩:=h3 _ _ (getElem?_xcs _ _ i 0 u hi hi' hu)
 refine ⟨b,0,eb,fun j u hu => ?_⟩
 obtain ⟨b',eb',hc⟩:=h3 _ _ (getElem?_xcs _ _ i j u hi hi' hu)
 rw [eb] at eb'
 injection eb' with eb'
 injection eb' with eb' _ _
 subst eb'
 rw [Nat.zero_add]
 exact hc

theorem StB.sum {n : Nat} {t : St} (h : StB n t) : t.on.length ≤ n + 1 ∧ t.whr.length ≤ n + 1 ∧ t.items.length ≤ n + 1 ∧ t.sets.length ≤ n + 1 ∧ t.groups.length ≤ n + 1:=⟨h.on.1,h.whr.1,h.items.1,h.sets.1,h.groups.1⟩

theorem qExprs_any (t : St) (a0 a1 a2 a3 a4 a5 a6 : Option Addr) (c0 c1 c2 c3 c4 c5 c6 : Nat) (w : World) (h : StRd w t (.slice a0 t.on.length c0) (.slice a1 t.whr.length c1) (.slice a2 t.items.length c2) (.slice a3 t.sets.length c3) (.slice a4 t.groups.length c4)) (hb : StB 1001 t) : Calls Tryz.prog 25 #[.agg (Vt t.kind t.table t.join (.slice a0 t.on.length c0) (.slice a1 t.whr.length c1) (.slice a2 t.items.length c2) t.star (.slice a3 t.sets.length c3) (.slice a4 t.groups.length c4) (.slice a5 t.sorts.length c5) (.slice a6 t.limit.length c6) t.place t.joinAt)] w (ExP t w):=by
 obtain ⟨b0,b1,b2,b3,b4⟩:=hb.sum
 have HRD:=Hd h
 clear h hb
 obtain ⟨i0,hi,hz0,hz1,hz2⟩:=info_parts Tryz.infoExpr
 obtain ⟨W,hW⟩:=Vx (w.alloc (.cells (Vt t.kind t.table t.join (.slice a0 t.on.length c0) (.slice a1 t.whr.length c1) (.slice a2 t.items.length c2) t.star (.slice a3 t.sets.length c3) (.slice a4 t.groups.length c4) (.slice a5 t.sorts.length c5) (.slice a6 t.limit.length c6) t.place t.joinAt) 27))
 have HE : Hid (ER w W (.cells (Vt t.kind t.table t.join (.slice a0 t.on.length c0) (.slice a1 t.whr.length c1) (.slice a2 t.items.length c2) t.star (.slice a3 t.sets.length c3) (.slice a4 t.groups.length c4) (.slice a5 t.sorts.length c5) (.slice a6 t.limit.length c6) t.place t.joinAt) 27 (0,0)) [] [] Vn):=⟨rfl,World.ownsRow_nil _ _ _ _,hW ▸ (Below.refl _ _).alloc (Nat.le_refl _) _,hW ▸ heap_alloc_new w _,fun _ h => absurd h (Nat.not_lt_zero _)⟩
 have zs:=(thirt_of HE.out.blk).1
 go_enter Tryz.func25,Tryz.ntmps25
 obtain ⟨A0,hA0⟩:=Vx ([] : List Ex)
 obtain ⟨K0,hK0⟩:=Vx ([] : List Value)
 replace HE : Hid (ER w W (.cells (Vt t.kind t.table t.join (.slice a0 t.on.length c0) (.slice a1 t.whr.length c1) (.slice a2 t.items.length c2) t.star (.slice a3 t.sets.length c3) (.slice a4 t.groups.length c4) (.slice a5 t.sorts.length c5) (.slice a6 t.limit.length c6) t.place t.joinAt) 27 (0,0)) A0 K0 Vn):=by rw [← hA0,← hK0]; exact HE.out
 have hn0 : A0.length ≤ 0:=by rw [← hA0]; exact Nat.le_refl _
 have HA0:=Hd hA0
 clear hA0 hK0
 obtain ⟨p_,c_,q0,e,hc0,hm0,hl0,hr0,hx0⟩:=HRD.out.on
 injection e with e1 _ e3
 subst e1 e3
 have HL0:=Hd hl0
 have HR0:=Hd hr0
 have HX0:=Hd hx0
 clear hc0 hm0 hl0 hr0 hx0
 go_wp2_with (first | (at_builtin; refine wpList_append_whole _ rfl _ _ 22 rfl (w.heap.size + 1) 48 i0 _ 9 112 Tryz.underlying22 hi hz0 hz1 hz2 rfl (by decide) Vn A0.length (xcs A0 K0) rfl ?c0 a0 t.on.length c0 (xcs t.on q0) rfl ?c1 ?c2 ?c3 ?c4 ?c5 ?c6 ?_))
 case c0 => exact HE.out.own
 case c1 => exact xcs_len _ _ HL0.out
 case c2 => intro h0; obtain ⟨ad,e,hc⟩:=xrow_news HR0.out HL0.out h0; exact ⟨ad,e,fun j u hu => (HE.out.bel.cell (World.block_lt_of_cell? _ _ (hc j u hu))).trans (hc j u hu)⟩
 case c3 => exact xcs_one _ _ fun i h => (HX0.out i (by rw [HL0.out]; exact h) h).slice
 case c4 => unfold maxLen; omega
 case c5 => omega
 case c6 => have:=(Gx HE.out.blk); omega
 intro v0 w0 hown hgrow
 replace HE:=Hd (HE.out.grow HL0.out rfl (Below.refl _ _) hown hgrow HX0.out)
 obtain ⟨A1,hA⟩:=Vx (A0 ++ t.on)
 obtain ⟨K1,hK⟩:=Vx (K0 ++ q0)
 rw [hA,hK] at HE
 have hn1 : A1.length ≤ 1002:=by rw [← hA,List.length_append]; omega
 have HA1:=Hd hA
 clear hown hgrow hA hK zs hW
 have zs:=(thirt_of HE.out.blk).1
 obtain ⟨p_,c_,q1,e,hc1,hm1,hl1,hr1,hx1⟩:=HRD.out.whr
 injection e with e1 _ e3
 subst e1 e3
 have HL1:=Hd hl1
 have HR1:=Hd hr1
 have HX1:=Hd hx1
 clear hc1 hm1 hl1 hr1 hx1
 go_wp2_with (first | (at_builtin; refine wpList_append_whole _ rfl _ _ 22 rfl (w.heap.size + 1) 48 i0 _ 9 112 Tryz.underlying22 hi hz0 hz1 hz2 rfl (by decide) (v0) A1.length (xcs A1 K1) rfl ?c0 a1 t.whr.length c1 (xcs t.whr q1) rfl ?c1 ?c2 ?c3 ?c4 ?c5 ?c6 ?_))
 case c0 => exact HE.out.own
 case c1 => exact xcs_len _ _ HL1.out
 case c2 => intro h0; obtain ⟨ad,e,hc⟩:=xrow_news HR1.out HL1.out h0; exact ⟨ad,e,fun j u hu => (HE.out.bel.cell (World.block_lt_of_cell? _ _ (hc j u hu))).trans (hc j u hu)⟩
 case c3 => exact xcs_one _ _ fun i h => (HX1.out i (by rw [HL1.out]; exact h) h).slice
 case c4 => unfold maxLen; omega
 case c5 => omega
 case c6 => have:=(Gx HE.out.blk); omega
 intro v1 w1 hown hgrow
 replace HE:=Hd (HE.out.grow HL1.out rfl (Below.refl _ _) hown hgrow HX1.out)
 obtain ⟨A2,hA⟩:=Vx (A1 ++ t.whr)
 obtain ⟨K2,hK⟩:=Vx (K1 ++ q1)
 rw [hA,hK] at HE
 have hn2 : A2.length ≤ 2004:=by rw [← hA,List.length_append]; omega
 have HA2:=Hd hA
 clear hown hgrow hA hK zs
 have zs:=(thirt_of HE.out.blk).1
 obtain ⟨p_,c_,q2,e,hc2,hm2,hl2,hr2,hx2⟩:=HRD.out.items
 injection e with e1 _ e3
 subst e1 e3
 have HL2:=Hd hl2
 have HR2:=Hd hr2
 have HX2:=Hd hx2
 clear hc2 hm2 hl2 hr2 hx2
 go_wp2_with (first | (at_builtin; refine wpList_append_whole _ rfl _ _ 22 rfl (w.heap.size + 1) 48 i0 _ 9 112 Tryz.underlying22 hi hz0 hz1 hz2 rfl (by decide) (v1) A2.length (xcs A2 K2) rfl ?c0 a2 t.items.length c2 (xcs t.items q2) rfl ?c1 ?c2 ?c3 ?c4 ?c5 ?c6 ?_))
 case c0 => exact HE.out.own
 case c1 => exact xcs_len _ _ HL2.out
 case c2 => intro h0; obtain ⟨ad,e,hc⟩:=xrow_news HR2.out HL2.out h0; exact ⟨ad,e,fun j u hu => (HE.out.bel.cell (World.block_lt_of_cell? _ _ (hc j u hu))).trans (hc j u hu)⟩
 case c3 => exact xcs_one _ _ fun i h => (HX2.out i (by rw [HL2.out]; exact h) h).slice
 case c4 => unfold maxLen; omega
 case c5 => omega
 case c6 => have:=(Gx HE.out.blk); omega
 intro v2 w2 hown hgrow
 replace HE:=Hd (HE.out.grow HL2.out rfl (Below.refl _ _) hown hgrow HX2.out)
 obtain ⟨A3,hA⟩:=Vx (A2 ++ t.items)
 obtain ⟨K3,hK⟩:=Vx (K2 ++ q2)
 rw [hA,hK] at HE
 have hn3 : A3.length ≤ 3006:=by rw [← hA,List.length_append]; omega
 have HA3:=Hd hA
 clear hown hgrow hA hK zs
 have zs:=(thirt_of HE.out.blk).1
 obtain ⟨p_,c_,q3,e,hc3,hm3,hl3,hr3,hx3⟩:=HRD.out.sets
 injection e with e1 _ e3
 subst e1 e3
 have HL3:=Hd hl3
 have HR3:=Hd hr3
 have HX3:=Hd hx3
 clear hc3 hm3 hl3 hr3 hx3
 clear zs
 go_wp2
 go_loopw [3,4] (fun v i wr => ∃ (k : Nat) (ks : List Value) (l : List Ex),k ≤ t.sets.length ∧ i = Vi (k : Int) ∧ l = A3 ++ ((t.sets.take k).map fun x => x.2.1) ∧ ER w wr (.cells (Vt t.kind t.table t.join (.slice a0 t.on.length c0) (.slice a1 t.whr.length c1) (.slice a2 t.items.length c2) t.star (.slice a3 t.sets.length c3) (.slice a4 t.groups.length c4) (.slice a5 t.sorts.length c5) (.slice a6 t.limit.length c6) t.place t.joinAt) 27 (0,0)) l ks v) (fun _ i _ => t.sets.length - (intOf i).toNat)
 case atStart => exact ⟨0,K3,A3,Nat.zero_le _,rfl,by rw [List.take_zero,List.map_nil,List.append_nil],HE.out⟩
 case round =>
  clear HE
  obtain ⟨k,K4,A4,hk,rfl,hl4,he⟩:=hrel
  obtain ⟨a9,c9,rfl⟩:=own_form he.own
  have HE:=Hd he
  have hn4 : A4.length ≤ 4008:=by rw [hl4,List.length_append,List.length_map,List.length_take]; omega
  have HA4:=Hd hl4
  clear he hl4
  have zs:=(thirt_of HE.out.blk).1
  by_cases hlt : k < t.sets.length
  ·have hlti : (k : Int) < (t.sets.length : Int):=by omega
   have hq : k < q3.length:=by rw [← HL3.out]; exact hlt
   obtain ⟨b,off,e4,g⟩:=HR3.out k hlt hq
   have hx:=HX3.out k hlt hq
   obtain ⟨pc,mc,cc,hks⟩:=hx.slice
   rw [hks] at g hx
   obtain ⟨⟨nm,⟨kk,oo,⟨v1,v2,v3⟩,tt,nn,ksk,pp⟩,pl⟩,ek⟩ : ∃ z,t.sets[k] = z:=⟨_,rfl⟩
   rw [ek] at g hx
   subst e4
   have p1:=(HE.out.bel.cell (World.block_lt_of_cell? _ _ (g 1 _ rfl))).trans (g 1 _ rfl)
   have p2:=(HE.out.bel.cell (World.block_lt_of_cell? _ _ (g 2 _ rfl))).trans (g 2 _ rfl)
   have p3:=(HE.out.bel.cell (World.block_lt_of_cell? _ _ (g 3 _ rfl))).trans (g 3 _ rfl)
   have p4:=(HE.out.bel.cell (World.block_lt_of_cell? _ _ (g 4 _ rfl))).trans (g 4 _ rfl)
   have p5:=(HE.out.bel.cell (World.block_lt_of_cell? _ _ (g 5 _ rfl))).trans (g 5 _ rfl)
   have p6:=(HE.out.bel.cell (World.block_lt_of_cell? _ _ (g 6 _ rfl))).trans (g 6 _ rfl)
   have p7:=(HE.out.bel.cell (World.block_lt_of_cell? _ _ (g 7 _ rfl))).trans (g 7 _ rfl)
   have p8:=(HE.out.bel.cell (World.block_lt_of_cell? _ _ (g 8 _ rfl))).trans (g 8 _ rfl)
   have p9:=(HE.out.bel.cell (World.block_lt_of_cell? _ _ (g 9 _ rfl))).trans (g 9 _ rfl)
   have HX:=Hd hx
   have HTK : Hid (A4 ++ [(Ex.mk kk oo (v1,v2,v3) tt nn ksk pp)] = A3 ++ ((t.sets.take (k + 1)).map fun x => x.2.1)):=by show _ = _; rw [HA4.out,List.take_add_one,List.getElem?_eq_getElem hlt,ek]; simp
   clear g hx hks ek hq
   go_wp2_with (first | (at_builtin; refine wpList_append_own _ rfl _ _ 22 rfl (w.heap.size + 1) 48 i0 _ 9 112 Tryz.underlying22 hi hz0 hz1 hz2 rfl (by decide) _ A4.length (xcs A4 K4) rfl ?c0 ⟨wr.heap.size,0,none⟩ 1 1 (exC (Ex.mk kk oo (v1,v2,v3) tt nn ksk pp) (.slice pc mc cc)) rfl rfl ?c1 ?c2 ?c3 ?c4 ?c5 ?_))
   case c0 => exact HE.out.own.alloc _
   case c1 => exact fun _ _ h => h
   case c2 => exact exC_one _ _ rfl
   case c3 => unfold maxLen; omega
   case c4 => omega
   case c5 => have:=(Gx HE.out.blk); simp; omega
   intro v8 w8 hown hgrow _
   have HE8:=Hd (HE.out.grow (es:=[(Ex.mk kk oo (v1,v2,v3) tt nn ksk pp)]) (qs:=[.slice pc mc cc]) (n:=1) rfl rfl ((Below.refl _ _).alloc (Nat.le_refl _) (.cells (Ve kk oo v1 v2 v3 tt nn (.slice pc mc cc) pp) 48)) (by simpa [xcs] using hown) hgrow fun i h h' => by (obtain rfl : i = 0:=by simp at h; omega); exact HX.out)
   clear hown hgrow
   go_wp2
   go_roundw
   case rel => exact ⟨k + 1,_,_,by omega,by go_num,HTK.out,HE8.out⟩
   case measure => simp [intOf]; omega
  ·have hnlt : ¬ (k : Int) < (t.sets.length : Int):=by omega
   have HA4b : Hid (A4 = A3 ++ t.sets.map fun x => x.2.1):=by show _ = _; rw [HA4.out,List.take_of_length_le (by omega)]
   clear hk hlt
   obtain ⟨p_,c_,q4,e,hc4,hm4,hl4,hr4,hx4⟩:=HRD.out.groups
   injection e with e1 _ e3
   subst e1 e3
   have HL4:=Hd hl4
   have HR4:=Hd hr4
   have HX4:=Hd hx4
   clear hc4 hm4 hl4 hr4 hx4
   go_wp2_with (first | (at_builtin; refine wpList_append_whole _ rfl _ _ 22 rfl (w.heap.size + 1) 48 i0 _ 9 112 Tryz.underlying22 hi hz0 hz1 hz2 rfl (by decide) (.slice a9 A4.length c9) A4.length (xcs A4 K4) rfl ?c0 a4 t.groups.length c4 (xcs t.groups q4) rfl ?c1 ?c2 ?c3 ?c4 ?c5 ?c6 ?_))
   case c0 => exact HE.out.own
   case c1 => exact xcs_len _ _ HL4.out
   case c2 => intro h0; obtain ⟨ad,e,hc⟩:=xrow_news HR4.out HL4.out h0; exact ⟨ad,e,fun j u hu => (HE.out.bel.cell (World.block_lt_of_cell? _ _ (hc j u hu))).trans (hc j u hu)⟩
   case c3 => exact xcs_one _ _ fun i h => (HX4.out i (by rw [HL4.out]; exact h) h).slice
   case c4 => unfold maxLen; omega
   case c5 => omega
   case c6 => have:=(Gx HE.out.blk); omega
   intro v4 w4 hown hgrow
   replace HE:=Hd (HE.out.grow HL4.out rfl (Below.refl _ _) hown hgrow HX4.out)
   obtain ⟨A5,hA⟩:=Vx (A4 ++ t.groups)
   obtain ⟨K5,hK⟩:=Vx (K4 ++ q4)
   rw [hA,hK] at HE
   have hn5 : A5.length ≤ 5010:=by rw [← hA,List.length_append]; omega
   have HA5:=Hd hA
   clear hown hgrow hA hK zs
   have zs:=(thirt_of HE.out.blk).1
   have HX9 : Hid (A5 = exE t):=by show _ = _; rw [← HA5.out,HA4b.out,← HA3.out,← HA2.out,← HA1.out,← HA0.out]; rfl
   have HE9 : Hid (ER w w4 (.cells (Vt t.kind t.table t.join (.slice a0 t.on.length c0) (.slice a1 t.whr.length c1) (.slice a2 t.items.length c2) t.star (.slice a3 t.sets.length c3) (.slice a4 t.groups.length c4) (.slice a5 t.sorts.length c5) (.slice a6 t.limit.length c6) t.place t.joinAt) 27 (0,0)) (exE t) K5 v4):=by have:=HE.out; rw [HX9.out] at this; exact this
   go_wp2
   exact bodyPost_ret (v:=v4) (by simp [results,Tryz.results25,go_sem]) rfl HE9.out.done
end Go.Proofs.YtffalonhkemieaaGreatDoor
