/- M136 M137 M138 -/
import Derived.Test.YtffalonhkemieaaGreatDoorSA40
namespace Go.Proofs.YtffalonhkemieaaGreatDoor
open Go Go.RowKit
structure RS where
 all : List T
 pos : Nat
 wrong : Bool
 many : List Nat

def RS.ps (r : RS) : PS:=⟨r.all.drop r.pos,if r.many = [] then 0 else 112,((r.many.headD 0 : Nat) : Int)⟩

def RS.step (r : RS) : RS:={ r with pos:=r.pos + 1 }

def RS.stop (r : RS) : RS:={ r with wrong:=true }

def RS.cnt (r : RS) (n most : Nat) : RS:=if r.wrong = false ∧ n = most then { r with many:=r.many ++ [r.ps.hd.2] } else r

def RS.sees (r : RS) (x : List UInt8) : Bool:=!r.wrong && r.ps.sees x

theorem RS.ps_step (r : RS) : r.step.ps = r.ps.next:=by
 unfold RS.ps RS.step PS.next
 simp

theorem RS.ps_cnt {r : RS} (h : r.wrong = false) (n most : Nat) : (r.cnt n most).ps = r.ps.cnt n most:=by
 unfold RS.cnt PS.cnt
 by_cases hn : n = most
 ·rw [if_pos ⟨h,hn⟩]
  cases hm : r.many with
  | nil =>
   rw [if_pos ⟨hn,by unfold RS.ps; rw [hm]; rfl⟩]
   unfold RS.ps
   simp
  | cons m l =>
   rw [if_neg fun k => absurd k.2 (by unfold RS.ps; rw [hm]; simp)]
   unfold RS.ps
   simp [hm]
 ·rw [if_neg fun k => hn k.2,if_neg fun k => hn k.1]

theorem RS.cnt_wrong (r : RS) (n most : Nat) : (r.cnt n most).wrong = r.wrong:=by
 unfold RS.cnt
 split <;> rfl

theorem RS.cnt_rest (r : RS) (n most : Nat) : (r.cnt n most).ps.rest = r.ps.rest:=by
 unfold RS.cnt
 split <;> rfl

theorem RS.sees_wrong {r : RS} {x : List UInt8} (h : r.wrong = true) : r.sees x = false:=by unfold RS.sees; rw [h]; rfl

theorem RS.sees_right {r : RS} {x : List UInt8} (h : r.wrong = false) : r.sees x = r.ps.sees x:=by unfold RS.sees; rw [h]; rfl

theorem RS.sees_true {r : RS} {x : List UInt8} (h : r.sees x = true) : r.wrong = false ∧ r.ps.sees x = true:=by
 unfold RS.sees at h
 simpa using h

def wv : List (List UInt8):=[wNull,wTrue,wFalse]

structure RS.Ok (r : RS) : Prop where
 wf : Wf (r.all.drop r.pos)
 len : r.all.length ≤ 1001
 rise : ∀ i j (hj : j < r.all.length) (hi : i ≤ j),r.all[i].2 ≤ r.all[j].2
 sg : ∀ t ∈ r.all,t.1.1 = 7 → t.1.2.2.data.toList ∉ wv
 low : ∀ m ∈ r.many,r.many.headD 0 ≤ m ∧ m ≤ r.ps.hd.2
 cap : r.many.length ≤ r.pos

theorem RS.Ok.pos {r : RS} (h : r.Ok) : r.pos < r.all.length:=by
 have:=List.length_pos_iff.2 h.wf.ne
 simp at this
 omega

theorem RS.hd_eq {r : RS} (h : r.pos < r.all.length) : r.ps.hd = r.all[r.pos]:=by
 unfold RS.ps PS.hd
 show (r.all.drop r.pos).headD _ = _
 rw [List.drop_eq_getElem_cons h]
 rfl

theorem RS.Ok.hd_sg {r : RS} (h : r.Ok) : r.ps.hd.1.1 = 7 → r.ps.hd.1.2.2.data.toList ∉ wv:=by
 rw [RS.hd_eq h.pos]
 exact h.sg _ (List.getElem_mem _)

theorem RS.Ok.stop {r : RS} (h : r.Ok) : r.stop.Ok:=⟨h.wf,h.len,h.rise,h.sg,h.low,h.cap⟩

theorem RS.Ok.step {r : RS} (h : r.Ok) (hk : r.ps.hd.1.1 ≠ 1) : r.step.Ok:=by
 have hp:=h.pos
 have hw:=h.wf
 rw [List.drop_eq_getElem_cons hp] at hw
 rw [RS.hd_eq hp] at hk
 have hw2:=hw.tail hk
 have hp2 : r.step.pos < r.step.all.length:=by
  have:=List.length_pos_iff.2 hw2.ne
  simp at this
  show r.pos + 1 < r.all.length
  omega
 refine ⟨hw2,h.len,h.rise,h.sg,fun m hm => ⟨(h.low m hm).1,Nat.le_trans (h.low m hm).2 ?_⟩,by have:=h.cap; show r.many.length ≤ r.pos + 1; omega⟩
 rw [RS.hd_eq hp,RS.hd_eq hp2]
 exact h.rise _ _ _ (Nat.le_succ _)

theorem RS.Ok.cnt {r : RS} (h : r.Ok) {n most : Nat} (hc : n = most → r.many.length < r.pos) : (r.cnt n most).Ok:=by
 unfold RS.cnt
 split
 ·rename_i k
  refine ⟨h.wf,h.len,h.rise,h.sg,fun m hm => ?_,?_⟩
  ·have hhd : (RS.ps { r with many:=r.many ++ [r.ps.hd.2] }).hd = r.ps.hd:=rfl
   rw [hhd]
   replace hm : m ∈ r.many ++ [r.ps.hd.2]:=hm
   show (r.many ++ [r.ps.hd.2]).headD 0 ≤ m ∧ _
   cases hr : r.many with
   | nil =>
    rw [hr] at hm
    simp only [List.nil_append,List.mem_singleton] at hm
    subst hm
    exact ⟨Nat.le_refl _,Nat.le_refl _⟩
   | cons x l =>
    show x ≤ m ∧ _
    rcases List.mem_append.1 hm with hm | hm
    ·have:=h.low m hm
     rw [hr] at this
     exact this
    ·simp only [List.mem_singleton] at hm
     subst hm
     exact ⟨(h.low x (by rw [hr]; simp)).2,Nat.le_refl _⟩
  ·have:=hc k.2
   show (r.many ++ [_]).length ≤ r.pos
   simp
   omega
 ·exact h

theorem RS.seen_ok {r : RS} {x : List UInt8} (h : r.ps.sees x = true) : r.ps.hd.1.1 ≠ 1:=by
 unfold PS.sees at h
 simp only [Bool.and_eq_true,Bool.or_eq_true,decide_eq_true_eq] at h
 rcases h.1 with h | h <;> omega

def Lk {α : Type} (f : Rd_ α) (r : RS) (a : α) (r' : RS) : Prop:=(r.wrong = true ∧ r' = r) ∨ (r.wrong = false ∧ ((r'.wrong = false ∧ f r.ps (.ok a r'.ps)) ∨ (r'.wrong = true ∧ f r.ps (.bad r'.ps.hd.2))))

theorem Lk.right {α : Type} {f : Rd_ α} {r r' : RS} {a : α} (h : Lk f r a r') (k : r'.wrong = false) : r.wrong = false:=by
 rcases h with ⟨h,rfl⟩ | ⟨h,_⟩
 ·exact k
 ·exact h

theorem Lk.bind {α β : Type} {f : Rd_ α} {g : α → Rd_ β} {r r1 r' : RS} {a : α} {b : β} (h : Lk f r a r1) (k : Lk (g a) r1 b r') : Lk (thenR f g) r b r':=by
 rcases h with ⟨h,rfl⟩ | ⟨h,⟨h1,h2⟩ | ⟨h1,h2⟩⟩
 ·rcases k with ⟨k,rfl⟩ | ⟨k,_⟩
  ·exact Or.inl ⟨h,rfl⟩
  ·rw [h] at k; exact absurd k (by decide)
 ·rcases k with ⟨k,_⟩ | ⟨_,⟨k1,k2⟩ | ⟨k1,k2⟩⟩
  ·rw [h1] at k; exact absurd k (by decide)
  ·exact Or.inr ⟨h,Or.inl ⟨k1,thenR_ok h2 k2⟩⟩
  ·exact Or.inr ⟨h,Or.inr ⟨k1,thenR_ok h2 k2⟩⟩
 ·rcases k with ⟨_,rfl⟩ | ⟨k,_⟩
  ·exact Or.inr ⟨h,Or.inr ⟨h1,thenR_bad h2⟩⟩
  ·rw [h1] at k; exact absurd k (by decide)

theorem Lk.ret {α : Type} (r : RS) (a : α) : Lk (retR a) r a r:=by
 cases h : r.wrong with
 | true => exact Or.inl ⟨h,rfl⟩
 | false => exact Or.inr ⟨h,Or.inl ⟨h,rfl⟩⟩

theorem Lk.imp {α : Type} {f g : Rd_ α} {r r' : RS} {a : α} (h : Lk f r a r') (k : r.wrong = false → ∀ x,f r.ps x → g r.ps x) : Lk g r a r':=by
 rcases h with ⟨h,e⟩ | ⟨h,⟨h1,h2⟩ | ⟨h1,h2⟩⟩
 ·exact Or.inl ⟨h,e⟩
 ·exact Or.inr ⟨h,Or.inl ⟨h1,k h _ h2⟩⟩
 ·exact Or.inr ⟨h,Or.inr ⟨h1,k h _ h2⟩⟩

theorem Lk.from {α : Type} {f g : Rd_ α} {r r1 r' : RS} {a b : α} (h : Lk f r1 a r') (hw : r.wrong = false) (hw1 : r1.wrong = false) (k1 : ∀ s,f r1.ps (.ok a s) → g r.ps (.ok b s)) (k2 : ∀ p,f r1.ps (.bad p) → g r.ps (.bad p)) : Lk g r b r':=by
 rcases h with ⟨h,_⟩ | ⟨_,⟨h1,h2⟩ | ⟨h1,h2⟩⟩
 ·rw [hw1] at h; exact absurd h (by decide)
 ·exact Or.inr ⟨hw,Or.inl ⟨h1,k1 _ h2⟩⟩
 ·exact Or.inr ⟨hw,Or.inr ⟨h1,k2 _ h2⟩⟩

theorem Lk.yes {α : Type} {f g : Rd_ α} {x : List UInt8} {r r' : RS} {a : α} (hs : r.sees x = true) (h : Lk f r.step a r') : Lk (ifR x f g) r a r':=by
 obtain ⟨hw,hx⟩:=RS.sees_true hs
 refine h.from hw hw (fun s k => ifR_yes hx ?_) (fun p k => ifR_yes hx ?_)
 ·rw [← RS.ps_step]; exact k
 ·rw [← RS.ps_step]; exact k

theorem Lk.not {α : Type} {f g : Rd_ α} {x : List UInt8} {r r' : RS} {a : α} (hs : r.sees x = false) (h : Lk g r a r') : Lk (ifR x f g) r a r' :=
 h.imp fun hw _ k => ifR_not (by rw [← RS.sees_right hw]; exact hs) k

theorem Lk.want {r : RS} {x : List UInt8} : Lk (wantR [x]) r () (if r.sees x = true then r.step else r.stop):=by
 cases hw : r.wrong with
 | true =>
  refine Or.inl ⟨hw,?_⟩
  rw [RS.sees_wrong hw,if_neg (by decide)]
  unfold RS.stop
  rw [← hw]
 | false =>
  refine Or.inr ⟨hw,?_⟩
  rw [RS.sees_right hw]
  cases hs : r.ps.sees x with
  | true =>
   rw [if_pos rfl]
   refine Or.inl ⟨hw,?_⟩
   show _ = needsR [x] r.ps
   rw [needsR,if_pos hs,RS.ps_step]
   rfl
  | false =>
   rw [if_neg (by decide)]
   refine Or.inr ⟨rfl,?_⟩
   show _ = needsR [x] r.ps
   rw [needsR,if_neg (by rw [hs]; decide)]
   rfl

def RS.isK (r : RS) (k : Int) : Bool:=!r.wrong && decide (r.ps.hd.1.1 = k)

theorem RS.isK_true {r : RS} {k : Int} (h : r.isK k = true) : r.wrong = false ∧ r.ps.hd.1.1 = k:=by
 unfold RS.isK at h
 simpa using h

theorem RS.isK_false {r : RS} {k : Int} (h : r.isK k = false) : r.wrong = true ∨ r.ps.hd.1.1 ≠ k:=by
 unfold RS.isK at h
 cases hw : r.wrong with
 | true => exact Or.inl rfl
 | false => rw [hw] at h; simp at h; exact Or.inr h

theorem Lk.name_yes {r : RS} (h : r.isK 3 = true) : Lk namR r r.ps.hd.1.2.2 r.step:=by
 obtain ⟨hw,hk⟩:=RS.isK_true h
 refine Or.inr ⟨hw,Or.inl ⟨hw,?_⟩⟩
 show _ = nameR r.ps
 rw [nameR,if_pos hk,RS.ps_step]

theorem Lk.name_not {r : RS} {a : ByteArray} (h : r.isK 3 = false) : Lk namR r a r.stop:=by
 cases hw : r.wrong with
 | true => exact Or.inl ⟨hw,by unfold RS.stop; rw [← hw]⟩
 | false =>
  have hk:=(RS.isK_false h).resolve_left (by rw [hw]; decide)
  refine Or.inr ⟨hw,Or.inr ⟨rfl,?_⟩⟩
  show _ = nameR r.ps
  rw [nameR,if_neg hk]
  rfl

theorem Lk.num_yes {r : RS} (h : r.isK 2 = true) : Lk numR r r.ps.hd r.step:=by
 obtain ⟨hw,hk⟩:=RS.isK_true h
 refine Or.inr ⟨hw,Or.inl ⟨hw,?_⟩⟩
 show _ = ite _ _ _
 rw [if_pos hk,RS.ps_step]

theorem Lk.num_not {r : RS} {a : T} (h : r.isK 2 = false) : Lk numR r a r.stop:=by
 cases hw : r.wrong with
 | true => exact Or.inl ⟨hw,by unfold RS.stop; rw [← hw]⟩
 | false =>
  have hk:=(RS.isK_false h).resolve_left (by rw [hw]; decide)
  refine Or.inr ⟨hw,Or.inr ⟨rfl,?_⟩⟩
  show _ = ite _ _ _
  rw [if_neg hk]
  rfl

theorem Lk.place (r : RS) : Lk placeR r r.ps.hd.2 r:=by
 cases h : r.wrong with
 | true => exact Or.inl ⟨h,rfl⟩
 | false => exact Or.inr ⟨h,Or.inl ⟨h,rfl⟩⟩

theorem RS.cnt_keep {r : RS} (hw : r.wrong = true) (n most : Nat) : r.cnt n most = r:=by
 unfold RS.cnt
 rw [if_neg fun k => by rw [hw] at k; exact absurd k.1 (by decide)]

def lsR {α : Type} (f : Rd_ α) (most : Nat) (acc : List α) : Rd_ (List α):=fun s x => LsR f most acc s x

theorem Lk.ls_last {α : Type} {f : Rd_ α} {most : Nat} {acc : List α} {r r1 : RS} {a : α} (h : Lk f (r.cnt acc.length most) a r1) (hs : r1.sees [44] = false) : Lk (lsR f most acc) r (acc ++ [a]) r1:=by
 cases hw : r.wrong with
 | true =>
  rw [RS.cnt_keep hw] at h
  rcases h with ⟨_,e⟩ | ⟨k,_⟩
  ·exact Or.inl ⟨hw,e⟩
  ·rw [hw] at k; exact absurd k (by decide)
 | false =>
  rcases h with ⟨k,_⟩ | ⟨_,⟨h1,h2⟩ | ⟨h1,h2⟩⟩
  ·rw [RS.cnt_wrong,hw] at k; exact absurd k (by decide)
  ·rw [RS.ps_cnt hw] at h2
   exact Or.inr ⟨hw,Or.inl ⟨h1,LsR.last h2 (by rw [← RS.sees_right h1]; exact hs)⟩⟩
  ·rw [RS.ps_cnt hw] at h2
   exact Or.inr ⟨hw,Or.inr ⟨h1,LsR.bad h2⟩⟩

theorem Lk.ls_more {α : Type} {f : Rd_ α} {most : Nat} {acc l : List α} {r r1 r' : RS} {a : α} (hw : r.wrong = false) (h : Lk f (r.cnt acc.length most) a r1) (hs : r1.sees [44] = true) (k : Lk (lsR f most (acc ++ [a])) r1.step l r') : Lk (lsR f most acc) r l r':=by
 obtain ⟨hw1,hx⟩:=RS.sees_true hs
 rcases h with ⟨k,_⟩ | ⟨_,⟨h1,h2⟩ | ⟨h1,h2⟩⟩
 ·rw [RS.cnt_wrong,hw] at k; exact absurd k (by decide)
 ·rw [RS.ps_cnt hw] at h2
  refine k.from hw hw1 (fun s k => LsR.more h2 hx ?_) (fun p k => LsR.more h2 hx ?_)
  ·rw [← RS.ps_step]; exact k
  ·rw [← RS.ps_step]; exact k
 ·rw [hw1] at h1; exact absurd h1 (by decide)

theorem Lk.ls_wrong {α : Type} {f : Rd_ α} {most : Nat} {acc l : List α} {r : RS} (hw : r.wrong = true) : Lk (lsR f most acc) r l r:=Or.inl ⟨hw,rfl⟩

def Kt (f : Nat → PS → Option (Res Ex)) : Rd_ Ex:=fun s z => ∃ n,∀ m,n ≤ m → f m s = some z

theorem Lk.sub {g g1 : Gl} {r r0 r1 r' : RS} {e x : Ex} {f : Nat → Ex → PS → Option (Res Ex)} (hr : r0 = r ∨ (r.wrong = false ∧ r0.wrong = false)) (hg : r.wrong = false → ∀ n,pX (n + 1) g r.ps = bindR (pX n g1 r0.ps) (f n)) (h : Lk (Pr g1) r0 e r1) (k : Lk (Kt fun n => f n e) r1 x r') : Lk (Pr g) r x r':=by
 have main : r.wrong = false → r0.wrong = false → Lk (Pr g) r x r':=by
  intro hw hw0
  rcases h with ⟨h,_⟩ | ⟨_,⟨h1,h2⟩ | ⟨h1,h2⟩⟩
  ·rw [hw0] at h; exact absurd h (by decide)
  ·rcases k with ⟨k,_⟩ | ⟨_,⟨k1,k2⟩ | ⟨k1,k2⟩⟩
   ·rw [h1] at k; exact absurd k (by decide)
   ·exact Or.inr ⟨hw,Or.inl ⟨k1,Pr.bind (hg hw) h2 k2⟩⟩
   ·exact Or.inr ⟨hw,Or.inr ⟨k1,Pr.bind (hg hw) h2 k2⟩⟩
  ·rcases k with ⟨_,rfl⟩ | ⟨k,_⟩
   ·exact Or.inr ⟨hw,Or.inr ⟨h1,Pr.bad (hg hw) h2⟩⟩
   ·rw [h1] at k; exact absurd k (by decide)
 rcases hr with rfl | ⟨hw,hw0⟩
 ·cases hw : r0.wrong with
  | false => exact main hw hw
  | true =>
   rcases h with ⟨_,rfl⟩ | ⟨h,_⟩
   ·rcases k with ⟨_,rfl⟩ | ⟨k,_⟩
    ·exact Or.inl ⟨hw,rfl⟩
    ·rw [hw] at k; exact absurd k (by decide)
   ·rw [hw] at h; exact absurd h (by decide)
 ·exact main hw hw0

theorem Lk.kret {f : Nat → PS → Option (Res Ex)} {r : RS} {x : Ex} (h : r.wrong = false → ∀ m,f m r.ps = some (.ok x r.ps)) : Lk (Kt f) r x r:=by
 cases hw : r.wrong with
 | true => exact Or.inl ⟨hw,rfl⟩
 | false => exact Or.inr ⟨hw,Or.inl ⟨hw,0,fun m _ => h hw m⟩⟩

theorem Pr.kt {f : Nat → PS → Option (Res Ex)} {g : Gl} {s s0 : PS} {z : Res Ex} (h : Pr g s0 z) (hf : ∀ m,f m s = pX m g s0) : Kt f s z:=by
 obtain ⟨n,h⟩:=h
 exact ⟨n,fun m hm => by rw [hf]; exact pX_le hm h⟩

theorem Lk.kgo {f : Nat → PS → Option (Res Ex)} {g : Gl} {r r0 r' : RS} {x : Ex} (hr : r0 = r ∨ (r.wrong = false ∧ r0.wrong = false)) (hf : r.wrong = false → ∀ m,f m r.ps = pX m g r0.ps) (h : Lk (Pr g) r0 x r') : Lk (Kt f) r x r':=by
 rcases hr with rfl | ⟨hw,hw0⟩
 ·exact h.imp fun hw _ k => k.kt (hf hw)
 ·exact h.from hw hw0 (fun s k => k.kt (hf hw)) (fun p k => k.kt (hf hw))

theorem Kt.bind {f : Nat → PS → Option (Res Ex)} {q : Nat → Ex → PS → Option (Res Ex)} {g : Gl} {s s0 s1 : PS} {y : Ex} {z : Res Ex} (hf : ∀ m,f m s = bindR (pX m g s0) (q m)) (h : Pr g s0 (.ok y s1)) (k : Kt (fun n => q n y) s1 z) : Kt f s z:=by
 obtain ⟨n,h⟩:=h
 obtain ⟨n2,k⟩:=k
 exact ⟨max n n2,fun m hm => by rw [hf,bindR_ok (pX_le (Nat.le_trans (Nat.le_max_left _ _) hm) h)]; exact k m (Nat.le_trans (Nat.le_max_right _ _) hm)⟩

theorem Kt.bad {f : Nat → PS → Option (Res Ex)} {q : Nat → Ex → PS → Option (Res Ex)} {g : Gl} {s s0 : PS} {p : Nat} (hf : ∀ m,f m s = bindR (pX m g s0) (q m)) (h : Pr g s0 (.bad p)) : Kt f s (.bad p):=by
 obtain ⟨n,h⟩:=h
 exact ⟨n,fun m hm => by rw [hf,bindR_bad (pX_le hm h)]⟩

theorem Lk.kbind {f : Nat → PS → Option (Res Ex)} {q : Nat → Ex → PS → Option (Res Ex)} {g : Gl} {r r0 r1 r' : RS} {y x : Ex} (hw : r.wrong = false) (hw0 : r0.wrong = false) (hf : ∀ m,f m r.ps = bindR (pX m g r0.ps) (q m)) (h : Lk (Pr g) r0 y r1) (k : Lk (Kt fun n => q n y) r1 x r') : Lk (Kt f) r x r':=by
 rcases h with ⟨h,_⟩ | ⟨_,⟨h1,h2⟩ | ⟨h1,h2⟩⟩
 ·rw [hw0] at h; exact absurd h (by decide)
 ·rcases k with ⟨k,_⟩ | ⟨_,⟨k1,k2⟩ | ⟨k1,k2⟩⟩
  ·rw [h1] at k; exact absurd k (by decide)
  ·exact Or.inr ⟨hw,Or.inl ⟨k1,Kt.bind hf h2 k2⟩⟩
  ·exact Or.inr ⟨hw,Or.inr ⟨k1,Kt.bind hf h2 k2⟩⟩
 ·rcases k with ⟨_,rfl⟩ | ⟨k,_⟩
  ·exact Or.inr ⟨hw,Or.inr ⟨h1,Kt.bad hf h2⟩⟩
  ·rw [h1] at k; exact absurd k (by decide)

theorem RS.sees_ps {r : RS} {x : List UInt8} {b : Bool} (h : r.sees x = b) (hw : r.wrong = false) : r.ps.sees x = b:=by rw [← RS.sees_right hw]; exact h

theorem not_true_of {b : Bool} (h : b = false) : ¬ b = true:=by rw [h]; decide

theorem Lk.or_one {r r1 : RS} {e : Ex} (h : Lk (Pr .and) r e r1) (hs : r1.sees wOr = false) : Lk (Pr .or) r e r1 :=
 Lk.sub (f:=fun n e s1 => if s1.sees wOr = true then pX n (.rowL true s1.hd.2 [e]) s1 else some (.ok e s1)) (Or.inl rfl) (fun _ _ => rfl) h (Lk.kret fun hw _ => if_neg (not_true_of (RS.sees_ps hs hw)))

theorem Lk.or_more {r r1 r' : RS} {e x : Ex} (h : Lk (Pr .and) r e r1) (hs : r1.sees wOr = true) (k : Lk (Pr (.rowL true r1.ps.hd.2 [e])) r1 x r') : Lk (Pr .or) r x r' :=
 Lk.sub (f:=fun n e s1 => if s1.sees wOr = true then pX n (.rowL true s1.hd.2 [e]) s1 else some (.ok e s1)) (Or.inl rfl) (fun _ _ => rfl) h (Lk.kgo (Or.inl rfl) (fun hw _ => if_pos (RS.sees_ps hs hw)) k)

theorem Lk.and_one {r r1 : RS} {e : Ex} (h : Lk (Pr .not) r e r1) (hs : r1.sees wAnd = false) : Lk (Pr .and) r e r1 :=
 Lk.sub (f:=fun n e s1 => if s1.sees wAnd = true then pX n (.rowL false s1.hd.2 [e]) s1 else some (.ok e s1)) (Or.inl rfl) (fun _ _ => rfl) h (Lk.kret fun hw _ => if_neg (not_true_of (RS.sees_ps hs hw)))

theorem Lk.and_more {r r1 r' : RS} {e x : Ex} (h : Lk (Pr .not) r e r1) (hs : r1.sees wAnd = true) (k : Lk (Pr (.rowL false r1.ps.hd.2 [e])) r1 x r') : Lk (Pr .and) r x r' :=
 Lk.sub (f:=fun n e s1 => if s1.sees wAnd = true then pX n (.rowL false s1.hd.2 [e]) s1 else some (.ok e s1)) (Or.inl rfl) (fun _ _ => rfl) h (Lk.kgo (Or.inl rfl) (fun hw _ => if_pos (RS.sees_ps hs hw)) k)

theorem Lk.row_end {r : RS} {b : Bool} {a : Nat} {acc : List Ex} (hs : r.sees (if b then wOr else wAnd) = false) : Lk (Pr (.rowL b a acc)) r (over (if b then 10 else 9) 0 a acc) r:=by
 cases hw : r.wrong with
 | true => exact Or.inl ⟨hw,rfl⟩
 | false => exact Or.inr ⟨hw,Or.inl ⟨hw,1,by rw [pX,if_neg (not_true_of (RS.sees_ps hs hw))]⟩⟩

theorem Lk.row_more {r r1 r' : RS} {b : Bool} {a : Nat} {acc : List Ex} {e x : Ex} (hs : r.sees (if b then wOr else wAnd) = true) (h : Lk (Pr (if b then .and else .not)) (r.step.cnt acc.length 8) e r1) (k : Lk (Pr (.rowL b a (acc ++ [e]))) r1 x r') : Lk (Pr (.rowL b a acc)) r x r':=by
 obtain ⟨hw,hx⟩:=RS.sees_true hs
 have hw0 : (r.step.cnt acc.length 8).wrong = false:=by rw [RS.cnt_wrong]; exact hw
 refine Lk.sub (f:=fun n e s1 => pX n (.rowL b a (acc ++ [e])) s1) (Or.inr ⟨hw,hw0⟩) (fun _ n => ?_) h (Lk.kgo (Or.inl rfl) (fun _ _ => rfl) k)
 rw [pX,if_pos hx,RS.ps_cnt (r:=r.step) hw,RS.ps_step]

theorem Lk.not_yes {r r' : RS} {e : Ex} (hs : r.sees wNot = true) (h : Lk (Pr .not) r.step e r') : Lk (Pr .not) r (over 8 0 r.ps.hd.2 [e]) r':=by
 obtain ⟨hw,hx⟩:=RS.sees_true hs
 refine Lk.sub (f:=fun _ e s1 => some (.ok (over 8 0 r.ps.hd.2 [e]) s1)) (r0:=r.step) (Or.inr ⟨hw,hw⟩) (fun _ n => ?_) h (Lk.kret fun _ _ => rfl)
 rw [pX,if_pos hx,RS.ps_step]

theorem Lk.not_no {r r' : RS} {e : Ex} (hs : r.sees wNot = false) (h : Lk (Pr .test) r e r') : Lk (Pr .not) r e r':=h.imp fun hw _ k => by
 obtain ⟨n,k⟩:=k
 exact ⟨n + 1,by rw [pX,if_neg (not_true_of (RS.sees_ps hs hw))]; exact k⟩

theorem sees_uniq {s : PS} {x y : List UInt8} (h : s.sees x = true) (k : s.sees y = true) : x = y:=by
 unfold PS.sees at h k
 simp only [Bool.and_eq_true,beq_iff_eq] at h k
 exact h.2.symm.trans k.2

theorem sees_other {s : PS} {x y : List UInt8} (h : s.sees x = true) (hn : x ≠ y) : s.sees y = false:=by
 cases k : s.sees y with
 | false => rfl
 | true => exact absurd (sees_uniq h k) hn

def RS.pick (r : RS) : List (List UInt8) → Option Nat
 | [] => none
 | x :: l => if r.sees x = true then some 0 else (r.pick l).map (· + 1)

theorem RS.pick_some {r : RS} : ∀ {l : List (List UInt8)} {k : Nat},r.pick l = some k → ∃ x,l[k]? = some x ∧ r.sees x = true
 | [],k,h => by simp [RS.pick] at h
 | x :: l,k,h => by
  rw [RS.pick] at h
  split at h
  ·rename_i hs
   injection h with h
   subst h
   exact ⟨x,rfl,hs⟩
  ·cases hp : r.pick l with
   | none => rw [hp] at h; simp at h
   | some j =>
    rw [hp] at h
    simp at h
    subst h
    obtain ⟨y,h1,h2⟩:=RS.pick_some hp
    exact ⟨y,by simpa using h1,h2⟩

theorem RS.pick_wrong {r : RS} (hw : r.wrong = true) : ∀ l,r.pick l = none
 | [] => rfl
 | x :: l => by rw [RS.pick,RS.sees_wrong hw,if_neg (by decide),RS.pick_wrong hw l]; rfl

def opList (a : Int) : List (List UInt8) → List (List UInt8 × Int)
 | [] => []
 | x :: l => (x,a) :: opList (a + 1) l

theorem op_pick {r : RS} (hw : r.wrong = false) : ∀ (l : List (List UInt8)) (a : Int),opOf r.ps (opList a l) = match r.pick l with | none => 0 | some k => a + (k : Int)
 | [],_ => rfl
 | x :: l,a => by
  rw [opList,opOf,RS.pick,RS.sees_right hw]
  cases hs : r.ps.sees x with
  | true => simp
  | false =>
   simp only [Bool.false_eq_true,if_false]
   rw [op_pick hw l (a + 1)]
   cases r.pick l with
   | none => rfl
   | some k =>
    show a + 1 + (k : Int) = a + ((k + 1 : Nat) : Int)
    omega

def prodW : List (List UInt8):=[[42],[47],[37]]

def sumW : List (List UInt8):=[[43],[45]]

def cmpW : List (List UInt8):=[[61],[60,62],[60],[60,61],[62],[62,61]]

theorem prod_op {r : RS} (hw : r.wrong = false) : opOf r.ps prodO = match r.pick prodW with | none => 0 | some k => 3 + (k : Int):=op_pick hw prodW 3

theorem sum_op {r : RS} (hw : r.wrong = false) : opOf r.ps sumO = match r.pick sumW with | none => 0 | some k => 1 + (k : Int):=op_pick hw sumW 1

theorem cmp_op {r : RS} (hw : r.wrong = false) : opOf r.ps cmpO = match r.pick cmpW with | none => 0 | some k => 1 + (k : Int):=op_pick hw cmpW 1

theorem Lk.sum_go {r r1 r' : RS} {e x : Ex} (h : Lk (Pr .prod) r e r1) (k : Lk (Pr (.sumL e)) r1 x r') : Lk (Pr .sum) r x r' :=
 Lk.sub (f:=fun n e s1 => pX n (.sumL e) s1) (Or.inl rfl) (fun _ _ => rfl) h (Lk.kgo (Or.inl rfl) (fun _ _ => rfl) k)

theorem Lk.prod_go {r r1 r' : RS} {e x : Ex} (h : Lk (Pr .fact) r e r1) (k : Lk (Pr (.prodL e)) r1 x r') : Lk (Pr .prod) r x r' :=
 Lk.sub (f:=fun n e s1 => pX n (.prodL e) s1) (Or.inl rfl) (fun _ _ => rfl) h (Lk.kgo (Or.inl rfl) (fun _ _ => rfl) k)

theorem Lk.sum_end {r : RS} {e : Ex} (hs : r.pick sumW = none) : Lk (Pr (.sumL e)) r e r:=by
 cases hw : r.wrong with
 | true => exact Or.inl ⟨hw,rfl⟩
 | false => exact Or.inr ⟨hw,Or.inl ⟨hw,1,by rw [pX,if_pos (by rw [sum_op hw,hs])]⟩⟩

theorem Lk.prod_end {r : RS} {e : Ex} (hs : r.pick prodW = none) : Lk (Pr (.prodL e)) r e r:=by
 cases hw : r.wrong with
 | true => exact Or.inl ⟨hw,rfl⟩
 | false => exact Or.inr ⟨hw,Or.inl ⟨hw,1,by rw [pX,if_pos (by rw [prod_op hw,hs])]⟩⟩

theorem RS.pick_right {r : RS} {l : List (List UInt8)} {k : Nat} (h : r.pick l = some k) : r.wrong = false:=by
 cases hw : r.wrong with
 | false => rfl
 | true => rw [RS.pick_wrong hw] at h; exact absurd h (by simp)

theorem Lk.sum_more {r r1 r' : RS} {e f x : Ex} {k : Nat} (hs : r.pick sumW = some k) (h : Lk (Pr .prod) r.step f r1) (q : Lk (Pr (.sumL (over 5 (1 + (k : Int)) r.ps.hd.2 [e,f]))) r1 x r') : Lk (Pr (.sumL e)) r x r':=by
 have hw:=RS.pick_right hs
 refine Lk.sub (f:=fun n f s1 => pX n (.sumL (over 5 (1 + (k : Int)) r.ps.hd.2 [e,f])) s1) (r0:=r.step) (Or.inr ⟨hw,hw⟩) (fun _ n => ?_) h (Lk.kgo (Or.inl rfl) (fun _ _ => rfl) q)
 have ho : opOf r.ps sumO = 1 + (k : Int):=by rw [sum_op hw,hs]
 rw [pX,ho,if_neg (by omega),RS.ps_step]

theorem Lk.prod_more {r r1 r' : RS} {e f x : Ex} {k : Nat} (hs : r.pick prodW = some k) (h : Lk (Pr .fact) r.step f r1) (q : Lk (Pr (.prodL (over 5 (3 + (k : Int)) r.ps.hd.2 [e,f]))) r1 x r') : Lk (Pr (.prodL e)) r x r':=by
 have hw:=RS.pick_right hs
 refine Lk.sub (f:=fun n f s1 => pX n (.prodL (over 5 (3 + (k : Int)) r.ps.hd.2 [e,f])) s1) (r0:=r.step) (Or.inr ⟨hw,hw⟩) (fun _ n => ?_) h (Lk.kgo (Or.inl rfl) (fun _ _ => rfl) q)
 have ho : opOf r.ps prodO = 3 + (k : Int):=by rw [prod_op hw,hs]
 rw [pX,ho,if_neg (by omega),RS.ps_step]

def tsK (n : Nat) (l : Ex) (s1 : PS) : Option (Res Ex) :=
  if s1.sees wIs = true then
   let s2:=s1.next
   let op : Int:=if s2.sees wNot = true then 1 else 0
   let s3:=if s2.sees wNot = true then s2.next else s2
   if s3.sees wNull = true then some (.ok (over 7 op s1.hd.2 [l]) s3.next) else some (.bad s3.hd.2)
  else if opOf s1 cmpO = 0 then some (.ok l s1)
  else bindR (pX n .sum s1.next) fun r s2 => some (.ok (over 6 (opOf s1 cmpO) s1.hd.2 [l,r]) s2)

theorem pX_test (n : Nat) (s : PS) : pX (n + 1) .test s = bindR (pX n .sum s) (tsK n):=rfl

theorem Lk.test_none {r r1 : RS} {e : Ex} (h : Lk (Pr .sum) r e r1) (hs : r1.pick cmpW = none) (hi : r1.sees wIs = false) : Lk (Pr .test) r e r1 :=
 Lk.sub (f:=tsK) (Or.inl rfl) (fun _ n => pX_test n _) h (Lk.kret fun hw _ => by
  unfold tsK
  rw [if_neg (not_true_of (RS.sees_ps hi hw)),if_pos (by rw [cmp_op hw,hs])])

theorem cmp_is {s : PS} {k : Nat} {x : List UInt8} (h : cmpW[k]? = some x) (hx : s.sees x = true) : s.sees wIs = false:=by
 refine sees_other hx fun e => ?_
 subst e
 have : wIs ∈ cmpW:=List.mem_of_getElem? h
 exact absurd this (by decide)

theorem Lk.test_cmp {r r1 r' : RS} {e f : Ex} {k : Nat} (h : Lk (Pr .sum) r e r1) (hs : r1.pick cmpW = some k) (q : Lk (Pr .sum) r1.step f r') : Lk (Pr .test) r (over 6 (1 + (k : Int)) r1.ps.hd.2 [e,f]) r':=by
 have hw:=RS.pick_right hs
 refine Lk.sub (f:=tsK) (Or.inl rfl) (fun _ n => pX_test n _) h ?_
 refine Lk.kbind (q:=fun _ f s2 => some (.ok (over 6 (1 + (k : Int)) r1.ps.hd.2 [e,f]) s2)) hw (r0:=r1.step) hw (fun m => ?_) q (Lk.kret fun _ _ => rfl)
 obtain ⟨x,hx,hsx⟩:=RS.pick_some hs
 have ho : opOf r1.ps cmpO = 1 + (k : Int):=by rw [cmp_op hw,hs]
 unfold tsK
 rw [if_neg (not_true_of (cmp_is hx (RS.sees_true hsx).2)),ho,if_neg (by omega),RS.ps_step]

theorem Lk.test_null {r r1 r3 : RS} {e : Ex} {op : Int} (h : Lk (Pr .sum) r e r1) (hi : r1.sees wIs = true) (hn : (r1.step.sees wNot = true ∧ op = 1 ∧ r3 = r1.step.step) ∨ (r1.step.sees wNot = false ∧ op = 0 ∧ r3 = r1.step)) : Lk (Pr .test) r (over 7 op r1.ps.hd.2 [e]) (if r3.sees wNull = true then r3.step else r3.stop):=by
 obtain ⟨hw,hx⟩:=RS.sees_true hi
 refine Lk.sub (f:=tsK) (Or.inl rfl) (fun _ n => pX_test n _) h ?_
 have hw3 : r3.wrong = false:=by rcases hn with ⟨_,_,rfl⟩ | ⟨_,_,rfl⟩ <;> exact hw
 have hf : ∀ m,tsK m e r1.ps = if r3.ps.sees wNull = true then some (.ok (over 7 op r1.ps.hd.2 [e]) r3.ps.next) else some (.bad r3.ps.hd.2):=by
  intro m
  unfold tsK
  rw [if_pos hx]
  rcases hn with ⟨h1,rfl,rfl⟩ | ⟨h1,rfl,rfl⟩
  ·have:=RS.sees_ps h1 hw
   rw [RS.ps_step] at this
   simp only [this,if_true]
   rw [RS.ps_step,RS.ps_step]
  ·have:=RS.sees_ps h1 hw
   rw [RS.ps_step] at this
   simp only [this,Bool.false_eq_true,if_false]
   rw [RS.ps_step]
 rw [RS.sees_right hw3]
 refine Or.inr ⟨hw,?_⟩
 cases hs : r3.ps.sees wNull with
 | true =>
  rw [if_pos rfl]
  exact Or.inl ⟨hw3,0,fun m _ => by rw [RS.ps_step]; exact (hf m).trans (if_pos hs)⟩
 | false =>
  rw [if_neg (by decide)]
  exact Or.inr ⟨rfl,0,fun m _ => (hf m).trans (if_neg (not_true_of hs))⟩

def vtok (t : Tk) : Option V3 :=
 if t.1 = 2 then some (1,t.2.1,⟨#[]⟩) else if t.1 = 5 then some (3,0,t.2.2)
 else if t.1 = 4 ∧ t.2.2.data.toList = wTrue then some (2,1,⟨#[]⟩) else if t.1 = 4 ∧ t.2.2.data.toList = wFalse then some (2,0,⟨#[]⟩)
 else if t.1 = 4 ∧ t.2.2.data.toList = wNull then some v0 else none

theorem sees_iff (s : PS) (x : List UInt8) : s.sees x = true ↔ (s.hd.1.1 = 4 ∨ s.hd.1.1 = 7) ∧ s.hd.1.2.2.data.toList = x:=by
 unfold PS.sees
 simp

theorem Lk.fact_lit {r : RS} {v : V3} (hw : r.wrong = false) (hv : vtok r.ps.hd.1 = some v) : Lk (Pr .fact) r (.mk 1 0 v ⟨#[]⟩ ⟨#[]⟩ [] r.ps.hd.2) r.step:=by
 have key : r.ps.sees [45] = false ∧ r.ps.sees [40] = false ∧ r.ps.hd.1.1 ≠ 3 ∧ r.ps.hd.1.1 ≠ 6 ∧ litR r.ps = .ok v r.ps.next:=by
  have hno : ∀ x,¬ ((r.ps.hd.1.1 = 4 ∨ r.ps.hd.1.1 = 7) ∧ r.ps.hd.1.2.2.data.toList = x) → r.ps.sees x = false:=fun x h => by
   cases k : r.ps.sees x with
   | false => rfl
   | true => exact absurd ((sees_iff _ _).1 k) h
  unfold vtok at hv
  split at hv
  ·rename_i k
   injection hv with hv
   subst hv
   refine ⟨hno _ fun h => by omega,hno _ fun h => by omega,by omega,by omega,?_⟩
   unfold litR
   rw [if_neg (not_true_of (hno _ fun h => by omega)),if_neg (not_true_of (hno _ fun h => by omega)),if_neg (not_true_of (hno _ fun h => by omega)),if_neg (by omega),if_pos k]
  ·split at hv
   ·rename_i k
    injection hv with hv
    subst hv
    refine ⟨hno _ fun h => by omega,hno _ fun h => by omega,by omega,by omega,?_⟩
    unfold litR
    rw [if_neg (not_true_of (hno _ fun h => by omega)),if_neg (not_true_of (hno _ fun h => by omega)),if_neg (not_true_of (hno _ fun h => by omega)),if_pos k]
   ·split at hv
    ·rename_i k
     injection hv with hv
     subst hv
     have hs:=(sees_iff _ _).2 ⟨Or.inl k.1,k.2⟩
     refine ⟨sees_other hs (by decide),sees_other hs (by decide),by omega,by omega,?_⟩
     unfold litR
     rw [if_neg (not_true_of (sees_other hs (by decide))),if_neg (not_true_of (sees_other hs (by decide))),if_pos hs]
    ·split at hv
     ·rename_i k
      injection hv with hv
      subst hv
      have hs:=(sees_iff _ _).2 ⟨Or.inl k.1,k.2⟩
      refine ⟨sees_other hs (by decide),sees_other hs (by decide),by omega,by omega,?_⟩
      unfold litR
      rw [if_neg (not_true_of (sees_other hs (by decide))),if_pos hs]
     ·split at hv
      ·rename_i k
       injection hv with hv
       subst hv
       have hs:=(sees_iff _ _).2 ⟨Or.inl k.1,k.2⟩
       refine ⟨sees_other hs (by decide),sees_other hs (by decide),by omega,by omega,?_⟩
       unfold litR
       rw [if_pos hs]
      ·exact absurd hv (by simp)
 obtain ⟨a,b,c,d,e⟩:=key
 exact Or.inr ⟨hw,Or.inl ⟨hw,1,by rw [pX,if_neg (not_true_of a),if_neg (not_true_of b),if_neg c,if_neg d,e,RS.ps_step]⟩⟩

theorem kind_sees {s : PS} {k : Int} (h : s.hd.1.1 = k) (h4 : k ≠ 4) (h7 : k ≠ 7) (x : List UInt8) : s.sees x = false:=by
 cases q : s.sees x with
 | false => rfl
 | true =>
  have:=((sees_iff _ _).1 q).1
  omega

theorem Lk.fact_param {r : RS} (hw : r.wrong = false) (hk : r.ps.hd.1.1 = 6) : Lk (Pr .fact) r (.mk 2 0 v0 ⟨#[]⟩ r.ps.hd.1.2.2 [] r.ps.hd.2) r.step :=
 Or.inr ⟨hw,Or.inl ⟨hw,1,by rw [pX,if_neg (not_true_of (kind_sees hk (by decide) (by decide) _)),if_neg (not_true_of (kind_sees hk (by decide) (by decide) _)),if_neg (by omega),if_pos hk,RS.ps_step]⟩⟩

theorem Lk.fact_col {r r' : RS} {e : Ex} (hk : r.ps.hd.1.1 = 3) (h : Lk colmR r e r') : Lk (Pr .fact) r e r':=h.imp fun _ x k => ⟨1,by rw [pX,if_neg (not_true_of (kind_sees hk (by decide) (by decide) _)),if_neg (not_true_of (kind_sees hk (by decide) (by decide) _)),if_pos hk]; exact congrArg some (show colR r.ps = x from k.symm)⟩

theorem Lk.fact_minus {r r' : RS} {e : Ex} (hs : r.sees [45] = true) (h : Lk (Pr .fact) r.step e r') : Lk (Pr .fact) r (over 4 0 r.ps.hd.2 [e]) r':=by
 obtain ⟨hw,hx⟩:=RS.sees_true hs
 refine Lk.sub (f:=fun _ e s1 => some (.ok (over 4 0 r.ps.hd.2 [e]) s1)) (r0:=r.step) (Or.inr ⟨hw,hw⟩) (fun _ n => ?_) h (Lk.kret fun _ _ => rfl)
 rw [pX,if_pos hx,RS.ps_step]

theorem Lk.fact_paren {r r1 : RS} {e : Ex} (hs : r.sees [40] = true) (h : Lk (Pr .or) r.step e r1) : Lk (Pr .fact) r e (if r1.sees [41] = true then r1.step else r1.stop):=by
 obtain ⟨hw,hx⟩:=RS.sees_true hs
 refine Lk.sub (f:=fun n e s1 => if s1.sees [41] = true then some (.ok e s1.next) else some (.bad s1.hd.2)) (r0:=r.step) (Or.inr ⟨hw,hw⟩) (fun _ n => ?_) h ?_
 ·rw [pX,if_neg (not_true_of (sees_other hx (by decide))),if_pos hx,RS.ps_step]
 ·cases hw1 : r1.wrong with
  | true =>
   rw [RS.sees_wrong hw1,if_neg (by decide)]
   exact Or.inl ⟨hw1,by unfold RS.stop; rw [← hw1]⟩
  | false =>
   rw [RS.sees_right hw1]
   refine Or.inr ⟨hw1,?_⟩
   cases hq : r1.ps.sees [41] with
   | true =>
    rw [if_pos rfl]
    exact Or.inl ⟨hw1,0,fun m _ => by rw [RS.ps_step]; exact if_pos hq⟩
   | false =>
    rw [if_neg (by decide)]
    exact Or.inr ⟨rfl,0,fun m _ => if_neg (not_true_of hq)⟩

theorem Lk.fact_bad {r : RS} {e : Ex} (ho : r.Ok) (hw : r.wrong = false) (hv : vtok r.ps.hd.1 = none) (h6 : r.ps.hd.1.1 ≠ 6) (h3 : r.ps.hd.1.1 ≠ 3) (hm : r.sees [45] = false) (hp : r.sees [40] = false) : Lk (Pr .fact) r e r.stop:=by
 refine Or.inr ⟨hw,Or.inr ⟨rfl,1,?_⟩⟩
 have hl : litR r.ps = .bad r.ps.hd.2:=by
  unfold vtok at hv
  split at hv
  ·exact absurd hv (by simp)
  ·rename_i k2
   split at hv
   ·exact absurd hv (by simp)
   ·rename_i k5
    have hno : ∀ x ∈ wv,(¬ (r.ps.hd.1.1 = 4 ∧ r.ps.hd.1.2.2.data.toList = x)) → r.ps.sees x = false:=fun x hx h => by
     cases k : r.ps.sees x with
     | false => rfl
     | true =>
      obtain ⟨k1,k2⟩:=(sees_iff _ _).1 k
      rcases k1 with k1 | k1
      ·exact absurd ⟨k1,k2⟩ h
      ·have:=ho.hd_sg k1
       rw [k2] at this
       exact absurd hx this
    split at hv
    ·exact absurd hv (by simp)
    ·rename_i kt
     split at hv
     ·exact absurd hv (by simp)
     ·rename_i kf
      split at hv
      ·exact absurd hv (by simp)
      ·rename_i kn
       unfold litR
       rw [if_neg (not_true_of (hno _ (by decide) kn)),if_neg (not_true_of (hno _ (by decide) kf)),if_neg (not_true_of (hno _ (by decide) kt)),if_neg k5,if_neg k2]
 rw [pX,if_neg (not_true_of (RS.sees_ps hm hw)),if_neg (not_true_of (RS.sees_ps hp hw)),if_neg h3,if_neg h6,hl]
 rfl

theorem Lk.fact_wrong {r : RS} {e : Ex} (hw : r.wrong = true) : Lk (Pr .fact) r e r:=Or.inl ⟨hw,rfl⟩

theorem Lk.col_one {r r1 : RS} {a : ByteArray} (h : Lk namR r a r1) (hs : r1.sees [46] = false) : Lk colmR r (.mk 3 0 v0 ⟨#[]⟩ a [] r.ps.hd.2) r1:=by
 rcases h with ⟨h,e⟩ | ⟨h,⟨h1,h2⟩ | ⟨h1,h2⟩⟩
 ·exact Or.inl ⟨h,e⟩
 ·refine Or.inr ⟨h,Or.inl ⟨h1,?_⟩⟩
  show _ = colR r.ps
  rw [colR,← (show _ = nameR r.ps from h2)]
  simp only
  rw [if_neg (not_true_of (RS.sees_ps hs h1))]
 ·refine Or.inr ⟨h,Or.inr ⟨h1,?_⟩⟩
  show _ = colR r.ps
  rw [colR,← (show _ = nameR r.ps from h2)]

theorem Lk.col_two {r r1 r2 : RS} {a b : ByteArray} (h : Lk namR r a r1) (hs : r1.sees [46] = true) (k : Lk namR r1.step b r2) : Lk colmR r (.mk 3 0 v0 a b [] r.ps.hd.2) r2:=by
 obtain ⟨hw1,hx⟩:=RS.sees_true hs
 rcases h with ⟨h,rfl⟩ | ⟨h,⟨h1,h2⟩ | ⟨h1,h2⟩⟩
 ·rw [hw1] at h; exact absurd h (by decide)
 ·have hc : colR r.ps = match nameR r1.step.ps with | .bad p => .bad p | .ok b s2 => .ok (.mk 3 0 v0 a b [] r.ps.hd.2) s2:=by
   rw [colR,← (show _ = nameR r.ps from h2)]
   simp only
   rw [if_pos hx,← RS.ps_step]
   cases nameR r1.step.ps <;> rfl
  rcases k with ⟨k,_⟩ | ⟨_,⟨k1,k2⟩ | ⟨k1,k2⟩⟩
  ·rw [show r1.step.wrong = r1.wrong from rfl,hw1] at k; exact absurd k (by decide)
  ·exact Or.inr ⟨h,Or.inl ⟨k1,by show _ = colR r.ps; rw [hc,← (show _ = nameR r1.step.ps from k2)]⟩⟩
  ·exact Or.inr ⟨h,Or.inr ⟨k1,by show _ = colR r.ps; rw [hc,← (show _ = nameR r1.step.ps from k2)]⟩⟩
 ·rw [hw1] at h1; exact absurd h1 (by decide)

theorem Lk.want2 {β : Type} {g : Unit → Rd_ β} {x y : List UInt8} {l : List (List UInt8)} {r r1 r' : RS} {b : β} (h : Lk (wantR [x]) r () r1) (k : Lk (thenR (wantR (y :: l)) g) r1 b r') : Lk (thenR (wantR (x :: y :: l)) g) r b r':=by
 refine (Lk.bind (g:=fun _ => thenR (wantR (y :: l)) g) h k).imp fun _ z hz => ?_
 have hc : ∀ s,r.ps.sees x = true → wantR (y :: l) r.ps.next s → wantR (x :: y :: l) r.ps s:=fun s hs h => by
  show s = needsR (x :: y :: l) r.ps
  rw [needsR,if_pos hs]
  exact h
 rcases hz with ⟨p,h1,rfl⟩ | ⟨a,s1,h1,h2⟩
 ·replace h1 : _ = needsR [x] r.ps:=h1
  rw [needsR] at h1
  split at h1
  ·exact absurd h1 (by simp [needsR])
  ·rename_i hs
   refine thenR_bad ?_
   show _ = needsR (x :: y :: l) r.ps
   rw [needsR,if_neg hs]
   exact h1
 ·replace h1 : _ = needsR [x] r.ps:=h1
  rw [needsR] at h1
  split at h1
  ·rename_i hs
   injection h1 with _ e
   rw [e] at h2
   rcases h2 with ⟨p,h3,rfl⟩ | ⟨a2,s2,h3,h4⟩
   ·exact thenR_bad (hc _ hs h3)
   ·exact thenR_ok (hc _ hs h3) h4
  ·exact absurd h1 (by simp)

theorem Lk.assoc {α β γ : Type} {f : Rd_ α} {g : α → Rd_ β} {h : β → Rd_ γ} {r r' : RS} {c : γ} (k : Lk (thenR f fun a => thenR (g a) h) r c r') : Lk (thenR (thenR f g) h) r c r':=k.imp fun _ z hz => by
 rcases hz with ⟨p,h1,rfl⟩ | ⟨a,s1,h1,⟨p,h2,rfl⟩ | ⟨b,s2,h2,h3⟩⟩
 ·exact thenR_bad (thenR_bad h1)
 ·exact thenR_bad (thenR_ok h1 h2)
 ·exact thenR_ok (thenR_ok h1 h2) h3

theorem Lk.retB {α β : Type} {a : α} {h : α → Rd_ β} {r r' : RS} {c : β} (k : Lk (h a) r c r') : Lk (thenR (retR a) h) r c r':=k.imp fun _ _ hz => thenR_ok (f:=retR a) rfl hz

theorem Lk.yesB {α β : Type} {f g : Rd_ α} {h : α → Rd_ β} {x : List UInt8} {r r' : RS} {a : β} (hs : r.sees x = true) (k : Lk (thenR f h) r.step a r') : Lk (thenR (ifR x f g) h) r a r':=by
 obtain ⟨hw,hx⟩:=RS.sees_true hs
 have key : ∀ z,thenR f h r.step.ps z → thenR (ifR x f g) h r.ps z:=fun z hz => by
  rw [RS.ps_step] at hz
  rcases hz with ⟨p,h1,rfl⟩ | ⟨a,s1,h1,h2⟩
  ·exact thenR_bad (ifR_yes hx h1)
  ·exact thenR_ok (ifR_yes hx h1) h2
 exact k.from hw hw (fun s => key _) (fun p => key _)

theorem Lk.notB {α β : Type} {f g : Rd_ α} {h : α → Rd_ β} {x : List UInt8} {r r' : RS} {a : β} (hs : r.sees x = false) (k : Lk (thenR g h) r a r') : Lk (thenR (ifR x f g) h) r a r':=k.imp fun hw z hz => by
 have hx : r.ps.sees x = false:=by rw [← RS.sees_right hw]; exact hs
 rcases hz with ⟨p,h1,rfl⟩ | ⟨a,s1,h1,h2⟩
 ·exact thenR_bad (ifR_not hx h1)
 ·exact thenR_ok (ifR_not hx h1) h2

theorem RS.pick_cons {r : RS} {x : List UInt8} {l : List (List UInt8)} (h : r.pick (x :: l) = none) : r.sees x = false ∧ r.pick l = none:=by
 rw [RS.pick] at h
 split at h
 ·exact absurd h (by simp)
 ·rename_i hs
  refine ⟨by simpa using hs,?_⟩
  cases hp : r.pick l with
  | none => rfl
  | some j => rw [hp] at h; exact absurd h (by simp)

theorem RS.pick_cons_some {r : RS} {x : List UInt8} {l : List (List UInt8)} {j : Nat} (h : r.pick (x :: l) = some j) : (j = 0 ∧ r.sees x = true) ∨ (∃ i,j = i + 1 ∧ r.sees x = false ∧ r.pick l = some i):=by
 rw [RS.pick] at h
 split at h
 ·rename_i hs
  exact Or.inl ⟨by injection h with h; exact h.symm,hs⟩
 ·rename_i hs
  cases hp : r.pick l with
  | none => rw [hp] at h; exact absurd h (by simp)
  | some i =>
   rw [hp] at h
   injection h with h
   exact Or.inr ⟨i,h.symm,by simpa using hs,rfl⟩

theorem Lk.none3 {α : Type} {f0 f1 f2 g : Rd_ α} {x y z : List UInt8} {r r' : RS} {a : α} (h : r.pick [x,y,z] = none) (k : Lk g r a r') : Lk (ifR x f0 (ifR y f1 (ifR z f2 g))) r a r':=by
 obtain ⟨h1,h⟩:=RS.pick_cons h
 obtain ⟨h2,h⟩:=RS.pick_cons h
 exact Lk.not h1 (Lk.not h2 (Lk.not (RS.pick_cons h).1 k))

theorem Lk.some3 {α : Type} {f : Nat → Rd_ α} {g : Rd_ α} {x y z : List UInt8} {r r' : RS} {a : α} {j : Nat} (h : r.pick [x,y,z] = some j) (k : Lk (f j) r.step a r') : Lk (ifR x (f 0) (ifR y (f 1) (ifR z (f 2) g))) r a r':=by
 rcases RS.pick_cons_some h with ⟨rfl,h0⟩ | ⟨i,rfl,h0,h⟩
 ·exact Lk.yes h0 k
 rcases RS.pick_cons_some h with ⟨rfl,h1⟩ | ⟨i,rfl,h1,h⟩
 ·exact Lk.not h0 (Lk.yes h1 k)
 rcases RS.pick_cons_some h with ⟨rfl,h2⟩ | ⟨i,rfl,h2,h⟩
 ·exact Lk.not h0 (Lk.not h1 (Lk.yes h2 k))
 ·exact absurd h (by simp [RS.pick])

theorem Lk.none4 {α : Type} {f0 f1 f2 f3 g : Rd_ α} {x y z u : List UInt8} {r r' : RS} {a : α} (h : r.pick [x,y,z,u] = none) (k : Lk g r a r') : Lk (ifR x f0 (ifR y f1 (ifR z f2 (ifR u f3 g)))) r a r':=by
 obtain ⟨h1,h⟩:=RS.pick_cons h
 exact Lk.not h1 (Lk.none3 h k)

theorem Lk.some4 {α : Type} {f : Nat → Rd_ α} {g : Rd_ α} {x y z u : List UInt8} {r r' : RS} {a : α} {j : Nat} (h : r.pick [x,y,z,u] = some j) (k : Lk (f j) r.step a r') : Lk (ifR x (f 0) (ifR y (f 1) (ifR z (f 2) (ifR u (f 3) g)))) r a r':=by
 rcases RS.pick_cons_some h with ⟨rfl,h0⟩ | ⟨i,rfl,h0,h⟩
 ·exact Lk.yes h0 k
 ·exact Lk.not h0 (Lk.some3 (f:=fun i => f (i + 1)) h k)

theorem Lk.bad {α : Type} {r : RS} {a : α} : Lk (badR (α:=α)) r a r.stop:=by
 cases hw : r.wrong with
 | true => exact Or.inl ⟨hw,by unfold RS.stop; rw [← hw]⟩
 | false => exact Or.inr ⟨hw,Or.inr ⟨rfl,rfl⟩⟩

def aggW : List (List UInt8):=[wSUM,wMIN,wMAX]

def stmW : List (List UInt8):=[wINSERT,wUPDATE,wDELETE,wSELECT]

def itemAt (p : Nat) : Rd_ Ex:=ifR wCOUNT (thenR (wantR [[40],[42],[41]]) fun _ => retR (.mk 11 0 v0 ⟨#[]⟩ ⟨#[]⟩ [] p)) (ifR wSUM (overR 12 p) (ifR wMIN (overR 13 p) (ifR wMAX (overR 14 p) exprR)))

theorem Lk.item {r r' : RS} {x : Ex} (h : Lk (itemAt r.ps.hd.2) r x r') : Lk itemR r x r':=h

def setAt (p : Nat) : Rd_ Se:=thenR namR fun n => thenR (wantR [[61]]) fun _ => thenR exprR fun e => retR (n,e,(p : Int))

theorem Lk.set {r r' : RS} {x : Se} (h : Lk (setAt r.ps.hd.2) r x r') : Lk setR r x r':=h
end Go.Proofs.YtffalonhkemieaaGreatDoor
