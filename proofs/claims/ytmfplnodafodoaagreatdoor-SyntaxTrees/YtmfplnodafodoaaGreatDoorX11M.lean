/- Plain mathematics of layer 11: expressions, and how tokens are read as one. -/
import Derived.Test.YtmfplnodafodoaaGreatDoorX11A
namespace Go.Proofs.YtmfplnodafodoaaGreatDoor
open Go Go.RowKit

/-- An expression: kind, Op, Value, Table, Name, Kids, At. -/
inductive Ex where
  | mk (kind op : Int) (val : V3) (table name : ByteArray) (kids : List Ex) (place : Int) : Ex
abbrev T := Tk × Nat
/-- A parser: the tokens ahead, and what was one too many. -/
structure PS where
  rest : List T
  code : Int
  place : Int
def PS.hd (s : PS) : T := s.rest.headD ((1, 0, ⟨#[]⟩), 0)
def PS.next (s : PS) : PS := { s with rest := s.rest.tail }
/-- What is read: something, and the parser behind it; or the place at which none goes on. -/
inductive Res (α : Type) where
  | ok (a : α) (s : PS) : Res α
  | bad (p : Nat) : Res α
/-- Is a word or a sign next? -/
def PS.sees (s : PS) (x : List UInt8) : Bool := (decide (s.hd.1.1 = 4) || decide (s.hd.1.1 = 7)) && (s.hd.1.2.2.data.toList == x)
/-- Of a row with so many parts another one begins. -/
def PS.cnt (s : PS) (n most : Nat) : PS := if n = most ∧ s.code = 0 then { s with code := 112, place := s.hd.2 } else s
def v0 : V3 := (0, 0, ⟨#[]⟩)
def over (kind op : Int) (place : Nat) (kids : List Ex) : Ex := .mk kind op v0 ⟨#[]⟩ ⟨#[]⟩ kids place
/-- What one of some signs stands for, if it is next; 0: none. -/
def opOf (s : PS) : List (List UInt8 × Int) → Int
  | [] => 0
  | x :: l => if s.sees x.1 = true then x.2 else opOf s l
def cmpO : List (List UInt8 × Int) := [([61], 1), ([60, 62], 2), ([60], 3), ([60, 61], 4), ([62], 5), ([62, 61], 6)]
def sumO : List (List UInt8 × Int) := [([43], 1), ([45], 2)]
def prodO : List (List UInt8 × Int) := [([42], 3), ([47], 4), ([37], 5)]
def wOr : List UInt8 := [79, 82]
def wAnd : List UInt8 := [65, 78, 68]
def wNot : List UInt8 := [78, 79, 84]
def wIs : List UInt8 := [73, 83]
def wNull : List UInt8 := [78, 85, 76, 76]
def wFalse : List UInt8 := [70, 65, 76, 83, 69]
def wTrue : List UInt8 := [84, 82, 85, 69]
/-- A name, which must be next. -/
def nameR (s : PS) : Res ByteArray := if s.hd.1.1 = 3 then .ok s.hd.1.2.2 s.next else .bad s.hd.2
/-- A column. -/
def colR (s : PS) : Res Ex :=
  match nameR s with
  | .bad p => .bad p
  | .ok a s1 =>
    if s1.sees [46] = true then
      match nameR s1.next with
      | .bad p => .bad p
      | .ok b s2 => .ok (.mk 3 0 v0 a b [] s.hd.2) s2
    else .ok (.mk 3 0 v0 ⟨#[]⟩ a [] s.hd.2) s1
/-- A literal. -/
def litR (s : PS) : Res V3 :=
  if s.sees wNull = true then .ok v0 s.next
  else if s.sees wFalse = true then .ok (2, 0, ⟨#[]⟩) s.next
  else if s.sees wTrue = true then .ok (2, 1, ⟨#[]⟩) s.next
  else if s.hd.1.1 = 5 then .ok (3, 0, s.hd.1.2.2) s.next
  else if s.hd.1.1 = 2 then .ok (1, s.hd.1.2.1, ⟨#[]⟩) s.next
  else .bad s.hd.2
/-- What is to be read. -/
inductive Gl where
  | or | and | not | test | sum | prod | fact
  | rowL (b : Bool) (place : Nat) (acc : List Ex)
  | sumL (l : Ex)
  | prodL (l : Ex)
def bindR {α β : Type} (x : Option (Res α)) (f : α → PS → Option (Res β)) : Option (Res β) :=
  match x with
  | none => none
  | some (.bad p) => some (.bad p)
  | some (.ok a s) => f a s
/-- An expression, by the grammar; none: too little fuel. -/
def pX : Nat → Gl → PS → Option (Res Ex)
  | 0, _, _ => none
  | n + 1, .or, s => bindR (pX n .and s) fun e s1 => if s1.sees wOr = true then pX n (.rowL true s1.hd.2 [e]) s1 else some (.ok e s1)
  | n + 1, .and, s => bindR (pX n .not s) fun e s1 => if s1.sees wAnd = true then pX n (.rowL false s1.hd.2 [e]) s1 else some (.ok e s1)
  | n + 1, .rowL b a acc, s =>
    if s.sees (if b then wOr else wAnd) = true then bindR (pX n (if b then .and else .not) (s.next.cnt acc.length 8)) fun e s1 => pX n (.rowL b a (acc ++ [e])) s1
    else some (.ok (over (if b then 10 else 9) 0 a acc) s)
  | n + 1, .not, s => if s.sees wNot = true then bindR (pX n .not s.next) fun e s1 => some (.ok (over 8 0 s.hd.2 [e]) s1) else pX n .test s
  | n + 1, .test, s => bindR (pX n .sum s) fun l s1 =>
    if s1.sees wIs = true then
      let s2 := s1.next
      let op : Int := if s2.sees wNot = true then 1 else 0
      let s3 := if s2.sees wNot = true then s2.next else s2
      if s3.sees wNull = true then some (.ok (over 7 op s1.hd.2 [l]) s3.next) else some (.bad s3.hd.2)
    else if opOf s1 cmpO = 0 then some (.ok l s1)
    else bindR (pX n .sum s1.next) fun r s2 => some (.ok (over 6 (opOf s1 cmpO) s1.hd.2 [l, r]) s2)
  | n + 1, .sum, s => bindR (pX n .prod s) fun l s1 => pX n (.sumL l) s1
  | n + 1, .sumL l, s => if opOf s sumO = 0 then some (.ok l s) else bindR (pX n .prod s.next) fun r s1 => pX n (.sumL (over 5 (opOf s sumO) s.hd.2 [l, r])) s1
  | n + 1, .prod, s => bindR (pX n .fact s) fun l s1 => pX n (.prodL l) s1
  | n + 1, .prodL l, s => if opOf s prodO = 0 then some (.ok l s) else bindR (pX n .fact s.next) fun r s1 => pX n (.prodL (over 5 (opOf s prodO) s.hd.2 [l, r])) s1
  | n + 1, .fact, s =>
    if s.sees [45] = true then bindR (pX n .fact s.next) fun e s1 => some (.ok (over 4 0 s.hd.2 [e]) s1)
    else if s.sees [40] = true then bindR (pX n .or s.next) fun e s1 => if s1.sees [41] = true then some (.ok e s1.next) else some (.bad s1.hd.2)
    else if s.hd.1.1 = 3 then some (colR s)
    else if s.hd.1.1 = 6 then some (.ok (.mk 2 0 v0 ⟨#[]⟩ s.hd.1.2.2 [] s.hd.2) s.next)
    else match litR s with
      | .bad p => some (.bad p)
      | .ok v s1 => some (.ok (.mk 1 0 v ⟨#[]⟩ ⟨#[]⟩ [] s.hd.2) s1)
theorem bindR_some {α β : Type} {x : Option (Res α)} {f : α → PS → Option (Res β)} {r : Res β} (h : bindR x f = some r) : (∃ p, x = some (.bad p) ∧ r = .bad p) ∨ ∃ a s, x = some (.ok a s) ∧ f a s = some r := by
  cases x with
  | none => simp [bindR] at h
  | some y =>
    cases y with
    | bad p => simp [bindR] at h; exact Or.inl ⟨p, rfl, h.symm⟩
    | ok a s => exact Or.inr ⟨a, s, rfl, h⟩
theorem bindR_bad {α β : Type} {x : Option (Res α)} {f : α → PS → Option (Res β)} {p : Nat} (h : x = some (.bad p)) : bindR x f = some (.bad p) := by rw [h]; rfl
theorem bindR_ok {α β : Type} {x : Option (Res α)} {f : α → PS → Option (Res β)} {a : α} {s : PS} (h : x = some (.ok a s)) : bindR x f = f a s := by rw [h]; rfl
theorem bindR_mono {α β : Type} {x y : Option (Res α)} {f g : α → PS → Option (Res β)} {r : Res β} (hx : ∀ r, x = some r → y = some r) (hf : ∀ a s r, f a s = some r → g a s = some r) (h : bindR x f = some r) : bindR y g = some r := by
  rcases bindR_some h with ⟨p, e, rfl⟩ | ⟨a, s, e, h⟩
  · exact bindR_bad (hx _ e)
  · rw [bindR_ok (hx _ e)]
    exact hf _ _ _ h
theorem pX_succ : ∀ (n : Nat) (g : Gl) (s : PS) (r : Res Ex), pX n g s = some r → pX (n + 1) g s = some r := by
  intro n
  induction n with
  | zero => intro g s r h; simp [pX] at h
  | succ n ih =>
    intro g s r h
    cases g with
    | or =>
      rw [pX] at h ⊢
      refine bindR_mono (ih _ _) (fun e s1 r h => ?_) h
      by_cases hs : s1.sees wOr = true
      · rw [if_pos hs] at h ⊢
        exact ih _ _ _ h
      · rw [if_neg hs] at h ⊢
        exact h
    | and =>
      rw [pX] at h ⊢
      refine bindR_mono (ih _ _) (fun e s1 r h => ?_) h
      by_cases hs : s1.sees wAnd = true
      · rw [if_pos hs] at h ⊢
        exact ih _ _ _ h
      · rw [if_neg hs] at h ⊢
        exact h
    | rowL b a acc =>
      rw [pX] at h ⊢
      by_cases hs : s.sees (if b = true then wOr else wAnd) = true
      · rw [if_pos hs] at h ⊢
        exact bindR_mono (ih _ _) (fun e s1 r h => ih _ _ _ h) h
      · rw [if_neg hs] at h ⊢
        exact h
    | not =>
      rw [pX] at h ⊢
      split at h
      · rename_i hs
        rw [if_pos hs]
        exact bindR_mono (ih _ _) (fun e s1 r h => h) h
      · rename_i hs
        rw [if_neg hs]
        exact ih _ _ _ h
    | test =>
      rw [pX] at h ⊢
      refine bindR_mono (ih _ _) (fun e s1 r h => ?_) h
      split at h
      · rename_i hs
        rw [if_pos hs]
        exact h
      · rename_i hs
        rw [if_neg hs]
        split at h
        · rename_i ho
          rw [if_pos ho]
          exact h
        · rename_i ho
          rw [if_neg ho]
          exact bindR_mono (ih _ _) (fun e s1 r h => h) h
    | sum =>
      rw [pX] at h ⊢
      exact bindR_mono (ih _ _) (fun e s1 r h => ih _ _ _ h) h
    | prod =>
      rw [pX] at h ⊢
      exact bindR_mono (ih _ _) (fun e s1 r h => ih _ _ _ h) h
    | sumL l =>
      rw [pX] at h ⊢
      split at h
      · rename_i ho
        rw [if_pos ho]
        exact h
      · rename_i ho
        rw [if_neg ho]
        exact bindR_mono (ih _ _) (fun e s1 r h => ih _ _ _ h) h
    | prodL l =>
      rw [pX] at h ⊢
      split at h
      · rename_i ho
        rw [if_pos ho]
        exact h
      · rename_i ho
        rw [if_neg ho]
        exact bindR_mono (ih _ _) (fun e s1 r h => ih _ _ _ h) h
    | fact =>
      rw [pX] at h ⊢
      split at h
      · rename_i hs
        rw [if_pos hs]
        exact bindR_mono (ih _ _) (fun e s1 r h => h) h
      · rename_i hs
        rw [if_neg hs]
        split at h
        · rename_i hs2
          rw [if_pos hs2]
          exact bindR_mono (ih _ _) (fun e s1 r h => h) h
        · rename_i hs2
          rw [if_neg hs2]
          exact h
theorem pX_le {n m : Nat} (hm : n ≤ m) {g : Gl} {s : PS} {r : Res Ex} (h : pX n g s = some r) : pX m g s = some r := by
  induction hm with
  | refl => exact h
  | step _ ih => exact pX_succ _ _ _ _ ih
/-- It is read so, with enough fuel. -/
def Pr (g : Gl) (s : PS) (r : Res Ex) : Prop := ∃ n, pX n g s = some r
theorem Pr.one {g : Gl} {s : PS} {r r' : Res Ex} (h : Pr g s r) (k : Pr g s r') : r = r' := by
  obtain ⟨n, h⟩ := h
  obtain ⟨m, k⟩ := k
  have h1 := pX_le (Nat.le_max_left n m) h
  have h2 := pX_le (Nat.le_max_right n m) k
  rw [h1] at h2
  exact Option.some.inj h2
/-- One reads what is below, then what follows. -/
theorem Pr.bind {g g1 : Gl} {s s0 s1 : PS} {e : Ex} {r : Res Ex} {f : Nat → Ex → PS → Option (Res Ex)} (hg : ∀ n, pX (n + 1) g s = bindR (pX n g1 s0) (f n)) (h1 : Pr g1 s0 (.ok e s1)) (h2 : ∃ n, ∀ m, n ≤ m → f m e s1 = some r) : Pr g s r := by
  obtain ⟨n, h1⟩ := h1
  obtain ⟨m, h2⟩ := h2
  refine ⟨max n m + 1, ?_⟩
  rw [hg, bindR_ok (pX_le (Nat.le_max_left n m) h1)]
  exact h2 _ (Nat.le_max_right n m)
theorem Pr.bad {g g1 : Gl} {s s0 : PS} {p : Nat} {f : Nat → Ex → PS → Option (Res Ex)} (hg : ∀ n, pX (n + 1) g s = bindR (pX n g1 s0) (f n)) (h1 : Pr g1 s0 (.bad p)) : Pr g s (.bad p) := by
  obtain ⟨n, h1⟩ := h1
  exact ⟨n + 1, by rw [hg, bindR_bad h1]⟩
end Go.Proofs.YtmfplnodafodoaaGreatDoor
/- Plain mathematics of layer 11: statements, and how tokens are read as one. -/
namespace Go.Proofs.YtmfplnodafodoaaGreatDoor
open Go Go.RowKit

/-- A set: name, expression, place. -/
abbrev Se := ByteArray × Ex × Int
/-- A sort: item, whether the greatest is first, place. -/
abbrev So := Int × Bool × Int
/-- A statement. -/
structure St where
  kind : Int
  table : ByteArray
  join : ByteArray
  on : List Ex
  whr : List Ex
  items : List Ex
  star : Bool
  sets : List Se
  groups : List Ex
  sorts : List So
  limit : List Int
  place : Int
  joinAt : Int
def st0 : St := ⟨0, ⟨#[]⟩, ⟨#[]⟩, [], [], [], false, [], [], [], [], 0, 0⟩
/-- What reads something of a parser. -/
abbrev Rd_ (α : Type) := PS → Res α → Prop
def retR {α : Type} (a : α) : Rd_ α := fun s r => r = .ok a s
def thenR {α β : Type} (f : Rd_ α) (g : α → Rd_ β) : Rd_ β := fun s r => (∃ p, f s (.bad p) ∧ r = .bad p) ∨ ∃ a s1, f s (.ok a s1) ∧ g a s1 r
def Det {α : Type} (f : Rd_ α) : Prop := ∀ s r r', f s r → f s r' → r = r'
theorem Det.ret {α : Type} (a : α) : Det (retR a) := fun _ _ _ h k => h.trans k.symm
theorem Det.bind {α β : Type} {f : Rd_ α} {g : α → Rd_ β} (hf : Det f) (hg : ∀ a, Det (g a)) : Det (thenR f g) := by
  rintro s r r' (⟨p, h, rfl⟩ | ⟨a, s1, h, hr⟩) (⟨q, k, rfl⟩ | ⟨b, s2, k, kr⟩)
  · injection hf _ _ _ h k with e
    rw [e]
  · exact absurd (hf _ _ _ h k) (by simp)
  · exact absurd (hf _ _ _ h k) (by simp)
  · injection hf _ _ _ h k with e1 e2
    subst e1 e2
    exact hg a _ _ _ hr kr
theorem thenR_ok {α β : Type} {f : Rd_ α} {g : α → Rd_ β} {s s1 : PS} {a : α} {r : Res β} (h : f s (.ok a s1)) (k : g a s1 r) : thenR f g s r := Or.inr ⟨a, s1, h, k⟩
theorem thenR_bad {α β : Type} {f : Rd_ α} {g : α → Rd_ β} {s : PS} {p : Nat} (h : f s (.bad p)) : thenR f g s (.bad p) := Or.inl ⟨p, h, rfl⟩
/-- A word or a sign, if it is next. -/
def skipR (x : List UInt8) : Rd_ Bool := fun s r => r = .ok (s.sees x) (if s.sees x = true then s.next else s)
def needsR : List (List UInt8) → PS → Res Unit
  | [], s => .ok () s
  | x :: l, s => if s.sees x = true then needsR l s.next else .bad s.hd.2
def wantR (l : List (List UInt8)) : Rd_ Unit := fun s r => r = needsR l s
def namR : Rd_ ByteArray := fun s r => r = nameR s
def numR : Rd_ T := fun s r => r = if s.hd.1.1 = 2 then .ok s.hd s.next else .bad s.hd.2
def placeR : Rd_ Nat := fun s r => r = .ok s.hd.2 s
/-- Parts with commas between them. -/
inductive LsR {α : Type} (f : Rd_ α) (most : Nat) : List α → PS → Res (List α) → Prop
  | bad {acc : List α} {s : PS} {p : Nat} (h : f (s.cnt acc.length most) (.bad p)) : LsR f most acc s (.bad p)
  | last {acc : List α} {s s1 : PS} {a : α} (h : f (s.cnt acc.length most) (.ok a s1)) (hs : s1.sees [44] = false) : LsR f most acc s (.ok (acc ++ [a]) s1)
  | more {acc : List α} {s s1 : PS} {a : α} {r : Res (List α)} (h : f (s.cnt acc.length most) (.ok a s1)) (hs : s1.sees [44] = true) (k : LsR f most (acc ++ [a]) s1.next r) : LsR f most acc s r
theorem LsR.one {α : Type} {f : Rd_ α} {most : Nat} (hf : Det f) {acc : List α} {s : PS} {r r' : Res (List α)} (h : LsR f most acc s r) (k : LsR f most acc s r') : r = r' := by
  induction h generalizing r' with
  | bad h =>
    cases k with
    | bad k => injection hf _ _ _ h k with e; rw [e]
    | last k _ => exact absurd (hf _ _ _ h k) (by simp)
    | more k _ _ => exact absurd (hf _ _ _ h k) (by simp)
  | last h hs =>
    cases k with
    | bad k => exact absurd (hf _ _ _ h k) (by simp)
    | last k _ => injection hf _ _ _ h k with e1 e2; rw [e1, e2]
    | more k ks _ =>
      injection hf _ _ _ h k with e1 e2
      subst e2
      rw [hs] at ks
      exact absurd ks (by simp)
  | more h hs _ ih =>
    cases k with
    | bad k => exact absurd (hf _ _ _ h k) (by simp)
    | last k ks =>
      injection hf _ _ _ h k with e1 e2
      subst e2
      rw [hs] at ks
      exact absurd ks (by simp)
    | more k ks kk =>
      injection hf _ _ _ h k with e1 e2
      subst e1 e2
      exact ih kk
def listR {α : Type} (f : Rd_ α) (most : Nat) : Rd_ (List α) := fun s r => LsR f most [] s r
def exprR : Rd_ Ex := fun s r => Pr .or s r
def colmR : Rd_ Ex := fun s r => r = colR s
def wCOUNT : List UInt8 := [67, 79, 85, 78, 84]
def wSUM : List UInt8 := [83, 85, 77]
def wMIN : List UInt8 := [77, 73, 78]
def wMAX : List UInt8 := [77, 65, 88]
def wINSERT : List UInt8 := [73, 78, 83, 69, 82, 84]
def wUPDATE : List UInt8 := [85, 80, 68, 65, 84, 69]
def wDELETE : List UInt8 := [68, 69, 76, 69, 84, 69]
def wSELECT : List UInt8 := [83, 69, 76, 69, 67, 84]
def wINTO : List UInt8 := [73, 78, 84, 79]
def wVALUES : List UInt8 := [86, 65, 76, 85, 69, 83]
def wSET : List UInt8 := [83, 69, 84]
def wFROM : List UInt8 := [70, 82, 79, 77]
def wWHERE : List UInt8 := [87, 72, 69, 82, 69]
def wJOIN : List UInt8 := [74, 79, 73, 78]
def wON : List UInt8 := [79, 78]
def wGROUP : List UInt8 := [71, 82, 79, 85, 80]
def wBY : List UInt8 := [66, 89]
def wORDER : List UInt8 := [79, 82, 68, 69, 82]
def wLIMIT : List UInt8 := [76, 73, 77, 73, 84]
def wDESC : List UInt8 := [68, 69, 83, 67]
/-- If a word is next, it is gone over, and one reads on as f; else as g. -/
def ifR {α : Type} (x : List UInt8) (f g : Rd_ α) : Rd_ α := fun s r => if s.sees x = true then f s.next r else g s r
def overR (kind : Int) (place : Nat) : Rd_ Ex := thenR (wantR [[40]]) fun _ => thenR exprR fun e => thenR (wantR [[41]]) fun _ => retR (over kind 0 place [e])
def itemR : Rd_ Ex := fun s => ifR wCOUNT (thenR (wantR [[40], [42], [41]]) fun _ => retR (.mk 11 0 v0 ⟨#[]⟩ ⟨#[]⟩ [] s.hd.2)) (ifR wSUM (overR 12 s.hd.2) (ifR wMIN (overR 13 s.hd.2) (ifR wMAX (overR 14 s.hd.2) exprR))) s
def setR : Rd_ Se := fun s => (thenR namR fun n => thenR (wantR [[61]]) fun _ => thenR exprR fun e => retR (n, e, (s.hd.2 : Int))) s
def sortR : Rd_ So := thenR numR fun t => ifR wDESC (retR (t.1.2.1, true, (t.2 : Int))) (retR (t.1.2.1, false, (t.2 : Int)))
def whereR : Rd_ (List Ex) := ifR wWHERE (thenR exprR fun e => retR [e]) (retR [])
def insR : Rd_ St := thenR (wantR [wINTO]) fun _ => thenR namR fun t => thenR (wantR [wVALUES, [40]]) fun _ => thenR (listR exprR 16) fun l => thenR (wantR [[41]]) fun _ => retR { st0 with kind := 1, table := t, items := l }
def updR : Rd_ St := thenR namR fun t => thenR (wantR [wSET]) fun _ => thenR (listR setR 16) fun l => thenR whereR fun e => retR { st0 with kind := 2, table := t, sets := l, whr := e }
def delR : Rd_ St := thenR (wantR [wFROM]) fun _ => thenR namR fun t => thenR whereR fun e => retR { st0 with kind := 3, table := t, whr := e }
/-- What is selected: all, or items. -/
def starR : Rd_ (Bool × List Ex) := ifR [42] (retR (true, [])) (thenR (listR itemR 8) fun l => retR (false, l))
/-- A join: where, of what, on what. -/
def joinR : Rd_ (Int × ByteArray × List Ex) := ifR wJOIN (thenR placeR fun p => thenR namR fun n => thenR (wantR [wON]) fun _ => thenR exprR fun e => retR ((p : Int), n, [e])) (retR (0, ⟨#[]⟩, []))
def groupR : Rd_ (List Ex) := ifR wGROUP (thenR (wantR [wBY]) fun _ => listR colmR 8) (retR [])
def orderR : Rd_ (List So) := ifR wORDER (thenR (wantR [wBY]) fun _ => listR sortR 8) (retR [])
def limitR : Rd_ (List Int) := ifR wLIMIT (thenR numR fun t => retR [t.1.2.1]) (retR [])
def selR : Rd_ St := thenR starR fun l => thenR (wantR [wFROM]) fun _ => thenR namR fun t => thenR joinR fun j => thenR whereR fun e => thenR groupR fun g => thenR orderR fun o => thenR limitR fun n => retR ⟨4, t, j.2.1, j.2.2, e, l.2, l.1, [], g, o, n, 0, j.1⟩
def badR {α : Type} : Rd_ α := fun s r => r = .bad s.hd.2
def stR : Rd_ St := fun s => (thenR (ifR wINSERT insR (ifR wUPDATE updR (ifR wDELETE delR (ifR wSELECT selR badR)))) fun t => retR { t with place := s.hd.2 }) s
theorem Det.skip (x : List UInt8) : Det (skipR x) := fun _ _ _ h k => h.trans k.symm
theorem Det.want (l : List (List UInt8)) : Det (wantR l) := fun _ _ _ h k => h.trans k.symm
theorem Det.nam : Det namR := fun _ _ _ h k => h.trans k.symm
theorem Det.num : Det numR := fun _ _ _ h k => h.trans k.symm
theorem Det.place : Det placeR := fun _ _ _ h k => h.trans k.symm
theorem Det.colm : Det colmR := fun _ _ _ h k => h.trans k.symm
theorem Det.bad {α : Type} : Det (badR (α := α)) := fun _ _ _ h k => h.trans k.symm
theorem Det.expr : Det exprR := fun _ _ _ h k => Pr.one h k
theorem Det.list {α : Type} {f : Rd_ α} (hf : Det f) (most : Nat) : Det (listR f most) := fun _ _ _ h k => LsR.one hf h k
theorem Det.if {α : Type} {f g : Rd_ α} (hf : Det f) (hg : Det g) (x : List UInt8) : Det (ifR x f g) := by
  intro s r r' h k
  unfold ifR at h k
  split at h
  · rename_i e
    rw [if_pos e] at k
    exact hf _ _ _ h k
  · rename_i e
    rw [if_neg e] at k
    exact hg _ _ _ h k
theorem Det.over (kind : Int) (p : Nat) : Det (overR kind p) := (Det.want _).bind fun _ => Det.expr.bind fun _ => (Det.want _).bind fun _ => Det.ret _
theorem Det.item : Det itemR := fun s _ _ h k => (Det.if ((Det.want _).bind fun _ => Det.ret _) (Det.if (Det.over _ _) (Det.if (Det.over _ _) (Det.if (Det.over _ _) Det.expr _) _) _) _) s _ _ h k
theorem Det.set : Det setR := fun s _ _ h k => (Det.nam.bind fun _ => (Det.want _).bind fun _ => Det.expr.bind fun _ => Det.ret _) s _ _ h k
theorem Det.sort : Det sortR := Det.num.bind fun _ => Det.if (Det.ret _) (Det.ret _) _
theorem Det.whr : Det whereR := Det.if (Det.expr.bind fun _ => Det.ret _) (Det.ret _) _
theorem Det.ins : Det insR := (Det.want _).bind fun _ => Det.nam.bind fun _ => (Det.want _).bind fun _ => (Det.expr.list _).bind fun _ => (Det.want _).bind fun _ => Det.ret _
theorem Det.upd : Det updR := Det.nam.bind fun _ => (Det.want _).bind fun _ => (Det.set.list _).bind fun _ => Det.whr.bind fun _ => Det.ret _
theorem Det.del : Det delR := (Det.want _).bind fun _ => Det.nam.bind fun _ => Det.whr.bind fun _ => Det.ret _
theorem Det.star : Det starR := Det.if (Det.ret _) ((Det.item.list _).bind fun _ => Det.ret _) _
theorem Det.join : Det joinR := Det.if (Det.place.bind fun _ => Det.nam.bind fun _ => (Det.want _).bind fun _ => Det.expr.bind fun _ => Det.ret _) (Det.ret _) _
theorem Det.group : Det groupR := Det.if ((Det.want _).bind fun _ => Det.colm.list _) (Det.ret _) _
theorem Det.order : Det orderR := Det.if ((Det.want _).bind fun _ => Det.sort.list _) (Det.ret _) _
theorem Det.limit : Det limitR := Det.if (Det.num.bind fun _ => Det.ret _) (Det.ret _) _
theorem Det.sel : Det selR := Det.star.bind fun _ => (Det.want _).bind fun _ => Det.nam.bind fun _ => Det.join.bind fun _ => Det.whr.bind fun _ => Det.group.bind fun _ => Det.order.bind fun _ => Det.limit.bind fun _ => Det.ret _
theorem Det.st : Det stR := fun s _ _ h k => ((Det.if Det.ins (Det.if Det.upd (Det.if Det.del (Det.if Det.sel Det.bad _) _) _) _).bind fun _ => Det.ret _) s _ _ h k
end Go.Proofs.YtmfplnodafodoaaGreatDoor
/- Plain mathematics of layer 11: a select, part by part. -/
namespace Go.Proofs.YtmfplnodafodoaaGreatDoor
open Go Go.RowKit
def selL (l : Bool × List Ex) (t : ByteArray) (j : Int × ByteArray × List Ex) (e g : List Ex) (o : List So) : Rd_ St := thenR limitR fun n => retR ⟨4, t, j.2.1, j.2.2, e, l.2, l.1, [], g, o, n, 0, j.1⟩
def selO (l : Bool × List Ex) (t : ByteArray) (j : Int × ByteArray × List Ex) (e g : List Ex) : Rd_ St := thenR orderR fun o => selL l t j e g o
def selG (l : Bool × List Ex) (t : ByteArray) (j : Int × ByteArray × List Ex) (e : List Ex) : Rd_ St := thenR groupR fun g => selO l t j e g
def selW (l : Bool × List Ex) (t : ByteArray) (j : Int × ByteArray × List Ex) : Rd_ St := thenR whereR fun e => selG l t j e
def selJ (l : Bool × List Ex) (t : ByteArray) : Rd_ St := thenR joinR fun j => selW l t j
def selF (l : Bool × List Ex) : Rd_ St := thenR (wantR [wFROM]) fun _ => thenR namR fun t => selJ l t
theorem selR_eq : selR = thenR starR fun l => selF l := rfl
theorem ifR_yes {α : Type} {x : List UInt8} {f g : Rd_ α} {s : PS} {r : Res α} (h : s.sees x = true) (k : f s.next r) : ifR x f g s r := by unfold ifR; rw [if_pos h]; exact k
theorem ifR_not {α : Type} {x : List UInt8} {f g : Rd_ α} {s : PS} {r : Res α} (h : s.sees x = false) (k : g s r) : ifR x f g s r := by unfold ifR; rw [if_neg (by rw [h]; simp)]; exact k
/-- What is left to be read, behind a word that is there; that is not there. -/
theorem then_yes {α β : Type} {x : List UInt8} {f g : Rd_ α} {h : α → Rd_ β} {s : PS} {F : Res β → Prop} (hS : s.sees x = true) (k : ∀ r, thenR (ifR x f g) h s r → F r) : ∀ r, thenR f h s.next r → F r := fun r t => k r (by
  rcases t with ⟨p, t, e⟩ | ⟨a, s1, t, u⟩
  · exact Or.inl ⟨p, ifR_yes hS t, e⟩
  · exact Or.inr ⟨a, s1, ifR_yes hS t, u⟩)
theorem then_not {α β : Type} {x : List UInt8} {f g : Rd_ α} {h : α → Rd_ β} {s : PS} {F : Res β → Prop} (hS : s.sees x = false) (k : ∀ r, thenR (ifR x f g) h s r → F r) : ∀ r, thenR g h s r → F r := fun r t => k r (by
  rcases t with ⟨p, t, e⟩ | ⟨a, s1, t, u⟩
  · exact Or.inl ⟨p, ifR_not hS t, e⟩
  · exact Or.inr ⟨a, s1, ifR_not hS t, u⟩)
/-- One behind the other, whichever one parts. -/
theorem then_then {α β γ : Type} {f : Rd_ α} {g : α → Rd_ β} {h : β → Rd_ γ} {s : PS} {F : Res γ → Prop} (k : ∀ r, thenR (thenR f g) h s r → F r) : ∀ r, thenR f (fun a => thenR (g a) h) s r → F r := fun r t => k r (by
  rcases t with ⟨p, t, e⟩ | ⟨a, s1, t, u⟩
  · exact Or.inl ⟨p, Or.inl ⟨p, t, rfl⟩, e⟩
  · rcases u with ⟨p, u, e⟩ | ⟨b, s2, u, v⟩
    · exact Or.inl ⟨p, Or.inr ⟨a, s1, t, u⟩, e⟩
    · exact Or.inr ⟨b, s2, Or.inr ⟨a, s1, t, u⟩, v⟩)
end Go.Proofs.YtmfplnodafodoaaGreatDoor
