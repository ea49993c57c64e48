/- Layer 6, without the program: names of segments, what a log is, what its calls answer and leave. -/
import Derived.Test.YtckmjmpajbjbkaaGreatDoorM41
import Derived.Test.YtckmjmpajbjbkaaGreatDoorM50
namespace Go.Proofs.YtckmjmpajbjbkaaGreatDoor
open Go

/-! ### digits and names -/
/-- The lowest digits of a number, as bytes, the highest first. -/
def digs : Nat → Nat → List UInt8
  | 0, _ => []
  | n + 1, p => digs n (p / 10) ++ [UInt8.ofNat (48 + p % 10)]
def dval (l : List UInt8) : Nat := l.foldl (fun a c => 10 * a + (c.toNat - 48)) 0
theorem digs_length : ∀ n p, (digs n p).length = n
  | 0, _ => rfl
  | n + 1, p => by simp [digs, digs_length n]
theorem dval_snoc (l : List UInt8) (c : UInt8) : dval (l ++ [c]) = 10 * dval l + (c.toNat - 48) := by simp [dval]
theorem dig_nat {k : Nat} (h : k < 10) : (UInt8.ofNat (48 + k)).toNat = 48 + k := by
  rw [UInt8.toNat_ofNat']
  omega
theorem dval_digs : ∀ n p, dval (digs n p) = p % 10 ^ n
  | 0, p => by simp [digs, dval, Nat.mod_one]
  | n + 1, p => by
    rw [digs, dval_snoc, dval_digs n (p / 10), dig_nat (Nat.mod_lt _ (by decide)), Nat.pow_succ, Nat.mul_comm (10 ^ n) 10, Nat.mod_mul]
    omega
theorem digs_cons : ∀ n p, digs (n + 1) p = UInt8.ofNat (48 + p / 10 ^ n % 10) :: digs n p
  | 0, p => by simp [digs]
  | n + 1, p => by
    rw [digs, digs_cons n (p / 10), Nat.div_div_eq_div_mul, Nat.mul_comm 10, ← Nat.pow_succ, List.cons_append]
    rfl
theorem digs_inj {n p q : Nat} (hp : p < 10 ^ n) (hq : q < 10 ^ n) (h : digs n p = digs n q) : p = q := by
  have := congrArg dval h
  rwa [dval_digs, dval_digs, Nat.mod_eq_of_lt hp, Nat.mod_eq_of_lt hq] at this

def pre4 : List UInt8 := [108, 111, 103, 46]
def mendN : Nm := [109, 101, 110, 100]
def nameN (p : Nat) : Nm := pre4 ++ digs 12 p
def isLog (n : Nm) : Bool := decide (n.take 4 = pre4)
def placeN (n : Nm) : Option Nat := if n = nameN (dval (n.drop 4)) then some (dval (n.drop 4)) else none
theorem nameN_length (p : Nat) : (nameN p).length = 16 := by simp [nameN, pre4, digs_length]
theorem nameN_drop (p : Nat) : (nameN p).drop 4 = digs 12 p := by simp [nameN, pre4]
theorem nameN_take (p : Nat) : (nameN p).take 4 = pre4 := by simp [nameN, pre4]
theorem nameN_log (p : Nat) : isLog (nameN p) = true := by simp [isLog, nameN_take]
theorem nameN_inj {p q : Nat} (hp : p < 1000000000000) (hq : q < 1000000000000) (h : nameN p = nameN q) : p = q := by
  have := congrArg (List.drop 4) h
  rw [nameN_drop, nameN_drop] at this
  exact digs_inj (n := 12) hp hq this
theorem placeN_iff {n : Nm} {p : Nat} : placeN n = some p ↔ p < 1000000000000 ∧ n = nameN p := by
  unfold placeN
  constructor
  · intro h
    split at h
    · rename_i e
      obtain rfl : dval (n.drop 4) = p := by simpa using h
      refine ⟨?_, e⟩
      have e2 := congrArg (fun x => dval (List.drop 4 x)) e
      simp only [nameN_drop, dval_digs] at e2
      have := Nat.mod_lt (dval (n.drop 4)) (show 0 < 10 ^ 12 by decide)
      omega
    · cases h
  · rintro ⟨h, rfl⟩
    have e : dval ((nameN p).drop 4) = p := by
      rw [nameN_drop, dval_digs]
      exact Nat.mod_eq_of_lt h
    rw [e]
    simp
theorem placeN_name {p : Nat} (h : p < 1000000000000) : placeN (nameN p) = some p := placeN_iff.2 ⟨h, rfl⟩
theorem mendN_log : isLog mendN = false := by decide
theorem digs_nmb : ∀ n p, (digs n p).all nmb = true
  | 0, _ => rfl
  | n + 1, p => by
    rw [digs, List.all_append, digs_nmb n]
    have h := Nat.mod_lt p (show 0 < 10 by decide)
    simp only [List.all_cons, List.all_nil, Bool.and_true, Bool.true_and, nmb, dig_nat h, Bool.or_eq_true, Bool.and_eq_true, decide_eq_true_eq]
    omega
theorem nameN_ok (p : Nat) : nmOk (nameN p) = true := by
  have h : (nameN p).all nmb = true := by
    rw [nameN, List.all_append, digs_nmb, Bool.and_true]
    decide
  simp [nmOk, nameN_length, h]
theorem mendN_ok : nmOk mendN = true := by decide

/-- Names stand as their places do. -/
theorem less_append (l m n : List UInt8) : Op.bytesLess (l ++ m) (l ++ n) = Op.bytesLess m n := by
  rw [bl_lt, bl_lt]
  congr 1
  apply propext
  induction l with
  | nil => rfl
  | cons a l ih => simp [ih]
theorem digs_less : ∀ n p q, p < q → q < 10 ^ n → digs n p < digs n q
  | 0, p, q, h, h' => by simp at h'; omega
  | n + 1, p, q, h, h' => by
    rw [digs_cons, digs_cons, List.cons_lt_cons_iff]
    have hp : 0 < 10 ^ n := Nat.pow_pos (by decide)
    have ep := Nat.div_add_mod p (10 ^ n)
    have eq := Nat.div_add_mod q (10 ^ n)
    have hqn : q / 10 ^ n < 10 := Nat.div_lt_of_lt_mul (by rw [Nat.pow_succ] at h'; exact h')
    have hpn : p / 10 ^ n ≤ q / 10 ^ n := Nat.div_le_div_right (Nat.le_of_lt h)
    rw [Nat.mod_eq_of_lt hqn, Nat.mod_eq_of_lt (by omega)]
    by_cases he : p / 10 ^ n = q / 10 ^ n
    · right
      refine ⟨by rw [he], ?_⟩
      have e1 : ∀ x, digs n x = digs n (x % 10 ^ n) := fun x => by
        clear ep eq hqn hpn he h h' hp
        induction n generalizing x with
        | zero => rfl
        | succ n ih =>
          rw [digs, digs, ih (x / 10), ih (x % 10 ^ (n + 1) / 10)]
          have a1 : x % 10 ^ (n + 1) / 10 % 10 ^ n = x / 10 % 10 ^ n := by
            rw [Nat.pow_succ, Nat.mul_comm, Nat.mod_mul_right_div_self, Nat.mod_mod]
          have a2 : x % 10 ^ (n + 1) % 10 = x % 10 := Nat.mod_mod_of_dvd _ ⟨10 ^ n, by rw [Nat.pow_succ, Nat.mul_comm]⟩
          rw [a1, a2]
      rw [e1 p, e1 q]
      exact digs_less n _ _ (by rw [he] at ep; omega) (Nat.mod_lt _ hp)
    · left
      rw [UInt8.lt_iff_toNat_lt, dig_nat (by omega), dig_nat hqn]
      omega
theorem nameN_less {p q : Nat} (h : p < q) (hq : q < 1000000000000) : Op.bytesLess (nameN p) (nameN q) = true := by
  rw [nameN, nameN, less_append, bl_lt, decide_eq_true_eq]
  exact digs_less 12 p q h hq
theorem name_mend (p : Nat) : Op.bytesLess (nameN p) mendN = true := by
  rw [bl_lt, decide_eq_true_eq]
  exact List.cons_lt_cons_iff.2 (Or.inl (by decide))
theorem nameN_mend (p : Nat) : nameN p ≠ mendN := fun e => by
  have := congrArg List.length e
  rw [nameN_length] at this
  cases this

/-! ### all frames of some bytes -/
def frN : Nat → List UInt8 → List (List UInt8)
  | 0, _ => []
  | n + 1, l => match rd l with
    | none => []
    | some d => d :: frN n (l.drop (6 + d.length))
def fr (l : List UInt8) : List (List UInt8) := frN l.length l
theorem frN_is : ∀ (n : Nat) (l : List UInt8), l.length ≤ n → AllIs l (frN n l) (cat (frN n l)).length
  | 0, l, h => by
    obtain rfl : l = [] := List.eq_nil_of_length_eq_zero (by omega)
    exact ⟨by simp [frN], rfl, [], rfl, rd_nil⟩
  | n + 1, l, h => by
    unfold frN
    cases hr : rd l with
    | none => exact ⟨by simp, rfl, l, by simp [cat], hr⟩
    | some d =>
      obtain ⟨h1, h2, h3⟩ := rd_some hr
      have hs := rd_size hr
      obtain ⟨k1, _, r, k3, k4⟩ := frN_is n (l.drop (6 + d.length)) (by simp only [List.length_drop]; omega)
      refine ⟨fun x hx => ?_, rfl, r, ?_, k4⟩
      · rcases List.mem_cons.1 hx with rfl | hx
        · exact h1
        · exact k1 x hx
      · rw [cat, List.append_assoc, ← k3]
        exact h3
theorem fr_is (l : List UInt8) : AllIs l (fr l) (cat (fr l)).length := frN_is _ _ (Nat.le_refl _)
theorem AllIs.fr {l : List UInt8} {ds : List (List UInt8)} {n : Nat} (h : AllIs l ds n) : ds = fr l ∧ n = (cat (fr l)).length := h.unique' (fr_is l)
theorem fr_cat {ds : List (List UInt8)} (h : ∀ d ∈ ds, d.length ≤ 4096) : fr (cat ds) = ds := (AllIs.whole h).fr.1.symm
theorem fr_torn {ds : List (List UInt8)} (h : ∀ d ∈ ds, d.length ≤ 4096) {d : List UInt8} (hd : d.length ≤ 4096) {k : Nat} (hk : k < 6 + d.length) : fr (cat ds ++ (frm d).take k) = ds := (AllIs.torn h hd hk).fr.1.symm
theorem fr_small (l : List UInt8) : ∀ d ∈ fr l, d.length ≤ 4096 := (fr_is l).1
theorem fr_front (l : List UInt8) : l.take (cat (fr l)).length = cat (fr l) := by
  obtain ⟨_, _, r, h, _⟩ := fr_is l
  rw [show l.take (cat (fr l)).length = (cat (fr l) ++ r).take (cat (fr l)).length by rw [← h]]
  exact List.take_left
theorem cat6 : ∀ ds : List (List UInt8), 6 * ds.length ≤ (cat ds).length
  | [] => Nat.le_refl _
  | d :: ds => by
    have := cat6 ds
    simp only [cat, List.length_append, List.length_cons, frm_length]
    omega
theorem fr_le (l : List UInt8) : (cat (fr l)).length ≤ l.length := by
  obtain ⟨_, _, r, h, _⟩ := fr_is l
  have := congrArg List.length h
  rw [List.length_append] at this
  omega
theorem fr_count (l : List UInt8) : 6 * (fr l).length ≤ l.length := Nat.le_trans (cat6 _) (fr_le l)

/-! ### a log -/
abbrev Sg := Nat × List (List UInt8)
def Sg.end (s : Sg) : Nat := s.1 + s.2.length
structure Lg where
  size : Nat
  frm : Nat
  safe : Nat
  segs : List Sg
def nextL (frm : Nat) (l : List Sg) : Nat := (l.getLast?.map Sg.end).getD frm
def baseL (frm : Nat) (l : List Sg) : Nat := (l.head?.map (·.1)).getD frm
def Lg.next (g : Lg) : Nat := nextL g.frm g.segs
def Lg.base (g : Lg) : Nat := baseL g.frm g.segs
def lastL (l : List Sg) : Sg := l.getLast?.getD (0, [])
def recsL (l : List Sg) : List (List UInt8) := l.flatMap (·.2)
theorem nextL_nil (f : Nat) : nextL f [] = f := rfl
theorem nextL_snoc (f : Nat) (l : List Sg) (s : Sg) : nextL f (l ++ [s]) = s.end := by simp [nextL]
theorem lastL_snoc (l : List Sg) (s : Sg) : lastL (l ++ [s]) = s := by simp [lastL]
theorem baseL_cons (f : Nat) (s : Sg) (l : List Sg) : baseL f (s :: l) = s.1 := rfl
theorem snoc_of {α : Type} {l : List α} (h : l ≠ []) : ∃ m x, l = m ++ [x] := ⟨l.dropLast, l.getLast h, (List.dropLast_concat_getLast h).symm⟩
theorem next_last {f : Nat} {l : List Sg} (h : l ≠ []) : nextL f l = (lastL l).end := by
  obtain ⟨m, x, rfl⟩ := snoc_of h
  rw [nextL_snoc, lastL_snoc]

/-- Segments stand one behind the other. -/
def Row : List Sg → Prop
  | [] => True
  | [_] => True
  | s :: t :: r => t.1 = s.end ∧ Row (t :: r)

def loadR (f : Nat) : Fs → List Sg → Option (List Sg)
  | [], acc => some acc
  | p :: r, acc => if isLog p.1 then (match placeN p.1 with
      | none => none
      | some q => if acc ≠ [] ∧ q ≠ nextL f acc then none else loadR f r (acc ++ [(q, fr p.2.1)])) else loadR f r acc

def thenR (r : Int × St) (f : St → Int × St) : Int × St := if r.1 ≠ 0 then r else f r.2
def mendR (st : St) (name : Nm) (whole : List UInt8) : Int × St :=
  if (remR st mendN).1 ≠ 0 ∧ (remR st mendN).1 ≠ 41 then remR st mendN
  else thenR (appR (remR st mendN).2 mendN whole) fun s => thenR (synR s mendN) fun s => renR s mendN name
def settleR (st : St) (l : List Sg) : Int × St :=
  if l = [] then (0, st) else
  if (readR st (nameN (lastL l).1)).2 ≠ 0 then ((readR st (nameN (lastL l).1)).2, st)
  else if (cat (fr (readR st (nameN (lastL l).1)).1)).length < (readR st (nameN (lastL l).1)).1.length then mendR st (nameN (lastL l).1) (cat (fr (readR st (nameN (lastL l).1)).1))
  else synR st (nameN (lastL l).1)
def openR (st : St) (f size : Int) : Int × St × Option Lg :=
  if f < 0 ∨ 1000000000000 ≤ f ∨ size < 1 ∨ 1024 < size then (1, st, none) else if st.down then (3, st, none) else
  match loadR f.toNat st.fs [] with
  | none => (60, st, none)
  | some l => if (settleR st l).1 ≠ 0 then ((settleR st l).1, (settleR st l).2, none) else (0, (settleR st l).2, some { size := size.toNat, frm := f.toNat, safe := nextL f.toNat l, segs := l })
def syncL (st : St) (g : Lg) : Int × St × Lg :=
  if g.safe = g.next then (0, st, g) else
  if (synR st (nameN (lastL g.segs).1)).1 ≠ 0 then ((synR st (nameN (lastL g.segs).1)).1, (synR st (nameN (lastL g.segs).1)).2, g)
  else (0, (synR st (nameN (lastL g.segs).1)).2, { g with safe := g.next })
def Lg.full (g : Lg) : Bool := g.segs.isEmpty || decide (g.size ≤ (lastL g.segs).2.length)
/-- A record behind the last one. -/
def putS (l : List Sg) (d : List UInt8) : List Sg := l.dropLast ++ [((lastL l).1, (lastL l).2 ++ [d])]
theorem putS_snoc (l : List Sg) (s : Sg) (d : List UInt8) : putS (l ++ [s]) d = l ++ [(s.1, s.2 ++ [d])] := by simp [putS, lastL_snoc]
def appendL (st : St) (g : Lg) (d : List UInt8) : (Int × Int) × St × Lg :=
  if 4096 < d.length ∨ 1000000000000 ≤ g.next then ((0, 2), st, g) else
  if g.full then
    if (syncL st g).1 ≠ 0 then ((0, (syncL st g).1), (syncL st g).2.1, (syncL st g).2.2)
    else if (appR (syncL st g).2.1 (nameN g.next) (frm d)).1 ≠ 0 then ((0, (appR (syncL st g).2.1 (nameN g.next) (frm d)).1), (appR (syncL st g).2.1 (nameN g.next) (frm d)).2, (syncL st g).2.2)
    else (((g.next : Int), 0), (appR (syncL st g).2.1 (nameN g.next) (frm d)).2, { (syncL st g).2.2 with segs := g.segs ++ [(g.next, [d])] })
  else
    if (appR st (nameN (lastL g.segs).1) (frm d)).1 ≠ 0 then ((0, (appR st (nameN (lastL g.segs).1) (frm d)).1), (appR st (nameN (lastL g.segs).1) (frm d)).2, g)
    else (((g.next : Int), 0), (appR st (nameN (lastL g.segs).1) (frm d)).2, { g with segs := putS g.segs d })
def readL (g : Lg) (p : Int) : List UInt8 × Int := if p < (g.base : Int) ∨ (g.next : Int) ≤ p then ([], 61) else (((recsL g.segs)[(p - (g.base : Int)).toNat]?).getD [], 0)
def truncG (p : Int) : St → List Sg → Int × St × List Sg
  | st, s :: t :: r => if (t.1 : Int) ≤ p then (if (remR st (nameN s.1)).1 ≠ 0 then ((remR st (nameN s.1)).1, (remR st (nameN s.1)).2, s :: t :: r) else truncG p (remR st (nameN s.1)).2 (t :: r)) else (0, st, s :: t :: r)
  | st, l => (0, st, l)
def truncL (st : St) (g : Lg) (p : Int) : Int × St × Lg := if p < 0 ∨ (g.safe : Int) < p then (1, st, g) else ((truncG p st g.segs).1, (truncG p st g.segs).2.1, { g with segs := (truncG p st g.segs).2.2 })

/-- What a log keeps to: its segments; what it says is safe. -/
structure LgW (g : Lg) : Prop where
  size : 1 ≤ g.size ∧ g.size ≤ 1024
  frm : g.frm < 1000000000000
  row : Row g.segs
  low : ∀ s ∈ g.segs, s.1 < 1000000000000
  few : ∀ s ∈ g.segs, s.2.length ≤ 1000000000000
  small : ∀ s ∈ g.segs, ∀ d ∈ s.2, d.length ≤ 4096
  many : g.segs.length ≤ g.next + 64
structure LgOK (g : Lg) : Prop extends LgW g where
  safe : g.safe ≤ g.next
  none : g.segs = [] → g.safe = g.frm
end Go.Proofs.YtckmjmpajbjbkaaGreatDoor
