/- Plain mathematics of layer 7: keys, items, nodes, levels of a tree. -/
import Derived.Test.YtlpannicklkghaaM1
import Derived.Laws.Strings
namespace Go.Proofs.Ytlpannicklkghaa


/-! ### keys -/
def kl (a b : ByteArray) : Bool := Op.bytesLess a.toList b.toList
theorem ba_inj {a b : ByteArray} (h : a.toList = b.toList) : a = b := by
  rw [ByteArray.toList_eq, ByteArray.toList_eq] at h
  exact ByteArray.ext (Array.ext' h)
theorem kl_irrefl (a : ByteArray) : kl a a = false := bl_irrefl _
theorem kl_asymm {a b : ByteArray} (h : kl a b = true) : kl b a = false := bl_asymm _ _ h
theorem kl_trans {a b c : ByteArray} (h : kl a b = true) (g : kl b c = true) : kl a c = true := bl_trans _ _ _ h g
theorem kl_total {a b : ByteArray} (h : kl a b = false) (g : a ≠ b) : kl b a = true := bl_total _ _ h fun e => g (ba_inj e)
theorem kl_ne {a b : ByteArray} (h : kl a b = true) : a ≠ b := fun e => by
  subst e
  rw [kl_irrefl] at h
  cases h
/-- From less-or-same to less. -/
theorem kl_le_lt {a b c : ByteArray} (h : kl b a = false) (g : kl b c = true) : kl a c = true := by
  by_cases e : a = b
  · subst e; exact g
  · exact kl_trans (kl_total h fun e' => e e'.symm) g
theorem kl_lt_le {a b c : ByteArray} (h : kl a b = true) (g : kl c b = false) : kl a c = true := by
  by_cases e : b = c
  · subst e; exact h
  · exact kl_trans h (kl_total g fun e' => e e'.symm)
theorem kl_le_trans {a b c : ByteArray} (h : kl b a = false) (g : kl c b = false) : kl c a = false := by
  cases hc : kl c a with
  | false => rfl
  | true =>
    have := kl_lt_le hc h
    rw [g] at this
    cases this
theorem kl_of_lt {a b : ByteArray} (h : kl a b = true) : kl b a = false := kl_asymm h

/-! ### items, nodes, intervals -/
structure It where
  key : ByteArray
  val : ByteArray
  kid : Option Nat
structure Nd where
  b : Nat
  v : Value
  its : List It
structure Iv where
  lo : Option ByteArray
  hi : Option ByteArray
abbrev Slot := Nat × Iv
def inLo (lo : Option ByteArray) (k : ByteArray) : Prop := ∀ l, lo = some l → kl k l = false
def inHi (hi : Option ByteArray) (k : ByteArray) : Prop := ∀ h, hi = some h → kl k h = true
def inIv (iv : Iv) (k : ByteArray) : Prop := inLo iv.lo k ∧ inHi iv.hi k
def Srt (l : List It) : Prop := l.Pairwise fun x y => kl x.key y.key = true
structure NodeOk (n : Nd) (iv : Iv) : Prop where
  srt : Srt n.its
  mem : ∀ x ∈ n.its, inIv iv x.key
def LeafN (n : Nd) : Prop := ∀ x ∈ n.its, x.kid = none
structure MidN (n : Nd) : Prop where
  ne : n.its ≠ []
  kid : ∀ x ∈ n.its, ∃ b, x.kid = some b
/-- The key ahead of which the items of a kid stand: the next item's, or the end of all. -/
def hiOf : List It → Option ByteArray → Option ByteArray
  | [], hi => hi
  | i :: _, _ => some i.key
def nslots : List It → Option ByteArray → List Slot
  | [], _ => []
  | i :: r, hi => (i.kid.getD 0, ⟨some i.key, hiOf r hi⟩) :: nslots r hi
theorem nslots_length : ∀ (l : List It) (hi : Option ByteArray), (nslots l hi).length = l.length
  | [], _ => rfl
  | _ :: r, hi => by simp [nslots, nslots_length r hi]
theorem hiOf_append (a b : List It) (hi : Option ByteArray) : hiOf (a ++ b) hi = hiOf a (hiOf b hi) := by
  cases a <;> rfl
theorem nslots_append : ∀ (a b : List It) (hi : Option ByteArray), nslots (a ++ b) hi = nslots a (hiOf b hi) ++ nslots b hi
  | [], _, _ => rfl
  | i :: r, b, hi => by
    show (i.kid.getD 0, (⟨some i.key, hiOf (r ++ b) hi⟩ : Iv)) :: nslots (r ++ b) hi = _ :: (nslots r _ ++ nslots b hi)
    rw [nslots_append r b hi, hiOf_append]
/-- Each slot's node, right. -/
def Fits : List Slot → List Nd → Prop
  | [], [] => True
  | s :: S, n :: L => (n.b = s.1 ∧ NodeOk n s.2) ∧ Fits S L
  | _, _ => False
def slots : List Slot → List Nd → List Slot
  | s :: S, n :: L => nslots n.its s.2.hi ++ slots S L
  | _, _ => []
def Good : List Slot → List (List Nd) → Prop
  | _, [] => False
  | S, L :: r => Fits S L ∧ (match r with
    | [] => ∀ n ∈ L, LeafN n
    | M :: r' => (∀ n ∈ L, MidN n) ∧ Good (slots S L) (M :: r'))
theorem good_leaf {S : List Slot} {L : List Nd} : Good S [L] ↔ Fits S L ∧ ∀ n ∈ L, LeafN n := by rw [Good]
theorem good_mid {S : List Slot} {L M : List Nd} {r : List (List Nd)} : Good S (L :: M :: r) ↔ Fits S L ∧ (∀ n ∈ L, MidN n) ∧ Good (slots S L) (M :: r) := by rw [Good]
theorem Fits.length : ∀ {S : List Slot} {L : List Nd}, Fits S L → S.length = L.length
  | [], [], _ => rfl
  | _ :: S, _ :: L, h => by simp [Fits.length (S := S) (L := L) h.2]
  | [], _ :: _, h => h.elim
  | _ :: _, [], h => h.elim
theorem fits_append : ∀ {S T : List Slot} {L M : List Nd}, S.length = L.length → (Fits (S ++ T) (L ++ M) ↔ Fits S L ∧ Fits T M)
  | [], T, [], M, _ => by simp [Fits]
  | s :: S, T, n :: L, M, h => by
    show (_ ∧ Fits (S ++ T) (L ++ M)) ↔ (_ ∧ Fits S L) ∧ Fits T M
    rw [fits_append (by simpa using h)]
    exact and_assoc.symm
  | [], _, _ :: _, _, h => by simp at h
  | _ :: _, _, [], _, h => by simp at h
theorem slots_append : ∀ {S T : List Slot} {L M : List Nd}, S.length = L.length → slots (S ++ T) (L ++ M) = slots S L ++ slots T M
  | [], T, [], M, _ => by simp [slots]
  | s :: S, T, n :: L, M, h => by
    show nslots _ _ ++ slots (S ++ T) (L ++ M) = (nslots _ _ ++ slots S L) ++ slots T M
    rw [slots_append (by simpa using h), List.append_assoc]
  | [], _, _ :: _, _, h => by simp at h
  | _ :: _, _, [], _, h => by simp at h
theorem fits_cut {S : List Slot} {A C : List Nd} {n : Nd} (h : Fits S (A ++ n :: C)) : ∃ SA s SC, S = SA ++ s :: SC ∧ SA.length = A.length ∧ Fits SA A ∧ n.b = s.1 ∧ NodeOk n s.2 ∧ Fits SC C := by
  have hl := h.length
  rw [List.length_append, List.length_cons] at hl
  have e : S = S.take A.length ++ S.drop A.length := (List.take_append_drop _ _).symm
  have h1 : (S.take A.length).length = A.length := by rw [List.length_take]; omega
  rw [e, fits_append h1] at h
  match hd : S.drop A.length, h.2 with
  | s :: SC, h2 =>
    rw [hd] at e
    exact ⟨S.take A.length, s, SC, e, h1, h.1, h2.1.1, h2.1.2, h2.2⟩
  | [], h2 => exact h2.elim

/-! ### wider intervals -/
structure Wide (a b : Iv) : Prop where
  lo : ∀ k, inLo a.lo k → inLo b.lo k
  hi : ∀ k, inHi a.hi k → inHi b.hi k
theorem Wide.refl (a : Iv) : Wide a a := ⟨fun _ h => h, fun _ h => h⟩
theorem inIv.wide {a b : Iv} {k : ByteArray} (h : inIv a k) (w : Wide a b) : inIv b k := ⟨w.lo k h.1, w.hi k h.2⟩
theorem NodeOk.wide {n : Nd} {a b : Iv} (h : NodeOk n a) (w : Wide a b) : NodeOk n b := ⟨h.srt, fun x hx => (h.mem x hx).wide w⟩
def WideS : List Slot → List Slot → Prop
  | [], [] => True
  | s :: S, t :: T => (s.1 = t.1 ∧ Wide s.2 t.2) ∧ WideS S T
  | _, _ => False
theorem WideS.refl : ∀ S : List Slot, WideS S S
  | [] => trivial
  | _s :: S => ⟨⟨rfl, Wide.refl _⟩, WideS.refl S⟩
theorem WideS.append : ∀ {S T S' T' : List Slot}, WideS S S' → WideS T T' → WideS (S ++ T) (S' ++ T')
  | [], _T, [], _T', _, h => h
  | _s :: _S, _T, _s' :: _S', _T', h, g => ⟨h.1, WideS.append h.2 g⟩
  | [], _, _ :: _, _, h, _ => h.elim
  | _ :: _, _, [], _, h, _ => h.elim
theorem nslots_wide : ∀ (l : List It) {a b : Option ByteArray}, (∀ k, inHi a k → inHi b k) → WideS (nslots l a) (nslots l b)
  | [], _, _, _ => trivial
  | [_i], _a, _b, h => ⟨⟨rfl, ⟨fun _ g => g, h⟩⟩, trivial⟩
  | _i :: j :: r, _a, _b, h => ⟨⟨rfl, ⟨fun _ g => g, fun _ g => g⟩⟩, nslots_wide (j :: r) h⟩
theorem Fits.wide : ∀ {S T : List Slot} {L : List Nd}, Fits S L → WideS S T → Fits T L ∧ WideS (slots S L) (slots T L)
  | [], [], [], _, _ => ⟨trivial, trivial⟩
  | s :: S, t :: T, n :: L, h, w => by
    obtain ⟨h1, h2⟩ := Fits.wide h.2 w.2
    exact ⟨⟨⟨h.1.1.trans w.1.1, h.1.2.wide w.1.2⟩, h1⟩, (nslots_wide n.its w.1.2.hi).append h2⟩
  | [], _ :: _, _, _, w => w.elim
  | _ :: _, [], _, _, w => w.elim
  | [], [], _ :: _, h, _ => h.elim
  | _ :: _, _ :: _, [], h, _ => h.elim
theorem Good.wide : ∀ {ls : List (List Nd)} {S T : List Slot}, Good S ls → WideS S T → Good T ls
  | [], _, _, h, _ => h.elim
  | [L], S, T, h, w => by
    rw [good_leaf] at h ⊢
    exact ⟨(h.1.wide w).1, h.2⟩
  | L :: M :: r, S, T, h, w => by
    rw [good_mid] at h ⊢
    exact ⟨(h.1.wide w).1, h.2.1, Good.wide h.2.2 (h.1.wide w).2⟩
end Go.Proofs.Ytlpannicklkghaa
