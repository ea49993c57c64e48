/- Walks of layer 7: a tree with a zone of its own. -/
import Derived.Test.YtlpannicklkghaaB26
import Derived.Test.YtlpannicklkghaaB27
import Derived.Test.YtlpannicklkghaaM92
namespace Go.Proofs.Ytlpannicklkghaa
open Go.RowKit

/-- A tree in memory, all of it in Z, which begins at B. -/
structure TreeZ (w : World) (B : Nat) (Z : Nat → Prop) (t m : Nat) (l : List It) : Prop where
  is : ∃ ls, TreeIs w Z t m ls l
  lo : ∀ k, Z k → B ≤ k ∧ k < w.heap.size
  tz : Z t
theorem TreeZ.kept {w w' : World} {B : Nat} {Z : Nat → Prop} {t m : Nat} {l : List It} (h : TreeZ w B Z t m l) {Y : Nat → Prop} (ho : Only Y w w') (hy : ∀ k, Z k → ¬ Y k) : TreeZ w' B Z t m l := by
  obtain ⟨ls, h1⟩ := h.is
  exact ⟨⟨ls, h1.kept (fun k hk hz => ho.block k hk (hy k hz)) (ho.block t h1.lt (hy t h.tz))⟩, fun k hk => ⟨(h.lo k hk).1, Nat.lt_of_lt_of_le (h.lo k hk).2 ho.size⟩, h.tz⟩
theorem TreeZ.later {w w' : World} {B : Nat} {Z : Nat → Prop} {t m : Nat} {l : List It} (h : TreeZ w B Z t m l) (hb : Below w.heap.size w w') : TreeZ w' B Z t m l := h.kept (Y := fun _ => False) (Only.of hb) fun _ _ h => h
theorem TreeZ.below {w w' : World} {B C : Nat} {Z : Nat → Prop} {t m : Nat} {l : List It} (h : TreeZ w B Z t m l) (ho : Only Z w w') (hC : C ≤ B) : Below C w w' := ho.below (Nat.le_trans hC (by have := h.lo t h.tz; omega)) fun k hk hz => by have := (h.lo k hz).1; omega
theorem TreeZ.lt {w : World} {B : Nat} {Z : Nat → Prop} {t m : Nat} {l : List It} (h : TreeZ w B Z t m l) : B ≤ w.heap.size := by have := h.lo t h.tz; omega
/-- A tree that was made. -/
theorem TreeZ.of {w : World} {B : Nat} {t m : Nat} {ls : List (List Nd)} {l : List It} (h : TreeIs w (fun k => B ≤ k) t m ls l) (ht : B ≤ t) : TreeZ w B (fun k => B ≤ k ∧ k < w.heap.size) t m l := ⟨⟨ls, h.mono fun _ h1 h2 => ⟨h2, h1⟩⟩, fun _ h => h, ⟨ht, h.lt⟩⟩
/-- What a change of a tree leaves of it. -/
theorem TreeZ.step {w w' : World} {B : Nat} {Z : Nat → Prop} {t m : Nat} {l l' : List It} {ls' : List (List Nd)} (h : TreeZ w B Z t m l) (ho : Only (fun k => (Z k ∨ w.heap.size ≤ k) ∨ k = t) w w') (h' : TreeIs w' (fun k => Z k ∨ w.heap.size ≤ k) t m ls' l') : Only Z w w' ∧ ∃ Z', TreeZ w' B Z' t m l' ∧ ∀ k, Z' k → Z k ∨ w.heap.size ≤ k := by
  have hs := ho.size
  refine ⟨⟨ho.os, ho.tape, ho.output, ho.size, fun k hk hz => ho.block k hk ?_⟩, fun k => k < w'.heap.size ∧ (Z k ∨ w.heap.size ≤ k), ⟨⟨ls', h'.mono fun k h1 h2 => ⟨h1, h2⟩⟩, fun k hk => ⟨?_, hk.1⟩, ⟨h'.lt, Or.inl h.tz⟩⟩, fun k hk => hk.2⟩
  · rintro ((h1 | h1) | rfl)
    · exact hz h1
    · omega
    · exact hz h.tz
  · rcases hk.2 with h1 | h1
    · exact (h.lo k h1).1
    · exact Nat.le_trans h.lt h1
theorem TreeZ.wide {w : World} {B : Nat} {Z : Nat → Prop} {t m : Nat} {ls : List (List Nd)} {l : List It} (_ : TreeZ w B Z t m l) (h1 : TreeIs w Z t m ls l) : TreeIs w (fun k => Z k ∨ w.heap.size ≤ k) t m ls l := h1.mono fun _ _ hz => Or.inl hz
/-- Put. -/
theorem put_z (w : World) (B : Nat) (Z : Nat → Prop) (t m : Nat) (key val : ByteArray) (l : List It) (h : TreeZ w B Z t m l) (hm : 4 ≤ m) (hm2 : m ≤ 64) (hcnt : l.length ≤ 4000000000) (hks : key.size ≤ 281474976710656) (hvs : val.size ≤ 281474976710656) :
    Calls Try.prog 18 #[.pointer (some ⟨t, 0, none⟩), .string key, .string val] w fun e w' => e = .returned (.tuple #[.string (valL key l), .bool (foundL key l)]) ∧ Only Z w w' ∧ ∃ Z', TreeZ w' B Z' t m (putL key val l) ∧ ∀ k, Z' k → Z k ∨ w.heap.size ≤ k := by
  obtain ⟨ls, h1⟩ := h.is
  refine (tree_put w _ t m key val ls l (h.wide h1) (fun k hk => Or.inr hk) (by have := h1.low hm (by omega); omega) hm hm2 hcnt hks hvs).mono ?_
  rintro e w' ⟨rfl, ho, ls', ht'⟩
  exact ⟨rfl, h.step ho ht'⟩
/-- Get. -/
theorem get_z (w : World) (B : Nat) (Z : Nat → Prop) (t m : Nat) (key : ByteArray) (l : List It) (h : TreeZ w B Z t m l) (hm : 4 ≤ m) (hm2 : m ≤ 64) (hcnt : l.length ≤ 4000000000) (hv : ∀ y ∈ l, y.val.size ≤ 281474976710656) :
    Calls Try.prog 22 #[.pointer (some ⟨t, 0, none⟩), .string key] w fun e w' => Below w.heap.size w w' ∧ e = .returned (.tuple #[.string (valL key l), .bool (foundL key l)]) := by
  obtain ⟨ls, h1⟩ := h.is
  exact tree_get w Z t m key ls l h1 (by have := h1.low hm (by omega); omega) hm2 hv
/-- Len. -/
theorem len_z (w : World) (B : Nat) (Z : Nat → Prop) (t m : Nat) (l : List It) (h : TreeZ w B Z t m l) : Calls Try.prog 20 #[.pointer (some ⟨t, 0, none⟩)] w fun e w' => e = .returned (.int .i64 (l.length : Int)) ∧ w' = w := by
  obtain ⟨ls, h1⟩ := h.is
  exact tree_len w Z t m ls l h1
/-- List. -/
theorem list_z (w : World) (B : Nat) (Z : Nat → Prop) (t m : Nat) (frm to : ByteArray) (most : Int) (l : List It) (h : TreeZ w B Z t m l) (hm : 4 ≤ m) (hm2 : m ≤ 64) (hl : l.length ≤ 4000000000) (hs : ∀ y ∈ l, y.key.size ≤ 281474976710656 ∧ y.val.size ≤ 281474976710656) :
    Calls Try.prog 23 #[.pointer (some ⟨t, 0, none⟩), .string frm, .string to, .int .i64 most] w fun e w' => Below w.heap.size w w' ∧ ∃ v, e = .returned v ∧ w'.ownsRow w.heap.size 27 2 v (listL frm to most l).length (pc (listL frm to most l)) := by
  obtain ⟨ls, h1⟩ := h.is
  exact tree_list w Z t m frm to most ls l h1 hm hm2 hl hs
/-- Next. -/
theorem next_z (w : World) (B : Nat) (Z : Nat → Prop) (c t m : Nat) (frm : ByteArray) (l : List It) (hc : CurAt w c t frm) (h : TreeZ w B Z t m l) (hm : 4 ≤ m) (hm2 : m ≤ 64) (hl : l.length ≤ 4000000000) (hs : ∀ y ∈ l, y.key.size ≤ 281474976710656 ∧ y.val.size ≤ 281474976710656) :
    Calls Try.prog 25 #[.pointer (some ⟨c, 0, none⟩)] w fun e w' => Only (fun k => k = c) w w' ∧ e = .returned (nextV (l.drop (cntL frm l))) ∧ CurAt w' c t (nextF frm (l.drop (cntL frm l))) := by
  obtain ⟨ls, h1⟩ := h.is
  exact next_any w Z c t m frm ls l hc h1 hm hm2 hl hs
/-- New without pairs. -/
theorem newnil_z (w : World) (m : Nat) (hm : 4 ≤ m) (hm2 : m ≤ 64) : Calls Try.prog 11 #[.int .i64 (m : Int), .slice none 0 0] w fun e w' => Below w.heap.size w w' ∧ ∃ t, e = .returned (.tuple #[.pointer (some ⟨t, 0, none⟩), .int .i64 0]) ∧ w.heap.size ≤ t ∧ TreeZ w' w.heap.size (fun k => w.heap.size ≤ k ∧ k < w'.heap.size) t m [] := by
  refine (new_nil w m hm hm2).mono ?_
  rintro e w' ⟨rfl, rfl⟩
  refine ⟨((Below.refl _ _).alloc (Nat.le_refl _) _).alloc (by simp) _, _, rfl, by omega, TreeZ.of (made_tree w _ m fun k hk => hk) (by omega)⟩
/-- New. -/
theorem new_z (w : World) (m : Nat) (p : Option Addr) (cap : Nat) (l : List Pr) (hm : 4 ≤ m) (hm2 : m ≤ 64) (hr : PRow w p l) (hl : l.length ≤ 4000000000) (hs : ∀ x ∈ l, x.1.size ≤ 281474976710656 ∧ x.2.size ≤ 281474976710656) (hn : risB l = true) :
    Calls Try.prog 11 #[.int .i64 (m : Int), .slice p l.length cap] w fun e w' => Below w.heap.size w w' ∧ ∃ t, e = .returned (.tuple #[.pointer (some ⟨t, 0, none⟩), .int .i64 0]) ∧ w.heap.size ≤ t ∧ TreeZ w' w.heap.size (fun k => w.heap.size ≤ k ∧ k < w'.heap.size) t m (l.map itOf) := by
  refine (new_any w m p cap l hm hm2 hr hl hs hn).mono ?_
  rintro e w' ⟨hb, t, rfl, ht, ls, h⟩
  exact ⟨hb, t, rfl, ht, TreeZ.of h ht⟩
end Go.Proofs.Ytlpannicklkghaa
