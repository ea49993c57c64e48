/- Layer 8: a catalog that is kept in a variable while others are made. -/
import Derived.Test.YtkgkkcefnonejaaGreatT43
import Derived.Test.YtkgkkcefnonejaaGreatT45
namespace Go.Proofs.YtkgkkcefnonejaaGreat
open Go.RowKit

/-- The types of what lies within a catalog. -/
abbrev inCt : List TypeId := [46, 52, 62, 3, 64, 66, 9]
theorem CtO.keeps {w w' : World} {B : Nat} (hk : Keeps inCt B w w') (x : Ct) (vs : List Value) (h : CtO w B x vs) : CtO w' B x vs := by
  obtain ⟨v1, v2, e, h1, h2⟩ := h
  exact ⟨v1, v2, e, h1.keeps hk (by simp) (TbO.keeps (hk.sub (by simp))), h2.keeps hk (by simp) (PcO.keeps (hk.sub (by simp)))⟩
/-- The variable at Q holds this catalog; below Q all is as it was. -/
structure Va (w2 W : World) (Q : Nat) (a b : Value) (c : Ct) : Prop where
  at7 : W.heap[Q]? = some (.cells #[a, b] 25 (0, 0))
  own : CtO W (Q + 1) c [a, b]
  low : Below Q w2 W
theorem Va.later {w2 W W' : World} {Q : Nat} {a b : Value} {c : Ct} (h : Va w2 W Q a b c) (hb : Below W.heap.size W W') : Va w2 W' Q a b c :=
  ⟨heap_of h.at7 hb, h.own.later hb, h.low.trans (hb.mono (Nat.le_of_lt (Array.getElem?_eq_some_iff.1 h.at7).1))⟩
theorem Va.lt {w2 W : World} {Q : Nat} {a b : Value} {c : Ct} (h : Va w2 W Q a b c) : Q < W.heap.size := (Array.getElem?_eq_some_iff.1 h.at7).1
theorem Va.alloc {w2 W : World} {Q : Nat} {a b : Value} {c : Ct} (h : Va w2 W Q a b c) (o : Obj) : Va w2 (W.alloc o) Q a b c := h.later ((Below.refl _ _).alloc (Nat.le_refl _) _)
theorem Va.drew {w2 W : World} {Q : Nat} {a b : Value} {c : Ct} (h : Va w2 W Q a b c) : Va w2 W.drew Q a b c := h.later (Below.refl _ _).drew
/-- A store into another variable that holds a catalog. -/
theorem Va.set {w2 W : World} {Q : Nat} {a b : Value} {c : Ct} (h : Va w2 W Q a b c) {g : Nat} {cs : Array Value} (hg : W.heap[g]? = some (.cells cs 25 (0, 0))) (hq : Q < g) (o : Nat) (u : Value) : Va w2 (W.setCell ⟨g, o, none⟩ u) Q a b c :=
  ⟨(Below.heap_setCell _ _ _ _ (by show ¬ Q = g; omega)).trans h.at7, CtO.keeps (Keeps.typed (Keeps.of (Below.refl _ _)) hg (by decide) o u) _ _ h.own, h.low.setCell (p := ⟨g, o, none⟩) (by show Q ≤ g; omega) u⟩
theorem own_set {W : World} {B : Nat} {c : Ct} {vs : List Value} (h : CtO W B c vs) {g : Nat} {cs : Array Value} (hg : W.heap[g]? = some (.cells cs 25 (0, 0))) (o : Nat) (u : Value) : CtO (W.setCell ⟨g, o, none⟩ u) B c vs :=
  CtO.keeps (Keeps.typed (Keeps.of (Below.refl _ _)) hg (by decide) o u) _ _ h
/-- What came back is stored. -/
theorem var_set {W : World} {g : Nat} {x y : Value} (hg : W.heap[g]? = some (.cells #[x, y] 25 (0, 0))) (u v : Value) : ((W.setCell ⟨g, 0, none⟩ u).setCell ⟨g, 1, none⟩ v).heap[g]? = some (.cells #[u, v] 25 (0, 0)) := by
  have h1 := heap_setCell_at (i := 0) hg u
  have h2 := heap_setCell_at (i := 1) h1 v
  simpa using h2
/-- The variable holds this catalog, another one at q holds that; below Q all is as it was. -/
structure Gr (w2 W : World) (Q q : Nat) (a b u v : Value) (c d : Ct) : Prop where
  one : Va w2 W Q a b c
  at9 : W.heap[q]? = some (.cells #[u, v] 25 (0, 0))
  own : CtO W (Q + 1) d [u, v]
theorem Gr.later {w2 W W' : World} {Q q : Nat} {a b u v : Value} {c d : Ct} (h : Gr w2 W Q q a b u v c d) (hb : Below W.heap.size W W') : Gr w2 W' Q q a b u v c d :=
  ⟨h.one.later hb, heap_of h.at9 hb, h.own.later hb⟩
theorem Gr.start {w2 W : World} {Q q : Nat} {a b u v x y : Value} {c d : Ct} (h : Va w2 W Q a b c) (hq : Q < q) (hg : W.heap[q]? = some (.cells #[x, y] 25 (0, 0))) (ho : CtO W (Q + 1) d [u, v]) : Gr w2 ((W.setCell ⟨q, 0, none⟩ u).setCell ⟨q, 1, none⟩ v) Q q a b u v c d :=
  ⟨(h.set hg hq 0 u).set (heap_setCell_at hg u) hq 1 v, var_set hg u v, own_set (own_set ho hg 0 u) (heap_setCell_at hg u) 1 v⟩
/-- What was read back is the variable's. -/
theorem Va.close {w2 W : World} {Q : Nat} {a b u' v' : Value} {c e : Ct} (h : Va w2 W Q a b c) (ho : CtO W (Q + 1) e [u', v']) (o : Obj) : Va w2 (((W.setCell ⟨Q, 0, none⟩ u').setCell ⟨Q, 1, none⟩ v').alloc o) Q u' v' e := by
  have k := h.at7
  have h1 : Va w2 ((W.setCell ⟨Q, 0, none⟩ u').setCell ⟨Q, 1, none⟩ v') Q u' v' e := ⟨var_set k u' v', own_set (own_set ho k 0 u') (heap_setCell_at k u') 1 v', (h.low.setCell (p := ⟨Q, 0, none⟩) (Nat.le_refl _) _).setCell (p := ⟨Q, 1, none⟩) (Nat.le_refl _) _⟩
  exact h1.alloc o
end Go.Proofs.YtkgkkcefnonejaaGreat
