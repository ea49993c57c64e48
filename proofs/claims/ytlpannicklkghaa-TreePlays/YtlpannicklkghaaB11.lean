/- Walks of layer 7: what turns where nodes turn; the memory of a tree. -/
import Derived.Test.YtlpannicklkghaaB10
import Derived.Test.YtlpannicklkghaaM84
import Derived.Test.YtlpannicklkghaaB7
namespace Go.Proofs.Ytlpannicklkghaa
open Go.RowKit

/-- The blocks of nodes, and what is new. -/
def zd (w : World) (D : List NX) (k : Nat) : Prop := (∃ x ∈ D, k = x.1.b ∨ x.1.v.ownBlock = some k) ∨ w.heap.size ≤ k
theorem zd_new (w : World) (D : List NX) : ∀ k, w.heap.size ≤ k → zd w D k := fun _ h => Or.inr h
theorem Hp.tight {w : World} {Z : Nat → Prop} {D : List NX} (h : Hp w Z D) : Hp w (zd w D) D := ⟨h.at_, fun x hx => Or.inl ⟨x, hx, Or.inl rfl⟩, fun x hx _ e => Or.inl ⟨x, hx, Or.inr e⟩, h.apart⟩
theorem Hp.zone {w : World} {Z : Nat → Prop} {D : List NX} (h : Hp w Z D) {k : Nat} (hk : zd w D k) : Z k ∨ w.heap.size ≤ k := by
  rcases hk with ⟨x, hx, rfl | e⟩ | hk
  · exact Or.inl (h.zb x hx)
  · exact Or.inl (h.zr x hx k e)
  · exact Or.inr hk
theorem zd_perm {w : World} {D D' : List NX} (p : D.Perm D') {k : Nat} (h : zd w D k) : zd w D' k := h.imp (fun ⟨x, hx, e⟩ => ⟨x, p.mem_iff.1 hx, e⟩) id
/-- What is no node and no row of items. -/
theorem Hp.out {w : World} {Z : Nat → Prop} {D : List NX} (h : Hp w Z D) {k : Nat} {o : Obj} (ho : w.heap[k]? = some o) (hn : ∀ cs fr, o ≠ .cells cs 74 fr) (hi : ∀ cs fr, o ≠ .cells cs 86 fr) : ¬ zd w D k := by
  rintro (⟨x, hx, rfl | e⟩ | hk)
  · have := (h.at_ x hx).cells
    rw [ho] at this
    exact hn _ _ (Option.some.inj this)
  · obtain ⟨_, ⟨e1, _⟩ | ⟨g, cap, cur, e1, _, hg, _⟩⟩ := (h.at_ x hx).row
    · rw [e1] at e; cases e
    · rw [e1] at e
      obtain rfl : g = k := by simpa [Value.ownBlock] using e
      rw [ho] at hg
      exact hi _ _ (Option.some.inj hg)
  · have := (Array.getElem?_eq_some_iff.1 ho).1
    omega
/-- Steps that turn nothing but blocks that are no cells. -/
theorem Hp.grown {w w' : World} {Z : Nat → Prop} {D : List NX} {row : Option Nat} (h : Hp w Z D) (hg : w.grownBy w' row) (hr : ∀ r, row = some r → ∃ o : Obj, w.heap[r]? = some o ∧ o.isCells = false) : Hp w' Z D := by
  have key : ∀ k cs t fr, w.heap[k]? = some (Obj.cells cs t fr) → w'.heap[k]? = w.heap[k]? := fun k cs t fr hk => hg.block k (Array.getElem?_eq_some_iff.1 hk).1 fun e => by
    obtain ⟨o, ho, hc⟩ := hr k e.symm
    rw [hk] at ho
    obtain rfl := Option.some.inj ho
    cases hc
  refine ⟨fun x hx => (h.at_ x hx).kept (key _ _ _ _ (h.at_ x hx).cells) fun k e => ?_, h.zb, h.zr, h.apart⟩
  obtain ⟨_, ⟨e1, _⟩ | ⟨g, cap, cur, e1, _, hg, _⟩⟩ := (h.at_ x hx).row
  · rw [e1] at e; cases e
  · rw [e1] at e
    obtain rfl : g = k := by simpa [Value.ownBlock] using e
    exact key _ _ _ _ hg
/-- Two nodes of neighbouring levels, ahead of all others. -/
def restTwo (pre post : List (List Nd)) (PA PC A C : List Nd) (pb nb : Nat) : List NX := allX pre ++ (linkN (some pb) PA ++ (linkN none PC ++ (linkN (some nb) A ++ (linkN none C ++ allX post))))
theorem perm_two (pre post : List (List Nd)) (PA PC A C : List Nd) (p n : Nd) : (allX (pre ++ (PA ++ p :: PC) :: (A ++ n :: C) :: post)).Perm ((p, hd PC none) :: (n, hd C none) :: restTwo pre post PA PC A C p.b n.b) := by
  refine (perm_one pre ((A ++ n :: C) :: post) PA PC p).trans (List.Perm.cons _ ?_)
  rw [allX_cons, linkN_append]
  show (allX pre ++ (linkN (some p.b) PA ++ (linkN none PC ++ ((linkN (some n.b) A ++ (n, hd C none) :: linkN none C) ++ allX post)))).Perm _
  unfold restTwo
  have := List.perm_middle (a := (n, hd C none)) (l₁ := allX pre ++ (linkN (some p.b) PA ++ (linkN none PC ++ linkN (some n.b) A))) (l₂ := linkN none C ++ allX post)
  simpa only [List.append_assoc, List.cons_append] using this
theorem perm_three (pre post : List (List Nd)) (PA PC A C : List Nd) (p n1 n2 : Nd) : (allX (pre ++ (PA ++ p :: PC) :: (A ++ n1 :: n2 :: C) :: post)).Perm ((p, hd PC none) :: (n1, some n2.b) :: (n2, hd C none) :: restTwo pre post PA PC A C p.b n1.b) := by
  refine (perm_two pre post PA PC A (n2 :: C) p n1).trans (List.Perm.cons _ (List.Perm.cons _ ?_))
  unfold restTwo
  show (allX pre ++ (linkN (some p.b) PA ++ (linkN none PC ++ (linkN (some n1.b) A ++ ((n2, hd C none) :: linkN none C ++ allX post))))).Perm _
  have := List.perm_middle (a := (n2, hd C none)) (l₁ := allX pre ++ (linkN (some p.b) PA ++ (linkN none PC ++ linkN (some n1.b) A))) (l₂ := linkN none C ++ allX post)
  simpa only [List.append_assoc, List.cons_append] using this
/-- The tree's own block. -/
structure TrAt (w : World) (t m n rb : Nat) : Prop where
  cells : w.heap[t]? = some (.cells #[.int .i64 (m : Int), .int .i64 (n : Int), .pointer (some ⟨rb, 0, none⟩)] 76 (0, 0))
theorem TrAt.lt {w : World} {t m n rb : Nat} (h : TrAt w t m n rb) : t < w.heap.size := (Array.getElem?_eq_some_iff.1 h.cells).1
theorem TrAt.c0 {w : World} {t m n rb : Nat} (h : TrAt w t m n rb) : w.cell? ⟨t, 0, none⟩ = some (.int .i64 (m : Int)) := by simp [World.cell?, h.cells]
theorem TrAt.c1 {w : World} {t m n rb : Nat} (h : TrAt w t m n rb) : w.cell? ⟨t, 1, none⟩ = some (.int .i64 (n : Int)) := by simp [World.cell?, h.cells]
theorem TrAt.c2 {w : World} {t m n rb : Nat} (h : TrAt w t m n rb) : w.cell? ⟨t, 2, none⟩ = some (.pointer (some ⟨rb, 0, none⟩)) := by simp [World.cell?, h.cells]
theorem TrAt.fz {w : World} {t m n rb : Nat} (h : TrAt w t m n rb) (o : Nat) : w.frozen? ⟨t, o, none⟩ = false := by simp [World.frozen?, h.cells]
theorem TrAt.kept {w w' : World} {t m n rb : Nat} (h : TrAt w t m n rb) (hk : w'.heap[t]? = w.heap[t]?) : TrAt w' t m n rb := ⟨hk.trans h.cells⟩
theorem TrAt.out {w : World} {Z : Nat → Prop} {D : List NX} {t m n rb : Nat} (h : TrAt w t m n rb) (hp : Hp w Z D) : ¬ zd w D t := hp.out h.cells (by intro cs fr e; cases e) (by intro cs fr e; cases e)
end Go.Proofs.Ytlpannicklkghaa
