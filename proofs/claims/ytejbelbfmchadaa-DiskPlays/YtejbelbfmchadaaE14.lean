/- Walks of layer 4: the program's disk and the document's side by side. -/
import Derived.Test.YtejbelbfmchadaaE13
namespace Go.Proofs.Ytejbelbfmchadaa
open Go.RowKit

/-- The program's disk at a, the document's at c: what may turn of the one is none of the other's; all of it lies from B on, and none of it in N. -/
structure Both (B : Nat) (N : Nat → Prop) (w : World) (a c : Nat) (sd sr : St) : Prop where
  base : B ≤ w.heap.size
  two : ∃ (Zd Zr : Nat → Prop) (v : Value), IsDisk w Zd a sd ∧ RefAt w Zr c sr v ∧ (∀ k, Zd k → Zr k → False) ∧ (∀ k, Zd k → B ≤ k ∧ k < w.heap.size) ∧ (∀ k, Zr k → B ≤ k ∧ k < w.heap.size) ∧ ∀ k, N k → k < w.heap.size ∧ ¬ Zd k ∧ ¬ Zr k

theorem Both.more {B : Nat} {N : Nat → Prop} {w w' : World} {a c : Nat} {sd sr : St} (h : Both B N w a c sd sr) (hb : Below w.heap.size w w') : Both B (fun k => N k ∨ (w.heap.size ≤ k ∧ k < w'.heap.size)) w' a c sd sr := by
  obtain ⟨h0, Zd, Zr, v, h1, h2, h3, h4, h5, h6⟩ := h
  have := hb.size
  refine ⟨by omega, Zd, Zr, v, h1.later hb, h2.later hb, h3, fun k hk => by have := h4 k hk; omega, fun k hk => by have := h5 k hk; omega, fun k hk => ?_⟩
  rcases hk with hk | hk
  · obtain ⟨g1, g2⟩ := h6 k hk
    exact ⟨by omega, g2⟩
  · exact ⟨hk.2, fun e => by have := h4 k e; omega, fun e => by have := h5 k e; omega⟩
theorem Both.less {B : Nat} {N N' : Nat → Prop} {w : World} {a c : Nat} {sd sr : St} (h : Both B N w a c sd sr) (hn : ∀ k, N' k → N k) : Both B N' w a c sd sr := by
  obtain ⟨h0, Zd, Zr, v, h1, h2, h3, h4, h5, h6⟩ := h
  exact ⟨h0, Zd, Zr, v, h1, h2, h3, h4, h5, fun k hk => h6 k (hn k hk)⟩
theorem Both.later {B : Nat} {N : Nat → Prop} {w w' : World} {a c : Nat} {sd sr : St} (h : Both B N w a c sd sr) (hb : Below w.heap.size w w') : Both B N w' a c sd sr := (h.more hb).less fun _ hk => Or.inl hk
theorem Both.kept {B : Nat} {N : Nat → Prop} {w w' : World} {a c : Nat} {sd sr : St} (h : Both B N w a c sd sr) (hs : w.heap.size ≤ w'.heap.size) (hk : ∀ k, B ≤ k → k < w.heap.size → w'.heap[k]? = w.heap[k]?) : Both B N w' a c sd sr := by
  obtain ⟨h0, Zd, Zr, v, h1, h2, h3, h4, h5, h6⟩ := h
  exact ⟨by omega, Zd, Zr, v, h1.kept fun k hl hz => hk k (h4 k hz).1 hl, h2.kept fun k hl hz => hk k (h5 k hz).1 hl, h3, fun k hz => by have := h4 k hz; omega, fun k hz => by have := h5 k hz; omega, fun k hz => by have := h6 k hz; exact ⟨by omega, this.2⟩⟩
/-- What a step of the program's disk, of the document's, leaves of both. -/
def DStep (B : Nat) (N : Nat → Prop) (w : World) (a c : Nat) (sr : St) (Z : Nat → Prop) : Prop := ∀ w1 sd', IsDisk w1 Z a sd' → Only Z w w1 → Both B N w1 a c sd' sr ∧ Below B w w1 ∧ ∀ k, N k → w1.heap[k]? = w.heap[k]?
def RStep (B : Nat) (N : Nat → Prop) (w : World) (a c : Nat) (sd : St) (Z : Nat → Prop) : Prop := ∀ w1 sr', (∃ v', RefAt w1 Z c sr' v') → Only Z w w1 → Both B N w1 a c sd sr' ∧ Below B w w1 ∧ ∀ k, N k → w1.heap[k]? = w.heap[k]?
/-- A step of the program's disk. -/
theorem Both.disk {B : Nat} {N : Nat → Prop} {w : World} {a c : Nat} {sd sr : St} (h : Both B N w a c sd sr) :
    ∃ Z : Nat → Prop, IsDisk w Z a sd ∧ (∀ k, w.heap.size ≤ k → Z k) ∧ DStep B N w a c sr Z := by
  obtain ⟨h0, Zd, Zr, v, h1, h2, h3, h4, h5, h6⟩ := h
  refine ⟨fun k => Zd k ∨ w.heap.size ≤ k, h1.mono fun k _ hk => Or.inl hk, fun k hk => Or.inr hk, fun w1 sd' hd ho => ⟨?_, ho.below h0 fun k hk e => ?_, fun k hk => ho.block k (h6 k hk).1 fun e => ?_⟩⟩
  · have hs := ho.size
    refine ⟨by omega, fun k => (Zd k ∨ w.heap.size ≤ k) ∧ k < w1.heap.size, Zr, v, hd.mono fun k hk hz => ⟨hz, hk⟩, h2.kept fun k hk hz => ho.block k hk fun e => ?_, fun k e hz => ?_, fun k hk => ⟨?_, hk.2⟩, fun k hk => by have := h5 k hk; omega, fun k hk => ?_⟩
    · rcases e with e | e
      · exact h3 k e hz
      · have := h5 k hz; omega
    · rcases e.1 with e | e
      · exact h3 k e hz
      · have := h5 k hz; omega
    · rcases hk.1 with e | e
      · exact (h4 k e).1
      · omega
    · obtain ⟨g1, g2, g3⟩ := h6 k hk
      refine ⟨by omega, fun e => ?_, g3⟩
      rcases e.1 with e | e
      · exact g2 e
      · omega
  · rcases e with e | e
    · have := h4 k e; omega
    · omega
  · obtain ⟨g1, g2, _⟩ := h6 k hk
    rcases e with e | e
    · exact g2 e
    · omega
/-- A step of the document's. -/
theorem Both.ref {B : Nat} {N : Nat → Prop} {w : World} {a c : Nat} {sd sr : St} (h : Both B N w a c sd sr) :
    ∃ (Z : Nat → Prop) (v : Value), RefAt w Z c sr v ∧ (∀ k, w.heap.size ≤ k → Z k) ∧ (∀ k, Z k → B ≤ k) ∧ RStep B N w a c sd Z := by
  obtain ⟨h0, Zd, Zr, v, h1, h2, h3, h4, h5, h6⟩ := h
  have hZB : ∀ k, (Zr k ∨ w.heap.size ≤ k) → B ≤ k := fun k hk => by
    rcases hk with e | e
    · exact (h5 k e).1
    · omega
  refine ⟨fun k => Zr k ∨ w.heap.size ≤ k, v, h2.mono fun k _ hk => Or.inl hk, fun k hk => Or.inr hk, hZB, fun w1 sr' hr ho => ⟨?_, ho.below h0 fun k hk e => ?_, fun k hk => ho.block k (h6 k hk).1 fun e => ?_⟩⟩
  · obtain ⟨v', hr⟩ := hr
    have hs := ho.size
    refine ⟨by omega, Zd, fun k => (Zr k ∨ w.heap.size ≤ k) ∧ k < w1.heap.size, v', h1.kept fun k hk hz => ho.block k hk fun e => ?_, hr.mono fun k hk hz => ⟨hz, hk⟩, fun k hz e => ?_, fun k hk => by have := h4 k hk; omega, fun k hk => ⟨hZB k hk.1, hk.2⟩, fun k hk => ?_⟩
    · rcases e with e | e
      · exact h3 k hz e
      · have := h4 k hz; omega
    · rcases e.1 with e | e
      · exact h3 k hz e
      · have := h4 k hz; omega
    · obtain ⟨g1, g2, g3⟩ := h6 k hk
      refine ⟨by omega, g2, fun e => ?_⟩
      rcases e.1 with e | e
      · exact g3 e
      · omega
  · have := hZB k e; omega
  · obtain ⟨g1, _, g3⟩ := h6 k hk
    rcases e with e | e
    · exact g3 e
    · omega
theorem Both.ok {B : Nat} {N : Nat → Prop} {w : World} {a c : Nat} {sd sr : St} (h : Both B N w a c sd sr) : OKs sd := by
  obtain ⟨_, Zd, Zr, v, h1, _⟩ := h
  exact h1.ok
end Go.Proofs.Ytejbelbfmchadaa
