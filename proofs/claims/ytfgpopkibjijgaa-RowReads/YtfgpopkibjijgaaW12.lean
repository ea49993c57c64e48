/- Walks of layer 1, twelfth part: a text as a literal. -/
import Derived.Test.YtfgpopkibjijgaaW11
import Derived.Laws.IdiomStrings
namespace Go.Proofs.Ytfgpopkibjijgaa
open Go.RowKit

/-- What is owned, as a slice of bytes; 'string(b)' of it. -/
theorem own_string {w : World} {B n : Nat} {v : Value} {xs : List UInt8} (h : w.ownsRow B 5 1 v n (bv xs)) (hn : 0 < n) :
    ∃ g cap, v = .slice (some ⟨g, 0, none⟩) n cap ∧ (convert 40 9 (.slice (some ⟨g, 0, none⟩) n cap)).run Try.prog w = .ok (.string ⟨xs.toArray⟩) w := by
  have hc := fun g => h.cells (g := g)
  obtain ⟨hl, ⟨_, h0⟩ | ⟨g, cap, cur, rfl, _, _, _, _, _, _⟩⟩ := h
  · omega
  · rw [bv_length] at hl
    refine ⟨g, cap, rfl, ?_⟩
    have hn' : n = xs.length := by omega
    subst hn'
    refine run_convert_bytes_back w 40 9 5 ⟨g, 0, none⟩ cap xs Try.underlying40 Try.underlying5 Try.underlying9 ?_
    intro j hj
    exact hc g rfl j _ (by simp [bv, hj])

end Go.Proofs.Ytfgpopkibjijgaa
