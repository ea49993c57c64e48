/- Layer 4, without the program: what a crash leaves of each file. -/
import Derived.Test.YtejbelbfmchadaaM47
namespace Go.Proofs.Ytejbelbfmchadaa
open Go

/-- A file ahead of a crash and behind it. -/
structure Cr (p q : Nm × Fl) : Prop where
  name : q.1 = p.1
  safe : q.2.2 = q.2.1.length
  le : p.2.2 ≤ p.2.1.length
  less : ∃ n, p.2.2 ≤ n ∧ n ≤ p.2.1.length ∧ q.2.1 = p.2.1.take n
theorem keeps_le (k : Int) (n : Nat) : keeps k n ≤ n := by
  unfold keeps
  omega
theorem cr_one (ks : List Int) (p : Nm × Fl) (h : p.2.2 ≤ p.2.1.length) : Cr p (crashOne ks p) := by
  by_cases ht : 0 < p.2.1.length - p.2.2
  · rw [(crashOne_tail ht).1]
    have hk := keeps_le (ks.headD 0) (p.2.1.length - p.2.2)
    refine ⟨rfl, ?_, h, _, Nat.le_add_right _ (keeps (ks.headD 0) (p.2.1.length - p.2.2)), by omega, rfl⟩
    show p.2.2 + keeps (ks.headD 0) (p.2.1.length - p.2.2) = (p.2.1.take _).length
    rw [List.length_take]
    omega
  · rw [(crashOne_none ht).1]
    exact ⟨rfl, rfl, h, p.2.1.length, h, Nat.le_refl _, by simp⟩
theorem cr_all : ∀ (ks : List Int) (fs : Fs), (∀ p ∈ fs, p.2.2 ≤ p.2.1.length) → ∀ i (h : i < fs.length) (h' : i < (crashL ks fs).length), Cr fs[i] (crashL ks fs)[i]
  | ks, p :: r, hs, 0, _, _ => by
    simp only [crashL_cons, List.getElem_cons_zero]
    exact cr_one ks p (hs p (by simp))
  | ks, p :: r, hs, i + 1, h, h' => by
    simp only [crashL_cons, List.getElem_cons_succ]
    exact cr_all (restOne ks p) r (fun q hq => hs q (List.mem_cons_of_mem _ hq)) i (by simpa using h) _
theorem crash_again : ∀ (ks : List Int) (fs : Fs), (∀ p ∈ fs, p.2.2 = p.2.1.length) → crashL ks fs = fs
  | ks, [], _ => rfl
  | ks, p :: r, hs => by
    have hp := hs p (by simp)
    rw [crashL_cons, (crashOne_none (by omega)).1, (crashOne_none (by omega)).2, crash_again ks r (fun q hq => hs q (List.mem_cons_of_mem _ hq))]
    obtain ⟨n, d, s⟩ := p
    simp only at hp
    rw [hp]
theorem crash_twice {st : St} (ks : List Int) (h : OKs st) : (crashR (crashR st ks) ks).fs = crashL ks st.fs :=
  crash_again ks _ (crashL_safe ks st.fs h.files.safe)
end Go.Proofs.Ytejbelbfmchadaa
