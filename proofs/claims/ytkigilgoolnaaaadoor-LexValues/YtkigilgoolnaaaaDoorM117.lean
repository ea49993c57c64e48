/- Plain mathematics of layer 10: literals are one token each. -/
import Derived.Test.YtkigilgoolnaaaaDoorM116
import Derived.Test.YtkigilgoolnaaaaDoorM27
namespace Go.Proofs.YtkigilgoolnaaaaDoor
open Go Go.RowKit

/-- A source that is one piece. -/
theorem toks_one {c : UInt8} {l : List UInt8} {t : Tk} (h0 : skp false (c :: l) = 0) (hp : pieceN (c :: l) = (c :: l).length) (ht : tokR (c :: l) = (t, 0)) : Toks (c :: l) 0 [(t, 0), ((1, 0, ⟨#[]⟩), (c :: l).length)] := by
  have hs : skipL (c :: l) = c :: l := by rw [skipL, h0]; rfl
  have hpc : pce (c :: l) = c :: l := by rw [pce, hs, hp, List.take_length]
  have hr : rst (c :: l) = [] := by rw [rst, hs, hp, List.drop_length]
  have := Toks.more (l := c :: l) (a := 0) (t := t) (ts := [((1, 0, ⟨#[]⟩), (c :: l).length)]) (by rw [hs]; simp) (by rw [hpc]; exact ht) (by
    rw [hr, h0, hs, hp]
    have := Toks.fin (l := []) (a := (c :: l).length) rfl
    simpa [skp] using this)
  rw [h0] at this
  exact this
theorem toks_text {v : V3} (hr : V3.right v = true) (k : v.1 = 3) : Toks (lit v) 0 [((5, 0, v.2.2), 0), ((1, 0, ⟨#[]⟩), (lit v).length)] ∧ (lit v).length ≤ 1000 := by
  have hl : LitOf (lit v) v := ⟨hr, rfl⟩
  have hsz := (rt_text hr k).2
  have hlen : v.2.2.data.toList.length = v.2.2.size := by simp
  have hq := qbs_len v.2.2.data.toList
  rw [lit_text k, quo, List.cons_append] at hl ⊢
  refine ⟨toks_one ?_ ?_ ?_, ?_⟩
  · exact skp_here (by decide) (by decide) (Or.inl (by decide))
  · simp only [pieceN]
    rw [if_neg (by decide), if_pos (by decide), (txt_qbs _ []).1]
    simp [txtN]
    omega
  · rw [tokR_mark (by decide), parR_ok hl, if_pos rfl]
  · simp
    omega
theorem run_digit {c : UInt8} (h : 48 ≤ c.toNat ∧ c.toNat ≤ 57) : cls c = 4 := by
  unfold cls
  rw [if_neg (by omega), if_neg (by omega), if_pos h]
theorem runN_all : ∀ l : List UInt8, (∀ c ∈ l, runB c) → runN l = l.length
  | [], _ => rfl
  | c :: l, h => by
    simp only [runN, List.length_cons]
    rw [if_pos (h c (by simp)), runN_all l fun d hd => h d (by simp [hd])]
    omega
theorem toks_num {v : V3} (hr : V3.right v = true) (k : v.1 = 1) (h0 : 0 ≤ v.2.1) : Toks (lit v) 0 [((2, v.2.1, ⟨#[]⟩), 0), ((1, 0, ⟨#[]⟩), (lit v).length)] ∧ (lit v).length ≤ 1000 := by
  have hl : LitOf (lit v) v := ⟨hr, rfl⟩
  obtain ⟨h1, h2, h3⟩ := rt_num hr k
  have hlen := itoa_len h1 h2
  have hall : ∀ c ∈ Lib.itoa v.2.1, 48 ≤ c.toNat ∧ c.toNat ≤ 57 := by
    unfold Lib.itoa
    rw [if_neg (by omega)]
    exact (mg_dec _).2.2
  obtain ⟨c, l, e, _⟩ := itoa_head v.2.1
  rw [lit_int k] at hl ⊢
  rw [e] at hl hlen hall ⊢
  have hc := run_digit (hall c (by simp))
  refine ⟨toks_one ?_ ?_ ?_, by omega⟩
  · exact skp_here (by omega) (by omega) (Or.inl fun q => by rw [q] at hc; exact absurd hc (by decide))
  · simp only [pieceN]
    rw [if_pos (Or.inl (show runB c from Or.inl hc)), runN_all l fun d hd => Or.inl (run_digit (hall d (by simp [hd]))), List.length_cons]
    omega
  · rw [tokR_digit hc, parR_ok hl, if_pos rfl]
end Go.Proofs.YtkigilgoolnaaaaDoor
