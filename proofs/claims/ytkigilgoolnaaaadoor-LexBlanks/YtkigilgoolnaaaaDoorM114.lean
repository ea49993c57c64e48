/- Plain mathematics of layer 10: where tokens stand. -/
import Derived.Test.YtkigilgoolnaaaaDoorM113
namespace Go.Proofs.YtkigilgoolnaaaaDoor
open Go Go.RowKit

/-- A token's text, as its source has it. -/
def txOf (t : Tk) : List UInt8 := if t.1 = 6 then 58 :: t.2.2.data.toList else t.2.2.data.toList
theorem txOf_tok {p : List UInt8} {t : Tk} (h : tokR p = (t, 0)) (h1 : t.1 ≠ 1) (h2 : t.1 ≠ 2) (h5 : t.1 ≠ 5) : txOf t = p := by
  cases p with
  | nil => exact absurd (by rw [← (Prod.mk.inj h).1]) h1
  | cons c l =>
    simp only [tokR] at h
    repeat' split at h
    all_goals obtain ⟨rfl, hz⟩ := Prod.mk.inj h
    all_goals first | (exact absurd hz (by decide)) | skip
    · exact absurd rfl h2
    · simp [txOf, list_ofL]
    · simp [txOf, list_ofL]
    · rename_i h8 _
      simp [txOf, list_ofL, (cls_colon c).1 h8]
    · exact absurd rfl h5
    · simp [txOf, list_ofL]
/-- How tokens stand in a source. -/
def Pl (S : List UInt8) : List (Tk × Nat) → Prop
  | [] => False
  | [t] => t = ((1, 0, ⟨#[]⟩), S.length)
  | t :: u :: ts => t.2 < u.2 ∧ u.2 ≤ S.length ∧ 2 ≤ t.1.1 ∧ t.1.1 ≤ 7 ∧ (t.1.1 ≠ 2 → t.1.1 ≠ 5 → (txOf t.1) <+: S.drop t.2 ∧ t.2 + (txOf t.1).length ≤ u.2) ∧ Pl S (u :: ts)
theorem skipL_len (l : List UInt8) : (skipL l).length = l.length - skp false l := by simp [skipL]
theorem Toks.head {l : List UInt8} {a : Nat} {ts : List (Tk × Nat)} (h : Toks l a ts) : ∃ t us, ts = (t, a + skp false l) :: us := by
  cases h with
  | fin h => exact ⟨_, _, rfl⟩
  | more h1 h2 h3 => exact ⟨_, _, rfl⟩
theorem Toks.places {S l : List UInt8} {a : Nat} {ts : List (Tk × Nat)} (h : Toks l a ts) (hl : l = S.drop a) (ha : a ≤ S.length) : Pl S ts := by
  induction h with
  | @fin l a h =>
    have h1 := skp_le l false
    have h2 := skipL_len l
    rw [h] at h2
    have h3 : l.length = S.length - a := by rw [hl]; simp
    simp at h2
    show ((((1, 0, ⟨#[]⟩) : Tk), a + skp false l) : Tk × Nat) = ((1, 0, ⟨#[]⟩), S.length)
    congr 1
    omega
  | @more l a t ts h1 h2 h3 ih =>
    obtain ⟨c, q, hq, hp⟩ := pce_cons h1
    have hk := tokR_kind c (q.take (pieceN (c :: q) - 1)) (by rw [← hp, h2])
    rw [← hp, h2] at hk
    simp only at hk
    have hpos := pieceN_pos c q
    have hle := pieceN_le (skipL l)
    have hsl := skipL_len l
    have hsk := skp_le l false
    rw [← hq] at hpos
    have hL : l.length = S.length - a := by rw [hl]; simp
    have hr : rst l = S.drop (a + skp false l + pieceN (skipL l)) := by
      rw [rst, skipL, hl, List.drop_drop, List.drop_drop]
      congr 1
      omega
    have hi := ih hr (by omega)
    obtain ⟨u, us, rfl⟩ := h3.head
    have hs2 := skp_le (rst l) false
    have hrl : (rst l).length = S.length - (a + skp false l + pieceN (skipL l)) := by rw [hr]; simp
    refine ⟨by show a + skp false l < _; omega, by show _ ≤ S.length; omega, hk.1, hk.2, fun g2 g5 => ?_, hi⟩
    have ht := txOf_tok h2 (by omega) g2 g5
    show txOf t <+: S.drop (a + skp false l) ∧ a + skp false l + (txOf t).length ≤ _
    rw [ht]
    have hpl : (pce l).length = pieceN (skipL l) := by rw [pce, List.length_take]; omega
    refine ⟨?_, by omega⟩
    have : skipL l = S.drop (a + skp false l) := by rw [skipL, hl, List.drop_drop]
    rw [pce, this]
    exact List.take_prefix _ _
theorem Bad.within {l : List UInt8} {a p : Nat} {c : Int} (h : Bad l a p c) : a ≤ p ∧ p ≤ a + l.length := by
  induction h with
  | @here l a t c h1 h2 => have := skp_le l false; omega
  | @more l a p t c h1 h2 _ ih =>
    have h3 := skp_le l false
    have h4 := pieceN_le (skipL l)
    have h5 := skipL_len l
    have : (rst l).length = (skipL l).length - pieceN (skipL l) := by simp [rst]
    omega
theorem Pl.at {S : List UInt8} : ∀ {ts : List (Tk × Nat)} (_ : Pl S ts) (i : Nat) (h : i + 1 < ts.length), ts[i].2 < ts[i + 1].2 ∧ ts[i + 1].2 ≤ S.length ∧ 2 ≤ ts[i].1.1 ∧ ts[i].1.1 ≤ 7 ∧ (ts[i].1.1 ≠ 2 → ts[i].1.1 ≠ 5 → (txOf ts[i].1) <+: S.drop ts[i].2 ∧ ts[i].2 + (txOf ts[i].1).length ≤ ts[i + 1].2)
  | [], h, _, _ => h.elim
  | [t], _, i, h => by simp at h
  | t :: u :: ts, h, 0, _ => ⟨h.1, h.2.1, h.2.2.1, h.2.2.2.1, h.2.2.2.2.1⟩
  | t :: u :: ts, h, i + 1, hi => by
    have := Pl.at (ts := u :: ts) h.2.2.2.2.2 i (by simpa using hi)
    exact this
theorem Pl.last {S : List UInt8} : ∀ {ts : List (Tk × Nat)} (_ : Pl S ts), ∃ h : 0 < ts.length, ts[ts.length - 1] = ((1, 0, ⟨#[]⟩), S.length)
  | [], h => h.elim
  | [t], h => ⟨by simp, h⟩
  | t :: u :: ts, h => by
    obtain ⟨h1, h2⟩ := Pl.last (ts := u :: ts) h.2.2.2.2.2
    refine ⟨by simp, ?_⟩
    simp only [List.length_cons, Nat.add_sub_cancel] at h2 ⊢
    rw [List.getElem_cons_succ]
    exact h2
end Go.Proofs.YtkigilgoolnaaaaDoor
