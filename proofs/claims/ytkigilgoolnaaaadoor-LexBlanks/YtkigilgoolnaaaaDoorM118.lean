/- Plain mathematics of layer 10: blanks and remarks between tokens. -/
import Derived.Test.YtkigilgoolnaaaaDoorM116
namespace Go.Proofs.YtkigilgoolnaaaaDoor
open Go Go.RowKit

theorem runN_pre : ∀ (q r : List UInt8), runN (q ++ r) = q.length → (∀ y, runN (q ++ y) = q.length + runN y) ∧ runN r = 0
  | [], r, h => ⟨fun y => by simp, by simpa using h⟩
  | c :: q, r, h => by
    simp only [List.cons_append, runN, List.length_cons] at h ⊢
    by_cases hc : runB c
    · rw [if_pos hc] at h
      obtain ⟨h1, h2⟩ := runN_pre q r (by omega)
      refine ⟨fun y => ?_, h2⟩
      rw [if_pos hc, h1 y]
      omega
    · rw [if_neg hc] at h
      omega
theorem runN_head {r y : List UInt8} (h : runN r = 0) (hy : y.head? = r.head?) : runN y = 0 := by
  cases y with
  | nil => rfl
  | cons d y =>
    cases r with
    | nil => simp at hy
    | cons e r =>
      simp at hy
      subst hy
      simp only [runN] at h ⊢
      by_cases hd : runB d
      · rw [if_pos hd] at h; omega
      · rw [if_neg hd]
theorem txtN_next : ∀ (q r y : List UInt8) (b : Bool), txtN b (q ++ r) = q.length → y.head? = r.head? → txtN b (q ++ y) = q.length
  | [], [], y, b, _, hy => by
    have : y = [] := by simpa using hy
    subst this
    cases b <;> rfl
  | [], d :: r, y, false, h, hy => by
    simp only [List.nil_append, txtN, List.length_nil] at h
    omega
  | [], d :: r, y, true, h, hy => by
    simp only [List.nil_append, txtN, List.length_nil] at h ⊢
    cases y with
    | nil => simp at hy
    | cons e y =>
      simp at hy
      subst hy
      simp only [txtN]
      by_cases hc : e = 39
      · rw [if_pos hc] at h; omega
      · rw [if_neg hc]
  | c :: q, r, y, false, h, hy => by
    simp only [List.cons_append, txtN, List.length_cons] at h ⊢
    rw [txtN_next q r y _ (by omega) hy]
    omega
  | c :: q, r, y, true, h, hy => by
    simp only [List.cons_append, txtN, List.length_cons] at h ⊢
    by_cases hc : c = 39
    · rw [if_pos hc] at h ⊢
      rw [txtN_next q r y _ (by omega) hy]
      omega
    · rw [if_neg hc] at h
      omega
theorem txtN_cut : ∀ (q r : List UInt8) (b : Bool), txtN b (q ++ r) = q.length → txtN b q = q.length
  | [], r, b, _ => by cases b <;> rfl
  | c :: q, r, false, h => by
    simp only [List.cons_append, txtN, List.length_cons] at h ⊢
    rw [txtN_cut q r _ (by omega)]
    omega
  | c :: q, r, true, h => by
    simp only [List.cons_append, txtN, List.length_cons] at h ⊢
    by_cases hc : c = 39
    · rw [if_pos hc] at h ⊢
      rw [txtN_cut q r _ (by omega)]
      omega
    · rw [if_neg hc] at h
      omega
theorem sgnN_next {c : UInt8} {q r y : List UInt8} (h : sgnN ((c :: q) ++ r) = (c :: q).length) (hy : y.head? = r.head?) : sgnN ((c :: q) ++ y) = (c :: q).length := by
  cases q with
  | nil =>
    cases y with
    | nil => simp [sgnN]
    | cons d y =>
      cases r with
      | nil => simp at hy
      | cons e r =>
        simp at hy
        subst hy
        exact h
  | cons d q => exact h
theorem sgnN_cut {c : UInt8} {q r : List UInt8} (h : sgnN ((c :: q) ++ r) = (c :: q).length) : sgnN (c :: q) = (c :: q).length := by
  cases q with
  | nil => simp [sgnN]
  | cons d q => exact h
/-- A piece, with what begins alike behind it. -/
theorem pieceN_next {c : UInt8} {q r y : List UInt8} (h : pieceN ((c :: q) ++ r) = (c :: q).length) (hy : y.head? = r.head?) : pieceN ((c :: q) ++ y) = (c :: q).length := by
  have hs := @sgnN_next c q r y
  simp only [List.cons_append, pieceN, List.length_cons] at h hs ⊢
  by_cases h1 : runB c ∨ cls c = 8
  · rw [if_pos h1] at h ⊢
    obtain ⟨e1, e2⟩ := runN_pre q r (by omega)
    rw [e1, runN_head e2 hy]
    omega
  · rw [if_neg h1] at h ⊢
    by_cases h2 : cls c = 9
    · rw [if_pos h2] at h ⊢
      rw [txtN_next q r y false (by omega) hy]
      omega
    · rw [if_neg h2] at h ⊢
      by_cases h3 : cls c = 10
      · rw [if_pos h3] at h ⊢
        exact hs h hy
      · rw [if_neg h3] at h ⊢
        exact h
theorem pieceN_cut {c : UInt8} {q r : List UInt8} (h : pieceN ((c :: q) ++ r) = (c :: q).length) : pieceN (c :: q) = (c :: q).length := by
  have hs := @sgnN_cut c q r
  simp only [List.cons_append, pieceN, List.length_cons] at h hs ⊢
  by_cases h1 : runB c ∨ cls c = 8
  · rw [if_pos h1] at h ⊢
    obtain ⟨e1, e2⟩ := runN_pre q r (by omega)
    have := e1 []
    rw [List.append_nil] at this
    rw [this]
    simp [runN]
    omega
  · rw [if_neg h1] at h ⊢
    by_cases h2 : cls c = 9
    · rw [if_pos h2] at h ⊢
      rw [txtN_cut q r false (by omega)]
      omega
    · rw [if_neg h2] at h ⊢
      by_cases h3 : cls c = 10
      · rw [if_pos h3] at h ⊢
        exact hs h
      · rw [if_neg h3] at h ⊢
        exact h
theorem skp_head {c : UInt8} {q r y : List UInt8} (h : skp false ((c :: q) ++ r) = 0) (hy : y.head? = r.head? ∨ ∃ d m, y = d :: m ∧ gapB d) : skp false ((c :: q) ++ y) = 0 := by
  simp only [List.cons_append, skp] at h ⊢
  by_cases h1 : cls c = 2 ∨ cls c = 3
  · rw [if_pos h1] at h; omega
  · rw [if_neg h1] at h ⊢
    by_cases h2 : c = 45 ∧ (q ++ r).head? = some 45
    · rw [if_pos h2] at h; omega
    · rw [if_neg]
      rintro ⟨g1, g2⟩
      cases q with
      | nil =>
        rcases hy with hy | ⟨d, m, rfl, hd⟩
        · exact h2 ⟨g1, by simpa [hy] using g2⟩
        · simp at g2
          rcases hd with rfl | rfl | rfl <;> exact absurd g2 (by decide)
      | cons e q => exact h2 ⟨g1, by simpa using g2⟩
/-- What may be put between. -/
def putsL : List (List UInt8) := [[32], [10], [9, 32], [32, 45, 45, 32, 120, 33, 10], [32, 45, 45, 10]]
theorem skp_blank {c : UInt8} {l : List UInt8} (h : cls c = 2 ∨ cls c = 3) : skp false (c :: l) = 1 + skp false l := by simp only [skp]; rw [if_pos h]
theorem put_skp {p : List UInt8} (h : p ∈ putsL) (y : List UInt8) : skp false (p ++ y) = p.length + skp false y := by
  simp only [putsL, List.mem_cons, List.not_mem_nil, or_false] at h
  rcases h with rfl | rfl | rfl | rfl | rfl
  · simp only [List.cons_append, List.nil_append]
    rw [skp_blank (by decide)]
    rfl
  · simp only [List.cons_append, List.nil_append]
    rw [skp_blank (by decide)]
    rfl
  · simp only [List.cons_append, List.nil_append]
    rw [skp_blank (by decide), skp_blank (by decide)]
    simp
    omega
  · simp only [List.cons_append, List.nil_append]
    rw [skp_blank (by decide)]
    simp only [skp]
    rw [if_neg (by decide), if_pos (by simp), if_neg (by decide), if_neg (by decide), if_neg (by decide), if_neg (by decide), if_pos trivial]
    simp
    omega
  · simp only [List.cons_append, List.nil_append]
    rw [skp_blank (by decide)]
    simp only [skp]
    rw [if_neg (by decide), if_pos (by simp), if_neg (by decide), if_pos trivial]
    simp
    omega
theorem put_all {p : List UInt8} (h : p ∈ putsL) (b : Bool) : skp b p = p.length := by
  have : ∀ q ∈ putsL, ∀ b, skp b q = q.length := by decide +kernel
  exact this p h b
theorem put_head {p : List UInt8} (h : p ∈ putsL) : ∃ d m, p = d :: m ∧ gapB d := by
  simp only [putsL, List.mem_cons, List.not_mem_nil, or_false] at h
  rcases h with rfl | rfl | rfl | rfl | rfl
  · exact ⟨_, _, rfl, Or.inl rfl⟩
  · exact ⟨_, _, rfl, Or.inr (Or.inr rfl)⟩
  · exact ⟨_, _, rfl, Or.inr (Or.inl rfl)⟩
  · exact ⟨_, _, rfl, Or.inl rfl⟩
  · exact ⟨_, _, rfl, Or.inl rfl⟩
theorem put_len {p : List UInt8} (h : p ∈ putsL) : p.length ≤ 7 := by
  have : ∀ q ∈ putsL, q.length ≤ 7 := by decide +kernel
  exact this p h
theorem skp_tail {p : List UInt8} (hp : ∀ b, skp b p = p.length) : ∀ (l : List UInt8) (b : Bool), skp b l = l.length → skp b (l ++ p) = l.length + p.length
  | [], b, _ => by rw [List.nil_append, hp b]; simp
  | c :: l, true, h => by
    simp only [skp, List.length_cons, List.cons_append] at h ⊢
    by_cases hc : c = 10
    · rw [if_pos hc] at h ⊢
      rw [skp_tail hp l false (by omega)]
      omega
    · rw [if_neg hc] at h ⊢
      rw [skp_tail hp l true (by omega)]
      omega
  | c :: l, false, h => by
    simp only [skp, List.length_cons, List.cons_append] at h ⊢
    by_cases hc : cls c = 2 ∨ cls c = 3
    · rw [if_pos hc] at h ⊢
      rw [skp_tail hp l false (by omega)]
      omega
    · rw [if_neg hc] at h ⊢
      by_cases hd : c = 45 ∧ l.head? = some 45
      · rw [if_pos hd] at h
        have hne : (l ++ p).head? = some 45 := by
          cases l with
          | nil => simp at hd
          | cons d l => simpa using hd.2
        rw [if_pos ⟨hd.1, hne⟩, skp_tail hp l true (by omega)]
        omega
      · rw [if_neg hd] at h
        omega
/-- A source with something put ahead of each token. -/
def outL (S : List UInt8) : Nat → List (Tk × Nat) → List (List UInt8) → List UInt8
  | f, t :: ts, p :: ps => (S.drop f).take (t.2 - f) ++ (p ++ outL S t.2 ts ps)
  | f, _, _ => S.drop f
theorem outL_split {S : List UInt8} {f n : Nat} {t : Tk × Nat} {ts : List (Tk × Nat)} {p : List UInt8} {ps : List (List UInt8)} (h : f + n ≤ t.2) : outL S f (t :: ts) (p :: ps) = (S.drop f).take n ++ outL S (f + n) (t :: ts) (p :: ps) := by
  simp only [outL]
  rw [← List.append_assoc ((S.drop f).take n)]
  congr 1
  have e : t.2 - f = n + (t.2 - (f + n)) := by omega
  rw [e, List.take_add, List.drop_drop]
theorem Toks.puts {S l : List UInt8} {a : Nat} {ts : List (Tk × Nat)} (h : Toks l a ts) (hl : l = S.drop a) (ha : a ≤ S.length) : ∀ ps : List (List UInt8), ps.length = ts.length → (∀ p ∈ ps, p ∈ putsL) → ∀ a', ∃ us, Toks (outL S a ts ps) a' us ∧ us.map (·.1) = ts.map (·.1) ∧ ((outL S a ts ps).head? = l.head? ∨ ∃ d m, outL S a ts ps = d :: m ∧ gapB d) := by
  induction h with
  | @fin l a h =>
    intro ps hps hall a'
    obtain ⟨p, rfl⟩ : ∃ p, ps = [p] := by
      cases ps with
      | nil => simp at hps
      | cons p ps =>
        cases ps with
        | nil => exact ⟨p, rfl⟩
        | cons q ps => simp at hps
    have hp := hall p (by simp)
    have h1 := skp_le l false
    have h2 := skipL_len l
    rw [h] at h2
    simp at h2
    have hk : skp false l = l.length := by omega
    have hL : l.length = S.length - a := by rw [hl]; simp
    have ho : outL S a [(((1, 0, ⟨#[]⟩) : Tk), a + skp false l)] [p] = l ++ p := by
      simp only [outL]
      rw [show a + skp false l - a = l.length from by omega, ← hl, List.take_length, hk, List.drop_eq_nil_of_le (by omega), List.append_nil]
    rw [ho]
    have hsk := skp_tail (put_all hp) l false hk
    have hs : skipL (l ++ p) = [] := by
      rw [skipL, hsk, List.drop_eq_nil_of_le (by simp)]
    refine ⟨_, Toks.fin hs, rfl, ?_⟩
    cases l with
    | nil =>
      obtain ⟨d, m, rfl, hd⟩ := put_head hp
      exact Or.inr ⟨d, m, rfl, hd⟩
    | cons c l => exact Or.inl rfl
  | @more l a t ts h1 h2 h3 ih =>
    intro ps hps hall a'
    cases ps with
    | nil => simp at hps
    | cons p ps =>
      have hp := hall p (by simp)
      have hsk := skp_le l false
      have hsl := skipL_len l
      have hle := pieceN_le (skipL l)
      have hL : l.length = S.length - a := by rw [hl]; simp
      obtain ⟨n, hn⟩ : ∃ n, pieceN (skipL l) = n := ⟨_, rfl⟩
      obtain ⟨g, hg⟩ : ∃ g, skp false l = g := ⟨_, rfl⟩
      have hr : rst l = S.drop (a + g + n) := by
        rw [rst, hn, skipL, hg, hl, List.drop_drop, List.drop_drop, Nat.add_assoc]
      obtain ⟨u, us, rfl⟩ := h3.head
      cases ps with
      | nil => simp at hps
      | cons p2 ps =>
        rw [hg, hn] at ih h3
        rw [hg, hn] at hps ⊢
        obtain ⟨vs, i1, i2, i3⟩ := ih hr (by omega) (p2 :: ps) (by simpa using hps) (fun q hq => hall q (by simp at hq ⊢; right; exact hq)) (a' + g + p.length + n)
        obtain ⟨y, hy⟩ : ∃ y, outL S (a + g + n) ((u, a + g + n + skp false (rst l)) :: us) (p2 :: ps) = y := ⟨_, rfl⟩
        have hsp : outL S (a + g) ((u, a + g + n + skp false (rst l)) :: us) (p2 :: ps) = pce l ++ y := by
          rw [outL_split (n := n) (by show a + g + n ≤ a + g + n + _; omega), hy]
          congr 1
          rw [pce, hn, skipL, hg, hl, List.drop_drop]
        have ho : outL S a ((t, a + g) :: (u, a + g + n + skp false (rst l)) :: us) (p :: p2 :: ps) = l.take g ++ (p ++ (pce l ++ y)) := by
          rw [outL]
          simp only
          rw [hsp, show a + g - a = g from by omega, ← hl]
        rw [hy] at i1 i3
        rw [ho]
        obtain ⟨c, q, hq, hpq⟩ := pce_cons h1
        have hcut : skipL l = pce l ++ rst l := by rw [pce, rst]; exact (List.take_append_drop _ _).symm
        obtain ⟨z1, z2⟩ := skip_zero h1
        rw [hg] at z1
        obtain ⟨q', hq'⟩ : ∃ q', pce l = c :: q' := ⟨_, hpq⟩
        have hlen : (c :: q').length = n := by
          rw [← hq', pce, List.length_take]
          omega
        rw [hcut, hq'] at z2
        have hpn : pieceN ((c :: q') ++ rst l) = (c :: q').length := by rw [← hq', ← hcut, hq', hlen, hn]
        have hz : skp false ((c :: q') ++ y) = 0 := skp_head z2 i3
        have hpy : pieceN ((c :: q') ++ y) = (c :: q').length := by
          rcases i3 with i3 | ⟨d, m, rfl, hd⟩
          · exact pieceN_next hpn i3
          · have hc := pieceN_cut hpn
            rw [pieceN_gap hd (tok_closed (t := t) (by rw [hc, List.take_length, ← hq']; exact h2)), hc]
        have hk : skp false (l.take g ++ (p ++ (pce l ++ y))) = g + p.length := by
          rw [z1, put_skp hp, hq', hz]
          omega
        have hgl : (l.take g).length = g := by rw [List.length_take]; omega
        have hs2 : skipL (l.take g ++ (p ++ (pce l ++ y))) = pce l ++ y := by
          rw [skipL, hk, ← List.append_assoc, List.drop_left' (by rw [List.length_append, hgl])]
        have hp2 : pieceN (skipL (l.take g ++ (p ++ (pce l ++ y)))) = n := by rw [hs2, hq', hpy, hlen]
        have hpc : pce (l.take g ++ (p ++ (pce l ++ y))) = pce l := by
          rw [pce, hp2, hs2, List.take_left' (by rw [hq', hlen])]
        have hrs : rst (l.take g ++ (p ++ (pce l ++ y))) = y := by
          rw [rst, hp2, hs2, List.drop_left' (by rw [hq', hlen])]
        refine ⟨_, Toks.more (t := t) (by rw [hs2, hq']; simp) (by rw [hpc]; exact h2) (by rw [hrs, hp2, hk, show a' + (g + p.length) + n = a' + g + p.length + n from by omega]; exact i1), ?_, ?_⟩
        · simp only [List.map_cons, i2]
        · cases hlt : l.take g with
          | nil =>
            obtain ⟨d, m, rfl, hd⟩ := put_head hp
            exact Or.inr ⟨d, _, rfl, hd⟩
          | cons d m =>
            refine Or.inl ?_
            have : l = (d :: m) ++ l.drop g := by rw [← hlt]; exact (List.take_append_drop _ _).symm
            rw [this]
            rfl
def Inc : Nat → List (Tk × Nat) → Prop
  | _, [] => True
  | f, t :: ts => f ≤ t.2 ∧ Inc t.2 ts
theorem Pl.inc {S : List UInt8} : ∀ {t : Tk × Nat} {ts : List (Tk × Nat)}, Pl S (t :: ts) → Inc t.2 ts
  | _, [], _ => trivial
  | _, _ :: _, h => ⟨Nat.le_of_lt h.1, Pl.inc h.2.2.2.2.2⟩
theorem outL_len {S : List UInt8} : ∀ (ts : List (Tk × Nat)) (ps : List (List UInt8)) (f : Nat), Inc f ts → (∀ p ∈ ps, p.length ≤ 7) → (outL S f ts ps).length ≤ (S.drop f).length + 7 * ts.length
  | [], _, f, _, _ => by simp [outL]
  | t :: ts, [], f, _, _ => by simp [outL]
  | t :: ts, p :: ps, f, hi, h => by
    have h1 := outL_len (S := S) ts ps t.2 hi.2 fun q hq => h q (by simp [hq])
    have h2 := h p (by simp)
    have h3 := hi.1
    simp only [outL, List.length_append, List.length_take, List.length_drop, List.length_cons] at h1 ⊢
    omega
end Go.Proofs.YtkigilgoolnaaaaDoor
