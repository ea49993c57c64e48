/- Walks of layer 8: places. -/
import Derived.Test.YtkgkkcefnonejaaGreatT4
namespace Go.Proofs.YtkgkkcefnonejaaGreat
open Go.RowKit

theorem below_only {w0 w1 w2 : World} {b : Nat} (h : Below w0.heap.size w0 w1) (ho : Only (fun k => k = b) w1 w2) (hb : w0.heap.size ≤ b) : Below w0.heap.size w0 w2 :=
  h.trans (ho.below h.size fun k hk e => by subst e; omega)
theorem only_of {Z : Nat → Prop} {w w' : World} (h : Below w.heap.size w w') : Only Z w w' := Only.of h
theorem heap_of {w w' : World} {x : Nat} {o : Obj} (h : w.heap[x]? = some o) (hb : Below w.heap.size w w') : w'.heap[x]? = some o := (hb.block _ (Array.getElem?_eq_some_iff.1 h).1).trans h
theorem heap_only {w w' : World} {x b : Nat} {o : Obj} (h : w.heap[x]? = some o) (hb : Only (fun k => k = b) w w') (hne : x ≠ b) : w'.heap[x]? = some o := (hb.block _ (Array.getElem?_eq_some_iff.1 h).1 hne).trans h

/-- A question after numbers in its box. -/
structure AskJ (w : World) (b x : Nat) (ks : List Int) : Prop where
  ex : ∃ p, w.heap[x]? = some (.cells #[.func (.func 144) #[] #[.pointer (some ⟨p, 0, none⟩)]] 147 (0, 0)) ∧ AskI w b p ks
theorem AskJ.later {w w' : World} {b x : Nat} {ks : List Int} (h : AskJ w b x ks) (hb : Below w.heap.size w w') : AskJ w' b x ks := by
  obtain ⟨p, h1, h2⟩ := h.ex
  exact ⟨p, heap_of h1 hb, h2.later hb⟩
theorem AskJ.ne {w : World} {b x : Nat} {ks : List Int} (h : AskJ w b x ks) {k : Nat} {cs : Array Value} {t : TypeId} {fr : Nat × Nat} (hk : w.heap[k]? = some (.cells cs t fr)) : k ≠ b := by
  obtain ⟨p, h1, h2⟩ := h.ex
  exact h2.ne hk

set_option maxHeartbeats 4000000 in
set_option maxRecDepth 100000 in
theorem pl1_any (n : Int) (m : Nat) (w : World) (x0 x1 b : Nat) (ks : List Int) (hm : m ≤ 1099511627776) (h0 : w.heap[x0]? = some (.cells #[.int .i64 (m : Int)] 3 (0, 0))) (h : AskJ w b x1 ks) (hk : ks.length ≤ 1000000) :
    Calls Tryz.prog 142 #[.int .i64 n, .pointer (some ⟨x0, 0, none⟩), .pointer (some ⟨x1, 0, none⟩)] w fun e w' => e = .returned (.bool (placeB m n && !decide (n ∈ ks))) ∧ (placeB m n = true → AskJ w' b x1 (ks ++ [n])) ∧ Only (fun k => k = b) w w' := by
  have HN : Hid (∀ {k : Nat} {cs : Array Value} {t : TypeId} {fr : Nat × Nat}, w.heap[k]? = some (.cells cs t fr) → k ≠ b) := h.ne
  obtain ⟨p, h1, h2⟩ := h.ex
  have H1 := Lib.hid h1
  have H2 := Lib.hid h2
  have c0 := cell_of_one h0
  have c1 := cell_of_one h1
  clear h1 h2 h
  have hfr : fromB 0 ((m : Int) - 1) n = placeB m n := rfl
  cases hn : placeB m n with
  | false =>
    rw [hn] at hfr
    go_enter Tryz.func142, Tryz.ntmps142
    go_wp2_with (first | (go_at_call 79; refine (from_any _ _ _ _).mono ?_; rintro e w' ⟨rfl, he⟩; rw [hfr, he]; clear he))
    go_ret
    exact ⟨rfl, fun h => (by cases h), Only.refl _ _⟩
  | true =>
    rw [hn] at hfr
    have hwf : (Lit.int .i64 n).wf = true := by
      simp only [placeB, Bool.and_eq_true, decide_eq_true_eq] at hn
      exact WalkArith.wf_i64 (by omega)
    go_enter Tryz.func142, Tryz.ntmps142
    go_wp2_with (first | (go_at_call 79; refine (from_any _ _ _ _).mono ?_; rintro e w' ⟨rfl, he⟩; rw [hfr, he]; clear he) | (go_at_call 144; refine (metI_any n w b p ks H2.out hk hwf).mono ?_; rintro e w' ⟨rfl, ha, hb⟩))
    go_ret
    exact ⟨ret_bool (by simp), fun _ => ⟨p, heap_only H1.out hb (HN.out H1.out), ha⟩, hb⟩

theorem mayPl_len {l : List Int} {m : Nat} (h : ¬ (1 ≤ l.length ∧ l.length ≤ 8)) : mayPl l m = false := by
  cases e : mayPl l m with
  | false => rfl
  | true =>
    simp only [mayPl, Bool.and_eq_true, decide_eq_true_eq] at e
    exact absurd e.1 h
theorem fromB_no {a b n : Nat} (h : ¬ (a ≤ n ∧ n ≤ b)) : fromB (a : Int) (b : Int) (n : Int) = false := by
  cases e : fromB (a : Int) (b : Int) (n : Int) with
  | false => rfl
  | true =>
    simp only [fromB, Bool.and_eq_true, decide_eq_true_eq] at e
    omega
theorem take_snoc {α : Type} (l : List α) (k : Nat) (h : k < l.length) : l.take k ++ [l[k]] = l.take (k + 1) := (List.take_succ_eq_append_getElem h).symm

set_option maxHeartbeats 4000000 in
set_option maxRecDepth 100000 in
theorem places_any (a : Option Addr) (cap : Nat) (l : List Int) (m : Nat) (w : World) (hm : m ≤ 1099511627776) (hr : RowR 1 IntR w a l) :
    Calls Tryz.prog 127 #[.slice a l.length cap, .int .i64 (m : Int)] w fun e w' => e = .returned (.bool (mayPl l m)) ∧ Below w.heap.size w w' := by
  have HR := Lib.hid hr
  clear hr
  by_cases hl : 1 ≤ l.length ∧ l.length ≤ 8
  · have hfr : fromB 1 8 (l.length : Int) = true := by simp [fromB]; omega
    have hl' : l.length ≤ 1000000 := by omega
    have HE : Hid (mayPl l m = allB l.length (fun i => ((l[i]?).any fun p => placeB m p) && newIn l i)) := by
      show mayPl l m = _
      simp [mayPl, hl.1, hl.2]
    go_enter Tryz.func127, Tryz.ntmps127
    go_wp2_with fail
    refine (unmetI_any _).mono ?_
    rintro e w1 ⟨p, b, rfl, ha, hb, hB⟩
    have hs := hb.size
    simp at hs hB
    have HB1 : Hid (Below w.heap.size w w1) := by
      show Below w.heap.size w w1
      (repeat (first | exact Below.refl _ _ | assumption | refine Below.drew ?_ | refine below_drewN ?_ _ | refine Below.alloc ?_ (by first | omega | (simp; done) | (simp; omega)) _ | refine Below.setCell ?_ (by first | omega | (simp; done) | (simp; omega)) _ | refine Below.trans ?_ (Below.mono (by assumption) (by first | omega | (simp; done) | (simp; omega)))))
    have HX : Hid (w1.heap[w.heap.size]? = some (.cells #[.int .i64 (m : Int)] 3 (0, 0))) := heap_of (heap_alloc_new w _) hb
    have HA := Lib.hid ha
    clear ha hb
    go_wp2_with (first
      | (go_at_call 79; refine (from_any _ _ _ _).mono ?_; rintro e w' ⟨rfl, he⟩; rw [hfr, he]; clear he)
      | (go_at_call 129; refine (evIntB_any w _ a cap l w.heap.size w1.heap.size (fun i => ((l[i]?).any fun p => placeB m p) && newIn l i) (fun k wr => wr.heap[w.heap.size]? = some (.cells #[.int .i64 (m : Int)] 3 (0, 0)) ∧ AskJ wr b w1.heap.size (l.take k)) hl' HR.out ?_ ?_ ?_ ?_).mono ?_))
    · exact ⟨heap_of HX.out ((Below.refl _ _).alloc (Nat.le_refl _) _), p, heap_alloc_new w1 _, HA.out.later ((Below.refl _ _).alloc (Nat.le_refl _) _)⟩
    · exact below_two HB1.out ((Below.refl _ _).alloc (Nat.le_refl _) _)
    · rintro k v1 v2 ⟨i1, i2⟩ hv
      exact ⟨heap_of i1 hv, i2.later hv⟩
    · rintro k hk v1 ⟨i1, i2⟩ hv
      refine (pl1_any l[k] m v1 _ _ b (l.take k) hm i1 i2 (by simp; omega)).mono ?_
      rintro e v2 ⟨rfl, g1, g2⟩
      have e1 : ((l[k]?).any fun p => placeB m p) = placeB m l[k] := by simp [hk]
      have e2 : newIn l k = !decide (l[k] ∈ l.take k) := by simp [newIn, hk]
      refine ⟨ret_bool (by rw [e1, e2]), fun h => ?_, below_only hv g2 (by omega)⟩
      rw [e1, Bool.and_eq_true] at h
      exact ⟨heap_only i1 g2 (i2.ne i1), by rw [← take_snoc l k hk]; exact g1 h.1⟩
    · rintro e w2 ⟨rfl, hb2⟩
      go_wp2
      go_ret
      exact ⟨ret_bool HE.out.symm, hb2⟩
  · have hfr : fromB 1 8 (l.length : Int) = false := fromB_no (a := 1) (b := 8) hl
    have HE : Hid (mayPl l m = false) := mayPl_len hl
    clear hl
    go_enter Tryz.func127, Tryz.ntmps127
    go_wp2_with fail
    refine (unmetI_any _).mono ?_
    rintro e w1 ⟨p, b, rfl, ha, hb, hB⟩
    have hs := hb.size
    simp at hs hB
    clear ha
    go_wp2_with (first | (go_at_call 79; refine (from_any _ _ _ _).mono ?_; rintro e w' ⟨rfl, he⟩; rw [hfr, he]; clear he))
    go_ret
    exact ⟨ret_bool HE.out.symm, by (repeat (first | exact Below.refl _ _ | assumption | refine Below.drew ?_ | refine below_drewN ?_ _ | refine Below.alloc ?_ (by first | omega | (simp; done) | (simp; omega)) _ | refine Below.setCell ?_ (by first | omega | (simp; done) | (simp; omega)) _ | refine Below.trans ?_ (Below.mono (by assumption) (by first | omega | (simp; done) | (simp; omega)))))⟩
end Go.Proofs.YtkgkkcefnonejaaGreat
