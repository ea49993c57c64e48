/- Walks of layer 7: rows of pairs that came in; rising. -/
import Derived.Test.YtlpannicklkghaaB15
import Derived.Test.YtlpannicklkghaaM91
namespace Go.Proofs.Ytlpannicklkghaa
open Go.RowKit

abbrev Pr := ByteArray × ByteArray
/-- Pairs in memory, from a place on. -/
def PRow (w : World) (p : Option Addr) (l : List Pr) : Prop := ∀ i (h : i < l.length), ∃ b off, p = some ⟨b, off, none⟩ ∧ w.cell? ⟨b, off + i * 2, none⟩ = some (.string (l[i]).1) ∧ w.cell? ⟨b, off + i * 2 + 1, none⟩ = some (.string (l[i]).2)
theorem PRow.later {w w' : World} {p : Option Addr} {l : List Pr} (h : PRow w p l) (hb : Below w.heap.size w w') : PRow w' p l := fun i hi => by
  obtain ⟨b, off, e, h1, h2⟩ := h i hi
  exact ⟨b, off, e, cell_later hb h1, cell_later hb h2⟩
def risB : List Pr → Bool
  | a :: b :: r => kl a.1 b.1 && risB (b :: r)
  | _ => true
theorem risB_iff : ∀ l : List Pr, risB l = true ↔ ∀ j (h : j + 1 < l.length), kl (l[j]).1 (l[j + 1]).1 = true
  | [] => by simp [risB]
  | [a] => by simp [risB]
  | a :: b :: r => by
    rw [risB, Bool.and_eq_true, risB_iff (b :: r)]
    constructor
    · rintro ⟨h1, h2⟩ j h
      match j, h with
      | 0, _ => exact h1
      | j + 1, h => exact h2 j (by simpa using h)
    · exact fun h => ⟨h 0 (by simp), fun j hj => h (j + 1) (by simpa using hj)⟩
theorem risB_srt : ∀ {l : List Pr}, risB l = true → l.Pairwise fun a b => kl a.1 b.1 = true
  | [], _ => List.Pairwise.nil
  | [a], _ => List.pairwise_singleton _ _
  | a :: b :: r, h => by
    rw [risB, Bool.and_eq_true] at h
    have ih := risB_srt h.2
    refine List.pairwise_cons.2 ⟨fun x hx => ?_, ih⟩
    rcases List.mem_cons.1 hx with rfl | hx
    · exact h.1
    · exact kl_trans h.1 ((List.pairwise_cons.1 ih).1 x hx)

theorem leq_kl (x y : ByteArray) : (Op.bytesLess y.toList x.toList || y.toList == x.toList) = !(kl x y) := by
  cases h : kl x y with
  | true =>
    have h1 := kl_asymm h
    have h2 : (y.toList == x.toList) = false := by
      rw [beq_eq_false_iff_ne]
      exact fun e => kl_ne h (ba_inj e.symm)
    unfold kl at h1
    rw [h1, h2]
    rfl
  | false =>
    by_cases e : x = y
    · subst e; simp
    · have := kl_total h e
      unfold kl at this
      rw [this]
      rfl

set_option maxHeartbeats 4000000 in
set_option maxRecDepth 100000 in
theorem rising_any (w : World) (p : Option Addr) (cap : Nat) (l : List Pr) (hr : PRow w p l) (hl : l.length ≤ 4611686018427387904) :
    Calls Try.prog 28 #[.slice p l.length cap] w fun e w' => e = .returned (.bool (risB l)) ∧ Below w.heap.size w w' := by
  have HR : Hid (PRow w p l) := hr
  clear hr
  go_enter Try.func28, Try.ntmps28
  go_wp2
  go_loopw [3] (fun i wr => ∃ j : Nat, i = .int .i64 ((j : Int) + 1) ∧ (j + 1 ≤ l.length ∨ j = 0) ∧ (∀ q (h : q + 1 < l.length), q < j → kl (l[q]).1 (l[q + 1]).1 = true) ∧ Below w.heap.size w wr) (fun i _ => l.length + 1 - (intOf i).toNat)
  case atStart => exact ⟨0, rfl, Or.inr rfl, fun q _ h => absurd h (Nat.not_lt_zero _), Below.refl _ _⟩
  case round =>
    obtain ⟨j, rfl, hj, hall, hb⟩ := hrel
    have HA : Hid (∀ q (h : q + 1 < l.length), q < j → kl (l[q]).1 (l[q + 1]).1 = true) := hall
    have HB : Hid (Below w.heap.size w wr) := hb
    clear hall hb
    by_cases hlt : j + 1 < l.length
    · have hlti : (j : Int) + 1 < (l.length : Int) := by omega
      have hlt0 : (j : Int) < (l.length : Int) := by omega
      obtain ⟨b, off, rfl, h1, _⟩ := (HR.out.later HB.out) (j + 1) hlt
      obtain ⟨b', off', e', h0, _⟩ := (HR.out.later HB.out) j (by omega)
      simp only [Option.some.injEq, Addr.mk.injEq, and_true] at e'
      obtain ⟨rfl, rfl⟩ := e'
      have HX : Hid (∀ (h0 : j < l.length) (h1 : j + 1 < l.length), ∃ x y, (l[j]).1 = x ∧ (l[j + 1]).1 = y ∧ wr.cell? ⟨b, off + j * 2, none⟩ = some (.string x) ∧ wr.cell? ⟨b, off + (j + 1) * 2, none⟩ = some (.string y)) := fun _ _ => ⟨_, _, rfl, rfl, h0, h1⟩
      clear h0 h1
      obtain ⟨x, y, hx, hy, h0, h1⟩ := HX.out (by omega) hlt
      have HXY : Hid (∀ (h0 : j < l.length) (h1 : j + 1 < l.length), (l[j]).1 = x ∧ (l[j + 1]).1 = y) := fun _ _ => ⟨hx, hy⟩
      clear hx hy HX
      go_wp2
      go_quiet (fail)
      rw [leq_kl]
      obtain ⟨c, hc⟩ : ∃ c, kl x y = c := ⟨_, rfl⟩
      rw [hc]
      have HC : Hid (kl x y = c) := hc
      clear hc
      cases c with
      | false =>
        go_wp2
        go_ret
        refine ⟨?_, below_drewN HB.out _⟩
        have hn : risB l = false := by
          cases h : risB l with
          | false => rfl
          | true =>
            have h1 := (risB_iff l).1 h j hlt
            rw [(HXY.out (by omega) hlt).1, (HXY.out (by omega) hlt).2, HC.out] at h1
            cases h1
        rw [hn]
        rfl
      | true =>
        go_wp2
        refine ⟨⟨j + 1, by go_num, Or.inl (by omega), fun q hq hq2 => ?_, below_drewN HB.out _⟩, by simp only [intOf]; omega⟩
        by_cases e : q = j
        · subst e
          rw [(HXY.out (by omega) hlt).1, (HXY.out (by omega) hlt).2]
          exact HC.out
        · exact HA.out q hq (by omega)
    · have hlti : ¬ (j : Int) + 1 < (l.length : Int) := by omega
      go_wp2
      go_ret
      refine ⟨?_, HB.out⟩
      rw [(risB_iff l).2 fun q hq => HA.out q hq (by omega)]
      rfl
end Go.Proofs.Ytlpannicklkghaa
