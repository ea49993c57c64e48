/- Walks of layer 19: the document's Meet, MeetAny. -/
import Derived.Test.YtefdhmdkcpgfcaaI1
namespace Go.Proofs.Ytefdhmdkcpgfcaa
open Go.RowKit
theorem isE (s : ByteArray) : (s.toList == ([] : List UInt8)) = s.toList.isEmpty := by cases s.toList <;> rfl

set_option maxHeartbeats 8000000 in
set_option maxRecDepth 100000 in
theorem rmeet_any (a b : Lk) (w : World) : Calls Try.prog 30 #[.agg (lkC a).toArray, .agg (lkC b).toArray] w fun e w' => e = .returned (.bool (lkM a b)) ∧ Below w.heap.size w w' := by
  obtain ⟨t, l, h, x⟩ := a
  obtain ⟨u, m, g, y⟩ := b
  obtain ⟨q, hq⟩ : ∃ q, lkM ⟨t, l, h, x⟩ ⟨u, m, g, y⟩ = q := ⟨_, rfl⟩
  have HQ : Hid (lkM ⟨t, l, h, x⟩ ⟨u, m, g, y⟩ = q) := hq
  rw [hq]
  clear hq
  unfold lkM maxB endB noB at HQ
  simp only [lkC]
  cases hl : ltB l m with
  | true =>
    have HL := Lib.hid hl
    rw [hl, if_pos rfl] at HQ
    unfold ltB at HQ HL hl
    have hg : (!Op.bytesLess m.toList l.toList && !(m.toList == l.toList)) = true := (gtL _ _).trans hl
    clear hl
    go_enter Try.func30, Try.ntmps30
    go_wp2
    all_goals go_ret
    all_goals refine ⟨ret_bool ?_, by (repeat (first | exact Below.refl _ _ | assumption | refine Below.drew ?_ | refine below_drewN ?_ _ | refine Below.alloc ?_ (by first | omega | (simp; done) | (simp; omega)) _ | refine Below.setCell ?_ (by first | omega | (simp; done) | (simp; omega)) _ | refine Below.trans ?_ (Below.mono (by assumption) (by first | omega | (simp; done) | (simp; omega)))))⟩
    all_goals (rw [← HQ.out]; simp [*]; done)
  | false =>
    have HL := Lib.hid hl
    rw [hl, if_neg (by simp)] at HQ
    unfold ltB at HQ HL hl
    have hg : (!Op.bytesLess m.toList l.toList && !(m.toList == l.toList)) = false := (gtL _ _).trans hl
    clear hl
    go_enter Try.func30, Try.ntmps30
    go_wp2
    all_goals go_ret
    all_goals refine ⟨ret_bool ?_, by (repeat (first | exact Below.refl _ _ | assumption | refine Below.drew ?_ | refine below_drewN ?_ _ | refine Below.alloc ?_ (by first | omega | (simp; done) | (simp; omega)) _ | refine Below.setCell ?_ (by first | omega | (simp; done) | (simp; omega)) _ | refine Below.trans ?_ (Below.mono (by assumption) (by first | omega | (simp; done) | (simp; omega)))))⟩
    all_goals (rw [← HQ.out]; simp [*]; done)
end Go.Proofs.Ytefdhmdkcpgfcaa
