/- Walks of layer 1: the document's And and Or; Not. -/
import Derived.Test.YtfabcdjgakhdmabDoorW20
namespace Go.Proofs.YtfabcdjgakhdmabDoor
open Go.RowKit

/-- Whether it does not hold: a kind, a number, an error. -/
def notR (k n : Int) (s : ByteArray) : Int × Int × Int :=
  if adm 2 [(k, n, s)] ≠ 0 then (0, 0, adm 2 [(k, n, s)]) else if k = 0 then (0, 0, 0) else (2, b2i (n == 0), 0)
section
variable {k n : Int} {s : ByteArray}
theorem notR_adm (g : adm 2 [(k, n, s)] ≠ 0) : notR k n s = (0, 0, adm 2 [(k, n, s)]) := by unfold notR; rw [if_pos g]
theorem notR_null (g : adm 2 [(k, n, s)] = 0) (h : k = 0) : notR k n s = (0, 0, 0) := by unfold notR; rw [if_neg (by simp [g]), if_pos h]
theorem notR_ok (g : adm 2 [(k, n, s)] = 0) (h : ¬ k = 0) : notR k n s = (2, b2i (n == 0), 0) := by unfold notR; rw [if_neg (by simp [g]), if_neg h]
end
theorem opp_null (n : Int) (s : ByteArray) (w : World) :
    Calls Tryd.prog 24 #[.agg #[.int .i64 0, .int .i64 n, .string s]] w fun e w' => e = .returned (.agg #[.int .i64 0, .int .i64 0, .string ⟨#[]⟩]) ∧ Below w.heap.size w w' := by
  refine (opposite_any 0 n s w).mono ?_
  rintro e w' ⟨rfl, hb⟩
  exact ⟨rfl, hb⟩
theorem opp_some (k n : Int) (s : ByteArray) (w : World) (h : ¬ k = 0) :
    Calls Tryd.prog 24 #[.agg #[.int .i64 k, .int .i64 n, .string s]] w fun e w' => e = .returned (.agg #[.int .i64 2, .int .i64 (b2i (n == 0)), .string ⟨#[]⟩]) ∧ Below w.heap.size w w' := by
  refine (opposite_any k n s w).mono ?_
  rintro e w' ⟨rfl, hb⟩
  rw [if_neg h, if_neg h]
  exact ⟨rfl, hb⟩





set_option maxHeartbeats 1000000 in
theorem not_any (k n : Int) (s : ByteArray) (w : World) :
    Calls Tryd.prog 10 #[.agg #[.int .i64 k, .int .i64 n, .string s]] w fun e w' =>
      e = .returned (.tuple #[.agg #[.int .i64 (notR k n s).1, .int .i64 (notR k n s).2.1, .string ⟨#[]⟩], .int .i64 (notR k n s).2.2]) ∧ Below w.heap.size w w' := by
  by_cases had : adm 2 [(k, n, s)] = 0
  · have HAD : Hid (adm 2 [(k, n, s)] = 0) := had
    by_cases h4 : k = 0
    · rw [notR_null had h4]
      subst h4
      clear had
      go_enter Tryd.func10, Tryd.ntmps10
      go_wp2_with fail
      refine (admit1 2 _ _ _ _ _ _ (by simp)).mono ?_
      rintro e w' ⟨rfl, hb⟩
      rw [HAD.out]
      (obtain ⟨hc, hf⟩ := bcell hb; have hz := hb.size; (try simp at hz); (try have hz0 : w.heap.size < w'.heap.size := by omega); (try have hz1 : w.heap.size + 1 < w'.heap.size := by omega); (try have hz2 : w.heap.size + 1 + 1 < w'.heap.size := by omega); (try have hz3 : w.heap.size + 1 + 1 + 1 < w'.heap.size := by omega))
      go_wp2_with (first | (go_at_call 24; refine (opp_null _ _ _).mono ?_; rintro e w' ⟨rfl, hb⟩; obtain ⟨hc, hf⟩ := bcell hb; have hz := hb.size; (try simp at hz); (try have hz0 : w.heap.size < w'.heap.size := by omega); (try have hz1 : w.heap.size + 1 < w'.heap.size := by omega); (try have hz2 : w.heap.size + 1 + 1 < w'.heap.size := by omega); (try have hz3 : w.heap.size + 1 + 1 + 1 < w'.heap.size := by omega)))
      all_goals exact bodyPost_ret (v := .tuple #[.agg #[.int .i64 0, .int .i64 0, .string ⟨#[]⟩], .int .i64 0]) (by simp [results, Tryd.results10, go_sem, *]) rfl ⟨rfl, by (repeat (first | exact Below.refl _ _ | assumption | refine Below.drew ?_ | refine below_drewN ?_ _ | refine Below.alloc ?_ (by first | omega | (simp; done) | (simp; omega)) _ | refine Below.setCell ?_ (by first | omega | (simp; done) | (simp; omega)) _ | refine Below.trans ?_ (Below.mono (by assumption) (by first | omega | (simp; done) | (simp; omega)))))⟩
    · rw [notR_ok had h4]
      have h4' : (k == 0) = false := by simpa using h4
      have HK : Hid (¬ k = 0) := h4
      clear had h4
      go_enter Tryd.func10, Tryd.ntmps10
      go_wp2_with fail
      refine (admit1 2 _ _ _ _ _ _ (by simp)).mono ?_
      rintro e w' ⟨rfl, hb⟩
      rw [HAD.out]
      (obtain ⟨hc, hf⟩ := bcell hb; have hz := hb.size; (try simp at hz); (try have hz0 : w.heap.size < w'.heap.size := by omega); (try have hz1 : w.heap.size + 1 < w'.heap.size := by omega); (try have hz2 : w.heap.size + 1 + 1 < w'.heap.size := by omega); (try have hz3 : w.heap.size + 1 + 1 + 1 < w'.heap.size := by omega))
      go_wp2_with (first | (go_at_call 24; refine (opp_some _ _ _ _ HK.out).mono ?_; rintro e w' ⟨rfl, hb⟩; obtain ⟨hc, hf⟩ := bcell hb; have hz := hb.size; (try simp at hz); (try have hz0 : w.heap.size < w'.heap.size := by omega); (try have hz1 : w.heap.size + 1 < w'.heap.size := by omega); (try have hz2 : w.heap.size + 1 + 1 < w'.heap.size := by omega); (try have hz3 : w.heap.size + 1 + 1 + 1 < w'.heap.size := by omega)))
      all_goals exact bodyPost_ret (v := .tuple #[.agg #[.int .i64 2, .int .i64 (b2i (n == 0)), .string ⟨#[]⟩], .int .i64 0]) (by simp [results, Tryd.results10, go_sem, *]) rfl ⟨rfl, by (repeat (first | exact Below.refl _ _ | assumption | refine Below.drew ?_ | refine below_drewN ?_ _ | refine Below.alloc ?_ (by first | omega | (simp; done) | (simp; omega)) _ | refine Below.setCell ?_ (by first | omega | (simp; done) | (simp; omega)) _ | refine Below.trans ?_ (Below.mono (by assumption) (by first | omega | (simp; done) | (simp; omega)))))⟩
  · rw [notR_adm had]
    have had' : (adm 2 [(k, n, s)] != 0) = true := by simpa using had
    clear had
    go_enter Tryd.func10, Tryd.ntmps10
    go_wp2_with fail
    refine (admit1 2 _ _ _ _ _ _ (by simp)).mono ?_
    rintro e w' ⟨rfl, hb⟩
    (obtain ⟨hc, hf⟩ := bcell hb; have hz := hb.size; (try simp at hz); (try have hz0 : w.heap.size < w'.heap.size := by omega); (try have hz1 : w.heap.size + 1 < w'.heap.size := by omega); (try have hz2 : w.heap.size + 1 + 1 < w'.heap.size := by omega); (try have hz3 : w.heap.size + 1 + 1 + 1 < w'.heap.size := by omega))
    go_wp2_with (first | (go_at_call 23; refine (null_any _).mono ?_; rintro e w' ⟨rfl, hb⟩; obtain ⟨hc, hf⟩ := bcell hb; have hz := hb.size; (try simp at hz); (try have hz0 : w.heap.size < w'.heap.size := by omega); (try have hz1 : w.heap.size + 1 < w'.heap.size := by omega); (try have hz2 : w.heap.size + 1 + 1 < w'.heap.size := by omega); (try have hz3 : w.heap.size + 1 + 1 + 1 < w'.heap.size := by omega)))
    all_goals exact bodyPost_ret (v := .tuple #[.agg #[.int .i64 0, .int .i64 0, .string ⟨#[]⟩], .int .i64 (adm 2 [(k, n, s)])]) (by simp [results, Tryd.results10, go_sem, *]) rfl ⟨rfl, by (repeat (first | exact Below.refl _ _ | assumption | refine Below.drew ?_ | refine below_drewN ?_ _ | refine Below.alloc ?_ (by first | omega | (simp; done) | (simp; omega)) _ | refine Below.setCell ?_ (by first | omega | (simp; done) | (simp; omega)) _ | refine Below.trans ?_ (Below.mono (by assumption) (by first | omega | (simp; done) | (simp; omega)))))⟩

end Go.Proofs.YtfabcdjgakhdmabDoor
