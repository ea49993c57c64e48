/- Walks of layer 1, seventeenth part: opposites. -/
import Derived.Test.YtfabcdjgakhdmaaDoorW15
namespace Go.Proofs.YtfabcdjgakhdmaaDoor
open Go.RowKit

set_option maxHeartbeats 1000000 in
theorem neg_any (k n : Int) (s : ByteArray) (w : World) :
    Calls Tryd.prog 26 #[.agg #[.int .i64 k, .int .i64 n, .string s]] w fun e w' =>
      e = .returned (.tuple #[.agg #[.int .i64 (negR k n s).1, .int .i64 (negR k n s).2.1, .string ⟨#[]⟩], .int .i64 (negR k n s).2.2]) ∧ Below w.heap.size w w' := by
  by_cases had : adm 1 [(k, n, s)] = 0
  · have ga := adm_zero had (k, n, s) (by simp)
    have HAD : Hid (adm 1 [(k, n, s)] = 0) := had
    by_cases h4 : k = 0
    · rw [negR_null had h4]
      subst h4
      clear had ga
      go_enter Tryd.func26, Tryd.ntmps26
      go_wp2_with fail
      refine (admit1 1 _ _ _ _ _ _ (by simp)).mono ?_
      rintro e w' ⟨rfl, hb⟩
      rw [HAD.out]
      (obtain ⟨hc, hf⟩ := bcell hb; have hz := hb.size; (try simp at hz); (try have hz0 : w.heap.size < w'.heap.size := by omega); (try have hz1 : w.heap.size + 1 < w'.heap.size := by omega); (try have hz2 : w.heap.size + 1 + 1 < w'.heap.size := by omega); (try have hz3 : w.heap.size + 1 + 1 + 1 < w'.heap.size := by omega))
      go_wp2_with (first | (go_at_call 39; refine (null_any _).mono ?_; rintro e w' ⟨rfl, hb⟩; obtain ⟨hc, hf⟩ := bcell hb; have hz := hb.size; (try simp at hz); (try have hz0 : w.heap.size < w'.heap.size := by omega); (try have hz1 : w.heap.size + 1 < w'.heap.size := by omega); (try have hz2 : w.heap.size + 1 + 1 < w'.heap.size := by omega); (try have hz3 : w.heap.size + 1 + 1 + 1 < w'.heap.size := by omega)))
      all_goals exact bodyPost_ret (v := .tuple #[.agg #[.int .i64 0, .int .i64 0, .string ⟨#[]⟩], .int .i64 0]) (by simp [results, Tryd.results26, go_sem, *]) rfl ⟨rfl, by (repeat (first | exact Below.refl _ _ | assumption | refine Below.drew ?_ | refine below_drewN ?_ _ | refine Below.alloc ?_ (by first | omega | (simp; done) | (simp; omega)) _ | refine Below.setCell ?_ (by first | omega | (simp; done) | (simp; omega)) _ | refine Below.trans ?_ (Below.mono (by assumption) (by first | omega | (simp; done) | (simp; omega)))))⟩
    · rw [negR_ok had h4]
      have k1 : k = 1 := by have := ga.2; simp at this; omega
      subst k1
      obtain ⟨a1, a2⟩ := right_int ga.1 rfl
      simp only at a1 a2
      clear ga had h4
      go_enter Tryd.func26, Tryd.ntmps26
      go_wp2_with fail
      refine (admit1 1 _ _ _ _ _ _ (by simp)).mono ?_
      rintro e w' ⟨rfl, hb⟩
      rw [HAD.out]
      (obtain ⟨hc, hf⟩ := bcell hb; have hz := hb.size; (try simp at hz); (try have hz0 : w.heap.size < w'.heap.size := by omega); (try have hz1 : w.heap.size + 1 < w'.heap.size := by omega); (try have hz2 : w.heap.size + 1 + 1 < w'.heap.size := by omega); (try have hz3 : w.heap.size + 1 + 1 + 1 < w'.heap.size := by omega))
      go_wp2_with (first | (go_at_call 49; refine (number_any _ _).mono ?_; rintro e w' ⟨rfl, hb⟩; obtain ⟨hc, hf⟩ := bcell hb; have hz := hb.size; (try simp at hz); (try have hz0 : w.heap.size < w'.heap.size := by omega); (try have hz1 : w.heap.size + 1 < w'.heap.size := by omega); (try have hz2 : w.heap.size + 1 + 1 < w'.heap.size := by omega); (try have hz3 : w.heap.size + 1 + 1 + 1 < w'.heap.size := by omega)))
      all_goals exact bodyPost_ret (v := .tuple #[.agg #[.int .i64 1, .int .i64 (-n), .string ⟨#[]⟩], .int .i64 0]) (by simp [results, Tryd.results26, go_sem, *]) rfl ⟨rfl, by (repeat (first | exact Below.refl _ _ | assumption | refine Below.drew ?_ | refine below_drewN ?_ _ | refine Below.alloc ?_ (by first | omega | (simp; done) | (simp; omega)) _ | refine Below.setCell ?_ (by first | omega | (simp; done) | (simp; omega)) _ | refine Below.trans ?_ (Below.mono (by assumption) (by first | omega | (simp; done) | (simp; omega)))))⟩
  · rw [negR_adm had]
    have had' : (adm 1 [(k, n, s)] != 0) = true := by simpa using had
    clear had
    go_enter Tryd.func26, Tryd.ntmps26
    go_wp2_with fail
    refine (admit1 1 _ _ _ _ _ _ (by simp)).mono ?_
    rintro e w' ⟨rfl, hb⟩
    (obtain ⟨hc, hf⟩ := bcell hb; have hz := hb.size; (try simp at hz); (try have hz0 : w.heap.size < w'.heap.size := by omega); (try have hz1 : w.heap.size + 1 < w'.heap.size := by omega); (try have hz2 : w.heap.size + 1 + 1 < w'.heap.size := by omega); (try have hz3 : w.heap.size + 1 + 1 + 1 < w'.heap.size := by omega))
    go_wp2_with (first | (go_at_call 39; refine (null_any _).mono ?_; rintro e w' ⟨rfl, hb⟩; obtain ⟨hc, hf⟩ := bcell hb; have hz := hb.size; (try simp at hz); (try have hz0 : w.heap.size < w'.heap.size := by omega); (try have hz1 : w.heap.size + 1 < w'.heap.size := by omega); (try have hz2 : w.heap.size + 1 + 1 < w'.heap.size := by omega); (try have hz3 : w.heap.size + 1 + 1 + 1 < w'.heap.size := by omega)))
    all_goals exact bodyPost_ret (v := .tuple #[.agg #[.int .i64 0, .int .i64 0, .string ⟨#[]⟩], .int .i64 (adm 1 [(k, n, s)])]) (by simp [results, Tryd.results26, go_sem, *]) rfl ⟨rfl, by (repeat (first | exact Below.refl _ _ | assumption | refine Below.drew ?_ | refine below_drewN ?_ _ | refine Below.alloc ?_ (by first | omega | (simp; done) | (simp; omega)) _ | refine Below.setCell ?_ (by first | omega | (simp; done) | (simp; omega)) _ | refine Below.trans ?_ (Below.mono (by assumption) (by first | omega | (simp; done) | (simp; omega)))))⟩

set_option maxHeartbeats 1000000 in
theorem rneg_any (k n : Int) (s : ByteArray) (w : World) :
    Calls Tryd.prog 27 #[.agg #[.int .i64 k, .int .i64 n, .string s]] w fun e w' =>
      e = .returned (.tuple #[.agg #[.int .i64 (negR k n s).1, .int .i64 (negR k n s).2.1, .string ⟨#[]⟩], .int .i64 (negR k n s).2.2]) ∧ Below w.heap.size w w' := by
  by_cases had : adm 1 [(k, n, s)] = 0
  · have ga := adm_zero had (k, n, s) (by simp)
    have HAD : Hid (adm 1 [(k, n, s)] = 0) := had
    by_cases h4 : k = 0
    · rw [negR_null had h4]
      subst h4
      clear had ga
      go_enter Tryd.func27, Tryd.ntmps27
      go_wp2_with fail
      refine (refused1 1 _ _ _ _ _ _ (by simp)).mono ?_
      rintro e w' ⟨rfl, hb⟩
      rw [HAD.out]
      (obtain ⟨hc, hf⟩ := bcell hb; have hz := hb.size; (try simp at hz); (try have hz0 : w.heap.size < w'.heap.size := by omega); (try have hz1 : w.heap.size + 1 < w'.heap.size := by omega); (try have hz2 : w.heap.size + 1 + 1 < w'.heap.size := by omega); (try have hz3 : w.heap.size + 1 + 1 + 1 < w'.heap.size := by omega))
      go_wp2
      all_goals exact bodyPost_ret (v := .tuple #[.agg #[.int .i64 0, .int .i64 0, .string ⟨#[]⟩], .int .i64 0]) (by simp [results, Tryd.results27, go_sem, *]) rfl ⟨rfl, by (repeat (first | exact Below.refl _ _ | assumption | refine Below.drew ?_ | refine below_drewN ?_ _ | refine Below.alloc ?_ (by first | omega | (simp; done) | (simp; omega)) _ | refine Below.setCell ?_ (by first | omega | (simp; done) | (simp; omega)) _ | refine Below.trans ?_ (Below.mono (by assumption) (by first | omega | (simp; done) | (simp; omega)))))⟩
    · rw [negR_ok had h4]
      have k1 : k = 1 := by have := ga.2; simp at this; omega
      subst k1
      obtain ⟨a1, a2⟩ := right_int ga.1 rfl
      simp only at a1 a2
      clear ga had h4
      go_enter Tryd.func27, Tryd.ntmps27
      go_wp2_with fail
      refine (refused1 1 _ _ _ _ _ _ (by simp)).mono ?_
      rintro e w' ⟨rfl, hb⟩
      rw [HAD.out]
      (obtain ⟨hc, hf⟩ := bcell hb; have hz := hb.size; (try simp at hz); (try have hz0 : w.heap.size < w'.heap.size := by omega); (try have hz1 : w.heap.size + 1 < w'.heap.size := by omega); (try have hz2 : w.heap.size + 1 + 1 < w'.heap.size := by omega); (try have hz3 : w.heap.size + 1 + 1 + 1 < w'.heap.size := by omega))
      go_wp2_with (first | (go_at_call 52; refine (rnumber_any _ _).mono ?_; rintro e w' ⟨rfl, hb⟩; obtain ⟨hc, hf⟩ := bcell hb; have hz := hb.size; (try simp at hz); (try have hz0 : w.heap.size < w'.heap.size := by omega); (try have hz1 : w.heap.size + 1 < w'.heap.size := by omega); (try have hz2 : w.heap.size + 1 + 1 < w'.heap.size := by omega); (try have hz3 : w.heap.size + 1 + 1 + 1 < w'.heap.size := by omega)))
      all_goals exact bodyPost_ret (v := .tuple #[.agg #[.int .i64 1, .int .i64 (-n), .string ⟨#[]⟩], .int .i64 0]) (by simp [results, Tryd.results27, go_sem, *]) rfl ⟨rfl, by (repeat (first | exact Below.refl _ _ | assumption | refine Below.drew ?_ | refine below_drewN ?_ _ | refine Below.alloc ?_ (by first | omega | (simp; done) | (simp; omega)) _ | refine Below.setCell ?_ (by first | omega | (simp; done) | (simp; omega)) _ | refine Below.trans ?_ (Below.mono (by assumption) (by first | omega | (simp; done) | (simp; omega)))))⟩
  · rw [negR_adm had]
    have had' : (adm 1 [(k, n, s)] != 0) = true := by simpa using had
    clear had
    go_enter Tryd.func27, Tryd.ntmps27
    go_wp2_with fail
    refine (refused1 1 _ _ _ _ _ _ (by simp)).mono ?_
    rintro e w' ⟨rfl, hb⟩
    (obtain ⟨hc, hf⟩ := bcell hb; have hz := hb.size; (try simp at hz); (try have hz0 : w.heap.size < w'.heap.size := by omega); (try have hz1 : w.heap.size + 1 < w'.heap.size := by omega); (try have hz2 : w.heap.size + 1 + 1 < w'.heap.size := by omega); (try have hz3 : w.heap.size + 1 + 1 + 1 < w'.heap.size := by omega))
    go_wp2
    all_goals exact bodyPost_ret (v := .tuple #[.agg #[.int .i64 0, .int .i64 0, .string ⟨#[]⟩], .int .i64 (adm 1 [(k, n, s)])]) (by simp [results, Tryd.results27, go_sem, *]) rfl ⟨rfl, by (repeat (first | exact Below.refl _ _ | assumption | refine Below.drew ?_ | refine below_drewN ?_ _ | refine Below.alloc ?_ (by first | omega | (simp; done) | (simp; omega)) _ | refine Below.setCell ?_ (by first | omega | (simp; done) | (simp; omega)) _ | refine Below.trans ?_ (Below.mono (by assumption) (by first | omega | (simp; done) | (simp; omega)))))⟩
end Go.Proofs.YtfabcdjgakhdmaaDoor
