/- Walks of layer 1, sixteenth part: the document's Arith; Neg. -/
import Derived.Test.YtfabcdjgakhdmaaDoorW15
namespace Go.Proofs.YtfabcdjgakhdmaaDoor
open Go.RowKit

set_option maxHeartbeats 2000000 in
theorem rarith_any (op k n : Int) (s : ByteArray) (k' n' : Int) (s' : ByteArray) (w : World) :
    Calls Tryd.prog 25 #[.int .i64 op, .agg #[.int .i64 k, .int .i64 n, .string s], .agg #[.int .i64 k', .int .i64 n', .string s']] w fun e w' =>
      e = .returned (.tuple #[.agg #[.int .i64 (arR op k n s k' n' s').1, .int .i64 (arR op k n s k' n' s').2.1, .string ⟨#[]⟩], .int .i64 (arR op k n s k' n' s').2.2]) ∧ Below w.heap.size w w' := by
  by_cases hop : op < 1 ∨ 5 < op
  · rw [arR_op hop]
    go_enter Tryd.func25, Tryd.ntmps25
    go_wp2
    all_goals exact bodyPost_ret (v := .tuple #[.agg #[.int .i64 0, .int .i64 0, .string ⟨#[]⟩], .int .i64 1]) (by simp [results, Tryd.results25, go_sem, *]) rfl ⟨rfl, by (repeat (first | exact Below.refl _ _ | assumption | refine Below.drew ?_ | refine below_drewN ?_ _ | refine Below.alloc ?_ (by first | omega | (simp; done) | (simp; omega)) _ | refine Below.setCell ?_ (by first | omega | (simp; done) | (simp; omega)) _ | refine Below.trans ?_ (Below.mono (by assumption) (by first | omega | (simp; done) | (simp; omega)))))⟩
  have o1 : 1 ≤ op := by omega
  have o2 : op ≤ 5 := by omega
  by_cases had : adm 1 [(k, n, s), (k', n', s')] = 0
  · have hall := adm_zero had
    have ga := hall (k, n, s) (by simp)
    have gb := hall (k', n', s') (by simp)
    by_cases h3 : k = 0 ∨ k' = 0
    · rw [arR_null hop had h3]
      clear hop hall ga gb
      have HAD : Hid (adm 1 [(k, n, s), (k', n', s')] = 0) := had
      clear had
      by_cases h4 : k = 0
      · subst h4
        clear h3
        go_enter Tryd.func25, Tryd.ntmps25
        go_wp2_with fail
        refine (refused2 1 _ _ _ _ _ _ _ _ _ (by simp)).mono ?_
        rintro e w' ⟨rfl, hb⟩
        rw [HAD.out]
        (obtain ⟨hc, hf⟩ := bcell hb; have hz := hb.size; (try simp at hz); (try have hz0 : w.heap.size < w'.heap.size := by omega); (try have hz1 : w.heap.size + 1 < w'.heap.size := by omega); (try have hz2 : w.heap.size + 1 + 1 < w'.heap.size := by omega); (try have hz3 : w.heap.size + 1 + 1 + 1 < w'.heap.size := by omega))
        go_wp2
        all_goals exact bodyPost_ret (v := .tuple #[.agg #[.int .i64 0, .int .i64 0, .string ⟨#[]⟩], .int .i64 0]) (by simp [results, Tryd.results25, go_sem, *]) rfl ⟨rfl, by (repeat (first | exact Below.refl _ _ | assumption | refine Below.drew ?_ | refine below_drewN ?_ _ | refine Below.alloc ?_ (by first | omega | (simp; done) | (simp; omega)) _ | refine Below.setCell ?_ (by first | omega | (simp; done) | (simp; omega)) _ | refine Below.trans ?_ (Below.mono (by assumption) (by first | omega | (simp; done) | (simp; omega)))))⟩
      · have h5 : k' = 0 := by omega
        subst h5
        have h4' : (k == 0) = false := by simpa using h4
        clear h3 h4
        go_enter Tryd.func25, Tryd.ntmps25
        go_wp2_with fail
        refine (refused2 1 _ _ _ _ _ _ _ _ _ (by simp)).mono ?_
        rintro e w' ⟨rfl, hb⟩
        rw [HAD.out]
        (obtain ⟨hc, hf⟩ := bcell hb; have hz := hb.size; (try simp at hz); (try have hz0 : w.heap.size < w'.heap.size := by omega); (try have hz1 : w.heap.size + 1 < w'.heap.size := by omega); (try have hz2 : w.heap.size + 1 + 1 < w'.heap.size := by omega); (try have hz3 : w.heap.size + 1 + 1 + 1 < w'.heap.size := by omega))
        go_wp2
        all_goals exact bodyPost_ret (v := .tuple #[.agg #[.int .i64 0, .int .i64 0, .string ⟨#[]⟩], .int .i64 0]) (by simp [results, Tryd.results25, go_sem, *]) rfl ⟨rfl, by (repeat (first | exact Below.refl _ _ | assumption | refine Below.drew ?_ | refine below_drewN ?_ _ | refine Below.alloc ?_ (by first | omega | (simp; done) | (simp; omega)) _ | refine Below.setCell ?_ (by first | omega | (simp; done) | (simp; omega)) _ | refine Below.trans ?_ (Below.mono (by assumption) (by first | omega | (simp; done) | (simp; omega)))))⟩
    · have k1 : k = 1 := by have := ga.2; simp at this; omega
      have k2 : k' = 1 := by have := gb.2; simp at this; omega
      subst k1 k2
      obtain ⟨a1, a2⟩ := right_int ga.1 rfl
      obtain ⟨b1, b2⟩ := right_int gb.1 rfl
      simp only at a1 a2 b1 b2
      clear hall ga gb
      have HAD : Hid (adm 1 [(1, n, s), (1, n', s')] = 0) := had
      by_cases hz : (op = 4 ∨ op = 5) ∧ n' = 0
      · rw [arR_zero hop had h3 hz]
        obtain ⟨hz1, rfl⟩ := hz
        clear had hop h3
        rcases hz1 with rfl | rfl
        all_goals
          go_enter Tryd.func25, Tryd.ntmps25
          go_wp2_with fail
          refine (refused2 1 _ _ _ _ _ _ _ _ _ (by simp)).mono ?_
          rintro e w' ⟨rfl, hb⟩
          rw [HAD.out]
          (obtain ⟨hc, hf⟩ := bcell hb; have hz := hb.size; (try simp at hz); (try have hz0 : w.heap.size < w'.heap.size := by omega); (try have hz1 : w.heap.size + 1 < w'.heap.size := by omega); (try have hz2 : w.heap.size + 1 + 1 < w'.heap.size := by omega); (try have hz3 : w.heap.size + 1 + 1 + 1 < w'.heap.size := by omega))
          go_wp2
          exact bodyPost_ret (v := .tuple #[.agg #[.int .i64 0, .int .i64 0, .string ⟨#[]⟩], .int .i64 13]) (by simp [results, Tryd.results25, go_sem, *]) rfl ⟨rfl, by (repeat (first | exact Below.refl _ _ | assumption | refine Below.drew ?_ | refine below_drewN ?_ _ | refine Below.alloc ?_ (by first | omega | (simp; done) | (simp; omega)) _ | refine Below.setCell ?_ (by first | omega | (simp; done) | (simp; omega)) _ | refine Below.trans ?_ (Below.mono (by assumption) (by first | omega | (simp; done) | (simp; omega)))))⟩
      · rcases (by omega : op = 1 ∨ op = 2 ∨ op = 3 ∨ op = 4 ∨ op = 5) with rfl | rfl | rfl | rfl | rfl
        · have hr : exact2 1 n n' = n + n' := rfl
          obtain ⟨r, hrr⟩ : ∃ r, inR (exact2 1 n n') = r := ⟨_, rfl⟩
          cases r
          · rw [arR_over hop had h3 hz hrr]
            rw [hr] at hrr
            have hr' := inR_not hrr
            clear had hop h3 hrr hr
            have HF : Hid ((decide (-4611686018427387904 ≤ wrap64 (n + n')) && decide (wrap64 (n + n') ≤ 4611686018427387904)) = false) := wrap_out (by omega) (by omega) hr'
            clear hz hr'
            go_enter Tryd.func25, Tryd.ntmps25
            go_wp2_with fail
            refine (refused2 1 _ _ _ _ _ _ _ _ _ (by simp)).mono ?_
            rintro e w' ⟨rfl, hb⟩
            rw [HAD.out]
            (obtain ⟨hc, hf⟩ := bcell hb; have hz := hb.size; (try simp at hz); (try have hz0 : w.heap.size < w'.heap.size := by omega); (try have hz1 : w.heap.size + 1 < w'.heap.size := by omega); (try have hz2 : w.heap.size + 1 + 1 < w'.heap.size := by omega); (try have hz3 : w.heap.size + 1 + 1 + 1 < w'.heap.size := by omega))
            go_wp2_with (first | (go_at_call 50; refine (fits_no _ _ HF.out).mono ?_; rintro e w' ⟨rfl, hb⟩; obtain ⟨hc, hf⟩ := bcell hb; have hz := hb.size; (try simp at hz); (try have hz0 : w.heap.size < w'.heap.size := by omega); (try have hz1 : w.heap.size + 1 < w'.heap.size := by omega); (try have hz2 : w.heap.size + 1 + 1 < w'.heap.size := by omega); (try have hz3 : w.heap.size + 1 + 1 + 1 < w'.heap.size := by omega)))
            all_goals exact bodyPost_ret (v := .tuple #[.agg #[.int .i64 0, .int .i64 0, .string ⟨#[]⟩], .int .i64 12]) (by simp [results, Tryd.results25, go_sem, *]) rfl ⟨rfl, by (repeat (first | exact Below.refl _ _ | assumption | refine Below.drew ?_ | refine below_drewN ?_ _ | refine Below.alloc ?_ (by first | omega | (simp; done) | (simp; omega)) _ | refine Below.setCell ?_ (by first | omega | (simp; done) | (simp; omega)) _ | refine Below.trans ?_ (Below.mono (by assumption) (by first | omega | (simp; done) | (simp; omega)))))⟩
          · rw [arR_ok hop had h3 hz hrr, hr]
            rw [hr] at hrr
            obtain ⟨r1, r2⟩ := inR_iff.1 hrr
            clear had hop h3 hrr hr
            clear hz
            go_enter Tryd.func25, Tryd.ntmps25
            go_wp2_with fail
            refine (refused2 1 _ _ _ _ _ _ _ _ _ (by simp)).mono ?_
            rintro e w' ⟨rfl, hb⟩
            rw [HAD.out]
            (obtain ⟨hc, hf⟩ := bcell hb; have hz := hb.size; (try simp at hz); (try have hz0 : w.heap.size < w'.heap.size := by omega); (try have hz1 : w.heap.size + 1 < w'.heap.size := by omega); (try have hz2 : w.heap.size + 1 + 1 < w'.heap.size := by omega); (try have hz3 : w.heap.size + 1 + 1 + 1 < w'.heap.size := by omega))
            go_wp2_with (first | (go_at_call 50; refine (fits_ok _ _ (by omega) (by omega)).mono ?_; rintro e w' ⟨rfl, hb⟩; obtain ⟨hc, hf⟩ := bcell hb; have hz := hb.size; (try simp at hz); (try have hz0 : w.heap.size < w'.heap.size := by omega); (try have hz1 : w.heap.size + 1 < w'.heap.size := by omega); (try have hz2 : w.heap.size + 1 + 1 < w'.heap.size := by omega); (try have hz3 : w.heap.size + 1 + 1 + 1 < w'.heap.size := by omega)))
            all_goals exact bodyPost_ret (v := .tuple #[.agg #[.int .i64 1, .int .i64 (n + n'), .string ⟨#[]⟩], .int .i64 0]) (by simp [results, Tryd.results25, go_sem, *]) rfl ⟨rfl, by (repeat (first | exact Below.refl _ _ | assumption | refine Below.drew ?_ | refine below_drewN ?_ _ | refine Below.alloc ?_ (by first | omega | (simp; done) | (simp; omega)) _ | refine Below.setCell ?_ (by first | omega | (simp; done) | (simp; omega)) _ | refine Below.trans ?_ (Below.mono (by assumption) (by first | omega | (simp; done) | (simp; omega)))))⟩
        · have hr : exact2 2 n n' = n - n' := rfl
          obtain ⟨r, hrr⟩ : ∃ r, inR (exact2 2 n n') = r := ⟨_, rfl⟩
          cases r
          · rw [arR_over hop had h3 hz hrr]
            rw [hr] at hrr
            have hr' := inR_not hrr
            clear had hop h3 hrr hr
            have HF : Hid ((decide (-4611686018427387904 ≤ wrap64 (n - n')) && decide (wrap64 (n - n') ≤ 4611686018427387904)) = false) := wrap_out (by omega) (by omega) hr'
            clear hz hr'
            go_enter Tryd.func25, Tryd.ntmps25
            go_wp2_with fail
            refine (refused2 1 _ _ _ _ _ _ _ _ _ (by simp)).mono ?_
            rintro e w' ⟨rfl, hb⟩
            rw [HAD.out]
            (obtain ⟨hc, hf⟩ := bcell hb; have hz := hb.size; (try simp at hz); (try have hz0 : w.heap.size < w'.heap.size := by omega); (try have hz1 : w.heap.size + 1 < w'.heap.size := by omega); (try have hz2 : w.heap.size + 1 + 1 < w'.heap.size := by omega); (try have hz3 : w.heap.size + 1 + 1 + 1 < w'.heap.size := by omega))
            go_wp2_with (first | (go_at_call 50; refine (fits_no _ _ HF.out).mono ?_; rintro e w' ⟨rfl, hb⟩; obtain ⟨hc, hf⟩ := bcell hb; have hz := hb.size; (try simp at hz); (try have hz0 : w.heap.size < w'.heap.size := by omega); (try have hz1 : w.heap.size + 1 < w'.heap.size := by omega); (try have hz2 : w.heap.size + 1 + 1 < w'.heap.size := by omega); (try have hz3 : w.heap.size + 1 + 1 + 1 < w'.heap.size := by omega)))
            all_goals exact bodyPost_ret (v := .tuple #[.agg #[.int .i64 0, .int .i64 0, .string ⟨#[]⟩], .int .i64 12]) (by simp [results, Tryd.results25, go_sem, *]) rfl ⟨rfl, by (repeat (first | exact Below.refl _ _ | assumption | refine Below.drew ?_ | refine below_drewN ?_ _ | refine Below.alloc ?_ (by first | omega | (simp; done) | (simp; omega)) _ | refine Below.setCell ?_ (by first | omega | (simp; done) | (simp; omega)) _ | refine Below.trans ?_ (Below.mono (by assumption) (by first | omega | (simp; done) | (simp; omega)))))⟩
          · rw [arR_ok hop had h3 hz hrr, hr]
            rw [hr] at hrr
            obtain ⟨r1, r2⟩ := inR_iff.1 hrr
            clear had hop h3 hrr hr
            clear hz
            go_enter Tryd.func25, Tryd.ntmps25
            go_wp2_with fail
            refine (refused2 1 _ _ _ _ _ _ _ _ _ (by simp)).mono ?_
            rintro e w' ⟨rfl, hb⟩
            rw [HAD.out]
            (obtain ⟨hc, hf⟩ := bcell hb; have hz := hb.size; (try simp at hz); (try have hz0 : w.heap.size < w'.heap.size := by omega); (try have hz1 : w.heap.size + 1 < w'.heap.size := by omega); (try have hz2 : w.heap.size + 1 + 1 < w'.heap.size := by omega); (try have hz3 : w.heap.size + 1 + 1 + 1 < w'.heap.size := by omega))
            go_wp2_with (first | (go_at_call 50; refine (fits_ok _ _ (by omega) (by omega)).mono ?_; rintro e w' ⟨rfl, hb⟩; obtain ⟨hc, hf⟩ := bcell hb; have hz := hb.size; (try simp at hz); (try have hz0 : w.heap.size < w'.heap.size := by omega); (try have hz1 : w.heap.size + 1 < w'.heap.size := by omega); (try have hz2 : w.heap.size + 1 + 1 < w'.heap.size := by omega); (try have hz3 : w.heap.size + 1 + 1 + 1 < w'.heap.size := by omega)))
            all_goals exact bodyPost_ret (v := .tuple #[.agg #[.int .i64 1, .int .i64 (n - n'), .string ⟨#[]⟩], .int .i64 0]) (by simp [results, Tryd.results25, go_sem, *]) rfl ⟨rfl, by (repeat (first | exact Below.refl _ _ | assumption | refine Below.drew ?_ | refine below_drewN ?_ _ | refine Below.alloc ?_ (by first | omega | (simp; done) | (simp; omega)) _ | refine Below.setCell ?_ (by first | omega | (simp; done) | (simp; omega)) _ | refine Below.trans ?_ (Below.mono (by assumption) (by first | omega | (simp; done) | (simp; omega)))))⟩
        · have hr : exact2 3 n n' = n * n' := rfl
          obtain ⟨r, hrr⟩ : ∃ r, inR (exact2 3 n n') = r := ⟨_, rfl⟩
          cases r
          · rw [arR_over hop had h3 hz hrr]
            rw [hr] at hrr
            have hr' := inR_not hrr
            clear had hop h3 hrr hr
            have HR : Hid (¬ (-4611686018427387904 ≤ n * n' ∧ n * n' ≤ 4611686018427387904)) := hr'
            clear hz hr'
            go_enter Tryd.func25, Tryd.ntmps25
            go_wp2_with fail
            refine (refused2 1 _ _ _ _ _ _ _ _ _ (by simp)).mono ?_
            rintro e w' ⟨rfl, hb⟩
            rw [HAD.out]
            (obtain ⟨hc, hf⟩ := bcell hb; have hz := hb.size; (try simp at hz); (try have hz0 : w.heap.size < w'.heap.size := by omega); (try have hz1 : w.heap.size + 1 < w'.heap.size := by omega); (try have hz2 : w.heap.size + 1 + 1 < w'.heap.size := by omega); (try have hz3 : w.heap.size + 1 + 1 + 1 < w'.heap.size := by omega))
            go_wp2_with (first | (go_at_call 51; refine (times_no n n' _ a1 a2 b1 b2 HR.out).mono ?_; rintro e w' ⟨rfl, rfl⟩))
            all_goals exact bodyPost_ret (v := .tuple #[.agg #[.int .i64 0, .int .i64 0, .string ⟨#[]⟩], .int .i64 12]) (by simp [results, Tryd.results25, go_sem, *]) rfl ⟨rfl, by (repeat (first | exact Below.refl _ _ | assumption | refine Below.drew ?_ | refine below_drewN ?_ _ | refine Below.alloc ?_ (by first | omega | (simp; done) | (simp; omega)) _ | refine Below.setCell ?_ (by first | omega | (simp; done) | (simp; omega)) _ | refine Below.trans ?_ (Below.mono (by assumption) (by first | omega | (simp; done) | (simp; omega)))))⟩
          · rw [arR_ok hop had h3 hz hrr, hr]
            rw [hr] at hrr
            obtain ⟨r1, r2⟩ := inR_iff.1 hrr
            clear had hop h3 hrr hr
            clear hz
            have HR1 : Hid (-4611686018427387904 ≤ n * n') := r1
            have HR2 : Hid (n * n' ≤ 4611686018427387904) := r2
            clear r1 r2
            go_enter Tryd.func25, Tryd.ntmps25
            go_wp2_with fail
            refine (refused2 1 _ _ _ _ _ _ _ _ _ (by simp)).mono ?_
            rintro e w' ⟨rfl, hb⟩
            rw [HAD.out]
            (obtain ⟨hc, hf⟩ := bcell hb; have hz := hb.size; (try simp at hz); (try have hz0 : w.heap.size < w'.heap.size := by omega); (try have hz1 : w.heap.size + 1 < w'.heap.size := by omega); (try have hz2 : w.heap.size + 1 + 1 < w'.heap.size := by omega); (try have hz3 : w.heap.size + 1 + 1 + 1 < w'.heap.size := by omega))
            go_wp2_with (first | (go_at_call 51; refine (times_ok n n' _ a1 a2 b1 b2 HR1.out HR2.out).mono ?_; rintro e w' ⟨rfl, rfl⟩) | (go_at_call 50; refine (fits_ok _ _ HR1.out HR2.out).mono ?_; rintro e w' ⟨rfl, hb⟩; obtain ⟨hc, hf⟩ := bcell hb; have hz := hb.size; (try simp at hz); (try have hz0 : w.heap.size < w'.heap.size := by omega); (try have hz1 : w.heap.size + 1 < w'.heap.size := by omega); (try have hz2 : w.heap.size + 1 + 1 < w'.heap.size := by omega); (try have hz3 : w.heap.size + 1 + 1 + 1 < w'.heap.size := by omega)))
            all_goals exact bodyPost_ret (v := .tuple #[.agg #[.int .i64 1, .int .i64 (n * n'), .string ⟨#[]⟩], .int .i64 0]) (by simp [results, Tryd.results25, go_sem, *]) rfl ⟨rfl, by (repeat (first | exact Below.refl _ _ | assumption | refine Below.drew ?_ | refine below_drewN ?_ _ | refine Below.alloc ?_ (by first | omega | (simp; done) | (simp; omega)) _ | refine Below.setCell ?_ (by first | omega | (simp; done) | (simp; omega)) _ | refine Below.trans ?_ (Below.mono (by assumption) (by first | omega | (simp; done) | (simp; omega)))))⟩
        · have hr : exact2 4 n n' = n.tdiv n' := rfl
          have hin := tdiv_in (b := n') a1 a2
          have hrr : inR (exact2 4 n n') = true := inR_iff.2 hin
          rw [arR_ok hop had h3 hz hrr, hr]
          have hz0 : (n' == 0) = false := by simp; omega
          have hz00 : ¬ n' = 0 := by omega
          obtain ⟨r1, r2⟩ := hin
          clear had hop h3 hrr hr hz
          go_enter Tryd.func25, Tryd.ntmps25
          go_wp2_with fail
          refine (refused2 1 _ _ _ _ _ _ _ _ _ (by simp)).mono ?_
          rintro e w' ⟨rfl, hb⟩
          rw [HAD.out]
          (obtain ⟨hc, hf⟩ := bcell hb; have hz := hb.size; (try simp at hz); (try have hz0 : w.heap.size < w'.heap.size := by omega); (try have hz1 : w.heap.size + 1 < w'.heap.size := by omega); (try have hz2 : w.heap.size + 1 + 1 < w'.heap.size := by omega); (try have hz3 : w.heap.size + 1 + 1 + 1 < w'.heap.size := by omega))
          go_wp2_with (first | (go_at_call 50; refine (fits_ok _ _ (by omega) (by omega)).mono ?_; rintro e w' ⟨rfl, hb⟩; obtain ⟨hc, hf⟩ := bcell hb; have hz := hb.size; (try simp at hz); (try have hz0 : w.heap.size < w'.heap.size := by omega); (try have hz1 : w.heap.size + 1 < w'.heap.size := by omega); (try have hz2 : w.heap.size + 1 + 1 < w'.heap.size := by omega); (try have hz3 : w.heap.size + 1 + 1 + 1 < w'.heap.size := by omega)))
          all_goals exact bodyPost_ret (v := .tuple #[.agg #[.int .i64 1, .int .i64 (n.tdiv n'), .string ⟨#[]⟩], .int .i64 0]) (by simp [results, Tryd.results25, go_sem, *]) rfl ⟨rfl, by (repeat (first | exact Below.refl _ _ | assumption | refine Below.drew ?_ | refine below_drewN ?_ _ | refine Below.alloc ?_ (by first | omega | (simp; done) | (simp; omega)) _ | refine Below.setCell ?_ (by first | omega | (simp; done) | (simp; omega)) _ | refine Below.trans ?_ (Below.mono (by assumption) (by first | omega | (simp; done) | (simp; omega)))))⟩
        · have hr : exact2 5 n n' = n.tmod n' := rfl
          have hin := tmod_in (b := n') a1 a2
          have hrr : inR (exact2 5 n n') = true := inR_iff.2 hin
          rw [arR_ok hop had h3 hz hrr, hr]
          have hz0 : (n' == 0) = false := by simp; omega
          have hz00 : ¬ n' = 0 := by omega
          obtain ⟨r1, r2⟩ := hin
          clear had hop h3 hrr hr hz
          go_enter Tryd.func25, Tryd.ntmps25
          go_wp2_with fail
          refine (refused2 1 _ _ _ _ _ _ _ _ _ (by simp)).mono ?_
          rintro e w' ⟨rfl, hb⟩
          rw [HAD.out]
          (obtain ⟨hc, hf⟩ := bcell hb; have hz := hb.size; (try simp at hz); (try have hz0 : w.heap.size < w'.heap.size := by omega); (try have hz1 : w.heap.size + 1 < w'.heap.size := by omega); (try have hz2 : w.heap.size + 1 + 1 < w'.heap.size := by omega); (try have hz3 : w.heap.size + 1 + 1 + 1 < w'.heap.size := by omega))
          go_wp2_with (first | (go_at_call 50; refine (fits_ok _ _ (by omega) (by omega)).mono ?_; rintro e w' ⟨rfl, hb⟩; obtain ⟨hc, hf⟩ := bcell hb; have hz := hb.size; (try simp at hz); (try have hz0 : w.heap.size < w'.heap.size := by omega); (try have hz1 : w.heap.size + 1 < w'.heap.size := by omega); (try have hz2 : w.heap.size + 1 + 1 < w'.heap.size := by omega); (try have hz3 : w.heap.size + 1 + 1 + 1 < w'.heap.size := by omega)))
          all_goals exact bodyPost_ret (v := .tuple #[.agg #[.int .i64 1, .int .i64 (n.tmod n'), .string ⟨#[]⟩], .int .i64 0]) (by simp [results, Tryd.results25, go_sem, *]) rfl ⟨rfl, by (repeat (first | exact Below.refl _ _ | assumption | refine Below.drew ?_ | refine below_drewN ?_ _ | refine Below.alloc ?_ (by first | omega | (simp; done) | (simp; omega)) _ | refine Below.setCell ?_ (by first | omega | (simp; done) | (simp; omega)) _ | refine Below.trans ?_ (Below.mono (by assumption) (by first | omega | (simp; done) | (simp; omega)))))⟩
  · rw [arR_adm hop had]
    have had' : (adm 1 [(k, n, s), (k', n', s')] != 0) = true := by simpa using had
    clear had hop
    go_enter Tryd.func25, Tryd.ntmps25
    go_wp2_with fail
    refine (refused2 1 _ _ _ _ _ _ _ _ _ (by simp)).mono ?_
    rintro e w' ⟨rfl, hb⟩
    (obtain ⟨hc, hf⟩ := bcell hb; have hz := hb.size; (try simp at hz); (try have hz0 : w.heap.size < w'.heap.size := by omega); (try have hz1 : w.heap.size + 1 < w'.heap.size := by omega); (try have hz2 : w.heap.size + 1 + 1 < w'.heap.size := by omega); (try have hz3 : w.heap.size + 1 + 1 + 1 < w'.heap.size := by omega))
    go_wp2
    all_goals exact bodyPost_ret (v := .tuple #[.agg #[.int .i64 0, .int .i64 0, .string ⟨#[]⟩], .int .i64 (adm 1 [(k, n, s), (k', n', s')])]) (by simp [results, Tryd.results25, go_sem, *]) rfl ⟨rfl, by (repeat (first | exact Below.refl _ _ | assumption | refine Below.drew ?_ | refine below_drewN ?_ _ | refine Below.alloc ?_ (by first | omega | (simp; done) | (simp; omega)) _ | refine Below.setCell ?_ (by first | omega | (simp; done) | (simp; omega)) _ | refine Below.trans ?_ (Below.mono (by assumption) (by first | omega | (simp; done) | (simp; omega)))))⟩
end Go.Proofs.YtfabcdjgakhdmaaDoor
