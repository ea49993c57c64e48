/- Walks of layer 1, seventh part: Arith and Neg. -/
import Derived.Test.YtenpggdmmgokpaaDoorW5
import Derived.Test.YtenpggdmmgokpaaDoorW6
import Derived.Test.YtenpggdmmgokpaaDoorW3b
namespace Go.Proofs.YtenpggdmmgokpaaDoor
open Go.RowKit

set_option maxHeartbeats 2000000 in
theorem arith_any (op k n : Int) (s : ByteArray) (k' n' : Int) (s' : ByteArray) (w : World) :
    Calls Tryd.prog 16 #[.int .i64 op, .agg #[.int .i64 k, .int .i64 n, .string s], .agg #[.int .i64 k', .int .i64 n', .string s']] w fun e w' =>
      e = .returned (.tuple #[.agg #[.int .i64 (arR op k n s k' n' s').1, .int .i64 (arR op k n s k' n' s').2.1, .string ⟨#[]⟩], .int .i64 (arR op k n s k' n' s').2.2]) ∧ Below w.heap.size w w' := by
  by_cases hop : op < 1 ∨ 5 < op
  · rw [arR_op hop]
    go_enter Tryd.func16, Tryd.ntmps16
    go_wp2_with (first | (go_at_call 23; refine (null_any _).mono ?_; rintro e w' ⟨rfl, hb⟩; obtain ⟨hc, hf⟩ := bcell hb; have hz := hb.size; (try simp at hz); (try have hz0 : w.heap.size < w'.heap.size := by omega); (try have hz1 : w.heap.size + 1 < w'.heap.size := by omega); (try have hz2 : w.heap.size + 1 + 1 < w'.heap.size := by omega); (try have hz3 : w.heap.size + 1 + 1 + 1 < w'.heap.size := by omega)))
    all_goals exact bodyPost_ret (v := .tuple #[.agg #[.int .i64 0, .int .i64 0, .string ⟨#[]⟩], .int .i64 1]) (by simp [results, Tryd.results16, go_sem, *]) rfl ⟨rfl, by (repeat (first | exact Below.refl _ _ | assumption | refine Below.drew ?_ | refine below_drewN ?_ _ | refine Below.alloc ?_ (by first | omega | (simp; done) | (simp; omega)) _ | refine Below.setCell ?_ (by first | omega | (simp; done) | (simp; omega)) _ | refine Below.trans ?_ (Below.mono (by assumption) (by first | omega | (simp; done) | (simp; omega)))))⟩
  have o1 : 1 ≤ op := by omega
  have o2 : op ≤ 5 := by omega
  by_cases had : adm 1 [(k, n, s), (k', n', s')] = 0
  · have hall := adm_zero had
    have ga := hall (k, n, s) (by simp)
    have gb := hall (k', n', s') (by simp)
    by_cases h3 : k = 0 ∨ k' = 0
    · rw [arR_null hop had h3]
      clear hop hall ga gb
      have HAD : Hid (adm 1 [(k, n, s), (k', n', s')] = 0) := had
      clear had
      by_cases h4 : k = 0
      · subst h4
        clear h3
        go_enter Tryd.func16, Tryd.ntmps16
        go_wp2_with fail
        refine (admit2 1 _ _ _ _ _ _ _ _ _ (by simp)).mono ?_
        rintro e w' ⟨rfl, hb⟩
        rw [HAD.out]
        (obtain ⟨hc, hf⟩ := bcell hb; have hz := hb.size; (try simp at hz); (try have hz0 : w.heap.size < w'.heap.size := by omega); (try have hz1 : w.heap.size + 1 < w'.heap.size := by omega); (try have hz2 : w.heap.size + 1 + 1 < w'.heap.size := by omega); (try have hz3 : w.heap.size + 1 + 1 + 1 < w'.heap.size := by omega))
        go_wp2_with (first | (go_at_call 23; refine (null_any _).mono ?_; rintro e w' ⟨rfl, hb⟩; obtain ⟨hc, hf⟩ := bcell hb; have hz := hb.size; (try simp at hz); (try have hz0 : w.heap.size < w'.heap.size := by omega); (try have hz1 : w.heap.size + 1 < w'.heap.size := by omega); (try have hz2 : w.heap.size + 1 + 1 < w'.heap.size := by omega); (try have hz3 : w.heap.size + 1 + 1 + 1 < w'.heap.size := by omega)))
        all_goals exact bodyPost_ret (v := .tuple #[.agg #[.int .i64 0, .int .i64 0, .string ⟨#[]⟩], .int .i64 0]) (by simp [results, Tryd.results16, go_sem, *]) rfl ⟨rfl, by (repeat (first | exact Below.refl _ _ | assumption | refine Below.drew ?_ | refine below_drewN ?_ _ | refine Below.alloc ?_ (by first | omega | (simp; done) | (simp; omega)) _ | refine Below.setCell ?_ (by first | omega | (simp; done) | (simp; omega)) _ | refine Below.trans ?_ (Below.mono (by assumption) (by first | omega | (simp; done) | (simp; omega)))))⟩
      · have h5 : k' = 0 := by omega
        subst h5
        have h4' : (k == 0) = false := by simpa using h4
        clear h3 h4
        go_enter Tryd.func16, Tryd.ntmps16
        go_wp2_with fail
        refine (admit2 1 _ _ _ _ _ _ _ _ _ (by simp)).mono ?_
        rintro e w' ⟨rfl, hb⟩
        rw [HAD.out]
        (obtain ⟨hc, hf⟩ := bcell hb; have hz := hb.size; (try simp at hz); (try have hz0 : w.heap.size < w'.heap.size := by omega); (try have hz1 : w.heap.size + 1 < w'.heap.size := by omega); (try have hz2 : w.heap.size + 1 + 1 < w'.heap.size := by omega); (try have hz3 : w.heap.size + 1 + 1 + 1 < w'.heap.size := by omega))
        go_wp2_with (first | (go_at_call 23; refine (null_any _).mono ?_; rintro e w' ⟨rfl, hb⟩; obtain ⟨hc, hf⟩ := bcell hb; have hz := hb.size; (try simp at hz); (try have hz0 : w.heap.size < w'.heap.size := by omega); (try have hz1 : w.heap.size + 1 < w'.heap.size := by omega); (try have hz2 : w.heap.size + 1 + 1 < w'.heap.size := by omega); (try have hz3 : w.heap.size + 1 + 1 + 1 < w'.heap.size := by omega)))
        all_goals exact bodyPost_ret (v := .tuple #[.agg #[.int .i64 0, .int .i64 0, .string ⟨#[]⟩], .int .i64 0]) (by simp [results, Tryd.results16, go_sem, *]) rfl ⟨rfl, by (repeat (first | exact Below.refl _ _ | assumption | refine Below.drew ?_ | refine below_drewN ?_ _ | refine Below.alloc ?_ (by first | omega | (simp; done) | (simp; omega)) _ | refine Below.setCell ?_ (by first | omega | (simp; done) | (simp; omega)) _ | refine Below.trans ?_ (Below.mono (by assumption) (by first | omega | (simp; done) | (simp; omega)))))⟩
    · have k1 : k = 1 := by have := ga.2; simp at this; omega
      have k2 : k' = 1 := by have := gb.2; simp at this; omega
      subst k1 k2
      obtain ⟨a1, a2⟩ := right_int ga.1 rfl
      obtain ⟨b1, b2⟩ := right_int gb.1 rfl
      simp only at a1 a2 b1 b2
      clear hall ga gb
      have HAD : Hid (adm 1 [(1, n, s), (1, n', s')] = 0) := had
      by_cases hz : (op = 4 ∨ op = 5) ∧ n' = 0
      · rw [arR_zero hop had h3 hz]
        obtain ⟨hz1, rfl⟩ := hz
        clear had hop h3
        rcases hz1 with rfl | rfl
        all_goals
          go_enter Tryd.func16, Tryd.ntmps16
          go_wp2_with fail
          refine (admit2 1 _ _ _ _ _ _ _ _ _ (by simp)).mono ?_
          rintro e w' ⟨rfl, hb⟩
          rw [HAD.out]
          (obtain ⟨hc, hf⟩ := bcell hb; have hz := hb.size; (try simp at hz); (try have hz0 : w.heap.size < w'.heap.size := by omega); (try have hz1 : w.heap.size + 1 < w'.heap.size := by omega); (try have hz2 : w.heap.size + 1 + 1 < w'.heap.size := by omega); (try have hz3 : w.heap.size + 1 + 1 + 1 < w'.heap.size := by omega))
          go_wp2_with (first | (go_at_call 23; refine (null_any _).mono ?_; rintro e w' ⟨rfl, hb⟩; obtain ⟨hc, hf⟩ := bcell hb; have hz := hb.size; (try simp at hz); (try have hz0 : w.heap.size < w'.heap.size := by omega); (try have hz1 : w.heap.size + 1 < w'.heap.size := by omega); (try have hz2 : w.heap.size + 1 + 1 < w'.heap.size := by omega); (try have hz3 : w.heap.size + 1 + 1 + 1 < w'.heap.size := by omega)))
          exact bodyPost_ret (v := .tuple #[.agg #[.int .i64 0, .int .i64 0, .string ⟨#[]⟩], .int .i64 13]) (by simp [results, Tryd.results16, go_sem, *]) rfl ⟨rfl, by (repeat (first | exact Below.refl _ _ | assumption | refine Below.drew ?_ | refine below_drewN ?_ _ | refine Below.alloc ?_ (by first | omega | (simp; done) | (simp; omega)) _ | refine Below.setCell ?_ (by first | omega | (simp; done) | (simp; omega)) _ | refine Below.trans ?_ (Below.mono (by assumption) (by first | omega | (simp; done) | (simp; omega)))))⟩
      · obtain ⟨r, hr⟩ : ∃ r, inR (exact2 op n n') = r := ⟨_, rfl⟩
        have HZZ : Hid (¬ ((op = 4 ∨ op = 5) ∧ n' = 0)) := hz
        have HRR : Hid (inR (exact2 op n n') = r) := hr
        obtain ⟨t, ht⟩ : ∃ t, ((op = 4 ∨ op = 5) ∧ n' = 0) = t := ⟨_, rfl⟩
        cases r
        · rw [arR_over hop had h3 hz hr]
          clear had hop h3 hz hr ht
          by_cases q4 : op = 4 ∨ op = 5
          · have q0 : (n' == 0) = false := by have := HZZ.out; simp; omega
            rcases q4 with rfl | rfl
            all_goals
              go_enter Tryd.func16, Tryd.ntmps16
              go_wp2_with fail
              refine (admit2 1 _ _ _ _ _ _ _ _ _ (by simp)).mono ?_
              rintro e w' ⟨rfl, hb⟩
              rw [HAD.out]
              (obtain ⟨hc, hf⟩ := bcell hb; have hz := hb.size; (try simp at hz); (try have hz0 : w.heap.size < w'.heap.size := by omega); (try have hz1 : w.heap.size + 1 < w'.heap.size := by omega); (try have hz2 : w.heap.size + 1 + 1 < w'.heap.size := by omega); (try have hz3 : w.heap.size + 1 + 1 + 1 < w'.heap.size := by omega))
              go_wp2_with (first | (go_at_call 23; refine (null_any _).mono ?_; rintro e w' ⟨rfl, hb⟩; obtain ⟨hc, hf⟩ := bcell hb; have hz := hb.size; (try simp at hz); (try have hz0 : w.heap.size < w'.heap.size := by omega); (try have hz1 : w.heap.size + 1 < w'.heap.size := by omega); (try have hz2 : w.heap.size + 1 + 1 < w'.heap.size := by omega); (try have hz3 : w.heap.size + 1 + 1 + 1 < w'.heap.size := by omega)) | (go_at_call 33; refine (reckon_no _ n n' _ a1 a2 b1 b2 (by omega) (by omega) HRR.out).mono ?_; rintro e w' ⟨x, rfl, rfl⟩))
              exact bodyPost_ret (v := .tuple #[.agg #[.int .i64 0, .int .i64 0, .string ⟨#[]⟩], .int .i64 12]) (by simp [results, Tryd.results16, go_sem, *]) rfl ⟨rfl, by (repeat (first | exact Below.refl _ _ | assumption | refine Below.drew ?_ | refine below_drewN ?_ _ | refine Below.alloc ?_ (by first | omega | (simp; done) | (simp; omega)) _ | refine Below.setCell ?_ (by first | omega | (simp; done) | (simp; omega)) _ | refine Below.trans ?_ (Below.mono (by assumption) (by first | omega | (simp; done) | (simp; omega)))))⟩
          · have q1 : (op == 4) = false := by simp; omega
            have q2 : (op == 5) = false := by simp; omega
            clear q4
            go_enter Tryd.func16, Tryd.ntmps16
            go_wp2_with fail
            refine (admit2 1 _ _ _ _ _ _ _ _ _ (by simp)).mono ?_
            rintro e w' ⟨rfl, hb⟩
            rw [HAD.out]
            (obtain ⟨hc, hf⟩ := bcell hb; have hz := hb.size; (try simp at hz); (try have hz0 : w.heap.size < w'.heap.size := by omega); (try have hz1 : w.heap.size + 1 < w'.heap.size := by omega); (try have hz2 : w.heap.size + 1 + 1 < w'.heap.size := by omega); (try have hz3 : w.heap.size + 1 + 1 + 1 < w'.heap.size := by omega))
            go_wp2_with (first | (go_at_call 23; refine (null_any _).mono ?_; rintro e w' ⟨rfl, hb⟩; obtain ⟨hc, hf⟩ := bcell hb; have hz := hb.size; (try simp at hz); (try have hz0 : w.heap.size < w'.heap.size := by omega); (try have hz1 : w.heap.size + 1 < w'.heap.size := by omega); (try have hz2 : w.heap.size + 1 + 1 < w'.heap.size := by omega); (try have hz3 : w.heap.size + 1 + 1 + 1 < w'.heap.size := by omega)) | (go_at_call 33; refine (reckon_no _ n n' _ a1 a2 b1 b2 o1 o2 HRR.out).mono ?_; rintro e w' ⟨x, rfl, rfl⟩))
            exact bodyPost_ret (v := .tuple #[.agg #[.int .i64 0, .int .i64 0, .string ⟨#[]⟩], .int .i64 12]) (by simp [results, Tryd.results16, go_sem, *]) rfl ⟨rfl, by (repeat (first | exact Below.refl _ _ | assumption | refine Below.drew ?_ | refine below_drewN ?_ _ | refine Below.alloc ?_ (by first | omega | (simp; done) | (simp; omega)) _ | refine Below.setCell ?_ (by first | omega | (simp; done) | (simp; omega)) _ | refine Below.trans ?_ (Below.mono (by assumption) (by first | omega | (simp; done) | (simp; omega)))))⟩
        · rw [arR_ok hop had h3 hz hr]
          clear had hop h3 hz hr ht
          by_cases q4 : op = 4 ∨ op = 5
          · have q0 : (n' == 0) = false := by have := HZZ.out; simp; omega
            rcases q4 with q | q
            · have q1 : (op == 4) = true := by simp [q]
              clear q
              go_enter Tryd.func16, Tryd.ntmps16
              go_wp2_with fail
              refine (admit2 1 _ _ _ _ _ _ _ _ _ (by simp)).mono ?_
              rintro e w' ⟨rfl, hb⟩
              rw [HAD.out]
              (obtain ⟨hc, hf⟩ := bcell hb; have hz := hb.size; (try simp at hz); (try have hz0 : w.heap.size < w'.heap.size := by omega); (try have hz1 : w.heap.size + 1 < w'.heap.size := by omega); (try have hz2 : w.heap.size + 1 + 1 < w'.heap.size := by omega); (try have hz3 : w.heap.size + 1 + 1 + 1 < w'.heap.size := by omega))
              go_wp2_with (first | (go_at_call 34; refine (number_any _ _).mono ?_; rintro e w' ⟨rfl, hb⟩; obtain ⟨hc, hf⟩ := bcell hb; have hz := hb.size; (try simp at hz); (try have hz0 : w.heap.size < w'.heap.size := by omega); (try have hz1 : w.heap.size + 1 < w'.heap.size := by omega); (try have hz2 : w.heap.size + 1 + 1 < w'.heap.size := by omega); (try have hz3 : w.heap.size + 1 + 1 + 1 < w'.heap.size := by omega)) | (go_at_call 33; refine (reckon_ok _ n n' _ a1 a2 b1 b2 o1 o2 HZZ.out HRR.out).mono ?_; rintro e w' ⟨rfl, rfl⟩))
              exact bodyPost_ret (v := .tuple #[.agg #[.int .i64 1, .int .i64 (exact2 _ n n'), .string ⟨#[]⟩], .int .i64 0]) (by simp [results, Tryd.results16, go_sem, *]) rfl ⟨rfl, by (repeat (first | exact Below.refl _ _ | assumption | refine Below.drew ?_ | refine below_drewN ?_ _ | refine Below.alloc ?_ (by first | omega | (simp; done) | (simp; omega)) _ | refine Below.setCell ?_ (by first | omega | (simp; done) | (simp; omega)) _ | refine Below.trans ?_ (Below.mono (by assumption) (by first | omega | (simp; done) | (simp; omega)))))⟩
            · have q1 : (op == 4) = false := by simp [q]
              have q2 : (op == 5) = true := by simp [q]
              clear q
              go_enter Tryd.func16, Tryd.ntmps16
              go_wp2_with fail
              refine (admit2 1 _ _ _ _ _ _ _ _ _ (by simp)).mono ?_
              rintro e w' ⟨rfl, hb⟩
              rw [HAD.out]
              (obtain ⟨hc, hf⟩ := bcell hb; have hz := hb.size; (try simp at hz); (try have hz0 : w.heap.size < w'.heap.size := by omega); (try have hz1 : w.heap.size + 1 < w'.heap.size := by omega); (try have hz2 : w.heap.size + 1 + 1 < w'.heap.size := by omega); (try have hz3 : w.heap.size + 1 + 1 + 1 < w'.heap.size := by omega))
              go_wp2_with (first | (go_at_call 34; refine (number_any _ _).mono ?_; rintro e w' ⟨rfl, hb⟩; obtain ⟨hc, hf⟩ := bcell hb; have hz := hb.size; (try simp at hz); (try have hz0 : w.heap.size < w'.heap.size := by omega); (try have hz1 : w.heap.size + 1 < w'.heap.size := by omega); (try have hz2 : w.heap.size + 1 + 1 < w'.heap.size := by omega); (try have hz3 : w.heap.size + 1 + 1 + 1 < w'.heap.size := by omega)) | (go_at_call 33; refine (reckon_ok _ n n' _ a1 a2 b1 b2 o1 o2 HZZ.out HRR.out).mono ?_; rintro e w' ⟨rfl, rfl⟩))
              exact bodyPost_ret (v := .tuple #[.agg #[.int .i64 1, .int .i64 (exact2 _ n n'), .string ⟨#[]⟩], .int .i64 0]) (by simp [results, Tryd.results16, go_sem, *]) rfl ⟨rfl, by (repeat (first | exact Below.refl _ _ | assumption | refine Below.drew ?_ | refine below_drewN ?_ _ | refine Below.alloc ?_ (by first | omega | (simp; done) | (simp; omega)) _ | refine Below.setCell ?_ (by first | omega | (simp; done) | (simp; omega)) _ | refine Below.trans ?_ (Below.mono (by assumption) (by first | omega | (simp; done) | (simp; omega)))))⟩
          · have q1 : (op == 4) = false := by simp; omega
            have q2 : (op == 5) = false := by simp; omega
            clear q4
            go_enter Tryd.func16, Tryd.ntmps16
            go_wp2_with fail
            refine (admit2 1 _ _ _ _ _ _ _ _ _ (by simp)).mono ?_
            rintro e w' ⟨rfl, hb⟩
            rw [HAD.out]
            (obtain ⟨hc, hf⟩ := bcell hb; have hz := hb.size; (try simp at hz); (try have hz0 : w.heap.size < w'.heap.size := by omega); (try have hz1 : w.heap.size + 1 < w'.heap.size := by omega); (try have hz2 : w.heap.size + 1 + 1 < w'.heap.size := by omega); (try have hz3 : w.heap.size + 1 + 1 + 1 < w'.heap.size := by omega))
            go_wp2_with (first | (go_at_call 34; refine (number_any _ _).mono ?_; rintro e w' ⟨rfl, hb⟩; obtain ⟨hc, hf⟩ := bcell hb; have hz := hb.size; (try simp at hz); (try have hz0 : w.heap.size < w'.heap.size := by omega); (try have hz1 : w.heap.size + 1 < w'.heap.size := by omega); (try have hz2 : w.heap.size + 1 + 1 < w'.heap.size := by omega); (try have hz3 : w.heap.size + 1 + 1 + 1 < w'.heap.size := by omega)) | (go_at_call 33; refine (reckon_ok _ n n' _ a1 a2 b1 b2 o1 o2 HZZ.out HRR.out).mono ?_; rintro e w' ⟨rfl, rfl⟩))
            exact bodyPost_ret (v := .tuple #[.agg #[.int .i64 1, .int .i64 (exact2 _ n n'), .string ⟨#[]⟩], .int .i64 0]) (by simp [results, Tryd.results16, go_sem, *]) rfl ⟨rfl, by (repeat (first | exact Below.refl _ _ | assumption | refine Below.drew ?_ | refine below_drewN ?_ _ | refine Below.alloc ?_ (by first | omega | (simp; done) | (simp; omega)) _ | refine Below.setCell ?_ (by first | omega | (simp; done) | (simp; omega)) _ | refine Below.trans ?_ (Below.mono (by assumption) (by first | omega | (simp; done) | (simp; omega)))))⟩
  · rw [arR_adm hop had]
    have had' : (adm 1 [(k, n, s), (k', n', s')] != 0) = true := by simpa using had
    clear had hop
    go_enter Tryd.func16, Tryd.ntmps16
    go_wp2_with fail
    refine (admit2 1 _ _ _ _ _ _ _ _ _ (by simp)).mono ?_
    rintro e w' ⟨rfl, hb⟩
    (obtain ⟨hc, hf⟩ := bcell hb; have hz := hb.size; (try simp at hz); (try have hz0 : w.heap.size < w'.heap.size := by omega); (try have hz1 : w.heap.size + 1 < w'.heap.size := by omega); (try have hz2 : w.heap.size + 1 + 1 < w'.heap.size := by omega); (try have hz3 : w.heap.size + 1 + 1 + 1 < w'.heap.size := by omega))
    go_wp2_with (first | (go_at_call 23; refine (null_any _).mono ?_; rintro e w' ⟨rfl, hb⟩; obtain ⟨hc, hf⟩ := bcell hb; have hz := hb.size; (try simp at hz); (try have hz0 : w.heap.size < w'.heap.size := by omega); (try have hz1 : w.heap.size + 1 < w'.heap.size := by omega); (try have hz2 : w.heap.size + 1 + 1 < w'.heap.size := by omega); (try have hz3 : w.heap.size + 1 + 1 + 1 < w'.heap.size := by omega)))
    all_goals exact bodyPost_ret (v := .tuple #[.agg #[.int .i64 0, .int .i64 0, .string ⟨#[]⟩], .int .i64 (adm 1 [(k, n, s), (k', n', s')])]) (by simp [results, Tryd.results16, go_sem, *]) rfl ⟨rfl, by (repeat (first | exact Below.refl _ _ | assumption | refine Below.drew ?_ | refine below_drewN ?_ _ | refine Below.alloc ?_ (by first | omega | (simp; done) | (simp; omega)) _ | refine Below.setCell ?_ (by first | omega | (simp; done) | (simp; omega)) _ | refine Below.trans ?_ (Below.mono (by assumption) (by first | omega | (simp; done) | (simp; omega)))))⟩
end Go.Proofs.YtenpggdmmgokpaaDoor
