/- Walks of layer 1: the document's Print. -/
import Derived.Test.YtkigilgoolnaaaaDoorV1
import Derived.Test.YtkigilgoolnaaaaDoorV7
import Derived.Test.YtkigilgoolnaaaaDoorV8
namespace Go.Proofs.YtkigilgoolnaaaaDoor
open Go.RowKit

set_option maxHeartbeats 2000000 in
set_option maxRecDepth 100000 in
theorem rprint_any (v : V3) (w : World) :
    Calls Tryd.prog 49 #[.agg #[.int .i64 v.1, .int .i64 v.2.1, .string v.2.2]] w fun e w' => e = .returned (prV v) ∧ Below w.heap.size w w' := by
  obtain ⟨k, n, s⟩ := v
  cases hr : V3.right (k, n, s) with
  | false =>
    have hrg : rgt k n s = false := hr
    have HP : Hid (prV (k, n, s) = .tuple #[.string ⟨#[]⟩, .int .i64 10]) := by
      have : prV (k, n, s) = .tuple #[.string ⟨#[]⟩, .int .i64 10] := by unfold prV; rw [prR_no hr]
      exact this
    clear hr
    go_enter Tryd.func49, Tryd.ntmps49
    go_wp2_with (first | (go_at_call 18; refine (rright_any _ _ _ _).mono ?_; rintro e w' ⟨rfl, hb⟩; rw [hrg]; (obtain ⟨hc, hf⟩ := bcell hb; have hz := hb.size; (try simp at hz); (try have hz0 : w.heap.size < w'.heap.size := by omega); (try have hz1 : w.heap.size + 1 < w'.heap.size := by omega); (try have hz2 : w.heap.size + 1 + 1 < w'.heap.size := by omega); (try have hz3 : w.heap.size + 1 + 1 + 1 < w'.heap.size := by omega))))
    exact bodyPost_ret (v := .tuple #[.string ⟨#[]⟩, .int .i64 10]) (by simp [results, Tryd.results49, go_sem]) rfl ⟨by rw [HP.out], by (repeat (first | exact Below.refl _ _ | assumption | refine Below.drew ?_ | refine below_drewN ?_ _ | refine Below.alloc ?_ (by first | omega | (simp; done) | (simp; omega)) _ | refine Below.setCell ?_ (by first | omega | (simp; done) | (simp; omega)) _ | refine Below.trans ?_ (Below.mono (by assumption) (by first | omega | (simp; done) | (simp; omega)))))⟩
  | true =>
    have hrg : rgt k n s = true := hr
    have HP : Hid (prV (k, n, s) = .tuple #[.string ⟨(lit (k, n, s)).toArray⟩, .int .i64 0]) := by
      have : prV (k, n, s) = .tuple #[.string ⟨(lit (k, n, s)).toArray⟩, .int .i64 0] := by unfold prV; rw [prR_ok hr]
      exact this
    rcases rt_kind hr with q | q | q | q
    all_goals simp only at q; subst q
    · have HL : Hid (lit (0, n, s) = [78, 85, 76, 76]) := lit_null rfl
      clear hr
      go_enter Tryd.func49, Tryd.ntmps49
      go_wp2_with (first | (go_at_call 18; refine (rright_any _ _ _ _).mono ?_; rintro e w' ⟨rfl, hb⟩; rw [hrg]; (obtain ⟨hc, hf⟩ := bcell hb; have hz := hb.size; (try simp at hz); (try have hz0 : w.heap.size < w'.heap.size := by omega); (try have hz1 : w.heap.size + 1 < w'.heap.size := by omega); (try have hz2 : w.heap.size + 1 + 1 < w'.heap.size := by omega); (try have hz3 : w.heap.size + 1 + 1 + 1 < w'.heap.size := by omega))))
      exact bodyPost_ret (v := .tuple #[.string ⟨#[78, 85, 76, 76]⟩, .int .i64 0]) (by simp [results, Tryd.results49, go_sem]) rfl ⟨by rw [HP.out, HL.out], by (repeat (first | exact Below.refl _ _ | assumption | refine Below.drew ?_ | refine below_drewN ?_ _ | refine Below.alloc ?_ (by first | omega | (simp; done) | (simp; omega)) _ | refine Below.setCell ?_ (by first | omega | (simp; done) | (simp; omega)) _ | refine Below.trans ?_ (Below.mono (by assumption) (by first | omega | (simp; done) | (simp; omega)))))⟩
    · have HL : Hid (lit (1, n, s) = Lib.itoa n) := lit_int rfl
      have b1 := (rt_num hr rfl).1
      have b2 := (rt_num hr rfl).2.1
      simp only at b1 b2
      clear hr
      go_enter Tryd.func49, Tryd.ntmps49
      go_wp2_with fail
      refine (rright_any _ _ _ _).mono ?_
      rintro e w1 ⟨rfl, hb1⟩
      rw [hrg]
      have z1 := hb1.size
      simp at z1
      have c1 : w1.cell? ⟨w.heap.size, 0, none⟩ = some (.int .i64 1) := cell_later hb1 (by simp)
      have c2 : w1.cell? ⟨w.heap.size, 1, none⟩ = some (.int .i64 n) := cell_later hb1 (by simp)
      go_wp2_with fail
      refine (digits_any _ _ (by omega) (by omega)).mono ?_
      rintro e w2 ⟨rfl, hw2⟩
      rw [hw2]
      clear hw2
      go_wp2
      exact bodyPost_ret (v := .tuple #[.string ⟨(Lib.itoa n).toArray⟩, .int .i64 0]) (by simp [results, Tryd.results49, go_sem]) rfl ⟨by rw [HP.out, HL.out], by (repeat (first | exact Below.refl _ _ | assumption | refine Below.drew ?_ | refine below_drewN ?_ _ | refine Below.alloc ?_ (by first | omega | (simp; done) | (simp; omega)) _ | refine Below.setCell ?_ (by first | omega | (simp; done) | (simp; omega)) _ | refine Below.trans ?_ (Below.mono (by assumption) (by first | omega | (simp; done) | (simp; omega)))))⟩
    · have b1 := (right_bool hr rfl).1
      simp only at b1
      rcases b1 with rfl | rfl
      · have HL : Hid (lit (2, 0, s) = [70, 65, 76, 83, 69]) := lit_false rfl rfl
        clear hr
        go_enter Tryd.func49, Tryd.ntmps49
        go_wp2_with (first | (go_at_call 18; refine (rright_any _ _ _ _).mono ?_; rintro e w' ⟨rfl, hb⟩; rw [hrg]; (obtain ⟨hc, hf⟩ := bcell hb; have hz := hb.size; (try simp at hz); (try have hz0 : w.heap.size < w'.heap.size := by omega); (try have hz1 : w.heap.size + 1 < w'.heap.size := by omega); (try have hz2 : w.heap.size + 1 + 1 < w'.heap.size := by omega); (try have hz3 : w.heap.size + 1 + 1 + 1 < w'.heap.size := by omega))))
        exact bodyPost_ret (v := .tuple #[.string ⟨#[70, 65, 76, 83, 69]⟩, .int .i64 0]) (by simp [results, Tryd.results49, go_sem]) rfl ⟨by rw [HP.out, HL.out], by (repeat (first | exact Below.refl _ _ | assumption | refine Below.drew ?_ | refine below_drewN ?_ _ | refine Below.alloc ?_ (by first | omega | (simp; done) | (simp; omega)) _ | refine Below.setCell ?_ (by first | omega | (simp; done) | (simp; omega)) _ | refine Below.trans ?_ (Below.mono (by assumption) (by first | omega | (simp; done) | (simp; omega)))))⟩
      · have HL : Hid (lit (2, 1, s) = [84, 82, 85, 69]) := lit_true rfl rfl
        clear hr
        go_enter Tryd.func49, Tryd.ntmps49
        go_wp2_with (first | (go_at_call 18; refine (rright_any _ _ _ _).mono ?_; rintro e w' ⟨rfl, hb⟩; rw [hrg]; (obtain ⟨hc, hf⟩ := bcell hb; have hz := hb.size; (try simp at hz); (try have hz0 : w.heap.size < w'.heap.size := by omega); (try have hz1 : w.heap.size + 1 < w'.heap.size := by omega); (try have hz2 : w.heap.size + 1 + 1 < w'.heap.size := by omega); (try have hz3 : w.heap.size + 1 + 1 + 1 < w'.heap.size := by omega))))
        exact bodyPost_ret (v := .tuple #[.string ⟨#[84, 82, 85, 69]⟩, .int .i64 0]) (by simp [results, Tryd.results49, go_sem]) rfl ⟨by rw [HP.out, HL.out], by (repeat (first | exact Below.refl _ _ | assumption | refine Below.drew ?_ | refine below_drewN ?_ _ | refine Below.alloc ?_ (by first | omega | (simp; done) | (simp; omega)) _ | refine Below.setCell ?_ (by first | omega | (simp; done) | (simp; omega)) _ | refine Below.trans ?_ (Below.mono (by assumption) (by first | omega | (simp; done) | (simp; omega)))))⟩
    · have HL : Hid (lit (3, n, s) = quo s) := lit_text rfl
      have b1 := (rt_text hr rfl).2
      simp only at b1
      clear hr
      go_enter Tryd.func49, Tryd.ntmps49
      go_wp2_with (first | (go_at_call 18; refine (rright_any _ _ _ _).mono ?_; rintro e w' ⟨rfl, hb⟩; rw [hrg]; (obtain ⟨hc, hf⟩ := bcell hb; have hz := hb.size; (try simp at hz); (try have hz0 : w.heap.size < w'.heap.size := by omega); (try have hz1 : w.heap.size + 1 < w'.heap.size := by omega); (try have hz2 : w.heap.size + 1 + 1 < w'.heap.size := by omega); (try have hz3 : w.heap.size + 1 + 1 + 1 < w'.heap.size := by omega))) | (go_at_call 59; refine (quoted_any _ _ (by omega)).mono ?_; rintro e w2 ⟨rfl, hb2⟩))
      exact bodyPost_ret (v := .tuple #[.string ⟨(quo s).toArray⟩, .int .i64 0]) (by simp [results, Tryd.results49, go_sem]) rfl ⟨by rw [HP.out, HL.out], by (repeat (first | exact Below.refl _ _ | assumption | refine Below.drew ?_ | refine below_drewN ?_ _ | refine Below.alloc ?_ (by first | omega | (simp; done) | (simp; omega)) _ | refine Below.setCell ?_ (by first | omega | (simp; done) | (simp; omega)) _ | refine Below.trans ?_ (Below.mono (by assumption) (by first | omega | (simp; done) | (simp; omega)))))⟩
end Go.Proofs.YtkigilgoolnaaaaDoor
