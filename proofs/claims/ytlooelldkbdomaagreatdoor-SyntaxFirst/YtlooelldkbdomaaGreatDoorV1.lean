/- Walks of layer 1: Print, at every value. -/
import Derived.Test.YtlooelldkbdomaaGreatDoorW12
import Derived.Test.YtlooelldkbdomaaGreatDoorM26
import Derived.Test.YtlooelldkbdomaaGreatDoorSh
import Derived.Test.YtlooelldkbdomaaGreatDoorRows
import Derived.Lib.AppendIntMem
import Derived.Lib.AtoiErrMem
namespace Go.Proofs.YtlooelldkbdomaaGreatDoor
open Go.RowKit

/-- The name of the library's table of powers of ten, as the row names it. -/
def powName : String := Rows.syntaxTreesRow.named.getD 2 ""
/-- What the library's variables hold. -/
def SV (w : World) : Prop := Lib.TabIs Tryz.prog w powName .u64 Lib.pow10Tab ∧ (∃ tp p, w.var? Tryz.prog "strconv.ErrSyntax" = some #[.iface tp p]) ∧ (∃ tp p, w.var? Tryz.prog "strconv.ErrRange" = some #[.iface tp p])
theorem var_later {w w' : World} {n : String} {cs : Array Value} (h : w.var? Tryz.prog n = some cs) (hb : Below w.heap.size w w') : w'.var? Tryz.prog n = some cs := by
  unfold World.var? at h ⊢
  cases hg : Tryz.prog.globalNamed n with
  | none => simp [hg] at h
  | some g =>
    simp only [hg, Option.bind_some] at h ⊢
    have hlt : g < w.heap.size := by
      rcases Nat.lt_or_ge g w.heap.size with h' | h'
      · exact h'
      · rw [Array.getElem?_eq_none h'] at h; simp at h
    rw [hb.block g hlt]
    exact h
theorem SV.later {w w' : World} (h : SV w) (hb : Below w.heap.size w w') : SV w' := by
  obtain ⟨a, ⟨tp, p, b⟩, ⟨tq, q, c⟩⟩ := h
  exact ⟨Lib.tabBelow_of_tabIs a w' hb, ⟨tp, p, var_later b hb⟩, ⟨tq, q, var_later c hb⟩⟩
theorem SV.alloc {w : World} (h : SV w) (o : Obj) : SV (w.alloc o) := h.later ((Below.refl _ _).alloc (Nat.le_refl _) _)
theorem itoa_any (n : Int) (w : World) (h : SV w) (h0 : -9223372036854775808 ≤ n) (h1 : n ≤ 9223372036854775807) :
    Calls Tryz.prog 169 #[.int .i64 n] w fun e w' => e = .returned (.string ⟨(Lib.itoa n).toArray⟩) ∧ Below w.heap.size w w' := by
  refine (Go.Proofs.Any.strconv_Itoa Tryz.laysM171 n h0 h1 w h.1).mono ?_
  rintro e w' ⟨rfl, k, os, rfl⟩
  exact ⟨rfl, Lib.below_grow _ _ (Nat.le_refl _) _ _⟩

/-- What Print answers. -/
def prV (v : V3) : Value := .tuple #[.string ⟨(prR v).1.toArray⟩, .int .i64 (prR v).2]

set_option maxHeartbeats 2000000 in
set_option maxRecDepth 100000 in
theorem print_any (v : V3) (w : World) (h : SV w) :
    Calls Tryz.prog 149 #[.agg #[.int .i64 v.1, .int .i64 v.2.1, .string v.2.2]] w fun e w' => e = .returned (prV v) ∧ Below w.heap.size w w' := by
  have HSV : Hid (SV w) := h
  clear h
  obtain ⟨k, n, s⟩ := v
  cases hr : V3.right (k, n, s) with
  | false =>
    have hrg : rgt k n s = false := hr
    have HP : Hid (prV (k, n, s) = .tuple #[.string ⟨#[]⟩, .int .i64 10]) := by
      have : prV (k, n, s) = .tuple #[.string ⟨#[]⟩, .int .i64 10] := by unfold prV; rw [prR_no hr]
      exact this
    clear hr
    go_enter Tryz.func149, Tryz.ntmps149
    go_wp2_with (first | (go_at_call 162; refine (right_any _ _ _ _).mono ?_; rintro e w' ⟨rfl, hb⟩; rw [hrg]; (obtain ⟨hc, hf⟩ := bcell hb; have hz := hb.size; (try simp at hz); (try have hz0 : w.heap.size < w'.heap.size := by omega); (try have hz1 : w.heap.size + 1 < w'.heap.size := by omega); (try have hz2 : w.heap.size + 1 + 1 < w'.heap.size := by omega); (try have hz3 : w.heap.size + 1 + 1 + 1 < w'.heap.size := by omega))))
    exact bodyPost_ret (v := .tuple #[.string ⟨#[]⟩, .int .i64 10]) (by simp [results, Tryz.results149, go_sem]) rfl ⟨by rw [HP.out], by (repeat (first | exact Below.refl _ _ | assumption | refine Below.drew ?_ | refine below_drewN ?_ _ | refine Below.alloc ?_ (by first | omega | (simp; done) | (simp; omega)) _ | refine Below.setCell ?_ (by first | omega | (simp; done) | (simp; omega)) _ | refine Below.trans ?_ (Below.mono (by assumption) (by first | omega | (simp; done) | (simp; omega)))))⟩
  | true =>
    have hrg : rgt k n s = true := hr
    have HP : Hid (prV (k, n, s) = .tuple #[.string ⟨(lit (k, n, s)).toArray⟩, .int .i64 0]) := by
      have : prV (k, n, s) = .tuple #[.string ⟨(lit (k, n, s)).toArray⟩, .int .i64 0] := by unfold prV; rw [prR_ok hr]
      exact this
    rcases rt_kind hr with q | q | q | q
    all_goals simp only at q; subst q
    · have HL : Hid (lit (0, n, s) = [78, 85, 76, 76]) := lit_null rfl
      clear hr
      go_enter Tryz.func149, Tryz.ntmps149
      go_wp2_with (first | (go_at_call 162; refine (right_any _ _ _ _).mono ?_; rintro e w' ⟨rfl, hb⟩; rw [hrg]; (obtain ⟨hc, hf⟩ := bcell hb; have hz := hb.size; (try simp at hz); (try have hz0 : w.heap.size < w'.heap.size := by omega); (try have hz1 : w.heap.size + 1 < w'.heap.size := by omega); (try have hz2 : w.heap.size + 1 + 1 < w'.heap.size := by omega); (try have hz3 : w.heap.size + 1 + 1 + 1 < w'.heap.size := by omega))))
      exact bodyPost_ret (v := .tuple #[.string ⟨#[78, 85, 76, 76]⟩, .int .i64 0]) (by simp [results, Tryz.results149, go_sem]) rfl ⟨by rw [HP.out, HL.out], by (repeat (first | exact Below.refl _ _ | assumption | refine Below.drew ?_ | refine below_drewN ?_ _ | refine Below.alloc ?_ (by first | omega | (simp; done) | (simp; omega)) _ | refine Below.setCell ?_ (by first | omega | (simp; done) | (simp; omega)) _ | refine Below.trans ?_ (Below.mono (by assumption) (by first | omega | (simp; done) | (simp; omega)))))⟩
    · have HL : Hid (lit (1, n, s) = Lib.itoa n) := lit_int rfl
      have b1 := (rt_num hr rfl).1
      have b2 := (rt_num hr rfl).2.1
      simp only at b1 b2
      clear hr
      go_enter Tryz.func149, Tryz.ntmps149
      go_wp2_with fail
      refine (right_any _ _ _ _).mono ?_
      rintro e w1 ⟨rfl, hb1⟩
      rw [hrg]
      have z1 := hb1.size
      simp at z1
      have c1 : w1.cell? ⟨w.heap.size, 0, none⟩ = some (.int .i64 1) := cell_later hb1 (by simp)
      have c2 : w1.cell? ⟨w.heap.size, 1, none⟩ = some (.int .i64 n) := cell_later hb1 (by simp)
      go_wp2_with fail
      refine (itoa_any _ _ ((HSV.out.alloc _).later hb1) (by omega) (by omega)).mono ?_
      rintro e w2 ⟨rfl, hb2⟩
      go_wp2
      exact bodyPost_ret (v := .tuple #[.string ⟨(Lib.itoa n).toArray⟩, .int .i64 0]) (by simp [results, Tryz.results149, go_sem]) rfl ⟨by rw [HP.out, HL.out], by (repeat (first | exact Below.refl _ _ | assumption | refine Below.drew ?_ | refine below_drewN ?_ _ | refine Below.alloc ?_ (by first | omega | (simp; done) | (simp; omega)) _ | refine Below.setCell ?_ (by first | omega | (simp; done) | (simp; omega)) _ | refine Below.trans ?_ (Below.mono (by assumption) (by first | omega | (simp; done) | (simp; omega)))))⟩
    · have b1 := (right_bool hr rfl).1
      simp only at b1
      rcases b1 with rfl | rfl
      · have HL : Hid (lit (2, 0, s) = [70, 65, 76, 83, 69]) := lit_false rfl rfl
        clear hr
        go_enter Tryz.func149, Tryz.ntmps149
        go_wp2_with (first | (go_at_call 162; refine (right_any _ _ _ _).mono ?_; rintro e w' ⟨rfl, hb⟩; rw [hrg]; (obtain ⟨hc, hf⟩ := bcell hb; have hz := hb.size; (try simp at hz); (try have hz0 : w.heap.size < w'.heap.size := by omega); (try have hz1 : w.heap.size + 1 < w'.heap.size := by omega); (try have hz2 : w.heap.size + 1 + 1 < w'.heap.size := by omega); (try have hz3 : w.heap.size + 1 + 1 + 1 < w'.heap.size := by omega))))
        exact bodyPost_ret (v := .tuple #[.string ⟨#[70, 65, 76, 83, 69]⟩, .int .i64 0]) (by simp [results, Tryz.results149, go_sem]) rfl ⟨by rw [HP.out, HL.out], by (repeat (first | exact Below.refl _ _ | assumption | refine Below.drew ?_ | refine below_drewN ?_ _ | refine Below.alloc ?_ (by first | omega | (simp; done) | (simp; omega)) _ | refine Below.setCell ?_ (by first | omega | (simp; done) | (simp; omega)) _ | refine Below.trans ?_ (Below.mono (by assumption) (by first | omega | (simp; done) | (simp; omega)))))⟩
      · have HL : Hid (lit (2, 1, s) = [84, 82, 85, 69]) := lit_true rfl rfl
        clear hr
        go_enter Tryz.func149, Tryz.ntmps149
        go_wp2_with (first | (go_at_call 162; refine (right_any _ _ _ _).mono ?_; rintro e w' ⟨rfl, hb⟩; rw [hrg]; (obtain ⟨hc, hf⟩ := bcell hb; have hz := hb.size; (try simp at hz); (try have hz0 : w.heap.size < w'.heap.size := by omega); (try have hz1 : w.heap.size + 1 < w'.heap.size := by omega); (try have hz2 : w.heap.size + 1 + 1 < w'.heap.size := by omega); (try have hz3 : w.heap.size + 1 + 1 + 1 < w'.heap.size := by omega))))
        exact bodyPost_ret (v := .tuple #[.string ⟨#[84, 82, 85, 69]⟩, .int .i64 0]) (by simp [results, Tryz.results149, go_sem]) rfl ⟨by rw [HP.out, HL.out], by (repeat (first | exact Below.refl _ _ | assumption | refine Below.drew ?_ | refine below_drewN ?_ _ | refine Below.alloc ?_ (by first | omega | (simp; done) | (simp; omega)) _ | refine Below.setCell ?_ (by first | omega | (simp; done) | (simp; omega)) _ | refine Below.trans ?_ (Below.mono (by assumption) (by first | omega | (simp; done) | (simp; omega)))))⟩
    · have HL : Hid (lit (3, n, s) = quo s) := lit_text rfl
      have b1 := (rt_text hr rfl).2
      simp only at b1
      clear hr
      go_enter Tryz.func149, Tryz.ntmps149
      go_wp2_with (first | (go_at_call 162; refine (right_any _ _ _ _).mono ?_; rintro e w' ⟨rfl, hb⟩; rw [hrg]; (obtain ⟨hc, hf⟩ := bcell hb; have hz := hb.size; (try simp at hz); (try have hz0 : w.heap.size < w'.heap.size := by omega); (try have hz1 : w.heap.size + 1 < w'.heap.size := by omega); (try have hz2 : w.heap.size + 1 + 1 < w'.heap.size := by omega); (try have hz3 : w.heap.size + 1 + 1 + 1 < w'.heap.size := by omega))) | (go_at_call 170; refine (quote_any _ _ (by omega)).mono ?_; rintro e w2 ⟨rfl, hb2⟩))
      exact bodyPost_ret (v := .tuple #[.string ⟨(quo s).toArray⟩, .int .i64 0]) (by simp [results, Tryz.results149, go_sem]) rfl ⟨by rw [HP.out, HL.out], by (repeat (first | exact Below.refl _ _ | assumption | refine Below.drew ?_ | refine below_drewN ?_ _ | refine Below.alloc ?_ (by first | omega | (simp; done) | (simp; omega)) _ | refine Below.setCell ?_ (by first | omega | (simp; done) | (simp; omega)) _ | refine Below.trans ?_ (Below.mono (by assumption) (by first | omega | (simp; done) | (simp; omega)))))⟩
end Go.Proofs.YtlooelldkbdomaaGreatDoor
