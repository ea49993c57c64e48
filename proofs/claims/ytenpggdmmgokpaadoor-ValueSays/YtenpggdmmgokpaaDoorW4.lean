/- Walks of layer 1, fourth part: whether all hold, whether one does. -/
import Derived.Test.YtenpggdmmgokpaaDoorW3
namespace Go.Proofs.YtenpggdmmgokpaaDoor
open Go.RowKit

theorem Row.later {w w' : World} {a : Option Addr} {vs : List V3} (h : Row w a vs) (hb : Below w.heap.size w w') : Row w' a vs := by
  intro i hi
  obtain ⟨b, off, e, c0, c1, c2⟩ := h i hi
  exact ⟨b, off, e, cell_later hb c0, cell_later hb c1, cell_later hb c2⟩
theorem Row.alloc {w : World} {a : Option Addr} {vs : List V3} (h : Row w a vs) (o : Obj) : Row (w.alloc o) a vs := h.later ((Below.refl _ _).alloc (Nat.le_refl _) _)

theorem opposite_any (k n : Int) (s : ByteArray) (w : World) :
    Calls Tryd.prog 48 #[.agg #[.int .i64 k, .int .i64 n, .string s]] w fun e w' => e = .returned (.agg #[.int .i64 (if k = 0 then 0 else 2), .int .i64 (if k = 0 then 0 else b2i (n == 0)), .string ⟨#[]⟩]) ∧ Below w.heap.size w w' := by
  by_cases h : k = 0
  · subst h
    go_enter Tryd.func48, Tryd.ntmps48
    go_wp2_with (first | (go_at_call 23; refine (null_any _).mono ?_; rintro e w' ⟨rfl, hb⟩; obtain ⟨hc, hf⟩ := bcell hb; have hz := hb.size; (try simp at hz); (try have hz0 : w.heap.size < w'.heap.size := by omega); (try have hz1 : w.heap.size + 1 < w'.heap.size := by omega); (try have hz2 : w.heap.size + 1 + 1 < w'.heap.size := by omega); (try have hz3 : w.heap.size + 1 + 1 + 1 < w'.heap.size := by omega)) | (go_at_call 29; refine (truth_any _ _).mono ?_; rintro e w' ⟨rfl, hb⟩; obtain ⟨hc, hf⟩ := bcell hb; have hz := hb.size; (try simp at hz); (try have hz0 : w.heap.size < w'.heap.size := by omega); (try have hz1 : w.heap.size + 1 < w'.heap.size := by omega); (try have hz2 : w.heap.size + 1 + 1 < w'.heap.size := by omega); (try have hz3 : w.heap.size + 1 + 1 + 1 < w'.heap.size := by omega)))
    exact bodyPost_ret (v := .agg #[.int .i64 0, .int .i64 0, .string ⟨#[]⟩]) (by simp [results, Tryd.results48, go_sem, *]) rfl ⟨by simp, by (repeat (first | exact Below.refl _ _ | assumption | refine Below.drew ?_ | refine below_drewN ?_ _ | refine Below.alloc ?_ (by first | omega | (simp; done) | (simp; omega)) _ | refine Below.setCell ?_ (by first | omega | (simp; done) | (simp; omega)) _ | refine Below.trans ?_ (Below.mono (by assumption) (by first | omega | (simp; done) | (simp; omega)))))⟩
  · rw [if_neg h, if_neg h]
    have h' : (k == 0) = false := by simpa using h
    clear h
    go_enter Tryd.func48, Tryd.ntmps48
    go_wp2_with (first | (go_at_call 23; refine (null_any _).mono ?_; rintro e w' ⟨rfl, hb⟩; obtain ⟨hc, hf⟩ := bcell hb; have hz := hb.size; (try simp at hz); (try have hz0 : w.heap.size < w'.heap.size := by omega); (try have hz1 : w.heap.size + 1 < w'.heap.size := by omega); (try have hz2 : w.heap.size + 1 + 1 < w'.heap.size := by omega); (try have hz3 : w.heap.size + 1 + 1 + 1 < w'.heap.size := by omega)) | (go_at_call 29; refine (truth_any _ _).mono ?_; rintro e w' ⟨rfl, hb⟩; obtain ⟨hc, hf⟩ := bcell hb; have hz := hb.size; (try simp at hz); (try have hz0 : w.heap.size < w'.heap.size := by omega); (try have hz1 : w.heap.size + 1 < w'.heap.size := by omega); (try have hz2 : w.heap.size + 1 + 1 < w'.heap.size := by omega); (try have hz3 : w.heap.size + 1 + 1 + 1 < w'.heap.size := by omega)))
    exact bodyPost_ret (v := .agg #[.int .i64 2, .int .i64 (b2i (n == 0)), .string ⟨#[]⟩]) (by simp [results, Tryd.results48, go_sem, *]) rfl ⟨rfl, by (repeat (first | exact Below.refl _ _ | assumption | refine Below.drew ?_ | refine below_drewN ?_ _ | refine Below.alloc ?_ (by first | omega | (simp; done) | (simp; omega)) _ | refine Below.setCell ?_ (by first | omega | (simp; done) | (simp; omega)) _ | refine Below.trans ?_ (Below.mono (by assumption) (by first | omega | (simp; done) | (simp; omega)))))⟩

theorem opp_b (b : Bool) : (b2i b == 0) = !b := by cases b <;> rfl

set_option maxHeartbeats 2000000 in
theorem settle_any (c : Bool) (a : Option Addr) (cap : Nat) (vs : List V3) (w : World) (hlen : vs.length ≤ 2147483648) (hrow : Row w a vs) :
    Calls Tryd.prog 31 #[.agg #[.int .i64 2, .int .i64 (b2i c), .string ⟨#[]⟩], .slice a vs.length cap] w fun e w' => e = .returned (.tuple #[.agg #[.int .i64 (sett c vs).1, .int .i64 (sett c vs).2.1, .string ⟨#[]⟩], .int .i64 (sett c vs).2.2]) ∧ Below w.heap.size w w' := by
  have HR : Hid (Row w a vs) := hrow
  clear hrow
  by_cases had : adm 2 vs = 0
  · have HAD : Hid (adm 2 vs = 0) := had
    clear had
    go_enter Tryd.func31, Tryd.ntmps31
    go_wp2_with fail
    refine (admit_any 2 a cap vs _ hlen ((HR.out.alloc _).alloc _)).mono ?_
    rintro e w1 ⟨rfl, hb1⟩
    rw [HAD.out]
    obtain ⟨hc1, hf1⟩ := bcell hb1
    have hz1 := hb1.size
    simp at hz1
    have hz10 : w.heap.size < w1.heap.size := by omega
    have hz11 : w.heap.size + 1 < w1.heap.size := by omega
    go_wp2_with fail
    refine (opposite_any _ _ _ _).mono ?_
    rintro e w2 ⟨rfl, hb2⟩
    rw [if_neg (by decide), if_neg (by decide), opp_b]
    obtain ⟨hc2, hf2⟩ := bcell hb2
    have hz2 := hb2.size
    have hz20 : w.heap.size < w2.heap.size := by omega
    have hz21 : w.heap.size + 1 < w2.heap.size := by omega
    have hbw : Below w.heap.size w w2 := by (repeat (first | exact Below.refl _ _ | assumption | refine Below.drew ?_ | refine below_drewN ?_ _ | refine Below.alloc ?_ (by first | omega | (simp; done) | (simp; omega)) _ | refine Below.setCell ?_ (by first | omega | (simp; done) | (simp; omega)) _ | refine Below.trans ?_ (Below.mono (by assumption) (by first | omega | (simp; done) | (simp; omega)))))
    have b0 : w2.cell? ⟨w.heap.size, 0, none⟩ = some (.int .i64 2) := by rw [hc2 _ _ hz10, hc1 _ _ (by simp; omega)]; simp
    have b1 : w2.cell? ⟨w.heap.size, 1, none⟩ = some (.int .i64 (b2i c)) := by rw [hc2 _ _ hz10, hc1 _ _ (by simp; omega)]; simp
    have b2 : w2.cell? ⟨w.heap.size, 2, none⟩ = some (.string ⟨#[]⟩) := by rw [hc2 _ _ hz10, hc1 _ _ (by simp; omega)]; simp
    have f0 : ∀ o, w2.frozen? ⟨w.heap.size + 1, o, none⟩ = false := by intro o; simp [*]
    have r0 : w2.cell? ⟨w.heap.size + 1, 0, none⟩ = some (.int .i64 0) := by simp [*]
    have r1 : w2.cell? ⟨w.heap.size + 1, 1, none⟩ = some (.int .i64 0) := by simp [*]
    have r2 : w2.cell? ⟨w.heap.size + 1, 2, none⟩ = some (.string ⟨#[]⟩) := by simp [*]
    clear hc1 hf1 hc2 hf2
    go_wp2
    go_loopw [20] (fun i wr => ∃ k : Nat, k ≤ vs.length ∧ i = .int .i64 k ∧ (∀ j (h : j < vs.length), j < k → V3.isB c (vs[j]) = false) ∧ Below w2.heap.size w2 wr ∧
        wr.cell? ⟨w2.heap.size, 0, none⟩ = some (.int .i64 (left c vs k).1) ∧ wr.cell? ⟨w2.heap.size, 1, none⟩ = some (.int .i64 (left c vs k).2) ∧ wr.cell? ⟨w2.heap.size, 2, none⟩ = some (.string ⟨#[]⟩) ∧ (∀ o, wr.frozen? ⟨w2.heap.size, o, none⟩ = false) ∧ w2.heap.size < wr.heap.size) (fun i _ => vs.length - (intOf i).toNat)
    case atStart => exact ⟨0, Nat.zero_le _, rfl, fun j h g => absurd g (Nat.not_lt_zero _), (Below.refl _ _).alloc (Nat.le_refl _) _, by simp [left_zero], by simp [left_zero], by simp, by simp, by simp⟩
    case round =>
      obtain ⟨k, hk, rfl, hall, hb, l0, l1, l2, lf, lz⟩ := hrel
      have HA : Hid (∀ j (h : j < vs.length), j < k → V3.isB c (vs[j]) = false) := hall
      clear hall
      have e0 := cell_later hb b0
      have e1 := cell_later hb b1
      have e2 := cell_later hb b2
      have g0 := cell_later hb r0
      have g1 := cell_later hb r1
      have g2 := cell_later hb r2
      have gf : ∀ o, wr.frozen? ⟨w.heap.size + 1, o, none⟩ = false := fun o => by rw [hb.frozen (p := ⟨w.heap.size + 1, o, none⟩) hz21]; exact f0 o
      clear b0 b1 b2 r0 r1 r2 f0
      have lz' : w2.heap.size < wr.heap.size + 1 := by omega
      have hr0 : w.heap.size < wr.heap.size := by omega
      have hr1 : w.heap.size + 1 < wr.heap.size := by omega
      by_cases hlt : k < vs.length
      · obtain ⟨b, off, rfl, c0, c1, c2⟩ := HR.out k hlt
        have d0 := cell_later (hbw.trans (hb.mono (by omega))) c0
        have d1 := cell_later (hbw.trans (hb.mono (by omega))) c1
        have d2 := cell_later (hbw.trans (hb.mono (by omega))) c2
        clear c0 c1 c2
        go_wp2_with (first | (go_at_call 23; refine (null_any _).mono ?_; rintro e w' ⟨rfl, hb⟩; obtain ⟨hc, hf⟩ := bcell hb; have hz := hb.size; (try simp at hz); (try have hz0 : w.heap.size < w'.heap.size := by omega); (try have hz1 : w.heap.size + 1 < w'.heap.size := by omega); (try have hz2 : w.heap.size + 1 + 1 < w'.heap.size := by omega); (try have hz3 : w.heap.size + 1 + 1 + 1 < w'.heap.size := by omega)))
        · have i1 : (vs[k]).1 = 2 := by assumption
          have i2 : (vs[k]).2.1 = b2i c := by assumption
          have i3 : (vs[k]).2.2.toList = [] := by assumption
          rw [sett_hit HAD.out k hlt (isB_yes i1 i2 i3)]
          exact bodyPost_ret (v := .tuple #[.agg #[.int .i64 2, .int .i64 (b2i c), .string ⟨#[]⟩], .int .i64 0]) (by simp [results, Tryd.results31, go_sem, *]) rfl ⟨rfl, by (repeat (first | exact Below.refl _ _ | assumption | refine Below.drew ?_ | refine below_drewN ?_ _ | refine Below.alloc ?_ (by first | omega | (simp; done) | (simp; omega)) _ | refine Below.setCell ?_ (by first | omega | (simp; done) | (simp; omega)) _ | refine Below.trans ?_ (Below.mono (by assumption) (by first | omega | (simp; done) | (simp; omega)))))⟩
        · have i1 : (vs[k]).1 = 2 := by assumption
          have i3 : ¬ (vs[k]).2.2.toList = [] := by assumption
          have HI : Hid (¬ (vs[k]).1 = 0) := by show ¬ _; omega
          have H3 : Hid (¬ (vs[k]).2.2.toList = []) := i3
          go_roundw
          case rel => exact ⟨k + 1, by omega, by go_num, upto_succ HA.out (isB_s H3.out), by (repeat (first | exact Below.refl _ _ | assumption | refine Below.drew ?_ | refine below_drewN ?_ _ | refine Below.alloc ?_ (by first | omega | (simp; done) | (simp; omega)) _ | refine Below.setCell ?_ (by first | omega | (simp; done) | (simp; omega)) _ | refine Below.trans ?_ (Below.mono (by assumption) (by first | omega | (simp; done) | (simp; omega))))), by rw [left_same hlt HI.out]; go_simp, by rw [left_same hlt HI.out]; go_simp, by go_simp, by intro o; go_simp, by first | omega | (simp; omega)⟩
          case measure => simp [intOf]; omega
        · have i1 : (vs[k]).1 = 2 := by assumption
          have i3 : ¬ (vs[k]).2.1 = b2i c := by assumption
          have HI : Hid (¬ (vs[k]).1 = 0) := by show ¬ _; omega
          have H3 : Hid (¬ (vs[k]).2.1 = b2i c) := i3
          go_roundw
          case rel => exact ⟨k + 1, by omega, by go_num, upto_succ HA.out (isB_n H3.out), by (repeat (first | exact Below.refl _ _ | assumption | refine Below.drew ?_ | refine below_drewN ?_ _ | refine Below.alloc ?_ (by first | omega | (simp; done) | (simp; omega)) _ | refine Below.setCell ?_ (by first | omega | (simp; done) | (simp; omega)) _ | refine Below.trans ?_ (Below.mono (by assumption) (by first | omega | (simp; done) | (simp; omega))))), by rw [left_same hlt HI.out]; go_simp, by rw [left_same hlt HI.out]; go_simp, by go_simp, by intro o; go_simp, by first | omega | (simp; omega)⟩
          case measure => simp [intOf]; omega
        · have i1 : ¬ (vs[k]).1 = 2 := by assumption
          have i3 : ((vs[k]).1 == 0) = true := by assumption
          have HI : Hid ((vs[k]).1 = 0) := by show _ = _; simpa using i3
          have H3 : Hid (¬ (vs[k]).1 = 2) := i1
          go_roundw
          case rel => exact ⟨k + 1, by omega, by go_num, upto_succ HA.out (isB_k H3.out), by (repeat (first | exact Below.refl _ _ | assumption | refine Below.drew ?_ | refine below_drewN ?_ _ | refine Below.alloc ?_ (by first | omega | (simp; done) | (simp; omega)) _ | refine Below.setCell ?_ (by first | omega | (simp; done) | (simp; omega)) _ | refine Below.trans ?_ (Below.mono (by assumption) (by first | omega | (simp; done) | (simp; omega))))), by rw [left_null hlt HI.out]; go_simp, by rw [left_null hlt HI.out]; go_simp, by go_simp, by intro o; go_simp, by first | omega | (simp; omega)⟩
          case measure => simp [intOf]; omega
        · have i1 : ¬ (vs[k]).1 = 2 := by assumption
          have i3 : ((vs[k]).1 == 0) = false := by assumption
          have HI : Hid (¬ (vs[k]).1 = 0) := by show ¬ _; simpa using i3
          have H3 : Hid (¬ (vs[k]).1 = 2) := i1
          go_roundw
          case rel => exact ⟨k + 1, by omega, by go_num, upto_succ HA.out (isB_k H3.out), by (repeat (first | exact Below.refl _ _ | assumption | refine Below.drew ?_ | refine below_drewN ?_ _ | refine Below.alloc ?_ (by first | omega | (simp; done) | (simp; omega)) _ | refine Below.setCell ?_ (by first | omega | (simp; done) | (simp; omega)) _ | refine Below.trans ?_ (Below.mono (by assumption) (by first | omega | (simp; done) | (simp; omega))))), by rw [left_same hlt HI.out]; go_simp, by rw [left_same hlt HI.out]; go_simp, by go_simp, by intro o; go_simp, by first | omega | (simp; omega)⟩
          case measure => simp [intOf]; omega
      · have hk' : k = vs.length := by omega
        subst hk'
        go_wp2
        exact bodyPost_ret (v := .tuple #[.agg #[.int .i64 (left c vs vs.length).1, .int .i64 (left c vs vs.length).2, .string ⟨#[]⟩], .int .i64 0]) (by simp [results, Tryd.results31, go_sem, *]) rfl ⟨by rw [sett_left HAD.out fun j h => HA.out j h h], by (repeat (first | exact Below.refl _ _ | assumption | refine Below.drew ?_ | refine below_drewN ?_ _ | refine Below.alloc ?_ (by first | omega | (simp; done) | (simp; omega)) _ | refine Below.setCell ?_ (by first | omega | (simp; done) | (simp; omega)) _ | refine Below.trans ?_ (Below.mono (by assumption) (by first | omega | (simp; done) | (simp; omega)))))⟩
  · rw [sett_err had]
    have had' : (adm 2 vs != 0) = true := by simpa using had
    clear had
    go_enter Tryd.func31, Tryd.ntmps31
    go_wp2_with fail
    refine (admit_any 2 a cap vs _ hlen ((HR.out.alloc _).alloc _)).mono ?_
    rintro e w1 ⟨rfl, hb1⟩
    obtain ⟨hc1, hf1⟩ := bcell hb1
    have hz1 := hb1.size
    simp at hz1
    have hz10 : w.heap.size < w1.heap.size := by omega
    have hz11 : w.heap.size + 1 < w1.heap.size := by omega
    go_wp2_with (first | (go_at_call 23; refine (null_any _).mono ?_; rintro e w' ⟨rfl, hb⟩; obtain ⟨hc, hf⟩ := bcell hb; have hz := hb.size; (try simp at hz); (try have hz0 : w.heap.size < w'.heap.size := by omega); (try have hz1 : w.heap.size + 1 < w'.heap.size := by omega); (try have hz2 : w.heap.size + 1 + 1 < w'.heap.size := by omega); (try have hz3 : w.heap.size + 1 + 1 + 1 < w'.heap.size := by omega)))
    exact bodyPost_ret (v := .tuple #[.agg #[.int .i64 0, .int .i64 0, .string ⟨#[]⟩], .int .i64 (adm 2 vs)]) (by simp [results, Tryd.results31, go_sem, *]) rfl ⟨rfl, by (repeat (first | exact Below.refl _ _ | assumption | refine Below.drew ?_ | refine below_drewN ?_ _ | refine Below.alloc ?_ (by first | omega | (simp; done) | (simp; omega)) _ | refine Below.setCell ?_ (by first | omega | (simp; done) | (simp; omega)) _ | refine Below.trans ?_ (Below.mono (by assumption) (by first | omega | (simp; done) | (simp; omega)))))⟩
end Go.Proofs.YtenpggdmmgokpaaDoor
