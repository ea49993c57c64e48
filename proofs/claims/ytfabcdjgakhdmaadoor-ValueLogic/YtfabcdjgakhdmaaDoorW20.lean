/- Walks of layer 1: the document's And and Or; Not. -/
import Derived.Test.YtfabcdjgakhdmaaDoorW5
import Derived.Test.YtfabcdjgakhdmaaDoorW3b
import Derived.Test.YtfabcdjgakhdmaaDoorM8
namespace Go.Proofs.YtfabcdjgakhdmaaDoor
open Go.RowKit

theorem bool_exact (b : Bool) (w : World) :
    Calls Tryd.prog 42 #[.bool b] w fun e w' => e = .returned (.agg #[.int .i64 2, .int .i64 (b2i b), .string ⟨#[]⟩]) ∧ w' = w.alloc (.cells #[.int .i64 2, .int .i64 (b2i b), .string ⟨#[]⟩] 23) := by
  cases b
  all_goals
    go_enter Tryd.func42, Tryd.ntmps42
    go_wp2
  · exact bodyPost_ret (v := .agg #[.int .i64 2, .int .i64 0, .string ⟨#[]⟩]) (by simp [results, Tryd.results42, go_sem]) rfl ⟨rfl, rfl⟩
  · exact bodyPost_ret (v := .agg #[.int .i64 2, .int .i64 1, .string ⟨#[]⟩]) (by simp [results, Tryd.results42, go_sem]) rfl ⟨rfl, rfl⟩

set_option maxHeartbeats 2000000 in
set_option maxRecDepth 100000 in
theorem decided_any (c : Bool) (a : Option Addr) (cap : Nat) (vs : List V3) (w : World) (hlen : vs.length ≤ 2147483648) (hrow : Row w a vs) :
    Calls Tryd.prog 44 #[.bool c, .slice a vs.length cap] w fun e w' => e = .returned (.tuple #[.agg #[.int .i64 (sett c vs).1, .int .i64 (sett c vs).2.1, .string ⟨#[]⟩], .int .i64 (sett c vs).2.2]) ∧ Below w.heap.size w w' := by
  have HR : Hid (Row w a vs) := hrow
  clear hrow
  by_cases had : adm 2 vs = 0
  · have HAD : Hid (adm 2 vs = 0) := had
    clear had
    go_enter Tryd.func44, Tryd.ntmps44
    go_wp2_with fail
    refine (refused_any 2 a cap vs _ hlen (HR.out.alloc _)).mono ?_
    rintro e w1 ⟨rfl, hb1⟩
    rw [HAD.out]
    obtain ⟨hc1, hf1⟩ := bcell hb1
    have hz1 := hb1.size
    simp at hz1
    have hz10 : w.heap.size < w1.heap.size := by omega
    go_wp2_with fail
    refine (bool_any _ _).mono ?_
    rintro e w2 ⟨rfl, hb2⟩
    obtain ⟨hc2, hf2⟩ := bcell hb2
    have hz2 := hb2.size
    have hz20 : w.heap.size < w2.heap.size := by omega
    have hbw : Below w.heap.size w w2 := by (repeat (first | exact Below.refl _ _ | assumption | refine Below.drew ?_ | refine below_drewN ?_ _ | refine Below.alloc ?_ (by first | omega | (simp; done) | (simp; omega)) _ | refine Below.setCell ?_ (by first | omega | (simp; done) | (simp; omega)) _ | refine Below.trans ?_ (Below.mono (by assumption) (by first | omega | (simp; done) | (simp; omega)))))
    have f0 : ∀ o, w2.frozen? ⟨w.heap.size, o, none⟩ = false := by intro o; rw [hf2 _ _ hz10, hf1 _ _ (by simp)]; simp
    have r0 : w2.cell? ⟨w.heap.size, 0, none⟩ = some (.int .i64 0) := by rw [hc2 _ _ hz10, hc1 _ _ (by simp)]; simp
    have r1 : w2.cell? ⟨w.heap.size, 1, none⟩ = some (.int .i64 0) := by rw [hc2 _ _ hz10, hc1 _ _ (by simp)]; simp
    have r2 : w2.cell? ⟨w.heap.size, 2, none⟩ = some (.string ⟨#[]⟩) := by rw [hc2 _ _ hz10, hc1 _ _ (by simp)]; simp
    clear hc1 hf1 hc2 hf2
    go_wp2
    go_loopw [8] (fun i wr => ∃ k : Nat, k ≤ vs.length ∧ i = .int .i64 k ∧ (∀ j (h : j < vs.length), j < k → V3.isB c (vs[j]) = false) ∧ Below w2.heap.size w2 wr ∧
        wr.cell? ⟨w2.heap.size, 0, none⟩ = some (.int .i64 (left c vs k).1) ∧ wr.cell? ⟨w2.heap.size, 1, none⟩ = some (.int .i64 (left c vs k).2) ∧ wr.cell? ⟨w2.heap.size, 2, none⟩ = some (.string ⟨#[]⟩) ∧ (∀ o, wr.frozen? ⟨w2.heap.size, o, none⟩ = false) ∧ w2.heap.size < wr.heap.size) (fun i _ => vs.length - (intOf i).toNat)
    case atStart => exact ⟨0, Nat.zero_le _, rfl, fun j h g => absurd g (Nat.not_lt_zero _), (Below.refl _ _).alloc (Nat.le_refl _) _, by simp [left_zero], by simp [left_zero], by simp, by simp, by simp⟩
    case round =>
      obtain ⟨k, hk, rfl, hall, hb, l0, l1, l2, lf, lz⟩ := hrel
      have HA : Hid (∀ j (h : j < vs.length), j < k → V3.isB c (vs[j]) = false) := hall
      clear hall
      have g0 := cell_later hb r0
      have g1 := cell_later hb r1
      have g2 := cell_later hb r2
      have gf : ∀ o, wr.frozen? ⟨w.heap.size, o, none⟩ = false := fun o => by rw [hb.frozen (p := ⟨w.heap.size, o, none⟩) hz20]; exact f0 o
      clear r0 r1 r2 f0
      have lz' : w2.heap.size < wr.heap.size + 1 := by omega
      have hr0 : w.heap.size < wr.heap.size := by omega
      have hr0' : w.heap.size < wr.heap.size + 1 := by omega
      by_cases hlt : k < vs.length
      · obtain ⟨b, off, rfl, c0, c1, c2⟩ := HR.out k hlt
        have d0 := cell_later (hbw.trans (hb.mono (by omega))) c0
        have d1 := cell_later (hbw.trans (hb.mono (by omega))) c1
        have d2 := cell_later (hbw.trans (hb.mono (by omega))) c2
        have hbl : b < wr.heap.size := by
          have := c0
          by_cases q : b < w.heap.size
          · omega
          · simp [World.cell?, Array.getElem?_eq_none (by omega : w.heap.size ≤ b)] at this
        have hbl' : b < wr.heap.size + 1 := by omega
        clear c0 c1 c2
        have hlt' : (k : Int) < (vs.length : Int) := by omega
        have hv := adm_zero HAD.out (vs[k]) (List.getElem_mem hlt)
        rcases hv.2 with h1 | h1
        · obtain ⟨hn, hs⟩ := right_bool hv.1 h1
          rw [h1] at d0
          rw [hs] at d2
          by_cases hbit : (vs[k]).2.1 = b2i c
          · rw [hbit] at d1
            have HH : Hid (V3.isB c (vs[k]) = true) := isB_yes h1 hbit (by rw [hs, ByteArray.toList_eq])
            clear h1 hs hn hv hbit
            go_wp2
            go_region_held3 (fun w' => w'.cell? ⟨b, off + k * 3, none⟩ = some (.int .i64 2) ∧ w'.cell? ⟨b, off + k * 3 + 1, none⟩ = some (.int .i64 (b2i c)) ∧ w'.cell? ⟨b, off + k * 3 + 2, none⟩ = some (.string ⟨#[]⟩)) (go_simp)
          (first | (go_at_call 42; refine (bool_exact _ _).mono ?_; rintro e w' ⟨rfl, rfl⟩))
            go_wp2
            rw [sett_hit HAD.out k hlt HH.out]
            exact bodyPost_ret (v := .tuple #[.agg #[.int .i64 2, .int .i64 (b2i c), .string ⟨#[]⟩], .int .i64 0]) (by simp [results, Tryd.results44, go_sem, *]) rfl ⟨rfl, by (repeat (first | exact Below.refl _ _ | assumption | refine Below.drew ?_ | refine below_drewN ?_ _ | refine Below.alloc ?_ (by first | omega | (simp; done) | (simp; omega)) _ | refine Below.setCell ?_ (by first | omega | (simp; done) | (simp; omega)) _ | refine Below.trans ?_ (Below.mono (by assumption) (by first | omega | (simp; done) | (simp; omega)))))⟩
          · obtain ⟨x, hx⟩ : ∃ x, (vs[k]).2.1 = x := ⟨_, rfl⟩
            rw [hx] at d1 hbit
            have HH : Hid (V3.isB c (vs[k]) = false) := isB_n (by rw [hx]; exact hbit)
            have HN : Hid (¬ (vs[k]).1 = 0) := by show ¬ _; omega
            clear h1 hs hn hv hx
            go_wp2
            go_region_held3 (fun w' => w'.cell? ⟨b, off + k * 3, none⟩ = some (.int .i64 2) ∧ w'.cell? ⟨b, off + k * 3 + 1, none⟩ = some (.int .i64 x) ∧ w'.cell? ⟨b, off + k * 3 + 2, none⟩ = some (.string ⟨#[]⟩)) (go_simp)
          (first | (go_at_call 42; refine (bool_exact _ _).mono ?_; rintro e w' ⟨rfl, rfl⟩))
            go_wp2
            go_roundw
            case rel => exact ⟨k + 1, by omega, by go_num, upto_succ HA.out HH.out, by (repeat (first | exact Below.refl _ _ | assumption | refine Below.drew ?_ | refine below_drewN ?_ _ | refine Below.alloc ?_ (by first | omega | (simp; done) | (simp; omega)) _ | refine Below.setCell ?_ (by first | omega | (simp; done) | (simp; omega)) _ | refine Below.trans ?_ (Below.mono (by assumption) (by first | omega | (simp; done) | (simp; omega))))), by rw [left_same hlt HN.out]; go_simp, by rw [left_same hlt HN.out]; go_simp, by go_simp, by intro o; go_simp, by first | omega | (simp; omega)⟩
            case measure => simp [intOf]; omega
        · obtain ⟨hn, hs⟩ := right_null hv.1 h1
          rw [h1] at d0
          rw [hn] at d1
          rw [hs] at d2
          have HH : Hid (V3.isB c (vs[k]) = false) := isB_k (by omega)
          have HN : Hid ((vs[k]).1 = 0) := h1
          clear h1 hs hn hv
          go_wp2
          go_region_held3 (fun w' => w'.cell? ⟨b, off + k * 3, none⟩ = some (.int .i64 0) ∧ w'.cell? ⟨b, off + k * 3 + 1, none⟩ = some (.int .i64 0) ∧ w'.cell? ⟨b, off + k * 3 + 2, none⟩ = some (.string ⟨#[]⟩)) (go_simp)
          (first | (go_at_call 42; refine (bool_exact _ _).mono ?_; rintro e w' ⟨rfl, rfl⟩))
          go_wp2
          go_roundw
          case rel => exact ⟨k + 1, by omega, by go_num, upto_succ HA.out HH.out, by (repeat (first | exact Below.refl _ _ | assumption | refine Below.drew ?_ | refine below_drewN ?_ _ | refine Below.alloc ?_ (by first | omega | (simp; done) | (simp; omega)) _ | refine Below.setCell ?_ (by first | omega | (simp; done) | (simp; omega)) _ | refine Below.trans ?_ (Below.mono (by assumption) (by first | omega | (simp; done) | (simp; omega))))), by rw [left_null hlt HN.out]; go_simp, by rw [left_null hlt HN.out]; go_simp, by go_simp, by intro o; go_simp, by first | omega | (simp; omega)⟩
          case measure => simp [intOf]; omega
      · have hk' : k = vs.length := by omega
        subst hk'
        go_wp2
        exact bodyPost_ret (v := .tuple #[.agg #[.int .i64 (left c vs vs.length).1, .int .i64 (left c vs vs.length).2, .string ⟨#[]⟩], .int .i64 0]) (by simp [results, Tryd.results44, go_sem, *]) rfl ⟨by rw [sett_left HAD.out fun j h => HA.out j h h], by (repeat (first | exact Below.refl _ _ | assumption | refine Below.drew ?_ | refine below_drewN ?_ _ | refine Below.alloc ?_ (by first | omega | (simp; done) | (simp; omega)) _ | refine Below.setCell ?_ (by first | omega | (simp; done) | (simp; omega)) _ | refine Below.trans ?_ (Below.mono (by assumption) (by first | omega | (simp; done) | (simp; omega)))))⟩
  · rw [sett_err had]
    have had' : (adm 2 vs != 0) = true := by simpa using had
    clear had
    go_enter Tryd.func44, Tryd.ntmps44
    go_wp2_with fail
    refine (refused_any 2 a cap vs _ hlen (HR.out.alloc _)).mono ?_
    rintro e w' ⟨rfl, hb⟩
    (obtain ⟨hc, hf⟩ := bcell hb; have hz := hb.size; (try simp at hz); (try have hz0 : w.heap.size < w'.heap.size := by omega); (try have hz1 : w.heap.size + 1 < w'.heap.size := by omega); (try have hz2 : w.heap.size + 1 + 1 < w'.heap.size := by omega); (try have hz3 : w.heap.size + 1 + 1 + 1 < w'.heap.size := by omega))
    go_wp2
    exact bodyPost_ret (v := .tuple #[.agg #[.int .i64 0, .int .i64 0, .string ⟨#[]⟩], .int .i64 (adm 2 vs)]) (by simp [results, Tryd.results44, go_sem, *]) rfl ⟨rfl, by (repeat (first | exact Below.refl _ _ | assumption | refine Below.drew ?_ | refine below_drewN ?_ _ | refine Below.alloc ?_ (by first | omega | (simp; done) | (simp; omega)) _ | refine Below.setCell ?_ (by first | omega | (simp; done) | (simp; omega)) _ | refine Below.trans ?_ (Below.mono (by assumption) (by first | omega | (simp; done) | (simp; omega)))))⟩
end Go.Proofs.YtfabcdjgakhdmaaDoor
