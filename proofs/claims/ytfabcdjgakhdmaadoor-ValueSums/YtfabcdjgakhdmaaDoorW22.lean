/- Walks of layer 1: the document's Sum. -/
import Derived.Test.YtfabcdjgakhdmaaDoorW5
import Derived.Test.YtfabcdjgakhdmaaDoorM4
namespace Go.Proofs.YtfabcdjgakhdmaaDoor
open Go.RowKit

set_option maxHeartbeats 4000000 in
set_option maxRecDepth 100000 in
theorem rsum_any (a : Option Addr) (cap : Nat) (vs : List V3) (w : World) (hlen : vs.length ≤ 2147483648) (hrow : Row w a vs) :
    Calls Tryd.prog 29 #[.slice a vs.length cap] w fun e w' => e = .returned (.tuple #[.agg #[.int .i64 (sumR vs).1, .int .i64 (sumR vs).2.1, .string ⟨#[]⟩], .int .i64 (sumR vs).2.2]) ∧ Below w.heap.size w w' := by
  have HR : Hid (Row w a vs) := hrow
  clear hrow
  by_cases had : adm 1 vs = 0
  · have HAD : Hid (adm 1 vs = 0) := had
    clear had
    go_enter Tryd.func29, Tryd.ntmps29
    go_wp2_with fail
    refine (refused_any 1 a cap vs _ hlen (HR.out.alloc _)).mono ?_
    rintro e w1 ⟨rfl, hb1⟩
    rw [HAD.out]
    obtain ⟨hc1, hf1⟩ := bcell hb1
    have hz1 := hb1.size
    simp at hz1
    have hz10 : w.heap.size < w1.heap.size := by omega
    have hbw : Below w.heap.size w w1 := by (repeat (first | exact Below.refl _ _ | assumption | refine Below.drew ?_ | refine below_drewN ?_ _ | refine Below.alloc ?_ (by first | omega | (simp; done) | (simp; omega)) _ | refine Below.setCell ?_ (by first | omega | (simp; done) | (simp; omega)) _ | refine Below.trans ?_ (Below.mono (by assumption) (by first | omega | (simp; done) | (simp; omega)))))
    have f0 : ∀ o, w1.frozen? ⟨w.heap.size, o, none⟩ = false := by intro o; rw [hf1 _ _ (by simp)]; simp
    have r0 : w1.cell? ⟨w.heap.size, 0, none⟩ = some (.int .i64 0) := by rw [hc1 _ _ (by simp)]; simp
    have r1 : w1.cell? ⟨w.heap.size, 1, none⟩ = some (.int .i64 0) := by rw [hc1 _ _ (by simp)]; simp
    have r2 : w1.cell? ⟨w.heap.size, 2, none⟩ = some (.string ⟨#[]⟩) := by rw [hc1 _ _ (by simp)]; simp
    have HR1 : Hid (Row w1 a vs) := HR.out.later hbw
    clear hc1 hf1 HR hb1
    go_wp2
    go_loop [5, 6, 7, 8] (fun m H L i => ∃ (k : Nat) (h l : Int), k ≤ vs.length ∧ i = .int .i64 k ∧ m = .bool (met (vs.take k)) ∧ H = .int .i64 h ∧ L = .int .i64 l ∧ tot (vs.take k) = h * 4611686018427387904 + l ∧ 0 ≤ l ∧ l < 4611686018427387904 ∧ -(k : Int) ≤ h ∧ h ≤ (k : Int)) (fun _ _ _ i => vs.length - (intOf i).toNat)
    case atStart => exact ⟨0, 0, 0, Nat.zero_le _, rfl, by simp [met], rfl, rfl, by simp [tot], by omega, by omega, by omega, by omega⟩
    case round =>
      obtain ⟨k, h, l, hk, rfl, rfl, rfl, rfl, ht, l1, l2, h1, h2⟩ := hrel
      have HT : Hid (tot (vs.take k) = h * 4611686018427387904 + l) := ht
      clear ht
      by_cases hlt : k < vs.length
      · obtain ⟨b, off, rfl, d0, d1, d2⟩ := HR1.out k hlt
        have hlt' : (k : Int) < (vs.length : Int) := by omega
        have hv := adm_zero HAD.out (vs[k]) (List.getElem_mem hlt)
        rcases hv.2 with h1' | h1'
        · obtain ⟨n1, n2⟩ := right_int hv.1 h1'
          have HM : Hid (met (vs.take (k + 1)) = true) := met_num hlt h1'
          have HS : Hid (tot (vs.take (k + 1)) = tot (vs.take k) + (vs[k]).2.1) := tot_num hlt h1'
          rw [h1'] at d0
          obtain ⟨n, hn⟩ : ∃ n, (vs[k]).2.1 = n := ⟨_, rfl⟩
          rw [hn] at d1 n1 n2 HS
          clear hv h1' hn
          by_cases c1 : n < 0
          · have c3 : ((n + 4611686018427387904) == 4611686018427387904) = false := by simp; omega
            by_cases c2 : l + (n + 4611686018427387904) < 4611686018427387904
            · have c4 : ¬ 4611686018427387904 ≤ l + (n + 4611686018427387904) := by omega
              go_wp2
              go_round
              case rel => exact ⟨k + 1, _, _, by omega, by go_num, by rw [HM.out], rfl, rfl, by rw [HS.out, HT.out]; omega, by omega, by omega, by omega, by omega⟩
              case measure => simp [intOf]; omega
            · have c4 : 4611686018427387904 ≤ l + (n + 4611686018427387904) := by omega
              go_wp2
              go_round
              case rel => exact ⟨k + 1, _, _, by omega, by go_num, by rw [HM.out], rfl, rfl, by rw [HS.out, HT.out]; omega, by omega, by omega, by omega, by omega⟩
              case measure => simp [intOf]; omega
          · by_cases c2 : n = 4611686018427387904
            · subst c2
              have c4 : ¬ 4611686018427387904 ≤ l := by omega
              go_wp2
              go_round
              case rel => exact ⟨k + 1, _, _, by omega, by go_num, by rw [HM.out], rfl, rfl, by rw [HS.out, HT.out]; omega, by omega, by omega, by omega, by omega⟩
              case measure => simp [intOf]; omega
            · have c3 : (n == 4611686018427387904) = false := by simpa using c2
              clear c2
              by_cases c4 : 4611686018427387904 ≤ l + n
              · go_wp2
                go_round
                case rel => exact ⟨k + 1, _, _, by omega, by go_num, by rw [HM.out], rfl, rfl, by rw [HS.out, HT.out]; omega, by omega, by omega, by omega, by omega⟩
                case measure => simp [intOf]; omega
              · go_wp2
                go_round
                case rel => exact ⟨k + 1, _, _, by omega, by go_num, by rw [HM.out], rfl, rfl, by rw [HS.out, HT.out]; omega, by omega, by omega, by omega, by omega⟩
                case measure => simp [intOf]; omega
        · have HM : Hid (met (vs.take (k + 1)) = met (vs.take k)) := met_null hlt (by omega)
          have HS : Hid (tot (vs.take (k + 1)) = tot (vs.take k)) := tot_null hlt (by omega)
          rw [h1'] at d0
          clear hv h1'
          go_wp2
          go_round
          case rel => exact ⟨k + 1, _, _, by omega, by go_num, by rw [HM.out], rfl, rfl, by rw [HS.out]; exact HT.out, by omega, by omega, by omega, by omega⟩
          case measure => simp [intOf]; omega
      · have hk' : k = vs.length := by omega
        subst hk'
        rw [List.take_length] at HT ⊢
        obtain ⟨m, hm⟩ : ∃ m, met vs = m := ⟨_, rfl⟩
        have HM : Hid (met vs = m) := hm
        rw [hm]
        clear hm HR1
        cases m
        · go_wp2
          exact bodyPost_ret (v := .tuple #[.agg #[.int .i64 0, .int .i64 0, .string ⟨#[]⟩], .int .i64 0]) (by simp [results, Tryd.results29, go_sem, *]) rfl ⟨by rw [sumR_none HAD.out HM.out], by (repeat (first | exact Below.refl _ _ | assumption | refine Below.drew ?_ | refine below_drewN ?_ _ | refine Below.alloc ?_ (by first | omega | (simp; done) | (simp; omega)) _ | refine Below.setCell ?_ (by first | omega | (simp; done) | (simp; omega)) _ | refine Below.trans ?_ (Below.mono (by assumption) (by first | omega | (simp; done) | (simp; omega)))))⟩
        · by_cases e0 : h = 0
          · subst e0
            have HI : Hid (inR (tot vs) = true) := by show inR _ = true; rw [inR_iff, HT.out]; omega
            have HE : Hid (tot vs = l) := by show _ = _; rw [HT.out]; omega
            go_wp2_with (first | (go_at_call 52; refine (rnumber_any _ _).mono ?_; rintro e w' ⟨rfl, hb⟩; obtain ⟨hc, hf⟩ := bcell hb; have hz := hb.size; (try simp at hz); (try have hz0 : w.heap.size < w'.heap.size := by omega); (try have hz1 : w.heap.size + 1 < w'.heap.size := by omega); (try have hz2 : w.heap.size + 1 + 1 < w'.heap.size := by omega); (try have hz3 : w.heap.size + 1 + 1 + 1 < w'.heap.size := by omega)))
            exact bodyPost_ret (v := .tuple #[.agg #[.int .i64 1, .int .i64 l, .string ⟨#[]⟩], .int .i64 0]) (by simp [results, Tryd.results29, go_sem, *]) rfl ⟨by rw [sumR_ok HAD.out HM.out HI.out, HE.out], by (repeat (first | exact Below.refl _ _ | assumption | refine Below.drew ?_ | refine below_drewN ?_ _ | refine Below.alloc ?_ (by first | omega | (simp; done) | (simp; omega)) _ | refine Below.setCell ?_ (by first | omega | (simp; done) | (simp; omega)) _ | refine Below.trans ?_ (Below.mono (by assumption) (by first | omega | (simp; done) | (simp; omega)))))⟩
          · have e0' : (h == 0) = false := by simpa using e0
            by_cases e1 : h = 1
            · subst e1
              by_cases e2 : l = 0
              · subst e2
                have HI : Hid (inR (tot vs) = true) := by show inR _ = true; rw [inR_iff, HT.out]; omega
                have HE : Hid (tot vs = 4611686018427387904) := by show _ = _; rw [HT.out]; omega
                go_wp2_with (first | (go_at_call 52; refine (rnumber_any _ _).mono ?_; rintro e w' ⟨rfl, hb⟩; obtain ⟨hc, hf⟩ := bcell hb; have hz := hb.size; (try simp at hz); (try have hz0 : w.heap.size < w'.heap.size := by omega); (try have hz1 : w.heap.size + 1 < w'.heap.size := by omega); (try have hz2 : w.heap.size + 1 + 1 < w'.heap.size := by omega); (try have hz3 : w.heap.size + 1 + 1 + 1 < w'.heap.size := by omega)))
                exact bodyPost_ret (v := .tuple #[.agg #[.int .i64 1, .int .i64 4611686018427387904, .string ⟨#[]⟩], .int .i64 0]) (by simp [results, Tryd.results29, go_sem, *]) rfl ⟨by rw [sumR_ok HAD.out HM.out HI.out, HE.out], by (repeat (first | exact Below.refl _ _ | assumption | refine Below.drew ?_ | refine below_drewN ?_ _ | refine Below.alloc ?_ (by first | omega | (simp; done) | (simp; omega)) _ | refine Below.setCell ?_ (by first | omega | (simp; done) | (simp; omega)) _ | refine Below.trans ?_ (Below.mono (by assumption) (by first | omega | (simp; done) | (simp; omega)))))⟩
              · have e2' : (l == 0) = false := by simpa using e2
                have HI : Hid (inR (tot vs) = false) := by
                  show inR _ = false
                  cases q : inR (tot vs)
                  · rfl
                  · rw [inR_iff, HT.out] at q; omega
                clear e2
                go_wp2
                exact bodyPost_ret (v := .tuple #[.agg #[.int .i64 0, .int .i64 0, .string ⟨#[]⟩], .int .i64 12]) (by simp [results, Tryd.results29, go_sem, *]) rfl ⟨by rw [sumR_over HAD.out HM.out HI.out], by (repeat (first | exact Below.refl _ _ | assumption | refine Below.drew ?_ | refine below_drewN ?_ _ | refine Below.alloc ?_ (by first | omega | (simp; done) | (simp; omega)) _ | refine Below.setCell ?_ (by first | omega | (simp; done) | (simp; omega)) _ | refine Below.trans ?_ (Below.mono (by assumption) (by first | omega | (simp; done) | (simp; omega)))))⟩
            · have e1' : (h == 1) = false := by simpa using e1
              by_cases e3 : h = -1
              · subst e3
                have HI : Hid (inR (tot vs) = true) := by show inR _ = true; rw [inR_iff, HT.out]; omega
                have HE : Hid (tot vs = l - 4611686018427387904) := by show _ = _; rw [HT.out]; omega
                go_wp2_with (first | (go_at_call 52; refine (rnumber_any _ _).mono ?_; rintro e w' ⟨rfl, hb⟩; obtain ⟨hc, hf⟩ := bcell hb; have hz := hb.size; (try simp at hz); (try have hz0 : w.heap.size < w'.heap.size := by omega); (try have hz1 : w.heap.size + 1 < w'.heap.size := by omega); (try have hz2 : w.heap.size + 1 + 1 < w'.heap.size := by omega); (try have hz3 : w.heap.size + 1 + 1 + 1 < w'.heap.size := by omega)))
                exact bodyPost_ret (v := .tuple #[.agg #[.int .i64 1, .int .i64 (l - 4611686018427387904), .string ⟨#[]⟩], .int .i64 0]) (by simp [results, Tryd.results29, go_sem, *]) rfl ⟨by rw [sumR_ok HAD.out HM.out HI.out, HE.out], by (repeat (first | exact Below.refl _ _ | assumption | refine Below.drew ?_ | refine below_drewN ?_ _ | refine Below.alloc ?_ (by first | omega | (simp; done) | (simp; omega)) _ | refine Below.setCell ?_ (by first | omega | (simp; done) | (simp; omega)) _ | refine Below.trans ?_ (Below.mono (by assumption) (by first | omega | (simp; done) | (simp; omega)))))⟩
              · have e3' : (h == -1) = false := by simpa using e3
                have HI : Hid (inR (tot vs) = false) := by
                  show inR _ = false
                  cases q : inR (tot vs)
                  · rfl
                  · rw [inR_iff, HT.out] at q; omega
                clear e0 e1 e3
                go_wp2
                exact bodyPost_ret (v := .tuple #[.agg #[.int .i64 0, .int .i64 0, .string ⟨#[]⟩], .int .i64 12]) (by simp [results, Tryd.results29, go_sem, *]) rfl ⟨by rw [sumR_over HAD.out HM.out HI.out], by (repeat (first | exact Below.refl _ _ | assumption | refine Below.drew ?_ | refine below_drewN ?_ _ | refine Below.alloc ?_ (by first | omega | (simp; done) | (simp; omega)) _ | refine Below.setCell ?_ (by first | omega | (simp; done) | (simp; omega)) _ | refine Below.trans ?_ (Below.mono (by assumption) (by first | omega | (simp; done) | (simp; omega)))))⟩
  · rw [sumR_adm had]
    have had' : (adm 1 vs != 0) = true := by simpa using had
    clear had
    go_enter Tryd.func29, Tryd.ntmps29
    go_wp2_with fail
    refine (refused_any 1 a cap vs _ hlen (HR.out.alloc _)).mono ?_
    rintro e w' ⟨rfl, hb⟩
    (obtain ⟨hc, hf⟩ := bcell hb; have hz := hb.size; (try simp at hz); (try have hz0 : w.heap.size < w'.heap.size := by omega); (try have hz1 : w.heap.size + 1 < w'.heap.size := by omega); (try have hz2 : w.heap.size + 1 + 1 < w'.heap.size := by omega); (try have hz3 : w.heap.size + 1 + 1 + 1 < w'.heap.size := by omega))
    go_wp2
    exact bodyPost_ret (v := .tuple #[.agg #[.int .i64 0, .int .i64 0, .string ⟨#[]⟩], .int .i64 (adm 1 vs)]) (by simp [results, Tryd.results29, go_sem, *]) rfl ⟨rfl, by (repeat (first | exact Below.refl _ _ | assumption | refine Below.drew ?_ | refine below_drewN ?_ _ | refine Below.alloc ?_ (by first | omega | (simp; done) | (simp; omega)) _ | refine Below.setCell ?_ (by first | omega | (simp; done) | (simp; omega)) _ | refine Below.trans ?_ (Below.mono (by assumption) (by first | omega | (simp; done) | (simp; omega)))))⟩
end Go.Proofs.YtfabcdjgakhdmaaDoor
