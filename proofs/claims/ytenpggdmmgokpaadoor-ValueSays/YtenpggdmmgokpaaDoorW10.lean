/- Walks of layer 1, tenth part: Sum. -/
import Derived.Test.YtenpggdmmgokpaaDoorW9
namespace Go.Proofs.YtenpggdmmgokpaaDoor
open Go.RowKit

set_option maxHeartbeats 2000000 in
theorem sum_any (a : Option Addr) (cap : Nat) (vs : List V3) (w : World) (hlen : vs.length ≤ 2147483648) (hrow : Row w a vs) :
    Calls Tryd.prog 17 #[.slice a vs.length cap] w fun e w' => e = .returned (.tuple #[.agg #[.int .i64 (sumR vs).1, .int .i64 (sumR vs).2.1, .string ⟨#[]⟩], .int .i64 (sumR vs).2.2]) ∧ Below w.heap.size w w' := by
  have HR : Hid (Row w a vs) := hrow
  clear hrow
  by_cases had : adm 1 vs = 0
  · have hall := adm_zero had
    have hin : ∀ v ∈ vs, v.1 = 1 → -4611686018427387904 ≤ v.2.1 ∧ v.2.1 ≤ 4611686018427387904 := fun v hv e => right_int (hall v hv).1 e
    have hbd := tot_bound hin
    have HIN : Hid (∀ v ∈ vs, v.1 = 1 → -4611686018427387904 ≤ v.2.1 ∧ v.2.1 ≤ 4611686018427387904) := hin
    have HBD : Hid (-9903520314283042199192993792 ≤ tot vs ∧ tot vs ≤ 9903520314283042199192993792) := by
      refine ⟨?_, ?_⟩ <;> omega
    have HAD : Hid (adm 1 vs = 0) := had
    clear had hall hin hbd
    go_enter Tryd.func17, Tryd.ntmps17
    go_wp2_with fail
    refine (admit_any 1 a cap vs _ hlen (HR.out.later (by (repeat (first | exact Below.refl _ _ | assumption | refine Below.drew ?_ | refine below_drewN ?_ _ | refine Below.alloc ?_ (by first | omega | (simp; done) | (simp; omega)) _ | refine Below.setCell ?_ (by first | omega | (simp; done) | (simp; omega)) _ | refine Below.trans ?_ (Below.mono (by assumption) (by first | omega | (simp; done) | (simp; omega)))))))).mono ?_
    rintro e w1 ⟨rfl, hb1⟩
    rw [HAD.out]
    obtain ⟨hc1, hf1⟩ := bcell hb1
    have hz1 := hb1.size
    simp at hz1
    have hz10 : w.heap.size < w1.heap.size := by omega
    have hbw : Below w.heap.size w w1 := by (repeat (first | exact Below.refl _ _ | assumption | refine Below.drew ?_ | refine below_drewN ?_ _ | refine Below.alloc ?_ (by first | omega | (simp; done) | (simp; omega)) _ | refine Below.setCell ?_ (by first | omega | (simp; done) | (simp; omega)) _ | refine Below.trans ?_ (Below.mono (by assumption) (by first | omega | (simp; done) | (simp; omega)))))
    have f0 : ∀ o, w1.frozen? ⟨w.heap.size, o, none⟩ = false := by intro o; rw [hf1 _ _ (by simp)]; simp
    have r0 : w1.cell? ⟨w.heap.size, 0, none⟩ = some (.int .i64 0) := by rw [hc1 _ _ (by simp)]; simp
    have r1 : w1.cell? ⟨w.heap.size, 1, none⟩ = some (.int .i64 0) := by rw [hc1 _ _ (by simp)]; simp
    have r2 : w1.cell? ⟨w.heap.size, 2, none⟩ = some (.string ⟨#[]⟩) := by rw [hc1 _ _ (by simp)]; simp
    clear hc1 hf1
    go_wp2
    go_loopw [6, 19] (fun m i wr => ∃ k : Nat, k ≤ vs.length ∧ i = .int .i64 k ∧ m = .bool (met (vs.take k)) ∧ Below w1.heap.size w1 wr ∧
        wr.cell? ⟨w1.heap.size, 0, none⟩ = some (.int .u64 (tot (vs.take k) / 18446744073709551616 % 18446744073709551616)) ∧ wr.cell? ⟨w1.heap.size, 1, none⟩ = some (.int .u64 (tot (vs.take k) % 18446744073709551616)) ∧ (∀ o, wr.frozen? ⟨w1.heap.size, o, none⟩ = false) ∧ w1.heap.size < wr.heap.size) (fun _ i _ => vs.length - (intOf i).toNat)
    case atStart => exact ⟨0, Nat.zero_le _, rfl, by simp [met], (Below.refl _ _).alloc (Nat.le_refl _) _, by simp [tot], by simp [tot], by simp, by simp⟩
    case round =>
      obtain ⟨k, hk, rfl, rfl, hb, l0, l1, lf, lz⟩ := hrel
      have g0 := cell_later hb r0
      have g1 := cell_later hb r1
      have g2 := cell_later hb r2
      have gf : ∀ o, wr.frozen? ⟨w.heap.size, o, none⟩ = false := fun o => by rw [hb.frozen (p := ⟨w.heap.size, o, none⟩) hz10]; exact f0 o
      clear r0 r1 r2 f0
      have lz' : w1.heap.size < wr.heap.size + 1 := by omega
      have hr0 : w.heap.size < wr.heap.size := by omega
      by_cases hlt : k < vs.length
      · obtain ⟨b, off, rfl, c0, c1, c2⟩ := HR.out k hlt
        have d0 := cell_later (hbw.trans (hb.mono (by omega))) c0
        have d1 := cell_later (hbw.trans (hb.mono (by omega))) c1
        have d2 := cell_later (hbw.trans (hb.mono (by omega))) c2
        clear c0 c1 c2
        by_cases h1 : (vs[k]).1 = 1
        · obtain ⟨n1, n2⟩ := HIN.out _ (List.getElem_mem hlt) h1
          have HT : Hid (tot (vs.take (k + 1)) = tot (vs.take k) + (vs[k]).2.1) := tot_num hlt h1
          have HM : Hid (met (vs.take (k + 1)) = true) := met_num hlt h1
          obtain ⟨S, hS⟩ : ∃ S, tot (vs.take k) = S := ⟨_, rfl⟩
          rw [hS] at l0 l1 HT
          clear hS
          have h1' : ((vs[k]).1 == 1) = true := by simpa using h1
          clear h1
          go_wp2_with (first | (go_at_call 35; refine (plus_any S _ _ n1 n2).mono ?_; rintro e w' ⟨rfl, hb⟩; obtain ⟨hc, hf⟩ := bcell hb; have hz := hb.size; (try simp at hz); (try have hz0 : w.heap.size < w'.heap.size := by omega); (try have hz1 : w.heap.size + 1 < w'.heap.size := by omega); (try have hz2 : w.heap.size + 1 + 1 < w'.heap.size := by omega); (try have hz3 : w.heap.size + 1 + 1 + 1 < w'.heap.size := by omega)))
          go_roundw
          case rel => exact ⟨k + 1, by omega, by go_num, by rw [HM.out], by (repeat (first | exact Below.refl _ _ | assumption | refine Below.drew ?_ | refine below_drewN ?_ _ | refine Below.alloc ?_ (by first | omega | (simp; done) | (simp; omega)) _ | refine Below.setCell ?_ (by first | omega | (simp; done) | (simp; omega)) _ | refine Below.trans ?_ (Below.mono (by assumption) (by first | omega | (simp; done) | (simp; omega))))), by rw [HT.out]; go_simp, by rw [HT.out]; go_simp, by intro o; go_simp, by first | omega | (simp; omega)⟩
          case measure => simp [intOf]; omega
        · have HT : Hid (tot (vs.take (k + 1)) = tot (vs.take k)) := tot_null hlt h1
          have HM : Hid (met (vs.take (k + 1)) = met (vs.take k)) := met_null hlt h1
          have h1' : ((vs[k]).1 == 1) = false := by simpa using h1
          clear h1
          go_wp2
          go_roundw
          case rel => exact ⟨k + 1, by omega, by go_num, by rw [HM.out], by (repeat (first | exact Below.refl _ _ | assumption | refine Below.drew ?_ | refine below_drewN ?_ _ | refine Below.alloc ?_ (by first | omega | (simp; done) | (simp; omega)) _ | refine Below.setCell ?_ (by first | omega | (simp; done) | (simp; omega)) _ | refine Below.trans ?_ (Below.mono (by assumption) (by first | omega | (simp; done) | (simp; omega))))), by rw [HT.out]; go_simp, by rw [HT.out]; go_simp, by intro o; go_simp, by first | omega | (simp; omega)⟩
          case measure => simp [intOf]; omega
      · have hk' : k = vs.length := by omega
        subst hk'
        rw [List.take_length] at l0 l1 ⊢
        obtain ⟨m, hm⟩ : ∃ m, met vs = m := ⟨_, rfl⟩
        obtain ⟨r, hr⟩ : ∃ r, inR (tot vs) = r := ⟨_, rfl⟩
        have HM : Hid (met vs = m) := hm
        have HRR : Hid (inR (tot vs) = r) := hr
        rw [hm]
        clear hm hr
        cases m
        · go_wp2_with (first | (go_at_call 23; refine (null_any _).mono ?_; rintro e w' ⟨rfl, hb⟩; obtain ⟨hc, hf⟩ := bcell hb; have hz := hb.size; (try simp at hz); (try have hz0 : w.heap.size < w'.heap.size := by omega); (try have hz1 : w.heap.size + 1 < w'.heap.size := by omega); (try have hz2 : w.heap.size + 1 + 1 < w'.heap.size := by omega); (try have hz3 : w.heap.size + 1 + 1 + 1 < w'.heap.size := by omega)))
          exact bodyPost_ret (v := .tuple #[.agg #[.int .i64 0, .int .i64 0, .string ⟨#[]⟩], .int .i64 0]) (by simp [results, Tryd.results17, go_sem, *]) rfl ⟨by rw [sumR_none HAD.out HM.out], by (repeat (first | exact Below.refl _ _ | assumption | refine Below.drew ?_ | refine below_drewN ?_ _ | refine Below.alloc ?_ (by first | omega | (simp; done) | (simp; omega)) _ | refine Below.setCell ?_ (by first | omega | (simp; done) | (simp; omega)) _ | refine Below.trans ?_ (Below.mono (by assumption) (by first | omega | (simp; done) | (simp; omega)))))⟩
        · cases r
          · go_wp2_with (first | (go_at_call 23; refine (null_any _).mono ?_; rintro e w' ⟨rfl, hb⟩; obtain ⟨hc, hf⟩ := bcell hb; have hz := hb.size; (try simp at hz); (try have hz0 : w.heap.size < w'.heap.size := by omega); (try have hz1 : w.heap.size + 1 < w'.heap.size := by omega); (try have hz2 : w.heap.size + 1 + 1 < w'.heap.size := by omega); (try have hz3 : w.heap.size + 1 + 1 + 1 < w'.heap.size := by omega)) | (go_at_call 36; refine (narrow_no (tot vs) _ HBD.out.1 HBD.out.2 HRR.out).mono ?_; rintro e w' ⟨x, rfl, hb⟩; (obtain ⟨hc, hf⟩ := bcell hb; have hz := hb.size; (try simp at hz); (try have hz0 : w.heap.size < w'.heap.size := by omega); (try have hz1 : w.heap.size + 1 < w'.heap.size := by omega); (try have hz2 : w.heap.size + 1 + 1 < w'.heap.size := by omega); (try have hz3 : w.heap.size + 1 + 1 + 1 < w'.heap.size := by omega))))
            exact bodyPost_ret (v := .tuple #[.agg #[.int .i64 0, .int .i64 0, .string ⟨#[]⟩], .int .i64 12]) (by simp [results, Tryd.results17, go_sem, *]) rfl ⟨by rw [sumR_over HAD.out HM.out HRR.out], by (repeat (first | exact Below.refl _ _ | assumption | refine Below.drew ?_ | refine below_drewN ?_ _ | refine Below.alloc ?_ (by first | omega | (simp; done) | (simp; omega)) _ | refine Below.setCell ?_ (by first | omega | (simp; done) | (simp; omega)) _ | refine Below.trans ?_ (Below.mono (by assumption) (by first | omega | (simp; done) | (simp; omega)))))⟩
          · go_wp2_with (first | (go_at_call 34; refine (number_any _ _).mono ?_; rintro e w' ⟨rfl, hb⟩; obtain ⟨hc, hf⟩ := bcell hb; have hz := hb.size; (try simp at hz); (try have hz0 : w.heap.size < w'.heap.size := by omega); (try have hz1 : w.heap.size + 1 < w'.heap.size := by omega); (try have hz2 : w.heap.size + 1 + 1 < w'.heap.size := by omega); (try have hz3 : w.heap.size + 1 + 1 + 1 < w'.heap.size := by omega)) | (go_at_call 36; refine (narrow_ok (tot vs) _ (inR_iff.1 HRR.out).1 (inR_iff.1 HRR.out).2).mono ?_; rintro e w' ⟨rfl, hb⟩; (obtain ⟨hc, hf⟩ := bcell hb; have hz := hb.size; (try simp at hz); (try have hz0 : w.heap.size < w'.heap.size := by omega); (try have hz1 : w.heap.size + 1 < w'.heap.size := by omega); (try have hz2 : w.heap.size + 1 + 1 < w'.heap.size := by omega); (try have hz3 : w.heap.size + 1 + 1 + 1 < w'.heap.size := by omega))))
            exact bodyPost_ret (v := .tuple #[.agg #[.int .i64 1, .int .i64 (tot vs), .string ⟨#[]⟩], .int .i64 0]) (by simp [results, Tryd.results17, go_sem, *]) rfl ⟨by rw [sumR_ok HAD.out HM.out HRR.out], by (repeat (first | exact Below.refl _ _ | assumption | refine Below.drew ?_ | refine below_drewN ?_ _ | refine Below.alloc ?_ (by first | omega | (simp; done) | (simp; omega)) _ | refine Below.setCell ?_ (by first | omega | (simp; done) | (simp; omega)) _ | refine Below.trans ?_ (Below.mono (by assumption) (by first | omega | (simp; done) | (simp; omega)))))⟩
  · rw [sumR_adm had]
    have had' : (adm 1 vs != 0) = true := by simpa using had
    clear had
    go_enter Tryd.func17, Tryd.ntmps17
    go_wp2_with fail
    refine (admit_any 1 a cap vs _ hlen (HR.out.later (by (repeat (first | exact Below.refl _ _ | assumption | refine Below.drew ?_ | refine below_drewN ?_ _ | refine Below.alloc ?_ (by first | omega | (simp; done) | (simp; omega)) _ | refine Below.setCell ?_ (by first | omega | (simp; done) | (simp; omega)) _ | refine Below.trans ?_ (Below.mono (by assumption) (by first | omega | (simp; done) | (simp; omega)))))))).mono ?_
    rintro e w' ⟨rfl, hb⟩
    (obtain ⟨hc, hf⟩ := bcell hb; have hz := hb.size; (try simp at hz); (try have hz0 : w.heap.size < w'.heap.size := by omega); (try have hz1 : w.heap.size + 1 < w'.heap.size := by omega); (try have hz2 : w.heap.size + 1 + 1 < w'.heap.size := by omega); (try have hz3 : w.heap.size + 1 + 1 + 1 < w'.heap.size := by omega))
    go_wp2_with (first | (go_at_call 23; refine (null_any _).mono ?_; rintro e w' ⟨rfl, hb⟩; obtain ⟨hc, hf⟩ := bcell hb; have hz := hb.size; (try simp at hz); (try have hz0 : w.heap.size < w'.heap.size := by omega); (try have hz1 : w.heap.size + 1 < w'.heap.size := by omega); (try have hz2 : w.heap.size + 1 + 1 < w'.heap.size := by omega); (try have hz3 : w.heap.size + 1 + 1 + 1 < w'.heap.size := by omega)))
    exact bodyPost_ret (v := .tuple #[.agg #[.int .i64 0, .int .i64 0, .string ⟨#[]⟩], .int .i64 (adm 1 vs)]) (by simp [results, Tryd.results17, go_sem, *]) rfl ⟨rfl, by (repeat (first | exact Below.refl _ _ | assumption | refine Below.drew ?_ | refine below_drewN ?_ _ | refine Below.alloc ?_ (by first | omega | (simp; done) | (simp; omega)) _ | refine Below.setCell ?_ (by first | omega | (simp; done) | (simp; omega)) _ | refine Below.trans ?_ (Below.mono (by assumption) (by first | omega | (simp; done) | (simp; omega)))))⟩
end Go.Proofs.YtenpggdmmgokpaaDoor
