/- Walks of layer 2, second part: how two lists stand. -/
import Derived.Test.YtbmgcibclmbelabDoorK1
namespace Go.Proofs.YtbmgcibclmbelabDoor
open Go.RowKit

set_option maxHeartbeats 2000000 in
set_option maxRecDepth 100000 in
theorem kord_any (a a' : Option Addr) (cap cap' : Nat) (us vs : List V3) (w : World) (hl : us.length ≤ 2147483648) (hl' : vs.length ≤ 2147483648) (hr : Row w a us) (hr' : Row w a' vs) :
    Calls Tryd.prog 7 #[.slice a us.length cap, .slice a' vs.length cap'] w fun e w' => e = .returned (.int .i64 (ordL us vs)) ∧ Below w.heap.size w w' := by
  have HR : Hid (Row w a us) := hr
  have HR' : Hid (Row w a' vs) := hr'
  clear hr hr'
  obtain ⟨m, hm⟩ : ∃ m, min us.length vs.length = m := ⟨_, rfl⟩
  have hmu : m ≤ us.length := by omega
  have hmv : m ≤ vs.length := by omega
  have HM : Hid (min us.length vs.length = m) := hm
  clear hm
  go_enter Tryd.func7, Tryd.ntmps7
  go_wp2
  all_goals
    go_loopw [12] (fun i wr => ∃ k : Nat, k ≤ m ∧ i = .int .i64 k ∧ (∀ j (h : j < us.length) (h' : j < vs.length), j < k → ordV3 us[j] vs[j] = 0) ∧ Below w.heap.size w wr) (fun i _ => m - (intOf i).toNat)
    case atStart => exact ⟨0, Nat.zero_le _, rfl, fun j _ _ g => absurd g (Nat.not_lt_zero _), Below.refl _ _⟩
    case round =>
      obtain ⟨k, hk, rfl, hall, hb⟩ := hrel
      have HA : Hid (∀ j (h : j < us.length) (h' : j < vs.length), j < k → ordV3 us[j] vs[j] = 0) := hall
      clear hall
      have hsz := hb.size
      by_cases hlt : k < m
      · have hltu : k < us.length := by omega
        have hltv : k < vs.length := by omega
        obtain ⟨b, off, rfl, c0, c1, c2⟩ := HR.out k hltu
        obtain ⟨b', off', rfl, p0, p1, p2⟩ := HR'.out k hltv
        have hbz := cell_lt c0
        have hbz' := cell_lt p0
        have d0 := cell_later hb c0
        have d1 := cell_later hb c1
        have d2 := cell_later hb c2
        have q0 := cell_later hb p0
        have q1 := cell_later hb p1
        have q2 := cell_later hb p2
        clear c0 c1 c2 p0 p1 p2
        have hlt1 : (k : Int) < (us.length : Int) := by omega
        have hlt2 : (k : Int) < (vs.length : Int) := by omega
        have hy : b < wr.heap.size := by omega
        have hy' : b' < wr.heap.size := by omega
        by_cases hz : ordV3 us[k] vs[k] = 0
        · have HZ : Hid (ordV3 us[k] vs[k] = 0) := hz
          have HZ' : Hid (ordV us[k].1 us[k].2.1 us[k].2.2 vs[k].1 vs[k].2.1 vs[k].2.2 = 0) := hz
          clear hz
          go_wp2
          go_region_held3 (fun w' => w'.cell? ⟨b, off + k * 3, none⟩ = some (.int .i64 (us[k]).1) ∧ w'.cell? ⟨b, off + k * 3 + 1, none⟩ = some (.int .i64 (us[k]).2.1) ∧ w'.cell? ⟨b, off + k * 3 + 2, none⟩ = some (.string (us[k]).2.2) ∧ w'.cell? ⟨b', off' + k * 3, none⟩ = some (.int .i64 (vs[k]).1) ∧ w'.cell? ⟨b', off' + k * 3 + 1, none⟩ = some (.int .i64 (vs[k]).2.1) ∧ w'.cell? ⟨b', off' + k * 3 + 2, none⟩ = some (.string (vs[k]).2.2)) (go_simp)
            (first | (go_at_call 15; refine (order_any _ _ _ _ _ _ _).mono ?_; rintro e wv ⟨rfl, hbv⟩; rw [HZ'.out]; (have hcv : ∀ b o, b < wr.heap.size → wv.cell? ⟨b, o, none⟩ = wr.cell? ⟨b, o, none⟩ := fun b o h => hbv.cell (p := ⟨b, o, none⟩) h); have hzv := hbv.size; (try simp at hzv); (have x1 : b < wv.heap.size := by omega); (have x2 : b' < wv.heap.size := by omega)))
          go_wp2
          go_roundw
          case rel => exact ⟨k + 1, by omega, by go_num, upto2 HA.out HZ.out, by (repeat (first | exact Below.refl _ _ | assumption | refine Below.drew ?_ | refine below_drewN ?_ _ | refine Below.alloc ?_ (by first | omega | (simp; done) | (simp; omega)) _ | refine Below.setCell ?_ (by first | omega | (simp; done) | (simp; omega)) _ | refine Below.trans ?_ (Below.mono (by assumption) (by first | omega | (simp; done) | (simp; omega)))))⟩
          case measure => simp [intOf]; omega
        · have HE : Hid (ordL us vs = ordV3 us[k] vs[k]) := ordL_at us vs k hltu hltv HA.out hz
          obtain ⟨o, ho⟩ : ∃ o, ordV3 us[k] vs[k] = o := ⟨_, rfl⟩
          have hz' : (o != 0) = true := by rw [← ho]; simpa using hz
          have HO : Hid (ordV us[k].1 us[k].2.1 us[k].2.2 vs[k].1 vs[k].2.1 vs[k].2.2 = o) := ho
          rw [ho] at HE
          clear hz ho
          go_wp2
          go_region_held3 (fun w' => w'.cell? ⟨b, off + k * 3, none⟩ = some (.int .i64 (us[k]).1) ∧ w'.cell? ⟨b, off + k * 3 + 1, none⟩ = some (.int .i64 (us[k]).2.1) ∧ w'.cell? ⟨b, off + k * 3 + 2, none⟩ = some (.string (us[k]).2.2) ∧ w'.cell? ⟨b', off' + k * 3, none⟩ = some (.int .i64 (vs[k]).1) ∧ w'.cell? ⟨b', off' + k * 3 + 1, none⟩ = some (.int .i64 (vs[k]).2.1) ∧ w'.cell? ⟨b', off' + k * 3 + 2, none⟩ = some (.string (vs[k]).2.2)) (go_simp)
            (first | (go_at_call 15; refine (order_any _ _ _ _ _ _ _).mono ?_; rintro e wv ⟨rfl, hbv⟩; rw [HO.out]; (have hcv : ∀ b o, b < wr.heap.size → wv.cell? ⟨b, o, none⟩ = wr.cell? ⟨b, o, none⟩ := fun b o h => hbv.cell (p := ⟨b, o, none⟩) h); have hzv := hbv.size; (try simp at hzv); (have x1 : b < wv.heap.size := by omega); (have x2 : b' < wv.heap.size := by omega)))
          go_wp2
          go_ret
          exact ⟨ret_int HE.out.symm, by (repeat (first | exact Below.refl _ _ | assumption | refine Below.drew ?_ | refine below_drewN ?_ _ | refine Below.alloc ?_ (by first | omega | (simp; done) | (simp; omega)) _ | refine Below.setCell ?_ (by first | omega | (simp; done) | (simp; omega)) _ | refine Below.trans ?_ (Below.mono (by assumption) (by first | omega | (simp; done) | (simp; omega)))))⟩
      · have hk' : k = m := by omega
        subst hk'
        have HE : Hid (ordL us vs = ordI us.length vs.length) := ordL_end us vs fun j h h' => HA.out j h h' (by have := HM.out; omega)
        have hnot : ¬ ((k : Int) < (us.length : Int) ∧ (k : Int) < (vs.length : Int)) := by have := HM.out; omega
        go_wp2_with (first | (go_at_call 16; refine (cmpI_any _ _ _).mono ?_; rintro e w' ⟨rfl, rfl⟩))
        go_ret
        exact ⟨ret_int HE.out.symm, by (repeat (first | exact Below.refl _ _ | assumption | refine Below.drew ?_ | refine below_drewN ?_ _ | refine Below.alloc ?_ (by first | omega | (simp; done) | (simp; omega)) _ | refine Below.setCell ?_ (by first | omega | (simp; done) | (simp; omega)) _ | refine Below.trans ?_ (Below.mono (by assumption) (by first | omega | (simp; done) | (simp; omega)))))⟩

end Go.Proofs.YtbmgcibclmbelabDoor
