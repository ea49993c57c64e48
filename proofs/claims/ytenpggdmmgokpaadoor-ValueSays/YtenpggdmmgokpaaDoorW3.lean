/- Walks of layer 1, third part: lists of values. -/
import Derived.Test.YtenpggdmmgokpaaDoorW1
import Derived.Test.YtenpggdmmgokpaaDoorM2
namespace Go.Proofs.YtenpggdmmgokpaaDoor
open Go.RowKit

/-- The cells of a slice of values. -/
def Row (w : World) (a : Option Addr) (vs : List V3) : Prop :=
  ∀ i (h : i < vs.length), ∃ b off, a = some ⟨b, off, none⟩ ∧ w.cell? ⟨b, off + i * 3, none⟩ = some (.int .i64 (vs[i]).1) ∧ w.cell? ⟨b, off + i * 3 + 1, none⟩ = some (.int .i64 (vs[i]).2.1) ∧ w.cell? ⟨b, off + i * 3 + 2, none⟩ = some (.string (vs[i]).2.2)

theorem upto_succ {n k : Nat} {p : (j : Nat) → j < n → Prop} (h : ∀ j (g : j < n), j < k → p j g) {hlt : k < n} (e : p k hlt) : ∀ j (g : j < n), j < k + 1 → p j g := by
  intro j g hj
  by_cases hjk : j = k
  · subst hjk; exact e
  · exact h j g (by omega)

set_option maxHeartbeats 1000000 in
theorem admit_any (kind : Int) (a : Option Addr) (cap : Nat) (vs : List V3) (w : World) (hlen : vs.length ≤ 2147483648) (hrow : Row w a vs) :
    Calls Tryd.prog 32 #[.int .i64 kind, .slice a vs.length cap] w fun e w' => e = .returned (.int .i64 (adm kind vs)) ∧ Below w.heap.size w w' := by
  have HR : Hid (Row w a vs) := hrow
  clear hrow
  go_enter Tryd.func32, Tryd.ntmps32
  go_wp2
  go_loopw [11] (fun i wr => ∃ k : Nat, k ≤ vs.length ∧ i = .int .i64 k ∧ (∀ j (h : j < vs.length), j < k → rgt (vs[j]).1 (vs[j]).2.1 (vs[j]).2.2 = true) ∧ Below w.heap.size w wr) (fun i _ => vs.length - (intOf i).toNat)
  case atStart => exact ⟨0, Nat.zero_le _, rfl, fun j h g => absurd g (Nat.not_lt_zero _), Below.refl _ _⟩
  case round =>
    obtain ⟨k, hk, rfl, hall, hb⟩ := hrel
    by_cases hlt : k < vs.length
    · obtain ⟨b, off, rfl, c0, c1, c2⟩ := HR.out k hlt
      have HA : Hid (∀ j (h : j < vs.length), j < k → rgt (vs[j]).1 (vs[j]).2.1 (vs[j]).2.2 = true) := hall
      clear hall
      have d0 := cell_later hb c0
      have d1 := cell_later hb c1
      have d2 := cell_later hb c2
      clear c0 c1 c2
      have hsz := hb.size
      go_wp2_with (first | (go_at_call 11; refine (right_any _ _ _ _).mono ?_; rintro e w' ⟨rfl, hb⟩; obtain ⟨hc, hf⟩ := bcell hb; have hz := hb.size; (try simp at hz); (try have hz0 : w.heap.size < w'.heap.size := by omega); (try have hz1 : w.heap.size + 1 < w'.heap.size := by omega); (try have hz2 : w.heap.size + 1 + 1 < w'.heap.size := by omega); (try have hz3 : w.heap.size + 1 + 1 + 1 < w'.heap.size := by omega)))
      · go_ret
        refine ⟨ret_int ?_, by (repeat (first | exact Below.refl _ _ | assumption | refine Below.drew ?_ | refine below_drewN ?_ _ | refine Below.alloc ?_ (by first | omega | (simp; done) | (simp; omega)) _ | refine Below.setCell ?_ (by first | omega | (simp; done) | (simp; omega)) _ | refine Below.trans ?_ (Below.mono (by assumption) (by first | omega | (simp; done) | (simp; omega)))))⟩
        have hr : (!rgt (vs[k]).1 (vs[k]).2.1 (vs[k]).2.2) = true := by assumption
        exact (adm_right k hlt (by simpa using hr)).symm
      · have hr : (!rgt (vs[k]).1 (vs[k]).2.1 (vs[k]).2.2) = false := by assumption
        have hr' : rgt (vs[k]).1 (vs[k]).2.1 (vs[k]).2.2 = true := by simpa using hr
        go_roundw
        case rel => exact ⟨k + 1, by omega, by go_num, upto_succ HA.out hr', by (repeat (first | exact Below.refl _ _ | assumption | refine Below.drew ?_ | refine below_drewN ?_ _ | refine Below.alloc ?_ (by first | omega | (simp; done) | (simp; omega)) _ | refine Below.setCell ?_ (by first | omega | (simp; done) | (simp; omega)) _ | refine Below.trans ?_ (Below.mono (by assumption) (by first | omega | (simp; done) | (simp; omega)))))⟩
        case measure => simp [intOf]; omega
    · have hall' : ∀ j (h : j < vs.length), rgt (vs[j]).1 (vs[j]).2.1 (vs[j]).2.2 = true := fun j h => hall j h (by omega)
      have HA : Hid (∀ j (h : j < vs.length), rgt (vs[j]).1 (vs[j]).2.1 (vs[j]).2.2 = true) := hall'
      clear hall hall'
      have hk' : k = vs.length := by omega
      subst hk'
      go_wp2
      go_loopw [21] (fun i wr => ∃ k : Nat, k ≤ vs.length ∧ i = .int .i64 k ∧ (∀ j (h : j < vs.length), j < k → (vs[j]).1 = kind ∨ (vs[j]).1 = 0) ∧ Below w.heap.size w wr) (fun i _ => vs.length - (intOf i).toNat)
      case atStart => exact ⟨0, Nat.zero_le _, rfl, fun j h g => absurd g (Nat.not_lt_zero _), hb⟩
      case round =>
        obtain ⟨k, hk, rfl, hall, hb⟩ := hrel
        have HB : Hid (∀ j (h : j < vs.length), j < k → (vs[j]).1 = kind ∨ (vs[j]).1 = 0) := hall
        clear hall
        by_cases hlt : k < vs.length
        · obtain ⟨b, off, rfl, c0, c1, c2⟩ := HR.out k hlt
          have d0 := cell_later hb c0
          have d1 := cell_later hb c1
          have d2 := cell_later hb c2
          clear c0 c1 c2
          have hsz := hb.size
          by_cases h1 : (vs[k]).1 = kind
          · have h1' : ((vs[k]).1 != kind) = false := by simpa using h1
            have H1 : Hid ((vs[k]).1 = kind) := h1
            clear h1
            go_wp2
            go_roundw
            case rel => exact ⟨k + 1, by omega, by go_num, upto_succ HB.out (Or.inl H1.out), by (repeat (first | exact Below.refl _ _ | assumption | refine Below.drew ?_ | refine below_drewN ?_ _ | refine Below.alloc ?_ (by first | omega | (simp; done) | (simp; omega)) _ | refine Below.setCell ?_ (by first | omega | (simp; done) | (simp; omega)) _ | refine Below.trans ?_ (Below.mono (by assumption) (by first | omega | (simp; done) | (simp; omega)))))⟩
            case measure => simp [intOf]; omega
          · have h1' : ((vs[k]).1 != kind) = true := by simpa using h1
            by_cases h2 : (vs[k]).1 = 0
            · have h2' : ((vs[k]).1 != 0) = false := by simpa using h2
              have H2 : Hid ((vs[k]).1 = 0) := h2
              clear h2 h1
              go_wp2
              go_roundw
              case rel => exact ⟨k + 1, by omega, by go_num, upto_succ HB.out (Or.inr H2.out), by (repeat (first | exact Below.refl _ _ | assumption | refine Below.drew ?_ | refine below_drewN ?_ _ | refine Below.alloc ?_ (by first | omega | (simp; done) | (simp; omega)) _ | refine Below.setCell ?_ (by first | omega | (simp; done) | (simp; omega)) _ | refine Below.trans ?_ (Below.mono (by assumption) (by first | omega | (simp; done) | (simp; omega)))))⟩
              case measure => simp [intOf]; omega
            · have h2' : ((vs[k]).1 != 0) = true := by simpa using h2
              go_wp2
              go_ret
              exact ⟨ret_int (adm_type HA.out k hlt h1 h2).symm, by (repeat (first | exact Below.refl _ _ | assumption | refine Below.drew ?_ | refine below_drewN ?_ _ | refine Below.alloc ?_ (by first | omega | (simp; done) | (simp; omega)) _ | refine Below.setCell ?_ (by first | omega | (simp; done) | (simp; omega)) _ | refine Below.trans ?_ (Below.mono (by assumption) (by first | omega | (simp; done) | (simp; omega)))))⟩
        · go_wp2
          go_ret
          exact ⟨ret_int (adm_ok HA.out fun j h => HB.out j h (by omega)).symm, by (repeat (first | exact Below.refl _ _ | assumption | refine Below.drew ?_ | refine below_drewN ?_ _ | refine Below.alloc ?_ (by first | omega | (simp; done) | (simp; omega)) _ | refine Below.setCell ?_ (by first | omega | (simp; done) | (simp; omega)) _ | refine Below.trans ?_ (Below.mono (by assumption) (by first | omega | (simp; done) | (simp; omega)))))⟩
end Go.Proofs.YtenpggdmmgokpaaDoor
