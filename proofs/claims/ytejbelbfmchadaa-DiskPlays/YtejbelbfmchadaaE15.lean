/- The laws' functions of layer 4: same for two rows that came in, looks. -/
import Derived.Test.YtejbelbfmchadaaE14
namespace Go.Proofs.Ytejbelbfmchadaa
open Go.RowKit

set_option maxHeartbeats 4000000 in
set_option maxRecDepth 100000 in
theorem fsame_yes (p p' : Option Addr) (cap cap' : Nat) (l : List FV) (w : World) (hl : l.length ≤ 2147483648) (hr : FRow w p l) (hr' : FRow w p' l) :
    Calls Try.prog 12 #[.slice p l.length cap, .slice p' l.length cap'] w fun e w' => e = .returned (.bool true) ∧ Below w.heap.size w w' := by
  have HR : Hid (FRow w p l) := hr
  have HR' : Hid (FRow w p' l) := hr'
  clear hr hr'
  have hb0 : ((l.length : Int) != (l.length : Int)) = false := by simp
  go_enter Try.func12, Try.ntmps12
  go_wp2
  go_loopw [5] (fun i wr => ∃ k : Nat, k ≤ l.length ∧ i = .int .i64 k ∧ Below w.heap.size w wr) (fun i _ => l.length - (intOf i).toNat)
  case atStart => exact ⟨0, Nat.zero_le _, rfl, Below.refl _ _⟩
  case round =>
    obtain ⟨k, hk, rfl, hb⟩ := hrel
    have HB : Hid (Below w.heap.size w wr) := hb
    by_cases hlt : k < l.length
    · obtain ⟨g, off, rfl, c0, c1, c2⟩ := HR.out k hlt
      obtain ⟨g', off', rfl, p0, p1, p2⟩ := HR'.out k hlt
      have d0 := cell_later hb c0
      have d1 := cell_later hb c1
      have d2 := cell_later hb c2
      have q0 := cell_later hb p0
      have q1 := cell_later hb p1
      have q2 := cell_later hb p2
      obtain ⟨x, hx⟩ : ∃ x : ByteArray, (l[k]).1 = x := ⟨_, rfl⟩
      obtain ⟨y, hy⟩ : ∃ y : ByteArray, (l[k]).2.1 = y := ⟨_, rfl⟩
      obtain ⟨z, hz⟩ : ∃ z : Int, (l[k]).2.2 = z := ⟨_, rfl⟩
      rw [hx] at d0 q0
      rw [hy] at d1 q1
      rw [hz] at d2 q2
      clear c0 c1 c2 p0 p1 p2 hx hy hz hb
      have hlti : (k : Int) < (l.length : Int) := by omega
      go_wp2
      go_quiet (fail)
      go_wp2
      go_roundw
      case rel => exact ⟨k + 1, by omega, by go_num, below_drewN HB.out _⟩
      case measure => simp [intOf]; omega
    · have hk' : k = l.length := by omega
      subst hk'
      go_wp2
      go_ret
      exact ⟨rfl, HB.out⟩
end Go.Proofs.Ytejbelbfmchadaa
