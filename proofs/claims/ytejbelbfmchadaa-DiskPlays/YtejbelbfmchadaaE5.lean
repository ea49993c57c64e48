/- The laws' functions of layer 4: same (for rows that are the same), begins. -/
import Derived.Test.YtejbelbfmchadaaE4
import Derived.Test.YtejbelbfmchadaaM48
namespace Go.Proofs.Ytejbelbfmchadaa
open Go.RowKit

set_option maxHeartbeats 4000000 in
set_option maxRecDepth 100000 in
theorem same_eq (v v' : Value) (l : Fs) (B B' : Nat) (w : World) (hl : l.length ≤ 2147483648) (hr : w.ownsRow B 27 3 v l.length (fc l)) (hr' : w.ownsRow B' 27 3 v' l.length (fc l)) :
    Calls Try.prog 12 #[v, v'] w fun e w' => e = .returned (.bool true) ∧ Below w.heap.size w w' := by
  obtain ⟨p, cap, rfl⟩ := own_form hr
  obtain ⟨p', cap', rfl⟩ := own_form hr'
  have HR : Hid (w.ownsRow B 27 3 (.slice p l.length cap) l.length (fc l)) := hr
  have HR' : Hid (w.ownsRow B' 27 3 (.slice p' l.length cap') l.length (fc l)) := hr'
  clear hr hr'
  have hb0 : ((l.length : Int) != (l.length : Int)) = false := by simp
  go_enter Try.func12, Try.ntmps12
  go_wp2
  go_loopw [5] (fun i wr => ∃ k : Nat, k ≤ l.length ∧ i = .int .i64 k ∧ Below w.heap.size w wr) (fun i _ => l.length - (intOf i).toNat)
  case atStart => exact ⟨0, Nat.zero_le _, rfl, Below.refl _ _⟩
  case round =>
    obtain ⟨k, hk, rfl, hb⟩ := hrel
    have HB : Hid (Below w.heap.size w wr) := hb
    by_cases hlt : k < l.length
    · obtain ⟨g, rfl, c0, c1, c2⟩ := row_at HR.out hlt
      obtain ⟨g', rfl, p0, p1, p2⟩ := row_at HR'.out hlt
      have d0 := cell_later hb c0
      have d1 := cell_later hb c1
      have d2 := cell_later hb c2
      have q0 := cell_later hb p0
      have q1 := cell_later hb p1
      have q2 := cell_later hb p2
      obtain ⟨x, hx⟩ : ∃ x : ByteArray, (⟨(l[k]).1.toArray⟩ : ByteArray) = x := ⟨_, rfl⟩
      obtain ⟨y, hy⟩ : ∃ y : ByteArray, (⟨(l[k]).2.1.toArray⟩ : ByteArray) = y := ⟨_, rfl⟩
      obtain ⟨z, hz⟩ : ∃ z : Int, ((l[k]).2.2 : Int) = z := ⟨_, rfl⟩
      rw [hx] at d0 q0
      rw [hy] at d1 q1
      rw [hz] at d2 q2
      clear c0 c1 c2 p0 p1 p2 hx hy hz hb
      have hlti : (k : Int) < (l.length : Int) := by omega
      go_wp2
      go_quiet (fail)
      go_wp2
      go_roundw
      case rel => exact ⟨k + 1, by omega, by go_num, below_drewN HB.out _⟩
      case measure => simp [intOf]; omega
    · have hk' : k = l.length := by omega
      subst hk'
      go_wp2
      go_ret
      exact ⟨rfl, HB.out⟩

set_option maxHeartbeats 4000000 in
set_option maxRecDepth 100000 in
theorem begins_yes (s t : ByteArray) (w : World) (h : ∃ n, n ≤ s.size ∧ t = ⟨(s.data.toList.take n).toArray⟩) :
    Calls Try.prog 20 #[.string s, .string t] w fun e w' => e = .returned (.bool true) ∧ w' = w := by
  obtain ⟨n, hn, ht⟩ := h
  have htl : t.size = n := by
    rw [ht]
    show (List.toArray _).size = n
    simp
    omega
  have hti : (t.size : Int) ≤ (s.size : Int) := by omega
  have htd : decide ((t.size : Int) ≤ (s.size : Int)) = true := by simp; omega
  go_enter Try.func20, Try.ntmps20
  go_wp2
  go_ret
  refine ⟨ret_bool ?_, rfl⟩
  rw [ByteArray.toList_eq, ByteArray.data_extract]
  simp
/-- The front of a text. -/
theorem front (s : ByteArray) (n : Nat) : s.extract 0 n = ⟨(s.data.toList.take n).toArray⟩ := by
  apply ByteArray.ext
  rw [ByteArray.data_extract]
  apply Array.ext'
  simp
end Go.Proofs.Ytejbelbfmchadaa
