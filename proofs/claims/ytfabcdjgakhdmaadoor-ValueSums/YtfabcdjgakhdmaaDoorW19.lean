/- Walks of layer 1: what was lent is as it was. -/
import Derived.Test.YtfabcdjgakhdmaaDoorW18
import Derived.Deep.QuietTactic
import Derived.BigQuiet
namespace Go.Proofs.YtfabcdjgakhdmaaDoor
open Go.RowKit

theorem cell_lt {w : World} {b o : Nat} {v : Value} (h : w.cell? ⟨b, o, none⟩ = some v) : b < w.heap.size := by
  by_cases g : b < w.heap.size
  · exact g
  · simp [World.cell?, Array.getElem?_eq_none (by omega : w.heap.size ≤ b)] at h

set_option maxHeartbeats 2000000 in
set_option maxRecDepth 100000 in
theorem kept_any (g : Nat) (a : Option Addr) (cap : Nat) (vs : List V3) (w : World) (hlen : vs.length ≤ 2147483647) (hown : Row w (some ⟨g, 0, none⟩) (more vs)) (hrow : Row w a vs) :
    Calls Tryd.prog 21 #[.slice (some ⟨g, 0, none⟩) (vs.length + 2) (vs.length + 2), .slice a vs.length cap] w fun e w' => e = .returned (.bool true) ∧ Below w.heap.size w w' := by
  have HR : Hid (Row w a vs) := hrow
  have HO : Hid (Row w (some ⟨g, 0, none⟩) (more vs)) := hown
  have hml : (more vs).length = vs.length + 2 := by simp [more]
  obtain ⟨b1, o1, e1, m0, m1, m2⟩ := hown vs.length (by omega)
  obtain ⟨b2, o2, e2, m3, m4, m5⟩ := hown (vs.length + 1) (by omega)
  obtain ⟨rfl, rfl⟩ : g = b1 ∧ 0 = o1 := by simpa using e1
  obtain ⟨rfl, rfl⟩ : g = b2 ∧ 0 = o2 := by simpa using e2
  have n1 : (more vs)[vs.length] = (1, 77, ⟨#[]⟩) := by simp [more]
  have n2 : (more vs)[vs.length + 1] = (0, 0, ⟨#[]⟩) := by simp [more]
  rw [n1] at m0 m1 m2
  rw [n2] at m3 m4 m5
  simp only [Nat.zero_add] at m0 m1 m2 m3 m4 m5
  have hg := cell_lt m0
  clear hrow hown e1 e2 n1 n2 hml
  go_enter Tryd.func21, Tryd.ntmps21
  go_wp2
  go_loopw [5] (fun i wr => ∃ k : Nat, k ≤ vs.length ∧ i = .int .i64 k ∧ Below w.heap.size w wr) (fun i _ => vs.length - (intOf i).toNat)
  case atStart => exact ⟨0, Nat.zero_le _, rfl, Below.refl _ _⟩
  case round =>
    obtain ⟨k, hk, rfl, hb⟩ := hrel
    have hsz := hb.size
    have f0 := cell_later hb m0
    have f1 := cell_later hb m1
    have f2 := cell_later hb m2
    have f3 := cell_later hb m3
    have f4 := cell_later hb m4
    have f5 := cell_later hb m5
    clear m0 m1 m2 m3 m4 m5
    have hgr : g < wr.heap.size := by omega
    by_cases hlt : k < vs.length
    · obtain ⟨b, off, rfl, c0, c1, c2⟩ := HR.out k hlt
      obtain ⟨b', off', e', p0, p1, p2⟩ := HO.out k (by simp [more]; omega)
      obtain ⟨rfl, rfl⟩ : g = b' ∧ 0 = off' := by simpa using e'
      have nk : (more vs)[k]'(by simp [more]; omega) = vs[k] := by simp [more, List.getElem_append_left hlt]
      rw [nk] at p0 p1 p2
      simp only [Nat.zero_add] at p0 p1 p2
      have d0 := cell_later hb c0
      have d1 := cell_later hb c1
      have d2 := cell_later hb c2
      have q0 := cell_later hb p0
      have q1 := cell_later hb p1
      have q2 := cell_later hb p2
      clear c0 c1 c2 p0 p1 p2 e' nk f0 f1 f2 f3 f4 f5
      have hlt' : (k : Int) < (vs.length : Int) := by omega
      have hlt2 : (k : Int) < (vs.length : Int) + 2 := by omega
      go_wp2
      go_quiet (fail)
      go_wp2
      go_roundw
      case rel => exact ⟨k + 1, by omega, by go_num, by (repeat (first | exact Below.refl _ _ | assumption | refine Below.drew ?_ | refine below_drewN ?_ _ | refine Below.alloc ?_ (by first | omega | (simp; done) | (simp; omega)) _ | refine Below.setCell ?_ (by first | omega | (simp; done) | (simp; omega)) _ | refine Below.trans ?_ (Below.mono (by assumption) (by first | omega | (simp; done) | (simp; omega)))))⟩
      case measure => simp [intOf]; omega
    · have hk' : k = vs.length := by omega
      subst hk'
      clear HR HO
      have i1 : (0 : Int) ≤ (vs.length : Int) := by omega
      have i2 : (vs.length : Int) < (vs.length : Int) + 2 := by omega
      have i3 : (vs.length : Int) < ((vs.length + 2 : Nat) : Int) := by omega
      have i4 : (vs.length : Int) + 1 < (vs.length : Int) + 2 := by omega
      have i5 : (0 : Int) ≤ (vs.length : Int) + 1 := by omega
      have i6 : (vs.length : Int) + 1 < ((vs.length + 2 : Nat) : Int) := by omega
      have i7 : ((vs.length : Int) + 1).toNat = vs.length + 1 := by omega
      have i8 : IntKind.i64.wrap ((vs.length : Int) + 1) = (vs.length : Int) + 1 := by rw [IntKind.wrap_i64]; omega
      go_wp2
      go_region_held3 (fun w' => w'.cell? ⟨g, vs.length * 3, none⟩ = some (.int .i64 1) ∧ w'.cell? ⟨g, vs.length * 3 + 1, none⟩ = some (.int .i64 77) ∧ w'.cell? ⟨g, vs.length * 3 + 2, none⟩ = some (.string ⟨#[]⟩) ∧ w'.cell? ⟨g, (vs.length + 1) * 3, none⟩ = some (.int .i64 0) ∧ w'.cell? ⟨g, (vs.length + 1) * 3 + 1, none⟩ = some (.int .i64 0) ∧ w'.cell? ⟨g, (vs.length + 1) * 3 + 2, none⟩ = some (.string ⟨#[]⟩)) (go_simp)
        (first | (go_at_call 34; refine (lnum_exact _ _).mono ?_; rintro e w' ⟨rfl, rfl⟩))
      go_wp2
      go_ret
      exact ⟨rfl, by (repeat (first | exact Below.refl _ _ | assumption | refine Below.drew ?_ | refine below_drewN ?_ _ | refine Below.alloc ?_ (by first | omega | (simp; done) | (simp; omega)) _ | refine Below.setCell ?_ (by first | omega | (simp; done) | (simp; omega)) _ | refine Below.trans ?_ (Below.mono (by assumption) (by first | omega | (simp; done) | (simp; omega)))))⟩
end Go.Proofs.YtfabcdjgakhdmaaDoor
