/- Walks of layer 19: the document's Open, at, Waits. -/
import Derived.Test.YtefdhmdkcpgfcaaI5
namespace Go.Proofs.Ytefdhmdkcpgfcaa
open Go.RowKit
theorem openL_take {T : Tb9} {k : Nat} (hk : k < T.ps.length) : (openL T).take (k + 1) = (openL T).take k ++ [T.ps[k].pos] := by
  unfold openL
  rw [List.take_succ_eq_append_getElem (by simpa using hk), List.getElem_map]
theorem atI_some {T : Tb9} {pos : Int} {k : Nat} (hk : k < T.ps.length) (e : T.ps[k].pos = pos) (ha : ∀ j (h : j < T.ps.length), j < k → T.ps[j].pos ≠ pos) : atI T pos = some k := by
  unfold atI
  rw [List.findIdx?_eq_some_iff_getElem]
  exact ⟨hk, by simpa using e, fun j hj => by simpa using ha j (by omega) hj⟩
theorem atI_none {T : Tb9} {pos : Int} (ha : ∀ j (h : j < T.ps.length), T.ps[j].pos ≠ pos) : atI T pos = none := by
  unfold atI
  rw [List.findIdx?_eq_none_iff]
  intro x hx
  obtain ⟨j, hj, rfl⟩ := List.getElem_of_mem hx
  simpa using ha j hj
theorem atI_lt {T : Tb9} {pos : Int} {i : Nat} (h : atI T pos = some i) : ∃ hi : i < T.ps.length, T.ps[i].pos = pos := by
  unfold atI at h
  rw [List.findIdx?_eq_some_iff_getElem] at h
  obtain ⟨hi, h1, _⟩ := h
  exact ⟨hi, by simpa using h1⟩
/-- Where an open place stands; -1: it is not open. -/
def atN (T : Tb9) (pos : Int) : Int := match atI T pos with
  | none => -1
  | some i => (i : Int)

set_option maxHeartbeats 8000000 in
set_option maxRecDepth 100000 in
theorem ropen_any (T : Tb9) (t B : Nat) (Z : Nat → Prop) (w : World) (h : DT w B Z t T) (hs : Sm9 T) : Calls Try.prog 17 #[.pointer (some ⟨t, 0, none⟩)] w fun e w' => ∃ v, e = .returned v ∧ OwnR 1 3 IntR w' w.heap.size v (openL T) ∧ Below w.heap.size w w' := by
  obtain ⟨i0, hi0, hz0, hz1, hz2⟩ := info_parts Try.infoInt
  obtain ⟨q0, cap, hbox, hrow⟩ := h.reads
  have HR := Lib.hid hrow
  have hzt : t < w.heap.size := (Array.getElem?_eq_some_iff.1 hbox).1
  have C0 := Lib.hid (two_of hbox).1.1
  have hps := hs.ps
  clear h hs hbox hrow
  go_enter Try.func17, Try.ntmps17
  go_wp2
  go_loopw [3, 4] (fun v j wr => ∃ k : Nat, k ≤ T.ps.length ∧ j = .int .i64 k ∧ wr.ownsRow w.heap.size 3 1 v k (((openL T).take k).map fun n => Value.int .i64 n) ∧ Below w.heap.size w wr) (fun _ j _ => T.ps.length - (intOf j).toNat)
  case atStart => exact ⟨0, Nat.zero_le _, rfl, World.ownsRow_nil _ _ _ _, Below.refl _ _⟩
  case round =>
    obtain ⟨k, hk, rfl, hown, hb1⟩ := hrel
    have HO := Lib.hid hown
    have HB1 := Lib.hid hb1
    have hsz := hb1.size
    clear hown
    have c0 := cell_later hb1 C0.out
    by_cases hkl : k < T.ps.length
    · have hkli : (k : Int) < (T.ps.length : Int) := by omega
      obtain ⟨y, hy⟩ : ∃ y, T.ps[k] = y := ⟨_, rfl⟩
      have hat := place_at HR.out hkl
      rw [hy] at hat
      obtain ⟨b, off, qk, ck, rfl, p0, _, _⟩ := hat
      have d0 := cell_later hb1 p0
      have HT : Hid ((openL T).take (k + 1) = (openL T).take k ++ [y.pos]) := by
        show _ = _
        rw [openL_take hkl, hy]
      clear p0 hy
      obtain ⟨K, hK⟩ : ∃ K, (openL T).take k = K := ⟨_, rfl⟩
      rw [hK] at HO HT
      clear hK hb1
      go_wp2_with (first | (at_builtin; refine wpList_append_own _ rfl _ _ 37 rfl w.heap.size 3 i0 (.int .i64 0) 1 8 Try.underlying37 hi0 hz0 hz1 hz2 rfl (by decide) _ k (K.map fun n => Value.int .i64 n) rfl (HO.out.alloc _) ⟨wr.heap.size, 0, none⟩ 1 1 [.int .i64 y.pos] rfl rfl (cells_alloc _ _ _) (ints_oneC _) (by unfold maxLen; omega) (by omega) (by simp; omega) ?_; intro v' w6 hown6 hgrow6 _))
      have HB6 : Hid (Below w.heap.size w w6) := Lib.hid ((HB1.out.alloc hsz _).grown hgrow6 (by simp; omega) (fun g hg => (HO.out.lt g hg).1))
      go_roundw
      case rel => exact ⟨k + 1, by omega, by go_num, by rw [HT.out]; simpa using hown6, HB6.out⟩
      case measure => simp [intOf]; omega
    · have hkli : ¬ (k : Int) < (T.ps.length : Int) := by omega
      have HE : Hid ((openL T).take k = openL T) := Lib.hid (List.take_of_length_le (by unfold openL; rw [List.length_map]; omega))
      have HL : Hid ((openL T).length = k) := by
        show _ = _
        unfold openL
        rw [List.length_map]
        omega
      clear hb1
      go_wp2
      go_ret
      refine ⟨_, rfl, iC_own ?_, HB1.out⟩
      have := HO.out
      rw [HE.out] at this
      rw [HL.out]
      exact this

set_option maxHeartbeats 8000000 in
set_option maxRecDepth 100000 in
theorem rat_any (T : Tb9) (t B : Nat) (Z : Nat → Prop) (pos : Int) (w : World) (h : DT w B Z t T) (hs : Sm9 T) : Calls Try.prog 48 #[.pointer (some ⟨t, 0, none⟩), .int .i64 pos] w fun e w' => e = .returned (.int .i64 (atN T pos)) ∧ w' = w := by
  obtain ⟨q0, cap, hbox, hrow⟩ := h.reads
  have HR := Lib.hid hrow
  have hzt : t < w.heap.size := (Array.getElem?_eq_some_iff.1 hbox).1
  have c0 := (two_of hbox).1.1
  have hps := hs.ps
  clear h hs hbox hrow
  go_enter Try.func48, Try.ntmps48
  go_wp2
  go_loop [5] (fun j => ∃ k : Nat, k ≤ T.ps.length ∧ j = .int .i64 k ∧ ∀ j (h : j < T.ps.length), j < k → T.ps[j].pos ≠ pos) (fun j => T.ps.length - (intOf j).toNat)
  case atStart => exact ⟨0, Nat.zero_le _, rfl, fun j _ g => absurd g (Nat.not_lt_zero _)⟩
  case round =>
    obtain ⟨k, hk, rfl, hall⟩ := hrel
    have HA := Lib.hid hall
    clear hall
    by_cases hkl : k < T.ps.length
    · have hkli : (k : Int) < (T.ps.length : Int) := by omega
      obtain ⟨y, hy⟩ : ∃ y, T.ps[k] = y := ⟨_, rfl⟩
      have hat := place_at HR.out hkl
      rw [hy] at hat
      obtain ⟨b, off, qk, ck, rfl, p0, _, _⟩ := hat
      by_cases hp : y.pos = pos
      · have HE : Hid (atN T pos = (k : Int)) := by
          show _ = _
          unfold atN
          rw [atI_some hkl (by rw [hy]; exact hp) HA.out]
        subst hp
        clear hy
        go_wp2
        go_ret
        exact ⟨ret_int HE.out.symm, rfl⟩
      · have HN : Hid (T.ps[k].pos ≠ pos) := Lib.hid (by rw [hy]; exact hp)
        clear hy
        go_wp2
        go_roundw
        case rel => exact ⟨k + 1, by omega, by go_num, upto1 HA.out hkl HN.out⟩
        case measure => simp [intOf]; omega
    · have hkli : ¬ (k : Int) < (T.ps.length : Int) := by omega
      have HE : Hid (atN T pos = -1) := by
        show _ = _
        unfold atN
        rw [atI_none fun j h => HA.out j h (by omega)]
      go_wp2
      go_ret
      exact ⟨ret_int HE.out.symm, rfl⟩

set_option maxHeartbeats 8000000 in
set_option maxRecDepth 100000 in
theorem rwaitsR_any (T : Tb9) (t B : Nat) (Z : Nat → Prop) (pos : Int) (w : World) (h : DT w B Z t T) (hs : Sm9 T) : Calls Try.prog 34 #[.pointer (some ⟨t, 0, none⟩), .int .i64 pos] w fun e w' => ∃ v, e = .returned (.tuple #[v, .int .i64 (waitR T pos).2]) ∧ OwnR 1 3 IntR w' w.heap.size v (waitR T pos).1 ∧ Below w.heap.size w w' := by
  have HT := Lib.hid h
  have HS := Lib.hid hs
  have HA := Lib.hid (fun W (h : DT W B Z t T) => rat_any T t B Z pos W h hs)
  clear h hs
  cases hat : atI T pos with
  | none =>
    have HR : Hid (waitR T pos = ([], 1)) := Lib.hid (by unfold waitR; rw [hat])
    unfold atN at HA
    rw [hat] at HA
    rw [HR.out]
    clear hat
    go_enter Try.func34, Try.ntmps34
    go_wp2_with fail
    refine (HA.out _ HT.out).mono ?_
    rintro e w1 ⟨rfl, rfl⟩
    go_wp2
    exact bodyPost_ret (v := .tuple #[.slice none 0 0, .int .i64 1]) (by simp [results, Try.results34, go_sem]) rfl ⟨_, rfl, OwnR.nil _ _ _ _ _, Below.refl _ _⟩
  | some i =>
    have HR : Hid (waitR T pos = (waitI T i, 0)) := Lib.hid (by unfold waitR; rw [hat])
    unfold atN at HA
    rw [hat] at HA
    rw [HR.out]
    obtain ⟨hi, _⟩ := atI_lt hat
    have hn : ¬ (i : Int) < 0 := by omega
    clear hat
    go_enter Try.func34, Try.ntmps34
    go_wp2_with fail
    refine (HA.out _ HT.out).mono ?_
    rintro e w1 ⟨rfl, rfl⟩
    go_wp2_with (first | (go_at_call 41; refine (rwaits_any T t B Z i _ HT.out HS.out hi).mono ?_; rintro e w2 ⟨v, rfl, ho, hb⟩))
    exact bodyPost_ret (v := .tuple #[v, .int .i64 0]) (by simp [results, Try.results34, go_sem]) rfl ⟨_, rfl, ho, hb⟩
end Go.Proofs.Ytefdhmdkcpgfcaa
