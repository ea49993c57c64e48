/- Walks of layer 10: words. -/
import Derived.Test.YtlooelldkbdomaaGreatDoorA2
namespace Go.Proofs.YtlooelldkbdomaaGreatDoor
open Go.RowKit

set_option maxHeartbeats 16000000 in
set_option maxRecDepth 100000 in
theorem isWord_any (s : ByteArray) (w : World) : Calls Tryz.prog 122 #[.string s] w fun e w' => e = .returned (.bool (isWord s)) ∧ w' = w := by
  cases h0 : (s.toList == [83, 69, 76, 69, 67, 84]) with
  | true =>
    have HV : Hid (isWord s = true) := isWord_yes _ (by simp [wordsL]) h0
    go_enter Tryz.func122, Tryz.ntmps122
    go_wp2
    go_ret
    exact ⟨ret_bool HV.out.symm, rfl⟩
  | false =>
    cases h1 : (s.toList == [73, 78, 83, 69, 82, 84]) with
    | true =>
      have HV : Hid (isWord s = true) := isWord_yes _ (by simp [wordsL]) h1
      go_enter Tryz.func122, Tryz.ntmps122
      go_wp2
      go_ret
      exact ⟨ret_bool HV.out.symm, rfl⟩
    | false =>
      cases h2 : (s.toList == [73, 78, 84, 79]) with
      | true =>
        have HV : Hid (isWord s = true) := isWord_yes _ (by simp [wordsL]) h2
        go_enter Tryz.func122, Tryz.ntmps122
        go_wp2
        go_ret
        exact ⟨ret_bool HV.out.symm, rfl⟩
      | false =>
        cases h3 : (s.toList == [86, 65, 76, 85, 69, 83]) with
        | true =>
          have HV : Hid (isWord s = true) := isWord_yes _ (by simp [wordsL]) h3
          go_enter Tryz.func122, Tryz.ntmps122
          go_wp2
          go_ret
          exact ⟨ret_bool HV.out.symm, rfl⟩
        | false =>
          cases h4 : (s.toList == [85, 80, 68, 65, 84, 69]) with
          | true =>
            have HV : Hid (isWord s = true) := isWord_yes _ (by simp [wordsL]) h4
            go_enter Tryz.func122, Tryz.ntmps122
            go_wp2
            go_ret
            exact ⟨ret_bool HV.out.symm, rfl⟩
          | false =>
            cases h5 : (s.toList == [83, 69, 84]) with
            | true =>
              have HV : Hid (isWord s = true) := isWord_yes _ (by simp [wordsL]) h5
              go_enter Tryz.func122, Tryz.ntmps122
              go_wp2
              go_ret
              exact ⟨ret_bool HV.out.symm, rfl⟩
            | false =>
              cases h6 : (s.toList == [68, 69, 76, 69, 84, 69]) with
              | true =>
                have HV : Hid (isWord s = true) := isWord_yes _ (by simp [wordsL]) h6
                go_enter Tryz.func122, Tryz.ntmps122
                go_wp2
                go_ret
                exact ⟨ret_bool HV.out.symm, rfl⟩
              | false =>
                cases h7 : (s.toList == [70, 82, 79, 77]) with
                | true =>
                  have HV : Hid (isWord s = true) := isWord_yes _ (by simp [wordsL]) h7
                  go_enter Tryz.func122, Tryz.ntmps122
                  go_wp2
                  go_ret
                  exact ⟨ret_bool HV.out.symm, rfl⟩
                | false =>
                  cases h8 : (s.toList == [74, 79, 73, 78]) with
                  | true =>
                    have HV : Hid (isWord s = true) := isWord_yes _ (by simp [wordsL]) h8
                    go_enter Tryz.func122, Tryz.ntmps122
                    go_wp2
                    go_ret
                    exact ⟨ret_bool HV.out.symm, rfl⟩
                  | false =>
                    cases h9 : (s.toList == [79, 78]) with
                    | true =>
                      have HV : Hid (isWord s = true) := isWord_yes _ (by simp [wordsL]) h9
                      go_enter Tryz.func122, Tryz.ntmps122
                      go_wp2
                      go_ret
                      exact ⟨ret_bool HV.out.symm, rfl⟩
                    | false =>
                      cases h10 : (s.toList == [87, 72, 69, 82, 69]) with
                      | true =>
                        have HV : Hid (isWord s = true) := isWord_yes _ (by simp [wordsL]) h10
                        go_enter Tryz.func122, Tryz.ntmps122
                        go_wp2
                        go_ret
                        exact ⟨ret_bool HV.out.symm, rfl⟩
                      | false =>
                        cases h11 : (s.toList == [71, 82, 79, 85, 80]) with
                        | true =>
                          have HV : Hid (isWord s = true) := isWord_yes _ (by simp [wordsL]) h11
                          go_enter Tryz.func122, Tryz.ntmps122
                          go_wp2
                          go_ret
                          exact ⟨ret_bool HV.out.symm, rfl⟩
                        | false =>
                          cases h12 : (s.toList == [79, 82, 68, 69, 82]) with
                          | true =>
                            have HV : Hid (isWord s = true) := isWord_yes _ (by simp [wordsL]) h12
                            go_enter Tryz.func122, Tryz.ntmps122
                            go_wp2
                            go_ret
                            exact ⟨ret_bool HV.out.symm, rfl⟩
                          | false =>
                            cases h13 : (s.toList == [66, 89]) with
                            | true =>
                              have HV : Hid (isWord s = true) := isWord_yes _ (by simp [wordsL]) h13
                              go_enter Tryz.func122, Tryz.ntmps122
                              go_wp2
                              go_ret
                              exact ⟨ret_bool HV.out.symm, rfl⟩
                            | false =>
                              cases h14 : (s.toList == [68, 69, 83, 67]) with
                              | true =>
                                have HV : Hid (isWord s = true) := isWord_yes _ (by simp [wordsL]) h14
                                go_enter Tryz.func122, Tryz.ntmps122
                                go_wp2
                                go_ret
                                exact ⟨ret_bool HV.out.symm, rfl⟩
                              | false =>
                                cases h15 : (s.toList == [76, 73, 77, 73, 84]) with
                                | true =>
                                  have HV : Hid (isWord s = true) := isWord_yes _ (by simp [wordsL]) h15
                                  go_enter Tryz.func122, Tryz.ntmps122
                                  go_wp2
                                  go_ret
                                  exact ⟨ret_bool HV.out.symm, rfl⟩
                                | false =>
                                  cases h16 : (s.toList == [65, 78, 68]) with
                                  | true =>
                                    have HV : Hid (isWord s = true) := isWord_yes _ (by simp [wordsL]) h16
                                    go_enter Tryz.func122, Tryz.ntmps122
                                    go_wp2
                                    go_ret
                                    exact ⟨ret_bool HV.out.symm, rfl⟩
                                  | false =>
                                    cases h17 : (s.toList == [79, 82]) with
                                    | true =>
                                      have HV : Hid (isWord s = true) := isWord_yes _ (by simp [wordsL]) h17
                                      go_enter Tryz.func122, Tryz.ntmps122
                                      go_wp2
                                      go_ret
                                      exact ⟨ret_bool HV.out.symm, rfl⟩
                                    | false =>
                                      cases h18 : (s.toList == [78, 79, 84]) with
                                      | true =>
                                        have HV : Hid (isWord s = true) := isWord_yes _ (by simp [wordsL]) h18
                                        go_enter Tryz.func122, Tryz.ntmps122
                                        go_wp2
                                        go_ret
                                        exact ⟨ret_bool HV.out.symm, rfl⟩
                                      | false =>
                                        cases h19 : (s.toList == [73, 83]) with
                                        | true =>
                                          have HV : Hid (isWord s = true) := isWord_yes _ (by simp [wordsL]) h19
                                          go_enter Tryz.func122, Tryz.ntmps122
                                          go_wp2
                                          go_ret
                                          exact ⟨ret_bool HV.out.symm, rfl⟩
                                        | false =>
                                          cases h20 : (s.toList == [78, 85, 76, 76]) with
                                          | true =>
                                            have HV : Hid (isWord s = true) := isWord_yes _ (by simp [wordsL]) h20
                                            go_enter Tryz.func122, Tryz.ntmps122
                                            go_wp2
                                            go_ret
                                            exact ⟨ret_bool HV.out.symm, rfl⟩
                                          | false =>
                                            cases h21 : (s.toList == [84, 82, 85, 69]) with
                                            | true =>
                                              have HV : Hid (isWord s = true) := isWord_yes _ (by simp [wordsL]) h21
                                              go_enter Tryz.func122, Tryz.ntmps122
                                              go_wp2
                                              go_ret
                                              exact ⟨ret_bool HV.out.symm, rfl⟩
                                            | false =>
                                              cases h22 : (s.toList == [70, 65, 76, 83, 69]) with
                                              | true =>
                                                have HV : Hid (isWord s = true) := isWord_yes _ (by simp [wordsL]) h22
                                                go_enter Tryz.func122, Tryz.ntmps122
                                                go_wp2
                                                go_ret
                                                exact ⟨ret_bool HV.out.symm, rfl⟩
                                              | false =>
                                                cases h23 : (s.toList == [67, 79, 85, 78, 84]) with
                                                | true =>
                                                  have HV : Hid (isWord s = true) := isWord_yes _ (by simp [wordsL]) h23
                                                  go_enter Tryz.func122, Tryz.ntmps122
                                                  go_wp2
                                                  go_ret
                                                  exact ⟨ret_bool HV.out.symm, rfl⟩
                                                | false =>
                                                  cases h24 : (s.toList == [83, 85, 77]) with
                                                  | true =>
                                                    have HV : Hid (isWord s = true) := isWord_yes _ (by simp [wordsL]) h24
                                                    go_enter Tryz.func122, Tryz.ntmps122
                                                    go_wp2
                                                    go_ret
                                                    exact ⟨ret_bool HV.out.symm, rfl⟩
                                                  | false =>
                                                    cases h25 : (s.toList == [77, 73, 78]) with
                                                    | true =>
                                                      have HV : Hid (isWord s = true) := isWord_yes _ (by simp [wordsL]) h25
                                                      go_enter Tryz.func122, Tryz.ntmps122
                                                      go_wp2
                                                      go_ret
                                                      exact ⟨ret_bool HV.out.symm, rfl⟩
                                                    | false =>
                                                      cases h26 : (s.toList == [77, 65, 88]) with
                                                      | true =>
                                                        have HV : Hid (isWord s = true) := isWord_yes _ (by simp [wordsL]) h26
                                                        go_enter Tryz.func122, Tryz.ntmps122
                                                        go_wp2
                                                        go_ret
                                                        exact ⟨ret_bool HV.out.symm, rfl⟩
                                                      | false =>
                                                        have HV : Hid (isWord s = false) := by
                                                          show isWord s = false
                                                          simp only [isWord, wordsL, List.any_cons, List.any_nil, h0, h1, h2, h3, h4, h5, h6, h7, h8, h9, h10, h11, h12, h13, h14, h15, h16, h17, h18, h19, h20, h21, h22, h23, h24, h25, h26, Bool.or_false]
                                                        go_enter Tryz.func122, Tryz.ntmps122
                                                        go_wp2
                                                        go_ret
                                                        exact ⟨ret_bool HV.out.symm, rfl⟩

theorem words_cell (w : World) (k : Nat) (hk : k < 27) : (w.alloc (.cells #[.string ⟨#[83, 69, 76, 69, 67, 84]⟩, .string ⟨#[73, 78, 83, 69, 82, 84]⟩, .string ⟨#[73, 78, 84, 79]⟩, .string ⟨#[86, 65, 76, 85, 69, 83]⟩, .string ⟨#[85, 80, 68, 65, 84, 69]⟩, .string ⟨#[83, 69, 84]⟩, .string ⟨#[68, 69, 76, 69, 84, 69]⟩, .string ⟨#[70, 82, 79, 77]⟩, .string ⟨#[74, 79, 73, 78]⟩, .string ⟨#[79, 78]⟩, .string ⟨#[87, 72, 69, 82, 69]⟩, .string ⟨#[71, 82, 79, 85, 80]⟩, .string ⟨#[79, 82, 68, 69, 82]⟩, .string ⟨#[66, 89]⟩, .string ⟨#[68, 69, 83, 67]⟩, .string ⟨#[76, 73, 77, 73, 84]⟩, .string ⟨#[65, 78, 68]⟩, .string ⟨#[79, 82]⟩, .string ⟨#[78, 79, 84]⟩, .string ⟨#[73, 83]⟩, .string ⟨#[78, 85, 76, 76]⟩, .string ⟨#[84, 82, 85, 69]⟩, .string ⟨#[70, 65, 76, 83, 69]⟩, .string ⟨#[67, 79, 85, 78, 84]⟩, .string ⟨#[83, 85, 77]⟩, .string ⟨#[77, 73, 78]⟩, .string ⟨#[77, 65, 88]⟩] 9)).cell? ⟨w.heap.size, k, none⟩ = some (.string ⟨(wordsL[k]'(by simpa [wordsL] using hk)).toArray⟩) := by
  have h := heap_alloc_new w (.cells #[.string ⟨#[83, 69, 76, 69, 67, 84]⟩, .string ⟨#[73, 78, 83, 69, 82, 84]⟩, .string ⟨#[73, 78, 84, 79]⟩, .string ⟨#[86, 65, 76, 85, 69, 83]⟩, .string ⟨#[85, 80, 68, 65, 84, 69]⟩, .string ⟨#[83, 69, 84]⟩, .string ⟨#[68, 69, 76, 69, 84, 69]⟩, .string ⟨#[70, 82, 79, 77]⟩, .string ⟨#[74, 79, 73, 78]⟩, .string ⟨#[79, 78]⟩, .string ⟨#[87, 72, 69, 82, 69]⟩, .string ⟨#[71, 82, 79, 85, 80]⟩, .string ⟨#[79, 82, 68, 69, 82]⟩, .string ⟨#[66, 89]⟩, .string ⟨#[68, 69, 83, 67]⟩, .string ⟨#[76, 73, 77, 73, 84]⟩, .string ⟨#[65, 78, 68]⟩, .string ⟨#[79, 82]⟩, .string ⟨#[78, 79, 84]⟩, .string ⟨#[73, 83]⟩, .string ⟨#[78, 85, 76, 76]⟩, .string ⟨#[84, 82, 85, 69]⟩, .string ⟨#[70, 65, 76, 83, 69]⟩, .string ⟨#[67, 79, 85, 78, 84]⟩, .string ⟨#[83, 85, 77]⟩, .string ⟨#[77, 73, 78]⟩, .string ⟨#[77, 65, 88]⟩] 9 (0, 0))
  have e : (#[.string ⟨#[83, 69, 76, 69, 67, 84]⟩, .string ⟨#[73, 78, 83, 69, 82, 84]⟩, .string ⟨#[73, 78, 84, 79]⟩, .string ⟨#[86, 65, 76, 85, 69, 83]⟩, .string ⟨#[85, 80, 68, 65, 84, 69]⟩, .string ⟨#[83, 69, 84]⟩, .string ⟨#[68, 69, 76, 69, 84, 69]⟩, .string ⟨#[70, 82, 79, 77]⟩, .string ⟨#[74, 79, 73, 78]⟩, .string ⟨#[79, 78]⟩, .string ⟨#[87, 72, 69, 82, 69]⟩, .string ⟨#[71, 82, 79, 85, 80]⟩, .string ⟨#[79, 82, 68, 69, 82]⟩, .string ⟨#[66, 89]⟩, .string ⟨#[68, 69, 83, 67]⟩, .string ⟨#[76, 73, 77, 73, 84]⟩, .string ⟨#[65, 78, 68]⟩, .string ⟨#[79, 82]⟩, .string ⟨#[78, 79, 84]⟩, .string ⟨#[73, 83]⟩, .string ⟨#[78, 85, 76, 76]⟩, .string ⟨#[84, 82, 85, 69]⟩, .string ⟨#[70, 65, 76, 83, 69]⟩, .string ⟨#[67, 79, 85, 78, 84]⟩, .string ⟨#[83, 85, 77]⟩, .string ⟨#[77, 73, 78]⟩, .string ⟨#[77, 65, 88]⟩] : Array Value) = (wordsL.map fun x => Value.string ⟨x.toArray⟩).toArray := rfl
  simp only [World.cell?, h]
  rw [e]
  simp [show k < wordsL.length from by simpa [wordsL] using hk]
set_option maxHeartbeats 16000000 in
set_option maxRecDepth 100000 in
theorem dIsWord_any (s : ByteArray) (w : World) : Calls Tryz.prog 138 #[.string s] w fun e w' => e = .returned (.bool (isWord s)) ∧ Below w.heap.size w w' := by
  obtain ⟨Z, hZ⟩ : ∃ Z, w.alloc (.cells #[.string ⟨#[83, 69, 76, 69, 67, 84]⟩, .string ⟨#[73, 78, 83, 69, 82, 84]⟩, .string ⟨#[73, 78, 84, 79]⟩, .string ⟨#[86, 65, 76, 85, 69, 83]⟩, .string ⟨#[85, 80, 68, 65, 84, 69]⟩, .string ⟨#[83, 69, 84]⟩, .string ⟨#[68, 69, 76, 69, 84, 69]⟩, .string ⟨#[70, 82, 79, 77]⟩, .string ⟨#[74, 79, 73, 78]⟩, .string ⟨#[79, 78]⟩, .string ⟨#[87, 72, 69, 82, 69]⟩, .string ⟨#[71, 82, 79, 85, 80]⟩, .string ⟨#[79, 82, 68, 69, 82]⟩, .string ⟨#[66, 89]⟩, .string ⟨#[68, 69, 83, 67]⟩, .string ⟨#[76, 73, 77, 73, 84]⟩, .string ⟨#[65, 78, 68]⟩, .string ⟨#[79, 82]⟩, .string ⟨#[78, 79, 84]⟩, .string ⟨#[73, 83]⟩, .string ⟨#[78, 85, 76, 76]⟩, .string ⟨#[84, 82, 85, 69]⟩, .string ⟨#[70, 65, 76, 83, 69]⟩, .string ⟨#[67, 79, 85, 78, 84]⟩, .string ⟨#[83, 85, 77]⟩, .string ⟨#[77, 73, 78]⟩, .string ⟨#[77, 65, 88]⟩] 9) = Z := ⟨_, rfl⟩
  have HCL : Hid (∀ k (hk : k < 27), Z.cell? ⟨w.heap.size, k, none⟩ = some (.string ⟨(wordsL[k]'(by simpa [wordsL] using hk)).toArray⟩)) := fun k hk => by rw [← hZ]; exact words_cell w k hk
  have HBL : Hid (Below w.heap.size w Z) := by show Below w.heap.size w Z; rw [← hZ]; exact (Below.refl _ _).alloc (Nat.le_refl _) _
  go_enter Tryz.func138, Tryz.ntmps138
  go_wp2
  clear hZ
  go_loopw [4] (fun i wz => ∃ k : Nat, k ≤ 27 ∧ i = .int .i64 k ∧ (∀ j (hj : j < 27), j < k → (s.toList == wordsL[j]'(by simpa [wordsL] using hj)) = false) ∧ wz = Z) (fun i _ => 27 - (intOf i).toNat)
  case atStart => exact ⟨0, Nat.zero_le _, rfl, fun _ _ g => absurd g (Nat.not_lt_zero _), rfl⟩
  case round =>
    obtain ⟨k, hk, rfl, hall, rfl⟩ := hrel
    have HA := Lib.hid hall
    clear hall
    by_cases hlt : k < 27
    · have hlti : (k : Int) < 27 := by omega
      have c0 := HCL.out k hlt
      have hkw : k < wordsL.length := by simpa [wordsL] using hlt
      obtain ⟨x, hx⟩ : ∃ x, wordsL[k] = x := ⟨_, rfl⟩
      rw [hx] at c0
      have HM : Hid (x ∈ wordsL) := by show x ∈ wordsL; rw [← hx]; exact List.getElem_mem hkw
      have hse : ((⟨x.toArray⟩ : ByteArray).toList == s.toList) = (s.toList == x) := by
        rw [ByteArray.toList_eq, Bool.eq_iff_iff, beq_iff_eq, beq_iff_eq]
        exact eq_comm
      have hse2 : (x == s.toList) = (s.toList == x) := by
        rw [Bool.eq_iff_iff, beq_iff_eq, beq_iff_eq]
        exact eq_comm
      cases hb : (s.toList == x) with
      | true =>
        rw [hb] at hse hse2
        have HV : Hid (isWord s = true) := isWord_yes x HM.out hb
        clear hb hx
        go_wp2
        go_ret
        exact ⟨ret_bool HV.out.symm, HBL.out⟩
      | false =>
        rw [hb] at hse hse2
        have HA2 : Hid (∀ j (hj : j < 27), j < k + 1 → (s.toList == wordsL[j]'(by simpa [wordsL] using hj)) = false) := fun j hj g => by
          by_cases e : j = k
          · subst e; rw [hx]; exact hb
          · exact HA.out j hj (by omega)
        clear hb hx
        go_wp2
        go_roundw
        case rel => exact ⟨k + 1, by omega, by go_num, HA2.out, trivial⟩
        case measure => simp [intOf]; omega
    · have hlti : ¬ (k : Int) < 27 := by omega
      have HV : Hid (isWord s = false) := by
        show isWord s = false
        rw [isWord, List.any_eq_false]
        intro x hx
        obtain ⟨j, hj, rfl⟩ := List.getElem_of_mem hx
        have hj27 : j < 27 := by simpa [wordsL] using hj
        rw [HA.out j hj27 (by omega)]
        decide
      go_wp2
      go_ret
      exact ⟨ret_bool HV.out.symm, HBL.out⟩
end Go.Proofs.YtlooelldkbdomaaGreatDoor
