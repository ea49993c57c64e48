/- The law KeyNexts. -/
import Derived.Test.YtbmgcibclmbelaaDoorK16
namespace Go.Proofs.YtbmgcibclmbelaaDoor
open Go.RowKit

theorem nxt_snd (s : List UInt8) : s.all (fun c => c == 255) = !(nxt s).2 := by
  rcases nxt_cases s with h | ⟨p, c, q, rfl, hc, hq⟩
  · rw [nxt_all h]
    simp
    exact h
  · rw [nxt_some hc hq]
    simp [hc]
theorem all_take {s : ByteArray} {k : Nat} (h : k < s.size) : (s.data.toList.take (k + 1)).all (fun c => c == 255) = ((s.data.toList.take k).all (fun c => c == 255) && s[k] == 255) := by
  rw [take_next h, List.all_append]
  simp
theorem begins_ext {s t : ByteArray} (h : s.data.toList <+: t.data.toList) : s.size ≤ t.size ∧ t.extract 0 s.size = s := by
  have hl := h.length_le
  simp at hl
  refine ⟨hl, ba_ext ?_⟩
  obtain ⟨r, e⟩ := h
  simp
  rw [← e]
  exact List.take_left' (by simp)
theorem begins_not {s t : ByteArray} (h : ¬ s.data.toList <+: t.data.toList) : ¬ s.size ≤ t.size ∨ (s.size ≤ t.size ∧ ((t.extract 0 s.size).toList == s.toList) = false) := by
  by_cases hl : s.size ≤ t.size
  · right
    refine ⟨hl, ?_⟩
    rw [beq_eq_false_iff_ne, ByteArray.toList_eq, ByteArray.toList_eq]
    intro e
    apply h
    rw [← e]
    simp
    exact List.take_prefix _ _
  · exact Or.inl hl

set_option maxHeartbeats 8000000 in
set_option maxRecDepth 100000 in
theorem nexts_small (s t : ByteArray) (w : World) (hs : s.size ≤ 2147483647) (ht : t.size ≤ 2147483647) (h0 : 0 < w.heap.size) (hm : ML w) :
    Calls Tryd.prog 8 #[.string s, .string t] w fun e w' => e = .returned (.bool true) ∧ Below w.heap.size w w' := by
  have HL := nxt_lies s.data.toList t.data.toList
  have hall := nxt_snd s.data.toList
  obtain ⟨N, hN⟩ : ∃ N, (nxt s.data.toList).1 = N := ⟨_, rfl⟩
  obtain ⟨B, hB⟩ : ∃ B, (nxt s.data.toList).2 = B := ⟨_, rfl⟩
  have hnv : nxtV s = .tuple #[.string ⟨N.toArray⟩, .bool B] := by unfold nxtV; rw [hN, hB]
  rw [hN, hB] at HL
  rw [hB] at hall
  have HNV : Hid (nxtV s = .tuple #[.string ⟨N.toArray⟩, .bool B]) := hnv
  have HALL : Hid (s.data.toList.all (fun c => c == 255) = !B) := hall
  clear hN hB hnv hall
  obtain ⟨A, hA⟩ : ∃ A, Op.bytesLess t.data.toList s.data.toList = A := ⟨_, rfl⟩
  obtain ⟨C, hC⟩ : ∃ C, Op.bytesLess t.data.toList N = C := ⟨_, rfl⟩
  rw [hA, hC] at HL
  have hA' : Op.bytesLess t.toList s.toList = A := by rw [ByteArray.toList_eq, ByteArray.toList_eq]; exact hA
  have hC' : Op.bytesLess t.toList N = C := by rw [ByteArray.toList_eq]; exact hC
  clear hA hC
  have hsi : ¬ (2147483647 : Int) < (s.size : Int) := by omega
  have hti : ¬ (2147483647 : Int) < (t.size : Int) := by omega
  have hcase : (((s.size : Int) ≤ (t.size : Int) ∧ s.size ≤ t.size ∧ t.extract 0 s.size = s) ∧ A = false ∧ (B = false ∨ C = true)) ∨ (((t.size : Int) < (s.size : Int) ∨ ((s.size : Int) ≤ (t.size : Int) ∧ s.size ≤ t.size ∧ ((t.extract 0 s.size).toList == s.toList) = false)) ∧ ¬ (A = false ∧ (B = false ∨ C = true))) := by
    by_cases hp : s.data.toList <+: t.data.toList
    · left
      obtain ⟨a, b⟩ := begins_ext hp
      exact ⟨⟨by omega, a, b⟩, HL.1 hp⟩
    · right
      refine ⟨?_, fun h => hp (HL.2 h)⟩
      rcases begins_not hp with h | ⟨h, g⟩
      · exact Or.inl (by omega)
      · exact Or.inr ⟨by omega, h, g⟩
  clear HL
  go_enter Tryd.func8, Tryd.ntmps8
  go_wp2_with fail
  refine (kawake_any _ h0 hm).mono ?_; rintro e w1 ⟨rfl, h1⟩
  have z1 := h1.size
  go_wp2_with fail
  refine (knext_any _ _ (by omega)).mono ?_; rintro e w2 ⟨rfl, h2⟩
  rw [HNV.out]
  have H2 : Below w.heap.size w w2 := by (repeat (first | exact Below.refl _ _ | assumption | refine Below.drew ?_ | refine below_drewN ?_ _ | refine Below.alloc ?_ (by first | omega | (simp; done) | (simp; omega)) _ | refine Below.setCell ?_ (by first | omega | (simp; done) | (simp; omega)) _ | refine Below.trans ?_ (Below.mono (by assumption) (by first | omega | (simp; done) | (simp; omega)))))
  have z2 := H2.size
  clear h1 h2 z1
  have hk : (A = false ∧ ((s.size : Int) ≤ (t.size : Int) ∧ s.size ≤ t.size ∧ t.extract 0 s.size = s) ∧ (B = false ∨ (B = true ∧ C = true))) ∨ ((A = true ∨ (A = false ∧ B = true ∧ C = false)) ∧ ((t.size : Int) < (s.size : Int) ∨ ((s.size : Int) ≤ (t.size : Int) ∧ s.size ≤ t.size ∧ ((t.extract 0 s.size).toList == s.toList) = false))) := by
    rcases hcase with ⟨a, b, c⟩ | ⟨a, b⟩
    · left
      refine ⟨b, a, ?_⟩
      cases B
      · exact Or.inl rfl
      · rcases c with c | c
        · cases c
        · exact Or.inr ⟨rfl, c⟩
    · right
      refine ⟨?_, a⟩
      cases A
      · right
        cases B
        · exact absurd ⟨rfl, Or.inl rfl⟩ b
        · cases C
          · exact ⟨rfl, rfl, rfl⟩
          · exact absurd ⟨rfl, Or.inr rfl⟩ b
      · exact Or.inl rfl
  clear hcase
  rcases hk with ⟨rfl, ⟨g1, g2, g3⟩, rfl | ⟨rfl, rfl⟩⟩ | ⟨rfl | ⟨rfl, rfl, rfl⟩, g1 | ⟨g1, g2, g3⟩⟩
  all_goals
    go_wp2
    go_loopw [10, 11] (fun v i wr => ∃ k : Nat, k ≤ s.size ∧ i = .int .i64 k ∧ v = .bool ((s.data.toList.take k).all (fun c => c == 255)) ∧ Below w.heap.size w wr) (fun _ i _ => s.size - (intOf i).toNat)
    case atStart => exact ⟨0, Nat.zero_le _, rfl, rfl, H2⟩
    case round =>
      obtain ⟨k, hk, rfl, rfl, hb⟩ := hrel
      by_cases hlt : k < s.size
      · have HT : Hid ((s.data.toList.take (k + 1)).all (fun c => c == 255) = ((s.data.toList.take k).all (fun c => c == 255) && s[k] == 255)) := all_take hlt
        by_cases hc : s[k].toNat = 255
        · have hc2 : (s[k] == 255) = true := by rw [beq_iff_eq]; exact UInt8.toNat_inj.1 hc
          rw [hc2, Bool.and_true] at HT
          clear hc2
          go_wp2
          go_roundw
          case rel => exact ⟨k + 1, by omega, by go_num, by rw [HT.out], hb⟩
          case measure => simp [intOf]; omega
        · have hc2 : (s[k] == 255) = false := by rw [beq_eq_false_iff_ne]; exact fun h => hc (by rw [h]; rfl)
          have hc3 : ((s[k].toNat : Int) != 255) = true := by simp; omega
          rw [hc2, Bool.and_false] at HT
          clear hc2 hc
          go_wp2
          go_roundw
          case rel => exact ⟨k + 1, by omega, by go_num, by rw [HT.out], hb⟩
          case measure => simp [intOf]; omega
      · have hk' : k = s.size := by omega
        subst hk'
        have htk : s.data.toList.take s.size = s.data.toList := List.take_of_length_le (by simp)
        rw [htk, HALL.out]
        clear htk
        first
          | (go_wp2; go_ret; exact ⟨rfl, hb⟩)
          | (cases B <;> (go_wp2; go_ret; exact ⟨rfl, hb⟩))

set_option maxHeartbeats 2000000 in
set_option maxRecDepth 100000 in
theorem nexts_law (s t : ByteArray) (w : World) (h0 : 0 < w.heap.size) (hm : ML w) :
    Calls Tryd.prog 8 #[.string s, .string t] w fun e w' => e = .returned (.bool true) ∧ Below w.heap.size w w' := by
  by_cases hs : s.size ≤ 2147483647
  · by_cases ht : t.size ≤ 2147483647
    · exact nexts_small s t w hs ht h0 hm
    · have hsi : ¬ (2147483647 : Int) < (s.size : Int) := by omega
      have hti : (2147483647 : Int) < (t.size : Int) := by omega
      go_enter Tryd.func8, Tryd.ntmps8
      go_wp2
      go_ret
      exact ⟨rfl, by (repeat (first | exact Below.refl _ _ | assumption | refine Below.drew ?_ | refine below_drewN ?_ _ | refine Below.alloc ?_ (by first | omega | (simp; done) | (simp; omega)) _ | refine Below.setCell ?_ (by first | omega | (simp; done) | (simp; omega)) _ | refine Below.trans ?_ (Below.mono (by assumption) (by first | omega | (simp; done) | (simp; omega)))))⟩
  · have hsi : (2147483647 : Int) < (s.size : Int) := by omega
    go_enter Tryd.func8, Tryd.ntmps8
    go_wp2
    go_ret
    exact ⟨rfl, by (repeat (first | exact Below.refl _ _ | assumption | refine Below.drew ?_ | refine below_drewN ?_ _ | refine Below.alloc ?_ (by first | omega | (simp; done) | (simp; omega)) _ | refine Below.setCell ?_ (by first | omega | (simp; done) | (simp; omega)) _ | refine Below.trans ?_ (Below.mono (by assumption) (by first | omega | (simp; done) | (simp; omega)))))⟩
end Go.Proofs.YtbmgcibclmbelaaDoor
