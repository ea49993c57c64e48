/- Walks of layer 5, fourth part: the frame at a reader's place; Read. -/
import Derived.Test.YtckmjmpajbjbkaaGreatDoorH3
namespace Go.Proofs.YtckmjmpajbjbkaaGreatDoor
open Go.RowKit

theorem fclone_any (s : ByteArray) (w : World) (hs : s.size ≤ 2147483648) : Calls Tryz.prog 57 #[.string s] w fun e w' => e = .returned (.string s) ∧ Below w.heap.size w w' := by
  go_enter Tryz.func57, Tryz.ntmps57
  go_wp2_with fail
  refine (Tryz.stringslite_Clone s _ (by omega)).mono ?_
  rintro e w1 ⟨rfl, hb1⟩
  go_wp2
  go_ret
  exact ⟨rfl, hb1⟩

/-- What is told of a frame that was read, or of none. -/
def rdS (o : Option (List UInt8)) : ByteArray := match o with | some d => ⟨d.toArray⟩ | none => ⟨#[]⟩
def rdN (a : Nat) (o : Option (List UInt8)) : Nat := match o with | some d => a + (6 + d.length) | none => a

theorem extract_list (s : ByteArray) (x y : Nat) : (s.extract x y).data.toList = (s.data.toList.drop x).take (y - x) := by
  simp only [ByteArray.data_extract, Array.toList_extract, List.extract_eq_take_drop]
theorem take_enough {α : Type} (l : List α) {m k : Nat} (h : min m l.length = min k l.length) : l.take m = l.take k := by
  rw [← List.take_eq_take_iff] at h
  exact h
theorem data_is (s : ByteArray) (a c : Nat) : (s.extract (a + min 6 (s.size - a)) (a + min (6 + c) (s.size - a))).data.toList = ((s.data.toList.drop a).drop 6).take c := by
  rw [extract_list, List.drop_drop]
  have hl : s.data.toList.length = s.size := by simp
  by_cases h : 6 ≤ s.size - a
  · rw [Nat.min_eq_left h]
    apply take_enough
    simp only [List.length_drop, hl]
    omega
  · rw [List.drop_eq_nil_of_le (by omega), List.drop_eq_nil_of_le (by omega)]
    simp
theorem whole_is (s : ByteArray) (a c : Nat) : (s.extract a (a + min (6 + c) (s.size - a))).data.toList = (s.data.toList.drop a).take (6 + c) := by
  rw [extract_list]
  have hl : s.data.toList.length = s.size := by simp
  apply take_enough
  simp only [List.length_drop, hl]
  omega
theorem str_same {s t : ByteArray} (h : s = t) : (s.toList == t.toList) = true := by rw [h]; simp
theorem str_other {s t : ByteArray} (h : s ≠ t) : (s.toList == t.toList) = false := by
  rw [beq_eq_false_iff_ne, ByteArray.toList_eq, ByteArray.toList_eq]
  exact fun e => h (ba_eq e)

/-- What goes on at a frame's place. -/
def FR (g a : Nat) (s : ByteArray) (w : World) (e : Ending) (w' : World) : Prop :=
  e = .returned (.tuple #[.string (rdS (rd (s.data.toList.drop a))), .bool (rd (s.data.toList.drop a)).isSome]) ∧ Cur w' g s (rdN a (rd (s.data.toList.drop a))) ∧ Only (only g) w w'

set_option maxHeartbeats 4000000 in
set_option maxRecDepth 100000 in
theorem frame_any (w : World) (g a : Nat) (s : ByteArray) (h : Cur w g s a) (ha : a ≤ s.size) (hs : s.size ≤ 1099511627776) :
    Calls Tryz.prog 59 #[.pointer (some ⟨g, 0, none⟩)] w (FR g a s w) := by
  have HC : Hid (Cur w g s a) := h
  have c1 := h.place
  clear h
  obtain ⟨l, hl⟩ : ∃ l, s.data.toList.drop a = l := ⟨_, rfl⟩
  obtain ⟨c, hc⟩ : ∃ c, cnt l = c := ⟨_, rfl⟩
  have hcl : c < 65536 := by rw [← hc]; exact cnt_lt l
  obtain ⟨E1, hE1⟩ : ∃ E, a + min 2 (s.size - a) = E := ⟨_, rfl⟩
  obtain ⟨E2, hE2⟩ : ∃ E, a + min 6 (s.size - a) = E := ⟨_, rfl⟩
  obtain ⟨E3, hE3⟩ : ∃ E, a + min (6 + c) (s.size - a) = E := ⟨_, rfl⟩
  have hd := data_is s a c
  have hw := whole_is s a c
  rw [hE2, hE3, hl] at hd
  rw [hE3, hl] at hw
  obtain ⟨d, hdd⟩ : ∃ d, s.extract E2 E3 = d := ⟨_, rfl⟩
  obtain ⟨u, huu⟩ : ∃ u, s.extract a E3 = u := ⟨_, rfl⟩
  rw [hdd] at hd
  rw [huu] at hw
  have HD : Hid (d.data.toList = (l.drop 6).take c) := hd
  have HW : Hid (u.data.toList = l.take (6 + c)) := hw
  have HL : Hid (s.data.toList.drop a = l) := hl
  have HX : Hid (cnt l = c) := hc
  have hds : d.size = ((l.drop 6).take c).length := by rw [← hd]; simp
  have hdc : d.size ≤ 65536 := by rw [hds, List.length_take]; omega
  have HDS : Hid (d.size = ((l.drop 6).take c).length) := hds
  clear hd hw hc hds
  go_enter Tryz.func59, Tryz.ntmps59
  go_wp2_with fail
  refine (takeNum_any w g a E1 s HC.out ha hs hE1).mono ?_
  rintro e w1 ⟨rfl, hc1, ho1⟩
  rw [hl, HX.out]
  have HC1 : Hid (Cur w1 g s E1) := hc1
  have HO1 : Hid (Only (only g) w w1) := ho1
  clear hc1 ho1
  go_wp2_with fail
  refine (take_any w1 g E1 4 E2 s HC1.out (by omega) hs (by omega)).mono ?_
  rintro e w2 ⟨rfl, hc2, ho2⟩
  have HC2 : Hid (Cur w2 g s E2) := hc2
  have HO2 : Hid (Only (only g) w w2) := HO1.out.trans ho2
  clear hc2 ho2
  go_wp2_with fail
  refine (take_any w2 g E2 c E3 s HC2.out (by omega) hs (by omega)).mono ?_
  rintro e w3 ⟨rfl, hc3, ho3⟩
  rw [hdd]
  have HC3 : Hid (Cur w3 g s E3) := hc3
  have HO3 : Hid (Only (only g) w w3) := HO2.out.trans ho3
  clear hc3 ho3 hl
  go_wp2_with fail
  refine (wrap_any d w3 (by omega)).mono ?_
  rintro e w4 ⟨rfl, hb4⟩
  have HC4 : Hid (Cur w4 g s E3) := HC3.out.later hb4
  have HO4 : Hid (Only (only g) w w4) := HO3.out.later hb4
  clear hb4
  by_cases hl4 : d.size ≤ 4096
  · rw [show wrE d = 0 from if_pos hl4, show wrS d = ⟨(frm d.data.toList).toArray⟩ from if_pos hl4]
    obtain ⟨f, hf⟩ : ∃ f : ByteArray, f = ⟨(frm d.data.toList).toArray⟩ := ⟨_, rfl⟩
    rw [← hf]
    have HFD : Hid (f = ⟨(frm d.data.toList).toArray⟩) := hf
    clear hf
    go_wp2_with fail
    refine (since_any w4 g a E3 s HC4.out (by omega) (by omega)).mono ?_
    rintro e w5 ⟨rfl, hb5⟩
    rw [huu]
    have HC5 : Hid (Cur w5 g s E3) := HC4.out.later hb5
    have HO5 : Hid (Only (only g) w w5) := HO4.out.later hb5
    clear hb5
    by_cases he : f = u
    · have hq := str_same he
      have HR : Hid (rd l = some d.data.toList) := by
        rw [HD.out, ← HX.out]
        refine rd_is (by rw [HX.out, ← HDS.out]; exact hl4) ?_
        rw [HX.out, ← HD.out, ← HW.out, ← he, HFD.out]
      clear he
      go_wp2_with fail
      refine (fclone_any d w5 (by omega)).mono ?_
      rintro e w6 ⟨rfl, hb6⟩
      go_wp2
      have HP : Hid (rdN a (rd l) = E3) := by
        rw [HR.out]
        have h1 := rd_size HR.out
        have h2 := (rd_some HR.out).2.1
        have h3 : l.length = s.size - a := by rw [← HL.out]; simp
        rw [HX.out] at h2
        show a + (6 + d.data.toList.length) = E3
        omega
      exact bodyPost_ret (v := .tuple #[.string d, .bool true]) (by simp [results, Tryz.results59, go_sem]) rfl ⟨by rw [HL.out, HR.out]; rfl, by rw [HL.out, HP.out]; exact HC5.out.later hb6, HO5.out.later hb6⟩
    · have hq := str_other he
      have HR : Hid (rd l = none) := by
        refine rd_other ?_
        rw [HX.out, ← HD.out, ← HW.out]
        intro e
        apply he
        apply ba_eq
        rw [HFD.out, ← e]
      clear he
      go_wp2_with fail
      refine (back_any w5 g a E3 s HC5.out).mono ?_
      rintro e w6 ⟨rfl, hc6, ho6⟩
      go_wp2
      exact bodyPost_ret (v := .tuple #[.string ⟨#[]⟩, .bool false]) (by simp [results, Tryz.results59, go_sem]) rfl ⟨by rw [HL.out, HR.out]; rfl, by rw [HL.out, HR.out]; exact hc6, HO5.out.trans ho6⟩
  · rw [show wrE d = 2 from if_neg hl4]
    have HR : Hid (rd l = none) := by
      refine rd_long ?_
      rw [HX.out, ← HDS.out]
      omega
    go_wp2_with fail
    refine (back_any w4 g a E3 s HC4.out).mono ?_
    rintro e w6 ⟨rfl, hc6, ho6⟩
    go_wp2
    exact bodyPost_ret (v := .tuple #[.string ⟨#[]⟩, .bool false]) (by simp [results, Tryz.results59, go_sem]) rfl ⟨by rw [HL.out, HR.out]; rfl, by rw [HL.out, HR.out]; exact hc6, HO4.out.trans ho6⟩
end Go.Proofs.YtckmjmpajbjbkaaGreatDoor
