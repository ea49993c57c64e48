/- Walks of layer 10: the chapter's examples; names. -/
import Derived.Test.YtkigilgoolnaaaaDoorA9
import Derived.Test.YtkigilgoolnaaaaDoorM113
namespace Go.Proofs.YtkigilgoolnaaaaDoor
open Go.RowKit

set_option maxHeartbeats 8000000 in
set_option maxRecDepth 100000 in
theorem awake_any (w : World) (hv : SV w) : Calls Tryd.prog 12 #[] w fun e w' => e = .returned (.bool true) ∧ Below w.heap.size w w' := by
  have HSV := Lib.hid hv
  clear hv
  go_enter Tryd.func12, Tryd.ntmps12
  go_wp2_with fail
  refine (scan_any _ _ HSV.out).mono ?_
  rintro e w1 ⟨pa, ca, l, p, c, rfl, hsc, hown, -, hb1⟩
  obtain ⟨rfl, rfl, rfl⟩ := scan_awake hsc
  have HT := Lib.hid (TR.of_own hown)
  have HB1 := Lib.hid hb1
  clear hsc hown hb1
  go_wp2_with fail
  refine (same_any pa (some ⟨w1.heap.size, 0, none⟩) _ _ _ [((3, 0, ⟨#[97]⟩), 0), ((7, 0, ⟨#[60, 61]⟩), 1), ((6, 0, ⟨#[112]⟩), 3), ((1, 0, ⟨#[]⟩), 10)] _ (HT.out.later ((Below.refl _ _).alloc (Nat.le_refl _) _)) ?_ (by decide)).mono ?_
  · exact TR.of_cells (heap_alloc_new w1 _)
  rintro e w2 ⟨b, rfl, hbt, hb2⟩
  obtain rfl : b = true := hbt.2 rfl
  have HB2 : Hid (Below w.heap.size w w2) := (HB1.out.alloc HB1.out.size _).trans (hb2.mono (by have := HB1.out.size; simp; omega))
  clear hbt hb2
  go_wp2_with fail
  refine (scan_any _ _ (HSV.out.later HB2.out)).mono ?_
  rintro e w3 ⟨pb, cb, m, q, d, rfl, hsd, -, -, hb3⟩
  obtain ⟨rfl, rfl, rfl⟩ := scan_awake2 hsd
  have HB3 : Hid (Below w.heap.size w w3) := HB2.out.trans (hb3.mono HB2.out.size)
  clear hsd hb3
  go_wp2
  exact bodyPost_ret (v := .bool true) (by simp [results, Tryd.results12, go_sem]) rfl ⟨rfl, HB3.out⟩

set_option maxHeartbeats 8000000 in
set_option maxRecDepth 100000 in
theorem lexNames_law (s : ByteArray) (w : World) (hv : SV w) : Calls Tryd.prog 4 #[.string s] w fun e w' => e = .returned (.bool true) ∧ Below w.heap.size w w' := by
  have HSV := Lib.hid hv
  clear hv
  obtain ⟨a, ha⟩ : ∃ a, isName s = a := ⟨_, rfl⟩
  obtain ⟨b, hbw⟩ : ∃ b, isWord s = b := ⟨_, rfl⟩
  have h1 := isName_any s
  have h2 := isWord_any s
  have h3 := dIsName_any s
  have h4 := dIsWord_any s
  rw [ha] at h1 h3
  rw [hbw] at h2 h4
  have K1 := Lib.hid h1
  have K2 := Lib.hid h2
  have K3 := Lib.hid h3
  have K4 := Lib.hid h4
  clear h1 h2 h3 h4 ha hbw
  go_enter Tryd.func4, Tryd.ntmps4
  go_wp2_with (first | (go_at_call 12; refine (awake_any _ HSV.out).mono ?_; rintro e w1 ⟨rfl, hb⟩) | (go_at_call 13; refine (K1.out _).mono ?_; rintro e w' ⟨rfl, he⟩; rw [he]; clear he) | (go_at_call 14; refine (K2.out _).mono ?_; rintro e w' ⟨rfl, he⟩; rw [he]; clear he) | (go_at_call 15; refine (K3.out _).mono ?_; rintro e w' ⟨rfl, he⟩; rw [he]; clear he) | (go_at_call 16; refine (K4.out _).mono ?_; rintro e w2 ⟨rfl, hb4⟩))
  have HBB := Lib.hid (hb.trans (hb4.mono hb.size))
  clear hb hb4
  cases a <;> cases b
  all_goals
    go_wp2
    exact bodyPost_ret (v := .bool true) (by simp [results, Tryd.results4, go_sem]) rfl ⟨rfl, HBB.out⟩
end Go.Proofs.YtkigilgoolnaaaaDoor
