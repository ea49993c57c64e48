/- Walks of layer 1: read. -/
import Derived.Test.YtlooelldkbdomaaGreatDoorV4
import Derived.Deep.RegionHeld3
namespace Go.Proofs.YtlooelldkbdomaaGreatDoor
open Go.RowKit

theorem read_at {s : ByteArray} {w w' : World} (v : V3) (h : LitOf s.data.toList v) (hb : Below w.heap.size w w') : ReadP s w (.returned (.tuple #[.agg #[.int .i64 v.1, .int .i64 v.2.1, .string v.2.2], .bool true])) w' :=
  ⟨v, true, rfl, fun _ hu => ⟨rfl, lit_unique h hu⟩, hb⟩
theorem beq_no {s : ByteArray} {l : List UInt8} (h : s.data.toList ≠ l) : (s.toList == l) = false := by rw [beq_eq_false_iff_ne, ByteArray.toList_eq]; exact h

set_option maxHeartbeats 2000000 in
set_option maxRecDepth 100000 in
theorem read_words (s : ByteArray) (w : World) (h : s = ⟨#[78, 85, 76, 76]⟩ ∨ s = ⟨#[84, 82, 85, 69]⟩ ∨ s = ⟨#[70, 65, 76, 83, 69]⟩) : Calls Tryz.prog 147 #[.string s] w (ReadP s w) := by
  rcases h with rfl | rfl | rfl
  · have hl : LitOf (⟨#[78, 85, 76, 76]⟩ : ByteArray).data.toList (0, 0, ⟨#[]⟩) := ⟨by decide +kernel, by decide +kernel⟩
    have HR : Hid (LitOf (⟨#[78, 85, 76, 76]⟩ : ByteArray).data.toList (0, 0, ⟨#[]⟩)) := hl
    clear hl
    go_enter Tryz.func147, Tryz.ntmps147
    go_wp2_with (first | (go_at_call 148; refine (null_any _).mono ?_; rintro e w' ⟨rfl, hb⟩; obtain ⟨hc, hf⟩ := bcell hb; have hz := hb.size; (try simp at hz); (try have hz0 : w.heap.size < w'.heap.size := by omega); (try have hz1 : w.heap.size + 1 < w'.heap.size := by omega); (try have hz2 : w.heap.size + 1 + 1 < w'.heap.size := by omega); (try have hz3 : w.heap.size + 1 + 1 + 1 < w'.heap.size := by omega)))
    exact bodyPost_ret (v := .tuple #[.agg #[.int .i64 0, .int .i64 0, .string ⟨#[]⟩], .bool true]) (by simp [results, Tryz.results147, go_sem, *]) rfl (read_at (0, 0, ⟨#[]⟩) HR.out (by (repeat (first | exact Below.refl _ _ | assumption | refine Below.drew ?_ | refine below_drewN ?_ _ | refine Below.alloc ?_ (by first | omega | (simp; done) | (simp; omega)) _ | refine Below.setCell ?_ (by first | omega | (simp; done) | (simp; omega)) _ | refine Below.trans ?_ (Below.mono (by assumption) (by first | omega | (simp; done) | (simp; omega)))))))
  · have hl : LitOf (⟨#[84, 82, 85, 69]⟩ : ByteArray).data.toList (2, b2i true, ⟨#[]⟩) := ⟨by decide +kernel, by decide +kernel⟩
    have HR : Hid (LitOf (⟨#[84, 82, 85, 69]⟩ : ByteArray).data.toList (2, b2i true, ⟨#[]⟩)) := hl
    clear hl
    go_enter Tryz.func147, Tryz.ntmps147
    go_wp2_with (first | (go_at_call 163; refine (truth_any _ _).mono ?_; rintro e w' ⟨rfl, hb⟩; obtain ⟨hc, hf⟩ := bcell hb; have hz := hb.size; (try simp at hz); (try have hz0 : w.heap.size < w'.heap.size := by omega); (try have hz1 : w.heap.size + 1 < w'.heap.size := by omega); (try have hz2 : w.heap.size + 1 + 1 < w'.heap.size := by omega); (try have hz3 : w.heap.size + 1 + 1 + 1 < w'.heap.size := by omega)))
    exact bodyPost_ret (v := .tuple #[.agg #[.int .i64 2, .int .i64 (b2i true), .string ⟨#[]⟩], .bool true]) (by simp [results, Tryz.results147, go_sem, *]) rfl (read_at (2, b2i true, ⟨#[]⟩) HR.out (by (repeat (first | exact Below.refl _ _ | assumption | refine Below.drew ?_ | refine below_drewN ?_ _ | refine Below.alloc ?_ (by first | omega | (simp; done) | (simp; omega)) _ | refine Below.setCell ?_ (by first | omega | (simp; done) | (simp; omega)) _ | refine Below.trans ?_ (Below.mono (by assumption) (by first | omega | (simp; done) | (simp; omega)))))))
  · have hl : LitOf (⟨#[70, 65, 76, 83, 69]⟩ : ByteArray).data.toList (2, b2i false, ⟨#[]⟩) := ⟨by decide +kernel, by decide +kernel⟩
    have HR : Hid (LitOf (⟨#[70, 65, 76, 83, 69]⟩ : ByteArray).data.toList (2, b2i false, ⟨#[]⟩)) := hl
    clear hl
    go_enter Tryz.func147, Tryz.ntmps147
    go_wp2_with (first | (go_at_call 163; refine (truth_any _ _).mono ?_; rintro e w' ⟨rfl, hb⟩; obtain ⟨hc, hf⟩ := bcell hb; have hz := hb.size; (try simp at hz); (try have hz0 : w.heap.size < w'.heap.size := by omega); (try have hz1 : w.heap.size + 1 < w'.heap.size := by omega); (try have hz2 : w.heap.size + 1 + 1 < w'.heap.size := by omega); (try have hz3 : w.heap.size + 1 + 1 + 1 < w'.heap.size := by omega)))
    exact bodyPost_ret (v := .tuple #[.agg #[.int .i64 2, .int .i64 (b2i false), .string ⟨#[]⟩], .bool true]) (by simp [results, Tryz.results147, go_sem, *]) rfl (read_at (2, b2i false, ⟨#[]⟩) HR.out (by (repeat (first | exact Below.refl _ _ | assumption | refine Below.drew ?_ | refine below_drewN ?_ _ | refine Below.alloc ?_ (by first | omega | (simp; done) | (simp; omega)) _ | refine Below.setCell ?_ (by first | omega | (simp; done) | (simp; omega)) _ | refine Below.trans ?_ (Below.mono (by assumption) (by first | omega | (simp; done) | (simp; omega)))))))

set_option maxHeartbeats 2000000 in
set_option maxRecDepth 100000 in
theorem read_text (s : ByteArray) (w : World) (hs : s.size ≤ 2147483648) (n1 : (s.toList == [78, 85, 76, 76]) = false) (n2 : (s.toList == [84, 82, 85, 69]) = false) (n3 : (s.toList == [70, 65, 76, 83, 69]) = false)
    (h2 : 2 ≤ s.size) (h0 : s[0].toNat = 39) (h1 : s[s.size - 1].toNat = 39) : Calls Tryz.prog 147 #[.string s] w (ReadP s w) := by
  have HU : Hid (∀ w, Calls Tryz.prog 164 #[.string s] w fun e w' => e = .returned (.tuple #[.string (s.extract 1 (s.size - 1)), .bool true]) ∧ w' = w) := fun w => unm_yes s w hs h2 h0 h1
  have HL : Hid (∀ u, LitOf s.data.toList u → u.1 = 3 ∧ u.2.1 = 0 ∧ (s.extract 1 (s.size - 1)).data.toList = qbs u.2.2.data.toList) := fun u hu => by
    have k := lit_first hu.1 hu.2 (by omega) h0
    exact ⟨k, (rt_text hu.1 k).1, (lit_body k hu.2).2.1⟩
  obtain ⟨T, hT⟩ : ∃ T, s.extract 1 (s.size - 1) = T := ⟨_, rfl⟩
  have hTs : T.size ≤ 2147483648 := by rw [← hT]; simp; omega
  rw [hT] at HU HL
  clear h0 h1 h2 hT
  go_enter Tryz.func147, Tryz.ntmps147
  go_wp2_with (first | (go_at_call 164; refine (HU.out _).mono ?_; rintro e w' ⟨rfl, hw'⟩; rw [hw']; clear hw') | (go_at_call 165; refine (unq_any T _ hTs).mono ?_; rintro e w' ⟨t, ok, rfl, hx, hb⟩; (have HX : Hid (∀ l, qbs l = T.data.toList → ok = true ∧ t = l) := hx); clear hx; (obtain ⟨hc, hf⟩ := bcell hb; have hz := hb.size; (try simp at hz); (try have hz0 : w.heap.size < w'.heap.size := by omega); (try have hz1 : w.heap.size + 1 < w'.heap.size := by omega); (try have hz2 : w.heap.size + 1 + 1 < w'.heap.size := by omega); (try have hz3 : w.heap.size + 1 + 1 + 1 < w'.heap.size := by omega))) | (go_at_call 166; refine (text_any _ _).mono ?_; rintro e w2 ⟨rfl, hb2⟩; (obtain ⟨hc2, hf2⟩ := bcell hb2); (have hy := hb2.size); (try simp at hy); (try have hy0 : w.heap.size < w2.heap.size := by omega)))
  exact bodyPost_ret (v := .tuple #[.agg #[.int .i64 3, .int .i64 0, .string ⟨t.toArray⟩], .bool ok]) (by simp [results, Tryz.results147, go_sem, *]) rfl ⟨(3, 0, ⟨t.toArray⟩), ok, rfl, fun u hu => by
    obtain ⟨a, b, c⟩ := HL.out u hu
    obtain ⟨d, e⟩ := HX.out _ c.symm
    exact ⟨d, v3_eq a.symm b.symm (by rw [e])⟩, by (repeat (first | exact Below.refl _ _ | assumption | refine Below.drew ?_ | refine below_drewN ?_ _ | refine Below.alloc ?_ (by first | omega | (simp; done) | (simp; omega)) _ | refine Below.setCell ?_ (by first | omega | (simp; done) | (simp; omega)) _ | refine Below.trans ?_ (Below.mono (by assumption) (by first | omega | (simp; done) | (simp; omega)))))⟩
end Go.Proofs.YtlooelldkbdomaaGreatDoor
