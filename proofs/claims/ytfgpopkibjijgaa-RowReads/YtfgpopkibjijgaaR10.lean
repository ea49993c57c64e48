/- Walks of layer 3, tenth part: a value of a known kind out of its bytes. -/
import Derived.Test.YtfgpopkibjijgaaR9
namespace Go.Proofs.Ytfgpopkibjijgaa
open Go.RowKit

/-- A box is there, and may be written. -/
structure Box (b : Nat) (w : World) : Prop where
  k0 : w.cell? ⟨b, 0, none⟩ = some (.int .i64 0)
  k1 : w.cell? ⟨b, 1, none⟩ = some (.int .i64 0)
  k2 : w.cell? ⟨b, 2, none⟩ = some (.string ⟨#[]⟩)
  kf : ∀ o, w.frozen? ⟨b, o, none⟩ = false
  kz : b < w.heap.size
theorem box_new (w : World) (t : TypeId) : Box w.heap.size (w.alloc (.cells #[.int .i64 0, .int .i64 0, .string ⟨#[]⟩] t)) := ⟨by simp, by simp, by simp, by simp, by simp⟩
theorem Box.later {b : Nat} {w w' : World} (h : Box b w) (hb : Below w.heap.size w w') : Box b w' :=
  ⟨cell_later hb h.k0, cell_later hb h.k1, cell_later hb h.k2, fun o => by rw [hb.frozen (p := ⟨b, o, none⟩) h.kz]; exact h.kf o, by have := hb.size; have := h.kz; omega⟩

set_option maxHeartbeats 2000000 in
set_option maxRecDepth 100000 in
theorem rval_any (K : Nat) (s : ByteArray) (w : World) (hK : K < 4) (hs : s.size ≤ 2147483648) : Calls Try.prog 26 #[.int .i64 (K : Int), .string s] w (VR K s w) := by
  have hKd : K = 0 ∨ K = 1 ∨ K = 2 ∨ K = 3 := by omega
  rcases hKd with rfl | rfl | rfl | rfl
  · go_enter Try.func26, Try.ntmps26
    go_wp2
    exact bodyPost_ret (v := .tuple #[.agg #[.int .i64 0, .int .i64 0, .string ⟨#[]⟩], .string s, .bool true]) (by simp [results, Try.results26, go_sem]) rfl ⟨(0, 0, ⟨#[]⟩), s, true, rfl, rf_null rfl, Nat.le_refl _, by (repeat (first | exact Below.refl _ _ | assumption | refine Below.drew ?_ | refine below_drewN ?_ _ | refine Below.alloc ?_ (by first | omega | (simp; done) | (simp; omega)) _ | refine Below.setCell ?_ (by first | omega | (simp; done) | (simp; omega)) _ | refine Below.trans ?_ (Below.mono (by assumption) (by first | omega | (simp; done) | (simp; omega)))))⟩
  · go_enter Try.func26, Try.ntmps26
    go_wp2_with fail
    refine (rnum_any s _ hs).mono ?_
    rintro e w1 ⟨v, r, ok, rfl, hf, hr, hb⟩
    obtain ⟨k0, k1, k2, kf, kz⟩ := (box_new w 25).later hb
    have HF : Hid (RF 1 s.data.toList v r.data.toList ok) := hf
    clear hf
    go_wp2
    exact bodyPost_ret (v := .tuple #[.agg #[.int .i64 v.1, .int .i64 v.2.1, .string v.2.2], .string r, .bool ok]) (by simp [results, Try.results26, go_sem, *]) rfl ⟨v, r, ok, rfl, HF.out, hr, by (repeat (first | exact Below.refl _ _ | assumption | refine Below.drew ?_ | refine below_drewN ?_ _ | refine Below.alloc ?_ (by first | omega | (simp; done) | (simp; omega)) _ | refine Below.setCell ?_ (by first | omega | (simp; done) | (simp; omega)) _ | refine Below.trans ?_ (Below.mono (by assumption) (by first | omega | (simp; done) | (simp; omega)))))⟩
  · go_enter Try.func26, Try.ntmps26
    go_wp2_with fail
    refine (rbool_any s _ hs).mono ?_
    rintro e w1 ⟨v, r, ok, rfl, hf, hr, hb⟩
    obtain ⟨k0, k1, k2, kf, kz⟩ := (box_new w 25).later hb
    have HF : Hid (RF 2 s.data.toList v r.data.toList ok) := hf
    clear hf
    go_wp2
    exact bodyPost_ret (v := .tuple #[.agg #[.int .i64 v.1, .int .i64 v.2.1, .string v.2.2], .string r, .bool ok]) (by simp [results, Try.results26, go_sem, *]) rfl ⟨v, r, ok, rfl, HF.out, hr, by (repeat (first | exact Below.refl _ _ | assumption | refine Below.drew ?_ | refine below_drewN ?_ _ | refine Below.alloc ?_ (by first | omega | (simp; done) | (simp; omega)) _ | refine Below.setCell ?_ (by first | omega | (simp; done) | (simp; omega)) _ | refine Below.trans ?_ (Below.mono (by assumption) (by first | omega | (simp; done) | (simp; omega)))))⟩
  · go_enter Try.func26, Try.ntmps26
    go_wp2_with fail
    refine (rtext_any s _ hs).mono ?_
    rintro e w1 ⟨v, r, ok, rfl, hf, hr, hb⟩
    obtain ⟨k0, k1, k2, kf, kz⟩ := (box_new w 25).later hb
    have HF : Hid (RF 3 s.data.toList v r.data.toList ok) := hf
    clear hf
    go_wp2
    exact bodyPost_ret (v := .tuple #[.agg #[.int .i64 v.1, .int .i64 v.2.1, .string v.2.2], .string r, .bool ok]) (by simp [results, Try.results26, go_sem, *]) rfl ⟨v, r, ok, rfl, HF.out, hr, by (repeat (first | exact Below.refl _ _ | assumption | refine Below.drew ?_ | refine below_drewN ?_ _ | refine Below.alloc ?_ (by first | omega | (simp; done) | (simp; omega)) _ | refine Below.setCell ?_ (by first | omega | (simp; done) | (simp; omega)) _ | refine Below.trans ?_ (Below.mono (by assumption) (by first | omega | (simp; done) | (simp; omega)))))⟩
end Go.Proofs.Ytfgpopkibjijgaa
