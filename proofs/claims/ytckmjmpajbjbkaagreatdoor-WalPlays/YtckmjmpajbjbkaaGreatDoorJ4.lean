/- Walks of layer 6, fourth part: full, begin, Append. -/
import Derived.Test.YtckmjmpajbjbkaaGreatDoorJ3
namespace Go.Proofs.YtckmjmpajbjbkaaGreatDoor
open Go.RowKit

set_option maxHeartbeats 4000000 in
set_option maxRecDepth 100000 in
theorem full_any (w : World) (Y : Nat → Prop) (l a : Nat) (g : Lg) (p : Option Addr) (cap : Nat) (es : List Ent) (h : LogAt w Y l a g p cap es) (hg : LgW g) :
    Calls Tryz.prog 52 #[.pointer (some ⟨l, 0, none⟩)] w fun e w' => e = .returned (.bool g.full) ∧ Below w.heap.size w w' := by
  have c1 := h.lc.c1
  rcases List.eq_nil_or_concat es with rfl | ⟨A, x, rfl⟩
  · have c4 := h.lc.c4
    have hn : g.full = true := by rw [Lg.full, h.segs]; rfl
    simp only [List.length_nil] at c4
    rw [hn]
    clear h
    go_enter Tryz.func52, Tryz.ntmps52
    go_wp2
    go_quiet (fail)
    all_goals
      go_wp2
      go_ret
      exact ⟨rfl, by (repeat (first | exact Below.refl _ _ | assumption | refine Below.drew ?_ | refine below_drewN ?_ _ | refine Below.alloc ?_ (by first | omega | (simp; done) | (simp; omega)) _ | refine Below.setCell ?_ (by first | omega | (simp; done) | (simp; omega)) _ | refine Below.trans ?_ (Below.mono (by assumption) (by first | omega | (simp; done) | (simp; omega)))))⟩
  · rw [List.concat_eq_append] at h
    obtain ⟨hx1, hx2, hA⟩ := h.lastok hg
    obtain ⟨b, rfl, _, _, _, d0, d1, _, c4⟩ := h.last
    obtain ⟨q, c, eq, _⟩ := own_slice (h.recs x (by simp))
    have hlast : lastL g.segs = (x.1, x.2.1) := h.next.2.1
    have hsg := h.next.2.2
    rw [eq] at d1
    have hn0 : ¬ ((A.length + 1 : Nat) : Int) = 0 := by omega
    have hn1 : ¬ ((A.length : Int) + 1) = 0 := by omega
    have HS : Hid (g.size ≤ 1024) := hg.size.2
    by_cases hf : g.size ≤ x.2.1.length
    · have hn : g.full = true := by simp [Lg.full, hlast, hf]
      have hfi : (g.size : Int) ≤ (x.2.1.length : Int) := by omega
      rw [hn]
      clear h eq hg hlast hsg hf
      go_enter Tryz.func52, Tryz.ntmps52
      go_wp2
      go_region_held3 (fun w' => w'.cell? ⟨l, 1, none⟩ = some (.int .i64 (g.size : Int)) ∧ w'.cell? ⟨l, 4, none⟩ = some (.slice (some ⟨b, 0, none⟩) (A.length + 1) cap) ∧ w'.cell? ⟨b, A.length * 2 + 1, none⟩ = some (.slice q x.2.1.length c)) (go_simp) (first
        | (go_at_call 54; refine (last_any _ l b A.length cap (by exact c4) hA).mono ?_; rintro e w2 ⟨rfl, hb2⟩; (have m0 := cell_later hb2 c1); (have m5 := cell_later hb2 c4); (have m6 := cell_later hb2 d1)))
      all_goals
        go_wp2
        go_ret
        exact ⟨rfl, from_drew hb2⟩
    · have he : g.segs.isEmpty = false := by rw [hsg]; simp
      have hn : g.full = false := by simp only [Lg.full, hlast, he, Bool.false_or, decide_eq_false_iff_not]; exact hf
      have HF : Hid (decide (g.size ≤ x.2.1.length) = false) := decide_eq_false hf
      have HA : Hid ((((A.length : Int) + 1) == 0) = false) := beq_eq_false_iff_ne.2 hn1
      have hfi : ¬ (g.size : Int) ≤ (x.2.1.length : Int) := by omega
      rw [hn]
      clear h eq hg hlast hsg hf he
      go_enter Tryz.func52, Tryz.ntmps52
      go_wp2
      go_region_held3 (fun w' => w'.cell? ⟨l, 1, none⟩ = some (.int .i64 (g.size : Int)) ∧ w'.cell? ⟨l, 4, none⟩ = some (.slice (some ⟨b, 0, none⟩) (A.length + 1) cap) ∧ w'.cell? ⟨b, A.length * 2 + 1, none⟩ = some (.slice q x.2.1.length c)) (go_simp) (first
        | (go_at_call 54; refine (last_any _ l b A.length cap (by exact c4) hA).mono ?_; rintro e w2 ⟨rfl, hb2⟩; (have m0 := cell_later hb2 c1); (have m5 := cell_later hb2 c4); (have m6 := cell_later hb2 d1)))
      all_goals
        go_wp2
        go_ret
        refine ⟨?_, from_drew hb2⟩
        have : ((((A.length : Int) + 1) == 0) || decide (g.size ≤ x.2.1.length)) = false := by rw [HF.out, HA.out]; rfl
        exact congrArg (fun b => Ending.returned (.bool b)) this
end Go.Proofs.YtckmjmpajbjbkaaGreatDoor
