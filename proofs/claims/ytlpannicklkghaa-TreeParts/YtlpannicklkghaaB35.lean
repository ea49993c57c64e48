/- Walks of layer 7: the document's New. -/
import Derived.Test.YtlpannicklkghaaB34
namespace Go.Proofs.Ytlpannicklkghaa
open Go.RowKit

set_option maxHeartbeats 2000000 in
set_option maxRecDepth 100000 in
theorem rnew_bad (w : World) (m : Int) (v : Value) (hm : m < 4 ∨ 64 < m) : Calls Try.prog 12 #[.int .i64 m, v] w fun e w' => e = .returned (.tuple #[.pointer none, .int .i64 70]) ∧ w' = w := by
  by_cases h1 : m < 4
  · go_enter Try.func12, Try.ntmps12
    go_wp2
    refine bodyPost_ret (v := .tuple #[.pointer none, .int .i64 70]) (by simp [results, Try.results12, go_sem]) rfl ?_
    exact ⟨rfl, rfl⟩
  · have h2 : (64 : Int) < m := by omega
    go_enter Try.func12, Try.ntmps12
    go_wp2
    refine bodyPost_ret (v := .tuple #[.pointer none, .int .i64 70]) (by simp [results, Try.results12, go_sem]) rfl ?_
    exact ⟨rfl, rfl⟩
/-- What the document's New leaves. -/
def RNewP (w : World) (m : Nat) (l : List Pr) (e : Ending) (w' : World) : Prop :=
  Below w.heap.size w w' ∧ (risB l = false → e = .returned (.tuple #[.pointer none, .int .i64 71])) ∧ (risB l = true → ∃ r v, e = .returned (.tuple #[.pointer (some ⟨r, 0, none⟩), .int .i64 0]) ∧ RtAt w' w.heap.size r m v (l.map itOf))

set_option maxHeartbeats 8000000 in
set_option maxRecDepth 100000 in
theorem rnew_any (w : World) (m : Nat) (p : Option Addr) (cap : Nat) (l : List Pr) (hm : 4 ≤ m) (hm2 : m ≤ 64) (hr : PRow w p l) (hl : l.length ≤ 4000000000) :
    Calls Try.prog 12 #[.int .i64 (m : Int), .slice p l.length cap] w (RNewP w m l) := by
  obtain ⟨i0, hi, hz0, hz1, hz2⟩ := info_parts Try.infoPair
  have HR : Hid (PRow w p l) := hr
  clear hr
  have h1 : ¬ (m : Int) < 4 := by omega
  have h2 : ¬ (64 : Int) < (m : Int) := by omega
  go_enter Try.func12, Try.ntmps12
  go_wp2
  go_loopw [6] (fun i wr => ∃ j : Nat, i = .int .i64 ((j : Int) + 1) ∧ (j + 1 ≤ l.length ∨ j = 0) ∧ (∀ q (h : q + 1 < l.length), q < j → kl (l[q]).1 (l[q + 1]).1 = true) ∧ Below w.heap.size w wr) (fun i _ => l.length + 1 - (intOf i).toNat)
  case atStart => exact ⟨0, rfl, Or.inr rfl, fun q _ h => absurd h (Nat.not_lt_zero _), Below.refl _ _⟩
  case round =>
    obtain ⟨j, rfl, hj, hall, hb⟩ := hrel
    have HA : Hid (∀ q (h : q + 1 < l.length), q < j → kl (l[q]).1 (l[q + 1]).1 = true) := hall
    have HB : Hid (Below w.heap.size w wr) := hb
    have hbs := hb.size
    clear hall hb
    by_cases hlt : j + 1 < l.length
    · have hlti : (j : Int) + 1 < (l.length : Int) := by omega
      have hlt0 : (j : Int) < (l.length : Int) := by omega
      obtain ⟨b, off, rfl, h1, _⟩ := (HR.out.later HB.out) (j + 1) hlt
      obtain ⟨b', off', e', h0, _⟩ := (HR.out.later HB.out) j (by omega)
      simp only [Option.some.injEq, Addr.mk.injEq, and_true] at e'
      obtain ⟨rfl, rfl⟩ := e'
      obtain ⟨x, hx⟩ : ∃ x, (l[j]).1 = x := ⟨_, rfl⟩
      obtain ⟨y, hy⟩ : ∃ y, (l[j + 1]).1 = y := ⟨_, rfl⟩
      rw [hx] at h0
      rw [hy] at h1
      have HXY : Hid (∀ (h0 : j < l.length) (h1 : j + 1 < l.length), (l[j]).1 = x ∧ (l[j + 1]).1 = y) := fun _ _ => ⟨hx, hy⟩
      clear hx hy
      go_wp2
      go_quiet (fail)
      obtain ⟨c, hc⟩ : ∃ c, Op.bytesLess x.toList y.toList = c := ⟨_, rfl⟩
      rw [hc]
      have HC : Hid (kl x y = c) := hc
      clear hc
      cases c with
      | false =>
        go_wp2
        refine bodyPost_ret (v := .tuple #[.pointer none, .int .i64 71]) (by simp [results, Try.results12, go_sem]) rfl ?_
        have hn : risB l = false := by
          cases h : risB l with
          | false => rfl
          | true =>
            have h1 := (risB_iff l).1 h j hlt
            rw [(HXY.out (by omega) hlt).1, (HXY.out (by omega) hlt).2, HC.out] at h1
            cases h1
        exact ⟨below_drewN HB.out _, fun _ => rfl, fun h => by rw [hn] at h; cases h⟩
      | true =>
        go_wp2
        refine ⟨⟨j + 1, by go_num, Or.inl (by omega), fun q hq hq2 => ?_, below_drewN HB.out _⟩, by simp only [intOf]; omega⟩
        by_cases e : q = j
        · subst e
          rw [(HXY.out (by omega) hlt).1, (HXY.out (by omega) hlt).2]
          exact HC.out
        · exact HA.out q hq (by omega)
    · have hlti : ¬ (j : Int) + 1 < (l.length : Int) := by omega
      have HRS : Hid (risB l = true) := (risB_iff l).2 fun q hq => HA.out q hq (by omega)
      have HR1 : Hid (PRow wr p l) := HR.out.later HB.out
      clear HA HR
      go_wp2_with (first | (at_make; refine wpList_make_full _ rfl _ _ 22 rfl wr.heap.size 27 i0 _ 2 Try.underlying22 hi hz0 hz1 .i64 .i64 _ _ l.length rfl rfl (by omega) (by omega) (by rw [hz2]; omega) (by unfold maxLen; omega) (Nat.le_refl _) ?_; intro w1 hown hgrow; (have hb1 : Below wr.heap.size wr w1 := (Below.refl _ _).grown hgrow (Nat.le_refl _) (fun k h => by cases h)); (have HO1 : Hid (w1.ownsRow wr.heap.size 27 2 (.slice (some ⟨wr.heap.size, 0, none⟩) l.length l.length) l.length (madeCells #[.string ⟨#[]⟩, .string ⟨#[]⟩] (l.length * 2)).toList) := hown); (have HB1 : Hid (Below wr.heap.size wr w1) := hb1); clear hown hgrow hb1) | (refine wpList_copy_wide rfl (.tmp 41) (.tmp 42) 22 22 rfl 27 2 Try.underlying22 (by rw [hi]; simp [hz1]) wr.heap.size 0 l.length l.length p l.length cap rfl rfl (pc (l.map itOf)) (Nat.le_refl _) (by rw [pc_length, List.length_map]) ((HR1.out.later (HB1.out.alloc HB1.out.size _)).cells) (fun j hj => (row_room (HO1.out.alloc _)).1 j (by rw [pc_length, List.length_map] at hj; exact hj)) (fun j _ => (row_room (HO1.out.alloc _)).2 _) (pc_one _) ?_; intro w4 hw4; (have HW4 : Hid (w4 = (w1.alloc (Obj.cells #[.int .i64 (m : Int), .slice (some ⟨wr.heap.size, 0, none⟩) l.length l.length] 46)).setCells wr.heap.size 0 (pc (l.map itOf))) := hw4); clear hw4))
      refine bodyPost_ret (v := .tuple #[.pointer (some ⟨w1.heap.size, 0, none⟩), .int .i64 0]) (by simp [results, Try.results12, go_sem]) rfl ?_
      have hlt1 : wr.heap.size < w1.heap.size := (HO1.out.lt _ rfl).2
      have hs1 := HB1.out.size
      have hbw : Below w.heap.size w (w1.alloc (Obj.cells #[.int .i64 (m : Int), .slice (some ⟨wr.heap.size, 0, none⟩) l.length l.length] 46)) := (HB.out.trans (HB1.out.mono hbs)).alloc (by omega) _
      have hg := setCells_grown wr.heap.size (pc (l.map itOf)) 0 (w1.alloc (Obj.cells #[.int .i64 (m : Int), .slice (some ⟨wr.heap.size, 0, none⟩) l.length l.length] 46))
      have hrow : w4.ownsRow wr.heap.size 27 2 (.slice (some ⟨wr.heap.size, 0, none⟩) l.length l.length) l.length (pc (l.map itOf)) := copied_row (HO1.out.alloc _) (by rw [pc_length, List.length_map]) HW4.out
      refine ⟨by rw [HW4.out]; exact hbw.grown hg (by rw [World.size_alloc]; omega) (fun k hk => by simp at hk; omega), fun h => (by rw [HRS.out] at h; cases h), fun _ => ⟨w1.heap.size, .slice (some ⟨wr.heap.size, 0, none⟩) l.length l.length, rfl, ⟨?_, ?_, by omega⟩⟩⟩
      · rw [HW4.out, hg.block _ (by rw [World.size_alloc]; omega) (fun e => by have := Option.some.inj e; omega)]
        exact heap_alloc_new w1 _
      · rw [List.length_map]
        obtain ⟨q1, ⟨q2, _⟩ | ⟨g', cap', cur, e', qB, q⟩⟩ := hrow
        · cases q2
        · exact ⟨q1, Or.inr ⟨g', cap', cur, e', by omega, q⟩⟩
end Go.Proofs.Ytlpannicklkghaa
