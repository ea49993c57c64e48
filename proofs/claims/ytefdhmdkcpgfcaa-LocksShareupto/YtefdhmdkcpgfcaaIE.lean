/- Walks of layer 19: the program's Right, Conflict, New; its table in memory. -/
import Derived.Test.YtefdhmdkcpgfcaaI10
import Derived.Lib.MinMaxS
namespace Go.Proofs.Ytefdhmdkcpgfcaa
open Go.RowKit
theorem maxS_B (a b : ByteArray) : Lib.maxS a b = maxB a b := by
  unfold Lib.maxS maxB ltB
  rw [bytesLess_eq, Lib.toList_data, Lib.toList_data]
  by_cases h : a.data.toList < b.data.toList <;> simp [h]
theorem max_run (a b : ByteArray) (ts : Array TypeId) (t : TypeId) (w : World) : (Builtin.max_ ts t #[.string a, .string b]).run Try.prog w = .ok (.string (maxB a b)) w := by
  rw [Lib.run_max_strs, maxS_B]

set_option maxHeartbeats 2000000 in
set_option maxRecDepth 100000 in
theorem ends_any (a b : ByteArray) (w : World) : Calls Try.prog 29 #[.string a, .string b] w fun e w' => e = .returned (.bool (endB a b)) ∧ w' = w := by
  obtain ⟨q, hq⟩ : ∃ q, endB a b = q := ⟨_, rfl⟩
  have HQ : Hid (endB a b = q) := hq
  rw [hq]
  clear hq
  unfold endB noB ltB at HQ
  go_enter Try.func29, Try.ntmps29
  go_wp2
  all_goals go_ret
  all_goals refine ⟨ret_bool ?_, rfl⟩
  all_goals (rw [← HQ.out]; first | done | simp [*])

set_option maxHeartbeats 2000000 in
set_option maxRecDepth 100000 in
theorem right_any (l : Lk) (w : World) : Calls Try.prog 8 #[.agg (lkC l).toArray] w fun e w' => e = .returned (.bool (lkR l)) ∧ Below w.heap.size w w' := by
  obtain ⟨t, a, b, x⟩ := l
  rw [show lkR ⟨t, a, b, x⟩ = (decide (0 ≤ t) && decide (t < 8) && endB a b) from rfl]
  have HE := Lib.hid (fun W => ends_any a b W)
  obtain ⟨m, hm⟩ : ∃ m, endB a b = m := ⟨_, rfl⟩
  rw [hm] at HE ⊢
  clear hm
  simp only [lkC]
  by_cases h0 : 0 ≤ t
  · by_cases h1 : t < 8
    · go_enter Try.func8, Try.ntmps8
      go_wp2_with (first | (go_at_call 29; refine (HE.out _).mono ?_; rintro e w1 ⟨rfl, rfl⟩))
      all_goals go_ret
      all_goals exact ⟨ret_bool (by simp [*]), by (repeat (first | exact Below.refl _ _ | assumption | refine Below.drew ?_ | refine below_drewN ?_ _ | refine Below.alloc ?_ (by first | omega | (simp; done) | (simp; omega)) _ | refine Below.setCell ?_ (by first | omega | (simp; done) | (simp; omega)) _ | refine Below.trans ?_ (Below.mono (by assumption) (by first | omega | (simp; done) | (simp; omega)))))⟩
    · rw [decide_eq_false h1, Bool.and_false, Bool.false_and]
      go_enter Try.func8, Try.ntmps8
      go_wp2
      all_goals go_ret
      all_goals exact ⟨rfl, by (repeat (first | exact Below.refl _ _ | assumption | refine Below.drew ?_ | refine below_drewN ?_ _ | refine Below.alloc ?_ (by first | omega | (simp; done) | (simp; omega)) _ | refine Below.setCell ?_ (by first | omega | (simp; done) | (simp; omega)) _ | refine Below.trans ?_ (Below.mono (by assumption) (by first | omega | (simp; done) | (simp; omega)))))⟩
  · rw [decide_eq_false h0, Bool.false_and, Bool.false_and]
    go_enter Try.func8, Try.ntmps8
    go_wp2
    all_goals go_ret
    all_goals exact ⟨rfl, by (repeat (first | exact Below.refl _ _ | assumption | refine Below.drew ?_ | refine below_drewN ?_ _ | refine Below.alloc ?_ (by first | omega | (simp; done) | (simp; omega)) _ | refine Below.setCell ?_ (by first | omega | (simp; done) | (simp; omega)) _ | refine Below.trans ?_ (Below.mono (by assumption) (by first | omega | (simp; done) | (simp; omega)))))⟩

set_option maxHeartbeats 4000000 in
set_option maxRecDepth 100000 in
theorem conflict_any (a b : Lk) (w : World) : Calls Try.prog 10 #[.agg (lkC a).toArray, .agg (lkC b).toArray] w fun e w' => e = .returned (.bool (lkM a b)) ∧ Below w.heap.size w w' := by
  obtain ⟨t, l, h, x⟩ := a
  obtain ⟨u, m, g, y⟩ := b
  rw [show lkM ⟨t, l, h, x⟩ ⟨u, m, g, y⟩ = (decide (t = u) && (x || y) && (endB (maxB l m) h && endB (maxB l m) g)) from rfl]
  have hmx := fun ts ty W => max_run l m ts ty W
  obtain ⟨z, hz⟩ : ∃ z, maxB l m = z := ⟨_, rfl⟩
  rw [hz] at hmx ⊢
  clear hz
  have HE := Lib.hid (fun W => And.intro (ends_any z h W) (ends_any z g W))
  obtain ⟨m1, hm1⟩ : ∃ m1, endB z h = m1 := ⟨_, rfl⟩
  obtain ⟨m2, hm2⟩ : ∃ m2, endB z g = m2 := ⟨_, rfl⟩
  rw [hm1, hm2] at HE ⊢
  clear hm1 hm2
  simp only [lkC]
  by_cases h0 : t = u
  · subst h0
    cases x <;> cases y
    · go_enter Try.func10, Try.ntmps10
      go_wp2
      all_goals go_ret
      all_goals exact ⟨ret_bool (by simp), by (repeat (first | exact Below.refl _ _ | assumption | refine Below.drew ?_ | refine below_drewN ?_ _ | refine Below.alloc ?_ (by first | omega | (simp; done) | (simp; omega)) _ | refine Below.setCell ?_ (by first | omega | (simp; done) | (simp; omega)) _ | refine Below.trans ?_ (Below.mono (by assumption) (by first | omega | (simp; done) | (simp; omega)))))⟩
    all_goals
      cases m1
      · go_enter Try.func10, Try.ntmps10
        go_wp2_with (first | (go_at_call 29; refine (HE.out _).1.mono ?_; rintro e w1 ⟨rfl, rfl⟩))
        go_ret
        exact ⟨ret_bool (by simp), by (repeat (first | exact Below.refl _ _ | assumption | refine Below.drew ?_ | refine below_drewN ?_ _ | refine Below.alloc ?_ (by first | omega | (simp; done) | (simp; omega)) _ | refine Below.setCell ?_ (by first | omega | (simp; done) | (simp; omega)) _ | refine Below.trans ?_ (Below.mono (by assumption) (by first | omega | (simp; done) | (simp; omega)))))⟩
      · go_enter Try.func10, Try.ntmps10
        go_wp2_with fail
        refine (HE.out _).1.mono ?_
        rintro e w1 ⟨rfl, rfl⟩
        go_wp2_with (first | (go_at_call 29; refine (HE.out _).2.mono ?_; rintro e w1 ⟨rfl, rfl⟩))
        go_ret
        exact ⟨ret_bool (by simp), by (repeat (first | exact Below.refl _ _ | assumption | refine Below.drew ?_ | refine below_drewN ?_ _ | refine Below.alloc ?_ (by first | omega | (simp; done) | (simp; omega)) _ | refine Below.setCell ?_ (by first | omega | (simp; done) | (simp; omega)) _ | refine Below.trans ?_ (Below.mono (by assumption) (by first | omega | (simp; done) | (simp; omega)))))⟩
  · go_enter Try.func10, Try.ntmps10
    go_wp2
    all_goals go_ret
    all_goals exact ⟨ret_bool (by simp [h0]), by (repeat (first | exact Below.refl _ _ | assumption | refine Below.drew ?_ | refine below_drewN ?_ _ | refine Below.alloc ?_ (by first | omega | (simp; done) | (simp; omega)) _ | refine Below.setCell ?_ (by first | omega | (simp; done) | (simp; omega)) _ | refine Below.trans ?_ (Below.mono (by assumption) (by first | omega | (simp; done) | (simp; omega)))))⟩

theorem Try.infoPp : (Try.prog.info? 68).map (fun i => (i.zero, i.size, i.bytes)) = some (some (.agg #[.int .i64 0, .slice none 0 0]), 2, 32) := by kernel_rfl
/-- The program's table at t, all of it in Z. -/
structure PT9 (w : World) (B : Nat) (Z : Nat → Prop) (t : Nat) (T : Tb9) : Prop where
  tb : ∃ v, w.heap[t]? = some (.cells #[v, .int .i64 T.last] 58 (0, 0)) ∧ OwnR 2 68 (PlO w Z) w 0 v T.ps ∧ ∀ g, v.ownBlock = some g → Z g
  lies : ∀ k, Z k → B ≤ k ∧ k < w.heap.size
  tz : Z t
theorem PT9.kept {w w' : World} {B : Nat} {Z : Nat → Prop} {t : Nat} {T : Tb9} (h : PT9 w B Z t T) {Y : Nat → Prop} (ho : Only Y w w') (hy : ∀ k, Z k → ¬ Y k) : PT9 w' B Z t T := by
  obtain ⟨v, h1, h2, h3⟩ := h.tb
  have hk : ∀ k, Z k → k < w.heap.size → w'.heap[k]? = w.heap[k]? := fun k hz hl => ho.block k hl (hy k hz)
  exact ⟨⟨v, (hk t h.tz (h.lies t h.tz).2).trans h1, h2.kept (fun g hg => hk g (h3 g hg) (h2.lt hg).2) (PlO.keep hk fun _ h => h), h3⟩, fun k hk => ⟨(h.lies k hk).1, Nat.lt_of_lt_of_le (h.lies k hk).2 ho.size⟩, h.tz⟩
theorem PT9.later {w w' : World} {B : Nat} {Z : Nat → Prop} {t : Nat} {T : Tb9} (h : PT9 w B Z t T) (hb : Below w.heap.size w w') : PT9 w' B Z t T := h.kept (Y := fun _ => False) (Only.of hb) fun _ _ h => h
theorem PT9.reads {w : World} {B : Nat} {Z : Nat → Prop} {t : Nat} {T : Tb9} (h : PT9 w B Z t T) : ∃ q cap, w.heap[t]? = some (.cells #[.slice q T.ps.length cap, .int .i64 T.last] 58 (0, 0)) ∧ RowR 2 (PlR w) w q T.ps := by
  obtain ⟨v, h1, h2, _⟩ := h.tb
  obtain ⟨q, cap, rfl, _⟩ := h2.form
  exact ⟨q, cap, h1, h2.row PlO.reads⟩

set_option maxHeartbeats 4000000 in
set_option maxRecDepth 100000 in
theorem pnew_any (w : World) : Calls Try.prog 13 #[] w fun e w' => ∃ t, e = .returned (.pointer (some ⟨t, 0, none⟩)) ∧ PT9 w' w.heap.size (fun k => w.heap.size ≤ k ∧ k < w'.heap.size) t t90 ∧ Below w.heap.size w w' := by
  go_enter Try.func13, Try.ntmps13
  go_wp2
  go_ret
  refine ⟨w.heap.size, rfl, ⟨⟨.slice none 0 0, heap_alloc_new w _, OwnR.nil _ _ _ _ _, fun g hg => by cases hg⟩, fun _ h => h, ⟨Nat.le_refl _, by simp⟩⟩, by (repeat (first | exact Below.refl _ _ | assumption | refine Below.drew ?_ | refine below_drewN ?_ _ | refine Below.alloc ?_ (by first | omega | (simp; done) | (simp; omega)) _ | refine Below.setCell ?_ (by first | omega | (simp; done) | (simp; omega)) _ | refine Below.trans ?_ (Below.mono (by assumption) (by first | omega | (simp; done) | (simp; omega)))))⟩
end Go.Proofs.Ytefdhmdkcpgfcaa
