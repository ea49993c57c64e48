/- The document's functions of layer 4, fifth part: known, step, Arm. -/
import Derived.Test.YtejbelbfmchadaaE4
namespace Go.Proofs.Ytejbelbfmchadaa
open Go.RowKit

theorem ret_int4 {a b : Int} (h : a = b) : Ending.returned (.int .i64 a) = .returned (.int .i64 b) := by rw [h]
/-- A cell of the document's disk is written: its row stays. -/
theorem RefAt.wrote {w w' : World} {Z : Nat → Prop} {a : Nat} {st st' : St} {v : Value} (h : RefAt w Z a st v) (hf : st'.fs = st.fs) (hc : w'.heap[a]? = some (.cells (rcells v st') 70 (0, 0))) (hk : ∀ k, k ≠ a → w'.heap[k]? = w.heap[k]?) : RefAt w' Z a st' v := by
  refine ⟨hc, h.za, ?_, h.zone, by rw [hf]; exact h.sorted, by rw [hf]; exact h.few⟩
  rw [hf]
  exact own_kept h.row fun g e => hk g fun e' => h.ne (by rw [← e']; exact e)

set_option maxHeartbeats 4000000 in
set_option maxRecDepth 100000 in
theorem known_any (w : World) (Z : Nat → Prop) (a : Nat) (st : St) (v : Value) (s : ByteArray) (hs : s.size ≤ 9223372036854775807) (h : RefAt w Z a st v) :
    Calls Try.prog 56 #[.pointer (some ⟨a, 0, none⟩), .string s] w fun e w' => e = .returned (.int .i64 (findE st.fs s.data.toList)) ∧ w' = w := by
  have HD : Hid (RefAt w Z a st v) := h
  clear h
  go_enter Try.func56, Try.ntmps56
  go_wp2_with fail
  refine (name_any s w hs).mono ?_
  rintro e w1 ⟨rfl, he⟩
  have he' := he.symm
  subst he'
  cases hn : nmOk s.data.toList with
  | false =>
    have HR : Hid (findE st.fs s.data.toList = 40) := by show _ = _; simp [findE, hn]
    go_wp2
    go_ret
    exact ⟨ret_int4 HR.out.symm, rfl⟩
  | true =>
    go_wp2_with fail
    refine (there_any w Z a st v s HD.out).mono ?_
    rintro e w1 ⟨rfl, he⟩
    have he' := he.symm
    subst he'
    cases hg : (getL st.fs s.data.toList).isSome with
    | true =>
      have HR : Hid (findE st.fs s.data.toList = 0) := by show _ = _; simp [findE, hn, hg]
      go_wp2
      go_ret
      exact ⟨ret_int4 HR.out.symm, rfl⟩
    | false =>
      have HR : Hid (findE st.fs s.data.toList = 41) := by show _ = _; simp [findE, hn, hg]
      go_wp2
      go_ret
      exact ⟨ret_int4 HR.out.symm, rfl⟩

set_option maxHeartbeats 4000000 in
set_option maxRecDepth 100000 in
theorem rstep_any (w : World) (Z : Nat → Prop) (a : Nat) (st : St) (v : Value) (E : Int) (hst : st.steps < 4611686018427387904) (hlo : -1 ≤ st.armed) (hhi : st.armed ≤ 9223372036854775807) (h : RefAt w Z a st v) :
    Calls Try.prog 55 #[.pointer (some ⟨a, 0, none⟩), .int .i64 E] w fun e w' => e = .returned (.int .i64 (stepR st E id).1) ∧ RefAt w' Z a (stepR st E id).2 v ∧ Only Z w w' := by
  obtain ⟨c0, c1, c2, c3, c4, cf⟩ := rcell5 h.cells
  have HD : Hid (RefAt w Z a st v) := h
  have HC : Hid (w.heap[a]? = some (.cells (rcells v st) 70 (0, 0))) := h.cells
  clear h
  cases hd : st.down with
  | true =>
    rw [hd] at c3
    have HR : Hid (stepR st E id = (3, st)) := by show _ = _; simp [stepR, hd]
    go_enter Try.func55, Try.ntmps55
    go_wp2
    go_ret
    rw [HR.out]
    exact ⟨rfl, HD.out, Only.refl _ _⟩
  | false =>
    rw [hd] at c3
    by_cases hE : E = 0
    · subst hE
      by_cases h0 : st.armed = 0
      · have HR : Hid (stepR st 0 id = (3, { st with down := true })) := by show _ = _; simp [stepR, hd, h0]
        rw [h0] at c2
        clear hd h0
        go_enter Try.func55, Try.ntmps55
        go_wp2
        go_ret
        rw [HR.out]
        refine ⟨rfl, HD.out.wrote rfl ?_ (fun k hk => Below.heap_setCell _ _ _ _ hk), (Only.refl _ _).setCell HD.out.za _⟩
        rw [heap_setCell_same w a 3 _ _ _ HC.out]
        rfl
      · by_cases h1 : 0 < st.armed
        · have HR : Hid (stepR st 0 id = (0, ⟨st.size, st.fs, st.steps + 1, st.armed - 1, false⟩)) := by show _ = _; simp [stepR, hd, h0, h1]
          have hb : (st.armed == 0) = false := by simpa using h0
          obtain ⟨K, hK⟩ : ∃ K, st.armed = K := ⟨_, rfl⟩
          obtain ⟨S, hS⟩ : ∃ S, st.steps = S := ⟨_, rfl⟩
          have HDN : Hid (st.down = false) := hd
          have HK : Hid (st.armed = K) := hK
          have HS : Hid (st.steps = S) := hS
          rw [hK] at c2 h0 h1 hb hlo hhi
          rw [hS] at c4 hst
          clear hd hK hS
          go_enter Try.func55, Try.ntmps55
          go_wp2
          go_ret
          rw [HR.out]
          refine ⟨rfl, HD.out.wrote rfl ?_ (fun k hk => (Below.heap_setCell _ _ _ _ hk).trans (Below.heap_setCell _ _ _ _ hk)), ((Only.refl _ _).setCell HD.out.za _).setCell HD.out.za _⟩
          rw [heap_setCell_same _ a 4 _ _ _ (heap_setCell_same w a 2 _ _ _ HC.out)]
          simp [rcells, HDN.out, HK.out, HS.out]
        · have HR : Hid (stepR st 0 id = (0, ⟨st.size, st.fs, st.steps + 1, st.armed, false⟩)) := by show _ = _; simp [stepR, hd, h0, h1]
          have hb : (st.armed == 0) = false := by simpa using h0
          obtain ⟨K, hK⟩ : ∃ K, st.armed = K := ⟨_, rfl⟩
          obtain ⟨S, hS⟩ : ∃ S, st.steps = S := ⟨_, rfl⟩
          have HDN : Hid (st.down = false) := hd
          have HK : Hid (st.armed = K) := hK
          have HS : Hid (st.steps = S) := hS
          rw [hK] at c2 h0 h1 hb hlo hhi
          rw [hS] at c4 hst
          clear hd hK hS
          go_enter Try.func55, Try.ntmps55
          go_wp2
          go_ret
          rw [HR.out]
          refine ⟨rfl, HD.out.wrote rfl ?_ (fun k hk => Below.heap_setCell _ _ _ _ hk), (Only.refl _ _).setCell HD.out.za _⟩
          rw [heap_setCell_same w a 4 _ _ _ HC.out]
          simp [rcells, HDN.out, HK.out, HS.out]
    · have HR : Hid (stepR st E id = (E, st)) := by show _ = _; simp [stepR, hd, hE]
      have hb : (E != 0) = true := by simpa using hE
      clear hd
      go_enter Try.func55, Try.ntmps55
      go_wp2
      go_ret
      rw [HR.out]
      exact ⟨rfl, HD.out, Only.refl _ _⟩

set_option maxHeartbeats 4000000 in
set_option maxRecDepth 100000 in
theorem rarm_any (w : World) (Z : Nat → Prop) (a : Nat) (st : St) (v : Value) (n : Int) (h : RefAt w Z a st v) :
    Calls Try.prog 39 #[.pointer (some ⟨a, 0, none⟩), .int .i64 n] w fun e w' => e = .returned (.int .i64 (armR st n).1) ∧ RefAt w' Z a (armR st n).2 v ∧ Only Z w w' := by
  obtain ⟨c0, c1, c2, c3, c4, cf⟩ := rcell5 h.cells
  have HD : Hid (RefAt w Z a st v) := h
  have HC : Hid (w.heap[a]? = some (.cells (rcells v st) 70 (0, 0))) := h.cells
  clear h
  by_cases h1 : n < -1
  · have HR : Hid (armR st n = (1, st)) := by show armR st n = (1, st); simp [armR, h1]
    go_enter Try.func39, Try.ntmps39
    go_wp2
    go_ret
    rw [HR.out]
    exact ⟨rfl, HD.out, Only.refl _ _⟩
  · cases hd : st.down with
    | true =>
      rw [hd] at c3
      have HR : Hid (armR st n = (3, st)) := by show armR st n = (3, st); simp [armR, h1, hd]
      go_enter Try.func39, Try.ntmps39
      go_wp2
      go_ret
      rw [HR.out]
      exact ⟨rfl, HD.out, Only.refl _ _⟩
    | false =>
      rw [hd] at c3
      have HR : Hid (armR st n = (0, { st with armed := n })) := by show armR st n = _; simp [armR, h1, hd]
      clear hd
      go_enter Try.func39, Try.ntmps39
      go_wp2
      go_ret
      rw [HR.out]
      refine ⟨rfl, HD.out.wrote rfl ?_ (fun k hk => Below.heap_setCell _ _ _ _ hk), (Only.refl _ _).setCell HD.out.za _⟩
      rw [heap_setCell_same w a 2 _ _ _ HC.out]
      rfl
end Go.Proofs.Ytejbelbfmchadaa
