/- The document's functions of layer 4, second part: where a name stands, without the program; there. -/
import Derived.Test.YtejbelbfmchadaaE1
namespace Go.Proofs.Ytejbelbfmchadaa
open Go.RowKit

theorem fc_set : ∀ (l : Fs) (k : Nat), k < l.length → ∀ p : Nm × Fl, (((fc l).set (k * 3) (.string ⟨p.1.toArray⟩)).set (k * 3 + 1) (.string ⟨p.2.1.toArray⟩)).set (k * 3 + 2) (.int .i64 (p.2.2 : Int)) = fc (l.set k p)
  | q :: r, 0, _, p => rfl
  | q :: r, k + 1, h, p => by
    have ih := fc_set r k (by simpa using h) p
    have e0 : (k + 1) * 3 = k * 3 + 1 + 1 + 1 := by omega
    have e1 : (k + 1) * 3 + 1 = (k * 3 + 1) + 1 + 1 + 1 := by omega
    have e2 : (k + 1) * 3 + 2 = (k * 3 + 2) + 1 + 1 + 1 := by omega
    rw [e1, e2, e0]
    simp only [fc, List.set_cons_succ, ih]

theorem place_tail {p : Nm × Fl} {r : Fs} {k : Nm} {j : Nat} (h : PlaceAt (p :: r) k (j + 1)) : PlaceAt r k j :=
  ⟨by have := h.le; simp at this; omega, fun i hi hj => by have := h.less (i + 1) (by simp; omega) (by omega); simpa using this, fun hj => by have := h.not (by simp; omega); simpa using this⟩
theorem place_get : ∀ {fs : Fs} {k : Nm} {j : Nat}, srt fs → PlaceAt fs k j → getL fs k = if h : j < fs.length then (if (fs[j]).1 = k then some (fs[j]).2 else none) else none
  | [], k, j, _, h => by simp [getL]
  | p :: r, k, 0, hs, h => by
    have hn := h.not (by simp)
    simp only [List.getElem_cons_zero] at hn
    simp only [List.length_cons, Nat.zero_lt_succ, dite_true, List.getElem_cons_zero]
    by_cases e : p.1 = k
    · rw [if_pos e]
      simp [getL, e]
    · rw [if_neg e]
      cases hg : getL (p :: r) k with
      | none => rfl
      | some y =>
        exfalso
        have hlt := bl_total _ _ hn e
        rcases List.mem_cons.1 (getL_mem hg) with g | g
        · exact e (by rw [← g])
        · have := bl_trans _ _ _ hlt ((List.pairwise_cons.1 hs).1 _ g)
          rw [bl_irrefl] at this
          cases this
  | p :: r, k, j + 1, hs, h => by
    have hl := h.less 0 (by simp) (by omega)
    simp only [List.getElem_cons_zero] at hl
    have hne : p.1 ≠ k := fun e => by rw [e, bl_irrefl] at hl; cases hl
    have ih := place_get (List.pairwise_cons.1 hs).2 (place_tail h)
    simp only [getL, if_neg hne, ih, List.length_cons, Nat.add_lt_add_iff_right, List.getElem_cons_succ]
theorem place_new : ∀ {fs : Fs} {k : Nm} {j : Nat} (x : Fl), srt fs → PlaceAt fs k j → getL fs k = none → putL fs k x = fs.take j ++ (k, x) :: fs.drop j
  | [], k, j, x, _, h, _ => by
    have : j = 0 := by have := h.le; simp at this; exact this
    subst this
    rfl
  | p :: r, k, 0, x, hs, h, hg => by
    have hn := h.not (by simp)
    simp only [List.getElem_cons_zero] at hn
    have hne : p.1 ≠ k := getL_none hg p (by simp)
    have hlt := bl_total _ _ hn hne
    show putL (p :: r) k x = (k, x) :: p :: r
    unfold putL
    rw [if_pos hlt]
  | p :: r, k, j + 1, x, hs, h, hg => by
    have hl := h.less 0 (by simp) (by omega)
    simp only [List.getElem_cons_zero] at hl
    have hne : p.1 ≠ k := getL_none hg p (by simp)
    have hg' : getL r k = none := by
      have := hg
      simp only [getL, if_neg hne] at this
      exact this
    have ih := place_new x (List.pairwise_cons.1 hs).2 (place_tail h) hg'
    unfold putL
    rw [if_neg (by rw [bl_asymm _ _ hl]; simp), if_neg hne, ih]
    rfl
/-- A list with one place more. -/
def shf (fs : Fs) (k : Nat) (X : Nm × Fl) : Fs := fs.take k ++ X :: fs.drop k
theorem shf_length (fs : Fs) (k : Nat) (X : Nm × Fl) (h : k ≤ fs.length) : (shf fs k X).length = fs.length + 1 := by
  simp [shf]
  omega
theorem shf_set {fs : Fs} {k : Nat} (h : k ≤ fs.length) (X Y : Nm × Fl) : (shf fs k X).set k Y = shf fs k Y := by
  have hl : (fs.take k).length = k := by rw [List.length_take]; omega
  unfold shf
  rw [List.set_append_right _ _ (by omega), hl, Nat.sub_self, List.set_cons_zero]
theorem shf_back {fs : Fs} {k : Nat} (h : k < fs.length) (X : Nm × Fl) : (shf fs (k + 1) X).set (k + 1) fs[k] = shf fs k fs[k] := by
  rw [shf_set (by omega)]
  unfold shf
  rw [List.take_succ_eq_append_getElem h, List.append_assoc, List.drop_eq_getElem_cons h]
  rfl
theorem shf_at {fs : Fs} {k : Nat} (h : k < fs.length) (X : Nm × Fl) (h' : k < (shf fs (k + 1) X).length) : (shf fs (k + 1) X)[k] = fs[k] := by
  have hl : k < (fs.take (k + 1)).length := by rw [List.length_take]; omega
  simp only [shf]
  rw [List.getElem_append_left hl, List.getElem_take]
theorem shf_end (fs : Fs) (X : Nm × Fl) : shf fs fs.length X = fs ++ [X] := by simp [shf]

set_option maxHeartbeats 4000000 in
set_option maxRecDepth 100000 in
theorem there_any (w : World) (Z : Nat → Prop) (a : Nat) (st : St) (v : Value) (s : ByteArray) (h : RefAt w Z a st v) : Calls Try.prog 54 #[.pointer (some ⟨a, 0, none⟩), .string s] w fun e w' => e = .returned (.bool (getL st.fs s.data.toList).isSome) ∧ w' = w := by
  obtain ⟨p, cap, rfl⟩ := own_form h.row
  obtain ⟨c0, c1, c2, c3, c4, cf⟩ := rcell5 h.cells
  have HD : Hid (RefAt w Z a st (.slice p st.fs.length cap)) := h
  have hfew := h.few
  clear h
  obtain ⟨fs, hfs⟩ : ∃ fs, st.fs = fs := ⟨_, rfl⟩
  have HFS : Hid (st.fs = fs) := hfs
  have HROW : Hid (w.ownsRow 0 27 3 (.slice p fs.length cap) fs.length (fc fs)) := by
    have := HD.out.row
    rw [hfs] at this
    exact this
  have HS : Hid (srt fs) := by rw [← hfs]; exact HD.out.sorted
  rw [hfs] at c1 hfew
  simp only [hfs]
  clear hfs
  go_enter Try.func54, Try.ntmps54
  go_wp2_with fail
  refine (place_any w Z a st _ s HD.out).mono ?_
  rintro e w1 ⟨j, rfl, hpl, rfl⟩
  rw [HFS.out] at hpl
  have hg := place_get HS.out hpl
  have hjl := hpl.le
  by_cases hlt : j < fs.length
  · have hlti : (j : Int) < (fs.length : Int) := by omega
    rw [dif_pos hlt] at hg
    obtain ⟨g, rfl, d0, d1, d2⟩ := row_at HROW.out hlt
    obtain ⟨nm, hnm⟩ : ∃ nm, (fs[j]).1 = nm := ⟨_, rfl⟩
    rw [hnm] at d0 hg
    have e2 : s.toList = s.data.toList := ByteArray.toList_eq _
    by_cases e : nm = s.data.toList
    · have HG : Hid ((getL fs s.data.toList).isSome = true) := by rw [Hid, hg, if_pos e]; rfl
      have hb : (nm == s.toList) = true := by rw [e2]; simpa using e
      clear hg hpl e2 e hnm
      go_wp2
      go_ret
      exact ⟨ret_bool HG.out.symm, rfl⟩
    · have HG : Hid ((getL fs s.data.toList).isSome = false) := by rw [Hid, hg, if_neg e]; rfl
      have hb : (nm == s.toList) = false := by rw [e2]; simpa using e
      clear hg hpl e2 e hnm
      go_wp2
      go_ret
      exact ⟨ret_bool HG.out.symm, rfl⟩
  · have hlti : ¬ (j : Int) < (fs.length : Int) := by omega
    rw [dif_neg hlt] at hg
    have HG : Hid ((getL fs s.data.toList).isSome = false) := by rw [Hid, hg]; rfl
    clear hg hpl
    go_wp2
    go_ret
    exact ⟨ret_bool HG.out.symm, rfl⟩
end Go.Proofs.Ytejbelbfmchadaa
