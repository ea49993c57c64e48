/- The document's functions of layer 4, seventh part: Remove, Sync, Read. -/
import Derived.Test.YtejbelbfmchadaaE8
namespace Go.Proofs.Ytejbelbfmchadaa
open Go.RowKit

theorem step_not {st : St} {E : Int} {f : Fs → Fs} (h : (stepR st E id).1 ≠ 0) : stepR st E f = stepR st E id := by
  unfold stepR at h ⊢
  split
  · rfl
  · split
    · rfl
    · split
      · rfl
      · rename_i h1 h2 h3
        simp [h1, h2, h3] at h
theorem step_done {st : St} {E : Int} {f : Fs → Fs} (h : (stepR st E id).1 = 0) : E = 0 ∧ (stepR st E id).2.fs = st.fs ∧ stepR st E f = (0, { (stepR st E id).2 with fs := f st.fs }) := by
  unfold stepR at h ⊢
  split
  · rename_i h1
    simp [h1] at h
  · split
    · rename_i h1 h2
      simp [h1, h2] at h
    · split
      · rename_i h1 h2 h3
        simp [h1, h3] at h
        simp at h2
        simp [h2] at h
      · rename_i h1 h2 h3
        refine ⟨by simpa using h2, rfl, rfl⟩
theorem place_one {fs : Fs} {k : Nm} {i j : Nat} (hs : srt fs) (h : PlaceAt fs k i) (hj : j < fs.length) (e : (fs[j]).1 = k) : i = j := by
  rcases Nat.lt_trichotomy i j with g | g | g
  · exfalso
    have h1 := h.not (by omega)
    have h2 := (List.pairwise_iff_getElem.1 hs) i j (by omega) hj g
    rw [e, h1] at h2
    cases h2
  · exact g
  · exfalso
    have h1 := h.less j hj g
    rw [e, bl_irrefl] at h1
    cases h1
theorem place_known (w : World) (Z : Nat → Prop) (a : Nat) (st : St) (v : Value) (s : ByteArray) (h : RefAt w Z a st v) {j : Nat} (hj : j < st.fs.length) (e : (st.fs[j]).1 = s.data.toList) : Calls Try.prog 53 #[.pointer (some ⟨a, 0, none⟩), .string s] w fun e w' => e = .returned (.int .i64 (j : Int)) ∧ w' = w := by
  refine (place_any w Z a st v s h).mono ?_
  rintro x w' ⟨i, rfl, hp, hw⟩
  rw [place_one h.sorted hp hj e]
  exact ⟨rfl, hw⟩
/-- A file that is there stands somewhere. -/
theorem found {fs : Fs} {s : Nm} (h : findE fs s = 0) : ∃ j, ∃ hj : j < fs.length, (fs[j]).1 = s ∧ fileOf fs s = (fs[j]).2 := by
  unfold findE at h
  split at h
  · split at h
    · rename_i hg
      cases e : getL fs s with
      | none => rw [e] at hg; cases hg
      | some y =>
        obtain ⟨j, hj, ej⟩ := List.getElem_of_mem (getL_mem e)
        refine ⟨j, hj, by rw [ej], ?_⟩
        rw [ej]
        simp [fileOf, e]
    · simp at h
  · simp at h

set_option maxHeartbeats 4000000 in
set_option maxRecDepth 100000 in
theorem rremove_any (w : World) (Z : Nat → Prop) (a : Nat) (st : St) (v : Value) (s : ByteArray) (hs : s.size ≤ 9223372036854775807) (hst : st.steps < 4611686018427387904) (hlo : -1 ≤ st.armed) (hhi : st.armed ≤ 9223372036854775807) (h : RefAt w Z a st v) (hZ : ∀ k, w.heap.size ≤ k → Z k) :
    Calls Try.prog 37 #[.pointer (some ⟨a, 0, none⟩), .string s] w fun e w' => e = .returned (.int .i64 (remR st s.data.toList).1) ∧ (∃ v', RefAt w' Z a (remR st s.data.toList).2 v') ∧ Only Z w w' := by
  have HD : Hid (RefAt w Z a st v) := h
  have HZ : Hid (∀ k, w.heap.size ≤ k → Z k) := hZ
  clear h hZ
  go_enter Try.func37, Try.ntmps37
  go_wp2_with fail
  refine (known_any w Z a st v s hs HD.out).mono ?_
  rintro e w1 ⟨rfl, he⟩
  have he' := he.symm
  subst he'
  obtain ⟨E, hE⟩ : ∃ E, findE st.fs s.data.toList = E := ⟨_, rfl⟩
  have HR : Hid (remR st s.data.toList = stepR st E (remF s.data.toList)) := by show _ = _; rw [← hE]; rfl
  rw [hE]
  clear hE he
  go_wp2_with fail
  refine (rstep_any w Z a st v E hst hlo hhi HD.out).mono ?_
  rintro e w2 ⟨rfl, hr2, ho2⟩
  have HS0 : Hid ((stepR st E id).1 = 0 → (stepR st E id).2.fs = st.fs ∧ stepR st E (remF s.data.toList) = (0, { (stepR st E id).2 with fs := remF s.data.toList st.fs })) := fun h => (step_done h).2
  have HS1 : Hid ((stepR st E id).1 ≠ 0 → stepR st E (remF s.data.toList) = stepR st E id) := fun h => step_not h
  obtain ⟨r, hr⟩ : ∃ r, stepR st E id = r := ⟨_, rfl⟩
  rw [hr] at hr2 HS0 HS1 ⊢
  obtain ⟨G, st2⟩ := r
  have HR2 : Hid (RefAt w2 Z a st2 v) := hr2
  have HO2 : Hid (Only Z w w2) := ho2
  clear hr hr2 ho2
  by_cases hG : G = 0
  · obtain ⟨hf2, hs2⟩ := HS0.out hG
    have hb : (G != 0) = false := by simp [hG]
    have HF2 : Hid (st2.fs = st.fs) := hf2
    have HX : Hid (remR st s.data.toList = (0, { st2 with fs := delL st2.fs s.data.toList })) := by
      show _ = _
      rw [HR.out, hs2, HF2.out]
      rfl
    clear hf2 hs2
    go_wp2_with (first | (go_at_call 57; refine (takes_any w2 Z a st2 v s HR2.out (fun k hk => HZ.out k (Nat.le_trans HO2.out.size hk))).mono ?_; rintro e w3 ⟨rfl, hv3, ho3⟩; (have HV3 : Hid (∃ v', RefAt w3 Z a { st2 with fs := delL st2.fs s.data.toList } v') := hv3); (have HO3 : Hid (Only Z w w3) := HO2.out.trans ho3); clear hv3 ho3))
    go_ret
    rw [HX.out]
    exact ⟨rfl, HV3.out, HO3.out⟩
  · have hb : (G != 0) = true := by simpa using hG
    have HX : Hid (remR st s.data.toList = (G, st2)) := by
      show _ = _
      rw [HR.out, HS1.out hG]
    go_wp2
    go_ret
    rw [HX.out]
    exact ⟨rfl, ⟨v, HR2.out⟩, HO2.out⟩

theorem fc_set2 : ∀ (l : Fs) (k : Nat) (h : k < l.length) (n : Nat), (fc l).set (k * 3 + 2) (.int .i64 (n : Int)) = fc (l.set k ((l[k]).1, ((l[k]).2.1, n)))
  | q :: r, 0, _, n => rfl
  | q :: r, k + 1, h, n => by
    have ih := fc_set2 r k (by simpa using h) n
    have e2 : (k + 1) * 3 + 2 = (k * 3 + 2) + 1 + 1 + 1 := by omega
    rw [e2]
    simp only [fc, List.set_cons_succ, List.getElem_cons_succ, ih]

set_option maxHeartbeats 8000000 in
set_option maxRecDepth 100000 in
theorem rsync_any (w : World) (Z : Nat → Prop) (a : Nat) (st : St) (v : Value) (s : ByteArray) (hs : s.size ≤ 9223372036854775807) (hst : st.steps < 4611686018427387904) (hlo : -1 ≤ st.armed) (hhi : st.armed ≤ 9223372036854775807) (h : RefAt w Z a st v) :
    Calls Try.prog 34 #[.pointer (some ⟨a, 0, none⟩), .string s] w fun e w' => e = .returned (.int .i64 (synR st s.data.toList).1) ∧ (∃ v', RefAt w' Z a (synR st s.data.toList).2 v') ∧ Only Z w w' := by
  have HD : Hid (RefAt w Z a st v) := h
  clear h
  go_enter Try.func34, Try.ntmps34
  go_wp2_with fail
  refine (known_any w Z a st v s hs HD.out).mono ?_
  rintro e w1 ⟨rfl, he⟩
  have he' := he.symm
  subst he'
  obtain ⟨E, hE⟩ : ∃ E, findE st.fs s.data.toList = E := ⟨_, rfl⟩
  have HE : Hid (findE st.fs s.data.toList = E) := hE
  have HR : Hid (synR st s.data.toList = stepR st E (synF s.data.toList)) := by show _ = _; rw [← hE]; rfl
  rw [hE]
  clear hE he
  go_wp2_with fail
  refine (rstep_any w Z a st v E hst hlo hhi HD.out).mono ?_
  rintro e w2 ⟨rfl, hr2, ho2⟩
  have HS0 : Hid ((stepR st E id).1 = 0 → E = 0 ∧ (stepR st E id).2.fs = st.fs ∧ stepR st E (synF s.data.toList) = (0, { (stepR st E id).2 with fs := synF s.data.toList st.fs })) := fun h => step_done h
  have HS1 : Hid ((stepR st E id).1 ≠ 0 → stepR st E (synF s.data.toList) = stepR st E id) := fun h => step_not h
  obtain ⟨r, hr⟩ : ∃ r, stepR st E id = r := ⟨_, rfl⟩
  rw [hr] at hr2 HS0 HS1 ⊢
  obtain ⟨G, st2⟩ := r
  have HR2 : Hid (RefAt w2 Z a st2 v) := hr2
  have HO2 : Hid (Only Z w w2) := ho2
  clear hr hr2 ho2
  by_cases hG : G = 0
  · obtain ⟨hE0, hf2', hs2⟩ := HS0.out hG
    have hf2 : st2.fs = st.fs := hf2'
    have hb : (G != 0) = false := by simp [hG]
    obtain ⟨j, hj, hjn, hjf⟩ := found (by rw [HE.out, hE0] : findE st.fs s.data.toList = 0)
    rw [← hf2] at hs2
    simp only [← hf2] at hj hjn hjf
    obtain ⟨nm, dt, sf, hx⟩ : ∃ nm dt sf, st2.fs[j] = (nm, (dt, sf)) := ⟨_, _, _, rfl⟩
    have hp := putL_at HR2.out.sorted hj (dt, dt.length)
    rw [hx] at hp hjn hjf
    simp only at hp hjn
    have HX : Hid (synR st s.data.toList = (0, { st2 with fs := st2.fs.set j (nm, (dt, dt.length)) })) := by
      show _ = _
      rw [HR.out, hs2, ← hp]
      simp only [synF, hjf, hjn]
    have hst2 : srt (st2.fs.set j (nm, (dt, dt.length))) := by rw [← hp]; exact srt_putL HR2.out.sorted _ _
    have HSRT : Hid (srt (st2.fs.set j (nm, (dt, dt.length)))) := hst2
    have HPK : Hid (Calls Try.prog 53 #[.pointer (some ⟨a, 0, none⟩), .string s] w2 fun e w' => e = .returned (.int .i64 (j : Int)) ∧ w' = w2) := place_known w2 Z a st2 v s HR2.out hj (by rw [hx]; exact hjn)
    have hr2 := HR2.out
    have hrow := hr2.row
    have hfew := hr2.few
    obtain ⟨p, cap, rfl⟩ := own_form hrow
    obtain ⟨c0, c1, c2, c3, c4, cf⟩ := rcell5 hr2.cells
    obtain ⟨g, rfl, d0, d1, d2⟩ := row_at hrow hj
    rw [hx] at d1
    simp only at d1
    have HROW : Hid (w2.ownsRow 0 27 3 (.slice (some ⟨g, 0, none⟩) st2.fs.length cap) st2.fs.length (fc st2.fs)) := hrow
    have HNEW : Hid ((w2.setCell ⟨g, j * 3 + 2, none⟩ (.int .i64 (dt.length : Int))).ownsRow 0 27 3 (.slice (some ⟨g, 0, none⟩) st2.fs.length cap) st2.fs.length (fc (st2.fs.set j (nm, (dt, dt.length))))) := by
      have h1 := (hrow.stored (j * 3 + 2) (.int .i64 (dt.length : Int))).1
      rw [fc_set2 _ _ hj, hx] at h1
      exact h1
    have df : ∀ o, w2.frozen? ⟨g, o, none⟩ = false := fun o => HROW.out.frozenAt o
    have hga : g ≠ a := fun e => hr2.ne (by rw [e]; rfl)
    have HZG : Hid (Z g) := hr2.zone g rfl
    obtain ⟨y, hy⟩ : ∃ y : ByteArray, (⟨dt.toArray⟩ : ByteArray) = y := ⟨_, rfl⟩
    have hys : y.size = dt.length := by rw [← hy]; simp [ByteArray.size]
    rw [hy] at d1
    rw [← hys] at HNEW HX HSRT
    obtain ⟨L, hL⟩ : ∃ L, st2.fs.length = L := ⟨_, rfl⟩
    have HL : Hid (st2.fs.length = L) := hL
    rw [hL] at c1 hj hfew
    have hji : (j : Int) < (L : Int) := by omega
    clear hys hy hr2 hrow hL hx hp hjn hjf hst2 hf2 hf2' hs2 d0 c0 c2 c3 c4 hE0
    go_wp2_with fail
    refine HPK.out.mono ?_
    rintro e w3 ⟨rfl, he⟩
    have he' := he.symm
    subst he'
    go_wp2
    go_region
    all_goals
      go_wp2
      go_ret
      rw [HX.out]
      refine ⟨rfl, ⟨.slice (some ⟨g, 0, none⟩) st2.fs.length cap, ?_, HR2.out.za, ?_, HR2.out.zone, HSRT.out, ?_⟩, ?_⟩
      · refine (Below.heap_setCell _ _ _ _ (Ne.symm hga)).trans ?_
        exact HR2.out.cells
      · show World.ownsRow _ 0 27 3 _ (st2.fs.set _ _).length _
        rw [List.length_set]
        exact HNEW.out
      · show (st2.fs.set _ _).length ≤ 1000
        rw [List.length_set]
        exact HR2.out.few
      · exact (HO2.out.later (below_drewN (Below.refl _ _) _)).setCell (p := ⟨g, j * 3 + 2, none⟩) HZG.out _
  · have hb : (G != 0) = true := by simpa using hG
    have HX : Hid (synR st s.data.toList = (G, st2)) := by
      show _ = _
      rw [HR.out, HS1.out hG]
    go_wp2
    go_ret
    rw [HX.out]
    exact ⟨rfl, ⟨v, HR2.out⟩, HO2.out⟩
end Go.Proofs.Ytejbelbfmchadaa
