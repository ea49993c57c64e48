/- The document's functions of layer 4, third part: puts. -/
import Derived.Test.YtejbelbfmchadaaE2
namespace Go.Proofs.Ytejbelbfmchadaa
open Go.RowKit

theorem row_store {w : World} {B g n cap : Nat} {l : Fs} (h : w.ownsRow B 27 3 (.slice (some ⟨g, 0, none⟩) n cap) n (fc l)) {k : Nat} (hk : k < l.length) (p : Nm × Fl) :
    (((w.setCell ⟨g, k * 3, none⟩ (.string ⟨p.1.toArray⟩)).setCell ⟨g, k * 3 + 1, none⟩ (.string ⟨p.2.1.toArray⟩)).setCell ⟨g, k * 3 + 2, none⟩ (.int .i64 (p.2.2 : Int))).ownsRow B 27 3 (.slice (some ⟨g, 0, none⟩) n cap) n (fc (l.set k p)) := by
  have h1 := (h.stored (k * 3) (.string ⟨p.1.toArray⟩)).1
  have h2 := (h1.stored (k * 3 + 1) (.string ⟨p.2.1.toArray⟩)).1
  have h3 := (h2.stored (k * 3 + 2) (.int .i64 (p.2.2 : Int))).1
  rw [fc_set l k hk p] at h3
  exact h3
theorem row_some {w : World} {B : Nat} {p : Option Addr} {cap : Nat} {l : Fs} (h : w.ownsRow B 27 3 (.slice p l.length cap) l.length (fc l)) {i : Nat} (hi : i < l.length) :
    ∃ (g : Nat) (y : Nm × Fl), p = some ⟨g, 0, none⟩ ∧ w.cell? ⟨g, i * 3, none⟩ = some (.string ⟨y.1.toArray⟩) ∧ w.cell? ⟨g, i * 3 + 1, none⟩ = some (.string ⟨y.2.1.toArray⟩) ∧ w.cell? ⟨g, i * 3 + 2, none⟩ = some (.int .i64 (y.2.2 : Int)) := by
  obtain ⟨g, e, c0, c1, c2⟩ := row_at h hi
  exact ⟨g, l[i], e, c0, c1, c2⟩
theorem row_len {w : World} {B n : Nat} {v : Value} {l : Fs} (h : w.ownsRow B 27 3 v n (fc l)) : l.length = n := by
  have := h.1
  rw [fc_length] at this
  omega
theorem str_arr (s : ByteArray) : (⟨s.data.toList.toArray⟩ : ByteArray) = s := by simp

set_option maxHeartbeats 8000000 in
set_option maxRecDepth 100000 in
theorem puts_any (w : World) (Z : Nat → Prop) (a : Nat) (st : St) (v : Value) (s t : ByteArray) (n : Nat) (h : RefAt w Z a st v) (hZ : ∀ k, w.heap.size ≤ k → Z k) (hf : st.fs.length < 1000) :
    Calls Try.prog 32 #[.pointer (some ⟨a, 0, none⟩), .agg #[.string s, .string t, .int .i64 (n : Int)]] w fun e w' => e = .returned (.tuple #[]) ∧ (∃ v', RefAt w' Z a { st with fs := putL st.fs s.data.toList (t.data.toList, n) } v') ∧ Only Z w w' := by
  obtain ⟨i0, hi, hz0, hz1, hz2⟩ := info_parts Try.infoFile
  obtain ⟨p, cap, rfl⟩ := own_form h.row
  have hb0 : Below w.heap.size w (w.alloc (.cells #[.string s, .string t, .int .i64 (n : Int)] 27)) := (Below.refl _ _).alloc (Nat.le_refl _) _
  have HB0 : Hid (Below w.heap.size w (w.alloc (.cells #[.string s, .string t, .int .i64 (n : Int)] 27))) := hb0
  obtain ⟨c0, c1, c2, c3, c4, cf⟩ := rcell5 h.cells
  have HD : Hid (RefAt w Z a st (.slice p st.fs.length cap)) := h
  have HZ : Hid (∀ k, w.heap.size ≤ k → Z k) := hZ
  have la := h.lt
  clear h hZ hb0
  obtain ⟨fs, hfs⟩ : ∃ fs, st.fs = fs := ⟨_, rfl⟩
  have HFS : Hid (st.fs = fs) := hfs
  have HROW : Hid (w.ownsRow 0 27 3 (.slice p fs.length cap) fs.length (fc fs)) := by
    have := HD.out.row
    rw [hfs] at this
    exact this
  have HS : Hid (srt fs) := by rw [← hfs]; exact HD.out.sorted
  rw [hfs] at c1 hf
  simp only [hfs]
  clear hfs
  go_enter Try.func32, Try.ntmps32
  go_wp2_with fail
  refine (place_any _ Z a st _ s (HD.out.later HB0.out)).mono ?_
  rintro e w1 ⟨j, rfl, hpl, he1⟩
  subst he1
  rw [HFS.out] at hpl
  have HPL : Hid (PlaceAt fs s.data.toList j) := hpl
  have hg := place_get HS.out hpl
  have hjl := hpl.le
  clear hpl
  by_cases hin : ∃ h : j < fs.length, (fs[j]).1 = s.data.toList
  · obtain ⟨hlt, hnm⟩ := hin
    have hlti : (j : Int) < (fs.length : Int) := by omega
    have hjb : ((j : Int) == (fs.length : Int)) = false := by simp; omega
    have HPUT : Hid (putL fs s.data.toList (t.data.toList, n) = fs.set j (s.data.toList, (t.data.toList, n))) := by
      have := putL_at HS.out hlt (t.data.toList, n)
      rw [hnm] at this
      exact this
    obtain ⟨g, rfl, d0, d1, d2⟩ := row_at HROW.out hlt
    rw [hnm, str_arr] at d0
    have hgl : g < w.heap.size := World.block_lt_of_cell? _ _ d0
    have df : ∀ o, w.frozen? ⟨g, o, none⟩ = false := fun o => HROW.out.frozenAt o
    have hsb : (s.toList != s.toList) = false := by simp
    clear hg
    go_wp2
    go_quiet (fail)
    go_wp2
    go_region
    all_goals
      go_wp2
      go_end0
      have hrow := row_store (own_later HROW.out HB0.out) hlt (s.data.toList, (t.data.toList, n))
      simp only [str_arr] at hrow
      rw [← HPUT.out] at hrow
      have hne : g ≠ a := fun e => HD.out.ne (by rw [e]; rfl)
      have hlen : (putL fs s.data.toList (t.data.toList, n)).length = fs.length := by rw [HPUT.out, List.length_set]
      refine ⟨rfl, ⟨.slice (some ⟨g, 0, none⟩) fs.length cap, ?_, HD.out.za, ?_, HD.out.zone, srt_putL HS.out _ _, ?_⟩, ?_⟩
      · show ((((w.alloc _).setCell _ _).setCell _ _).setCell _ _).heap[a]? = _
        rw [Below.heap_setCell _ _ _ _ (Ne.symm hne), Below.heap_setCell _ _ _ _ (Ne.symm hne), Below.heap_setCell _ _ _ _ (Ne.symm hne), HB0.out.block a la]
        have := HD.out.cells
        rw [HFS.out] at this
        exact this
      · show World.ownsRow _ 0 27 3 _ (putL fs s.data.toList (t.data.toList, n)).length _
        rw [hlen]
        exact hrow
      · show (putL fs s.data.toList (t.data.toList, n)).length ≤ 1000
        rw [hlen]
        omega
      · have hzg : Z g := HD.out.zone g rfl
        exact (((Only.of (below_drewN HB0.out _)).setCell (p := ⟨g, j * 3, none⟩) hzg _).setCell (p := ⟨g, j * 3 + 1, none⟩) hzg _).setCell (p := ⟨g, j * 3 + 2, none⟩) hzg _
  · have hgn : getL fs s.data.toList = none := by
      rw [hg]
      by_cases hlt : j < fs.length
      · rw [dif_pos hlt, if_neg (fun e => hin ⟨hlt, e⟩)]
      · rw [dif_neg hlt]
    have HPUT : Hid (putL fs s.data.toList (t.data.toList, n) = shf fs j (s.data.toList, (t.data.toList, n))) := place_new _ HS.out HPL.out hgn
    clear hg hgn
    by_cases hlt : j < fs.length
    · have hlti : (j : Int) < (fs.length : Int) := by omega
      have hjb : ((j : Int) == (fs.length : Int)) = false := by simp; omega
      obtain ⟨g, rfl, d0, d1, d2⟩ := row_at HROW.out hlt
      obtain ⟨nm, hnm⟩ : ∃ nm, (fs[j]).1 = nm := ⟨_, rfl⟩
      have hne : nm ≠ s.data.toList := fun e => hin ⟨hlt, by rw [hnm]; exact e⟩
      rw [hnm] at d0
      have hgl : g < w.heap.size := World.block_lt_of_cell? _ _ d0
      have hsb : (nm != s.toList) = true := by rw [ByteArray.toList_eq]; simpa using hne
      have hsb2 : (nm == s.toList) = false := by rw [ByteArray.toList_eq]; simpa using hne
      have hsb3 : ¬ nm = s.toList := by rw [ByteArray.toList_eq]; exact hne
      clear hnm hne hin
      go_wp2
      go_quiet (fail)
      go_wp2_with (first | (at_builtin; refine wpList_append_lies _ rfl _ _ 22 rfl 0 27 i0 _ 3 40 Try.underlying22 hi hz0 hz1 hz2 rfl (by decide) _ _ _ rfl ((own_later HROW.out (below_drewN HB0.out nq)).alloc _) ⟨w.heap.size + 1, 0, none⟩ 1 1 (fc [([], ([], 0))]) rfl rfl ?c1 (fc_one _) (by decide) (by unfold maxLen; omega) (by omega) (Nat.zero_le _) (w.heap.size + 2) (by simp) ?_))
      case c1 =>
        have := cells_file ((w.alloc (.cells #[.string s, .string t, .int .i64 (n : Int)] 27)).drewN nq) ([], ([], 0)) 27
        simpa using this
      intro g1 cap1 w2 hown2 hgrow2 hat2 hlt2
      rw [← fc_append, ← shf_end] at hown2
      have hvl : ∀ gg, (Value.slice (some ⟨g, 0, none⟩) fs.length cap).ownBlock = some gg → gg < w.heap.size := fun gg e => (HROW.out.lt gg e).2
      have eK : ∀ b, b < w.heap.size → (Value.slice (some ⟨g, 0, none⟩) fs.length cap).ownBlock ≠ some b → w2.heap[b]? = w.heap[b]? := fun b hb hn => (hgrow2.block b (by simp; omega) (fun e => hn e.symm)).trans ((Below.heap_alloc _ _ _ (by simp; omega)).trans (HB0.out.block b hb))
      have eA : w2.heap[a]? = some (.cells (rcells (.slice (some ⟨g, 0, none⟩) fs.length cap) st) 70 (0, 0)) := by
        have := HD.out.cells
        rw [HFS.out] at this
        exact (eK a la (by have := HD.out.ne; rw [HFS.out] at this; exact this)).trans this
      have eB : w2.heap[w.heap.size]? = some (.cells #[.string s, .string t, .int .i64 (n : Int)] 27 (0, 0)) :=
        (hgrow2.block w.heap.size (by simp; omega) (fun e => by have := hvl _ e.symm; omega)).trans ((Below.heap_alloc _ _ _ (by simp)).trans (heap_alloc_new w _))
      obtain ⟨a0, a1, a2, a3, a4, af⟩ := rcell5 eA
      have HZG : Hid (Z g1) := by
        rcases hat2 with e | e
        · exact HD.out.zone g1 (by rw [HFS.out]; exact e)
        · exact HZ.out g1 (by omega)
      have HO2 : Hid (Only Z w w2) := ((Only.of (below_drewN HB0.out nq)).alloc _).grown hgrow2 (fun k e => HD.out.zone k (by rw [HFS.out]; exact e))
      have HROW2 : Hid (w2.ownsRow 0 27 3 (.slice (some ⟨g1, 0, none⟩) (fs.length + 1) cap1) (fs.length + 1) (fc (shf fs fs.length ([], ([], 0))))) := hown2
      have HA2 : Hid (w2.heap[a]? = some (.cells (rcells (.slice (some ⟨g, 0, none⟩) fs.length cap) st) 70 (0, 0))) := eA
      have HBX : Hid (w2.heap[w.heap.size]? = some (.cells #[.string s, .string t, .int .i64 (n : Int)] 27 (0, 0))) := eB
      have hg1a : g1 ≠ a := fun e => by
        obtain ⟨_, ⟨e1, _⟩ | ⟨g', cap', cur, e1, _, hg', _⟩⟩ := hown2
        · simp at e1
        · simp only [Value.slice.injEq, Option.some.injEq, Addr.mk.injEq] at e1
          rw [← e1.1.1, e, eA] at hg'
          simp only [Option.some.injEq, Obj.cells.injEq] at hg'
          exact absurd hg'.2.1 (by decide)
      have hg1b : g1 ≠ w.heap.size := fun e => by
        rcases hat2 with e' | e'
        · have := hvl _ e'
          omega
        · omega
      clear hown2 hgrow2 eA eB eK hvl hat2
      go_wp2
      go_loopw [5] (fun i wx => ∃ (k : Nat) (X : Nm × Fl), j ≤ k ∧ k ≤ fs.length ∧ i = .int .i64 (k : Int) ∧ wx.ownsRow 0 27 3 (.slice (some ⟨g1, 0, none⟩) (fs.length + 1) cap1) (fs.length + 1) (fc (shf fs k X)) ∧ wx.heap[a]? = some (.cells (rcells (.slice (some ⟨g1, 0, none⟩) (fs.length + 1) cap1) st) 70 (0, 0)) ∧ wx.heap[w.heap.size]? = some (.cells #[.string s, .string t, .int .i64 (n : Int)] 27 (0, 0)) ∧ Only Z w wx) (fun i _ => (intOf i).toNat)
      case atStart =>
        refine ⟨fs.length, ([], ([], 0)), hjl, Nat.le_refl _, by first | rfl | go_num, own_kept HROW2.out (fun gg e => ?_), ?_, ?_, HO2.out.setCell (p := ⟨a, 1, none⟩) HD.out.za _⟩
        · have e' : g1 = gg := by simpa [Value.ownBlock] using e
          exact Below.heap_setCell _ _ _ _ (by rw [← e']; exact hg1a)
        · rw [heap_setCell_same _ a 1 _ _ _ HA2.out]
          rfl
        · exact (Below.heap_setCell _ _ _ _ (by show w.heap.size ≠ a; omega)).trans HBX.out
      case round =>
        clear HROW2 HA2 HBX HO2 a0 a1 a2 a3 a4 af
        obtain ⟨k, X, hjk, hkl, rfl, hrow, hA, hB, hO⟩ := hrel
        obtain ⟨a0, a1, a2, a3, a4, af⟩ := rcell5 hA
        have HRX : Hid (wr.ownsRow 0 27 3 (.slice (some ⟨g1, 0, none⟩) (fs.length + 1) cap1) (fs.length + 1) (fc (shf fs k X))) := hrow
        have HAX : Hid (wr.heap[a]? = some (.cells (rcells (.slice (some ⟨g1, 0, none⟩) (fs.length + 1) cap1) st) 70 (0, 0))) := hA
        have HBX : Hid (wr.heap[w.heap.size]? = some (.cells #[.string s, .string t, .int .i64 (n : Int)] 27 (0, 0))) := hB
        have HOX : Hid (Only Z w wr) := hO
        have df : ∀ o, wr.frozen? ⟨g1, o, none⟩ = false := fun o => HRX.out.frozenAt o
        have hsl := shf_length fs k X hkl
        have HRL : Hid (wr.ownsRow 0 27 3 (.slice (some ⟨g1, 0, none⟩) (shf fs k X).length cap1) (shf fs k X).length (fc (shf fs k X))) := by rw [hsl]; exact HRX.out
        clear hrow hA hB hO
        by_cases hgt : j < k
        · have hgti : (j : Int) < (k : Int) := by omega
          obtain ⟨m, rfl⟩ : ∃ m, k = m + 1 := ⟨k - 1, by omega⟩
          have hml : m < fs.length := by omega
          obtain ⟨gx, egx, d0, d1, d2⟩ := row_at HRL.out (i := m) (by rw [hsl]; omega)
          obtain ⟨gy, y, egy, f0, f1, f2⟩ := row_some HRL.out (i := m + 1) (by rw [hsl]; omega)
          have ex : gx = g1 := by simpa using egx.symm
          have ey : gy = g1 := by simpa using egy.symm
          subst ex
          subst ey
          rw [shf_at hml X] at d0 d1 d2
          have HNEW : Hid ((shf fs (m + 1) X).set (m + 1) fs[m] = shf fs m fs[m]) := shf_back hml X
          obtain ⟨q, hq⟩ : ∃ q, fs[m] = q := ⟨_, rfl⟩
          rw [hq] at d0 d1 d2 HNEW
          obtain ⟨qn, qd, qs⟩ := q
          simp only at d0 d1 d2
          have hm1 : ((m + 1 : Nat) : Int) - 1 = (m : Int) := by omega
          have hmi : (m : Int) < ((fs.length + 1 : Nat) : Int) := by omega
          have hm2 : ((m + 1 : Nat) : Int) < ((fs.length + 1 : Nat) : Int) := by omega
          have hwm : IntKind.i64.wrap (m : Int) = (m : Int) := by rw [IntKind.wrap_i64]; omega
          have hmb : m + 1 ≤ 2000 := by omega
          clear hq egx egy hsl
          go_wp2
          go_region
          all_goals
            have hnew := row_store HRX.out (k := m + 1) (by rw [shf_length fs (m + 1) X (by omega)]; omega) (qn, (qd, qs))
            rw [HNEW.out] at hnew
            have HNW : Hid ((((wr.setCell ⟨gy, (m + 1) * 3, none⟩ (.string ⟨qn.toArray⟩)).setCell ⟨gy, (m + 1) * 3 + 1, none⟩ (.string ⟨qd.toArray⟩)).setCell ⟨gy, (m + 1) * 3 + 2, none⟩ (.int .i64 (qs : Int))).ownsRow 0 27 3 (.slice (some ⟨gy, 0, none⟩) (fs.length + 1) cap1) (fs.length + 1) (fc (shf fs m (qn, (qd, qs))))) := hnew
            clear hnew
            go_wp2
            go_roundw
            case rel =>
              refine ⟨m, (qn, (qd, qs)), by omega, by omega, by first | rfl | go_num, HNW.out, ?_, ?_, ((HOX.out.drew.setCell (p := ⟨gy, (m + 1) * 3, none⟩) HZG.out _).setCell (p := ⟨gy, (m + 1) * 3 + 1, none⟩) HZG.out _).setCell (p := ⟨gy, (m + 1) * 3 + 2, none⟩) HZG.out _⟩
              · show ((((wr.setCell _ _).setCell _ _).setCell _ _)).heap[a]? = _
                rw [Below.heap_setCell _ _ _ _ (Ne.symm hg1a), Below.heap_setCell _ _ _ _ (Ne.symm hg1a), Below.heap_setCell _ _ _ _ (Ne.symm hg1a)]
                exact HAX.out
              · show ((((wr.setCell _ _).setCell _ _).setCell _ _)).heap[w.heap.size]? = _
                rw [Below.heap_setCell _ _ _ _ (Ne.symm hg1b), Below.heap_setCell _ _ _ _ (Ne.symm hg1b), Below.heap_setCell _ _ _ _ (Ne.symm hg1b)]
                exact HBX.out
            case measure => simp [intOf]; try omega
        · have hjk' : k = j := by omega
          subst hjk'
          obtain ⟨gy, y, egy, f0, f1, f2⟩ := row_some HRL.out (i := k) (by rw [hsl]; omega)
          have ey : gy = g1 := by simpa using egy.symm
          subst ey
          have b0 : wr.cell? ⟨w.heap.size, 0, none⟩ = some (.string s) := by simp [World.cell?, HBX.out]
          have b1 : wr.cell? ⟨w.heap.size, 1, none⟩ = some (.string t) := by simp [World.cell?, HBX.out]
          have b2 : wr.cell? ⟨w.heap.size, 2, none⟩ = some (.int .i64 (n : Int)) := by simp [World.cell?, HBX.out]
          have hki : (k : Int) < ((fs.length + 1 : Nat) : Int) := by omega
          have HKL : Hid (k ≤ fs.length) := hkl
          clear egy hsl
          go_wp2
          go_region
          all_goals
            go_wp2
            go_end0
            have hnew := row_store HRX.out (k := k) (by rw [shf_length fs k X HKL.out]; have := HKL.out; omega) (s.data.toList, (t.data.toList, n))
            simp only [str_arr] at hnew
            rw [shf_set HKL.out, ← HPUT.out] at hnew
            have hlen : (putL fs s.data.toList (t.data.toList, n)).length = fs.length + 1 := by rw [HPUT.out, shf_length _ _ _ HKL.out]
            refine ⟨rfl, ⟨.slice (some ⟨gy, 0, none⟩) (fs.length + 1) cap1, ?_, HD.out.za, ?_, fun gg e => ?_, srt_putL HS.out _ _, ?_⟩, ?_⟩
            · show ((((wr.setCell _ _).setCell _ _).setCell _ _)).heap[a]? = _
              rw [Below.heap_setCell _ _ _ _ (Ne.symm hg1a), Below.heap_setCell _ _ _ _ (Ne.symm hg1a), Below.heap_setCell _ _ _ _ (Ne.symm hg1a)]
              exact HAX.out
            · show World.ownsRow _ 0 27 3 _ (putL fs s.data.toList (t.data.toList, n)).length _
              rw [hlen]
              exact hnew
            · have e' : gy = gg := by simpa [Value.ownBlock] using e
              rw [← e']
              exact HZG.out
            · show (putL fs s.data.toList (t.data.toList, n)).length ≤ 1000
              rw [hlen]
              omega
            · exact ((HOX.out.drew.setCell (p := ⟨gy, k * 3, none⟩) HZG.out _).setCell (p := ⟨gy, k * 3 + 1, none⟩) HZG.out _).setCell (p := ⟨gy, k * 3 + 2, none⟩) HZG.out _
    · have hje : j = fs.length := by omega
      have hjb : ((j : Int) == (fs.length : Int)) = true := by simp [hje]
      clear hin hje hlt
      go_wp2
      go_quiet (fail)
      go_wp2_with (first | (at_builtin; refine wpList_append_lies _ rfl _ _ 22 rfl 0 27 i0 _ 3 40 Try.underlying22 hi hz0 hz1 hz2 rfl (by decide) _ _ _ rfl ((own_later HROW.out (below_drewN HB0.out nq)).alloc _) ⟨w.heap.size + 1, 0, none⟩ 1 1 (fc [([], ([], 0))]) rfl rfl ?c1 (fc_one _) (by decide) (by unfold maxLen; omega) (by omega) (Nat.zero_le _) (w.heap.size + 2) (by simp) ?_))
      case c1 =>
        have := cells_file ((w.alloc (.cells #[.string s, .string t, .int .i64 (n : Int)] 27)).drewN nq) ([], ([], 0)) 27
        simpa using this
      intro g1 cap1 w2 hown2 hgrow2 hat2 hlt2
      rw [← fc_append, ← shf_end] at hown2
      have hvl : ∀ gg, (Value.slice p fs.length cap).ownBlock = some gg → gg < w.heap.size := fun gg e => (HROW.out.lt gg e).2
      have eK : ∀ b, b < w.heap.size → (Value.slice p fs.length cap).ownBlock ≠ some b → w2.heap[b]? = w.heap[b]? := fun b hb hn => (hgrow2.block b (by simp; omega) (fun e => hn e.symm)).trans ((Below.heap_alloc _ _ _ (by simp; omega)).trans (HB0.out.block b hb))
      have eA : w2.heap[a]? = some (.cells (rcells (.slice p fs.length cap) st) 70 (0, 0)) := by
        have := HD.out.cells
        rw [HFS.out] at this
        exact (eK a la (by have := HD.out.ne; rw [HFS.out] at this; exact this)).trans this
      have eB : w2.heap[w.heap.size]? = some (.cells #[.string s, .string t, .int .i64 (n : Int)] 27 (0, 0)) :=
        (hgrow2.block w.heap.size (by simp; omega) (fun e => by have := hvl _ e.symm; omega)).trans ((Below.heap_alloc _ _ _ (by simp)).trans (heap_alloc_new w _))
      obtain ⟨a0, a1, a2, a3, a4, af⟩ := rcell5 eA
      have HZG : Hid (Z g1) := by
        rcases hat2 with e | e
        · exact HD.out.zone g1 (by rw [HFS.out]; exact e)
        · exact HZ.out g1 (by omega)
      have HO2 : Hid (Only Z w w2) := ((Only.of (below_drewN HB0.out nq)).alloc _).grown hgrow2 (fun k e => HD.out.zone k (by rw [HFS.out]; exact e))
      have HROW2 : Hid (w2.ownsRow 0 27 3 (.slice (some ⟨g1, 0, none⟩) (fs.length + 1) cap1) (fs.length + 1) (fc (shf fs fs.length ([], ([], 0))))) := hown2
      have HA2 : Hid (w2.heap[a]? = some (.cells (rcells (.slice p fs.length cap) st) 70 (0, 0))) := eA
      have HBX : Hid (w2.heap[w.heap.size]? = some (.cells #[.string s, .string t, .int .i64 (n : Int)] 27 (0, 0))) := eB
      have hg1a : g1 ≠ a := fun e => by
        obtain ⟨_, ⟨e1, _⟩ | ⟨g', cap', cur, e1, _, hg', _⟩⟩ := hown2
        · simp at e1
        · simp only [Value.slice.injEq, Option.some.injEq, Addr.mk.injEq] at e1
          rw [← e1.1.1, e, eA] at hg'
          simp only [Option.some.injEq, Obj.cells.injEq] at hg'
          exact absurd hg'.2.1 (by decide)
      have hg1b : g1 ≠ w.heap.size := fun e => by
        rcases hat2 with e' | e'
        · have := hvl _ e'
          omega
        · omega
      clear hown2 hgrow2 eA eB eK hvl hat2
      go_wp2
      go_loopw [5] (fun i wx => ∃ (k : Nat) (X : Nm × Fl), j ≤ k ∧ k ≤ fs.length ∧ i = .int .i64 (k : Int) ∧ wx.ownsRow 0 27 3 (.slice (some ⟨g1, 0, none⟩) (fs.length + 1) cap1) (fs.length + 1) (fc (shf fs k X)) ∧ wx.heap[a]? = some (.cells (rcells (.slice (some ⟨g1, 0, none⟩) (fs.length + 1) cap1) st) 70 (0, 0)) ∧ wx.heap[w.heap.size]? = some (.cells #[.string s, .string t, .int .i64 (n : Int)] 27 (0, 0)) ∧ Only Z w wx) (fun i _ => (intOf i).toNat)
      case atStart =>
        refine ⟨fs.length, ([], ([], 0)), hjl, Nat.le_refl _, by first | rfl | go_num, own_kept HROW2.out (fun gg e => ?_), ?_, ?_, HO2.out.setCell (p := ⟨a, 1, none⟩) HD.out.za _⟩
        · have e' : g1 = gg := by simpa [Value.ownBlock] using e
          exact Below.heap_setCell _ _ _ _ (by rw [← e']; exact hg1a)
        · rw [heap_setCell_same _ a 1 _ _ _ HA2.out]
          rfl
        · exact (Below.heap_setCell _ _ _ _ (by show w.heap.size ≠ a; omega)).trans HBX.out
      case round =>
        clear HROW2 HA2 HBX HO2 a0 a1 a2 a3 a4 af
        obtain ⟨k, X, hjk, hkl, rfl, hrow, hA, hB, hO⟩ := hrel
        obtain ⟨a0, a1, a2, a3, a4, af⟩ := rcell5 hA
        have HRX : Hid (wr.ownsRow 0 27 3 (.slice (some ⟨g1, 0, none⟩) (fs.length + 1) cap1) (fs.length + 1) (fc (shf fs k X))) := hrow
        have HAX : Hid (wr.heap[a]? = some (.cells (rcells (.slice (some ⟨g1, 0, none⟩) (fs.length + 1) cap1) st) 70 (0, 0))) := hA
        have HBX : Hid (wr.heap[w.heap.size]? = some (.cells #[.string s, .string t, .int .i64 (n : Int)] 27 (0, 0))) := hB
        have HOX : Hid (Only Z w wr) := hO
        have df : ∀ o, wr.frozen? ⟨g1, o, none⟩ = false := fun o => HRX.out.frozenAt o
        have hsl := shf_length fs k X hkl
        have HRL : Hid (wr.ownsRow 0 27 3 (.slice (some ⟨g1, 0, none⟩) (shf fs k X).length cap1) (shf fs k X).length (fc (shf fs k X))) := by rw [hsl]; exact HRX.out
        clear hrow hA hB hO
        by_cases hgt : j < k
        · have hgti : (j : Int) < (k : Int) := by omega
          obtain ⟨m, rfl⟩ : ∃ m, k = m + 1 := ⟨k - 1, by omega⟩
          have hml : m < fs.length := by omega
          obtain ⟨gx, egx, d0, d1, d2⟩ := row_at HRL.out (i := m) (by rw [hsl]; omega)
          obtain ⟨gy, y, egy, f0, f1, f2⟩ := row_some HRL.out (i := m + 1) (by rw [hsl]; omega)
          have ex : gx = g1 := by simpa using egx.symm
          have ey : gy = g1 := by simpa using egy.symm
          subst ex
          subst ey
          rw [shf_at hml X] at d0 d1 d2
          have HNEW : Hid ((shf fs (m + 1) X).set (m + 1) fs[m] = shf fs m fs[m]) := shf_back hml X
          obtain ⟨q, hq⟩ : ∃ q, fs[m] = q := ⟨_, rfl⟩
          rw [hq] at d0 d1 d2 HNEW
          obtain ⟨qn, qd, qs⟩ := q
          simp only at d0 d1 d2
          have hm1 : ((m + 1 : Nat) : Int) - 1 = (m : Int) := by omega
          have hmi : (m : Int) < ((fs.length + 1 : Nat) : Int) := by omega
          have hm2 : ((m + 1 : Nat) : Int) < ((fs.length + 1 : Nat) : Int) := by omega
          have hwm : IntKind.i64.wrap (m : Int) = (m : Int) := by rw [IntKind.wrap_i64]; omega
          have hmb : m + 1 ≤ 2000 := by omega
          clear hq egx egy hsl
          go_wp2
          go_region
          all_goals
            have hnew := row_store HRX.out (k := m + 1) (by rw [shf_length fs (m + 1) X (by omega)]; omega) (qn, (qd, qs))
            rw [HNEW.out] at hnew
            have HNW : Hid ((((wr.setCell ⟨gy, (m + 1) * 3, none⟩ (.string ⟨qn.toArray⟩)).setCell ⟨gy, (m + 1) * 3 + 1, none⟩ (.string ⟨qd.toArray⟩)).setCell ⟨gy, (m + 1) * 3 + 2, none⟩ (.int .i64 (qs : Int))).ownsRow 0 27 3 (.slice (some ⟨gy, 0, none⟩) (fs.length + 1) cap1) (fs.length + 1) (fc (shf fs m (qn, (qd, qs))))) := hnew
            clear hnew
            go_wp2
            go_roundw
            case rel =>
              refine ⟨m, (qn, (qd, qs)), by omega, by omega, by first | rfl | go_num, HNW.out, ?_, ?_, ((HOX.out.drew.setCell (p := ⟨gy, (m + 1) * 3, none⟩) HZG.out _).setCell (p := ⟨gy, (m + 1) * 3 + 1, none⟩) HZG.out _).setCell (p := ⟨gy, (m + 1) * 3 + 2, none⟩) HZG.out _⟩
              · show ((((wr.setCell _ _).setCell _ _).setCell _ _)).heap[a]? = _
                rw [Below.heap_setCell _ _ _ _ (Ne.symm hg1a), Below.heap_setCell _ _ _ _ (Ne.symm hg1a), Below.heap_setCell _ _ _ _ (Ne.symm hg1a)]
                exact HAX.out
              · show ((((wr.setCell _ _).setCell _ _).setCell _ _)).heap[w.heap.size]? = _
                rw [Below.heap_setCell _ _ _ _ (Ne.symm hg1b), Below.heap_setCell _ _ _ _ (Ne.symm hg1b), Below.heap_setCell _ _ _ _ (Ne.symm hg1b)]
                exact HBX.out
            case measure => simp [intOf]; try omega
        · have hjk' : k = j := by omega
          subst hjk'
          obtain ⟨gy, y, egy, f0, f1, f2⟩ := row_some HRL.out (i := k) (by rw [hsl]; omega)
          have ey : gy = g1 := by simpa using egy.symm
          subst ey
          have b0 : wr.cell? ⟨w.heap.size, 0, none⟩ = some (.string s) := by simp [World.cell?, HBX.out]
          have b1 : wr.cell? ⟨w.heap.size, 1, none⟩ = some (.string t) := by simp [World.cell?, HBX.out]
          have b2 : wr.cell? ⟨w.heap.size, 2, none⟩ = some (.int .i64 (n : Int)) := by simp [World.cell?, HBX.out]
          have hki : (k : Int) < ((fs.length + 1 : Nat) : Int) := by omega
          have HKL : Hid (k ≤ fs.length) := hkl
          clear egy hsl
          go_wp2
          go_region
          all_goals
            go_wp2
            go_end0
            have hnew := row_store HRX.out (k := k) (by rw [shf_length fs k X HKL.out]; have := HKL.out; omega) (s.data.toList, (t.data.toList, n))
            simp only [str_arr] at hnew
            rw [shf_set HKL.out, ← HPUT.out] at hnew
            have hlen : (putL fs s.data.toList (t.data.toList, n)).length = fs.length + 1 := by rw [HPUT.out, shf_length _ _ _ HKL.out]
            refine ⟨rfl, ⟨.slice (some ⟨gy, 0, none⟩) (fs.length + 1) cap1, ?_, HD.out.za, ?_, fun gg e => ?_, srt_putL HS.out _ _, ?_⟩, ?_⟩
            · show ((((wr.setCell _ _).setCell _ _).setCell _ _)).heap[a]? = _
              rw [Below.heap_setCell _ _ _ _ (Ne.symm hg1a), Below.heap_setCell _ _ _ _ (Ne.symm hg1a), Below.heap_setCell _ _ _ _ (Ne.symm hg1a)]
              exact HAX.out
            · show World.ownsRow _ 0 27 3 _ (putL fs s.data.toList (t.data.toList, n)).length _
              rw [hlen]
              exact hnew
            · have e' : gy = gg := by simpa [Value.ownBlock] using e
              rw [← e']
              exact HZG.out
            · show (putL fs s.data.toList (t.data.toList, n)).length ≤ 1000
              rw [hlen]
              omega
            · exact ((HOX.out.drew.setCell (p := ⟨gy, k * 3, none⟩) HZG.out _).setCell (p := ⟨gy, k * 3 + 1, none⟩) HZG.out _).setCell (p := ⟨gy, k * 3 + 2, none⟩) HZG.out _
end Go.Proofs.Ytejbelbfmchadaa
