/- The document's functions of layer 4, sixth part: Free, takes. -/
import Derived.Test.YtejbelbfmchadaaE7
namespace Go.Proofs.Ytejbelbfmchadaa
open Go.RowKit

theorem tot_two (a b : Fs) : tot szF (a ++ b) = tot szF a + tot szF b := by simp [tot]
theorem tot_succ {fs : Fs} {k : Nat} (h : k < fs.length) : tot szF (fs.take (k + 1)) = tot szF (fs.take k) + (fs[k]).2.1.length := by
  rw [List.take_succ_eq_append_getElem h, tot_two]
  congr 1
theorem tot_take_le (fs : Fs) (k : Nat) : tot szF (fs.take k) ≤ tot szF fs := by
  have h := tot_two (fs.take k) (fs.drop k)
  rw [List.take_append_drop] at h
  omega

set_option maxHeartbeats 4000000 in
set_option maxRecDepth 100000 in
theorem rfree_any (w : World) (Z : Nat → Prop) (a : Nat) (st : St) (v : Value) (h : RefAt w Z a st v) (hok : OKf st.size st.fs) :
    Calls Try.prog 42 #[.pointer (some ⟨a, 0, none⟩)] w fun e w' => e = .returned (.int .i64 (freeR st)) ∧ w' = w := by
  obtain ⟨p, cap, rfl⟩ := own_form h.row
  obtain ⟨c0, c1, c2, c3, c4, cf⟩ := rcell5 h.cells
  have hroom := hok.room
  have hsmall := hok.small
  have hfew := hok.few
  obtain ⟨fs, hfs⟩ : ∃ fs, st.fs = fs := ⟨_, rfl⟩
  have HROW : Hid (w.ownsRow 0 27 3 (.slice p fs.length cap) fs.length (fc fs)) := by
    have := h.row
    rw [hfs] at this
    exact this
  have HF : Hid (freeR st = (st.size : Int) - (tot szF fs : Int)) := by show _ = _; rw [← hfs]; rfl
  rw [hfs] at c1 hroom hfew
  obtain ⟨N, hN⟩ : ∃ N, st.size = N := ⟨_, rfl⟩
  rw [hN] at c0 hroom hsmall HF
  clear h hok hfs hN
  go_enter Try.func42, Try.ntmps42
  go_wp2
  go_loopw [3, 4] (fun z i wr => ∃ k : Nat, k ≤ fs.length ∧ i = .int .i64 k ∧ z = .int .i64 ((N : Int) - (tot szF (fs.take k) : Int)) ∧ wr = w) (fun _ i _ => fs.length - (intOf i).toNat)
  case atStart => exact ⟨0, Nat.zero_le _, rfl, by simp [tot], rfl⟩
  case round =>
    obtain ⟨k, hk, rfl, rfl, rfl⟩ := hrel
    have hle := tot_take_le fs k
    obtain ⟨F, hF⟩ : ∃ F : Int, (N : Int) - (tot szF (fs.take k) : Int) = F := ⟨_, rfl⟩
    have HFF : Hid ((N : Int) - (tot szF (fs.take k) : Int) = F) := hF
    have hF1 : 0 ≤ F := by omega
    have hF2 : F ≤ 1048576 := by omega
    rw [hF]
    clear hF
    by_cases hlt : k < fs.length
    · have hlti : (k : Int) < (fs.length : Int) := by omega
      obtain ⟨g, rfl, d0, d1, d2⟩ := row_at HROW.out hlt
      obtain ⟨y, hy⟩ : ∃ y : ByteArray, (⟨(fs[k]).2.1.toArray⟩ : ByteArray) = y := ⟨_, rfl⟩
      have hys : y.size = (fs[k]).2.1.length := by rw [← hy]; simp [ByteArray.size]
      rw [hy] at d1
      have hsu := tot_succ hlt
      have hl2 := tot_take_le fs (k + 1)
      have HX : Hid ((N : Int) - (tot szF (fs.take (k + 1)) : Int) = F - (y.size : Int)) := by have := HFF.out; show _ = _; omega
      have hyl : y.size ≤ 1048576 := by omega
      clear hy hys hsu hl2 hle d0 d2
      go_wp2
      go_roundw
      case rel => exact ⟨k + 1, by omega, by go_num, by rw [HX.out], trivial⟩
      case measure => simp [intOf]; omega
    · have hk' : k = fs.length := by omega
      subst hk'
      have HX : Hid (freeR st = F) := by have := HFF.out; rw [List.take_length] at this; show _ = _; rw [HF.out, this]
      go_wp2
      go_ret
      exact ⟨ret_int4 HX.out.symm, rfl⟩

theorem own_zero {w : World} {B n : Nat} {e : TypeId} {size : Nat} {v : Value} {xs : List Value} (h : w.ownsRow B e size v n xs) : w.ownsRow 0 e size v n xs := by
  obtain ⟨h1, h | ⟨g, cap, cur, e1, _, r⟩⟩ := h
  · exact ⟨h1, Or.inl h⟩
  · exact ⟨h1, Or.inr ⟨g, cap, cur, e1, Nat.zero_le _, r⟩⟩
theorem del_succ {fs : Fs} {k : Nat} (h : k < fs.length) (s : Nm) : delL (fs.take (k + 1)) s = delL (fs.take k) s ++ (if (fs[k]).1 = s then [] else [fs[k]]) := by
  rw [List.take_succ_eq_append_getElem h]
  unfold delL
  rw [List.filter_append]
  by_cases e : (fs[k]).1 = s <;> simp [e]

set_option maxHeartbeats 8000000 in
set_option maxRecDepth 100000 in
theorem takes_any (w : World) (Z : Nat → Prop) (a : Nat) (st : St) (v : Value) (s : ByteArray) (h : RefAt w Z a st v) (hZ : ∀ k, w.heap.size ≤ k → Z k) :
    Calls Try.prog 57 #[.pointer (some ⟨a, 0, none⟩), .string s] w fun e w' => e = .returned (.tuple #[]) ∧ (∃ v', RefAt w' Z a { st with fs := delL st.fs s.data.toList } v') ∧ Only Z w w' := by
  obtain ⟨i0, hi, hz0, hz1, hz2⟩ := info_parts Try.infoFile
  obtain ⟨p, cap, rfl⟩ := own_form h.row
  obtain ⟨c0, c1, c2, c3, c4, cf⟩ := rcell5 h.cells
  have HD : Hid (RefAt w Z a st (.slice p st.fs.length cap)) := h
  have HZ : Hid (∀ k, w.heap.size ≤ k → Z k) := hZ
  have la := h.lt
  have hfew := h.few
  clear h hZ
  obtain ⟨fs, hfs⟩ : ∃ fs, st.fs = fs := ⟨_, rfl⟩
  have HFS : Hid (st.fs = fs) := hfs
  have HROW : Hid (w.ownsRow 0 27 3 (.slice p fs.length cap) fs.length (fc fs)) := by
    have := HD.out.row
    rw [hfs] at this
    exact this
  have HS : Hid (srt fs) := by rw [← hfs]; exact HD.out.sorted
  rw [hfs] at c1 hfew
  simp only [hfs]
  clear hfs c0 c2 c3 c4
  go_enter Try.func57, Try.ntmps57
  go_wp2
  go_loopw [4, 5] (fun u i wr => ∃ k n : Nat, k ≤ fs.length ∧ n ≤ k ∧ i = .int .i64 k ∧ (delL (fs.take k) s.data.toList).length = n ∧ wr.ownsRow w.heap.size 27 3 u n (fc (delL (fs.take k) s.data.toList)) ∧ Below w.heap.size w wr) (fun _ i _ => fs.length - (intOf i).toNat)
  case atStart => exact ⟨0, 0, Nat.zero_le _, Nat.le_refl _, rfl, rfl, World.ownsRow_nil _ _ _ _, Below.refl _ _⟩
  case round =>
    obtain ⟨k, n, hk, hnk, rfl, hdl, hown, hb⟩ := hrel
    have HDL : Hid ((delL (fs.take k) s.data.toList).length = n) := hdl
    have HB : Hid (Below w.heap.size w wr) := hb
    have hsz := hb.size
    obtain ⟨u, hu⟩ : ∃ u, u4 = u := ⟨_, rfl⟩
    rw [hu] at hown ⊢
    have HOW : Hid (wr.ownsRow w.heap.size 27 3 u n (fc (delL (fs.take k) s.data.toList))) := hown
    have e1 := cell_later hb c1
    clear hu hown hdl
    by_cases hlt : k < fs.length
    · have hlti : (k : Int) < (fs.length : Int) := by omega
      obtain ⟨g, rfl, d0, d1, d2⟩ := row_at (own_later HROW.out hb) hlt
      have HDEL := del_succ hlt s.data.toList
      obtain ⟨nm, dt, sf, hf⟩ : ∃ nm dt sf, fs[k] = (nm, (dt, sf)) := ⟨_, _, _, rfl⟩
      rw [hf] at d0 d1 d2 HDEL
      simp only at d0 d1 d2
      have HLT : Hid (k < fs.length) := hlt
      by_cases heq : nm = s.data.toList
      · have HX : Hid (delL (fs.take (k + 1)) s.data.toList = delL (fs.take k) s.data.toList) := by show _ = _; rw [HDEL, if_pos heq, List.append_nil]
        have hsb : (s.toList != s.toList) = false := by simp
        rw [heq, str_arr] at d0
        clear HDEL hf hb heq
        go_wp2
        go_roundw
        case rel => exact ⟨k + 1, n, by omega, by omega, by go_num, by rw [HX.out]; exact HDL.out, by rw [HX.out]; exact HOW.out, HB.out⟩
        case measure => simp [intOf]; omega
      · have HX : Hid (delL (fs.take (k + 1)) s.data.toList = delL (fs.take k) s.data.toList ++ [(nm, (dt, sf))]) := by show _ = _; rw [HDEL, if_neg heq]
        have hsb : (nm != s.toList) = true := by rw [ByteArray.toList_eq]; simpa using heq
        have hsb2 : (nm == s.toList) = false := by rw [ByteArray.toList_eq]; simpa using heq
        have hsb3 : ¬ nm = s.toList := by rw [ByteArray.toList_eq]; exact heq
        clear HDEL hf hb heq
        go_wp2_with (first | (at_builtin; refine wpList_append_lies _ rfl _ _ 22 rfl w.heap.size 27 i0 _ 3 40 Try.underlying22 hi hz0 hz1 hz2 rfl (by decide) _ _ _ rfl (HOW.out.alloc _) ⟨wr.heap.size, 0, none⟩ 1 1 (fc [(nm, (dt, sf))]) rfl rfl (cells_file _ (nm, (dt, sf)) _) (fc_one _) (by decide) (by unfold maxLen; omega) (by omega) (by simp; omega) _ rfl ?_; intro g1 cap1 w2 hown2 hgrow2 _ _))
        rw [← fc_append, ← HX.out] at hown2
        have HO2 : Hid (w2.ownsRow w.heap.size 27 3 _ (n + 1) (fc (delL (fs.take (k + 1)) s.data.toList))) := hown2
        have HB2 : Hid (Below w.heap.size w w2) := (HB.out.alloc hsz _).grown hgrow2 (by simp; omega) (fun j hj => (HOW.out.lt j hj).1)
        clear hown2 hgrow2
        go_wp2
        go_roundw
        case rel => exact ⟨k + 1, n + 1, by omega, by omega, by go_num, by rw [HX.out, List.length_append, HDL.out]; rfl, HO2.out, HB2.out⟩
        case measure => simp [intOf]; omega
    · have hk' : k = fs.length := by omega
      subst hk'
      have hdl := HDL.out
      have how := HOW.out
      rw [List.take_length] at hdl how
      obtain ⟨pu, cu, rfl⟩ := own_form how
      have HDL2 : Hid ((delL fs s.data.toList).length = n) := hdl
      have HOW2 : Hid (wr.ownsRow w.heap.size 27 3 (.slice pu n cu) n (fc (delL fs s.data.toList))) := how
      have e0 : ∀ o, wr.frozen? ⟨a, o, none⟩ = false := fun o => (rcell5 (HD.out.later HB.out).cells).2.2.2.2.2 o
      clear hdl how hb HDL HOW
      go_wp2
      go_end0
      have hne : ∀ g, (Value.slice pu n cu).ownBlock = some g → g ≠ a := fun g e => by have := (HOW2.out.lt g e).1; omega
      refine ⟨rfl, ⟨.slice pu n cu, ?_, HD.out.za, ?_, fun g e => HZ.out g (HOW2.out.lt g e).1, srt_delL HS.out _, ?_⟩, (Only.of HB.out).setCell HD.out.za _⟩
      · have hc := (HD.out.later HB.out).cells
        rw [HFS.out] at hc
        rw [heap_setCell_same wr a 1 _ _ _ hc]
        rfl
      · show World.ownsRow _ 0 27 3 _ (delL fs s.data.toList).length _
        rw [HDL2.out]
        exact own_kept (own_zero HOW2.out) (fun g e => Below.heap_setCell _ _ _ _ (hne g e))
      · show (delL fs s.data.toList).length ≤ 1000
        rw [HDL2.out]
        omega
end Go.Proofs.Ytejbelbfmchadaa
