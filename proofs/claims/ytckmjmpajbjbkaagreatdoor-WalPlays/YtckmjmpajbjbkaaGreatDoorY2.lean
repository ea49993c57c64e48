/- The document's functions of layer 4, fifth part: known, step, Arm. -/
import Derived.Test.YtckmjmpajbjbkaaGreatDoorY1
import Derived.OwnWalk
namespace Go.Proofs.YtckmjmpajbjbkaaGreatDoor
open Go.RowKit

theorem ret_int4 {a b : Int} (h : a = b) : Ending.returned (.int .i64 a) = .returned (.int .i64 b) := by rw [h]
/-- A cell of the document's disk is written: its row stays. -/
theorem RefAt.wrote {w w' : World} {Z : Nat → Prop} {a : Nat} {st st' : St} {v : Value} (h : RefAt w Z a st v) (hf : st'.fs = st.fs) (hc : w'.heap[a]? = some (.cells (rcells v st') 79 (0, 0))) (hk : ∀ k, k ≠ a → w'.heap[k]? = w.heap[k]?) : RefAt w' Z a st' v := by
  refine ⟨hc, h.za, ?_, h.zone, by rw [hf]; exact h.sorted, by rw [hf]; exact h.few⟩
  rw [hf]
  exact own_kept h.row fun g e => hk g fun e' => h.ne (by rw [← e']; exact e)

set_option maxHeartbeats 4000000 in
set_option maxRecDepth 100000 in
theorem known_any (w : World) (Z : Nat → Prop) (a : Nat) (st : St) (v : Value) (s : ByteArray) (hs : s.size ≤ 9223372036854775807) (h : RefAt w Z a st v) :
    Calls Tryz.prog 96 #[.pointer (some ⟨a, 0, none⟩), .string s] w fun e w' => e = .returned (.int .i64 (findE st.fs s.data.toList)) ∧ w' = w := by
  have HD : Hid (RefAt w Z a st v) := h
  clear h
  go_enter Tryz.func96, Tryz.ntmps96
  go_wp2_with fail
  refine (name_anyE s w hs).mono ?_
  rintro e w1 ⟨rfl, he⟩
  have he' := he.symm
  subst he'
  cases hn : nmOk s.data.toList with
  | false =>
    have HR : Hid (findE st.fs s.data.toList = 40) := by show _ = _; simp [findE, hn]
    go_wp2
    go_ret
    exact ⟨ret_int4 HR.out.symm, rfl⟩
  | true =>
    go_wp2_with fail
    refine (there_any w Z a st v s HD.out).mono ?_
    rintro e w1 ⟨rfl, he⟩
    have he' := he.symm
    subst he'
    cases hg : (getL st.fs s.data.toList).isSome with
    | true =>
      have HR : Hid (findE st.fs s.data.toList = 0) := by show _ = _; simp [findE, hn, hg]
      go_wp2
      go_ret
      exact ⟨ret_int4 HR.out.symm, rfl⟩
    | false =>
      have HR : Hid (findE st.fs s.data.toList = 41) := by show _ = _; simp [findE, hn, hg]
      go_wp2
      go_ret
      exact ⟨ret_int4 HR.out.symm, rfl⟩

set_option maxHeartbeats 4000000 in
set_option maxRecDepth 100000 in
theorem rstep_any (w : World) (Z : Nat → Prop) (a : Nat) (st : St) (v : Value) (E : Int) (hst : st.steps < 4611686018427387904) (hlo : -1 ≤ st.armed) (hhi : st.armed ≤ 9223372036854775807) (h : RefAt w Z a st v) :
    Calls Tryz.prog 97 #[.pointer (some ⟨a, 0, none⟩), .int .i64 E] w fun e w' => e = .returned (.int .i64 (stepR st E id).1) ∧ RefAt w' Z a (stepR st E id).2 v ∧ Only Z w w' := by
  obtain ⟨c0, c1, c2, c3, c4, cf⟩ := rcell5 h.cells
  have HD : Hid (RefAt w Z a st v) := h
  have HC : Hid (w.heap[a]? = some (.cells (rcells v st) 79 (0, 0))) := h.cells
  clear h
  cases hd : st.down with
  | true =>
    rw [hd] at c3
    have HR : Hid (stepR st E id = (3, st)) := by show _ = _; simp [stepR, hd]
    go_enter Tryz.func97, Tryz.ntmps97
    go_wp2
    go_ret
    rw [HR.out]
    exact ⟨rfl, HD.out, Only.refl _ _⟩
  | false =>
    rw [hd] at c3
    by_cases hE : E = 0
    · subst hE
      by_cases h0 : st.armed = 0
      · have HR : Hid (stepR st 0 id = (3, { st with down := true })) := by show _ = _; simp [stepR, hd, h0]
        rw [h0] at c2
        clear hd h0
        go_enter Tryz.func97, Tryz.ntmps97
        go_wp2
        go_ret
        rw [HR.out]
        refine ⟨rfl, HD.out.wrote rfl ?_ (fun k hk => Below.heap_setCell _ _ _ _ hk), (Only.refl _ _).setCell HD.out.za _⟩
        rw [heap_setCell_same w a 3 _ _ _ HC.out]
        rfl
      · by_cases h1 : 0 < st.armed
        · have HR : Hid (stepR st 0 id = (0, ⟨st.size, st.fs, st.steps + 1, st.armed - 1, false⟩)) := by show _ = _; simp [stepR, hd, h0, h1]
          have hb : (st.armed == 0) = false := by simpa using h0
          obtain ⟨K, hK⟩ : ∃ K, st.armed = K := ⟨_, rfl⟩
          obtain ⟨S, hS⟩ : ∃ S, st.steps = S := ⟨_, rfl⟩
          have HDN : Hid (st.down = false) := hd
          have HK : Hid (st.armed = K) := hK
          have HS : Hid (st.steps = S) := hS
          rw [hK] at c2 h0 h1 hb hlo hhi
          rw [hS] at c4 hst
          clear hd hK hS
          go_enter Tryz.func97, Tryz.ntmps97
          go_wp2
          go_ret
          rw [HR.out]
          refine ⟨rfl, HD.out.wrote rfl ?_ (fun k hk => (Below.heap_setCell _ _ _ _ hk).trans (Below.heap_setCell _ _ _ _ hk)), ((Only.refl _ _).setCell HD.out.za _).setCell HD.out.za _⟩
          rw [heap_setCell_same _ a 4 _ _ _ (heap_setCell_same w a 2 _ _ _ HC.out)]
          simp [rcells, HDN.out, HK.out, HS.out]
        · have HR : Hid (stepR st 0 id = (0, ⟨st.size, st.fs, st.steps + 1, st.armed, false⟩)) := by show _ = _; simp [stepR, hd, h0, h1]
          have hb : (st.armed == 0) = false := by simpa using h0
          obtain ⟨K, hK⟩ : ∃ K, st.armed = K := ⟨_, rfl⟩
          obtain ⟨S, hS⟩ : ∃ S, st.steps = S := ⟨_, rfl⟩
          have HDN : Hid (st.down = false) := hd
          have HK : Hid (st.armed = K) := hK
          have HS : Hid (st.steps = S) := hS
          rw [hK] at c2 h0 h1 hb hlo hhi
          rw [hS] at c4 hst
          clear hd hK hS
          go_enter Tryz.func97, Tryz.ntmps97
          go_wp2
          go_ret
          rw [HR.out]
          refine ⟨rfl, HD.out.wrote rfl ?_ (fun k hk => Below.heap_setCell _ _ _ _ hk), (Only.refl _ _).setCell HD.out.za _⟩
          rw [heap_setCell_same w a 4 _ _ _ HC.out]
          simp [rcells, HDN.out, HK.out, HS.out]
    · have HR : Hid (stepR st E id = (E, st)) := by show _ = _; simp [stepR, hd, hE]
      have hb : (E != 0) = true := by simpa using hE
      clear hd
      go_enter Tryz.func97, Tryz.ntmps97
      go_wp2
      go_ret
      rw [HR.out]
      exact ⟨rfl, HD.out, Only.refl _ _⟩

set_option maxHeartbeats 4000000 in
set_option maxRecDepth 100000 in
theorem rarm_any (w : World) (Z : Nat → Prop) (a : Nat) (st : St) (v : Value) (n : Int) (h : RefAt w Z a st v) :
    Calls Tryz.prog 33 #[.pointer (some ⟨a, 0, none⟩), .int .i64 n] w fun e w' => e = .returned (.int .i64 (armR st n).1) ∧ RefAt w' Z a (armR st n).2 v ∧ Only Z w w' := by
  obtain ⟨c0, c1, c2, c3, c4, cf⟩ := rcell5 h.cells
  have HD : Hid (RefAt w Z a st v) := h
  have HC : Hid (w.heap[a]? = some (.cells (rcells v st) 79 (0, 0))) := h.cells
  clear h
  by_cases h1 : n < -1
  · have HR : Hid (armR st n = (1, st)) := by show armR st n = (1, st); simp [armR, h1]
    go_enter Tryz.func33, Tryz.ntmps33
    go_wp2
    go_ret
    rw [HR.out]
    exact ⟨rfl, HD.out, Only.refl _ _⟩
  · cases hd : st.down with
    | true =>
      rw [hd] at c3
      have HR : Hid (armR st n = (3, st)) := by show armR st n = (3, st); simp [armR, h1, hd]
      go_enter Tryz.func33, Tryz.ntmps33
      go_wp2
      go_ret
      rw [HR.out]
      exact ⟨rfl, HD.out, Only.refl _ _⟩
    | false =>
      rw [hd] at c3
      have HR : Hid (armR st n = (0, { st with armed := n })) := by show armR st n = _; simp [armR, h1, hd]
      clear hd
      go_enter Tryz.func33, Tryz.ntmps33
      go_wp2
      go_ret
      rw [HR.out]
      refine ⟨rfl, HD.out.wrote rfl ?_ (fun k hk => Below.heap_setCell _ _ _ _ hk), (Only.refl _ _).setCell HD.out.za _⟩
      rw [heap_setCell_same w a 2 _ _ _ HC.out]
      rfl
end Go.Proofs.YtckmjmpajbjbkaaGreatDoor
/- The document's functions of layer 4, sixth part: Free, takes. -/
namespace Go.Proofs.YtckmjmpajbjbkaaGreatDoor
open Go.RowKit

theorem tot_two (a b : Fs) : tot szF (a ++ b) = tot szF a + tot szF b := by simp [tot]
theorem tot_succ {fs : Fs} {k : Nat} (h : k < fs.length) : tot szF (fs.take (k + 1)) = tot szF (fs.take k) + (fs[k]).2.1.length := by
  rw [List.take_succ_eq_append_getElem h, tot_two]
  congr 1
theorem tot_take_le (fs : Fs) (k : Nat) : tot szF (fs.take k) ≤ tot szF fs := by
  have h := tot_two (fs.take k) (fs.drop k)
  rw [List.take_append_drop] at h
  omega

set_option maxHeartbeats 4000000 in
set_option maxRecDepth 100000 in
theorem rfree_any (w : World) (Z : Nat → Prop) (a : Nat) (st : St) (v : Value) (h : RefAt w Z a st v) (hok : OKf st.size st.fs) :
    Calls Tryz.prog 100 #[.pointer (some ⟨a, 0, none⟩)] w fun e w' => e = .returned (.int .i64 (freeR st)) ∧ w' = w := by
  obtain ⟨p, cap, rfl⟩ := own_form h.row
  obtain ⟨c0, c1, c2, c3, c4, cf⟩ := rcell5 h.cells
  have hroom := hok.room
  have hsmall := hok.small
  have hfew := hok.few
  obtain ⟨fs, hfs⟩ : ∃ fs, st.fs = fs := ⟨_, rfl⟩
  have HROW : Hid (w.ownsRow 0 65 3 (.slice p fs.length cap) fs.length (fc fs)) := by
    have := h.row
    rw [hfs] at this
    exact this
  have HF : Hid (freeR st = (st.size : Int) - (tot szF fs : Int)) := by show _ = _; rw [← hfs]; rfl
  rw [hfs] at c1 hroom hfew
  obtain ⟨N, hN⟩ : ∃ N, st.size = N := ⟨_, rfl⟩
  rw [hN] at c0 hroom hsmall HF
  clear h hok hfs hN
  go_enter Tryz.func100, Tryz.ntmps100
  go_wp2
  go_loopw [3, 4] (fun z i wr => ∃ k : Nat, k ≤ fs.length ∧ i = .int .i64 k ∧ z = .int .i64 ((N : Int) - (tot szF (fs.take k) : Int)) ∧ wr = w) (fun _ i _ => fs.length - (intOf i).toNat)
  case atStart => exact ⟨0, Nat.zero_le _, rfl, by simp [tot], rfl⟩
  case round =>
    obtain ⟨k, hk, rfl, rfl, rfl⟩ := hrel
    have hle := tot_take_le fs k
    obtain ⟨F, hF⟩ : ∃ F : Int, (N : Int) - (tot szF (fs.take k) : Int) = F := ⟨_, rfl⟩
    have HFF : Hid ((N : Int) - (tot szF (fs.take k) : Int) = F) := hF
    have hF1 : 0 ≤ F := by omega
    have hF2 : F ≤ 1048576 := by omega
    rw [hF]
    clear hF
    by_cases hlt : k < fs.length
    · have hlti : (k : Int) < (fs.length : Int) := by omega
      obtain ⟨g, rfl, d0, d1, d2⟩ := row_at HROW.out hlt
      obtain ⟨y, hy⟩ : ∃ y : ByteArray, (⟨(fs[k]).2.1.toArray⟩ : ByteArray) = y := ⟨_, rfl⟩
      have hys : y.size = (fs[k]).2.1.length := by rw [← hy]; simp [ByteArray.size]
      rw [hy] at d1
      have hsu := tot_succ hlt
      have hl2 := tot_take_le fs (k + 1)
      have HX : Hid ((N : Int) - (tot szF (fs.take (k + 1)) : Int) = F - (y.size : Int)) := by have := HFF.out; show _ = _; omega
      have hyl : y.size ≤ 1048576 := by omega
      clear hy hys hsu hl2 hle d0 d2
      go_wp2
      go_roundw
      case rel => exact ⟨k + 1, by omega, by go_num, by rw [HX.out], trivial⟩
      case measure => simp [intOf]; omega
    · have hk' : k = fs.length := by omega
      subst hk'
      have HX : Hid (freeR st = F) := by have := HFF.out; rw [List.take_length] at this; show _ = _; rw [HF.out, this]
      go_wp2
      go_ret
      exact ⟨ret_int4 HX.out.symm, rfl⟩

theorem own_zero {w : World} {B n : Nat} {e : TypeId} {size : Nat} {v : Value} {xs : List Value} (h : w.ownsRow B e size v n xs) : w.ownsRow 0 e size v n xs := by
  obtain ⟨h1, h | ⟨g, cap, cur, e1, _, r⟩⟩ := h
  · exact ⟨h1, Or.inl h⟩
  · exact ⟨h1, Or.inr ⟨g, cap, cur, e1, Nat.zero_le _, r⟩⟩
theorem del_succ {fs : Fs} {k : Nat} (h : k < fs.length) (s : Nm) : delL (fs.take (k + 1)) s = delL (fs.take k) s ++ (if (fs[k]).1 = s then [] else [fs[k]]) := by
  rw [List.take_succ_eq_append_getElem h]
  unfold delL
  rw [List.filter_append]
  by_cases e : (fs[k]).1 = s <;> simp [e]

set_option maxHeartbeats 8000000 in
set_option maxRecDepth 100000 in
theorem takes_any (w : World) (Z : Nat → Prop) (a : Nat) (st : St) (v : Value) (s : ByteArray) (h : RefAt w Z a st v) (hZ : ∀ k, w.heap.size ≤ k → Z k) :
    Calls Tryz.prog 104 #[.pointer (some ⟨a, 0, none⟩), .string s] w fun e w' => e = .returned (.tuple #[]) ∧ (∃ v', RefAt w' Z a { st with fs := delL st.fs s.data.toList } v') ∧ Only Z w w' := by
  obtain ⟨i0, hi, hz0, hz1, hz2⟩ := info_parts Tryz.infoFile
  obtain ⟨p, cap, rfl⟩ := own_form h.row
  obtain ⟨c0, c1, c2, c3, c4, cf⟩ := rcell5 h.cells
  have HD : Hid (RefAt w Z a st (.slice p st.fs.length cap)) := h
  have HZ : Hid (∀ k, w.heap.size ≤ k → Z k) := hZ
  have la := h.lt
  have hfew := h.few
  clear h hZ
  obtain ⟨fs, hfs⟩ : ∃ fs, st.fs = fs := ⟨_, rfl⟩
  have HFS : Hid (st.fs = fs) := hfs
  have HROW : Hid (w.ownsRow 0 65 3 (.slice p fs.length cap) fs.length (fc fs)) := by
    have := HD.out.row
    rw [hfs] at this
    exact this
  have HS : Hid (srt fs) := by rw [← hfs]; exact HD.out.sorted
  rw [hfs] at c1 hfew
  simp only [hfs]
  clear hfs c0 c2 c3 c4
  go_enter Tryz.func104, Tryz.ntmps104
  go_wp2
  go_loopw [4, 5] (fun u i wr => ∃ k n : Nat, k ≤ fs.length ∧ n ≤ k ∧ i = .int .i64 k ∧ (delL (fs.take k) s.data.toList).length = n ∧ wr.ownsRow w.heap.size 65 3 u n (fc (delL (fs.take k) s.data.toList)) ∧ Below w.heap.size w wr) (fun _ i _ => fs.length - (intOf i).toNat)
  case atStart => exact ⟨0, 0, Nat.zero_le _, Nat.le_refl _, rfl, rfl, World.ownsRow_nil _ _ _ _, Below.refl _ _⟩
  case round =>
    obtain ⟨k, n, hk, hnk, rfl, hdl, hown, hb⟩ := hrel
    have HDL : Hid ((delL (fs.take k) s.data.toList).length = n) := hdl
    have HB : Hid (Below w.heap.size w wr) := hb
    have hsz := hb.size
    obtain ⟨u, hu⟩ : ∃ u, u4 = u := ⟨_, rfl⟩
    rw [hu] at hown ⊢
    have HOW : Hid (wr.ownsRow w.heap.size 65 3 u n (fc (delL (fs.take k) s.data.toList))) := hown
    have e1 := cell_later hb c1
    clear hu hown hdl
    by_cases hlt : k < fs.length
    · have hlti : (k : Int) < (fs.length : Int) := by omega
      obtain ⟨g, rfl, d0, d1, d2⟩ := row_at (own_later HROW.out hb) hlt
      have HDEL := del_succ hlt s.data.toList
      obtain ⟨nm, dt, sf, hf⟩ : ∃ nm dt sf, fs[k] = (nm, (dt, sf)) := ⟨_, _, _, rfl⟩
      rw [hf] at d0 d1 d2 HDEL
      simp only at d0 d1 d2
      have HLT : Hid (k < fs.length) := hlt
      by_cases heq : nm = s.data.toList
      · have HX : Hid (delL (fs.take (k + 1)) s.data.toList = delL (fs.take k) s.data.toList) := by show _ = _; rw [HDEL, if_pos heq, List.append_nil]
        have hsb : (s.toList != s.toList) = false := by simp
        rw [heq, str_arr] at d0
        clear HDEL hf hb heq
        go_wp2
        go_roundw
        case rel => exact ⟨k + 1, n, by omega, by omega, by go_num, by rw [HX.out]; exact HDL.out, by rw [HX.out]; exact HOW.out, HB.out⟩
        case measure => simp [intOf]; omega
      · have HX : Hid (delL (fs.take (k + 1)) s.data.toList = delL (fs.take k) s.data.toList ++ [(nm, (dt, sf))]) := by show _ = _; rw [HDEL, if_neg heq]
        have hsb : (nm != s.toList) = true := by rw [ByteArray.toList_eq]; simpa using heq
        have hsb2 : (nm == s.toList) = false := by rw [ByteArray.toList_eq]; simpa using heq
        have hsb3 : ¬ nm = s.toList := by rw [ByteArray.toList_eq]; exact heq
        clear HDEL hf hb heq
        go_wp2_with (first | (at_builtin; refine wpList_append_lies _ rfl _ _ 22 rfl w.heap.size 65 i0 _ 3 40 Tryz.underlying22 hi hz0 hz1 hz2 rfl (by decide) _ _ _ rfl (HOW.out.alloc _) ⟨wr.heap.size, 0, none⟩ 1 1 (fc [(nm, (dt, sf))]) rfl rfl (cells_file _ (nm, (dt, sf)) _) (fc_one _) (by decide) (by unfold maxLen; omega) (by omega) (by simp; omega) _ rfl ?_; intro g1 cap1 w2 hown2 hgrow2 _ _))
        rw [← fc_append, ← HX.out] at hown2
        have HO2 : Hid (w2.ownsRow w.heap.size 65 3 _ (n + 1) (fc (delL (fs.take (k + 1)) s.data.toList))) := hown2
        have HB2 : Hid (Below w.heap.size w w2) := (HB.out.alloc hsz _).grown hgrow2 (by simp; omega) (fun j hj => (HOW.out.lt j hj).1)
        clear hown2 hgrow2
        go_wp2
        go_roundw
        case rel => exact ⟨k + 1, n + 1, by omega, by omega, by go_num, by rw [HX.out, List.length_append, HDL.out]; rfl, HO2.out, HB2.out⟩
        case measure => simp [intOf]; omega
    · have hk' : k = fs.length := by omega
      subst hk'
      have hdl := HDL.out
      have how := HOW.out
      rw [List.take_length] at hdl how
      obtain ⟨pu, cu, rfl⟩ := own_form how
      have HDL2 : Hid ((delL fs s.data.toList).length = n) := hdl
      have HOW2 : Hid (wr.ownsRow w.heap.size 65 3 (.slice pu n cu) n (fc (delL fs s.data.toList))) := how
      have e0 : ∀ o, wr.frozen? ⟨a, o, none⟩ = false := fun o => (rcell5 (HD.out.later HB.out).cells).2.2.2.2.2 o
      clear hdl how hb HDL HOW
      go_wp2
      go_end0
      have hne : ∀ g, (Value.slice pu n cu).ownBlock = some g → g ≠ a := fun g e => by have := (HOW2.out.lt g e).1; omega
      refine ⟨rfl, ⟨.slice pu n cu, ?_, HD.out.za, ?_, fun g e => HZ.out g (HOW2.out.lt g e).1, srt_delL HS.out _, ?_⟩, (Only.of HB.out).setCell HD.out.za _⟩
      · have hc := (HD.out.later HB.out).cells
        rw [HFS.out] at hc
        rw [heap_setCell_same wr a 1 _ _ _ hc]
        rfl
      · show World.ownsRow _ 0 65 3 _ (delL fs s.data.toList).length _
        rw [HDL2.out]
        exact own_kept (own_zero HOW2.out) (fun g e => Below.heap_setCell _ _ _ _ (hne g e))
      · show (delL fs s.data.toList).length ≤ 1000
        rw [HDL2.out]
        omega
end Go.Proofs.YtckmjmpajbjbkaaGreatDoor
/- The document's functions of layer 4, seventh part: Remove, Sync, Read. -/
namespace Go.Proofs.YtckmjmpajbjbkaaGreatDoor
open Go.RowKit

theorem step_not {st : St} {E : Int} {f : Fs → Fs} (h : (stepR st E id).1 ≠ 0) : stepR st E f = stepR st E id := by
  unfold stepR at h ⊢
  split
  · rfl
  · split
    · rfl
    · split
      · rfl
      · rename_i h1 h2 h3
        simp [h1, h2, h3] at h
theorem step_done {st : St} {E : Int} {f : Fs → Fs} (h : (stepR st E id).1 = 0) : E = 0 ∧ (stepR st E id).2.fs = st.fs ∧ stepR st E f = (0, { (stepR st E id).2 with fs := f st.fs }) := by
  unfold stepR at h ⊢
  split
  · rename_i h1
    simp [h1] at h
  · split
    · rename_i h1 h2
      simp [h1, h2] at h
    · split
      · rename_i h1 h2 h3
        simp [h1, h3] at h
        simp at h2
        simp [h2] at h
      · rename_i h1 h2 h3
        refine ⟨by simpa using h2, rfl, rfl⟩
theorem place_one {fs : Fs} {k : Nm} {i j : Nat} (hs : srt fs) (h : PlaceAt fs k i) (hj : j < fs.length) (e : (fs[j]).1 = k) : i = j := by
  rcases Nat.lt_trichotomy i j with g | g | g
  · exfalso
    have h1 := h.not (by omega)
    have h2 := (List.pairwise_iff_getElem.1 hs) i j (by omega) hj g
    rw [e, h1] at h2
    cases h2
  · exact g
  · exfalso
    have h1 := h.less j hj g
    rw [e, bl_irrefl] at h1
    cases h1
theorem place_known (w : World) (Z : Nat → Prop) (a : Nat) (st : St) (v : Value) (s : ByteArray) (h : RefAt w Z a st v) {j : Nat} (hj : j < st.fs.length) (e : (st.fs[j]).1 = s.data.toList) : Calls Tryz.prog 63 #[.pointer (some ⟨a, 0, none⟩), .string s] w fun e w' => e = .returned (.int .i64 (j : Int)) ∧ w' = w := by
  refine (place_any w Z a st v s h).mono ?_
  rintro x w' ⟨i, rfl, hp, hw⟩
  rw [place_one h.sorted hp hj e]
  exact ⟨rfl, hw⟩
/-- A file that is there stands somewhere. -/
theorem found {fs : Fs} {s : Nm} (h : findE fs s = 0) : ∃ j, ∃ hj : j < fs.length, (fs[j]).1 = s ∧ fileOf fs s = (fs[j]).2 := by
  unfold findE at h
  split at h
  · split at h
    · rename_i hg
      cases e : getL fs s with
      | none => rw [e] at hg; cases hg
      | some y =>
        obtain ⟨j, hj, ej⟩ := List.getElem_of_mem (getL_mem e)
        refine ⟨j, hj, by rw [ej], ?_⟩
        rw [ej]
        simp [fileOf, e]
    · simp at h
  · simp at h

set_option maxHeartbeats 4000000 in
set_option maxRecDepth 100000 in
theorem rremove_any (w : World) (Z : Nat → Prop) (a : Nat) (st : St) (v : Value) (s : ByteArray) (hs : s.size ≤ 9223372036854775807) (hst : st.steps < 4611686018427387904) (hlo : -1 ≤ st.armed) (hhi : st.armed ≤ 9223372036854775807) (h : RefAt w Z a st v) (hZ : ∀ k, w.heap.size ≤ k → Z k) :
    Calls Tryz.prog 73 #[.pointer (some ⟨a, 0, none⟩), .string s] w fun e w' => e = .returned (.int .i64 (remR st s.data.toList).1) ∧ (∃ v', RefAt w' Z a (remR st s.data.toList).2 v') ∧ Only Z w w' := by
  have HD : Hid (RefAt w Z a st v) := h
  have HZ : Hid (∀ k, w.heap.size ≤ k → Z k) := hZ
  clear h hZ
  go_enter Tryz.func73, Tryz.ntmps73
  go_wp2_with fail
  refine (known_any w Z a st v s hs HD.out).mono ?_
  rintro e w1 ⟨rfl, he⟩
  have he' := he.symm
  subst he'
  obtain ⟨E, hE⟩ : ∃ E, findE st.fs s.data.toList = E := ⟨_, rfl⟩
  have HR : Hid (remR st s.data.toList = stepR st E (remF s.data.toList)) := by show _ = _; rw [← hE]; rfl
  rw [hE]
  clear hE he
  go_wp2_with fail
  refine (rstep_any w Z a st v E hst hlo hhi HD.out).mono ?_
  rintro e w2 ⟨rfl, hr2, ho2⟩
  have HS0 : Hid ((stepR st E id).1 = 0 → (stepR st E id).2.fs = st.fs ∧ stepR st E (remF s.data.toList) = (0, { (stepR st E id).2 with fs := remF s.data.toList st.fs })) := fun h => (step_done h).2
  have HS1 : Hid ((stepR st E id).1 ≠ 0 → stepR st E (remF s.data.toList) = stepR st E id) := fun h => step_not h
  obtain ⟨r, hr⟩ : ∃ r, stepR st E id = r := ⟨_, rfl⟩
  rw [hr] at hr2 HS0 HS1 ⊢
  obtain ⟨G, st2⟩ := r
  have HR2 : Hid (RefAt w2 Z a st2 v) := hr2
  have HO2 : Hid (Only Z w w2) := ho2
  clear hr hr2 ho2
  by_cases hG : G = 0
  · obtain ⟨hf2, hs2⟩ := HS0.out hG
    have hb : (G != 0) = false := by simp [hG]
    have HF2 : Hid (st2.fs = st.fs) := hf2
    have HX : Hid (remR st s.data.toList = (0, { st2 with fs := delL st2.fs s.data.toList })) := by
      show _ = _
      rw [HR.out, hs2, HF2.out]
      rfl
    clear hf2 hs2
    go_wp2_with (first | (go_at_call 104; refine (takes_any w2 Z a st2 v s HR2.out (fun k hk => HZ.out k (Nat.le_trans HO2.out.size hk))).mono ?_; rintro e w3 ⟨rfl, hv3, ho3⟩; (have HV3 : Hid (∃ v', RefAt w3 Z a { st2 with fs := delL st2.fs s.data.toList } v') := hv3); (have HO3 : Hid (Only Z w w3) := HO2.out.trans ho3); clear hv3 ho3))
    go_ret
    rw [HX.out]
    exact ⟨rfl, HV3.out, HO3.out⟩
  · have hb : (G != 0) = true := by simpa using hG
    have HX : Hid (remR st s.data.toList = (G, st2)) := by
      show _ = _
      rw [HR.out, HS1.out hG]
    go_wp2
    go_ret
    rw [HX.out]
    exact ⟨rfl, ⟨v, HR2.out⟩, HO2.out⟩

theorem fc_set2 : ∀ (l : Fs) (k : Nat) (h : k < l.length) (n : Nat), (fc l).set (k * 3 + 2) (.int .i64 (n : Int)) = fc (l.set k ((l[k]).1, ((l[k]).2.1, n)))
  | q :: r, 0, _, n => rfl
  | q :: r, k + 1, h, n => by
    have ih := fc_set2 r k (by simpa using h) n
    have e2 : (k + 1) * 3 + 2 = (k * 3 + 2) + 1 + 1 + 1 := by omega
    rw [e2]
    simp only [fc, List.set_cons_succ, List.getElem_cons_succ, ih]

set_option maxHeartbeats 8000000 in
set_option maxRecDepth 100000 in
theorem rsync_any (w : World) (Z : Nat → Prop) (a : Nat) (st : St) (v : Value) (s : ByteArray) (hs : s.size ≤ 9223372036854775807) (hst : st.steps < 4611686018427387904) (hlo : -1 ≤ st.armed) (hhi : st.armed ≤ 9223372036854775807) (h : RefAt w Z a st v) :
    Calls Tryz.prog 67 #[.pointer (some ⟨a, 0, none⟩), .string s] w fun e w' => e = .returned (.int .i64 (synR st s.data.toList).1) ∧ (∃ v', RefAt w' Z a (synR st s.data.toList).2 v') ∧ Only Z w w' := by
  have HD : Hid (RefAt w Z a st v) := h
  clear h
  go_enter Tryz.func67, Tryz.ntmps67
  go_wp2_with fail
  refine (known_any w Z a st v s hs HD.out).mono ?_
  rintro e w1 ⟨rfl, he⟩
  have he' := he.symm
  subst he'
  obtain ⟨E, hE⟩ : ∃ E, findE st.fs s.data.toList = E := ⟨_, rfl⟩
  have HE : Hid (findE st.fs s.data.toList = E) := hE
  have HR : Hid (synR st s.data.toList = stepR st E (synF s.data.toList)) := by show _ = _; rw [← hE]; rfl
  rw [hE]
  clear hE he
  go_wp2_with fail
  refine (rstep_any w Z a st v E hst hlo hhi HD.out).mono ?_
  rintro e w2 ⟨rfl, hr2, ho2⟩
  have HS0 : Hid ((stepR st E id).1 = 0 → E = 0 ∧ (stepR st E id).2.fs = st.fs ∧ stepR st E (synF s.data.toList) = (0, { (stepR st E id).2 with fs := synF s.data.toList st.fs })) := fun h => step_done h
  have HS1 : Hid ((stepR st E id).1 ≠ 0 → stepR st E (synF s.data.toList) = stepR st E id) := fun h => step_not h
  obtain ⟨r, hr⟩ : ∃ r, stepR st E id = r := ⟨_, rfl⟩
  rw [hr] at hr2 HS0 HS1 ⊢
  obtain ⟨G, st2⟩ := r
  have HR2 : Hid (RefAt w2 Z a st2 v) := hr2
  have HO2 : Hid (Only Z w w2) := ho2
  clear hr hr2 ho2
  by_cases hG : G = 0
  · obtain ⟨hE0, hf2', hs2⟩ := HS0.out hG
    have hf2 : st2.fs = st.fs := hf2'
    have hb : (G != 0) = false := by simp [hG]
    obtain ⟨j, hj, hjn, hjf⟩ := found (by rw [HE.out, hE0] : findE st.fs s.data.toList = 0)
    rw [← hf2] at hs2
    simp only [← hf2] at hj hjn hjf
    obtain ⟨nm, dt, sf, hx⟩ : ∃ nm dt sf, st2.fs[j] = (nm, (dt, sf)) := ⟨_, _, _, rfl⟩
    have hp := putL_at HR2.out.sorted hj (dt, dt.length)
    rw [hx] at hp hjn hjf
    simp only at hp hjn
    have HX : Hid (synR st s.data.toList = (0, { st2 with fs := st2.fs.set j (nm, (dt, dt.length)) })) := by
      show _ = _
      rw [HR.out, hs2, ← hp]
      simp only [synF, hjf, hjn]
    have hst2 : srt (st2.fs.set j (nm, (dt, dt.length))) := by rw [← hp]; exact srt_putL HR2.out.sorted _ _
    have HSRT : Hid (srt (st2.fs.set j (nm, (dt, dt.length)))) := hst2
    have HPK : Hid (Calls Tryz.prog 63 #[.pointer (some ⟨a, 0, none⟩), .string s] w2 fun e w' => e = .returned (.int .i64 (j : Int)) ∧ w' = w2) := place_known w2 Z a st2 v s HR2.out hj (by rw [hx]; exact hjn)
    have hr2 := HR2.out
    have hrow := hr2.row
    have hfew := hr2.few
    obtain ⟨p, cap, rfl⟩ := own_form hrow
    obtain ⟨c0, c1, c2, c3, c4, cf⟩ := rcell5 hr2.cells
    obtain ⟨g, rfl, d0, d1, d2⟩ := row_at hrow hj
    rw [hx] at d1
    simp only at d1
    have HROW : Hid (w2.ownsRow 0 65 3 (.slice (some ⟨g, 0, none⟩) st2.fs.length cap) st2.fs.length (fc st2.fs)) := hrow
    have HNEW : Hid ((w2.setCell ⟨g, j * 3 + 2, none⟩ (.int .i64 (dt.length : Int))).ownsRow 0 65 3 (.slice (some ⟨g, 0, none⟩) st2.fs.length cap) st2.fs.length (fc (st2.fs.set j (nm, (dt, dt.length))))) := by
      have h1 := (hrow.stored (j * 3 + 2) (.int .i64 (dt.length : Int))).1
      rw [fc_set2 _ _ hj, hx] at h1
      exact h1
    have df : ∀ o, w2.frozen? ⟨g, o, none⟩ = false := fun o => HROW.out.frozenAt o
    have hga : g ≠ a := fun e => hr2.ne (by rw [e]; rfl)
    have HZG : Hid (Z g) := hr2.zone g rfl
    obtain ⟨y, hy⟩ : ∃ y : ByteArray, (⟨dt.toArray⟩ : ByteArray) = y := ⟨_, rfl⟩
    have hys : y.size = dt.length := by rw [← hy]; simp [ByteArray.size]
    rw [hy] at d1
    rw [← hys] at HNEW HX HSRT
    obtain ⟨L, hL⟩ : ∃ L, st2.fs.length = L := ⟨_, rfl⟩
    have HL : Hid (st2.fs.length = L) := hL
    rw [hL] at c1 hj hfew
    have hji : (j : Int) < (L : Int) := by omega
    clear hys hy hr2 hrow hL hx hp hjn hjf hst2 hf2 hf2' hs2 d0 c0 c2 c3 c4 hE0
    go_wp2_with fail
    refine HPK.out.mono ?_
    rintro e w3 ⟨rfl, he⟩
    have he' := he.symm
    subst he'
    go_wp2
    go_region
    all_goals
      go_wp2
      go_ret
      rw [HX.out]
      refine ⟨rfl, ⟨.slice (some ⟨g, 0, none⟩) st2.fs.length cap, ?_, HR2.out.za, ?_, HR2.out.zone, HSRT.out, ?_⟩, ?_⟩
      · refine (Below.heap_setCell _ _ _ _ (Ne.symm hga)).trans ?_
        exact HR2.out.cells
      · show World.ownsRow _ 0 65 3 _ (st2.fs.set _ _).length _
        rw [List.length_set]
        exact HNEW.out
      · show (st2.fs.set _ _).length ≤ 1000
        rw [List.length_set]
        exact HR2.out.few
      · exact (HO2.out.later (below_drewN (Below.refl _ _) _)).setCell (p := ⟨g, j * 3 + 2, none⟩) HZG.out _
  · have hb : (G != 0) = true := by simpa using hG
    have HX : Hid (synR st s.data.toList = (G, st2)) := by
      show _ = _
      rw [HR.out, HS1.out hG]
    go_wp2
    go_ret
    rw [HX.out]
    exact ⟨rfl, ⟨v, HR2.out⟩, HO2.out⟩
end Go.Proofs.YtckmjmpajbjbkaaGreatDoor
/- The document's functions of layer 4, eighth part: Read, Rename. -/
namespace Go.Proofs.YtckmjmpajbjbkaaGreatDoor
open Go.RowKit

theorem RefAt.mono {w : World} {Z Z' : Nat → Prop} {a : Nat} {st : St} {v : Value} (h : RefAt w Z a st v) (hz : ∀ k, k < w.heap.size → Z k → Z' k) : RefAt w Z' a st v :=
  ⟨h.cells, hz a h.lt h.za, h.row, fun g e => hz g (h.row.lt g e).2 (h.zone g e), h.sorted, h.few⟩
theorem RefAt.apart {w w' : World} {Z : Nat → Prop} {a : Nat} {st : St} {v : Value} (h : RefAt w Z a st v) (hb : Below w.heap.size w w') : RefAt w' (fun k => (Z k ∧ k < w.heap.size) ∨ w'.heap.size ≤ k) a st v :=
  ((h.mono (Z' := fun k => Z k ∧ k < w.heap.size) fun _ hk hz => ⟨hz, hk⟩).later hb).mono fun _ _ hz => Or.inl hz
theorem RefAt.kept {w w' : World} {Z : Nat → Prop} {a : Nat} {st : St} {v : Value} (h : RefAt w Z a st v) (hk : ∀ k, k < w.heap.size → Z k → w'.heap[k]? = w.heap[k]?) : RefAt w' Z a st v :=
  ⟨(hk a h.lt h.za).trans h.cells, h.za, own_kept h.row fun g e => hk g (h.row.lt g e).2 (h.zone g e), h.zone, h.sorted, h.few⟩

set_option maxHeartbeats 4000000 in
set_option maxRecDepth 100000 in
theorem rread_any (w : World) (Z : Nat → Prop) (a : Nat) (st : St) (v : Value) (s : ByteArray) (hs : s.size ≤ 9223372036854775807) (h : RefAt w Z a st v) :
    Calls Tryz.prog 94 #[.pointer (some ⟨a, 0, none⟩), .string s] w fun e w' => e = .returned (.tuple #[.string ⟨(readR st s.data.toList).1.toArray⟩, .int .i64 (readR st s.data.toList).2]) ∧ Below w.heap.size w w' := by
  obtain ⟨c0, c1, c2, c3, c4, cf⟩ := rcell5 h.cells
  have HD : Hid (RefAt w Z a st v) := h
  clear h c0 c2 c4
  cases hd : st.down with
  | true =>
    rw [hd] at c3
    have HR : Hid (readR st s.data.toList = ([], 3)) := by show _ = _; simp [readR, hd]
    go_enter Tryz.func94, Tryz.ntmps94
    go_wp2
    rw [HR.out]
    exact bodyPost_ret (v := .tuple #[.string ⟨#[]⟩, .int .i64 3]) (by simp [results, Tryz.results94, go_sem]) rfl ⟨rfl, Below.refl _ _⟩
  | false =>
    rw [hd] at c3
    obtain ⟨E, hE⟩ : ∃ E, findE st.fs s.data.toList = E := ⟨_, rfl⟩
    have HK : Hid (Calls Tryz.prog 96 #[.pointer (some ⟨a, 0, none⟩), .string s] w fun e w' => e = .returned (.int .i64 E) ∧ w' = w) := by
      have := known_any w Z a st v s hs HD.out
      rw [hE] at this
      exact this
    by_cases h0 : E = 0
    · subst h0
      obtain ⟨j, hj, hjn, hjf⟩ := found hE
      obtain ⟨nm, dt, sf, hx⟩ : ∃ nm dt sf, st.fs[j] = (nm, (dt, sf)) := ⟨_, _, _, rfl⟩
      rw [hx] at hjf
      have HR : Hid (readR st s.data.toList = (dt, 0)) := by show _ = _; simp [readR, hd, hE, hjf]
      have HPK : Hid (∀ n, Calls Tryz.prog 63 #[.pointer (some ⟨a, 0, none⟩), .string s] (w.drewN n) fun e w' => e = .returned (.int .i64 (j : Int)) ∧ w' = w.drewN n) := fun n => place_known _ Z a st v s (HD.out.later (below_drewN (Below.refl _ _) n)) hj hjn
      have hrow := HD.out.row
      obtain ⟨p, cap, rfl⟩ := own_form hrow
      obtain ⟨g, rfl, d0, d1, d2⟩ := row_at hrow hj
      rw [hx] at d1
      simp only at d1
      obtain ⟨L, hL⟩ : ∃ L, st.fs.length = L := ⟨_, rfl⟩
      rw [hL] at c1 hj
      have hji : (j : Int) < (L : Int) := by omega
      clear hx hjn hjf hE hd d0 d2 hrow hL
      go_enter Tryz.func94, Tryz.ntmps94
      go_wp2_with fail
      refine HK.out.mono ?_
      rintro e w1 ⟨rfl, he⟩
      have he' := he.symm
      subst he'
      go_wp2
      go_quiet ((go_at_call 63; exact Calls.quiet_of_same (HPK.out _)))
      go_wp2
      rw [HR.out]
      exact bodyPost_ret (v := .tuple #[.string ⟨dt.toArray⟩, .int .i64 0]) (by simp [results, Tryz.results94, go_sem]) rfl ⟨rfl, below_drewN (Below.refl _ _) _⟩
    · have HR : Hid (readR st s.data.toList = ([], E)) := by show _ = _; simp [readR, hd, hE, h0]
      have hb : (E != 0) = true := by simpa using h0
      clear hE hd
      go_enter Tryz.func94, Tryz.ntmps94
      go_wp2_with fail
      refine HK.out.mono ?_
      rintro e w1 ⟨rfl, he⟩
      have he' := he.symm
      subst he'
      go_wp2
      rw [HR.out]
      exact bodyPost_ret (v := .tuple #[.string ⟨#[]⟩, .int .i64 E]) (by simp [results, Tryz.results94, go_sem]) rfl ⟨rfl, Below.refl _ _⟩

set_option maxHeartbeats 8000000 in
set_option maxRecDepth 100000 in
theorem rrename_any (w : World) (Z : Nat → Prop) (a : Nat) (st : St) (v : Value) (s t : ByteArray) (hs : s.size ≤ 9223372036854775807) (ht : t.size ≤ 9223372036854775807) (hst : st.steps < 4611686018427387904) (hlo : -1 ≤ st.armed) (hhi : st.armed ≤ 9223372036854775807) (hfl : st.fs.length ≤ 64) (h : RefAt w Z a st v) (hZ : ∀ k, w.heap.size ≤ k → Z k) :
    Calls Tryz.prog 95 #[.pointer (some ⟨a, 0, none⟩), .string s, .string t] w fun e w' => e = .returned (.int .i64 (renR st s.data.toList t.data.toList).1) ∧ (∃ v', RefAt w' Z a (renR st s.data.toList t.data.toList).2 v') ∧ Only Z w w' := by
  have HD : Hid (RefAt w Z a st v) := h
  have HZ : Hid (∀ k, w.heap.size ≤ k → Z k) := hZ
  clear h hZ
  obtain ⟨K, hK⟩ : ∃ K, findE st.fs s.data.toList = K := ⟨_, rfl⟩
  have HK : Hid (Calls Tryz.prog 96 #[.pointer (some ⟨a, 0, none⟩), .string s] w fun e w' => e = .returned (.int .i64 K) ∧ w' = w) := by
    have := known_any w Z a st v s hs HD.out
    rw [hK] at this
    exact this
  have HKE : Hid (findE st.fs s.data.toList = K) := hK
  clear hK
  cases hn : nmOk t.data.toList with
  | false =>
    have HR : Hid (renR st s.data.toList t.data.toList = stepR st 40 id) := by
      show _ = _
      have : renR st s.data.toList t.data.toList = stepR st 40 (renF s.data.toList t.data.toList) := by simp [renR, renE, hn]
      rw [this]
      apply step_not
      intro h0
      exact absurd (step_done (f := id) h0).1 (by decide)
    have HNE : Hid ((stepR st 40 id).1 ≠ 0) := fun h0 => absurd (step_done (f := id) h0).1 (by decide)
    go_enter Tryz.func95, Tryz.ntmps95
    go_wp2_with fail
    refine HK.out.mono ?_
    rintro e w1 ⟨rfl, he⟩
    have he' := he.symm
    subst he'
    go_wp2_with fail
    refine (name_anyE t w ht).mono ?_
    rintro e w1 ⟨rfl, he2⟩
    have he2' := he2.symm
    subst he2'
    rw [hn]
    go_wp2_with fail
    refine (rstep_any w Z a st v 40 hst hlo hhi HD.out).mono ?_
    rintro e w2 ⟨rfl, hr2, ho2⟩
    have HRR : Hid (RefAt w2 Z a (stepR st 40 id).2 v) := hr2
    have HO2 : Hid (Only Z w w2) := ho2
    obtain ⟨G, hG⟩ : ∃ G, (stepR st 40 id).1 = G := ⟨_, rfl⟩
    have HG : Hid ((stepR st 40 id).1 = G) := hG
    have hb : (G != 0) = true := by have := HNE.out; rw [hG] at this; simpa using this
    rw [hG]
    clear hG hr2 ho2
    go_wp2
    go_ret
    rw [HR.out, HG.out]
    exact ⟨rfl, ⟨v, HRR.out⟩, HO2.out⟩
  | true =>
    have HR : Hid (renR st s.data.toList t.data.toList = stepR st K (renF s.data.toList t.data.toList)) := by
      show _ = _
      rw [← HKE.out]
      simp [renR, renE, hn]
    go_enter Tryz.func95, Tryz.ntmps95
    go_wp2_with fail
    refine HK.out.mono ?_
    rintro e w1 ⟨rfl, he⟩
    have he' := he.symm
    subst he'
    go_wp2_with fail
    refine (name_anyE t w ht).mono ?_
    rintro e w1 ⟨rfl, he2⟩
    have he2' := he2.symm
    subst he2'
    rw [hn]
    go_wp2_with fail
    refine (rstep_any w Z a st v K hst hlo hhi HD.out).mono ?_
    rintro e w2 ⟨rfl, hr2, ho2⟩
    have HS0 : Hid ((stepR st K id).1 = 0 → K = 0 ∧ (stepR st K id).2.fs = st.fs ∧ stepR st K (renF s.data.toList t.data.toList) = (0, { (stepR st K id).2 with fs := renF s.data.toList t.data.toList st.fs })) := fun h => step_done h
    have HS1 : Hid ((stepR st K id).1 ≠ 0 → stepR st K (renF s.data.toList t.data.toList) = stepR st K id) := fun h => step_not h
    obtain ⟨r, hr⟩ : ∃ r, stepR st K id = r := ⟨_, rfl⟩
    rw [hr] at hr2 HS0 HS1 ⊢
    obtain ⟨G, st2⟩ := r
    have HR2 : Hid (RefAt w2 Z a st2 v) := hr2
    have HO2 : Hid (Only Z w w2) := ho2
    clear hr hr2 ho2 he he2
    by_cases hG : G = 0
    · obtain ⟨hK0, hf2', hs2⟩ := HS0.out hG
      have hf2 : st2.fs = st.fs := hf2'
      have hb : (G != 0) = false := by simp [hG]
      obtain ⟨j, hj, hjn, hjf⟩ := found (by rw [HKE.out, hK0] : findE st.fs s.data.toList = 0)
      rw [← hf2] at hs2
      simp only [← hf2] at hj hjn hjf
      obtain ⟨nm, dt, sf, hx⟩ : ∃ nm dt sf, st2.fs[j] = (nm, (dt, sf)) := ⟨_, _, _, rfl⟩
      rw [hx] at hjf
      have HX : Hid (renR st s.data.toList t.data.toList = (0, { st2 with fs := putL (delL st2.fs s.data.toList) t.data.toList (dt, sf) })) := by
        show _ = _
        rw [HR.out, hs2]
        simp only [renF, hjf]
      have HPK : Hid (∀ w', Below w2.heap.size w2 w' → Calls Tryz.prog 63 #[.pointer (some ⟨a, 0, none⟩), .string s] w' fun e w'' => e = .returned (.int .i64 (j : Int)) ∧ w'' = w') := fun w' hb => place_known _ Z a st2 v s (HR2.out.later hb) hj hjn
      have HFL : Hid ((delL st2.fs s.data.toList).length < 1000) := by
        have := delL_length st2.fs s.data.toList
        rw [hf2] at this
        show _ < _
        rw [hf2]
        omega
      have hrow := HR2.out.row
      obtain ⟨p, cap, rfl⟩ := own_form hrow
      obtain ⟨c0, c1, c2, c3, c4, cf⟩ := rcell5 HR2.out.cells
      obtain ⟨g, rfl, d0, d1, d2⟩ := row_at hrow hj
      rw [hx] at d0 d1 d2
      simp only at d0 d1 d2
      obtain ⟨L, hL⟩ : ∃ L, st2.fs.length = L := ⟨_, rfl⟩
      rw [hL] at c1 hj
      have hji : (j : Int) < (L : Int) := by omega
      have la2 := World.block_lt_of_cell? _ _ c1
      have lg2 := World.block_lt_of_cell? _ _ d0
      have HZ2 : Hid (∀ k, w2.heap.size ≤ k → Z k) := fun k hk => HZ.out k (Nat.le_trans HO2.out.size hk)
      clear hx hjn hjf hf2 hf2' hs2 hrow hL hK0 c0 c2 c3 c4
      go_wp2
      go_region_with (first | (go_at_call 63; refine (HPK.out _ (by (repeat (first | exact Below.refl _ _ | assumption | refine Below.drew ?_ | refine below_drewN ?_ _ | refine Below.alloc ?_ (by first | omega | (simp; done) | (simp; omega)) _ | refine Below.setCell ?_ (by first | omega | (simp; done) | (simp; omega)) _ | refine Below.trans ?_ (Below.mono (by assumption) (by first | omega | (simp; done) | (simp; omega))))))).mono ?_; rintro e w3 ⟨rfl, he3⟩; have he3' := he3.symm; subst he3'))
      all_goals
        obtain ⟨w3, hw3⟩ : ∃ w3, w3 = (w2.alloc (.cells #[.string ⟨nm.toArray⟩, .string ⟨dt.toArray⟩, .int .i64 (sf : Int)] 65)).drew := ⟨_, rfl⟩
        rw [← hw3]
        have hb3 : Below w2.heap.size w2 w3 := by rw [hw3]; exact ((Below.refl _ _).alloc (Nat.le_refl _) _).drew
        have hc3 : w3.heap[w2.heap.size]? = some (.cells #[.string ⟨nm.toArray⟩, .string ⟨dt.toArray⟩, .int .i64 (sf : Int)] 65 (0, 0)) := by rw [hw3]; exact heap_alloc_new w2 _
        have hs3 : w3.heap.size = w2.heap.size + 1 := by rw [hw3]; show (w2.alloc _).heap.size = _; simp
        have HR3 : Hid (RefAt w3 (fun k => (Z k ∧ k < w2.heap.size) ∨ w3.heap.size ≤ k) a st2 (.slice (some ⟨g, 0, none⟩) st2.fs.length cap)) := HR2.out.apart hb3
        have HB3 : Hid (Below w2.heap.size w2 w3) := hb3
        have HC3 : Hid (w3.heap[w2.heap.size]? = some (.cells #[.string ⟨nm.toArray⟩, .string ⟨dt.toArray⟩, .int .i64 (sf : Int)] 65 (0, 0))) := hc3
        have HS3 : Hid (w3.heap.size = w2.heap.size + 1) := hs3
        clear hw3 hb3 hc3 hs3 c1 d0 d1 d2 cf
        go_wp2_with fail
        refine (takes_any w3 _ a st2 _ s HR3.out (fun k hk => Or.inr hk)).mono ?_
        rintro e w4 ⟨rfl, ⟨v4, hr4⟩, ho4⟩
        have hc4 : w4.heap[w2.heap.size]? = some (.cells #[.string ⟨nm.toArray⟩, .string ⟨dt.toArray⟩, .int .i64 (sf : Int)] 65 (0, 0)) := (ho4.block _ (by have := HS3.out; omega) (fun h => by have := HS3.out; rcases h with ⟨_, h2⟩ | h2 <;> omega)).trans HC3.out
        have b0 : w4.cell? ⟨w2.heap.size, 0, none⟩ = some (.string ⟨nm.toArray⟩) := by simp [World.cell?, hc4]
        have b1 : w4.cell? ⟨w2.heap.size, 1, none⟩ = some (.string ⟨dt.toArray⟩) := by simp [World.cell?, hc4]
        have b2 : w4.cell? ⟨w2.heap.size, 2, none⟩ = some (.int .i64 (sf : Int)) := by simp [World.cell?, hc4]
        have bf : ∀ o, w4.frozen? ⟨w2.heap.size, o, none⟩ = false := fun o => by simp [World.frozen?, hc4]
        have HR4 : Hid (RefAt (w4.setCell ⟨w2.heap.size, 0, none⟩ (.string t)) (fun k => (Z k ∧ k < w2.heap.size) ∨ w3.heap.size ≤ k) a { st2 with fs := delL st2.fs s.data.toList } v4) := hr4.kept (fun k _ hz => Below.heap_setCell _ _ _ _ (fun e => by have := HS3.out; simp only at e; rcases hz with ⟨_, h2⟩ | h2 <;> omega))
        have HO4 : Hid (Only Z w (w4.setCell ⟨w2.heap.size, 0, none⟩ (.string t))) := ((HO2.out.later HB3.out).trans (ho4.mono (fun k h => by rcases h with ⟨h1, _⟩ | h2; exact h1; exact HZ2.out k (Nat.le_trans HB3.out.size h2)))).setCell (p := ⟨w2.heap.size, 0, none⟩) (HZ2.out _ (Nat.le_refl _)) _
        have HS4 : Hid (w3.heap.size ≤ (w4.setCell ⟨w2.heap.size, 0, none⟩ (.string t)).heap.size) := by
          have := ho4.size
          show _ ≤ _
          simpa using this
        clear hr4 ho4 hc4
        go_wp2_with fail
        refine (puts_any _ _ a _ v4 t ⟨dt.toArray⟩ sf HR4.out (fun k hk => Or.inr (Nat.le_trans HS4.out hk)) HFL.out).mono ?_
        rintro e w6 ⟨rfl, ⟨v6, hr6⟩, ho6⟩
        have HR6 : Hid (RefAt w6 Z a { st2 with fs := putL (delL st2.fs s.data.toList) t.data.toList (dt, sf) } v6) := RefAt.mono hr6 (fun k _ h => by rcases h with ⟨h1, _⟩ | h2; exact h1; exact HZ2.out k (Nat.le_trans HB3.out.size h2))
        have HO6 : Hid (Only Z w w6) := HO4.out.trans (ho6.mono (fun k h => by rcases h with ⟨h1, _⟩ | h2; exact h1; exact HZ2.out k (Nat.le_trans HB3.out.size h2)))
        clear hr6 ho6
        go_wp2
        go_ret
        rw [HX.out]
        exact ⟨rfl, ⟨v6, HR6.out⟩, HO6.out⟩
    · have hb : (G != 0) = true := by simpa using hG
      have HX : Hid (renR st s.data.toList t.data.toList = (G, st2)) := by
        show _ = _
        rw [HR.out, HS1.out hG]
      go_wp2
      go_ret
      rw [HX.out]
      exact ⟨rfl, ⟨v, HR2.out⟩, HO2.out⟩
end Go.Proofs.YtckmjmpajbjbkaaGreatDoor
/- The document's functions of layer 4, ninth part: Append. -/
namespace Go.Proofs.YtckmjmpajbjbkaaGreatDoor
open Go.RowKit

theorem app_list (d : List UInt8) (t : ByteArray) : (ByteArray.append ⟨d.toArray⟩ t).data.toList = d ++ t.data.toList := by
  show ((⟨d.toArray⟩ : ByteArray) ++ t).data.toList = _
  simp
theorem app_nil (t : ByteArray) : (ByteArray.append ⟨#[]⟩ t).data.toList = t.data.toList := by
  show ((⟨#[]⟩ : ByteArray) ++ t).data.toList = _
  simp
set_option maxHeartbeats 8000000 in
set_option maxRecDepth 100000 in
theorem rappend_any (w : World) (Z : Nat → Prop) (a : Nat) (st : St) (v : Value) (s t : ByteArray) (hs : s.size ≤ 9223372036854775807) (ht : t.size ≤ 2147483647) (hst : st.steps < 4611686018427387904) (hlo : -1 ≤ st.armed) (hhi : st.armed ≤ 9223372036854775807) (hok : OKf st.size st.fs) (h : RefAt w Z a st v) (hZ : ∀ k, w.heap.size ≤ k → Z k) :
    Calls Tryz.prog 69 #[.pointer (some ⟨a, 0, none⟩), .string s, .string t] w fun e w' => e = .returned (.int .i64 (appR st s.data.toList t.data.toList).1) ∧ (∃ v', RefAt w' Z a (appR st s.data.toList t.data.toList).2 v') ∧ Only Z w w' := by
  have HD : Hid (RefAt w Z a st v) := h
  have HZ : Hid (∀ k, w.heap.size ≤ k → Z k) := hZ
  have htl : t.data.toList.length = t.size := by simp
  have hfew := hok.few
  have hroom := hok.room
  have hsmall := hok.small
  have hF : freeR st = ((st.size - tot szF st.fs : Nat) : Int) := by unfold freeR; omega
  obtain ⟨F, hFF⟩ : ∃ F, st.size - tot szF st.fs = F := ⟨_, rfl⟩
  have HRM : Hid (∀ x, x = roomE st s.data.toList t.data.toList.length → roomE st s.data.toList t.data.toList.length = x) := fun x h => h.symm
  have hFE : st.size = tot szF st.fs + F := by omega
  have HFE0 : Hid (st.size = tot szF st.fs + F) := hFE
  rw [hFF] at hF
  obtain ⟨p0, cap0, hv⟩ := own_form h.row
  obtain ⟨_, e1, _⟩ := rcell5 h.cells
  rw [hv] at e1
  clear h hZ hFF
  go_enter Tryz.func69, Tryz.ntmps69
  go_wp2_with fail
  refine (name_anyE s w hs).mono ?_
  rintro e w1 ⟨rfl, he⟩
  have he' := he.symm
  subst he'
  go_wp2_with fail
  refine (there_any w Z a st v s HD.out).mono ?_
  rintro e w1 ⟨rfl, he2⟩
  have he2' := he2.symm
  subst he2'
  go_wp2_with fail
  refine (rfree_any w Z a st v HD.out hok).mono ?_
  rintro e w1 ⟨rfl, he3⟩
  have he3' := he3.symm
  subst he3'
  rw [hF]
  cases hn : nmOk s.data.toList with
  | false =>
    have HRE : Hid (roomE st s.data.toList t.data.toList.length = 40) := by show _ = _; simp [roomE, hn]
    go_wp2_with fail
    refine (rstep_any w Z a st v 40 hst hlo hhi HD.out).mono ?_
    rintro e w2 ⟨rfl, hr2, ho2⟩
    have HNE : Hid ((stepR st 40 id).1 ≠ 0) := fun h0 => absurd (step_done (f := id) h0).1 (by decide)
    have HY : Hid (appR st s.data.toList t.data.toList = stepR st 40 id) := by
      show _ = _
      have : appR st s.data.toList t.data.toList = stepR st 40 (appF s.data.toList t.data.toList) := by rw [← HRE.out]; rfl
      rw [this]
      exact step_not HNE.out
    have HRR : Hid (RefAt w2 Z a (stepR st 40 id).2 v) := hr2
    have HO2 : Hid (Only Z w w2) := ho2
    obtain ⟨G, hG⟩ : ∃ G, (stepR st 40 id).1 = G := ⟨_, rfl⟩
    have HG : Hid ((stepR st 40 id).1 = G) := hG
    have hb : (G != 0) = true := by have := HNE.out; rw [hG] at this; simpa using this
    rw [hG]
    clear hG hr2 ho2
    go_wp2
    go_ret
    rw [HY.out, HG.out]
    exact ⟨rfl, ⟨v, HRR.out⟩, HO2.out⟩
  | true =>
    by_cases hfit : F < t.size
    · have hfi : (F : Int) < (t.size : Int) := by omega
      have hfd : decide ((F : Int) < (t.size : Int)) = true := decide_eq_true hfi
      have HRE : Hid (roomE st s.data.toList t.data.toList.length = 42) := by
        have : st.size < tot szF st.fs + t.data.toList.length := by omega
        show _ = _
        unfold roomE
        rw [if_pos hn, if_pos (Or.inl this)]
      go_wp2_with fail
      refine (rstep_any w Z a st v 42 hst hlo hhi HD.out).mono ?_
      rintro e w2 ⟨rfl, hr2, ho2⟩
      have HNE : Hid ((stepR st 42 id).1 ≠ 0) := fun h0 => absurd (step_done (f := id) h0).1 (by decide)
      have HY : Hid (appR st s.data.toList t.data.toList = stepR st 42 id) := by
        show _ = _
        have : appR st s.data.toList t.data.toList = stepR st 42 (appF s.data.toList t.data.toList) := by rw [← HRE.out]; rfl
        rw [this]
        exact step_not HNE.out
      have HRR : Hid (RefAt w2 Z a (stepR st 42 id).2 v) := hr2
      have HO2 : Hid (Only Z w w2) := ho2
      obtain ⟨G, hG⟩ : ∃ G, (stepR st 42 id).1 = G := ⟨_, rfl⟩
      have HG : Hid ((stepR st 42 id).1 = G) := hG
      have hb : (G != 0) = true := by have := HNE.out; rw [hG] at this; simpa using this
      rw [hG]
      clear hG hr2 ho2
      go_wp2
      go_ret
      rw [HY.out, HG.out]
      exact ⟨rfl, ⟨v, HRR.out⟩, HO2.out⟩
    · have hfi : ¬ (F : Int) < (t.size : Int) := by omega
      have hfd : decide ((F : Int) < (t.size : Int)) = false := decide_eq_false hfi
      have hnr : ¬ st.size < tot szF st.fs + t.data.toList.length := by omega
      cases hg : (getL st.fs s.data.toList).isSome with
      | true =>
        have HRE : Hid (roomE st s.data.toList t.data.toList.length = 0) := by
          show _ = _
          unfold roomE
          rw [if_pos hn, if_neg (by rw [hg]; rintro (h | ⟨h, _⟩); exact hnr h; cases h)]
        have HFE : Hid (findE st.fs s.data.toList = 0) := by show _ = _; simp [findE, hn, hg]
        clear hn hg hnr
        go_wp2_with fail
        refine (rstep_any w Z a st v 0 hst hlo hhi HD.out).mono ?_
        rintro e w2 ⟨rfl, hr2, ho2⟩
        have HS0 : Hid ((stepR st 0 id).1 = 0 → (stepR st 0 id).2.fs = st.fs ∧ appR st s.data.toList t.data.toList = (0, { (stepR st 0 id).2 with fs := appF s.data.toList t.data.toList st.fs })) := fun h => by
          have h1 := (step_done (f := appF s.data.toList t.data.toList) h).2
          refine ⟨h1.1, ?_⟩
          rw [← h1.2, ← HRE.out]
          rfl
        have HS1 : Hid ((stepR st 0 id).1 ≠ 0 → appR st s.data.toList t.data.toList = stepR st 0 id) := fun h => by
          rw [← step_not (f := appF s.data.toList t.data.toList) h, ← HRE.out]
          rfl
        obtain ⟨r, hr⟩ : ∃ r, stepR st 0 id = r := ⟨_, rfl⟩
        rw [hr] at hr2 HS0 HS1 ⊢
        obtain ⟨G, st2⟩ := r
        have HR2 : Hid (RefAt w2 Z a st2 v) := hr2
        have HO2 : Hid (Only Z w w2) := ho2
        clear hr hr2 ho2
        by_cases hG : G = 0
        · obtain ⟨hf2', hs2⟩ := HS0.out hG
          have hf2 : st2.fs = st.fs := hf2'
          have hb : (G != 0) = false := by simp [hG]
          rw [← hf2] at hs2
          have HZ2 : Hid (∀ k, w2.heap.size ≤ k → Z k) := fun k hk => HZ.out k (Nat.le_trans HO2.out.size hk)
          obtain ⟨j, hj, hjn, hjf⟩ := found (HFE.out)
          simp only [← hf2] at hj hjn hjf
          obtain ⟨nm, dt, sf, hx⟩ : ∃ nm dt sf, st2.fs[j] = (nm, (dt, sf)) := ⟨_, _, _, rfl⟩
          rw [hx] at hjf hjn
          simp only at hjn
          have HX : Hid (appR st s.data.toList t.data.toList = (0, { st2 with fs := putL st2.fs s.data.toList (dt ++ t.data.toList, sf) })) := by
            show _ = _
            rw [hs2]
            simp only [appF, hjf]
          have HFL : Hid (st2.fs.length < 1000) := by show _ < _; rw [hf2]; omega
          have hdl : dt.length ≤ 1048576 := by
            have := hok.len (p := (nm, (dt, sf))) (by rw [← hf2, ← hx]; exact List.getElem_mem hj)
            have := hok.small
            simp only at *
            omega
          have HPK : Hid (∀ w', Below w2.heap.size w2 w' → Calls Tryz.prog 63 #[.pointer (some ⟨a, 0, none⟩), .string s] w' fun e w'' => e = .returned (.int .i64 (j : Int)) ∧ w'' = w') := fun w' hb => place_known _ Z a st2 v s (HR2.out.later hb) hj (by rw [hx]; exact hjn)
          have hrow := HR2.out.row
          obtain ⟨p, cap, rfl⟩ := own_form hrow
          obtain ⟨c0, c1, c2, c3, c4, cf⟩ := rcell5 HR2.out.cells
          obtain ⟨g, rfl, d0, d1, d2⟩ := row_at hrow hj
          rw [hx] at d0 d1 d2
          simp only at d0 d1 d2
          rw [hjn, str_arr] at d0
          obtain ⟨L, hL⟩ : ∃ L, st2.fs.length = L := ⟨_, rfl⟩
          rw [hL] at c1 hj
          have hji : (j : Int) < (L : Int) := by omega
          have la2 := World.block_lt_of_cell? _ _ c1
          have lg2 := World.block_lt_of_cell? _ _ d0
          have hys : (⟨dt.toArray⟩ : ByteArray).size = dt.length := by simp [ByteArray.size]
          have hsum : (⟨dt.toArray⟩ : ByteArray).size + t.size ≤ 9223372036854775807 := by omega
          clear hx hjn hjf hf2 hf2' hs2 hrow hL c0 c2 c3 c4
          go_wp2
          go_region_with (first | (go_at_call 63; refine (HPK.out _ (by (repeat (first | exact Below.refl _ _ | assumption | refine Below.drew ?_ | refine below_drewN ?_ _ | refine Below.alloc ?_ (by first | omega | (simp; done) | (simp; omega)) _ | refine Below.setCell ?_ (by first | omega | (simp; done) | (simp; omega)) _ | refine Below.trans ?_ (Below.mono (by assumption) (by first | omega | (simp; done) | (simp; omega))))))).mono ?_; rintro e w3 ⟨rfl, he3⟩; have he3' := he3.symm; subst he3'))
          all_goals go_wp2_with fail
          all_goals
            obtain ⟨w3, hw3⟩ : ∃ w3, w3 = (w2.alloc (.cells #[.string s, .string (ByteArray.append ⟨dt.toArray⟩ t), .int .i64 (sf : Int)] 65)).drew := ⟨_, rfl⟩
            have hb3 : Below w2.heap.size w2 w3 := by rw [hw3]; exact ((Below.refl _ _).alloc (Nat.le_refl _) _).drew
            change Calls _ _ #[_, .agg #[.string s, .string (ByteArray.append ⟨dt.toArray⟩ t), .int .i64 (sf : Int)]] (w2.alloc (.cells #[.string s, .string (ByteArray.append ⟨dt.toArray⟩ t), .int .i64 (sf : Int)] 65)).drew _
            rw [← hw3]
            clear hw3
            refine (puts_any w3 Z a st2 _ s (ByteArray.append ⟨dt.toArray⟩ t) sf (HR2.out.later hb3) (fun k hk => HZ2.out k (Nat.le_trans hb3.size hk)) HFL.out).mono ?_
            rintro e w6 ⟨rfl, ⟨v6, hr6⟩, ho6⟩
            rw [app_list dt t] at hr6
            have HR6 : Hid (RefAt w6 Z a _ v6) := hr6
            have HO6 : Hid (Only Z w w6) := (HO2.out.later hb3).trans ho6
            clear hr6 ho6 hb3
            go_wp2
            go_ret
            rw [HX.out]
            exact ⟨rfl, ⟨v6, HR6.out⟩, HO6.out⟩
        · have hb : (G != 0) = true := by simpa using hG
          have HX : Hid (appR st s.data.toList t.data.toList = (G, st2)) := HS1.out hG
          go_wp2
          go_ret
          rw [HX.out]
          exact ⟨rfl, ⟨v, HR2.out⟩, HO2.out⟩
      | false =>
        by_cases h64 : 64 ≤ st.fs.length
        · have h64i : (64 : Int) ≤ (st.fs.length : Int) := by omega
          have HRE : Hid (roomE st s.data.toList t.data.toList.length = 42) := by
            show _ = _
            unfold roomE
            rw [if_pos hn, if_pos (Or.inr ⟨hg, h64⟩)]
          clear hn hg hnr
          go_wp2_with fail
          refine (rstep_any w Z a st v 42 hst hlo hhi HD.out).mono ?_
          rintro e w2 ⟨rfl, hr2, ho2⟩
          have HNE : Hid ((stepR st 42 id).1 ≠ 0) := fun h0 => absurd (step_done (f := id) h0).1 (by decide)
          have HY : Hid (appR st s.data.toList t.data.toList = stepR st 42 id) := by
            show _ = _
            have : appR st s.data.toList t.data.toList = stepR st 42 (appF s.data.toList t.data.toList) := by rw [← HRE.out]; rfl
            rw [this]
            exact step_not HNE.out
          have HRR : Hid (RefAt w2 Z a (stepR st 42 id).2 v) := hr2
          have HO2 : Hid (Only Z w w2) := ho2
          obtain ⟨G, hG⟩ : ∃ G, (stepR st 42 id).1 = G := ⟨_, rfl⟩
          have HG : Hid ((stepR st 42 id).1 = G) := hG
          have hb : (G != 0) = true := by have := HNE.out; rw [hG] at this; simpa using this
          rw [hG]
          clear hG hr2 ho2
          go_wp2
          go_ret
          rw [HY.out, HG.out]
          exact ⟨rfl, ⟨v, HRR.out⟩, HO2.out⟩
        · have h64i : ¬ (64 : Int) ≤ (st.fs.length : Int) := by omega
          have HRE : Hid (roomE st s.data.toList t.data.toList.length = 0) := by
            show _ = _
            unfold roomE
            rw [if_pos hn, if_neg (by rintro (h | ⟨_, h⟩); exact hnr h; exact h64 h)]
          have HGN : Hid (getL st.fs s.data.toList = none) := by
            cases e : getL st.fs s.data.toList with
            | none => rfl
            | some y => rw [e] at hg; cases hg
          clear hn hg hnr
          go_wp2_with fail
          refine (rstep_any w Z a st v 0 hst hlo hhi HD.out).mono ?_
          rintro e w2 ⟨rfl, hr2, ho2⟩
          have HS0 : Hid ((stepR st 0 id).1 = 0 → (stepR st 0 id).2.fs = st.fs ∧ appR st s.data.toList t.data.toList = (0, { (stepR st 0 id).2 with fs := appF s.data.toList t.data.toList st.fs })) := fun h => by
            have h1 := (step_done (f := appF s.data.toList t.data.toList) h).2
            refine ⟨h1.1, ?_⟩
            rw [← h1.2, ← HRE.out]
            rfl
          have HS1 : Hid ((stepR st 0 id).1 ≠ 0 → appR st s.data.toList t.data.toList = stepR st 0 id) := fun h => by
            rw [← step_not (f := appF s.data.toList t.data.toList) h, ← HRE.out]
            rfl
          obtain ⟨r, hr⟩ : ∃ r, stepR st 0 id = r := ⟨_, rfl⟩
          rw [hr] at hr2 HS0 HS1 ⊢
          obtain ⟨G, st2⟩ := r
          have HR2 : Hid (RefAt w2 Z a st2 v) := hr2
          have HO2 : Hid (Only Z w w2) := ho2
          clear hr hr2 ho2
          by_cases hG : G = 0
          · obtain ⟨hf2', hs2⟩ := HS0.out hG
            have hf2 : st2.fs = st.fs := hf2'
            have hb : (G != 0) = false := by simp [hG]
            rw [← hf2] at hs2
            have HZ2 : Hid (∀ k, w2.heap.size ≤ k → Z k) := fun k hk => HZ.out k (Nat.le_trans HO2.out.size hk)
            have hgn : getL st2.fs s.data.toList = none := by rw [hf2]; exact HGN.out
            have HX : Hid (appR st s.data.toList t.data.toList = (0, { st2 with fs := putL st2.fs s.data.toList (t.data.toList, 0) })) := by
              show _ = _
              rw [hs2]
              simp only [appF, fileOf, hgn, Option.getD_none, List.nil_append]
            have HFL : Hid (st2.fs.length < 1000) := by show _ < _; rw [hf2]; omega
            clear hf2 hf2' hs2 hgn
            go_wp2_with fail
            obtain ⟨w3, hw3⟩ : ∃ w3, w3 = w2.alloc (.cells #[.string s, .string (ByteArray.append ⟨#[]⟩ t), .int .i64 0] 65) := ⟨_, rfl⟩
            have hb3 : Below w2.heap.size w2 w3 := by rw [hw3]; exact (Below.refl _ _).alloc (Nat.le_refl _) _
            change Calls _ _ #[_, .agg #[.string s, .string (ByteArray.append ⟨#[]⟩ t), .int .i64 0]] (w2.alloc (.cells #[.string s, .string (ByteArray.append ⟨#[]⟩ t), .int .i64 0] 65)) _
            rw [← hw3]
            clear hw3
            refine (puts_any w3 Z a st2 _ s (ByteArray.append ⟨#[]⟩ t) 0 (HR2.out.later hb3) (fun k hk => HZ2.out k (Nat.le_trans hb3.size hk)) HFL.out).mono ?_
            rintro e w6 ⟨rfl, ⟨v6, hr6⟩, ho6⟩
            rw [app_nil t] at hr6
            have HR6 : Hid (RefAt w6 Z a _ v6) := hr6
            have HO6 : Hid (Only Z w w6) := (HO2.out.later hb3).trans ho6
            clear hr6 ho6 hb3
            go_wp2
            go_ret
            rw [HX.out]
            exact ⟨rfl, ⟨v6, HR6.out⟩, HO6.out⟩
          · have hb : (G != 0) = true := by simpa using hG
            have HX : Hid (appR st s.data.toList t.data.toList = (G, st2)) := HS1.out hG
            go_wp2
            go_ret
            rw [HX.out]
            exact ⟨rfl, ⟨v, HR2.out⟩, HO2.out⟩
end Go.Proofs.YtckmjmpajbjbkaaGreatDoor
/- The document's functions of layer 4, tenth part: Files. -/
namespace Go.Proofs.YtckmjmpajbjbkaaGreatDoor
open Go Go.RowKit

theorem run_append_zero4 {P : Program} (w : World) (t ty e : TypeId) (i : TypeInfo) (ht : P.underlying t = some (.slice e)) (hi : P.info? e = some i) (base : Option Addr) (sLen sCap : Nat) (hle : sLen ≤ sCap) (a : Option Addr) (c : Nat) :
    (Builtin.append_ #[t, t] ty #[.slice base sLen sCap, .slice a 0 c]).run P w = .ok (.slice base sLen sCap) w := by
  have hl : ∀ (x : Addr), (loadCells x 0).run P w = .ok #[] w := fun x => by simpa using run_loadCells_list (P := P) w x [] (by simp)
  cases a <;> cases base <;> simp [Builtin.append_, run_underlying ht, sizeOf, typeInfo, hi, Builtin.lenOf, Builtin.firstCells, hle, storeCells, hl]

theorem wpList_append_whole4 {P : Program} (w : World) {ops : Array Oper} {rest : List Oper} {o : Oper} {a : Act} {Q : Exit → Act → World → Prop} (hgd : o.guard = none) (s x : Operand) (t : TypeId)
    (ho : o.op = .call { callee := .builtin .append, args := #[s, x], argTypes := #[t, t] })
    (base : Nat) (e : TypeId) (i : TypeInfo) (z : Value) (size bytes : Nat) (ht : P.underlying t = some (.slice e)) (hi : P.info? e = some i) (hz : i.zero = some z)
    (hsize : i.size = size) (hby : i.bytes = bytes) (hzs : z.cells.size = size) (hsz : 0 < size)
    (v : Value) (n : Nat) (xs : List Value) (hs : a.eval s = v) (hown : w.ownsRow base e size v n xs)
    (sp : Option Addr) (m c : Nat) (news : List Value) (hx : a.eval x = .slice sp m c) (hl : news.length = m * size) (hnews : 0 < news.length → ∃ ad, sp = some ad ∧ ∀ j u, news[j]? = some u → w.cell? (ad.add j) = some u) (h1 : ∀ u ∈ news, u.oneCell' = true)
    (h63 : n + m ≤ maxLen) (hbytes : (n + m) * bytes ≤ 140737488355328) (hbase : base ≤ w.heap.size)
    (h : ∀ v' w', w'.ownsRow base e size v' (n + m) (xs ++ news) → w.grownBy w' v.ownBlock → wpList P ops Q rest (a.put o.dst v') w') : wpList P ops Q (o :: rest) a w := by
  by_cases h0 : m = 0
  · subst h0
    have hn0 : news = [] := List.eq_nil_of_length_eq_zero (by simpa using hl)
    subst hn0
    have hsl : ∃ b l k, v = .slice b l k ∧ l ≤ k := by
      obtain ⟨_, ⟨rfl, _⟩ | ⟨g, cap, _, rfl, _, _, hle, _⟩⟩ := hown
      · exact ⟨none, 0, 0, rfl, Nat.le_refl _⟩
      · exact ⟨_, _, _, rfl, hle⟩
    obtain ⟨b, l, k, rfl, hlk⟩ := hsl
    refine wpList_plain hgd fun K hK => ?_
    have hrun := run_append_zero4 (P := P) w t o.type e i ht hi b l k hlk sp c
    unfold Oper.wp
    simp [execOp, ho, resolve, invoke, builtin, hs, hx, hrun, Result.andThen]
    exact hK _ _ (h _ w (by simpa using hown) (World.grownBy.refl _ _))
  · obtain ⟨ad, rfl, hc⟩ := hnews (by rw [hl]; exact Nat.mul_pos (by omega) hsz)
    exact wpList_append_own w hgd s x t ho base e i z size bytes ht hi hz hsize hby hzs hsz v n xs hs hown ad m c news hx hl hc h1 h63 hbytes hbase fun v' w' g1 g2 _ => h v' w' g1 g2

set_option maxHeartbeats 4000000 in
set_option maxRecDepth 100000 in
theorem rfiles_any (w : World) (Z : Nat → Prop) (a : Nat) (st : St) (v : Value) (h : RefAt w Z a st v) :
    Calls Tryz.prog 41 #[.pointer (some ⟨a, 0, none⟩)] w fun e w' => ∃ v', e = .returned v' ∧ w'.ownsRow w.heap.size 65 3 v' st.fs.length (fc st.fs) ∧ Below w.heap.size w w' := by
  obtain ⟨i0, hi, hz0, hz1, hz2⟩ := info_parts Tryz.infoFile
  obtain ⟨p, cap, rfl⟩ := own_form h.row
  obtain ⟨c0, c1, c2, c3, c4, cf⟩ := rcell5 h.cells
  have hfew := h.few
  obtain ⟨fs, hfs⟩ : ∃ fs, st.fs = fs := ⟨_, rfl⟩
  have hrow := h.row
  rw [hfs] at c1 hfew hrow
  simp only [hfs]
  have HN : Hid (0 < (fc fs).length → ∃ ad, p = some ad ∧ ∀ j u, (fc fs)[j]? = some u → w.cell? (ad.add j) = some u) := fun h0 => by
    have hc := fun g => hrow.cells (g := g)
    obtain ⟨_, ⟨_, e⟩ | ⟨g, cap', cur, e1, _⟩⟩ := hrow
    · rw [fc_length] at h0
      omega
    · simp only [Value.slice.injEq] at e1
      obtain ⟨rfl, _, rfl⟩ := e1
      exact ⟨_, rfl, fun j u hj => hc g rfl j u hj⟩
  clear h hfs hrow c0 c2 c3 c4
  go_enter Tryz.func41, Tryz.ntmps41
  go_wp2_with (first | (at_builtin; refine wpList_append_whole4 _ rfl _ _ 22 rfl w.heap.size 65 i0 _ 3 40 Tryz.underlying22 hi hz0 hz1 hz2 rfl (by decide) (.slice none 0 0) 0 [] rfl (World.ownsRow_nil _ _ _ _) p fs.length cap (fc fs) rfl (fc_length fs) HN.out (fc_one _) (by unfold maxLen; omega) (by omega) (Nat.le_refl _) ?_; intro v1 w1 hown1 hgrow1))
  have HO : Hid (w1.ownsRow w.heap.size 65 3 v1 fs.length (fc fs)) := by
    have := hown1
    rw [Nat.zero_add, List.nil_append] at this
    exact this
  have HB : Hid (Below w.heap.size w w1) := ⟨hgrow1.os, hgrow1.tape, hgrow1.output, hgrow1.size, fun k hk => hgrow1.block k hk (by simp [Value.ownBlock])⟩
  clear hown1 hgrow1
  go_wp2
  go_ret
  exact ⟨v1, rfl, HO.out, HB.out⟩
end Go.Proofs.YtckmjmpajbjbkaaGreatDoor
/- The document's functions of layer 4, eleventh part: Crash. -/
namespace Go.Proofs.YtckmjmpajbjbkaaGreatDoor
open Go.RowKit

theorem crash_at {ks : List Int} {q : Nat} {nm : Nm} {dt : List UInt8} {sf : Nat} {x : Int} {M : Nat} (hh : (ks.drop q).headD 0 = x) (hlt : sf < dt.length) (hM : min x.toNat (dt.length - sf) = M) : crashOne (ks.drop q) (nm, (dt, sf)) = (nm, (dt.take (sf + M), sf + M)) ∧ restOne (ks.drop q) (nm, (dt, sf)) = ks.drop (q + 1) := by
  have h := crashOne_tail (ks := ks.drop q) (p := (nm, (dt, sf))) (by simp only; omega)
  simp only [hh, keeps, hM] at h
  exact ⟨h.1, h.2.trans List.tail_drop⟩

set_option maxHeartbeats 8000000 in
set_option maxRecDepth 100000 in
theorem rcrash_any (w : World) (Z : Nat → Prop) (a : Nat) (st : St) (v : Value) (kp : Option Addr) (kcap : Nat) (ks : List Int) (h : RefAt w Z a st v) (hok : OKf st.size st.fs) (hk : Ints w kp ks) (hkl : ks.length ≤ 2147483648) (hkz : 0 < ks.length → ∀ b off, kp = some ⟨b, off, none⟩ → ¬ Z b) (hZ : ∀ k, w.heap.size ≤ k → Z k) :
    Calls Tryz.prog 34 #[.pointer (some ⟨a, 0, none⟩), .slice kp ks.length kcap] w fun e w' => e = .returned (.tuple #[]) ∧ (∃ v', RefAt w' Z a (crashR st ks) v') ∧ Only Z w w' := by
  obtain ⟨p, cap, rfl⟩ := own_form h.row
  have HD : Hid (RefAt w Z a st (.slice p st.fs.length cap)) := h
  have HZ : Hid (∀ k, w.heap.size ≤ k → Z k) := hZ
  have HOK : Hid (OKf st.size st.fs) := hok
  have HKZ : Hid (0 < ks.length → ∀ b off, kp = some ⟨b, off, none⟩ → ¬ Z b) := hkz
  have HK : Hid (Ints w kp ks) := hk
  have hfew := hok.few
  have hsm := hok.small
  obtain ⟨fs, hfs⟩ : ∃ fs, st.fs = fs := ⟨_, rfl⟩
  have HFS : Hid (st.fs = fs) := hfs
  have HROW : Hid (w.ownsRow 0 65 3 (.slice p fs.length cap) fs.length (fc (mid ks fs 0))) := by
    have := HD.out.row
    rw [hfs] at this
    rw [mid_zero]
    exact this
  have HCE : Hid (w.heap[a]? = some (.cells (rcells (.slice p fs.length cap) st) 79 (0, 0))) := by
    have := HD.out.cells
    rw [hfs] at this
    exact this
  rw [hfs] at hfew
  clear h hok hk hkz hZ hfs
  go_enter Tryz.func34, Tryz.ntmps34
  go_wp2
  go_loopw [4, 5] (fun c i wr => ∃ (i' q : Nat), i' ≤ fs.length ∧ q ≤ i' ∧ i = .int .i64 (i' : Int) ∧ c = .int .i64 (q : Int) ∧ restK ks (fs.take i') = ks.drop q ∧ wr.ownsRow 0 65 3 (.slice p fs.length cap) fs.length (fc (mid ks fs i')) ∧ wr.heap[a]? = some (.cells (rcells (.slice p fs.length cap) st) 79 (0, 0)) ∧ Only Z w wr) (fun _ i _ => fs.length - (intOf i).toNat)
  case atStart => exact ⟨0, 0, Nat.zero_le _, Nat.le_refl _, rfl, rfl, by simp [restK], HROW.out, HCE.out, Only.refl _ _⟩
  case round =>
    obtain ⟨i, q, hi, hq, rfl, rfl, hrest, hrow, hce, ho⟩ := hrel
    have HRS : Hid (restK ks (fs.take i) = ks.drop q) := hrest
    have HRW : Hid (wr.ownsRow 0 65 3 (.slice p fs.length cap) fs.length (fc (mid ks fs i))) := hrow
    have HC : Hid (wr.heap[a]? = some (.cells (rcells (.slice p fs.length cap) st) 79 (0, 0))) := hce
    have HO : Hid (Only Z w wr) := ho
    obtain ⟨c0, c1, c2, c3, c4, cf⟩ := rcell5 hce
    by_cases hlt : i < fs.length
    · have hlti : (i : Int) < (fs.length : Int) := by omega
      have hml : (mid ks fs i).length = fs.length := mid_length ks fs i
      have hil : i < (mid ks fs i).length := by omega
      have hmi : (mid ks fs i)[i] = fs[i] := by
        have := mid_at (ks := ks) hlt
        rw [List.getElem?_eq_getElem hil] at this
        simpa using this
      have hrow' : wr.ownsRow 0 65 3 (.slice p (mid ks fs i).length cap) (mid ks fs i).length (fc (mid ks fs i)) := by rw [hml]; exact hrow
      obtain ⟨g, rfl, d0, d1, d2⟩ := row_at hrow' hil
      obtain ⟨nm, dt, sf, hx⟩ : ∃ nm dt sf, fs[i] = (nm, (dt, sf)) := ⟨_, _, _, rfl⟩
      have hsf : sf ≤ dt.length := by
        have := HOK.out.safe fs[i] (by rw [HFS.out]; exact List.getElem_mem hlt)
        rw [hx] at this
        exact this
      have hdl : dt.length ≤ 1048576 := by
        have := HOK.out.len (p := fs[i]) (by rw [HFS.out]; exact List.getElem_mem hlt)
        rw [hx] at this
        simp only at this
        omega
      rw [hmi, hx] at d0 d1 d2
      simp only at d0 d1 d2
      have HST : Hid (∀ y, restOne (ks.drop q) fs[i] = y → restK ks (fs.take (i + 1)) = y) := fun y e => by rw [restK_succ hlt, HRS.out, e]
      have HMS : Hid ((mid ks fs i).set i (crashOne (ks.drop q) fs[i]) = mid ks fs (i + 1)) := by
        have := mid_set (ks := ks) hlt
        rw [HRS.out] at this
        exact this
      rw [hx] at HST HMS
      have df : ∀ o, wr.frozen? ⟨g, o, none⟩ = false := fun o => HRW.out.frozenAt o
      have hga : g ≠ a := fun e => by
        have := HD.out.ne
        rw [HFS.out] at this
        exact this (by rw [e]; rfl)
      have HZG : Hid (Z g) := HD.out.zone g (by rw [HFS.out]; rfl)
      have lg : g < wr.heap.size := World.block_lt_of_cell? _ _ d0
      have la : a < wr.heap.size := World.block_lt_of_cell? _ _ c1
      have hds : (⟨dt.toArray⟩ : ByteArray).size = dt.length := by simp [ByteArray.size]
      obtain ⟨D, hD⟩ : ∃ D : ByteArray, (⟨dt.toArray⟩ : ByteArray) = D := ⟨_, rfl⟩
      have HDD : Hid ((⟨dt.toArray⟩ : ByteArray) = D) := hD
      rw [hD] at d1 hds
      have HDS : Hid (D.size = dt.length) := hds
      have HIL : Hid (i < (mid ks fs i).length) := hil
      have HML : Hid ((mid ks fs i).length = fs.length) := hml
      have HLT : Hid (i < fs.length) := hlt
      have hsD : sf ≤ D.size := by omega
      have hDs : D.size ≤ 1048576 := by omega
      have HRX : Hid (wr.ownsRow 0 65 3 (.slice (some ⟨g, 0, none⟩) fs.length cap) fs.length (fc (mid ks fs i))) := HRW.out
      clear hmi hrow' hx hD hml hil hrow hce ho hrest hsf hdl c0 c2 c3 c4
      by_cases ht : sf < D.size
      · obtain ⟨T, hT⟩ : ∃ T, D.size - sf = T := ⟨_, rfl⟩
        have hTi : (D.size : Int) - (sf : Int) = (T : Int) := by omega
        have hT0 : (0 : Int) < (T : Int) := by omega
        have HT : Hid (D.size = sf + T) := by show _ = _; omega
        have hTl : T ≤ 1048576 := by omega
        clear hT
        by_cases hqk : q < ks.length
        · have hqi : (q : Int) < (ks.length : Int) := by omega
          obtain ⟨kb, koff, ekp, kc⟩ := HK.out q hqk
          have kc' : wr.cell? ⟨kb, koff + q, none⟩ = some (.int .i64 ks[q]) := by
            have hlb : kb < w.heap.size := World.block_lt_of_cell? _ _ kc
            have := HO.out.block kb hlb (HKZ.out (by omega) kb koff ekp)
            simp only [World.cell?] at kc ⊢
            rw [this]
            exact kc
          obtain ⟨x, hxk⟩ : ∃ x, ks[q] = x := ⟨_, rfl⟩
          rw [hxk] at kc'
          subst ekp
          clear kc hds
          have HHD : Hid ((ks.drop q).headD 0 = x) := by show _ = _; rw [List.drop_eq_getElem_cons hqk, ← hxk]; rfl
          clear hxk
          have lkb : kb < wr.heap.size := World.block_lt_of_cell? _ _ kc'
          by_cases hx0 : x < 0
          · have HX : Hid (crashOne (ks.drop q) (nm, (dt, sf)) = (nm, (dt.take (sf), sf)) ∧ restOne (ks.drop q) (nm, (dt, sf)) = ks.drop (q + 1)) := crash_at (x := x) (M := 0) HHD.out (by have := HDS.out; omega) (by have := HDS.out; omega)
            go_wp2
            go_region
            all_goals
              have hfr : (⟨(dt.take (sf)).toArray⟩ : ByteArray) = D.extract 0 (sf) := by rw [front, ← HDD.out]
              have hr := row_store HRX.out HIL.out (nm, (dt.take (sf), sf))
              simp only [hfr] at hr
              rw [← HX.out.1, HMS.out] at hr
              obtain ⟨W3, hW3⟩ : ∃ W3, W3 = ((wr.setCell ⟨g, i * 3, none⟩ (.string ⟨nm.toArray⟩)).setCell ⟨g, i * 3 + 1, none⟩ (.string (D.extract 0 (sf)))).setCell ⟨g, i * 3 + 2, none⟩ (.int .i64 ((sf : Nat) : Int)) := ⟨_, rfl⟩
              have hb3 : ∀ o, Below W3.heap.size W3 (W3.alloc o).drew := fun o => ((Below.refl _ _).alloc (Nat.le_refl _) _).drew
              have HNW : Hid (∀ o, (W3.alloc o).drew.ownsRow 0 65 3 (.slice (some ⟨g, 0, none⟩) fs.length cap) fs.length (fc (mid ks fs (i + 1)))) := fun o => own_later (by rw [hW3]; exact hr) (hb3 o)
              have HCN : Hid (∀ o, (W3.alloc o).drew.heap[a]? = some (.cells (rcells (.slice (some ⟨g, 0, none⟩) fs.length cap) st) 79 (0, 0))) := fun o => by
                have e : W3.heap[a]? = wr.heap[a]? := by rw [hW3, Below.heap_setCell _ _ _ _ (Ne.symm hga), Below.heap_setCell _ _ _ _ (Ne.symm hga), Below.heap_setCell _ _ _ _ (Ne.symm hga)]
                exact ((hb3 o).block a (Array.getElem?_eq_some_iff.1 (e.trans HC.out)).1).trans (e.trans HC.out)
              have HON : Hid (∀ o, Only Z w (W3.alloc o).drew) := fun o => Only.later (by rw [hW3]; exact ((HO.out.setCell (p := ⟨g, i * 3, none⟩) HZG.out _).setCell (p := ⟨g, i * 3 + 1, none⟩) HZG.out _).setCell (p := ⟨g, i * 3 + 2, none⟩) HZG.out _) (hb3 o)
              rw [← hW3]
              clear hr hW3 hb3 hfr
              go_wp2
              go_roundw
              case rel => exact ⟨i + 1, q + 1, HLT.out, by omega, by go_num, by first | rfl | go_num, HST.out _ HX.out.2, HNW.out _, HCN.out _, HON.out _⟩
              case measure => have := HLT.out; simp [intOf]; omega
          · obtain ⟨m, hm⟩ : ∃ m : Nat, x = (m : Int) := ⟨x.toNat, by omega⟩
            subst hm
            by_cases hxT : T < m
            · have hxTi : (T : Int) < (m : Int) := by omega
              have HX : Hid (crashOne (ks.drop q) (nm, (dt, sf)) = (nm, (dt.take (sf + T), sf + T)) ∧ restOne (ks.drop q) (nm, (dt, sf)) = ks.drop (q + 1)) := crash_at (x := (m : Int)) (M := T) HHD.out (by have := HDS.out; omega) (by have := HDS.out; have := HT.out; omega)
              go_wp2
              go_region
              all_goals
                have hmn : min (sf + T) D.size = sf + T := by have := HT.out; omega
                rw [hmn]
                have hfr : (⟨(dt.take (sf + T)).toArray⟩ : ByteArray) = D.extract 0 (sf + T) := by rw [front, ← HDD.out]
                have hr := row_store HRX.out HIL.out (nm, (dt.take (sf + T), sf + T))
                simp only [hfr] at hr
                rw [← HX.out.1, HMS.out] at hr
                obtain ⟨W3, hW3⟩ : ∃ W3, W3 = ((wr.setCell ⟨g, i * 3, none⟩ (.string ⟨nm.toArray⟩)).setCell ⟨g, i * 3 + 1, none⟩ (.string (D.extract 0 (sf + T)))).setCell ⟨g, i * 3 + 2, none⟩ (.int .i64 ((sf + T : Nat) : Int)) := ⟨_, rfl⟩
                have hb3 : ∀ o, Below W3.heap.size W3 (W3.alloc o).drew := fun o => ((Below.refl _ _).alloc (Nat.le_refl _) _).drew
                have HNW : Hid (∀ o, (W3.alloc o).drew.ownsRow 0 65 3 (.slice (some ⟨g, 0, none⟩) fs.length cap) fs.length (fc (mid ks fs (i + 1)))) := fun o => own_later (by rw [hW3]; exact hr) (hb3 o)
                have HCN : Hid (∀ o, (W3.alloc o).drew.heap[a]? = some (.cells (rcells (.slice (some ⟨g, 0, none⟩) fs.length cap) st) 79 (0, 0))) := fun o => by
                  have e : W3.heap[a]? = wr.heap[a]? := by rw [hW3, Below.heap_setCell _ _ _ _ (Ne.symm hga), Below.heap_setCell _ _ _ _ (Ne.symm hga), Below.heap_setCell _ _ _ _ (Ne.symm hga)]
                  exact ((hb3 o).block a (Array.getElem?_eq_some_iff.1 (e.trans HC.out)).1).trans (e.trans HC.out)
                have HON : Hid (∀ o, Only Z w (W3.alloc o).drew) := fun o => Only.later (by rw [hW3]; exact ((HO.out.setCell (p := ⟨g, i * 3, none⟩) HZG.out _).setCell (p := ⟨g, i * 3 + 1, none⟩) HZG.out _).setCell (p := ⟨g, i * 3 + 2, none⟩) HZG.out _) (hb3 o)
                rw [← hW3]
                clear hr hW3 hb3 hfr
                go_wp2
                go_roundw
                case rel => exact ⟨i + 1, q + 1, HLT.out, by omega, by go_num, by first | rfl | go_num, HST.out _ HX.out.2, HNW.out _, HCN.out _, HON.out _⟩
                case measure => have := HLT.out; simp [intOf]; omega
            · have hxTi : ¬ (T : Int) < (m : Int) := by omega
              have HX : Hid (crashOne (ks.drop q) (nm, (dt, sf)) = (nm, (dt.take (sf + m), sf + m)) ∧ restOne (ks.drop q) (nm, (dt, sf)) = ks.drop (q + 1)) := crash_at (x := (m : Int)) (M := m) HHD.out (by have := HDS.out; omega) (by have := HDS.out; have := HT.out; omega)
              go_wp2
              go_region
              all_goals
                have hmn : min (sf + m) D.size = sf + m := by have := HT.out; omega
                rw [hmn]
                have hfr : (⟨(dt.take (sf + m)).toArray⟩ : ByteArray) = D.extract 0 (sf + m) := by rw [front, ← HDD.out]
                have hr := row_store HRX.out HIL.out (nm, (dt.take (sf + m), sf + m))
                simp only [hfr] at hr
                rw [← HX.out.1, HMS.out] at hr
                obtain ⟨W3, hW3⟩ : ∃ W3, W3 = ((wr.setCell ⟨g, i * 3, none⟩ (.string ⟨nm.toArray⟩)).setCell ⟨g, i * 3 + 1, none⟩ (.string (D.extract 0 (sf + m)))).setCell ⟨g, i * 3 + 2, none⟩ (.int .i64 ((sf + m : Nat) : Int)) := ⟨_, rfl⟩
                have hb3 : ∀ o, Below W3.heap.size W3 (W3.alloc o).drew := fun o => ((Below.refl _ _).alloc (Nat.le_refl _) _).drew
                have HNW : Hid (∀ o, (W3.alloc o).drew.ownsRow 0 65 3 (.slice (some ⟨g, 0, none⟩) fs.length cap) fs.length (fc (mid ks fs (i + 1)))) := fun o => own_later (by rw [hW3]; exact hr) (hb3 o)
                have HCN : Hid (∀ o, (W3.alloc o).drew.heap[a]? = some (.cells (rcells (.slice (some ⟨g, 0, none⟩) fs.length cap) st) 79 (0, 0))) := fun o => by
                  have e : W3.heap[a]? = wr.heap[a]? := by rw [hW3, Below.heap_setCell _ _ _ _ (Ne.symm hga), Below.heap_setCell _ _ _ _ (Ne.symm hga), Below.heap_setCell _ _ _ _ (Ne.symm hga)]
                  exact ((hb3 o).block a (Array.getElem?_eq_some_iff.1 (e.trans HC.out)).1).trans (e.trans HC.out)
                have HON : Hid (∀ o, Only Z w (W3.alloc o).drew) := fun o => Only.later (by rw [hW3]; exact ((HO.out.setCell (p := ⟨g, i * 3, none⟩) HZG.out _).setCell (p := ⟨g, i * 3 + 1, none⟩) HZG.out _).setCell (p := ⟨g, i * 3 + 2, none⟩) HZG.out _) (hb3 o)
                rw [← hW3]
                clear hr hW3 hb3 hfr
                go_wp2
                go_roundw
                case rel => exact ⟨i + 1, q + 1, HLT.out, by omega, by go_num, by first | rfl | go_num, HST.out _ HX.out.2, HNW.out _, HCN.out _, HON.out _⟩
                case measure => have := HLT.out; simp [intOf]; omega
        · have hqi : ¬ (q : Int) < (ks.length : Int) := by omega
          clear hds
          have HX : Hid (crashOne (ks.drop q) (nm, (dt, sf)) = (nm, (dt.take (sf), sf)) ∧ restOne (ks.drop q) (nm, (dt, sf)) = ks.drop (q + 1)) := crash_at (x := 0) (M := 0) (by rw [List.drop_eq_nil_of_le (by omega)]; rfl) (by have := HDS.out; omega) (by have := HDS.out; simp)
          go_wp2
          go_region
          all_goals
            have hfr : (⟨(dt.take (sf)).toArray⟩ : ByteArray) = D.extract 0 (sf) := by rw [front, ← HDD.out]
            have hr := row_store HRX.out HIL.out (nm, (dt.take (sf), sf))
            simp only [hfr] at hr
            rw [← HX.out.1, HMS.out] at hr
            obtain ⟨W3, hW3⟩ : ∃ W3, W3 = ((wr.setCell ⟨g, i * 3, none⟩ (.string ⟨nm.toArray⟩)).setCell ⟨g, i * 3 + 1, none⟩ (.string (D.extract 0 (sf)))).setCell ⟨g, i * 3 + 2, none⟩ (.int .i64 ((sf : Nat) : Int)) := ⟨_, rfl⟩
            have hb3 : ∀ o, Below W3.heap.size W3 (W3.alloc o).drew := fun o => ((Below.refl _ _).alloc (Nat.le_refl _) _).drew
            have HNW : Hid (∀ o, (W3.alloc o).drew.ownsRow 0 65 3 (.slice (some ⟨g, 0, none⟩) fs.length cap) fs.length (fc (mid ks fs (i + 1)))) := fun o => own_later (by rw [hW3]; exact hr) (hb3 o)
            have HCN : Hid (∀ o, (W3.alloc o).drew.heap[a]? = some (.cells (rcells (.slice (some ⟨g, 0, none⟩) fs.length cap) st) 79 (0, 0))) := fun o => by
              have e : W3.heap[a]? = wr.heap[a]? := by rw [hW3, Below.heap_setCell _ _ _ _ (Ne.symm hga), Below.heap_setCell _ _ _ _ (Ne.symm hga), Below.heap_setCell _ _ _ _ (Ne.symm hga)]
              exact ((hb3 o).block a (Array.getElem?_eq_some_iff.1 (e.trans HC.out)).1).trans (e.trans HC.out)
            have HON : Hid (∀ o, Only Z w (W3.alloc o).drew) := fun o => Only.later (by rw [hW3]; exact ((HO.out.setCell (p := ⟨g, i * 3, none⟩) HZG.out _).setCell (p := ⟨g, i * 3 + 1, none⟩) HZG.out _).setCell (p := ⟨g, i * 3 + 2, none⟩) HZG.out _) (hb3 o)
            rw [← hW3]
            clear hr hW3 hb3 hfr
            go_wp2
            go_roundw
            case rel => exact ⟨i + 1, q + 1, HLT.out, by omega, by go_num, by first | rfl | go_num, HST.out _ HX.out.2, HNW.out _, HCN.out _, HON.out _⟩
            case measure => have := HLT.out; simp [intOf]; omega
      · have hT0 : ¬ (0 : Int) < (D.size : Int) - (sf : Int) := by omega
        have hsi : sf = D.size := by omega
        have HX : Hid (crashOne (ks.drop q) (nm, (dt, sf)) = (nm, (dt, dt.length)) ∧ restOne (ks.drop q) (nm, (dt, sf)) = ks.drop q) := crashOne_none (by simp only; omega)
        go_wp2
        go_region
        all_goals
          have hr := row_store HRX.out HIL.out (nm, (dt, dt.length))
          simp only [HDD.out] at hr
          rw [← HX.out.1, HMS.out] at hr
          obtain ⟨W3, hW3⟩ : ∃ W3, W3 = ((wr.setCell ⟨g, i * 3, none⟩ (.string ⟨nm.toArray⟩)).setCell ⟨g, i * 3 + 1, none⟩ (.string D)).setCell ⟨g, i * 3 + 2, none⟩ (.int .i64 (dt.length : Int)) := ⟨_, rfl⟩
          have hb3 : ∀ o, Below W3.heap.size W3 (W3.alloc o).drew := fun o => ((Below.refl _ _).alloc (Nat.le_refl _) _).drew
          have HNW : Hid (∀ o, (W3.alloc o).drew.ownsRow 0 65 3 (.slice (some ⟨g, 0, none⟩) fs.length cap) fs.length (fc (mid ks fs (i + 1)))) := fun o => own_later (by rw [hW3]; exact hr) (hb3 o)
          have HCN : Hid (∀ o, (W3.alloc o).drew.heap[a]? = some (.cells (rcells (.slice (some ⟨g, 0, none⟩) fs.length cap) st) 79 (0, 0))) := fun o => by
            have e : W3.heap[a]? = wr.heap[a]? := by rw [hW3, Below.heap_setCell _ _ _ _ (Ne.symm hga), Below.heap_setCell _ _ _ _ (Ne.symm hga), Below.heap_setCell _ _ _ _ (Ne.symm hga)]
            exact ((hb3 o).block a (Array.getElem?_eq_some_iff.1 (e.trans HC.out)).1).trans (e.trans HC.out)
          have HON : Hid (∀ o, Only Z w (W3.alloc o).drew) := fun o => Only.later (by rw [hW3]; exact ((HO.out.setCell (p := ⟨g, i * 3, none⟩) HZG.out _).setCell (p := ⟨g, i * 3 + 1, none⟩) HZG.out _).setCell (p := ⟨g, i * 3 + 2, none⟩) HZG.out _) (hb3 o)
          rw [← hW3]
          clear hr hW3 hb3
          go_wp2
          go_roundw
          case rel => exact ⟨i + 1, q, HLT.out, by omega, by go_num, by first | rfl | go_num, HST.out _ HX.out.2, HNW.out _, HCN.out _, HON.out _⟩
          case measure => have := HLT.out; simp [intOf]; omega
    · have hi' : i = fs.length := by omega
      subst hi'
      rw [mid_end] at hrow
      have HRW2 : Hid (wr.ownsRow 0 65 3 (.slice p fs.length cap) fs.length (fc (crashL ks fs))) := hrow
      clear hrow hce ho hrest HRW
      go_wp2
      go_end0
      have hne : ∀ g, (Value.slice p fs.length cap).ownBlock = some g → g ≠ a := fun g e e' => by
        have := HD.out.ne
        rw [HFS.out] at this
        exact this (by rw [← e']; exact e)
      have hL : (crashL ks fs).length = fs.length := crashL_length ks fs
      refine ⟨rfl, ⟨.slice p fs.length cap, ?_, HD.out.za, ?_, fun g e => HD.out.zone g (by rw [HFS.out]; exact e), ?_, ?_⟩, (HO.out.setCell HD.out.za _).setCell HD.out.za _⟩
      · rw [heap_setCell_same _ a 2 _ _ _ (heap_setCell_same wr a 3 _ _ _ HC.out)]
        rfl
      · show World.ownsRow _ 0 65 3 _ (crashL ks st.fs).length (fc (crashL ks st.fs))
        rw [HFS.out, hL]
        exact own_kept HRW2.out (fun g e => (Below.heap_setCell _ _ _ _ (hne g e)).trans (Below.heap_setCell _ _ _ _ (hne g e)))
      · have := (HOK.out.crash ks).sorted
        exact this
      · show (crashL ks st.fs).length ≤ 1000
        rw [HFS.out, hL]
        omega
end Go.Proofs.YtckmjmpajbjbkaaGreatDoor
/- Walks of layer 4: the program's disk and the document's side by side. -/
namespace Go.Proofs.YtckmjmpajbjbkaaGreatDoor
open Go.RowKit

/-- The program's disk at a, the document's at c: what may turn of the one is none of the other's; all of it lies from B on, and none of it in N. -/
structure Both (B : Nat) (N : Nat → Prop) (w : World) (a c : Nat) (sd sr : St) : Prop where
  base : B ≤ w.heap.size
  two : ∃ (Zd Zr : Nat → Prop) (v : Value), IsDisk w Zd a sd ∧ RefAt w Zr c sr v ∧ (∀ k, Zd k → Zr k → False) ∧ (∀ k, Zd k → B ≤ k ∧ k < w.heap.size) ∧ (∀ k, Zr k → B ≤ k ∧ k < w.heap.size) ∧ ∀ k, N k → k < w.heap.size ∧ ¬ Zd k ∧ ¬ Zr k

theorem Both.more {B : Nat} {N : Nat → Prop} {w w' : World} {a c : Nat} {sd sr : St} (h : Both B N w a c sd sr) (hb : Below w.heap.size w w') : Both B (fun k => N k ∨ (w.heap.size ≤ k ∧ k < w'.heap.size)) w' a c sd sr := by
  obtain ⟨h0, Zd, Zr, v, h1, h2, h3, h4, h5, h6⟩ := h
  have := hb.size
  refine ⟨by omega, Zd, Zr, v, h1.later hb, h2.later hb, h3, fun k hk => by have := h4 k hk; omega, fun k hk => by have := h5 k hk; omega, fun k hk => ?_⟩
  rcases hk with hk | hk
  · obtain ⟨g1, g2⟩ := h6 k hk
    exact ⟨by omega, g2⟩
  · exact ⟨hk.2, fun e => by have := h4 k e; omega, fun e => by have := h5 k e; omega⟩
theorem Both.less {B : Nat} {N N' : Nat → Prop} {w : World} {a c : Nat} {sd sr : St} (h : Both B N w a c sd sr) (hn : ∀ k, N' k → N k) : Both B N' w a c sd sr := by
  obtain ⟨h0, Zd, Zr, v, h1, h2, h3, h4, h5, h6⟩ := h
  exact ⟨h0, Zd, Zr, v, h1, h2, h3, h4, h5, fun k hk => h6 k (hn k hk)⟩
theorem Both.later {B : Nat} {N : Nat → Prop} {w w' : World} {a c : Nat} {sd sr : St} (h : Both B N w a c sd sr) (hb : Below w.heap.size w w') : Both B N w' a c sd sr := (h.more hb).less fun _ hk => Or.inl hk
theorem Both.kept {B : Nat} {N : Nat → Prop} {w w' : World} {a c : Nat} {sd sr : St} (h : Both B N w a c sd sr) (hs : w.heap.size ≤ w'.heap.size) (hk : ∀ k, B ≤ k → k < w.heap.size → w'.heap[k]? = w.heap[k]?) : Both B N w' a c sd sr := by
  obtain ⟨h0, Zd, Zr, v, h1, h2, h3, h4, h5, h6⟩ := h
  exact ⟨by omega, Zd, Zr, v, h1.kept fun k hl hz => hk k (h4 k hz).1 hl, h2.kept fun k hl hz => hk k (h5 k hz).1 hl, h3, fun k hz => by have := h4 k hz; omega, fun k hz => by have := h5 k hz; omega, fun k hz => by have := h6 k hz; exact ⟨by omega, this.2⟩⟩
/-- What a step of the program's disk, of the document's, leaves of both. -/
def DStep (B : Nat) (N : Nat → Prop) (w : World) (a c : Nat) (sr : St) (Z : Nat → Prop) : Prop := ∀ w1 sd', IsDisk w1 Z a sd' → Only Z w w1 → Both B N w1 a c sd' sr ∧ Below B w w1 ∧ ∀ k, N k → w1.heap[k]? = w.heap[k]?
def RStep (B : Nat) (N : Nat → Prop) (w : World) (a c : Nat) (sd : St) (Z : Nat → Prop) : Prop := ∀ w1 sr', (∃ v', RefAt w1 Z c sr' v') → Only Z w w1 → Both B N w1 a c sd sr' ∧ Below B w w1 ∧ ∀ k, N k → w1.heap[k]? = w.heap[k]?
/-- A step of the program's disk. -/
theorem Both.disk {B : Nat} {N : Nat → Prop} {w : World} {a c : Nat} {sd sr : St} (h : Both B N w a c sd sr) :
    ∃ Z : Nat → Prop, IsDisk w Z a sd ∧ (∀ k, w.heap.size ≤ k → Z k) ∧ DStep B N w a c sr Z := by
  obtain ⟨h0, Zd, Zr, v, h1, h2, h3, h4, h5, h6⟩ := h
  refine ⟨fun k => Zd k ∨ w.heap.size ≤ k, h1.mono fun k _ hk => Or.inl hk, fun k hk => Or.inr hk, fun w1 sd' hd ho => ⟨?_, ho.below h0 fun k hk e => ?_, fun k hk => ho.block k (h6 k hk).1 fun e => ?_⟩⟩
  · have hs := ho.size
    refine ⟨by omega, fun k => (Zd k ∨ w.heap.size ≤ k) ∧ k < w1.heap.size, Zr, v, hd.mono fun k hk hz => ⟨hz, hk⟩, h2.kept fun k hk hz => ho.block k hk fun e => ?_, fun k e hz => ?_, fun k hk => ⟨?_, hk.2⟩, fun k hk => by have := h5 k hk; omega, fun k hk => ?_⟩
    · rcases e with e | e
      · exact h3 k e hz
      · have := h5 k hz; omega
    · rcases e.1 with e | e
      · exact h3 k e hz
      · have := h5 k hz; omega
    · rcases hk.1 with e | e
      · exact (h4 k e).1
      · omega
    · obtain ⟨g1, g2, g3⟩ := h6 k hk
      refine ⟨by omega, fun e => ?_, g3⟩
      rcases e.1 with e | e
      · exact g2 e
      · omega
  · rcases e with e | e
    · have := h4 k e; omega
    · omega
  · obtain ⟨g1, g2, _⟩ := h6 k hk
    rcases e with e | e
    · exact g2 e
    · omega
/-- A step of the document's. -/
theorem Both.ref {B : Nat} {N : Nat → Prop} {w : World} {a c : Nat} {sd sr : St} (h : Both B N w a c sd sr) :
    ∃ (Z : Nat → Prop) (v : Value), RefAt w Z c sr v ∧ (∀ k, w.heap.size ≤ k → Z k) ∧ (∀ k, Z k → B ≤ k) ∧ RStep B N w a c sd Z := by
  obtain ⟨h0, Zd, Zr, v, h1, h2, h3, h4, h5, h6⟩ := h
  have hZB : ∀ k, (Zr k ∨ w.heap.size ≤ k) → B ≤ k := fun k hk => by
    rcases hk with e | e
    · exact (h5 k e).1
    · omega
  refine ⟨fun k => Zr k ∨ w.heap.size ≤ k, v, h2.mono fun k _ hk => Or.inl hk, fun k hk => Or.inr hk, hZB, fun w1 sr' hr ho => ⟨?_, ho.below h0 fun k hk e => ?_, fun k hk => ho.block k (h6 k hk).1 fun e => ?_⟩⟩
  · obtain ⟨v', hr⟩ := hr
    have hs := ho.size
    refine ⟨by omega, Zd, fun k => (Zr k ∨ w.heap.size ≤ k) ∧ k < w1.heap.size, v', h1.kept fun k hk hz => ho.block k hk fun e => ?_, hr.mono fun k hk hz => ⟨hz, hk⟩, fun k hz e => ?_, fun k hk => by have := h4 k hk; omega, fun k hk => ⟨hZB k hk.1, hk.2⟩, fun k hk => ?_⟩
    · rcases e with e | e
      · exact h3 k hz e
      · have := h4 k hz; omega
    · rcases e.1 with e | e
      · exact h3 k hz e
      · have := h4 k hz; omega
    · obtain ⟨g1, g2, g3⟩ := h6 k hk
      refine ⟨by omega, g2, fun e => ?_⟩
      rcases e.1 with e | e
      · exact g3 e
      · omega
  · have := hZB k e; omega
  · obtain ⟨g1, _, g3⟩ := h6 k hk
    rcases e with e | e
    · exact g3 e
    · omega
theorem Both.ok {B : Nat} {N : Nat → Prop} {w : World} {a c : Nat} {sd sr : St} (h : Both B N w a c sd sr) : OKs sd := by
  obtain ⟨_, Zd, Zr, v, h1, _⟩ := h
  exact h1.ok
end Go.Proofs.YtckmjmpajbjbkaaGreatDoor
