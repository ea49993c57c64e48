/- Walks of layer 4, tenth part: names, Files. -/
import Derived.Test.YtckmjmpajbjbkaaGreatDoorD9
namespace Go.Proofs.YtckmjmpajbjbkaaGreatDoor
open Go.RowKit

theorem Tryz.infoFile : (Tryz.prog.info? 65).map (fun i => (i.zero, i.size, i.bytes)) = some (some (.agg #[.string ⟨#[]⟩, .string ⟨#[]⟩, .int .i64 0]), 3, 40) := by kernel_rfl

set_option maxHeartbeats 4000000 in
set_option maxRecDepth 100000 in
theorem names_any (w : World) (Z : Nat → Prop) (a : Nat) (st : St) (h : IsDisk w Z a st) :
    Calls Tryz.prog 49 #[.pointer (some ⟨a, 0, none⟩)] w fun e w' => ∃ v, e = .returned v ∧ w'.ownsRow w.heap.size 9 1 v st.fs.length (st.fs.map fun p => encStr p.1) ∧ Below w.heap.size w w' := by
  obtain ⟨b, es, h⟩ := h
  obtain ⟨c0, c1, c2, c3, c4, cf⟩ := cell5 h.cells
  have HD : Hid (DiskAt w Z a st b es) := h
  have hfew := h.ok.files.few
  rw [h.count] at hfew
  clear h
  go_enter Tryz.func49, Tryz.ntmps49
  go_wp2_with (first
    | (go_at_call 79; refine (callsIn_wide.1 (Tryz.maps_Keys_79 _ _)).mono ?_; rintro e w' ⟨rfl, rfl⟩)
    | (go_at_call 78; refine (callsIn_wide.1 (Tryz.slices_Sorted_keys_78_79 b es.length _ rawE w HD.out.held.map (by rw [mapD_size, mapL_length]; unfold maxLen; omega) (by rw [mapD_size, mapL_length]; omega))).mono ?_; rintro e w' ⟨v, ss, rfl, hS, hrow, hnil, hb⟩))
  go_ret
  refine ⟨v, rfl, ?_, ((Below.refl _ w).alloc (Nat.le_refl _) _).trans (hb.mono (by simp))⟩
  have h := HD.out
  rw [mapD_keys] at hS
  have e1 : (mapL Fil.raw es).map (·.1) = st.fs.map (·.1) := by
    rw [h.files]
    simp [mapL]
  rw [e1] at hS
  have hl := hS.length_eq
  rw [List.length_map] at hl
  rw [keys_sorted h.ok.files.sorted hS, hl, List.map_map] at hrow
  have := ownsRow_base_a hrow (base' := w.heap.size) (by simp)
  exact this

/-- The cells of files. -/
def fcell (p : Nm × Fl) : List Value := [.string ⟨p.1.toArray⟩, .string ⟨p.2.1.toArray⟩, .int .i64 (p.2.2 : Int)]
def fc : Fs → List Value
  | [] => []
  | p :: r => .string ⟨p.1.toArray⟩ :: .string ⟨p.2.1.toArray⟩ :: .int .i64 (p.2.2 : Int) :: fc r
theorem fc_append : ∀ l m : Fs, fc (l ++ m) = fc l ++ fc m
  | [], _ => rfl
  | p :: r, m => by simp [fc, fc_append r m]
theorem fc_length : ∀ l : Fs, (fc l).length = l.length * 3
  | [] => rfl
  | p :: r => by simp only [fc, List.length_cons, fc_length r]; omega
theorem fc_one : ∀ l : Fs, ∀ u ∈ fc l, u.oneCell' = true
  | [], u, h => by cases h
  | p :: r, u, h => by
    simp only [fc, List.mem_cons] at h
    rcases h with rfl | rfl | rfl | h
    · rfl
    · rfl
    · rfl
    · exact fc_one r u h
theorem fc_take (l : Fs) (k : Nat) (h : k < l.length) : fc (l.take (k + 1)) = fc (l.take k) ++ fc [l[k]] := by
  rw [List.take_succ_eq_append_getElem h, fc_append]
theorem own_form {w : World} {base n : Nat} {e : TypeId} {size : Nat} {v : Value} {xs : List Value} (h : w.ownsRow base e size v n xs) : ∃ p cap, v = .slice p n cap := by
  obtain ⟨_, ⟨rfl, rfl⟩ | ⟨g, cap, cur, rfl, _⟩⟩ := h
  · exact ⟨none, 0, rfl⟩
  · exact ⟨_, cap, rfl⟩
theorem own_elem {w : World} {base n : Nat} {e : TypeId} {p : Option Addr} {cap : Nat} {xs : List Value} (h : w.ownsRow base e 1 (.slice p n cap) n xs) (k : Nat) (hk : k < xs.length) : ∃ g, p = some ⟨g, 0, none⟩ ∧ base ≤ g ∧ (∃ cur, w.heap[g]? = some (.cells cur e (0, 0))) ∧ w.cell? ⟨g, k, none⟩ = some xs[k] := by
  have hc := fun g => h.cells (g := g)
  obtain ⟨hl, ⟨_, rfl⟩ | ⟨g, cap', cur, e1, hb, hg, _⟩⟩ := h
  · omega
  · simp only [Value.slice.injEq] at e1
    obtain ⟨rfl, _, rfl⟩ := e1
    refine ⟨g, rfl, hb, ⟨cur, hg⟩, ?_⟩
    have := hc g rfl k _ (List.getElem?_eq_getElem hk)
    rw [Addr.add_lit, Nat.zero_add] at this
    exact this
theorem own_kept {w w' : World} {base n : Nat} {e : TypeId} {size : Nat} {v : Value} {xs : List Value} (h : w.ownsRow base e size v n xs) (hk : ∀ g, v.ownBlock = some g → w'.heap[g]? = w.heap[g]?) : w'.ownsRow base e size v n xs := by
  obtain ⟨h1, h2 | ⟨g, cap, cur, rfl, a, b, c⟩⟩ := h
  · exact ⟨h1, Or.inl h2⟩
  · exact ⟨h1, Or.inr ⟨g, cap, cur, rfl, a, (hk g rfl).trans b, c⟩⟩
theorem own_later {w w' : World} {B : Nat} {e : TypeId} {size : Nat} {v : Value} {n : Nat} {xs : List Value} (h : w.ownsRow B e size v n xs) (hb : Below w.heap.size w w') : w'.ownsRow B e size v n xs := by
  have hl := h.lt
  exact own_kept h fun g hg => hb.block g (hl g hg).2
/-- Rows of other elements lie in other blocks. -/
theorem own_apart {w : World} {base base' n n' : Nat} {e e' : TypeId} {size size' : Nat} {v v' : Value} {xs xs' : List Value} (h : w.ownsRow base e size v n xs) (h' : w.ownsRow base' e' size' v' n' xs') (he : e ≠ e') {g : Nat} (hg : v.ownBlock = some g) : v'.ownBlock ≠ some g := by
  intro hg'
  obtain ⟨_, ⟨rfl, _⟩ | ⟨g1, cap, cur, rfl, _, b, _⟩⟩ := h
  · cases hg
  · obtain ⟨_, ⟨rfl, _⟩ | ⟨g2, cap', cur', rfl, _, b', _⟩⟩ := h'
    · cases hg'
    · have e1 : g1 = g := by simpa [Value.ownBlock] using hg
      have e2 : g2 = g := by simpa [Value.ownBlock] using hg'
      rw [e1] at b
      rw [e2, b] at b'
      simp only [Option.some.injEq, Obj.cells.injEq] at b'
      exact he b'.2.1
theorem cells_file (w : World) (p : Nm × Fl) (t : TypeId) : ∀ j u, (fc [p])[j]? = some u → (w.alloc (.cells #[.string ⟨p.1.toArray⟩, .string ⟨p.2.1.toArray⟩, .int .i64 (p.2.2 : Int)] t)).cell? ((⟨w.heap.size, 0, none⟩ : Addr).add j) = some u := by
  intro j u hj
  match j, hj with
  | 0, hj => simp [fc] at hj; subst hj; simp [Addr.add]
  | 1, hj => simp [fc] at hj; subst hj; simp [Addr.add]
  | 2, hj => simp [fc] at hj; subst hj; simp [Addr.add]
theorem getL_at {α : Type} {l : List (Nm × α)} (hs : srt l) {k : Nat} (hk : k < l.length) : getL l (l[k]).1 = some (l[k]).2 := getL_of_mem hs (List.getElem_mem hk)

set_option maxHeartbeats 8000000 in
set_option maxRecDepth 100000 in
theorem files_any (w : World) (Z : Nat → Prop) (a : Nat) (st : St) (h : IsDisk w Z a st) :
    Calls Tryz.prog 22 #[.pointer (some ⟨a, 0, none⟩)] w fun e w' => ∃ v, e = .returned v ∧ w'.ownsRow w.heap.size 65 3 v st.fs.length (fc st.fs) ∧ Below w.heap.size w w' := by
  obtain ⟨i0, hi, hz0, hz1, hz2⟩ := info_parts Tryz.infoFile
  have HI : Hid (IsDisk w Z a st) := h
  obtain ⟨b, es, h⟩ := h
  have c0 := (cell5 h.cells).1
  have hfew := h.ok.files.few
  have HD : Hid (DiskAt w Z a st b es) := h
  clear h
  obtain ⟨fs, hfs⟩ : ∃ fs, st.fs = fs := ⟨_, rfl⟩
  have HFS : Hid (st.fs = fs) := hfs
  rw [hfs] at hfew ⊢
  clear hfs
  go_enter Tryz.func22, Tryz.ntmps22
  go_wp2_with (first | (go_at_call 49; refine (names_any _ Z a st HI.out).mono ?_; rintro e w0 ⟨v0, rfl, hn0, hb0⟩; rw [HFS.out] at hn0; obtain ⟨pn, capn, rfl⟩ := own_form hn0))
  go_loopw [3, 10] (fun v i wr => ∃ k : Nat, k ≤ fs.length ∧ i = .int .i64 k ∧ wr.ownsRow w.heap.size 65 3 v k (fc (fs.take k)) ∧ wr.ownsRow w.heap.size 9 1 (.slice pn fs.length capn) fs.length (fs.map fun p => encStr p.1) ∧ Below w.heap.size w wr) (fun _ i _ => fs.length - (intOf i).toNat)
  case atStart => exact ⟨0, Nat.zero_le _, rfl, World.ownsRow_nil _ _ _ _, hn0, hb0⟩
  case round =>
    clear hn0 hb0
    obtain ⟨k, hk, rfl, hown, hnm, hb⟩ := hrel
    by_cases hlt : k < fs.length
    · have hlti : (k : Int) < (fs.length : Int) := by omega
      obtain ⟨g, rfl, hgb, _, hcell⟩ := own_elem hnm k (by simpa using hlt)
      have hD := HD.out.later hb
      have c01 := cell_later hb c0
      have hel : es.length = fs.length := by rw [← HFS.out, hD.count]
      have hek : k < es.length := by omega
      have hget := getL_at hD.held.sorted hek
      obtain ⟨nm, f, he⟩ : ∃ nm f, es[k] = (nm, f) := ⟨_, _, rfl⟩
      rw [he] at hget
      simp only at hget
      have hfk : fs[k] = (nm, f.fl) := by
        have h1 : fs = mapL Fil.fl es := by rw [← HFS.out, hD.files]
        have h2 : fs[k]? = some (nm, f.fl) := by rw [h1]; simp [mapL, hek, he]
        rw [List.getElem?_eq_getElem hlt] at h2
        simpa using h2
      have hcn : wr.cell? ⟨g, k, none⟩ = some (.string ⟨nm.toArray⟩) := by
        rw [hcell]
        simp [hfk]
      have HT : Hid (fc (fs.take (k + 1)) = fc (fs.take k) ++ fc [(nm, f.fl)]) := by
        have := fc_take fs k hlt
        rw [hfk] at this
        exact this
      have hnl := (nmOk_len (hD.ok.files.names (nm, f.fl) (by rw [hD.files]; exact getL_mem (by rw [getL_mapL, hget]; rfl)))).2
      simp only at hnl
      obtain ⟨p0, cap0, ev, er⟩ := rawOf hD.held hget
      have hl := hD.held.look (s := ⟨nm.toArray⟩) (by simp [ByteArray.size]; unfold maxLen; omega)
      simp only at hl
      rw [er] at hl
      have HO : Hid (ownB wr (.slice p0 f.dat.length cap0) f.dat) := by
        have := hD.held.rows _ (getL_mem hget)
        simp only [ev] at this
        exact this
      have hbl : ∀ g, (Value.slice p0 f.dat.length cap0).ownBlock = some g → g < wr.heap.size := fun g e => by
        obtain ⟨c, fr, e'⟩ := HO.out.lt e
        exact (Array.getElem?_eq_some_iff.1 e').1
      have HBL : Hid (∀ g, (Value.slice p0 f.dat.length cap0).ownBlock = some g → g < wr.heap.size) := hbl
      have hcv := fun o => (HO.out.kept (w' := (wr.alloc o).drew) fun g e => Below.heap_alloc _ _ _ (hbl g e)).str
      obtain ⟨v, hv⟩ : ∃ v, u3 = v := ⟨_, rfl⟩
      rw [hv] at hown ⊢
      clear hv
      have HOW : Hid (wr.ownsRow w.heap.size 65 3 v k (fc (fs.take k))) := hown
      have HNM : Hid (wr.ownsRow w.heap.size 9 1 (.slice (some ⟨g, 0, none⟩) fs.length capn) fs.length (fs.map fun p => encStr p.1)) := hnm
      have HB : Hid (Below w.heap.size w wr) := hb
      have hsz := hb.size
      clear hown hnm hcell hget he hfk er ev hD hbl hel hek
      go_wp2
      go_region_law (first
        | (go_simp; go_at_call 57; refine (clone_any ⟨nm.toArray⟩ _ (by simp [ByteArray.size]; omega)).mono ?_; rintro e w1 ⟨rfl, hb1⟩; dsimp only; (have k0 : w1.cell? ⟨wr.heap.size, 0, none⟩ = some (.slice p0 f.dat.length cap0) := cell_later hb1 (by simp)); (have k1 : w1.cell? ⟨wr.heap.size, 1, none⟩ = some (.int .i64 (f.safe : Int)) := cell_later hb1 (by simp)); (have hb2 : Below wr.heap.size wr w1 := (((Below.refl _ _).alloc (Nat.le_refl _) _).drew).trans (hb1.mono (by simp))); (have hcv1 := (HO.out.kept (w' := w1) fun g e => hb2.block g (HBL.out g e)).str); (have HB2 : Hid (Below wr.heap.size wr w1) := hb2); (have hs2 : wr.heap.size < w1.heap.size := by have := hb1.size; simp at this; omega); clear hb2 hb1)
        | (refine step_append_lies _ rfl _ _ 22 rfl w.heap.size 65 i0 _ 3 40 Tryz.underlying22 hi hz0 hz1 hz2 rfl (by decide) v k (fc (fs.take k)) rfl ((own_later HOW.out HB2.out).alloc _) ⟨w1.heap.size, 0, none⟩ 1 1 (fc [(nm, f.fl)]) rfl rfl (cells_file _ (nm, f.fl) _) (fc_one _) (by decide) (by unfold maxLen; omega) (by omega) (by simp; omega) _ rfl ?_; intro g' cap' w2 hown' hgrow _ _))
      all_goals
        have hbb : Below w.heap.size w w2 := ((HB.out.trans (HB2.out.mono hsz)).alloc (by omega) _).grown hgrow (by simp; omega) fun j hj => (HOW.out.lt j hj).1
        have hnm2 : w2.ownsRow w.heap.size 9 1 (.slice (some ⟨g, 0, none⟩) fs.length capn) fs.length (fs.map fun p => encStr p.1) := own_kept HNM.out fun j hj => by
          have hj2 := (HNM.out.lt j hj).2
          exact (hgrow.block j (by simp; omega) (fun e => own_apart HNM.out HOW.out (by decide) hj e.symm)).trans ((Below.heap_alloc _ _ _ (by omega)).trans (HB2.out.block j hj2))
        rw [← HT.out] at hown'
        have HN2 : Hid (w2.ownsRow w.heap.size 9 1 (.slice (some ⟨g, 0, none⟩) fs.length capn) fs.length (fs.map fun p => encStr p.1)) := hnm2
        have HO2 : Hid (w2.ownsRow w.heap.size 65 3 (.slice (some ⟨g', 0, none⟩) (k + 1) cap') (k + 1) (fc (fs.take (k + 1)))) := hown'
        have HBB : Hid (Below w.heap.size w w2) := hbb
        clear hgrow hown' hnm2 hbb
        go_wp2
        go_roundw
        case rel => exact ⟨k + 1, by omega, by go_num, HO2.out, HN2.out, HBB.out⟩
        case measure => simp [intOf]; omega
    · have hk' : k = fs.length := by omega
      subst hk'
      rw [List.take_length] at hown
      go_wp2
      go_ret
      exact ⟨_, rfl, hown, hb⟩
end Go.Proofs.YtckmjmpajbjbkaaGreatDoor
