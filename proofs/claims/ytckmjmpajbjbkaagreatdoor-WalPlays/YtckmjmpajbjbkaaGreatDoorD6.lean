/- Walks of layer 4, sixth part: what Sync, Rename and Remove do. -/
import Derived.Test.YtckmjmpajbjbkaaGreatDoorD5
namespace Go.Proofs.YtckmjmpajbjbkaaGreatDoor
open Go.RowKit

theorem step_drop (w : World) {ops : Array Oper} {o : Oper} {a : Act} {K : Act → World → Prop} {Q : Exit → Act → World → Prop} {E : Prop} (hgd : o.guard = none) (m x : Operand)
    (ho : o.op = .call { callee := .builtin .delete, args := #[m, x], argTypes := #[71, 9] }) {Z : Nat → Prop} {b : Nat} {es : List (Nm × Fil)} (hm : a.eval m = .map (some b)) (h : Held w Z b es) (s : ByteArray) (hx : a.eval x = .string s) (hs : s.size ≤ maxLen)
    (hK : ∀ w', Held w' Z b (delL es s.data.toList) → w.grownBy w' (some b) → K (a.put o.dst (.tuple #[])) w') :
    if Region.wanted o (yielded ops a.tmps) = true then Oper.wp Tryz.prog o a w K Q else E := by
  have hw : Region.wanted o (yielded ops a.tmps) = true := by simp [Region.wanted, hgd]
  rw [if_pos hw]
  obtain ⟨w', hr, h2, h3⟩ := h.drop hs o.type
  unfold Oper.wp execOp
  simp only [ho, resolve, invoke, builtin, Sem.run_bind, Sem.run_pure, Result.andThen_ok, List.map_toArray, List.map_cons, List.map_nil, hm, hx, hr]
  exact hK w' h2 h3

set_option maxHeartbeats 4000000 in
set_option maxRecDepth 100000 in
theorem syn1_any (w : World) (Z : Nat → Prop) (a b : Nat) (es : List (Nm × Fil)) (s : ByteArray) (A N : Nat) (hA : Box w A (.pointer (some ⟨a, 0, none⟩)) 26) (hN : Box w N (.string s) 9)
    (c0 : w.cell? ⟨a, 0, none⟩ = some (.map (some b))) (ha : ∃ cs fr, w.heap[a]? = some (.cells cs 73 fr)) (h : Held w Z b es) (hs : s.size ≤ 1099511627776) (hl : es.length < 1000) (f : Fil) (hg : getL es s.data.toList = some f) :
    Calls Tryz.prog 102 #[.pointer (some ⟨A, 0, none⟩), .pointer (some ⟨N, 0, none⟩)] w fun e w' => e = .returned (.tuple #[]) ∧ Acts w w' Z a b (synF s.data.toList (mapL Fil.fl es)) := by
  have HH : Hid (Held w Z b es) := h
  obtain ⟨cs, fr, ha⟩ := ha
  have HB : Hid (w.heap[a]? = some (.cells cs 73 fr)) := ha
  have kA := hA.cell
  have kN := hN.cell
  have lA := hA.lt
  have lN := hN.lt
  have la : a < w.heap.size := World.block_lt_of_cell? _ _ c0
  have hss : s.size ≤ maxLen := by unfold maxLen; omega
  have hl0 := (h.later (w' := w.drew) (Below.refl _ _).drew).look hss
  have hl1 := fun o => (h.later (w' := (w.alloc o).drew) (((Below.refl _ _).alloc (Nat.le_refl _) _).drew)).look hss
  have hab := (h.neA ha).1
  clear hA hN ha h
  obtain ⟨p0, cap0, ev, er⟩ := rawOf HH.out hg
  have hf := HH.out.rows _ (getL_mem hg)
  simp only [ev] at hf
  rw [er] at hl0
  simp only [er] at hl1
  have HF : Hid (ownB w (.slice p0 f.dat.length cap0) f.dat) := hf
  have HV : Hid (f.v = .slice p0 f.dat.length cap0) := ev
  clear hf ev er
  go_enter Tryz.func102, Tryz.ntmps102
  go_wp2
  go_region
  all_goals
    have HW : Hid (∀ o, Below w.heap.size w (w.alloc o).drew) := fun o => ((Below.refl _ _).alloc (Nat.le_refl _) _).drew
    go_wp2_with (first | (go_at_call 29; refine (put_any _ Z a b es s f.dat f.dat.length p0 f.dat.length cap0 (cell_later (HW.out _) c0) (HH.out.later (HW.out _)) hs hl (HF.out.kept fun g e => (HW.out _).block g (by obtain ⟨c, fr, e'⟩ := HF.out.lt e; exact (Array.getElem?_eq_some_iff.1 e').1)) (fun g e => HH.out.zone _ (getL_mem hg) g (by simp only [HV.out]; exact e)) (fun g e q hq e' => HH.out.apart q hq _ (getL_mem hg) g e' (by simp only [HV.out]; exact e))).mono ?_; rintro e w2 ⟨rfl, hh2, ho2⟩))
    go_end0
    refine ⟨rfl, acts_put HH.out.zb (Only.of (HW.out _)) ((HW.out _).block a la) hab (by simp; omega) hh2 ho2 ?_⟩
    rw [mapL_putL, synF, fileOf_some hg]
    rfl

set_option maxHeartbeats 4000000 in
set_option maxRecDepth 100000 in
theorem rem1_any (w : World) (Z : Nat → Prop) (a b : Nat) (es : List (Nm × Fil)) (s : ByteArray) (A N : Nat) (hA : Box w A (.pointer (some ⟨a, 0, none⟩)) 26) (hN : Box w N (.string s) 9)
    (c0 : w.cell? ⟨a, 0, none⟩ = some (.map (some b))) (ha : ∃ cs fr, w.heap[a]? = some (.cells cs 73 fr)) (h : Held w Z b es) (hs : s.size ≤ 1099511627776) :
    Calls Tryz.prog 103 #[.pointer (some ⟨A, 0, none⟩), .pointer (some ⟨N, 0, none⟩)] w fun e w' => e = .returned (.tuple #[]) ∧ Acts w w' Z a b (remF s.data.toList (mapL Fil.fl es)) := by
  have HH : Hid (Held w Z b es) := h
  obtain ⟨cs, fr, ha⟩ := ha
  have kA := hA.cell
  have kN := hN.cell
  have la : a < w.heap.size := World.block_lt_of_cell? _ _ c0
  have hss : s.size ≤ maxLen := by unfold maxLen; omega
  have hab := (h.neA ha).1
  clear hA hN ha h
  go_enter Tryz.func103, Tryz.ntmps103
  go_wp2
  go_region_law (first | (refine step_drop _ rfl _ _ rfl (Z := Z) (b := b) (es := es) rfl (HH.out.later (Below.refl _ _).drew) s rfl hss ?_; intro w1 hh1 hg1))
  all_goals
    go_wp2
    go_end0
    exact ⟨rfl, acts_put HH.out.zb (Only.refl _ _).drew rfl hab la hh1 ((Only.refl _ _).grown hg1 fun k hk => by cases hk; rfl) (mapL_delL _ _ _)⟩

set_option maxHeartbeats 4000000 in
set_option maxRecDepth 100000 in
theorem ren1_any (w : World) (Z : Nat → Prop) (a b : Nat) (es : List (Nm × Fil)) (s t : ByteArray) (A N T : Nat) (hA : Box w A (.pointer (some ⟨a, 0, none⟩)) 26) (hN : Box w N (.string s) 9) (hT : Box w T (.string t) 9)
    (c0 : w.cell? ⟨a, 0, none⟩ = some (.map (some b))) (ha : ∃ cs fr, w.heap[a]? = some (.cells cs 73 fr)) (h : Held w Z b es) (hs : s.size ≤ 1099511627776) (ht : t.size ≤ 1099511627776) (hl : es.length < 1000) (f : Fil) (hg : getL es s.data.toList = some f) :
    Calls Tryz.prog 118 #[.pointer (some ⟨A, 0, none⟩), .pointer (some ⟨N, 0, none⟩), .pointer (some ⟨T, 0, none⟩)] w fun e w' => e = .returned (.tuple #[]) ∧ Acts w w' Z a b (renF s.data.toList t.data.toList (mapL Fil.fl es)) := by
  have HH : Hid (Held w Z b es) := h
  obtain ⟨cs, fr, ha⟩ := ha
  have HA : Hid (Box w A (.pointer (some ⟨a, 0, none⟩)) 26) := hA
  have HT : Hid (Box w T (.string t) 9) := hT
  have kA := hA.cell
  have kN := hN.cell
  have kT := hT.cell
  have lA := hA.lt
  have lN := hN.lt
  have lT := hT.lt
  have la : a < w.heap.size := World.block_lt_of_cell? _ _ c0
  have hss : s.size ≤ maxLen := by unfold maxLen; omega
  have hl0 := (h.later (w' := w.drew) (Below.refl _ _).drew).look hss
  have hl1 := fun o => (h.later (w' := (w.alloc o).drew) (((Below.refl _ _).alloc (Nat.le_refl _) _).drew)).look hss
  have hab := (h.neA ha).1
  have hAb := (h.ne hA (by decide)).1
  have hTb := (h.ne hT (by decide)).1
  clear hA hN hT ha h
  obtain ⟨p0, cap0, ev, er⟩ := rawOf HH.out hg
  have hf := HH.out.rows _ (getL_mem hg)
  simp only [ev] at hf
  rw [er] at hl0
  simp only [er] at hl1
  have HF : Hid (ownB w (.slice p0 f.dat.length cap0) f.dat) := hf
  have HV : Hid (f.v = .slice p0 f.dat.length cap0) := ev
  clear hf ev er
  go_enter Tryz.func118, Tryz.ntmps118
  go_wp2
  go_region
  all_goals
    go_wp2
    have HW : Hid (Below w.heap.size w (w.alloc (.cells #[.slice p0 f.dat.length cap0, .int .i64 (f.safe : Int)] 77)).drew.drew) := (((Below.refl _ _).alloc (Nat.le_refl _) _).drew).drew
    go_region_law (first | (refine step_drop _ rfl _ _ rfl (Z := Z) (b := b) (es := es) rfl (HH.out.later HW.out) s rfl hss ?_; intro w1 hh1 hg1))
    all_goals
      have hbl := HH.out.map.lt
      have eA := (hg1.block A (by simp; omega) (fun e => hAb (by simpa using e))).trans (HW.out.block A lA)
      have eT := (hg1.block T (by simp; omega) (fun e => hTb (by simpa using e))).trans (HW.out.block T lT)
      have HEA : Hid (w1.heap[a]? = w.heap[a]?) := (hg1.block a (by simp; omega) (fun e => hab (by simpa using e))).trans (HW.out.block a la)
      have kA1 := cell_at eA kA
      have kT1 := cell_at eT kT
      have c01 := cell_at HEA.out c0
      have t0 : w1.cell? ⟨w.heap.size, 0, none⟩ = some (.slice p0 f.dat.length cap0) := hg1.cell (by simp) (fun e => by simp at e; omega)
      have t1 : w1.cell? ⟨w.heap.size, 1, none⟩ = some (.int .i64 (f.safe : Int)) := hg1.cell (by simp) (fun e => by simp at e; omega)
      have HO : Hid (Only Z w w1) := (Only.of HW.out).grown hg1 fun k hk => by cases hk; exact HH.out.zb
      have HF1 : Hid (ownB w1 (.slice p0 f.dat.length cap0) f.dat) := HF.out.kept fun g e => by
        obtain ⟨c, fr, e'⟩ := HF.out.lt e
        have hgl := (Array.getElem?_eq_some_iff.1 e').1
        exact (hg1.block g (by simp; omega) (fun e2 => HH.out.bne _ (getL_mem hg) (by simp only [HV.out]; rw [e, e2]))).trans (HW.out.block g hgl)
      have HK : Hid (Held w1 Z b (delL es s.data.toList)) := hh1
      have hz1 : a < w1.heap.size := by have := hg1.size; simp at this; omega
      have hdl := delL_length es s.data.toList
      clear hh1 hg1 eA eT
      go_wp2_with (first | (go_at_call 29; refine (put_any _ Z a b (delL es s.data.toList) t f.dat f.safe p0 f.dat.length cap0 c01 HK.out ht (by omega) HF1.out (fun g e => HH.out.zone _ (getL_mem hg) g (by simp only [HV.out]; exact e)) (fun g e q hq e' => absurd (HH.out.apart q (mem_delL hq).1 _ (getL_mem hg) g e' (by simp only [HV.out]; exact e)) (mem_delL hq).2)).mono ?_; rintro e w2 ⟨rfl, hh2, ho2⟩))
      go_end0
      refine ⟨rfl, acts_put HH.out.zb HO.out HEA.out hab hz1 hh2 ho2 ?_⟩
      rw [mapL_putL, renF, fileOf_some hg, mapL_delL]
      rfl
end Go.Proofs.YtckmjmpajbjbkaaGreatDoor
