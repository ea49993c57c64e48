/- Walks of layer 19: locks copied into memory of their own. -/
import Derived.Test.YtefdhmdkcpgfcaaIE
import Derived.Test.YtefdhmdkcpgfcaaID
import Derived.Test.YtefdhmdkcpgfcaaSh
namespace Go.Proofs.Ytefdhmdkcpgfcaa
open Go.RowKit
theorem clone19_any (s : ByteArray) (w : World) (hs : s.size ≤ 2147483648) : Calls Try.prog 55 #[.string s] w fun e w' => e = .returned (.string s) ∧ Below w.heap.size w w' := by
  go_enter Try.func55, Try.ntmps55
  go_wp2_with fail
  refine (Try.stringslite_Clone s _ (by omega)).mono ?_
  rintro e w1 ⟨rfl, hb1⟩
  go_wp2
  go_ret
  exact ⟨rfl, hb1⟩
theorem cell_blk {w : World} {b o : Nat} {cs : Array Value} {t : TypeId} {fr : Nat × Nat} {v : Value} (h : w.heap[b]? = some (.cells cs t fr)) (hc : cs[o]? = some v) : w.cell? ⟨b, o, none⟩ = some v := by
  simp [World.cell?, h, hc]
theorem set_same {α : Type} {l : List α} {i : Nat} {v : α} (h : l[i]? = some v) : l.set i v = l := by
  obtain ⟨hi, rfl⟩ := List.getElem?_eq_some_iff.1 h
  exact List.set_getElem_self hi
theorem flatK : ∀ l : List Lk, ((l.map fun x => (x, lkC x)).flatMap fun p => p.2) = l.flatMap lkC
  | [] => rfl
  | x :: l => by rw [List.map_cons, List.flatMap_cons, flatK l, List.flatMap_cons]
theorem kC_own {w : World} {B : Nat} {v : Value} {l : List Lk} (h : w.ownsRow B 23 4 v l.length (l.flatMap lkC)) : OwnR 4 23 LkR w B v l := by
  refine ⟨l.map fun x => (x, lkC x), by rw [List.map_map]; exact List.map_id' _, fun p hp => ?_, ?_⟩
  · obtain ⟨x, _, rfl⟩ := List.mem_map.1 hp
    exact ⟨rfl, rfl⟩
  · rw [flatK]
    exact h

set_option maxHeartbeats 4000000 in
set_option maxRecDepth 100000 in
theorem pclone_any (a : Option Addr) (cap : Nat) (l : List Lk) (w : World) (hr : RowR 4 LkR w a l) (hl : l.length ≤ 2147483648) : Calls Try.prog 54 #[.slice a l.length cap] w fun e w' => ∃ v, e = .returned v ∧ w'.ownsRow w.heap.size 23 4 v l.length (l.flatMap lkC) ∧ Below w.heap.size w w' := by
  obtain ⟨i1, hi1, hy0, hy1, hy2⟩ := info_parts Try.infoLk
  have HR := Lib.hid hr
  have q43 : ∀ (w : World) (a : Option Addr) (n c n' c' : Nat), (binOp .eql 34 (.slice a n c) (.slice none n' c')).run Try.prog w = .ok (.bool a.isNone) w := fun w a n c n' c' => Lib.run_eql_slice_nil w _ _ a n c n' c' Try.underlying34
  cases a with
  | none =>
    have h0 : l.length = 0 := by
      rcases Nat.eq_zero_or_pos l.length with h | h
      · exact h
      · obtain ⟨_, _, _, e, _⟩ := hr 0 h
        cases e
    have hn : l = [] := List.eq_nil_of_length_eq_zero h0
    subst hn
    clear hr
    go_enter Try.func54, Try.ntmps54
    go_wp2
    go_ret
    exact ⟨_, rfl, World.ownsRow_nil _ _ _ _, Below.refl _ _⟩
  | some ad =>
    clear hr
    have hown := World.ownsRow_made (base := w.heap.size) (e := 23) (size := 4) w #[] 0 (Nat.le_refl _) (by unfold maxLen; omega) rfl
    go_enter Try.func54, Try.ntmps54
    go_wp2_with (first | (at_builtin; refine wpList_append_whole _ rfl _ _ 34 rfl w.heap.size 23 i1 _ 4 48 Try.underlying34 hi1 hy0 hy1 hy2 rfl (by decide) _ 0 [] rfl hown (some ad) l.length cap (l.flatMap lkC) rfl (lenK l) (rowK_cells (HR.out.later ((Below.refl _ _).alloc (Nat.le_refl _) _) fun _ _ h => h)) (one_of lkC_one l) (by unfold maxLen; omega) (by omega) (by simp) ?_; intro v' w1 hown' hgrow))
    go_ret
    exact ⟨v', rfl, by simpa using hown', ((Below.refl _ _).alloc (Nat.le_refl _) _).grown hgrow (by simp) (fun k hk => by cases hk; exact Nat.le_refl _)⟩

set_option maxHeartbeats 4000000 in
set_option maxRecDepth 100000 in
theorem copied_any (a : Option Addr) (cap : Nat) (l : List Lk) (w : World) (hr : RowR 4 LkR w a l) (hl : l.length ≤ 2147483648) (hs : ∀ x ∈ l, x.lo.size ≤ 2147483648 ∧ x.hi.size ≤ 2147483648) : Calls Try.prog 46 #[.slice a l.length cap] w fun e w' => ∃ v, e = .returned v ∧ OwnR 4 23 LkR w' w.heap.size v l ∧ Below w.heap.size w w' := by
  have HS := Lib.hid hs
  have HC := Lib.hid (pclone_any a cap l w hr hl)
  clear hs hr
  go_enter Try.func46, Try.ntmps46
  go_wp2_with fail
  refine HC.out.mono ?_
  rintro e w1 ⟨v, rfl, hown, hb⟩
  obtain ⟨p, c, rfl, hc⟩ := row_form hown
  have HO := Lib.hid hown
  have HB := Lib.hid hb
  clear hown hb HC
  go_wp2
  go_loopw [9] (fun i wr => ∃ k : Nat, k ≤ l.length ∧ i = .int .i64 k ∧ wr.ownsRow w.heap.size 23 4 (.slice p l.length c) l.length (l.flatMap lkC) ∧ Below w.heap.size w wr) (fun i _ => l.length - (intOf i).toNat)
  case atStart => exact ⟨0, Nat.zero_le _, rfl, HO.out, HB.out⟩
  case round =>
    obtain ⟨k, hk, rfl, hown, hb⟩ := hrel
    have HO := Lib.hid hown
    have HB := Lib.hid hb
    by_cases hlt : k < l.length
    · have hlti : (k : Int) < (l.length : Int) := by omega
      obtain ⟨x, hx⟩ : ∃ x, l[k] = x := ⟨_, rfl⟩
      obtain ⟨g, rfl, hge⟩ : ∃ g, p = some ⟨g, 0, none⟩ ∧ w.heap.size ≤ g := by
        obtain ⟨_, ⟨e, h0⟩ | ⟨g, _, _, e, hB, _⟩⟩ := hown
        · omega
        · simp only [Value.slice.injEq] at e
          exact ⟨g, e.1, hB⟩
      have hat := lock_at ((kC_own hown).row fun _ _ h => h) hlt
      rw [hx] at hat
      obtain ⟨b, o, e, c0, c1, c2, c3⟩ := hat
      simp only [Option.some.injEq, Addr.mk.injEq, and_true] at e
      obtain ⟨rfl, rfl⟩ := e
      rw [Nat.zero_add] at c0 c1 c2 c3
      have hcl := Lib.hid (fun W => And.intro (clone19_any x.lo W (HS.out x (hx ▸ List.getElem_mem hlt)).1) (clone19_any x.hi W (HS.out x (hx ▸ List.getElem_mem hlt)).2))
      have lg : g < wr.heap.size := cell_lt c0
      have HX := Lib.hid hx
      have HG := Lib.hid (And.intro c1 c2)
      obtain ⟨bx, hbx⟩ : ∃ bx, wr.heap.size = bx := ⟨_, rfl⟩
      obtain ⟨W1, hW1⟩ : ∃ W1, wr.alloc (Obj.cells #[.int .i64 x.tb, .string x.lo, .string x.hi, .bool x.wr] 23) = W1 := ⟨_, rfl⟩
      have hbW1 : Below wr.heap.size wr W1 := by rw [← hW1]; exact (Below.refl _ _).alloc (Nat.le_refl _) _
      have a1 : W1.cell? ⟨wr.heap.size, 1, none⟩ = some (.string x.lo) := by
        rw [← hW1]
        exact cell_blk (heap_alloc_new wr _) rfl
      have a2 : W1.cell? ⟨wr.heap.size, 2, none⟩ = some (.string x.hi) := by
        rw [← hW1]
        exact cell_blk (heap_alloc_new wr _) rfl
      have HW1 := Lib.hid hbW1
      have HO1 := Lib.hid (own_later HO.out hbW1)
      clear hx hown hb
      go_wp2_with fail
      try rw [hW1]
      try rw [hbx] at a1 a2
      try rw [hbx]
      have HBX := Lib.hid hbx
      have hne1 : bx ≠ g := by have := HBX.out; omega
      have hne2 : g ≠ bx := fun e => hne1 e.symm
      clear hW1 hbx hbW1 c0 c1 c2 c3
      go_region_held3 (fun w' => w'.cell? ⟨bx, 1, none⟩ = some (.string x.lo) ∧ w'.cell? ⟨bx, 2, none⟩ = some (.string x.hi)) (go_simp) (first
        | (go_at_call 55; refine (hcl.out _).1.mono ?_; rintro e w4 ⟨rfl, hb4⟩; (have hd : Below W1.heap.size W1 W1.drew := (Below.refl _ _).drew); (have hbb := hd.trans (hb4.mono hd.size)); (have HB4 := Lib.hid hbb); (have s1 := cell_later hbb a1); (have s2 := cell_later hbb a2); clear hd hbb hb4)
        | (go_at_call 55; refine (hcl.out _).2.mono ?_; rintro e w5 ⟨rfl, hb5⟩; (have hbb := HB4.out.trans (hb5.mono HB4.out.size)); (have HB5 := Lib.hid hbb); (have r1 := cell_later hbb a1); (have r2 := cell_later hbb a2); (have HO5 := Lib.hid (own_later HO1.out hbb)); (have g1 := cell_later hbb (cell_later HW1.out HG.out.1)); (have g2 := cell_later hbb (cell_later HW1.out HG.out.2)); (have sf1 := HO5.out.frozenAt (k * 4 + 1)); (have sf2 := HO5.out.frozenAt (k * 4 + 2)); clear hbb hb5))
      rename_i hHeld
      clear hHeld s1 s2 r1 r2
      have hk4 : k * 4 + 2 < l.length * 4 := by omega
      have hx1 : (l.flatMap lkC).set (k * 4 + 1) (.string x.lo) = l.flatMap lkC := set_same ((HO5.out.cellAt (k * 4 + 1) (by omega)).symm.trans g1)
      have hx2 : (l.flatMap lkC).set (k * 4 + 2) (.string x.hi) = l.flatMap lkC := set_same ((HO5.out.cellAt (k * 4 + 2) hk4).symm.trans g2)
      have h1 := HO5.out.stored (k * 4 + 1) (.string x.lo)
      rw [hx1] at h1
      have h2 := h1.1.stored (k * 4 + 2) (.string x.hi)
      rw [hx2] at h2
      have hb5 : Below w.heap.size w w5 := HB.out.trans ((HW1.out.trans (HB5.out.mono HW1.out.size)).mono HB.out.size)
      have hb6 := hb5.grown h1.2 hb5.size fun q hq => by cases hq; exact hge
      have HB7 := Lib.hid (hb6.grown h2.2 hb6.size fun q hq => by cases hq; exact hge)
      have HO7 := Lib.hid h2.1
      clear hx1 hx2 h1 h2 hb5 hb6 g1 g2 sf1 sf2
      go_wp2
      go_roundw
      case rel => exact ⟨k + 1, by omega, by go_num, HO7.out, HB7.out⟩
      case measure => simp [intOf]; omega
    · have hlti : ¬ (k : Int) < (l.length : Int) := by omega
      clear hown hb
      go_wp2
      go_ret
      exact ⟨_, rfl, kC_own HO.out, HB.out⟩
end Go.Proofs.Ytefdhmdkcpgfcaa
