/- Walks of layer 19: the program's places, and who asks for them. -/
import Derived.Test.YtefdhmdkcpgfcaaIH
namespace Go.Proofs.Ytefdhmdkcpgfcaa
open Go.RowKit
theorem grow_le {ps : List Pl9} {H : Nat → Bool} {A : Nat → List Int} (h0 : A 0 = []) (hA : ∀ k (g : k < ps.length), A (k + 1) = A k ++ if H k = true then [ps[k].pos] else []) : ∀ k, k ≤ ps.length → (A k).length ≤ k
  | 0, _ => by rw [h0]; exact Nat.le_refl _
  | k + 1, h => by
    have ih := grow_le h0 hA k (by omega)
    rw [hA k (by omega), List.length_append]
    split <;> simp <;> omega

set_option maxHeartbeats 8000000 in
set_option maxRecDepth 100000 in
theorem places_all (T : Tb9) (t B : Nat) (Z : Nat → Prop) (w : World) (h : PT9 w B Z t T) (hs : Sz9 T) (H : Nat → Bool) (A : Nat → List Int) (hA0 : A 0 = []) (hA : ∀ k (g : k < T.ps.length), A (k + 1) = A k ++ if H k = true then [T.ps[k].pos] else []) (hC : ∀ k (g : k < T.ps.length) (q : Option Addr) (c : Nat) (W : World), Below w.heap.size w W → RowR 4 LkR W q T.ps[k].ls → Calls Try.prog 39 #[plV T.ps[k] q c] W fun e w' => e = .returned (.bool (H k)) ∧ Below W.heap.size W w') :
    Calls Try.prog 38 #[.pointer (some ⟨t, 0, none⟩), .func (.func 39) #[] #[]] w fun e w' => ∃ v, e = .returned v ∧ IV9 w (A T.ps.length) v w' := by
  obtain ⟨i0, hi0, hz0, hz1, hz2⟩ := info_parts Try.infoInt
  obtain ⟨q0, cap, hbox, hrow⟩ := h.reads
  have HR := Lib.hid hrow
  have hzt : t < w.heap.size := (Array.getElem?_eq_some_iff.1 hbox).1
  have c0 := (two_of hbox).1.1
  have hps := hs.ps
  have HA := Lib.hid (And.intro hA0 (And.intro hA (grow_le hA0 hA)))
  have HC := Lib.hid hC
  clear h hs hbox hrow hA0 hA hC
  go_enter Try.func38, Try.ntmps38
  go_wp2
  go_loopw [5, 13] (fun v j wr => ∃ k : Nat, k ≤ T.ps.length ∧ j = .int .i64 k ∧ wr.ownsRow w.heap.size 3 1 v (A k).length ((A k).map fun n => Value.int .i64 n) ∧ Below w.heap.size w wr) (fun _ j _ => T.ps.length - (intOf j).toNat)
  case atStart => exact ⟨0, Nat.zero_le _, rfl, by rw [HA.out.1]; exact World.ownsRow_nil _ _ _ _, Below.refl _ _⟩
  case round =>
    obtain ⟨k, hk, rfl, hown, hb1⟩ := hrel
    have HO := Lib.hid hown
    have HB1 := Lib.hid hb1
    have hsz := hb1.size
    have hle : (A k).length ≤ 2147483647 := by have := HA.out.2.2 k hk; omega
    clear hown
    by_cases hkl : k < T.ps.length
    · have hkli : (k : Int) < (T.ps.length : Int) := by omega
      have HT := Lib.hid (HA.out.2.1 k hkl)
      have HCk := Lib.hid (HC.out k hkl)
      obtain ⟨y, hy⟩ : ∃ y, T.ps[k] = y := ⟨_, rfl⟩
      have hat := place_at HR.out hkl
      rw [hy] at hat HT HCk
      obtain ⟨b, off, qk, ck, rfl, p0, p1, hrk⟩ := hat
      have d0 := cell_later hb1 p0
      have d1 := cell_later hb1 p1
      obtain ⟨W1, hW1⟩ : ∃ W1, wr.alloc (Obj.cells #[.int .i64 y.pos, .slice qk y.ls.length ck] 68) = W1 := ⟨_, rfl⟩
      have hbW : Below wr.heap.size wr W1 := by rw [← hW1]; exact (Below.refl _ _).alloc (Nat.le_refl _) _
      have q1 : W1.cell? ⟨wr.heap.size, 0, none⟩ = some (.int .i64 y.pos) := by
        rw [← hW1]
        exact cell_blk (heap_alloc_new wr _) rfl
      have q2 : W1.cell? ⟨wr.heap.size, 1, none⟩ = some (.slice qk y.ls.length ck) := by
        rw [← hW1]
        exact cell_blk (heap_alloc_new wr _) rfl
      have HBW := Lib.hid (HB1.out.trans (hbW.mono hsz))
      have HCW := Lib.hid (HCk.out qk ck W1 HBW.out (hrk.later HBW.out fun _ _ h => h))
      have HOW := Lib.hid (own_later HO.out hbW)
      clear p0 p1 hrk hy HCk HO
      obtain ⟨K, hK⟩ : ∃ K, A k = K := ⟨_, rfl⟩
      rw [hK] at HOW hle HT
      clear hK
      obtain ⟨m, hm⟩ : ∃ m, H k = m := ⟨_, rfl⟩
      rw [hm] at HT HCW
      clear hm
      go_wp2_with fail
      try rw [hW1]
      clear hW1 hbW d0 d1
      refine HCW.out.mono ?_
      rintro e w5 ⟨rfl, hb5⟩
      have HB5 := Lib.hid (HBW.out.trans (hb5.mono HBW.out.size))
      have HO5 := Lib.hid (own_later HOW.out hb5)
      have hs5 := HB5.out.size
      have r1 := cell_later hb5 q1
      have r2 := cell_later hb5 q2
      clear q1 q2 hb5 hb1
      cases m with
      | true =>
        go_wp2_with (first | (at_builtin; refine wpList_append_own _ rfl _ _ 37 rfl w.heap.size 3 i0 (.int .i64 0) 1 8 Try.underlying37 hi0 hz0 hz1 hz2 rfl (by decide) _ K.length (K.map fun n => Value.int .i64 n) rfl (HO5.out.alloc _) ⟨w5.heap.size, 0, none⟩ 1 1 [.int .i64 y.pos] rfl rfl (cells_alloc _ _ _) (ints_oneC _) (by unfold maxLen; omega) (by omega) (by simp; omega) ?_; intro v' w6 hown6 hgrow6 _))
        have HB6 : Hid (Below w.heap.size w w6) := Lib.hid ((HB5.out.alloc hs5 _).grown hgrow6 (by simp; omega) (fun g hg => (HO5.out.lt g hg).1))
        go_roundw
        case rel => exact ⟨k + 1, by omega, by go_num, by rw [HT.out]; simpa using hown6, HB6.out⟩
        case measure => simp [intOf]; omega
      | false =>
        go_wp2
        go_roundw
        case rel => exact ⟨k + 1, by omega, by go_num, by rw [HT.out]; simpa using HO5.out, HB5.out⟩
        case measure => simp [intOf]; omega
    · have hkli : ¬ (k : Int) < (T.ps.length : Int) := by omega
      obtain rfl : k = T.ps.length := by omega
      clear hb1
      go_wp2
      go_ret
      exact ⟨_, rfl, iC_own HO.out, HB1.out⟩

set_option maxHeartbeats 8000000 in
set_option maxRecDepth 100000 in
theorem places_grnt (T : Tb9) (t B : Nat) (Z : Nat → Prop) (w : World) (h : PT9 w B Z t T) (hs : Sz9 T) (H : Nat → Bool) (A : Nat → List Int) (hA0 : A 0 = []) (hA : ∀ k (g : k < T.ps.length), A (k + 1) = A k ++ if H k = true then [T.ps[k].pos] else []) (hC : ∀ k (g : k < T.ps.length) (q : Option Addr) (c : Nat) (W : World), Below w.heap.size w W → RowR 4 LkR W q T.ps[k].ls → Calls Try.prog 40 #[.pointer (some ⟨t, 0, none⟩), plV T.ps[k] q c] W fun e w' => e = .returned (.bool (H k)) ∧ Below W.heap.size W w') :
    Calls Try.prog 38 #[.pointer (some ⟨t, 0, none⟩), .func (.func 40) #[.pointer (some ⟨t, 0, none⟩)] #[]] w fun e w' => ∃ v, e = .returned v ∧ IV9 w (A T.ps.length) v w' := by
  obtain ⟨i0, hi0, hz0, hz1, hz2⟩ := info_parts Try.infoInt
  obtain ⟨q0, cap, hbox, hrow⟩ := h.reads
  have HR := Lib.hid hrow
  have hzt : t < w.heap.size := (Array.getElem?_eq_some_iff.1 hbox).1
  have c0 := (two_of hbox).1.1
  have hps := hs.ps
  have HA := Lib.hid (And.intro hA0 (And.intro hA (grow_le hA0 hA)))
  have HC := Lib.hid hC
  clear h hs hbox hrow hA0 hA hC
  go_enter Try.func38, Try.ntmps38
  go_wp2
  go_loopw [5, 13] (fun v j wr => ∃ k : Nat, k ≤ T.ps.length ∧ j = .int .i64 k ∧ wr.ownsRow w.heap.size 3 1 v (A k).length ((A k).map fun n => Value.int .i64 n) ∧ Below w.heap.size w wr) (fun _ j _ => T.ps.length - (intOf j).toNat)
  case atStart => exact ⟨0, Nat.zero_le _, rfl, by rw [HA.out.1]; exact World.ownsRow_nil _ _ _ _, Below.refl _ _⟩
  case round =>
    obtain ⟨k, hk, rfl, hown, hb1⟩ := hrel
    have HO := Lib.hid hown
    have HB1 := Lib.hid hb1
    have hsz := hb1.size
    have hle : (A k).length ≤ 2147483647 := by have := HA.out.2.2 k hk; omega
    clear hown
    by_cases hkl : k < T.ps.length
    · have hkli : (k : Int) < (T.ps.length : Int) := by omega
      have HT := Lib.hid (HA.out.2.1 k hkl)
      have HCk := Lib.hid (HC.out k hkl)
      obtain ⟨y, hy⟩ : ∃ y, T.ps[k] = y := ⟨_, rfl⟩
      have hat := place_at HR.out hkl
      rw [hy] at hat HT HCk
      obtain ⟨b, off, qk, ck, rfl, p0, p1, hrk⟩ := hat
      have d0 := cell_later hb1 p0
      have d1 := cell_later hb1 p1
      obtain ⟨W1, hW1⟩ : ∃ W1, wr.alloc (Obj.cells #[.int .i64 y.pos, .slice qk y.ls.length ck] 68) = W1 := ⟨_, rfl⟩
      have hbW : Below wr.heap.size wr W1 := by rw [← hW1]; exact (Below.refl _ _).alloc (Nat.le_refl _) _
      have q1 : W1.cell? ⟨wr.heap.size, 0, none⟩ = some (.int .i64 y.pos) := by
        rw [← hW1]
        exact cell_blk (heap_alloc_new wr _) rfl
      have q2 : W1.cell? ⟨wr.heap.size, 1, none⟩ = some (.slice qk y.ls.length ck) := by
        rw [← hW1]
        exact cell_blk (heap_alloc_new wr _) rfl
      have HBW := Lib.hid (HB1.out.trans (hbW.mono hsz))
      have HCW := Lib.hid (HCk.out qk ck W1 HBW.out (hrk.later HBW.out fun _ _ h => h))
      have HOW := Lib.hid (own_later HO.out hbW)
      clear p0 p1 hrk hy HCk HO
      obtain ⟨K, hK⟩ : ∃ K, A k = K := ⟨_, rfl⟩
      rw [hK] at HOW hle HT
      clear hK
      obtain ⟨m, hm⟩ : ∃ m, H k = m := ⟨_, rfl⟩
      rw [hm] at HT HCW
      clear hm
      go_wp2_with fail
      try rw [hW1]
      clear hW1 hbW d0 d1
      refine HCW.out.mono ?_
      rintro e w5 ⟨rfl, hb5⟩
      have HB5 := Lib.hid (HBW.out.trans (hb5.mono HBW.out.size))
      have HO5 := Lib.hid (own_later HOW.out hb5)
      have hs5 := HB5.out.size
      have r1 := cell_later hb5 q1
      have r2 := cell_later hb5 q2
      clear q1 q2 hb5 hb1
      cases m with
      | true =>
        go_wp2_with (first | (at_builtin; refine wpList_append_own _ rfl _ _ 37 rfl w.heap.size 3 i0 (.int .i64 0) 1 8 Try.underlying37 hi0 hz0 hz1 hz2 rfl (by decide) _ K.length (K.map fun n => Value.int .i64 n) rfl (HO5.out.alloc _) ⟨w5.heap.size, 0, none⟩ 1 1 [.int .i64 y.pos] rfl rfl (cells_alloc _ _ _) (ints_oneC _) (by unfold maxLen; omega) (by omega) (by simp; omega) ?_; intro v' w6 hown6 hgrow6 _))
        have HB6 : Hid (Below w.heap.size w w6) := Lib.hid ((HB5.out.alloc hs5 _).grown hgrow6 (by simp; omega) (fun g hg => (HO5.out.lt g hg).1))
        go_roundw
        case rel => exact ⟨k + 1, by omega, by go_num, by rw [HT.out]; simpa using hown6, HB6.out⟩
        case measure => simp [intOf]; omega
      | false =>
        go_wp2
        go_roundw
        case rel => exact ⟨k + 1, by omega, by go_num, by rw [HT.out]; simpa using HO5.out, HB5.out⟩
        case measure => simp [intOf]; omega
    · have hkli : ¬ (k : Int) < (T.ps.length : Int) := by omega
      obtain rfl : k = T.ps.length := by omega
      clear hb1
      go_wp2
      go_ret
      exact ⟨_, rfl, iC_own HO.out, HB1.out⟩

set_option maxHeartbeats 8000000 in
set_option maxRecDepth 100000 in
theorem places_keep (T : Tb9) (t B : Nat) (Z : Nat → Prop) (w : World) (h : PT9 w B Z t T) (hs : Sz9 T) (x0 : Nat) (H : Nat → Bool) (A : Nat → List Int) (hA0 : A 0 = []) (hA : ∀ k (g : k < T.ps.length), A (k + 1) = A k ++ if H k = true then [T.ps[k].pos] else []) (hC : ∀ k (g : k < T.ps.length) (q : Option Addr) (c : Nat) (W : World), Below w.heap.size w W → RowR 4 LkR W q T.ps[k].ls → Calls Try.prog 56 #[plV T.ps[k] q c, .pointer (some ⟨x0, 0, none⟩)] W fun e w' => e = .returned (.bool (H k)) ∧ Below W.heap.size W w') :
    Calls Try.prog 38 #[.pointer (some ⟨t, 0, none⟩), .func (.func 56) #[] #[.pointer (some ⟨x0, 0, none⟩)]] w fun e w' => ∃ v, e = .returned v ∧ IV9 w (A T.ps.length) v w' := by
  obtain ⟨i0, hi0, hz0, hz1, hz2⟩ := info_parts Try.infoInt
  obtain ⟨q0, cap, hbox, hrow⟩ := h.reads
  have HR := Lib.hid hrow
  have hzt : t < w.heap.size := (Array.getElem?_eq_some_iff.1 hbox).1
  have c0 := (two_of hbox).1.1
  have hps := hs.ps
  have HA := Lib.hid (And.intro hA0 (And.intro hA (grow_le hA0 hA)))
  have HC := Lib.hid hC
  clear h hs hbox hrow hA0 hA hC
  go_enter Try.func38, Try.ntmps38
  go_wp2
  go_loopw [5, 13] (fun v j wr => ∃ k : Nat, k ≤ T.ps.length ∧ j = .int .i64 k ∧ wr.ownsRow w.heap.size 3 1 v (A k).length ((A k).map fun n => Value.int .i64 n) ∧ Below w.heap.size w wr) (fun _ j _ => T.ps.length - (intOf j).toNat)
  case atStart => exact ⟨0, Nat.zero_le _, rfl, by rw [HA.out.1]; exact World.ownsRow_nil _ _ _ _, Below.refl _ _⟩
  case round =>
    obtain ⟨k, hk, rfl, hown, hb1⟩ := hrel
    have HO := Lib.hid hown
    have HB1 := Lib.hid hb1
    have hsz := hb1.size
    have hle : (A k).length ≤ 2147483647 := by have := HA.out.2.2 k hk; omega
    clear hown
    by_cases hkl : k < T.ps.length
    · have hkli : (k : Int) < (T.ps.length : Int) := by omega
      have HT := Lib.hid (HA.out.2.1 k hkl)
      have HCk := Lib.hid (HC.out k hkl)
      obtain ⟨y, hy⟩ : ∃ y, T.ps[k] = y := ⟨_, rfl⟩
      have hat := place_at HR.out hkl
      rw [hy] at hat HT HCk
      obtain ⟨b, off, qk, ck, rfl, p0, p1, hrk⟩ := hat
      have d0 := cell_later hb1 p0
      have d1 := cell_later hb1 p1
      obtain ⟨W1, hW1⟩ : ∃ W1, wr.alloc (Obj.cells #[.int .i64 y.pos, .slice qk y.ls.length ck] 68) = W1 := ⟨_, rfl⟩
      have hbW : Below wr.heap.size wr W1 := by rw [← hW1]; exact (Below.refl _ _).alloc (Nat.le_refl _) _
      have q1 : W1.cell? ⟨wr.heap.size, 0, none⟩ = some (.int .i64 y.pos) := by
        rw [← hW1]
        exact cell_blk (heap_alloc_new wr _) rfl
      have q2 : W1.cell? ⟨wr.heap.size, 1, none⟩ = some (.slice qk y.ls.length ck) := by
        rw [← hW1]
        exact cell_blk (heap_alloc_new wr _) rfl
      have HBW := Lib.hid (HB1.out.trans (hbW.mono hsz))
      have HCW := Lib.hid (HCk.out qk ck W1 HBW.out (hrk.later HBW.out fun _ _ h => h))
      have HOW := Lib.hid (own_later HO.out hbW)
      clear p0 p1 hrk hy HCk HO
      obtain ⟨K, hK⟩ : ∃ K, A k = K := ⟨_, rfl⟩
      rw [hK] at HOW hle HT
      clear hK
      obtain ⟨m, hm⟩ : ∃ m, H k = m := ⟨_, rfl⟩
      rw [hm] at HT HCW
      clear hm
      go_wp2_with fail
      try rw [hW1]
      clear hW1 hbW d0 d1
      refine HCW.out.mono ?_
      rintro e w5 ⟨rfl, hb5⟩
      have HB5 := Lib.hid (HBW.out.trans (hb5.mono HBW.out.size))
      have HO5 := Lib.hid (own_later HOW.out hb5)
      have hs5 := HB5.out.size
      have r1 := cell_later hb5 q1
      have r2 := cell_later hb5 q2
      clear q1 q2 hb5 hb1
      cases m with
      | true =>
        go_wp2_with (first | (at_builtin; refine wpList_append_own _ rfl _ _ 37 rfl w.heap.size 3 i0 (.int .i64 0) 1 8 Try.underlying37 hi0 hz0 hz1 hz2 rfl (by decide) _ K.length (K.map fun n => Value.int .i64 n) rfl (HO5.out.alloc _) ⟨w5.heap.size, 0, none⟩ 1 1 [.int .i64 y.pos] rfl rfl (cells_alloc _ _ _) (ints_oneC _) (by unfold maxLen; omega) (by omega) (by simp; omega) ?_; intro v' w6 hown6 hgrow6 _))
        have HB6 : Hid (Below w.heap.size w w6) := Lib.hid ((HB5.out.alloc hs5 _).grown hgrow6 (by simp; omega) (fun g hg => (HO5.out.lt g hg).1))
        go_roundw
        case rel => exact ⟨k + 1, by omega, by go_num, by rw [HT.out]; simpa using hown6, HB6.out⟩
        case measure => simp [intOf]; omega
      | false =>
        go_wp2
        go_roundw
        case rel => exact ⟨k + 1, by omega, by go_num, by rw [HT.out]; simpa using HO5.out, HB5.out⟩
        case measure => simp [intOf]; omega
    · have hkli : ¬ (k : Int) < (T.ps.length : Int) := by omega
      obtain rfl : k = T.ps.length := by omega
      clear hb1
      go_wp2
      go_ret
      exact ⟨_, rfl, iC_own HO.out, HB1.out⟩
end Go.Proofs.Ytefdhmdkcpgfcaa
