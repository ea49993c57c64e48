/- Walks of layer 8: numbers and texts as bytes. -/
import Derived.Test.YtkgkkcefnonejaaGreatT17
namespace Go.Proofs.YtkgkkcefnonejaaGreat
open Go.RowKit

theorem Tryz.infoU8 : (Tryz.prog.info? 5).map (fun i => (i.zero, i.size, i.bytes)) = some (some (.int .u8 0), 1, 1) := by kernel_rfl
/-- Bytes as cells. -/
def bv (l : List UInt8) : List Value := l.map fun b => .int .u8 (b.toNat : Int)
theorem bv_append (l m : List UInt8) : bv (l ++ m) = bv l ++ bv m := List.map_append
theorem bv_length (l : List UInt8) : (bv l).length = l.length := List.length_map _
theorem bv_one (l : List UInt8) : ∀ u ∈ bv l, u.oneCell' = true := by
  intro u hu
  obtain ⟨b, _, rfl⟩ := List.mem_map.1 hu
  rfl
theorem strCells_bv (s : ByteArray) : Lib.strCells s = bv (bs s) := rfl

/-! ### what may turn while bytes are appended -/
/-- Blocks of bytes from B on may turn, nothing else. -/
structure Inks (B : Nat) (w w' : World) : Prop where
  os : w'.os = w.os
  tape : w'.tape = w.tape
  output : w'.output = w.output
  size : w.heap.size ≤ w'.heap.size
  block : ∀ k, k < w.heap.size → (k < B ∨ ∀ cur fr, w.heap[k]? ≠ some (.cells cur 5 fr)) → w'.heap[k]? = w.heap[k]?
theorem Inks.of {B : Nat} {w w' : World} (h : Below w.heap.size w w') : Inks B w w' := ⟨h.os, h.tape, h.output, h.size, fun k hk _ => h.block k hk⟩
theorem Inks.refl (B : Nat) (w : World) : Inks B w w := Inks.of (Below.refl _ _)
theorem Inks.trans {B : Nat} {a b c : World} (h : Inks B a b) (k : Inks B b c) : Inks B a c := by
  refine ⟨k.os.trans h.os, k.tape.trans h.tape, k.output.trans h.output, Nat.le_trans h.size k.size, fun i hi hz => ?_⟩
  have e := h.block i hi hz
  refine (k.block i (Nat.lt_of_lt_of_le hi h.size) ?_).trans e
  rcases hz with hz | hz
  · exact Or.inl hz
  · exact Or.inr fun cur fr => by rw [e]; exact hz cur fr
theorem Inks.alloc {B : Nat} {a w : World} (h : Inks B a w) (o : Obj) : Inks B a (w.alloc o) := h.trans (Inks.of ((Below.refl _ _).alloc (Nat.le_refl _) _))
theorem Inks.drew {B : Nat} {a w : World} (h : Inks B a w) : Inks B a w.drew := h.trans (Inks.of (Below.refl _ _).drew)
theorem Inks.grown {B : Nat} {a w w' : World} {v : Value} {n : Nat} {xs : List Value} (h : Inks B a w) (ho : w.ownsRow B 5 1 v n xs) (hg : w.grownBy w' v.ownBlock) : Inks B a w' := by
  refine h.trans ⟨hg.os, hg.tape, hg.output, hg.size, fun k hk hz => hg.block k hk fun e => ?_⟩
  rcases hz with hz | hz
  · have := own_ge ho k e.symm
    omega
  · obtain ⟨cur, h'⟩ := own_block ho e.symm
    exact hz cur _ h'
theorem Inks.below {B : Nat} {w w' : World} (h : Inks B w w') (hB : B ≤ w.heap.size) : Below B w w' := ⟨h.os, h.tape, h.output, h.size, fun k hk => h.block k (by omega) (Or.inl hk)⟩
theorem Inks.on {w0 w w' : World} (h0 : Below w0.heap.size w0 w) (h : Inks w0.heap.size w w') : Below w0.heap.size w0 w' := h0.trans (h.below h0.size)
theorem Inks.heap {B : Nat} {w w' : World} (h : Inks B w w') {k : Nat} {cs : Array Value} {t : TypeId} {fr : Nat × Nat} (hk : w.heap[k]? = some (.cells cs t fr)) (ht : t ≠ 5) : w'.heap[k]? = some (.cells cs t fr) := by
  refine (h.block k (Array.getElem?_eq_some_iff.1 hk).1 (Or.inr fun cur fr' e => ?_)).trans hk
  rw [hk] at e
  simp only [Option.some.injEq, Obj.cells.injEq] at e
  exact ht e.2.1
/-- Bytes of the call's own. -/
def Ink (w : World) (B : Nat) (v : Value) (xs : List UInt8) : Prop := w.ownsRow B 5 1 v xs.length (bv xs)
theorem Ink.nil (w : World) (B : Nat) : Ink w B (.slice none 0 0) [] := World.ownsRow_nil _ _ _ _
theorem Ink.later {w w' : World} {B : Nat} {v : Value} {xs : List UInt8} (h : Ink w B v xs) (hb : Below w.heap.size w w') : Ink w' B v xs := own_later h hb
theorem Ink.form {w : World} {B : Nat} {v : Value} {xs : List UInt8} (h : Ink w B v xs) : ∃ p cap, v = .slice p xs.length cap := by
  obtain ⟨_, ⟨rfl, h0⟩ | ⟨g, cap, cur, rfl, _⟩⟩ := h
  · exact ⟨none, 0, by rw [h0]⟩
  · exact ⟨_, cap, rfl⟩
theorem byte_cells (w : World) (x : Int) (c : UInt8) (t : TypeId) (h : x = (c.toNat : Int)) : ∀ j u, (bv [c])[j]? = some u → (w.alloc (.cells #[.int .u8 x] t)).cell? ((⟨w.heap.size, 0, none⟩ : Addr).add j) = some u := by
  subst h
  exact cells_alloc w [.int .u8 (c.toNat : Int)] t

set_option maxHeartbeats 4000000 in
set_option maxRecDepth 100000 in
theorem num_any (v : Value) (xs : List UInt8) (n : Nat) (w : World) (B : Nat) (hB : B ≤ w.heap.size) (hn : n < 2097152) (h : Ink w B v xs) (hl : (xs ++ num n).length ≤ 1099511627776) :
    Calls Tryz.prog 83 #[v, .int .i64 (n : Int)] w fun e w' => ∃ v', e = .returned v' ∧ Ink w' B v' (xs ++ num n) ∧ Inks B w w' := by
  obtain ⟨i0, hi, hz0, hz1, hz2⟩ := info_parts Tryz.infoU8
  obtain ⟨L, hL⟩ : ∃ L, xs ++ num n = L := ⟨_, rfl⟩
  rw [hL] at hl
  have HL := Lib.hid hL
  have HO := Lib.hid h
  rw [hL]
  clear hL h
  go_enter Tryz.func83, Tryz.ntmps83
  go_wp2
  go_loopw [0, 1] (fun u i wr => ∃ (m : Nat) (pre : List UInt8), m < 2097152 ∧ i = .int .i64 (m : Int) ∧ pre ++ num m = L ∧ Ink wr B u pre ∧ Inks B w wr) (fun _ i _ => (intOf i).toNat)
  case atStart => exact ⟨n, xs, hn, rfl, HL.out, HO.out, Inks.refl _ _⟩
  case round =>
    obtain ⟨m, pre, hm, rfl, hpre, hown, hink⟩ := hrel
    have HP := Lib.hid hpre
    have HK := Lib.hid hink
    have hsz := hink.size
    have hpl : pre.length + (num m).length ≤ 1099511627776 := by rw [← List.length_append, hpre]; exact hl
    obtain ⟨p, cap, hv⟩ := hown.form
    subst hv
    clear hpre hink
    by_cases hge : 128 ≤ m
    · obtain ⟨r, hr⟩ : ∃ r, m % 128 = r := ⟨_, rfl⟩
      obtain ⟨q, hq⟩ : ∃ q, m / 128 = q := ⟨_, rfl⟩
      have hnl : 1 ≤ (num m).length := by rw [num_step hge hm]; simp
      have HS : Hid ((pre ++ [UInt8.ofNat (r + 128)]) ++ num q = L) := by
        have := HP.out
        rw [num_step hge hm, hr, hq] at this
        show _ ++ _ = L
        rw [← this]
        simp
      have hgi : (128 : Int) ≤ (m : Int) := by omega
      have e1 : (m : Int) % 128 = (r : Int) := by omega
      have e2 : IntKind.u8.wrap (r : Int) = (r : Int) := by rw [IntKind.wrap_u8]; omega
      have e3 : IntKind.u8.wrap ((r : Int) + 128) = (r : Int) + 128 := by rw [IntKind.wrap_u8]; omega
      have e4 : (m : Int) / 128 = (q : Int) := by omega
      have HT : Hid ((r : Int) + 128 = ((UInt8.ofNat (r + 128)).toNat : Int)) := by
        show (r : Int) + 128 = _
        rw [UInt8.toNat_ofNat']
        omega
      have hqm : q < m := by omega
      clear hr hq
      have hown1 : wr.ownsRow B 5 1 (.slice p pre.length cap) pre.length (bv pre) := hown
      go_wp2_with (first | (at_builtin; refine wpList_append_own _ rfl _ _ 74 rfl B 5 i0 (.int .u8 0) 1 1 Tryz.underlying74 hi hz0 hz1 hz2 rfl (by decide) _ pre.length (bv pre) rfl (hown1.alloc _) ⟨wr.heap.size, 0, none⟩ 1 1 (bv [UInt8.ofNat (r + 128)]) rfl rfl (byte_cells _ _ _ _ HT.out) (bv_one _) (by unfold maxLen; omega) (by omega) (by simp; omega) ?_; intro v' w1 hown' hgrow _))
      have HO2 : Hid (Ink w1 B v' (pre ++ [UInt8.ofNat (r + 128)])) := by
        rw [← bv_append] at hown'
        show Ink _ _ _ _
        simpa [Ink] using hown'
      have HK2 : Hid (Inks B w w1) := (HK.out.alloc _).grown (hown1.alloc _) hgrow
      clear hown' hgrow hown hown1
      go_wp2
      go_roundw
      case rel => exact ⟨q, _, by omega, by go_num, HS.out, HO2.out, HK2.out⟩
      case measure => simp [intOf]; omega
    · have HS : Hid (pre ++ [UInt8.ofNat m] = L) := by
        have := HP.out
        rw [num_last (by omega)] at this
        exact this
      have hnl : 1 ≤ (num m).length := by rw [num_last (by omega)]; simp
      have e2 : IntKind.u8.wrap (m : Int) = (m : Int) := by rw [IntKind.wrap_u8]; omega
      have HT : Hid ((m : Int) = ((UInt8.ofNat m).toNat : Int)) := by
        show (m : Int) = _
        rw [UInt8.toNat_ofNat']
        omega
      have hgi : ¬ (128 : Int) ≤ (m : Int) := by omega
      have hown1 : wr.ownsRow B 5 1 (.slice p pre.length cap) pre.length (bv pre) := hown
      go_wp2_with (first | (at_builtin; refine wpList_append_own _ rfl _ _ 74 rfl B 5 i0 (.int .u8 0) 1 1 Tryz.underlying74 hi hz0 hz1 hz2 rfl (by decide) _ pre.length (bv pre) rfl (hown1.alloc _) ⟨wr.heap.size, 0, none⟩ 1 1 (bv [UInt8.ofNat m]) rfl rfl (byte_cells _ _ _ _ HT.out) (bv_one _) (by unfold maxLen; omega) (by omega) (by simp; omega) ?_; intro v' w1 hown' hgrow _))
      have HO2 : Hid (Ink w1 B v' (pre ++ [UInt8.ofNat m])) := by
        rw [← bv_append] at hown'
        show Ink _ _ _ _
        simpa [Ink] using hown'
      have HK2 : Hid (Inks B w w1) := (HK.out.alloc _).grown (hown1.alloc _) hgrow
      clear hown' hgrow hown hown1
      go_wp2
      go_ret
      exact ⟨_, rfl, by rw [← HS.out]; exact HO2.out, HK2.out⟩

set_option maxHeartbeats 4000000 in
theorem bool_any (v : Value) (xs : List UInt8) (b : Bool) (w : World) (B : Nat) (hB : B ≤ w.heap.size) (h : Ink w B v xs) (hl : (xs ++ flag b).length ≤ 1099511627776) :
    Calls Tryz.prog 137 #[v, .bool b] w fun e w' => ∃ v', e = .returned v' ∧ Ink w' B v' (xs ++ flag b) ∧ Inks B w w' := by
  rw [flag_num] at hl ⊢
  have HC := Lib.hid (num_any v xs (if b then 1 else 0) w B hB (by split <;> omega) h hl)
  obtain ⟨L, hL⟩ : ∃ L, xs ++ num (if b then 1 else 0) = L := ⟨_, rfl⟩
  rw [hL] at HC ⊢
  clear h hL hl
  cases b with
  | true =>
    go_enter Tryz.func137, Tryz.ntmps137
    go_wp2_with fail
    refine HC.out.mono ?_
    rintro e w1 ⟨v', rfl, h1, h2⟩
    go_wp2
    go_ret
    exact ⟨_, rfl, h1, h2⟩
  | false =>
    go_enter Tryz.func137, Tryz.ntmps137
    go_wp2_with fail
    refine HC.out.mono ?_
    rintro e w1 ⟨v', rfl, h1, h2⟩
    go_wp2
    go_ret
    exact ⟨_, rfl, h1, h2⟩

set_option maxHeartbeats 4000000 in
set_option maxRecDepth 100000 in
theorem text_any (v : Value) (xs : List UInt8) (s : ByteArray) (w : World) (B : Nat) (hB : B ≤ w.heap.size) (hs : s.size < 2097152) (h : Ink w B v xs) (hl : (xs ++ txt s).length ≤ 1099511627776) :
    Calls Tryz.prog 84 #[v, .string s] w fun e w' => ∃ v', e = .returned v' ∧ Ink w' B v' (xs ++ txt s) ∧ Inks B w w' := by
  obtain ⟨i0, hi, hz0, hz1, hz2⟩ := info_parts Tryz.infoU8
  have hl2 : (xs ++ num s.size).length + s.size ≤ 1099511627776 := by
    rw [txt, ← List.append_assoc, List.length_append, bs_len] at hl
    exact hl
  have HC := Lib.hid (num_any v xs s.size w B hB hs h (by omega))
  obtain ⟨M, hM⟩ : ∃ M, xs ++ num s.size = M := ⟨_, rfl⟩
  have HM : Hid (xs ++ txt s = M ++ bs s) := by
    show _ = _
    rw [txt, ← List.append_assoc, hM]
  rw [hM] at HC hl2
  clear h hM hl
  go_enter Tryz.func84, Tryz.ntmps84
  go_wp2_with fail
  refine HC.out.mono ?_
  rintro e w1 ⟨v', rfl, h1, h2⟩
  obtain ⟨p, cap, rfl⟩ := h1.form
  have hs2 := h2.size
  have HK := Lib.hid h2
  have h1o : w1.ownsRow B 5 1 (.slice p M.length cap) M.length (bv M) := h1
  clear h2 HC h1
  go_wp2_with (first | (at_builtin; refine Lib.wpList_append_own_string _ rfl _ _ 74 9 rfl B 5 i0 Tryz.underlying74 Tryz.underlying9 hi hz0 hz1 hz2 _ M.length (bv M) rfl h1o s rfl (by unfold maxLen; omega) (by omega) (by omega) ?_; intro v2 w2 ho hg _))
  have HO2 : Hid (Ink w2 B v2 (M ++ bs s)) := by
    rw [strCells_bv, ← bv_append] at ho
    show Ink _ _ _ _
    simpa [Ink, bs_len] using ho
  have HK2 : Hid (Inks B w w2) := HK.out.grown h1o hg
  clear ho hg h1o
  go_wp2
  go_ret
  exact ⟨_, rfl, by rw [HM.out]; exact HO2.out, HK2.out⟩
end Go.Proofs.YtkgkkcefnonejaaGreat
