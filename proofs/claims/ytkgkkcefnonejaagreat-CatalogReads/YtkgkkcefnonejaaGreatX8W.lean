/- Walks of layer 8: the document's Number, Text, flag, numbers. -/
import Derived.Laws.IdiomCopy
import Derived.Laws.CopyOwn
import Derived.OwnWalk
import Derived.Test.YtkgkkcefnonejaaGreatT40
import Derived.Test.YtkgkkcefnonejaaGreatX8B
namespace Go.Proofs.YtkgkkcefnonejaaGreat
open Go.RowKit

set_option maxHeartbeats 4000000 in
set_option maxRecDepth 100000 in
theorem dNum_any (v : Value) (xs : List UInt8) (n : Nat) (w : World) (B : Nat) (hB : B ≤ w.heap.size) (hn : n < 2097152) (h : Ink w B v xs) (hl : (xs ++ num n).length ≤ 1099511627776) :
    Calls Tryz.prog 49 #[v, .int .i64 (n : Int)] w fun e w' => ∃ v', e = .returned v' ∧ Ink w' B v' (xs ++ num n) ∧ Inks B w w' := by
  obtain ⟨i0, hi, hz0, hz1, hz2⟩ := info_parts Tryz.infoU8
  obtain ⟨L, hL⟩ : ∃ L, xs ++ num n = L := ⟨_, rfl⟩
  rw [hL] at hl
  have HL := Lib.hid hL
  have HO := Lib.hid h
  rw [hL]
  clear hL h
  go_enter Tryz.func49, Tryz.ntmps49
  go_wp2
  go_loopw [0, 1] (fun u i wr => ∃ (m : Nat) (pre : List UInt8), m < 2097152 ∧ i = .int .i64 (m : Int) ∧ pre ++ num m = L ∧ Ink wr B u pre ∧ Inks B w wr) (fun _ i _ => (intOf i).toNat)
  case atStart => exact ⟨n, xs, hn, rfl, HL.out, HO.out, Inks.refl _ _⟩
  case round =>
    obtain ⟨m, pre, hm, rfl, hpre, hown, hink⟩ := hrel
    have HP := Lib.hid hpre
    have HK := Lib.hid hink
    have hsz := hink.size
    have hpl : pre.length + (num m).length ≤ 1099511627776 := by rw [← List.length_append, hpre]; exact hl
    obtain ⟨p, cap, hv⟩ := hown.form
    subst hv
    clear hpre hink
    by_cases hge : 128 ≤ m
    · obtain ⟨r, hr⟩ : ∃ r, m % 128 = r := ⟨_, rfl⟩
      obtain ⟨q, hq⟩ : ∃ q, m / 128 = q := ⟨_, rfl⟩
      have hnl : 1 ≤ (num m).length := by rw [num_step hge hm]; simp
      have HS : Hid ((pre ++ [UInt8.ofNat (r + 128)]) ++ num q = L) := by
        have := HP.out
        rw [num_step hge hm, hr, hq] at this
        show _ ++ _ = L
        rw [← this]
        simp
      have hgi : (127 : Int) < (m : Int) := by omega
      have e1 : (m : Int) % 128 = (r : Int) := by omega
      have e5 : (m : Int).tmod 128 = (r : Int) := by rw [Int.tmod_eq_emod_of_nonneg (by omega)]; omega
      have e6 : (m : Int).tdiv 128 = (q : Int) := by rw [Int.tdiv_eq_ediv_of_nonneg (by omega)]; omega
      have e7 : IntKind.i64.wrap (128 + (r : Int)) = 128 + (r : Int) := by rw [IntKind.wrap_i64]; omega
      have e8 : IntKind.u8.wrap (128 + (r : Int)) = 128 + (r : Int) := by rw [IntKind.wrap_u8]; omega
      have e9 : IntKind.i64.wrap (r : Int) = (r : Int) := by rw [IntKind.wrap_i64]; omega
      have e10 : IntKind.i64.wrap (q : Int) = (q : Int) := by rw [IntKind.wrap_i64]; omega
      have e2 : IntKind.u8.wrap (r : Int) = (r : Int) := by rw [IntKind.wrap_u8]; omega
      have e3 : IntKind.u8.wrap ((r : Int) + 128) = (r : Int) + 128 := by rw [IntKind.wrap_u8]; omega
      have e4 : (m : Int) / 128 = (q : Int) := by omega
      have HT : Hid (128 + (r : Int) = ((UInt8.ofNat (r + 128)).toNat : Int)) := by
        show 128 + (r : Int) = _
        rw [UInt8.toNat_ofNat']
        omega
      have hqm : q < m := by omega
      clear hr hq
      have hown1 : wr.ownsRow B 5 1 (.slice p pre.length cap) pre.length (bv pre) := hown
      go_wp2_with (first | (at_builtin; refine wpList_append_own _ rfl _ _ 74 rfl B 5 i0 (.int .u8 0) 1 1 Tryz.underlying74 hi hz0 hz1 hz2 rfl (by decide) _ pre.length (bv pre) rfl (hown1.alloc _) ⟨wr.heap.size, 0, none⟩ 1 1 (bv [UInt8.ofNat (r + 128)]) rfl rfl (byte_cells _ _ _ _ HT.out) (bv_one _) (by unfold maxLen; omega) (by omega) (by simp; omega) ?_; intro v' w1 hown' hgrow _))
      have HO2 : Hid (Ink w1 B v' (pre ++ [UInt8.ofNat (r + 128)])) := by
        rw [← bv_append] at hown'
        show Ink _ _ _ _
        simpa [Ink] using hown'
      have HK2 : Hid (Inks B w w1) := (HK.out.alloc _).grown (hown1.alloc _) hgrow
      clear hown' hgrow hown hown1
      go_wp2
      go_roundw
      case rel => exact ⟨q, _, by omega, by go_num, HS.out, HO2.out, HK2.out⟩
      case measure => simp [intOf]; omega
    · have HS : Hid (pre ++ [UInt8.ofNat m] = L) := by
        have := HP.out
        rw [num_last (by omega)] at this
        exact this
      have hnl : 1 ≤ (num m).length := by rw [num_last (by omega)]; simp
      have e2 : IntKind.u8.wrap (m : Int) = (m : Int) := by rw [IntKind.wrap_u8]; omega
      have HT : Hid ((m : Int) = ((UInt8.ofNat m).toNat : Int)) := by
        show (m : Int) = _
        rw [UInt8.toNat_ofNat']
        omega
      have hgi : ¬ (127 : Int) < (m : Int) := by omega
      have hown1 : wr.ownsRow B 5 1 (.slice p pre.length cap) pre.length (bv pre) := hown
      go_wp2_with (first | (at_builtin; refine wpList_append_own _ rfl _ _ 74 rfl B 5 i0 (.int .u8 0) 1 1 Tryz.underlying74 hi hz0 hz1 hz2 rfl (by decide) _ pre.length (bv pre) rfl (hown1.alloc _) ⟨wr.heap.size, 0, none⟩ 1 1 (bv [UInt8.ofNat m]) rfl rfl (byte_cells _ _ _ _ HT.out) (bv_one _) (by unfold maxLen; omega) (by omega) (by simp; omega) ?_; intro v' w1 hown' hgrow _))
      have HO2 : Hid (Ink w1 B v' (pre ++ [UInt8.ofNat m])) := by
        rw [← bv_append] at hown'
        show Ink _ _ _ _
        simpa [Ink] using hown'
      have HK2 : Hid (Inks B w w1) := (HK.out.alloc _).grown (hown1.alloc _) hgrow
      clear hown' hgrow hown hown1
      go_wp2
      go_ret
      exact ⟨_, rfl, by rw [← HS.out]; exact HO2.out, HK2.out⟩

set_option maxHeartbeats 4000000 in
set_option maxRecDepth 100000 in
theorem dText_any (v : Value) (xs : List UInt8) (s : ByteArray) (w : World) (B : Nat) (hB : B ≤ w.heap.size) (hs : s.size < 2097152) (h : Ink w B v xs) (hl : (xs ++ txt s).length ≤ 1099511627776) :
    Calls Tryz.prog 50 #[v, .string s] w fun e w' => ∃ v', e = .returned v' ∧ Ink w' B v' (xs ++ txt s) ∧ Inks B w w' := by
  obtain ⟨i0, hi, hz0, hz1, hz2⟩ := info_parts Tryz.infoU8
  have hl2 : (xs ++ num s.size).length + s.size ≤ 1099511627776 := by
    rw [txt, ← List.append_assoc, List.length_append, bs_len] at hl
    exact hl
  have HC := Lib.hid (dNum_any v xs s.size w B hB hs h (by omega))
  obtain ⟨M, hM⟩ : ∃ M, xs ++ num s.size = M := ⟨_, rfl⟩
  have HM : Hid (xs ++ txt s = M ++ bs s) := by
    show _ = _
    rw [txt, ← List.append_assoc, hM]
  rw [hM] at HC hl2
  clear h hM hl
  go_enter Tryz.func50, Tryz.ntmps50
  go_wp2_with fail
  refine HC.out.mono ?_
  rintro e w1 ⟨v', rfl, h1, h2⟩
  obtain ⟨p, cap, rfl⟩ := h1.form
  have hs2 := h2.size
  have HK := Lib.hid h2
  have h1o : w1.ownsRow B 5 1 (.slice p M.length cap) M.length (bv M) := h1
  clear h2 HC h1
  go_wp2_with (first | (at_builtin; refine Lib.wpList_append_own_string _ rfl _ _ 74 9 rfl B 5 i0 Tryz.underlying74 Tryz.underlying9 hi hz0 hz1 hz2 _ M.length (bv M) rfl h1o s rfl (by unfold maxLen; omega) (by omega) (by omega) ?_; intro v2 w2 ho hg _))
  have HO2 : Hid (Ink w2 B v2 (M ++ bs s)) := by
    rw [strCells_bv, ← bv_append] at ho
    show Ink _ _ _ _
    simpa [Ink, bs_len] using ho
  have HK2 : Hid (Inks B w w2) := HK.out.grown h1o hg
  clear ho hg h1o
  go_wp2
  go_ret
  exact ⟨_, rfl, by rw [HM.out]; exact HO2.out, HK2.out⟩
set_option maxHeartbeats 4000000 in
set_option maxRecDepth 100000 in
theorem dFlag_any (v : Value) (xs : List UInt8) (b : Bool) (w : World) (B : Nat) (hB : B ≤ w.heap.size) (h : Ink w B v xs) (hl : (xs ++ flag b).length ≤ 1099511627776) :
    Calls Tryz.prog 51 #[v, .bool b] w fun e w' => ∃ v', e = .returned v' ∧ Ink w' B v' (xs ++ flag b) ∧ Inks B w w' := by
  obtain ⟨i0, hi, hz0, hz1, hz2⟩ := info_parts Tryz.infoU8
  obtain ⟨p, cap, rfl⟩ := h.form
  have hl2 : xs.length + 1 ≤ 1099511627776 := by
    rw [List.length_append] at hl
    exact hl
  have hown1 : w.ownsRow B 5 1 (.slice p xs.length cap) xs.length (bv xs) := h
  clear h hl
  cases b with
  | true =>
    have HT : Hid ((1 : Int) = (((1 : UInt8)).toNat : Int)) := rfl
    go_enter Tryz.func51, Tryz.ntmps51
    go_wp2_with (first | (at_builtin; refine wpList_append_own _ rfl _ _ 74 rfl B 5 i0 (.int .u8 0) 1 1 Tryz.underlying74 hi hz0 hz1 hz2 rfl (by decide) _ xs.length (bv xs) rfl (hown1.alloc _) ⟨w.heap.size, 0, none⟩ 1 1 (bv [(1 : UInt8)]) rfl rfl (byte_cells _ _ _ _ HT.out) (bv_one _) (by unfold maxLen; omega) (by omega) (by simp; omega) ?_; intro v' w1 hown' hgrow _))
    have HO2 : Hid (Ink w1 B v' (xs ++ flag true)) := by
      rw [← bv_append] at hown'
      show Ink _ _ _ _
      simpa [Ink, flag] using hown'
    have HK2 : Hid (Inks B w w1) := ((Inks.refl _ _).alloc _).grown (hown1.alloc _) hgrow
    clear hown' hgrow hown1
    go_wp2
    go_ret
    exact ⟨_, rfl, HO2.out, HK2.out⟩
  | false =>
    have HT : Hid ((0 : Int) = (((0 : UInt8)).toNat : Int)) := rfl
    go_enter Tryz.func51, Tryz.ntmps51
    go_wp2_with (first | (at_builtin; refine wpList_append_own _ rfl _ _ 74 rfl B 5 i0 (.int .u8 0) 1 1 Tryz.underlying74 hi hz0 hz1 hz2 rfl (by decide) _ xs.length (bv xs) rfl (hown1.alloc _) ⟨w.heap.size, 0, none⟩ 1 1 (bv [(0 : UInt8)]) rfl rfl (byte_cells _ _ _ _ HT.out) (bv_one _) (by unfold maxLen; omega) (by omega) (by simp; omega) ?_; intro v' w1 hown' hgrow _))
    have HO2 : Hid (Ink w1 B v' (xs ++ flag false)) := by
      rw [← bv_append] at hown'
      show Ink _ _ _ _
      simpa [Ink, flag] using hown'
    have HK2 : Hid (Inks B w w1) := ((Inks.refl _ _).alloc _).grown (hown1.alloc _) hgrow
    clear hown' hgrow hown1
    go_wp2
    go_ret
    exact ⟨_, rfl, HO2.out, HK2.out⟩

set_option maxHeartbeats 4000000 in
set_option maxRecDepth 100000 in
theorem dNums_any (v : Value) (xs : List UInt8) (p : Option Addr) (cap : Nat) (l : List Int) (w w0 : World) (hw : Inks w0.heap.size w0 w) (hl1 : l.length < 2097152) (hr : RowR 1 IntR w0 p l) (hn : ∀ n ∈ l, 0 ≤ n ∧ n < 2097152) (h : Ink w w0.heap.size v xs) (hl : (xs ++ lst numI l).length ≤ 1099511627776) :
    Calls Tryz.prog 52 #[v, .slice p l.length cap] w fun e w' => ∃ v', e = .returned v' ∧ Ink w' w0.heap.size v' (xs ++ lst numI l) ∧ Inks w0.heap.size w w' := by
  have hB : w0.heap.size ≤ w.heap.size := hw.size
  have HR := Lib.hid hr
  have HW := Lib.hid hw
  have HNN := Lib.hid hn
  have hle : ∀ k, ((xs ++ num l.length) ++ (l.take k).flatMap numI).length ≤ 1099511627776 := fun k => by
    rw [lst, ← List.append_assoc, List.length_append] at hl
    rw [List.length_append]
    have := flat_le numI l k
    omega
  have HLE := Lib.hid hle
  have HC := Lib.hid (dNum_any v xs l.length w w0.heap.size hB hl1 h (by have := hle 0; simpa using this))
  obtain ⟨M, hM⟩ : ∃ M, xs ++ num l.length = M := ⟨_, rfl⟩
  have HM : Hid (xs ++ lst numI l = M ++ l.flatMap numI) := by
    show _ = _
    rw [lst, ← List.append_assoc, hM]
  rw [hM] at HC HLE
  clear h hM hl hle hr hw hn
  go_enter Tryz.func52, Tryz.ntmps52
  go_wp2_with fail
  refine HC.out.mono ?_
  rintro e w1 ⟨v', rfl, h1, h2⟩
  have HO := Lib.hid h1
  have HK := Lib.hid h2
  clear h1 h2 HC
  go_wp2
  go_loopw [0, 5] (fun u i wr => ∃ k : Nat, k ≤ l.length ∧ i = .int .i64 k ∧ Ink wr w0.heap.size u (M ++ (l.take k).flatMap numI) ∧ Inks w0.heap.size w wr) (fun _ i _ => l.length - (intOf i).toNat)
  case atStart => exact ⟨0, Nat.zero_le _, rfl, by simpa using HO.out, HK.out⟩
  case round =>
    obtain ⟨k, hk, rfl, hown, hink⟩ := hrel
    have HO2 := Lib.hid hown
    have HK2 := Lib.hid hink
    have hsz := hink.size
    clear hown hink
    by_cases hlt : k < l.length
    · have hlti : (k : Int) < (l.length : Int) := by omega
      obtain ⟨b, o, v0, rfl, hR, e1⟩ := HR.out.at1 hlt
      simp only [IntR, List.cons.injEq, and_true] at hR
      subst hR
      have hnk := HNN.out l[k] (List.getElem_mem hlt)
      obtain ⟨m, hm⟩ : ∃ m : Nat, l[k] = (m : Int) := ⟨l[k].toNat, by omega⟩
      have hbw : Below w0.heap.size w0 wr := (HW.out.trans HK2.out).below (Nat.le_refl _)
      have d1 := cell_later hbw e1
      rw [hm] at d1
      have hmn : num m = numI l[k] := by rw [hm]; rfl
      have HLK : Hid ((M ++ (l.take k).flatMap numI) ++ num m = M ++ (l.take (k + 1)).flatMap numI) := by
        show _ = _
        rw [flat_take numI l k hlt, hmn, List.append_assoc]
      have HL1 : ((M ++ (l.take k).flatMap numI) ++ num m).length ≤ 1099511627776 := by rw [HLK.out]; exact HLE.out (k + 1)
      have hm2 : m < 2097152 := by omega
      clear hbw hm hmn e1
      go_wp2_with fail
      refine (dNum_any _ _ m _ w0.heap.size (by omega) hm2 HO2.out HL1).mono ?_
      rintro e w2 ⟨v2, rfl, h1, h2⟩
      rw [HLK.out] at h1
      have HO3 := Lib.hid h1
      have HK3 := Lib.hid (HK2.out.trans h2)
      clear h1 h2 d1
      go_wp2
      go_roundw
      case rel => exact ⟨k + 1, by omega, by go_num, HO3.out, HK3.out⟩
      case measure => simp [intOf]; omega
    · have hlti : ¬ (k : Int) < (l.length : Int) := by omega
      have hO := HO2.out
      rw [List.take_of_length_le (by omega)] at hO
      have HO3 := Lib.hid hO
      clear hO
      go_wp2
      go_ret
      exact ⟨_, rfl, by rw [HM.out]; exact HO3.out, HK2.out⟩
end Go.Proofs.YtkgkkcefnonejaaGreat
/- A law for copy between slices whose elements are of several cells. -/
namespace Go.Proofs.YtkgkkcefnonejaaGreat
open Go Go.RowKit

theorem run_copy_wide {P : Program} (w : World) (dT sT ty elem : TypeId) (b o dLen dCap : Nat) (a : Option Addr) (sLen sCap size : Nat) (cs : List Value)
    (hu : P.underlying dT = some (.slice elem)) (hs : (P.info? elem).map (·.size) = some size) (hle : sLen ≤ dLen) (hn : cs.length = sLen * size)
    (hsrc : 0 < cs.length → ∃ ad, a = some ad ∧ ∀ j v, cs[j]? = some v → w.cell? (ad.add j) = some v) (hc : ∀ j, j < cs.length → (w.cell? ⟨b, o + j, none⟩).isSome = true) (hf : ∀ j, j < cs.length → w.frozen? ⟨b, o + j, none⟩ = false) (h1 : ∀ v ∈ cs, v.oneCell' = true) :
    (Builtin.copy_ #[dT, sT] ty #[.slice (some ⟨b, o, none⟩) dLen dCap, .slice a sLen sCap]).run P w = .ok (goInt sLen) (w.setCells b o cs) := by
  have hst := run_storeCells_cells (P := P) b o cs 0 w (by simpa using hc) (by simpa using hf) h1
  have hmin : Nat.min sLen dLen = sLen := Nat.min_eq_left hle
  cases hq : P.info? elem with
  | none => simp [hq] at hs
  | some i =>
    have hi : i.size = size := by simpa [hq] using hs
    by_cases h0 : cs.length = 0
    · obtain rfl : cs = [] := List.eq_nil_of_length_eq_zero h0
      have hz : sLen * size = 0 := by simpa using hn.symm
      have hl : ∀ (x : Addr), (loadCells x 0).run P w = .ok #[] w := fun x => by simpa using run_loadCells_list (P := P) w x [] (by simp)
      cases a <;> simp [Builtin.copy_, run_underlying hu, Builtin.lenOf, Builtin.firstCells, sizeOf, typeInfo, hq, hi, hmin, hz, storeCells, hl, World.setCells]
    · obtain ⟨ad, rfl, hcell⟩ := hsrc (by omega)
      have hl := run_loadCells_list (P := P) w ad cs hcell
      rw [hn] at hl
      simp [Builtin.copy_, run_underlying hu, Builtin.lenOf, Builtin.firstCells, sizeOf, typeInfo, hq, hi, hmin, hl, hst]

theorem wpList_copy_wide {P : Program} {w : World} {ops : Array Oper} {rest : List Oper} {o : Oper} {a : Act} {Q : Exit → Act → World → Prop} (hgd : o.guard = none) (d s : Operand) (dT sT : TypeId)
    (ho : o.op = .call { callee := .builtin .copy, args := #[d, s], argTypes := #[dT, sT] }) (elem : TypeId) (size : Nat) (hu : P.underlying dT = some (.slice elem)) (hsz : (P.info? elem).map (·.size) = some size)
    (b off dLen dCap : Nat) (sp : Option Addr) (sLen sCap : Nat) (hd : a.eval d = .slice (some ⟨b, off, none⟩) dLen dCap) (hs : a.eval s = .slice sp sLen sCap) (cs : List Value) (hle : sLen ≤ dLen) (hn : cs.length = sLen * size)
    (hsrc : 0 < cs.length → ∃ ad, sp = some ad ∧ ∀ j v, cs[j]? = some v → w.cell? (ad.add j) = some v) (hc : ∀ j, j < cs.length → (w.cell? ⟨b, off + j, none⟩).isSome = true) (hf : ∀ j, j < cs.length → w.frozen? ⟨b, off + j, none⟩ = false) (h1 : ∀ v ∈ cs, v.oneCell' = true)
    (h : ∀ w', w' = w.setCells b off cs → wpList P ops Q rest (a.put o.dst (goInt sLen)) w') : wpList P ops Q (o :: rest) a w := by
  refine wpList_plain hgd fun K hK => ?_
  have hrun := run_copy_wide (P := P) w dT sT o.type elem b off dLen dCap sp sLen sCap size cs hu hsz hle hn hsrc hc hf h1
  unfold Oper.wp
  simp [execOp, ho, resolve, invoke, builtin, hd, hs, hrun, Result.andThen]
  exact hK _ _ (h _ rfl)
end Go.Proofs.YtkgkkcefnonejaaGreat
/- Walks of layer 8: rows that are made, and copied over; the document's ints. -/
namespace Go.Proofs.YtkgkkcefnonejaaGreat
open Go.RowKit

theorem setCells_grown (g : Nat) : ∀ (vs : List Value) (o : Nat) (w : World), w.grownBy (w.setCells g o vs) (some g)
  | [], _, w => ⟨rfl, rfl, rfl, Nat.le_refl _, fun _ _ _ => rfl⟩
  | v :: r, o, w => by
    have ih := setCells_grown g r (o + 1) (w.setCell ⟨g, o, none⟩ v)
    refine ⟨ih.os, ih.tape, ih.output, ?_, fun k hk hne => ?_⟩
    · have := ih.size
      rw [World.setCells]
      refine Nat.le_trans ?_ this
      simp [World.setCell]
    · rw [World.setCells]
      rw [ih.block k (by simpa [World.setCell] using hk) hne]
      exact Below.heap_setCell _ _ _ _ (fun e => hne (by rw [e]))

/-! ### nodes in memory -/
theorem setCells_row (g : Nat) : ∀ (vs : List Value) (o : Nat) (w : World) {cur : Array Value} {e : TypeId} {fr : Nat × Nat}, w.heap[g]? = some (.cells cur e fr) → ∃ cur', (w.setCells g o vs).heap[g]? = some (.cells cur' e fr) ∧ cur'.size = cur.size
  | [], _, _, cur, _, _, h => ⟨cur, h, rfl⟩
  | v :: r, o, w, cur, e, fr, h => by
    have : (w.setCell ⟨g, o, none⟩ v).heap[g]? = some (.cells (cur.setIfInBounds o v) e fr) := heap_setCell_at h v
    obtain ⟨cur', h1, h2⟩ := setCells_row g r (o + 1) _ this
    exact ⟨cur', h1, by rw [h2]; simp⟩
/-- A row out of its cells. -/
theorem own_of_cells {w : World} {e : TypeId} {size n cap g : Nat} {cur : Array Value} {xs : List Value} (hx : xs.length = n * size) (hg : w.heap[g]? = some (.cells cur e (0, 0))) (hn : n ≤ cap) (hm : cap ≤ maxLen) (hs : cur.size = cap * size) (hc : ∀ j, j < n * size → w.cell? ⟨g, j, none⟩ = xs[j]?) : w.ownsRow 0 e size (.slice (some ⟨g, 0, none⟩) n cap) n xs := by
  refine ⟨hx, Or.inr ⟨g, cap, cur, rfl, Nat.zero_le _, hg, hn, hm, hs, ?_⟩⟩
  have hle : n * size ≤ cur.size := by rw [hs]; exact Nat.mul_le_mul_right _ hn
  apply List.ext_getElem?
  intro j
  by_cases hj : j < n * size
  · have h1 := hc j hj
    simp only [World.cell?, hg] at h1
    rw [List.getElem?_take_of_lt hj, ← h1]
    simp
  · rw [List.getElem?_eq_none (by rw [List.length_take]; omega), List.getElem?_eq_none (by omega)]
theorem copied_row {w w' : World} {B g n : Nat} {zs cs : List Value} {e : TypeId} {size : Nat} (ho : w.ownsRow B e size (.slice (some ⟨g, 0, none⟩) n n) n zs) (hc : cs.length = n * size) (hw : w' = w.setCells g 0 cs) : w'.ownsRow B e size (.slice (some ⟨g, 0, none⟩) n n) n cs := by
  obtain ⟨h1, ⟨h2, _⟩ | ⟨g', cap, cur, e', hB, hg, hn, hm, hs, _⟩⟩ := ho
  · cases h2
  · simp only [Value.slice.injEq, Option.some.injEq, Addr.mk.injEq, and_true, true_and] at e'
    obtain ⟨rfl, rfl⟩ := e'
    obtain ⟨cur', hg', hs'⟩ := setCells_row g cs 0 w hg
    rw [← hw] at hg'
    have hin : ∀ j, j < cs.length → (w.cell? ⟨g, 0 + j, none⟩).isSome = true := fun j hj => by
      simp only [World.cell?, hg, Nat.zero_add]
      rw [hc, ← hs] at hj
      simp [hj]
    have h := own_of_cells (w := w') (e := e) (size := size) hc hg' (Nat.le_refl n) hm (by rw [hs', hs]) fun j hj => by
      have h2 := World.cell?_setCells_in g cs 0 w hin j (by omega)
      rw [Nat.zero_add] at h2
      rw [hw, h2, List.getElem?_eq_getElem (by omega)]
    obtain ⟨q1, ⟨q2, _⟩ | ⟨g', cap, cur, e', _, q⟩⟩ := h
    · cases q2
    · exact ⟨q1, Or.inr ⟨g', cap, cur, e', by
        simp only [Value.slice.injEq, Option.some.injEq, Addr.mk.injEq, and_true] at e'
        rw [← e'.1]; exact hB, q⟩⟩
theorem row_room {w : World} {B g n : Nat} {zs : List Value} {e : TypeId} {size : Nat} (ho : w.ownsRow B e size (.slice (some ⟨g, 0, none⟩) n n) n zs) : (∀ j, j < n * size → (w.cell? ⟨g, 0 + j, none⟩).isSome = true) ∧ ∀ o, w.frozen? ⟨g, o, none⟩ = false := by
  refine ⟨fun j hj => ?_, fun o => ho.frozenAt o⟩
  rw [Nat.zero_add, ho.cellAt j hj, List.getElem?_eq_getElem (by rw [ho.1]; exact hj)]
  rfl
theorem flatf_length {α : Type} {n : Nat} {f : α → List Value} (hl : ∀ x, (f x).length = n) : ∀ l : List α, (l.flatMap f).length = l.length * n
  | [] => by simp
  | x :: l => by rw [List.flatMap_cons, List.length_append, hl, flatf_length hl l, List.length_cons, Nat.add_mul]; omega
theorem flatf_pairs {α : Type} (f : α → List Value) (l : List α) : (l.map fun x => (x, f x)).flatMap (·.2) = l.flatMap f := by rw [List.flatMap_map]
/-- The cells of a row, one behind the other. -/
theorem row_cells {α : Type} {n : Nat} (hn : 0 < n) {R : α → List Value → Prop} {f : α → List Value} (hf : ∀ x vs, R x vs → vs = f x) (hl : ∀ x, (f x).length = n) {w : World} {a : Option Addr} {l : List α} (h : RowR n R w a l) :
    0 < (l.flatMap f).length → ∃ ad, a = some ad ∧ ∀ j v, (l.flatMap f)[j]? = some v → w.cell? (ad.add j) = some v := by
  intro h0
  rw [flatf_length hl] at h0
  have hl0 : 0 < l.length := by
    rcases Nat.eq_zero_or_pos l.length with e | e
    · rw [e] at h0; simp at h0
    · exact e
  obtain ⟨b, off, _, e, _⟩ := h 0 hl0
  refine ⟨_, e, fun j v hj => ?_⟩
  have hlt := (List.getElem?_eq_some_iff.1 hj).1
  rw [flatf_length hl] at hlt
  have hi : j / n < l.length := Nat.div_lt_of_lt_mul (by rw [Nat.mul_comm]; exact hlt)
  have hr : j % n < n := Nat.mod_lt _ hn
  obtain ⟨b', off', vs, e', hR, hvn, hc⟩ := h (j / n) hi
  rw [e] at e'
  simp only [Option.some.injEq, Addr.mk.injEq, and_true] at e'
  obtain ⟨rfl, rfl⟩ := e'
  obtain rfl := hf _ _ hR
  have hj2 : j / n * n + j % n = j := by rw [Nat.mul_comm]; exact Nat.div_add_mod j n
  have h1 := flat_at (n := n) (l.map fun x => (x, f x)) (j / n) (j % n) (by rw [List.length_map]; exact hi) (fun p hp => by obtain ⟨x, _, rfl⟩ := List.mem_map.1 hp; exact hl x) hr
  rw [flatf_pairs, hj2, List.getElem_map, hj] at h1
  have h2 := hc (j % n) (by rw [hvn]; exact hr)
  rw [Addr.add_lit, ← hj2, ← Nat.add_assoc, h2]
  exact ((List.getElem?_eq_getElem (by rw [hvn]; exact hr)).symm.trans h1.symm)
/-- What was made and copied over whole is owned. -/
theorem copied_own {α : Type} {n : Nat} {T : TypeId} {R : α → List Value → Prop} {f : α → List Value} (hR : ∀ x, R x (f x)) (hl : ∀ x, (f x).length = n) {w w' : World} {B g : Nat} {l : List α} {zs : List Value} (ho : w.ownsRow B T n (.slice (some ⟨g, 0, none⟩) l.length l.length) l.length zs) (hw : w' = w.setCells g 0 (l.flatMap f)) : OwnR n T R w' B (.slice (some ⟨g, 0, none⟩) l.length l.length) l := by
  refine ⟨l.map fun x => (x, f x), by rw [List.map_map]; exact List.map_id' _, fun p hp => ?_, ?_⟩
  · obtain ⟨x, _, rfl⟩ := List.mem_map.1 hp
    exact ⟨hR x, hl x⟩
  · rw [flatf_pairs]
    exact copied_row ho (flatf_length hl l) hw
def fInt (n : Int) : List Value := [.int .i64 n]
def fStr (s : ByteArray) : List Value := [.string s]
def fCol (c : Col) : List Value := [.string c.nm, .int .i64 c.ty, .bool c.nn]
def fPm (p : Pm) : List Value := [.string p.nm, .int .i64 p.ty]
theorem one_of {α : Type} {f : α → List Value} (h : ∀ x, ∀ v ∈ f x, v.oneCell' = true) (l : List α) : ∀ v ∈ l.flatMap f, v.oneCell' = true := by
  intro v hv
  obtain ⟨x, _, hx⟩ := List.mem_flatMap.1 hv
  exact h x v hx
theorem fInt_one (x : Int) : ∀ v ∈ fInt x, v.oneCell' = true := by intro v hv; simp only [fInt, List.mem_cons, List.not_mem_nil, or_false] at hv; rcases hv with rfl <;> rfl
theorem fStr_one (x : ByteArray) : ∀ v ∈ fStr x, v.oneCell' = true := by intro v hv; simp only [fStr, List.mem_cons, List.not_mem_nil, or_false] at hv; rcases hv with rfl <;> rfl
theorem fCol_one (x : Col) : ∀ v ∈ fCol x, v.oneCell' = true := by intro v hv; simp only [fCol, List.mem_cons, List.not_mem_nil, or_false] at hv; rcases hv with rfl | rfl | rfl <;> rfl
theorem fPm_one (x : Pm) : ∀ v ∈ fPm x, v.oneCell' = true := by intro v hv; simp only [fPm, List.mem_cons, List.not_mem_nil, or_false] at hv; rcases hv with rfl | rfl <;> rfl

theorem lenI (l : List Int) : (l.flatMap fInt).length = l.length * 1 := flatf_length (n := 1) (f := fInt) (fun _ => rfl) l
theorem lenS (l : List ByteArray) : (l.flatMap fStr).length = l.length * 1 := flatf_length (n := 1) (f := fStr) (fun _ => rfl) l
theorem lenC (l : List Col) : (l.flatMap fCol).length = l.length * 3 := flatf_length (n := 3) (f := fCol) (fun _ => rfl) l
theorem lenP (l : List Pm) : (l.flatMap fPm).length = l.length * 2 := flatf_length (n := 2) (f := fPm) (fun _ => rfl) l
theorem rowI_cells {w : World} {a : Option Addr} {l : List Int} (h : RowR 1 IntR w a l) : 0 < (l.flatMap fInt).length → ∃ ad, a = some ad ∧ ∀ j v, (l.flatMap fInt)[j]? = some v → w.cell? (ad.add j) = some v := row_cells (n := 1) (R := IntR) (f := fInt) (by omega) (fun _ _ h => h) (fun _ => rfl) h
theorem rowS_cells {w : World} {a : Option Addr} {l : List ByteArray} (h : RowR 1 StrR w a l) : 0 < (l.flatMap fStr).length → ∃ ad, a = some ad ∧ ∀ j v, (l.flatMap fStr)[j]? = some v → w.cell? (ad.add j) = some v := row_cells (n := 1) (R := StrR) (f := fStr) (by omega) (fun _ _ h => h) (fun _ => rfl) h
theorem rowC_cells {w : World} {a : Option Addr} {l : List Col} (h : RowR 3 ColR w a l) : 0 < (l.flatMap fCol).length → ∃ ad, a = some ad ∧ ∀ j v, (l.flatMap fCol)[j]? = some v → w.cell? (ad.add j) = some v := row_cells (n := 3) (R := ColR) (f := fCol) (by omega) (fun _ _ h => h) (fun _ => rfl) h
theorem rowP_cells {w : World} {a : Option Addr} {l : List Pm} (h : RowR 2 PmR w a l) : 0 < (l.flatMap fPm).length → ∃ ad, a = some ad ∧ ∀ j v, (l.flatMap fPm)[j]? = some v → w.cell? (ad.add j) = some v := row_cells (n := 2) (R := PmR) (f := fPm) (by omega) (fun _ _ h => h) (fun _ => rfl) h

set_option maxHeartbeats 4000000 in
set_option maxRecDepth 100000 in
theorem ints_any (p : Option Addr) (cap : Nat) (l : List Int) (w : World) (hl : l.length ≤ 2147483647) (hr : RowR 1 IntR w p l) :
    Calls Tryz.prog 66 #[.slice p l.length cap] w fun e w' => ∃ v, e = .returned v ∧ OwnR 1 3 IntR w' w.heap.size v l ∧ Below w.heap.size w w' := by
  obtain ⟨i0, hi, hz0, hz1, hz2⟩ := info_parts Tryz.infoInt
  have HR := Lib.hid hr
  clear hr
  go_enter Tryz.func66, Tryz.ntmps66
  go_wp2_with (first | (at_make; refine wpList_make_full _ rfl _ _ 43 rfl w.heap.size 3 i0 _ 1 Tryz.underlying43 hi hz0 hz1 .i64 .i64 _ _ l.length rfl rfl (by omega) (by omega) (by rw [hz2]; omega) (by unfold maxLen; omega) (Nat.le_refl _) ?_; intro w1 hown hgrow; (have HB1 : Hid (Below w.heap.size w w1) := (Below.refl _ _).grown hgrow (Nat.le_refl _) (fun k h => by cases h)); (have HO1 := Lib.hid hown); clear hown hgrow) | (refine wpList_copy_wide rfl (.tmp 7) (.tmp 8) 43 43 rfl 3 1 Tryz.underlying43 (by rw [hi]; simp [hz1]) w.heap.size 0 l.length l.length p l.length cap rfl rfl (l.flatMap fInt) (Nat.le_refl _) (lenI l) (rowI_cells (HR.out.later HB1.out fun _ _ h => h)) (fun j hj => (row_room HO1.out).1 j (by rw [lenI] at hj; exact hj)) (fun j _ => (row_room HO1.out).2 _) (one_of fInt_one l) ?_; intro w4 hw4; (have HW4 := Lib.hid hw4); clear hw4))
  go_ret
  have hlt1 : w.heap.size < w1.heap.size := (HO1.out.lt _ rfl).2
  refine ⟨_, rfl, copied_own (R := IntR) (f := fInt) (fun _ => rfl) (fun _ => rfl) HO1.out HW4.out, ?_⟩
  rw [HW4.out]
  exact HB1.out.grown (setCells_grown w.heap.size _ 0 w1) (by omega) (fun k hk => by simp at hk; omega)
end Go.Proofs.YtkgkkcefnonejaaGreat
/- Walks of layer 8: the document's ProcOf. -/
namespace Go.Proofs.YtkgkkcefnonejaaGreat
open Go.RowKit

/-- What was handed in, what is handed back, and what is made, each in its box: from w on, nothing below has turned. -/
structure Bx (T : TypeId) (w W : World) (b0 b1 b2 b3 b4 z0 z1 z2 z3 z4 a0 a1 a2 a3 a4 : Value) : Prop where
  box : W.heap[w.heap.size]? = some (.cells #[b0, b1, b2, b3, b4] T (0, 0))
  ret : W.heap[w.heap.size + 1]? = some (.cells #[z0, z1, z2, z3, z4] T (0, 0))
  out : W.heap[w.heap.size + 1 + 1]? = some (.cells #[a0, a1, a2, a3, a4] T (0, 0))
  low : Below w.heap.size w W
section
variable {T : TypeId} {w W W' : World} {b0 b1 b2 b3 b4 z0 z1 z2 z3 z4 a0 a1 a2 a3 a4 : Value}
theorem Bx.lt (h : Bx T w W b0 b1 b2 b3 b4 z0 z1 z2 z3 z4 a0 a1 a2 a3 a4) : w.heap.size + 1 + 1 < W.heap.size := (Array.getElem?_eq_some_iff.1 h.out).1
theorem Bx.later (h : Bx T w W b0 b1 b2 b3 b4 z0 z1 z2 z3 z4 a0 a1 a2 a3 a4) (hb : Below W.heap.size W W') : Bx T w W' b0 b1 b2 b3 b4 z0 z1 z2 z3 z4 a0 a1 a2 a3 a4 :=
  ⟨heap_of h.box hb, heap_of h.ret hb, heap_of h.out hb, h.low.trans (hb.mono h.low.size)⟩
theorem Bx.grown (h : Bx T w W b0 b1 b2 b3 b4 z0 z1 z2 z3 z4 a0 a1 a2 a3 a4) {row : Option Nat} (hg : W.grownBy W' row) (hr : ∀ k, row = some k → w.heap.size + 1 + 1 < k) : Bx T w W' b0 b1 b2 b3 b4 z0 z1 z2 z3 z4 a0 a1 a2 a3 a4 :=
  ⟨(hg.block _ (by have := h.lt; omega) (fun e => by have := hr _ e.symm; omega)).trans h.box, (hg.block _ (by have := h.lt; omega) (fun e => by have := hr _ e.symm; omega)).trans h.ret, (hg.block _ (by have := h.lt; omega) (fun e => by have := hr _ e.symm; omega)).trans h.out, h.low.grown hg (by have := h.low.size; omega) (fun k e => by have := hr _ e; omega)⟩
theorem Bx.set1 (h : Bx T w W b0 b1 b2 b3 b4 z0 z1 z2 z3 z4 a0 a1 a2 a3 a4) (u : Value) : Bx T w (W.setCell ⟨w.heap.size + 1 + 1, 1, none⟩ u) b0 b1 b2 b3 b4 z0 z1 z2 z3 z4 a0 u a2 a3 a4 :=
  ⟨(Below.heap_setCell _ _ _ _ (by show ¬ w.heap.size = w.heap.size + 1 + 1; omega)).trans h.box, (Below.heap_setCell _ _ _ _ (by show ¬ w.heap.size + 1 = w.heap.size + 1 + 1; omega)).trans h.ret, by simpa using heap_setCell_at (i := 1) h.out u, h.low.setCell (p := ⟨w.heap.size + 1 + 1, 1, none⟩) (by show w.heap.size ≤ w.heap.size + 1 + 1; omega) u⟩
theorem Bx.set2 (h : Bx T w W b0 b1 b2 b3 b4 z0 z1 z2 z3 z4 a0 a1 a2 a3 a4) (u : Value) : Bx T w (W.setCell ⟨w.heap.size + 1 + 1, 2, none⟩ u) b0 b1 b2 b3 b4 z0 z1 z2 z3 z4 a0 a1 u a3 a4 :=
  ⟨(Below.heap_setCell _ _ _ _ (by show ¬ w.heap.size = w.heap.size + 1 + 1; omega)).trans h.box, (Below.heap_setCell _ _ _ _ (by show ¬ w.heap.size + 1 = w.heap.size + 1 + 1; omega)).trans h.ret, by simpa using heap_setCell_at (i := 2) h.out u, h.low.setCell (p := ⟨w.heap.size + 1 + 1, 2, none⟩) (by show w.heap.size ≤ w.heap.size + 1 + 1; omega) u⟩
theorem Bx.set4 (h : Bx T w W b0 b1 b2 b3 b4 z0 z1 z2 z3 z4 a0 a1 a2 a3 a4) (u : Value) : Bx T w (W.setCell ⟨w.heap.size + 1 + 1, 4, none⟩ u) b0 b1 b2 b3 b4 z0 z1 z2 z3 z4 a0 a1 a2 a3 u :=
  ⟨(Below.heap_setCell _ _ _ _ (by show ¬ w.heap.size = w.heap.size + 1 + 1; omega)).trans h.box, (Below.heap_setCell _ _ _ _ (by show ¬ w.heap.size + 1 = w.heap.size + 1 + 1; omega)).trans h.ret, by simpa using heap_setCell_at (i := 4) h.out u, h.low.setCell (p := ⟨w.heap.size + 1 + 1, 4, none⟩) (by show w.heap.size ≤ w.heap.size + 1 + 1; omega) u⟩
theorem Bx.begin (T : TypeId) (w : World) (b0 b1 b2 b3 b4 z0 z1 z2 z3 z4 : Value) : Bx T w (((w.alloc (.cells #[b0, b1, b2, b3, b4] T)).alloc (.cells #[z0, z1, z2, z3, z4] T)).alloc (.cells #[b0, b1, b2, b3, b4] T)) b0 b1 b2 b3 b4 z0 z1 z2 z3 z4 b0 b1 b2 b3 b4 := by
  have h1 : Below w.heap.size w (w.alloc (.cells #[b0, b1, b2, b3, b4] T)) := (Below.refl _ _).alloc (Nat.le_refl _) _
  have h2 : Below (w.heap.size + 1) (w.alloc (.cells #[b0, b1, b2, b3, b4] T)) ((w.alloc (.cells #[b0, b1, b2, b3, b4] T)).alloc (.cells #[z0, z1, z2, z3, z4] T)) := (Below.refl _ _).alloc (by simp) _
  have h3 : Below (w.heap.size + 1 + 1) ((w.alloc (.cells #[b0, b1, b2, b3, b4] T)).alloc (.cells #[z0, z1, z2, z3, z4] T)) (((w.alloc (.cells #[b0, b1, b2, b3, b4] T)).alloc (.cells #[z0, z1, z2, z3, z4] T)).alloc (.cells #[b0, b1, b2, b3, b4] T)) := (Below.refl _ _).alloc (by simp) _
  refine ⟨(h3.block _ (by omega)).trans ((h2.block _ (by omega)).trans (heap_alloc_new w _)), (h3.block _ (by omega)).trans ?_, ?_, h1.trans ((h2.trans (h3.mono (by omega))).mono (by omega))⟩
  · have := heap_alloc_new (w.alloc (.cells #[b0, b1, b2, b3, b4] T)) (.cells #[z0, z1, z2, z3, z4] T (0, 0))
    simpa using this
  · have := heap_alloc_new ((w.alloc (.cells #[b0, b1, b2, b3, b4] T)).alloc (.cells #[z0, z1, z2, z3, z4] T)) (.cells #[b0, b1, b2, b3, b4] T (0, 0))
    simpa using this
end
theorem ten_of {w : World} {x : Nat} {a b c d e : Value} {t : TypeId} (h : w.heap[x]? = some (.cells #[a, b, c, d, e] t (0, 0))) : (w.cell? ⟨x, 0, none⟩ = some a ∧ w.cell? ⟨x, 1, none⟩ = some b ∧ w.cell? ⟨x, 2, none⟩ = some c ∧ w.cell? ⟨x, 3, none⟩ = some d ∧ w.cell? ⟨x, 4, none⟩ = some e) ∧ ∀ o, w.frozen? ⟨x, o, none⟩ = false :=
  ⟨five_of h, fun o => by simp [World.frozen?, h]⟩

set_option maxHeartbeats 8000000 in
set_option maxRecDepth 100000 in
theorem procOf_any (p : Pc) (vs : List Value) (w : World) (hR : PcR w p vs) (hZ : PcZ 2147483647 p) :
    Calls Tryz.prog 27 #[.agg vs.toArray] w fun e w' => ∃ us, e = .returned (.agg us.toArray) ∧ PcO w' w.heap.size p us ∧ Below w.heap.size w w' := by
  obtain ⟨pp, cp, pb, cb, rfl, r1, r2⟩ := hR
  obtain ⟨i0, hi, hz0, hz1, hz2⟩ := info_parts Tryz.infoPm
  obtain ⟨j0, hj, hy0, hy1, hy2⟩ := info_parts Tryz.infoStr
  have HR1 := Lib.hid r1
  have HR2 := Lib.hid r2
  have l1 := hZ.prms
  have l2 := hZ.body
  clear r1 r2 hZ
  have X0 := Lib.hid (Bx.begin 52 w (.string p.nm) (.slice pp p.prms.length cp) (.slice pb p.body.length cb) (.int .i64 p.rows) (.int .i64 p.bytes) (.string ⟨#[]⟩) (.slice none 0 0) (.slice none 0 0) (.int .i64 0) (.int .i64 0))
  go_enter Tryz.func27, Tryz.ntmps27
  go_wp2_with (first | (at_make; refine wpList_make_full _ rfl _ _ 49 rfl (w.heap.size + 3) 66 i0 _ 2 Tryz.underlying49 hi hz0 hz1 .i64 .i64 _ _ p.prms.length rfl rfl (by omega) (by omega) (by rw [hz2]; omega) (by unfold maxLen; omega) (by first | omega | (simp; done) | (simp; omega)) ?_; intro w1 hown hgrow; (try (simp only [World.size_alloc] at hown)); (have X1 := Lib.hid (X0.out.grown hgrow (fun k h => by cases h))); (have O1 := Lib.hid hown); (have hlt1 : w.heap.size + 1 + 1 < w1.heap.size := X1.out.lt); clear hown hgrow; (try (clear s0 s1 s2 s3 s4 r0 r1 r2 r3 r4 rf o0 o1 o2 o3 o4 of')); obtain ⟨⟨s0, s1, s2, s3, s4⟩, -⟩ := ten_of X1.out.box; obtain ⟨⟨r0, r1, r2, r3, r4⟩, rf⟩ := ten_of X1.out.ret; obtain ⟨⟨o0, o1, o2, o3, o4⟩, of'⟩ := ten_of X1.out.out) | (refine wpList_copy_wide rfl (.tmp 11) (.tmp 13) 49 49 rfl 66 2 Tryz.underlying49 (by rw [hi]; simp [hz1]) (w.heap.size + 1 + 1 + 1) 0 p.prms.length p.prms.length pp p.prms.length cp rfl rfl (p.prms.flatMap fPm) (Nat.le_refl _) (lenP _) (rowP_cells (HR1.out.later ((X1.out.set1 (.slice (some ⟨w.heap.size + 1 + 1 + 1, 0, none⟩) p.prms.length p.prms.length)).low) fun _ _ h => h)) (fun j hj => (row_room (ownsRow_setCell_below O1.out (a := ⟨w.heap.size + 1 + 1, 1, none⟩) (by show w.heap.size + 1 + 1 < w.heap.size + 3; omega) (.slice (some ⟨w.heap.size + 1 + 1 + 1, 0, none⟩) p.prms.length p.prms.length))).1 j (by rw [lenP] at hj; exact hj)) (fun j _ => (row_room (ownsRow_setCell_below O1.out (a := ⟨w.heap.size + 1 + 1, 1, none⟩) (by show w.heap.size + 1 + 1 < w.heap.size + 3; omega) (.slice (some ⟨w.heap.size + 1 + 1 + 1, 0, none⟩) p.prms.length p.prms.length))).2 _) (one_of fPm_one _) ?_; intro w2 hw; (have X2 := Lib.hid ((X1.out.set1 (.slice (some ⟨w.heap.size + 1 + 1 + 1, 0, none⟩) p.prms.length p.prms.length)).grown (hw ▸ setCells_grown (w.heap.size + 1 + 1 + 1) (p.prms.flatMap fPm) 0 _) (fun k h => by simp at h; omega))); (have O2 := Lib.hid (copied_own (R := PmR) (f := fPm) (fun _ => rfl) (fun _ => rfl) (ownsRow_setCell_below O1.out (a := ⟨w.heap.size + 1 + 1, 1, none⟩) (by show w.heap.size + 1 + 1 < w.heap.size + 3; omega) (.slice (some ⟨w.heap.size + 1 + 1 + 1, 0, none⟩) p.prms.length p.prms.length)) hw)); (have hlt2 : w.heap.size + 1 + 1 < w2.heap.size := X2.out.lt); clear hw; clear s0 s1 s2 s3 s4 r0 r1 r2 r3 r4 rf o0 o1 o2 o3 o4 of'; obtain ⟨⟨s0, s1, s2, s3, s4⟩, -⟩ := ten_of X2.out.box; obtain ⟨⟨r0, r1, r2, r3, r4⟩, rf⟩ := ten_of X2.out.ret; obtain ⟨⟨o0, o1, o2, o3, o4⟩, of'⟩ := ten_of X2.out.out) | (at_make; refine wpList_make_full _ rfl _ _ 50 rfl (w.heap.size + 3) 9 j0 _ 1 Tryz.underlying50 hj hy0 hy1 .i64 .i64 _ _ p.body.length rfl rfl (by omega) (by omega) (by rw [hy2]; omega) (by unfold maxLen; omega) (by first | omega | (simp; done) | (simp; omega)) ?_; intro w3 hown hgrow; (have X3 := Lib.hid (X2.out.grown hgrow (fun k h => by cases h))); (have O3 := Lib.hid hown); (have P3 := Lib.hid (O2.out.keeps (S := [66]) (R' := PmR) (Keeps.of ((Below.refl _ _).grown hgrow (Nat.le_refl _) (fun k h => by cases h))) (by simp) (fun _ _ h => h))); (have hlt3 : w.heap.size + 1 + 1 < w3.heap.size := X3.out.lt); clear hown hgrow; (try (clear s0 s1 s2 s3 s4 r0 r1 r2 r3 r4 rf o0 o1 o2 o3 o4 of')); obtain ⟨⟨s0, s1, s2, s3, s4⟩, -⟩ := ten_of X3.out.box; obtain ⟨⟨r0, r1, r2, r3, r4⟩, rf⟩ := ten_of X3.out.ret; obtain ⟨⟨o0, o1, o2, o3, o4⟩, of'⟩ := ten_of X3.out.out) | (refine wpList_copy_wide rfl (.tmp 21) (.tmp 23) 50 50 rfl 9 1 Tryz.underlying50 (by rw [hj]; simp [hy1]) w2.heap.size 0 p.body.length p.body.length pb p.body.length cb rfl rfl (p.body.flatMap fStr) (Nat.le_refl _) (lenS _) (rowS_cells (HR2.out.later ((X3.out.set2 (.slice (some ⟨w2.heap.size, 0, none⟩) p.body.length p.body.length)).low) fun _ _ h => h)) (fun j hj => (row_room (ownsRow_setCell_below O3.out (a := ⟨w.heap.size + 1 + 1, 2, none⟩) (by show w.heap.size + 1 + 1 < w.heap.size + 3; omega) (.slice (some ⟨w2.heap.size, 0, none⟩) p.body.length p.body.length))).1 j (by rw [lenS] at hj; exact hj)) (fun j _ => (row_room (ownsRow_setCell_below O3.out (a := ⟨w.heap.size + 1 + 1, 2, none⟩) (by show w.heap.size + 1 + 1 < w.heap.size + 3; omega) (.slice (some ⟨w2.heap.size, 0, none⟩) p.body.length p.body.length))).2 _) (one_of fStr_one _) ?_; intro w4 hw; (have X4 := Lib.hid ((X3.out.set2 (.slice (some ⟨w2.heap.size, 0, none⟩) p.body.length p.body.length)).grown (hw ▸ setCells_grown w2.heap.size (p.body.flatMap fStr) 0 _) (fun k h => by simp at h; omega))); (have Q4 := Lib.hid (copied_own (R := StrR) (f := fStr) (fun _ => rfl) (fun _ => rfl) (ownsRow_setCell_below O3.out (a := ⟨w.heap.size + 1 + 1, 2, none⟩) (by show w.heap.size + 1 + 1 < w.heap.size + 3; omega) (.slice (some ⟨w2.heap.size, 0, none⟩) p.body.length p.body.length)) hw)); (have O4 := Lib.hid (P3.out.keeps (S := [66]) (R' := PmR) ((Keeps.low (Keeps.of (Below.refl _ _)) (by omega) 2 (.slice (some ⟨w2.heap.size, 0, none⟩) p.body.length p.body.length)).trans (Keeps.grown (ownsRow_setCell_below O3.out (a := ⟨w.heap.size + 1 + 1, 2, none⟩) (by show w.heap.size + 1 + 1 < w.heap.size + 3; omega) (.slice (some ⟨w2.heap.size, 0, none⟩) p.body.length p.body.length)) (hw ▸ setCells_grown w2.heap.size (p.body.flatMap fStr) 0 _) (by decide))) (by simp) (fun _ _ h => h))); (have hlt4 : w.heap.size + 1 + 1 < w4.heap.size := X4.out.lt); clear hw; clear s0 s1 s2 s3 s4 r0 r1 r2 r3 r4 rf o0 o1 o2 o3 o4 of'; obtain ⟨⟨s0, s1, s2, s3, s4⟩, -⟩ := ten_of X4.out.box; obtain ⟨⟨r0, r1, r2, r3, r4⟩, rf⟩ := ten_of X4.out.ret; obtain ⟨⟨o0, o1, o2, o3, o4⟩, of'⟩ := ten_of X4.out.out))
  refine bodyPost_ret (v := .agg #[.string p.nm, .slice (some ⟨w.heap.size + 1 + 1 + 1, 0, none⟩) p.prms.length p.prms.length, .slice (some ⟨w2.heap.size, 0, none⟩) p.body.length p.body.length, .int .i64 p.rows, .int .i64 p.bytes]) (by simp [results, Tryz.results27, go_sem, *]) rfl ?_
  refine ⟨[.string p.nm, .slice (some ⟨w.heap.size + 1 + 1 + 1, 0, none⟩) p.prms.length p.prms.length, .slice (some ⟨w2.heap.size, 0, none⟩) p.body.length p.body.length, .int .i64 p.rows, .int .i64 p.bytes], rfl, ⟨_, _, rfl, ?_, ?_⟩, ?_⟩
  · exact (O4.out.keeps (S := [66]) (Keeps.low (Keeps.low (Keeps.low (Keeps.low (Keeps.low (Keeps.of (Below.refl _ _)) (by omega) _ _) (by omega) _ _) (by omega) _ _) (by omega) _ _) (by omega) _ _) (by simp) (fun _ _ h => h)).mono (by omega) (fun _ _ h => h)
  · exact (Q4.out.keeps (S := [9]) (Keeps.low (Keeps.low (Keeps.low (Keeps.low (Keeps.low (Keeps.of (Below.refl _ _)) (by omega) _ _) (by omega) _ _) (by omega) _ _) (by omega) _ _) (by omega) _ _) (by simp) (fun _ _ h => h)).mono (by omega) (fun _ _ h => h)
  · have h0 := X4.out.low
    (repeat (first | exact Below.refl _ _ | assumption | refine Below.drew ?_ | refine below_drewN ?_ _ | refine Below.alloc ?_ (by first | omega | (simp; done) | (simp; omega)) _ | refine Below.setCell ?_ (by first | omega | (simp; done) | (simp; omega)) _ | refine Below.trans ?_ (Below.mono (by assumption) (by first | omega | (simp; done) | (simp; omega)))))
end Go.Proofs.YtkgkkcefnonejaaGreat
/- Walks of layer 8: the document's TableOf. -/
namespace Go.Proofs.YtkgkkcefnonejaaGreat
open Go.RowKit

theorem Bx.far {T : TypeId} {w W : World} {b0 b1 b2 b3 b4 z0 z1 z2 z3 z4 a0 a1 a2 a3 a4 : Value} (h : Bx T w W b0 b1 b2 b3 b4 z0 z1 z2 z3 z4 a0 a1 a2 a3 a4) {g : Nat} (hg : w.heap.size + 1 + 1 < g) (o : Nat) (u : Value) : Bx T w (W.setCell ⟨g, o, none⟩ u) b0 b1 b2 b3 b4 z0 z1 z2 z3 z4 a0 a1 a2 a3 a4 :=
  ⟨(Below.heap_setCell _ _ _ _ (by show ¬ w.heap.size = g; omega)).trans h.box, (Below.heap_setCell _ _ _ _ (by show ¬ w.heap.size + 1 = g; omega)).trans h.ret, (Below.heap_setCell _ _ _ _ (by show ¬ w.heap.size + 1 + 1 = g; omega)).trans h.out, h.low.setCell (p := ⟨g, o, none⟩) (by show w.heap.size ≤ g; omega) u⟩
/-- A row of indexes that was made: so many of them are there already. -/
def IxRow (W : World) (B G n : Nat) (done : List Ix) : Prop := ∃ (ps : List (Ix × List Value)) (zs : List Value), ps.map (·.1) = done ∧ (∀ p ∈ ps, IxO W B p.1 p.2 ∧ p.2.length = 3) ∧ W.ownsRow B 64 3 (.slice (some ⟨G, 0, none⟩) n n) n (ps.flatMap (·.2) ++ zs)
theorem IxRow.later {W W' : World} {B G n : Nat} {done : List Ix} (h : IxRow W B G n done) (hb : Below W.heap.size W W') : IxRow W' B G n done := by
  obtain ⟨ps, zs, h1, h2, h3⟩ := h
  exact ⟨ps, zs, h1, fun p hp => ⟨IxO.keeps (Keeps.of hb) _ _ (h2 p hp).1, (h2 p hp).2⟩, own_later h3 hb⟩
theorem IxRow.low {W : World} {B G n : Nat} {done : List Ix} (h : IxRow W B G n done) {g : Nat} (hg : g < B) (o : Nat) (u : Value) : IxRow (W.setCell ⟨g, o, none⟩ u) B G n done := by
  obtain ⟨ps, zs, h1, h2, h3⟩ := h
  exact ⟨ps, zs, h1, fun p hp => ⟨IxO.keeps (Keeps.low (Keeps.of (Below.refl _ _)) hg o u) _ _ (h2 p hp).1, (h2 p hp).2⟩, ownsRow_setCell_below h3 (a := ⟨g, o, none⟩) hg u⟩
theorem flat3 {done : List Ix} {ps : List (Ix × List Value)} (h1 : ps.map (·.1) = done) (h2 : ∀ p ∈ ps, p.2.length = 3) : (ps.flatMap (·.2)).length = done.length * 3 := by
  subst h1
  induction ps with
  | nil => rfl
  | cons p r ih =>
    rw [List.flatMap_cons, List.length_append, h2 p List.mem_cons_self, ih fun q hq => h2 q (List.mem_cons_of_mem _ hq)]
    simp
    omega
theorem IxRow.cells {W : World} {B G n : Nat} {done : List Ix} (h : IxRow W B G n done) (hk : done.length < n) : (∃ a b c, W.cell? ⟨G, done.length * 3, none⟩ = some a ∧ W.cell? ⟨G, done.length * 3 + 1, none⟩ = some b ∧ W.cell? ⟨G, done.length * 3 + 2, none⟩ = some c) ∧ ∀ o, W.frozen? ⟨G, o, none⟩ = false := by
  obtain ⟨ps, zs, h1, h2, h3⟩ := h
  have hx := h3.1
  refine ⟨⟨_, _, _, (h3.cellAt (done.length * 3) (by omega)).trans (List.getElem?_eq_getElem (by omega)), (h3.cellAt (done.length * 3 + 1) (by omega)).trans (List.getElem?_eq_getElem (by omega)), (h3.cellAt (done.length * 3 + 2) (by omega)).trans (List.getElem?_eq_getElem (by omega))⟩, fun o => h3.frozenAt o⟩
theorem set_three (l r : List Value) (z0 z1 z2 a b c : Value) : (((l ++ z0 :: z1 :: z2 :: r).set l.length a).set (l.length + 1) b).set (l.length + 2) c = l ++ [a, b, c] ++ r := by
  rw [List.set_append_right _ _ (Nat.le_refl _), List.set_append_right _ _ (by omega), List.set_append_right _ _ (by omega)]
  simp
theorem IxRow.put {W : World} {B G n : Nat} {done : List Ix} (h : IxRow W B G n done) (hk : done.length < n) {x : Ix} {vi : Value} (hx : IxO W B x [.string x.nm, vi, .bool x.un]) : IxRow (((W.setCell ⟨G, done.length * 3, none⟩ (.string x.nm)).setCell ⟨G, done.length * 3 + 1, none⟩ vi).setCell ⟨G, done.length * 3 + 2, none⟩ (.bool x.un)) B G n (done ++ [x]) := by
  obtain ⟨ps, zs, h1, h2, h3⟩ := h
  have hl := flat3 h1 fun p hp => (h2 p hp).2
  have hz := h3.1
  rw [List.length_append, hl] at hz
  match zs, hz with
  | [], hz => simp at hz; omega
  | [_], hz => simp at hz; omega
  | [_, _], hz => simp at hz; omega
  | z0 :: z1 :: z2 :: r, _ =>
    have q1 := (h3.stored (done.length * 3) (.string x.nm)).1
    have q2 := (q1.stored (done.length * 3 + 1) vi).1
    have q3 := (q2.stored (done.length * 3 + 2) (.bool x.un)).1
    rw [← hl, set_three] at q3
    rw [hl] at q3
    obtain ⟨c1, g1⟩ := own_block h3 (g := G) rfl
    obtain ⟨c2, g2⟩ := own_block q1 (g := G) rfl
    obtain ⟨c3, g3⟩ := own_block q2 (g := G) rfl
    have hk : Keeps inIx B W (((W.setCell ⟨G, done.length * 3, none⟩ (.string x.nm)).setCell ⟨G, done.length * 3 + 1, none⟩ vi).setCell ⟨G, done.length * 3 + 2, none⟩ (.bool x.un)) :=
      Keeps.typed (Keeps.typed (Keeps.typed (Keeps.of (Below.refl _ _)) g1 (by decide) _ _) g2 (by decide) _ _) g3 (by decide) _ _
    refine ⟨ps ++ [(x, [.string x.nm, vi, .bool x.un])], r, by rw [List.map_append, h1]; rfl, fun p hp => ?_, ?_⟩
    · rcases List.mem_append.1 hp with hp | hp
      · exact ⟨IxO.keeps hk _ _ (h2 p hp).1, (h2 p hp).2⟩
      · obtain rfl := List.mem_singleton.1 hp
        exact ⟨IxO.keeps hk _ _ hx, rfl⟩
    · rw [List.flatMap_append]
      simpa using q3
theorem IxRow.done {W : World} {B G n : Nat} {l : List Ix} (h : IxRow W B G n l) (hl : l.length = n) : OwnR 3 64 (IxO W B) W B (.slice (some ⟨G, 0, none⟩) n n) l := by
  subst hl
  obtain ⟨ps, zs, h1, h2, h3⟩ := h
  have hz := h3.1
  rw [List.length_append, flat3 h1 fun p hp => (h2 p hp).2] at hz
  obtain rfl : zs = [] := List.eq_nil_of_length_eq_zero (by omega)
  rw [List.append_nil] at h3
  exact ⟨ps, h1, h2, h3⟩
/-- A row of other things is kept while a row of indexes is written into. -/
theorem IxRow.keeps3 {W : World} {B G n : Nat} {done : List Ix} (h : IxRow W B G n done) {S : List TypeId} (hS : 64 ∉ S) (o1 o2 o3 : Nat) (u1 u2 u3 : Value) : Keeps S B W (((W.setCell ⟨G, o1, none⟩ u1).setCell ⟨G, o2, none⟩ u2).setCell ⟨G, o3, none⟩ u3) := by
  obtain ⟨ps, zs, h1, h2, h3⟩ := h
  have q1 := (h3.stored o1 u1).1
  have q2 := (q1.stored o2 u2).1
  obtain ⟨c1, g1⟩ := own_block h3 (g := G) rfl
  obtain ⟨c2, g2⟩ := own_block q1 (g := G) rfl
  obtain ⟨c3, g3⟩ := own_block q2 (g := G) rfl
  exact Keeps.typed (Keeps.typed (Keeps.typed (Keeps.of (Below.refl _ _)) g1 hS _ _) g2 hS _ _) g3 hS _ _

set_option maxHeartbeats 16000000 in
set_option maxRecDepth 100000 in
theorem tableOf_any (t : Tb) (vs : List Value) (w : World) (hR : TbR w t vs) (hZ : TbZ 2147483647 t) :
    Calls Tryz.prog 26 #[.agg vs.toArray] w fun e w' => ∃ us, e = .returned (.agg us.toArray) ∧ TbO w' w.heap.size t us ∧ Below w.heap.size w w' := by
  obtain ⟨pc, cc, pk, ck, px, cx, rfl, r1, r2, r3⟩ := hR
  obtain ⟨i0, hi, hz0, hz1, hz2⟩ := info_parts Tryz.infoCol
  obtain ⟨j0, hj, hy0, hy1, hy2⟩ := info_parts Tryz.infoIx
  have HR1 := Lib.hid r1
  have HR2 := Lib.hid r2
  have HR3 := Lib.hid r3
  have l1 := hZ.cols
  have l2 := hZ.key
  have l3 := hZ.ixs
  have H4 : Hid (∀ x ∈ t.ixs, x.cols.length ≤ 2147483647) := fun x hx => (hZ.ix x hx).2
  clear r1 r2 r3 hZ
  have X0 := Lib.hid (Bx.begin 46 w (.string t.nm) (.slice pc t.cols.length cc) (.slice pk t.key.length ck) (.int .i64 t.part) (.slice px t.ixs.length cx) (.string ⟨#[]⟩) (.slice none 0 0) (.slice none 0 0) (.int .i64 0) (.slice none 0 0))
  go_enter Tryz.func26, Tryz.ntmps26
  go_wp2_with (first | (at_make; refine wpList_make_full _ rfl _ _ 42 rfl (w.heap.size + 3) 62 i0 _ 3 Tryz.underlying42 hi hz0 hz1 .i64 .i64 _ _ t.cols.length rfl rfl (by omega) (by omega) (by rw [hz2]; omega) (by unfold maxLen; omega) (by first | omega | (simp; done) | (simp; omega)) ?_; intro w1 hown hgrow; (try (simp only [World.size_alloc] at hown)); (have X1 := Lib.hid (X0.out.grown hgrow (fun k h => by cases h))); (have O1 := Lib.hid hown); (have hlt1 := X1.out.lt); clear hown hgrow; obtain ⟨⟨s0, s1, s2, s3, s4⟩, -⟩ := ten_of X1.out.box; obtain ⟨⟨r0, r1, r2, r3, r4⟩, rf⟩ := ten_of X1.out.ret; obtain ⟨⟨o0, o1, o2, o3, o4⟩, of'⟩ := ten_of X1.out.out) | (refine wpList_copy_wide rfl (.tmp 13) (.tmp 15) 42 42 rfl 62 3 Tryz.underlying42 (by rw [hi]; simp [hz1]) (w.heap.size + 1 + 1 + 1) 0 t.cols.length t.cols.length pc t.cols.length cc rfl rfl (t.cols.flatMap fCol) (Nat.le_refl _) (lenC _) (rowC_cells (HR1.out.later ((X1.out.set1 (.slice (some ⟨w.heap.size + 1 + 1 + 1, 0, none⟩) t.cols.length t.cols.length)).low) fun _ _ h => h)) (fun j hj => (row_room (ownsRow_setCell_below O1.out (a := ⟨w.heap.size + 1 + 1, 1, none⟩) (by show w.heap.size + 1 + 1 < w.heap.size + 3; omega) (.slice (some ⟨w.heap.size + 1 + 1 + 1, 0, none⟩) t.cols.length t.cols.length))).1 j (by rw [lenC] at hj; exact hj)) (fun j _ => (row_room (ownsRow_setCell_below O1.out (a := ⟨w.heap.size + 1 + 1, 1, none⟩) (by show w.heap.size + 1 + 1 < w.heap.size + 3; omega) (.slice (some ⟨w.heap.size + 1 + 1 + 1, 0, none⟩) t.cols.length t.cols.length))).2 _) (one_of fCol_one _) ?_; intro w2 hw; (have X2 := Lib.hid ((X1.out.set1 (.slice (some ⟨w.heap.size + 1 + 1 + 1, 0, none⟩) t.cols.length t.cols.length)).grown (hw ▸ setCells_grown (w.heap.size + 1 + 1 + 1) (t.cols.flatMap fCol) 0 _) (fun k h => by simp at h; omega))); (have C2 := Lib.hid (copied_own (R := ColR) (f := fCol) (fun _ => rfl) (fun _ => rfl) (ownsRow_setCell_below O1.out (a := ⟨w.heap.size + 1 + 1, 1, none⟩) (by show w.heap.size + 1 + 1 < w.heap.size + 3; omega) (.slice (some ⟨w.heap.size + 1 + 1 + 1, 0, none⟩) t.cols.length t.cols.length)) hw)); (have hlt2 := X2.out.lt); clear hw; clear s0 s1 s2 s3 s4 r0 r1 r2 r3 r4 rf o0 o1 o2 o3 o4 of'; obtain ⟨⟨s0, s1, s2, s3, s4⟩, -⟩ := ten_of X2.out.box; obtain ⟨⟨r0, r1, r2, r3, r4⟩, rf⟩ := ten_of X2.out.ret; obtain ⟨⟨o0, o1, o2, o3, o4⟩, of'⟩ := ten_of X2.out.out) | (go_at_call 66; refine (ints_any pk ck t.key _ l2 (HR2.out.later X2.out.low fun _ _ h => h)).mono ?_; rintro e w3 ⟨v3, rfl, hO3, hb3⟩; obtain ⟨qk, dk, rfl, -⟩ := hO3.form; (have X3 := Lib.hid (X2.out.later hb3)); (have K3 := Lib.hid (hO3.mono (B' := w.heap.size + 3) (R' := IntR) (by omega) (fun _ _ h => h))); (have C3 := Lib.hid (C2.out.keeps (S := [62]) (R' := ColR) (Keeps.of hb3) (by simp) (fun _ _ h => h))); (have hlt3 := X3.out.lt); clear hO3 hb3; clear s0 s1 s2 s3 s4 r0 r1 r2 r3 r4 rf o0 o1 o2 o3 o4 of'; obtain ⟨⟨s0, s1, s2, s3, s4⟩, -⟩ := ten_of X3.out.box; obtain ⟨⟨r0, r1, r2, r3, r4⟩, rf⟩ := ten_of X3.out.ret; obtain ⟨⟨o0, o1, o2, o3, o4⟩, of'⟩ := ten_of X3.out.out) | (at_make; refine wpList_make_full _ rfl _ _ 44 rfl (w.heap.size + 3) 64 j0 _ 3 Tryz.underlying44 hj hy0 hy1 .i64 .i64 _ _ t.ixs.length rfl rfl (by omega) (by omega) (by rw [hy2]; omega) (by unfold maxLen; omega) (by first | omega | (simp; done) | (simp; omega)) ?_; intro w4 hown hgrow; (have hb4 := (Below.refl _ _).grown hgrow (Nat.le_refl _) (fun k h => by cases h)); (try (simp only [World.size_setCell] at hown)); (have X4 := Lib.hid ((X3.out.set2 (.slice qk t.key.length dk)).grown hgrow (fun k h => by cases h))); (have O4 := Lib.hid hown); (have hlt4 := X4.out.lt); (have KK : Keeps [62, 3] (w.heap.size + 3) w3 w4 := (Keeps.low (Keeps.of (Below.refl _ _)) (by omega) 2 (.slice qk t.key.length dk)).trans (Keeps.of hb4)); (have C4 := Lib.hid (C3.out.keeps (R' := ColR) KK (by simp) (fun _ _ h => h))); (have K4 := Lib.hid (K3.out.keeps (R' := IntR) KK (by simp) (fun _ _ h => h))); clear hown hgrow hb4 KK; clear s0 s1 s2 s3 s4 r0 r1 r2 r3 r4 rf o0 o1 o2 o3 o4 of'; obtain ⟨⟨s0, s1, s2, s3, s4⟩, -⟩ := ten_of X4.out.box; obtain ⟨⟨r0, r1, r2, r3, r4⟩, rf⟩ := ten_of X4.out.ret; obtain ⟨⟨o0, o1, o2, o3, o4⟩, of'⟩ := ten_of X4.out.out))
  have hG : w.heap.size + 1 + 1 < w3.heap.size := hlt3
  have hGw : w3.heap.size < w4.heap.size := (O4.out.lt _ rfl).2
  have hX5 := X4.out.set4 (.slice (some ⟨w3.heap.size, 0, none⟩) t.ixs.length t.ixs.length)
  have hC5 : OwnR 3 62 ColR (w4.setCell ⟨w.heap.size + 1 + 1, 4, none⟩ (.slice (some ⟨w3.heap.size, 0, none⟩) t.ixs.length t.ixs.length)) (w.heap.size + 3) (.slice (some ⟨w.heap.size + 1 + 1 + 1, 0, none⟩) t.cols.length t.cols.length) t.cols := C4.out.keeps (S := [62]) (Keeps.low (Keeps.of (Below.refl _ _)) (by omega) 4 _) (by simp) (fun _ _ h => h)
  have hK5 : OwnR 1 3 IntR (w4.setCell ⟨w.heap.size + 1 + 1, 4, none⟩ (.slice (some ⟨w3.heap.size, 0, none⟩) t.ixs.length t.ixs.length)) (w.heap.size + 3) (.slice qk t.key.length dk) t.key := K4.out.keeps (S := [3]) (Keeps.low (Keeps.of (Below.refl _ _)) (by omega) 4 _) (by simp) (fun _ _ h => h)
  have hI5 : IxRow (w4.setCell ⟨w.heap.size + 1 + 1, 4, none⟩ (.slice (some ⟨w3.heap.size, 0, none⟩) t.ixs.length t.ixs.length)) (w.heap.size + 3) w3.heap.size t.ixs.length [] := ⟨[], _, rfl, fun _ h => absurd h List.not_mem_nil, ownsRow_setCell_below O4.out (a := ⟨w.heap.size + 1 + 1, 4, none⟩) (by show w.heap.size + 1 + 1 < w.heap.size + 3; omega) _⟩
  have P5 := Lib.hid (And.intro hX5 (And.intro hC5 (And.intro hK5 hI5)))
  clear hX5 hC5 hK5 hI5 s0 s1 s2 s3 s4 r0 r1 r2 r3 r4 rf o0 o1 o2 o3 o4 of'
  go_loopw [4] (fun i wz => ∃ k : Nat, k ≤ t.ixs.length ∧ i = .int .i64 k ∧ (Bx 46 w wz (.string t.nm) (.slice pc t.cols.length cc) (.slice pk t.key.length ck) (.int .i64 t.part) (.slice px t.ixs.length cx) (.string ⟨#[]⟩) (.slice none 0 0) (.slice none 0 0) (.int .i64 0) (.slice none 0 0) (.string t.nm) (.slice (some ⟨w.heap.size + 1 + 1 + 1, 0, none⟩) t.cols.length t.cols.length) (.slice qk t.key.length dk) (.int .i64 t.part) (.slice (some ⟨w3.heap.size, 0, none⟩) t.ixs.length t.ixs.length) ∧ OwnR 3 62 ColR wz (w.heap.size + 3) (.slice (some ⟨w.heap.size + 1 + 1 + 1, 0, none⟩) t.cols.length t.cols.length) t.cols ∧ OwnR 1 3 IntR wz (w.heap.size + 3) (.slice qk t.key.length dk) t.key ∧ IxRow wz (w.heap.size + 3) w3.heap.size t.ixs.length (t.ixs.take k))) (fun i _ => t.ixs.length - (intOf i).toNat)
  case atStart => exact ⟨0, Nat.zero_le _, rfl, P5.out.1, P5.out.2.1, P5.out.2.2.1, by simpa using P5.out.2.2.2⟩
  case round =>
    obtain ⟨k, hk, rfl, hx, hc, hkk, hir⟩ := hrel
    have XR := Lib.hid hx
    have CR := Lib.hid hc
    have KR := Lib.hid hkk
    have IR := Lib.hid hir
    have hltr := hx.lt
    clear hx hc hkk hir
    obtain ⟨⟨s0, s1, s2, s3, s4⟩, -⟩ := ten_of XR.out.box
    obtain ⟨⟨r0, r1, r2, r3, r4⟩, rf⟩ := ten_of XR.out.ret
    obtain ⟨⟨o0, o1, o2, o3, o4⟩, of'⟩ := ten_of XR.out.out
    by_cases hlt : k < t.ixs.length
    · have hlti : (k : Int) < (t.ixs.length : Int) := by omega
      have hG2 : w3.heap.size < wr.heap.size := by
        obtain ⟨_, _, _, _, h3⟩ := IR.out
        exact (h3.lt _ rfl).2
      obtain ⟨b, off, v0, v1, v2, rfl, hRk, e0, e1, e2⟩ := HR3.out.at3 hlt
      obtain ⟨pi, ci, hRk, hri⟩ := hRk
      simp only [List.cons.injEq, and_true] at hRk
      obtain ⟨rfl, rfl, rfl⟩ := hRk
      have HRI := Lib.hid hri
      have hlx := H4.out _ (List.getElem_mem hlt)
      have d0 := cell_later XR.out.low e0
      have d1 := cell_later XR.out.low e1
      have d2 := cell_later XR.out.low e2
      have htk : (t.ixs.take k).length = k := by rw [List.length_take]; omega
      have HTK := Lib.hid htk
      clear hri e0 e1 e2 htk
      obtain ⟨x, hx⟩ : ∃ x, t.ixs[k] = x := ⟨_, rfl⟩
      have HXK := Lib.hid hx
      simp only [hx] at d0 d1 d2 HRI hlx
      clear hx
      have hbx : Below wr.heap.size wr (wr.alloc (.cells #[.string x.nm, .slice pi x.cols.length ci, .bool x.un] 64)) := (Below.refl _ _).alloc (Nat.le_refl _) _
      have HBX := Lib.hid hbx
      clear hbx
      go_wp2_with fail
      refine (ints_any pi ci x.cols _ hlx (HRI.out.later (XR.out.later HBX.out).low fun _ _ h => h)).mono ?_
      rintro e V2 ⟨v3, rfl, hO3, hb3⟩
      obtain ⟨qi, di, rfl, -⟩ := hO3.form
      have hbz := hb3.size
      simp at hbz
      have hY : V2.heap[wr.heap.size]? = some (.cells #[.string x.nm, .slice pi x.cols.length ci, .bool x.un] 64 (0, 0)) := heap_of (heap_alloc_new wr _) hb3
      have HY := Lib.hid hY
      have hb2 : Below wr.heap.size wr V2 := HBX.out.trans (hb3.mono (by simp))
      have X2' := Lib.hid (XR.out.later hb2)
      have I2' := Lib.hid (IR.out.later hb2)
      have hO3' : OwnR 1 3 IntR V2 (w.heap.size + 3) (.slice qi x.cols.length di) x.cols := hO3.mono (by simp; omega) (fun _ _ h => h)
      have N3 := Lib.hid hO3'
      have HB2 := Lib.hid hb2
      have y0 : V2.cell? ⟨wr.heap.size, 0, none⟩ = some (.string x.nm) := by simp [World.cell?, hY]
      have y1 : V2.cell? ⟨wr.heap.size, 1, none⟩ = some (.slice pi x.cols.length ci) := by simp [World.cell?, hY]
      have y2 : V2.cell? ⟨wr.heap.size, 2, none⟩ = some (.bool x.un) := by simp [World.cell?, hY]
      have yf : ∀ o, V2.frozen? ⟨wr.heap.size, o, none⟩ = false := fun o => by simp [World.frozen?, hY]
      obtain ⟨⟨c0, c1, c2, m0, m1, m2⟩, mf⟩ := I2'.out.cells (by rw [HTK.out]; exact hlt)
      rw [HTK.out] at m0 m1 m2
      have n1 : ¬ w.heap.size + 1 + 1 = wr.heap.size := by omega
      have n2 : ¬ wr.heap.size = w.heap.size + 1 + 1 := by omega
      have n3 : ¬ w3.heap.size = wr.heap.size := by omega
      have n4 : ¬ wr.heap.size = w3.heap.size := by omega
      have n5 : ¬ w.heap.size + 1 + 1 = w3.heap.size := by omega
      have n6 : ¬ w3.heap.size = w.heap.size + 1 + 1 := by omega
      clear hY hO3 hO3' hb3 hb2 d0 d1 d2 s0 s1 s2 s3 s4 r0 r1 r2 r3 r4 rf o0 o1 o2 o3 o4 of'
      obtain ⟨⟨s0, s1, s2, s3, s4⟩, -⟩ := ten_of X2'.out.box
      obtain ⟨⟨r0, r1, r2, r3, r4⟩, rf⟩ := ten_of X2'.out.ret
      obtain ⟨⟨o0, o1, o2, o3, o4⟩, of'⟩ := ten_of X2'.out.out
      go_wp2
      go_roundw
      case rel =>
        have hb2 := HB2.out
        have hb3 : Below wr.heap.size wr (V2.setCell ⟨wr.heap.size, 1, none⟩ (.slice qi x.cols.length di)) := hb2.setCell (p := ⟨wr.heap.size, 1, none⟩) (Nat.le_refl _) _
        have hI3 := IR.out.later hb3
        have hkp : Keeps [3] (w.heap.size + 3) V2 (V2.setCell ⟨wr.heap.size, 1, none⟩ (.slice qi x.cols.length di)) := Keeps.typed (Keeps.of (Below.refl _ _)) HY.out (by decide) 1 _
        have hxO : IxO (V2.setCell ⟨wr.heap.size, 1, none⟩ (.slice qi x.cols.length di)) (w.heap.size + 3) x [.string x.nm, .slice qi x.cols.length di, .bool x.un] := ⟨_, rfl, N3.out.keeps hkp (by simp) (fun _ _ h => h)⟩
        have hput := hI3.put (by rw [HTK.out]; exact hlt) hxO
        rw [HTK.out] at hput
        refine ⟨k + 1, by omega, by go_num, (((X2'.out.far (by omega) 1 _).far hG _ _).far hG _ _).far hG _ _, ?_, ?_, ?_⟩
        · exact CR.out.keeps (S := [62]) ((Keeps.of hb3).trans (hI3.keeps3 (by decide) _ _ _ _ _ _)) (by simp) (fun _ _ h => h)
        · exact KR.out.keeps (S := [3]) ((Keeps.of hb3).trans (hI3.keeps3 (by decide) _ _ _ _ _ _)) (by simp) (fun _ _ h => h)
        · rw [← take_snoc t.ixs k hlt, HXK.out]
          exact hput
      case measure => simp [intOf]; omega
    · have hlti : ¬ (k : Int) < (t.ixs.length : Int) := by omega
      have IR2 := Lib.hid (IxRow.done (by have := IR.out; rwa [List.take_of_length_le (by omega)] at this) rfl)
      go_wp2
      refine bodyPost_ret (v := .agg #[.string t.nm, (.slice (some ⟨w.heap.size + 1 + 1 + 1, 0, none⟩) t.cols.length t.cols.length), (.slice qk t.key.length dk), .int .i64 t.part, (.slice (some ⟨w3.heap.size, 0, none⟩) t.ixs.length t.ixs.length)]) (by simp [results, Tryz.results26, go_sem, *]) rfl ?_
      have hkf : ∀ S u0 u1 u2 u3 u4, Keeps S (w.heap.size + 3) wr (((((wr.setCell ⟨w.heap.size + 1, 0, none⟩ u0).setCell ⟨w.heap.size + 1, 1, none⟩ u1).setCell ⟨w.heap.size + 1, 2, none⟩ u2).setCell ⟨w.heap.size + 1, 3, none⟩ u3).setCell ⟨w.heap.size + 1, 4, none⟩ u4) := fun S u0 u1 u2 u3 u4 => Keeps.low (Keeps.low (Keeps.low (Keeps.low (Keeps.low (Keeps.of (Below.refl _ _)) (by omega) _ _) (by omega) _ _) (by omega) _ _) (by omega) _ _) (by omega) _ _
      refine ⟨[.string t.nm, (.slice (some ⟨w.heap.size + 1 + 1 + 1, 0, none⟩) t.cols.length t.cols.length), (.slice qk t.key.length dk), .int .i64 t.part, (.slice (some ⟨w3.heap.size, 0, none⟩) t.ixs.length t.ixs.length)], rfl, ⟨_, _, _, rfl, ?_, ?_, ?_⟩, ?_⟩
      · exact (CR.out.keeps (hkf [62] _ _ _ _ _) (by simp) (fun _ _ h => h)).mono (by omega) (fun _ _ h => h)
      · exact (KR.out.keeps (hkf [3] _ _ _ _ _) (by simp) (fun _ _ h => h)).mono (by omega) (fun _ _ h => h)
      · exact (IR2.out.keeps (hkf [64, 3] _ _ _ _ _) (by simp) (IxO.keeps (hkf inIx _ _ _ _ _))).mono (by omega) (IxO.mono (by omega))
      · have h0 := XR.out.low
        (repeat (first | exact Below.refl _ _ | assumption | refine Below.drew ?_ | refine below_drewN ?_ _ | refine Below.alloc ?_ (by first | omega | (simp; done) | (simp; omega)) _ | refine Below.setCell ?_ (by first | omega | (simp; done) | (simp; omega)) _ | refine Below.trans ?_ (Below.mono (by assumption) (by first | omega | (simp; done) | (simp; omega)))))
end Go.Proofs.YtkgkkcefnonejaaGreat
/- Walks of layer 8: the document's Of. -/
namespace Go.Proofs.YtkgkkcefnonejaaGreat
open Go.RowKit

/-- A catalog that was handed in, one that is handed back, one that is made, each in its box. -/
structure Bc (w W : World) (b0 b1 z0 z1 a0 a1 : Value) : Prop where
  box : W.heap[w.heap.size]? = some (.cells #[b0, b1] 25 (0, 0))
  ret : W.heap[w.heap.size + 1]? = some (.cells #[z0, z1] 25 (0, 0))
  out : W.heap[w.heap.size + 1 + 1]? = some (.cells #[a0, a1] 25 (0, 0))
  low : Below w.heap.size w W
section
variable {w W W' : World} {b0 b1 z0 z1 a0 a1 : Value}
theorem Bc.lt (h : Bc w W b0 b1 z0 z1 a0 a1) : w.heap.size + 1 + 1 < W.heap.size := (Array.getElem?_eq_some_iff.1 h.out).1
theorem Bc.later (h : Bc w W b0 b1 z0 z1 a0 a1) (hb : Below W.heap.size W W') : Bc w W' b0 b1 z0 z1 a0 a1 :=
  ⟨heap_of h.box hb, heap_of h.ret hb, heap_of h.out hb, h.low.trans (hb.mono h.low.size)⟩
theorem Bc.grown (h : Bc w W b0 b1 z0 z1 a0 a1) {row : Option Nat} (hg : W.grownBy W' row) (hr : ∀ k, row = some k → w.heap.size + 3 ≤ k) : Bc w W' b0 b1 z0 z1 a0 a1 :=
  ⟨(hg.block _ (by have := h.lt; omega) (fun e => by have := hr _ e.symm; omega)).trans h.box, (hg.block _ (by have := h.lt; omega) (fun e => by have := hr _ e.symm; omega)).trans h.ret, (hg.block _ (by have := h.lt; omega) (fun e => by have := hr _ e.symm; omega)).trans h.out, h.low.grown hg (by have := h.low.size; omega) (fun k e => by have := hr _ e; omega)⟩
theorem Bc.set0 (h : Bc w W b0 b1 z0 z1 a0 a1) (u : Value) : Bc w (W.setCell ⟨w.heap.size + 1 + 1, 0, none⟩ u) b0 b1 z0 z1 u a1 :=
  ⟨(Below.heap_setCell _ _ _ _ (by show ¬ w.heap.size = w.heap.size + 1 + 1; omega)).trans h.box, (Below.heap_setCell _ _ _ _ (by show ¬ w.heap.size + 1 = w.heap.size + 1 + 1; omega)).trans h.ret, by simpa using heap_setCell_at (i := 0) h.out u, h.low.setCell (p := ⟨w.heap.size + 1 + 1, 0, none⟩) (by show w.heap.size ≤ w.heap.size + 1 + 1; omega) u⟩
theorem Bc.set1 (h : Bc w W b0 b1 z0 z1 a0 a1) (u : Value) : Bc w (W.setCell ⟨w.heap.size + 1 + 1, 1, none⟩ u) b0 b1 z0 z1 a0 u :=
  ⟨(Below.heap_setCell _ _ _ _ (by show ¬ w.heap.size = w.heap.size + 1 + 1; omega)).trans h.box, (Below.heap_setCell _ _ _ _ (by show ¬ w.heap.size + 1 = w.heap.size + 1 + 1; omega)).trans h.ret, by simpa using heap_setCell_at (i := 1) h.out u, h.low.setCell (p := ⟨w.heap.size + 1 + 1, 1, none⟩) (by show w.heap.size ≤ w.heap.size + 1 + 1; omega) u⟩
theorem Bc.begin (w : World) (b0 b1 z0 z1 : Value) : Bc w (((w.alloc (.cells #[b0, b1] 25)).alloc (.cells #[z0, z1] 25)).alloc (.cells #[z0, z1] 25)) b0 b1 z0 z1 z0 z1 := by
  have h1 : Below w.heap.size w (w.alloc (.cells #[b0, b1] 25)) := (Below.refl _ _).alloc (Nat.le_refl _) _
  have h2 : Below (w.heap.size + 1) (w.alloc (.cells #[b0, b1] 25)) ((w.alloc (.cells #[b0, b1] 25)).alloc (.cells #[z0, z1] 25)) := (Below.refl _ _).alloc (by simp) _
  have h3 : Below (w.heap.size + 2) ((w.alloc (.cells #[b0, b1] 25)).alloc (.cells #[z0, z1] 25)) (((w.alloc (.cells #[b0, b1] 25)).alloc (.cells #[z0, z1] 25)).alloc (.cells #[z0, z1] 25)) := (Below.refl _ _).alloc (by simp) _
  refine ⟨(h3.block _ (by omega)).trans ((h2.block _ (by omega)).trans (heap_alloc_new w _)), (h3.block _ (by omega)).trans ?_, ?_, h1.trans ((h2.trans (h3.mono (by omega))).mono (by omega))⟩
  · have := heap_alloc_new (w.alloc (.cells #[b0, b1] 25)) (.cells #[z0, z1] 25 (0, 0))
    simpa using this
  · have := heap_alloc_new ((w.alloc (.cells #[b0, b1] 25)).alloc (.cells #[z0, z1] 25)) (.cells #[z0, z1] 25 (0, 0))
    simpa using this
end
theorem own_form {w : World} {B : Nat} {e : TypeId} {size : Nat} {v : Value} {n : Nat} {xs : List Value} (h : w.ownsRow B e size v n xs) : ∃ p cap, v = .slice p n cap := by
  obtain ⟨_, ⟨rfl, h0⟩ | ⟨g, cap, cur, rfl, _⟩⟩ := h
  · exact ⟨none, 0, by rw [h0]⟩
  · exact ⟨_, cap, rfl⟩
theorem cells_alloc2 (w : World) (o : Obj) (us : List Value) (t : TypeId) : ∀ j u, us[j]? = some u → ((w.alloc o).alloc (.cells us.toArray t)).cell? ((⟨w.heap.size + 1, 0, none⟩ : Addr).add j) = some u := by
  have := cells_alloc (w.alloc o) us t
  rw [World.size_alloc] at this
  exact this

set_option maxHeartbeats 16000000 in
set_option maxRecDepth 100000 in
theorem of_any (c : Ct) (vs : List Value) (w : World) (hR : CtR w c vs) (hZ : CtZ 2147483647 c) :
    Calls Tryz.prog 11 #[.agg vs.toArray] w fun e w' => ∃ us, e = .returned (.agg us.toArray) ∧ CtO w' w.heap.size c us ∧ Below w.heap.size w w' := by
  obtain ⟨pt, ct, pp, cp, rfl, r1, r2⟩ := hR
  obtain ⟨i0, hi, hz0, hz1, hz2⟩ := info_parts Tryz.infoTb
  obtain ⟨j0, hj, hy0, hy1, hy2⟩ := info_parts Tryz.infoPc
  have HR1 := Lib.hid r1
  have HR2 := Lib.hid r2
  have HZ := Lib.hid hZ
  have l1 := hZ.tbs
  have l2 := hZ.prs
  clear r1 r2 hZ
  have X0 := Lib.hid (Bc.begin w (.slice pt c.tbs.length ct) (.slice pp c.prs.length cp) (.slice none 0 0) (.slice none 0 0))
  go_enter Tryz.func11, Tryz.ntmps11
  go_wp2
  go_loopw [4] (fun i wz => ∃ (k : Nat) (v : Value), k ≤ c.tbs.length ∧ i = .int .i64 k ∧ Bc w wz (.slice pt c.tbs.length ct) (.slice pp c.prs.length cp) (.slice none 0 0) (.slice none 0 0) v (.slice none 0 0) ∧ OwnR 5 46 (TbO wz (w.heap.size + 3)) wz (w.heap.size + 3) v (c.tbs.take k)) (fun i _ => c.tbs.length - (intOf i).toNat)
  case atStart => exact ⟨0, _, Nat.zero_le _, rfl, X0.out, OwnR.nil _ _ _ _ _⟩
  case round =>
    obtain ⟨k, v, hk, rfl, hx, ho⟩ := hrel
    have XR := Lib.hid hx
    have OR := Lib.hid ho
    have hltr := hx.lt
    obtain ⟨pv, cv, rfl, -⟩ := ho.form
    have htk : (c.tbs.take k).length = k := by rw [List.length_take]; omega
    have HTK := Lib.hid htk
    rw [htk] at XR OR
    clear hx ho htk
    obtain ⟨s0, s1⟩ := two_cells XR.out.box
    obtain ⟨r0, r1, rf0, rf1⟩ := two_of XR.out.ret
    obtain ⟨o0, o1, of0, of1⟩ := two_of XR.out.out
    by_cases hlt : k < c.tbs.length
    · have hlti : (k : Int) < (c.tbs.length : Int) := by omega
      obtain ⟨b, off, v0, v1, v2, v3, v4, rfl, hRk, g0, g1, g2, g3, g4⟩ := HR1.out.at5 hlt
      have HRk : Hid (∀ W, Below w.heap.size w W → TbR W c.tbs[k] [v0, v1, v2, v3, v4]) := fun W h => TbR.later h _ _ hRk
      obtain ⟨ac, bc, ak, bk, ax, bx, hRk, -, -, -⟩ := hRk
      simp only [List.cons.injEq, and_true] at hRk
      obtain ⟨rfl, rfl, rfl, rfl, rfl⟩ := hRk
      have d0 := cell_later XR.out.low g0
      have d1 := cell_later XR.out.low g1
      have d2 := cell_later XR.out.low g2
      have d3 := cell_later XR.out.low g3
      have d4 := cell_later XR.out.low g4
      clear g0 g1 g2 g3 g4
      go_wp2_with fail
      refine (tableOf_any c.tbs[k] _ _ (HRk.out _ XR.out.low) (HZ.out.tb _ (List.getElem_mem hlt))).mono ?_
      rintro e V2 ⟨us, rfl, hO, hb2⟩
      have hbz := hb2.size
      have X2 := Lib.hid (XR.out.later hb2)
      have HB2 := Lib.hid hb2
      have hO := TbO.mono (B' := w.heap.size + 3) (by omega) _ _ hO
      have HOx := Lib.hid hO
      obtain ⟨u1, u2, u3, rfl, q1, q2, q3⟩ := hO
      obtain ⟨p1, m1, rfl, -⟩ := q1.form
      obtain ⟨p2, m2, rfl, -⟩ := q2.form
      obtain ⟨p3, m3, rfl, -⟩ := q3.form
      clear q1 q2 q3
      obtain ⟨ps, e1, e2, e3⟩ := OR.out
      rw [HTK.out] at e3
      have P1 := Lib.hid e1
      have P2 := Lib.hid e2
      have hown2 := own_later e3 hb2
      have HOW := Lib.hid hown2
      have HGE := Lib.hid (own_ge hown2)
      have n1 : w.heap.size + 1 + 1 < V2.heap.size := by omega
      clear e1 e2 e3 hb2 d0 d1 d2 d3 d4 s0 s1 r0 r1 rf0 rf1 o0 o1 of0 of1
      obtain ⟨s0, s1⟩ := two_cells X2.out.box
      obtain ⟨r0, r1, rf0, rf1⟩ := two_of X2.out.ret
      obtain ⟨o0, o1, of0, of1⟩ := two_of X2.out.out
      go_wp2_with (first | (at_builtin; refine wpList_append_own _ rfl _ _ 22 rfl (w.heap.size + 3) 46 i0 (.agg #[.string ⟨#[]⟩, .slice none 0 0, .slice none 0 0, .int .i64 0, .slice none 0 0]) 5 96 Tryz.underlying22 hi hz0 hz1 hz2 rfl (by decide) _ k (ps.flatMap (·.2)) rfl ((hown2.alloc _).alloc _) ⟨V2.heap.size + 1, 0, none⟩ 1 1 [.string c.tbs[k].nm, .slice p1 c.tbs[k].cols.length m1, .slice p2 c.tbs[k].key.length m2, .int .i64 c.tbs[k].part, .slice p3 c.tbs[k].ixs.length m3] rfl rfl (cells_alloc2 _ _ _ _) (by intro u hu; simp only [List.mem_cons, List.not_mem_nil, or_false] at hu; rcases hu with rfl | rfl | rfl | rfl | rfl <;> rfl) (by unfold maxLen; omega) (by omega) (by simp; omega) ?_; intro v' w3 hown3 hgrow3 _; obtain ⟨pn, cn, rfl⟩ := own_form hown3; (have HG := Lib.hid hgrow3); (have HO3 := Lib.hid hown3); (have X3 := Lib.hid ((X2.out.later (((Below.refl _ _).alloc (Nat.le_refl _) _).alloc (by simp) _)).grown hgrow3 HGE.out)); clear hown3 hgrow3 hown2 s0 s1 r0 r1 rf0 rf1 o0 o1 of0 of1; obtain ⟨s0, s1⟩ := two_cells X3.out.box; obtain ⟨r0, r1, rf0, rf1⟩ := two_of X3.out.ret; obtain ⟨o0, o1, of0, of1⟩ := two_of X3.out.out))
      go_roundw
      case rel =>
        have hal : Below V2.heap.size V2 ((V2.alloc (.cells ([.string c.tbs[k].nm, .slice p1 c.tbs[k].cols.length m1, .slice p2 c.tbs[k].key.length m2, .int .i64 c.tbs[k].part, .slice p3 c.tbs[k].ixs.length m3]).toArray 46)).alloc (.cells ([.string c.tbs[k].nm, .slice p1 c.tbs[k].cols.length m1, .slice p2 c.tbs[k].key.length m2, .int .i64 c.tbs[k].part, .slice p3 c.tbs[k].ixs.length m3]).toArray 46)) := ((Below.refl _ _).alloc (Nat.le_refl _) _).alloc (by simp) _
        have hkp : Keeps inTb (w.heap.size + 3) V2 (w3.setCell ⟨w.heap.size + 1 + 1, 0, none⟩ (.slice pn (k + 1) cn)) := ((Keeps.of hal).trans (Keeps.grown ((HOW.out.alloc _).alloc _) HG.out (by decide))).trans (Keeps.low (Keeps.of (Below.refl _ _)) (by omega) 0 (.slice pn (k + 1) cn))
        have hkw : Keeps inTb (w.heap.size + 3) wr (w3.setCell ⟨w.heap.size + 1 + 1, 0, none⟩ (.slice pn (k + 1) cn)) := (Keeps.of HB2.out).trans hkp
        refine ⟨k + 1, (.slice pn (k + 1) cn), by omega, by go_num, X3.out.set0 (.slice pn (k + 1) cn), ?_⟩
        rw [← take_snoc c.tbs k hlt]
        refine OwnR.push (n := 5) P1.out P2.out (TbO.keeps hkw) ((TbO.keeps hkp) _ _ HOx.out) rfl ?_
        rw [HTK.out]
        exact ownsRow_setCell_below HO3.out (a := ⟨w.heap.size + 1 + 1, 0, none⟩) (by show w.heap.size + 1 + 1 < w.heap.size + 3; omega) (.slice pn (k + 1) cn)
      case measure => simp [intOf]; omega
    · have hlti : ¬ (k : Int) < (c.tbs.length : Int) := by omega
      obtain ⟨VT, hVT⟩ : ∃ VT, (Value.slice pv k cv) = VT := ⟨_, rfl⟩
      have OT : Hid (OwnR 5 46 (TbO wr (w.heap.size + 3)) wr (w.heap.size + 3) VT c.tbs) := by
        have := OR.out
        rw [List.take_of_length_le (by omega), hVT] at this
        exact this
      go_wp2
      rw [hVT] at XR
      clear s0 s1 r0 r1 rf0 rf1 o0 o1 of0 of1 hVT HTK
      go_loopw [6] (fun i wz => ∃ (k : Nat) (v : Value), k ≤ c.prs.length ∧ i = .int .i64 k ∧ Bc w wz (.slice pt c.tbs.length ct) (.slice pp c.prs.length cp) (.slice none 0 0) (.slice none 0 0) VT v ∧ OwnR 5 52 (PcO wz (w.heap.size + 3)) wz (w.heap.size + 3) v (c.prs.take k) ∧ OwnR 5 46 (TbO wz (w.heap.size + 3)) wz (w.heap.size + 3) VT c.tbs) (fun i _ => c.prs.length - (intOf i).toNat)
      case atStart => exact ⟨0, _, Nat.zero_le _, rfl, XR.out, OwnR.nil _ _ _ _ _, OT.out⟩
      case round =>
        clear XR OR OT hltr
        obtain ⟨k, v, hk, rfl, hx, ho, hot⟩ := hrel
        have XR := Lib.hid hx
        have OR := Lib.hid ho
        have hltr := hx.lt
        obtain ⟨pv, cv, rfl, -⟩ := ho.form
        have htk : (c.prs.take k).length = k := by rw [List.length_take]; omega
        have HTK := Lib.hid htk
        rw [htk] at XR OR
        clear hx ho htk
        have OT := Lib.hid hot
        clear hot
        obtain ⟨s0, s1⟩ := two_cells XR.out.box
        obtain ⟨r0, r1, rf0, rf1⟩ := two_of XR.out.ret
        obtain ⟨o0, o1, of0, of1⟩ := two_of XR.out.out
        by_cases hlt : k < c.prs.length
        · have hlti : (k : Int) < (c.prs.length : Int) := by omega
          obtain ⟨b, off, v0, v1, v2, v3, v4, rfl, hRk, g0, g1, g2, g3, g4⟩ := HR2.out.at5 hlt
          have HRk : Hid (∀ W, Below w.heap.size w W → PcR W c.prs[k] [v0, v1, v2, v3, v4]) := fun W h => PcR.later h _ _ hRk
          obtain ⟨ac, bc, ak, bk, hRk, -, -⟩ := hRk
          simp only [List.cons.injEq, and_true] at hRk
          obtain ⟨rfl, rfl, rfl, rfl, rfl⟩ := hRk
          have d0 := cell_later XR.out.low g0
          have d1 := cell_later XR.out.low g1
          have d2 := cell_later XR.out.low g2
          have d3 := cell_later XR.out.low g3
          have d4 := cell_later XR.out.low g4
          clear g0 g1 g2 g3 g4
          go_wp2_with fail
          refine (procOf_any c.prs[k] _ _ (HRk.out _ XR.out.low) (HZ.out.pc _ (List.getElem_mem hlt))).mono ?_
          rintro e V2 ⟨us, rfl, hO, hb2⟩
          have hbz := hb2.size
          have X2 := Lib.hid (XR.out.later hb2)
          have HB2 := Lib.hid hb2
          have hO := PcO.mono (B' := w.heap.size + 3) (by omega) _ _ hO
          have HOx := Lib.hid hO
          obtain ⟨u1, u2, rfl, q1, q2⟩ := hO
          obtain ⟨p1, m1, rfl, -⟩ := q1.form
          obtain ⟨p2, m2, rfl, -⟩ := q2.form
          clear q1 q2
          obtain ⟨ps, e1, e2, e3⟩ := OR.out
          rw [HTK.out] at e3
          have P1 := Lib.hid e1
          have P2 := Lib.hid e2
          have hown2 := own_later e3 hb2
          have HOW := Lib.hid hown2
          have HGE := Lib.hid (own_ge hown2)
          have n1 : w.heap.size + 1 + 1 < V2.heap.size := by omega
          clear e1 e2 e3 hb2 d0 d1 d2 d3 d4 s0 s1 r0 r1 rf0 rf1 o0 o1 of0 of1
          obtain ⟨s0, s1⟩ := two_cells X2.out.box
          obtain ⟨r0, r1, rf0, rf1⟩ := two_of X2.out.ret
          obtain ⟨o0, o1, of0, of1⟩ := two_of X2.out.out
          go_wp2_with (first | (at_builtin; refine wpList_append_own _ rfl _ _ 23 rfl (w.heap.size + 3) 52 j0 (.agg #[.string ⟨#[]⟩, .slice none 0 0, .slice none 0 0, .int .i64 0, .int .i64 0]) 5 80 Tryz.underlying23 hj hy0 hy1 hy2 rfl (by decide) _ k (ps.flatMap (·.2)) rfl ((hown2.alloc _).alloc _) ⟨V2.heap.size + 1, 0, none⟩ 1 1 [.string c.prs[k].nm, .slice p1 c.prs[k].prms.length m1, .slice p2 c.prs[k].body.length m2, .int .i64 c.prs[k].rows, .int .i64 c.prs[k].bytes] rfl rfl (cells_alloc2 _ _ _ _) (by intro u hu; simp only [List.mem_cons, List.not_mem_nil, or_false] at hu; rcases hu with rfl | rfl | rfl | rfl | rfl <;> rfl) (by unfold maxLen; omega) (by omega) (by simp; omega) ?_; intro v' w3 hown3 hgrow3 _; obtain ⟨pn, cn, rfl⟩ := own_form hown3; (have HG := Lib.hid hgrow3); (have HO3 := Lib.hid hown3); (have X3 := Lib.hid ((X2.out.later (((Below.refl _ _).alloc (Nat.le_refl _) _).alloc (by simp) _)).grown hgrow3 HGE.out)); clear hown3 hgrow3 hown2 s0 s1 r0 r1 rf0 rf1 o0 o1 of0 of1; obtain ⟨s0, s1⟩ := two_cells X3.out.box; obtain ⟨r0, r1, rf0, rf1⟩ := two_of X3.out.ret; obtain ⟨o0, o1, of0, of1⟩ := two_of X3.out.out))
          go_roundw
          case rel =>
            have hal : Below V2.heap.size V2 ((V2.alloc (.cells ([.string c.prs[k].nm, .slice p1 c.prs[k].prms.length m1, .slice p2 c.prs[k].body.length m2, .int .i64 c.prs[k].rows, .int .i64 c.prs[k].bytes]).toArray 52)).alloc (.cells ([.string c.prs[k].nm, .slice p1 c.prs[k].prms.length m1, .slice p2 c.prs[k].body.length m2, .int .i64 c.prs[k].rows, .int .i64 c.prs[k].bytes]).toArray 52)) := ((Below.refl _ _).alloc (Nat.le_refl _) _).alloc (by simp) _
            have hkp : Keeps inPc (w.heap.size + 3) V2 (w3.setCell ⟨w.heap.size + 1 + 1, 1, none⟩ (.slice pn (k + 1) cn)) := ((Keeps.of hal).trans (Keeps.grown ((HOW.out.alloc _).alloc _) HG.out (by decide))).trans (Keeps.low (Keeps.of (Below.refl _ _)) (by omega) 1 (.slice pn (k + 1) cn))
            have hkw : Keeps inPc (w.heap.size + 3) wr (w3.setCell ⟨w.heap.size + 1 + 1, 1, none⟩ (.slice pn (k + 1) cn)) := (Keeps.of HB2.out).trans hkp
            have hkt : Keeps [46, 62, 3, 64] (w.heap.size + 3) wr (w3.setCell ⟨w.heap.size + 1 + 1, 1, none⟩ (.slice pn (k + 1) cn)) := (Keeps.of HB2.out).trans (((Keeps.of hal).trans (Keeps.grown ((HOW.out.alloc _).alloc _) HG.out (by decide))).trans (Keeps.low (Keeps.of (Below.refl _ _)) (by omega) 1 (.slice pn (k + 1) cn)))
            refine ⟨k + 1, (.slice pn (k + 1) cn), by omega, by go_num, X3.out.set1 (.slice pn (k + 1) cn), ?_, ?_⟩
            · rw [← take_snoc c.prs k hlt]
              refine OwnR.push (n := 5) P1.out P2.out (PcO.keeps hkw) ((PcO.keeps hkp) _ _ HOx.out) rfl ?_
              rw [HTK.out]
              exact ownsRow_setCell_below HO3.out (a := ⟨w.heap.size + 1 + 1, 1, none⟩) (by show w.heap.size + 1 + 1 < w.heap.size + 3; omega) (.slice pn (k + 1) cn)
            · exact OT.out.keeps hkt (by simp) (TbO.keeps (hkt.sub (by simp)))
          case measure => simp [intOf]; omega
        · have hlti : ¬ (k : Int) < (c.prs.length : Int) := by omega
          have OP : Hid (OwnR 5 52 (PcO wr (w.heap.size + 3)) wr (w.heap.size + 3) (.slice pv k cv) c.prs) := by
            have := OR.out
            rw [List.take_of_length_le (by omega)] at this
            exact this
          obtain ⟨pT, cT, rfl, -⟩ := OT.out.form
          go_wp2
          refine bodyPost_ret (v := .agg #[.slice pT c.tbs.length cT, .slice pv k cv]) (by simp [results, Tryz.results11, go_sem, *]) rfl ?_
          have hkf : ∀ S u0 u1, Keeps S (w.heap.size + 3) wr ((wr.setCell ⟨w.heap.size + 1, 0, none⟩ u0).setCell ⟨w.heap.size + 1, 1, none⟩ u1) := fun S u0 u1 => Keeps.low (Keeps.low (Keeps.of (Below.refl _ _)) (by omega) _ _) (by omega) _ _
          refine ⟨[.slice pT c.tbs.length cT, .slice pv k cv], rfl, ⟨_, _, rfl, ?_, ?_⟩, ?_⟩
          · exact (OT.out.keeps (hkf [46] _ _) (by simp) (TbO.keeps (hkf inTb _ _))).mono (by omega) (TbO.mono (by omega))
          · exact (OP.out.keeps (hkf [52] _ _) (by simp) (PcO.keeps (hkf inPc _ _))).mono (by omega) (PcO.mono (by omega))
          · have h0 := XR.out.low
            (repeat (first | exact Below.refl _ _ | assumption | refine Below.drew ?_ | refine below_drewN ?_ _ | refine Below.alloc ?_ (by first | omega | (simp; done) | (simp; omega)) _ | refine Below.setCell ?_ (by first | omega | (simp; done) | (simp; omega)) _ | refine Below.trans ?_ (Below.mono (by assumption) (by first | omega | (simp; done) | (simp; omega)))))
end Go.Proofs.YtkgkkcefnonejaaGreat
/- Walks of layer 8: the document's Encode. -/
namespace Go.Proofs.YtkgkkcefnonejaaGreat
open Go.RowKit

structure TbN (t : Tb) : Prop where
  nm : t.nm.size < 2097152
  cols : t.cols.length < 2097152
  col : ∀ c ∈ t.cols, c.nm.size < 2097152 ∧ 0 ≤ c.ty ∧ c.ty < 2097152
  key : t.key.length < 2097152
  keys : ∀ p ∈ t.key, 0 ≤ p ∧ p < 2097152
  part : 0 ≤ t.part ∧ t.part < 2097152
  ixs : t.ixs.length < 2097152
  ix : ∀ x ∈ t.ixs, x.nm.size < 2097152 ∧ x.cols.length < 2097152 ∧ ∀ p ∈ x.cols, 0 ≤ p ∧ p < 2097152
structure PcN (p : Pc) : Prop where
  nm : p.nm.size < 2097152
  prms : p.prms.length < 2097152
  prm : ∀ c ∈ p.prms, c.nm.size < 2097152 ∧ 0 ≤ c.ty ∧ c.ty < 2097152
  body : p.body.length < 2097152
  src : ∀ s ∈ p.body, s.size < 2097152
  rows : 0 ≤ p.rows ∧ p.rows < 2097152
  bytes : 0 ≤ p.bytes ∧ p.bytes < 2097152
theorem TbN.of {t : Tb} (h : mayTb t = true) : TbN t := by
  obtain ⟨h1, h2, h3, h4⟩ := mayTb_parts h
  obtain ⟨c1, c2⟩ := mayCols_nm h2
  obtain ⟨k1, k2⟩ := mayKey_parts h3
  have k3 := mayPl_size k1
  obtain ⟨x1, x2⟩ := mayIxs_nm h4
  exact ⟨by have := nm_le h1; omega, by omega, fun c hc => ⟨by have := (c2 c hc).1; omega, typ_bound (c2 c hc).2⟩, by omega, pl_bound k1 c1.2, pl_bound k1 c1.2 _ k2, by omega, fun x hx => ⟨by have := (x2 x hx).1; omega, by have := mayPl_size (x2 x hx).2; omega, pl_bound (x2 x hx).2 c1.2⟩⟩
theorem PcN.of {p : Pc} (h : mayPc p = true) : PcN p := by
  obtain ⟨h1, h2, h3, h4, h5⟩ := mayPc_parts h
  obtain ⟨c1, c2⟩ := mayPms_nm h2
  obtain ⟨b1, b2⟩ := mayBody_src h3
  exact ⟨by have := nm_le h1; omega, by omega, fun c hc => ⟨by have := (c2 c hc).1; omega, typ_bound (c2 c hc).2⟩, by omega, fun s hs => by have := b2 s hs; omega, bud_bound h4, bud_bound h5⟩
theorem Ink.cast {w : World} {B : Nat} {v : Value} {xs ys : List UInt8} (h : Ink w B v xs) (e : xs = ys) : Ink w B v ys := e ▸ h
theorem flat_len {α : Type} (f : α → List UInt8) (l : List α) (k : Nat) (h : k < l.length) : ((l.take k).flatMap f).length + (f l[k]).length ≤ (l.flatMap f).length := by
  have := flat_le f l (k + 1)
  rw [flat_take f l k h, List.length_append] at this
  exact this
theorem nat_of {n : Int} (h : 0 ≤ n ∧ n < 2097152) : ∃ m : Nat, n = (m : Int) ∧ m < 2097152 ∧ num m = numI n := ⟨n.toNat, by omega, by omega, rfl⟩

set_option maxHeartbeats 64000000 in
set_option maxRecDepth 100000 in
theorem dEncode_any (c : Ct) (vs : List Value) (w : World) (hR : CtR w c vs) :
    Calls Tryz.prog 15 #[.agg vs.toArray] w fun e w' => e = .returned (.tuple #[.string (encS c), .int .i64 (encE c)]) ∧ Below w.heap.size w w' := by
  have HC : Hid (∀ W, Below w.heap.size w W → CtR W c vs) := fun W h => CtR.later h c vs hR
  obtain ⟨pt, ct, pp, cp, rfl, r1, r2⟩ := hR
  have HR1 := Lib.hid r1
  have HR2 := Lib.hid r2
  clear r1 r2
  have HBX : Hid (∀ W, Below (w.heap.size + 1) (w.alloc (.cells #[.slice pt c.tbs.length ct, .slice pp c.prs.length cp] 25)) W → W.heap[w.heap.size]? = some (.cells #[.slice pt c.tbs.length ct, .slice pp c.prs.length cp] 25 (0, 0)) ∧ Below w.heap.size w W) := fun W h => ⟨(h.block _ (by omega)).trans (heap_alloc_new w _), ((Below.refl _ _).alloc (Nat.le_refl _) _).trans (h.mono (by omega))⟩
  cases h1 : rightC c with
  | false =>
    rw [encS_no h1, encE_no h1]
    go_enter Tryz.func15, Tryz.ntmps15
    go_wp2_with fail
    refine (dRight_any c _ _ (HC.out _ (by (repeat (first | exact Below.refl _ _ | assumption | refine Below.drew ?_ | refine below_drewN ?_ _ | refine Below.alloc ?_ (by first | omega | (simp; done) | (simp; omega)) _ | refine Below.setCell ?_ (by first | omega | (simp; done) | (simp; omega)) _ | refine Below.trans ?_ (Below.mono (by assumption) (by first | omega | (simp; done) | (simp; omega)))))))).mono ?_
    rintro e w1 ⟨rfl, hb1⟩
    obtain ⟨e0, e1⟩ := HBX.out w1 (hb1.mono (by simp))
    have HBW := Lib.hid e1
    rw [h1]
    clear e0 e1 hb1
    go_wp2
    exact bodyPost_ret (v := .tuple #[.string ⟨#[]⟩, .int .i64 80]) (by simp [results, Tryz.results15, go_sem]) rfl ⟨rfl, HBW.out⟩
  | true =>
    have hlen := encC_len h1
    obtain ⟨g1, g2, g3, g4⟩ := rightC_parts h1
    have HG3 := Lib.hid g3
    have HG4 := Lib.hid g4
    have hl2 : (num c.tbs.length).length + (c.tbs.flatMap encTb).length + (num c.prs.length).length + (c.prs.flatMap encPc).length ≤ 10000000 := by
      simp only [encC, lst, List.length_append] at hlen
      omega
    rw [encS_yes h1, encE_yes h1]
    clear hlen g3 g4
    go_enter Tryz.func15, Tryz.ntmps15
    go_wp2_with fail
    refine (dRight_any c _ _ (HC.out _ (by (repeat (first | exact Below.refl _ _ | assumption | refine Below.drew ?_ | refine below_drewN ?_ _ | refine Below.alloc ?_ (by first | omega | (simp; done) | (simp; omega)) _ | refine Below.setCell ?_ (by first | omega | (simp; done) | (simp; omega)) _ | refine Below.trans ?_ (Below.mono (by assumption) (by first | omega | (simp; done) | (simp; omega)))))))).mono ?_
    rintro e w1 ⟨rfl, hb1⟩
    have hs1 := hb1.size
    simp at hs1
    obtain ⟨e0, e1⟩ := HBX.out w1 (hb1.mono (by simp))
    obtain ⟨c0, c1⟩ := two_cells e0
    have HX1 := Lib.hid e0
    have HB1 := Lib.hid e1
    rw [h1]
    clear e0 e1 hb1 h1
    go_wp2_with fail
    refine (dNum_any (.slice none 0 0) [] c.tbs.length _ w.heap.size HB1.out.size (by omega) (Ink.nil _ _) (by simp only [List.length_append, List.length_nil]; omega)).mono ?_
    rintro e w2 ⟨v2, rfl, i2, k2⟩
    have HI2 := Lib.hid i2
    have HX2 := Lib.hid (k2.heap HX1.out (by decide))
    have HB2 := Lib.hid (Inks.on HB1.out k2)
    clear i2 k2 c0 c1
    obtain ⟨c0, c1⟩ := two_cells HX2.out
    go_wp2
    clear c0 c1
    go_loopw [5, 6] (fun u i wz => ∃ k : Nat, k ≤ c.tbs.length ∧ i = .int .i64 k ∧ Ink wz w.heap.size u (num c.tbs.length ++ (c.tbs.take k).flatMap encTb) ∧ wz.heap[w.heap.size]? = some (.cells #[.slice pt c.tbs.length ct, .slice pp c.prs.length cp] 25 (0, 0)) ∧ Below w.heap.size w wz) (fun _ i _ => c.tbs.length - (intOf i).toNat)
    case atStart => exact ⟨0, Nat.zero_le _, rfl, by simpa using HI2.out, HX2.out, HB2.out⟩
    case round =>
      rename World => L3
      obtain ⟨k, hk, rfl, hi, hx, hb⟩ := hrel
      have HI3 := Lib.hid hi
      have HX3 := Lib.hid hx
      have HB3 := Lib.hid hb
      have hwz : w.heap.size < L3.heap.size := (Array.getElem?_eq_some_iff.1 hx).1
      clear hi hx hb
      have hfo := flat_le encTb c.tbs k
      obtain ⟨c0, c1⟩ := two_cells HX3.out
      by_cases hlt0 : k < c.tbs.length
      · have hlti0 : (k : Int) < (c.tbs.length : Int) := by omega
        have hfok := flat_len encTb c.tbs k hlt0
        have HFO := Lib.hid (flat_take encTb c.tbs k hlt0)
        have HN := Lib.hid (TbN.of (HG3.out _ (List.getElem_mem hlt0)))
        obtain ⟨b, off, u0, u1, u2, u3, u4, rfl, hRk, g0, g1, g2, g3, g4⟩ := HR1.out.at5 hlt0
        obtain ⟨pc, cc, pk, ck, px, cx, hRk, rc, rk, rx⟩ := hRk
        have HRC := Lib.hid rc
        have HRK := Lib.hid rk
        have HRX := Lib.hid rx
        clear rc rk rx
        simp only [List.cons.injEq, and_true] at hRk
        obtain ⟨rfl, rfl, rfl, rfl, rfl⟩ := hRk
        obtain ⟨x, hx⟩ : ∃ x, c.tbs[k] = x := ⟨_, rfl⟩
        simp only [hx] at g0 g1 g2 g3 g4 HRC HRK HRX hfok HFO HN
        obtain ⟨P, hP, hP2, hP3⟩ := nat_of HN.out.part
        rw [hP] at g3
        have d0 := cell_later HB3.out g0
        have d1 := cell_later HB3.out g1
        have d2 := cell_later HB3.out g2
        have d3 := cell_later HB3.out g3
        have d4 := cell_later HB3.out g4
        obtain ⟨WX, hWX⟩ : ∃ WX, L3.alloc (.cells #[.string x.nm, .slice pc x.cols.length cc, .slice pk x.key.length ck, .int .i64 (P : Int), .slice px x.ixs.length cx] 46) = WX := ⟨_, rfl⟩
        have hbx : Below L3.heap.size L3 WX := by rw [← hWX]; exact (Below.refl _ _).alloc (Nat.le_refl _) _
        have HT4 : Hid (WX.heap[L3.heap.size]? = some (.cells #[.string x.nm, .slice pc x.cols.length cc, .slice pk x.key.length ck, .int .i64 (P : Int), .slice px x.ixs.length cx] 46 (0, 0))) := by show WX.heap[L3.heap.size]? = _; rw [← hWX]; exact heap_alloc_new L3 _
        have HX4 := Lib.hid (heap_of HX3.out hbx)
        have HB4 := Lib.hid (below_two HB3.out hbx)
        have HI4 := Lib.hid (HI3.out.later hbx)
        obtain ⟨t0, t1, t2, t3, t4⟩ := five_of HT4.out
        obtain ⟨y0, y1⟩ := two_cells HX4.out
        clear hbx g0 g1 g2 g3 g4
        have hel : (txt x.nm).length + (num x.cols.length).length + (x.cols.flatMap encCol).length + (num x.key.length).length + (x.key.flatMap numI).length + (num P).length + (num x.ixs.length).length + (x.ixs.flatMap encIx).length = (encTb x).length := by
          simp only [encTb, lst, List.length_append, hP3]
          omega
        go_wp2_with fail
        refine (dText_any _ _ x.nm WX w.heap.size HB4.out.size HN.out.nm HI4.out (by simp only [List.length_append]; omega)).mono ?_
        rintro e w5 ⟨v5, rfl, i5, k5⟩
        have HI5 := Lib.hid i5
        have HX5 := Lib.hid (k5.heap HX4.out (by decide))
        have HT5 := Lib.hid (k5.heap HT4.out (by decide))
        have HB5 := Lib.hid (Inks.on HB4.out k5)
        clear i5 k5 c0 c1 t0 t1 t2 t3 t4 hWX y0 y1 d0 d1 d2 d3 d4
        obtain ⟨c0, c1⟩ := two_cells HX5.out
        obtain ⟨t0, t1, t2, t3, t4⟩ := five_of HT5.out
        go_wp2_with fail
        refine (dNum_any _ _ x.cols.length _ w.heap.size HB5.out.size HN.out.cols HI5.out (by simp only [List.length_append]; omega)).mono ?_
        rintro e w6 ⟨v6, rfl, i6, k6⟩
        have HI6 := Lib.hid i6
        have HX6 := Lib.hid (k6.heap HX5.out (by decide))
        have HT6 := Lib.hid (k6.heap HT5.out (by decide))
        have HB6 := Lib.hid (Inks.on HB5.out k6)
        clear i6 k6 c0 c1 t0 t1 t2 t3 t4
        obtain ⟨c0, c1⟩ := two_cells HX6.out
        obtain ⟨t0, t1, t2, t3, t4⟩ := five_of HT6.out
        obtain ⟨S2, hS2⟩ : ∃ S2, num c.tbs.length ++ (c.tbs.take k).flatMap encTb ++ txt x.nm ++ num x.cols.length = S2 := ⟨_, rfl⟩
        have hS2l : S2.length + (x.cols.flatMap encCol).length + (num x.key.length).length + (x.key.flatMap numI).length + (num P).length + (num x.ixs.length).length + (x.ixs.flatMap encIx).length ≤ 10000000 := by
          rw [← hS2]
          simp only [List.length_append]
          omega
        rw [hS2] at HI6
        have HS2 := Lib.hid hS2
        clear hS2
        have hbd7 := HN.out.cols
        go_wp2
        clear c0 c1 t0 t1 t2 t3 t4
        go_loopw [5, 8] (fun u i wz => ∃ j : Nat, j ≤ x.cols.length ∧ i = .int .i64 j ∧ Ink wz w.heap.size u (S2 ++ (x.cols.take j).flatMap encCol) ∧ wz.heap[w.heap.size]? = some (.cells #[.slice (some ⟨b, off, none⟩) c.tbs.length ct, .slice pp c.prs.length cp] 25 (0, 0)) ∧ wz.heap[L3.heap.size]? = some (.cells #[.string x.nm, .slice pc x.cols.length cc, .slice pk x.key.length ck, .int .i64 (P : Int), .slice px x.ixs.length cx] 46 (0, 0)) ∧ Below w.heap.size w wz) (fun _ i _ => x.cols.length - (intOf i).toNat)
        case atStart => exact ⟨0, Nat.zero_le _, rfl, by simpa using HI6.out, HX6.out, HT6.out, HB6.out⟩
        case round =>
          rename World => L7
          obtain ⟨j, hj, rfl, hi, hx, ht, hb⟩ := hrel
          have HI7 := Lib.hid hi
          have HX7 := Lib.hid hx
          have HT7 := Lib.hid ht
          have HB7 := Lib.hid hb
          clear hi hx ht hb
          have hfl := flat_le encCol x.cols j
          obtain ⟨c0, c1⟩ := two_cells HX7.out
          obtain ⟨t0, t1, t2, t3, t4⟩ := five_of HT7.out
          by_cases hlt : j < x.cols.length
          · have hlti : (j : Int) < (x.cols.length : Int) := by omega
            have hfk := flat_len encCol x.cols j hlt
            have HFK := Lib.hid (flat_take encCol x.cols j hlt)
            obtain ⟨b2, o2, y0, y1, y2, rfl, hR2, f0, f1, f2⟩ := HRC.out.at3 hlt
            simp only [ColR, List.cons.injEq, and_true] at hR2
            obtain ⟨rfl, rfl, rfl⟩ := hR2
            obtain ⟨z, hz⟩ : ∃ z, x.cols[j] = z := ⟨_, rfl⟩
            have HNC := Lib.hid (HN.out.col _ (List.getElem_mem hlt))
            simp only [hz] at f0 f1 f2 hfk HFK HNC
            obtain ⟨m, hm, hm2, hm3⟩ := nat_of HNC.out.2
            rw [hm] at f1
            have hel2 : (txt z.nm).length + (num m).length + (flag z.nn).length = (encCol z).length := by
              simp only [encCol, List.length_append, hm3]
            have d0 := cell_later HB7.out f0
            have d1 := cell_later HB7.out f1
            have d2 := cell_later HB7.out f2
            go_wp2_with fail
            refine (dText_any _ _ z.nm _ w.heap.size HB7.out.size HNC.out.1 HI7.out (by simp only [List.length_append]; omega)).mono ?_
            rintro e w8 ⟨v8, rfl, i8, k8⟩
            have HI8 := Lib.hid i8
            have HX8 := Lib.hid (k8.heap HX7.out (by decide))
            have HT8 := Lib.hid (k8.heap HT7.out (by decide))
            have HB8 := Lib.hid (Inks.on HB7.out k8)
            clear i8 k8 c0 c1 t0 t1 t2 t3 t4 d0 d1 d2
            obtain ⟨c0, c1⟩ := two_cells HX8.out
            obtain ⟨t0, t1, t2, t3, t4⟩ := five_of HT8.out
            have d0 := cell_later HB8.out f0
            have d1 := cell_later HB8.out f1
            have d2 := cell_later HB8.out f2
            go_wp2_with fail
            refine (dNum_any _ _ m _ w.heap.size HB8.out.size hm2 HI8.out (by simp only [List.length_append]; omega)).mono ?_
            rintro e w9 ⟨v9, rfl, i9, k9⟩
            have HI9 := Lib.hid i9
            have HX9 := Lib.hid (k9.heap HX8.out (by decide))
            have HT9 := Lib.hid (k9.heap HT8.out (by decide))
            have HB9 := Lib.hid (Inks.on HB8.out k9)
            clear i9 k9 c0 c1 t0 t1 t2 t3 t4 d0 d1 d2
            obtain ⟨c0, c1⟩ := two_cells HX9.out
            obtain ⟨t0, t1, t2, t3, t4⟩ := five_of HT9.out
            have d0 := cell_later HB9.out f0
            have d1 := cell_later HB9.out f1
            have d2 := cell_later HB9.out f2
            go_wp2_with fail
            refine (dFlag_any _ _ z.nn _ w.heap.size HB9.out.size HI9.out (by simp only [List.length_append]; omega)).mono ?_
            rintro e w10 ⟨v10, rfl, i10, k10⟩
            have HI10 := Lib.hid i10
            have HX10 := Lib.hid (k10.heap HX9.out (by decide))
            have HT10 := Lib.hid (k10.heap HT9.out (by decide))
            have HB10 := Lib.hid (Inks.on HB9.out k10)
            clear i10 k10 c0 c1 t0 t1 t2 t3 t4 d0 d1 d2
            obtain ⟨c0, c1⟩ := two_cells HX10.out
            obtain ⟨t0, t1, t2, t3, t4⟩ := five_of HT10.out
            have d0 := cell_later HB10.out f0
            have d1 := cell_later HB10.out f1
            have d2 := cell_later HB10.out f2
            have HE10 : Hid (Ink w10 w.heap.size v10 (S2 ++ (x.cols.take (j + 1)).flatMap encCol)) := by
              have := HI10.out
              show Ink _ _ _ _
              rw [HFK.out]
              rw [hm3] at this
              simpa only [encCol, List.append_assoc] using this
            clear HI10
            go_wp2
            go_roundw
            case rel => exact ⟨j + 1, by omega, by go_num, HE10.out, HX10.out, HT10.out, HB10.out⟩
            case measure => simp [intOf]; omega
          · have hlti : ¬ (j : Int) < (x.cols.length : Int) := by omega
            have hi := HI7.out
            rw [List.take_of_length_le (by omega)] at hi
            clear HI7 hfl
            have HI7 := Lib.hid hi
            clear hi
            go_wp2_with fail
            refine (dNums_any _ _ pk ck x.key _ w (Inks.of HB7.out) HN.out.key HRK.out HN.out.keys HI7.out (by simp only [List.length_append, lst]; omega)).mono ?_
            rintro e w11 ⟨v11, rfl, i11, k11⟩
            have HI11 := Lib.hid i11
            have HX11 := Lib.hid (k11.heap HX7.out (by decide))
            have HT11 := Lib.hid (k11.heap HT7.out (by decide))
            have HB11 := Lib.hid (Inks.on HB7.out k11)
            clear i11 k11 c0 c1 t0 t1 t2 t3 t4
            obtain ⟨c0, c1⟩ := two_cells HX11.out
            obtain ⟨t0, t1, t2, t3, t4⟩ := five_of HT11.out
            go_wp2_with fail
            refine (dNum_any _ _ P _ w.heap.size HB11.out.size hP2 HI11.out (by simp only [List.length_append, lst]; omega)).mono ?_
            rintro e w12 ⟨v12, rfl, i12, k12⟩
            have HI12 := Lib.hid i12
            have HX12 := Lib.hid (k12.heap HX11.out (by decide))
            have HT12 := Lib.hid (k12.heap HT11.out (by decide))
            have HB12 := Lib.hid (Inks.on HB11.out k12)
            clear i12 k12 c0 c1 t0 t1 t2 t3 t4
            obtain ⟨c0, c1⟩ := two_cells HX12.out
            obtain ⟨t0, t1, t2, t3, t4⟩ := five_of HT12.out
            go_wp2_with fail
            refine (dNum_any _ _ x.ixs.length _ w.heap.size HB12.out.size HN.out.ixs HI12.out (by simp only [List.length_append, lst]; omega)).mono ?_
            rintro e w13 ⟨v13, rfl, i13, k13⟩
            have HI13 := Lib.hid i13
            have HX13 := Lib.hid (k13.heap HX12.out (by decide))
            have HT13 := Lib.hid (k13.heap HT12.out (by decide))
            have HB13 := Lib.hid (Inks.on HB12.out k13)
            clear i13 k13 c0 c1 t0 t1 t2 t3 t4
            obtain ⟨c0, c1⟩ := two_cells HX13.out
            obtain ⟨t0, t1, t2, t3, t4⟩ := five_of HT13.out
            obtain ⟨S3, hS3⟩ : ∃ S3, S2 ++ x.cols.flatMap encCol ++ lst numI x.key ++ num P ++ num x.ixs.length = S3 := ⟨_, rfl⟩
            have hS3l : S3.length + (x.ixs.flatMap encIx).length ≤ 10000000 := by
              rw [← hS3]
              simp only [List.length_append, lst]
              omega
            rw [hS3] at HI13
            have HS3 := Lib.hid hS3
            clear hS3
            have hbd14 := HN.out.ixs
            go_wp2
            clear c0 c1 t0 t1 t2 t3 t4
            go_loopw [5, 9] (fun u i wz => ∃ j : Nat, j ≤ x.ixs.length ∧ i = .int .i64 j ∧ Ink wz w.heap.size u (S3 ++ (x.ixs.take j).flatMap encIx) ∧ wz.heap[w.heap.size]? = some (.cells #[.slice (some ⟨b, off, none⟩) c.tbs.length ct, .slice pp c.prs.length cp] 25 (0, 0)) ∧ wz.heap[L3.heap.size]? = some (.cells #[.string x.nm, .slice pc x.cols.length cc, .slice pk x.key.length ck, .int .i64 (P : Int), .slice px x.ixs.length cx] 46 (0, 0)) ∧ Below w.heap.size w wz) (fun _ i _ => x.ixs.length - (intOf i).toNat)
            case atStart => exact ⟨0, Nat.zero_le _, rfl, by simpa using HI13.out, HX13.out, HT13.out, HB13.out⟩
            case round =>
              rename World => L14
              obtain ⟨j, hj, rfl, hi, hx, ht, hb⟩ := hrel
              have HI14 := Lib.hid hi
              have HX14 := Lib.hid hx
              have HT14 := Lib.hid ht
              have HB14 := Lib.hid hb
              clear hi hx ht hb
              have hfl := flat_le encIx x.ixs j
              obtain ⟨c0, c1⟩ := two_cells HX14.out
              obtain ⟨t0, t1, t2, t3, t4⟩ := five_of HT14.out
              by_cases hlt : j < x.ixs.length
              · have hlti : (j : Int) < (x.ixs.length : Int) := by omega
                have hfk := flat_len encIx x.ixs j hlt
                have HFK := Lib.hid (flat_take encIx x.ixs j hlt)
                obtain ⟨b2, o2, y0, y1, y2, rfl, hR2, f0, f1, f2⟩ := HRX.out.at3 hlt
                obtain ⟨pi, ci, hR2, hri⟩ := hR2
                simp only [List.cons.injEq, and_true] at hR2
                obtain ⟨rfl, rfl, rfl⟩ := hR2
                obtain ⟨z, hz⟩ : ∃ z, x.ixs[j] = z := ⟨_, rfl⟩
                have HNC := Lib.hid (HN.out.ix _ (List.getElem_mem hlt))
                have HRI := Lib.hid hri
                simp only [hz] at f0 f1 f2 hfk HFK HNC HRI
                clear hri
                have hel2 : (txt z.nm).length + (flag z.un).length + (num z.cols.length).length + (z.cols.flatMap numI).length = (encIx z).length := by
                  simp only [encIx, lst, List.length_append]
                  omega
                have d0 := cell_later HB14.out f0
                have d1 := cell_later HB14.out f1
                have d2 := cell_later HB14.out f2
                go_wp2_with fail
                refine (dText_any _ _ z.nm _ w.heap.size HB14.out.size HNC.out.1 HI14.out (by simp only [List.length_append]; omega)).mono ?_
                rintro e w15 ⟨v15, rfl, i15, k15⟩
                have HI15 := Lib.hid i15
                have HX15 := Lib.hid (k15.heap HX14.out (by decide))
                have HT15 := Lib.hid (k15.heap HT14.out (by decide))
                have HB15 := Lib.hid (Inks.on HB14.out k15)
                clear i15 k15 c0 c1 t0 t1 t2 t3 t4 d0 d1 d2
                obtain ⟨c0, c1⟩ := two_cells HX15.out
                obtain ⟨t0, t1, t2, t3, t4⟩ := five_of HT15.out
                have d0 := cell_later HB15.out f0
                have d1 := cell_later HB15.out f1
                have d2 := cell_later HB15.out f2
                go_wp2_with fail
                refine (dFlag_any _ _ z.un _ w.heap.size HB15.out.size HI15.out (by simp only [List.length_append]; omega)).mono ?_
                rintro e w16 ⟨v16, rfl, i16, k16⟩
                have HI16 := Lib.hid i16
                have HX16 := Lib.hid (k16.heap HX15.out (by decide))
                have HT16 := Lib.hid (k16.heap HT15.out (by decide))
                have HB16 := Lib.hid (Inks.on HB15.out k16)
                clear i16 k16 c0 c1 t0 t1 t2 t3 t4 d0 d1 d2
                obtain ⟨c0, c1⟩ := two_cells HX16.out
                obtain ⟨t0, t1, t2, t3, t4⟩ := five_of HT16.out
                have d0 := cell_later HB16.out f0
                have d1 := cell_later HB16.out f1
                have d2 := cell_later HB16.out f2
                go_wp2_with fail
                refine (dNums_any _ _ pi ci z.cols _ w (Inks.of HB16.out) HNC.out.2.1 HRI.out HNC.out.2.2 HI16.out (by simp only [List.length_append, lst]; omega)).mono ?_
                rintro e w17 ⟨v17, rfl, i17, k17⟩
                have HI17 := Lib.hid i17
                have HX17 := Lib.hid (k17.heap HX16.out (by decide))
                have HT17 := Lib.hid (k17.heap HT16.out (by decide))
                have HB17 := Lib.hid (Inks.on HB16.out k17)
                clear i17 k17 c0 c1 t0 t1 t2 t3 t4 d0 d1 d2
                obtain ⟨c0, c1⟩ := two_cells HX17.out
                obtain ⟨t0, t1, t2, t3, t4⟩ := five_of HT17.out
                have d0 := cell_later HB17.out f0
                have d1 := cell_later HB17.out f1
                have d2 := cell_later HB17.out f2
                have HE17 : Hid (Ink w17 w.heap.size v17 (S3 ++ (x.ixs.take (j + 1)).flatMap encIx)) := by
                  have := HI17.out
                  show Ink _ _ _ _
                  rw [HFK.out]
                  simpa only [encIx, List.append_assoc] using this
                clear HI17
                go_wp2
                go_roundw
                case rel => exact ⟨j + 1, by omega, by go_num, HE17.out, HX17.out, HT17.out, HB17.out⟩
                case measure => simp [intOf]; omega
              · have hlti : ¬ (j : Int) < (x.ixs.length : Int) := by omega
                have hi := HI14.out
                rw [List.take_of_length_le (by omega)] at hi
                clear HI14 hfl
                have HI14 := Lib.hid hi
                clear hi
                have HE14 := Lib.hid (Ink.cast HI14.out (show _ = num c.tbs.length ++ (c.tbs.take (k + 1)).flatMap encTb by
                  rw [← HS3.out, ← HS2.out, HFO.out, hP3]
                  simp only [encTb, lst, List.append_assoc]))
                clear HI14
                go_wp2
                go_roundw
                case rel => exact ⟨k + 1, by omega, by go_num, HE14.out, HX14.out, HB14.out⟩
                case measure => simp [intOf]; omega
      · have hlti0 : ¬ (k : Int) < (c.tbs.length : Int) := by omega
        have hi := HI3.out
        rw [List.take_of_length_le (by omega)] at hi
        clear HI3 hfo
        have HI3 := Lib.hid hi
        clear hi
        go_wp2_with fail
        refine (dNum_any _ _ c.prs.length _ w.heap.size HB3.out.size (by omega) HI3.out (by simp only [List.length_append]; omega)).mono ?_
        rintro e w18 ⟨v18, rfl, i18, k18⟩
        have HI18 := Lib.hid i18
        have HX18 := Lib.hid (k18.heap HX3.out (by decide))
        have HB18 := Lib.hid (Inks.on HB3.out k18)
        clear i18 k18 c0 c1
        obtain ⟨c0, c1⟩ := two_cells HX18.out
        obtain ⟨S1, hS1⟩ : ∃ S1, num c.tbs.length ++ c.tbs.flatMap encTb ++ num c.prs.length = S1 := ⟨_, rfl⟩
        have hS1l : S1.length + (c.prs.flatMap encPc).length ≤ 10000000 := by
          rw [← hS1]
          simp only [List.length_append]
          omega
        rw [hS1] at HI18
        have HS1 := Lib.hid hS1
        clear hS1
        go_wp2
        clear c0 c1
        go_loopw [5, 10] (fun u i wz => ∃ k : Nat, k ≤ c.prs.length ∧ i = .int .i64 k ∧ Ink wz w.heap.size u (S1 ++ (c.prs.take k).flatMap encPc) ∧ wz.heap[w.heap.size]? = some (.cells #[.slice pt c.tbs.length ct, .slice pp c.prs.length cp] 25 (0, 0)) ∧ Below w.heap.size w wz) (fun _ i _ => c.prs.length - (intOf i).toNat)
        case atStart => exact ⟨0, Nat.zero_le _, rfl, by simpa using HI18.out, HX18.out, HB18.out⟩
        case round =>
          rename World => L19
          obtain ⟨k, hk, rfl, hi, hx, hb⟩ := hrel
          have HI19 := Lib.hid hi
          have HX19 := Lib.hid hx
          have HB19 := Lib.hid hb
          have hwz : w.heap.size < L19.heap.size := (Array.getElem?_eq_some_iff.1 hx).1
          clear hi hx hb
          have hfo := flat_le encPc c.prs k
          obtain ⟨c0, c1⟩ := two_cells HX19.out
          by_cases hlt0 : k < c.prs.length
          · have hlti0 : (k : Int) < (c.prs.length : Int) := by omega
            have hfok := flat_len encPc c.prs k hlt0
            have HFO := Lib.hid (flat_take encPc c.prs k hlt0)
            have HN := Lib.hid (PcN.of (HG4.out _ (List.getElem_mem hlt0)))
            obtain ⟨b, off, u0, u1, u2, u3, u4, rfl, hRk, g0, g1, g2, g3, g4⟩ := HR2.out.at5 hlt0
            obtain ⟨pc, cc, pk, ck, hRk, rc, rk⟩ := hRk
            have HRC := Lib.hid rc
            have HRK := Lib.hid rk
            clear rc rk
            simp only [List.cons.injEq, and_true] at hRk
            obtain ⟨rfl, rfl, rfl, rfl, rfl⟩ := hRk
            obtain ⟨x, hx⟩ : ∃ x, c.prs[k] = x := ⟨_, rfl⟩
            simp only [hx] at g0 g1 g2 g3 g4 HRC HRK  hfok HFO HN
            obtain ⟨P, hP, hP2, hP3⟩ := nat_of HN.out.rows
            obtain ⟨Q, hQ, hQ2, hQ3⟩ := nat_of HN.out.bytes
            rw [hP] at g3
            rw [hQ] at g4
            have d0 := cell_later HB19.out g0
            have d1 := cell_later HB19.out g1
            have d2 := cell_later HB19.out g2
            have d3 := cell_later HB19.out g3
            have d4 := cell_later HB19.out g4
            obtain ⟨WX, hWX⟩ : ∃ WX, L19.alloc (.cells #[.string x.nm, .slice pc x.prms.length cc, .slice pk x.body.length ck, .int .i64 (P : Int), .int .i64 (Q : Int)] 52) = WX := ⟨_, rfl⟩
            have hbx : Below L19.heap.size L19 WX := by rw [← hWX]; exact (Below.refl _ _).alloc (Nat.le_refl _) _
            have HT20 : Hid (WX.heap[L19.heap.size]? = some (.cells #[.string x.nm, .slice pc x.prms.length cc, .slice pk x.body.length ck, .int .i64 (P : Int), .int .i64 (Q : Int)] 52 (0, 0))) := by show WX.heap[L19.heap.size]? = _; rw [← hWX]; exact heap_alloc_new L19 _
            have HX20 := Lib.hid (heap_of HX19.out hbx)
            have HB20 := Lib.hid (below_two HB19.out hbx)
            have HI20 := Lib.hid (HI19.out.later hbx)
            obtain ⟨t0, t1, t2, t3, t4⟩ := five_of HT20.out
            obtain ⟨y0, y1⟩ := two_cells HX20.out
            clear hbx g0 g1 g2 g3 g4
            have hel : (txt x.nm).length + (num x.prms.length).length + (x.prms.flatMap encPm).length + (num x.body.length).length + (x.body.flatMap txt).length + (num P).length + (num Q).length = (encPc x).length := by
              simp only [encPc, lst, List.length_append, hP3, hQ3]
              omega
            go_wp2_with fail
            refine (dText_any _ _ x.nm WX w.heap.size HB20.out.size HN.out.nm HI20.out (by simp only [List.length_append]; omega)).mono ?_
            rintro e w21 ⟨v21, rfl, i21, k21⟩
            have HI21 := Lib.hid i21
            have HX21 := Lib.hid (k21.heap HX20.out (by decide))
            have HT21 := Lib.hid (k21.heap HT20.out (by decide))
            have HB21 := Lib.hid (Inks.on HB20.out k21)
            clear i21 k21 c0 c1 t0 t1 t2 t3 t4 hWX y0 y1 d0 d1 d2 d3 d4
            obtain ⟨c0, c1⟩ := two_cells HX21.out
            obtain ⟨t0, t1, t2, t3, t4⟩ := five_of HT21.out
            go_wp2_with fail
            refine (dNum_any _ _ x.prms.length _ w.heap.size HB21.out.size HN.out.prms HI21.out (by simp only [List.length_append]; omega)).mono ?_
            rintro e w22 ⟨v22, rfl, i22, k22⟩
            have HI22 := Lib.hid i22
            have HX22 := Lib.hid (k22.heap HX21.out (by decide))
            have HT22 := Lib.hid (k22.heap HT21.out (by decide))
            have HB22 := Lib.hid (Inks.on HB21.out k22)
            clear i22 k22 c0 c1 t0 t1 t2 t3 t4
            obtain ⟨c0, c1⟩ := two_cells HX22.out
            obtain ⟨t0, t1, t2, t3, t4⟩ := five_of HT22.out
            obtain ⟨S2, hS2⟩ : ∃ S2, S1 ++ (c.prs.take k).flatMap encPc ++ txt x.nm ++ num x.prms.length = S2 := ⟨_, rfl⟩
            have hS2l : S2.length + (x.prms.flatMap encPm).length + (num x.body.length).length + (x.body.flatMap txt).length + (num P).length + (num Q).length ≤ 10000000 := by
              rw [← hS2]
              simp only [List.length_append]
              omega
            rw [hS2] at HI22
            have HS2 := Lib.hid hS2
            clear hS2
            have hbd23 := HN.out.prms
            go_wp2
            clear c0 c1 t0 t1 t2 t3 t4
            go_loopw [5, 12] (fun u i wz => ∃ j : Nat, j ≤ x.prms.length ∧ i = .int .i64 j ∧ Ink wz w.heap.size u (S2 ++ (x.prms.take j).flatMap encPm) ∧ wz.heap[w.heap.size]? = some (.cells #[.slice pt c.tbs.length ct, .slice (some ⟨b, off, none⟩) c.prs.length cp] 25 (0, 0)) ∧ wz.heap[L19.heap.size]? = some (.cells #[.string x.nm, .slice pc x.prms.length cc, .slice pk x.body.length ck, .int .i64 (P : Int), .int .i64 (Q : Int)] 52 (0, 0)) ∧ Below w.heap.size w wz) (fun _ i _ => x.prms.length - (intOf i).toNat)
            case atStart => exact ⟨0, Nat.zero_le _, rfl, by simpa using HI22.out, HX22.out, HT22.out, HB22.out⟩
            case round =>
              rename World => L23
              obtain ⟨j, hj, rfl, hi, hx, ht, hb⟩ := hrel
              have HI23 := Lib.hid hi
              have HX23 := Lib.hid hx
              have HT23 := Lib.hid ht
              have HB23 := Lib.hid hb
              clear hi hx ht hb
              have hfl := flat_le encPm x.prms j
              obtain ⟨c0, c1⟩ := two_cells HX23.out
              obtain ⟨t0, t1, t2, t3, t4⟩ := five_of HT23.out
              by_cases hlt : j < x.prms.length
              · have hlti : (j : Int) < (x.prms.length : Int) := by omega
                have hfk := flat_len encPm x.prms j hlt
                have HFK := Lib.hid (flat_take encPm x.prms j hlt)
                obtain ⟨b2, o2, y0, y1, rfl, hR2, f0, f1⟩ := HRC.out.at2 hlt
                simp only [PmR, List.cons.injEq, and_true] at hR2
                obtain ⟨rfl, rfl⟩ := hR2
                obtain ⟨z, hz⟩ : ∃ z, x.prms[j] = z := ⟨_, rfl⟩
                have HNC := Lib.hid (HN.out.prm _ (List.getElem_mem hlt))
                simp only [hz] at f0 f1 hfk HFK HNC
                obtain ⟨m, hm, hm2, hm3⟩ := nat_of HNC.out.2
                rw [hm] at f1
                have hel2 : (txt z.nm).length + (num m).length = (encPm z).length := by
                  simp only [encPm, List.length_append, hm3]
                have d0 := cell_later HB23.out f0
                have d1 := cell_later HB23.out f1
                go_wp2_with fail
                refine (dText_any _ _ z.nm _ w.heap.size HB23.out.size HNC.out.1 HI23.out (by simp only [List.length_append]; omega)).mono ?_
                rintro e w24 ⟨v24, rfl, i24, k24⟩
                have HI24 := Lib.hid i24
                have HX24 := Lib.hid (k24.heap HX23.out (by decide))
                have HT24 := Lib.hid (k24.heap HT23.out (by decide))
                have HB24 := Lib.hid (Inks.on HB23.out k24)
                clear i24 k24 c0 c1 t0 t1 t2 t3 t4 d0 d1
                obtain ⟨c0, c1⟩ := two_cells HX24.out
                obtain ⟨t0, t1, t2, t3, t4⟩ := five_of HT24.out
                have d0 := cell_later HB24.out f0
                have d1 := cell_later HB24.out f1
                go_wp2_with fail
                refine (dNum_any _ _ m _ w.heap.size HB24.out.size hm2 HI24.out (by simp only [List.length_append]; omega)).mono ?_
                rintro e w25 ⟨v25, rfl, i25, k25⟩
                have HI25 := Lib.hid i25
                have HX25 := Lib.hid (k25.heap HX24.out (by decide))
                have HT25 := Lib.hid (k25.heap HT24.out (by decide))
                have HB25 := Lib.hid (Inks.on HB24.out k25)
                clear i25 k25 c0 c1 t0 t1 t2 t3 t4 d0 d1
                obtain ⟨c0, c1⟩ := two_cells HX25.out
                obtain ⟨t0, t1, t2, t3, t4⟩ := five_of HT25.out
                have d0 := cell_later HB25.out f0
                have d1 := cell_later HB25.out f1
                have HE25 : Hid (Ink w25 w.heap.size v25 (S2 ++ (x.prms.take (j + 1)).flatMap encPm)) := by
                  have := HI25.out
                  show Ink _ _ _ _
                  rw [HFK.out]
                  rw [hm3] at this
                  simpa only [encPm, List.append_assoc] using this
                clear HI25
                go_wp2
                go_roundw
                case rel => exact ⟨j + 1, by omega, by go_num, HE25.out, HX25.out, HT25.out, HB25.out⟩
                case measure => simp [intOf]; omega
              · have hlti : ¬ (j : Int) < (x.prms.length : Int) := by omega
                have hi := HI23.out
                rw [List.take_of_length_le (by omega)] at hi
                clear HI23 hfl
                have HI23 := Lib.hid hi
                clear hi
                go_wp2_with fail
                refine (dNum_any _ _ x.body.length _ w.heap.size HB23.out.size HN.out.body HI23.out (by simp only [List.length_append]; omega)).mono ?_
                rintro e w26 ⟨v26, rfl, i26, k26⟩
                have HI26 := Lib.hid i26
                have HX26 := Lib.hid (k26.heap HX23.out (by decide))
                have HT26 := Lib.hid (k26.heap HT23.out (by decide))
                have HB26 := Lib.hid (Inks.on HB23.out k26)
                clear i26 k26 c0 c1 t0 t1 t2 t3 t4
                obtain ⟨c0, c1⟩ := two_cells HX26.out
                obtain ⟨t0, t1, t2, t3, t4⟩ := five_of HT26.out
                obtain ⟨S3, hS3⟩ : ∃ S3, S2 ++ x.prms.flatMap encPm ++ num x.body.length = S3 := ⟨_, rfl⟩
                have hS3l : S3.length + (x.body.flatMap txt).length + (num P).length + (num Q).length ≤ 10000000 := by
                  rw [← hS3]
                  simp only [List.length_append]
                  omega
                rw [hS3] at HI26
                have HS3 := Lib.hid hS3
                clear hS3
                have hbd27 := HN.out.body
                go_wp2
                clear c0 c1 t0 t1 t2 t3 t4
                go_loopw [5, 13] (fun u i wz => ∃ j : Nat, j ≤ x.body.length ∧ i = .int .i64 j ∧ Ink wz w.heap.size u (S3 ++ (x.body.take j).flatMap txt) ∧ wz.heap[w.heap.size]? = some (.cells #[.slice pt c.tbs.length ct, .slice (some ⟨b, off, none⟩) c.prs.length cp] 25 (0, 0)) ∧ wz.heap[L19.heap.size]? = some (.cells #[.string x.nm, .slice pc x.prms.length cc, .slice pk x.body.length ck, .int .i64 (P : Int), .int .i64 (Q : Int)] 52 (0, 0)) ∧ Below w.heap.size w wz) (fun _ i _ => x.body.length - (intOf i).toNat)
                case atStart => exact ⟨0, Nat.zero_le _, rfl, by simpa using HI26.out, HX26.out, HT26.out, HB26.out⟩
                case round =>
                  rename World => L27
                  obtain ⟨j, hj, rfl, hi, hx, ht, hb⟩ := hrel
                  have HI27 := Lib.hid hi
                  have HX27 := Lib.hid hx
                  have HT27 := Lib.hid ht
                  have HB27 := Lib.hid hb
                  clear hi hx ht hb
                  have hfl := flat_le txt x.body j
                  obtain ⟨c0, c1⟩ := two_cells HX27.out
                  obtain ⟨t0, t1, t2, t3, t4⟩ := five_of HT27.out
                  by_cases hlt : j < x.body.length
                  · have hlti : (j : Int) < (x.body.length : Int) := by omega
                    have hfk := flat_len txt x.body j hlt
                    have HFK := Lib.hid (flat_take txt x.body j hlt)
                    obtain ⟨b2, o2, y0, rfl, hR2, f0⟩ := HRK.out.at1 hlt
                    simp only [StrR, List.cons.injEq, and_true] at hR2
                    subst hR2
                    obtain ⟨z, hz⟩ : ∃ z, x.body[j] = z := ⟨_, rfl⟩
                    have HNC := Lib.hid (HN.out.src _ (List.getElem_mem hlt))
                    simp only [hz] at f0 hfk HFK HNC
                    have d0 := cell_later HB27.out f0
                    go_wp2_with fail
                    refine (dText_any _ _ z _ w.heap.size HB27.out.size HNC.out HI27.out (by simp only [List.length_append]; omega)).mono ?_
                    rintro e w28 ⟨v28, rfl, i28, k28⟩
                    have HI28 := Lib.hid i28
                    have HX28 := Lib.hid (k28.heap HX27.out (by decide))
                    have HT28 := Lib.hid (k28.heap HT27.out (by decide))
                    have HB28 := Lib.hid (Inks.on HB27.out k28)
                    clear i28 k28 c0 c1 t0 t1 t2 t3 t4 d0
                    obtain ⟨c0, c1⟩ := two_cells HX28.out
                    obtain ⟨t0, t1, t2, t3, t4⟩ := five_of HT28.out
                    have d0 := cell_later HB28.out f0
                    have HE28 : Hid (Ink w28 w.heap.size v28 (S3 ++ (x.body.take (j + 1)).flatMap txt)) := by
                      have := HI28.out
                      show Ink _ _ _ _
                      rw [HFK.out]
                      simpa only [List.append_assoc] using this
                    clear HI28
                    go_wp2
                    go_roundw
                    case rel => exact ⟨j + 1, by omega, by go_num, HE28.out, HX28.out, HT28.out, HB28.out⟩
                    case measure => simp [intOf]; omega
                  · have hlti : ¬ (j : Int) < (x.body.length : Int) := by omega
                    have hi := HI27.out
                    rw [List.take_of_length_le (by omega)] at hi
                    clear HI27 hfl
                    have HI27 := Lib.hid hi
                    clear hi
                    go_wp2_with fail
                    refine (dNum_any _ _ P _ w.heap.size HB27.out.size hP2 HI27.out (by simp only [List.length_append]; omega)).mono ?_
                    rintro e w29 ⟨v29, rfl, i29, k29⟩
                    have HI29 := Lib.hid i29
                    have HX29 := Lib.hid (k29.heap HX27.out (by decide))
                    have HT29 := Lib.hid (k29.heap HT27.out (by decide))
                    have HB29 := Lib.hid (Inks.on HB27.out k29)
                    clear i29 k29 c0 c1 t0 t1 t2 t3 t4
                    obtain ⟨c0, c1⟩ := two_cells HX29.out
                    obtain ⟨t0, t1, t2, t3, t4⟩ := five_of HT29.out
                    go_wp2_with fail
                    refine (dNum_any _ _ Q _ w.heap.size HB29.out.size hQ2 HI29.out (by simp only [List.length_append]; omega)).mono ?_
                    rintro e w30 ⟨v30, rfl, i30, k30⟩
                    have HI30 := Lib.hid i30
                    have HX30 := Lib.hid (k30.heap HX29.out (by decide))
                    have HT30 := Lib.hid (k30.heap HT29.out (by decide))
                    have HB30 := Lib.hid (Inks.on HB29.out k30)
                    clear i30 k30 c0 c1 t0 t1 t2 t3 t4
                    obtain ⟨c0, c1⟩ := two_cells HX30.out
                    obtain ⟨t0, t1, t2, t3, t4⟩ := five_of HT30.out
                    have HE30 : Hid (Ink w30 w.heap.size v30 (S1 ++ (c.prs.take (k + 1)).flatMap encPc)) := by
                      have := HI30.out
                      show Ink _ _ _ _
                      rw [← HS3.out, ← HS2.out] at this
                      rw [HFO.out]
                      rw [hP3, hQ3] at this
                      simpa only [encPc, lst, List.append_assoc] using this
                    clear HI30 c0 c1 t0 t1 t2 t3 t4
                    obtain ⟨c0, c1⟩ := two_cells HX30.out
                    go_wp2
                    go_roundw
                    case rel => exact ⟨k + 1, by omega, by go_num, HE30.out, HX30.out, HB30.out⟩
                    case measure => simp [intOf]; omega
          · have hlti0 : ¬ (k : Int) < (c.prs.length : Int) := by omega
            have hi := HI19.out
            rw [List.take_of_length_le (by omega), ← HS1.out, show num c.tbs.length ++ c.tbs.flatMap encTb ++ num c.prs.length ++ c.prs.flatMap encPc = encC c by simp [encC, lst, List.append_assoc]] at hi
            obtain ⟨ar, cr, rfl, hcv⟩ := ink_str hi
            clear hi
            go_wp2
            exact bodyPost_ret (v := .tuple #[.string ⟨(encC c).toArray⟩, .int .i64 0]) (by simp [results, Tryz.results15, go_sem]) rfl ⟨rfl, HB19.out⟩
end Go.Proofs.YtkgkkcefnonejaaGreat
/- Walks of layer 8: CatalogWrites. -/
namespace Go.Proofs.YtkgkkcefnonejaaGreat
open Go.RowKit

set_option maxHeartbeats 32000000 in
set_option maxRecDepth 100000 in
theorem catalogWrites_law (c : Ct) (us : List Value) (w : World) (hR : CtR w c us) (hZ1 : CtZ 140737488355328 c) :
    Calls Tryz.prog 3 #[.agg us.toArray] w fun e w' => e = .returned (.bool true) ∧ Below w.heap.size w w' := by
  have HC : Hid (∀ W, Below w.heap.size w W → CtR W c us) := fun W h => CtR.later h c us hR
  obtain ⟨pa, ca, pb, cb, rfl, -, -⟩ := hR
  have HY1 := Lib.hid hZ1
  clear hZ1
  obtain ⟨Z, hZ⟩ : ∃ Z, w.alloc (.cells #[.slice pa c.tbs.length ca, .slice pb c.prs.length cb] 25) = Z := ⟨_, rfl⟩
  have hZs : Z.heap.size = w.heap.size + 1 := by rw [← hZ]; simp
  have HBX : Hid (∀ W, Below Z.heap.size Z W → W.heap[w.heap.size]? = some (.cells #[.slice pa c.tbs.length ca, .slice pb c.prs.length cb] 25 (0, 0)) ∧ Below w.heap.size w W) := by
    intro W h
    rw [hZs] at h
    rw [← hZ] at h
    exact ⟨(h.block _ (by omega)).trans (heap_alloc_new w _), ((Below.refl _ _).alloc (Nat.le_refl _) _).trans (h.mono (by omega))⟩
  obtain ⟨e0, e1⟩ := HBX.out Z (Below.refl _ _)
  have W0 := Lib.hid e1
  have B0 : Hid (Below Z.heap.size Z Z) := Below.refl _ _
  obtain ⟨s0, s1⟩ := two_cells e0
  clear e0 e1
  go_enter Tryz.func3, Tryz.ntmps3
  go_wp2_with fail
  refine (weighs_any c _ Z (HC.out _ W0.out) HY1.out).mono ?_
  rintro e w1 ⟨N, rfl, hN, hb⟩
  have HN := Lib.hid hN
  clear hN hZ
  have B1 := Lib.hid (B0.out.trans (hb.mono B0.out.size))
  clear hb s0 s1
  obtain ⟨e0, e1⟩ := HBX.out w1 B1.out
  have W1 := Lib.hid e1
  obtain ⟨s0, s1⟩ := two_cells e0
  clear e0 e1
  by_cases hNb : N ≤ 2147483647
  · have hNi : ¬ (2147483647 : Int) < (N : Int) := by omega
    have HS1 := Lib.hid (HN.out hNb)
    go_wp2_with fail
    refine (awake8_any rtext_any _).mono ?_
    rintro e w2 ⟨rfl, hb⟩
    have B2 := Lib.hid (B1.out.trans (hb.mono B1.out.size))
    clear hb s0 s1
    obtain ⟨e0, e1⟩ := HBX.out w2 B2.out
    have W2 := Lib.hid e1
    obtain ⟨s0, s1⟩ := two_cells e0
    clear e0 e1
    go_wp2_with fail
    refine (of_any c _ _ (HC.out _ W2.out) HS1.out).mono ?_
    rintro e w3 ⟨rs, rfl, hO, hb⟩
    have B3 := Lib.hid (B2.out.trans (hb.mono B2.out.size))
    have HOW := Lib.hid hO
    obtain ⟨vt, vp, rfl, q1, q2⟩ := hO
    obtain ⟨p3, m3, rfl, -⟩ := q1.form
    obtain ⟨p4, m4, rfl, -⟩ := q2.form
    have HRO : Hid (∀ W, Below w3.heap.size w3 W → CtR W c [.slice p3 c.tbs.length m3, .slice p4 c.prs.length m4]) := fun W h => CtR.later h _ _ (CtO.reads _ _ HOW.out)
    obtain ⟨e0, e1⟩ := HBX.out w3 B3.out
    clear hb s0 s1 q1 q2
    obtain ⟨s0, s1⟩ := two_cells e0
    have z3 := B3.out.size
    have y0 : w.heap.size < w3.heap.size := by omega
    clear e0 e1
    go_wp2_with fail
    generalize hW4 : w3.alloc (.cells #[.slice p3 c.tbs.length m3, .slice p4 c.prs.length m4] 25) = w4
    have hb4 : Below w3.heap.size w3 w4 := by rw [← hW4]; exact (Below.refl _ _).alloc (Nat.le_refl _) _
    have HO4 : Hid (w4.heap[w3.heap.size]? = some (.cells #[.slice p3 c.tbs.length m3, .slice p4 c.prs.length m4] 25 (0, 0))) := by
      show w4.heap[w3.heap.size]? = _
      rw [← hW4]
      exact heap_alloc_new w3 _
    have HQ4 := Lib.hid hb4
    have B4 := Lib.hid (B3.out.trans (hb4.mono B3.out.size))
    obtain ⟨e0, e1⟩ := HBX.out w4 B4.out
    have W4 := Lib.hid e1
    clear s0 s1 hW4 hb4
    obtain ⟨s0, s1⟩ := two_cells e0
    obtain ⟨x0, x1⟩ := two_cells HO4.out
    clear e0 e1
    refine (right_any c [.slice p3 c.tbs.length m3, .slice p4 c.prs.length m4] _ (HRO.out _ HQ4.out) (HS1.out.fits (by omega))).mono ?_
    rintro e w5 ⟨rfl, hb⟩
    have B5 := Lib.hid (B4.out.trans (hb.mono B4.out.size))
    have HQ5 := Lib.hid (below_two HQ4.out hb)
    have HO5 := Lib.hid (heap_of HO4.out hb)
    clear hb s0 s1 x0 x1
    obtain ⟨e0, e1⟩ := HBX.out w5 B5.out
    have W5 := Lib.hid e1
    obtain ⟨s0, s1⟩ := two_cells e0
    obtain ⟨x0, x1⟩ := two_cells HO5.out
    clear e0 e1
    go_wp2_with fail
    refine (dRight_any c _ _ (HC.out _ W5.out)).mono ?_
    rintro e w6 ⟨rfl, hb⟩
    have B6 := Lib.hid (B5.out.trans (hb.mono B5.out.size))
    have HQ6 := Lib.hid (below_two HQ5.out hb)
    have HO6 := Lib.hid (heap_of HO5.out hb)
    clear hb s0 s1 x0 x1
    obtain ⟨e0, e1⟩ := HBX.out w6 B6.out
    have W6 := Lib.hid e1
    obtain ⟨s0, s1⟩ := two_cells e0
    obtain ⟨x0, x1⟩ := two_cells HO6.out
    clear e0 e1
    go_wp2_with fail
    refine (encode_any c [.slice p3 c.tbs.length m3, .slice p4 c.prs.length m4] _ (HRO.out _ HQ6.out) (HS1.out.fits (by omega))).mono ?_
    rintro e w7 ⟨rfl, hb⟩
    have B7 := Lib.hid (B6.out.trans (hb.mono B6.out.size))
    have HQ7 := Lib.hid (below_two HQ6.out hb)
    have HO7 := Lib.hid (heap_of HO6.out hb)
    clear hb s0 s1 x0 x1
    obtain ⟨e0, e1⟩ := HBX.out w7 B7.out
    have W7 := Lib.hid e1
    obtain ⟨s0, s1⟩ := two_cells e0
    obtain ⟨x0, x1⟩ := two_cells HO7.out
    clear e0 e1
    go_wp2_with fail
    refine (dEncode_any c _ _ (HC.out _ W7.out)).mono ?_
    rintro e w8 ⟨rfl, hb⟩
    have B8 := Lib.hid (B7.out.trans (hb.mono B7.out.size))
    have HQ8 := Lib.hid (below_two HQ7.out hb)
    have HO8 := Lib.hid (heap_of HO7.out hb)
    clear hb s0 s1 x0 x1
    obtain ⟨e0, e1⟩ := HBX.out w8 B8.out
    have W8 := Lib.hid e1
    obtain ⟨s0, s1⟩ := two_cells e0
    obtain ⟨x0, x1⟩ := two_cells HO8.out
    clear e0 e1
    go_wp2_with fail
    refine (same_any c c [.slice p3 c.tbs.length m3, .slice p4 c.prs.length m4] _ _ (HRO.out _ HQ8.out) (HC.out _ W8.out) (HS1.out.mono (by omega))).mono ?_
    rintro e w9 ⟨b, rfl, hiff, hb⟩
    obtain rfl : b = true := hiff.2 rfl
    have W9 := Lib.hid (below_two W8.out hb)
    clear hb hiff
    go_wp2
    go_ret
    exact ⟨ret_bool (by simp), W9.out⟩
  · have hNi : (2147483647 : Int) < (N : Int) := by omega
    go_wp2
    go_ret
    exact ⟨rfl, W1.out⟩
end Go.Proofs.YtkgkkcefnonejaaGreat
