/- Walks of layer 8: how many there are, and each, as bytes. -/
import Derived.Test.YtkgkkcefnonejaaGreatT20
namespace Go.Proofs.YtkgkkcefnonejaaGreat
open Go.RowKit

set_option maxHeartbeats 8000000 in
set_option maxRecDepth 100000 in
theorem aeTb_any (w0 w : World) (v : Value) (xs : List UInt8) (a : Option Addr) (cap : Nat) (l : List Tb) (f : Tb → List UInt8) (hb0 : Below w0.heap.size w0 w) (hr : RowR 5 (TbR w0) w0 a l) (hl : l.length ≤ 1000) (h : Ink w w0.heap.size v xs) (hn : (xs ++ lst f l).length ≤ 1099511627776)
    (hC : ∀ k (h : k < l.length) vs u ys w1, TbR w0 l[k] vs → Below w0.heap.size w0 w1 → Ink w1 w0.heap.size u ys → (ys ++ f l[k]).length ≤ 1099511627776 → Calls Tryz.prog 46 #[u, .agg vs.toArray] w1 fun e w2 => ∃ u', e = .returned u' ∧ Ink w2 w0.heap.size u' (ys ++ f l[k]) ∧ Inks w0.heap.size w1 w2) :
    Calls Tryz.prog 45 #[v, .slice a l.length cap, .func (.func 46) #[] #[]] w fun e w' => ∃ v', e = .returned v' ∧ Ink w' w0.heap.size v' (xs ++ lst f l) ∧ Inks w0.heap.size w w' := by
  have HR := Lib.hid hr
  have HC := Lib.hid hC
  have HB0 := Lib.hid hb0
  have hs0 := hb0.size
  have HL : Hid ((xs ++ num l.length).length + (l.flatMap f).length ≤ 1099511627776) := by
    show _ ≤ _
    rw [lst, ← List.append_assoc, List.length_append] at hn
    exact hn
  have HN := Lib.hid (num_any v xs l.length w w0.heap.size hs0 (by omega) h (by have := HL.out; omega))
  obtain ⟨M, hM⟩ : ∃ M, xs ++ num l.length = M := ⟨_, rfl⟩
  have HM : Hid (xs ++ lst f l = M ++ l.flatMap f) := by
    show _ = _
    rw [lst, ← List.append_assoc, hM]
  rw [hM] at HL HN
  clear hr hC hb0 h hn hM
  go_enter Tryz.func45, Tryz.ntmps45
  go_wp2_with fail
  refine HN.out.mono ?_
  rintro e w1 ⟨v1, rfl, i1, k1⟩
  have HI1 := Lib.hid i1
  have HK1 := Lib.hid k1
  clear i1 k1 HN
  go_wp2
  go_loopw [0, 15] (fun u i wr => ∃ k : Nat, k ≤ l.length ∧ i = .int .i64 k ∧ Ink wr w0.heap.size u (M ++ (l.take k).flatMap f) ∧ Inks w0.heap.size w wr) (fun _ i _ => l.length - (intOf i).toNat)
  case atStart => exact ⟨0, Nat.zero_le _, rfl, by simpa using HI1.out, HK1.out⟩
  case round =>
    clear HI1 HK1
    obtain ⟨k, hk, rfl, hi, hks⟩ := hrel
    have HI := Lib.hid hi
    have HK := Lib.hid hks
    have HB := Lib.hid (Inks.on HB0.out hks)
    have hsz := HB.out.size
    clear hi hks
    by_cases hlt : k < l.length
    · have hlti : (k : Int) < (l.length : Int) := by omega
      have HT : Hid (M ++ (l.take (k + 1)).flatMap f = (M ++ (l.take k).flatMap f) ++ f l[k]) := by
        show _ = _
        rw [flat_take f l k hlt, List.append_assoc]
      have HT2 : Hid (((M ++ (l.take k).flatMap f) ++ f l[k]).length ≤ 1099511627776) := by
        show _ ≤ _
        have h1 := flat_le f l (k + 1)
        have h2 := HL.out
        rw [← HT.out, List.length_append]
        omega
      obtain ⟨b, off, v0, v1, v2, v3, v4, rfl, hR, c0, c1, c2, c3, c4⟩ := HR.out.at5 hlt
      have HRk := Lib.hid hR
      obtain ⟨pc, cc, pk, ck, px, cx, hR, _, _, _⟩ := hR
      simp only [List.cons.injEq, and_true] at hR
      obtain ⟨rfl, rfl, rfl, rfl, rfl⟩ := hR
      have d0 := (HB.out.cell (cell_lt c0)).trans c0
      have d1 := (HB.out.cell (cell_lt c1)).trans c1
      have d2 := (HB.out.cell (cell_lt c2)).trans c2
      have d3 := (HB.out.cell (cell_lt c3)).trans c3
      have d4 := (HB.out.cell (cell_lt c4)).trans c4
      clear c0 c1 c2 c3 c4
      go_wp2_with fail
      refine (HC.out k hlt _ _ _ _ HRk.out (HB.out.trans (Below.mono (by (repeat (first | exact Below.refl _ _ | assumption | refine Below.drew ?_ | refine below_drewN ?_ _ | refine Below.alloc ?_ (by first | omega | (simp; done) | (simp; omega)) _ | refine Below.setCell ?_ (by first | omega | (simp; done) | (simp; omega)) _ | refine Below.trans ?_ (Below.mono (by assumption) (by first | omega | (simp; done) | (simp; omega)))))) hsz)) (HI.out.later (by (repeat (first | exact Below.refl _ _ | assumption | refine Below.drew ?_ | refine below_drewN ?_ _ | refine Below.alloc ?_ (by first | omega | (simp; done) | (simp; omega)) _ | refine Below.setCell ?_ (by first | omega | (simp; done) | (simp; omega)) _ | refine Below.trans ?_ (Below.mono (by assumption) (by first | omega | (simp; done) | (simp; omega))))))) HT2.out).mono ?_
      rintro e w2 ⟨u', rfl, i2, k2⟩
      have HI2 : Hid (Ink w2 w0.heap.size u' (M ++ (l.take (k + 1)).flatMap f)) := by
        show Ink _ _ _ _
        rw [HT.out]
        exact i2
      have HK2 := Lib.hid (HK.out.trans ((Inks.of ((Below.refl _ _).alloc (Nat.le_refl _) _)).trans k2))
      clear i2 k2 HI HK d0 d1 d2 d3 d4
      go_wp2
      go_roundw
      case rel => exact ⟨k + 1, by omega, by go_num, HI2.out, HK2.out⟩
      case measure => simp [intOf]; omega
    · have hk' : k = l.length := by omega
      subst hk'
      have HI2 := HI.out
      rw [List.take_length, ← HM.out] at HI2
      have HI3 := Lib.hid HI2
      clear HI2 HI
      go_wp2
      go_ret
      exact ⟨_, rfl, HI3.out, HK.out⟩

set_option maxHeartbeats 8000000 in
set_option maxRecDepth 100000 in
theorem aePc_any (w0 w : World) (v : Value) (xs : List UInt8) (a : Option Addr) (cap : Nat) (l : List Pc) (f : Pc → List UInt8) (hb0 : Below w0.heap.size w0 w) (hr : RowR 5 (PcR w0) w0 a l) (hl : l.length ≤ 1000) (h : Ink w w0.heap.size v xs) (hn : (xs ++ lst f l).length ≤ 1099511627776)
    (hC : ∀ k (h : k < l.length) vs u ys w1, PcR w0 l[k] vs → Below w0.heap.size w0 w1 → Ink w1 w0.heap.size u ys → (ys ++ f l[k]).length ≤ 1099511627776 → Calls Tryz.prog 48 #[u, .agg vs.toArray] w1 fun e w2 => ∃ u', e = .returned u' ∧ Ink w2 w0.heap.size u' (ys ++ f l[k]) ∧ Inks w0.heap.size w1 w2) :
    Calls Tryz.prog 47 #[v, .slice a l.length cap, .func (.func 48) #[] #[]] w fun e w' => ∃ v', e = .returned v' ∧ Ink w' w0.heap.size v' (xs ++ lst f l) ∧ Inks w0.heap.size w w' := by
  have HR := Lib.hid hr
  have HC := Lib.hid hC
  have HB0 := Lib.hid hb0
  have hs0 := hb0.size
  have HL : Hid ((xs ++ num l.length).length + (l.flatMap f).length ≤ 1099511627776) := by
    show _ ≤ _
    rw [lst, ← List.append_assoc, List.length_append] at hn
    exact hn
  have HN := Lib.hid (num_any v xs l.length w w0.heap.size hs0 (by omega) h (by have := HL.out; omega))
  obtain ⟨M, hM⟩ : ∃ M, xs ++ num l.length = M := ⟨_, rfl⟩
  have HM : Hid (xs ++ lst f l = M ++ l.flatMap f) := by
    show _ = _
    rw [lst, ← List.append_assoc, hM]
  rw [hM] at HL HN
  clear hr hC hb0 h hn hM
  go_enter Tryz.func47, Tryz.ntmps47
  go_wp2_with fail
  refine HN.out.mono ?_
  rintro e w1 ⟨v1, rfl, i1, k1⟩
  have HI1 := Lib.hid i1
  have HK1 := Lib.hid k1
  clear i1 k1 HN
  go_wp2
  go_loopw [0, 15] (fun u i wr => ∃ k : Nat, k ≤ l.length ∧ i = .int .i64 k ∧ Ink wr w0.heap.size u (M ++ (l.take k).flatMap f) ∧ Inks w0.heap.size w wr) (fun _ i _ => l.length - (intOf i).toNat)
  case atStart => exact ⟨0, Nat.zero_le _, rfl, by simpa using HI1.out, HK1.out⟩
  case round =>
    clear HI1 HK1
    obtain ⟨k, hk, rfl, hi, hks⟩ := hrel
    have HI := Lib.hid hi
    have HK := Lib.hid hks
    have HB := Lib.hid (Inks.on HB0.out hks)
    have hsz := HB.out.size
    clear hi hks
    by_cases hlt : k < l.length
    · have hlti : (k : Int) < (l.length : Int) := by omega
      have HT : Hid (M ++ (l.take (k + 1)).flatMap f = (M ++ (l.take k).flatMap f) ++ f l[k]) := by
        show _ = _
        rw [flat_take f l k hlt, List.append_assoc]
      have HT2 : Hid (((M ++ (l.take k).flatMap f) ++ f l[k]).length ≤ 1099511627776) := by
        show _ ≤ _
        have h1 := flat_le f l (k + 1)
        have h2 := HL.out
        rw [← HT.out, List.length_append]
        omega
      obtain ⟨b, off, v0, v1, v2, v3, v4, rfl, hR, c0, c1, c2, c3, c4⟩ := HR.out.at5 hlt
      have HRk := Lib.hid hR
      obtain ⟨pp, cp, pb, cb, hR, _, _⟩ := hR
      simp only [List.cons.injEq, and_true] at hR
      obtain ⟨rfl, rfl, rfl, rfl, rfl⟩ := hR
      have d0 := (HB.out.cell (cell_lt c0)).trans c0
      have d1 := (HB.out.cell (cell_lt c1)).trans c1
      have d2 := (HB.out.cell (cell_lt c2)).trans c2
      have d3 := (HB.out.cell (cell_lt c3)).trans c3
      have d4 := (HB.out.cell (cell_lt c4)).trans c4
      clear c0 c1 c2 c3 c4
      go_wp2_with fail
      refine (HC.out k hlt _ _ _ _ HRk.out (HB.out.trans (Below.mono (by (repeat (first | exact Below.refl _ _ | assumption | refine Below.drew ?_ | refine below_drewN ?_ _ | refine Below.alloc ?_ (by first | omega | (simp; done) | (simp; omega)) _ | refine Below.setCell ?_ (by first | omega | (simp; done) | (simp; omega)) _ | refine Below.trans ?_ (Below.mono (by assumption) (by first | omega | (simp; done) | (simp; omega)))))) hsz)) (HI.out.later (by (repeat (first | exact Below.refl _ _ | assumption | refine Below.drew ?_ | refine below_drewN ?_ _ | refine Below.alloc ?_ (by first | omega | (simp; done) | (simp; omega)) _ | refine Below.setCell ?_ (by first | omega | (simp; done) | (simp; omega)) _ | refine Below.trans ?_ (Below.mono (by assumption) (by first | omega | (simp; done) | (simp; omega))))))) HT2.out).mono ?_
      rintro e w2 ⟨u', rfl, i2, k2⟩
      have HI2 : Hid (Ink w2 w0.heap.size u' (M ++ (l.take (k + 1)).flatMap f)) := by
        show Ink _ _ _ _
        rw [HT.out]
        exact i2
      have HK2 := Lib.hid (HK.out.trans ((Inks.of ((Below.refl _ _).alloc (Nat.le_refl _) _)).trans k2))
      clear i2 k2 HI HK d0 d1 d2 d3 d4
      go_wp2
      go_roundw
      case rel => exact ⟨k + 1, by omega, by go_num, HI2.out, HK2.out⟩
      case measure => simp [intOf]; omega
    · have hk' : k = l.length := by omega
      subst hk'
      have HI2 := HI.out
      rw [List.take_length, ← HM.out] at HI2
      have HI3 := Lib.hid HI2
      clear HI2 HI
      go_wp2
      go_ret
      exact ⟨_, rfl, HI3.out, HK.out⟩

set_option maxHeartbeats 8000000 in
set_option maxRecDepth 100000 in
theorem aeCol_any (w0 w : World) (v : Value) (xs : List UInt8) (a : Option Addr) (cap : Nat) (l : List Col) (f : Col → List UInt8) (hb0 : Below w0.heap.size w0 w) (hr : RowR 3 ColR w0 a l) (hl : l.length ≤ 1000) (h : Ink w w0.heap.size v xs) (hn : (xs ++ lst f l).length ≤ 1099511627776)
    (hC : ∀ k (h : k < l.length) vs u ys w1, ColR l[k] vs → Below w0.heap.size w0 w1 → Ink w1 w0.heap.size u ys → (ys ++ f l[k]).length ≤ 1099511627776 → Calls Tryz.prog 86 #[u, .agg vs.toArray] w1 fun e w2 => ∃ u', e = .returned u' ∧ Ink w2 w0.heap.size u' (ys ++ f l[k]) ∧ Inks w0.heap.size w1 w2) :
    Calls Tryz.prog 85 #[v, .slice a l.length cap, .func (.func 86) #[] #[]] w fun e w' => ∃ v', e = .returned v' ∧ Ink w' w0.heap.size v' (xs ++ lst f l) ∧ Inks w0.heap.size w w' := by
  have HR := Lib.hid hr
  have HC := Lib.hid hC
  have HB0 := Lib.hid hb0
  have hs0 := hb0.size
  have HL : Hid ((xs ++ num l.length).length + (l.flatMap f).length ≤ 1099511627776) := by
    show _ ≤ _
    rw [lst, ← List.append_assoc, List.length_append] at hn
    exact hn
  have HN := Lib.hid (num_any v xs l.length w w0.heap.size hs0 (by omega) h (by have := HL.out; omega))
  obtain ⟨M, hM⟩ : ∃ M, xs ++ num l.length = M := ⟨_, rfl⟩
  have HM : Hid (xs ++ lst f l = M ++ l.flatMap f) := by
    show _ = _
    rw [lst, ← List.append_assoc, hM]
  rw [hM] at HL HN
  clear hr hC hb0 h hn hM
  go_enter Tryz.func85, Tryz.ntmps85
  go_wp2_with fail
  refine HN.out.mono ?_
  rintro e w1 ⟨v1, rfl, i1, k1⟩
  have HI1 := Lib.hid i1
  have HK1 := Lib.hid k1
  clear i1 k1 HN
  go_wp2
  go_loopw [0, 15] (fun u i wr => ∃ k : Nat, k ≤ l.length ∧ i = .int .i64 k ∧ Ink wr w0.heap.size u (M ++ (l.take k).flatMap f) ∧ Inks w0.heap.size w wr) (fun _ i _ => l.length - (intOf i).toNat)
  case atStart => exact ⟨0, Nat.zero_le _, rfl, by simpa using HI1.out, HK1.out⟩
  case round =>
    clear HI1 HK1
    obtain ⟨k, hk, rfl, hi, hks⟩ := hrel
    have HI := Lib.hid hi
    have HK := Lib.hid hks
    have HB := Lib.hid (Inks.on HB0.out hks)
    have hsz := HB.out.size
    clear hi hks
    by_cases hlt : k < l.length
    · have hlti : (k : Int) < (l.length : Int) := by omega
      have HT : Hid (M ++ (l.take (k + 1)).flatMap f = (M ++ (l.take k).flatMap f) ++ f l[k]) := by
        show _ = _
        rw [flat_take f l k hlt, List.append_assoc]
      have HT2 : Hid (((M ++ (l.take k).flatMap f) ++ f l[k]).length ≤ 1099511627776) := by
        show _ ≤ _
        have h1 := flat_le f l (k + 1)
        have h2 := HL.out
        rw [← HT.out, List.length_append]
        omega
      obtain ⟨b, off, v0, v1, v2, rfl, hR, c0, c1, c2⟩ := HR.out.at3 hlt
      have HRk := Lib.hid hR
      simp only [ColR] at hR
      simp only [List.cons.injEq, and_true] at hR
      obtain ⟨rfl, rfl, rfl⟩ := hR
      have d0 := (HB.out.cell (cell_lt c0)).trans c0
      have d1 := (HB.out.cell (cell_lt c1)).trans c1
      have d2 := (HB.out.cell (cell_lt c2)).trans c2
      clear c0 c1 c2
      go_wp2_with fail
      refine (HC.out k hlt _ _ _ _ HRk.out (HB.out.trans (Below.mono (by (repeat (first | exact Below.refl _ _ | assumption | refine Below.drew ?_ | refine below_drewN ?_ _ | refine Below.alloc ?_ (by first | omega | (simp; done) | (simp; omega)) _ | refine Below.setCell ?_ (by first | omega | (simp; done) | (simp; omega)) _ | refine Below.trans ?_ (Below.mono (by assumption) (by first | omega | (simp; done) | (simp; omega)))))) hsz)) (HI.out.later (by (repeat (first | exact Below.refl _ _ | assumption | refine Below.drew ?_ | refine below_drewN ?_ _ | refine Below.alloc ?_ (by first | omega | (simp; done) | (simp; omega)) _ | refine Below.setCell ?_ (by first | omega | (simp; done) | (simp; omega)) _ | refine Below.trans ?_ (Below.mono (by assumption) (by first | omega | (simp; done) | (simp; omega))))))) HT2.out).mono ?_
      rintro e w2 ⟨u', rfl, i2, k2⟩
      have HI2 : Hid (Ink w2 w0.heap.size u' (M ++ (l.take (k + 1)).flatMap f)) := by
        show Ink _ _ _ _
        rw [HT.out]
        exact i2
      have HK2 := Lib.hid (HK.out.trans ((Inks.of ((Below.refl _ _).alloc (Nat.le_refl _) _)).trans k2))
      clear i2 k2 HI HK d0 d1 d2
      go_wp2
      go_roundw
      case rel => exact ⟨k + 1, by omega, by go_num, HI2.out, HK2.out⟩
      case measure => simp [intOf]; omega
    · have hk' : k = l.length := by omega
      subst hk'
      have HI2 := HI.out
      rw [List.take_length, ← HM.out] at HI2
      have HI3 := Lib.hid HI2
      clear HI2 HI
      go_wp2
      go_ret
      exact ⟨_, rfl, HI3.out, HK.out⟩

set_option maxHeartbeats 8000000 in
set_option maxRecDepth 100000 in
theorem aeInt_any (w0 w : World) (v : Value) (xs : List UInt8) (a : Option Addr) (cap : Nat) (l : List Int) (f : Int → List UInt8) (hb0 : Below w0.heap.size w0 w) (hr : RowR 1 IntR w0 a l) (hl : l.length ≤ 1000) (h : Ink w w0.heap.size v xs) (hn : (xs ++ lst f l).length ≤ 1099511627776)
    (hC : ∀ k (h : k < l.length) u ys w1, Below w0.heap.size w0 w1 → Ink w1 w0.heap.size u ys → (ys ++ f l[k]).length ≤ 1099511627776 → Calls Tryz.prog 83 #[u, .int .i64 l[k]] w1 fun e w2 => ∃ u', e = .returned u' ∧ Ink w2 w0.heap.size u' (ys ++ f l[k]) ∧ Inks w0.heap.size w1 w2) :
    Calls Tryz.prog 87 #[v, .slice a l.length cap, .func (.func 83) #[] #[]] w fun e w' => ∃ v', e = .returned v' ∧ Ink w' w0.heap.size v' (xs ++ lst f l) ∧ Inks w0.heap.size w w' := by
  have HR := Lib.hid hr
  have HC := Lib.hid hC
  have HB0 := Lib.hid hb0
  have hs0 := hb0.size
  have HL : Hid ((xs ++ num l.length).length + (l.flatMap f).length ≤ 1099511627776) := by
    show _ ≤ _
    rw [lst, ← List.append_assoc, List.length_append] at hn
    exact hn
  have HN := Lib.hid (num_any v xs l.length w w0.heap.size hs0 (by omega) h (by have := HL.out; omega))
  obtain ⟨M, hM⟩ : ∃ M, xs ++ num l.length = M := ⟨_, rfl⟩
  have HM : Hid (xs ++ lst f l = M ++ l.flatMap f) := by
    show _ = _
    rw [lst, ← List.append_assoc, hM]
  rw [hM] at HL HN
  clear hr hC hb0 h hn hM
  go_enter Tryz.func87, Tryz.ntmps87
  go_wp2_with fail
  refine HN.out.mono ?_
  rintro e w1 ⟨v1, rfl, i1, k1⟩
  have HI1 := Lib.hid i1
  have HK1 := Lib.hid k1
  clear i1 k1 HN
  go_wp2
  go_loopw [0, 15] (fun u i wr => ∃ k : Nat, k ≤ l.length ∧ i = .int .i64 k ∧ Ink wr w0.heap.size u (M ++ (l.take k).flatMap f) ∧ Inks w0.heap.size w wr) (fun _ i _ => l.length - (intOf i).toNat)
  case atStart => exact ⟨0, Nat.zero_le _, rfl, by simpa using HI1.out, HK1.out⟩
  case round =>
    clear HI1 HK1
    obtain ⟨k, hk, rfl, hi, hks⟩ := hrel
    have HI := Lib.hid hi
    have HK := Lib.hid hks
    have HB := Lib.hid (Inks.on HB0.out hks)
    have hsz := HB.out.size
    clear hi hks
    by_cases hlt : k < l.length
    · have hlti : (k : Int) < (l.length : Int) := by omega
      have HT : Hid (M ++ (l.take (k + 1)).flatMap f = (M ++ (l.take k).flatMap f) ++ f l[k]) := by
        show _ = _
        rw [flat_take f l k hlt, List.append_assoc]
      have HT2 : Hid (((M ++ (l.take k).flatMap f) ++ f l[k]).length ≤ 1099511627776) := by
        show _ ≤ _
        have h1 := flat_le f l (k + 1)
        have h2 := HL.out
        rw [← HT.out, List.length_append]
        omega
      obtain ⟨b, off, v0, rfl, hR, c0⟩ := HR.out.at1 hlt
      simp only [IntR] at hR
      simp only [List.cons.injEq, and_true] at hR
      obtain rfl := hR
      have d0 := (HB.out.cell (cell_lt c0)).trans c0
      clear c0
      go_wp2_with fail
      refine (HC.out k hlt _ _ _ (HB.out.trans (Below.mono (by (repeat (first | exact Below.refl _ _ | assumption | refine Below.drew ?_ | refine below_drewN ?_ _ | refine Below.alloc ?_ (by first | omega | (simp; done) | (simp; omega)) _ | refine Below.setCell ?_ (by first | omega | (simp; done) | (simp; omega)) _ | refine Below.trans ?_ (Below.mono (by assumption) (by first | omega | (simp; done) | (simp; omega)))))) hsz)) (HI.out.later (by (repeat (first | exact Below.refl _ _ | assumption | refine Below.drew ?_ | refine below_drewN ?_ _ | refine Below.alloc ?_ (by first | omega | (simp; done) | (simp; omega)) _ | refine Below.setCell ?_ (by first | omega | (simp; done) | (simp; omega)) _ | refine Below.trans ?_ (Below.mono (by assumption) (by first | omega | (simp; done) | (simp; omega))))))) HT2.out).mono ?_
      rintro e w2 ⟨u', rfl, i2, k2⟩
      have HI2 : Hid (Ink w2 w0.heap.size u' (M ++ (l.take (k + 1)).flatMap f)) := by
        show Ink _ _ _ _
        rw [HT.out]
        exact i2
      have HK2 := Lib.hid (HK.out.trans (k2))
      clear i2 k2 HI HK d0
      go_wp2
      go_roundw
      case rel => exact ⟨k + 1, by omega, by go_num, HI2.out, HK2.out⟩
      case measure => simp [intOf]; omega
    · have hk' : k = l.length := by omega
      subst hk'
      have HI2 := HI.out
      rw [List.take_length, ← HM.out] at HI2
      have HI3 := Lib.hid HI2
      clear HI2 HI
      go_wp2
      go_ret
      exact ⟨_, rfl, HI3.out, HK.out⟩

set_option maxHeartbeats 8000000 in
set_option maxRecDepth 100000 in
theorem aeIx_any (w0 w : World) (v : Value) (xs : List UInt8) (a : Option Addr) (cap : Nat) (l : List Ix) (f : Ix → List UInt8) (hb0 : Below w0.heap.size w0 w) (hr : RowR 3 (IxR w0) w0 a l) (hl : l.length ≤ 1000) (h : Ink w w0.heap.size v xs) (hn : (xs ++ lst f l).length ≤ 1099511627776)
    (hC : ∀ k (h : k < l.length) vs u ys w1, IxR w0 l[k] vs → Below w0.heap.size w0 w1 → Ink w1 w0.heap.size u ys → (ys ++ f l[k]).length ≤ 1099511627776 → Calls Tryz.prog 89 #[u, .agg vs.toArray] w1 fun e w2 => ∃ u', e = .returned u' ∧ Ink w2 w0.heap.size u' (ys ++ f l[k]) ∧ Inks w0.heap.size w1 w2) :
    Calls Tryz.prog 88 #[v, .slice a l.length cap, .func (.func 89) #[] #[]] w fun e w' => ∃ v', e = .returned v' ∧ Ink w' w0.heap.size v' (xs ++ lst f l) ∧ Inks w0.heap.size w w' := by
  have HR := Lib.hid hr
  have HC := Lib.hid hC
  have HB0 := Lib.hid hb0
  have hs0 := hb0.size
  have HL : Hid ((xs ++ num l.length).length + (l.flatMap f).length ≤ 1099511627776) := by
    show _ ≤ _
    rw [lst, ← List.append_assoc, List.length_append] at hn
    exact hn
  have HN := Lib.hid (num_any v xs l.length w w0.heap.size hs0 (by omega) h (by have := HL.out; omega))
  obtain ⟨M, hM⟩ : ∃ M, xs ++ num l.length = M := ⟨_, rfl⟩
  have HM : Hid (xs ++ lst f l = M ++ l.flatMap f) := by
    show _ = _
    rw [lst, ← List.append_assoc, hM]
  rw [hM] at HL HN
  clear hr hC hb0 h hn hM
  go_enter Tryz.func88, Tryz.ntmps88
  go_wp2_with fail
  refine HN.out.mono ?_
  rintro e w1 ⟨v1, rfl, i1, k1⟩
  have HI1 := Lib.hid i1
  have HK1 := Lib.hid k1
  clear i1 k1 HN
  go_wp2
  go_loopw [0, 15] (fun u i wr => ∃ k : Nat, k ≤ l.length ∧ i = .int .i64 k ∧ Ink wr w0.heap.size u (M ++ (l.take k).flatMap f) ∧ Inks w0.heap.size w wr) (fun _ i _ => l.length - (intOf i).toNat)
  case atStart => exact ⟨0, Nat.zero_le _, rfl, by simpa using HI1.out, HK1.out⟩
  case round =>
    clear HI1 HK1
    obtain ⟨k, hk, rfl, hi, hks⟩ := hrel
    have HI := Lib.hid hi
    have HK := Lib.hid hks
    have HB := Lib.hid (Inks.on HB0.out hks)
    have hsz := HB.out.size
    clear hi hks
    by_cases hlt : k < l.length
    · have hlti : (k : Int) < (l.length : Int) := by omega
      have HT : Hid (M ++ (l.take (k + 1)).flatMap f = (M ++ (l.take k).flatMap f) ++ f l[k]) := by
        show _ = _
        rw [flat_take f l k hlt, List.append_assoc]
      have HT2 : Hid (((M ++ (l.take k).flatMap f) ++ f l[k]).length ≤ 1099511627776) := by
        show _ ≤ _
        have h1 := flat_le f l (k + 1)
        have h2 := HL.out
        rw [← HT.out, List.length_append]
        omega
      obtain ⟨b, off, v0, v1, v2, rfl, hR, c0, c1, c2⟩ := HR.out.at3 hlt
      have HRk := Lib.hid hR
      obtain ⟨p, cp, hR, _⟩ := hR
      simp only [List.cons.injEq, and_true] at hR
      obtain ⟨rfl, rfl, rfl⟩ := hR
      have d0 := (HB.out.cell (cell_lt c0)).trans c0
      have d1 := (HB.out.cell (cell_lt c1)).trans c1
      have d2 := (HB.out.cell (cell_lt c2)).trans c2
      clear c0 c1 c2
      go_wp2_with fail
      refine (HC.out k hlt _ _ _ _ HRk.out (HB.out.trans (Below.mono (by (repeat (first | exact Below.refl _ _ | assumption | refine Below.drew ?_ | refine below_drewN ?_ _ | refine Below.alloc ?_ (by first | omega | (simp; done) | (simp; omega)) _ | refine Below.setCell ?_ (by first | omega | (simp; done) | (simp; omega)) _ | refine Below.trans ?_ (Below.mono (by assumption) (by first | omega | (simp; done) | (simp; omega)))))) hsz)) (HI.out.later (by (repeat (first | exact Below.refl _ _ | assumption | refine Below.drew ?_ | refine below_drewN ?_ _ | refine Below.alloc ?_ (by first | omega | (simp; done) | (simp; omega)) _ | refine Below.setCell ?_ (by first | omega | (simp; done) | (simp; omega)) _ | refine Below.trans ?_ (Below.mono (by assumption) (by first | omega | (simp; done) | (simp; omega))))))) HT2.out).mono ?_
      rintro e w2 ⟨u', rfl, i2, k2⟩
      have HI2 : Hid (Ink w2 w0.heap.size u' (M ++ (l.take (k + 1)).flatMap f)) := by
        show Ink _ _ _ _
        rw [HT.out]
        exact i2
      have HK2 := Lib.hid (HK.out.trans ((Inks.of ((Below.refl _ _).alloc (Nat.le_refl _) _)).trans k2))
      clear i2 k2 HI HK d0 d1 d2
      go_wp2
      go_roundw
      case rel => exact ⟨k + 1, by omega, by go_num, HI2.out, HK2.out⟩
      case measure => simp [intOf]; omega
    · have hk' : k = l.length := by omega
      subst hk'
      have HI2 := HI.out
      rw [List.take_length, ← HM.out] at HI2
      have HI3 := Lib.hid HI2
      clear HI2 HI
      go_wp2
      go_ret
      exact ⟨_, rfl, HI3.out, HK.out⟩

set_option maxHeartbeats 8000000 in
set_option maxRecDepth 100000 in
theorem aePm_any (w0 w : World) (v : Value) (xs : List UInt8) (a : Option Addr) (cap : Nat) (l : List Pm) (f : Pm → List UInt8) (hb0 : Below w0.heap.size w0 w) (hr : RowR 2 PmR w0 a l) (hl : l.length ≤ 1000) (h : Ink w w0.heap.size v xs) (hn : (xs ++ lst f l).length ≤ 1099511627776)
    (hC : ∀ k (h : k < l.length) vs u ys w1, PmR l[k] vs → Below w0.heap.size w0 w1 → Ink w1 w0.heap.size u ys → (ys ++ f l[k]).length ≤ 1099511627776 → Calls Tryz.prog 91 #[u, .agg vs.toArray] w1 fun e w2 => ∃ u', e = .returned u' ∧ Ink w2 w0.heap.size u' (ys ++ f l[k]) ∧ Inks w0.heap.size w1 w2) :
    Calls Tryz.prog 90 #[v, .slice a l.length cap, .func (.func 91) #[] #[]] w fun e w' => ∃ v', e = .returned v' ∧ Ink w' w0.heap.size v' (xs ++ lst f l) ∧ Inks w0.heap.size w w' := by
  have HR := Lib.hid hr
  have HC := Lib.hid hC
  have HB0 := Lib.hid hb0
  have hs0 := hb0.size
  have HL : Hid ((xs ++ num l.length).length + (l.flatMap f).length ≤ 1099511627776) := by
    show _ ≤ _
    rw [lst, ← List.append_assoc, List.length_append] at hn
    exact hn
  have HN := Lib.hid (num_any v xs l.length w w0.heap.size hs0 (by omega) h (by have := HL.out; omega))
  obtain ⟨M, hM⟩ : ∃ M, xs ++ num l.length = M := ⟨_, rfl⟩
  have HM : Hid (xs ++ lst f l = M ++ l.flatMap f) := by
    show _ = _
    rw [lst, ← List.append_assoc, hM]
  rw [hM] at HL HN
  clear hr hC hb0 h hn hM
  go_enter Tryz.func90, Tryz.ntmps90
  go_wp2_with fail
  refine HN.out.mono ?_
  rintro e w1 ⟨v1, rfl, i1, k1⟩
  have HI1 := Lib.hid i1
  have HK1 := Lib.hid k1
  clear i1 k1 HN
  go_wp2
  go_loopw [0, 15] (fun u i wr => ∃ k : Nat, k ≤ l.length ∧ i = .int .i64 k ∧ Ink wr w0.heap.size u (M ++ (l.take k).flatMap f) ∧ Inks w0.heap.size w wr) (fun _ i _ => l.length - (intOf i).toNat)
  case atStart => exact ⟨0, Nat.zero_le _, rfl, by simpa using HI1.out, HK1.out⟩
  case round =>
    clear HI1 HK1
    obtain ⟨k, hk, rfl, hi, hks⟩ := hrel
    have HI := Lib.hid hi
    have HK := Lib.hid hks
    have HB := Lib.hid (Inks.on HB0.out hks)
    have hsz := HB.out.size
    clear hi hks
    by_cases hlt : k < l.length
    · have hlti : (k : Int) < (l.length : Int) := by omega
      have HT : Hid (M ++ (l.take (k + 1)).flatMap f = (M ++ (l.take k).flatMap f) ++ f l[k]) := by
        show _ = _
        rw [flat_take f l k hlt, List.append_assoc]
      have HT2 : Hid (((M ++ (l.take k).flatMap f) ++ f l[k]).length ≤ 1099511627776) := by
        show _ ≤ _
        have h1 := flat_le f l (k + 1)
        have h2 := HL.out
        rw [← HT.out, List.length_append]
        omega
      obtain ⟨b, off, v0, v1, rfl, hR, c0, c1⟩ := HR.out.at2 hlt
      have HRk := Lib.hid hR
      simp only [PmR] at hR
      simp only [List.cons.injEq, and_true] at hR
      obtain ⟨rfl, rfl⟩ := hR
      have d0 := (HB.out.cell (cell_lt c0)).trans c0
      have d1 := (HB.out.cell (cell_lt c1)).trans c1
      clear c0 c1
      go_wp2_with fail
      refine (HC.out k hlt _ _ _ _ HRk.out (HB.out.trans (Below.mono (by (repeat (first | exact Below.refl _ _ | assumption | refine Below.drew ?_ | refine below_drewN ?_ _ | refine Below.alloc ?_ (by first | omega | (simp; done) | (simp; omega)) _ | refine Below.setCell ?_ (by first | omega | (simp; done) | (simp; omega)) _ | refine Below.trans ?_ (Below.mono (by assumption) (by first | omega | (simp; done) | (simp; omega)))))) hsz)) (HI.out.later (by (repeat (first | exact Below.refl _ _ | assumption | refine Below.drew ?_ | refine below_drewN ?_ _ | refine Below.alloc ?_ (by first | omega | (simp; done) | (simp; omega)) _ | refine Below.setCell ?_ (by first | omega | (simp; done) | (simp; omega)) _ | refine Below.trans ?_ (Below.mono (by assumption) (by first | omega | (simp; done) | (simp; omega))))))) HT2.out).mono ?_
      rintro e w2 ⟨u', rfl, i2, k2⟩
      have HI2 : Hid (Ink w2 w0.heap.size u' (M ++ (l.take (k + 1)).flatMap f)) := by
        show Ink _ _ _ _
        rw [HT.out]
        exact i2
      have HK2 := Lib.hid (HK.out.trans ((Inks.of ((Below.refl _ _).alloc (Nat.le_refl _) _)).trans k2))
      clear i2 k2 HI HK d0 d1
      go_wp2
      go_roundw
      case rel => exact ⟨k + 1, by omega, by go_num, HI2.out, HK2.out⟩
      case measure => simp [intOf]; omega
    · have hk' : k = l.length := by omega
      subst hk'
      have HI2 := HI.out
      rw [List.take_length, ← HM.out] at HI2
      have HI3 := Lib.hid HI2
      clear HI2 HI
      go_wp2
      go_ret
      exact ⟨_, rfl, HI3.out, HK.out⟩

set_option maxHeartbeats 8000000 in
set_option maxRecDepth 100000 in
theorem aeStr_any (w0 w : World) (v : Value) (xs : List UInt8) (a : Option Addr) (cap : Nat) (l : List ByteArray) (f : ByteArray → List UInt8) (hb0 : Below w0.heap.size w0 w) (hr : RowR 1 StrR w0 a l) (hl : l.length ≤ 1000) (h : Ink w w0.heap.size v xs) (hn : (xs ++ lst f l).length ≤ 1099511627776)
    (hC : ∀ k (h : k < l.length) u ys w1, Below w0.heap.size w0 w1 → Ink w1 w0.heap.size u ys → (ys ++ f l[k]).length ≤ 1099511627776 → Calls Tryz.prog 84 #[u, .string l[k]] w1 fun e w2 => ∃ u', e = .returned u' ∧ Ink w2 w0.heap.size u' (ys ++ f l[k]) ∧ Inks w0.heap.size w1 w2) :
    Calls Tryz.prog 92 #[v, .slice a l.length cap, .func (.func 84) #[] #[]] w fun e w' => ∃ v', e = .returned v' ∧ Ink w' w0.heap.size v' (xs ++ lst f l) ∧ Inks w0.heap.size w w' := by
  have HR := Lib.hid hr
  have HC := Lib.hid hC
  have HB0 := Lib.hid hb0
  have hs0 := hb0.size
  have HL : Hid ((xs ++ num l.length).length + (l.flatMap f).length ≤ 1099511627776) := by
    show _ ≤ _
    rw [lst, ← List.append_assoc, List.length_append] at hn
    exact hn
  have HN := Lib.hid (num_any v xs l.length w w0.heap.size hs0 (by omega) h (by have := HL.out; omega))
  obtain ⟨M, hM⟩ : ∃ M, xs ++ num l.length = M := ⟨_, rfl⟩
  have HM : Hid (xs ++ lst f l = M ++ l.flatMap f) := by
    show _ = _
    rw [lst, ← List.append_assoc, hM]
  rw [hM] at HL HN
  clear hr hC hb0 h hn hM
  go_enter Tryz.func92, Tryz.ntmps92
  go_wp2_with fail
  refine HN.out.mono ?_
  rintro e w1 ⟨v1, rfl, i1, k1⟩
  have HI1 := Lib.hid i1
  have HK1 := Lib.hid k1
  clear i1 k1 HN
  go_wp2
  go_loopw [0, 15] (fun u i wr => ∃ k : Nat, k ≤ l.length ∧ i = .int .i64 k ∧ Ink wr w0.heap.size u (M ++ (l.take k).flatMap f) ∧ Inks w0.heap.size w wr) (fun _ i _ => l.length - (intOf i).toNat)
  case atStart => exact ⟨0, Nat.zero_le _, rfl, by simpa using HI1.out, HK1.out⟩
  case round =>
    clear HI1 HK1
    obtain ⟨k, hk, rfl, hi, hks⟩ := hrel
    have HI := Lib.hid hi
    have HK := Lib.hid hks
    have HB := Lib.hid (Inks.on HB0.out hks)
    have hsz := HB.out.size
    clear hi hks
    by_cases hlt : k < l.length
    · have hlti : (k : Int) < (l.length : Int) := by omega
      have HT : Hid (M ++ (l.take (k + 1)).flatMap f = (M ++ (l.take k).flatMap f) ++ f l[k]) := by
        show _ = _
        rw [flat_take f l k hlt, List.append_assoc]
      have HT2 : Hid (((M ++ (l.take k).flatMap f) ++ f l[k]).length ≤ 1099511627776) := by
        show _ ≤ _
        have h1 := flat_le f l (k + 1)
        have h2 := HL.out
        rw [← HT.out, List.length_append]
        omega
      obtain ⟨b, off, v0, rfl, hR, c0⟩ := HR.out.at1 hlt
      simp only [StrR] at hR
      simp only [List.cons.injEq, and_true] at hR
      obtain rfl := hR
      have d0 := (HB.out.cell (cell_lt c0)).trans c0
      clear c0
      go_wp2_with fail
      refine (HC.out k hlt _ _ _ (HB.out.trans (Below.mono (by (repeat (first | exact Below.refl _ _ | assumption | refine Below.drew ?_ | refine below_drewN ?_ _ | refine Below.alloc ?_ (by first | omega | (simp; done) | (simp; omega)) _ | refine Below.setCell ?_ (by first | omega | (simp; done) | (simp; omega)) _ | refine Below.trans ?_ (Below.mono (by assumption) (by first | omega | (simp; done) | (simp; omega)))))) hsz)) (HI.out.later (by (repeat (first | exact Below.refl _ _ | assumption | refine Below.drew ?_ | refine below_drewN ?_ _ | refine Below.alloc ?_ (by first | omega | (simp; done) | (simp; omega)) _ | refine Below.setCell ?_ (by first | omega | (simp; done) | (simp; omega)) _ | refine Below.trans ?_ (Below.mono (by assumption) (by first | omega | (simp; done) | (simp; omega))))))) HT2.out).mono ?_
      rintro e w2 ⟨u', rfl, i2, k2⟩
      have HI2 : Hid (Ink w2 w0.heap.size u' (M ++ (l.take (k + 1)).flatMap f)) := by
        show Ink _ _ _ _
        rw [HT.out]
        exact i2
      have HK2 := Lib.hid (HK.out.trans (k2))
      clear i2 k2 HI HK d0
      go_wp2
      go_roundw
      case rel => exact ⟨k + 1, by omega, by go_num, HI2.out, HK2.out⟩
      case measure => simp [intOf]; omega
    · have hk' : k = l.length := by omega
      subst hk'
      have HI2 := HI.out
      rw [List.take_length, ← HM.out] at HI2
      have HI3 := Lib.hid HI2
      clear HI2 HI
      go_wp2
      go_ret
      exact ⟨_, rfl, HI3.out, HK.out⟩

end Go.Proofs.YtkgkkcefnonejaaGreat
