/- Walks of layer 8: places of names. -/
import Derived.Test.YtkgkkcefnonejaaGreatT10
namespace Go.Proofs.YtkgkkcefnonejaaGreat
open Go.RowKit

/-- The first place of a name; -1: none. -/
def fndI (l : List (List UInt8)) (s : List UInt8) : Int := match fnd l s with
  | some i => (i : Int)
  | none => -1
theorem fndI_at {l : List (List UInt8)} {s : List UInt8} {k : Nat} (h : k < l.length) (e : l[k] = s) (ha : ∀ j (h : j < l.length), j < k → l[j] ≠ s) : fndI l s = (k : Int) := by
  have : fnd l s = some k := by
    rw [fnd, List.findIdx?_eq_some_iff_getElem]
    exact ⟨h, by simpa using e, fun j hj => by simpa using ha j (by omega) hj⟩
  rw [fndI, this]
theorem fndI_no {l : List (List UInt8)} {s : List UInt8} (ha : ∀ j (h : j < l.length), l[j] ≠ s) : fndI l s = -1 := by
  have : fnd l s = none := by
    rw [fnd, List.findIdx?_eq_none_iff]
    intro x hx
    obtain ⟨j, hj, rfl⟩ := List.getElem_of_mem hx
    simpa using ha j hj
  rw [fndI, this]
theorem fndI_range (l : List (List UInt8)) (s : List UInt8) : -1 ≤ fndI l s ∧ fndI l s < l.length := by
  unfold fndI
  split
  · rename_i i h
    rw [fnd, List.findIdx?_eq_some_iff_getElem] at h
    obtain ⟨h, _⟩ := h
    omega
  · omega
/-- What is told of a place. -/
def plI (i : Int) : Int := if i < 0 then 0 else i
def plE (i : Int) : Int := if i < 0 then 82 else 0
def plV (i : Int) : Value := .tuple #[.int .i64 (plI i), .int .i64 (plE i)]
theorem plV_no {i : Int} (h : i < 0) : plV i = .tuple #[.int .i64 0, .int .i64 82] := by simp only [plV, plI, plE, if_pos h]
theorem plV_yes {i : Int} (h : 0 ≤ i) : plV i = .tuple #[.int .i64 i, .int .i64 0] := by simp only [plV, plI, plE, if_neg (Int.not_lt.2 h)]

set_option maxHeartbeats 2000000 in
set_option maxRecDepth 100000 in
theorem isTb_any (c : Tb) (vs : List Value) (s : ByteArray) (x : Nat) (w0 w : World) (hR : TbR w0 c vs) (hx : w.cell? ⟨x, 0, none⟩ = some (.string s)) :
    Calls Tryz.prog 61 #[.agg vs.toArray, .pointer (some ⟨x, 0, none⟩)] w fun e w' => e = .returned (.bool (decide (bs c.nm = bs s))) ∧ Below w.heap.size w w' := by
  obtain ⟨pc, cc, pk, ck, px, cx, rfl, _, _, _⟩ := hR
  have hxl := cell_lt hx
  have HE := Lib.hid (str_eq c.nm s)
  go_enter Tryz.func61, Tryz.ntmps61
  go_wp2
  go_ret
  exact ⟨ret_bool HE.out, by (repeat (first | exact Below.refl _ _ | assumption | refine Below.drew ?_ | refine below_drewN ?_ _ | refine Below.alloc ?_ (by first | omega | (simp; done) | (simp; omega)) _ | refine Below.setCell ?_ (by first | omega | (simp; done) | (simp; omega)) _ | refine Below.trans ?_ (Below.mono (by assumption) (by first | omega | (simp; done) | (simp; omega)))))⟩

set_option maxHeartbeats 4000000 in
set_option maxRecDepth 100000 in
theorem ixfTb_any (a : Option Addr) (cap : Nat) (l : List Tb) (s : ByteArray) (x : Nat) (w : World) (hl : l.length ≤ 1099511627776) (hr : RowR 5 (TbR w) w a l) (hx : w.cell? ⟨x, 0, none⟩ = some (.string s)) :
    Calls Tryz.prog 107 #[.slice a l.length cap, .func (.func 61) #[] #[.pointer (some ⟨x, 0, none⟩)]] w fun e w' => e = .returned (.int .i64 (fndI (l.map fun x => bs x.nm) (bs s))) ∧ Below w.heap.size w w' := by
  have HR := Lib.hid hr
  have HX := Lib.hid hx
  clear hr hx
  go_enter Tryz.func107, Tryz.ntmps107
  go_wp2
  go_loopw [8] (fun i wr => ∃ k : Nat, k ≤ l.length ∧ i = .int .i64 k ∧ (∀ j (h : j < (l.map fun x => bs x.nm).length), j < k → (l.map fun x => bs x.nm)[j] ≠ bs s) ∧ Below w.heap.size w wr) (fun i _ => l.length - (intOf i).toNat)
  case atStart => exact ⟨0, Nat.zero_le _, rfl, fun j _ g => absurd g (Nat.not_lt_zero _), Below.refl _ _⟩
  case round =>
    obtain ⟨k, hk, rfl, hall, hb⟩ := hrel
    have HA := Lib.hid hall
    have HB := Lib.hid hb
    clear hall hb
    by_cases hlt : k < l.length
    · have hlti : (k : Int) < (l.length : Int) := by omega
      have hlt' : k < (l.map fun x => bs x.nm).length := by simpa using hlt
      obtain ⟨b, off, v0, v1, v2, v3, v4, rfl, hR, c0, c1, c2, c3, c4⟩ := HR.out.at5 hlt
      have HRk := Lib.hid hR
      obtain ⟨pc, cc, pk, ck, px, cx, hR, _, _, _⟩ := hR
      simp only [List.cons.injEq, and_true] at hR
      obtain ⟨rfl, rfl, rfl, rfl, rfl⟩ := hR
      have d0 := cell_later HB.out c0
      have d1 := cell_later HB.out c1
      have d2 := cell_later HB.out c2
      have d3 := cell_later HB.out c3
      have d4 := cell_later HB.out c4
      clear c0 c1 c2 c3 c4
      go_wp2_with fail
      refine (isTb_any l[k] _ s x w _ HRk.out (cell_later HB.out HX.out)).mono ?_
      rintro e w1 ⟨rfl, hb1⟩
      have HB1 := Lib.hid (below_two HB.out hb1)
      clear hb1 d0 d1 d2 d3 d4
      by_cases he : bs l[k].nm = bs s
      · have HE : Hid (fndI (l.map fun x => bs x.nm) (bs s) = (k : Int)) := fndI_at hlt' (by rw [List.getElem_map]; exact he) HA.out
        have hd : decide (bs l[k].nm = bs s) = true := decide_eq_true he
        rw [hd]
        clear he hd
        go_wp2
        go_ret
        exact ⟨ret_int HE.out.symm, HB1.out⟩
      · have HA2 : Hid (∀ j (h : j < (l.map fun x => bs x.nm).length), j < k + 1 → (l.map fun x => bs x.nm)[j] ≠ bs s) := fun j h g => by
          by_cases e : j = k
          · subst e; rw [List.getElem_map]; exact he
          · exact HA.out j h (by omega)
        have hd : decide (bs l[k].nm = bs s) = false := decide_eq_false he
        rw [hd]
        clear he hd HA
        go_wp2
        go_roundw
        case rel => exact ⟨k + 1, by omega, by go_num, HA2.out, HB1.out⟩
        case measure => simp [intOf]; omega
    · have hk' : k = l.length := by omega
      subst hk'
      have HE : Hid (fndI (l.map fun x => bs x.nm) (bs s) = -1) := fndI_no fun j h => HA.out j h (by simpa using h)
      go_wp2
      go_ret
      exact ⟨ret_int HE.out.symm, HB.out⟩

set_option maxHeartbeats 4000000 in
set_option maxRecDepth 100000 in
theorem pofTb_any (a : Option Addr) (cap : Nat) (l : List Tb) (s : ByteArray) (x : Nat) (w : World) (hl : l.length ≤ 1099511627776) (hr : RowR 5 (TbR w) w a l) (hx : w.cell? ⟨x, 0, none⟩ = some (.string s)) :
    Calls Tryz.prog 60 #[.slice a l.length cap, .func (.func 61) #[] #[.pointer (some ⟨x, 0, none⟩)]] w fun e w' => e = .returned (plV (fndI (l.map fun x => bs x.nm) (bs s))) ∧ Below w.heap.size w w' := by
  have HC := Lib.hid (ixfTb_any a cap l s x w hl hr hx)
  obtain ⟨i, hi⟩ : ∃ i, fndI (l.map fun x => bs x.nm) (bs s) = i := ⟨_, rfl⟩
  rw [hi] at HC ⊢
  clear hi hr hx
  by_cases h0 : i < 0
  · go_enter Tryz.func60, Tryz.ntmps60
    go_wp2_with fail
    refine HC.out.mono ?_
    rintro e w1 ⟨rfl, hb⟩
    go_wp2
    exact bodyPost_ret (v := .tuple #[.int .i64 0, .int .i64 82]) (by simp [results, Tryz.results60, go_sem]) rfl ⟨by rw [plV_no h0], hb⟩
  · go_enter Tryz.func60, Tryz.ntmps60
    go_wp2_with fail
    refine HC.out.mono ?_
    rintro e w1 ⟨rfl, hb⟩
    go_wp2
    exact bodyPost_ret (v := .tuple #[.int .i64 i, .int .i64 0]) (by simp [results, Tryz.results60, go_sem]) rfl ⟨by rw [plV_yes h0], hb⟩

set_option maxHeartbeats 4000000 in
set_option maxRecDepth 100000 in
theorem atTb_any (c : Ct) (vs : List Value) (s : ByteArray) (w : World) (hR : CtR w c vs) (hl : c.tbs.length ≤ 1099511627776) :
    Calls Tryz.prog 20 #[.agg vs.toArray, .string s] w fun e w' => e = .returned (plV (fndI (c.tbs.map fun x => bs x.nm) (bs s))) ∧ Below w.heap.size w w' := by
  obtain ⟨pt, ct, pp, cp, rfl, r1, r2⟩ := hR
  have HR := Lib.hid r1
  clear r1 r2
  obtain ⟨i, hi⟩ : ∃ i, fndI (c.tbs.map fun x => bs x.nm) (bs s) = i := ⟨_, rfl⟩
  have HI := Lib.hid hi
  rw [hi]
  clear hi
  go_enter Tryz.func20, Tryz.ntmps20
  go_wp2_with fail
  refine (pofTb_any pt ct c.tbs s (w.heap.size + 1) _ hl (HR.out.later (by (repeat (first | exact Below.refl _ _ | assumption | refine Below.drew ?_ | refine below_drewN ?_ _ | refine Below.alloc ?_ (by first | omega | (simp; done) | (simp; omega)) _ | refine Below.setCell ?_ (by first | omega | (simp; done) | (simp; omega)) _ | refine Below.trans ?_ (Below.mono (by assumption) (by first | omega | (simp; done) | (simp; omega)))))) (TbR.later (by (repeat (first | exact Below.refl _ _ | assumption | refine Below.drew ?_ | refine below_drewN ?_ _ | refine Below.alloc ?_ (by first | omega | (simp; done) | (simp; omega)) _ | refine Below.setCell ?_ (by first | omega | (simp; done) | (simp; omega)) _ | refine Below.trans ?_ (Below.mono (by assumption) (by first | omega | (simp; done) | (simp; omega)))))))) (by simp)).mono ?_
  rintro e w1 ⟨rfl, hb⟩
  rw [HI.out]
  have HB : Hid (Below w.heap.size w w1) := by
    show Below w.heap.size w w1
    (repeat (first | exact Below.refl _ _ | assumption | refine Below.drew ?_ | refine below_drewN ?_ _ | refine Below.alloc ?_ (by first | omega | (simp; done) | (simp; omega)) _ | refine Below.setCell ?_ (by first | omega | (simp; done) | (simp; omega)) _ | refine Below.trans ?_ (Below.mono (by assumption) (by first | omega | (simp; done) | (simp; omega)))))
  clear hb
  unfold plV
  go_wp2
  exact bodyPost_ret (v := plV i) (by simp [results, Tryz.results20, go_sem, plV]) rfl ⟨rfl, HB.out⟩

set_option maxHeartbeats 2000000 in
set_option maxRecDepth 100000 in
theorem isPc_any (c : Pc) (vs : List Value) (s : ByteArray) (x : Nat) (w0 w : World) (hR : PcR w0 c vs) (hx : w.cell? ⟨x, 0, none⟩ = some (.string s)) :
    Calls Tryz.prog 63 #[.agg vs.toArray, .pointer (some ⟨x, 0, none⟩)] w fun e w' => e = .returned (.bool (decide (bs c.nm = bs s))) ∧ Below w.heap.size w w' := by
  obtain ⟨pp, cp, pb, cb, rfl, _, _⟩ := hR
  have hxl := cell_lt hx
  have HE := Lib.hid (str_eq c.nm s)
  go_enter Tryz.func63, Tryz.ntmps63
  go_wp2
  go_ret
  exact ⟨ret_bool HE.out, by (repeat (first | exact Below.refl _ _ | assumption | refine Below.drew ?_ | refine below_drewN ?_ _ | refine Below.alloc ?_ (by first | omega | (simp; done) | (simp; omega)) _ | refine Below.setCell ?_ (by first | omega | (simp; done) | (simp; omega)) _ | refine Below.trans ?_ (Below.mono (by assumption) (by first | omega | (simp; done) | (simp; omega)))))⟩

set_option maxHeartbeats 4000000 in
set_option maxRecDepth 100000 in
theorem ixfPc_any (a : Option Addr) (cap : Nat) (l : List Pc) (s : ByteArray) (x : Nat) (w : World) (hl : l.length ≤ 1099511627776) (hr : RowR 5 (PcR w) w a l) (hx : w.cell? ⟨x, 0, none⟩ = some (.string s)) :
    Calls Tryz.prog 108 #[.slice a l.length cap, .func (.func 63) #[] #[.pointer (some ⟨x, 0, none⟩)]] w fun e w' => e = .returned (.int .i64 (fndI (l.map fun x => bs x.nm) (bs s))) ∧ Below w.heap.size w w' := by
  have HR := Lib.hid hr
  have HX := Lib.hid hx
  clear hr hx
  go_enter Tryz.func108, Tryz.ntmps108
  go_wp2
  go_loopw [8] (fun i wr => ∃ k : Nat, k ≤ l.length ∧ i = .int .i64 k ∧ (∀ j (h : j < (l.map fun x => bs x.nm).length), j < k → (l.map fun x => bs x.nm)[j] ≠ bs s) ∧ Below w.heap.size w wr) (fun i _ => l.length - (intOf i).toNat)
  case atStart => exact ⟨0, Nat.zero_le _, rfl, fun j _ g => absurd g (Nat.not_lt_zero _), Below.refl _ _⟩
  case round =>
    obtain ⟨k, hk, rfl, hall, hb⟩ := hrel
    have HA := Lib.hid hall
    have HB := Lib.hid hb
    clear hall hb
    by_cases hlt : k < l.length
    · have hlti : (k : Int) < (l.length : Int) := by omega
      have hlt' : k < (l.map fun x => bs x.nm).length := by simpa using hlt
      obtain ⟨b, off, v0, v1, v2, v3, v4, rfl, hR, c0, c1, c2, c3, c4⟩ := HR.out.at5 hlt
      have HRk := Lib.hid hR
      obtain ⟨pp, cp, pb, cb, hR, _, _⟩ := hR
      simp only [List.cons.injEq, and_true] at hR
      obtain ⟨rfl, rfl, rfl, rfl, rfl⟩ := hR
      have d0 := cell_later HB.out c0
      have d1 := cell_later HB.out c1
      have d2 := cell_later HB.out c2
      have d3 := cell_later HB.out c3
      have d4 := cell_later HB.out c4
      clear c0 c1 c2 c3 c4
      go_wp2_with fail
      refine (isPc_any l[k] _ s x w _ HRk.out (cell_later HB.out HX.out)).mono ?_
      rintro e w1 ⟨rfl, hb1⟩
      have HB1 := Lib.hid (below_two HB.out hb1)
      clear hb1 d0 d1 d2 d3 d4
      by_cases he : bs l[k].nm = bs s
      · have HE : Hid (fndI (l.map fun x => bs x.nm) (bs s) = (k : Int)) := fndI_at hlt' (by rw [List.getElem_map]; exact he) HA.out
        have hd : decide (bs l[k].nm = bs s) = true := decide_eq_true he
        rw [hd]
        clear he hd
        go_wp2
        go_ret
        exact ⟨ret_int HE.out.symm, HB1.out⟩
      · have HA2 : Hid (∀ j (h : j < (l.map fun x => bs x.nm).length), j < k + 1 → (l.map fun x => bs x.nm)[j] ≠ bs s) := fun j h g => by
          by_cases e : j = k
          · subst e; rw [List.getElem_map]; exact he
          · exact HA.out j h (by omega)
        have hd : decide (bs l[k].nm = bs s) = false := decide_eq_false he
        rw [hd]
        clear he hd HA
        go_wp2
        go_roundw
        case rel => exact ⟨k + 1, by omega, by go_num, HA2.out, HB1.out⟩
        case measure => simp [intOf]; omega
    · have hk' : k = l.length := by omega
      subst hk'
      have HE : Hid (fndI (l.map fun x => bs x.nm) (bs s) = -1) := fndI_no fun j h => HA.out j h (by simpa using h)
      go_wp2
      go_ret
      exact ⟨ret_int HE.out.symm, HB.out⟩

set_option maxHeartbeats 4000000 in
set_option maxRecDepth 100000 in
theorem pofPc_any (a : Option Addr) (cap : Nat) (l : List Pc) (s : ByteArray) (x : Nat) (w : World) (hl : l.length ≤ 1099511627776) (hr : RowR 5 (PcR w) w a l) (hx : w.cell? ⟨x, 0, none⟩ = some (.string s)) :
    Calls Tryz.prog 62 #[.slice a l.length cap, .func (.func 63) #[] #[.pointer (some ⟨x, 0, none⟩)]] w fun e w' => e = .returned (plV (fndI (l.map fun x => bs x.nm) (bs s))) ∧ Below w.heap.size w w' := by
  have HC := Lib.hid (ixfPc_any a cap l s x w hl hr hx)
  obtain ⟨i, hi⟩ : ∃ i, fndI (l.map fun x => bs x.nm) (bs s) = i := ⟨_, rfl⟩
  rw [hi] at HC ⊢
  clear hi hr hx
  by_cases h0 : i < 0
  · go_enter Tryz.func62, Tryz.ntmps62
    go_wp2_with fail
    refine HC.out.mono ?_
    rintro e w1 ⟨rfl, hb⟩
    go_wp2
    exact bodyPost_ret (v := .tuple #[.int .i64 0, .int .i64 82]) (by simp [results, Tryz.results62, go_sem]) rfl ⟨by rw [plV_no h0], hb⟩
  · go_enter Tryz.func62, Tryz.ntmps62
    go_wp2_with fail
    refine HC.out.mono ?_
    rintro e w1 ⟨rfl, hb⟩
    go_wp2
    exact bodyPost_ret (v := .tuple #[.int .i64 i, .int .i64 0]) (by simp [results, Tryz.results62, go_sem]) rfl ⟨by rw [plV_yes h0], hb⟩

set_option maxHeartbeats 4000000 in
set_option maxRecDepth 100000 in
theorem atPc_any (c : Ct) (vs : List Value) (s : ByteArray) (w : World) (hR : CtR w c vs) (hl : c.prs.length ≤ 1099511627776) :
    Calls Tryz.prog 21 #[.agg vs.toArray, .string s] w fun e w' => e = .returned (plV (fndI (c.prs.map fun x => bs x.nm) (bs s))) ∧ Below w.heap.size w w' := by
  obtain ⟨pt, ct, pp, cp, rfl, r2, r1⟩ := hR
  have HR := Lib.hid r1
  clear r1 r2
  obtain ⟨i, hi⟩ : ∃ i, fndI (c.prs.map fun x => bs x.nm) (bs s) = i := ⟨_, rfl⟩
  have HI := Lib.hid hi
  rw [hi]
  clear hi
  go_enter Tryz.func21, Tryz.ntmps21
  go_wp2_with fail
  refine (pofPc_any pp cp c.prs s (w.heap.size + 1) _ hl (HR.out.later (by (repeat (first | exact Below.refl _ _ | assumption | refine Below.drew ?_ | refine below_drewN ?_ _ | refine Below.alloc ?_ (by first | omega | (simp; done) | (simp; omega)) _ | refine Below.setCell ?_ (by first | omega | (simp; done) | (simp; omega)) _ | refine Below.trans ?_ (Below.mono (by assumption) (by first | omega | (simp; done) | (simp; omega)))))) (PcR.later (by (repeat (first | exact Below.refl _ _ | assumption | refine Below.drew ?_ | refine below_drewN ?_ _ | refine Below.alloc ?_ (by first | omega | (simp; done) | (simp; omega)) _ | refine Below.setCell ?_ (by first | omega | (simp; done) | (simp; omega)) _ | refine Below.trans ?_ (Below.mono (by assumption) (by first | omega | (simp; done) | (simp; omega)))))))) (by simp)).mono ?_
  rintro e w1 ⟨rfl, hb⟩
  rw [HI.out]
  have HB : Hid (Below w.heap.size w w1) := by
    show Below w.heap.size w w1
    (repeat (first | exact Below.refl _ _ | assumption | refine Below.drew ?_ | refine below_drewN ?_ _ | refine Below.alloc ?_ (by first | omega | (simp; done) | (simp; omega)) _ | refine Below.setCell ?_ (by first | omega | (simp; done) | (simp; omega)) _ | refine Below.trans ?_ (Below.mono (by assumption) (by first | omega | (simp; done) | (simp; omega)))))
  clear hb
  unfold plV
  go_wp2
  exact bodyPost_ret (v := plV i) (by simp [results, Tryz.results21, go_sem, plV]) rfl ⟨rfl, HB.out⟩

set_option maxHeartbeats 2000000 in
set_option maxRecDepth 100000 in
theorem isCol_any (c : Col) (vs : List Value) (s : ByteArray) (x : Nat) (w : World) (hR : ColR c vs) (hx : w.cell? ⟨x, 0, none⟩ = some (.string s)) :
    Calls Tryz.prog 65 #[.agg vs.toArray, .pointer (some ⟨x, 0, none⟩)] w fun e w' => e = .returned (.bool (decide (bs c.nm = bs s))) ∧ Below w.heap.size w w' := by
  obtain rfl := hR
  have hxl := cell_lt hx
  have HE := Lib.hid (str_eq c.nm s)
  go_enter Tryz.func65, Tryz.ntmps65
  go_wp2
  go_ret
  exact ⟨ret_bool HE.out, by (repeat (first | exact Below.refl _ _ | assumption | refine Below.drew ?_ | refine below_drewN ?_ _ | refine Below.alloc ?_ (by first | omega | (simp; done) | (simp; omega)) _ | refine Below.setCell ?_ (by first | omega | (simp; done) | (simp; omega)) _ | refine Below.trans ?_ (Below.mono (by assumption) (by first | omega | (simp; done) | (simp; omega)))))⟩

set_option maxHeartbeats 4000000 in
set_option maxRecDepth 100000 in
theorem ixfCol_any (a : Option Addr) (cap : Nat) (l : List Col) (s : ByteArray) (x : Nat) (w : World) (hl : l.length ≤ 1099511627776) (hr : RowR 3 ColR w a l) (hx : w.cell? ⟨x, 0, none⟩ = some (.string s)) :
    Calls Tryz.prog 109 #[.slice a l.length cap, .func (.func 65) #[] #[.pointer (some ⟨x, 0, none⟩)]] w fun e w' => e = .returned (.int .i64 (fndI (l.map fun x => bs x.nm) (bs s))) ∧ Below w.heap.size w w' := by
  have HR := Lib.hid hr
  have HX := Lib.hid hx
  clear hr hx
  go_enter Tryz.func109, Tryz.ntmps109
  go_wp2
  go_loopw [8] (fun i wr => ∃ k : Nat, k ≤ l.length ∧ i = .int .i64 k ∧ (∀ j (h : j < (l.map fun x => bs x.nm).length), j < k → (l.map fun x => bs x.nm)[j] ≠ bs s) ∧ Below w.heap.size w wr) (fun i _ => l.length - (intOf i).toNat)
  case atStart => exact ⟨0, Nat.zero_le _, rfl, fun j _ g => absurd g (Nat.not_lt_zero _), Below.refl _ _⟩
  case round =>
    obtain ⟨k, hk, rfl, hall, hb⟩ := hrel
    have HA := Lib.hid hall
    have HB := Lib.hid hb
    clear hall hb
    by_cases hlt : k < l.length
    · have hlti : (k : Int) < (l.length : Int) := by omega
      have hlt' : k < (l.map fun x => bs x.nm).length := by simpa using hlt
      obtain ⟨b, off, v0, v1, v2, rfl, hR, c0, c1, c2⟩ := HR.out.at3 hlt
      have HRk := Lib.hid hR
      simp only [ColR] at hR
      simp only [List.cons.injEq, and_true] at hR
      obtain ⟨rfl, rfl, rfl⟩ := hR
      have d0 := cell_later HB.out c0
      have d1 := cell_later HB.out c1
      have d2 := cell_later HB.out c2
      clear c0 c1 c2
      go_wp2_with fail
      refine (isCol_any l[k] _ s x _ HRk.out (cell_later HB.out HX.out)).mono ?_
      rintro e w1 ⟨rfl, hb1⟩
      have HB1 := Lib.hid (below_two HB.out hb1)
      clear hb1 d0 d1 d2
      by_cases he : bs l[k].nm = bs s
      · have HE : Hid (fndI (l.map fun x => bs x.nm) (bs s) = (k : Int)) := fndI_at hlt' (by rw [List.getElem_map]; exact he) HA.out
        have hd : decide (bs l[k].nm = bs s) = true := decide_eq_true he
        rw [hd]
        clear he hd
        go_wp2
        go_ret
        exact ⟨ret_int HE.out.symm, HB1.out⟩
      · have HA2 : Hid (∀ j (h : j < (l.map fun x => bs x.nm).length), j < k + 1 → (l.map fun x => bs x.nm)[j] ≠ bs s) := fun j h g => by
          by_cases e : j = k
          · subst e; rw [List.getElem_map]; exact he
          · exact HA.out j h (by omega)
        have hd : decide (bs l[k].nm = bs s) = false := decide_eq_false he
        rw [hd]
        clear he hd HA
        go_wp2
        go_roundw
        case rel => exact ⟨k + 1, by omega, by go_num, HA2.out, HB1.out⟩
        case measure => simp [intOf]; omega
    · have hk' : k = l.length := by omega
      subst hk'
      have HE : Hid (fndI (l.map fun x => bs x.nm) (bs s) = -1) := fndI_no fun j h => HA.out j h (by simpa using h)
      go_wp2
      go_ret
      exact ⟨ret_int HE.out.symm, HB.out⟩

set_option maxHeartbeats 4000000 in
set_option maxRecDepth 100000 in
theorem pofCol_any (a : Option Addr) (cap : Nat) (l : List Col) (s : ByteArray) (x : Nat) (w : World) (hl : l.length ≤ 1099511627776) (hr : RowR 3 ColR w a l) (hx : w.cell? ⟨x, 0, none⟩ = some (.string s)) :
    Calls Tryz.prog 64 #[.slice a l.length cap, .func (.func 65) #[] #[.pointer (some ⟨x, 0, none⟩)]] w fun e w' => e = .returned (plV (fndI (l.map fun x => bs x.nm) (bs s))) ∧ Below w.heap.size w w' := by
  have HC := Lib.hid (ixfCol_any a cap l s x w hl hr hx)
  obtain ⟨i, hi⟩ : ∃ i, fndI (l.map fun x => bs x.nm) (bs s) = i := ⟨_, rfl⟩
  rw [hi] at HC ⊢
  clear hi hr hx
  by_cases h0 : i < 0
  · go_enter Tryz.func64, Tryz.ntmps64
    go_wp2_with fail
    refine HC.out.mono ?_
    rintro e w1 ⟨rfl, hb⟩
    go_wp2
    exact bodyPost_ret (v := .tuple #[.int .i64 0, .int .i64 82]) (by simp [results, Tryz.results64, go_sem]) rfl ⟨by rw [plV_no h0], hb⟩
  · go_enter Tryz.func64, Tryz.ntmps64
    go_wp2_with fail
    refine HC.out.mono ?_
    rintro e w1 ⟨rfl, hb⟩
    go_wp2
    exact bodyPost_ret (v := .tuple #[.int .i64 i, .int .i64 0]) (by simp [results, Tryz.results64, go_sem]) rfl ⟨by rw [plV_yes h0], hb⟩

set_option maxHeartbeats 4000000 in
set_option maxRecDepth 100000 in
theorem atCol_any (c : Tb) (vs : List Value) (s : ByteArray) (w : World) (hR : TbR w c vs) (hl : c.cols.length ≤ 1099511627776) :
    Calls Tryz.prog 24 #[.agg vs.toArray, .string s] w fun e w' => e = .returned (plV (fndI (c.cols.map fun x => bs x.nm) (bs s))) ∧ Below w.heap.size w w' := by
  obtain ⟨pc, cc, pk, ck, px, cx, rfl, r1, r2, r3⟩ := hR
  have HR := Lib.hid r1
  clear r1 r2 r3
  obtain ⟨i, hi⟩ : ∃ i, fndI (c.cols.map fun x => bs x.nm) (bs s) = i := ⟨_, rfl⟩
  have HI := Lib.hid hi
  rw [hi]
  clear hi
  go_enter Tryz.func24, Tryz.ntmps24
  go_wp2_with fail
  refine (pofCol_any pc cc c.cols s (w.heap.size + 1) _ hl (HR.out.later (by (repeat (first | exact Below.refl _ _ | assumption | refine Below.drew ?_ | refine below_drewN ?_ _ | refine Below.alloc ?_ (by first | omega | (simp; done) | (simp; omega)) _ | refine Below.setCell ?_ (by first | omega | (simp; done) | (simp; omega)) _ | refine Below.trans ?_ (Below.mono (by assumption) (by first | omega | (simp; done) | (simp; omega)))))) fun _ _ h => h) (by simp)).mono ?_
  rintro e w1 ⟨rfl, hb⟩
  rw [HI.out]
  have HB : Hid (Below w.heap.size w w1) := by
    show Below w.heap.size w w1
    (repeat (first | exact Below.refl _ _ | assumption | refine Below.drew ?_ | refine below_drewN ?_ _ | refine Below.alloc ?_ (by first | omega | (simp; done) | (simp; omega)) _ | refine Below.setCell ?_ (by first | omega | (simp; done) | (simp; omega)) _ | refine Below.trans ?_ (Below.mono (by assumption) (by first | omega | (simp; done) | (simp; omega)))))
  clear hb
  unfold plV
  go_wp2
  exact bodyPost_ret (v := plV i) (by simp [results, Tryz.results24, go_sem, plV]) rfl ⟨rfl, HB.out⟩

end Go.Proofs.YtkgkkcefnonejaaGreat
