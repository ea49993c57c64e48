/- Walks of layer 8: the document's places of names. -/
import Derived.Test.YtkgkkcefnonejaaGreatT11
namespace Go.Proofs.YtkgkkcefnonejaaGreat
open Go.RowKit

set_option maxHeartbeats 4000000 in
set_option maxRecDepth 100000 in
theorem ratTb_any (c : Ct) (vs : List Value) (s : ByteArray) (w : World) (hR : CtR w c vs) (hl : c.tbs.length ≤ 1099511627776) :
    Calls Tryz.prog 22 #[.agg vs.toArray, .string s] w fun e w' => e = .returned (.int .i64 (fndI (c.tbs.map fun x => bs x.nm) (bs s))) ∧ Below w.heap.size w w' := by
  obtain ⟨pt, ct, pp, cp, rfl, r1, r2⟩ := hR
  have HR := Lib.hid r1
  clear r1 r2
  go_enter Tryz.func22, Tryz.ntmps22
  go_wp2
  go_loopw [5] (fun i wr => ∃ k : Nat, k ≤ c.tbs.length ∧ i = .int .i64 k ∧ (∀ j (h : j < (c.tbs.map fun x => bs x.nm).length), j < k → (c.tbs.map fun x => bs x.nm)[j] ≠ bs s) ∧ wr = w.alloc (.cells #[.slice pt c.tbs.length ct, .slice pp c.prs.length cp] 25)) (fun i _ => c.tbs.length - (intOf i).toNat)
  case atStart => exact ⟨0, Nat.zero_le _, rfl, fun j _ g => absurd g (Nat.not_lt_zero _), rfl⟩
  case round =>
    obtain ⟨k, hk, rfl, hall, rfl⟩ := hrel
    have HA := Lib.hid hall
    clear hall
    by_cases hlt : k < c.tbs.length
    · have hlti : (k : Int) < (c.tbs.length : Int) := by omega
      have hlt' : k < (c.tbs.map fun x => bs x.nm).length := by simpa using hlt
      obtain ⟨b, off, v0, v1, v2, v3, v4, rfl, hR, e0, e1, e2, e3, e4⟩ := HR.out.at5 hlt
      obtain ⟨pc, cc, pk, ck, px, cx, hR, _, _, _⟩ := hR
      simp only [List.cons.injEq, and_true] at hR
      obtain ⟨rfl, rfl, rfl, rfl, rfl⟩ := hR
      have hbl := cell_lt e0
      have hse := str_eq c.tbs[k].nm s
      clear e1 e2 e3 e4
      by_cases he : bs c.tbs[k].nm = bs s
      · have HE : Hid (fndI (c.tbs.map fun x => bs x.nm) (bs s) = (k : Int)) := fndI_at hlt' (by rw [List.getElem_map]; exact he) HA.out
        rw [decide_eq_true he] at hse
        clear he
        go_wp2
        go_ret
        exact ⟨ret_int HE.out.symm, by (repeat (first | exact Below.refl _ _ | assumption | refine Below.drew ?_ | refine below_drewN ?_ _ | refine Below.alloc ?_ (by first | omega | (simp; done) | (simp; omega)) _ | refine Below.setCell ?_ (by first | omega | (simp; done) | (simp; omega)) _ | refine Below.trans ?_ (Below.mono (by assumption) (by first | omega | (simp; done) | (simp; omega)))))⟩
      · have HA2 : Hid (∀ j (h : j < (c.tbs.map fun x => bs x.nm).length), j < k + 1 → (c.tbs.map fun x => bs x.nm)[j] ≠ bs s) := fun j h g => by
          by_cases e : j = k
          · subst e; rw [List.getElem_map]; exact he
          · exact HA.out j h (by omega)
        rw [decide_eq_false he] at hse
        clear he
        go_wp2
        go_roundw
        case rel => exact ⟨k + 1, by omega, by go_num, HA2.out, trivial⟩
        case measure => simp [intOf]; omega
    · have hk' : k = c.tbs.length := by omega
      have hlti : ¬ (k : Int) < (c.tbs.length : Int) := by omega
      have HE : Hid (fndI (c.tbs.map fun x => bs x.nm) (bs s) = -1) := fndI_no fun j h => HA.out j h (by rw [List.length_map] at h; omega)
      clear hk'
      go_wp2
      go_ret
      exact ⟨ret_int HE.out.symm, by (repeat (first | exact Below.refl _ _ | assumption | refine Below.drew ?_ | refine below_drewN ?_ _ | refine Below.alloc ?_ (by first | omega | (simp; done) | (simp; omega)) _ | refine Below.setCell ?_ (by first | omega | (simp; done) | (simp; omega)) _ | refine Below.trans ?_ (Below.mono (by assumption) (by first | omega | (simp; done) | (simp; omega)))))⟩

set_option maxHeartbeats 4000000 in
set_option maxRecDepth 100000 in
theorem ratPc_any (c : Ct) (vs : List Value) (s : ByteArray) (w : World) (hR : CtR w c vs) (hl : c.prs.length ≤ 1099511627776) :
    Calls Tryz.prog 23 #[.agg vs.toArray, .string s] w fun e w' => e = .returned (.int .i64 (fndI (c.prs.map fun x => bs x.nm) (bs s))) ∧ Below w.heap.size w w' := by
  obtain ⟨pt, ct, pp, cp, rfl, r2, r1⟩ := hR
  have HR := Lib.hid r1
  clear r1 r2
  go_enter Tryz.func23, Tryz.ntmps23
  go_wp2
  go_loopw [5] (fun i wr => ∃ k : Nat, k ≤ c.prs.length ∧ i = .int .i64 k ∧ (∀ j (h : j < (c.prs.map fun x => bs x.nm).length), j < k → (c.prs.map fun x => bs x.nm)[j] ≠ bs s) ∧ wr = w.alloc (.cells #[.slice pt c.tbs.length ct, .slice pp c.prs.length cp] 25)) (fun i _ => c.prs.length - (intOf i).toNat)
  case atStart => exact ⟨0, Nat.zero_le _, rfl, fun j _ g => absurd g (Nat.not_lt_zero _), rfl⟩
  case round =>
    obtain ⟨k, hk, rfl, hall, rfl⟩ := hrel
    have HA := Lib.hid hall
    clear hall
    by_cases hlt : k < c.prs.length
    · have hlti : (k : Int) < (c.prs.length : Int) := by omega
      have hlt' : k < (c.prs.map fun x => bs x.nm).length := by simpa using hlt
      obtain ⟨b, off, v0, v1, v2, v3, v4, rfl, hR, e0, e1, e2, e3, e4⟩ := HR.out.at5 hlt
      obtain ⟨pp5, cp5, pb5, cb5, hR, _, _⟩ := hR
      simp only [List.cons.injEq, and_true] at hR
      obtain ⟨rfl, rfl, rfl, rfl, rfl⟩ := hR
      have hbl := cell_lt e0
      have hse := str_eq c.prs[k].nm s
      clear e1 e2 e3 e4
      by_cases he : bs c.prs[k].nm = bs s
      · have HE : Hid (fndI (c.prs.map fun x => bs x.nm) (bs s) = (k : Int)) := fndI_at hlt' (by rw [List.getElem_map]; exact he) HA.out
        rw [decide_eq_true he] at hse
        clear he
        go_wp2
        go_ret
        exact ⟨ret_int HE.out.symm, by (repeat (first | exact Below.refl _ _ | assumption | refine Below.drew ?_ | refine below_drewN ?_ _ | refine Below.alloc ?_ (by first | omega | (simp; done) | (simp; omega)) _ | refine Below.setCell ?_ (by first | omega | (simp; done) | (simp; omega)) _ | refine Below.trans ?_ (Below.mono (by assumption) (by first | omega | (simp; done) | (simp; omega)))))⟩
      · have HA2 : Hid (∀ j (h : j < (c.prs.map fun x => bs x.nm).length), j < k + 1 → (c.prs.map fun x => bs x.nm)[j] ≠ bs s) := fun j h g => by
          by_cases e : j = k
          · subst e; rw [List.getElem_map]; exact he
          · exact HA.out j h (by omega)
        rw [decide_eq_false he] at hse
        clear he
        go_wp2
        go_roundw
        case rel => exact ⟨k + 1, by omega, by go_num, HA2.out, trivial⟩
        case measure => simp [intOf]; omega
    · have hk' : k = c.prs.length := by omega
      have hlti : ¬ (k : Int) < (c.prs.length : Int) := by omega
      have HE : Hid (fndI (c.prs.map fun x => bs x.nm) (bs s) = -1) := fndI_no fun j h => HA.out j h (by rw [List.length_map] at h; omega)
      clear hk'
      go_wp2
      go_ret
      exact ⟨ret_int HE.out.symm, by (repeat (first | exact Below.refl _ _ | assumption | refine Below.drew ?_ | refine below_drewN ?_ _ | refine Below.alloc ?_ (by first | omega | (simp; done) | (simp; omega)) _ | refine Below.setCell ?_ (by first | omega | (simp; done) | (simp; omega)) _ | refine Below.trans ?_ (Below.mono (by assumption) (by first | omega | (simp; done) | (simp; omega)))))⟩

set_option maxHeartbeats 4000000 in
set_option maxRecDepth 100000 in
theorem ratCol_any (c : Tb) (vs : List Value) (s : ByteArray) (w : World) (hR : TbR w c vs) (hl : c.cols.length ≤ 1099511627776) :
    Calls Tryz.prog 25 #[.agg vs.toArray, .string s] w fun e w' => e = .returned (.int .i64 (fndI (c.cols.map fun x => bs x.nm) (bs s))) ∧ Below w.heap.size w w' := by
  obtain ⟨pc, cc, pk, ck, px, cx, rfl, r1, r2, r3⟩ := hR
  have HR := Lib.hid r1
  clear r1 r2 r3
  go_enter Tryz.func25, Tryz.ntmps25
  go_wp2
  go_loopw [5] (fun i wr => ∃ k : Nat, k ≤ c.cols.length ∧ i = .int .i64 k ∧ (∀ j (h : j < (c.cols.map fun x => bs x.nm).length), j < k → (c.cols.map fun x => bs x.nm)[j] ≠ bs s) ∧ wr = w.alloc (.cells #[.string c.nm, .slice pc c.cols.length cc, .slice pk c.key.length ck, .int .i64 c.part, .slice px c.ixs.length cx] 46)) (fun i _ => c.cols.length - (intOf i).toNat)
  case atStart => exact ⟨0, Nat.zero_le _, rfl, fun j _ g => absurd g (Nat.not_lt_zero _), rfl⟩
  case round =>
    obtain ⟨k, hk, rfl, hall, rfl⟩ := hrel
    have HA := Lib.hid hall
    clear hall
    by_cases hlt : k < c.cols.length
    · have hlti : (k : Int) < (c.cols.length : Int) := by omega
      have hlt' : k < (c.cols.map fun x => bs x.nm).length := by simpa using hlt
      obtain ⟨b, off, v0, v1, v2, rfl, hR, e0, e1, e2⟩ := HR.out.at3 hlt
      simp only [ColR] at hR
      simp only [List.cons.injEq, and_true] at hR
      obtain ⟨rfl, rfl, rfl⟩ := hR
      have hbl := cell_lt e0
      have hse := str_eq c.cols[k].nm s
      clear e1 e2
      by_cases he : bs c.cols[k].nm = bs s
      · have HE : Hid (fndI (c.cols.map fun x => bs x.nm) (bs s) = (k : Int)) := fndI_at hlt' (by rw [List.getElem_map]; exact he) HA.out
        rw [decide_eq_true he] at hse
        clear he
        go_wp2
        go_ret
        exact ⟨ret_int HE.out.symm, by (repeat (first | exact Below.refl _ _ | assumption | refine Below.drew ?_ | refine below_drewN ?_ _ | refine Below.alloc ?_ (by first | omega | (simp; done) | (simp; omega)) _ | refine Below.setCell ?_ (by first | omega | (simp; done) | (simp; omega)) _ | refine Below.trans ?_ (Below.mono (by assumption) (by first | omega | (simp; done) | (simp; omega)))))⟩
      · have HA2 : Hid (∀ j (h : j < (c.cols.map fun x => bs x.nm).length), j < k + 1 → (c.cols.map fun x => bs x.nm)[j] ≠ bs s) := fun j h g => by
          by_cases e : j = k
          · subst e; rw [List.getElem_map]; exact he
          · exact HA.out j h (by omega)
        rw [decide_eq_false he] at hse
        clear he
        go_wp2
        go_roundw
        case rel => exact ⟨k + 1, by omega, by go_num, HA2.out, trivial⟩
        case measure => simp [intOf]; omega
    · have hk' : k = c.cols.length := by omega
      have hlti : ¬ (k : Int) < (c.cols.length : Int) := by omega
      have HE : Hid (fndI (c.cols.map fun x => bs x.nm) (bs s) = -1) := fndI_no fun j h => HA.out j h (by rw [List.length_map] at h; omega)
      clear hk'
      go_wp2
      go_ret
      exact ⟨ret_int HE.out.symm, by (repeat (first | exact Below.refl _ _ | assumption | refine Below.drew ?_ | refine below_drewN ?_ _ | refine Below.alloc ?_ (by first | omega | (simp; done) | (simp; omega)) _ | refine Below.setCell ?_ (by first | omega | (simp; done) | (simp; omega)) _ | refine Below.trans ?_ (Below.mono (by assumption) (by first | omega | (simp; done) | (simp; omega)))))⟩

end Go.Proofs.YtkgkkcefnonejaaGreat
