/- Walks of layer 19: for which places one waits. -/
import Derived.Test.YtefdhmdkcpgfcaaI4
namespace Go.Proofs.Ytefdhmdkcpgfcaa
open Go.RowKit
theorem waitL_take {ls : List Lk} {ps : List Pl9} {k : Nat} (hk : k < ps.length) : waitL ls (ps.take (k + 1)) = waitL ls (ps.take k) ++ if anyM ls ps[k].ls = true then [ps[k].pos] else [] := by
  unfold waitL
  rw [List.take_succ_eq_append_getElem hk, List.filter_append, List.map_append]
  congr 1
  cases h : anyM ls ps[k].ls <;> simp [h]
theorem waitL_le (ls : List Lk) (ps : List Pl9) : (waitL ls ps).length ≤ ps.length := by
  unfold waitL
  rw [List.length_map]
  exact List.length_filter_le _ _
theorem ints_oneC (n : Int) : ∀ u ∈ [Value.int .i64 n], u.oneCell' = true := by
  intro u hu
  rw [List.mem_singleton.1 hu]
  rfl

set_option maxHeartbeats 16000000 in
set_option maxRecDepth 100000 in
theorem rwaits_any (T : Tb9) (t B : Nat) (Z : Nat → Prop) (i : Nat) (w : World) (h : DT w B Z t T) (hs : Sm9 T) (hi : i < T.ps.length) : Calls Try.prog 41 #[.pointer (some ⟨t, 0, none⟩), .int .i64 (i : Int)] w fun e w' => ∃ v, e = .returned v ∧ OwnR 1 3 IntR w' w.heap.size v (waitI T i) ∧ Below w.heap.size w w' := by
  obtain ⟨i0, hi0, hz0, hz1, hz2⟩ := info_parts Try.infoInt
  obtain ⟨x, hx⟩ : ∃ x, T.ps[i] = x := ⟨_, rfl⟩
  have HW : Hid (waitI T i = waitL x.ls (T.ps.take i)) := by
    show _ = _
    unfold waitI
    rw [List.getElem?_eq_getElem hi, hx]
    rfl
  obtain ⟨q0, cap, hbox, hrow⟩ := h.reads
  have hat := place_at hrow hi
  rw [hx] at hat
  obtain ⟨b, off, qi, ci, rfl, _, e1, hri⟩ := hat
  have HRI := Lib.hid hri
  have HR := Lib.hid hrow
  have hzt : t < w.heap.size := (Array.getElem?_eq_some_iff.1 hbox).1
  have hzb := World.block_lt_of_cell? _ _ e1
  have ht0 := (two_of hbox).1.1
  have C0 := Lib.hid (And.intro ht0 e1)
  have hli : x.ls.length ≤ 1099511627776 := by have := hs.ls x (hx ▸ List.getElem_mem hi); omega
  have hps := hs.ps
  have hlt0 : (i : Int) < (T.ps.length : Int) := by omega
  have HS := Lib.hid hs
  clear h hs hbox hrow hri e1 ht0 hx
  rw [HW.out]
  clear HW
  go_enter Try.func41, Try.ntmps41
  go_wp2
  go_loopw [5, 6] (fun v j wr => ∃ k : Nat, k ≤ i ∧ j = .int .i64 k ∧ wr.ownsRow w.heap.size 3 1 v (waitL x.ls (T.ps.take k)).length ((waitL x.ls (T.ps.take k)).map fun n => Value.int .i64 n) ∧ Below w.heap.size w wr) (fun _ j _ => i - (intOf j).toNat)
  case atStart => exact ⟨0, Nat.zero_le _, rfl, World.ownsRow_nil _ _ _ _, Below.refl _ _⟩
  case round =>
    obtain ⟨k, hk, rfl, hown, hb1⟩ := hrel
    have HO := Lib.hid hown
    have HB1 := Lib.hid hb1
    have hsz := hb1.size
    clear hown
    by_cases hki : k < i
    · have hkii : (k : Int) < (i : Int) := by omega
      have hkl : k < T.ps.length := by omega
      have hkli : (k : Int) < (T.ps.length : Int) := by omega
      obtain ⟨y, hy⟩ : ∃ y, T.ps[k] = y := ⟨_, rfl⟩
      have hat := place_at HR.out hkl
      rw [hy] at hat
      obtain ⟨b', off', qk, ck, e0, p0, p1, hrk⟩ := hat
      injection e0 with e0
      injection e0 with e0 e0' _
      subst e0 e0'
      have HRK := Lib.hid hrk
      have hlk : y.ls.length ≤ 1099511627776 := by have := HS.out.ls y (hy ▸ List.getElem_mem hkl); omega
      have ht : t < wr.heap.size := by omega
      have hbw : b < wr.heap.size := by omega
      have c0 := cell_later hb1 C0.out.1
      have c1 := cell_later hb1 C0.out.2
      have d0 := cell_later hb1 p0
      have d1 := cell_later hb1 p1
      have D0 := Lib.hid (And.intro (cell_later hb1 C0.out.1) (cell_later hb1 p0))
      have HT : Hid (waitL x.ls (T.ps.take (k + 1)) = waitL x.ls (T.ps.take k) ++ if anyM x.ls y.ls = true then [y.pos] else []) := by
        show _ = _
        rw [waitL_take hkl, hy]
      have hle : (waitL x.ls (T.ps.take k)).length ≤ 2147483648 := by have := waitL_le x.ls (T.ps.take k); rw [List.length_take] at this; omega
      clear p0 p1 hrk hy
      obtain ⟨m, hm⟩ : ∃ m, anyM x.ls y.ls = m := ⟨_, rfl⟩
      have HM := Lib.hid hm
      rw [hm] at HT
      clear hm
      obtain ⟨K, hK⟩ : ∃ K, waitL x.ls (T.ps.take k) = K := ⟨_, rfl⟩
      rw [hK] at HO hle HT
      clear hK
      go_wp2
      go_region_held3 (fun w' => w'.cell? ⟨t, 0, none⟩ = some (.slice (some ⟨b, off, none⟩) T.ps.length cap) ∧ w'.cell? ⟨b, off + i * 2 + 1, none⟩ = some (.slice qi x.ls.length ci) ∧ w'.cell? ⟨b, off + k * 2 + 1, none⟩ = some (.slice qk y.ls.length ck)) (go_simp)
        (first | (go_at_call 28; refine (rmeetAny_any qi qk ci ck x.ls y.ls _ (HRI.out.later (by have hb1 := HB1.out; (repeat (first | exact Below.refl _ _ | assumption | refine Below.drew ?_ | refine below_drewN ?_ _ | refine Below.alloc ?_ (by first | omega | (simp; done) | (simp; omega)) _ | refine Below.setCell ?_ (by first | omega | (simp; done) | (simp; omega)) _ | refine Below.trans ?_ (Below.mono (by assumption) (by first | omega | (simp; done) | (simp; omega)))))) fun _ _ h => h) (HRK.out.later (by have hb1 := HB1.out; (repeat (first | exact Below.refl _ _ | assumption | refine Below.drew ?_ | refine below_drewN ?_ _ | refine Below.alloc ?_ (by first | omega | (simp; done) | (simp; omega)) _ | refine Below.setCell ?_ (by first | omega | (simp; done) | (simp; omega)) _ | refine Below.trans ?_ (Below.mono (by assumption) (by first | omega | (simp; done) | (simp; omega)))))) fun _ _ h => h) hli hlk).mono ?_; rintro e wv ⟨rfl, hbv⟩; rw [HM.out]; (have hcv : ∀ b o, b < wr.heap.size → wv.cell? ⟨b, o, none⟩ = wr.cell? ⟨b, o, none⟩ := fun b o h => hbv.cell (p := ⟨b, o, none⟩) h); have hzv := hbv.size; (try simp at hzv); (have x1 : t < wv.heap.size := by omega); (have x2 : b < wv.heap.size := by omega)))
      rename World => w5
      cases m with
      | false =>
        go_wp2
        go_roundw
        case rel => exact ⟨k + 1, by omega, by go_num, by rw [HT.out]; simpa using own_later HO.out (by (repeat (first | exact Below.refl _ _ | assumption | refine Below.drew ?_ | refine below_drewN ?_ _ | refine Below.alloc ?_ (by first | omega | (simp; done) | (simp; omega)) _ | refine Below.setCell ?_ (by first | omega | (simp; done) | (simp; omega)) _ | refine Below.trans ?_ (Below.mono (by assumption) (by first | omega | (simp; done) | (simp; omega)))))), by (repeat (first | exact Below.refl _ _ | assumption | refine Below.drew ?_ | refine below_drewN ?_ _ | refine Below.alloc ?_ (by first | omega | (simp; done) | (simp; omega)) _ | refine Below.setCell ?_ (by first | omega | (simp; done) | (simp; omega)) _ | refine Below.trans ?_ (Below.mono (by assumption) (by first | omega | (simp; done) | (simp; omega)))))⟩
        case measure => simp [intOf]; omega
      | true =>
        have HO2 := Lib.hid (own_later HO.out (show Below wr.heap.size wr w5 by (repeat (first | exact Below.refl _ _ | assumption | refine Below.drew ?_ | refine below_drewN ?_ _ | refine Below.alloc ?_ (by first | omega | (simp; done) | (simp; omega)) _ | refine Below.setCell ?_ (by first | omega | (simp; done) | (simp; omega)) _ | refine Below.trans ?_ (Below.mono (by assumption) (by first | omega | (simp; done) | (simp; omega)))))))
        have hb5 : Below w.heap.size w w5 := by (repeat (first | exact Below.refl _ _ | assumption | refine Below.drew ?_ | refine below_drewN ?_ _ | refine Below.alloc ?_ (by first | omega | (simp; done) | (simp; omega)) _ | refine Below.setCell ?_ (by first | omega | (simp; done) | (simp; omega)) _ | refine Below.trans ?_ (Below.mono (by assumption) (by first | omega | (simp; done) | (simp; omega)))))
        have HB5 := Lib.hid hb5
        have e0 := (show w5.cell? ⟨b, off + k * 2, none⟩ = some (.int .i64 y.pos) from (hcv b _ hbw).trans D0.out.2)
        have hs5 := hb5.size
        clear hcv
        go_wp2_with (first | (at_builtin; refine wpList_append_own _ rfl _ _ 37 rfl w.heap.size 3 i0 (.int .i64 0) 1 8 Try.underlying37 hi0 hz0 hz1 hz2 rfl (by decide) _ K.length (K.map fun n => Value.int .i64 n) rfl (HO2.out.alloc _) ⟨w5.heap.size, 0, none⟩ 1 1 [.int .i64 y.pos] rfl rfl (cells_alloc _ _ _) (ints_oneC _) (by unfold maxLen; omega) (by omega) (by simp; omega) ?_; intro v' w6 hown6 hgrow6 _))
        have HB6 : Hid (Below w.heap.size w w6) := Lib.hid ((HB5.out.alloc hs5 _).grown hgrow6 (by simp; omega) (fun g hg => (HO2.out.lt g hg).1))
        go_roundw
        case rel => exact ⟨k + 1, by omega, by go_num, by rw [HT.out]; simpa using hown6, HB6.out⟩
        case measure => simp [intOf]; omega
    · have hkii : ¬ (k : Int) < (i : Int) := by omega
      have hke : k = i := by omega
      subst hke
      go_wp2
      go_ret
      exact ⟨_, rfl, iC_own HO.out, HB1.out⟩
end Go.Proofs.Ytefdhmdkcpgfcaa
