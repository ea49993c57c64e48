/- Walks of layer 8: which indexes, tables, procedures may be. -/
import Derived.Test.YtkgkkcefnonejaaGreatT7
namespace Go.Proofs.YtkgkkcefnonejaaGreat
open Go.RowKit

set_option maxHeartbeats 4000000 in
set_option maxRecDepth 100000 in
theorem ix1_any (c : Ix) (vs : List Value) (w0 w : World) (x y b m cc : Nat) (pc : Option Addr) (ks : List (List UInt8)) (hR : IxR w0 c vs) (hb0 : Below w0.heap.size w0 w) (hB : w0.heap.size ≤ b) (h : AskX w b x ks) (hk : ks.length ≤ 1000000) (hm : m ≤ 1099511627776) (hy : w.cell? ⟨y, 1, none⟩ = some (.slice pc m cc)) (hyb : y ≠ b) :
    Calls Tryz.prog 132 #[.agg vs.toArray, .pointer (some ⟨x, 0, none⟩), .pointer (some ⟨y, 0, none⟩)] w fun e w' => e = .returned (.bool ((isNm (bs c.nm) && !decide (bs c.nm ∈ ks)) && mayPl c.cols m)) ∧ (isNm (bs c.nm) = true → AskX w' b x (ks ++ [bs c.nm])) ∧ Only (fun k => k = b) w w' := by
  obtain ⟨p, cp, rfl, r1⟩ := hR
  have HR := Lib.hid r1
  have HB0 := Lib.hid hb0
  have hbl := h.lt
  have hyl := cell_lt hy
  obtain ⟨q, c0, hx, hq⟩ := h.ask hk
  have HQ := Lib.hid hq
  clear hq h r1 hb0
  obtain ⟨g, hg⟩ : ∃ g, (isNm (bs c.nm) && !decide (bs c.nm ∈ ks)) = g := ⟨_, rfl⟩
  have HG := Lib.hid hg
  rw [hg]
  clear hg
  cases g with
  | false =>
    go_enter Tryz.func132, Tryz.ntmps132
    go_wp2_with (first | (go_at_call 72; refine (HQ.out c.nm _ (by (repeat (first | exact Below.refl _ _ | assumption | refine Below.drew ?_ | refine below_drewN ?_ _ | refine Below.alloc ?_ (by first | omega | (simp; done) | (simp; omega)) _ | refine Below.setCell ?_ (by first | omega | (simp; done) | (simp; omega)) _ | refine Below.trans ?_ (Below.mono (by assumption) (by first | omega | (simp; done) | (simp; omega))))))).mono ?_; rintro e w1 ⟨rfl, ha, hb⟩; rw [HG.out]))
    go_ret
    exact ⟨rfl, ha, ((Only.refl _ _).alloc _).trans hb⟩
  | true =>
    go_enter Tryz.func132, Tryz.ntmps132
    go_wp2_with (first
      | (go_at_call 72; refine (HQ.out c.nm _ (by (repeat (first | exact Below.refl _ _ | assumption | refine Below.drew ?_ | refine below_drewN ?_ _ | refine Below.alloc ?_ (by first | omega | (simp; done) | (simp; omega)) _ | refine Below.setCell ?_ (by first | omega | (simp; done) | (simp; omega)) _ | refine Below.trans ?_ (Below.mono (by assumption) (by first | omega | (simp; done) | (simp; omega))))))).mono ?_; rintro e w1 ⟨rfl, ha, hb⟩; rw [HG.out]; have hc1 : w1.cell? ⟨w.heap.size, 1, none⟩ = some (.slice p c.cols.length cp) := cell_at (hb.block w.heap.size (by simp) (by omega)) (by simp); have hc2 : w1.cell? ⟨y, 1, none⟩ = some (.slice pc m cc) := cell_at (hb.block y (by simp; omega) hyb) (by simpa using cell_later ((Below.refl _ _).alloc (Nat.le_refl _) _) hy))
      | (go_at_call 127; refine (places_any p cp c.cols m _ hm (HR.out.later (below_only (HB0.out.alloc HB0.out.size _) hb hB) fun _ _ h => h)).mono ?_; rintro e w2 ⟨rfl, hb2⟩))
    go_ret
    exact ⟨ret_bool (by simp), fun h => (ha h).later hb2, (((Only.refl _ _).alloc _).trans hb).trans (Only.of hb2)⟩

theorem mayIxs_len {t : Tb} (h : ¬ t.ixs.length ≤ 4) : mayIxs t = false := by
  cases e : mayIxs t with
  | false => rfl
  | true =>
    simp only [mayIxs, Bool.and_eq_true, decide_eq_true_eq] at e
    exact absurd e.1 h

set_option maxHeartbeats 4000000 in
set_option maxRecDepth 100000 in
theorem indexes_any (t : Tb) (vs : List Value) (w : World) (hR : TbR w t vs) (hm : t.cols.length ≤ 1099511627776) :
    Calls Tryz.prog 76 #[.agg vs.toArray] w fun e w' => e = .returned (.bool (mayIxs t)) ∧ Below w.heap.size w w' := by
  obtain ⟨pc, cc, pk, ck, px, cx, rfl, r1, r2, r3⟩ := hR
  have HR := Lib.hid r3
  clear r1 r2 r3
  by_cases hl : t.ixs.length ≤ 4
  · have hl' : t.ixs.length ≤ 1000000 := by omega
    have hfr : decide ((t.ixs.length : Int) ≤ 4) = true := decide_eq_true (by omega)
    have HE : Hid (mayIxs t = allB t.ixs.length (fun i => newNm (t.ixs.map fun x => bs x.nm) i && (t.ixs[i]?).any fun x => mayPl x.cols t.cols.length)) := by
      show mayIxs t = _
      simp [mayIxs, hl]
    go_enter Tryz.func76, Tryz.ntmps76
    go_wp2_with fail
    refine (newName_any _).mono ?_
    rintro e w1 ⟨q, b, rfl, ha, hb, hB⟩
    have HB1 : Hid (Below w.heap.size w w1) := by
      show Below w.heap.size w w1
      (repeat (first | exact Below.refl _ _ | assumption | refine Below.drew ?_ | refine below_drewN ?_ _ | refine Below.alloc ?_ (by first | omega | (simp; done) | (simp; omega)) _ | refine Below.setCell ?_ (by first | omega | (simp; done) | (simp; omega)) _ | refine Below.trans ?_ (Below.mono (by assumption) (by first | omega | (simp; done) | (simp; omega)))))
    have HA := Lib.hid ha
    have hs := hb.size
    simp at hs hB
    obtain ⟨hc, hf⟩ := bcell hb
    have hz : w.heap.size < w1.heap.size := by omega
    have HC1 : Hid (w1.cell? ⟨w.heap.size, 1, none⟩ = some (.slice pc t.cols.length cc)) := by
      show w1.cell? _ = _
      rw [hc _ _ (by simp)]
      simp
    clear ha hb
    go_wp2_with (first
      | (go_at_call 131; refine (evIx_any w _ px cx t.ixs w1.heap.size w.heap.size (fun i => newNm (t.ixs.map fun x => bs x.nm) i && (t.ixs[i]?).any fun x => mayPl x.cols t.cols.length) (fun k wr => AskX wr b w1.heap.size ((t.ixs.map fun x => bs x.nm).take k) ∧ wr.cell? ⟨w.heap.size, 1, none⟩ = some (.slice pc t.cols.length cc)) hl' HR.out ?_ ?_ ?_ ?_).mono ?_))
    · exact ⟨⟨q, heap_alloc_new w1 _, HA.out.later ((Below.refl _ _).alloc (Nat.le_refl _) _)⟩, cell_later ((Below.refl _ _).alloc (Nat.le_refl _) _) HC1.out⟩
    · exact below_two HB1.out ((Below.refl _ _).alloc (Nat.le_refl _) _)
    · exact fun k v1 v2 i2 hv => ⟨i2.1.later hv, cell_later hv i2.2⟩
    · rintro k hk vs v1 hR ⟨i2, i3⟩ hv
      refine (ix1_any t.ixs[k] vs w v1 _ _ b t.cols.length cc pc _ hR hv (by omega) i2 (by simp; omega) hm i3 (by omega)).mono ?_
      rintro e v2 ⟨rfl, g1, g2⟩
      have e1 : ((t.ixs[k]?).any fun x => mayPl x.cols t.cols.length) = mayPl t.ixs[k].cols t.cols.length := by simp [hk]
      have e2 := newNm_at (fun x : Ix => bs x.nm) t.ixs k hk
      refine ⟨ret_bool (by rw [e1, e2]), fun h => ?_, below_only hv g2 (by omega)⟩
      rw [e2, Bool.and_eq_true, Bool.and_eq_true] at h
      rw [← names_snoc (fun x : Ix => bs x.nm) t.ixs k hk]
      exact ⟨g1 h.1.1, cell_at (g2.block w.heap.size (by have := hv.size; have := cell_lt i3; omega) (by omega)) i3⟩
    · rintro e w2 ⟨rfl, hb2⟩
      go_wp2
      go_ret
      exact ⟨ret_bool HE.out.symm, hb2⟩
  · have hfr : decide ((t.ixs.length : Int) ≤ 4) = false := decide_eq_false (by omega)
    have HE : Hid (mayIxs t = false) := mayIxs_len hl
    clear hl
    go_enter Tryz.func76, Tryz.ntmps76
    go_wp2_with fail
    refine (newName_any _).mono ?_
    rintro e w1 ⟨q, b, rfl, ha, hb, hB⟩
    have hs := hb.size
    simp at hs hB
    obtain ⟨hc, hf⟩ := bcell hb
    have hz : w.heap.size < w1.heap.size := by omega
    clear ha
    go_wp2
    go_ret
    exact ⟨ret_bool HE.out.symm, by (repeat (first | exact Below.refl _ _ | assumption | refine Below.drew ?_ | refine below_drewN ?_ _ | refine Below.alloc ?_ (by first | omega | (simp; done) | (simp; omega)) _ | refine Below.setCell ?_ (by first | omega | (simp; done) | (simp; omega)) _ | refine Below.trans ?_ (Below.mono (by assumption) (by first | omega | (simp; done) | (simp; omega)))))⟩

set_option maxHeartbeats 8000000 in
set_option maxRecDepth 100000 in
theorem table_any (t : Tb) (vs : List Value) (w : World) (hR : TbR w t vs) (hm : t.cols.length ≤ 1099511627776) :
    Calls Tryz.prog 38 #[.agg vs.toArray] w fun e w' => e = .returned (.bool (mayTb t)) ∧ Below w.heap.size w w' := by
  have HT := Lib.hid hR
  obtain ⟨pc, cc, pk, ck, px, cx, rfl, r1, r2, r3⟩ := hR
  have HR1 := Lib.hid r1
  clear r1 r2 r3
  cases h1 : isNm (bs t.nm) with
  | false =>
    have HE : Hid (mayTb t = false) := by
      show mayTb t = false
      simp [mayTb, h1]
    go_enter Tryz.func38, Tryz.ntmps38
    go_wp2_with (first | (go_at_call 73; refine (name_any _ _).mono ?_; rintro e w1 ⟨rfl, he⟩; rw [h1, he]; clear he))
    go_ret
    exact ⟨ret_bool HE.out.symm, by (repeat (first | exact Below.refl _ _ | assumption | refine Below.drew ?_ | refine below_drewN ?_ _ | refine Below.alloc ?_ (by first | omega | (simp; done) | (simp; omega)) _ | refine Below.setCell ?_ (by first | omega | (simp; done) | (simp; omega)) _ | refine Below.trans ?_ (Below.mono (by assumption) (by first | omega | (simp; done) | (simp; omega)))))⟩
  | true =>
    cases h2 : mayCols t.cols with
    | false =>
      have HE : Hid (mayTb t = false) := by
        show mayTb t = false
        simp [mayTb, h2]
      go_enter Tryz.func38, Tryz.ntmps38
      go_wp2_with (first
        | (go_at_call 73; refine (name_any _ _).mono ?_; rintro e w1 ⟨rfl, he⟩; rw [h1, he]; clear he)
        | (go_at_call 74; refine (columns_any pc cc t.cols _ (HR1.out.later (by (repeat (first | exact Below.refl _ _ | assumption | refine Below.drew ?_ | refine below_drewN ?_ _ | refine Below.alloc ?_ (by first | omega | (simp; done) | (simp; omega)) _ | refine Below.setCell ?_ (by first | omega | (simp; done) | (simp; omega)) _ | refine Below.trans ?_ (Below.mono (by assumption) (by first | omega | (simp; done) | (simp; omega)))))) fun _ _ h => h)).mono ?_; rintro e w2 ⟨rfl, hb2⟩; rw [h2]))
      go_ret
      exact ⟨ret_bool HE.out.symm, by (repeat (first | exact Below.refl _ _ | assumption | refine Below.drew ?_ | refine below_drewN ?_ _ | refine Below.alloc ?_ (by first | omega | (simp; done) | (simp; omega)) _ | refine Below.setCell ?_ (by first | omega | (simp; done) | (simp; omega)) _ | refine Below.trans ?_ (Below.mono (by assumption) (by first | omega | (simp; done) | (simp; omega)))))⟩
    | true =>
      cases h3 : mayKey t with
      | false =>
        have HE : Hid (mayTb t = false) := by
          show mayTb t = false
          simp [mayTb, h3]
        go_enter Tryz.func38, Tryz.ntmps38
        go_wp2_with (first
          | (go_at_call 73; refine (name_any _ _).mono ?_; rintro e w1 ⟨rfl, he⟩; rw [h1, he]; clear he)
          | (go_at_call 74; refine (columns_any pc cc t.cols _ (HR1.out.later (by (repeat (first | exact Below.refl _ _ | assumption | refine Below.drew ?_ | refine below_drewN ?_ _ | refine Below.alloc ?_ (by first | omega | (simp; done) | (simp; omega)) _ | refine Below.setCell ?_ (by first | omega | (simp; done) | (simp; omega)) _ | refine Below.trans ?_ (Below.mono (by assumption) (by first | omega | (simp; done) | (simp; omega)))))) fun _ _ h => h)).mono ?_; rintro e w2 ⟨rfl, hb2⟩; rw [h2]; obtain ⟨hc2, hf2⟩ := bcell hb2; have hs2 := hb2.size; simp at hs2; have hz2 : w.heap.size < w2.heap.size := by omega)
          | (go_at_call 75; refine (key_any t _ _ (HT.out.later (by (repeat (first | exact Below.refl _ _ | assumption | refine Below.drew ?_ | refine below_drewN ?_ _ | refine Below.alloc ?_ (by first | omega | (simp; done) | (simp; omega)) _ | refine Below.setCell ?_ (by first | omega | (simp; done) | (simp; omega)) _ | refine Below.trans ?_ (Below.mono (by assumption) (by first | omega | (simp; done) | (simp; omega))))))) hm).mono ?_; rintro e w3 ⟨rfl, hb3⟩; rw [h3]))
        go_ret
        exact ⟨ret_bool HE.out.symm, by (repeat (first | exact Below.refl _ _ | assumption | refine Below.drew ?_ | refine below_drewN ?_ _ | refine Below.alloc ?_ (by first | omega | (simp; done) | (simp; omega)) _ | refine Below.setCell ?_ (by first | omega | (simp; done) | (simp; omega)) _ | refine Below.trans ?_ (Below.mono (by assumption) (by first | omega | (simp; done) | (simp; omega)))))⟩
      | true =>
        have HE : Hid (mayTb t = mayIxs t) := by
          show mayTb t = mayIxs t
          simp [mayTb, h1, h2, h3]
        go_enter Tryz.func38, Tryz.ntmps38
        go_wp2_with (first
          | (go_at_call 73; refine (name_any _ _).mono ?_; rintro e w1 ⟨rfl, he⟩; rw [h1, he]; clear he)
          | (go_at_call 74; refine (columns_any pc cc t.cols _ (HR1.out.later (by (repeat (first | exact Below.refl _ _ | assumption | refine Below.drew ?_ | refine below_drewN ?_ _ | refine Below.alloc ?_ (by first | omega | (simp; done) | (simp; omega)) _ | refine Below.setCell ?_ (by first | omega | (simp; done) | (simp; omega)) _ | refine Below.trans ?_ (Below.mono (by assumption) (by first | omega | (simp; done) | (simp; omega)))))) fun _ _ h => h)).mono ?_; rintro e w2 ⟨rfl, hb2⟩; rw [h2]; obtain ⟨hc2, hf2⟩ := bcell hb2; have hs2 := hb2.size; simp at hs2; have hz2 : w.heap.size < w2.heap.size := by omega)
          | (go_at_call 75; refine (key_any t _ _ (HT.out.later (by (repeat (first | exact Below.refl _ _ | assumption | refine Below.drew ?_ | refine below_drewN ?_ _ | refine Below.alloc ?_ (by first | omega | (simp; done) | (simp; omega)) _ | refine Below.setCell ?_ (by first | omega | (simp; done) | (simp; omega)) _ | refine Below.trans ?_ (Below.mono (by assumption) (by first | omega | (simp; done) | (simp; omega))))))) hm).mono ?_; rintro e w3 ⟨rfl, hb3⟩; rw [h3]; obtain ⟨hc3, hf3⟩ := bcell hb3; have hs3 := hb3.size; have hz3 : w.heap.size < w3.heap.size := by omega)
          | (go_at_call 76; refine (indexes_any t _ _ (HT.out.later (by (repeat (first | exact Below.refl _ _ | assumption | refine Below.drew ?_ | refine below_drewN ?_ _ | refine Below.alloc ?_ (by first | omega | (simp; done) | (simp; omega)) _ | refine Below.setCell ?_ (by first | omega | (simp; done) | (simp; omega)) _ | refine Below.trans ?_ (Below.mono (by assumption) (by first | omega | (simp; done) | (simp; omega))))))) hm).mono ?_; rintro e w4 ⟨rfl, hb4⟩))
        go_ret
        exact ⟨ret_bool (by rw [HE.out]), by (repeat (first | exact Below.refl _ _ | assumption | refine Below.drew ?_ | refine below_drewN ?_ _ | refine Below.alloc ?_ (by first | omega | (simp; done) | (simp; omega)) _ | refine Below.setCell ?_ (by first | omega | (simp; done) | (simp; omega)) _ | refine Below.trans ?_ (Below.mono (by assumption) (by first | omega | (simp; done) | (simp; omega)))))⟩
end Go.Proofs.YtkgkkcefnonejaaGreat
