/- Walks of layer 8: which catalogs are right. -/
import Derived.Test.YtkgkkcefnonejaaGreatT9
namespace Go.Proofs.YtkgkkcefnonejaaGreat
open Go.RowKit

set_option maxHeartbeats 4000000 in
set_option maxRecDepth 100000 in
theorem right1_any (c : Tb) (vs : List Value) (w0 w : World) (x b : Nat) (ks : List (List UInt8)) (hR : TbR w0 c vs) (hb0 : Below w0.heap.size w0 w) (hB : w0.heap.size ≤ b) (h : AskX w b x ks) (hk : ks.length ≤ 1000000) (hm : c.cols.length ≤ 1099511627776) :
    Calls Tryz.prog 37 #[.agg vs.toArray, .pointer (some ⟨x, 0, none⟩)] w fun e w' => e = .returned (.bool ((isNm (bs c.nm) && !decide (bs c.nm ∈ ks)) && mayTb c)) ∧ (isNm (bs c.nm) = true → AskX w' b x (ks ++ [bs c.nm])) ∧ Only (fun k => k = b) w w' := by
  have HT := Lib.hid hR
  obtain ⟨pc, cc, pk, ck, px, cx, rfl, _, _, _⟩ := hR
  have HB0 := Lib.hid hb0
  have hbl := h.lt
  obtain ⟨q, c0, hx, hq⟩ := h.ask hk
  have HQ := Lib.hid hq
  clear hq h hb0
  obtain ⟨g, hg⟩ : ∃ g, (isNm (bs c.nm) && !decide (bs c.nm ∈ ks)) = g := ⟨_, rfl⟩
  have HG := Lib.hid hg
  rw [hg]
  clear hg
  cases g with
  | false =>
    go_enter Tryz.func37, Tryz.ntmps37
    go_wp2_with (first | (go_at_call 72; refine (HQ.out c.nm _ (by (repeat (first | exact Below.refl _ _ | assumption | refine Below.drew ?_ | refine below_drewN ?_ _ | refine Below.alloc ?_ (by first | omega | (simp; done) | (simp; omega)) _ | refine Below.setCell ?_ (by first | omega | (simp; done) | (simp; omega)) _ | refine Below.trans ?_ (Below.mono (by assumption) (by first | omega | (simp; done) | (simp; omega))))))).mono ?_; rintro e w1 ⟨rfl, ha, hb⟩; rw [HG.out]))
    go_ret
    exact ⟨rfl, ha, ((Only.refl _ _).alloc _).trans hb⟩
  | true =>
    go_enter Tryz.func37, Tryz.ntmps37
    go_wp2_with (first
      | (go_at_call 72; refine (HQ.out c.nm _ (by (repeat (first | exact Below.refl _ _ | assumption | refine Below.drew ?_ | refine below_drewN ?_ _ | refine Below.alloc ?_ (by first | omega | (simp; done) | (simp; omega)) _ | refine Below.setCell ?_ (by first | omega | (simp; done) | (simp; omega)) _ | refine Below.trans ?_ (Below.mono (by assumption) (by first | omega | (simp; done) | (simp; omega))))))).mono ?_; rintro e w1 ⟨rfl, ha, hb⟩; rw [HG.out]; have hc0 : w1.cell? ⟨w.heap.size, 0, none⟩ = some _ := cell_at (hb.block w.heap.size (by simp) (by omega)) (by simp; rfl); have hc1 : w1.cell? ⟨w.heap.size, 1, none⟩ = some _ := cell_at (hb.block w.heap.size (by simp) (by omega)) (by simp; rfl); have hc2 : w1.cell? ⟨w.heap.size, 2, none⟩ = some _ := cell_at (hb.block w.heap.size (by simp) (by omega)) (by simp; rfl); have hc3 : w1.cell? ⟨w.heap.size, 3, none⟩ = some _ := cell_at (hb.block w.heap.size (by simp) (by omega)) (by simp; rfl); have hc4 : w1.cell? ⟨w.heap.size, 4, none⟩ = some _ := cell_at (hb.block w.heap.size (by simp) (by omega)) (by simp; rfl))
      | (go_at_call 38; refine (table_any c _ _ (HT.out.later (below_only (HB0.out.alloc HB0.out.size _) hb hB)) hm).mono ?_; rintro e w2 ⟨rfl, hb2⟩))
    go_ret
    exact ⟨ret_bool (by simp), fun h => (ha h).later hb2, (((Only.refl _ _).alloc _).trans hb).trans (Only.of hb2)⟩

set_option maxHeartbeats 4000000 in
set_option maxRecDepth 100000 in
theorem right2_any (c : Pc) (vs : List Value) (w0 w : World) (x b : Nat) (ks : List (List UInt8)) (hR : PcR w0 c vs) (hb0 : Below w0.heap.size w0 w) (hB : w0.heap.size ≤ b) (h : AskX w b x ks) (hk : ks.length ≤ 1000000) :
    Calls Tryz.prog 40 #[.agg vs.toArray, .pointer (some ⟨x, 0, none⟩)] w fun e w' => e = .returned (.bool ((isNm (bs c.nm) && !decide (bs c.nm ∈ ks)) && mayPc c)) ∧ (isNm (bs c.nm) = true → AskX w' b x (ks ++ [bs c.nm])) ∧ Only (fun k => k = b) w w' := by
  have HT := Lib.hid hR
  obtain ⟨pp, cp, pb, cb, rfl, _, _⟩ := hR
  have HB0 := Lib.hid hb0
  have hbl := h.lt
  obtain ⟨q, c0, hx, hq⟩ := h.ask hk
  have HQ := Lib.hid hq
  clear hq h hb0
  obtain ⟨g, hg⟩ : ∃ g, (isNm (bs c.nm) && !decide (bs c.nm ∈ ks)) = g := ⟨_, rfl⟩
  have HG := Lib.hid hg
  rw [hg]
  clear hg
  cases g with
  | false =>
    go_enter Tryz.func40, Tryz.ntmps40
    go_wp2_with (first | (go_at_call 72; refine (HQ.out c.nm _ (by (repeat (first | exact Below.refl _ _ | assumption | refine Below.drew ?_ | refine below_drewN ?_ _ | refine Below.alloc ?_ (by first | omega | (simp; done) | (simp; omega)) _ | refine Below.setCell ?_ (by first | omega | (simp; done) | (simp; omega)) _ | refine Below.trans ?_ (Below.mono (by assumption) (by first | omega | (simp; done) | (simp; omega))))))).mono ?_; rintro e w1 ⟨rfl, ha, hb⟩; rw [HG.out]))
    go_ret
    exact ⟨rfl, ha, ((Only.refl _ _).alloc _).trans hb⟩
  | true =>
    go_enter Tryz.func40, Tryz.ntmps40
    go_wp2_with (first
      | (go_at_call 72; refine (HQ.out c.nm _ (by (repeat (first | exact Below.refl _ _ | assumption | refine Below.drew ?_ | refine below_drewN ?_ _ | refine Below.alloc ?_ (by first | omega | (simp; done) | (simp; omega)) _ | refine Below.setCell ?_ (by first | omega | (simp; done) | (simp; omega)) _ | refine Below.trans ?_ (Below.mono (by assumption) (by first | omega | (simp; done) | (simp; omega))))))).mono ?_; rintro e w1 ⟨rfl, ha, hb⟩; rw [HG.out]; have hc0 : w1.cell? ⟨w.heap.size, 0, none⟩ = some _ := cell_at (hb.block w.heap.size (by simp) (by omega)) (by simp; rfl); have hc1 : w1.cell? ⟨w.heap.size, 1, none⟩ = some _ := cell_at (hb.block w.heap.size (by simp) (by omega)) (by simp; rfl); have hc2 : w1.cell? ⟨w.heap.size, 2, none⟩ = some _ := cell_at (hb.block w.heap.size (by simp) (by omega)) (by simp; rfl); have hc3 : w1.cell? ⟨w.heap.size, 3, none⟩ = some _ := cell_at (hb.block w.heap.size (by simp) (by omega)) (by simp; rfl); have hc4 : w1.cell? ⟨w.heap.size, 4, none⟩ = some _ := cell_at (hb.block w.heap.size (by simp) (by omega)) (by simp; rfl))
      | (go_at_call 41; refine (proc_any c _ _ (HT.out.later (below_only (HB0.out.alloc HB0.out.size _) hb hB))).mono ?_; rintro e w2 ⟨rfl, hb2⟩))
    go_ret
    exact ⟨ret_bool (by simp), fun h => (ha h).later hb2, (((Only.refl _ _).alloc _).trans hb).trans (Only.of hb2)⟩

/-- Sizes that a catalog in memory keeps. -/
def Fits (c : Ct) : Prop := ∀ t ∈ c.tbs, t.cols.length ≤ 1099511627776
theorem rightC_long {c : Ct} (h : ¬ (c.tbs.length ≤ 8 ∧ c.prs.length ≤ 16)) : rightC c = false := by
  cases e : rightC c with
  | false => rfl
  | true =>
    simp only [rightC, Bool.and_eq_true, decide_eq_true_eq] at e
    exact absurd e.1.1 h

set_option maxHeartbeats 8000000 in
set_option maxRecDepth 100000 in
theorem right_any (c : Ct) (vs : List Value) (w : World) (hR : CtR w c vs) (hf : Fits c) :
    Calls Tryz.prog 12 #[.agg vs.toArray] w fun e w' => e = .returned (.bool (rightC c)) ∧ Below w.heap.size w w' := by
  obtain ⟨pt, ct, pp, cp, rfl, r1, r2⟩ := hR
  have HR1 := Lib.hid r1
  have HR2 := Lib.hid r2
  have HF := Lib.hid hf
  clear r1 r2 hf
  by_cases h8 : c.tbs.length ≤ 8
  · by_cases h16 : c.prs.length ≤ 16
    · have g8 : ¬ (8 : Int) < (c.tbs.length : Int) := by omega
      have g16 : ¬ (16 : Int) < (c.prs.length : Int) := by omega
      go_enter Tryz.func12, Tryz.ntmps12
      go_wp2_with fail
      refine (newName_any _).mono ?_
      rintro e w1 ⟨q1, b1, rfl, ha1, hb1, hB1⟩
      obtain ⟨hc1, hf1⟩ := bcell hb1
      have hs1 := hb1.size
      simp at hs1 hB1
      have hz1 : w.heap.size < w1.heap.size := by omega
      have HA1 := Lib.hid ha1
      have HW1 : Hid (Below w.heap.size w w1) := by
        show Below w.heap.size w w1
        (repeat (first | exact Below.refl _ _ | assumption | refine Below.drew ?_ | refine below_drewN ?_ _ | refine Below.alloc ?_ (by first | omega | (simp; done) | (simp; omega)) _ | refine Below.setCell ?_ (by first | omega | (simp; done) | (simp; omega)) _ | refine Below.trans ?_ (Below.mono (by assumption) (by first | omega | (simp; done) | (simp; omega)))))
      clear ha1 hb1
      go_wp2_with fail
      refine (newName_any _).mono ?_
      rintro e w2 ⟨q2, b2, rfl, ha2, hb2, hB2⟩
      obtain ⟨hc2, hf2⟩ := bcell hb2
      have hs2 := hb2.size
      have hz2 : w.heap.size < w2.heap.size := by omega
      have hbl := HA1.out.lt.2
      have HA2 := Lib.hid ha2
      have HA3 := Lib.hid (HA1.out.later hb2)
      have HW2 : Hid (Below w.heap.size w w2) := below_two HW1.out hb2
      clear ha2 hb2 HA1
      have HX1 : Hid (∀ W, Below w2.heap.size w2 W → W.heap[w2.heap.size]? = some (.cells #[.func (.func 72) #[] #[.pointer (some ⟨q1, 0, none⟩)]] 37 (0, 0)) → AskX W b1 w2.heap.size []) := fun W hW h => ⟨q1, h, HA3.out.later hW⟩
      have HX2 : Hid (∀ W, Below w2.heap.size w2 W → W.heap[w2.heap.size + 1]? = some (.cells #[.func (.func 72) #[] #[.pointer (some ⟨q2, 0, none⟩)]] 37 (0, 0)) → AskX W b2 (w2.heap.size + 1) []) := fun W hW h => ⟨q2, h, HA2.out.later hW⟩
      have HC2 : Hid (w2.cell? ⟨w.heap.size, 1, none⟩ = some (.slice pp c.prs.length cp)) := by
        show w2.cell? _ = _
        rw [hc2 _ _ hz1, hc1 _ _ (by simp)]
        simp
      clear HA2 HA3
      have HE : Hid (rightC c = (allB c.tbs.length (fun i => newNm (c.tbs.map fun x => bs x.nm) i && (c.tbs[i]?).any mayTb) && allB c.prs.length (fun i => newNm (c.prs.map fun x => bs x.nm) i && (c.prs[i]?).any mayPc))) := by
        show rightC c = _
        simp [rightC, h8, h16]
      go_wp2_with fail
      refine (evTb_any w _ pt ct c.tbs w2.heap.size (fun i => newNm (c.tbs.map fun x => bs x.nm) i && (c.tbs[i]?).any mayTb) (fun k wr => AskX wr b1 w2.heap.size ((c.tbs.map fun x => bs x.nm).take k) ∧ AskX wr b2 (w2.heap.size + 1) [] ∧ wr.cell? ⟨w.heap.size, 1, none⟩ = some (.slice pp c.prs.length cp)) (by omega) HR1.out ?_ ?_ ?_ ?_).mono ?_
      · refine ⟨HX1.out _ (by (repeat (first | exact Below.refl _ _ | assumption | refine Below.drew ?_ | refine below_drewN ?_ _ | refine Below.alloc ?_ (by first | omega | (simp; done) | (simp; omega)) _ | refine Below.setCell ?_ (by first | omega | (simp; done) | (simp; omega)) _ | refine Below.trans ?_ (Below.mono (by assumption) (by first | omega | (simp; done) | (simp; omega)))))) ?_, HX2.out _ (by (repeat (first | exact Below.refl _ _ | assumption | refine Below.drew ?_ | refine below_drewN ?_ _ | refine Below.alloc ?_ (by first | omega | (simp; done) | (simp; omega)) _ | refine Below.setCell ?_ (by first | omega | (simp; done) | (simp; omega)) _ | refine Below.trans ?_ (Below.mono (by assumption) (by first | omega | (simp; done) | (simp; omega)))))) ?_, cell_later (w := w2) (by (repeat (first | exact Below.refl _ _ | assumption | refine Below.drew ?_ | refine below_drewN ?_ _ | refine Below.alloc ?_ (by first | omega | (simp; done) | (simp; omega)) _ | refine Below.setCell ?_ (by first | omega | (simp; done) | (simp; omega)) _ | refine Below.trans ?_ (Below.mono (by assumption) (by first | omega | (simp; done) | (simp; omega)))))) HC2.out⟩
        · exact (Below.heap_alloc _ _ _ (by simp)).trans (heap_alloc_new w2 _)
        · have := heap_alloc_new (w2.alloc (.cells #[.func (.func 72) #[] #[.pointer (some ⟨q1, 0, none⟩)]] 37)) (.cells #[.func (.func 72) #[] #[.pointer (some ⟨q2, 0, none⟩)]] 37 (0, 0))
          simpa using this
      · exact below_two HW2.out (by (repeat (first | exact Below.refl _ _ | assumption | refine Below.drew ?_ | refine below_drewN ?_ _ | refine Below.alloc ?_ (by first | omega | (simp; done) | (simp; omega)) _ | refine Below.setCell ?_ (by first | omega | (simp; done) | (simp; omega)) _ | refine Below.trans ?_ (Below.mono (by assumption) (by first | omega | (simp; done) | (simp; omega))))))
      · exact fun k v1 v2 i2 hv => ⟨i2.1.later hv, i2.2.1.later hv, cell_later hv i2.2.2⟩
      · rintro k hk vs v1 hR ⟨i1, i2, i3⟩ hv
        refine (right1_any c.tbs[k] vs w v1 _ b1 _ hR hv (by omega) i1 (by simp; omega) (HF.out _ (List.getElem_mem hk))).mono ?_
        rintro e v2 ⟨rfl, g1, g2⟩
        have e1 : (c.tbs[k]?).any mayTb = mayTb c.tbs[k] := by simp [hk]
        have e2 := newNm_at (fun x : Tb => bs x.nm) c.tbs k hk
        refine ⟨ret_bool (by rw [e1, e2]), fun h => ?_, below_only hv g2 (by omega)⟩
        rw [e2, Bool.and_eq_true, Bool.and_eq_true] at h
        rw [← names_snoc (fun x : Tb => bs x.nm) c.tbs k hk]
        exact ⟨g1 h.1.1, i2.beside g2 (by omega) (fun k cs t fr hk => i1.ne hk), cell_at (g2.block w.heap.size (cell_lt i3) (by omega)) i3⟩
      · rintro e w4 ⟨rfl, hi4, hb4⟩
        have HB4 := Lib.hid hb4
        have hs4 := hb4.size
        cases hA : allB c.tbs.length (fun i => newNm (c.tbs.map fun x => bs x.nm) i && (c.tbs[i]?).any mayTb) with
        | false =>
          rw [hA] at HE
          clear hi4 hb4
          go_wp2
          go_ret
          exact ⟨ret_bool HE.out.symm, HB4.out⟩
        | true =>
          rw [hA] at HE
          obtain ⟨-, i2, i3⟩ := hi4 hA
          have HI2 := Lib.hid i2
          clear hb4 i2 hi4 hA
          go_wp2_with fail
          refine (evPc_any w _ pp cp c.prs (w2.heap.size + 1) (fun i => newNm (c.prs.map fun x => bs x.nm) i && (c.prs[i]?).any mayPc) (fun k wr => AskX wr b2 (w2.heap.size + 1) ((c.prs.map fun x : Pc => bs x.nm).take k)) (by omega) HR2.out HI2.out HB4.out (fun k v1 v2 i2 hv => i2.later hv) ?_).mono ?_
          · intro k hk vs v1 hR i1 hv
            refine (right2_any c.prs[k] vs w v1 _ b2 _ hR hv (by omega) i1 (by simp; omega)).mono ?_
            rintro e v2 ⟨rfl, g1, g2⟩
            have e1 : (c.prs[k]?).any mayPc = mayPc c.prs[k] := by simp [hk]
            have e2 := newNm_at (fun x : Pc => bs x.nm) c.prs k hk
            refine ⟨ret_bool (by rw [e1, e2]), fun h => ?_, below_only hv g2 (by omega)⟩
            rw [e2, Bool.and_eq_true, Bool.and_eq_true] at h
            rw [← names_snoc (fun x : Pc => bs x.nm) c.prs k hk]
            exact g1 h.1.1
          · rintro e w5 ⟨rfl, hb5⟩
            go_wp2
            go_ret
            exact ⟨ret_bool (by rw [HE.out]; simp), hb5⟩
    · have g8 : ¬ (8 : Int) < (c.tbs.length : Int) := by omega
      have g16 : (16 : Int) < (c.prs.length : Int) := by omega
      have HE : Hid (rightC c = false) := rightC_long (fun h => h16 h.2)
      go_enter Tryz.func12, Tryz.ntmps12
      go_wp2
      go_ret
      exact ⟨ret_bool HE.out.symm, by (repeat (first | exact Below.refl _ _ | assumption | refine Below.drew ?_ | refine below_drewN ?_ _ | refine Below.alloc ?_ (by first | omega | (simp; done) | (simp; omega)) _ | refine Below.setCell ?_ (by first | omega | (simp; done) | (simp; omega)) _ | refine Below.trans ?_ (Below.mono (by assumption) (by first | omega | (simp; done) | (simp; omega)))))⟩
  · have g8 : (8 : Int) < (c.tbs.length : Int) := by omega
    have HE : Hid (rightC c = false) := rightC_long (fun h => h8 h.1)
    go_enter Tryz.func12, Tryz.ntmps12
    go_wp2
    go_ret
    exact ⟨ret_bool HE.out.symm, by (repeat (first | exact Below.refl _ _ | assumption | refine Below.drew ?_ | refine below_drewN ?_ _ | refine Below.alloc ?_ (by first | omega | (simp; done) | (simp; omega)) _ | refine Below.setCell ?_ (by first | omega | (simp; done) | (simp; omega)) _ | refine Below.trans ?_ (Below.mono (by assumption) (by first | omega | (simp; done) | (simp; omega)))))⟩
end Go.Proofs.YtkgkkcefnonejaaGreat
