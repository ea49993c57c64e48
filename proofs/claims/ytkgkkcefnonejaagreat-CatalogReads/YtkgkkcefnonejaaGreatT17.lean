/- Walks of layer 8: a copy of a catalog. -/
import Derived.Test.YtkgkkcefnonejaaGreatT16
import Derived.Test.YtkgkkcefnonejaaGreatT16p
namespace Go.Proofs.YtkgkkcefnonejaaGreat
open Go.RowKit

/-- Sizes of a catalog that is copied. -/
structure CtF (c : Ct) : Prop where
  tbs : c.tbs.length ≤ 1000
  prs : c.prs.length ≤ 1000
  tb : ∀ t ∈ c.tbs, TbF t
  pc : ∀ p ∈ c.prs, PcF p

set_option maxHeartbeats 8000000 in
set_option maxRecDepth 100000 in
theorem cpCt_any (c : Ct) (vs : List Value) (w : World) (hR : CtR w c vs) (hF : CtF c) :
    Calls Tryz.prog 67 #[.agg vs.toArray] w fun e w' => ∃ us, e = .returned (.agg us.toArray) ∧ CtO w' w.heap.size c us ∧ Below w.heap.size w w' := by
  obtain ⟨pt, ct, pp, cp, rfl, r1, r2⟩ := hR
  have HR1 : Hid (∀ W, Below w.heap.size w W → RowR 5 (TbR W) W pt c.tbs) := fun W h => r1.later h (TbR.later h)
  have HR2 : Hid (∀ W, Below w.heap.size w W → RowR 5 (PcR W) W pp c.prs) := fun W h => r2.later h (PcR.later h)
  have HF := Lib.hid hF
  clear r1 r2 hF
  go_enter Tryz.func67, Tryz.ntmps67
  go_wp2
  go_region_law (first
    | (go_simp; go_at_call 110; refine (ceTb_any pt ct c.tbs _ (by have := HF.out.tbs; omega) (HR1.out _ (by (repeat (first | exact Below.refl _ _ | assumption | refine Below.drew ?_ | refine below_drewN ?_ _ | refine Below.alloc ?_ (by first | omega | (simp; done) | (simp; omega)) _ | refine Below.setCell ?_ (by first | omega | (simp; done) | (simp; omega)) _ | refine Below.trans ?_ (Below.mono (by assumption) (by first | omega | (simp; done) | (simp; omega))))))) HF.out.tb).mono ?_; rintro e w1 ⟨v1, rfl, hO1, hb1⟩; obtain ⟨q1, c1, rfl, -⟩ := hO1.form; (have hz1 := hb1.size); (try simp at hz1); (have ka1 : w1.cell? ⟨w.heap.size, 1, none⟩ = some (.slice pp c.prs.length cp) := cell_later hb1 (by simp)); (have kb0 : w1.cell? ⟨w.heap.size + 1, 0, none⟩ = some (.slice none 0 0) := cell_later hb1 (by simp)); (have kb1 : w1.cell? ⟨w.heap.size + 1, 1, none⟩ = some (.slice none 0 0) := cell_later hb1 (by simp)); (have fb0 : w1.frozen? ⟨w.heap.size + 1, 0, none⟩ = false := (hb1.frozen (by simp)).trans (by simp)); (have fb1 : w1.frozen? ⟨w.heap.size + 1, 1, none⟩ = false := (hb1.frozen (by simp)).trans (by simp)); (have HO1 := Lib.hid hO1); (clear hO1); (have HB1 : Hid (Below w.heap.size w w1) := (by show Below w.heap.size w w1; (repeat (first | exact Below.refl _ _ | assumption | refine Below.drew ?_ | refine below_drewN ?_ _ | refine Below.alloc ?_ (by first | omega | (simp; done) | (simp; omega)) _ | refine Below.setCell ?_ (by first | omega | (simp; done) | (simp; omega)) _ | refine Below.trans ?_ (Below.mono (by assumption) (by first | omega | (simp; done) | (simp; omega))))))))
    | (go_simp; go_at_call 111; refine (cePc_any pp cp c.prs _ (by have := HF.out.prs; omega) (HR2.out _ (by have hb0 := HB1.out; (repeat (first | exact Below.refl _ _ | assumption | refine Below.drew ?_ | refine below_drewN ?_ _ | refine Below.alloc ?_ (by first | omega | (simp; done) | (simp; omega)) _ | refine Below.setCell ?_ (by first | omega | (simp; done) | (simp; omega)) _ | refine Below.trans ?_ (Below.mono (by assumption) (by first | omega | (simp; done) | (simp; omega))))))) HF.out.pc).mono ?_; rintro e w2 ⟨v2, rfl, hO2, hb2⟩; obtain ⟨q2, c2, rfl, -⟩ := hO2.form; (have hz2 := hb2.size); (try simp at hz2); (have kc0 : w2.cell? ⟨w.heap.size + 1, 0, none⟩ = some (.slice none 0 0) := cell_later hb2 (by first | exact kb0 | simp [kb0])); (have kc1 : w2.cell? ⟨w.heap.size + 1, 1, none⟩ = some (.slice none 0 0) := cell_later hb2 (by first | exact kb1 | simp [kb1])); (have fc0 : w2.frozen? ⟨w.heap.size + 1, 0, none⟩ = false := (hb2.frozen (by first | omega | (simp; omega))).trans (by first | exact fb0 | simp [fb0])); (have fc1 : w2.frozen? ⟨w.heap.size + 1, 1, none⟩ = false := (hb2.frozen (by first | omega | (simp; omega))).trans (by first | exact fb1 | simp [fb1]))))
  all_goals
    go_wp2
    refine bodyPost_ret (v := .agg #[.slice q1 c.tbs.length c1, .slice q2 c.prs.length c2]) (by simp [results, Tryz.results67, go_sem, *]) rfl ?_
    have hb1' := HB1.out
    refine ⟨[.slice q1 c.tbs.length c1, .slice q2 c.prs.length c2], rfl, ⟨_, _, rfl, ?_, ?_⟩, by (repeat (first | with_reducible exact Below.refl _ _ | with_reducible assumption | refine Below.drew ?_ | refine Below.setCell ?_ (by first | omega | (simp; done) | (simp; omega)) _ | refine Below.alloc ?_ (by first | omega | (simp; done) | (simp; omega)) _ | refine Below.trans ?_ (Below.mono (by with_reducible assumption) (by first | omega | (simp; done) | (simp; omega)))))⟩
    · exact (HO1.out.keeps (S := [46]) (Keeps.low (Keeps.low (Keeps.of hb2) (by simp) _ _) (by simp) _ _) (by simp) (TbO.keeps (Keeps.low (Keeps.low (Keeps.of hb2) (by simp) _ _) (by simp) _ _))).mono (by simp; omega) (TbO.mono (by simp; omega))
    · exact (hO2.keeps (S := [52]) (Keeps.low (Keeps.low (Keeps.of (Below.refl _ _)) (by omega) _ _) (by omega) _ _) (by simp) (PcO.keeps (Keeps.low (Keeps.low (Keeps.of (Below.refl _ _)) (by omega) _ _) (by omega) _ _))).mono (by omega) (PcO.mono (by omega))

theorem mem_at {α : Type} {l : List α} {x : α} (h : x ∈ l) : ∃ i, ∃ g : i < l.length, l[i] = x := by
  obtain ⟨i, hi, e⟩ := List.getElem_of_mem h
  exact ⟨i, hi, e⟩
theorem newNm_isNm {α : Type} {f : α → List UInt8} {l : List α} {k : Nat} (h : k < l.length) (e : newNm (l.map f) k = true) : isNm (f l[k]) = true := by
  rw [newNm_at f l k h, Bool.and_eq_true] at e
  exact e.1
theorem nm_le {s : ByteArray} (h : isNm (bs s) = true) : s.size ≤ 16 := (isNm_size h).2
/-- What may be is small. -/
theorem mayCols_nm {l : List Col} (h : mayCols l = true) : (1 ≤ l.length ∧ l.length ≤ 16) ∧ ∀ c ∈ l, c.nm.size ≤ 16 ∧ typB c.ty = true := by
  simp only [mayCols, Bool.and_eq_true, decide_eq_true_eq] at h
  refine ⟨h.1, fun c hc => ?_⟩
  obtain ⟨i, hi, rfl⟩ := mem_at hc
  have := allB_iff.1 h.2 i hi
  rw [Bool.and_eq_true] at this
  refine ⟨nm_le (newNm_isNm (f := fun x : Col => bs x.nm) hi this.1), ?_⟩
  simpa [hi] using this.2
theorem mayPms_nm {l : List Pm} (h : mayPms l = true) : l.length ≤ 8 ∧ ∀ c ∈ l, c.nm.size ≤ 16 ∧ typB c.ty = true := by
  simp only [mayPms, Bool.and_eq_true, decide_eq_true_eq] at h
  refine ⟨h.1, fun c hc => ?_⟩
  obtain ⟨i, hi, rfl⟩ := mem_at hc
  have := allB_iff.1 h.2 i hi
  rw [Bool.and_eq_true] at this
  refine ⟨nm_le (newNm_isNm (f := fun x : Pm => bs x.nm) hi this.1), ?_⟩
  simpa [hi] using this.2
theorem mayIxs_nm {t : Tb} (h : mayIxs t = true) : t.ixs.length ≤ 4 ∧ ∀ c ∈ t.ixs, c.nm.size ≤ 16 ∧ mayPl c.cols t.cols.length = true := by
  simp only [mayIxs, Bool.and_eq_true, decide_eq_true_eq] at h
  refine ⟨h.1, fun c hc => ?_⟩
  obtain ⟨i, hi, rfl⟩ := mem_at hc
  have := allB_iff.1 h.2 i hi
  rw [Bool.and_eq_true] at this
  refine ⟨nm_le (newNm_isNm (f := fun x : Ix => bs x.nm) hi this.1), ?_⟩
  simpa [hi] using this.2
theorem mayBody_src {l : List ByteArray} (h : mayBody l = true) : (1 ≤ l.length ∧ l.length ≤ 8) ∧ ∀ s ∈ l, 1 ≤ s.size ∧ s.size ≤ 1000 := by
  simp only [mayBody, Bool.and_eq_true, decide_eq_true_eq] at h
  refine ⟨h.1, fun c hc => ?_⟩
  obtain ⟨i, hi, rfl⟩ := mem_at hc
  have := allB_iff.1 h.2 i hi
  simpa [hi, srcB] using this
theorem mayTb_parts {t : Tb} (h : mayTb t = true) : isNm (bs t.nm) = true ∧ mayCols t.cols = true ∧ mayKey t = true ∧ mayIxs t = true := by
  simp only [mayTb, Bool.and_eq_true] at h
  exact ⟨h.1.1.1, h.1.1.2, h.1.2, h.2⟩
theorem mayKey_parts {t : Tb} (h : mayKey t = true) : mayPl t.key t.cols.length = true ∧ t.part ∈ t.key := by
  simp only [mayKey, Bool.and_eq_true, decide_eq_true_eq] at h
  exact h.1
theorem mayPc_parts {p : Pc} (h : mayPc p = true) : isNm (bs p.nm) = true ∧ mayPms p.prms = true ∧ mayBody p.body = true ∧ budB p.rows = true ∧ budB p.bytes = true := by
  simp only [mayPc, Bool.and_eq_true] at h
  exact ⟨h.1.1.1.1, h.1.1.1.2, h.1.1.2, h.1.2, h.2⟩
theorem TbF.of {t : Tb} (h : mayTb t = true) : TbF t := by
  obtain ⟨h1, h2, h3, h4⟩ := mayTb_parts h
  obtain ⟨c1, c2⟩ := mayCols_nm h2
  obtain ⟨k1, _⟩ := mayKey_parts h3
  have k2 := mayPl_size k1
  obtain ⟨x1, x2⟩ := mayIxs_nm h4
  exact ⟨by have := nm_le h1; omega, by omega, fun c hc => by have := (c2 c hc).1; omega, by omega, by omega, by omega, fun c hc => by have := x2 c hc; have := mayPl_size this.2; omega⟩
theorem PcF.of {p : Pc} (h : mayPc p = true) : PcF p := by
  obtain ⟨h1, h2, h3, _⟩ := mayPc_parts h
  obtain ⟨c1, c2⟩ := mayPms_nm h2
  obtain ⟨b1, b2⟩ := mayBody_src h3
  exact ⟨by have := nm_le h1; omega, by omega, fun c hc => by have := (c2 c hc).1; omega, by omega, fun s hs => by have := b2 s hs; omega⟩
theorem rightC_parts {c : Ct} (h : rightC c = true) : c.tbs.length ≤ 8 ∧ c.prs.length ≤ 16 ∧ (∀ t ∈ c.tbs, mayTb t = true) ∧ ∀ p ∈ c.prs, mayPc p = true := by
  simp only [rightC, Bool.and_eq_true, decide_eq_true_eq] at h
  refine ⟨h.1.1.1, h.1.1.2, fun t ht => ?_, fun p hp => ?_⟩
  · obtain ⟨i, hi, rfl⟩ := mem_at ht
    have := allB_iff.1 h.1.2 i hi
    rw [Bool.and_eq_true] at this
    simpa [hi] using this.2
  · obtain ⟨i, hi, rfl⟩ := mem_at hp
    have := allB_iff.1 h.2 i hi
    rw [Bool.and_eq_true] at this
    simpa [hi] using this.2
theorem CtF.of {c : Ct} (h : rightC c = true) : CtF c := by
  obtain ⟨h1, h2, h3, h4⟩ := rightC_parts h
  exact ⟨by omega, by omega, fun t ht => TbF.of (h3 t ht), fun p hp => PcF.of (h4 p hp)⟩
theorem Fits.of {c : Ct} (h : rightC c = true) : Fits c := fun t ht => by
  have := ((TbF.of ((rightC_parts h).2.2.1 t ht))).cols
  omega
end Go.Proofs.YtkgkkcefnonejaaGreat
