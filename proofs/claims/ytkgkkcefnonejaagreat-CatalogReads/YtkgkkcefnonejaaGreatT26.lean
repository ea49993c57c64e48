/- Walks of layer 8: Encode. -/
import Derived.Test.YtkgkkcefnonejaaGreatT25
namespace Go.Proofs.YtkgkkcefnonejaaGreat
open Go.RowKit

/-- What Encode tells. -/
def encS (c : Ct) : ByteArray := if rightC c = true then ⟨(encC c).toArray⟩ else ⟨#[]⟩
def encE (c : Ct) : Int := if rightC c = true then 0 else 80
theorem encS_yes {c : Ct} (h : rightC c = true) : encS c = ⟨(encC c).toArray⟩ := if_pos h
theorem encE_yes {c : Ct} (h : rightC c = true) : encE c = 0 := if_pos h
theorem encS_no {c : Ct} (h : rightC c = false) : encS c = ⟨#[]⟩ := if_neg (by rw [h]; decide)
theorem encE_no {c : Ct} (h : rightC c = false) : encE c = 80 := if_neg (by rw [h]; decide)

/-- 'string(b)' of what is owned, be it nothing. -/
theorem ink_str {w : World} {B : Nat} {v : Value} {xs : List UInt8} (h : Ink w B v xs) : ∃ a cap, v = .slice a xs.length cap ∧ (convert 74 9 (.slice a xs.length cap)).run Tryz.prog w = .ok (.string ⟨xs.toArray⟩) w := by
  have hc := fun g => World.ownsRow.cells (g := g) h
  obtain ⟨hl, ⟨rfl, h0⟩ | ⟨g, cap, cur, rfl, _⟩⟩ := h
  · obtain rfl : xs = [] := List.eq_nil_of_length_eq_zero h0
    refine ⟨none, 0, rfl, ?_⟩
    show (convert 74 9 (.slice none 0 0)).run Tryz.prog w = _
    rw [run_convert_bytes_string w 74 9 5 none 0 0 Tryz.underlying74 Tryz.underlying5 Tryz.underlying9]
    rfl
  · refine ⟨_, cap, rfl, run_convert_bytes_back w 74 9 5 ⟨g, 0, none⟩ cap xs Tryz.underlying74 Tryz.underlying5 Tryz.underlying9 ?_⟩
    intro j hj
    exact hc g rfl j _ (by simp [bv, hj])

set_option maxHeartbeats 8000000 in
set_option maxRecDepth 100000 in
theorem encode_any (c : Ct) (vs : List Value) (w : World) (hR : CtR w c vs) (hf : Fits c) :
    Calls Tryz.prog 14 #[.agg vs.toArray] w fun e w' => e = .returned (.tuple #[.string (encS c), .int .i64 (encE c)]) ∧ Below w.heap.size w w' := by
  have HC : Hid (∀ W, Below w.heap.size w W → CtR W c vs) := fun W h => CtR.later h c vs hR
  obtain ⟨pt, ct, pp, cp, rfl, r1, r2⟩ := hR
  have HR1 := Lib.hid r1
  have HR2 := Lib.hid r2
  have HF := Lib.hid hf
  clear r1 r2 hf
  have HBX : Hid (∀ W, Below (w.heap.size + 1) (w.alloc (.cells #[.slice pt c.tbs.length ct, .slice pp c.prs.length cp] 25)) W → W.heap[w.heap.size]? = some (.cells #[.slice pt c.tbs.length ct, .slice pp c.prs.length cp] 25 (0, 0)) ∧ Below w.heap.size w W) := fun W h => ⟨(h.block _ (by omega)).trans (heap_alloc_new w _), ((Below.refl _ _).alloc (Nat.le_refl _) _).trans (h.mono (by omega))⟩
  cases h1 : rightC c with
  | false =>
    rw [encS_no h1, encE_no h1]
    go_enter Tryz.func14, Tryz.ntmps14
    go_wp2_with fail
    refine (right_any c _ _ (HC.out _ (by (repeat (first | exact Below.refl _ _ | assumption | refine Below.drew ?_ | refine below_drewN ?_ _ | refine Below.alloc ?_ (by first | omega | (simp; done) | (simp; omega)) _ | refine Below.setCell ?_ (by first | omega | (simp; done) | (simp; omega)) _ | refine Below.trans ?_ (Below.mono (by assumption) (by first | omega | (simp; done) | (simp; omega))))))) HF.out).mono ?_
    rintro e w1 ⟨rfl, hb1⟩
    obtain ⟨e0, e1⟩ := HBX.out w1 (hb1.mono (by simp))
    have HBW := Lib.hid e1
    rw [h1]
    clear e0 e1 hb1
    go_wp2
    exact bodyPost_ret (v := .tuple #[.string ⟨#[]⟩, .int .i64 80]) (by simp [results, Tryz.results14, go_sem]) rfl ⟨rfl, HBW.out⟩
  | true =>
    have H1 := Lib.hid h1
    have hlen := encC_len h1
    obtain ⟨g1, g2, g3, g4⟩ := rightC_parts h1
    have HG3 := Lib.hid g3
    have HG4 := Lib.hid g4
    have hl2 : (lst encTb c.tbs).length + (lst encPc c.prs).length ≤ 10000000 := by
      rw [encC, List.length_append] at hlen
      exact hlen
    have HE : Hid ([] ++ lst encTb c.tbs ++ lst encPc c.prs = encC c) := rfl
    rw [encS_yes h1, encE_yes h1]
    clear hlen g3 g4
    go_enter Tryz.func14, Tryz.ntmps14
    go_wp2_with fail
    refine (right_any c _ _ (HC.out _ (by (repeat (first | exact Below.refl _ _ | assumption | refine Below.drew ?_ | refine below_drewN ?_ _ | refine Below.alloc ?_ (by first | omega | (simp; done) | (simp; omega)) _ | refine Below.setCell ?_ (by first | omega | (simp; done) | (simp; omega)) _ | refine Below.trans ?_ (Below.mono (by assumption) (by first | omega | (simp; done) | (simp; omega))))))) HF.out).mono ?_
    rintro e w1 ⟨rfl, hb1⟩
    have hs1 := hb1.size
    simp at hs1
    obtain ⟨e0, e1⟩ := HBX.out w1 (hb1.mono (by simp))
    obtain ⟨c0, c1⟩ := two_cells e0
    have HX1 := Lib.hid e0
    have HBW1 := Lib.hid e1
    rw [h1]
    clear e0 e1 hb1 h1
    go_wp2_with fail
    refine (aeTb_any w _ (.slice none 0 0) [] pt ct c.tbs encTb HBW1.out HR1.out (by omega) (Ink.nil _ _) (by rw [List.nil_append]; omega) (fun k hk vs u ys w2 hR hb hi hl => enTb_any _ vs w w2 u ys hR hb (HG3.out _ (List.getElem_mem hk)) hi hl)).mono ?_
    rintro e w2 ⟨v2, rfl, i2, k2⟩
    have hs2 := k2.size
    have HX2 := Lib.hid (k2.heap HX1.out (by decide))
    have HBW2 := Lib.hid (Inks.on HBW1.out k2)
    have HI2 := Lib.hid i2
    clear c0 c1 i2 k2
    obtain ⟨c0, c1⟩ := two_cells HX2.out
    go_wp2_with fail
    refine (aePc_any w _ v2 ([] ++ lst encTb c.tbs) pp cp c.prs encPc HBW2.out HR2.out (by omega) HI2.out (by rw [List.nil_append, List.length_append]; omega) (fun k hk vs u ys w2 hR hb hi hl => enPc_any _ vs w w2 u ys hR hb (HG4.out _ (List.getElem_mem hk)) hi hl)).mono ?_
    rintro e w3 ⟨v3, rfl, i3, k3⟩
    have HBW3 := Lib.hid (Inks.on HBW2.out k3)
    rw [HE.out] at i3
    obtain ⟨ar, cr, rfl, hcv⟩ := ink_str i3
    clear c0 c1 i3 k3
    go_wp2
    exact bodyPost_ret (v := .tuple #[.string ⟨(encC c).toArray⟩, .int .i64 0]) (by simp [results, Tryz.results14, go_sem]) rfl ⟨rfl, HBW3.out⟩
end Go.Proofs.YtkgkkcefnonejaaGreat
