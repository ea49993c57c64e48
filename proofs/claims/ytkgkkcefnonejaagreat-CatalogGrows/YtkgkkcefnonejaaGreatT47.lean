/- Walks of layer 8: CatalogGrows. -/
import Derived.Test.YtkgkkcefnonejaaGreatT40
import Derived.Test.YtkgkkcefnonejaaGreatT46
namespace Go.Proofs.YtkgkkcefnonejaaGreat
open Go.RowKit

theorem CtO.pair {w : World} {B : Nat} {c : Ct} {a b : Value} (h : CtO w B c [a, b]) : ∃ p m q n, a = .slice p c.tbs.length m ∧ b = .slice q c.prs.length n := by
  obtain ⟨v1, v2, e, h1, h2⟩ := h
  simp only [List.cons.injEq, and_true] at e
  obtain ⟨rfl, rfl⟩ := e
  obtain ⟨p, m, rfl, -⟩ := h1.form
  obtain ⟨q, n, rfl, -⟩ := h2.form
  exact ⟨p, m, q, n, rfl, rfl⟩

set_option maxHeartbeats 32000000 in
set_option maxRecDepth 100000 in
theorem catalogGrows_law (hT : TextSpec) (lt : List Tb) (pt : Option Addr) (ct : Nat) (lp : List Pc) (pp : Option Addr) (cp : Nat) (w : World) (r1 : RowR 5 (TbR w) w pt lt) (lz1 : lt.length ≤ 140737488355328) (z1 : ∀ x ∈ lt, TbZ 140737488355328 x) (r2 : RowR 5 (PcR w) w pp lp) (lz2 : lp.length ≤ 140737488355328) (z2 : ∀ x ∈ lp, PcZ 140737488355328 x) :
    Calls Tryz.prog 8 #[.slice pt lt.length ct, .slice pp lp.length cp] w fun e w' => e = .returned (.bool true) ∧ Below w.heap.size w w' := by
  have HR1 := Lib.hid r1
  have HR2 := Lib.hid r2
  have HZ : Hid (CtZ 140737488355328 ⟨lt, lp⟩) := ⟨lz1, lz2, z1, z2⟩
  have HCT : Hid (CtR w ⟨lt, lp⟩ [.slice pt lt.length ct, .slice pp lp.length cp]) := ⟨_, _, _, _, rfl, r1, r2⟩
  clear z1 z2 r1 r2
  go_enter Tryz.func8, Tryz.ntmps8
  go_wp2_with fail
  refine (weighs_any ⟨lt, lp⟩ [.slice pt lt.length ct, .slice pp lp.length cp] _ HCT.out HZ.out).mono ?_
  rintro e w1 ⟨N, rfl, hN, hb1⟩
  have HNN := Lib.hid hN
  have B1 := Lib.hid hb1
  clear hN hb1
  by_cases hNb : N ≤ 2147483647
  · have hNi : ¬ (2147483647 : Int) < (N : Int) := by omega
    have HS := Lib.hid (HNN.out hNb)
    have z3 := HS.out.tbs
    have z4 := HS.out.prs
    simp only at z3 z4
    go_wp2_with fail
    refine (awake8_any hT _).mono ?_
    rintro e w2 ⟨rfl, hb2⟩
    have B2 := Lib.hid (below_two B1.out hb2)
    clear hb2
    go_wp2
    go_loopw [8] (fun i wr => ∃ (k : Nat) (a b : Value) (c : Ct), i = .int .i64 k ∧ k ≤ lt.length + lp.length ∧ rightC c = true ∧ Va w2 wr w2.heap.size a b c) (fun i _ => lt.length + lp.length - (intOf i).toNat)
    case atStart => exact ⟨0, _, _, ⟨[], []⟩, rfl, Nat.zero_le _, right_none, heap_alloc_new _ _, CtO.none _ _, (Below.refl _ _).alloc (Nat.le_refl _) _⟩
    case round =>
      obtain ⟨k, a, b, c, rfl, hk, hc, hV⟩ := hrel
      obtain ⟨p7, m7, q7, n7, rfl, rfl⟩ := hV.own.pair
      obtain ⟨hc1, hc2, -, -, -, -⟩ := rightC_tbs hc
      have HV := Lib.hid hV
      have HC := Lib.hid hc
      have hQ := hV.lt
      obtain ⟨t0, t1⟩ := two_cells hV.at7
      clear hV hc
      by_cases hlt : k < lt.length + lp.length
      · by_cases h64 : k < 64
        · have hlti : (k : Int) < (lt.length : Int) + (lp.length : Int) := by omega
          have h64i : (k : Int) < 64 := by omega
          by_cases hT1 : k < lt.length
          · have hT1i : (k : Int) < (lt.length : Int) := by omega
            obtain ⟨b, off, v0, v1, v2, v3, v4, rfl, hR, g0, g1, g2, g3, g4⟩ := HR1.out.at5 hT1
            have HRk : Hid (∀ W, Below w.heap.size w W → TbR W lt[k] [v0, v1, v2, v3, v4]) := fun W h => TbR.later h _ _ hR
            obtain ⟨pc, cc, pk, ck, px, cx, hR, _, _, _⟩ := hR
            simp only [List.cons.injEq, and_true] at hR
            obtain ⟨rfl, rfl, rfl, rfl, rfl⟩ := hR
            have WK := Lib.hid (below_two B2.out HV.out.low)
            have d0 := cell_later WK.out g0
            have d1 := cell_later WK.out g1
            have d2 := cell_later WK.out g2
            have d3 := cell_later WK.out g3
            have d4 := cell_later WK.out g4
            have hbl := cell_lt d0
            have hcl := (HS.out.tb _ (List.getElem_mem hT1)).cols
            have hwz := WK.out.size
            obtain ⟨E, hE⟩ : ∃ E, addTE c lt[k] = E := ⟨_, rfl⟩
            obtain ⟨D, hD⟩ : ∃ D, addTC c lt[k] = D := ⟨_, rfl⟩
            have HG0 := Lib.hid g0
            clear g0 g1 g2 g3 g4
            go_wp2
            go_region_law (go_simp; go_at_call 28; refine (addTb_any c lt[k] [.slice p7 c.tbs.length m7, .slice q7 c.prs.length n7] _ _ (CtO.reads _ _ (by first | exact (HV.out.alloc _).drew.own | exact (HV.out.alloc _).own)) (HRk.out _ (by have h4 := WK.out; (repeat (first | exact Below.refl _ _ | assumption | refine Below.drew ?_ | refine below_drewN ?_ _ | refine Below.alloc ?_ (by first | omega | (simp; done) | (simp; omega)) _ | refine Below.setCell ?_ (by first | omega | (simp; done) | (simp; omega)) _ | refine Below.trans ?_ (Below.mono (by assumption) (by first | omega | (simp; done) | (simp; omega))))))) (Fits.of HC.out) (by omega)).mono ?_; rintro e w3 ⟨rs3, rfl, hO3, hb3⟩; rw [hE]; rw [hD] at hO3; (have HO3 : Hid (CtO w3 (w2.heap.size + 1) D rs3) := CtO.mono (by simp; omega) _ _ hO3); (have V3 : Hid (Va w2 w3 w2.heap.size (.slice p7 c.tbs.length m7) (.slice q7 c.prs.length n7) c) := (by first | exact (HV.out.alloc _).drew.later hb3 | exact (HV.out.alloc _).later hb3)); (have Y3 : Hid (w3.heap[wr.heap.size]? = some (.cells #[.slice none 0 0, .slice none 0 0] 25 (0, 0))) := (by first | exact heap_of (w := (wr.alloc (.cells #[.slice none 0 0, .slice none 0 0] 25)).drew) (heap_alloc_new wr (.cells #[.slice none 0 0, .slice none 0 0] 25 (0, 0))) hb3 | exact heap_of (heap_alloc_new wr (.cells #[.slice none 0 0, .slice none 0 0] 25 (0, 0))) hb3)); clear hb3; obtain ⟨vt3, vp3, rfl, o1, o2⟩ := hO3; obtain ⟨p9, m9, rfl, -⟩ := o1.form; obtain ⟨q9, n9, rfl, -⟩ := o2.form; clear o1 o2 t0 t1 d0 d1 d2 d3 d4; obtain ⟨y0, y1, y2, y3⟩ := two_of Y3.out)
            all_goals
              have hG3 := Gr.start V3.out hQ Y3.out HO3.out
              generalize hW3 : (w3.setCell ⟨wr.heap.size, 0, none⟩ (.slice p9 D.tbs.length m9)).setCell ⟨wr.heap.size, 1, none⟩ (.slice q9 D.prs.length n9) = W3 at hG3 ⊢
              have G3 := Lib.hid hG3
              clear hG3 hW3 y0 y1 y2 y3 Y3 V3 HO3
              have hQ3 := G3.out.one.lt
              obtain ⟨x0, x1⟩ := two_cells G3.out.one.at7
              obtain ⟨y0, y1⟩ := two_cells G3.out.at9
              have HCA := Lib.hid (addT_cases c lt[k] HC.out)
              rw [hE, hD] at HCA
              rcases HCA.out with ⟨hne, hd0⟩ | ⟨h0, hd1, hr1, hf1⟩
              · have hl1 : D.tbs.length = 0 := by rw [hd0]; rfl
                have hl2 : D.prs.length = 0 := by rw [hd0]; rfl
                rw [hl1] at y0
                rw [hl2] at y1
                clear hd0 hD
                go_wp2
                go_roundw
                case rel => exact ⟨k + 1, _, _, c, by go_num, by omega, HC.out, G3.out.one⟩
                case measure => simp [intOf]; omega
              · have hl1 : D.tbs.length = c.tbs.length + 1 := by rw [hd1]; simp
                have hl2 : D.prs.length = c.prs.length := by rw [hd1]
                have hrD : rightC D = true := by rw [hd1]; exact hr1
                have HRD := Lib.hid hrD
                have HF : Hid (fndI (D.tbs.map fun x => bs x.nm) (bs lt[k].nm) = (c.tbs.length : Int)) := by rw [hd1]; exact hf1
                have HL1 := Lib.hid hl1
                have HL2 := Lib.hid hl2
                have hEs : (encS D).size ≤ 2147483647 := by
                  rw [encS_yes hrD]
                  have := encC_len hrD
                  show (encC D).toArray.size ≤ _
                  simp
                  omega
                clear hd1 hD hr1 hf1 hrD hl1 hl2 HCA
                obtain rfl := h0
                go_wp2_with fail
                refine (right_any D [.slice p9 D.tbs.length m9, .slice q9 D.prs.length n9] _ (CtO.reads _ _ G3.out.own) (Fits.of HRD.out)).mono ?_
                rintro e w4 ⟨rfl, hb4⟩
                rw [HRD.out]
                have G4 := Lib.hid (G3.out.later hb4)
                clear x0 x1 y0 y1 hb4
                obtain ⟨x0, x1⟩ := two_cells G4.out.one.at7
                obtain ⟨y0, y1⟩ := two_cells G4.out.at9
                go_wp2_with fail
                refine (encode_any D [.slice p9 D.tbs.length m9, .slice q9 D.prs.length n9] _ (CtO.reads _ _ G4.out.own) (Fits.of HRD.out)).mono ?_
                rintro e w5 ⟨rfl, hb5⟩
                rw [encE_yes HRD.out]
                have G5 := Lib.hid (G4.out.later hb5)
                clear x0 x1 y0 y1 hb5
                go_wp2_with fail
                refine (decode_any hT (encS D) _ hEs).mono ?_
                rintro e w6 ⟨c6, rs6, k6, rfl, hO6, hd6, hb6⟩
                obtain ⟨rfl, rfl⟩ := dec_enc HRD.out hd6
                have G6 := Lib.hid (G5.out.later hb6)
                have HO6 : Hid (CtO w6 (w2.heap.size + 1) c6 rs6) := CtO.mono (by have := G5.out.one.lt; omega) _ _ hO6
                obtain ⟨vt6, vp6, rfl, o1, o2⟩ := hO6
                obtain ⟨p6, m6, rfl, -⟩ := o1.form
                obtain ⟨q6, n6, rfl, -⟩ := o2.form
                clear o1 o2 hd6 hb6
                have hQ6 := G6.out.one.lt
                have hQ6n : ¬ w2.heap.size = w6.heap.size := by omega
                have hQ6m : ¬ w6.heap.size = w2.heap.size := by omega
                obtain ⟨x0, x1, x2, x3⟩ := two_of G6.out.one.at7
                have hC6 := HO6.out
                rw [HL1.out, HL2.out] at hC6 ⊢
                have hC7 := Va.close G6.out.one hC6 (.cells #[.slice p6 (c.tbs.length + 1) m6, .slice q6 c.prs.length n6] 25)
                have C7 := Lib.hid hC7
                clear hC6 hC7
                go_wp2
                have hC7 := C7.out
                clear C7 x0 x1 x2 x3
                generalize ((w6.setCell ⟨w2.heap.size, 0, none⟩ (.slice p6 (c.tbs.length + 1) m6)).setCell ⟨w2.heap.size, 1, none⟩ (.slice q6 c.prs.length n6)).alloc (.cells #[.slice p6 (c.tbs.length + 1) m6, .slice q6 c.prs.length n6] 25) = W7 at hC7 ⊢
                have C7 := Lib.hid hC7
                clear hC7
                obtain ⟨x0, x1⟩ := two_cells C7.out.at7
                have f0 := cell_later (below_two B2.out C7.out.low) HG0.out
                go_region_law (go_simp; go_at_call 20; refine (atTb_any c6 [.slice p6 (c.tbs.length + 1) m6, .slice q6 c.prs.length n6] lt[k].nm _ (CtO.reads _ _ (by first | exact C7.out.drew.own | exact C7.out.own)) (by have := HL1.out; omega)).mono ?_; rintro e w8 ⟨rfl, hb8⟩; rw [HF.out, plV_yes (by omega)]; (have C8 : Hid (Va w2 w8 w2.heap.size (.slice p6 (c.tbs.length + 1) m6) (.slice q6 c.prs.length n6) c6) := (by first | exact C7.out.drew.later hb8 | exact C7.out.later hb8)); clear hb8 x0 x1 f0)
                all_goals
                  obtain ⟨x0, x1⟩ := two_cells C8.out.at7
                  go_wp2
                  go_roundw
                  case rel => exact ⟨k + 1, _, _, c6, by go_num, by omega, HRD.out, C8.out⟩
                  case measure => simp [intOf]; omega
          · have hT1i : ¬ (k : Int) < (lt.length : Int) := by omega
            obtain ⟨j, hj⟩ : ∃ j, k = lt.length + j := ⟨k - lt.length, by omega⟩
            have hjl : j < lp.length := by omega
            have hji : (k : Int) - (lt.length : Int) = (j : Int) := by omega
            have hjli : (j : Int) < (lp.length : Int) := by omega
            have hjw : IntKind.i64.wrap (j : Int) = (j : Int) := by rw [IntKind.wrap_i64]; omega
            clear hj
            obtain ⟨b, off, v0, v1, v2, v3, v4, rfl, hR, g0, g1, g2, g3, g4⟩ := HR2.out.at5 hjl
            have HRk : Hid (∀ W, Below w.heap.size w W → PcR W lp[j] [v0, v1, v2, v3, v4]) := fun W h => PcR.later h _ _ hR
            obtain ⟨pc, cc, pk, ck, hR, _, _⟩ := hR
            simp only [List.cons.injEq, and_true] at hR
            obtain ⟨rfl, rfl, rfl, rfl, rfl⟩ := hR
            have WK := Lib.hid (below_two B2.out HV.out.low)
            have d0 := cell_later WK.out g0
            have d1 := cell_later WK.out g1
            have d2 := cell_later WK.out g2
            have d3 := cell_later WK.out g3
            have d4 := cell_later WK.out g4
            have hbl := cell_lt d0
            have hwz := WK.out.size
            obtain ⟨E, hE⟩ : ∃ E, addPE c lp[j] = E := ⟨_, rfl⟩
            obtain ⟨D, hD⟩ : ∃ D, addPC c lp[j] = D := ⟨_, rfl⟩
            have HG0 := Lib.hid g0
            clear g0 g1 g2 g3 g4
            go_wp2
            go_region_law (go_simp; go_at_call 29; refine (addPc_any c lp[j] [.slice p7 c.tbs.length m7, .slice q7 c.prs.length n7] _ _ (CtO.reads _ _ (by first | exact (HV.out.alloc _).drew.own | exact (HV.out.alloc _).own)) (HRk.out _ (by have h4 := WK.out; (repeat (first | exact Below.refl _ _ | assumption | refine Below.drew ?_ | refine below_drewN ?_ _ | refine Below.alloc ?_ (by first | omega | (simp; done) | (simp; omega)) _ | refine Below.setCell ?_ (by first | omega | (simp; done) | (simp; omega)) _ | refine Below.trans ?_ (Below.mono (by assumption) (by first | omega | (simp; done) | (simp; omega))))))) (Fits.of HC.out)).mono ?_; rintro e w3 ⟨rs3, rfl, hO3, hb3⟩; rw [hE]; rw [hD] at hO3; (have HO3 : Hid (CtO w3 (w2.heap.size + 1) D rs3) := CtO.mono (by simp; omega) _ _ hO3); (have V3 : Hid (Va w2 w3 w2.heap.size (.slice p7 c.tbs.length m7) (.slice q7 c.prs.length n7) c) := (by first | exact (HV.out.alloc _).drew.later hb3 | exact (HV.out.alloc _).later hb3)); (have Y3 : Hid (w3.heap[wr.heap.size]? = some (.cells #[.slice none 0 0, .slice none 0 0] 25 (0, 0))) := (by first | exact heap_of (w := (wr.alloc (.cells #[.slice none 0 0, .slice none 0 0] 25)).drew) (heap_alloc_new wr (.cells #[.slice none 0 0, .slice none 0 0] 25 (0, 0))) hb3 | exact heap_of (heap_alloc_new wr (.cells #[.slice none 0 0, .slice none 0 0] 25 (0, 0))) hb3)); clear hb3; obtain ⟨vt3, vp3, rfl, o1, o2⟩ := hO3; obtain ⟨p9, m9, rfl, -⟩ := o1.form; obtain ⟨q9, n9, rfl, -⟩ := o2.form; clear o1 o2 t0 t1 d0 d1 d2 d3 d4; obtain ⟨y0, y1, y2, y3⟩ := two_of Y3.out)
            all_goals
              have hG3 := Gr.start V3.out hQ Y3.out HO3.out
              generalize hW3 : (w3.setCell ⟨wr.heap.size, 0, none⟩ (.slice p9 D.tbs.length m9)).setCell ⟨wr.heap.size, 1, none⟩ (.slice q9 D.prs.length n9) = W3 at hG3 ⊢
              have G3 := Lib.hid hG3
              clear hG3 hW3 y0 y1 y2 y3 Y3 V3 HO3
              have hQ3 := G3.out.one.lt
              obtain ⟨x0, x1⟩ := two_cells G3.out.one.at7
              obtain ⟨y0, y1⟩ := two_cells G3.out.at9
              have HCA := Lib.hid (addP_cases c lp[j] HC.out)
              rw [hE, hD] at HCA
              rcases HCA.out with ⟨hne, hd0⟩ | ⟨h0, hd1, hr1, hf1⟩
              · have hl1 : D.tbs.length = 0 := by rw [hd0]; rfl
                have hl2 : D.prs.length = 0 := by rw [hd0]; rfl
                rw [hl1] at y0
                rw [hl2] at y1
                clear hd0 hD
                go_wp2
                go_roundw
                case rel => exact ⟨k + 1, _, _, c, by go_num, by omega, HC.out, G3.out.one⟩
                case measure => simp [intOf]; omega
              · have hl1 : D.tbs.length = c.tbs.length := by rw [hd1]
                have hl2 : D.prs.length = c.prs.length + 1 := by rw [hd1]; simp
                have hrD : rightC D = true := by rw [hd1]; exact hr1
                have HRD := Lib.hid hrD
                have HF : Hid (fndI (D.prs.map fun x => bs x.nm) (bs lp[j].nm) = (c.prs.length : Int)) := by rw [hd1]; exact hf1
                have HL1 := Lib.hid hl1
                have HL2 := Lib.hid hl2
                have hEs : (encS D).size ≤ 2147483647 := by
                  rw [encS_yes hrD]
                  have := encC_len hrD
                  show (encC D).toArray.size ≤ _
                  simp
                  omega
                clear hd1 hD hr1 hf1 hrD hl1 hl2 HCA
                obtain rfl := h0
                go_wp2_with fail
                refine (right_any D [.slice p9 D.tbs.length m9, .slice q9 D.prs.length n9] _ (CtO.reads _ _ G3.out.own) (Fits.of HRD.out)).mono ?_
                rintro e w4 ⟨rfl, hb4⟩
                rw [HRD.out]
                have G4 := Lib.hid (G3.out.later hb4)
                clear x0 x1 y0 y1 hb4
                obtain ⟨x0, x1⟩ := two_cells G4.out.one.at7
                obtain ⟨y0, y1⟩ := two_cells G4.out.at9
                go_wp2_with fail
                refine (encode_any D [.slice p9 D.tbs.length m9, .slice q9 D.prs.length n9] _ (CtO.reads _ _ G4.out.own) (Fits.of HRD.out)).mono ?_
                rintro e w5 ⟨rfl, hb5⟩
                rw [encE_yes HRD.out]
                have G5 := Lib.hid (G4.out.later hb5)
                clear x0 x1 y0 y1 hb5
                go_wp2_with fail
                refine (decode_any hT (encS D) _ hEs).mono ?_
                rintro e w6 ⟨c6, rs6, k6, rfl, hO6, hd6, hb6⟩
                obtain ⟨rfl, rfl⟩ := dec_enc HRD.out hd6
                have G6 := Lib.hid (G5.out.later hb6)
                have HO6 : Hid (CtO w6 (w2.heap.size + 1) c6 rs6) := CtO.mono (by have := G5.out.one.lt; omega) _ _ hO6
                obtain ⟨vt6, vp6, rfl, o1, o2⟩ := hO6
                obtain ⟨p6, m6, rfl, -⟩ := o1.form
                obtain ⟨q6, n6, rfl, -⟩ := o2.form
                clear o1 o2 hd6 hb6
                have hQ6 := G6.out.one.lt
                have hQ6n : ¬ w2.heap.size = w6.heap.size := by omega
                have hQ6m : ¬ w6.heap.size = w2.heap.size := by omega
                obtain ⟨x0, x1, x2, x3⟩ := two_of G6.out.one.at7
                have hC6 := HO6.out
                rw [HL1.out, HL2.out] at hC6 ⊢
                have hC7 := Va.close G6.out.one hC6 (.cells #[.slice p6 c.tbs.length m6, .slice q6 (c.prs.length + 1) n6] 25)
                have C7 := Lib.hid hC7
                clear hC6 hC7
                go_wp2
                have hC7 := C7.out
                clear C7 x0 x1 x2 x3
                generalize ((w6.setCell ⟨w2.heap.size, 0, none⟩ (.slice p6 c.tbs.length m6)).setCell ⟨w2.heap.size, 1, none⟩ (.slice q6 (c.prs.length + 1) n6)).alloc (.cells #[.slice p6 c.tbs.length m6, .slice q6 (c.prs.length + 1) n6] 25) = W7 at hC7 ⊢
                have C7 := Lib.hid hC7
                clear hC7
                obtain ⟨x0, x1⟩ := two_cells C7.out.at7
                have f0 := cell_later (below_two B2.out C7.out.low) HG0.out
                go_region_law (go_simp; go_at_call 21; refine (atPc_any c6 [.slice p6 c.tbs.length m6, .slice q6 (c.prs.length + 1) n6] lp[j].nm _ (CtO.reads _ _ (by first | exact C7.out.drew.own | exact C7.out.own)) (by have := HL2.out; omega)).mono ?_; rintro e w8 ⟨rfl, hb8⟩; rw [HF.out, plV_yes (by omega)]; (have C8 : Hid (Va w2 w8 w2.heap.size (.slice p6 c.tbs.length m6) (.slice q6 (c.prs.length + 1) n6) c6) := (by first | exact C7.out.drew.later hb8 | exact C7.out.later hb8)); clear hb8 x0 x1 f0)
                all_goals
                  obtain ⟨x0, x1⟩ := two_cells C8.out.at7
                  go_wp2
                  go_roundw
                  case rel => exact ⟨k + 1, _, _, c6, by go_num, by omega, HRD.out, C8.out⟩
                  case measure => simp [intOf]; omega
        · have h64i : ¬ (k : Int) < 64 := by omega
          have hlti : (k : Int) < (lt.length : Int) + (lp.length : Int) := by omega
          go_wp2
          go_ret
          exact ⟨rfl, below_two B2.out HV.out.low⟩
      · have hlti : ¬ (k : Int) < (lt.length : Int) + (lp.length : Int) := by omega
        go_wp2
        go_ret
        exact ⟨rfl, below_two B2.out HV.out.low⟩
  · have hNi : (2147483647 : Int) < (N : Int) := by omega
    go_wp2
    go_ret
    exact ⟨rfl, B1.out⟩
end Go.Proofs.YtkgkkcefnonejaaGreat
