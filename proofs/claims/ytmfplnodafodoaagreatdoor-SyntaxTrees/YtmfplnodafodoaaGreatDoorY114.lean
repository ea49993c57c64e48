/- Walks of layer 11: SyntaxTrees. -/
import Derived.Test.YtmfplnodafodoaaGreatDoorY111
import Derived.Test.YtmfplnodafodoaaGreatDoorY113
import Derived.Test.YtmfplnodafodoaaGreatDoorY70
namespace Go.Proofs.YtmfplnodafodoaaGreatDoor
open Go.RowKit
set_option maxHeartbeats 16000000 in
set_option maxRecDepth 100000 in
theorem syntaxTrees_law (x : St) (v : Value) (y : St) (u : Value) (w : World) (h1 : StIn w x v) (h2 : StIn w y u) (hv : SV w) : Calls Tryz.prog 4 #[v, u] w fun e w' => e = .returned (.bool true) ∧ Below w.heap.size w w' := by
  obtain ⟨a0, a1, a2, a3, a4, a5, a6, c0, c1, c2, c3, c4, c5, c6, rfl, h1⟩ := h1
  obtain ⟨b0, b1, b2, b3, b4, b5, b6, d0, d1, d2, d3, d4, d5, d6, rfl, h2⟩ := h2
  have HV := Lib.hid hv
  have HX := Lib.hid h1
  have HY := Lib.hid h2
  clear hv h1 h2
  obtain ⟨W, hW⟩ : ∃ W, (w.alloc (.cells #[.int .i64 x.kind, .string x.table, .string x.join, .slice a0 x.on.length c0, .slice a1 x.whr.length c1, .slice a2 x.items.length c2, .bool x.star, .slice a3 x.sets.length c3, .slice a4 x.groups.length c4, .slice a5 x.sorts.length c5, .slice a6 x.limit.length c6, .int .i64 x.place, .int .i64 x.joinAt] 27)).alloc (.cells #[.int .i64 y.kind, .string y.table, .string y.join, .slice b0 y.on.length d0, .slice b1 y.whr.length d1, .slice b2 y.items.length d2, .bool y.star, .slice b3 y.sets.length d3, .slice b4 y.groups.length d4, .slice b5 y.sorts.length d5, .slice b6 y.limit.length d6, .int .i64 y.place, .int .i64 y.joinAt] 27) = W := ⟨_, rfl⟩
  obtain ⟨ra, rb, kb⟩ := hW ▸ two_new (w := w) (o := .cells #[.int .i64 x.kind, .string x.table, .string x.join, .slice a0 x.on.length c0, .slice a1 x.whr.length c1, .slice a2 x.items.length c2, .bool x.star, .slice a3 x.sets.length c3, .slice a4 x.groups.length c4, .slice a5 x.sorts.length c5, .slice a6 x.limit.length c6, .int .i64 x.place, .int .i64 x.joinAt] 27) (p := .cells #[.int .i64 y.kind, .string y.table, .string y.join, .slice b0 y.on.length d0, .slice b1 y.whr.length d1, .slice b2 y.items.length d2, .bool y.star, .slice b3 y.sets.length d3, .slice b4 y.groups.length d4, .slice b5 y.sorts.length d5, .slice b6 y.limit.length d6, .int .i64 y.place, .int .i64 y.joinAt] 27)
  have HB := Lib.hid kb
  have RA := Lib.hid ra
  have RB := Lib.hid rb
  clear ra rb kb
  go_enter Tryz.func4, Tryz.ntmps4
  go_wp2_with fail
  clear hW
  refine (synAwake_any W (HV.out.later HB.out)).mono ?_
  rintro e w0 ⟨rfl, hl⟩
  have HB0 := Lib.hid (HB.out.trans (hl.mono HB.out.size))
  have RA0 := Lib.hid ((hl.block _ (Array.getElem?_eq_some_iff.1 RA.out).1).trans RA.out)
  have RB0 := Lib.hid ((hl.block _ (Array.getElem?_eq_some_iff.1 RB.out).1).trans RB.out)
  clear hl
  obtain ⟨⟨s0, s1, s2, s3, s4, s5, s6, s7, s8, s9, s10, s11, s12⟩, -⟩ := thirt_of RA0.out
  obtain ⟨⟨t0, t1, t2, t3, t4, t5, t6, t7, t8, t9, t10, t11, t12⟩, -⟩ := thirt_of RB0.out
  go_wp2_with fail
  refine (synRight_any x a0 a1 a2 a3 a4 a5 a6 c0 c1 c2 c3 c4 c5 c6 _ (HX.out.later HB0.out)).mono ?_
  rintro e w1 ⟨⟨q1, rfl, hq⟩, hl⟩
  have Hq1 : Hid (q1 = true ↔ RtSt x) := hq
  clear hq
  have HB1 := Lib.hid (HB0.out.trans (hl.mono HB0.out.size))
  have RA1 := Lib.hid ((hl.block _ (Array.getElem?_eq_some_iff.1 RA0.out).1).trans RA0.out)
  have RB1 := Lib.hid ((hl.block _ (Array.getElem?_eq_some_iff.1 RB0.out).1).trans RB0.out)
  clear hl s0 s1 s2 s3 s4 s5 s6 s7 s8 s9 s10 s11 s12 t0 t1 t2 t3 t4 t5 t6 t7 t8 t9 t10 t11 t12
  obtain ⟨⟨s0, s1, s2, s3, s4, s5, s6, s7, s8, s9, s10, s11, s12⟩, -⟩ := thirt_of RA1.out
  obtain ⟨⟨t0, t1, t2, t3, t4, t5, t6, t7, t8, t9, t10, t11, t12⟩, -⟩ := thirt_of RB1.out
  go_wp2_with fail
  refine (synRight_any y b0 b1 b2 b3 b4 b5 b6 d0 d1 d2 d3 d4 d5 d6 _ (HY.out.later HB1.out)).mono ?_
  rintro e w2 ⟨⟨q2, rfl, hq⟩, hl⟩
  have Hq2 : Hid (q2 = true ↔ RtSt y) := hq
  clear hq
  have HB2 := Lib.hid (HB1.out.trans (hl.mono HB1.out.size))
  have RA2 := Lib.hid ((hl.block _ (Array.getElem?_eq_some_iff.1 RA1.out).1).trans RA1.out)
  have RB2 := Lib.hid ((hl.block _ (Array.getElem?_eq_some_iff.1 RB1.out).1).trans RB1.out)
  clear hl s0 s1 s2 s3 s4 s5 s6 s7 s8 s9 s10 s11 s12 t0 t1 t2 t3 t4 t5 t6 t7 t8 t9 t10 t11 t12
  obtain ⟨⟨s0, s1, s2, s3, s4, s5, s6, s7, s8, s9, s10, s11, s12⟩, -⟩ := thirt_of RA2.out
  obtain ⟨⟨t0, t1, t2, t3, t4, t5, t6, t7, t8, t9, t10, t11, t12⟩, -⟩ := thirt_of RB2.out
  go_wp2_with fail
  refine (same_st x y a0 a1 a2 a3 a4 a5 a6 b0 b1 b2 b3 b4 b5 b6 c0 c1 c2 c3 c4 c5 c6 d0 d1 d2 d3 d4 d5 d6 _ (HX.out.later HB2.out) (HY.out.later HB2.out)).mono ?_
  rintro e w3 ⟨⟨q3, rfl, hq⟩, hl⟩
  have Hq3 : Hid (q3 = true ↔ SmSt x y) := hq
  clear hq
  have HB3 := Lib.hid (HB2.out.trans (hl.mono HB2.out.size))
  have RA3 := Lib.hid ((hl.block _ (Array.getElem?_eq_some_iff.1 RA2.out).1).trans RA2.out)
  have RB3 := Lib.hid ((hl.block _ (Array.getElem?_eq_some_iff.1 RB2.out).1).trans RB2.out)
  clear hl s0 s1 s2 s3 s4 s5 s6 s7 s8 s9 s10 s11 s12 t0 t1 t2 t3 t4 t5 t6 t7 t8 t9 t10 t11 t12
  obtain ⟨⟨s0, s1, s2, s3, s4, s5, s6, s7, s8, s9, s10, s11, s12⟩, -⟩ := thirt_of RA3.out
  obtain ⟨⟨t0, t1, t2, t3, t4, t5, t6, t7, t8, t9, t10, t11, t12⟩, -⟩ := thirt_of RB3.out
  go_wp2_with fail
  refine (same_st x x a0 a1 a2 a3 a4 a5 a6 a0 a1 a2 a3 a4 a5 a6 c0 c1 c2 c3 c4 c5 c6 c0 c1 c2 c3 c4 c5 c6 _ (HX.out.later HB3.out) (HX.out.later HB3.out)).mono ?_
  rintro e w4 ⟨⟨q4, rfl, hq⟩, hl⟩
  have Hq4 : Hid (q4 = true ↔ SmSt x x) := hq
  clear hq
  have HB4 := Lib.hid (HB3.out.trans (hl.mono HB3.out.size))
  have RA4 := Lib.hid ((hl.block _ (Array.getElem?_eq_some_iff.1 RA3.out).1).trans RA3.out)
  have RB4 := Lib.hid ((hl.block _ (Array.getElem?_eq_some_iff.1 RB3.out).1).trans RB3.out)
  clear hl s0 s1 s2 s3 s4 s5 s6 s7 s8 s9 s10 s11 s12 t0 t1 t2 t3 t4 t5 t6 t7 t8 t9 t10 t11 t12
  obtain ⟨⟨s0, s1, s2, s3, s4, s5, s6, s7, s8, s9, s10, s11, s12⟩, -⟩ := thirt_of RA4.out
  obtain ⟨⟨t0, t1, t2, t3, t4, t5, t6, t7, t8, t9, t10, t11, t12⟩, -⟩ := thirt_of RB4.out
  go_wp2_with fail
  refine (dRight_any x a0 a1 a2 a3 a4 a5 a6 c0 c1 c2 c3 c4 c5 c6 _ (HX.out.later HB4.out)).mono ?_
  rintro e w5 ⟨⟨q5, rfl, hq⟩, hl⟩
  have Hq5 : Hid (q5 = true ↔ DSt x) := hq
  clear hq
  have HB5 := Lib.hid (HB4.out.trans (hl.mono HB4.out.size))
  have RA5 := Lib.hid ((hl.block _ (Array.getElem?_eq_some_iff.1 RA4.out).1).trans RA4.out)
  have RB5 := Lib.hid ((hl.block _ (Array.getElem?_eq_some_iff.1 RB4.out).1).trans RB4.out)
  clear hl s0 s1 s2 s3 s4 s5 s6 s7 s8 s9 s10 s11 s12 t0 t1 t2 t3 t4 t5 t6 t7 t8 t9 t10 t11 t12
  obtain ⟨⟨s0, s1, s2, s3, s4, s5, s6, s7, s8, s9, s10, s11, s12⟩, -⟩ := thirt_of RA5.out
  obtain ⟨⟨t0, t1, t2, t3, t4, t5, t6, t7, t8, t9, t10, t11, t12⟩, -⟩ := thirt_of RB5.out
  go_wp2_with fail
  refine (dRight_any y b0 b1 b2 b3 b4 b5 b6 d0 d1 d2 d3 d4 d5 d6 _ (HY.out.later HB5.out)).mono ?_
  rintro e w6 ⟨⟨q6, rfl, hq⟩, hl⟩
  have Hq6 : Hid (q6 = true ↔ DSt y) := hq
  clear hq
  have HB6 := Lib.hid (HB5.out.trans (hl.mono HB5.out.size))
  have RA6 := Lib.hid ((hl.block _ (Array.getElem?_eq_some_iff.1 RA5.out).1).trans RA5.out)
  have RB6 := Lib.hid ((hl.block _ (Array.getElem?_eq_some_iff.1 RB5.out).1).trans RB5.out)
  clear hl s0 s1 s2 s3 s4 s5 s6 s7 s8 s9 s10 s11 s12 t0 t1 t2 t3 t4 t5 t6 t7 t8 t9 t10 t11 t12
  obtain ⟨⟨s0, s1, s2, s3, s4, s5, s6, s7, s8, s9, s10, s11, s12⟩, -⟩ := thirt_of RA6.out
  obtain ⟨⟨t0, t1, t2, t3, t4, t5, t6, t7, t8, t9, t10, t11, t12⟩, -⟩ := thirt_of RB6.out
  go_wp2_with fail
  refine (dSame_any x y a0 a1 a2 a3 a4 a5 a6 b0 b1 b2 b3 b4 b5 b6 c0 c1 c2 c3 c4 c5 c6 d0 d1 d2 d3 d4 d5 d6 _ (HX.out.later HB6.out) (HY.out.later HB6.out)).mono ?_
  rintro e w7 ⟨⟨q7, rfl, hq⟩, hl⟩
  have Hq7 : Hid (q7 = true ↔ SmSt x y) := hq
  clear hq
  have HB7 := Lib.hid (HB6.out.trans (hl.mono HB6.out.size))
  have RA7 := Lib.hid ((hl.block _ (Array.getElem?_eq_some_iff.1 RA6.out).1).trans RA6.out)
  have RB7 := Lib.hid ((hl.block _ (Array.getElem?_eq_some_iff.1 RB6.out).1).trans RB6.out)
  clear hl s0 s1 s2 s3 s4 s5 s6 s7 s8 s9 s10 s11 s12 t0 t1 t2 t3 t4 t5 t6 t7 t8 t9 t10 t11 t12
  obtain ⟨⟨s0, s1, s2, s3, s4, s5, s6, s7, s8, s9, s10, s11, s12⟩, -⟩ := thirt_of RA7.out
  obtain ⟨⟨t0, t1, t2, t3, t4, t5, t6, t7, t8, t9, t10, t11, t12⟩, -⟩ := thirt_of RB7.out
  have e5 : q5 = q1 := by rw [Bool.eq_iff_iff]; exact Hq5.out.trans (rt_doc.symm.trans Hq1.out.symm)
  have e6 : q6 = q2 := by rw [Bool.eq_iff_iff]; exact Hq6.out.trans (rt_doc.symm.trans Hq2.out.symm)
  have e7 : q7 = q3 := by rw [Bool.eq_iff_iff]; exact Hq7.out.trans Hq3.out.symm
  have e4 : q4 = true := Hq4.out.2 (SmSt.refl x)
  subst e5 e6 e7 e4
  clear s0 s1 s2 s3 s4 s5 s6 s7 s8 s9 s10 s11 s12 t0 t1 t2 t3 t4 t5 t6 t7 t8 t9 t10 t11 t12
  go_wp2
  exact bodyPost_ret (v := .bool true) (by simp [results, Tryz.results4, go_sem]) rfl ⟨rfl, HB7.out⟩
end Go.Proofs.YtmfplnodafodoaaGreatDoor
