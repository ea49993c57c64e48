/- Walks of layer 8: copies of tables. -/
import Derived.Test.YtkgkkcefnonejaaGreatT14a
namespace Go.Proofs.YtkgkkcefnonejaaGreat
open Go.RowKit

set_option maxHeartbeats 8000000 in
set_option maxRecDepth 100000 in
theorem cpTb_any (t : Tb) (vs : List Value) (w : World) (hR : TbR w t vs) (hF : TbF t) :
    Calls Tryz.prog 68 #[.agg vs.toArray] w fun e w' => ∃ us, e = .returned (.agg us.toArray) ∧ TbO w' w.heap.size t us ∧ Below w.heap.size w w' := by
  obtain ⟨pc, cc, pk, ck, px, cx, rfl, r1, r2, r3⟩ := hR
  have HR1 := Lib.hid r1
  have HR2 := Lib.hid r2
  have HR3 := Lib.hid r3
  clear r1 r2 r3
  go_enter Tryz.func68, Tryz.ntmps68
  go_wp2_with fail
  refine (clone_any _ _ hF.nm).mono ?_
  rintro e w1 ⟨rfl, hb0⟩
  obtain ⟨hc0, hf0⟩ := bcell hb0
  have hz0 := hb0.size
  simp at hz0
  have ka00 : w1.cell? ⟨w.heap.size, 0, none⟩ = some (.string t.nm) := (hc0 _ _ (by first | (simp; done) | (simp; omega))).trans (by simp)
  have fa00 : w1.frozen? ⟨w.heap.size, 0, none⟩ = false := (hf0 _ _ (by first | (simp; done) | (simp; omega))).trans (by simp)
  have ka01 : w1.cell? ⟨w.heap.size, 1, none⟩ = some (.slice pc t.cols.length cc) := (hc0 _ _ (by first | (simp; done) | (simp; omega))).trans (by simp)
  have fa01 : w1.frozen? ⟨w.heap.size, 1, none⟩ = false := (hf0 _ _ (by first | (simp; done) | (simp; omega))).trans (by simp)
  have ka02 : w1.cell? ⟨w.heap.size, 2, none⟩ = some (.slice pk t.key.length ck) := (hc0 _ _ (by first | (simp; done) | (simp; omega))).trans (by simp)
  have fa02 : w1.frozen? ⟨w.heap.size, 2, none⟩ = false := (hf0 _ _ (by first | (simp; done) | (simp; omega))).trans (by simp)
  have ka03 : w1.cell? ⟨w.heap.size, 3, none⟩ = some (.int .i64 t.part) := (hc0 _ _ (by first | (simp; done) | (simp; omega))).trans (by simp)
  have fa03 : w1.frozen? ⟨w.heap.size, 3, none⟩ = false := (hf0 _ _ (by first | (simp; done) | (simp; omega))).trans (by simp)
  have ka04 : w1.cell? ⟨w.heap.size, 4, none⟩ = some (.slice px t.ixs.length cx) := (hc0 _ _ (by first | (simp; done) | (simp; omega))).trans (by simp)
  have fa04 : w1.frozen? ⟨w.heap.size, 4, none⟩ = false := (hf0 _ _ (by first | (simp; done) | (simp; omega))).trans (by simp)
  have kb00 : w1.cell? ⟨w.heap.size + 1, 0, none⟩ = some (.string ⟨#[]⟩) := (hc0 _ _ (by first | (simp; done) | (simp; omega))).trans (by simp)
  have fb00 : w1.frozen? ⟨w.heap.size + 1, 0, none⟩ = false := (hf0 _ _ (by first | (simp; done) | (simp; omega))).trans (by simp)
  have kb01 : w1.cell? ⟨w.heap.size + 1, 1, none⟩ = some (.slice none 0 0) := (hc0 _ _ (by first | (simp; done) | (simp; omega))).trans (by simp)
  have fb01 : w1.frozen? ⟨w.heap.size + 1, 1, none⟩ = false := (hf0 _ _ (by first | (simp; done) | (simp; omega))).trans (by simp)
  have kb02 : w1.cell? ⟨w.heap.size + 1, 2, none⟩ = some (.slice none 0 0) := (hc0 _ _ (by first | (simp; done) | (simp; omega))).trans (by simp)
  have fb02 : w1.frozen? ⟨w.heap.size + 1, 2, none⟩ = false := (hf0 _ _ (by first | (simp; done) | (simp; omega))).trans (by simp)
  have kb03 : w1.cell? ⟨w.heap.size + 1, 3, none⟩ = some (.int .i64 0) := (hc0 _ _ (by first | (simp; done) | (simp; omega))).trans (by simp)
  have fb03 : w1.frozen? ⟨w.heap.size + 1, 3, none⟩ = false := (hf0 _ _ (by first | (simp; done) | (simp; omega))).trans (by simp)
  have kb04 : w1.cell? ⟨w.heap.size + 1, 4, none⟩ = some (.slice none 0 0) := (hc0 _ _ (by first | (simp; done) | (simp; omega))).trans (by simp)
  have fb04 : w1.frozen? ⟨w.heap.size + 1, 4, none⟩ = false := (hf0 _ _ (by first | (simp; done) | (simp; omega))).trans (by simp)
  have HB0 := Lib.hid hb0
  clear hc0 hf0 hb0 
  go_wp2_with fail
  refine (ceCol_any pc cc t.cols _ hF.cols (HR1.out.later (by have hb0 := HB0.out; (repeat (first | exact Below.refl _ _ | assumption | refine Below.drew ?_ | refine below_drewN ?_ _ | refine Below.alloc ?_ (by first | omega | (simp; done) | (simp; omega)) _ | refine Below.setCell ?_ (by first | omega | (simp; done) | (simp; omega)) _ | refine Below.trans ?_ (Below.mono (by assumption) (by first | omega | (simp; done) | (simp; omega)))))) fun _ _ h => h) hF.colnm).mono ?_
  rintro e w2 ⟨v, rfl, hO, hb1⟩
  have HOq1 := Lib.hid hO
  obtain ⟨q1, c1, rfl, -⟩ := hO.form
  clear hO
  obtain ⟨hc1, hf1⟩ := bcell hb1
  have hz1 := hb1.size
  simp at hz1
  have ka10 : w2.cell? ⟨w.heap.size, 0, none⟩ = some (.string t.nm) := (hc1 _ _ (by first | (simp; done) | (simp; omega))).trans (by simp [go_sem, ka00])
  have fa10 : w2.frozen? ⟨w.heap.size, 0, none⟩ = false := (hf1 _ _ (by first | (simp; done) | (simp; omega))).trans (by simp [go_sem, fa00])
  have ka11 : w2.cell? ⟨w.heap.size, 1, none⟩ = some (.slice pc t.cols.length cc) := (hc1 _ _ (by first | (simp; done) | (simp; omega))).trans (by simp [go_sem, ka01])
  have fa11 : w2.frozen? ⟨w.heap.size, 1, none⟩ = false := (hf1 _ _ (by first | (simp; done) | (simp; omega))).trans (by simp [go_sem, fa01])
  have ka12 : w2.cell? ⟨w.heap.size, 2, none⟩ = some (.slice pk t.key.length ck) := (hc1 _ _ (by first | (simp; done) | (simp; omega))).trans (by simp [go_sem, ka02])
  have fa12 : w2.frozen? ⟨w.heap.size, 2, none⟩ = false := (hf1 _ _ (by first | (simp; done) | (simp; omega))).trans (by simp [go_sem, fa02])
  have ka13 : w2.cell? ⟨w.heap.size, 3, none⟩ = some (.int .i64 t.part) := (hc1 _ _ (by first | (simp; done) | (simp; omega))).trans (by simp [go_sem, ka03])
  have fa13 : w2.frozen? ⟨w.heap.size, 3, none⟩ = false := (hf1 _ _ (by first | (simp; done) | (simp; omega))).trans (by simp [go_sem, fa03])
  have ka14 : w2.cell? ⟨w.heap.size, 4, none⟩ = some (.slice px t.ixs.length cx) := (hc1 _ _ (by first | (simp; done) | (simp; omega))).trans (by simp [go_sem, ka04])
  have fa14 : w2.frozen? ⟨w.heap.size, 4, none⟩ = false := (hf1 _ _ (by first | (simp; done) | (simp; omega))).trans (by simp [go_sem, fa04])
  have kb10 : w2.cell? ⟨w.heap.size + 1, 0, none⟩ = some (.string ⟨#[]⟩) := (hc1 _ _ (by first | (simp; done) | (simp; omega))).trans (by simp [go_sem, kb00])
  have fb10 : w2.frozen? ⟨w.heap.size + 1, 0, none⟩ = false := (hf1 _ _ (by first | (simp; done) | (simp; omega))).trans (by simp [go_sem, fb00])
  have kb11 : w2.cell? ⟨w.heap.size + 1, 1, none⟩ = some (.slice none 0 0) := (hc1 _ _ (by first | (simp; done) | (simp; omega))).trans (by simp [go_sem, kb01])
  have fb11 : w2.frozen? ⟨w.heap.size + 1, 1, none⟩ = false := (hf1 _ _ (by first | (simp; done) | (simp; omega))).trans (by simp [go_sem, fb01])
  have kb12 : w2.cell? ⟨w.heap.size + 1, 2, none⟩ = some (.slice none 0 0) := (hc1 _ _ (by first | (simp; done) | (simp; omega))).trans (by simp [go_sem, kb02])
  have fb12 : w2.frozen? ⟨w.heap.size + 1, 2, none⟩ = false := (hf1 _ _ (by first | (simp; done) | (simp; omega))).trans (by simp [go_sem, fb02])
  have kb13 : w2.cell? ⟨w.heap.size + 1, 3, none⟩ = some (.int .i64 0) := (hc1 _ _ (by first | (simp; done) | (simp; omega))).trans (by simp [go_sem, kb03])
  have fb13 : w2.frozen? ⟨w.heap.size + 1, 3, none⟩ = false := (hf1 _ _ (by first | (simp; done) | (simp; omega))).trans (by simp [go_sem, fb03])
  have kb14 : w2.cell? ⟨w.heap.size + 1, 4, none⟩ = some (.slice none 0 0) := (hc1 _ _ (by first | (simp; done) | (simp; omega))).trans (by simp [go_sem, kb04])
  have fb14 : w2.frozen? ⟨w.heap.size + 1, 4, none⟩ = false := (hf1 _ _ (by first | (simp; done) | (simp; omega))).trans (by simp [go_sem, fb04])
  have HB1 := Lib.hid hb1
  clear hc1 hf1 hb1 ka00 fa00 ka01 fa01 ka02 fa02 ka03 fa03 ka04 fa04 kb00 fb00 kb01 fb01 kb02 fb02 kb03 fb03 kb04 fb04
  go_wp2_with fail
  refine (cloneI_any pk ck t.key _ hF.key0 hF.key (HR2.out.later (by have hb0 := HB0.out; have hb1 := HB1.out; (repeat (first | exact Below.refl _ _ | assumption | refine Below.drew ?_ | refine below_drewN ?_ _ | refine Below.alloc ?_ (by first | omega | (simp; done) | (simp; omega)) _ | refine Below.setCell ?_ (by first | omega | (simp; done) | (simp; omega)) _ | refine Below.trans ?_ (Below.mono (by assumption) (by first | omega | (simp; done) | (simp; omega)))))) fun _ _ h => h)).mono ?_
  rintro e w3 ⟨v, rfl, hO, hb2⟩
  have HOq2 := Lib.hid hO
  obtain ⟨q2, c2, rfl, -⟩ := hO.form
  clear hO
  obtain ⟨hc2, hf2⟩ := bcell hb2
  have hz2 := hb2.size
  simp at hz2
  have ka20 : w3.cell? ⟨w.heap.size, 0, none⟩ = some (.string t.nm) := (hc2 _ _ (by first | (simp; done) | (simp; omega))).trans (by simp [go_sem, ka10])
  have fa20 : w3.frozen? ⟨w.heap.size, 0, none⟩ = false := (hf2 _ _ (by first | (simp; done) | (simp; omega))).trans (by simp [go_sem, fa10])
  have ka21 : w3.cell? ⟨w.heap.size, 1, none⟩ = some (.slice q1 t.cols.length c1) := (hc2 _ _ (by first | (simp; done) | (simp; omega))).trans (by simp [go_sem, ka11])
  have fa21 : w3.frozen? ⟨w.heap.size, 1, none⟩ = false := (hf2 _ _ (by first | (simp; done) | (simp; omega))).trans (by simp [go_sem, fa11])
  have ka22 : w3.cell? ⟨w.heap.size, 2, none⟩ = some (.slice pk t.key.length ck) := (hc2 _ _ (by first | (simp; done) | (simp; omega))).trans (by simp [go_sem, ka12])
  have fa22 : w3.frozen? ⟨w.heap.size, 2, none⟩ = false := (hf2 _ _ (by first | (simp; done) | (simp; omega))).trans (by simp [go_sem, fa12])
  have ka23 : w3.cell? ⟨w.heap.size, 3, none⟩ = some (.int .i64 t.part) := (hc2 _ _ (by first | (simp; done) | (simp; omega))).trans (by simp [go_sem, ka13])
  have fa23 : w3.frozen? ⟨w.heap.size, 3, none⟩ = false := (hf2 _ _ (by first | (simp; done) | (simp; omega))).trans (by simp [go_sem, fa13])
  have ka24 : w3.cell? ⟨w.heap.size, 4, none⟩ = some (.slice px t.ixs.length cx) := (hc2 _ _ (by first | (simp; done) | (simp; omega))).trans (by simp [go_sem, ka14])
  have fa24 : w3.frozen? ⟨w.heap.size, 4, none⟩ = false := (hf2 _ _ (by first | (simp; done) | (simp; omega))).trans (by simp [go_sem, fa14])
  have kb20 : w3.cell? ⟨w.heap.size + 1, 0, none⟩ = some (.string ⟨#[]⟩) := (hc2 _ _ (by first | (simp; done) | (simp; omega))).trans (by simp [go_sem, kb10])
  have fb20 : w3.frozen? ⟨w.heap.size + 1, 0, none⟩ = false := (hf2 _ _ (by first | (simp; done) | (simp; omega))).trans (by simp [go_sem, fb10])
  have kb21 : w3.cell? ⟨w.heap.size + 1, 1, none⟩ = some (.slice none 0 0) := (hc2 _ _ (by first | (simp; done) | (simp; omega))).trans (by simp [go_sem, kb11])
  have fb21 : w3.frozen? ⟨w.heap.size + 1, 1, none⟩ = false := (hf2 _ _ (by first | (simp; done) | (simp; omega))).trans (by simp [go_sem, fb11])
  have kb22 : w3.cell? ⟨w.heap.size + 1, 2, none⟩ = some (.slice none 0 0) := (hc2 _ _ (by first | (simp; done) | (simp; omega))).trans (by simp [go_sem, kb12])
  have fb22 : w3.frozen? ⟨w.heap.size + 1, 2, none⟩ = false := (hf2 _ _ (by first | (simp; done) | (simp; omega))).trans (by simp [go_sem, fb12])
  have kb23 : w3.cell? ⟨w.heap.size + 1, 3, none⟩ = some (.int .i64 0) := (hc2 _ _ (by first | (simp; done) | (simp; omega))).trans (by simp [go_sem, kb13])
  have fb23 : w3.frozen? ⟨w.heap.size + 1, 3, none⟩ = false := (hf2 _ _ (by first | (simp; done) | (simp; omega))).trans (by simp [go_sem, fb13])
  have kb24 : w3.cell? ⟨w.heap.size + 1, 4, none⟩ = some (.slice none 0 0) := (hc2 _ _ (by first | (simp; done) | (simp; omega))).trans (by simp [go_sem, kb14])
  have fb24 : w3.frozen? ⟨w.heap.size + 1, 4, none⟩ = false := (hf2 _ _ (by first | (simp; done) | (simp; omega))).trans (by simp [go_sem, fb14])
  have HB2 := Lib.hid hb2
  clear hc2 hf2 hb2 ka10 fa10 ka11 fa11 ka12 fa12 ka13 fa13 ka14 fa14 kb10 fb10 kb11 fb11 kb12 fb12 kb13 fb13 kb14 fb14
  go_wp2_with fail
  refine (ceIx_any px cx t.ixs _ hF.ixs (HR3.out.later (by have hb0 := HB0.out; have hb1 := HB1.out; have hb2 := HB2.out; (repeat (first | exact Below.refl _ _ | assumption | refine Below.drew ?_ | refine below_drewN ?_ _ | refine Below.alloc ?_ (by first | omega | (simp; done) | (simp; omega)) _ | refine Below.setCell ?_ (by first | omega | (simp; done) | (simp; omega)) _ | refine Below.trans ?_ (Below.mono (by assumption) (by first | omega | (simp; done) | (simp; omega)))))) (IxR.later (by have hb0 := HB0.out; have hb1 := HB1.out; have hb2 := HB2.out; (repeat (first | exact Below.refl _ _ | assumption | refine Below.drew ?_ | refine below_drewN ?_ _ | refine Below.alloc ?_ (by first | omega | (simp; done) | (simp; omega)) _ | refine Below.setCell ?_ (by first | omega | (simp; done) | (simp; omega)) _ | refine Below.trans ?_ (Below.mono (by assumption) (by first | omega | (simp; done) | (simp; omega)))))))) hF.ix).mono ?_
  rintro e w4 ⟨v, rfl, hO, hb3⟩
  have HOq3 := Lib.hid hO
  obtain ⟨q3, c3, rfl, -⟩ := hO.form
  clear hO
  obtain ⟨hc3, hf3⟩ := bcell hb3
  have hz3 := hb3.size
  simp at hz3
  have ka30 : w4.cell? ⟨w.heap.size, 0, none⟩ = some (.string t.nm) := (hc3 _ _ (by first | (simp; done) | (simp; omega))).trans (by simp [go_sem, ka20])
  have fa30 : w4.frozen? ⟨w.heap.size, 0, none⟩ = false := (hf3 _ _ (by first | (simp; done) | (simp; omega))).trans (by simp [go_sem, fa20])
  have ka31 : w4.cell? ⟨w.heap.size, 1, none⟩ = some (.slice q1 t.cols.length c1) := (hc3 _ _ (by first | (simp; done) | (simp; omega))).trans (by simp [go_sem, ka21])
  have fa31 : w4.frozen? ⟨w.heap.size, 1, none⟩ = false := (hf3 _ _ (by first | (simp; done) | (simp; omega))).trans (by simp [go_sem, fa21])
  have ka32 : w4.cell? ⟨w.heap.size, 2, none⟩ = some (.slice q2 t.key.length c2) := (hc3 _ _ (by first | (simp; done) | (simp; omega))).trans (by simp [go_sem, ka22])
  have fa32 : w4.frozen? ⟨w.heap.size, 2, none⟩ = false := (hf3 _ _ (by first | (simp; done) | (simp; omega))).trans (by simp [go_sem, fa22])
  have ka33 : w4.cell? ⟨w.heap.size, 3, none⟩ = some (.int .i64 t.part) := (hc3 _ _ (by first | (simp; done) | (simp; omega))).trans (by simp [go_sem, ka23])
  have fa33 : w4.frozen? ⟨w.heap.size, 3, none⟩ = false := (hf3 _ _ (by first | (simp; done) | (simp; omega))).trans (by simp [go_sem, fa23])
  have ka34 : w4.cell? ⟨w.heap.size, 4, none⟩ = some (.slice px t.ixs.length cx) := (hc3 _ _ (by first | (simp; done) | (simp; omega))).trans (by simp [go_sem, ka24])
  have fa34 : w4.frozen? ⟨w.heap.size, 4, none⟩ = false := (hf3 _ _ (by first | (simp; done) | (simp; omega))).trans (by simp [go_sem, fa24])
  have kb30 : w4.cell? ⟨w.heap.size + 1, 0, none⟩ = some (.string ⟨#[]⟩) := (hc3 _ _ (by first | (simp; done) | (simp; omega))).trans (by simp [go_sem, kb20])
  have fb30 : w4.frozen? ⟨w.heap.size + 1, 0, none⟩ = false := (hf3 _ _ (by first | (simp; done) | (simp; omega))).trans (by simp [go_sem, fb20])
  have kb31 : w4.cell? ⟨w.heap.size + 1, 1, none⟩ = some (.slice none 0 0) := (hc3 _ _ (by first | (simp; done) | (simp; omega))).trans (by simp [go_sem, kb21])
  have fb31 : w4.frozen? ⟨w.heap.size + 1, 1, none⟩ = false := (hf3 _ _ (by first | (simp; done) | (simp; omega))).trans (by simp [go_sem, fb21])
  have kb32 : w4.cell? ⟨w.heap.size + 1, 2, none⟩ = some (.slice none 0 0) := (hc3 _ _ (by first | (simp; done) | (simp; omega))).trans (by simp [go_sem, kb22])
  have fb32 : w4.frozen? ⟨w.heap.size + 1, 2, none⟩ = false := (hf3 _ _ (by first | (simp; done) | (simp; omega))).trans (by simp [go_sem, fb22])
  have kb33 : w4.cell? ⟨w.heap.size + 1, 3, none⟩ = some (.int .i64 0) := (hc3 _ _ (by first | (simp; done) | (simp; omega))).trans (by simp [go_sem, kb23])
  have fb33 : w4.frozen? ⟨w.heap.size + 1, 3, none⟩ = false := (hf3 _ _ (by first | (simp; done) | (simp; omega))).trans (by simp [go_sem, fb23])
  have kb34 : w4.cell? ⟨w.heap.size + 1, 4, none⟩ = some (.slice none 0 0) := (hc3 _ _ (by first | (simp; done) | (simp; omega))).trans (by simp [go_sem, kb24])
  have fb34 : w4.frozen? ⟨w.heap.size + 1, 4, none⟩ = false := (hf3 _ _ (by first | (simp; done) | (simp; omega))).trans (by simp [go_sem, fb24])
  have HB3 := Lib.hid hb3
  clear hc3 hf3 hb3 ka20 fa20 ka21 fa21 ka22 fa22 ka23 fa23 ka24 fa24 kb20 fb20 kb21 fb21 kb22 fb22 kb23 fb23 kb24 fb24
  go_wp2
  refine bodyPost_ret (v := .agg #[.string t.nm, .slice q1 t.cols.length c1, .slice q2 t.key.length c2, .int .i64 t.part, .slice q3 t.ixs.length c3]) (by simp [results, Tryz.results68, go_sem, *]) rfl ?_
  have hb0 := HB0.out
  have hb1 := HB1.out
  have hb2 := HB2.out
  have hb3 := HB3.out
  refine ⟨[.string t.nm, .slice q1 t.cols.length c1, .slice q2 t.key.length c2, .int .i64 t.part, .slice q3 t.ixs.length c3], rfl, ⟨_, _, _, rfl, ?_, ?_, ?_⟩, by (repeat (first | with_reducible exact Below.refl _ _ | with_reducible assumption | refine Below.drew ?_ | refine Below.setCell ?_ (by first | omega | (simp; done) | (simp; omega)) _ | refine Below.alloc ?_ (by first | omega | (simp; done) | (simp; omega)) _ | refine Below.trans ?_ (Below.mono (by with_reducible assumption) (by first | omega | (simp; done) | (simp; omega)))))⟩
  · exact (HOq1.out.keeps (S := inTb) (Keeps.low (Keeps.low (Keeps.low (Keeps.low (Keeps.low (Keeps.low (Keeps.trans (Keeps.low (Keeps.trans (Keeps.low (Keeps.of (Below.refl _ _)) (by simp; omega) _ _) (Keeps.of hb2)) (by simp; omega) _ _) (Keeps.of hb3)) (by simp; omega) _ _) (by simp; omega) _ _) (by simp; omega) _ _) (by simp; omega) _ _) (by simp; omega) _ _) (by simp; omega) _ _) (by simp) fun _ _ h => h).mono (by simp; omega) fun _ _ h => h
  · exact (HOq2.out.keeps (S := inTb) (Keeps.low (Keeps.low (Keeps.low (Keeps.low (Keeps.low (Keeps.low (Keeps.trans (Keeps.low (Keeps.of (Below.refl _ _)) (by simp; omega) _ _) (Keeps.of hb3)) (by simp; omega) _ _) (by simp; omega) _ _) (by simp; omega) _ _) (by simp; omega) _ _) (by simp; omega) _ _) (by simp; omega) _ _) (by simp) fun _ _ h => h).mono (by simp; omega) fun _ _ h => h
  · exact (HOq3.out.keeps (S := inTb) (Keeps.low (Keeps.low (Keeps.low (Keeps.low (Keeps.low (Keeps.low (Keeps.of (Below.refl _ _)) (by simp; omega) _ _) (by simp; omega) _ _) (by simp; omega) _ _) (by simp; omega) _ _) (by simp; omega) _ _) (by simp; omega) _ _) (by simp) (IxO.keeps (Keeps.low (Keeps.low (Keeps.low (Keeps.low (Keeps.low (Keeps.low (Keeps.of (Below.refl _ _)) (by simp; omega) _ _) (by simp; omega) _ _) (by simp; omega) _ _) (by simp; omega) _ _) (by simp; omega) _ _) (by simp; omega) _ _))).mono (by simp; omega) (IxO.mono (by simp; omega))

end Go.Proofs.YtkgkkcefnonejaaGreat
