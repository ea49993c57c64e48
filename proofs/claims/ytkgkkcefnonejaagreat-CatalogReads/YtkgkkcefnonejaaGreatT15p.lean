/- Walks of layer 8: copies of procedures. -/
import Derived.Test.YtkgkkcefnonejaaGreatT14a
namespace Go.Proofs.YtkgkkcefnonejaaGreat
open Go.RowKit

set_option maxHeartbeats 8000000 in
set_option maxRecDepth 100000 in
theorem cpPc_any (p : Pc) (vs : List Value) (w : World) (hR : PcR w p vs) (hF : PcF p) :
    Calls Tryz.prog 69 #[.agg vs.toArray] w fun e w' => ∃ us, e = .returned (.agg us.toArray) ∧ PcO w' w.heap.size p us ∧ Below w.heap.size w w' := by
  obtain ⟨pp, cp, pb, cb, rfl, r1, r2⟩ := hR
  have HR1 := Lib.hid r1
  have HR2 := Lib.hid r2
  clear r1 r2
  go_enter Tryz.func69, Tryz.ntmps69
  go_wp2_with fail
  refine (clone_any _ _ hF.nm).mono ?_
  rintro e w1 ⟨rfl, hb0⟩
  obtain ⟨hc0, hf0⟩ := bcell hb0
  have hz0 := hb0.size
  simp at hz0
  have ka00 : w1.cell? ⟨w.heap.size, 0, none⟩ = some (.string p.nm) := (hc0 _ _ (by first | (simp; done) | (simp; omega))).trans (by simp)
  have fa00 : w1.frozen? ⟨w.heap.size, 0, none⟩ = false := (hf0 _ _ (by first | (simp; done) | (simp; omega))).trans (by simp)
  have ka01 : w1.cell? ⟨w.heap.size, 1, none⟩ = some (.slice pp p.prms.length cp) := (hc0 _ _ (by first | (simp; done) | (simp; omega))).trans (by simp)
  have fa01 : w1.frozen? ⟨w.heap.size, 1, none⟩ = false := (hf0 _ _ (by first | (simp; done) | (simp; omega))).trans (by simp)
  have ka02 : w1.cell? ⟨w.heap.size, 2, none⟩ = some (.slice pb p.body.length cb) := (hc0 _ _ (by first | (simp; done) | (simp; omega))).trans (by simp)
  have fa02 : w1.frozen? ⟨w.heap.size, 2, none⟩ = false := (hf0 _ _ (by first | (simp; done) | (simp; omega))).trans (by simp)
  have ka03 : w1.cell? ⟨w.heap.size, 3, none⟩ = some (.int .i64 p.rows) := (hc0 _ _ (by first | (simp; done) | (simp; omega))).trans (by simp)
  have fa03 : w1.frozen? ⟨w.heap.size, 3, none⟩ = false := (hf0 _ _ (by first | (simp; done) | (simp; omega))).trans (by simp)
  have ka04 : w1.cell? ⟨w.heap.size, 4, none⟩ = some (.int .i64 p.bytes) := (hc0 _ _ (by first | (simp; done) | (simp; omega))).trans (by simp)
  have fa04 : w1.frozen? ⟨w.heap.size, 4, none⟩ = false := (hf0 _ _ (by first | (simp; done) | (simp; omega))).trans (by simp)
  have kb00 : w1.cell? ⟨w.heap.size + 1, 0, none⟩ = some (.string ⟨#[]⟩) := (hc0 _ _ (by first | (simp; done) | (simp; omega))).trans (by simp)
  have fb00 : w1.frozen? ⟨w.heap.size + 1, 0, none⟩ = false := (hf0 _ _ (by first | (simp; done) | (simp; omega))).trans (by simp)
  have kb01 : w1.cell? ⟨w.heap.size + 1, 1, none⟩ = some (.slice none 0 0) := (hc0 _ _ (by first | (simp; done) | (simp; omega))).trans (by simp)
  have fb01 : w1.frozen? ⟨w.heap.size + 1, 1, none⟩ = false := (hf0 _ _ (by first | (simp; done) | (simp; omega))).trans (by simp)
  have kb02 : w1.cell? ⟨w.heap.size + 1, 2, none⟩ = some (.slice none 0 0) := (hc0 _ _ (by first | (simp; done) | (simp; omega))).trans (by simp)
  have fb02 : w1.frozen? ⟨w.heap.size + 1, 2, none⟩ = false := (hf0 _ _ (by first | (simp; done) | (simp; omega))).trans (by simp)
  have kb03 : w1.cell? ⟨w.heap.size + 1, 3, none⟩ = some (.int .i64 0) := (hc0 _ _ (by first | (simp; done) | (simp; omega))).trans (by simp)
  have fb03 : w1.frozen? ⟨w.heap.size + 1, 3, none⟩ = false := (hf0 _ _ (by first | (simp; done) | (simp; omega))).trans (by simp)
  have kb04 : w1.cell? ⟨w.heap.size + 1, 4, none⟩ = some (.int .i64 0) := (hc0 _ _ (by first | (simp; done) | (simp; omega))).trans (by simp)
  have fb04 : w1.frozen? ⟨w.heap.size + 1, 4, none⟩ = false := (hf0 _ _ (by first | (simp; done) | (simp; omega))).trans (by simp)
  have HB0 := Lib.hid hb0
  clear hc0 hf0 hb0 
  go_wp2_with fail
  refine (cePm_any pp cp p.prms _ hF.prms (HR1.out.later (by have hb0 := HB0.out; (repeat (first | exact Below.refl _ _ | assumption | refine Below.drew ?_ | refine below_drewN ?_ _ | refine Below.alloc ?_ (by first | omega | (simp; done) | (simp; omega)) _ | refine Below.setCell ?_ (by first | omega | (simp; done) | (simp; omega)) _ | refine Below.trans ?_ (Below.mono (by assumption) (by first | omega | (simp; done) | (simp; omega)))))) fun _ _ h => h) hF.prmnm).mono ?_
  rintro e w2 ⟨v, rfl, hO, hb1⟩
  have HOq1 := Lib.hid hO
  obtain ⟨q1, c1, rfl, -⟩ := hO.form
  clear hO
  obtain ⟨hc1, hf1⟩ := bcell hb1
  have hz1 := hb1.size
  simp at hz1
  have ka10 : w2.cell? ⟨w.heap.size, 0, none⟩ = some (.string p.nm) := (hc1 _ _ (by first | (simp; done) | (simp; omega))).trans (by simp [go_sem, ka00])
  have fa10 : w2.frozen? ⟨w.heap.size, 0, none⟩ = false := (hf1 _ _ (by first | (simp; done) | (simp; omega))).trans (by simp [go_sem, fa00])
  have ka11 : w2.cell? ⟨w.heap.size, 1, none⟩ = some (.slice pp p.prms.length cp) := (hc1 _ _ (by first | (simp; done) | (simp; omega))).trans (by simp [go_sem, ka01])
  have fa11 : w2.frozen? ⟨w.heap.size, 1, none⟩ = false := (hf1 _ _ (by first | (simp; done) | (simp; omega))).trans (by simp [go_sem, fa01])
  have ka12 : w2.cell? ⟨w.heap.size, 2, none⟩ = some (.slice pb p.body.length cb) := (hc1 _ _ (by first | (simp; done) | (simp; omega))).trans (by simp [go_sem, ka02])
  have fa12 : w2.frozen? ⟨w.heap.size, 2, none⟩ = false := (hf1 _ _ (by first | (simp; done) | (simp; omega))).trans (by simp [go_sem, fa02])
  have ka13 : w2.cell? ⟨w.heap.size, 3, none⟩ = some (.int .i64 p.rows) := (hc1 _ _ (by first | (simp; done) | (simp; omega))).trans (by simp [go_sem, ka03])
  have fa13 : w2.frozen? ⟨w.heap.size, 3, none⟩ = false := (hf1 _ _ (by first | (simp; done) | (simp; omega))).trans (by simp [go_sem, fa03])
  have ka14 : w2.cell? ⟨w.heap.size, 4, none⟩ = some (.int .i64 p.bytes) := (hc1 _ _ (by first | (simp; done) | (simp; omega))).trans (by simp [go_sem, ka04])
  have fa14 : w2.frozen? ⟨w.heap.size, 4, none⟩ = false := (hf1 _ _ (by first | (simp; done) | (simp; omega))).trans (by simp [go_sem, fa04])
  have kb10 : w2.cell? ⟨w.heap.size + 1, 0, none⟩ = some (.string ⟨#[]⟩) := (hc1 _ _ (by first | (simp; done) | (simp; omega))).trans (by simp [go_sem, kb00])
  have fb10 : w2.frozen? ⟨w.heap.size + 1, 0, none⟩ = false := (hf1 _ _ (by first | (simp; done) | (simp; omega))).trans (by simp [go_sem, fb00])
  have kb11 : w2.cell? ⟨w.heap.size + 1, 1, none⟩ = some (.slice none 0 0) := (hc1 _ _ (by first | (simp; done) | (simp; omega))).trans (by simp [go_sem, kb01])
  have fb11 : w2.frozen? ⟨w.heap.size + 1, 1, none⟩ = false := (hf1 _ _ (by first | (simp; done) | (simp; omega))).trans (by simp [go_sem, fb01])
  have kb12 : w2.cell? ⟨w.heap.size + 1, 2, none⟩ = some (.slice none 0 0) := (hc1 _ _ (by first | (simp; done) | (simp; omega))).trans (by simp [go_sem, kb02])
  have fb12 : w2.frozen? ⟨w.heap.size + 1, 2, none⟩ = false := (hf1 _ _ (by first | (simp; done) | (simp; omega))).trans (by simp [go_sem, fb02])
  have kb13 : w2.cell? ⟨w.heap.size + 1, 3, none⟩ = some (.int .i64 0) := (hc1 _ _ (by first | (simp; done) | (simp; omega))).trans (by simp [go_sem, kb03])
  have fb13 : w2.frozen? ⟨w.heap.size + 1, 3, none⟩ = false := (hf1 _ _ (by first | (simp; done) | (simp; omega))).trans (by simp [go_sem, fb03])
  have kb14 : w2.cell? ⟨w.heap.size + 1, 4, none⟩ = some (.int .i64 0) := (hc1 _ _ (by first | (simp; done) | (simp; omega))).trans (by simp [go_sem, kb04])
  have fb14 : w2.frozen? ⟨w.heap.size + 1, 4, none⟩ = false := (hf1 _ _ (by first | (simp; done) | (simp; omega))).trans (by simp [go_sem, fb04])
  have HB1 := Lib.hid hb1
  clear hc1 hf1 hb1 ka00 fa00 ka01 fa01 ka02 fa02 ka03 fa03 ka04 fa04 kb00 fb00 kb01 fb01 kb02 fb02 kb03 fb03 kb04 fb04
  go_wp2_with fail
  refine (ceStr_any pb cb p.body _ hF.body (HR2.out.later (by have hb0 := HB0.out; have hb1 := HB1.out; (repeat (first | exact Below.refl _ _ | assumption | refine Below.drew ?_ | refine below_drewN ?_ _ | refine Below.alloc ?_ (by first | omega | (simp; done) | (simp; omega)) _ | refine Below.setCell ?_ (by first | omega | (simp; done) | (simp; omega)) _ | refine Below.trans ?_ (Below.mono (by assumption) (by first | omega | (simp; done) | (simp; omega)))))) fun _ _ h => h) hF.src).mono ?_
  rintro e w3 ⟨v, rfl, hO, hb2⟩
  have HOq2 := Lib.hid hO
  obtain ⟨q2, c2, rfl, -⟩ := hO.form
  clear hO
  obtain ⟨hc2, hf2⟩ := bcell hb2
  have hz2 := hb2.size
  simp at hz2
  have ka20 : w3.cell? ⟨w.heap.size, 0, none⟩ = some (.string p.nm) := (hc2 _ _ (by first | (simp; done) | (simp; omega))).trans (by simp [go_sem, ka10])
  have fa20 : w3.frozen? ⟨w.heap.size, 0, none⟩ = false := (hf2 _ _ (by first | (simp; done) | (simp; omega))).trans (by simp [go_sem, fa10])
  have ka21 : w3.cell? ⟨w.heap.size, 1, none⟩ = some (.slice q1 p.prms.length c1) := (hc2 _ _ (by first | (simp; done) | (simp; omega))).trans (by simp [go_sem, ka11])
  have fa21 : w3.frozen? ⟨w.heap.size, 1, none⟩ = false := (hf2 _ _ (by first | (simp; done) | (simp; omega))).trans (by simp [go_sem, fa11])
  have ka22 : w3.cell? ⟨w.heap.size, 2, none⟩ = some (.slice pb p.body.length cb) := (hc2 _ _ (by first | (simp; done) | (simp; omega))).trans (by simp [go_sem, ka12])
  have fa22 : w3.frozen? ⟨w.heap.size, 2, none⟩ = false := (hf2 _ _ (by first | (simp; done) | (simp; omega))).trans (by simp [go_sem, fa12])
  have ka23 : w3.cell? ⟨w.heap.size, 3, none⟩ = some (.int .i64 p.rows) := (hc2 _ _ (by first | (simp; done) | (simp; omega))).trans (by simp [go_sem, ka13])
  have fa23 : w3.frozen? ⟨w.heap.size, 3, none⟩ = false := (hf2 _ _ (by first | (simp; done) | (simp; omega))).trans (by simp [go_sem, fa13])
  have ka24 : w3.cell? ⟨w.heap.size, 4, none⟩ = some (.int .i64 p.bytes) := (hc2 _ _ (by first | (simp; done) | (simp; omega))).trans (by simp [go_sem, ka14])
  have fa24 : w3.frozen? ⟨w.heap.size, 4, none⟩ = false := (hf2 _ _ (by first | (simp; done) | (simp; omega))).trans (by simp [go_sem, fa14])
  have kb20 : w3.cell? ⟨w.heap.size + 1, 0, none⟩ = some (.string ⟨#[]⟩) := (hc2 _ _ (by first | (simp; done) | (simp; omega))).trans (by simp [go_sem, kb10])
  have fb20 : w3.frozen? ⟨w.heap.size + 1, 0, none⟩ = false := (hf2 _ _ (by first | (simp; done) | (simp; omega))).trans (by simp [go_sem, fb10])
  have kb21 : w3.cell? ⟨w.heap.size + 1, 1, none⟩ = some (.slice none 0 0) := (hc2 _ _ (by first | (simp; done) | (simp; omega))).trans (by simp [go_sem, kb11])
  have fb21 : w3.frozen? ⟨w.heap.size + 1, 1, none⟩ = false := (hf2 _ _ (by first | (simp; done) | (simp; omega))).trans (by simp [go_sem, fb11])
  have kb22 : w3.cell? ⟨w.heap.size + 1, 2, none⟩ = some (.slice none 0 0) := (hc2 _ _ (by first | (simp; done) | (simp; omega))).trans (by simp [go_sem, kb12])
  have fb22 : w3.frozen? ⟨w.heap.size + 1, 2, none⟩ = false := (hf2 _ _ (by first | (simp; done) | (simp; omega))).trans (by simp [go_sem, fb12])
  have kb23 : w3.cell? ⟨w.heap.size + 1, 3, none⟩ = some (.int .i64 0) := (hc2 _ _ (by first | (simp; done) | (simp; omega))).trans (by simp [go_sem, kb13])
  have fb23 : w3.frozen? ⟨w.heap.size + 1, 3, none⟩ = false := (hf2 _ _ (by first | (simp; done) | (simp; omega))).trans (by simp [go_sem, fb13])
  have kb24 : w3.cell? ⟨w.heap.size + 1, 4, none⟩ = some (.int .i64 0) := (hc2 _ _ (by first | (simp; done) | (simp; omega))).trans (by simp [go_sem, kb14])
  have fb24 : w3.frozen? ⟨w.heap.size + 1, 4, none⟩ = false := (hf2 _ _ (by first | (simp; done) | (simp; omega))).trans (by simp [go_sem, fb14])
  have HB2 := Lib.hid hb2
  clear hc2 hf2 hb2 ka10 fa10 ka11 fa11 ka12 fa12 ka13 fa13 ka14 fa14 kb10 fb10 kb11 fb11 kb12 fb12 kb13 fb13 kb14 fb14
  go_wp2
  refine bodyPost_ret (v := .agg #[.string p.nm, .slice q1 p.prms.length c1, .slice q2 p.body.length c2, .int .i64 p.rows, .int .i64 p.bytes]) (by simp [results, Tryz.results69, go_sem, *]) rfl ?_
  have hb0 := HB0.out
  have hb1 := HB1.out
  have hb2 := HB2.out
  refine ⟨[.string p.nm, .slice q1 p.prms.length c1, .slice q2 p.body.length c2, .int .i64 p.rows, .int .i64 p.bytes], rfl, ⟨_, _, rfl, ?_, ?_⟩, by (repeat (first | with_reducible exact Below.refl _ _ | with_reducible assumption | refine Below.drew ?_ | refine Below.setCell ?_ (by first | omega | (simp; done) | (simp; omega)) _ | refine Below.alloc ?_ (by first | omega | (simp; done) | (simp; omega)) _ | refine Below.trans ?_ (Below.mono (by with_reducible assumption) (by first | omega | (simp; done) | (simp; omega)))))⟩
  · exact (HOq1.out.keeps (S := inPc) (Keeps.low (Keeps.low (Keeps.low (Keeps.low (Keeps.low (Keeps.low (Keeps.trans (Keeps.low (Keeps.of (Below.refl _ _)) (by simp; omega) _ _) (Keeps.of hb2)) (by simp; omega) _ _) (by simp; omega) _ _) (by simp; omega) _ _) (by simp; omega) _ _) (by simp; omega) _ _) (by simp; omega) _ _) (by simp) fun _ _ h => h).mono (by simp; omega) fun _ _ h => h
  · exact (HOq2.out.keeps (S := inPc) (Keeps.low (Keeps.low (Keeps.low (Keeps.low (Keeps.low (Keeps.low (Keeps.of (Below.refl _ _)) (by simp; omega) _ _) (by simp; omega) _ _) (by simp; omega) _ _) (by simp; omega) _ _) (by simp; omega) _ _) (by simp; omega) _ _) (by simp) fun _ _ h => h).mono (by simp; omega) fun _ _ h => h

end Go.Proofs.YtkgkkcefnonejaaGreat
