/- Walks of layer 8: copies of indexes. -/
import Derived.Test.YtkgkkcefnonejaaGreatT13
namespace Go.Proofs.YtkgkkcefnonejaaGreat
open Go.RowKit

set_option maxHeartbeats 8000000 in
set_option maxRecDepth 100000 in
theorem cpIx_any (c : Ix) (vs : List Value) (w : World) (hR : IxR w c vs) (hs : c.nm.size ≤ 1099511627776) (h0 : 0 < c.cols.length) (hl : c.cols.length ≤ 1000000) :
    Calls Tryz.prog 117 #[.agg vs.toArray] w fun e w' => ∃ us, e = .returned (.agg us.toArray) ∧ IxO w' w.heap.size c us ∧ Below w.heap.size w w' := by
  obtain ⟨p, cp, rfl, r1⟩ := hR
  have HR := Lib.hid r1
  clear r1
  go_enter Tryz.func117, Tryz.ntmps117
  go_wp2_with fail
  refine (clone_any _ _ hs).mono ?_
  rintro e w1 ⟨rfl, hb0⟩
  obtain ⟨hc0, hf0⟩ := bcell hb0
  have hz0 := hb0.size
  simp at hz0
  have ka00 : w1.cell? ⟨w.heap.size, 0, none⟩ = some (.string c.nm) := (hc0 _ _ (by first | (simp; done) | (simp; omega))).trans (by simp)
  have fa00 : w1.frozen? ⟨w.heap.size, 0, none⟩ = false := (hf0 _ _ (by first | (simp; done) | (simp; omega))).trans (by simp)
  have ka01 : w1.cell? ⟨w.heap.size, 1, none⟩ = some (.slice p c.cols.length cp) := (hc0 _ _ (by first | (simp; done) | (simp; omega))).trans (by simp)
  have fa01 : w1.frozen? ⟨w.heap.size, 1, none⟩ = false := (hf0 _ _ (by first | (simp; done) | (simp; omega))).trans (by simp)
  have ka02 : w1.cell? ⟨w.heap.size, 2, none⟩ = some (.bool c.un) := (hc0 _ _ (by first | (simp; done) | (simp; omega))).trans (by simp)
  have fa02 : w1.frozen? ⟨w.heap.size, 2, none⟩ = false := (hf0 _ _ (by first | (simp; done) | (simp; omega))).trans (by simp)
  have kb00 : w1.cell? ⟨w.heap.size + 1, 0, none⟩ = some (.string ⟨#[]⟩) := (hc0 _ _ (by first | (simp; done) | (simp; omega))).trans (by simp)
  have fb00 : w1.frozen? ⟨w.heap.size + 1, 0, none⟩ = false := (hf0 _ _ (by first | (simp; done) | (simp; omega))).trans (by simp)
  have kb01 : w1.cell? ⟨w.heap.size + 1, 1, none⟩ = some (.slice none 0 0) := (hc0 _ _ (by first | (simp; done) | (simp; omega))).trans (by simp)
  have fb01 : w1.frozen? ⟨w.heap.size + 1, 1, none⟩ = false := (hf0 _ _ (by first | (simp; done) | (simp; omega))).trans (by simp)
  have kb02 : w1.cell? ⟨w.heap.size + 1, 2, none⟩ = some (.bool false) := (hc0 _ _ (by first | (simp; done) | (simp; omega))).trans (by simp)
  have fb02 : w1.frozen? ⟨w.heap.size + 1, 2, none⟩ = false := (hf0 _ _ (by first | (simp; done) | (simp; omega))).trans (by simp)
  have HB0 := Lib.hid hb0
  clear hc0 hf0 hb0 
  go_wp2_with fail
  refine (cloneI_any p cp c.cols _ h0 hl (HR.out.later (by have hb0 := HB0.out; (repeat (first | exact Below.refl _ _ | assumption | refine Below.drew ?_ | refine below_drewN ?_ _ | refine Below.alloc ?_ (by first | omega | (simp; done) | (simp; omega)) _ | refine Below.setCell ?_ (by first | omega | (simp; done) | (simp; omega)) _ | refine Below.trans ?_ (Below.mono (by assumption) (by first | omega | (simp; done) | (simp; omega)))))) fun _ _ h => h)).mono ?_
  rintro e w2 ⟨v, rfl, hO, hb1⟩
  have HO := Lib.hid hO
  obtain ⟨q, cq, rfl, -⟩ := hO.form
  clear hO
  obtain ⟨hc1, hf1⟩ := bcell hb1
  have hz1 := hb1.size
  simp at hz1
  have ka10 : w2.cell? ⟨w.heap.size, 0, none⟩ = some (.string c.nm) := (hc1 _ _ (by first | (simp; done) | (simp; omega))).trans (by simp [go_sem, ka00])
  have fa10 : w2.frozen? ⟨w.heap.size, 0, none⟩ = false := (hf1 _ _ (by first | (simp; done) | (simp; omega))).trans (by simp [go_sem, fa00])
  have ka11 : w2.cell? ⟨w.heap.size, 1, none⟩ = some (.slice p c.cols.length cp) := (hc1 _ _ (by first | (simp; done) | (simp; omega))).trans (by simp [go_sem, ka01])
  have fa11 : w2.frozen? ⟨w.heap.size, 1, none⟩ = false := (hf1 _ _ (by first | (simp; done) | (simp; omega))).trans (by simp [go_sem, fa01])
  have ka12 : w2.cell? ⟨w.heap.size, 2, none⟩ = some (.bool c.un) := (hc1 _ _ (by first | (simp; done) | (simp; omega))).trans (by simp [go_sem, ka02])
  have fa12 : w2.frozen? ⟨w.heap.size, 2, none⟩ = false := (hf1 _ _ (by first | (simp; done) | (simp; omega))).trans (by simp [go_sem, fa02])
  have kb10 : w2.cell? ⟨w.heap.size + 1, 0, none⟩ = some (.string ⟨#[]⟩) := (hc1 _ _ (by first | (simp; done) | (simp; omega))).trans (by simp [go_sem, kb00])
  have fb10 : w2.frozen? ⟨w.heap.size + 1, 0, none⟩ = false := (hf1 _ _ (by first | (simp; done) | (simp; omega))).trans (by simp [go_sem, fb00])
  have kb11 : w2.cell? ⟨w.heap.size + 1, 1, none⟩ = some (.slice none 0 0) := (hc1 _ _ (by first | (simp; done) | (simp; omega))).trans (by simp [go_sem, kb01])
  have fb11 : w2.frozen? ⟨w.heap.size + 1, 1, none⟩ = false := (hf1 _ _ (by first | (simp; done) | (simp; omega))).trans (by simp [go_sem, fb01])
  have kb12 : w2.cell? ⟨w.heap.size + 1, 2, none⟩ = some (.bool false) := (hc1 _ _ (by first | (simp; done) | (simp; omega))).trans (by simp [go_sem, kb02])
  have fb12 : w2.frozen? ⟨w.heap.size + 1, 2, none⟩ = false := (hf1 _ _ (by first | (simp; done) | (simp; omega))).trans (by simp [go_sem, fb02])
  have HB1 := Lib.hid hb1
  clear hc1 hf1 hb1 ka00 fa00 ka01 fa01 ka02 fa02 kb00 fb00 kb01 fb01 kb02 fb02
  go_wp2
  refine bodyPost_ret (v := .agg #[.string c.nm, .slice q c.cols.length cq, .bool c.un]) (by simp [results, Tryz.results117, go_sem, *]) rfl ?_
  have hb0 := HB0.out
  have hb1 := HB1.out
  refine ⟨[.string c.nm, .slice q c.cols.length cq, .bool c.un], rfl, ⟨_, rfl, ?_⟩, by (repeat (first | exact Below.refl _ _ | assumption | refine Below.drew ?_ | refine below_drewN ?_ _ | refine Below.alloc ?_ (by first | omega | (simp; done) | (simp; omega)) _ | refine Below.setCell ?_ (by first | omega | (simp; done) | (simp; omega)) _ | refine Below.trans ?_ (Below.mono (by assumption) (by first | omega | (simp; done) | (simp; omega)))))⟩
  refine (HO.out.keeps (S := inIx) ?_ (by simp) fun _ _ h => h).mono (by simp; omega) fun _ _ h => h
  (repeat (first | with_reducible exact Keeps.of (Below.refl _ _) | refine Keeps.low ?_ (by first | (simp; done) | (simp; omega) | omega) _ _ | refine Keeps.alloc ?_ _ | refine Keeps.trans ?_ (Keeps.of (by assumption))))

set_option maxHeartbeats 8000000 in
set_option maxRecDepth 100000 in
theorem ceIx_any (a : Option Addr) (cap : Nat) (l : List Ix) (w : World) (hl : l.length ≤ 1000000) (hr : RowR 3 (IxR w) w a l) (hs : ∀ c ∈ l, c.nm.size ≤ 1099511627776 ∧ 0 < c.cols.length ∧ c.cols.length ≤ 1000000) :
    Calls Tryz.prog 116 #[.slice a l.length cap, .func (.func 117) #[] #[]] w fun e w' => ∃ v, e = .returned v ∧ OwnR 3 64 (IxO w' w.heap.size) w' w.heap.size v l ∧ Below w.heap.size w w' := by
  obtain ⟨i0, hi, hz0, hz1, hz2⟩ := info_parts Tryz.infoIx
  have HR := Lib.hid hr
  have HS := Lib.hid hs
  clear hr hs
  go_enter Tryz.func116, Tryz.ntmps116
  go_wp2
  go_loopw [5, 10] (fun v i wr => ∃ k : Nat, k ≤ l.length ∧ i = .int .i64 k ∧ OwnR 3 64 (IxO wr w.heap.size) wr w.heap.size v (l.take k) ∧ Below w.heap.size w wr) (fun _ i _ => l.length - (intOf i).toNat)
  case atStart => exact ⟨0, Nat.zero_le _, rfl, OwnR.nil _ _ _ _ _, Below.refl _ _⟩
  case round =>
    obtain ⟨k, hk, rfl, hown, hb⟩ := hrel
    have HO := Lib.hid hown
    have HB := Lib.hid hb
    have hsz := hb.size
    clear hown hb
    by_cases hlt : k < l.length
    · have hlti : (k : Int) < (l.length : Int) := by omega
      obtain ⟨b, off, v0, v1, v2, rfl, hR, c0, c1, c2⟩ := HR.out.at3 hlt
      have HRk := Lib.hid hR
      obtain ⟨p, cp, hR, _⟩ := hR
      simp only [List.cons.injEq, and_true] at hR
      obtain ⟨rfl, rfl, rfl⟩ := hR
      have d0 := cell_later HB.out c0
      have d1 := cell_later HB.out c1
      have d2 := cell_later HB.out c2
      clear c0 c1 c2
      go_wp2_with fail
      refine (cpIx_any l[k] _ _ (IxR.later (HB.out.trans (Below.mono (by (repeat (first | exact Below.refl _ _ | assumption | refine Below.drew ?_ | refine below_drewN ?_ _ | refine Below.alloc ?_ (by first | omega | (simp; done) | (simp; omega)) _ | refine Below.setCell ?_ (by first | omega | (simp; done) | (simp; omega)) _ | refine Below.trans ?_ (Below.mono (by assumption) (by first | omega | (simp; done) | (simp; omega)))))) hsz)) _ _ HRk.out) (HS.out _ (List.getElem_mem hlt)).1 (HS.out _ (List.getElem_mem hlt)).2.1 (HS.out _ (List.getElem_mem hlt)).2.2).mono ?_
      rintro e w2 ⟨us, rfl, hO, hb2⟩
      have HBw : Hid (Below wr.heap.size wr w2) := by
        show Below wr.heap.size wr w2
        (repeat (first | exact Below.refl _ _ | assumption | refine Below.drew ?_ | refine below_drewN ?_ _ | refine Below.alloc ?_ (by first | omega | (simp; done) | (simp; omega)) _ | refine Below.setCell ?_ (by first | omega | (simp; done) | (simp; omega)) _ | refine Below.trans ?_ (Below.mono (by assumption) (by first | omega | (simp; done) | (simp; omega)))))
      have hO := IxO.mono (B' := w.heap.size) (by simp; omega) _ _ hO
      have HOx := Lib.hid hO
      obtain ⟨u1, rfl, o1⟩ := hO
      obtain ⟨p1, q1, rfl, -⟩ := o1.form
      clear o1
      have hs2 := HBw.out.size
      obtain ⟨ps, p1, p2, p3⟩ := HO.out
      have hps : (l.take k).length = k := by rw [List.length_take]; omega
      rw [hps] at p3
      have P1 := Lib.hid p1
      have P2 := Lib.hid p2
      have hown2 := own_later p3 HBw.out
      have HOW := Lib.hid hown2
      have hbl := own_ge hown2
      have HBL := Lib.hid hbl
      clear hb2 p1 p2 p3 hps hbl d0 d1 d2 HO HRk
      go_wp2_with (first | (at_builtin; refine wpList_append_own _ rfl _ _ 44 rfl w.heap.size 64 i0 (.agg #[.string ⟨#[]⟩, .slice none 0 0, .bool false]) 3 48 Tryz.underlying44 hi hz0 hz1 hz2 rfl (by decide) _ k (ps.flatMap (·.2)) rfl (hown2.alloc _) ⟨w2.heap.size, 0, none⟩ 1 1 [.string l[k].nm, .slice p1 l[k].cols.length q1, .bool l[k].un] rfl rfl (cells_alloc _ _ _) (by intro u hu; simp only [List.mem_cons, List.not_mem_nil, or_false] at hu; rcases hu with rfl | rfl | rfl <;> rfl) (by unfold maxLen; omega) (by omega) (by simp; omega) ?_; intro v' w3 hown3 hgrow3 _))
      have HG := Lib.hid hgrow3
      have HO3 := Lib.hid hown3
      have hs3 := hgrow3.size
      simp at hs3
      clear hown3 hgrow3 hown2
      go_wp2
      go_roundw
      case rel =>
        have hkp : Keeps inIx w.heap.size w2 w3 := (Keeps.of ((Below.refl _ _).alloc (Nat.le_refl _) _)).trans (Keeps.grown (HOW.out.alloc _) HG.out (by decide))
        have hkw : Keeps inIx w.heap.size wr w3 := (Keeps.of HBw.out).trans hkp
        refine ⟨k + 1, by omega, by go_num, ?_, ?_⟩
        · rw [← take_snoc l k hlt]
          refine OwnR.push (n := 3) P1.out P2.out (IxO.keeps hkw) ((IxO.keeps hkp) _ _ HOx.out) rfl ?_
          rw [List.length_take, Nat.min_eq_left (by omega)]
          exact HO3.out
        · exact (((below_two HB.out HBw.out).alloc (by omega) _).grown HG.out (by simp; omega) HBL.out)
      case measure => simp [intOf]; omega
    · have hk' : k = l.length := by omega
      subst hk'
      have HO2 := HO.out
      rw [List.take_length] at HO2
      have HO3 := Lib.hid HO2
      clear HO2 HO
      go_wp2
      go_ret
      exact ⟨_, rfl, HO3.out, HB.out⟩

end Go.Proofs.YtkgkkcefnonejaaGreat
