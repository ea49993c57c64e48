/- Walks of layer 19: locks in memory; the document's Right, Meet, MeetAny. -/
import Derived.Test.YtefdhmdkcpgfcaaI0
import Derived.Test.YtefdhmdkcpgfcaaM190
import Derived.Laws.StructEq
namespace Go.Proofs.Ytefdhmdkcpgfcaa
open Go.RowKit
/-- The cells of a lock. -/
def lkC (l : Lk) : List Value := [.int .i64 l.tb, .string l.lo, .string l.hi, .bool l.wr]
def LkR (l : Lk) (vs : List Value) : Prop := vs = lkC l
theorem RowR.at4 {α : Type} {R : α → List Value → Prop} {w : World} {a : Option Addr} {l : List α} (h : RowR 4 R w a l) {i : Nat} (hi : i < l.length) : ∃ b off v0 v1 v2 v3, a = some ⟨b, off, none⟩ ∧ R l[i] [v0, v1, v2, v3] ∧ w.cell? ⟨b, off + i * 4, none⟩ = some v0 ∧ w.cell? ⟨b, off + i * 4 + 1, none⟩ = some v1 ∧ w.cell? ⟨b, off + i * 4 + 2, none⟩ = some v2 ∧ w.cell? ⟨b, off + i * 4 + 3, none⟩ = some v3 := by
  obtain ⟨b, off, vs, e, h1, h2, h3⟩ := h i hi
  match vs, h2 with
  | [v0, v1, v2, v3], _ => exact ⟨b, off, v0, v1, v2, v3, e, h1, h3 0 (by simp), h3 1 (by simp), h3 2 (by simp), h3 3 (by simp)⟩
/-- A lock of a row, cell by cell. -/
theorem lock_at {w : World} {a : Option Addr} {l : List Lk} (h : RowR 4 LkR w a l) {i : Nat} (hi : i < l.length) : ∃ b off, a = some ⟨b, off, none⟩ ∧ w.cell? ⟨b, off + i * 4, none⟩ = some (.int .i64 l[i].tb) ∧ w.cell? ⟨b, off + i * 4 + 1, none⟩ = some (.string l[i].lo) ∧ w.cell? ⟨b, off + i * 4 + 2, none⟩ = some (.string l[i].hi) ∧ w.cell? ⟨b, off + i * 4 + 3, none⟩ = some (.bool l[i].wr) := by
  obtain ⟨b, off, v0, v1, v2, v3, e, hR, c0, c1, c2, c3⟩ := h.at4 hi
  simp only [LkR, lkC, List.cons.injEq, and_true] at hR
  obtain ⟨rfl, rfl, rfl, rfl⟩ := hR
  exact ⟨b, off, e, c0, c1, c2, c3⟩
theorem neq_lock (a b : Lk) (w : World) : (binOp .neq 23 (.agg (lkC a).toArray) (.agg (lkC b).toArray)).run Try.prog w = .ok (.bool (!(decide (a = b)))) w := by
  obtain ⟨a1, a2, a3, a4⟩ := a
  obtain ⟨b1, b2, b3, b4⟩ := b
  have hf : ∃ f g h i, Try.prog.fieldsOf 23 = #[f, g, h, i] ∧ (f.type = 3 ∧ f.offset = 0 ∧ f.name ≠ "_") ∧ (g.type = 9 ∧ g.offset = 1 ∧ g.name ≠ "_") ∧ (h.type = 9 ∧ h.offset = 2 ∧ h.name ≠ "_") ∧ i.type = 4 ∧ i.offset = 3 ∧ i.name ≠ "_" := by
    refine ⟨_, _, _, _, (by kernel_rfl : Try.prog.fieldsOf 23 = #[(Try.prog.fieldsOf 23)[0]!, (Try.prog.fieldsOf 23)[1]!, (Try.prog.fieldsOf 23)[2]!, (Try.prog.fieldsOf 23)[3]!]), ⟨by kernel_rfl, by kernel_rfl, by decide +kernel⟩, ⟨by kernel_rfl, by kernel_rfl, by decide +kernel⟩, ⟨by kernel_rfl, by kernel_rfl, by decide +kernel⟩, by kernel_rfl, by kernel_rfl, by decide +kernel⟩
  obtain ⟨f, g, h, i, e, ⟨f1, f2, f3⟩, ⟨g1, g2, g3⟩, ⟨h1, h2, h3⟩, i1, i2, i3⟩ := hf
  rw [run_neq_struct, run_equalIn_agg _ _ _ _ _ (by kernel_rfl) (by kernel_rfl), e]
  have hs1 := str_eq a2 b2
  have hs2 := str_eq a3 b3
  simp [f1, g1, f2, g2, f3, g3, h1, h2, h3, i1, i2, i3, lkC, go_sem, Try.underlying9, Try.underlying3, Try.underlying4, hs1, hs2]
  have q : ∀ {s t : ByteArray}, bs s = bs t ↔ s = t := fun {s t} => ⟨fun h => ByteArray.ext (Array.ext' h), fun h => by rw [h]⟩
  have e : decide ((⟨a1, a2, a3, a4⟩ : Lk) = ⟨b1, b2, b3, b4⟩) = (decide (a1 = b1) && (decide (a2 = b2) && (decide (a3 = b3) && decide (a4 = b4)))) := by
    rw [Bool.eq_iff_iff]
    simp
  by_cases k0 : a1 = b1 <;> by_cases k1 : a2 = b2 <;> by_cases k2 : a3 = b3 <;> by_cases k3 : a4 = b4 <;> simp [k0, k1, k2, k3, q]
theorem guard_lock (op : BinOp) (x y : Operand) (xs ys : Array Value) (w : World) : (eqGuard op 23 x y (.agg xs) (.agg ys)).run Try.prog w = .ok () w := run_eqGuard_agg _ _ _ _ _ _ _ (by kernel_rfl)

set_option maxHeartbeats 2000000 in
set_option maxRecDepth 100000 in
theorem rright19_any (l : Lk) (w : World) : Calls Try.prog 9 #[.agg (lkC l).toArray] w fun e w' => e = .returned (.bool (lkR l)) ∧ Below w.heap.size w w' := by
  obtain ⟨t, a, b, x⟩ := l
  obtain ⟨q, hq⟩ : ∃ q, lkR ⟨t, a, b, x⟩ = q := ⟨_, rfl⟩
  have HQ : Hid (lkR ⟨t, a, b, x⟩ = q) := hq
  rw [hq]
  clear hq
  unfold lkR noB ltB at HQ
  simp only [lkC]
  go_enter Try.func9, Try.ntmps9
  go_wp2
  all_goals go_ret
  all_goals refine ⟨ret_bool ?_, by (repeat (first | exact Below.refl _ _ | assumption | refine Below.drew ?_ | refine below_drewN ?_ _ | refine Below.alloc ?_ (by first | omega | (simp; done) | (simp; omega)) _ | refine Below.setCell ?_ (by first | omega | (simp; done) | (simp; omega)) _ | refine Below.trans ?_ (Below.mono (by assumption) (by first | omega | (simp; done) | (simp; omega)))))⟩
  all_goals (rw [← HQ.out]; simp [*, gtL]; try omega)
end Go.Proofs.Ytefdhmdkcpgfcaa
