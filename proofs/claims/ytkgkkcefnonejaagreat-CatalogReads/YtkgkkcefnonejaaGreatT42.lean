/- Walks of layer 8: the chapter's table. -/
import Derived.Test.YtkgkkcefnonejaaGreatT37
import Derived.Test.YtkgkkcefnonejaaGreatT19
import Derived.Test.YtkgkkcefnonejaaGreatT19p
namespace Go.Proofs.YtkgkkcefnonejaaGreat
open Go.RowKit

def tb0 : Tb := ⟨⟨#[116]⟩, [⟨⟨#[105, 100]⟩, 1, true⟩, ⟨⟨#[118]⟩, 3, false⟩], [0], 0, [⟨⟨#[98, 121, 95, 118]⟩, [1], false⟩]⟩
def tb1 : Tb := ⟨⟨#[116]⟩, [⟨⟨#[105, 100]⟩, 1, true⟩, ⟨⟨#[118]⟩, 3, false⟩], [0], 1, [⟨⟨#[98, 121, 95, 118]⟩, [1], false⟩]⟩
theorem tb0_may : mayTb tb0 = true := by decide +kernel
theorem no_right : rightC ⟨[], []⟩ = true := by decide +kernel
theorem one_right : rightC ⟨[tb0], []⟩ = true := by decide +kernel
theorem tb1_not : rightC ⟨[tb1], []⟩ = false := by decide +kernel
theorem add_one : addTE ⟨[], []⟩ tb0 = 0 := by decide +kernel
theorem add_oneC : addTC ⟨[], []⟩ tb0 = ⟨[tb0], []⟩ := by rw [addTC, if_pos add_one]; rfl
theorem add_two : addTE ⟨[tb0], []⟩ tb0 = 81 := by decide +kernel
theorem enc_one : encC ⟨[tb0], []⟩ = [1, 1, 116, 2, 2, 105, 100, 1, 1, 1, 118, 3, 0, 1, 0, 0, 1, 4, 98, 121, 95, 118, 0, 1, 1, 0] := by decide +kernel
theorem fnd_v : fndI (tb0.cols.map fun x => bs x.nm) (bs ⟨#[118]⟩) = 1 := by decide +kernel
theorem fnd_u : fndI ([tb0].map fun x => bs x.nm) (bs ⟨#[117]⟩) = -1 := by decide +kernel
theorem num_pos (n : Nat) : 1 ≤ (num n).length := by
  unfold num numF
  split <;> simp
theorem dec_one {c : Ct} {k : Int} (h : DecIs ⟨#[1]⟩ c k) : k = 80 := by
  rcases h with ⟨_, _, e, _⟩ | ⟨e, _⟩
  · exfalso
    have := congrArg List.length e
    rw [encC, lst, lst] at this
    simp only [List.length_append] at this
    have h1 := num_pos c.tbs.length
    have h2 := num_pos c.prs.length
    have h3 : (bs ⟨#[1]⟩).length = 1 := rfl
    omega
  · exact e

theorem RowR.ofBlock {α : Type} {n : Nat} {R : α → List Value → Prop} {w : World} {g : Nat} {cs : Array Value} {t : TypeId} {fr : Nat × Nat} {l : List α} (h : w.heap[g]? = some (.cells cs t fr)) (hl : ∀ i (hi : i < l.length), ∃ vs, R l[i] vs ∧ vs.length = n ∧ ∀ j (hj : j < vs.length), cs[i * n + j]? = some vs[j]) : RowR n R w (some ⟨g, 0, none⟩) l := by
  intro i hi
  obtain ⟨vs, h1, h2, h3⟩ := hl i hi
  refine ⟨g, 0, vs, rfl, h1, h2, fun j hj => ?_⟩
  have := h3 j hj
  simp only [World.cell?, h, Nat.zero_add]
  exact this

set_option maxHeartbeats 4000000 in
set_option maxRecDepth 100000 in
theorem table8_any (w : World) : Calls Tryz.prog 34 #[] w fun e w' => ∃ us, e = .returned (.agg us.toArray) ∧ TbR w' tb0 us ∧ Below w.heap.size w w' := by
  have h1 := heap_alloc_new (w.alloc (.cells #[.string ⟨#[116]⟩, .slice (some ⟨w.heap.size + 1, 0, none⟩) 2 2, .slice (some ⟨w.heap.size + 1 + 1, 0, none⟩) 1 1, .int .i64 0, .slice (some ⟨w.heap.size + 1 + 1 + 1 + 1, 0, none⟩) 1 1] 46)) (.cells #[.string ⟨#[105, 100]⟩, .int .i64 1, .bool true, .string ⟨#[118]⟩, .int .i64 3, .bool false] 62 (0, 0))
  have h2 := heap_alloc_new ((w.alloc (.cells #[.string ⟨#[116]⟩, .slice (some ⟨w.heap.size + 1, 0, none⟩) 2 2, .slice (some ⟨w.heap.size + 1 + 1, 0, none⟩) 1 1, .int .i64 0, .slice (some ⟨w.heap.size + 1 + 1 + 1 + 1, 0, none⟩) 1 1] 46)).alloc (.cells #[.string ⟨#[105, 100]⟩, .int .i64 1, .bool true, .string ⟨#[118]⟩, .int .i64 3, .bool false] 62 (0, 0))) (.cells #[.int .i64 0] 3 (0, 0))
  have h3 := heap_alloc_new (((w.alloc (.cells #[.string ⟨#[116]⟩, .slice (some ⟨w.heap.size + 1, 0, none⟩) 2 2, .slice (some ⟨w.heap.size + 1 + 1, 0, none⟩) 1 1, .int .i64 0, .slice (some ⟨w.heap.size + 1 + 1 + 1 + 1, 0, none⟩) 1 1] 46)).alloc (.cells #[.string ⟨#[105, 100]⟩, .int .i64 1, .bool true, .string ⟨#[118]⟩, .int .i64 3, .bool false] 62 (0, 0))).alloc (.cells #[.int .i64 0] 3 (0, 0))) (.cells #[.int .i64 1] 3 (0, 0))
  have h4 := heap_alloc_new ((((w.alloc (.cells #[.string ⟨#[116]⟩, .slice (some ⟨w.heap.size + 1, 0, none⟩) 2 2, .slice (some ⟨w.heap.size + 1 + 1, 0, none⟩) 1 1, .int .i64 0, .slice (some ⟨w.heap.size + 1 + 1 + 1 + 1, 0, none⟩) 1 1] 46)).alloc (.cells #[.string ⟨#[105, 100]⟩, .int .i64 1, .bool true, .string ⟨#[118]⟩, .int .i64 3, .bool false] 62 (0, 0))).alloc (.cells #[.int .i64 0] 3 (0, 0))).alloc (.cells #[.int .i64 1] 3 (0, 0))) (.cells #[.string ⟨#[98, 121, 95, 118]⟩, .slice (some ⟨w.heap.size + 1 + 1 + 1, 0, none⟩) 1 1, .bool false] 64 (0, 0))
  simp only [World.size_alloc] at h1 h2 h3 h4
  have H1 := Lib.hid (heap_of (heap_of (heap_of h1 ((Below.refl _ _).alloc (Nat.le_refl _) (.cells #[.int .i64 0] 3 (0, 0)))) ((Below.refl _ _).alloc (Nat.le_refl _) (.cells #[.int .i64 1] 3 (0, 0)))) ((Below.refl _ _).alloc (Nat.le_refl _) (.cells #[.string ⟨#[98, 121, 95, 118]⟩, .slice (some ⟨w.heap.size + 1 + 1 + 1, 0, none⟩) 1 1, .bool false] 64 (0, 0))))
  have H2 := Lib.hid (heap_of (heap_of h2 ((Below.refl _ _).alloc (Nat.le_refl _) (.cells #[.int .i64 1] 3 (0, 0)))) ((Below.refl _ _).alloc (Nat.le_refl _) (.cells #[.string ⟨#[98, 121, 95, 118]⟩, .slice (some ⟨w.heap.size + 1 + 1 + 1, 0, none⟩) 1 1, .bool false] 64 (0, 0))))
  have H3 := Lib.hid (heap_of h3 ((Below.refl _ _).alloc (Nat.le_refl _) (.cells #[.string ⟨#[98, 121, 95, 118]⟩, .slice (some ⟨w.heap.size + 1 + 1 + 1, 0, none⟩) 1 1, .bool false] 64 (0, 0))))
  have H4 := Lib.hid h4
  clear h1 h2 h3 h4
  go_enter Tryz.func34, Tryz.ntmps34
  go_wp2
  refine bodyPost_ret (v := .agg #[.string ⟨#[116]⟩, .slice (some ⟨w.heap.size + 1, 0, none⟩) 2 2, .slice (some ⟨w.heap.size + 1 + 1, 0, none⟩) 1 1, .int .i64 0, .slice (some ⟨w.heap.size + 1 + 1 + 1 + 1, 0, none⟩) 1 1]) (by simp [results, Tryz.results34, go_sem]) rfl ?_
  refine ⟨[.string ⟨#[116]⟩, .slice (some ⟨w.heap.size + 1, 0, none⟩) 2 2, .slice (some ⟨w.heap.size + 1 + 1, 0, none⟩) 1 1, .int .i64 0, .slice (some ⟨w.heap.size + 1 + 1 + 1 + 1, 0, none⟩) 1 1], rfl, ⟨_, _, _, _, _, _, rfl, RowR.ofBlock H1.out ?_, RowR.ofBlock H2.out ?_, RowR.ofBlock H4.out ?_⟩, by (repeat (first | with_reducible exact Below.refl _ _ | with_reducible assumption | refine Below.drew ?_ | refine Below.setCell ?_ (by first | omega | (simp; done) | (simp; omega)) _ | refine Below.alloc ?_ (by first | omega | (simp; done) | (simp; omega)) _ | refine Below.trans ?_ (Below.mono (by with_reducible assumption) (by first | omega | (simp; done) | (simp; omega)))))⟩
  · intro i hi
    match i, hi with
    | 0, _ => exact ⟨_, rfl, rfl, fun j hj => match j, hj with | 0, _ => rfl | 1, _ => rfl | 2, _ => rfl⟩
    | 1, _ => exact ⟨_, rfl, rfl, fun j hj => match j, hj with | 0, _ => rfl | 1, _ => rfl | 2, _ => rfl⟩
  · intro i hi
    match i, hi with
    | 0, _ => exact ⟨_, rfl, rfl, fun j hj => match j, hj with | 0, _ => rfl⟩
  · intro i hi
    match i, hi with
    | 0, _ =>
      refine ⟨[.string ⟨#[98, 121, 95, 118]⟩, .slice (some ⟨w.heap.size + 1 + 1 + 1, 0, none⟩) 1 1, .bool false], ⟨_, _, rfl, RowR.ofBlock H3.out ?_⟩, rfl, fun j hj => match j, hj with | 0, _ => rfl | 1, _ => rfl | 2, _ => rfl⟩
      intro i hi
      match i, hi with
      | 0, _ => exact ⟨_, rfl, rfl, fun j hj => match j, hj with | 0, _ => rfl⟩
end Go.Proofs.YtkgkkcefnonejaaGreat
