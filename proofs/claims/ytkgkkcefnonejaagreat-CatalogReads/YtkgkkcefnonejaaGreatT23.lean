/- Walks of layer 8: indexes as bytes. -/
import Derived.Test.YtkgkkcefnonejaaGreatT22
namespace Go.Proofs.YtkgkkcefnonejaaGreat
open Go.RowKit

theorem numC (w0 : World) (l : List Int) (hc : ∀ p ∈ l, 0 ≤ p ∧ p < 2097152) : ∀ k (h : k < l.length) u ys w1, Below w0.heap.size w0 w1 → Ink w1 w0.heap.size u ys → (ys ++ numI l[k]).length ≤ 1099511627776 → Calls Tryz.prog 83 #[u, .int .i64 l[k]] w1 fun e w2 => ∃ u', e = .returned u' ∧ Ink w2 w0.heap.size u' (ys ++ numI l[k]) ∧ Inks w0.heap.size w1 w2 := by
  intro k h u ys w1 hb hi hl
  have h1 := hc _ (List.getElem_mem h)
  have h2 : ((l[k].toNat : Nat) : Int) = l[k] := by omega
  have := num_any u ys l[k].toNat w1 w0.heap.size hb.size (by omega) hi hl
  rw [h2] at this
  exact this
theorem five_cells {w : World} {x : Nat} {a b c d e : Value} {t : TypeId} (h : w.heap[x]? = some (.cells #[a, b, c, d, e] t (0, 0))) : w.cell? ⟨x, 0, none⟩ = some a ∧ w.cell? ⟨x, 1, none⟩ = some b ∧ w.cell? ⟨x, 2, none⟩ = some c ∧ w.cell? ⟨x, 3, none⟩ = some d ∧ w.cell? ⟨x, 4, none⟩ = some e := by
  refine ⟨?_, ?_, ?_, ?_, ?_⟩ <;> simp [World.cell?, h]

set_option maxHeartbeats 8000000 in
set_option maxRecDepth 100000 in
theorem enIx_any (c : Ix) (vs : List Value) (w0 w : World) (B : Nat) (v : Value) (xs : List UInt8) (hR : IxR w0 c vs) (hB : B ≤ w.heap.size) (hBw : w0.heap.size = B) (hb0 : Below w0.heap.size w0 w) (hs : c.nm.size < 2097152) (hn : c.cols.length ≤ 1000) (hc : ∀ p ∈ c.cols, 0 ≤ p ∧ p < 2097152) (h : Ink w B v xs) (hl : (xs ++ encIx c).length ≤ 1099511627776) :
    Calls Tryz.prog 89 #[v, .agg vs.toArray] w fun e w' => ∃ v', e = .returned v' ∧ Ink w' B v' (xs ++ encIx c) ∧ Inks B w w' := by
  subst hBw
  have HB0 : Hid (∀ W, Below w.heap.size w W → Below w0.heap.size w0 W) := fun W h1 => hb0.trans (h1.mono hb0.size)
  obtain ⟨nm, cols, un⟩ := c
  obtain ⟨p, cp, rfl, r1⟩ := hR
  have HR := Lib.hid r1
  simp only at hs hn hc
  have HCn := Lib.hid (numC w0 cols hc)
  clear hc r1 hb0
  have HE : Hid (xs ++ txt nm ++ flag un ++ lst numI cols = xs ++ encIx ⟨nm, cols, un⟩) := by
    show _ = _
    simp [encIx, List.append_assoc]
  rw [← HE.out] at hl ⊢
  have HI : Hid (∀ W, Below w.heap.size w W → Ink W w0.heap.size v xs) := fun W h' => h.later h'
  have HL := Lib.hid hl
  clear h hl HE
  go_enter Tryz.func89, Tryz.ntmps89
  go_wp2
  go_region_law (first
    | (go_simp; go_at_call 84; refine (text_any v (xs) nm _ w0.heap.size (by have := hB; first | omega | (simp; omega)) hs (HI.out _ (by (repeat (first | exact Below.refl _ _ | assumption | refine Below.drew ?_ | refine below_drewN ?_ _ | refine Below.alloc ?_ (by first | omega | (simp; done) | (simp; omega)) _ | refine Below.setCell ?_ (by first | omega | (simp; done) | (simp; omega)) _ | refine Below.trans ?_ (Below.mono (by assumption) (by first | omega | (simp; done) | (simp; omega))))))) (by have := HL.out; simp only [List.length_append] at this ⊢; omega)).mono ?_; rintro e w1 ⟨v1, rfl, i1, k1⟩; (have s1 := k1.size); (try simp at s1); (have b1 : w1.heap[w.heap.size]? = some (.cells #[.string nm, .slice p cols.length cp, .bool un] 64 (0, 0)) := k1.heap (heap_alloc_new w (.cells #[.string nm, .slice p cols.length cp, .bool un] 64 (0, 0))) (by decide)); obtain ⟨x0, x1, x2⟩ := three_of b1)
    | (go_simp; go_at_call 137; refine (bool_any v1 (xs ++ txt nm) un _ w0.heap.size (by have := hB; first | omega | (simp; omega)) (i1) (by have := HL.out; simp only [List.length_append] at this ⊢; omega)).mono ?_; rintro e w2 ⟨v2, rfl, i2, k2⟩; (have s2 := k2.size); (try simp at s2); (have b2 : w2.heap[w.heap.size]? = some (.cells #[.string nm, .slice p cols.length cp, .bool un] 64 (0, 0)) := k2.heap b1 (by decide)); obtain ⟨x0, x1, x2⟩ := three_of b2)
    | (go_simp; go_at_call 87; refine (aeInt_any w0 _ v2 (xs ++ txt nm ++ flag un) p cp cols numI (Inks.on (Inks.on (HB0.out _ (by (repeat (first | exact Below.refl _ _ | assumption | refine Below.drew ?_ | refine below_drewN ?_ _ | refine Below.alloc ?_ (by first | omega | (simp; done) | (simp; omega)) _ | refine Below.setCell ?_ (by first | omega | (simp; done) | (simp; omega)) _ | refine Below.trans ?_ (Below.mono (by assumption) (by first | omega | (simp; done) | (simp; omega))))))) k1) k2) HR.out hn (i2) (by have := HL.out; simp only [List.length_append] at this ⊢; omega) HCn.out).mono ?_; rintro e w3 ⟨v3, rfl, i3, k3⟩; (have s3 := k3.size); (try simp at s3); (have b3 : w3.heap[w.heap.size]? = some (.cells #[.string nm, .slice p cols.length cp, .bool un] 64 (0, 0)) := k3.heap b2 (by decide))))
  all_goals
    clear b1 b2 b3 x0 x1 x2
    go_wp2
    go_ret
    exact ⟨_, rfl, i3, ((((Inks.of (((Below.refl _ _).alloc (Nat.le_refl _) _).drew)).trans k1).trans k2).trans k3)⟩

end Go.Proofs.YtkgkkcefnonejaaGreat
