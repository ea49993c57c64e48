/- Walks of layer 8: columns and parameters as bytes. -/
import Derived.Test.YtkgkkcefnonejaaGreatT21
namespace Go.Proofs.YtkgkkcefnonejaaGreat
open Go.RowKit

theorem two_cells {w : World} {x : Nat} {a b : Value} {t : TypeId} (h : w.heap[x]? = some (.cells #[a, b] t (0, 0))) : w.cell? ⟨x, 0, none⟩ = some a ∧ w.cell? ⟨x, 1, none⟩ = some b := by
  refine ⟨?_, ?_⟩ <;> simp [World.cell?, h]
theorem three_of {w : World} {x : Nat} {a b c : Value} {t : TypeId} (h : w.heap[x]? = some (.cells #[a, b, c] t (0, 0))) : w.cell? ⟨x, 0, none⟩ = some a ∧ w.cell? ⟨x, 1, none⟩ = some b ∧ w.cell? ⟨x, 2, none⟩ = some c := by
  refine ⟨?_, ?_, ?_⟩ <;> simp [World.cell?, h]

set_option maxHeartbeats 8000000 in
set_option maxRecDepth 100000 in
theorem enPm_any (c : Pm) (vs : List Value) (w : World) (B : Nat) (v : Value) (xs : List UInt8) (hR : PmR c vs) (hB : B ≤ w.heap.size) (hs : c.nm.size < 2097152) (ht : 0 ≤ c.ty ∧ c.ty < 2097152) (h : Ink w B v xs) (hl : (xs ++ encPm c).length ≤ 1099511627776) :
    Calls Tryz.prog 91 #[v, .agg vs.toArray] w fun e w' => ∃ v', e = .returned v' ∧ Ink w' B v' (xs ++ encPm c) ∧ Inks B w w' := by
  obtain ⟨nm, ty⟩ := c
  obtain rfl := hR
  simp only at hs ht
  obtain ⟨n, rfl⟩ : ∃ n : Nat, ty = (n : Int) := ⟨ty.toNat, by omega⟩
  have hn : n < 2097152 := by omega
  clear ht
  have HE : Hid (xs ++ txt nm ++ num n = xs ++ encPm ⟨nm, (n : Int)⟩) := by
    show _ = _
    simp [encPm, numI, List.append_assoc]
  rw [← HE.out] at hl ⊢
  have HI : Hid (∀ W, Below w.heap.size w W → Ink W B v xs) := fun W h' => h.later h'
  have HL := Lib.hid hl
  clear h hl HE
  go_enter Tryz.func91, Tryz.ntmps91
  go_wp2
  go_region_law (first
    | (go_simp; go_at_call 84; refine (text_any v (xs) nm _ B (by have := hB; first | omega | (simp; omega)) hs (HI.out _ (by (repeat (first | exact Below.refl _ _ | assumption | refine Below.drew ?_ | refine below_drewN ?_ _ | refine Below.alloc ?_ (by first | omega | (simp; done) | (simp; omega)) _ | refine Below.setCell ?_ (by first | omega | (simp; done) | (simp; omega)) _ | refine Below.trans ?_ (Below.mono (by assumption) (by first | omega | (simp; done) | (simp; omega))))))) (by have := HL.out; simp only [List.length_append] at this ⊢; omega)).mono ?_; rintro e w1 ⟨v1, rfl, i1, k1⟩; (have s1 := k1.size); (try simp at s1); (have b1 : w1.heap[w.heap.size]? = some (.cells #[.string nm, .int .i64 (n : Int)] 66 (0, 0)) := k1.heap (heap_alloc_new w (.cells #[.string nm, .int .i64 (n : Int)] 66 (0, 0))) (by decide)); obtain ⟨x0, x1⟩ := two_cells b1)
    | (go_simp; go_at_call 83; refine (num_any v1 (xs ++ txt nm) n _ B (by have := hB; first | omega | (simp; omega)) hn (i1) (by have := HL.out; simp only [List.length_append] at this ⊢; omega)).mono ?_; rintro e w2 ⟨v2, rfl, i2, k2⟩; (have s2 := k2.size); (try simp at s2); (have b2 : w2.heap[w.heap.size]? = some (.cells #[.string nm, .int .i64 (n : Int)] 66 (0, 0)) := k2.heap b1 (by decide))))
  all_goals
    clear b1 b2 x0 x1
    go_wp2
    go_ret
    exact ⟨_, rfl, i2, (((Inks.of (((Below.refl _ _).alloc (Nat.le_refl _) _).drew)).trans k1).trans k2)⟩

set_option maxHeartbeats 8000000 in
set_option maxRecDepth 100000 in
theorem enCol_any (c : Col) (vs : List Value) (w : World) (B : Nat) (v : Value) (xs : List UInt8) (hR : ColR c vs) (hB : B ≤ w.heap.size) (hs : c.nm.size < 2097152) (ht : 0 ≤ c.ty ∧ c.ty < 2097152) (h : Ink w B v xs) (hl : (xs ++ encCol c).length ≤ 1099511627776) :
    Calls Tryz.prog 86 #[v, .agg vs.toArray] w fun e w' => ∃ v', e = .returned v' ∧ Ink w' B v' (xs ++ encCol c) ∧ Inks B w w' := by
  obtain ⟨nm, ty, nn⟩ := c
  obtain rfl := hR
  simp only at hs ht
  obtain ⟨n, rfl⟩ : ∃ n : Nat, ty = (n : Int) := ⟨ty.toNat, by omega⟩
  have hn : n < 2097152 := by omega
  clear ht
  have HE : Hid (xs ++ txt nm ++ num n ++ flag nn = xs ++ encCol ⟨nm, (n : Int), nn⟩) := by
    show _ = _
    simp [encCol, numI, List.append_assoc]
  rw [← HE.out] at hl ⊢
  have HI : Hid (∀ W, Below w.heap.size w W → Ink W B v xs) := fun W h' => h.later h'
  have HL := Lib.hid hl
  clear h hl HE
  go_enter Tryz.func86, Tryz.ntmps86
  go_wp2
  go_region_law (first
    | (go_simp; go_at_call 84; refine (text_any v (xs) nm _ B (by have := hB; first | omega | (simp; omega)) hs (HI.out _ (by (repeat (first | exact Below.refl _ _ | assumption | refine Below.drew ?_ | refine below_drewN ?_ _ | refine Below.alloc ?_ (by first | omega | (simp; done) | (simp; omega)) _ | refine Below.setCell ?_ (by first | omega | (simp; done) | (simp; omega)) _ | refine Below.trans ?_ (Below.mono (by assumption) (by first | omega | (simp; done) | (simp; omega))))))) (by have := HL.out; simp only [List.length_append] at this ⊢; omega)).mono ?_; rintro e w1 ⟨v1, rfl, i1, k1⟩; (have s1 := k1.size); (try simp at s1); (have b1 : w1.heap[w.heap.size]? = some (.cells #[.string nm, .int .i64 (n : Int), .bool nn] 62 (0, 0)) := k1.heap (heap_alloc_new w (.cells #[.string nm, .int .i64 (n : Int), .bool nn] 62 (0, 0))) (by decide)); obtain ⟨x0, x1, x2⟩ := three_of b1)
    | (go_simp; go_at_call 83; refine (num_any v1 (xs ++ txt nm) n _ B (by have := hB; first | omega | (simp; omega)) hn (i1) (by have := HL.out; simp only [List.length_append] at this ⊢; omega)).mono ?_; rintro e w2 ⟨v2, rfl, i2, k2⟩; (have s2 := k2.size); (try simp at s2); (have b2 : w2.heap[w.heap.size]? = some (.cells #[.string nm, .int .i64 (n : Int), .bool nn] 62 (0, 0)) := k2.heap b1 (by decide)); obtain ⟨x0, x1, x2⟩ := three_of b2)
    | (go_simp; go_at_call 137; refine (bool_any v2 (xs ++ txt nm ++ num n) nn _ B (by have := hB; first | omega | (simp; omega)) (i2) (by have := HL.out; simp only [List.length_append] at this ⊢; omega)).mono ?_; rintro e w3 ⟨v3, rfl, i3, k3⟩; (have s3 := k3.size); (try simp at s3); (have b3 : w3.heap[w.heap.size]? = some (.cells #[.string nm, .int .i64 (n : Int), .bool nn] 62 (0, 0)) := k3.heap b2 (by decide))))
  all_goals
    clear b1 b2 b3 x0 x1 x2
    go_wp2
    go_ret
    exact ⟨_, rfl, i3, ((((Inks.of (((Below.refl _ _).alloc (Nat.le_refl _) _).drew)).trans k1).trans k2).trans k3)⟩

end Go.Proofs.YtkgkkcefnonejaaGreat
