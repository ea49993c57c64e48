/- Walks of layer 7: awake. -/
import Derived.Test.YtlpannicklkghaaB26
import Derived.Test.YtlpannicklkghaaB27
namespace Go.Proofs.Ytlpannicklkghaa
open Go.RowKit

def awP : List Pr := [(⟨#[97]⟩, ⟨#[49]⟩), (⟨#[98]⟩, ⟨#[]⟩)]
def awL : List It := [⟨⟨#[97]⟩, ⟨#[50]⟩, none⟩, ⟨⟨#[98]⟩, ⟨#[]⟩, none⟩]
theorem aw_ris : risB awP = true := by simp [awP, risB, kl, ByteArray.toList_eq, Op.bytesLess]
theorem aw_put : putL ⟨#[97]⟩ ⟨#[50]⟩ (awP.map itOf) = awL := by simp [awP, awL, itOf, putL, foundL, cntL, setV, kl, ByteArray.toList_eq, Op.bytesLess]
theorem aw_val : valL ⟨#[97]⟩ (awP.map itOf) = ⟨#[49]⟩ := by simp [awP, itOf, valL, foundL, cntL, kl, ByteArray.toList_eq, Op.bytesLess]
theorem aw_found : foundL ⟨#[97]⟩ (awP.map itOf) = true := by simp [awP, itOf, foundL, cntL, kl, ByteArray.toList_eq, Op.bytesLess]
theorem aw_none : foundL ⟨#[99]⟩ awL = false := by simp [awL, foundL, cntL, kl, ByteArray.toList_eq, Op.bytesLess]
theorem aw_list : listL ⟨#[]⟩ ⟨#[]⟩ 9 awL = awL := by simp [awL, listL, tellL, untilB, cntL, kl, ByteArray.toList_eq, Op.bytesLess]
theorem aw_next : awL.drop (cntL ⟨#[97, 97]⟩ awL) = [⟨⟨#[98]⟩, ⟨#[]⟩, none⟩] := by simp [awL, cntL, kl, ByteArray.toList_eq, Op.bytesLess]
theorem only_below {Z : Nat → Prop} {t B : Nat} {w w' : World} (h : Only (fun k => Z k ∨ k = t) w w') (hB : B ≤ w.heap.size) (hZ : ∀ k, k < B → ¬ Z k) (ht : B ≤ t) : Below B w w' := h.below hB fun k hk hz => by
  rcases hz with hz | hz
  · exact hZ k hk hz
  · omega

set_option maxHeartbeats 16000000 in
set_option maxRecDepth 100000 in
theorem awake7_any (w : World) : Calls Try.prog 10 #[] w fun e w' => e = .returned (.bool true) ∧ Below w.heap.size w w' := by
  go_enter Try.func10, Try.ntmps10
  go_wp2_with fail
  obtain ⟨w0, hw0⟩ : ∃ w0, w.alloc (Obj.cells #[.string ⟨#[97]⟩, .string ⟨#[49]⟩, .string ⟨#[98]⟩, .string ⟨#[]⟩] 27) = w0 := ⟨_, rfl⟩
  rw [hw0]
  have hr0 : PRow w0 (some ⟨w.heap.size, 0, none⟩) awP := by
    intro i hi
    rw [← hw0]
    match i, hi with
    | 0, _ => exact ⟨_, _, rfl, by simp [awP], by simp [awP]⟩
    | 1, _ => exact ⟨_, _, rfl, by simp [awP], by simp [awP]⟩
  have hb0 : Below w.heap.size w w0 := by rw [← hw0]; exact (Below.refl _ _).alloc (Nat.le_refl _) _
  have HN : Calls Try.prog 11 #[.int .i64 4, .slice (some ⟨w.heap.size, 0, none⟩) 2 2] w0 fun e w' => Below w0.heap.size w0 w' ∧ ∃ t, e = .returned (.tuple #[.pointer (some ⟨t, 0, none⟩), .int .i64 0]) ∧ w0.heap.size ≤ t ∧ ∃ ls, TreeIs w' (fun k => w0.heap.size ≤ k) t 4 ls (awP.map itOf) := new_any w0 4 _ 2 awP (by omega) (by omega) hr0 (by simp [awP]) (fun x hx => by simp [awP] at hx; rcases hx with rfl | rfl <;> (constructor <;> decide)) aw_ris
  refine HN.mono ?_
  rintro e w1 ⟨hb1, t, rfl, ht, ls, htr⟩
  have hs0 := hb0.size
  have hs1 := hb1.size
  have HB1 : Hid (Below w.heap.size w w1) := hb0.trans (hb1.mono hs0)
  have HT : Hid (w.heap.size ≤ t) := Nat.le_trans hs0 ht
  have HT1 : Hid (TreeIs w1 (fun k => w0.heap.size ≤ k) t 4 ls (awP.map itOf)) := htr
  clear hw0 hr0 hb0 hb1 htr HN
  go_wp2_with fail
  refine (new_bad w1 3 _ (by omega)).mono ?_
  rintro e w2 ⟨rfl, hw2⟩
  subst hw2
  go_wp2_with fail
  have HP := tree_put w2 _ t 4 ⟨#[97]⟩ ⟨#[50]⟩ ls _ HT1.out (fun k hk => Nat.le_trans hs1 hk) (by have := HT1.out.low (by omega) (by simp [awP]); omega) (by omega) (by omega) (by simp [awP]) (by decide) (by decide)
  rw [aw_put, aw_val, aw_found] at HP
  refine HP.mono ?_
  rintro e w3 ⟨rfl, ho3, ls3, ht3⟩
  have HB3 : Hid (Below w.heap.size w w3) := HB1.out.trans (only_below ho3 (by omega) (fun k hk hz => by omega) HT.out)
  have HT3 : Hid (TreeIs w3 (fun k => w0.heap.size ≤ k) t 4 ls3 awL) := ht3
  clear ho3 ht3 HP HT1 HB1
  go_wp2_with fail
  refine (tree_del_none w3 _ t 4 ⟨#[99]⟩ ls3 awL HT3.out (by omega) (by omega) (by simp [awL]) aw_none).mono ?_
  rintro e w4 ⟨hb4, rfl⟩
  have HB4 : Hid (Below w.heap.size w w4) := below_two HB3.out hb4
  have HT4 : Hid (TreeIs w4 (fun k => w0.heap.size ≤ k) t 4 ls3 awL) := HT3.out.later hb4
  clear hb4
  go_wp2_with fail
  have HSZ : Hid (∀ y ∈ awL, y.key.size ≤ 281474976710656 ∧ y.val.size ≤ 281474976710656) := fun y hy => by simp [awL] at hy; rcases hy with rfl | rfl <;> (constructor <;> decide)
  have HL := tree_list w4 _ t 4 ⟨#[]⟩ ⟨#[]⟩ 9 ls3 awL HT4.out (by omega) (by omega) (by simp [awL]) HSZ.out
  rw [aw_list] at HL
  refine HL.mono ?_
  rintro e w5 ⟨hb5, v, rfl, hrow⟩
  have HB5 : Hid (Below w.heap.size w w5) := below_two HB4.out hb5
  have HT5 : Hid (TreeIs w5 (fun k => w0.heap.size ≤ k) t 4 ls3 awL) := HT4.out.later hb5
  clear hb5 HL
  go_wp2_with fail
  refine (tree_len w5 _ t 4 ls3 awL HT5.out).mono ?_
  rintro e w6 ⟨rfl, hw6⟩
  subst hw6
  go_wp2_with fail
  refine (seek_any w6 t ⟨#[97, 97]⟩ (by decide)).mono ?_
  rintro e w7 ⟨hb7, c, rfl, hc, hcur⟩
  have HB7 : Hid (Below w.heap.size w w7) := below_two HB5.out hb7
  have HT7 : Hid (TreeIs w7 (fun k => w0.heap.size ≤ k) t 4 ls3 awL) := HT5.out.later hb7
  have HR7 : Hid (w7.ownsRow w4.heap.size 27 2 v 2 (pc awL)) := own_kept hrow fun k hk => hb7.block k (hrow.lt k hk).2
  have HC : Hid (CurAt w7 c t ⟨#[97, 97]⟩ ∧ w6.heap.size ≤ c ∧ w.heap.size ≤ c ∧ ∀ k, v.ownBlock = some k → k < w6.heap.size) := ⟨hcur, hc, Nat.le_trans HB5.out.size hc, fun k hk => (hrow.lt k hk).2⟩
  clear hb7 hrow hcur hc
  go_wp2_with fail
  have HX := next_any w7 _ c t 4 ⟨#[97, 97]⟩ ls3 awL HC.out.1 HT7.out (by omega) (by omega) (by simp [awL]) HSZ.out
  rw [aw_next] at HX
  refine HX.mono ?_
  rintro e w8 ⟨ho8, rfl, _⟩
  have HB8 : Hid (Below w.heap.size w w8) := HB7.out.trans (ho8.below HB7.out.size fun k hk hz => by have := HC.out.2.2.1; omega)
  have HR8 : Hid (w8.ownsRow w4.heap.size 27 2 v 2 (pc awL)) := own_kept HR7.out fun k hk => ho8.block k (HR7.out.lt k hk).2 fun e => by have := HC.out.2.2.2 k hk; have := HC.out.2.1; omega
  obtain ⟨g, cap, rfl, _, _, _, hcc, _⟩ := prow_at (l := awL) HR8.out (by decide)
  obtain ⟨d0, d1⟩ := hcc 0 (by decide)
  simp only [awL, List.getElem_cons_zero, Nat.zero_mul, Nat.zero_add] at d0 d1
  have e2 : awL.length = 2 := rfl
  rw [e2]
  clear hcc e2
  clear ho8 HX
  simp only [nextV]
  go_wp2
  go_ret
  exact ⟨rfl, HB8.out⟩
end Go.Proofs.Ytlpannicklkghaa
