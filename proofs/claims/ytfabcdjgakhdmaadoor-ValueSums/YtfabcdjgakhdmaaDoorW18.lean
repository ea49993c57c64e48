/- Walks of layer 1: values with room behind them. -/
import Derived.Test.YtfabcdjgakhdmaaDoorC2
import Derived.Test.YtfabcdjgakhdmaaDoorW13
namespace Go.Proofs.YtfabcdjgakhdmaaDoor
open Go.RowKit

/-- What is lent: the values, a mark, an empty one. -/
def more (vs : List V3) : List V3 := vs ++ [(1, 77, ⟨#[]⟩), (0, 0, ⟨#[]⟩)]

theorem made_at {n j : Nat} (h : j < n) (z : Array Value) : (madeCells z n).toList[j]? = some (z[j % z.size]!) := by
  simp [madeCells, h]

theorem bel_setCells {B : Nat} {a : World} (b : Nat) (hb : B ≤ b) : ∀ (vs : List Value) (o : Nat) {w : World}, Below B a w → Below B a (w.setCells b o vs)
  | [], _, _, h => h
  | v :: r, o, _, h => bel_setCells b hb r (o + 1) (h.setCell (p := ⟨b, o, none⟩) hb v)
theorem size_setCells (b : Nat) : ∀ (vs : List Value) (o : Nat) (w : World), (w.setCells b o vs).heap.size = w.heap.size
  | [], _, _ => rfl
  | v :: r, o, w => by rw [World.setCells, size_setCells b r (o + 1)]; simp

theorem lent_row {w2 : World} {g : Nat} {vs : List V3} (HV : ∀ j u, (vc vs)[j]? = some u → w2.cell? ⟨g, j, none⟩ = some u)
    (a0 : w2.cell? ⟨g, vs.length * 3, none⟩ = some (.int .i64 0)) (a1 : w2.cell? ⟨g, vs.length * 3 + 1, none⟩ = some (.int .i64 0)) (a2 : w2.cell? ⟨g, vs.length * 3 + 2, none⟩ = some (.string ⟨#[]⟩))
    (a3 : w2.cell? ⟨g, (vs.length + 1) * 3, none⟩ = some (.int .i64 0)) (a4 : w2.cell? ⟨g, (vs.length + 1) * 3 + 1, none⟩ = some (.int .i64 0)) (a5 : w2.cell? ⟨g, (vs.length + 1) * 3 + 2, none⟩ = some (.string ⟨#[]⟩)) :
    Row (((w2.setCell ⟨g, vs.length * 3, none⟩ (.int .i64 1)).setCell ⟨g, vs.length * 3 + 1, none⟩ (.int .i64 77)).setCell ⟨g, vs.length * 3 + 2, none⟩ (.string ⟨#[]⟩)) (some ⟨g, 0, none⟩) (more vs) := by
  refine Row.of_cells ?_
  intro j u hj
  rw [more, vc_append] at hj
  rw [Nat.zero_add]
  by_cases h : j < (vc vs).length
  · rw [List.getElem?_append_left h] at hj
    have hl := vc_length vs
    rw [World.cell?_setCell_other _ _ _ _ (by simp <;> omega), World.cell?_setCell_other _ _ _ _ (by simp <;> omega), World.cell?_setCell_other _ _ _ _ (by simp <;> omega)]
    exact (HV j u hj)
  · rw [List.getElem?_append_right (by omega)] at hj
    have hl := vc_length vs
    have hlt : j - (vc vs).length < 6 := by
      have := (List.getElem?_eq_some_iff.1 hj).1
      simpa [vc] using this
    obtain ⟨d, hd⟩ : ∃ d, j - (vc vs).length = d := ⟨_, rfl⟩
    rw [hd] at hj hlt
    match d, hlt, hj with
    | 0, _, hj =>
      obtain rfl : u = .int .i64 1 := by simpa [vc] using hj.symm
      obtain rfl : j = vs.length * 3 := by omega
      rw [World.cell?_setCell_other _ _ _ _ (by simp), World.cell?_setCell_other _ _ _ _ (by simp)]
      exact World.cell?_setCell_same _ _ _ a0
    | 1, _, hj =>
      obtain rfl : u = .int .i64 77 := by simpa [vc] using hj.symm
      obtain rfl : j = vs.length * 3 + 1 := by omega
      rw [World.cell?_setCell_other _ _ _ _ (by simp)]
      exact World.cell?_setCell_same _ _ _ (by rw [World.cell?_setCell_other _ _ _ _ (by simp)]; exact a1)
    | 2, _, hj =>
      obtain rfl : u = .string ⟨#[]⟩ := by simpa [vc] using hj.symm
      obtain rfl : j = vs.length * 3 + 2 := by omega
      exact World.cell?_setCell_same _ _ _ (by rw [World.cell?_setCell_other _ _ _ _ (by simp), World.cell?_setCell_other _ _ _ _ (by simp)]; exact a2)
    | 3, _, hj =>
      obtain rfl : u = .int .i64 0 := by simpa [vc] using hj.symm
      obtain rfl : j = (vs.length + 1) * 3 := by omega
      rw [World.cell?_setCell_other _ _ _ _ (by simp <;> omega), World.cell?_setCell_other _ _ _ _ (by simp <;> omega), World.cell?_setCell_other _ _ _ _ (by simp <;> omega)]
      exact a3
    | 4, _, hj =>
      obtain rfl : u = .int .i64 0 := by simpa [vc] using hj.symm
      obtain rfl : j = (vs.length + 1) * 3 + 1 := by omega
      rw [World.cell?_setCell_other _ _ _ _ (by simp <;> omega), World.cell?_setCell_other _ _ _ _ (by simp <;> omega), World.cell?_setCell_other _ _ _ _ (by simp <;> omega)]
      exact a4
    | 5, _, hj =>
      obtain rfl : u = .string ⟨#[]⟩ := by simpa [vc] using hj.symm
      obtain rfl : j = (vs.length + 1) * 3 + 2 := by omega
      rw [World.cell?_setCell_other _ _ _ _ (by simp <;> omega), World.cell?_setCell_other _ _ _ _ (by simp <;> omega), World.cell?_setCell_other _ _ _ _ (by simp <;> omega)]
      exact a5

set_option maxHeartbeats 1000000 in
set_option maxRecDepth 100000 in
theorem lent_any (a : Option Addr) (cap : Nat) (vs : List V3) (w : World) (hlen : vs.length ≤ 2147483647) (hrow : Row w a vs) :
    Calls Tryd.prog 16 #[.slice a vs.length cap] w fun e w' => ∃ g, e = .returned (.slice (some ⟨g, 0, none⟩) (vs.length + 2) (vs.length + 2)) ∧ Row w' (some ⟨g, 0, none⟩) (more vs) ∧ Below w.heap.size w w' := by
  obtain ⟨i0, hi, hz0, hz1, hz2⟩ := info_parts Tryd.info23
  have HR : Hid (Row w a vs) := hrow
  clear hrow
  go_enter Tryd.func16, Tryd.ntmps16
  go_wp2_with (first | (at_make; refine wpList_make_full _ rfl _ _ 31 rfl w.heap.size 23 i0 _ 3 Tryd.underlying31 hi hz0 hz1 .i64 .i64 _ _ (vs.length + 2) rfl rfl ?h1 ?h2 ?h3 ?h4 ?h5 ?_))
  case h1 => omega
  case h2 => omega
  case h3 => rw [hz2]; omega
  case h4 => unfold maxLen; omega
  case h5 => exact Nat.le_refl _
  · intro w1 hown hgrow
    have hb1 : Below w.heap.size w w1 := (Below.refl _ _).grown hgrow (Nat.le_refl _) (fun k h => by cases h)
    have hz1' : ∀ j, j < (vs.length + 2) * 3 → w1.cell? ⟨w.heap.size, j, none⟩ = some ((#[.int .i64 0, .int .i64 0, .string ⟨#[]⟩] : Array Value)[j % 3]!) := by
      intro j hj
      have := hown.cells (g := w.heap.size) rfl j _ (made_at hj _)
      have hadd : (⟨w.heap.size, 0, none⟩ : Addr).add j = ⟨w.heap.size, j, none⟩ := by unfold Addr.add; split <;> simp_all
      rw [hadd] at this
      exact this
    have hf1 : ∀ o, w1.frozen? ⟨w.heap.size, o, none⟩ = false := by
      intro o
      obtain ⟨_, ⟨h, _⟩ | ⟨g, cap', cur, e, _, hh, _⟩⟩ := hown
      · cases h
      · obtain rfl : w.heap.size = g := by simp at e; exact e.1
        simp [World.frozen?, hh]
    have hg1 : w.heap.size < w1.heap.size := (hown.lt _ rfl).2
    have hr1 := HR.out.later hb1
    have HC1 : Hid (∀ j, j < (vs.length + 2) * 3 → w1.cell? ⟨w.heap.size, j, none⟩ = some ((#[.int .i64 0, .int .i64 0, .string ⟨#[]⟩] : Array Value)[j % 3]!)) := hz1'
    have HF1 : Hid (∀ o, w1.frozen? ⟨w.heap.size, o, none⟩ = false) := hf1
    have HR1 : Hid (Row w1 a vs) := hr1
    have hb1' : Below w.heap.size w w1 := hb1
    clear hown hgrow hz1' hf1 hr1 hb1
    go_wp2_with (first | (refine wpList_copy_wide rfl (.tmp 8) (.tmp 9) 31 31 rfl 23 3 Tryd.underlying31 (by rw [hi]; simp [*]) w.heap.size 0 (vs.length + 2) (vs.length + 2) a vs.length cap rfl rfl (vc vs) (by omega) (vc_length vs) HR1.out.cells (fun j hj => by rw [Nat.zero_add, HC1.out j (by rw [vc_length] at hj; omega)]; rfl) (fun j _ => HF1.out _) (vc_one vs) ?_; intro w2 hw2; have HW2 : Hid (w2 = w1.setCells w.heap.size 0 (vc vs)) := hw2; clear hw2))
    have hcell : ∀ x : Addr, (x.block = w.heap.size → x.spot = none → 0 + (vc vs).length ≤ x.off) → w2.cell? x = w1.cell? x := by
      intro x hx
      rw [HW2.out]
      exact World.cell?_setCells_out _ _ _ _ _ (fun h1 h2 => Or.inr (hx h1 h2))
    have hvs : ∀ j u, (vc vs)[j]? = some u → w2.cell? ⟨w.heap.size, j, none⟩ = some u := by
      intro j u hj
      rw [HW2.out]
      obtain ⟨hlt, e⟩ := List.getElem?_eq_some_iff.1 hj
      have := World.cell?_setCells_in w.heap.size (vc vs) 0 w1 (fun j hj => by rw [Nat.zero_add, HC1.out j (by rw [vc_length] at hj; omega)]; rfl) j hlt
      rw [Nat.zero_add] at this
      rw [this, e]
    have hff : ∀ o, w2.frozen? ⟨w.heap.size, o, none⟩ = false := by
      intro o; rw [HW2.out, World.frozen?_setCells]; exact HF1.out o
    have hsz2 : w2.heap.size = w1.heap.size := by rw [HW2.out]; exact size_setCells _ _ _ _
    have hb2 : Below w.heap.size w w2 := by rw [HW2.out]; exact bel_setCells _ (Nat.le_refl _) _ _ hb1'
    have hz : ∀ j, vs.length * 3 ≤ j → j < (vs.length + 2) * 3 → w2.cell? ⟨w.heap.size, j, none⟩ = some ((#[.int .i64 0, .int .i64 0, .string ⟨#[]⟩] : Array Value)[j % 3]!) := by
      intro j h1 h2
      rw [hcell _ (fun _ _ => by rw [vc_length]; simp only; omega)]
      exact HC1.out j h2
    have a0 : w2.cell? ⟨w.heap.size, vs.length * 3, none⟩ = some (.int .i64 0) := by
      rw [hz _ (by omega) (by omega), show vs.length * 3 % 3 = 0 by omega]; rfl
    have a1 : w2.cell? ⟨w.heap.size, vs.length * 3 + 1, none⟩ = some (.int .i64 0) := by
      rw [hz _ (by omega) (by omega), show (vs.length * 3 + 1) % 3 = 1 by omega]; rfl
    have a2 : w2.cell? ⟨w.heap.size, vs.length * 3 + 2, none⟩ = some (.string ⟨#[]⟩) := by
      rw [hz _ (by omega) (by omega), show (vs.length * 3 + 2) % 3 = 2 by omega]; rfl
    have a3 : w2.cell? ⟨w.heap.size, (vs.length + 1) * 3, none⟩ = some (.int .i64 0) := by
      rw [hz _ (by omega) (by omega), show (vs.length + 1) * 3 % 3 = 0 by omega]; rfl
    have a4 : w2.cell? ⟨w.heap.size, (vs.length + 1) * 3 + 1, none⟩ = some (.int .i64 0) := by
      rw [hz _ (by omega) (by omega), show ((vs.length + 1) * 3 + 1) % 3 = 1 by omega]; rfl
    have a5 : w2.cell? ⟨w.heap.size, (vs.length + 1) * 3 + 2, none⟩ = some (.string ⟨#[]⟩) := by
      rw [hz _ (by omega) (by omega), show ((vs.length + 1) * 3 + 2) % 3 = 2 by omega]; rfl
    have hlt2 : w.heap.size < w2.heap.size := by omega
    have HV : Hid (∀ j u, (vc vs)[j]? = some u → w2.cell? ⟨w.heap.size, j, none⟩ = some u) := hvs
    have A3 : Hid (w2.cell? ⟨w.heap.size, (vs.length + 1) * 3, none⟩ = some (.int .i64 0)) := a3
    have A4 : Hid (w2.cell? ⟨w.heap.size, (vs.length + 1) * 3 + 1, none⟩ = some (.int .i64 0)) := a4
    have A5 : Hid (w2.cell? ⟨w.heap.size, (vs.length + 1) * 3 + 2, none⟩ = some (.string ⟨#[]⟩)) := a5
    clear hz hcell hvs hsz2 a3 a4 a5 HW2 HC1 HF1
    refine (lnum_exact _ _).mono ?_
    rintro e w3 ⟨rfl, rfl⟩
    go_wp2
    go_ret
    refine ⟨w.heap.size, rfl, ?_, ?_⟩
    · exact (lent_row HV.out a0 a1 a2 A3.out A4.out A5.out).alloc _
    · (repeat (first | exact Below.refl _ _ | assumption | refine Below.drew ?_ | refine below_drewN ?_ _ | refine Below.alloc ?_ (by first | omega | (simp; done) | (simp; omega)) _ | refine Below.setCell ?_ (by first | omega | (simp; done) | (simp; omega)) _ | refine Below.trans ?_ (Below.mono (by assumption) (by first | omega | (simp; done) | (simp; omega)))))
end Go.Proofs.YtfabcdjgakhdmaaDoor
