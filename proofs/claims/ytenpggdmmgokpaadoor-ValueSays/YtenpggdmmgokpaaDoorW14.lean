/- Walks of layer 1, fourteenth part: the chapter's examples answer as they should. -/
import Derived.Test.YtenpggdmmgokpaaDoorW13
namespace Go.Proofs.YtenpggdmmgokpaaDoor
open Go.RowKit

theorem b2 {A B C : World} {N : Nat} (h : Below N A B) (g : Below B.heap.size B C) (hN : N ≤ B.heap.size) : Below N A C := h.trans (g.mono hN)

set_option maxHeartbeats 4000000 in
set_option maxRecDepth 100000 in
theorem awake_any (w : World) :
    Calls Tryd.prog 5 #[] w fun e w' => e = .returned (.bool true) ∧ Below w.heap.size w w' := by
  go_enter Tryd.func5, Tryd.ntmps5
  go_wp2_with fail
  refine (lnumber_any _ _).mono ?_; rintro e w1 ⟨rfl, h1⟩
  have z1 := h1.size
  go_wp2_with fail
  refine (right_any _ _ _ _).mono ?_; rintro e w2 ⟨rfl, h2⟩
  rw [ex1]
  have H2 : Below w.heap.size w w2 := b2 h1 h2 z1
  have z2 := H2.size
  clear h1 h2 z1
  go_wp2_with fail
  refine (right_any _ _ _ _).mono ?_; rintro e w3 ⟨rfl, h3⟩
  rw [ex2]
  have H3 : Below w.heap.size w w3 := b2 H2 h3 z2
  have z3 := H3.size
  clear H2 h3 z2
  go_wp2_with fail
  refine (lnumber_any _ _).mono ?_; rintro e w4 ⟨rfl, h4⟩
  have H4 : Below w.heap.size w w4 := b2 H3 h4 z3
  have z4 := H4.size
  clear H3 h4 z3
  go_wp2_with fail
  refine (order_any _ _ _ _ _ _ _).mono ?_; rintro e w5 ⟨rfl, h5⟩
  rw [ex3]
  have H5 : Below w.heap.size w w5 := b2 H4 h5 z4
  have z5 := H5.size
  clear H4 h5 z4
  go_wp2_with fail
  refine (lnumber_any _ _).mono ?_; rintro e w6 ⟨rfl, h6⟩
  have H6 : Below w.heap.size w w6 := b2 H5 h6 z5
  have z6 := H6.size
  clear H5 h6 z5
  go_wp2_with fail
  refine (lnumber_any _ _).mono ?_; rintro e w7 ⟨rfl, h7⟩
  have H7 : Below w.heap.size w w7 := b2 H6 h7 z6
  have z7 := H7.size
  clear H6 h7 z6
  go_wp2_with fail
  refine (compare_any _ _ _ _ _ _ _ _).mono ?_; rintro e w8 ⟨rfl, h8⟩
  rw [ex4]
  have H8 : Below w.heap.size w w8 := b2 H7 h8 z7
  have z8 := H8.size
  clear H7 h8 z7
  go_wp2_with fail
  refine (and2 _ _ _ _ _ _ _ _ _ (by simp)).mono ?_; rintro e w9 ⟨rfl, h9⟩
  rw [ex5]
  have p40 : w9.cell? ⟨w8.heap.size, 0, none⟩ = some (.int .i64 2) := cell_later h9 (by go_simp)
  have p41 : w9.cell? ⟨w8.heap.size, 1, none⟩ = some (.int .i64 1) := cell_later h9 (by go_simp)
  have p42 : w9.cell? ⟨w8.heap.size, 2, none⟩ = some (.string ⟨#[]⟩) := cell_later h9 (by go_simp)
  have H9 : Below w.heap.size w w9 := by (repeat (first | exact Below.refl _ _ | assumption | refine Below.drew ?_ | refine below_drewN ?_ _ | refine Below.alloc ?_ (by first | omega | (simp; done) | (simp; omega)) _ | refine Below.setCell ?_ (by first | omega | (simp; done) | (simp; omega)) _ | refine Below.trans ?_ (Below.mono (by assumption) (by first | omega | (simp; done) | (simp; omega)))))
  have z9 := H9.size
  have y89 : w8.heap.size < w9.heap.size := by have := h9.size; simp at this; omega
  clear H8 h9 z8
  go_wp2_with fail
  refine (lnumber_any _ _).mono ?_; rintro e w10 ⟨rfl, h10⟩
  have p40_w10 : w10.cell? ⟨w8.heap.size, 0, none⟩ = some (.int .i64 2) := cell_later h10 (by go_simp)
  have p41_w10 : w10.cell? ⟨w8.heap.size, 1, none⟩ = some (.int .i64 1) := cell_later h10 (by go_simp)
  have p42_w10 : w10.cell? ⟨w8.heap.size, 2, none⟩ = some (.string ⟨#[]⟩) := cell_later h10 (by go_simp)
  have p60_w10 : w10.cell? ⟨w9.heap.size, 0, none⟩ = some (.int .i64 2) := cell_later h10 (by go_simp)
  have p61_w10 : w10.cell? ⟨w9.heap.size, 1, none⟩ = some (.int .i64 0) := cell_later h10 (by go_simp)
  have p62_w10 : w10.cell? ⟨w9.heap.size, 2, none⟩ = some (.string ⟨#[]⟩) := cell_later h10 (by go_simp)
  have H10 : Below w.heap.size w w10 := by (repeat (first | exact Below.refl _ _ | assumption | refine Below.drew ?_ | refine below_drewN ?_ _ | refine Below.alloc ?_ (by first | omega | (simp; done) | (simp; omega)) _ | refine Below.setCell ?_ (by first | omega | (simp; done) | (simp; omega)) _ | refine Below.trans ?_ (Below.mono (by assumption) (by first | omega | (simp; done) | (simp; omega)))))
  have z10 := H10.size
  have y810 : w8.heap.size < w10.heap.size := by have q := h10.size; (try simp at q); omega
  have y910 : w9.heap.size < w10.heap.size := by have q := h10.size; (try simp at q); omega
  have yy10 : w9.heap.size ≤ w10.heap.size := by have q := h10.size; (try simp at q); omega
  clear H9 h10 z9 p40 p41 p42 y89
  go_wp2_with fail
  refine (lnumber_any _ _).mono ?_; rintro e w11 ⟨rfl, h11⟩
  have p40_w11 : w11.cell? ⟨w8.heap.size, 0, none⟩ = some (.int .i64 2) := cell_later h11 (by go_simp)
  have p41_w11 : w11.cell? ⟨w8.heap.size, 1, none⟩ = some (.int .i64 1) := cell_later h11 (by go_simp)
  have p42_w11 : w11.cell? ⟨w8.heap.size, 2, none⟩ = some (.string ⟨#[]⟩) := cell_later h11 (by go_simp)
  have p60_w11 : w11.cell? ⟨w9.heap.size, 0, none⟩ = some (.int .i64 2) := cell_later h11 (by go_simp)
  have p61_w11 : w11.cell? ⟨w9.heap.size, 1, none⟩ = some (.int .i64 0) := cell_later h11 (by go_simp)
  have p62_w11 : w11.cell? ⟨w9.heap.size, 2, none⟩ = some (.string ⟨#[]⟩) := cell_later h11 (by go_simp)
  have H11 : Below w.heap.size w w11 := by (repeat (first | exact Below.refl _ _ | assumption | refine Below.drew ?_ | refine below_drewN ?_ _ | refine Below.alloc ?_ (by first | omega | (simp; done) | (simp; omega)) _ | refine Below.setCell ?_ (by first | omega | (simp; done) | (simp; omega)) _ | refine Below.trans ?_ (Below.mono (by assumption) (by first | omega | (simp; done) | (simp; omega)))))
  have z11 := H11.size
  have y811 : w8.heap.size < w11.heap.size := by have q := h11.size; (try simp at q); omega
  have y911 : w9.heap.size < w11.heap.size := by have q := h11.size; (try simp at q); omega
  have yy11 : w10.heap.size ≤ w11.heap.size := by have q := h11.size; (try simp at q); omega
  clear H10 h11 z10 p40_w10 p41_w10 p42_w10 p60_w10 p61_w10 p62_w10 y810 y910
  go_wp2_with fail
  refine (arith_any _ _ _ _ _ _ _ _).mono ?_; rintro e w12 ⟨rfl, h12⟩
  rw [ex6]
  have p40_w12 : w12.cell? ⟨w8.heap.size, 0, none⟩ = some (.int .i64 2) := cell_later h12 (by go_simp)
  have p41_w12 : w12.cell? ⟨w8.heap.size, 1, none⟩ = some (.int .i64 1) := cell_later h12 (by go_simp)
  have p42_w12 : w12.cell? ⟨w8.heap.size, 2, none⟩ = some (.string ⟨#[]⟩) := cell_later h12 (by go_simp)
  have p60_w12 : w12.cell? ⟨w9.heap.size, 0, none⟩ = some (.int .i64 2) := cell_later h12 (by go_simp)
  have p61_w12 : w12.cell? ⟨w9.heap.size, 1, none⟩ = some (.int .i64 0) := cell_later h12 (by go_simp)
  have p62_w12 : w12.cell? ⟨w9.heap.size, 2, none⟩ = some (.string ⟨#[]⟩) := cell_later h12 (by go_simp)
  have H12 : Below w.heap.size w w12 := by (repeat (first | exact Below.refl _ _ | assumption | refine Below.drew ?_ | refine below_drewN ?_ _ | refine Below.alloc ?_ (by first | omega | (simp; done) | (simp; omega)) _ | refine Below.setCell ?_ (by first | omega | (simp; done) | (simp; omega)) _ | refine Below.trans ?_ (Below.mono (by assumption) (by first | omega | (simp; done) | (simp; omega)))))
  have z12 := H12.size
  have y812 : w8.heap.size < w12.heap.size := by have q := h12.size; (try simp at q); omega
  have y912 : w9.heap.size < w12.heap.size := by have q := h12.size; (try simp at q); omega
  have yy12 : w11.heap.size ≤ w12.heap.size := by have q := h12.size; (try simp at q); omega
  clear H11 h12 z11 p40_w11 p41_w11 p42_w11 p60_w11 p61_w11 p62_w11 y811 y911
  go_wp2_with fail
  refine (lnumber_any _ _).mono ?_; rintro e w13 ⟨rfl, h13⟩
  have p40_w13 : w13.cell? ⟨w8.heap.size, 0, none⟩ = some (.int .i64 2) := cell_later h13 (by go_simp)
  have p41_w13 : w13.cell? ⟨w8.heap.size, 1, none⟩ = some (.int .i64 1) := cell_later h13 (by go_simp)
  have p42_w13 : w13.cell? ⟨w8.heap.size, 2, none⟩ = some (.string ⟨#[]⟩) := cell_later h13 (by go_simp)
  have p60_w13 : w13.cell? ⟨w9.heap.size, 0, none⟩ = some (.int .i64 2) := cell_later h13 (by go_simp)
  have p61_w13 : w13.cell? ⟨w9.heap.size, 1, none⟩ = some (.int .i64 0) := cell_later h13 (by go_simp)
  have p62_w13 : w13.cell? ⟨w9.heap.size, 2, none⟩ = some (.string ⟨#[]⟩) := cell_later h13 (by go_simp)
  have p80_w13 : w13.cell? ⟨w12.heap.size, 0, none⟩ = some (.int .i64 1) := cell_later h13 (by go_simp)
  have p81_w13 : w13.cell? ⟨w12.heap.size, 1, none⟩ = some (.int .i64 (-3)) := cell_later h13 (by go_simp)
  have p82_w13 : w13.cell? ⟨w12.heap.size, 2, none⟩ = some (.string ⟨#[]⟩) := cell_later h13 (by go_simp)
  have H13 : Below w.heap.size w w13 := by (repeat (first | exact Below.refl _ _ | assumption | refine Below.drew ?_ | refine below_drewN ?_ _ | refine Below.alloc ?_ (by first | omega | (simp; done) | (simp; omega)) _ | refine Below.setCell ?_ (by first | omega | (simp; done) | (simp; omega)) _ | refine Below.trans ?_ (Below.mono (by assumption) (by first | omega | (simp; done) | (simp; omega)))))
  have z13 := H13.size
  have y813 : w8.heap.size < w13.heap.size := by have q := h13.size; (try simp at q); omega
  have y913 : w9.heap.size < w13.heap.size := by have q := h13.size; (try simp at q); omega
  have y1213 : w12.heap.size < w13.heap.size := by have q := h13.size; (try simp at q); omega
  have yy13 : w12.heap.size ≤ w13.heap.size := by have q := h13.size; (try simp at q); omega
  clear H12 h13 z12 p40_w12 p41_w12 p42_w12 p60_w12 p61_w12 p62_w12 y812 y912
  go_wp2_with fail
  refine (lnumber_any _ _).mono ?_; rintro e w14 ⟨rfl, h14⟩
  have p40_w14 : w14.cell? ⟨w8.heap.size, 0, none⟩ = some (.int .i64 2) := cell_later h14 (by go_simp)
  have p41_w14 : w14.cell? ⟨w8.heap.size, 1, none⟩ = some (.int .i64 1) := cell_later h14 (by go_simp)
  have p42_w14 : w14.cell? ⟨w8.heap.size, 2, none⟩ = some (.string ⟨#[]⟩) := cell_later h14 (by go_simp)
  have p60_w14 : w14.cell? ⟨w9.heap.size, 0, none⟩ = some (.int .i64 2) := cell_later h14 (by go_simp)
  have p61_w14 : w14.cell? ⟨w9.heap.size, 1, none⟩ = some (.int .i64 0) := cell_later h14 (by go_simp)
  have p62_w14 : w14.cell? ⟨w9.heap.size, 2, none⟩ = some (.string ⟨#[]⟩) := cell_later h14 (by go_simp)
  have p80_w14 : w14.cell? ⟨w12.heap.size, 0, none⟩ = some (.int .i64 1) := cell_later h14 (by go_simp)
  have p81_w14 : w14.cell? ⟨w12.heap.size, 1, none⟩ = some (.int .i64 (-3)) := cell_later h14 (by go_simp)
  have p82_w14 : w14.cell? ⟨w12.heap.size, 2, none⟩ = some (.string ⟨#[]⟩) := cell_later h14 (by go_simp)
  have H14 : Below w.heap.size w w14 := by (repeat (first | exact Below.refl _ _ | assumption | refine Below.drew ?_ | refine below_drewN ?_ _ | refine Below.alloc ?_ (by first | omega | (simp; done) | (simp; omega)) _ | refine Below.setCell ?_ (by first | omega | (simp; done) | (simp; omega)) _ | refine Below.trans ?_ (Below.mono (by assumption) (by first | omega | (simp; done) | (simp; omega)))))
  have z14 := H14.size
  have y814 : w8.heap.size < w14.heap.size := by have q := h14.size; (try simp at q); omega
  have y914 : w9.heap.size < w14.heap.size := by have q := h14.size; (try simp at q); omega
  have y1214 : w12.heap.size < w14.heap.size := by have q := h14.size; (try simp at q); omega
  have yy14 : w13.heap.size ≤ w14.heap.size := by have q := h14.size; (try simp at q); omega
  clear H13 h14 z13 p40_w13 p41_w13 p42_w13 p60_w13 p61_w13 p62_w13 p80_w13 p81_w13 p82_w13 y813 y913 y1213
  go_wp2_with fail
  refine (lnumber_any _ _).mono ?_; rintro e w15 ⟨rfl, h15⟩
  have p40_w15 : w15.cell? ⟨w8.heap.size, 0, none⟩ = some (.int .i64 2) := cell_later h15 (by go_simp)
  have p41_w15 : w15.cell? ⟨w8.heap.size, 1, none⟩ = some (.int .i64 1) := cell_later h15 (by go_simp)
  have p42_w15 : w15.cell? ⟨w8.heap.size, 2, none⟩ = some (.string ⟨#[]⟩) := cell_later h15 (by go_simp)
  have p60_w15 : w15.cell? ⟨w9.heap.size, 0, none⟩ = some (.int .i64 2) := cell_later h15 (by go_simp)
  have p61_w15 : w15.cell? ⟨w9.heap.size, 1, none⟩ = some (.int .i64 0) := cell_later h15 (by go_simp)
  have p62_w15 : w15.cell? ⟨w9.heap.size, 2, none⟩ = some (.string ⟨#[]⟩) := cell_later h15 (by go_simp)
  have p80_w15 : w15.cell? ⟨w12.heap.size, 0, none⟩ = some (.int .i64 1) := cell_later h15 (by go_simp)
  have p81_w15 : w15.cell? ⟨w12.heap.size, 1, none⟩ = some (.int .i64 (-3)) := cell_later h15 (by go_simp)
  have p82_w15 : w15.cell? ⟨w12.heap.size, 2, none⟩ = some (.string ⟨#[]⟩) := cell_later h15 (by go_simp)
  have H15 : Below w.heap.size w w15 := by (repeat (first | exact Below.refl _ _ | assumption | refine Below.drew ?_ | refine below_drewN ?_ _ | refine Below.alloc ?_ (by first | omega | (simp; done) | (simp; omega)) _ | refine Below.setCell ?_ (by first | omega | (simp; done) | (simp; omega)) _ | refine Below.trans ?_ (Below.mono (by assumption) (by first | omega | (simp; done) | (simp; omega)))))
  have z15 := H15.size
  have y815 : w8.heap.size < w15.heap.size := by have q := h15.size; (try simp at q); omega
  have y915 : w9.heap.size < w15.heap.size := by have q := h15.size; (try simp at q); omega
  have y1215 : w12.heap.size < w15.heap.size := by have q := h15.size; (try simp at q); omega
  have yy15 : w14.heap.size ≤ w15.heap.size := by have q := h15.size; (try simp at q); omega
  clear H14 h15 z14 p40_w14 p41_w14 p42_w14 p60_w14 p61_w14 p62_w14 p80_w14 p81_w14 p82_w14 y814 y914 y1214
  go_wp2_with fail
  refine (sum3 _ _ _ _ _ _ _ _ _ _ _ _ (by simp)).mono ?_; rintro e w16 ⟨rfl, h16⟩
  rw [ex7]
  have p40_w16 : w16.cell? ⟨w8.heap.size, 0, none⟩ = some (.int .i64 2) := cell_later h16 (by go_simp)
  have p41_w16 : w16.cell? ⟨w8.heap.size, 1, none⟩ = some (.int .i64 1) := cell_later h16 (by go_simp)
  have p42_w16 : w16.cell? ⟨w8.heap.size, 2, none⟩ = some (.string ⟨#[]⟩) := cell_later h16 (by go_simp)
  have p60_w16 : w16.cell? ⟨w9.heap.size, 0, none⟩ = some (.int .i64 2) := cell_later h16 (by go_simp)
  have p61_w16 : w16.cell? ⟨w9.heap.size, 1, none⟩ = some (.int .i64 0) := cell_later h16 (by go_simp)
  have p62_w16 : w16.cell? ⟨w9.heap.size, 2, none⟩ = some (.string ⟨#[]⟩) := cell_later h16 (by go_simp)
  have p80_w16 : w16.cell? ⟨w12.heap.size, 0, none⟩ = some (.int .i64 1) := cell_later h16 (by go_simp)
  have p81_w16 : w16.cell? ⟨w12.heap.size, 1, none⟩ = some (.int .i64 (-3)) := cell_later h16 (by go_simp)
  have p82_w16 : w16.cell? ⟨w12.heap.size, 2, none⟩ = some (.string ⟨#[]⟩) := cell_later h16 (by go_simp)
  have H16 : Below w.heap.size w w16 := by (repeat (first | exact Below.refl _ _ | assumption | refine Below.drew ?_ | refine below_drewN ?_ _ | refine Below.alloc ?_ (by first | omega | (simp; done) | (simp; omega)) _ | refine Below.setCell ?_ (by first | omega | (simp; done) | (simp; omega)) _ | refine Below.trans ?_ (Below.mono (by assumption) (by first | omega | (simp; done) | (simp; omega)))))
  have z16 := H16.size
  have y816 : w8.heap.size < w16.heap.size := by have q := h16.size; (try simp at q); omega
  have y916 : w9.heap.size < w16.heap.size := by have q := h16.size; (try simp at q); omega
  have y1216 : w12.heap.size < w16.heap.size := by have q := h16.size; (try simp at q); omega
  have yy16 : w15.heap.size ≤ w16.heap.size := by have q := h16.size; (try simp at q); omega
  clear H15 h16 z15 p40_w15 p41_w15 p42_w15 p60_w15 p61_w15 p62_w15 p80_w15 p81_w15 p82_w15 y815 y915 y1215
  go_wp2_with fail
  refine (print_text _ _ (by decide)).mono ?_; rintro e w17 ⟨rfl, h17⟩
  rw [ex8]
  have p40_w17 : w17.cell? ⟨w8.heap.size, 0, none⟩ = some (.int .i64 2) := cell_later h17 (by go_simp)
  have p41_w17 : w17.cell? ⟨w8.heap.size, 1, none⟩ = some (.int .i64 1) := cell_later h17 (by go_simp)
  have p42_w17 : w17.cell? ⟨w8.heap.size, 2, none⟩ = some (.string ⟨#[]⟩) := cell_later h17 (by go_simp)
  have p60_w17 : w17.cell? ⟨w9.heap.size, 0, none⟩ = some (.int .i64 2) := cell_later h17 (by go_simp)
  have p61_w17 : w17.cell? ⟨w9.heap.size, 1, none⟩ = some (.int .i64 0) := cell_later h17 (by go_simp)
  have p62_w17 : w17.cell? ⟨w9.heap.size, 2, none⟩ = some (.string ⟨#[]⟩) := cell_later h17 (by go_simp)
  have p80_w17 : w17.cell? ⟨w12.heap.size, 0, none⟩ = some (.int .i64 1) := cell_later h17 (by go_simp)
  have p81_w17 : w17.cell? ⟨w12.heap.size, 1, none⟩ = some (.int .i64 (-3)) := cell_later h17 (by go_simp)
  have p82_w17 : w17.cell? ⟨w12.heap.size, 2, none⟩ = some (.string ⟨#[]⟩) := cell_later h17 (by go_simp)
  have p100_w17 : w17.cell? ⟨w16.heap.size, 0, none⟩ = some (.int .i64 1) := cell_later h17 (by go_simp)
  have p101_w17 : w17.cell? ⟨w16.heap.size, 1, none⟩ = some (.int .i64 4611686018427387904) := cell_later h17 (by go_simp)
  have p102_w17 : w17.cell? ⟨w16.heap.size, 2, none⟩ = some (.string ⟨#[]⟩) := cell_later h17 (by go_simp)
  have H17 : Below w.heap.size w w17 := by (repeat (first | exact Below.refl _ _ | assumption | refine Below.drew ?_ | refine below_drewN ?_ _ | refine Below.alloc ?_ (by first | omega | (simp; done) | (simp; omega)) _ | refine Below.setCell ?_ (by first | omega | (simp; done) | (simp; omega)) _ | refine Below.trans ?_ (Below.mono (by assumption) (by first | omega | (simp; done) | (simp; omega)))))
  have z17 := H17.size
  have y817 : w8.heap.size < w17.heap.size := by have q := h17.size; (try simp at q); omega
  have y917 : w9.heap.size < w17.heap.size := by have q := h17.size; (try simp at q); omega
  have y1217 : w12.heap.size < w17.heap.size := by have q := h17.size; (try simp at q); omega
  have y1617 : w16.heap.size < w17.heap.size := by have q := h17.size; (try simp at q); omega
  have yy17 : w16.heap.size ≤ w17.heap.size := by have q := h17.size; (try simp at q); omega
  clear H16 h17 z16 p40_w16 p41_w16 p42_w16 p60_w16 p61_w16 p62_w16 p80_w16 p81_w16 p82_w16 y816 y916 y1216
  go_wp2
  go_region_held3 (fun w' => w'.cell? ⟨w12.heap.size, 0, none⟩ = some (.int .i64 1) ∧ w'.cell? ⟨w12.heap.size, 1, none⟩ = some (.int .i64 (-3)) ∧ w'.cell? ⟨w12.heap.size, 2, none⟩ = some (.string ⟨#[]⟩) ∧ w'.cell? ⟨w16.heap.size, 0, none⟩ = some (.int .i64 1) ∧ w'.cell? ⟨w16.heap.size, 1, none⟩ = some (.int .i64 4611686018427387904) ∧ w'.cell? ⟨w16.heap.size, 2, none⟩ = some (.string ⟨#[]⟩)) (go_simp)
    (first | (go_at_call 12; refine (lnum_exact _ _).mono ?_; rintro e w' ⟨rfl, rfl⟩))
  go_wp2
  go_ret
  exact ⟨rfl, by (repeat (first | exact Below.refl _ _ | assumption | refine Below.drew ?_ | refine below_drewN ?_ _ | refine Below.alloc ?_ (by first | omega | (simp; done) | (simp; omega)) _ | refine Below.setCell ?_ (by first | omega | (simp; done) | (simp; omega)) _ | refine Below.trans ?_ (Below.mono (by assumption) (by first | omega | (simp; done) | (simp; omega)))))⟩
end Go.Proofs.YtenpggdmmgokpaaDoor
