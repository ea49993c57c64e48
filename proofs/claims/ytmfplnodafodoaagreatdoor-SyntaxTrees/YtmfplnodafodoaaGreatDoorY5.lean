/- Walks of layer 10: where the next piece of a source begins and ends. -/
import Derived.Test.YtmfplnodafodoaaGreatDoorX11B
import Derived.Test.YtmfplnodafodoaaGreatDoorX11A
namespace Go.Proofs.YtmfplnodafodoaaGreatDoor
open Go.RowKit

theorem wp_scope6 {P : Program} {a : Act} {w : World} {Q : Exit → Act → World → Prop} {c x y r1 r2 r3 r4 r5 : Code} (J : Nat → Act → World → Prop) (μ : Nat → Act → World → Nat)
    (f0 : findLabel c 0 = some (Code.skip.seq y)) (f1 : findLabel c 1 = some r1) (f2 : findLabel c 2 = some r2) (f3 : findLabel c 3 = some r3) (f4 : findLabel c 4 = some r4) (f5 : findLabel c 5 = some r5) (hJ : ∀ l a w, J l a w → l < 6)
    (hc : c = x.seq ((Code.label 0).seq y)) (h0 : x.wp P (fun e a w => e = .normal ∧ J 0 a w) a w)
    (p0 : ∀ a w, J 0 a w → y.wp P (jumps (fun l' a' w' => J l' a' w' ∧ μ l' a' w' < μ 0 a w) Q) a w)
    (p1 : ∀ a w, J 1 a w → r1.wp P (jumps (fun l' a' w' => J l' a' w' ∧ μ l' a' w' < μ 1 a w) Q) a w)
    (p2 : ∀ a w, J 2 a w → r2.wp P (jumps (fun l' a' w' => J l' a' w' ∧ μ l' a' w' < μ 2 a w) Q) a w)
    (p3 : ∀ a w, J 3 a w → r3.wp P (jumps (fun l' a' w' => J l' a' w' ∧ μ l' a' w' < μ 3 a w) Q) a w)
    (p4 : ∀ a w, J 4 a w → r4.wp P (jumps (fun l' a' w' => J l' a' w' ∧ μ l' a' w' < μ 4 a w) Q) a w)
    (p5 : ∀ a w, J 5 a w → r5.wp P (jumps (fun l' a' w' => J l' a' w' ∧ μ l' a' w' < μ 5 a w) Q) a w) : (Code.scope c).wp P Q a w := by
  have first : c.wp P (jumps J Q) a w := by
    rw [hc]
    refine wp_seq (wp_mono h0 ?_)
    rintro e a1 w1 ⟨rfl, hJ0⟩
    refine wp_seq (wp_label ?_)
    refine wp_mono (p0 a1 w1 hJ0) ?_
    intro e a' w' h
    cases e with
    | goto l => exact h.1
    | normal => exact h
    | exit id => exact h
    | ret => exact h
    | panic ch => exact h
    | outgrown => exact h
  refine wp_scope_labels J μ (fun l => match l with | 0 => Code.skip.seq y | 1 => r1 | 2 => r2 | 3 => r3 | 4 => r4 | _ => r5) ?_ first ?_
  · intro l a w h
    have hl := hJ l a w h
    match l, hl with
    | 0, _ => exact f0
    | 1, _ => exact f1
    | 2, _ => exact f2
    | 3, _ => exact f3
    | 4, _ => exact f4
    | 5, _ => exact f5
  · intro l a w h
    have hl := hJ l a w h
    match l, hl with
    | 0, _ => exact wp_seq (wp_skip (p0 a w h))
    | 1, _ => exact p1 a w h
    | 2, _ => exact p2 a w h
    | 3, _ => exact p3 a w h
    | 4, _ => exact p4 a w h
    | 5, _ => exact p5 a w h

/-- What holds at a label. -/
def AtL (s : ByteArray) (e0 : Nat) (w : World) (l : Nat) (x : Act) (W : World) : Prop := l < 6 ∧ W = w ∧ ∃ (a e : Nat) (u7 u8 u9 u10 u11 u12 u13 u14 u15 u16 u17 u18 u19 u20 u21 u22 u23 u24 u25 u26 u27 u28 u29 u30 u31 u32 u33 u34 u35 u36 u37 u38 u39 u40 u41 u42 u43 u44 u45 u46 u47 u48 u49 u50 u51 u52 u53 u54 u55 u56 u57 u58 u59 u60 u61 u62 u63 u64 u65 u66 u67 u68 u69 u70 u71 u72 u73 u74 u75 u76 u77 u78 u79 u80 u81 u82 u83 u84 u85 u86 u87 u88 u89 u90 : Value), x = { tmps := #[.string s, .int .i64 (e : Int), undef, undef, .int .i64 0, .int .i64 0, .int .i64 (a : Int), u7, u8, u9, u10, u11, u12, u13, u14, u15, u16, u17, u18, u19, u20, u21, u22, u23, u24, u25, u26, u27, u28, u29, u30, u31, u32, u33, u34, u35, u36, u37, u38, u39, u40, u41, u42, u43, u44, u45, u46, u47, u48, u49, u50, u51, u52, u53, u54, u55, u56, u57, u58, u59, u60, u61, u62, u63, u64, u65, u66, u67, u68, u69, u70, u71, u72, u73, u74, u75, u76, u77, u78, u79, u80, u81, u82, u83, u84, u85, u86, u87, u88, u89, u90], defers := [] } ∧ e ≤ s.size ∧ (l ≠ 0 → a ≤ e) ∧ (l = 3 → e = a + 1) ∧ ∀ r, Cut s l a e r → Cut s 0 0 e0 r
def muL (s : ByteArray) (l : Nat) (x : Act) (_ : World) : Nat := 4 * (s.size + 4 - (intOf (x.tmps.getD 1 undef)).toNat) + (if l = 5 then 1 else if l = 3 then 2 else 0)
theorem clsAt_range (s : ByteArray) (k : Nat) : clsAt s k = 0 ∨ clsAt s k = 1 ∨ clsAt s k = 2 ∨ clsAt s k = 3 ∨ clsAt s k = 4 ∨ clsAt s k = 5 ∨ clsAt s k = 6 ∨ clsAt s k = 7 ∨ clsAt s k = 8 ∨ clsAt s k = 9 ∨ clsAt s k = 10 := by
  unfold clsAt cls
  repeat (first | split | simp)
theorem clsAt_lt {s : ByteArray} {k : Nat} (h : clsAt s k ≠ 1) : k < s.size := by
  by_cases g : k < s.size
  · exact g
  · exact absurd (clsAt_out g) h
def CutP (s : ByteArray) (e0 : Nat) (w : World) (x : Ending) (w' : World) : Prop := ∃ a b : Nat, x = .returned (.tuple #[.int .i64 (a : Int), .int .i64 (b : Int)]) ∧ Cut s 0 0 e0 (a, b) ∧ b ≤ s.size ∧ a ≤ b ∧ w' = w
/-- The code of its labels. -/
noncomputable def cutC : Code := match Tryz.f47.body with | some (.seq _ (.scope c)) => c | _ => .skip
end Go.Proofs.YtmfplnodafodoaaGreatDoor
