/- Walks of layer 3, twelfth part: the values of a row. -/
import Derived.Test.YtfgpopkibjijgaaR11
namespace Go.Proofs.Ytfgpopkibjijgaa
open Go.RowKit

/-- What Decode answers: values of its own and an error. -/
def DV (s : ByteArray) (w : World) (e : Ending) (w' : World) : Prop := ∃ v : Value, e = .returned (.tuple #[v, .int .i64 (rdR s.data.toList).2]) ∧ w'.ownsRow w.heap.size 25 3 v (rdR s.data.toList).1.length (vc (rdR s.data.toList).1) ∧ Below w.heap.size w w'
theorem dv_ok {s : ByteArray} {w : World} {v : Value} {vs : List V3} {w' : World} (h : RowOf s.data.toList vs) (ho : w'.ownsRow w.heap.size 25 3 v vs.length (vc vs)) (hb : Below w.heap.size w w') : DV s w (.returned (.tuple #[v, .int .i64 0])) w' := by
  refine ⟨v, ?_, ?_, hb⟩
  · rw [rdR_ok h]
  · rw [rdR_ok h]; exact ho
theorem dv_no {s : ByteArray} {w w' : World} (h : ∀ vs, ¬ RowOf s.data.toList vs) (hb : Below w.heap.size w w') : DV s w (.returned (.tuple #[.slice none 0 0, .int .i64 30])) w' := by
  refine ⟨.slice none 0 0, ?_, ?_, hb⟩
  · rw [rdR_no h]
  · rw [rdR_no h]; exact World.ownsRow_nil _ _ _ _
/-- What Encode tells of what was read: the text itself, or something else. -/
theorem wr_split (s : ByteArray) (l : List V3) : (((wrR l).2 = 0 ∧ (wrR l).1 = s.data.toList) ∧ wrV l = .tuple #[.string s, .int .i64 0]) ∨ (¬ ((wrR l).2 = 0 ∧ (wrR l).1 = s.data.toList) ∧ ∃ (p : ByteArray) (q : Int), wrV l = .tuple #[.string p, .int .i64 q] ∧ ((q != 0) = true ∨ ((q != 0) = false ∧ (p.toList == s.toList) = false))) := by
  by_cases h : (wrR l).2 = 0 ∧ (wrR l).1 = s.data.toList
  · left
    refine ⟨h, ?_⟩
    unfold wrV
    rw [h.1, h.2]
  · right
    refine ⟨h, ⟨(wrR l).1.toArray⟩, (wrR l).2, rfl, ?_⟩
    by_cases a : (wrR l).2 = 0
    · right
      refine ⟨by simp [a], ?_⟩
      rw [beq_eq_false_iff_ne, ByteArray.toList_eq, ByteArray.toList_eq]
      exact fun e => h ⟨a, e⟩
    · left; simpa using a

set_option maxHeartbeats 4000000 in
set_option maxRecDepth 100000 in
theorem dec_any (s : ByteArray) (w : World) (hs : s.size ≤ 2147483648) : Calls Try.prog 13 #[.string s] w (DV s w) := by
  go_enter Try.func13, Try.ntmps13
  go_wp2_with fail
  refine (rrow_any s _ hs).mono ?_
  rintro e w1 ⟨v, l, ok, rfl, hown, hno, hyes, hl, hb⟩
  cases ok with
  | false =>
    have HN : Hid (∀ vs, ¬ RowOf s.data.toList vs) := hno rfl
    clear hno hyes hown
    go_wp2
    exact bodyPost_ret (v := .tuple #[.slice none 0 0, .int .i64 30]) (by simp [results, Try.results13, go_sem]) rfl (dv_no HN.out (by (repeat (first | exact Below.refl _ _ | assumption | refine Below.drew ?_ | refine below_drewN ?_ _ | refine Below.alloc ?_ (by first | omega | (simp; done) | (simp; omega)) _ | refine Below.setCell ?_ (by first | omega | (simp; done) | (simp; omega)) _ | refine Below.trans ?_ (Below.mono (by assumption) (by first | omega | (simp; done) | (simp; omega)))))))
  | true =>
    obtain ⟨c, q, r, hcq, hrp⟩ := hyes rfl
    obtain ⟨la, lc, rfl, hrow⟩ := Row.of_own hown
    have HO : Hid (w1.ownsRow w.heap.size 25 3 (.slice la l.length lc) l.length (vc l)) := hown
    have HR : Hid (Row w1 la l) := hrow
    clear hno hyes hown hrow
    rcases wr_split s l with ⟨h, hv⟩ | ⟨h, p, x, hv, hd⟩
    · have HK : Hid (RowOf s.data.toList l) := rowOf_of h.1 h.2
      have HV : Hid (wrV l = .tuple #[.string s, .int .i64 0]) := hv
      clear h hv hrp hcq
      go_wp2_with fail
      refine (enc_any la lc l _ (by omega) HR.out).mono ?_
      rintro e w2 ⟨rfl, hb2⟩
      rw [HV.out]
      have HO2 : Hid (w2.ownsRow w.heap.size 25 3 (.slice la l.length lc) l.length (vc l)) := own_later HO.out hb2
      have hbw2 : Below w.heap.size w w2 := hb.trans (hb2.mono hb.size)
      clear hb2 HO
      go_wp2
      exact bodyPost_ret (v := .tuple #[.slice la l.length lc, .int .i64 0]) (by simp [results, Try.results13, go_sem]) rfl (dv_ok HK.out HO2.out hbw2)
    · have HN : Hid (∀ vs, ¬ RowOf s.data.toList vs) := rp_end hcq hrp h
      have HV : Hid (wrV l = .tuple #[.string p, .int .i64 x]) := hv
      clear h hv hrp hcq HO
      rcases hd with d1 | ⟨d1, d2⟩
      all_goals
        go_wp2_with fail
        refine (enc_any la lc l _ (by omega) HR.out).mono ?_
        rintro e w2 ⟨rfl, hb2⟩
        rw [HV.out]
        have hbw2 : Below w.heap.size w w2 := hb.trans (hb2.mono hb.size)
        clear hb2
        go_wp2
        exact bodyPost_ret (v := .tuple #[.slice none 0 0, .int .i64 30]) (by simp [results, Try.results13, go_sem]) rfl (dv_no HN.out hbw2)
end Go.Proofs.Ytfgpopkibjijgaa
