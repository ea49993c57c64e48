/- Walks of layer 8: copies of lists of procedures. -/
import Derived.Test.YtkgkkcefnonejaaGreatT15p
namespace Go.Proofs.YtkgkkcefnonejaaGreat
open Go.RowKit

set_option maxHeartbeats 8000000 in
set_option maxRecDepth 100000 in
theorem cePc_any (a : Option Addr) (cap : Nat) (l : List Pc) (w : World) (hl : l.length ≤ 1000000) (hr : RowR 5 (PcR w) w a l) (hs : ∀ c ∈ l, PcF c) :
    Calls Tryz.prog 111 #[.slice a l.length cap, .func (.func 69) #[] #[]] w fun e w' => ∃ v, e = .returned v ∧ OwnR 5 52 (PcO w' w.heap.size) w' w.heap.size v l ∧ Below w.heap.size w w' := by
  obtain ⟨i0, hi, hz0, hz1, hz2⟩ := info_parts Tryz.infoPc
  have HR := Lib.hid hr
  have HS := Lib.hid hs
  clear hr hs
  go_enter Tryz.func111, Tryz.ntmps111
  go_wp2
  go_loopw [5, 10] (fun v i wr => ∃ k : Nat, k ≤ l.length ∧ i = .int .i64 k ∧ OwnR 5 52 (PcO wr w.heap.size) wr w.heap.size v (l.take k) ∧ Below w.heap.size w wr) (fun _ i _ => l.length - (intOf i).toNat)
  case atStart => exact ⟨0, Nat.zero_le _, rfl, OwnR.nil _ _ _ _ _, Below.refl _ _⟩
  case round =>
    obtain ⟨k, hk, rfl, hown, hb⟩ := hrel
    have HO := Lib.hid hown
    have HB := Lib.hid hb
    have hsz := hb.size
    clear hown hb
    by_cases hlt : k < l.length
    · have hlti : (k : Int) < (l.length : Int) := by omega
      obtain ⟨b, off, v0, v1, v2, v3, v4, rfl, hR, c0, c1, c2, c3, c4⟩ := HR.out.at5 hlt
      have HRk := Lib.hid hR
      obtain ⟨pp, cp, pb, cb, hR, _, _⟩ := hR
      simp only [List.cons.injEq, and_true] at hR
      obtain ⟨rfl, rfl, rfl, rfl, rfl⟩ := hR
      have d0 := cell_later HB.out c0
      have d1 := cell_later HB.out c1
      have d2 := cell_later HB.out c2
      have d3 := cell_later HB.out c3
      have d4 := cell_later HB.out c4
      clear c0 c1 c2 c3 c4
      go_wp2_with fail
      refine (cpPc_any l[k] _ _ (PcR.later (HB.out.trans (Below.mono (by (repeat (first | exact Below.refl _ _ | assumption | refine Below.drew ?_ | refine below_drewN ?_ _ | refine Below.alloc ?_ (by first | omega | (simp; done) | (simp; omega)) _ | refine Below.setCell ?_ (by first | omega | (simp; done) | (simp; omega)) _ | refine Below.trans ?_ (Below.mono (by assumption) (by first | omega | (simp; done) | (simp; omega)))))) hsz)) _ _ HRk.out) (HS.out _ (List.getElem_mem hlt))).mono ?_
      rintro e w2 ⟨us, rfl, hO, hb2⟩
      have HBw : Hid (Below wr.heap.size wr w2) := by
        show Below wr.heap.size wr w2
        (repeat (first | exact Below.refl _ _ | assumption | refine Below.drew ?_ | refine below_drewN ?_ _ | refine Below.alloc ?_ (by first | omega | (simp; done) | (simp; omega)) _ | refine Below.setCell ?_ (by first | omega | (simp; done) | (simp; omega)) _ | refine Below.trans ?_ (Below.mono (by assumption) (by first | omega | (simp; done) | (simp; omega)))))
      have hO := PcO.mono (B' := w.heap.size) (by simp; omega) _ _ hO
      have HOx := Lib.hid hO
      obtain ⟨u1, u2, rfl, o1, o2⟩ := hO
      obtain ⟨p1, q1, rfl, -⟩ := o1.form
      obtain ⟨p2, q2, rfl, -⟩ := o2.form
      clear o1 o2
      have hs2 := HBw.out.size
      obtain ⟨ps, p1, p2, p3⟩ := HO.out
      have hps : (l.take k).length = k := by rw [List.length_take]; omega
      rw [hps] at p3
      have P1 := Lib.hid p1
      have P2 := Lib.hid p2
      have hown2 := own_later p3 HBw.out
      have HOW := Lib.hid hown2
      have hbl := own_ge hown2
      have HBL := Lib.hid hbl
      clear hb2 p1 p2 p3 hps hbl d0 d1 d2 d3 d4 HO HRk
      go_wp2_with (first | (at_builtin; refine wpList_append_own _ rfl _ _ 23 rfl w.heap.size 52 i0 (.agg #[.string ⟨#[]⟩, .slice none 0 0, .slice none 0 0, .int .i64 0, .int .i64 0]) 5 80 Tryz.underlying23 hi hz0 hz1 hz2 rfl (by decide) _ k (ps.flatMap (·.2)) rfl (hown2.alloc _) ⟨w2.heap.size, 0, none⟩ 1 1 [.string l[k].nm, .slice p1 l[k].prms.length q1, .slice p2 l[k].body.length q2, .int .i64 l[k].rows, .int .i64 l[k].bytes] rfl rfl (cells_alloc _ _ _) (by intro u hu; simp only [List.mem_cons, List.not_mem_nil, or_false] at hu; rcases hu with rfl | rfl | rfl | rfl | rfl <;> rfl) (by unfold maxLen; omega) (by omega) (by simp; omega) ?_; intro v' w3 hown3 hgrow3 _))
      have HG := Lib.hid hgrow3
      have HO3 := Lib.hid hown3
      have hs3 := hgrow3.size
      simp at hs3
      clear hown3 hgrow3 hown2
      go_wp2
      go_roundw
      case rel =>
        have hkp : Keeps inPc w.heap.size w2 w3 := (Keeps.of ((Below.refl _ _).alloc (Nat.le_refl _) _)).trans (Keeps.grown (HOW.out.alloc _) HG.out (by decide))
        have hkw : Keeps inPc w.heap.size wr w3 := (Keeps.of HBw.out).trans hkp
        refine ⟨k + 1, by omega, by go_num, ?_, ?_⟩
        · rw [← take_snoc l k hlt]
          refine OwnR.push (n := 5) P1.out P2.out (PcO.keeps hkw) ((PcO.keeps hkp) _ _ HOx.out) rfl ?_
          rw [List.length_take, Nat.min_eq_left (by omega)]
          exact HO3.out
        · exact (((below_two HB.out HBw.out).alloc (by omega) _).grown HG.out (by simp; omega) HBL.out)
      case measure => simp [intOf]; omega
    · have hk' : k = l.length := by omega
      subst hk'
      have HO2 := HO.out
      rw [List.take_length] at HO2
      have HO3 := Lib.hid HO2
      clear HO2 HO
      go_wp2
      go_ret
      exact ⟨_, rfl, HO3.out, HB.out⟩

end Go.Proofs.YtkgkkcefnonejaaGreat
