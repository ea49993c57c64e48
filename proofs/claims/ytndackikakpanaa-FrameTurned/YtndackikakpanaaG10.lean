/- Walks of layer 5, tenth part: FrameTurned. -/
import Derived.Test.YtndackikakpanaaG8
namespace Go.Proofs.Ytndackikakpanaa
open Go.RowKit

theorem ownB.set {w : World} {q n cap : Nat} {bs : List UInt8} (h : ownB w (.slice (some ⟨q, 0, none⟩) n cap) bs) (I : Nat) (hI : I < bs.length) (b : UInt8) : ownB (w.setCell ⟨q, I, none⟩ (.int .u8 (b.toNat : Int))) (.slice (some ⟨q, 0, none⟩) n cap) (bs.set I b) := by
  rcases h with ⟨e, _⟩ | ⟨g, cap', e, h1, h2, ⟨cur, fr, h3⟩, h4, h5⟩
  · cases e
  · simp only [Value.slice.injEq, Option.some.injEq, Addr.mk.injEq, and_true] at e
    obtain ⟨rfl, rfl, rfl⟩ := e
    refine Or.inr ⟨q, cap, by rw [List.length_set], by rw [List.length_set]; exact h1, h2, ⟨cur.setIfInBounds I (.int .u8 (b.toNat : Int)), fr, ?_⟩, fun j hj => ⟨?_, ?_⟩, fun j hj => ?_⟩
    · simp only [World.setCell, Array.getElem?_modify, if_true, h3]
      simp
    · by_cases e : j = I
      · subst e
        rw [World.cell?_setCell_same _ _ _ (h5 j hI)]
        rfl
      · rw [World.cell?_setCell_other _ _ _ _ (by simp)]
        exact (h4 j hj).1
    · rw [World.frozen?_setCell]
      exact (h4 j hj).2
    · rw [List.length_set] at hj
      by_cases e : I = j
      · subst e
        rw [World.cell?_setCell_same _ _ _ (h5 I hI)]
        simp
      · rw [World.cell?_setCell_other _ _ _ _ (by simp), h5 j hj, List.getElem_set_ne e]

theorem turned_is {d : List UInt8} (hd : d.length ≤ 4096) {I : Nat} (h2 : 2 ≤ I) (hI : I < (frm d).length) (b : UInt8) :
    (b = (frm d)[I] → rdT ⟨((frm d).set I b).toArray⟩ 0 = ((⟨d.toArray⟩ : ByteArray), (((frm d).length : Nat) : Int), (0 : Int))) ∧ (b ≠ (frm d)[I] → rdT ⟨((frm d).set I b).toArray⟩ 0 = (⟨#[]⟩, 0, 50)) := by
  refine ⟨fun e => ?_, fun e => ?_⟩
  · rw [e, List.set_getElem_self]
    have h : rd ((⟨(frm d).toArray⟩ : ByteArray).data.toList.drop 0) = some d := by
      have := rd_frm hd []
      rw [List.append_nil] at this
      simpa using this
    have := rdT_some (a := 0) (Nat.zero_le _) h
    rw [Nat.zero_add, ← frm_length] at this
    exact this
  · have h : rd ((⟨((frm d).set I b).toArray⟩ : ByteArray).data.toList.drop 0) = none := by
      have := rd_turned hd h2 hI (b := b) (fun e' => e e'.symm)
      simpa using this
    exact rdT_none (a := 0) (Nat.zero_le _) h

set_option maxHeartbeats 8000000 in
set_option maxRecDepth 100000 in
theorem turned_law (d : ByteArray) (x y : Int) (w : World) : Calls Try.prog 6 #[.string d, .int .i64 x, .int .i64 y] w fun e w' => e = .returned (.bool true) ∧ Below w.heap.size w w' := by
  by_cases hd : 2147483647 < d.size
  · have hdi : (2147483647 : Int) < (d.size : Int) := by omega
    go_enter Try.func6, Try.ntmps6
    go_wp2
    go_ret
    exact ⟨rfl, Below.refl _ _⟩
  · have hdi : ¬ (2147483647 : Int) < (d.size : Int) := by omega
    by_cases hl : d.size ≤ 4096
    · have hli : (d.size : Int) ≤ 4096 := by omega
      obtain ⟨s, hs⟩ : ∃ s, s = wrS d := ⟨_, rfl⟩
      have hsf : s = ⟨(frm d.data.toList).toArray⟩ := by rw [hs]; exact if_pos hl
      have hsl : s.data.toList = frm d.data.toList := by rw [hsf]
      have hss : s.size = 6 + d.size := by
        have := congrArg List.length hsl
        rw [frm_length] at this
        simpa using this
      have HE : Hid (wrE d = 0) := if_pos hl
      have h6 : 6 ≤ s.size := by omega
      have h6' : s.size ≤ 4102 := by omega
      have h6i : ¬ (s.size : Int) < 6 := by omega
      obtain ⟨L, hL⟩ : ∃ L, 4 + d.size = L := ⟨_, rfl⟩
      have hLi : (s.size : Int) - 2 = (L : Int) := by omega
      have hL0 : (0 : Int) < (L : Int) := by omega
      have hLn : ¬ ((L : Int) = 0) := by omega
      obtain ⟨r, hr⟩ : ∃ r, x.tmod (L : Int) = r := ⟨_, rfl⟩
      have hrb : -(L : Int) < r ∧ r < (L : Int) := by
        rw [← hr]
        have h1 := Int.tmod_lt_of_pos x hL0
        have h2 := Int.lt_tmod_of_pos x hL0
        omega
      obtain ⟨K, hK⟩ : ∃ K : Nat, (r < 0 → r + (s.size : Int) - 2 = (K : Int)) ∧ (¬ r < 0 → r = (K : Int)) ∧ K + 2 < s.size := by
        by_cases h : r < 0
        · exact ⟨(r + (s.size : Int) - 2).toNat, by omega, by omega, by omega⟩
        · exact ⟨r.toNat, by omega, by omega, by omega⟩
      obtain ⟨hK1, hK2, hK3⟩ := hK
      have hs' : wrS d = s := hs.symm
      have HF : Hid (s.data.toList = frm d.data.toList) := hsl
      clear hs hsf hsl hss hL
      go_enter Try.func6, Try.ntmps6
      go_wp2_with fail
      refine (awake_any w).mono ?_
      rintro e w1 ⟨rfl, hb1⟩
      go_wp2_with fail
      refine (wrap_any d w1 (by omega)).mono ?_
      rintro e w2 ⟨rfl, hb2⟩
      rw [hs', HE.out]
      have HB2 : Hid (Below w.heap.size w w2) := below_two hb1 hb2
      clear hb1 hb2 hs'
      obtain ⟨v, w3, hcv, hob, hvb, hb3, hz3⟩ := ownB.made w2 s (by omega)
      obtain ⟨q, cap, rfl, hcap, hq0⟩ : ∃ q cap, v = .slice (some ⟨q, 0, none⟩) s.size cap ∧ s.size ≤ cap ∧ w2.heap.size = q := by
        rcases hob with ⟨rfl, _⟩ | ⟨q, cap, rfl, h1, _⟩
        · cases hvb
        · have hlen : s.data.toList.length = s.size := by simp
          exact ⟨q, cap, by rw [hlen], by rw [← hlen]; exact h1, by simpa [Value.ownBlock] using hvb.symm⟩
      have HB3 : Hid (Below w2.heap.size w2 w3) := hb3
      obtain ⟨b, hb⟩ : ∃ b : UInt8, IntKind.u8.wrap y = (b.toNat : Int) := ⟨UInt8.ofNat (y % 256).toNat, by rw [UInt8.toNat_ofNat', IntKind.wrap_u8]; omega⟩
      obtain ⟨I, hI⟩ : ∃ I, K + 2 = I := ⟨_, rfl⟩
      have hIi : (K : Int) + 2 = (I : Int) := by omega
      have hIs : I < s.size := by omega
      have hIl : I < s.data.toList.length := by simpa using hIs
      have hset := hob.set I hIl b
      have hcell : w3.cell? ⟨q, I, none⟩ = some (.int .u8 ((s[I]'hIs).toNat : Int)) := by
        rcases hob with ⟨e, _⟩ | ⟨g, cap', e, h1, h2, h3, h4, h5⟩
        · cases e
        · have e' : q = g := by simp at e; exact e.1
          subst e'
          exact h5 I hIl
      have hfr : w3.frozen? ⟨q, I, none⟩ = false := by
        rcases hob with ⟨e, _⟩ | ⟨g, cap', e, h1, h2, h3, h4, h5⟩
        · cases e
        · have e' : q = g ∧ cap = cap' := by simp at e; exact ⟨e.1, e.2⟩
          obtain ⟨rfl, rfl⟩ := e'
          exact (h4 I (by omega)).2
      have hcs := hset.str
      have hql : q < w3.heap.size := by omega
      have hlast : (w3.setCell ⟨q, I, none⟩ (.int .u8 (b.toNat : Int))).cell? ⟨q, I, none⟩ = some (.int .u8 (b.toNat : Int)) := World.cell?_setCell_same _ _ _ hcell
      obtain ⟨w4, hw4⟩ : ∃ w4, w3.setCell ⟨q, I, none⟩ (.int .u8 (b.toNat : Int)) = w4 := ⟨_, rfl⟩
      have HB4 : Hid (Below w2.heap.size w2 w4) := by rw [← hw4]; exact HB3.out.setCell (p := ⟨q, I, none⟩) (by simp; omega) _
      rw [hw4] at hcs hlast
      obtain ⟨t, ht⟩ : ∃ t : ByteArray, t = ⟨(s.data.toList.set I b).toArray⟩ := ⟨_, rfl⟩
      rw [← ht] at hcs
      have htz : t.size = s.size := by
        have : t.data.toList.length = s.data.toList.length := by rw [ht]; simp
        simpa using this
      have hfl : (frm d.data.toList).length = s.size := by rw [← HF.out]; simp
      have hti := turned_is (d := d.data.toList) (by simpa using hl) (I := I) (by omega) (by rw [hfl]; exact hIs) b
      have HTI : Hid ((b = s[I]'hIs → rdT t 0 = (d, (s.size : Int), 0)) ∧ (b ≠ s[I]'hIs → rdT t 0 = (⟨#[]⟩, 0, 50))) := by
        have hat : (frm d.data.toList)[I]'(by rw [hfl]; exact hIs) = s[I]'hIs := by
          have : (frm d.data.toList)[I]? = s.data.toList[I]? := by rw [HF.out]
          rw [List.getElem?_eq_getElem (by rw [hfl]; exact hIs), List.getElem?_eq_getElem hIl] at this
          exact Option.some.inj this
        rw [hat, hfl, ← HF.out, ← ht] at hti
        exact hti
      clear hti hfl ht hset hob hb3 hz3 hq0 hvb HF hI hIl
      have hbl := UInt8.toNat_lt b
      have hsbl := UInt8.toNat_lt (s[I]'hIs)
      by_cases hneg : r < 0
      · have hKi := hK1 hneg
        obtain ⟨Q, hQ⟩ : ∃ Q : Nat, r + (s.size : Int) = (Q : Int) := ⟨(r + (s.size : Int)).toNat, by omega⟩
        have hQK : (Q : Int) - 2 = (K : Int) := by omega
        clear hK1 hK2 hKi
        go_wp2_with fail
        refine (read_any t 0 w4 (by omega)).mono ?_
        rintro e w5 ⟨rfl, hb5⟩
        have hlast5 := cell_later hb5 hlast
        have HB5 : Hid (Below w.heap.size w w5) := below_two (HB2.out.trans (HB4.out.mono HB2.out.size)) hb5
        clear hb5 hlast hcs hcell hfr hcv hw4
        by_cases hbe : b = s[I]'hIs
        · rw [HTI.out.1 hbe]
          rw [hbe] at hlast5
          clear hbe
          go_wp2
          go_quiet (fail)
          go_wp2
          go_ret
          exact ⟨rfl, HB5.out.trans (by (repeat (first | exact Below.refl _ _ | assumption | refine Below.drew ?_ | refine below_drewN ?_ _ | refine Below.alloc ?_ (by first | omega | (simp; done) | (simp; omega)) _ | refine Below.setCell ?_ (by first | omega | (simp; done) | (simp; omega)) _ | refine Below.trans ?_ (Below.mono (by assumption) (by first | omega | (simp; done) | (simp; omega))))))⟩
        · rw [HTI.out.2 hbe]
          have hbn : ((b.toNat : Int) == ((s[I]'hIs).toNat : Int)) = false := by
            rw [beq_eq_false_iff_ne]
            intro e
            exact hbe (UInt8.toNat_inj.1 (by omega))
          clear hbe
          go_wp2
          go_quiet (fail)
          go_wp2
          go_ret
          exact ⟨rfl, HB5.out.trans (by (repeat (first | exact Below.refl _ _ | assumption | refine Below.drew ?_ | refine below_drewN ?_ _ | refine Below.alloc ?_ (by first | omega | (simp; done) | (simp; omega)) _ | refine Below.setCell ?_ (by first | omega | (simp; done) | (simp; omega)) _ | refine Below.trans ?_ (Below.mono (by assumption) (by first | omega | (simp; done) | (simp; omega))))))⟩
      · have hKi := hK2 (by omega)
        clear hK1 hK2
        subst hKi
        go_wp2_with fail
        refine (read_any t 0 w4 (by omega)).mono ?_
        rintro e w5 ⟨rfl, hb5⟩
        have hlast5 := cell_later hb5 hlast
        have HB5 : Hid (Below w.heap.size w w5) := below_two (HB2.out.trans (HB4.out.mono HB2.out.size)) hb5
        clear hb5 hlast hcs hcell hfr hcv hw4
        by_cases hbe : b = s[I]'hIs
        · rw [HTI.out.1 hbe]
          rw [hbe] at hlast5
          clear hbe
          go_wp2
          go_quiet (fail)
          go_wp2
          go_ret
          exact ⟨rfl, HB5.out.trans (by (repeat (first | exact Below.refl _ _ | assumption | refine Below.drew ?_ | refine below_drewN ?_ _ | refine Below.alloc ?_ (by first | omega | (simp; done) | (simp; omega)) _ | refine Below.setCell ?_ (by first | omega | (simp; done) | (simp; omega)) _ | refine Below.trans ?_ (Below.mono (by assumption) (by first | omega | (simp; done) | (simp; omega))))))⟩
        · rw [HTI.out.2 hbe]
          have hbn : ((b.toNat : Int) == ((s[I]'hIs).toNat : Int)) = false := by
            rw [beq_eq_false_iff_ne]
            intro e
            exact hbe (UInt8.toNat_inj.1 (by omega))
          clear hbe
          go_wp2
          go_quiet (fail)
          go_wp2
          go_ret
          exact ⟨rfl, HB5.out.trans (by (repeat (first | exact Below.refl _ _ | assumption | refine Below.drew ?_ | refine below_drewN ?_ _ | refine Below.alloc ?_ (by first | omega | (simp; done) | (simp; omega)) _ | refine Below.setCell ?_ (by first | omega | (simp; done) | (simp; omega)) _ | refine Below.trans ?_ (Below.mono (by assumption) (by first | omega | (simp; done) | (simp; omega))))))⟩
    · have hli : ¬ (d.size : Int) ≤ 4096 := by omega
      go_enter Try.func6, Try.ntmps6
      go_wp2_with fail
      refine (awake_any w).mono ?_
      rintro e w1 ⟨rfl, hb1⟩
      go_wp2_with fail
      refine (wrap_any d w1 (by omega)).mono ?_
      rintro e w2 ⟨rfl, hb2⟩
      rw [show wrS d = ⟨#[]⟩ from if_neg hl, show wrE d = 2 from if_neg hl]
      go_wp2
      go_ret
      exact ⟨by simp, below_two hb1 hb2⟩
end Go.Proofs.Ytndackikakpanaa
