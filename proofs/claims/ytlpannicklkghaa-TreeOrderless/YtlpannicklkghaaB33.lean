/- TreeOrderless, walked. -/
import Derived.Test.YtlpannicklkghaaB32
namespace Go.Proofs.Ytlpannicklkghaa
open Go.RowKit

set_option maxHeartbeats 40000000 in
set_option maxRecDepth 100000 in
theorem orderless_law (o r : Int) (p : Option Addr) (cap : Nat) (l : List Pr) (w : World) (row : PRow w p l) (le : l.length ≤ cap) (ml : cap ≤ maxLen) :
    Calls Try.prog 5 #[.int .i64 o, .int .i64 r, .slice p l.length cap] w fun e w' => e = .returned (.bool true) ∧ Below w.heap.size w w' := by
  have HW := weighs7_any w p none cap 0 l [] (by simp; unfold maxLen at ml; omega) row (fun i hi => absurd hi (by simp))
  have HR : Hid (PRow w p l) := row
  clear row le ml
  go_enter Try.func5, Try.ntmps5
  go_wp2_with fail
  refine HW.mono ?_
  rintro e w1 ⟨m, rfl, hm, hb1⟩
  by_cases hbig : ¬ m ≤ 536870911
  · have hbi : (536870911 : Int) < (m : Int) := by omega
    go_wp2
    go_ret
    exact ⟨rfl, hb1⟩
  have hbi : ¬ (536870911 : Int) < (m : Int) := by omega
  obtain ⟨hlen, hsm, _⟩ := hm (by omega)
  have hll : l.length ≤ 536870911 := by simp at hlen; omega
  have HS : Hid (Small l) := fun x hx => hsm x hx
  have HB1 : Hid (Below w.heap.size w w1) := hb1
  clear hlen hsm hb1 HW
  go_wp2_with fail
  refine (awake7_any w1).mono ?_
  rintro e w2 ⟨rfl, hb2⟩
  have HB2 : Hid (Below w.heap.size w w2) := below_two HB1.out hb2
  clear hb2
  by_cases ho1 : o < 4
  · go_wp2
    go_ret
    exact ⟨rfl, HB2.out⟩
  by_cases ho2 : 64 < o
  · go_wp2
    go_ret
    exact ⟨rfl, HB2.out⟩
  by_cases hr1 : r < 4
  · go_wp2
    go_ret
    exact ⟨rfl, HB2.out⟩
  by_cases hr2 : 64 < r
  · go_wp2
    go_ret
    exact ⟨rfl, HB2.out⟩
  obtain ⟨ma, rfl⟩ : ∃ n : Nat, o = (n : Int) := ⟨o.toNat, by omega⟩
  obtain ⟨mb, rfl⟩ : ∃ n : Nat, r = (n : Int) := ⟨r.toNat, by omega⟩
  go_wp2_with fail
  refine (newnil_z w2 ma (by omega) (by omega)).mono ?_
  rintro e w3 ⟨hb3, ta, rfl, hta, hza⟩
  have HB3 : Hid (Below w.heap.size w w3) := below_two HB2.out hb3
  have HS23 : Hid (w.heap.size ≤ w2.heap.size ∧ w2.heap.size ≤ w3.heap.size) := ⟨HB2.out.size, hb3.size⟩
  have HZA : Hid (TreeZ w3 w2.heap.size (fun k => w2.heap.size ≤ k ∧ k < w3.heap.size) ta ma []) := hza
  clear hb3 hza hta
  go_wp2_with fail
  refine (newnil_z w3 mb (by omega) (by omega)).mono ?_
  rintro e w4 ⟨hb4, tb, rfl, htb, hzb⟩
  have HB4 : Hid (Below w.heap.size w w4) := below_two HB3.out hb4
  have HOL : Hid (OLs w4 w2.heap.size w3.heap.size ta tb ma mb [] []) := ⟨_, _, [], [], HZA.out.later hb4, hzb, fun k h1 h2 => by have := h1.2; have := h2.1; omega, SetIs.nil, SetIs.nil, Nat.le_refl _, Nat.le_refl _⟩
  clear hb4 hzb htb HZA
  go_wp2_with fail
  go_loopw [13] (fun i wr => ∃ k : Nat, k ≤ l.length ∧ i = .int .i64 (k : Int) ∧ OLs wr w2.heap.size w3.heap.size ta tb ma mb (l.take k) (l.drop (l.length - k)) ∧ Below w.heap.size w wr) (fun i _ => l.length - (intOf i).toNat)
  case atStart => exact ⟨0, Nat.zero_le _, rfl, by rw [List.take_zero, Nat.sub_zero, List.drop_length]; exact HOL.out, HB4.out⟩
  case round =>
    obtain ⟨k, hk, rfl, hol, hb⟩ := hrel
    have HO : Hid (OLs wr w2.heap.size w3.heap.size ta tb ma mb (l.take k) (l.drop (l.length - k))) := hol
    have HB : Hid (Below w.heap.size w wr) := hb
    clear hol hb HOL HB4 HB3
    by_cases hlt : k < l.length
    · have hlti : (k : Int) < (l.length : Int) := by omega
      obtain ⟨Za, Zb, a, b, hab⟩ := HO.out
      have hgv : ∀ y ∈ a, y.val.size ≤ 281474976710656 := fun y hy => by
        have := (hab.sa.small (fun x hx => HS.out x (List.mem_of_mem_take hx)) y hy).2
        omega
      have hal : a.length ≤ 4000000000 := by have := hab.na; rw [List.length_take] at this; omega
      obtain ⟨g, off, rfl, d0, d1⟩ := (HR.out.later HB.out) k hlt
      obtain ⟨x, hx⟩ : ∃ x, l[k] = x := ⟨_, rfl⟩
      rw [hx] at d0 d1
      have HG : Hid (Calls Try.prog 22 #[.pointer (some ⟨ta, 0, none⟩), .string x.1] wr fun e w' => Below wr.heap.size wr w' ∧ e = .returned (.tuple #[.string (valL x.1 a), .bool (foundL x.1 a)])) := get_z wr _ Za ta ma x.1 a hab.ta (by omega) (by omega) hal hgv
      have hxs : Sm7 x := HS.out x (by rw [← hx]; exact List.getElem_mem hlt)
      have htk : l.take (k + 1) = l.take k ++ [x] := by rw [take_one hlt, hx]
      have HPA : Hid (∀ W, Below wr.heap.size wr W → foundL x.1 a = false → Calls Try.prog 18 #[.pointer (some ⟨ta, 0, none⟩), .string x.1, .string x.2] W fun e w' => (∃ u v, e = .returned (.tuple #[u, v])) ∧ Below w.heap.size w w' ∧ OLs w' w2.heap.size w3.heap.size ta tb ma mb (l.take (k + 1)) (l.drop (l.length - k))) := fun W hW hf => by
        refine ((hab.later hW).putA x (by omega) (by omega) (by rw [List.length_take]; omega) hxs hf w.heap.size HS23.out.1).mono ?_
        rintro e w' ⟨h1, h2, h3⟩
        rw [htk]
        exact ⟨h1, (below_two HB.out hW).trans h2, h3⟩
      have HOF : Hid (∀ W, Below wr.heap.size wr W → foundL x.1 a = true → OLs W w2.heap.size w3.heap.size ta tb ma mb (l.take (k + 1)) (l.drop (l.length - k))) := fun W hW hf => by
        have h1 := hab.later hW
        rw [htk]
        exact ⟨Za, Zb, a, b, h1.ta, h1.tb, h1.ap, h1.sa.old x hf, h1.sb, by have := h1.na; rw [List.length_append, List.length_singleton]; omega, h1.nb⟩
      obtain ⟨kk, hkk⟩ : ∃ kk : Nat, l.length - 1 - k = kk := ⟨_, rfl⟩
      have hkl : kk < l.length := by omega
      have hkli : (kk : Int) < (l.length : Int) := by omega
      have hkki : (l.length : Int) - 1 - (k : Int) = (kk : Int) := by omega
      obtain ⟨y, hy⟩ : ∃ y, l[kk] = y := ⟨_, rfl⟩
      have hys : Sm7 y := HS.out y (by rw [← hy]; exact List.getElem_mem hkl)
      have hdr : l.drop (l.length - (k + 1)) = y :: l.drop (l.length - k) := by
        rw [drop_one hlt (by omega)]
        congr 1
        simp only [hkk]
        exact hy
      have HPB : Hid (∀ W, Below w.heap.size w W → OLs W w2.heap.size w3.heap.size ta tb ma mb (l.take (k + 1)) (l.drop (l.length - k)) → Calls Try.prog 18 #[.pointer (some ⟨tb, 0, none⟩), .string y.1, .string y.2] W fun e w' => (∃ u v, e = .returned (.tuple #[u, v])) ∧ Below w.heap.size w w' ∧ OLs w' w2.heap.size w3.heap.size ta tb ma mb (l.take (k + 1)) (l.drop (l.length - (k + 1)))) := fun W hW ho => by
        obtain ⟨Za', Zb', a', b', hab'⟩ := ho
        refine (hab'.putB y (by omega) (by omega) (by rw [List.length_drop]; omega) hys w.heap.size (by have := HS23.out; omega)).mono ?_
        rintro e w' ⟨h1, h2, h3⟩
        rw [hdr]
        exact ⟨h1, hW.trans h2, h3⟩
      have HRY : Hid (∀ W, Below w.heap.size w W → W.cell? ⟨g, off + kk * 2, none⟩ = some (.string y.1) ∧ W.cell? ⟨g, off + kk * 2 + 1, none⟩ = some (.string y.2)) := fun W hW => by
        obtain ⟨g', off', e', f0, f1⟩ := (HR.out.later hW) kk hkl
        simp only [Option.some.injEq, Addr.mk.injEq, and_true] at e'
        obtain ⟨rfl, rfl⟩ := e'
        rw [hy] at f0 f1
        exact ⟨f0, f1⟩
      have HDX : Hid (∀ W, Below w.heap.size w W → W.cell? ⟨g, off + k * 2, none⟩ = some (.string x.1) ∧ W.cell? ⟨g, off + k * 2 + 1, none⟩ = some (.string x.2)) := fun W hW => by
        obtain ⟨g', off', e', f0, f1⟩ := (HR.out.later hW) k hlt
        simp only [Option.some.injEq, Addr.mk.injEq, and_true] at e'
        obtain ⟨rfl, rfl⟩ := e'
        rw [hx] at f0 f1
        exact ⟨f0, f1⟩
      obtain ⟨f, hf⟩ : ∃ f, foundL x.1 a = f := ⟨_, rfl⟩
      have HF : Hid (foundL x.1 a = f) := hf
      rw [hf] at HG
      clear hab hgv hal hx hxs htk hkk hy hys hdr hf d1
      go_wp2_with fail
      refine HG.out.mono ?_
      rintro e w5 ⟨hb5, rfl⟩
      have HB5 : Hid (Below wr.heap.size wr w5) := hb5
      have HBW5 : Hid (Below w.heap.size w w5) := below_two HB.out hb5
      clear hb5 d0
      cases f with
      | true =>
        obtain ⟨f0, f1⟩ := HRY.out w5 HBW5.out
        go_wp2_with fail
        go_region_law (go_simp; go_at_call 18; refine (HPB.out _ (by first | exact HBW5.out | exact HBW5.out.drew | exact below_drewN HBW5.out _) (HOF.out _ (by first | exact HB5.out | exact HB5.out.drew | exact below_drewN HB5.out _) HF.out)).mono ?_; rintro e w7 ⟨⟨u, v, rfl⟩, hb7, hol7⟩)
        all_goals
          go_wp2
          exact ⟨⟨k + 1, hlt, by go_num, hol7, hb7⟩, by simp only [intOf]; omega⟩
      | false =>
        obtain ⟨d0, d1⟩ := HDX.out w5 HBW5.out
        go_wp2_with fail
        go_region_law (go_simp; go_at_call 18; refine (HPA.out _ (by first | exact HB5.out | exact HB5.out.drew | exact below_drewN HB5.out _) HF.out).mono ?_; rintro e w6 ⟨⟨u, v, rfl⟩, hb6, hol6⟩)
        all_goals
          have HBW6 : Hid (Below w.heap.size w w6) := hb6
          have HO6 : Hid (OLs w6 w2.heap.size w3.heap.size ta tb ma mb (l.take (k + 1)) (l.drop (l.length - k))) := hol6
          clear hb6 hol6 d0 d1
          obtain ⟨f0, f1⟩ := HRY.out w6 HBW6.out
          go_wp2_with fail
          go_region_law (go_simp; go_at_call 18; refine (HPB.out _ (by first | exact HBW6.out | exact HBW6.out.drew | exact below_drewN HBW6.out _) (HO6.out.later (by first | exact Below.refl _ _ | exact (Below.refl _ _).drew | exact below_drewN (Below.refl _ _) _))).mono ?_; rintro e w7 ⟨⟨u', v', rfl⟩, hb7, hol7⟩)
          all_goals
            go_wp2
            exact ⟨⟨k + 1, hlt, by go_num, hol7, hb7⟩, by simp only [intOf]; omega⟩
    · have hlti : ¬ (k : Int) < (l.length : Int) := by omega
      obtain rfl : k = l.length := by omega
      have ho := HO.out
      rw [List.take_length, Nat.sub_self, List.drop_zero] at ho
      obtain ⟨Za, Zb, a, b, hab⟩ := ho
      obtain rfl : a = b := hab.sa.same hab.sb
      have HAB : Hid (OL wr w2.heap.size w3.heap.size ta tb ma mb l l Za Zb a a) := hab
      have han : a.length ≤ l.length := hab.na
      have HSA : Hid (∀ y ∈ a, y.key.size ≤ 281474976710656 ∧ y.val.size ≤ 281474976710656) := fun y hy => by
        have := hab.sa.small HS.out y hy
        omega
      have HLA : Hid (listL ⟨#[]⟩ ⟨#[]⟩ ((l.length : Int) + 1) a = a) := list_all (by omega)
      have HL1 := list_z wr _ Za ta ma ⟨#[]⟩ ⟨#[]⟩ ((l.length : Int) + 1) a hab.ta (by omega) (by omega) (by omega) HSA.out
      rw [HLA.out] at HL1
      obtain ⟨ps, hps⟩ : ∃ ps, a.map pr = ps := ⟨_, rfl⟩
      have HPS : Hid (a.map pr = ps) := hps
      have hapl : ps.length ≤ 536870911 := by rw [← hps, List.length_map]; omega
      have HRS : Hid (risB ps = true) := by rw [← hps]; exact hab.sa.ris
      have HBK : Hid (ps.map itOf = a) := by rw [← hps]; exact hab.sa.back
      have HPZ : Hid (∀ x ∈ ps, x.1.size ≤ 281474976710656 ∧ x.2.size ≤ 281474976710656) := fun x hx => by rw [← hps] at hx; obtain ⟨y, hy, rfl⟩ := List.mem_map.1 hx; exact HSA.out y hy
      have HAL : Hid (ps.length = a.length) := by rw [← hps]; exact List.length_map _
      clear hps
      have HL1' : Hid (Calls Try.prog 23 #[.pointer (some ⟨ta, 0, none⟩), .string ⟨#[]⟩, .string ⟨#[]⟩, .int .i64 ((l.length : Int) + 1)] wr fun e w' => Below wr.heap.size wr w' ∧ ∃ v, e = .returned v ∧ w'.ownsRow wr.heap.size 27 2 v a.length (pc a)) := HL1
      clear hab HL1 HO
      go_wp2_with fail
      refine HL1'.out.mono ?_
      rintro e w5 ⟨hb5, v5, rfl, hrow5⟩
      have HB5 : Hid (Below w.heap.size w w5) := below_two HB.out hb5
      have HAB5 : Hid (OL w5 w2.heap.size w3.heap.size ta tb ma mb l l Za Zb a a) := HAB.out.later hb5
      obtain ⟨p5, c5, hv5, hc5, hp5⟩ := prow_row hrow5
      rw [HPS.out] at hv5 hp5
      subst hv5
      have HP5 : Hid (PRow w5 p5 ps) := hp5
      have HL2 := list_z w5 _ Zb tb mb ⟨#[]⟩ ⟨#[]⟩ ((l.length : Int) + 1) a HAB5.out.tb (by omega) (by omega) (by omega) HSA.out
      rw [HLA.out] at HL2
      have HL2' : Hid (Calls Try.prog 23 #[.pointer (some ⟨tb, 0, none⟩), .string ⟨#[]⟩, .string ⟨#[]⟩, .int .i64 ((l.length : Int) + 1)] w5 fun e w' => Below w5.heap.size w5 w' ∧ ∃ v, e = .returned v ∧ w'.ownsRow w5.heap.size 27 2 v a.length (pc a)) := HL2
      clear hb5 hrow5 hp5 HL2
      go_wp2_with fail
      refine HL2'.out.mono ?_
      rintro e w6 ⟨hb6, v6, rfl, hrow6⟩
      obtain ⟨p6, c6, hv6, hc6, hp6⟩ := prow_row hrow6
      rw [HPS.out] at hv6 hp6
      subst hv6
      have HB6 : Hid (Below w.heap.size w w6) := below_two HB5.out hb6
      have HAB6 : Hid (OL w6 w2.heap.size w3.heap.size ta tb ma mb l l Za Zb a a) := HAB5.out.later hb6
      have HP6 : Hid (PRow w6 p5 ps ∧ PRow w6 p6 ps) := ⟨HP5.out.later hb6, hp6⟩
      have HN := new_z w6 mb p5 c5 ps (by omega) (by omega) HP6.out.1 (by omega) HPZ.out HRS.out
      rw [HBK.out] at HN
      clear hb6 hrow6 hp6
      go_wp2_with fail
      refine HN.mono ?_
      rintro e w7 ⟨hb7, tc, rfl, htc, htz⟩
      have HB7 : Hid (Below w.heap.size w w7) := below_two HB6.out hb7
      have HAB7 : Hid (OL w7 w2.heap.size w3.heap.size ta tb ma mb l l Za Zb a a) := HAB6.out.later hb7
      have HP7 : Hid (PRow w7 p5 ps ∧ PRow w7 p6 ps) := ⟨HP6.out.1.later hb7, HP6.out.2.later hb7⟩
      have HL3 := list_z w7 _ _ tc mb ⟨#[]⟩ ⟨#[]⟩ ((l.length : Int) + 1) a htz (by omega) (by omega) (by omega) HSA.out
      rw [HLA.out] at HL3
      clear hb7 htc htz HN
      go_wp2_with fail
      refine HL3.mono ?_
      rintro e w8 ⟨hb8, v8, rfl, hrow8⟩
      obtain ⟨p8, c8, hv8, hc8, hp8⟩ := prow_row hrow8
      rw [HPS.out] at hv8 hp8
      subst hv8
      have HB8 : Hid (Below w.heap.size w w8) := below_two HB7.out hb8
      have HTA8 : Hid (TreeZ w8 w2.heap.size Za ta ma a) := (HAB7.out.later hb8).ta
      have HP8 : Hid (PRow w8 p5 ps ∧ PRow w8 p6 ps ∧ PRow w8 p8 ps) := ⟨HP7.out.1.later hb8, HP7.out.2.later hb8, hp8⟩
      clear hb8 hrow8 hp8 HL3
      go_wp2_with fail
      have HLN := len_z w8 _ Za ta ma a HTA8.out
      rw [← HAL.out] at HLN
      refine HLN.mono ?_
      rintro e w9 ⟨rfl, hw9⟩
      subst hw9
      clear HLN
      have HSY : Hid (sameB ps ps = true) := (sameB_iff ps ps).2 rfl
      clear HLA HL1' HL2' HAB5 HAB6 HAB7 HAB HAL HSA HPS HBK HPZ
      go_wp2_with fail
      have HX := same7_any w9 p5 p6 c5 c6 ps ps (by omega) (by omega) HP8.out.1 HP8.out.2.1
      rw [HSY.out] at HX
      refine HX.mono ?_
      rintro e wa ⟨rfl, hba⟩
      have HBa : Hid (Below w.heap.size w wa) := below_two HB8.out hba
      have HPa : Hid (PRow wa p5 ps ∧ PRow wa p8 ps) := ⟨HP8.out.1.later hba, HP8.out.2.2.later hba⟩
      clear hba HX
      go_wp2_with fail
      have HY := same7_any wa p5 p8 c5 c8 ps ps (by omega) (by omega) HPa.out.1 HPa.out.2
      rw [HSY.out] at HY
      refine HY.mono ?_
      rintro e wb ⟨rfl, hbb⟩
      have HBb : Hid (Below w.heap.size w wb) := below_two HBa.out hbb
      have HPb : Hid (PRow wb p5 ps) := HPa.out.1.later hbb
      clear hbb HY
      go_wp2_with fail
      go_loopw [25] (fun i wc => ∃ j : Nat, i = .int .i64 ((j : Int) + 1) ∧ (j + 1 ≤ ps.length ∨ j = 0) ∧ Below w.heap.size w wc ∧ PRow wc p5 ps) (fun i _ => ps.length + 1 - (intOf i).toNat)
      case atStart => exact ⟨0, rfl, Or.inr rfl, HBb.out, HPb.out⟩
      case round =>
        clear HBb HPb HPa HBa
        obtain ⟨j, rfl, hj, hbc, hpc⟩ := hrel
        have HBc : Hid (Below w.heap.size w wr) := hbc
        have HPc : Hid (PRow wr p5 ps) := hpc
        clear hbc hpc
        by_cases hlt2 : j + 1 < ps.length
        · have hlti2 : (j : Int) + 1 < (ps.length : Int) := by omega
          have hlt02 : (j : Int) < (ps.length : Int) := by omega
          obtain ⟨b2, off2, rfl, h1, _⟩ := HPc.out (j + 1) hlt2
          obtain ⟨b', off', e', h0, _⟩ := HPc.out j (by omega)
          simp only [Option.some.injEq, Addr.mk.injEq, and_true] at e'
          obtain ⟨rfl, rfl⟩ := e'
          have hkl := (risB_iff ps).1 HRS.out j hlt2
          obtain ⟨x, hx⟩ : ∃ x, (ps[j]).1 = x := ⟨_, rfl⟩
          obtain ⟨y, hy⟩ : ∃ y, (ps[j + 1]).1 = y := ⟨_, rfl⟩
          rw [hx] at h0 hkl
          rw [hy] at h1 hkl
          have hge : (Op.bytesLess x.toList y.toList) = true := hkl
          clear hx hy hkl
          go_wp2
          go_quiet (fail)
          go_wp2
          refine ⟨⟨j + 1, by go_num, Or.inl (by omega), below_drewN HBc.out _, HPc.out.later (below_drewN (Below.refl _ _) _)⟩, by simp only [intOf]; omega⟩
        · have hlti2 : ¬ (j : Int) + 1 < (ps.length : Int) := by omega
          go_wp2
          go_ret
          exact ⟨rfl, HBc.out⟩
end Go.Proofs.Ytlpannicklkghaa
