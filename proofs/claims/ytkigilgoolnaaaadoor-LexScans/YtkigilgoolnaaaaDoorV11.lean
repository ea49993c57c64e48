/- Walks of layer 1: what a literal may say, by the document: texts. -/
import Derived.Test.YtkigilgoolnaaaaDoorV10
namespace Go.Proofs.YtkigilgoolnaaaaDoor
open Go.RowKit

theorem body_at {s : ByteArray} {j : Nat} (h1 : 1 ≤ j) (h2 : j + 1 < s.size) : (s.extract 1 (s.size - 1)).data.toList.drop (j - 1) = s[j] :: (s.extract 1 (s.size - 1)).data.toList.drop j := by
  have hs : (s.extract 1 (s.size - 1)).size = s.size - 1 - 1 := by simp
  have hj : j - 1 < (s.extract 1 (s.size - 1)).size := by omega
  rw [drop_one hj]
  have e1 : (s.extract 1 (s.size - 1))[j - 1] = s[j] := by
    rw [ByteArray.getElem_extract]
    congr 1
    omega
  have e2 : j - 1 + 1 = j := by omega
  rw [e1, e2]
theorem body_len {s : ByteArray} : (s.extract 1 (s.size - 1)).data.toList.length = s.size - 2 := by
  have hs : (s.extract 1 (s.size - 1)).size = s.size - 1 - 1 := by simp
  have : (s.extract 1 (s.size - 1)).data.toList.length = (s.extract 1 (s.size - 1)).size := by simp
  omega
theorem cellbd (w : World) (x : Int) (c : UInt8) (t : TypeId) (h : x = (c.toNat : Int)) : ∀ j u, (bv [c])[j]? = some u → ((w.alloc (.cells #[.int .u8 x] t)).drew).cell? ((⟨w.heap.size, 0, none⟩ : Addr).add j) = some u := by
  subst h
  intro j u hj
  match j, hj with
  | 0, hj => simp [bv] at hj; subst hj; simp [Addr.add]

set_option maxHeartbeats 1500000 in
set_option maxRecDepth 100000 in
theorem said_text (s : ByteArray) (w : World) (hs : s.size ≤ 2147483648) (n1 : (s.toList == [78, 85, 76, 76]) = false) (n2 : (s.toList == [84, 82, 85, 69]) = false) (n3 : (s.toList == [70, 65, 76, 83, 69]) = false) (n4 : (s.toList == []) = false)
    (h0 : 0 < s.size) (c0 : s[0].toNat = 39) : Calls Tryd.prog 48 #[.string s] w (SaidP s w) := by
  obtain ⟨i0, hi, hz0, hz1, hz2⟩ := info_parts Tryd.info5
  have HL : Hid (∀ u, LitOf s.data.toList u → u.1 = 3 ∧ u.2.1 = 0 ∧ qbs u.2.2.data.toList = (s.extract 1 (s.size - 1)).data.toList) := fun u hu => by
    have k := lit_first hu.1 hu.2 (by omega) c0
    exact ⟨k, (rt_text hu.1 k).1, (lit_body k hu.2).2.1.symm⟩
  have c0' : ((s[0].toNat : Int) != 39) = false := by rw [c0]; rfl
  have h0i : (0 : Int) < (s.size : Int) := by omega
  have HBL : Hid ((s.extract 1 (s.size - 1)).data.toList.length = s.size - 2) := body_len
  have HBA : Hid (∀ j (h1 : 1 ≤ j) (h2 : j + 1 < s.size), (s.extract 1 (s.size - 1)).data.toList.drop (j - 1) = s[j] :: (s.extract 1 (s.size - 1)).data.toList.drop j) := fun j h1 h2 => body_at h1 h2
  obtain ⟨B, hB⟩ : ∃ B, (s.extract 1 (s.size - 1)).data.toList = B := ⟨_, rfl⟩
  rw [hB] at HL HBL HBA
  clear hB c0
  go_enter Tryd.func48, Tryd.ntmps48
  go_wp2
  go_loopw [5, 6] (fun v i wr => ∃ (j : Nat) (xs : List UInt8), 1 ≤ j ∧ j ≤ s.size + 1 ∧ i = .int .i64 j ∧ xs.length ≤ j ∧ UQ B xs (j - 1) ∧ wr.ownsRow (w.heap.size + 1) 5 1 v xs.length (bv xs) ∧ Below (w.heap.size + 1) (w.alloc (.cells #[.int .i64 0, .int .i64 0, .string ⟨#[]⟩] 37)) wr) (fun _ i _ => s.size + 1 - (intOf i).toNat)
  case atStart => exact ⟨1, [], Nat.le_refl _, by omega, rfl, by simp, uq_start _, World.ownsRow_nil _ _ _ _, Below.refl _ _⟩
  case round =>
    obtain ⟨j, xs, hj1, hj2, rfl, hxl, huq, hown, hb⟩ := hrel
    have HU : Hid (UQ B xs (j - 1)) := huq
    clear huq
    have hsz := hb.size
    simp at hsz
    have hlt := hown.lt
    have HB0 := hb
    by_cases hlt2 : j + 1 < s.size
    · have HDR : Hid (B.drop (j - 1) = s[j] :: B.drop j) := HBA.out j hj1 hlt2
      have hBL := HBL.out
      have k0 : (j : Int) < (s.size : Int) - 1 := by omega
      have k1 : (j : Int) < (s.size : Int) := by omega
      have hjs : j < s.size := by omega
      by_cases c39 : s[j].toNat = 39
      · have e39 : s[j] = 39 := UInt8.toNat_inj.1 c39
        have HU2 : Hid (UQ B (xs ++ [39]) (j - 1 + 2)) := uq_step HU.out (by omega) (fun d t e => by
          rw [HDR.out, e39] at e
          obtain ⟨a, b, _⟩ := qb_head39 e
          exact ⟨a, b.symm⟩)
        clear e39 hBL
        go_wp2_with (first | (at_builtin; refine wpList_append_own _ rfl _ _ 60 rfl (w.heap.size + 1) 5 i0 (.int .u8 0) 1 1 Tryd.underlying60 hi hz0 hz1 hz2 rfl (by decide) _ _ _ rfl (hown.alloc _) ⟨wr.heap.size, 0, none⟩ 1 1 (bv [39]) rfl rfl ?c1 ?c2 ?c3 ?c4 ?c5 ?_))
        case c1 => exact cellb wr _ _ _ (by first | rfl | (rw [c39]; rfl))
        case c2 => exact bv_one _
        case c3 => unfold maxLen; omega
        case c4 => omega
        case c5 => first | omega | (simp; omega)
        · intro v1 w1 hown1 hgrow1 _
          rw [← bv_append] at hown1
          have hb1 : Below (w.heap.size + 1) (w.alloc (.cells #[.int .i64 0, .int .i64 0, .string ⟨#[]⟩] 37)) w1 := (hb.alloc (by omega) _).grown hgrow1 (by simp; omega) fun k hk => (hlt k hk).1
          clear hgrow1 hown HB0 hb
          go_wp2
          go_roundw
          case rel => exact ⟨j + 2, xs ++ [39], by omega, by omega, by go_num, by simp; omega, by have := HU2.out; rw [show j + 2 - 1 = j - 1 + 2 by omega]; exact this, by simpa using hown1, hb1⟩
          case measure => simp [intOf]; omega
      · have c39' : ((s[j].toNat : Int) == 39) = false := by rw [beq_eq_false_iff_ne]; omega
        by_cases c92 : s[j].toNat = 92 ∧ j + 2 < s.size
        · obtain ⟨c92, h2s⟩ := c92
          have e92 : s[j] = 92 := UInt8.toNat_inj.1 c92
          have m1 : (j : Int) + 1 < (s.size : Int) := by omega
          have m2 : (j : Int) + 2 < (s.size : Int) := by omega
          have m3 : ((j : Int) + 1).toNat = j + 1 := by omega
          have m4 : ((j : Int) + 2).toNat = j + 2 := by omega
          have m5 : (0 : Int) ≤ (j : Int) + 1 := by omega
          have m6 : (0 : Int) ≤ (j : Int) + 2 := by omega
          have m7 : j + 1 < s.size := by omega
          have m8 : IntKind.i64.wrap ((j : Int) + 1) = (j : Int) + 1 := by rw [IntKind.wrap_i64] <;> omega
          have m9 : IntKind.i64.wrap ((j : Int) + 2) = (j : Int) + 2 := by rw [IntKind.wrap_i64] <;> omega
          have r1 : ∀ h3 : j + 2 + 1 ≤ s.size - 1, B.drop j = s[j + 1] :: B.drop (j + 1) := fun h3 => by
            have r1 := HBA.out (j + 1) (by omega) (by omega)
            rw [show j + 1 - 1 = j by omega] at r1
            exact r1
          have r2 : ∀ h3 : j + 2 + 1 ≤ s.size - 1, B.drop (j + 1) = s[j + 2] :: B.drop (j + 2) := fun h3 => by
            have r2 := HBA.out (j + 2) (by omega) (by omega)
            rw [show j + 2 - 1 = j + 1 by omega] at r2
            exact r2
          obtain ⟨x, hx⟩ : ∃ x, s[j + 1] = x := ⟨_, rfl⟩
          obtain ⟨y, hy⟩ : ∃ y, s[j + 2] = y := ⟨_, rfl⟩
          rw [hx] at r1
          rw [hy] at r2
          obtain ⟨P, hP⟩ : ∃ P, plc x = P := ⟨_, rfl⟩
          obtain ⟨Q, hQ⟩ : ∃ Q, plc y = Q := ⟨_, rfl⟩
          have hP16 : P < 16 := by rw [← hP]; exact plc_lt _
          have hQ16 : Q < 16 := by rw [← hQ]; exact plc_lt _
          obtain ⟨b, hb8⟩ : ∃ b : UInt8, b.toNat = 16 * P + Q := ⟨UInt8.ofNat (16 * P + Q), by rw [UInt8.toNat_ofNat']; omega⟩
          have ew1 : IntKind.i64.wrap (16 * (P : Int)) = 16 * (P : Int) := by rw [IntKind.wrap_i64] <;> omega
          have ew2 : IntKind.i64.wrap (16 * (P : Int) + (Q : Int)) = 16 * (P : Int) + (Q : Int) := by rw [IntKind.wrap_i64] <;> omega
          have HEB : Hid (IntKind.u8.wrap (16 * (P : Int) + (Q : Int)) = (b.toNat : Int)) := by
            have : IntKind.u8.wrap (16 * (P : Int) + (Q : Int)) = (b.toNat : Int) := by rw [IntKind.wrap_u8]; omega
            exact this
          have HU2 : Hid (UQ B (xs ++ [b]) (j - 1 + 3)) := uq_step HU.out (by omega) (fun d t e => by
            rw [HDR.out, e92] at e
            obtain ⟨p, q⟩ := qb_head92 e
            refine ⟨?_, p.symm⟩
            have hd := UInt8.toNat_lt d
            by_cases h3 : j + 2 + 1 ≤ s.size - 1
            · rw [r1 h3, r2 h3] at q
              obtain ⟨t', q⟩ := q
              simp only [List.cons_append, List.nil_append, List.cons.injEq] at q
              have p1 := plc_at (j := d.toNat / 16) (by omega) q.1
              have p2 := plc_at (j := d.toNat % 16) (by omega) q.2.1
              rw [hP] at p1
              rw [hQ] at p2
              exact UInt8.toNat_inj.1 (by omega)
            · exfalso
              obtain ⟨t', q⟩ := q
              have := congrArg List.length q
              rw [List.length_append, List.length_drop] at this
              simp at this
              omega)
          clear e92 hBL r1 r2 hb8
          go_wp2
          go_region_law (first
            | (refine step_append_lies _ rfl _ _ 60 rfl (w.heap.size + 1) 5 i0 (.int .u8 0) 1 1 Tryd.underlying60 hi hz0 hz1 hz2 rfl (by decide) _ xs.length (bv xs) rfl (ownsRow_drew (hown.alloc _)) ⟨wr.heap.size, 0, none⟩ 1 1 (bv [b]) rfl rfl (cellbd wr (IntKind.u8.wrap (16 * (P : Int) + (Q : Int))) b _ HEB.out) (bv_one _) (by decide) (by unfold maxLen; omega) (by omega) (by first | omega | (simp; done) | (simp; omega)) (wr.heap.size + 1) (by first | (simp; done) | (simp; omega)) ?_; intro g' cap' w1 hown1 hgrow1 _ _)
            | (go_simp; go_at_call 57; refine (place_any _ _).mono ?_; rintro e w' ⟨rfl, rfl⟩; dsimp only))
          all_goals
            rw [← bv_append] at hown1
            have hb1 : Below (w.heap.size + 1) (w.alloc (.cells #[.int .i64 0, .int .i64 0, .string ⟨#[]⟩] 37)) w1 := ((hb.alloc (by omega) _).drew).grown hgrow1 (by simp; omega) fun k hk => (hlt k hk).1
            clear hgrow1 hown HB0 hb
            go_wp2
            go_roundw
            case rel => exact ⟨j + 3, xs ++ [b], by omega, by omega, by go_num, by simp; omega, by have := HU2.out; rw [show j + 3 - 1 = j - 1 + 3 by omega]; exact this, by simpa using hown1, hb1⟩
            case measure => simp [intOf]; omega
        · have hcase : ((s[j].toNat : Int) == 92) = false ∨ (((s[j].toNat : Int) == 92) = true ∧ ¬ (j : Int) + 2 < (s.size : Int)) := by
            by_cases q : s[j].toNat = 92
            · exact Or.inr ⟨by rw [q]; rfl, by omega⟩
            · exact Or.inl (by rw [beq_eq_false_iff_ne]; omega)
          have HU2 : Hid (UQ B (xs ++ [s[j]]) (j - 1 + 1)) := uq_step HU.out (by omega) (fun d t e => by
            rw [HDR.out] at e
            by_cases q : s[j].toNat = 92
            · exfalso
              have e92 : s[j] = 92 := UInt8.toNat_inj.1 q
              rw [e92] at e
              obtain ⟨_, ⟨t', q'⟩⟩ := qb_head92 e
              have := congrArg List.length q'
              rw [List.length_append, List.length_drop] at this
              simp at this
              omega
            · exact qb_headp (fun h => c39 (by rw [h]; rfl)) (fun h => q (by rw [h]; rfl)) e)
          clear c39 c92 hBL
          rcases hcase with k2 | ⟨k2, k3⟩
          all_goals
            go_wp2_with (first | (at_builtin; refine wpList_append_own _ rfl _ _ 60 rfl (w.heap.size + 1) 5 i0 (.int .u8 0) 1 1 Tryd.underlying60 hi hz0 hz1 hz2 rfl (by decide) _ _ _ rfl (hown.alloc _) ⟨wr.heap.size, 0, none⟩ 1 1 (bv [s[j]]) rfl rfl ?c1 ?c2 ?c3 ?c4 ?c5 ?_))
            case c1 =>
              first
                | exact cellb wr _ _ _ rfl
                | (intro j u hj
                   match j, hj with
                   | 0, hj => simp [bv] at hj; subst hj; simp)
            case c2 => exact bv_one _
            case c3 => unfold maxLen; omega
            case c4 => omega
            case c5 => first | omega | (simp; omega)
            · intro v1 w1 hown1 hgrow1 _
              rw [← bv_append] at hown1
              have hb1 : Below (w.heap.size + 1) (w.alloc (.cells #[.int .i64 0, .int .i64 0, .string ⟨#[]⟩] 37)) w1 := (hb.alloc (by omega) _).grown hgrow1 (by simp; omega) fun k hk => (hlt k hk).1
              clear hgrow1 hown HB0 hb
              go_wp2
              go_roundw
              case rel => exact ⟨j + 1, xs ++ [s[j]], by omega, by omega, by go_num, by simp; omega, by have := HU2.out; rw [show j + 1 - 1 = j - 1 + 1 by omega]; exact this, by simpa using hown1, hb1⟩
              case measure => simp [intOf]; omega
    · have HE : Hid (∀ l, qbs l = B → xs = l) := fun l hl => (uq_end HU.out (by have := HBL.out; omega) hl).symm
      obtain ⟨ar, cp, rfl, hcv⟩ := own_text hown
      have k0 : ¬ (j : Int) < (s.size : Int) - 1 := by omega
      have hc : ∀ b o, b < w.heap.size + 1 → wr.cell? ⟨b, o, none⟩ = (w.alloc (.cells #[.int .i64 0, .int .i64 0, .string ⟨#[]⟩] 37)).cell? ⟨b, o, none⟩ := fun b o h => hb.cell (p := ⟨b, o, none⟩) h
      have hf : ∀ b o, b < w.heap.size + 1 → wr.frozen? ⟨b, o, none⟩ = (w.alloc (.cells #[.int .i64 0, .int .i64 0, .string ⟨#[]⟩] 37)).frozen? ⟨b, o, none⟩ := fun b o h => hb.frozen (p := ⟨b, o, none⟩) h
      have g0 : w.heap.size < wr.heap.size := by omega
      have g1 : w.heap.size < w.heap.size + 1 := by omega
      have hbw : Below w.heap.size w wr := ((Below.refl w.heap.size w).alloc (Nat.le_refl _) _).trans (hb.mono (by omega))
      clear hown hlt hb HB0
      go_wp2
      exact bodyPost_ret (v := .agg #[.int .i64 3, .int .i64 0, .string ⟨xs.toArray⟩]) (by simp [results, Tryd.results48, go_sem, *]) rfl ⟨(3, 0, ⟨xs.toArray⟩), rfl, fun u hu => by
        obtain ⟨a, b, c⟩ := HL.out u hu
        exact v3_eq a.symm b.symm (by rw [HE.out _ c]), by (repeat (first | exact Below.refl _ _ | assumption | refine Below.drew ?_ | refine below_drewN ?_ _ | refine Below.alloc ?_ (by first | omega | (simp; done) | (simp; omega)) _ | refine Below.setCell ?_ (by first | omega | (simp; done) | (simp; omega)) _ | refine Below.trans ?_ (Below.mono (by assumption) (by first | omega | (simp; done) | (simp; omega)))))⟩
end Go.Proofs.YtkigilgoolnaaaaDoor
