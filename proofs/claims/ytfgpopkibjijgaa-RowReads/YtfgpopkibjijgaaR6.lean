/- Walks of layer 3, sixth part: the document's own bytes of a row. -/
import Derived.Test.YtfgpopkibjijgaaR6a
namespace Go.Proofs.Ytfgpopkibjijgaa
open Go.RowKit

set_option maxHeartbeats 8000000 in
set_option maxRecDepth 100000 in
theorem renc_any (a : Option Addr) (cap : Nat) (vs : List V3) (w : World) (hlen : vs.length ≤ 2147483648) (hrow : Row w a vs) :
    Calls Try.prog 9 #[.slice a vs.length cap] w fun e w' => e = .returned (wrV vs) ∧ Below w.heap.size w w' := by
  obtain ⟨i0, hi, hz0, hz1, hz2⟩ := info_parts Try.info5
  have HR : Hid (Row w a vs) := hrow
  clear hrow
  by_cases h8 : 16 < vs.length
  · have HE : Hid (wrR vs = ([], 2)) := wrR_long h8
    have h8' : (16 : Int) < (vs.length : Int) := by omega
    go_enter Try.func9, Try.ntmps9
    go_wp2
    exact bodyPost_ret (v := .tuple #[.string ⟨#[]⟩, .int .i64 2]) (by simp [results, Try.results9, go_sem]) rfl ⟨by rw [wrV, HE.out], by (repeat (first | exact Below.refl _ _ | assumption | refine Below.drew ?_ | refine below_drewN ?_ _ | refine Below.alloc ?_ (by first | omega | (simp; done) | (simp; omega)) _ | refine Below.setCell ?_ (by first | omega | (simp; done) | (simp; omega)) _ | refine Below.trans ?_ (Below.mono (by assumption) (by first | omega | (simp; done) | (simp; omega)))))⟩
  · have h8' : ¬ (16 : Int) < (vs.length : Int) := by omega
    have h8n : vs.length ≤ 16 := by omega
    have H8 : Hid (¬ 16 < vs.length) := h8
    clear h8
    obtain ⟨N, hN⟩ : ∃ N, (vs.length + 3) / 4 = N := ⟨_, rfl⟩
    have HN : Hid ((vs.length + 3) / 4 = N) := hN
    have hN4 : N ≤ 4 := by omega
    have hNi : ((vs.length : Int) + 3) / 4 = (N : Int) := by omega
    obtain ⟨M, hM⟩ : ∃ M, 1 + N = M := ⟨_, rfl⟩
    have HM : Hid (1 + N = M) := hM
    have hN1 : (1 : Int) + (N : Int) = (M : Int) := by omega
    have hM5 : M ≤ 5 := by omega
    have hM1 : 1 ≤ M := by omega
    have hwl : IntKind.u8.wrap (vs.length : Int) = (vs.length : Int) := by rw [IntKind.wrap_u8]; omega
    have hp1 : (0 : Int) < (M : Int) := by omega
    clear hN hM
    go_enter Try.func9, Try.ntmps9
    go_wp2_with (first | (at_make; refine wpList_make_full _ rfl _ _ 40 rfl w.heap.size 5 i0 _ 1 Try.underlying40 hi hz0 hz1 .i64 .i64 _ _ M rfl rfl ?h1 ?h2 ?h3 ?h4 ?h5 ?_))
    case h1 => omega
    case h2 => omega
    case h3 => first | omega | (rw [hz2]; omega)
    case h4 => unfold maxLen; omega
    (try case h5 => exact Nat.le_refl _)
    intro w2 hown2 hgrow2
    have hb2 : Below w.heap.size w w2 := (Below.refl _ _).grown hgrow2 (Nat.le_refl _) (fun k h => by cases h)
    rw [bv_zero] at hown2
    have hc0 : w2.cell? ⟨w.heap.size, 0, none⟩ = some (.int .u8 0) := by
      have := hown2.cellAt 0 (by omega)
      rw [this]
      simp [bv, List.getElem?_replicate]
      omega
    have hf0 := hown2.frozenAt 0
    have hown3 := own_step hown2 0 (vs.length : Int) (UInt8.ofNat vs.length) (by rw [UInt8.toNat_ofNat']; omega)
    rw [← HM.out, zero_set, HM.out] at hown3
    have hb3 : Below w.heap.size w (w2.setCell ⟨w.heap.size, 0, none⟩ (.int .u8 (vs.length : Int))) := hb2.setCell (p := ⟨w.heap.size, 0, none⟩) (Nat.le_refl _) _
    have HO3 : Hid ((w2.setCell ⟨w.heap.size, 0, none⟩ (.int .u8 (vs.length : Int))).ownsRow w.heap.size 5 1 (.slice (some ⟨w.heap.size, 0, none⟩) M M) M (bv ([UInt8.ofNat vs.length] ++ List.replicate N 0))) := hown3
    clear hgrow2 hown2 hb2 hown3
    go_wp2
    go_loopw [4, 5] (fun v i wr => ∃ k : Nat, k ≤ vs.length ∧ i = .int .i64 k ∧ (∀ j (g : j < vs.length), j < k → V3.right vs[j] = true) ∧ wr.ownsRow w.heap.size 5 1 v (M + (rbs (vs.take k)).length) (bv ([UInt8.ofNat vs.length] ++ pk N (vs.take k) ++ rbs (vs.take k))) ∧ Below w.heap.size w wr) (fun _ i _ => vs.length - (intOf i).toNat)
    case atStart => exact ⟨0, Nat.zero_le _, rfl, fun j _ g => absurd g (Nat.not_lt_zero _), by rw [pk_zero]; simpa [rbs] using HO3.out, hb3⟩
    case round =>
      clear HO3 hb3 hc0 hf0
      obtain ⟨k, hk, rfl, hall, hown, hb⟩ := hrel
      have HA : Hid (∀ j (g : j < vs.length), j < k → V3.right vs[j] = true) := hall
      clear hall
      have hsz := hb.size
      have hbd := rbs_bound (upto_right HA.out)
      have htl : (vs.take k).length ≤ k := List.length_take_le _ _
      obtain ⟨g, gc, rfl, hgB, hgz⟩ := hown.form (by omega)
      by_cases hlt : k < vs.length
      · obtain ⟨b, off, rfl, c0, c1, c2⟩ := HR.out k hlt
        have hbz := cell_lt c0
        have d0 := cell_later hb c0
        have d1 := cell_later hb c1
        have d2 := cell_later hb c2
        clear c0 c1 c2
        cases hrt : V3.right vs[k] with
        | false =>
          have hrg : rgt (vs[k]).1 (vs[k]).2.1 (vs[k]).2.2 = false := hrt
          have HE : Hid (wrR vs = ([], 10)) := wrR_wrong H8.out k hlt hrt
          clear hrt
          go_wp2_with fail
          refine (rright_any _ _ _ _).mono ?_
          rintro e w1 ⟨rfl, hb1⟩
          rw [hrg]
          go_wp2
          exact bodyPost_ret (v := .tuple #[.string ⟨#[]⟩, .int .i64 10]) (by simp [results, Try.results9, go_sem]) rfl ⟨by rw [wrV, HE.out], by (repeat (first | exact Below.refl _ _ | assumption | refine Below.drew ?_ | refine below_drewN ?_ _ | refine Below.alloc ?_ (by first | omega | (simp; done) | (simp; omega)) _ | refine Below.setCell ?_ (by first | omega | (simp; done) | (simp; omega)) _ | refine Below.trans ?_ (Below.mono (by assumption) (by first | omega | (simp; done) | (simp; omega)))))⟩
        | true =>
          have hrg : rgt (vs[k]).1 (vs[k]).2.1 (vs[k]).2.2 = true := hrt
          have HT : Hid (V3.right vs[k] = true) := hrt
          have hall1 := upto_succ HA.out HT.out
          have HA1 : Hid (∀ j (g : j < vs.length), j < k + 1 → V3.right vs[j] = true) := hall1
          have hrt1 := upto_right hall1
          have hkt : (vs.take (k + 1)).take k = vs.take k := by rw [List.take_take, Nat.min_eq_left (by omega)]
          have hXl := kq_take_lt hrt1 k
          rw [hkt] at hXl
          clear hrt hall1 HA
          have hqN : k / 4 < N := by have := HN.out; omega
          have hqM : 1 + k / 4 < M := by have := HM.out; omega
          obtain ⟨q, hq⟩ : ∃ q, k / 4 = q := ⟨_, rfl⟩
          rw [hq] at hqN hqM hXl
          have hqi : (k : Int) / 4 = (q : Int) := by omega
          have hstep := pk_step (n := N) hlt
          obtain ⟨K, hK, hK4⟩ : ∃ K : Nat, (vs[k]).1 = (K : Int) ∧ K < 4 := by
            rcases right_kind HT.out with h | h | h | h
            · exact ⟨0, by omega, by omega⟩
            · exact ⟨1, by omega, by omega⟩
            · exact ⟨2, by omega, by omega⟩
            · exact ⟨3, by omega, by omega⟩
          obtain ⟨X, hX⟩ : ∃ X, kq (vs.take k) q = X := ⟨_, rfl⟩
          rw [kOf_at hlt, hK, hq, hX] at hstep
          rw [hX] at hXl
          have HS : Hid (pk N (vs.take (k + 1)) = (pk N (vs.take k)).set q (UInt8.ofNat (X + q4 (k % 4) * (K : Int).toNat))) := hstep
          have HK : Hid ((vs[k]).1 = (K : Int)) := hK
          have HX : Hid (kq (vs.take k) q = X) := hX
          clear hstep hX hq hK hrt1 hkt
          go_wp2_with fail
          refine (rright_any _ _ _ _).mono ?_
          rintro e w1 ⟨rfl, hb1⟩
          rw [hrg]
          have hz1' := hb1.size
          simp at hz1'
          have e0 : w1.cell? ⟨wr.heap.size, 0, none⟩ = some (.int .i64 (K : Int)) := cell_later hb1 (by simp; exact HK.out)
          have e1 : w1.cell? ⟨wr.heap.size, 1, none⟩ = some (.int .i64 (vs[k]).2.1) := cell_later hb1 (by simp)
          have e2 : w1.cell? ⟨wr.heap.size, 2, none⟩ = some (.string (vs[k]).2.2) := cell_later hb1 (by simp)
          have hown1 := own_later (hown.alloc (.cells #[.int .i64 (vs[k]).1, .int .i64 (vs[k]).2.1, .string (vs[k]).2.2] 25)) hb1
          have hbw1 : Below w.heap.size w w1 := by (repeat (first | exact Below.refl _ _ | assumption | refine Below.drew ?_ | refine below_drewN ?_ _ | refine Below.alloc ?_ (by first | omega | (simp; done) | (simp; omega)) _ | refine Below.setCell ?_ (by first | omega | (simp; done) | (simp; omega)) _ | refine Below.trans ?_ (Below.mono (by assumption) (by first | omega | (simp; done) | (simp; omega)))))
          have hbx : wr.heap.size < w1.heap.size := by omega
          have hcell := hown1.cellAt (1 + q) (by omega)
          have h64 : q4 (k % 4) ≤ 64 := by unfold q4; split <;> (try split) <;> (try split) <;> omega
          have hatp : (bv ([UInt8.ofNat vs.length] ++ pk N (vs.take k) ++ rbs (vs.take k)))[1 + q]? = some (.int .u8 (X : Int)) := by
            have h1 : q < (pk N (vs.take k)).length := by rw [pk_length]; exact hqN
            simp only [bv, List.getElem?_map, at_mid h1, pk_at hqN, Option.map_some, UInt8.toNat_ofNat', HX.out]
            rw [Nat.mod_eq_of_lt (by omega)]
          rw [hatp] at hcell
          have hfr := hown1.frozenAt (1 + q)
          have HO1 : Hid (w1.ownsRow w.heap.size 5 1 (.slice (some ⟨g, 0, none⟩) (M + (rbs (vs.take k)).length) gc) (M + (rbs (vs.take k)).length) (bv ([UInt8.ofNat vs.length] ++ pk N (vs.take k) ++ rbs (vs.take k)))) := hown1
          obtain ⟨L, hL⟩ : ∃ L, M + (rbs (vs.take k)).length = L := ⟨_, rfl⟩
          have HL : Hid (M + (rbs (vs.take k)).length = L) := hL
          rw [hL]
          have hq1 : (1 : Int) + (q : Int) < (L : Int) := by omega
          have hq0 : (0 : Int) ≤ 1 + (q : Int) := by omega
          have hqn : ((1 : Int) + (q : Int)).toNat = 1 + q := by omega
          have hL2 : L ≤ 2000 := by omega
          have hkw : IntKind.u8.wrap (K : Int) = (K : Int) := by rw [IntKind.wrap_u8]; omega
          have hXK : Hid (X + q4 (k % 4) * (K : Int).toNat < 256) := by
            show X + q4 (k % 4) * (K : Int).toNat < 256
            have hr4 : k % 4 = 0 ∨ k % 4 = 1 ∨ k % 4 = 2 ∨ k % 4 = 3 := by omega
            rcases hr4 with hr | hr | hr | hr <;> rw [hr] at hXl ⊢ <;> simp only [q4] at hXl ⊢ <;> simp at hXl ⊢ <;> omega
          clear hown1 hown hb1 hatp hL hbd htl d0 d1 d2 hrg HX h64
          have hr4 : k % 4 = 0 ∨ k % 4 = 1 ∨ k % 4 = 2 ∨ k % 4 = 3 := by omega
          rcases hr4 with hr | hr | hr | hr
          · have hri : (k : Int) % 4 = 0 := by omega
            have hkw2 : IntKind.u8.wrap ((K : Int)) = (K : Int) := by rw [IntKind.wrap_u8]; omega
            have hsum : (X : Int) + (K : Int) = ((UInt8.ofNat (X + q4 (k % 4) * (K : Int).toNat)).toNat : Int) := by
              rw [UInt8.toNat_ofNat', Nat.mod_eq_of_lt hXK.out, hr, show q4 0 = 1 from rfl]
              omega
            have hxk := hXK.out
            rw [hr, show q4 0 = 1 from rfl] at hxk
            have hXKi : (X : Int) + (K : Int) < 256 := by omega
            have hkw3 : IntKind.u8.wrap ((X : Int) + (K : Int)) = (X : Int) + (K : Int) := by rw [IntKind.wrap_u8]; omega
            have HSum : Hid ((X : Int) + (K : Int) = ((UInt8.ofNat (X + q4 (k % 4) * (K : Int).toNat)).toNat : Int)) := hsum
            have hre := re_of (u := ((K : Int), (vs[k]).2)) HSum.out HO1.out HS.out hqN e0 e1 e2 hbw1 hgB hgz hbx
            rw [HL.out] at hre
            clear hsum hxk
            go_wp2
            go_region
            all_goals
              generalize (w1.setCell ⟨g, 1 + q, none⟩ (.int .u8 ((X : Int) + (K : Int)))).drew = w3 at *
              obtain ⟨ho, f0, f1, f2, hbel, hgb, hbz3⟩ := hre
              dsimp only at f0 f1 f2
              have hz3 := hbel.size
              have hlt3 := ho.lt
              have hB3 : w.heap.size ≤ w3.heap.size := by omega
              have hKd : K = 0 ∨ K = 1 ∨ K = 2 ∨ K = 3 := by omega
              clear e0 e1 e2 hcell hfr HO1 hbw1 hbx hXl hXK hXKi hkw2 hkw3 HSum HS hri hr
              rcases hKd with hKK | hKK | hKK | hKK
              · have f0' : w3.cell? ⟨wr.heap.size, 0, none⟩ = some (.int .i64 0) := by rw [f0, hKK]; rfl
                have h0 : (vs[k]).1 = 0 := by rw [HK.out, hKK]; rfl
                have ho4 : Hid (w3.ownsRow w.heap.size 5 1 (.slice (some ⟨g, 0, none⟩) L gc) (M + (rbs (vs.take (k + 1))).length) (bv ([UInt8.ofNat vs.length] ++ pk N (vs.take (k + 1)) ++ rbs (vs.take (k + 1))))) := by
                  have e : rbs (vs.take (k + 1)) = rbs (vs.take k) := by rw [rbs_take hlt, rb_null h0, List.append_nil]
                  rw [e, HL.out]
                  exact ho
                clear f0 ho h0 hKK
                go_wp2
                go_roundw
                case rel => exact ⟨k + 1, by omega, by go_num, HA1.out, ho4.out, hbel⟩
                case measure => simp [intOf]; omega
              · have f0' : w3.cell? ⟨wr.heap.size, 0, none⟩ = some (.int .i64 1) := by rw [f0, hKK]; rfl
                have h0 : (vs[k]).1 = 1 := by rw [HK.out, hKK]; rfl
                obtain ⟨r1, r2, _⟩ := right_num HT.out h0
                have HD : Hid (rb vs[k] = dg (fd (vs[k]).2.1)) := rb_int h0
                clear f0 h0 hKK
                go_wp2_with fail
                refine (number_any w.heap.size L _ _ (vs[k]).2.1 _ ho (by omega) hB3 r1 r2).mono ?_
                rintro e w4 ⟨v4, rfl, hown4, hb4⟩
                have ho4 : Hid (w4.ownsRow w.heap.size 5 1 v4 (M + (rbs (vs.take (k + 1))).length) (bv ([UInt8.ofNat vs.length] ++ pk N (vs.take (k + 1)) ++ rbs (vs.take (k + 1))))) := by
                  have e : rbs (vs.take (k + 1)) = rbs (vs.take k) ++ dg (fd (vs[k]).2.1) := by rw [rbs_take hlt, HD.out]
                  rw [e, List.length_append, ← Nat.add_assoc, HL.out, ← List.append_assoc]
                  exact hown4
                clear hown4 ho
                go_wp2
                go_roundw
                case rel => exact ⟨k + 1, by omega, by go_num, HA1.out, ho4.out, hbel.trans hb4⟩
                case measure => simp [intOf]; omega
              · have f0' : w3.cell? ⟨wr.heap.size, 0, none⟩ = some (.int .i64 2) := by rw [f0, hKK]; rfl
                have h0 : (vs[k]).1 = 2 := by rw [HK.out, hKK]; rfl
                obtain ⟨r1, _⟩ := right_bool HT.out h0
                have HD : Hid (rb vs[k] = [UInt8.ofNat (vs[k]).2.1.toNat]) := rb_bool h0
                have hwb : IntKind.u8.wrap (vs[k]).2.1 = (vs[k]).2.1 := by rw [IntKind.wrap_u8]; omega
                have hto : (vs[k]).2.1 = ((UInt8.ofNat (vs[k]).2.1.toNat).toNat : Int) := by rw [UInt8.toNat_ofNat']; omega
                have HTo : Hid ((vs[k]).2.1 = ((UInt8.ofNat (vs[k]).2.1.toNat).toNat : Int)) := hto
                clear f0 h0 hKK r1 hto
                go_wp2_with (first | (at_builtin; refine wpList_append_own _ rfl _ _ 40 rfl w.heap.size 5 i0 (.int .u8 0) 1 1 Try.underlying40 hi hz0 hz1 hz2 rfl (by decide) _ _ _ rfl (ho.alloc _) ⟨w3.heap.size, 0, none⟩ 1 1 (bv [UInt8.ofNat (vs[k]).2.1.toNat]) rfl rfl ?c1 ?c2 ?c3 ?c4 ?c5 ?_))
                case c1 => exact cells1 w3 _ _ _ HTo.out
                case c2 => exact bv_one _
                case c3 => unfold maxLen; omega
                case c4 => omega
                case c5 => first | omega | (simp; omega)
                intro v4 w4 hown4 hgrow _
                have hbb : Below w.heap.size w w4 := (hbel.alloc (by omega) _).grown hgrow (by simp; omega) fun k hk => (hlt3 k hk).1
                have ho4 : Hid (w4.ownsRow w.heap.size 5 1 v4 (M + (rbs (vs.take (k + 1))).length) (bv ([UInt8.ofNat vs.length] ++ pk N (vs.take (k + 1)) ++ rbs (vs.take (k + 1))))) := by
                  have e : rbs (vs.take (k + 1)) = rbs (vs.take k) ++ [UInt8.ofNat (vs[k]).2.1.toNat] := by rw [rbs_take hlt, HD.out]
                  rw [e, List.length_append, ← Nat.add_assoc, HL.out, ← List.append_assoc, bv_append]
                  exact hown4
                clear hown4 ho hgrow
                go_wp2
                go_roundw
                case rel => exact ⟨k + 1, by omega, by go_num, HA1.out, ho4.out, hbb⟩
                case measure => simp [intOf]; omega
              · have f0' : w3.cell? ⟨wr.heap.size, 0, none⟩ = some (.int .i64 3) := by rw [f0, hKK]; rfl
                have h0 : (vs[k]).1 = 3 := by rw [HK.out, hKK]; rfl
                obtain ⟨_, r1⟩ := right_text HT.out h0
                have HD : Hid (rb vs[k] = UInt8.ofNat (vs[k]).2.2.size :: (vs[k]).2.2.data.toList) := rb_text h0
                obtain ⟨s, hs⟩ : ∃ s, (vs[k]).2.2 = s := ⟨_, rfl⟩
                rw [hs] at f2 r1 HD
                have hwb : IntKind.u8.wrap (s.size : Int) = (s.size : Int) := by rw [IntKind.wrap_u8]; omega
                have HTo : Hid ((s.size : Int) = ((UInt8.ofNat s.size).toNat : Int)) := by
                  show (s.size : Int) = ((UInt8.ofNat s.size).toNat : Int)
                  rw [UInt8.toNat_ofNat']; omega
                clear f0 h0 hKK hs
                go_wp2_with (first | (at_builtin; refine wpList_append_own _ rfl _ _ 40 rfl w.heap.size 5 i0 (.int .u8 0) 1 1 Try.underlying40 hi hz0 hz1 hz2 rfl (by decide) _ _ _ rfl (ho.alloc _) ⟨w3.heap.size, 0, none⟩ 1 1 (bv [UInt8.ofNat s.size]) rfl rfl ?c1 ?c2 ?c3 ?c4 ?c5 ?_))
                case c1 => exact cells1 w3 _ _ _ HTo.out
                case c2 => exact bv_one _
                case c3 => unfold maxLen; omega
                case c4 => omega
                case c5 => first | omega | (simp; omega)
                intro v4 w4 hown4 hgrow _
                have hbb : Below w.heap.size w w4 := (hbel.alloc (by omega) _).grown hgrow (by simp; omega) fun k hk => (hlt3 k hk).1
                have f4 : w4.cell? ⟨wr.heap.size, 2, none⟩ = some (.string s) := by
                  rw [hgrow.cell_far ⟨wr.heap.size, 2, none⟩ (by simp; omega) (by simp [Value.ownBlock]; omega)]
                  exact cell_later ((Below.refl _ _).alloc (Nat.le_refl _) _) f2
                have hz4 := hbb.size
                have hlt4 := hown4.lt
                clear ho hgrow f0' f1 f2
                go_wp2_with (first | (at_builtin; refine Lib.wpList_append_own_string _ rfl _ _ 40 9 rfl w.heap.size 5 i0 Try.underlying40 Try.underlying9 hi hz0 hz1 hz2 _ _ _ rfl hown4 s rfl ?d1 ?d2 ?d3 ?_))
                case d1 => unfold maxLen; omega
                case d2 => omega
                case d3 => omega
                intro v5 w5 hown5 hgrow5 _
                have hb5 : Below w.heap.size w w5 := hbb.grown hgrow5 (by omega) fun k hk => (hlt4 k hk).1
                have ho5 : w5.ownsRow w.heap.size 5 1 v5 (M + (rbs (vs.take (k + 1))).length) (bv ([UInt8.ofNat vs.length] ++ pk N (vs.take (k + 1)) ++ rbs (vs.take (k + 1)))) := by
                  have e : rbs (vs.take (k + 1)) = rbs (vs.take k) ++ ([UInt8.ofNat s.size] ++ s.data.toList) := by rw [rbs_take hlt, HD.out]; rfl
                  have e2 : M + (rbs (vs.take (k + 1))).length = L + 1 + s.size := by
                    rw [e, List.length_append, ← Nat.add_assoc, HL.out, List.length_append, size_toList]; simp; omega
                  rw [e2, e]
                  simpa [bv, strCells_ba] using hown5
                have ho4 : Hid (w5.ownsRow w.heap.size 5 1 v5 (M + (rbs (vs.take (k + 1))).length) (bv ([UInt8.ofNat vs.length] ++ pk N (vs.take (k + 1)) ++ rbs (vs.take (k + 1))))) := ho5
                clear hown5 hown4 hgrow5 ho5
                go_wp2
                go_roundw
                case rel => exact ⟨k + 1, by omega, by go_num, HA1.out, ho4.out, hb5⟩
                case measure => simp [intOf]; omega
          · have hri : (k : Int) % 4 = 1 := by omega
            have hkw2 : IntKind.u8.wrap ((K : Int) * 4) = (K : Int) * 4 := by rw [IntKind.wrap_u8]; omega
            have hsum : (X : Int) + (K : Int) * 4 = ((UInt8.ofNat (X + q4 (k % 4) * (K : Int).toNat)).toNat : Int) := by
              rw [UInt8.toNat_ofNat', Nat.mod_eq_of_lt hXK.out, hr, show q4 1 = 4 from rfl]
              omega
            have hxk := hXK.out
            rw [hr, show q4 1 = 4 from rfl] at hxk
            have hXKi : (X : Int) + (K : Int) * 4 < 256 := by omega
            have hkw3 : IntKind.u8.wrap ((X : Int) + (K : Int) * 4) = (X : Int) + (K : Int) * 4 := by rw [IntKind.wrap_u8]; omega
            have HSum : Hid ((X : Int) + (K : Int) * 4 = ((UInt8.ofNat (X + q4 (k % 4) * (K : Int).toNat)).toNat : Int)) := hsum
            have hre := re_of (u := ((K : Int), (vs[k]).2)) HSum.out HO1.out HS.out hqN e0 e1 e2 hbw1 hgB hgz hbx
            rw [HL.out] at hre
            clear hsum hxk
            go_wp2
            go_region
            all_goals
              generalize (w1.setCell ⟨g, 1 + q, none⟩ (.int .u8 ((X : Int) + (K : Int) * 4))).drew = w3 at *
              obtain ⟨ho, f0, f1, f2, hbel, hgb, hbz3⟩ := hre
              dsimp only at f0 f1 f2
              have hz3 := hbel.size
              have hlt3 := ho.lt
              have hB3 : w.heap.size ≤ w3.heap.size := by omega
              have hKd : K = 0 ∨ K = 1 ∨ K = 2 ∨ K = 3 := by omega
              clear e0 e1 e2 hcell hfr HO1 hbw1 hbx hXl hXK hXKi hkw2 hkw3 HSum HS hri hr
              rcases hKd with hKK | hKK | hKK | hKK
              · have f0' : w3.cell? ⟨wr.heap.size, 0, none⟩ = some (.int .i64 0) := by rw [f0, hKK]; rfl
                have h0 : (vs[k]).1 = 0 := by rw [HK.out, hKK]; rfl
                have ho4 : Hid (w3.ownsRow w.heap.size 5 1 (.slice (some ⟨g, 0, none⟩) L gc) (M + (rbs (vs.take (k + 1))).length) (bv ([UInt8.ofNat vs.length] ++ pk N (vs.take (k + 1)) ++ rbs (vs.take (k + 1))))) := by
                  have e : rbs (vs.take (k + 1)) = rbs (vs.take k) := by rw [rbs_take hlt, rb_null h0, List.append_nil]
                  rw [e, HL.out]
                  exact ho
                clear f0 ho h0 hKK
                go_wp2
                go_roundw
                case rel => exact ⟨k + 1, by omega, by go_num, HA1.out, ho4.out, hbel⟩
                case measure => simp [intOf]; omega
              · have f0' : w3.cell? ⟨wr.heap.size, 0, none⟩ = some (.int .i64 1) := by rw [f0, hKK]; rfl
                have h0 : (vs[k]).1 = 1 := by rw [HK.out, hKK]; rfl
                obtain ⟨r1, r2, _⟩ := right_num HT.out h0
                have HD : Hid (rb vs[k] = dg (fd (vs[k]).2.1)) := rb_int h0
                clear f0 h0 hKK
                go_wp2_with fail
                refine (number_any w.heap.size L _ _ (vs[k]).2.1 _ ho (by omega) hB3 r1 r2).mono ?_
                rintro e w4 ⟨v4, rfl, hown4, hb4⟩
                have ho4 : Hid (w4.ownsRow w.heap.size 5 1 v4 (M + (rbs (vs.take (k + 1))).length) (bv ([UInt8.ofNat vs.length] ++ pk N (vs.take (k + 1)) ++ rbs (vs.take (k + 1))))) := by
                  have e : rbs (vs.take (k + 1)) = rbs (vs.take k) ++ dg (fd (vs[k]).2.1) := by rw [rbs_take hlt, HD.out]
                  rw [e, List.length_append, ← Nat.add_assoc, HL.out, ← List.append_assoc]
                  exact hown4
                clear hown4 ho
                go_wp2
                go_roundw
                case rel => exact ⟨k + 1, by omega, by go_num, HA1.out, ho4.out, hbel.trans hb4⟩
                case measure => simp [intOf]; omega
              · have f0' : w3.cell? ⟨wr.heap.size, 0, none⟩ = some (.int .i64 2) := by rw [f0, hKK]; rfl
                have h0 : (vs[k]).1 = 2 := by rw [HK.out, hKK]; rfl
                obtain ⟨r1, _⟩ := right_bool HT.out h0
                have HD : Hid (rb vs[k] = [UInt8.ofNat (vs[k]).2.1.toNat]) := rb_bool h0
                have hwb : IntKind.u8.wrap (vs[k]).2.1 = (vs[k]).2.1 := by rw [IntKind.wrap_u8]; omega
                have hto : (vs[k]).2.1 = ((UInt8.ofNat (vs[k]).2.1.toNat).toNat : Int) := by rw [UInt8.toNat_ofNat']; omega
                have HTo : Hid ((vs[k]).2.1 = ((UInt8.ofNat (vs[k]).2.1.toNat).toNat : Int)) := hto
                clear f0 h0 hKK r1 hto
                go_wp2_with (first | (at_builtin; refine wpList_append_own _ rfl _ _ 40 rfl w.heap.size 5 i0 (.int .u8 0) 1 1 Try.underlying40 hi hz0 hz1 hz2 rfl (by decide) _ _ _ rfl (ho.alloc _) ⟨w3.heap.size, 0, none⟩ 1 1 (bv [UInt8.ofNat (vs[k]).2.1.toNat]) rfl rfl ?c1 ?c2 ?c3 ?c4 ?c5 ?_))
                case c1 => exact cells1 w3 _ _ _ HTo.out
                case c2 => exact bv_one _
                case c3 => unfold maxLen; omega
                case c4 => omega
                case c5 => first | omega | (simp; omega)
                intro v4 w4 hown4 hgrow _
                have hbb : Below w.heap.size w w4 := (hbel.alloc (by omega) _).grown hgrow (by simp; omega) fun k hk => (hlt3 k hk).1
                have ho4 : Hid (w4.ownsRow w.heap.size 5 1 v4 (M + (rbs (vs.take (k + 1))).length) (bv ([UInt8.ofNat vs.length] ++ pk N (vs.take (k + 1)) ++ rbs (vs.take (k + 1))))) := by
                  have e : rbs (vs.take (k + 1)) = rbs (vs.take k) ++ [UInt8.ofNat (vs[k]).2.1.toNat] := by rw [rbs_take hlt, HD.out]
                  rw [e, List.length_append, ← Nat.add_assoc, HL.out, ← List.append_assoc, bv_append]
                  exact hown4
                clear hown4 ho hgrow
                go_wp2
                go_roundw
                case rel => exact ⟨k + 1, by omega, by go_num, HA1.out, ho4.out, hbb⟩
                case measure => simp [intOf]; omega
              · have f0' : w3.cell? ⟨wr.heap.size, 0, none⟩ = some (.int .i64 3) := by rw [f0, hKK]; rfl
                have h0 : (vs[k]).1 = 3 := by rw [HK.out, hKK]; rfl
                obtain ⟨_, r1⟩ := right_text HT.out h0
                have HD : Hid (rb vs[k] = UInt8.ofNat (vs[k]).2.2.size :: (vs[k]).2.2.data.toList) := rb_text h0
                obtain ⟨s, hs⟩ : ∃ s, (vs[k]).2.2 = s := ⟨_, rfl⟩
                rw [hs] at f2 r1 HD
                have hwb : IntKind.u8.wrap (s.size : Int) = (s.size : Int) := by rw [IntKind.wrap_u8]; omega
                have HTo : Hid ((s.size : Int) = ((UInt8.ofNat s.size).toNat : Int)) := by
                  show (s.size : Int) = ((UInt8.ofNat s.size).toNat : Int)
                  rw [UInt8.toNat_ofNat']; omega
                clear f0 h0 hKK hs
                go_wp2_with (first | (at_builtin; refine wpList_append_own _ rfl _ _ 40 rfl w.heap.size 5 i0 (.int .u8 0) 1 1 Try.underlying40 hi hz0 hz1 hz2 rfl (by decide) _ _ _ rfl (ho.alloc _) ⟨w3.heap.size, 0, none⟩ 1 1 (bv [UInt8.ofNat s.size]) rfl rfl ?c1 ?c2 ?c3 ?c4 ?c5 ?_))
                case c1 => exact cells1 w3 _ _ _ HTo.out
                case c2 => exact bv_one _
                case c3 => unfold maxLen; omega
                case c4 => omega
                case c5 => first | omega | (simp; omega)
                intro v4 w4 hown4 hgrow _
                have hbb : Below w.heap.size w w4 := (hbel.alloc (by omega) _).grown hgrow (by simp; omega) fun k hk => (hlt3 k hk).1
                have f4 : w4.cell? ⟨wr.heap.size, 2, none⟩ = some (.string s) := by
                  rw [hgrow.cell_far ⟨wr.heap.size, 2, none⟩ (by simp; omega) (by simp [Value.ownBlock]; omega)]
                  exact cell_later ((Below.refl _ _).alloc (Nat.le_refl _) _) f2
                have hz4 := hbb.size
                have hlt4 := hown4.lt
                clear ho hgrow f0' f1 f2
                go_wp2_with (first | (at_builtin; refine Lib.wpList_append_own_string _ rfl _ _ 40 9 rfl w.heap.size 5 i0 Try.underlying40 Try.underlying9 hi hz0 hz1 hz2 _ _ _ rfl hown4 s rfl ?d1 ?d2 ?d3 ?_))
                case d1 => unfold maxLen; omega
                case d2 => omega
                case d3 => omega
                intro v5 w5 hown5 hgrow5 _
                have hb5 : Below w.heap.size w w5 := hbb.grown hgrow5 (by omega) fun k hk => (hlt4 k hk).1
                have ho5 : w5.ownsRow w.heap.size 5 1 v5 (M + (rbs (vs.take (k + 1))).length) (bv ([UInt8.ofNat vs.length] ++ pk N (vs.take (k + 1)) ++ rbs (vs.take (k + 1)))) := by
                  have e : rbs (vs.take (k + 1)) = rbs (vs.take k) ++ ([UInt8.ofNat s.size] ++ s.data.toList) := by rw [rbs_take hlt, HD.out]; rfl
                  have e2 : M + (rbs (vs.take (k + 1))).length = L + 1 + s.size := by
                    rw [e, List.length_append, ← Nat.add_assoc, HL.out, List.length_append, size_toList]; simp; omega
                  rw [e2, e]
                  simpa [bv, strCells_ba] using hown5
                have ho4 : Hid (w5.ownsRow w.heap.size 5 1 v5 (M + (rbs (vs.take (k + 1))).length) (bv ([UInt8.ofNat vs.length] ++ pk N (vs.take (k + 1)) ++ rbs (vs.take (k + 1))))) := ho5
                clear hown5 hown4 hgrow5 ho5
                go_wp2
                go_roundw
                case rel => exact ⟨k + 1, by omega, by go_num, HA1.out, ho4.out, hb5⟩
                case measure => simp [intOf]; omega
          · have hri : (k : Int) % 4 = 2 := by omega
            have hkw2 : IntKind.u8.wrap ((K : Int) * 16) = (K : Int) * 16 := by rw [IntKind.wrap_u8]; omega
            have hsum : (X : Int) + (K : Int) * 16 = ((UInt8.ofNat (X + q4 (k % 4) * (K : Int).toNat)).toNat : Int) := by
              rw [UInt8.toNat_ofNat', Nat.mod_eq_of_lt hXK.out, hr, show q4 2 = 16 from rfl]
              omega
            have hxk := hXK.out
            rw [hr, show q4 2 = 16 from rfl] at hxk
            have hXKi : (X : Int) + (K : Int) * 16 < 256 := by omega
            have hkw3 : IntKind.u8.wrap ((X : Int) + (K : Int) * 16) = (X : Int) + (K : Int) * 16 := by rw [IntKind.wrap_u8]; omega
            have HSum : Hid ((X : Int) + (K : Int) * 16 = ((UInt8.ofNat (X + q4 (k % 4) * (K : Int).toNat)).toNat : Int)) := hsum
            have hre := re_of (u := ((K : Int), (vs[k]).2)) HSum.out HO1.out HS.out hqN e0 e1 e2 hbw1 hgB hgz hbx
            rw [HL.out] at hre
            clear hsum hxk
            go_wp2
            go_region
            all_goals
              generalize (w1.setCell ⟨g, 1 + q, none⟩ (.int .u8 ((X : Int) + (K : Int) * 16))).drew = w3 at *
              obtain ⟨ho, f0, f1, f2, hbel, hgb, hbz3⟩ := hre
              dsimp only at f0 f1 f2
              have hz3 := hbel.size
              have hlt3 := ho.lt
              have hB3 : w.heap.size ≤ w3.heap.size := by omega
              have hKd : K = 0 ∨ K = 1 ∨ K = 2 ∨ K = 3 := by omega
              clear e0 e1 e2 hcell hfr HO1 hbw1 hbx hXl hXK hXKi hkw2 hkw3 HSum HS hri hr
              rcases hKd with hKK | hKK | hKK | hKK
              · have f0' : w3.cell? ⟨wr.heap.size, 0, none⟩ = some (.int .i64 0) := by rw [f0, hKK]; rfl
                have h0 : (vs[k]).1 = 0 := by rw [HK.out, hKK]; rfl
                have ho4 : Hid (w3.ownsRow w.heap.size 5 1 (.slice (some ⟨g, 0, none⟩) L gc) (M + (rbs (vs.take (k + 1))).length) (bv ([UInt8.ofNat vs.length] ++ pk N (vs.take (k + 1)) ++ rbs (vs.take (k + 1))))) := by
                  have e : rbs (vs.take (k + 1)) = rbs (vs.take k) := by rw [rbs_take hlt, rb_null h0, List.append_nil]
                  rw [e, HL.out]
                  exact ho
                clear f0 ho h0 hKK
                go_wp2
                go_roundw
                case rel => exact ⟨k + 1, by omega, by go_num, HA1.out, ho4.out, hbel⟩
                case measure => simp [intOf]; omega
              · have f0' : w3.cell? ⟨wr.heap.size, 0, none⟩ = some (.int .i64 1) := by rw [f0, hKK]; rfl
                have h0 : (vs[k]).1 = 1 := by rw [HK.out, hKK]; rfl
                obtain ⟨r1, r2, _⟩ := right_num HT.out h0
                have HD : Hid (rb vs[k] = dg (fd (vs[k]).2.1)) := rb_int h0
                clear f0 h0 hKK
                go_wp2_with fail
                refine (number_any w.heap.size L _ _ (vs[k]).2.1 _ ho (by omega) hB3 r1 r2).mono ?_
                rintro e w4 ⟨v4, rfl, hown4, hb4⟩
                have ho4 : Hid (w4.ownsRow w.heap.size 5 1 v4 (M + (rbs (vs.take (k + 1))).length) (bv ([UInt8.ofNat vs.length] ++ pk N (vs.take (k + 1)) ++ rbs (vs.take (k + 1))))) := by
                  have e : rbs (vs.take (k + 1)) = rbs (vs.take k) ++ dg (fd (vs[k]).2.1) := by rw [rbs_take hlt, HD.out]
                  rw [e, List.length_append, ← Nat.add_assoc, HL.out, ← List.append_assoc]
                  exact hown4
                clear hown4 ho
                go_wp2
                go_roundw
                case rel => exact ⟨k + 1, by omega, by go_num, HA1.out, ho4.out, hbel.trans hb4⟩
                case measure => simp [intOf]; omega
              · have f0' : w3.cell? ⟨wr.heap.size, 0, none⟩ = some (.int .i64 2) := by rw [f0, hKK]; rfl
                have h0 : (vs[k]).1 = 2 := by rw [HK.out, hKK]; rfl
                obtain ⟨r1, _⟩ := right_bool HT.out h0
                have HD : Hid (rb vs[k] = [UInt8.ofNat (vs[k]).2.1.toNat]) := rb_bool h0
                have hwb : IntKind.u8.wrap (vs[k]).2.1 = (vs[k]).2.1 := by rw [IntKind.wrap_u8]; omega
                have hto : (vs[k]).2.1 = ((UInt8.ofNat (vs[k]).2.1.toNat).toNat : Int) := by rw [UInt8.toNat_ofNat']; omega
                have HTo : Hid ((vs[k]).2.1 = ((UInt8.ofNat (vs[k]).2.1.toNat).toNat : Int)) := hto
                clear f0 h0 hKK r1 hto
                go_wp2_with (first | (at_builtin; refine wpList_append_own _ rfl _ _ 40 rfl w.heap.size 5 i0 (.int .u8 0) 1 1 Try.underlying40 hi hz0 hz1 hz2 rfl (by decide) _ _ _ rfl (ho.alloc _) ⟨w3.heap.size, 0, none⟩ 1 1 (bv [UInt8.ofNat (vs[k]).2.1.toNat]) rfl rfl ?c1 ?c2 ?c3 ?c4 ?c5 ?_))
                case c1 => exact cells1 w3 _ _ _ HTo.out
                case c2 => exact bv_one _
                case c3 => unfold maxLen; omega
                case c4 => omega
                case c5 => first | omega | (simp; omega)
                intro v4 w4 hown4 hgrow _
                have hbb : Below w.heap.size w w4 := (hbel.alloc (by omega) _).grown hgrow (by simp; omega) fun k hk => (hlt3 k hk).1
                have ho4 : Hid (w4.ownsRow w.heap.size 5 1 v4 (M + (rbs (vs.take (k + 1))).length) (bv ([UInt8.ofNat vs.length] ++ pk N (vs.take (k + 1)) ++ rbs (vs.take (k + 1))))) := by
                  have e : rbs (vs.take (k + 1)) = rbs (vs.take k) ++ [UInt8.ofNat (vs[k]).2.1.toNat] := by rw [rbs_take hlt, HD.out]
                  rw [e, List.length_append, ← Nat.add_assoc, HL.out, ← List.append_assoc, bv_append]
                  exact hown4
                clear hown4 ho hgrow
                go_wp2
                go_roundw
                case rel => exact ⟨k + 1, by omega, by go_num, HA1.out, ho4.out, hbb⟩
                case measure => simp [intOf]; omega
              · have f0' : w3.cell? ⟨wr.heap.size, 0, none⟩ = some (.int .i64 3) := by rw [f0, hKK]; rfl
                have h0 : (vs[k]).1 = 3 := by rw [HK.out, hKK]; rfl
                obtain ⟨_, r1⟩ := right_text HT.out h0
                have HD : Hid (rb vs[k] = UInt8.ofNat (vs[k]).2.2.size :: (vs[k]).2.2.data.toList) := rb_text h0
                obtain ⟨s, hs⟩ : ∃ s, (vs[k]).2.2 = s := ⟨_, rfl⟩
                rw [hs] at f2 r1 HD
                have hwb : IntKind.u8.wrap (s.size : Int) = (s.size : Int) := by rw [IntKind.wrap_u8]; omega
                have HTo : Hid ((s.size : Int) = ((UInt8.ofNat s.size).toNat : Int)) := by
                  show (s.size : Int) = ((UInt8.ofNat s.size).toNat : Int)
                  rw [UInt8.toNat_ofNat']; omega
                clear f0 h0 hKK hs
                go_wp2_with (first | (at_builtin; refine wpList_append_own _ rfl _ _ 40 rfl w.heap.size 5 i0 (.int .u8 0) 1 1 Try.underlying40 hi hz0 hz1 hz2 rfl (by decide) _ _ _ rfl (ho.alloc _) ⟨w3.heap.size, 0, none⟩ 1 1 (bv [UInt8.ofNat s.size]) rfl rfl ?c1 ?c2 ?c3 ?c4 ?c5 ?_))
                case c1 => exact cells1 w3 _ _ _ HTo.out
                case c2 => exact bv_one _
                case c3 => unfold maxLen; omega
                case c4 => omega
                case c5 => first | omega | (simp; omega)
                intro v4 w4 hown4 hgrow _
                have hbb : Below w.heap.size w w4 := (hbel.alloc (by omega) _).grown hgrow (by simp; omega) fun k hk => (hlt3 k hk).1
                have f4 : w4.cell? ⟨wr.heap.size, 2, none⟩ = some (.string s) := by
                  rw [hgrow.cell_far ⟨wr.heap.size, 2, none⟩ (by simp; omega) (by simp [Value.ownBlock]; omega)]
                  exact cell_later ((Below.refl _ _).alloc (Nat.le_refl _) _) f2
                have hz4 := hbb.size
                have hlt4 := hown4.lt
                clear ho hgrow f0' f1 f2
                go_wp2_with (first | (at_builtin; refine Lib.wpList_append_own_string _ rfl _ _ 40 9 rfl w.heap.size 5 i0 Try.underlying40 Try.underlying9 hi hz0 hz1 hz2 _ _ _ rfl hown4 s rfl ?d1 ?d2 ?d3 ?_))
                case d1 => unfold maxLen; omega
                case d2 => omega
                case d3 => omega
                intro v5 w5 hown5 hgrow5 _
                have hb5 : Below w.heap.size w w5 := hbb.grown hgrow5 (by omega) fun k hk => (hlt4 k hk).1
                have ho5 : w5.ownsRow w.heap.size 5 1 v5 (M + (rbs (vs.take (k + 1))).length) (bv ([UInt8.ofNat vs.length] ++ pk N (vs.take (k + 1)) ++ rbs (vs.take (k + 1)))) := by
                  have e : rbs (vs.take (k + 1)) = rbs (vs.take k) ++ ([UInt8.ofNat s.size] ++ s.data.toList) := by rw [rbs_take hlt, HD.out]; rfl
                  have e2 : M + (rbs (vs.take (k + 1))).length = L + 1 + s.size := by
                    rw [e, List.length_append, ← Nat.add_assoc, HL.out, List.length_append, size_toList]; simp; omega
                  rw [e2, e]
                  simpa [bv, strCells_ba] using hown5
                have ho4 : Hid (w5.ownsRow w.heap.size 5 1 v5 (M + (rbs (vs.take (k + 1))).length) (bv ([UInt8.ofNat vs.length] ++ pk N (vs.take (k + 1)) ++ rbs (vs.take (k + 1))))) := ho5
                clear hown5 hown4 hgrow5 ho5
                go_wp2
                go_roundw
                case rel => exact ⟨k + 1, by omega, by go_num, HA1.out, ho4.out, hb5⟩
                case measure => simp [intOf]; omega
          · have hri : (k : Int) % 4 = 3 := by omega
            have hkw2 : IntKind.u8.wrap ((K : Int) * 64) = (K : Int) * 64 := by rw [IntKind.wrap_u8]; omega
            have hsum : (X : Int) + (K : Int) * 64 = ((UInt8.ofNat (X + q4 (k % 4) * (K : Int).toNat)).toNat : Int) := by
              rw [UInt8.toNat_ofNat', Nat.mod_eq_of_lt hXK.out, hr, show q4 3 = 64 from rfl]
              omega
            have hxk := hXK.out
            rw [hr, show q4 3 = 64 from rfl] at hxk
            have hXKi : (X : Int) + (K : Int) * 64 < 256 := by omega
            have hkw3 : IntKind.u8.wrap ((X : Int) + (K : Int) * 64) = (X : Int) + (K : Int) * 64 := by rw [IntKind.wrap_u8]; omega
            have HSum : Hid ((X : Int) + (K : Int) * 64 = ((UInt8.ofNat (X + q4 (k % 4) * (K : Int).toNat)).toNat : Int)) := hsum
            have hre := re_of (u := ((K : Int), (vs[k]).2)) HSum.out HO1.out HS.out hqN e0 e1 e2 hbw1 hgB hgz hbx
            rw [HL.out] at hre
            clear hsum hxk
            go_wp2
            go_region
            all_goals
              generalize (w1.setCell ⟨g, 1 + q, none⟩ (.int .u8 ((X : Int) + (K : Int) * 64))).drew = w3 at *
              obtain ⟨ho, f0, f1, f2, hbel, hgb, hbz3⟩ := hre
              dsimp only at f0 f1 f2
              have hz3 := hbel.size
              have hlt3 := ho.lt
              have hB3 : w.heap.size ≤ w3.heap.size := by omega
              have hKd : K = 0 ∨ K = 1 ∨ K = 2 ∨ K = 3 := by omega
              clear e0 e1 e2 hcell hfr HO1 hbw1 hbx hXl hXK hXKi hkw2 hkw3 HSum HS hri hr
              rcases hKd with hKK | hKK | hKK | hKK
              · have f0' : w3.cell? ⟨wr.heap.size, 0, none⟩ = some (.int .i64 0) := by rw [f0, hKK]; rfl
                have h0 : (vs[k]).1 = 0 := by rw [HK.out, hKK]; rfl
                have ho4 : Hid (w3.ownsRow w.heap.size 5 1 (.slice (some ⟨g, 0, none⟩) L gc) (M + (rbs (vs.take (k + 1))).length) (bv ([UInt8.ofNat vs.length] ++ pk N (vs.take (k + 1)) ++ rbs (vs.take (k + 1))))) := by
                  have e : rbs (vs.take (k + 1)) = rbs (vs.take k) := by rw [rbs_take hlt, rb_null h0, List.append_nil]
                  rw [e, HL.out]
                  exact ho
                clear f0 ho h0 hKK
                go_wp2
                go_roundw
                case rel => exact ⟨k + 1, by omega, by go_num, HA1.out, ho4.out, hbel⟩
                case measure => simp [intOf]; omega
              · have f0' : w3.cell? ⟨wr.heap.size, 0, none⟩ = some (.int .i64 1) := by rw [f0, hKK]; rfl
                have h0 : (vs[k]).1 = 1 := by rw [HK.out, hKK]; rfl
                obtain ⟨r1, r2, _⟩ := right_num HT.out h0
                have HD : Hid (rb vs[k] = dg (fd (vs[k]).2.1)) := rb_int h0
                clear f0 h0 hKK
                go_wp2_with fail
                refine (number_any w.heap.size L _ _ (vs[k]).2.1 _ ho (by omega) hB3 r1 r2).mono ?_
                rintro e w4 ⟨v4, rfl, hown4, hb4⟩
                have ho4 : Hid (w4.ownsRow w.heap.size 5 1 v4 (M + (rbs (vs.take (k + 1))).length) (bv ([UInt8.ofNat vs.length] ++ pk N (vs.take (k + 1)) ++ rbs (vs.take (k + 1))))) := by
                  have e : rbs (vs.take (k + 1)) = rbs (vs.take k) ++ dg (fd (vs[k]).2.1) := by rw [rbs_take hlt, HD.out]
                  rw [e, List.length_append, ← Nat.add_assoc, HL.out, ← List.append_assoc]
                  exact hown4
                clear hown4 ho
                go_wp2
                go_roundw
                case rel => exact ⟨k + 1, by omega, by go_num, HA1.out, ho4.out, hbel.trans hb4⟩
                case measure => simp [intOf]; omega
              · have f0' : w3.cell? ⟨wr.heap.size, 0, none⟩ = some (.int .i64 2) := by rw [f0, hKK]; rfl
                have h0 : (vs[k]).1 = 2 := by rw [HK.out, hKK]; rfl
                obtain ⟨r1, _⟩ := right_bool HT.out h0
                have HD : Hid (rb vs[k] = [UInt8.ofNat (vs[k]).2.1.toNat]) := rb_bool h0
                have hwb : IntKind.u8.wrap (vs[k]).2.1 = (vs[k]).2.1 := by rw [IntKind.wrap_u8]; omega
                have hto : (vs[k]).2.1 = ((UInt8.ofNat (vs[k]).2.1.toNat).toNat : Int) := by rw [UInt8.toNat_ofNat']; omega
                have HTo : Hid ((vs[k]).2.1 = ((UInt8.ofNat (vs[k]).2.1.toNat).toNat : Int)) := hto
                clear f0 h0 hKK r1 hto
                go_wp2_with (first | (at_builtin; refine wpList_append_own _ rfl _ _ 40 rfl w.heap.size 5 i0 (.int .u8 0) 1 1 Try.underlying40 hi hz0 hz1 hz2 rfl (by decide) _ _ _ rfl (ho.alloc _) ⟨w3.heap.size, 0, none⟩ 1 1 (bv [UInt8.ofNat (vs[k]).2.1.toNat]) rfl rfl ?c1 ?c2 ?c3 ?c4 ?c5 ?_))
                case c1 => exact cells1 w3 _ _ _ HTo.out
                case c2 => exact bv_one _
                case c3 => unfold maxLen; omega
                case c4 => omega
                case c5 => first | omega | (simp; omega)
                intro v4 w4 hown4 hgrow _
                have hbb : Below w.heap.size w w4 := (hbel.alloc (by omega) _).grown hgrow (by simp; omega) fun k hk => (hlt3 k hk).1
                have ho4 : Hid (w4.ownsRow w.heap.size 5 1 v4 (M + (rbs (vs.take (k + 1))).length) (bv ([UInt8.ofNat vs.length] ++ pk N (vs.take (k + 1)) ++ rbs (vs.take (k + 1))))) := by
                  have e : rbs (vs.take (k + 1)) = rbs (vs.take k) ++ [UInt8.ofNat (vs[k]).2.1.toNat] := by rw [rbs_take hlt, HD.out]
                  rw [e, List.length_append, ← Nat.add_assoc, HL.out, ← List.append_assoc, bv_append]
                  exact hown4
                clear hown4 ho hgrow
                go_wp2
                go_roundw
                case rel => exact ⟨k + 1, by omega, by go_num, HA1.out, ho4.out, hbb⟩
                case measure => simp [intOf]; omega
              · have f0' : w3.cell? ⟨wr.heap.size, 0, none⟩ = some (.int .i64 3) := by rw [f0, hKK]; rfl
                have h0 : (vs[k]).1 = 3 := by rw [HK.out, hKK]; rfl
                obtain ⟨_, r1⟩ := right_text HT.out h0
                have HD : Hid (rb vs[k] = UInt8.ofNat (vs[k]).2.2.size :: (vs[k]).2.2.data.toList) := rb_text h0
                obtain ⟨s, hs⟩ : ∃ s, (vs[k]).2.2 = s := ⟨_, rfl⟩
                rw [hs] at f2 r1 HD
                have hwb : IntKind.u8.wrap (s.size : Int) = (s.size : Int) := by rw [IntKind.wrap_u8]; omega
                have HTo : Hid ((s.size : Int) = ((UInt8.ofNat s.size).toNat : Int)) := by
                  show (s.size : Int) = ((UInt8.ofNat s.size).toNat : Int)
                  rw [UInt8.toNat_ofNat']; omega
                clear f0 h0 hKK hs
                go_wp2_with (first | (at_builtin; refine wpList_append_own _ rfl _ _ 40 rfl w.heap.size 5 i0 (.int .u8 0) 1 1 Try.underlying40 hi hz0 hz1 hz2 rfl (by decide) _ _ _ rfl (ho.alloc _) ⟨w3.heap.size, 0, none⟩ 1 1 (bv [UInt8.ofNat s.size]) rfl rfl ?c1 ?c2 ?c3 ?c4 ?c5 ?_))
                case c1 => exact cells1 w3 _ _ _ HTo.out
                case c2 => exact bv_one _
                case c3 => unfold maxLen; omega
                case c4 => omega
                case c5 => first | omega | (simp; omega)
                intro v4 w4 hown4 hgrow _
                have hbb : Below w.heap.size w w4 := (hbel.alloc (by omega) _).grown hgrow (by simp; omega) fun k hk => (hlt3 k hk).1
                have f4 : w4.cell? ⟨wr.heap.size, 2, none⟩ = some (.string s) := by
                  rw [hgrow.cell_far ⟨wr.heap.size, 2, none⟩ (by simp; omega) (by simp [Value.ownBlock]; omega)]
                  exact cell_later ((Below.refl _ _).alloc (Nat.le_refl _) _) f2
                have hz4 := hbb.size
                have hlt4 := hown4.lt
                clear ho hgrow f0' f1 f2
                go_wp2_with (first | (at_builtin; refine Lib.wpList_append_own_string _ rfl _ _ 40 9 rfl w.heap.size 5 i0 Try.underlying40 Try.underlying9 hi hz0 hz1 hz2 _ _ _ rfl hown4 s rfl ?d1 ?d2 ?d3 ?_))
                case d1 => unfold maxLen; omega
                case d2 => omega
                case d3 => omega
                intro v5 w5 hown5 hgrow5 _
                have hb5 : Below w.heap.size w w5 := hbb.grown hgrow5 (by omega) fun k hk => (hlt4 k hk).1
                have ho5 : w5.ownsRow w.heap.size 5 1 v5 (M + (rbs (vs.take (k + 1))).length) (bv ([UInt8.ofNat vs.length] ++ pk N (vs.take (k + 1)) ++ rbs (vs.take (k + 1)))) := by
                  have e : rbs (vs.take (k + 1)) = rbs (vs.take k) ++ ([UInt8.ofNat s.size] ++ s.data.toList) := by rw [rbs_take hlt, HD.out]; rfl
                  have e2 : M + (rbs (vs.take (k + 1))).length = L + 1 + s.size := by
                    rw [e, List.length_append, ← Nat.add_assoc, HL.out, List.length_append, size_toList]; simp; omega
                  rw [e2, e]
                  simpa [bv, strCells_ba] using hown5
                have ho4 : Hid (w5.ownsRow w.heap.size 5 1 v5 (M + (rbs (vs.take (k + 1))).length) (bv ([UInt8.ofNat vs.length] ++ pk N (vs.take (k + 1)) ++ rbs (vs.take (k + 1))))) := ho5
                clear hown5 hown4 hgrow5 ho5
                go_wp2
                go_roundw
                case rel => exact ⟨k + 1, by omega, by go_num, HA1.out, ho4.out, hb5⟩
                case measure => simp [intOf]; omega
      · have hk' : k = vs.length := by omega
        subst hk'
        rw [List.take_length] at hown ⊢
        have HE : Hid (wrR vs = (rowB vs, 0)) := wrR_ok H8.out fun j g => HA.out j g g
        have hrb : [UInt8.ofNat vs.length] ++ pk N vs ++ rbs vs = rowB vs := by unfold rowB; rw [HN.out]; simp
        rw [hrb] at hown
        obtain ⟨ar, cp, he, hcv⟩ := own_str hown
        rw [he]
        clear hown hrb
        go_wp2
        exact bodyPost_ret (v := .tuple #[.string ⟨(rowB vs).toArray⟩, .int .i64 0]) (by simp [results, Try.results9, go_sem]) rfl ⟨by rw [wrV, HE.out], by (repeat (first | exact Below.refl _ _ | assumption | refine Below.drew ?_ | refine below_drewN ?_ _ | refine Below.alloc ?_ (by first | omega | (simp; done) | (simp; omega)) _ | refine Below.setCell ?_ (by first | omega | (simp; done) | (simp; omega)) _ | refine Below.trans ?_ (Below.mono (by assumption) (by first | omega | (simp; done) | (simp; omega)))))⟩
end Go.Proofs.Ytfgpopkibjijgaa
