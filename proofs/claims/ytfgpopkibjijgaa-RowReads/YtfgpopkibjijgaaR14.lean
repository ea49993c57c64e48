/- Walks of layer 3, fourteenth part: the document's own values of a row. -/
import Derived.Test.YtfgpopkibjijgaaR13
namespace Go.Proofs.Ytfgpopkibjijgaa
open Go.RowKit

theorem rf_boolx {v : V3} {r : List UInt8} {ok : Bool} : RF 2 [] v r ok := by
  intro u t hu hk e
  rw [rb_bool hk] at e
  simp at e
theorem ext_drop' {s : ByteArray} {n m : Nat} (h : m = s.size) : (s.extract n m).data.toList = s.data.toList.drop n := by rw [h]; exact ext_drop

set_option maxHeartbeats 8000000 in
set_option maxRecDepth 100000 in
theorem rdec_any (s : ByteArray) (w : World) (hs : s.size ≤ 2147483648) : Calls Try.prog 14 #[.string s] w (DV s w) := by
  obtain ⟨i0, hi, hz0, hz1, hz2⟩ := info_parts Try.info23
  by_cases h0 : 0 < s.size
  · have h0i : (0 : Int) < (s.size : Int) := by omega
    have h0e : ((s.size : Int) == 0) = false := by rw [beq_eq_false_iff_ne]; omega
    have hcb := UInt8.toNat_lt s[0]
    have HF : Hid (s.data.toList = s[0] :: s.data.toList.drop 1) := front h0
    obtain ⟨c, hc⟩ : ∃ c, s[0].toNat = c := ⟨_, rfl⟩
    have HC : Hid (s[0].toNat = c) := hc
    obtain ⟨D, hD⟩ : ∃ D, (c + 3) / 4 = D := ⟨_, rfl⟩
    have HD : Hid ((c + 3) / 4 = D) := hD
    have hDi : ((c : Int) + 3) / 4 = (D : Int) := by omega
    obtain ⟨H, hH⟩ : ∃ H, 1 + D = H := ⟨_, rfl⟩
    have HH : Hid (1 + D = H) := hH
    have hHi : (1 : Int) + (D : Int) = (H : Int) := by omega
    have hH1 : 1 ≤ H := by omega
    have hH2 : H ≤ 100 := by omega
    have hsl := size_toList s
    by_cases h16 : 16 < c
    · have h16i : (16 : Int) < (c : Int) := by omega
      have HN : Hid (∀ vs, ¬ RowOf s.data.toList vs) := row_many HF.out (by rw [hc]; omega)
      clear hD hH
      go_enter Try.func14, Try.ntmps14
      go_wp2
      exact bodyPost_ret (v := .tuple #[.slice none 0 0, .int .i64 30]) (by simp [results, Try.results14, go_sem]) rfl (dv_no HN.out (by (repeat (first | exact Below.refl _ _ | assumption | refine Below.drew ?_ | refine below_drewN ?_ _ | refine Below.alloc ?_ (by first | omega | (simp; done) | (simp; omega)) _ | refine Below.setCell ?_ (by first | omega | (simp; done) | (simp; omega)) _ | refine Below.trans ?_ (Below.mono (by assumption) (by first | omega | (simp; done) | (simp; omega)))))))
    · have h16i : ¬ (16 : Int) < (c : Int) := by omega
      by_cases hsh : s.size < H
      · have hshi : (s.size : Int) < (H : Int) := by omega
        have HN : Hid (∀ vs, ¬ RowOf s.data.toList vs) := row_short HF.out (by rw [size_toList, hc]; omega)
        clear hD hH
        go_enter Try.func14, Try.ntmps14
        go_wp2
        exact bodyPost_ret (v := .tuple #[.slice none 0 0, .int .i64 30]) (by simp [results, Try.results14, go_sem]) rfl (dv_no HN.out (by (repeat (first | exact Below.refl _ _ | assumption | refine Below.drew ?_ | refine below_drewN ?_ _ | refine Below.alloc ?_ (by first | omega | (simp; done) | (simp; omega)) _ | refine Below.setCell ?_ (by first | omega | (simp; done) | (simp; omega)) _ | refine Below.trans ?_ (Below.mono (by assumption) (by first | omega | (simp; done) | (simp; omega)))))))
      · have hshi : ¬ (s.size : Int) < (H : Int) := by omega
        have hHs : (H : Int) ≤ (s.size : Int) := by omega
        have HP0 : Hid (RP s.data.toList 0 [] (s.extract H s.size).data.toList) := by
          have := rp_start HF.out
          rw [HC.out, hD, hH] at this
          rw [ext_drop]
          exact this
        have hrs0 : (s.extract H s.size).size ≤ s.size := by simp
        clear hD hH
        go_enter Try.func14, Try.ntmps14
        go_wp2
        go_loopw [5, 6, 7] (fun r v i wr => ∃ (k : Nat) (l : List V3) (rs : ByteArray), k ≤ c ∧ i = .int .i64 k ∧ r = .string rs ∧ rs.size ≤ s.size ∧ l.length = k ∧ RP s.data.toList k l rs.data.toList ∧ wr.ownsRow w.heap.size 25 3 v k (vc l) ∧ Below w.heap.size w wr) (fun _ _ i _ => c - (intOf i).toNat)
        case atStart => exact ⟨0, [], s.extract H s.size, Nat.zero_le _, rfl, rfl, hrs0, rfl, HP0.out, World.ownsRow_nil _ _ _ _, by (repeat (first | exact Below.refl _ _ | assumption | refine Below.drew ?_ | refine below_drewN ?_ _ | refine Below.alloc ?_ (by first | omega | (simp; done) | (simp; omega)) _ | refine Below.setCell ?_ (by first | omega | (simp; done) | (simp; omega)) _ | refine Below.trans ?_ (Below.mono (by assumption) (by first | omega | (simp; done) | (simp; omega)))))⟩
        case round =>
          clear HP0
          obtain ⟨k, l, rs, hk, rfl, rfl, hrs, hl, hrp, hown, hb⟩ := hrel
          have HP : Hid (RP s.data.toList k l rs.data.toList) := hrp
          have HL : Hid (l.length = k) := hl
          clear hrp hl
          have hsz := hb.size
          by_cases hlt : k < c
          · have hlti : (k : Int) < (c : Int) := by omega
            obtain ⟨q, hq⟩ : ∃ q, k / 4 = q := ⟨_, rfl⟩
            have hqi : (k : Int) / 4 = (q : Int) := by omega
            have hqs : 1 + q < s.size := by have := HD.out; have := HH.out; omega
            have hqs1 : (1 : Int) + (q : Int) < (s.size : Int) := by omega
            have hqs2 : ((1 : Int) + (q : Int)).toNat = 1 + q := by omega
            have hqs3 : (0 : Int) ≤ 1 + (q : Int) := by omega
            have hq20 : q ≤ 100 := by omega
            have hcq := UInt8.toNat_lt s[1 + q]
            obtain ⟨b, hbq⟩ : ∃ b, s[1 + q].toNat = b := ⟨_, rfl⟩
            obtain ⟨K, hK⟩ : ∃ K, b / q4 (k % 4) % 4 = K := ⟨_, rfl⟩
            have hK4 : K < 4 := by omega
            have HK : Hid (∀ vs, RowOf s.data.toList vs → ∀ g : k < vs.length, (K : Int) = (vs[k]).1) := by
              show ∀ vs, RowOf s.data.toList vs → ∀ g : k < vs.length, (K : Int) = (vs[k]).1
              intro vs g gk
              subst hq
              rw [← rowOf_kind g gk (by omega), ← hK, ← hbq]
              rfl
            have hcase : ((k : Int) % 4 = 0 ∧ (b : Int) % 4 = (K : Int)) ∨ ((k : Int) % 4 = 1 ∧ (b : Int) / 4 % 4 = (K : Int)) ∨ ((k : Int) % 4 = 2 ∧ (b : Int) / 16 % 4 = (K : Int)) ∨ ((k : Int) % 4 = 3 ∧ (b : Int) / 64 % 4 = (K : Int)) := by
              have hr4 : k % 4 = 0 ∨ k % 4 = 1 ∨ k % 4 = 2 ∨ k % 4 = 3 := by omega
              rcases hr4 with hr | hr | hr | hr <;> rw [hr] at hK <;> simp [q4] at hK <;> omega
            have hkc : k ≤ 16 := by omega
            have HS : ∀ v r, Hid (RF K rs.data.toList v r true → RP s.data.toList (k + 1) (l ++ [v]) r) := fun v r hf => rp_step HF.out HP.out (by rw [HC.out]; exact hlt) HK.out hf
            clear hK hq HP HK
            have hKd : K = 0 ∨ K = 1 ∨ K = 2 ∨ K = 3 := by omega
            rcases hKd with rfl | rfl | rfl | rfl
            · have HP1 : Hid (RP s.data.toList (k + 1) (l ++ [(0, 0, ⟨#[]⟩)]) rs.data.toList) := (HS _ _).out (rf_null rfl)
              have hlt0 := hown.lt
              have hex : rs.extract 0 rs.size = rs := by simp
              rcases hcase with ⟨hri, hKi⟩ | ⟨hri, hKi⟩ | ⟨hri, hKi⟩ | ⟨hri, hKi⟩
              all_goals
                go_wp2_with (first | (at_builtin; refine wpList_append_own _ rfl _ _ 22 rfl w.heap.size 25 i0 _ 3 32 Try.underlying22 hi hz0 hz1 hz2 rfl (by decide) _ _ _ rfl ((own_later hown (by (repeat (first | exact Below.refl _ _ | assumption | refine Below.drew ?_ | refine below_drewN ?_ _ | refine Below.alloc ?_ (by first | omega | (simp; done) | (simp; omega)) _ | refine Below.setCell ?_ (by first | omega | (simp; done) | (simp; omega)) _ | refine Below.trans ?_ (Below.mono (by assumption) (by first | omega | (simp; done) | (simp; omega))))))).alloc _) ⟨wr.heap.size + 1, 0, none⟩ 1 1 (vc [(0, 0, ⟨#[]⟩)]) rfl rfl ?c1 ?c2 ?c3 ?c4 ?c5 ?_))
                case c1 =>
                  intro j u hj
                  match j, hj with
                  | 0, hj => simp [vc] at hj; subst hj; first | (simp; done) | (simp [Addr.add]; done)
                  | 1, hj => simp [vc] at hj; subst hj; first | (simp; done) | (simp [Addr.add]; done)
                  | 2, hj => simp [vc] at hj; subst hj; first | (simp; done) | (simp [Addr.add]; done)
                case c2 => exact vc_one _
                case c3 => unfold maxLen; omega
                case c4 => omega
                case c5 => first | omega | (simp; omega)
                intro v' w4 hown4 hgrow _
                have hbb : Below w.heap.size w w4 := Below.grown (by (repeat (first | exact Below.refl _ _ | assumption | refine Below.drew ?_ | refine below_drewN ?_ _ | refine Below.alloc ?_ (by first | omega | (simp; done) | (simp; omega)) _ | refine Below.setCell ?_ (by first | omega | (simp; done) | (simp; omega)) _ | refine Below.trans ?_ (Below.mono (by assumption) (by first | omega | (simp; done) | (simp; omega)))))) hgrow (by simp; omega) fun k hk => (hlt0 k hk).1
                rw [← vc_append] at hown4
                clear hgrow hown
                go_wp2
                go_roundw
                case rel => exact ⟨k + 1, l ++ [(0, 0, ⟨#[]⟩)], rs, by omega, by go_num, by first | rfl | simp, by omega, by rw [List.length_append, HL.out]; rfl, HP1.out, hown4, hbb⟩
                case measure => simp [intOf]; omega
            · have hlt0 := hown.lt
              rcases hcase with ⟨hri, hKi⟩ | ⟨hri, hKi⟩ | ⟨hri, hKi⟩ | ⟨hri, hKi⟩
              all_goals
                go_wp2_with fail
                refine (rdnum_any rs _).mono ?_
                rintro e w2 ⟨z, n, rfl, hn, hf, rfl⟩
                have HP1 : Hid (RP s.data.toList (k + 1) (l ++ [(1, z, ⟨#[]⟩)]) (rs.extract n rs.size).data.toList) := (HS _ _).out (by rw [ext_drop]; exact hf)
                have hni : (n : Int) ≤ (rs.size : Int) := by omega
                clear hf
                go_wp2_with (first | (at_builtin; refine wpList_append_own _ rfl _ _ 22 rfl w.heap.size 25 i0 _ 3 32 Try.underlying22 hi hz0 hz1 hz2 rfl (by decide) _ _ _ rfl ((own_later hown (by (repeat (first | exact Below.refl _ _ | assumption | refine Below.drew ?_ | refine below_drewN ?_ _ | refine Below.alloc ?_ (by first | omega | (simp; done) | (simp; omega)) _ | refine Below.setCell ?_ (by first | omega | (simp; done) | (simp; omega)) _ | refine Below.trans ?_ (Below.mono (by assumption) (by first | omega | (simp; done) | (simp; omega))))))).alloc _) ⟨wr.heap.size + 1, 0, none⟩ 1 1 (vc [(1, z, ⟨#[]⟩)]) rfl rfl ?c1 ?c2 ?c3 ?c4 ?c5 ?_))
                case c1 =>
                  intro j u hj
                  match j, hj with
                  | 0, hj => simp [vc] at hj; subst hj; first | (simp; done) | (simp [Addr.add]; done)
                  | 1, hj => simp [vc] at hj; subst hj; first | (simp; done) | (simp [Addr.add]; done)
                  | 2, hj => simp [vc] at hj; subst hj; first | (simp; done) | (simp [Addr.add]; done)
                case c2 => exact vc_one _
                case c3 => unfold maxLen; omega
                case c4 => omega
                case c5 => first | omega | (simp; omega)
                intro v' w4 hown4 hgrow _
                have hbb : Below w.heap.size w w4 := Below.grown (by (repeat (first | exact Below.refl _ _ | assumption | refine Below.drew ?_ | refine below_drewN ?_ _ | refine Below.alloc ?_ (by first | omega | (simp; done) | (simp; omega)) _ | refine Below.setCell ?_ (by first | omega | (simp; done) | (simp; omega)) _ | refine Below.trans ?_ (Below.mono (by assumption) (by first | omega | (simp; done) | (simp; omega)))))) hgrow (by simp; omega) fun k hk => (hlt0 k hk).1
                rw [← vc_append] at hown4
                clear hgrow hown
                go_wp2
                go_roundw
                case rel => exact ⟨k + 1, l ++ [(1, z, ⟨#[]⟩)], rs.extract n rs.size, by omega, by go_num, by first | rfl | simp, by simp; omega, by rw [List.length_append, HL.out]; rfl, HP1.out, hown4, hbb⟩
                case measure => simp [intOf]; omega
            · have hlt0 := hown.lt
              by_cases hr0 : 0 < rs.size
              · have hr0i : (0 : Int) < (rs.size : Int) := by omega
                have hr1i : (1 : Int) ≤ (rs.size : Int) := by omega
                have HP1 : Hid (RP s.data.toList (k + 1) (l ++ [((2, (rs[0].toNat : Int), ⟨#[]⟩) : V3)]) (rs.extract 1 rs.size).data.toList) := (HS _ _).out (by rw [ext_drop, front hr0]; exact rf_bool)
                have hrb := UInt8.toNat_lt rs[0]
                rcases hcase with ⟨hri, hKi⟩ | ⟨hri, hKi⟩ | ⟨hri, hKi⟩ | ⟨hri, hKi⟩
                all_goals
                  go_wp2_with (first | (at_builtin; refine wpList_append_own _ rfl _ _ 22 rfl w.heap.size 25 i0 _ 3 32 Try.underlying22 hi hz0 hz1 hz2 rfl (by decide) _ _ _ rfl ((own_later hown (by (repeat (first | exact Below.refl _ _ | assumption | refine Below.drew ?_ | refine below_drewN ?_ _ | refine Below.alloc ?_ (by first | omega | (simp; done) | (simp; omega)) _ | refine Below.setCell ?_ (by first | omega | (simp; done) | (simp; omega)) _ | refine Below.trans ?_ (Below.mono (by assumption) (by first | omega | (simp; done) | (simp; omega))))))).alloc _) ⟨wr.heap.size + 1, 0, none⟩ 1 1 (vc [(2, (rs[0].toNat : Int), ⟨#[]⟩)]) rfl rfl ?c1 ?c2 ?c3 ?c4 ?c5 ?_))
                  case c1 =>
                    intro j u hj
                    match j, hj with
                    | 0, hj => simp [vc] at hj; subst hj; first | (simp; done) | (simp [Addr.add]; done)
                    | 1, hj => simp [vc] at hj; subst hj; first | (simp; done) | (simp [Addr.add]; done)
                    | 2, hj => simp [vc] at hj; subst hj; first | (simp; done) | (simp [Addr.add]; done)
                  case c2 => exact vc_one _
                  case c3 => unfold maxLen; omega
                  case c4 => omega
                  case c5 => first | omega | (simp; omega)
                  intro v' w4 hown4 hgrow _
                  have hbb : Below w.heap.size w w4 := Below.grown (by (repeat (first | exact Below.refl _ _ | assumption | refine Below.drew ?_ | refine below_drewN ?_ _ | refine Below.alloc ?_ (by first | omega | (simp; done) | (simp; omega)) _ | refine Below.setCell ?_ (by first | omega | (simp; done) | (simp; omega)) _ | refine Below.trans ?_ (Below.mono (by assumption) (by first | omega | (simp; done) | (simp; omega)))))) hgrow (by simp; omega) fun k hk => (hlt0 k hk).1
                  rw [← vc_append] at hown4
                  clear hgrow hown
                  go_wp2
                  go_roundw
                  case rel => exact ⟨k + 1, l ++ [((2, (rs[0].toNat : Int), ⟨#[]⟩) : V3)], rs.extract 1 rs.size, by omega, by go_num, by first | rfl | simp, by simp; omega, by rw [List.length_append, HL.out]; rfl, HP1.out, hown4, hbb⟩
                  case measure => simp [intOf]; omega
              · obtain rfl := ba_nil (by omega : rs.size = 0)
                have HP1 : Hid (RP s.data.toList (k + 1) (l ++ [(2, 0, ⟨#[]⟩)]) (⟨#[]⟩ : ByteArray).data.toList) := (HS _ _).out rf_boolx
                rcases hcase with ⟨hri, hKi⟩ | ⟨hri, hKi⟩ | ⟨hri, hKi⟩ | ⟨hri, hKi⟩
                all_goals
                  go_wp2_with (first | (at_builtin; refine wpList_append_own _ rfl _ _ 22 rfl w.heap.size 25 i0 _ 3 32 Try.underlying22 hi hz0 hz1 hz2 rfl (by decide) _ _ _ rfl ((own_later hown (by (repeat (first | exact Below.refl _ _ | assumption | refine Below.drew ?_ | refine below_drewN ?_ _ | refine Below.alloc ?_ (by first | omega | (simp; done) | (simp; omega)) _ | refine Below.setCell ?_ (by first | omega | (simp; done) | (simp; omega)) _ | refine Below.trans ?_ (Below.mono (by assumption) (by first | omega | (simp; done) | (simp; omega))))))).alloc _) ⟨wr.heap.size + 1, 0, none⟩ 1 1 (vc [(2, 0, ⟨#[]⟩)]) rfl rfl ?c1 ?c2 ?c3 ?c4 ?c5 ?_))
                  case c1 =>
                    intro j u hj
                    match j, hj with
                    | 0, hj => simp [vc] at hj; subst hj; first | (simp; done) | (simp [Addr.add]; done)
                    | 1, hj => simp [vc] at hj; subst hj; first | (simp; done) | (simp [Addr.add]; done)
                    | 2, hj => simp [vc] at hj; subst hj; first | (simp; done) | (simp [Addr.add]; done)
                  case c2 => exact vc_one _
                  case c3 => unfold maxLen; omega
                  case c4 => omega
                  case c5 => first | omega | (simp; omega)
                  intro v' w4 hown4 hgrow _
                  have hbb : Below w.heap.size w w4 := Below.grown (by (repeat (first | exact Below.refl _ _ | assumption | refine Below.drew ?_ | refine below_drewN ?_ _ | refine Below.alloc ?_ (by first | omega | (simp; done) | (simp; omega)) _ | refine Below.setCell ?_ (by first | omega | (simp; done) | (simp; omega)) _ | refine Below.trans ?_ (Below.mono (by assumption) (by first | omega | (simp; done) | (simp; omega)))))) hgrow (by simp; omega) fun k hk => (hlt0 k hk).1
                  rw [← vc_append] at hown4
                  clear hgrow hown
                  go_wp2
                  go_roundw
                  case rel => exact ⟨k + 1, l ++ [(2, 0, ⟨#[]⟩)], ⟨#[]⟩, by omega, by go_num, by first | rfl | simp, by exact Nat.zero_le _, by rw [List.length_append, HL.out]; rfl, HP1.out, hown4, hbb⟩
                  case measure => simp [intOf]; omega
            · have hlt0 := hown.lt
              by_cases hr0 : 0 < rs.size
              · have hr0i : (0 : Int) < (rs.size : Int) := by omega
                have hrb := UInt8.toNat_lt rs[0]
                obtain ⟨d, hd⟩ : ∃ d, rs[0].toNat = d := ⟨_, rfl⟩
                have hfr := front hr0
                have hdl : (rs.data.toList.drop 1).length = rs.size - 1 := by simp
                obtain ⟨E, hE⟩ : ∃ E, 1 + d = E := ⟨_, rfl⟩
                have hEi : (1 : Int) + (d : Int) = (E : Int) := by omega
                have hE1 : (1 : Int) ≤ (E : Int) := by omega
                have hE0 : (0 : Int) < (E : Int) := by omega
                have hr1i : (1 : Int) ≤ (rs.size : Int) := by omega
                by_cases hsh2 : rs.size < E
                · have hsh2i : (rs.size : Int) < (E : Int) := by omega
                  have HP1 : Hid (RP s.data.toList (k + 1) (l ++ [(3, 0, rs.extract 1 rs.size)]) (rs.extract rs.size rs.size).data.toList) := (HS _ _).out (by rw [hfr]; exact rf_textshort (by omega))
                  clear hfr hdl hE
                  rcases hcase with ⟨hri, hKi⟩ | ⟨hri, hKi⟩ | ⟨hri, hKi⟩ | ⟨hri, hKi⟩
                  all_goals
                    go_wp2_with (first | (at_builtin; refine wpList_append_own _ rfl _ _ 22 rfl w.heap.size 25 i0 _ 3 32 Try.underlying22 hi hz0 hz1 hz2 rfl (by decide) _ _ _ rfl ((own_later hown (by (repeat (first | exact Below.refl _ _ | assumption | refine Below.drew ?_ | refine below_drewN ?_ _ | refine Below.alloc ?_ (by first | omega | (simp; done) | (simp; omega)) _ | refine Below.setCell ?_ (by first | omega | (simp; done) | (simp; omega)) _ | refine Below.trans ?_ (Below.mono (by assumption) (by first | omega | (simp; done) | (simp; omega))))))).alloc _) ⟨wr.heap.size + 1, 0, none⟩ 1 1 (vc [(3, 0, rs.extract 1 rs.size)]) rfl rfl ?c1 ?c2 ?c3 ?c4 ?c5 ?_))
                    case c1 =>
                      intro j u hj
                      match j, hj with
                      | 0, hj => simp [vc] at hj; subst hj; first | (simp; done) | (simp [Addr.add]; done)
                      | 1, hj => simp [vc] at hj; subst hj; first | (simp; done) | (simp [Addr.add]; done)
                      | 2, hj => simp [vc] at hj; subst hj; first | (simp; done) | (simp [Addr.add]; done)
                    case c2 => exact vc_one _
                    case c3 => unfold maxLen; omega
                    case c4 => omega
                    case c5 => first | omega | (simp; omega)
                    intro v' w4 hown4 hgrow _
                    have hbb : Below w.heap.size w w4 := Below.grown (by (repeat (first | exact Below.refl _ _ | assumption | refine Below.drew ?_ | refine below_drewN ?_ _ | refine Below.alloc ?_ (by first | omega | (simp; done) | (simp; omega)) _ | refine Below.setCell ?_ (by first | omega | (simp; done) | (simp; omega)) _ | refine Below.trans ?_ (Below.mono (by assumption) (by first | omega | (simp; done) | (simp; omega)))))) hgrow (by simp; omega) fun k hk => (hlt0 k hk).1
                    rw [← vc_append] at hown4
                    clear hgrow hown
                    go_wp2
                    go_roundw
                    case rel => exact ⟨k + 1, l ++ [(3, 0, rs.extract 1 rs.size)], rs.extract rs.size rs.size, by omega, by go_num, by first | rfl | simp, by simp, by rw [List.length_append, HL.out]; rfl, HP1.out, hown4, hbb⟩
                    case measure => simp [intOf]; omega
                · have hsh2i : ¬ (rs.size : Int) < (E : Int) := by omega
                  have hEs : (E : Int) ≤ (rs.size : Int) := by omega
                  have hx : (rs.extract 1 E).data.toList = (rs.data.toList.drop 1).take d := by
                    rw [← hE]
                    simp [ByteArray.data_extract]
                  have HP1 : Hid (RP s.data.toList (k + 1) (l ++ [(3, 0, rs.extract 1 E)]) (rs.extract E rs.size).data.toList) := (HS _ _).out (by
                    have := rf_text (c := rs[0]) (l := rs.data.toList.drop 1) (x := rs.extract 1 E) (by rw [hd]; exact hx)
                    rw [← hfr, hd, List.drop_drop, hE] at this
                    rw [ext_drop]
                    exact this)
                  clear hfr hdl hx hE
                  rcases hcase with ⟨hri, hKi⟩ | ⟨hri, hKi⟩ | ⟨hri, hKi⟩ | ⟨hri, hKi⟩
                  all_goals
                    go_wp2_with (first | (at_builtin; refine wpList_append_own _ rfl _ _ 22 rfl w.heap.size 25 i0 _ 3 32 Try.underlying22 hi hz0 hz1 hz2 rfl (by decide) _ _ _ rfl ((own_later hown (by (repeat (first | exact Below.refl _ _ | assumption | refine Below.drew ?_ | refine below_drewN ?_ _ | refine Below.alloc ?_ (by first | omega | (simp; done) | (simp; omega)) _ | refine Below.setCell ?_ (by first | omega | (simp; done) | (simp; omega)) _ | refine Below.trans ?_ (Below.mono (by assumption) (by first | omega | (simp; done) | (simp; omega))))))).alloc _) ⟨wr.heap.size + 1, 0, none⟩ 1 1 (vc [(3, 0, rs.extract 1 E)]) rfl rfl ?c1 ?c2 ?c3 ?c4 ?c5 ?_))
                    case c1 =>
                      intro j u hj
                      match j, hj with
                      | 0, hj => simp [vc] at hj; subst hj; first | (simp; done) | (simp [Addr.add]; done)
                      | 1, hj => simp [vc] at hj; subst hj; first | (simp; done) | (simp [Addr.add]; done)
                      | 2, hj => simp [vc] at hj; subst hj; first | (simp; done) | (simp [Addr.add]; done)
                    case c2 => exact vc_one _
                    case c3 => unfold maxLen; omega
                    case c4 => omega
                    case c5 => first | omega | (simp; omega)
                    intro v' w4 hown4 hgrow _
                    have hbb : Below w.heap.size w w4 := Below.grown (by (repeat (first | exact Below.refl _ _ | assumption | refine Below.drew ?_ | refine below_drewN ?_ _ | refine Below.alloc ?_ (by first | omega | (simp; done) | (simp; omega)) _ | refine Below.setCell ?_ (by first | omega | (simp; done) | (simp; omega)) _ | refine Below.trans ?_ (Below.mono (by assumption) (by first | omega | (simp; done) | (simp; omega)))))) hgrow (by simp; omega) fun k hk => (hlt0 k hk).1
                    rw [← vc_append] at hown4
                    clear hgrow hown
                    go_wp2
                    go_roundw
                    case rel => exact ⟨k + 1, l ++ [(3, 0, rs.extract 1 E)], rs.extract E rs.size, by omega, by go_num, by first | rfl | simp, by simp; omega, by rw [List.length_append, HL.out]; rfl, HP1.out, hown4, hbb⟩
                    case measure => simp [intOf]; omega
              · obtain rfl := ba_nil (by omega : rs.size = 0)
                have HP1 : Hid (RP s.data.toList (k + 1) (l ++ [(3, 0, ⟨#[]⟩)]) (⟨#[]⟩ : ByteArray).data.toList) := (HS _ _).out rf_text0
                rcases hcase with ⟨hri, hKi⟩ | ⟨hri, hKi⟩ | ⟨hri, hKi⟩ | ⟨hri, hKi⟩
                all_goals
                  go_wp2_with (first | (at_builtin; refine wpList_append_own _ rfl _ _ 22 rfl w.heap.size 25 i0 _ 3 32 Try.underlying22 hi hz0 hz1 hz2 rfl (by decide) _ _ _ rfl ((own_later hown (by (repeat (first | exact Below.refl _ _ | assumption | refine Below.drew ?_ | refine below_drewN ?_ _ | refine Below.alloc ?_ (by first | omega | (simp; done) | (simp; omega)) _ | refine Below.setCell ?_ (by first | omega | (simp; done) | (simp; omega)) _ | refine Below.trans ?_ (Below.mono (by assumption) (by first | omega | (simp; done) | (simp; omega))))))).alloc _) ⟨wr.heap.size + 1, 0, none⟩ 1 1 (vc [(3, 0, ⟨#[]⟩)]) rfl rfl ?c1 ?c2 ?c3 ?c4 ?c5 ?_))
                  case c1 =>
                    intro j u hj
                    match j, hj with
                    | 0, hj => simp [vc] at hj; subst hj; first | (simp; done) | (simp [Addr.add]; done)
                    | 1, hj => simp [vc] at hj; subst hj; first | (simp; done) | (simp [Addr.add]; done)
                    | 2, hj => simp [vc] at hj; subst hj; first | (simp; done) | (simp [Addr.add]; done)
                  case c2 => exact vc_one _
                  case c3 => unfold maxLen; omega
                  case c4 => omega
                  case c5 => first | omega | (simp; omega)
                  intro v' w4 hown4 hgrow _
                  have hbb : Below w.heap.size w w4 := Below.grown (by (repeat (first | exact Below.refl _ _ | assumption | refine Below.drew ?_ | refine below_drewN ?_ _ | refine Below.alloc ?_ (by first | omega | (simp; done) | (simp; omega)) _ | refine Below.setCell ?_ (by first | omega | (simp; done) | (simp; omega)) _ | refine Below.trans ?_ (Below.mono (by assumption) (by first | omega | (simp; done) | (simp; omega)))))) hgrow (by simp; omega) fun k hk => (hlt0 k hk).1
                  rw [← vc_append] at hown4
                  clear hgrow hown
                  go_wp2
                  go_roundw
                  case rel => exact ⟨k + 1, l ++ [(3, 0, ⟨#[]⟩)], ⟨#[]⟩, by omega, by go_num, by first | rfl | simp, by exact Nat.zero_le _, by rw [List.length_append, HL.out]; rfl, HP1.out, hown4, hbb⟩
                  case measure => simp [intOf]; omega
          · have hlti : ¬ (k : Int) < (c : Int) := by omega
            have hkc : k = c := by omega
            subst hkc
            rw [← HL.out] at hown
            obtain ⟨la, lc, rfl, hrow⟩ := Row.of_own hown
            have HO : Hid (wr.ownsRow w.heap.size 25 3 (.slice la l.length lc) l.length (vc l)) := hown
            have HR : Hid (Row wr la l) := hrow
            have hll : l.length ≤ 255 := by rw [HL.out]; omega
            have hrp : RP s.data.toList s[0].toNat l rs.data.toList := by rw [HC.out]; exact HP.out
            clear hown hrow HP
            rcases wr_split s l with ⟨h, hv⟩ | ⟨h, p, x, hv, hd⟩
            · have HK : Hid (RowOf s.data.toList l) := rowOf_of h.1 h.2
              have HV : Hid (wrV l = .tuple #[.string s, .int .i64 0]) := hv
              clear h hv hrp
              go_wp2_with fail
              refine (renc_any la lc l _ (by omega) HR.out).mono ?_
              rintro e w2 ⟨rfl, hb2⟩
              rw [HV.out]
              have HO2 : Hid (w2.ownsRow w.heap.size 25 3 (.slice la l.length lc) l.length (vc l)) := own_later HO.out hb2
              have hbw2 : Below w.heap.size w w2 := hb.trans (hb2.mono hb.size)
              clear hb2 HO
              go_wp2
              exact bodyPost_ret (v := .tuple #[.slice la l.length lc, .int .i64 0]) (by simp [results, Try.results14, go_sem]) rfl (dv_ok HK.out HO2.out hbw2)
            · have HN : Hid (∀ vs, ¬ RowOf s.data.toList vs) := rp_end HF.out hrp h
              have HV : Hid (wrV l = .tuple #[.string p, .int .i64 x]) := hv
              clear h hv hrp HO
              rcases hd with d1 | ⟨d1, d2⟩
              all_goals
                go_wp2_with fail
                refine (renc_any la lc l _ (by omega) HR.out).mono ?_
                rintro e w2 ⟨rfl, hb2⟩
                rw [HV.out]
                have hbw2 : Below w.heap.size w w2 := hb.trans (hb2.mono hb.size)
                clear hb2
                go_wp2
                exact bodyPost_ret (v := .tuple #[.slice none 0 0, .int .i64 30]) (by simp [results, Try.results14, go_sem]) rfl (dv_no HN.out hbw2)
  · obtain rfl := ba_nil (by omega : s.size = 0)
    go_enter Try.func14, Try.ntmps14
    go_wp2
    exact bodyPost_ret (v := .tuple #[.slice none 0 0, .int .i64 30]) (by simp [results, Try.results14, go_sem]) rfl (dv_no row_empty (by (repeat (first | exact Below.refl _ _ | assumption | refine Below.drew ?_ | refine below_drewN ?_ _ | refine Below.alloc ?_ (by first | omega | (simp; done) | (simp; omega)) _ | refine Below.setCell ?_ (by first | omega | (simp; done) | (simp; omega)) _ | refine Below.trans ?_ (Below.mono (by assumption) (by first | omega | (simp; done) | (simp; omega)))))))
end Go.Proofs.Ytfgpopkibjijgaa
