/- Walks of layer 3, eleventh part: the values that a row's bytes may say. -/
import Derived.Test.YtfgpopkibjijgaaR10
namespace Go.Proofs.Ytfgpopkibjijgaa
open Go.RowKit

/-- What readRow answers. -/
def RW (s : ByteArray) (w : World) (e : Ending) (w' : World) : Prop := ∃ (v : Value) (l : List V3) (ok : Bool), e = .returned (.tuple #[v, .bool ok]) ∧ w'.ownsRow w.heap.size 25 3 v l.length (vc l) ∧ (ok = false → ∀ vs, ¬ RowOf s.data.toList vs) ∧ (ok = true → ∃ c q r, s.data.toList = c :: q ∧ RP s.data.toList c.toNat l r) ∧ l.length ≤ 255 ∧ Below w.heap.size w w'
theorem rw_no {s : ByteArray} {w w' : World} (h : ∀ vs, ¬ RowOf s.data.toList vs) (hb : Below w.heap.size w w') : RW s w (.returned (.tuple #[.slice none 0 0, .bool false])) w' :=
  ⟨.slice none 0 0, [], false, rfl, World.ownsRow_nil _ _ _ _, fun _ => h, fun h => by simp at h, by simp, hb⟩
theorem ext_byte {s : ByteArray} {H j : Nat} (h : j < (s.extract 1 H).size) (h' : 1 + j < s.data.toList.length) : (s.extract 1 H)[j] = s.data.toList[1 + j] := by
  show (s.extract 1 H).data[j] = s.data.toList[1 + j]
  simp [ByteArray.data_extract, Array.getElem_extract]

set_option maxHeartbeats 4000000 in
set_option maxRecDepth 100000 in
theorem rrow_any (s : ByteArray) (w : World) (hs : s.size ≤ 2147483648) : Calls Try.prog 20 #[.string s] w (RW s w) := by
  obtain ⟨i0, hi, hz0, hz1, hz2⟩ := info_parts Try.info23
  by_cases h0 : 0 < s.size
  · have hne := toList_ne h0
    have h0i : (0 : Int) < (s.size : Int) := by omega
    have hcb := UInt8.toNat_lt s[0]
    have HF : Hid (s.data.toList = s[0] :: s.data.toList.drop 1) := front h0
    obtain ⟨c, hc⟩ : ∃ c, s[0].toNat = c := ⟨_, rfl⟩
    have HC : Hid (s[0].toNat = c) := hc
    obtain ⟨D, hD⟩ : ∃ D, (c + 3) / 4 = D := ⟨_, rfl⟩
    have HD : Hid ((c + 3) / 4 = D) := hD
    have hDi : (((c + 3) / 4 : Nat) : Int) = (D : Int) := by rw [hD]
    obtain ⟨H, hH⟩ : ∃ H, 1 + D = H := ⟨_, rfl⟩
    have HH : Hid (1 + D = H) := hH
    have hHi : (1 : Int) + (D : Int) = (H : Int) := by omega
    have hH1 : 1 ≤ H := by omega
    have hH2 : H ≤ 100 := by omega
    have hsl := size_toList s
    by_cases hsh : s.size < H
    · have hshi : (s.size : Int) < (H : Int) := by omega
      have HN : Hid (∀ vs, ¬ RowOf s.data.toList vs) := row_short HF.out (by rw [size_toList, hc]; omega)
      clear hD hH
      go_enter Try.func20, Try.ntmps20
      go_wp2_with fail
      refine (kbytes_any c _ (by omega)).mono ?_
      rintro e w1 ⟨rfl, rfl⟩
      rw [hDi]
      go_wp2
      exact bodyPost_ret (v := .tuple #[.slice none 0 0, .bool false]) (by simp [results, Try.results20, go_sem]) rfl (rw_no HN.out (by (repeat (first | exact Below.refl _ _ | assumption | refine Below.drew ?_ | refine below_drewN ?_ _ | refine Below.alloc ?_ (by first | omega | (simp; done) | (simp; omega)) _ | refine Below.setCell ?_ (by first | omega | (simp; done) | (simp; omega)) _ | refine Below.trans ?_ (Below.mono (by assumption) (by first | omega | (simp; done) | (simp; omega)))))))
    · have hshi : ¬ (s.size : Int) < (H : Int) := by omega
      have hHs : (H : Int) ≤ (s.size : Int) := by omega
      have hH1i : (1 : Int) ≤ (H : Int) := by omega
      have HP0 : Hid (RP s.data.toList 0 [] (s.extract H s.size).data.toList) := by
        have := rp_start HF.out
        rw [HC.out, hD, hH] at this
        rw [ext_drop]
        exact this
      have hxs : (s.extract 1 H).size = D := by simp; omega
      have hrs0 : (s.extract H s.size).size ≤ s.size := by simp
      clear hD hH
      go_enter Try.func20, Try.ntmps20
      go_wp2_with fail
      refine (kbytes_any c _ (by omega)).mono ?_
      rintro e w1 ⟨rfl, rfl⟩
      rw [hDi]
      clear hDi hc
      go_wp2
      go_region
      all_goals
        go_wp2
        go_loopw [7, 8, 32] (fun r v i wr => ∃ (k : Nat) (l : List V3) (rs : ByteArray), k ≤ c ∧ i = .int .i64 k ∧ r = .string rs ∧ rs.size ≤ s.size ∧ l.length = k ∧ RP s.data.toList k l rs.data.toList ∧ wr.ownsRow w1.heap.size 25 3 v k (vc l) ∧ Below w1.heap.size w1 wr) (fun _ _ i _ => c - (intOf i).toNat)
        case atStart => exact ⟨0, [], s.extract H s.size, Nat.zero_le _, rfl, rfl, hrs0, rfl, HP0.out, World.ownsRow_nil _ _ _ _, by (repeat (first | exact Below.refl _ _ | assumption | refine Below.drew ?_ | refine below_drewN ?_ _ | refine Below.alloc ?_ (by first | omega | (simp; done) | (simp; omega)) _ | refine Below.setCell ?_ (by first | omega | (simp; done) | (simp; omega)) _ | refine Below.trans ?_ (Below.mono (by assumption) (by first | omega | (simp; done) | (simp; omega)))))⟩
        case round =>
          clear HP0
          obtain ⟨k, l, rs, hk, rfl, rfl, hrs, hl, hrp, hown, hb⟩ := hrel
          have HP : Hid (RP s.data.toList k l rs.data.toList) := hrp
          have HL : Hid (l.length = k) := hl
          clear hrp hl
          have hsz := hb.size
          by_cases hlt : k < c
          · have hlti : (k : Int) < (c : Int) := by omega
            have hkD : k / 4 < (s.extract 1 H).size := by rw [hxs]; have := HD.out; omega
            obtain ⟨K, hK⟩ : ∃ K, (s.extract 1 H)[k / 4].toNat / q4 (k % 4) % 4 = K := ⟨_, rfl⟩
            have hK4 : K < 4 := by omega
            have HK : Hid (∀ vs, RowOf s.data.toList vs → ∀ g : k < vs.length, (K : Int) = (vs[k]).1) := by
              show ∀ vs, RowOf s.data.toList vs → ∀ g : k < vs.length, (K : Int) = (vs[k]).1
              intro vs g gk
              have hj : 1 + k / 4 < s.data.toList.length := by rw [hxs] at hkD; have := HH.out; omega
              rw [← rowOf_kind g gk hj, ← hK, ext_byte hkD hj]
            go_wp2_with fail
            refine (kat_any (s.extract 1 H) k _ (by omega) hkD).mono ?_
            rintro e w2 ⟨rfl, rfl⟩
            rw [hK]
            clear hK
            go_wp2_with fail
            refine (rval_any K rs _ hK4 (by omega)).mono ?_
            rintro e w3 ⟨v, r, ok, rfl, hf, hr, hb3⟩
            have hown3 := own_later hown hb3
            have hb3' : Below w1.heap.size w1 w3 := hb.trans (hb3.mono hsz)
            have hz3 := hb3'.size
            have hlt3 := hown3.lt
            clear hown hb3
            cases ok with
            | false =>
              have HN : Hid (∀ vs, ¬ RowOf s.data.toList vs) := rp_stuck HF.out HP.out (by rw [HC.out]; exact hlt) HK.out hf
              clear hf hown3 hlt3
              go_wp2
              exact bodyPost_ret (v := .tuple #[.slice none 0 0, .bool false]) (by simp [results, Try.results20, go_sem]) rfl (rw_no HN.out (by (repeat (first | exact Below.refl _ _ | assumption | refine Below.drew ?_ | refine below_drewN ?_ _ | refine Below.alloc ?_ (by first | omega | (simp; done) | (simp; omega)) _ | refine Below.setCell ?_ (by first | omega | (simp; done) | (simp; omega)) _ | refine Below.trans ?_ (Below.mono (by assumption) (by first | omega | (simp; done) | (simp; omega)))))))
            | true =>
              have HP1 : Hid (RP s.data.toList (k + 1) (l ++ [v]) r.data.toList) := rp_step HF.out HP.out (by rw [HC.out]; exact hlt) HK.out hf
              clear hf
              go_wp2_with (first | (at_builtin; refine wpList_append_own _ rfl _ _ 22 rfl w1.heap.size 25 i0 _ 3 32 Try.underlying22 hi hz0 hz1 hz2 rfl (by decide) _ _ _ rfl ((hown3.alloc _).alloc _) ⟨w3.heap.size + 1, 0, none⟩ 1 1 (vc [v]) rfl rfl ?c1 ?c2 ?c3 ?c4 ?c5 ?_))
              case c1 =>
                have := cells_new (w3.alloc (.cells #[.int .i64 v.1, .int .i64 v.2.1, .string v.2.2] 25)) v 25
                simpa using this
              case c2 => exact vc_one _
              case c3 => unfold maxLen; omega
              case c4 => omega
              case c5 => simp; omega
              intro v' w4 hown4 hgrow _
              have hbb : Below w1.heap.size w1 w4 := ((hb3'.alloc (by omega) _).alloc (by simp; omega) _).grown hgrow (by simp; omega) fun k hk => (hlt3 k hk).1
              rw [← vc_append] at hown4
              clear hgrow hown3 hlt3 hb3'
              go_wp2
              go_roundw
              case rel => exact ⟨k + 1, l ++ [v], r, by omega, by go_num, rfl, by omega, by rw [List.length_append, HL.out]; rfl, HP1.out, hown4, hbb⟩
              case measure => simp [intOf]; omega
          · have hlti : ¬ (k : Int) < (c : Int) := by omega
            have hkc : k = c := by omega
            subst hkc
            rw [← HL.out] at hown
            obtain ⟨la, lc, rfl, _⟩ := Row.of_own hown
            have HO : Hid (wr.ownsRow w1.heap.size 25 3 (.slice la l.length lc) l.length (vc l)) := hown
            clear hown
            go_wp2
            exact bodyPost_ret (v := .tuple #[.slice la l.length lc, .bool true]) (by simp [results, Try.results20, go_sem]) rfl ⟨_, l, true, rfl, HO.out, fun h => by simp at h, fun _ => ⟨s[0], _, rs.data.toList, HF.out, by rw [HC.out]; exact HP.out⟩, by rw [HL.out]; have := HC.out; omega, by (repeat (first | exact Below.refl _ _ | assumption | refine Below.drew ?_ | refine below_drewN ?_ _ | refine Below.alloc ?_ (by first | omega | (simp; done) | (simp; omega)) _ | refine Below.setCell ?_ (by first | omega | (simp; done) | (simp; omega)) _ | refine Below.trans ?_ (Below.mono (by assumption) (by first | omega | (simp; done) | (simp; omega)))))⟩
  · obtain rfl := ba_nil (by omega : s.size = 0)
    go_enter Try.func20, Try.ntmps20
    go_wp2
    exact bodyPost_ret (v := .tuple #[.slice none 0 0, .bool false]) (by simp [results, Try.results20, go_sem]) rfl (rw_no row_empty (by (repeat (first | exact Below.refl _ _ | assumption | refine Below.drew ?_ | refine below_drewN ?_ _ | refine Below.alloc ?_ (by first | omega | (simp; done) | (simp; omega)) _ | refine Below.setCell ?_ (by first | omega | (simp; done) | (simp; omega)) _ | refine Below.trans ?_ (Below.mono (by assumption) (by first | omega | (simp; done) | (simp; omega)))))))
end Go.Proofs.Ytfgpopkibjijgaa
