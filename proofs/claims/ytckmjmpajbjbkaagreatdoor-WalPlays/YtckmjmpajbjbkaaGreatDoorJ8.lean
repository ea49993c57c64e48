/- Walks of layer 6, eighth part: which place a name tells. -/
import Derived.Test.YtckmjmpajbjbkaaGreatDoorJ5
namespace Go.Proofs.YtckmjmpajbjbkaaGreatDoor
open Go.RowKit

theorem atoi_any (s : ByteArray) (w : World) (hs : s.size ≤ 2147483648) (h : SV0 w) :
    Calls Tryz.prog 106 #[.string s] w fun e w' => ((∃ n, Lib.atoiAll s.data.toList = .ok n ∧ e = .returned (.tuple #[.int .i64 n, .nilIface])) ∨ (∃ n N, (∀ m, Lib.atoiAll s.data.toList ≠ .ok m) ∧ e = .returned (.tuple #[.int .i64 n, .iface 154 (.pointer (some ⟨N, 0, none⟩))]))) ∧ Below w.heap.size w w' := by
  obtain ⟨_, ⟨tp, p, hx⟩, ⟨tq, q, hy⟩⟩ := h
  cases e : Lib.atoiAll s.data.toList with
  | ok n =>
    refine (Tryz.strconv_Atoi_ok s (by omega) n e w).mono ?_
    rintro e' w' ⟨rfl, hw⟩
    refine ⟨Or.inl ⟨n, rfl, rfl⟩, ?_⟩
    rcases hw with rfl | ⟨t, rfl⟩
    · exact Below.refl _ _
    · exact Lib.bytesWorld_below _ _ _
  | «syntax» =>
    refine (Tryz.strconv_Atoi_syntax_var s (by omega) e tp p w hx).mono ?_
    rintro e' w' ⟨N, rfl, _, _, hb⟩
    exact ⟨Or.inr ⟨_, N, fun m g => (by cases g), rfl⟩, hb⟩
  | range =>
    refine (Tryz.strconv_Atoi_range_var s (by omega) e tq q w hy).mono ?_
    rintro e' w' ⟨N, rfl, _, _, hb⟩
    exact ⟨Or.inr ⟨_, N, fun m g => (by cases g), rfl⟩, hb⟩

theorem SV0.later {w w' : World} (h : SV0 w) (hb : Below w.heap.size w w') : SV0 w' := by
  obtain ⟨a, ⟨tp, p, b⟩, ⟨tq, q, c⟩⟩ := h
  exact ⟨Lib.tabBelow_of_tabIs a w' hb, ⟨tp, p, var_later b hb⟩, ⟨tq, q, var_later c hb⟩⟩
/-- What placeOf tells. -/
def PlaceP (n : Nm) (w : World) (e : Ending) (w' : World) : Prop :=
  (∃ k ok, e = .returned (.tuple #[.int .i64 k, .bool ok]) ∧ ((∃ p : Nat, placeN n = some p ∧ k = (p : Int) ∧ ok = true) ∨ (placeN n = none ∧ ok = false))) ∧ Below w.heap.size w w'

set_option maxHeartbeats 4000000 in
set_option maxRecDepth 100000 in
theorem placeOf_any (t : List UInt8) (w : World) (h : SV0 w) (ht : t.length ≤ 12) :
    Calls Tryz.prog 75 #[.string ⟨(pre4 ++ t).toArray⟩] w (PlaceP (pre4 ++ t) w) := by
  have HS : Hid (SV0 w) := h
  clear h
  obtain ⟨s, hs⟩ : ∃ s : ByteArray, s = ⟨(pre4 ++ t).toArray⟩ := ⟨_, rfl⟩
  have HSS : Hid (s.data.toList = pre4 ++ t) := by
    have : s.data.toList = pre4 ++ t := by rw [hs]
    exact this
  rw [← hs]
  clear hs
  obtain ⟨u, hu⟩ : ∃ u : ByteArray, u = ⟨t.toArray⟩ := ⟨_, rfl⟩
  have HU : Hid (u.data.toList = t) := by
    have : u.data.toList = t := by rw [hu]
    exact this
  have HT : Hid ((⟨(Lib.trimPrefix s.data.toList pre4).toArray⟩ : ByteArray) = u) := by
    have : (⟨(Lib.trimPrefix s.data.toList pre4).toArray⟩ : ByteArray) = u := by rw [HSS.out, trim_log, hu]
    exact this
  have husz : u.size ≤ 12 := by
    have : u.size = t.length := by rw [hu]; simp [ByteArray.size]
    omega
  clear hu
  go_enter Tryz.func75, Tryz.ntmps75
  go_wp2_with fail
  refine (Tryz.strings_TrimPrefix s ⟨#[108, 111, 103, 46]⟩ _).mono ?_
  rintro e w1 ⟨rfl, hw1⟩
  have hw1' := hw1.symm
  subst hw1'
  rw [show (⟨#[108, 111, 103, 46]⟩ : ByteArray).data.toList = pre4 from rfl, HT.out]
  clear hw1
  go_wp2_with fail
  refine (atoi_any u _ (by omega) HS.out).mono ?_
  rintro e w2 ⟨hcase, hb2⟩
  rcases hcase with ⟨n, hn, rfl⟩ | ⟨n, N, hn, rfl⟩
  · have hn' : Lib.atoiAll t = .ok n := by rw [← HU.out]; exact hn
    obtain ⟨n1, n2⟩ := atoi_small hn' ht
    have HN : Hid (Lib.atoiAll t = .ok n) := hn'
    have HB2 : Hid (Below w.heap.size w w2) := hb2
    obtain ⟨v, hv⟩ : ∃ v : ByteArray, v = ⟨(nmOf n).toArray⟩ := ⟨_, rfl⟩
    have HV : Hid (v = ⟨(nmOf n).toArray⟩) := hv
    clear hn hn' hb2 hv
    by_cases he : s = v
    · have heq : (s.toList == v.toList) = true := str_same he
      have HR : Hid (∃ p : Nat, n = p ∧ p < 1000000000000 ∧ placeN (pre4 ++ t) = some p) := by
        refine place_yes HN.out ht ?_
        rw [← HSS.out, he, HV.out]
      clear he
      go_wp2_with (first | (go_at_call 85; refine (nameOf_any n _ (HS.out.later HB2.out) (by omega) (by omega)).mono ?_; rintro e w3 ⟨rfl, hb3⟩; rw [← HV.out]))
      refine bodyPost_ret (v := .tuple #[.int .i64 n, .bool true]) (by simp [results, Tryz.results75, go_sem]) rfl ?_
      obtain ⟨p, r1, _, r2⟩ := HR.out
      exact ⟨⟨n, true, rfl, Or.inl ⟨p, r2, r1, rfl⟩⟩, HB2.out.trans (hb3.mono HB2.out.size)⟩
    · have hne : (s.toList == v.toList) = false := str_other he
      have HR : Hid (placeN (pre4 ++ t) = none) := by
        have : placeN (pre4 ++ t) = none := by
          cases hp : placeN (pre4 ++ t) with
          | none => rfl
          | some p =>
            obtain ⟨q1, q2⟩ := place_some hp
            rw [HN.out] at q1
            have e1 : n = (p : Int) := by injection q1
            refine absurd (ba_eq ?_) he
            rw [HSS.out, q2, HV.out, e1]
        exact this
      clear he
      go_wp2_with (first | (go_at_call 85; refine (nameOf_any n _ (HS.out.later HB2.out) (by omega) (by omega)).mono ?_; rintro e w3 ⟨rfl, hb3⟩; rw [← HV.out]))
      refine bodyPost_ret (v := .tuple #[.int .i64 n, .bool false]) (by simp [results, Tryz.results75, go_sem]) rfl ?_
      exact ⟨⟨n, false, rfl, Or.inr ⟨HR.out, rfl⟩⟩, HB2.out.trans (hb3.mono HB2.out.size)⟩
  · have HR : Hid (placeN (pre4 ++ t) = none) := by
      have : placeN (pre4 ++ t) = none := by
        cases hp : placeN (pre4 ++ t) with
        | none => rfl
        | some p =>
          obtain ⟨q1, _⟩ := place_some hp
          exact absurd (HU.out ▸ q1) (hn p)
      exact this
    clear hn
    go_wp2
    refine bodyPost_ret (v := .tuple #[.int .i64 n, .bool false]) (by simp [results, Tryz.results75, go_sem]) rfl ?_
    exact ⟨⟨n, false, rfl, Or.inr ⟨HR.out, rfl⟩⟩, hb2⟩
end Go.Proofs.YtckmjmpajbjbkaaGreatDoor
