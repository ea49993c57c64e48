/- Walks of layer 2, twelfth part: the values of a key. -/
import Derived.Test.YtbmgcibclmbelabDoorK11
import Derived.Test.YtbmgcibclmbelabDoorW23
namespace Go.Proofs.YtbmgcibclmbelabDoor
open Go.RowKit

/-- How long a text is. -/
def strLen : Value → Nat
  | .string s => s.size
  | _ => 0
/-- What Decode answers: values of its own and an error. -/
def DV (s : ByteArray) (w : World) (e : Ending) (w' : World) : Prop := ∃ v : Value, e = .returned (.tuple #[v, .int .i64 (decR s.data.toList).2]) ∧ w'.ownsRow w.heap.size 33 3 v (decR s.data.toList).1.length (vc (decR s.data.toList).1) ∧ Below w.heap.size w w'
theorem dv_ok {s : ByteArray} {w : World} {v : Value} {vs : List V3} {w' : World} (h : KeyOf s.data.toList vs) (ho : w'.ownsRow w.heap.size 33 3 v vs.length (vc vs)) (hb : Below w.heap.size w w') : DV s w (.returned (.tuple #[v, .int .i64 0])) w' := by
  refine ⟨v, ?_, ?_, hb⟩
  · rw [decR_ok h]
  · rw [decR_ok h]; exact ho
theorem dv_no {s : ByteArray} {w w' : World} (h : ∀ vs, ¬ KeyOf s.data.toList vs) (hb : Below w.heap.size w w') : DV s w (.returned (.tuple #[.slice none 0 0, .int .i64 20])) w' := by
  refine ⟨.slice none 0 0, ?_, ?_, hb⟩
  · rw [decR_no h]
  · rw [decR_no h]; exact World.ownsRow_nil _ _ _ _
theorem ext_drop {t : ByteArray} {n : Nat} : (t.extract n t.size).data.toList = t.data.toList.drop n := by
  simp
  exact List.take_of_length_le (by simp)

set_option maxHeartbeats 4000000 in
set_option maxRecDepth 100000 in
theorem dec_any (s : ByteArray) (w : World) (hs : s.size ≤ 2147483648) : Calls Tryd.prog 9 #[.string s] w (DV s w) := by
  obtain ⟨i0, hi, hz0, hz1, hz2⟩ := info_parts Tryd.info23
  go_enter Tryd.func9, Tryd.ntmps9
  go_wp2
  go_loopw [0, 4] (fun a l wr => ∃ (t : ByteArray) (vs : List V3), a = .string t ∧ t.size ≤ s.size ∧ s.data.toList = kbs vs ++ t.data.toList ∧ (∀ v ∈ vs, V3.right v = true) ∧ vs.length ≤ 8 ∧ wr.ownsRow w.heap.size 33 3 l vs.length (vc vs) ∧ Below w.heap.size w wr) (fun a _ _ => strLen a)
  case atStart => exact ⟨s, [], rfl, Nat.le_refl _, rfl, by simp, by simp, World.ownsRow_nil _ _ _ _, Below.refl _ _⟩
  case round =>
    obtain ⟨t, vs, rfl, hts, hsp, hall, h8, hown, hb⟩ := hrel
    have HS : Hid (s.data.toList = kbs vs ++ t.data.toList) := hsp
    have HA : Hid (∀ v ∈ vs, V3.right v = true) := hall
    clear hsp hall
    have hsz := hb.size
    by_cases ht : t.size = 0
    · have hte : t = ⟨#[]⟩ := ba_ext (by
        have : t.data.toList.length = 0 := by simpa using ht
        rw [List.eq_nil_of_length_eq_zero this])
      subst hte
      have HK : Hid (KeyOf s.data.toList vs) := ⟨h8, HA.out, by have := HS.out; simpa using this.symm⟩
      clear ht
      go_wp2
      exact bodyPost_ret (by simp [results, Tryd.results9, go_sem]) rfl (dv_ok HK.out hown hb)
    · have htl : t.data.toList ≠ [] := by
        intro h
        apply ht
        have : t.data.toList.length = 0 := by rw [h]; rfl
        simpa using this
      have ht1 : (t.toList == []) = false := by rw [beq_eq_false_iff_ne, ByteArray.toList_eq]; exact htl
      have ht2 : t.toList.isEmpty = false := by rw [ByteArray.toList_eq]; simpa using htl
      have ht3 : (t.toList != []) = true := by rw [bne_iff_ne, ByteArray.toList_eq]; exact htl
      have HTL : Hid (t.data.toList ≠ []) := htl
      clear htl
      go_wp2_with fail
      refine (rval_any t _ (by omega) (by omega)).mono ?_
      rintro e w1 ⟨v, n, rfl, hrv, hb1⟩
      have HRV : Hid (RV t.data.toList v n) := hrv
      clear hrv ht1 ht2 ht3
      have hown1 := own_later hown hb1
      have hz1' := hb1.size
      have hbw1 : Below w.heap.size w w1 := hb.trans (hb1.mono hsz)
      clear hown hb1 hb
      by_cases hn0 : n = 0
      · have HN : Hid (∀ us, ¬ KeyOf s.data.toList us) := dec_stuck HS.out HA.out HTL.out HRV.out (Or.inl hn0)
        subst hn0
        clear hown1
        go_wp2
        exact bodyPost_ret (by simp [results, Tryd.results9, go_sem]) rfl (dv_no HN.out (by (repeat (first | exact Below.refl _ _ | assumption | refine Below.drew ?_ | refine below_drewN ?_ _ | refine Below.alloc ?_ (by first | omega | (simp; done) | (simp; omega)) _ | refine Below.setCell ?_ (by first | omega | (simp; done) | (simp; omega)) _ | refine Below.trans ?_ (Below.mono (by assumption) (by first | omega | (simp; done) | (simp; omega)))))))
      · have hn0' : ((n : Int) == 0) = false := by rw [beq_eq_false_iff_ne]; omega
        have hnl : n ≤ t.size := by
          rcases HRV.out with ⟨h, _⟩ | ⟨_, h, _⟩
          · exact absurd h hn0
          · simpa using h
        cases hrt : V3.right v with
        | false =>
          have HN : Hid (∀ us, ¬ KeyOf s.data.toList us) := dec_stuck HS.out HA.out HTL.out HRV.out (Or.inr (Or.inl hrt))
          have hrg : rgt v.1 v.2.1 v.2.2 = false := hrt
          clear hown1 hrt
          go_wp2_with (first | (go_at_call 11; refine (right_any _ _ _ _).mono ?_; rintro e w2 ⟨rfl, hb2⟩; rw [hrg]))
          exact bodyPost_ret (by simp [results, Tryd.results9, go_sem]) rfl (dv_no HN.out (by (repeat (first | exact Below.refl _ _ | assumption | refine Below.drew ?_ | refine below_drewN ?_ _ | refine Below.alloc ?_ (by first | omega | (simp; done) | (simp; omega)) _ | refine Below.setCell ?_ (by first | omega | (simp; done) | (simp; omega)) _ | refine Below.trans ?_ (Below.mono (by assumption) (by first | omega | (simp; done) | (simp; omega)))))))
        | true =>
          have hrg : rgt v.1 v.2.1 v.2.2 = true := hrt
          by_cases h88 : vs.length = 8
          · have HN : Hid (∀ us, ¬ KeyOf s.data.toList us) := dec_stuck HS.out HA.out HTL.out HRV.out (Or.inr (Or.inr h88))
            obtain ⟨la, lc, rfl, _⟩ := Row.of_own hown1
            have h88' : ((vs.length : Int) == 8) = true := by rw [beq_iff_eq]; omega
            clear hown1 hrt h88
            go_wp2_with (first | (go_at_call 11; refine (right_any _ _ _ _).mono ?_; rintro e w2 ⟨rfl, hb2⟩; rw [hrg]))
            exact bodyPost_ret (by simp [results, Tryd.results9, go_sem]) rfl (dv_no HN.out (by (repeat (first | exact Below.refl _ _ | assumption | refine Below.drew ?_ | refine below_drewN ?_ _ | refine Below.alloc ?_ (by first | omega | (simp; done) | (simp; omega)) _ | refine Below.setCell ?_ (by first | omega | (simp; done) | (simp; omega)) _ | refine Below.trans ?_ (Below.mono (by assumption) (by first | omega | (simp; done) | (simp; omega)))))))
          · have h88' : ((vs.length : Int) == 8) = false := by rw [beq_eq_false_iff_ne]; omega
            have HRT : Hid (V3.right v = true) := hrt
            have HS2 : Hid (s.data.toList = kbs (vs ++ [v]) ++ (t.extract n t.size).data.toList) := by
              have := dec_more HS.out HRV.out hn0 hrt
              rw [ext_drop]
              exact this
            obtain ⟨la, lc, rfl, _⟩ := Row.of_own hown1
            have hnl1 : (n : Int) ≤ (t.size : Int) := by omega
            clear hrt
            go_wp2_with fail
            refine (right_any _ _ _ _).mono ?_
            rintro e w2 ⟨rfl, hb2⟩
            rw [hrg]
            have hz2' := hb2.size
            simp at hz2'
            have hown2 := own_later (hown1.alloc _) hb2
            have e0 : w2.cell? ⟨w1.heap.size, 0, none⟩ = some (.int .i64 v.1) := cell_later hb2 (by simp)
            have e1 : w2.cell? ⟨w1.heap.size, 1, none⟩ = some (.int .i64 v.2.1) := cell_later hb2 (by simp)
            have e2 : w2.cell? ⟨w1.heap.size, 2, none⟩ = some (.string v.2.2) := cell_later hb2 (by simp)
            have hbw2 : Below w.heap.size w w2 := by (repeat (first | exact Below.refl _ _ | assumption | refine Below.drew ?_ | refine below_drewN ?_ _ | refine Below.alloc ?_ (by first | omega | (simp; done) | (simp; omega)) _ | refine Below.setCell ?_ (by first | omega | (simp; done) | (simp; omega)) _ | refine Below.trans ?_ (Below.mono (by assumption) (by first | omega | (simp; done) | (simp; omega)))))
            have hlt2 := hown2.lt
            clear hown1 hb2 hrg
            go_wp2_with (first | (at_builtin; refine wpList_append_own _ rfl _ _ 25 rfl w.heap.size 33 i0 _ 3 32 Tryd.underlying25 hi hz0 hz1 hz2 rfl (by decide) _ _ _ rfl (hown2.alloc _) ⟨w2.heap.size, 0, none⟩ 1 1 (vc [v]) rfl rfl ?c1 ?c2 ?c3 ?c4 ?c5 ?_))
            case c1 => exact cells_new w2 v _
            case c2 => exact vc_one _
            case c3 => unfold maxLen; omega
            case c4 => omega
            case c5 => simp; omega
            · intro v' w3 hown3 hgrow _
              have hbb : Below w.heap.size w w3 := (hbw2.alloc (by omega) _).grown hgrow (by simp; omega) fun k hk => (hlt2 k hk).1
              rw [← vc_append] at hown3
              clear hgrow hown2 hlt2 e0 e1 e2
              go_wp2
              go_roundw
              case rel => exact ⟨t.extract n t.size, vs ++ [v], rfl, by simp; omega, HS2.out, fun x hx => by rcases List.mem_append.1 hx with h | h; exact HA.out x h; rw [List.mem_singleton.1 h]; exact HRT.out, by simp; omega, by simpa using hown3, hbb⟩
              case measure => simp [strLen]; omega
end Go.Proofs.YtbmgcibclmbelabDoor
