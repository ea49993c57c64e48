/- Walks of layer 8: which keys may be. -/
import Derived.Test.YtkgkkcefnonejaaGreatT6
namespace Go.Proofs.YtkgkkcefnonejaaGreat
open Go.RowKit

set_option maxHeartbeats 4000000 in
set_option maxRecDepth 100000 in
theorem index_any (a : Option Addr) (cap : Nat) (l : List Int) (x : Int) (w : World) (hl : l.length ≤ 1099511627776) (hr : RowR 1 IntR w a l) :
    Calls Tryz.prog 143 #[.slice a l.length cap, .int .i64 x] w fun e w' => ∃ i : Int, e = .returned (.int .i64 i) ∧ decide (0 ≤ i) = decide (x ∈ l) ∧ ∃ n, w' = w.drewN n := by
  have HR := Lib.hid hr
  clear hr
  go_enter Tryz.func143, Tryz.ntmps143
  go_wp2
  go_loopw [8] (fun i wr => ∃ k : Nat, k ≤ l.length ∧ i = .int .i64 k ∧ (∀ j (h : j < l.length), j < k → l[j] ≠ x) ∧ ∃ n, wr = w.drewN n) (fun i _ => l.length - (intOf i).toNat)
  case atStart => exact ⟨0, Nat.zero_le _, rfl, fun j _ g => absurd g (Nat.not_lt_zero _), 0, rfl⟩
  case round =>
    obtain ⟨k, hk, rfl, hall, n, rfl⟩ := hrel
    have HA := Lib.hid hall
    clear hall
    by_cases hlt : k < l.length
    · have hlti : (k : Int) < (l.length : Int) := by omega
      obtain ⟨b, off, v0, rfl, hR, c0⟩ := HR.out.at1 hlt
      simp only [IntR] at hR
      simp only [List.cons.injEq, and_true] at hR
      obtain rfl := hR
      by_cases hx : x = l[k]
      · have HX : Hid (x ∈ l) := by rw [hx]; exact List.getElem_mem hlt
        have hx' : (x == l[k]) = true := by simpa using hx
        clear hx
        go_wp2
        all_goals go_ret
        all_goals exact ⟨_, rfl, by simp [HX.out], _, rfl⟩
      · have HA2 : Hid (∀ j (h : j < l.length), j < k + 1 → l[j] ≠ x) := fun j h g => by
          by_cases e : j = k
          · subst e; exact fun e => hx e.symm
          · exact HA.out j h (by omega)
        have hx' : (x == l[k]) = false := by simpa using hx
        clear hx
        go_wp2
        go_roundw
        case rel => exact ⟨k + 1, by omega, by go_num, HA2.out, _, rfl⟩
        case measure => simp [intOf]; omega
    · have hk' : k = l.length := by omega
      subst hk'
      have HX : Hid (¬ x ∈ l) := fun h => by
        obtain ⟨j, hj, e⟩ := List.getElem_of_mem h
        exact HA.out j hj hj e
      go_wp2
      go_ret
      exact ⟨-1, rfl, by simp [HX.out], _, rfl⟩

set_option maxHeartbeats 4000000 in
theorem contains_any (a : Option Addr) (cap : Nat) (l : List Int) (x : Int) (w : World) (hl : l.length ≤ 1099511627776) (hr : RowR 1 IntR w a l) :
    Calls Tryz.prog 128 #[.slice a l.length cap, .int .i64 x] w fun e w' => e = .returned (.bool (decide (x ∈ l))) ∧ Below w.heap.size w w' := by
  go_enter Tryz.func128, Tryz.ntmps128
  go_wp2_with fail
  refine (index_any a cap l x _ hl hr).mono ?_
  rintro e w1 ⟨i, rfl, hi, n, rfl⟩
  have HI := Lib.hid hi
  clear hi
  go_wp2
  go_ret
  exact ⟨ret_bool HI.out, below_drewN (Below.refl _ _) _⟩

set_option maxHeartbeats 4000000 in
theorem key1_any (p : Nat) (pc : Option Addr) (cc : Nat) (l : List Col) (x : Nat) (w : World) (hp : p < l.length) (c1 : w.cell? ⟨x, 1, none⟩ = some (.slice pc l.length cc)) (hr : RowR 3 ColR w pc l) :
    Calls Tryz.prog 130 #[.int .i64 (p : Int), .pointer (some ⟨x, 0, none⟩)] w fun e w' => e = .returned (.bool (nnB l (p : Int))) ∧ Below w.heap.size w w' := by
  obtain ⟨b, off, v0, v1, v2, rfl, hR, d0, d1, d2⟩ := hr.at3 hp
  simp only [ColR] at hR
  simp only [List.cons.injEq, and_true] at hR
  obtain ⟨rfl, rfl, rfl⟩ := hR
  have hpi : (p : Int) < (l.length : Int) := by omega
  have HE : Hid (nnB l (p : Int) = l[p].nn) := by
    show nnB l (p : Int) = _
    simp [nnB, hp]
  clear hr
  go_enter Tryz.func130, Tryz.ntmps130
  go_wp2
  go_ret
  exact ⟨ret_bool HE.out.symm, by (repeat (first | exact Below.refl _ _ | assumption | refine Below.drew ?_ | refine below_drewN ?_ _ | refine Below.alloc ?_ (by first | omega | (simp; done) | (simp; omega)) _ | refine Below.setCell ?_ (by first | omega | (simp; done) | (simp; omega)) _ | refine Below.trans ?_ (Below.mono (by assumption) (by first | omega | (simp; done) | (simp; omega)))))⟩

theorem mayPl_at {l : List Int} {m k : Nat} (h : mayPl l m = true) (hk : k < l.length) : ∃ p : Nat, l[k] = (p : Int) ∧ p < m := by
  simp only [mayPl, Bool.and_eq_true] at h
  have := allB_iff.1 h.2 k hk
  simp only [Bool.and_eq_true, List.getElem?_eq_getElem hk, Option.any_some, placeB, decide_eq_true_eq] at this
  exact ⟨l[k].toNat, by omega, by omega⟩
theorem mayPl_size {l : List Int} {m : Nat} (h : mayPl l m = true) : 1 ≤ l.length ∧ l.length ≤ 8 := by
  simp only [mayPl, Bool.and_eq_true, decide_eq_true_eq] at h
  exact h.1

set_option maxHeartbeats 8000000 in
set_option maxRecDepth 100000 in
theorem key_any (t : Tb) (vs : List Value) (w : World) (hR : TbR w t vs) (hm : t.cols.length ≤ 1099511627776) :
    Calls Tryz.prog 75 #[.agg vs.toArray] w fun e w' => e = .returned (.bool (mayKey t)) ∧ Below w.heap.size w w' := by
  obtain ⟨pc, cc, pk, ck, px, cx, rfl, r1, r2, r3⟩ := hR
  have HR1 := Lib.hid r1
  have HR2 := Lib.hid r2
  clear r1 r2 r3
  cases h1 : mayPl t.key t.cols.length with
  | false =>
    have HE : Hid (mayKey t = false) := by
      show mayKey t = false
      simp [mayKey, h1]
    go_enter Tryz.func75, Tryz.ntmps75
    go_wp2_with (first | (go_at_call 127; refine (places_any pk ck t.key t.cols.length _ hm (HR2.out.later (by (repeat (first | exact Below.refl _ _ | assumption | refine Below.drew ?_ | refine below_drewN ?_ _ | refine Below.alloc ?_ (by first | omega | (simp; done) | (simp; omega)) _ | refine Below.setCell ?_ (by first | omega | (simp; done) | (simp; omega)) _ | refine Below.trans ?_ (Below.mono (by assumption) (by first | omega | (simp; done) | (simp; omega)))))) fun _ _ h => h)).mono ?_; rintro e w1 ⟨rfl, hb⟩; rw [h1]))
    go_ret
    exact ⟨ret_bool HE.out.symm, by (repeat (first | exact Below.refl _ _ | assumption | refine Below.drew ?_ | refine below_drewN ?_ _ | refine Below.alloc ?_ (by first | omega | (simp; done) | (simp; omega)) _ | refine Below.setCell ?_ (by first | omega | (simp; done) | (simp; omega)) _ | refine Below.trans ?_ (Below.mono (by assumption) (by first | omega | (simp; done) | (simp; omega)))))⟩
  | true =>
    have hsz := mayPl_size h1
    have H1 := Lib.hid h1
    cases h2 : decide (t.part ∈ t.key) with
    | false =>
      have HE : Hid (mayKey t = false) := by
        show mayKey t = false
        simp [mayKey, h2]
      go_enter Tryz.func75, Tryz.ntmps75
      go_wp2_with (first
        | (go_at_call 127; refine (places_any pk ck t.key t.cols.length _ hm (HR2.out.later (by (repeat (first | exact Below.refl _ _ | assumption | refine Below.drew ?_ | refine below_drewN ?_ _ | refine Below.alloc ?_ (by first | omega | (simp; done) | (simp; omega)) _ | refine Below.setCell ?_ (by first | omega | (simp; done) | (simp; omega)) _ | refine Below.trans ?_ (Below.mono (by assumption) (by first | omega | (simp; done) | (simp; omega)))))) fun _ _ h => h)).mono ?_; rintro e w1 ⟨rfl, hb⟩; rw [h1]; obtain ⟨hc, hf⟩ := bcell hb; have hs := hb.size; simp at hs; have hz : w.heap.size < w1.heap.size := by omega)
        | (go_at_call 128; refine (contains_any pk ck t.key t.part _ (by omega) (HR2.out.later (by (repeat (first | exact Below.refl _ _ | assumption | refine Below.drew ?_ | refine below_drewN ?_ _ | refine Below.alloc ?_ (by first | omega | (simp; done) | (simp; omega)) _ | refine Below.setCell ?_ (by first | omega | (simp; done) | (simp; omega)) _ | refine Below.trans ?_ (Below.mono (by assumption) (by first | omega | (simp; done) | (simp; omega)))))) fun _ _ h => h)).mono ?_; rintro e w2 ⟨rfl, hb2⟩; rw [h2]))
      go_ret
      exact ⟨ret_bool HE.out.symm, by (repeat (first | exact Below.refl _ _ | assumption | refine Below.drew ?_ | refine below_drewN ?_ _ | refine Below.alloc ?_ (by first | omega | (simp; done) | (simp; omega)) _ | refine Below.setCell ?_ (by first | omega | (simp; done) | (simp; omega)) _ | refine Below.trans ?_ (Below.mono (by assumption) (by first | omega | (simp; done) | (simp; omega)))))⟩
    | true =>
      have HE : Hid (mayKey t = allB t.key.length (fun i => (t.key[i]?).any fun p => nnB t.cols p)) := by
        show mayKey t = _
        rw [mayKey, h1, h2]
        rfl
      go_enter Tryz.func75, Tryz.ntmps75
      go_wp2_with (first
        | (go_at_call 127; refine (places_any pk ck t.key t.cols.length _ hm (HR2.out.later (by (repeat (first | exact Below.refl _ _ | assumption | refine Below.drew ?_ | refine below_drewN ?_ _ | refine Below.alloc ?_ (by first | omega | (simp; done) | (simp; omega)) _ | refine Below.setCell ?_ (by first | omega | (simp; done) | (simp; omega)) _ | refine Below.trans ?_ (Below.mono (by assumption) (by first | omega | (simp; done) | (simp; omega)))))) fun _ _ h => h)).mono ?_; rintro e w1 ⟨rfl, hb⟩; rw [h1]; obtain ⟨hc, hf⟩ := bcell hb; have hs := hb.size; simp at hs; have hz : w.heap.size < w1.heap.size := by omega)
        | (go_at_call 128; refine (contains_any pk ck t.key t.part _ (by omega) (HR2.out.later (by (repeat (first | exact Below.refl _ _ | assumption | refine Below.drew ?_ | refine below_drewN ?_ _ | refine Below.alloc ?_ (by first | omega | (simp; done) | (simp; omega)) _ | refine Below.setCell ?_ (by first | omega | (simp; done) | (simp; omega)) _ | refine Below.trans ?_ (Below.mono (by assumption) (by first | omega | (simp; done) | (simp; omega)))))) fun _ _ h => h)).mono ?_; rintro e w2 ⟨rfl, hb2⟩; rw [h2]; obtain ⟨hc2, hf2⟩ := bcell hb2; have hs2 := hb2.size)
        | (go_at_call 129; refine (evIntA_any w _ pk ck t.key w.heap.size (fun i => (t.key[i]?).any fun p => nnB t.cols p) (fun k wr => wr.cell? ⟨w.heap.size, 1, none⟩ = some (.slice pc t.cols.length cc) ∧ Below w.heap.size w wr) (by omega) HR2.out ?_ ?_ ?_ ?_).mono ?_))
      · have hbb : Below w.heap.size w w2 := by (repeat (first | exact Below.refl _ _ | assumption | refine Below.drew ?_ | refine below_drewN ?_ _ | refine Below.alloc ?_ (by first | omega | (simp; done) | (simp; omega)) _ | refine Below.setCell ?_ (by first | omega | (simp; done) | (simp; omega)) _ | refine Below.trans ?_ (Below.mono (by assumption) (by first | omega | (simp; done) | (simp; omega)))))
        refine ⟨?_, hbb⟩
        rw [hc2 _ _ (by omega), hc _ _ (by simp)]
        simp
      · (repeat (first | exact Below.refl _ _ | assumption | refine Below.drew ?_ | refine below_drewN ?_ _ | refine Below.alloc ?_ (by first | omega | (simp; done) | (simp; omega)) _ | refine Below.setCell ?_ (by first | omega | (simp; done) | (simp; omega)) _ | refine Below.trans ?_ (Below.mono (by assumption) (by first | omega | (simp; done) | (simp; omega)))))
      · rintro k v1 v2 ⟨i1, i2⟩ hv
        exact ⟨cell_later hv i1, below_two i2 hv⟩
      · rintro k hk v1 ⟨i1, i2⟩ hv
        obtain ⟨p, e, hp⟩ := mayPl_at H1.out hk
        rw [e]
        refine (key1_any p pc cc t.cols w.heap.size v1 hp i1 (HR1.out.later i2 fun _ _ h => h)).mono ?_
        rintro e v2 ⟨rfl, g1⟩
        have e1 : ((t.key[k]?).any fun p => nnB t.cols p) = nnB t.cols (p : Int) := by
          rw [List.getElem?_eq_getElem hk]
          simp [*]
        exact ⟨ret_bool e1.symm, fun _ => ⟨cell_later g1 i1, below_two i2 g1⟩, below_two i2 g1⟩
      · rintro e w3 ⟨rfl, hb3⟩
        go_wp2
        go_ret
        exact ⟨ret_bool HE.out.symm, hb3⟩
end Go.Proofs.YtkgkkcefnonejaaGreat
