/- Walks of layer 1: what a literal may say, by the document: words and numbers. -/
import Derived.Test.YtkigilgoolnaaaaDoorV5
import Derived.Test.YtkigilgoolnaaaaDoorV9
namespace Go.Proofs.YtkigilgoolnaaaaDoor
open Go.RowKit

/-- Which digit a byte is. -/
noncomputable def plc (c : UInt8) : Nat := open Classical in if h : ∃ j, j < 16 ∧ hexd j = c then Classical.choose h else 0
theorem plc_at {j : Nat} {c : UInt8} (h : j < 16) (e : hexd j = c) : plc c = j := by
  have hx : ∃ j, j < 16 ∧ hexd j = c := ⟨j, h, e⟩
  unfold plc
  rw [dif_pos hx]
  have := Classical.choose_spec hx
  exact hexd_inj this.1 h (this.2.trans e.symm)
theorem plc_no {c : UInt8} (h : ∀ j, j < 16 → hexd j ≠ c) : plc c = 0 := by
  unfold plc
  rw [dif_neg]
  rintro ⟨j, a, b⟩
  exact h j a b
theorem plc_lt (c : UInt8) : plc c < 16 := by
  by_cases h : ∃ j, j < 16 ∧ hexd j = c
  · obtain ⟨j, a, b⟩ := h
    rw [plc_at a b]; exact a
  · rw [plc_no fun j a b => h ⟨j, a, b⟩]; decide

set_option maxHeartbeats 2000000 in
set_option maxRecDepth 100000 in
theorem place_any (c : UInt8) (w : World) :
    Calls Tryd.prog 57 #[.int .u8 (c.toNat : Int)] w fun e w' => e = .returned (.int .i64 (plc c : Int)) ∧ w' = w := by
  go_enter Tryd.func57, Tryd.ntmps57
  go_wp2
  go_loopw [3] (fun i wr => ∃ k : Nat, k ≤ 16 ∧ i = .int .i64 k ∧ (∀ j, j < k → hexd j ≠ c) ∧ wr = w) (fun i _ => 16 - (intOf i).toNat)
  case atStart => exact ⟨0, Nat.zero_le _, rfl, fun j h => absurd h (Nat.not_lt_zero _), rfl⟩
  case round =>
    obtain ⟨k, hk, rfl, hall, rfl⟩ := hrel
    have HA : Hid (∀ j, j < k → hexd j ≠ c) := hall
    clear hall
    by_cases hlt : k < 16
    · have k0 : (k : Int) < 16 := by omega
      have hx := fun h => hexd_at k h
      by_cases he : hexd k = c
      · have hb : (((hexd k).toNat : Int) == (c.toNat : Int)) = true := by rw [he]; simp
        have HP : Hid (plc c = k) := plc_at hlt he
        clear he
        go_wp2
        go_ret
        exact ⟨by rw [HP.out]; rfl, rfl⟩
      · have hb : (((hexd k).toNat : Int) == (c.toNat : Int)) = false := by
          rw [beq_eq_false_iff_ne]
          intro g
          exact he (UInt8.toNat_inj.1 (by omega))
        have HE : Hid (hexd k ≠ c) := he
        clear he
        go_wp2
        go_roundw
        case rel => exact ⟨k + 1, by omega, by go_num, fun j hj => by
          by_cases e : j = k
          · subst e; exact HE.out
          · exact HA.out j (by omega), by first | rfl | trivial⟩
        case measure => simp [intOf]; omega
    · have hk' : k = 16 := by omega
      subst hk'
      have HP : Hid (plc c = 0) := plc_no HA.out
      go_wp2
      go_ret
      exact ⟨by rw [HP.out]; rfl, rfl⟩

/-- What said answers. -/
def SaidP (s : ByteArray) (w : World) (e : Ending) (w' : World) : Prop := ∃ v : V3, e = .returned (.agg #[.int .i64 v.1, .int .i64 v.2.1, .string v.2.2]) ∧ (∀ u, LitOf s.data.toList u → v = u) ∧ Below w.heap.size w w'
theorem said_at {s : ByteArray} {w w' : World} (v : V3) (h : LitOf s.data.toList v) (hb : Below w.heap.size w w') : SaidP s w (.returned (.agg #[.int .i64 v.1, .int .i64 v.2.1, .string v.2.2])) w' := ⟨v, rfl, fun _ hu => lit_unique h hu, hb⟩
theorem said_no {s : ByteArray} {w w' : World} (v : V3) (h : ∀ u, ¬ LitOf s.data.toList u) (hb : Below w.heap.size w w') : SaidP s w (.returned (.agg #[.int .i64 v.1, .int .i64 v.2.1, .string v.2.2])) w' := ⟨v, rfl, fun u hu => absurd hu (h u), hb⟩
theorem lit_some {u : V3} (h : LitOf [] u) : False := by
  obtain ⟨hr, h⟩ := h
  rcases rt_kind hr with k | k | k | k
  · rw [lit_null k] at h; cases h
  · rw [lit_int k] at h
    obtain ⟨c, l, e, _⟩ := itoa_head u.2.1
    rw [e] at h; cases h
  · rcases (right_bool hr k).1 with q | q
    · rw [lit_false k q] at h; cases h
    · rw [lit_true k q] at h; cases h
  · rw [lit_text k, quo] at h; cases h

set_option maxHeartbeats 2000000 in
set_option maxRecDepth 100000 in
theorem said_words (s : ByteArray) (w : World) (h : s = ⟨#[78, 85, 76, 76]⟩ ∨ s = ⟨#[84, 82, 85, 69]⟩ ∨ s = ⟨#[70, 65, 76, 83, 69]⟩ ∨ s = ⟨#[]⟩) : Calls Tryd.prog 48 #[.string s] w (SaidP s w) := by
  rcases h with rfl | rfl | rfl | rfl
  · have hl : LitOf (⟨#[78, 85, 76, 76]⟩ : ByteArray).data.toList (0, 0, ⟨#[]⟩) := ⟨by decide +kernel, by decide +kernel⟩
    have HR : Hid (LitOf (⟨#[78, 85, 76, 76]⟩ : ByteArray).data.toList (0, 0, ⟨#[]⟩)) := hl
    clear hl
    go_enter Tryd.func48, Tryd.ntmps48
    go_wp2
    exact bodyPost_ret (v := .agg #[.int .i64 0, .int .i64 0, .string ⟨#[]⟩]) (by simp [results, Tryd.results48, go_sem, *]) rfl (said_at (0, 0, ⟨#[]⟩) HR.out (by (repeat (first | exact Below.refl _ _ | assumption | refine Below.drew ?_ | refine below_drewN ?_ _ | refine Below.alloc ?_ (by first | omega | (simp; done) | (simp; omega)) _ | refine Below.setCell ?_ (by first | omega | (simp; done) | (simp; omega)) _ | refine Below.trans ?_ (Below.mono (by assumption) (by first | omega | (simp; done) | (simp; omega)))))))
  · have hl : LitOf (⟨#[84, 82, 85, 69]⟩ : ByteArray).data.toList (2, b2i true, ⟨#[]⟩) := ⟨by decide +kernel, by decide +kernel⟩
    have HR : Hid (LitOf (⟨#[84, 82, 85, 69]⟩ : ByteArray).data.toList (2, b2i true, ⟨#[]⟩)) := hl
    clear hl
    go_enter Tryd.func48, Tryd.ntmps48
    go_wp2_with (first | (go_at_call 55; refine (bool_any _ _).mono ?_; rintro e w' ⟨rfl, hb⟩; obtain ⟨hc, hf⟩ := bcell hb; have hz := hb.size; (try simp at hz); (try have hz0 : w.heap.size < w'.heap.size := by omega); (try have hz1 : w.heap.size + 1 < w'.heap.size := by omega); (try have hz2 : w.heap.size + 1 + 1 < w'.heap.size := by omega); (try have hz3 : w.heap.size + 1 + 1 + 1 < w'.heap.size := by omega)))
    exact bodyPost_ret (v := .agg #[.int .i64 2, .int .i64 (b2i true), .string ⟨#[]⟩]) (by simp [results, Tryd.results48, go_sem, *]) rfl (said_at (2, b2i true, ⟨#[]⟩) HR.out (by (repeat (first | exact Below.refl _ _ | assumption | refine Below.drew ?_ | refine below_drewN ?_ _ | refine Below.alloc ?_ (by first | omega | (simp; done) | (simp; omega)) _ | refine Below.setCell ?_ (by first | omega | (simp; done) | (simp; omega)) _ | refine Below.trans ?_ (Below.mono (by assumption) (by first | omega | (simp; done) | (simp; omega)))))))
  · have hl : LitOf (⟨#[70, 65, 76, 83, 69]⟩ : ByteArray).data.toList (2, b2i false, ⟨#[]⟩) := ⟨by decide +kernel, by decide +kernel⟩
    have HR : Hid (LitOf (⟨#[70, 65, 76, 83, 69]⟩ : ByteArray).data.toList (2, b2i false, ⟨#[]⟩)) := hl
    clear hl
    go_enter Tryd.func48, Tryd.ntmps48
    go_wp2_with (first | (go_at_call 55; refine (bool_any _ _).mono ?_; rintro e w' ⟨rfl, hb⟩; obtain ⟨hc, hf⟩ := bcell hb; have hz := hb.size; (try simp at hz); (try have hz0 : w.heap.size < w'.heap.size := by omega); (try have hz1 : w.heap.size + 1 < w'.heap.size := by omega); (try have hz2 : w.heap.size + 1 + 1 < w'.heap.size := by omega); (try have hz3 : w.heap.size + 1 + 1 + 1 < w'.heap.size := by omega)))
    exact bodyPost_ret (v := .agg #[.int .i64 2, .int .i64 (b2i false), .string ⟨#[]⟩]) (by simp [results, Tryd.results48, go_sem, *]) rfl (said_at (2, b2i false, ⟨#[]⟩) HR.out (by (repeat (first | exact Below.refl _ _ | assumption | refine Below.drew ?_ | refine below_drewN ?_ _ | refine Below.alloc ?_ (by first | omega | (simp; done) | (simp; omega)) _ | refine Below.setCell ?_ (by first | omega | (simp; done) | (simp; omega)) _ | refine Below.trans ?_ (Below.mono (by assumption) (by first | omega | (simp; done) | (simp; omega)))))))
  · go_enter Tryd.func48, Tryd.ntmps48
    go_wp2
    exact bodyPost_ret (v := .agg #[.int .i64 0, .int .i64 0, .string ⟨#[]⟩]) (by simp [results, Tryd.results48, go_sem, *]) rfl (said_no (0, 0, ⟨#[]⟩) (fun u hu => lit_some hu) (by (repeat (first | exact Below.refl _ _ | assumption | refine Below.drew ?_ | refine below_drewN ?_ _ | refine Below.alloc ?_ (by first | omega | (simp; done) | (simp; omega)) _ | refine Below.setCell ?_ (by first | omega | (simp; done) | (simp; omega)) _ | refine Below.trans ?_ (Below.mono (by assumption) (by first | omega | (simp; done) | (simp; omega)))))))

theorem take_mg {s : ByteArray} {k : Nat} (h : k < s.size) : mg (s.data.toList.take (k + 1)) = if s[k].toNat = 45 then mg (s.data.toList.take k) else 10 * mg (s.data.toList.take k) + (s[k].toNat - 48) := by
  have e : s.data.toList.take (k + 1) = s.data.toList.take k ++ [s[k]] := by
    rw [List.take_succ_eq_append_getElem (by simpa using h)]
    rfl
  rw [e, mg_snoc]
theorem take_mg_le (s : ByteArray) (k : Nat) : mg (s.data.toList.take k) ≤ mg s.data.toList := by
  have := mg_le (s.data.toList.take k) (s.data.toList.drop k)
  rw [List.take_append_drop] at this
  exact this

set_option maxHeartbeats 2000000 in
set_option maxRecDepth 100000 in
theorem said_num (s : ByteArray) (w : World) (n : Int) (n1 : (s.toList == [78, 85, 76, 76]) = false) (n2 : (s.toList == [84, 82, 85, 69]) = false) (n3 : (s.toList == [70, 65, 76, 83, 69]) = false) (n4 : (s.toList == []) = false)
    (h0 : 0 < s.size) (c0 : ¬ s[0].toNat = 39) (hl : LitOf s.data.toList (1, n, ⟨#[]⟩)) : Calls Tryd.prog 48 #[.string s] w (SaidP s w) := by
  obtain ⟨b1, b2, _⟩ := rt_num hl.1 rfl
  have hit : Lib.itoa n = s.data.toList := by have := hl.2; rw [lit_int rfl] at this; exact this
  simp only at b1 b2
  have hsz : s.size ≤ 20 := by
    have h1 := itoa_len b1 b2
    rw [hit] at h1
    simpa using h1
  have HM : Hid (mg s.data.toList = n.natAbs) := by
    have h1 := itoa_mg n
    rw [hit] at h1
    exact h1
  have HB : Hid (∀ k (h : k < s.size), s[k].toNat = 45 ∨ 48 ≤ s[k].toNat ∧ s[k].toNat ≤ 57) := fun k h => by
    have h1 := itoa_bytes n s[k]
    rw [hit] at h1
    exact h1 (by rw [List.mem_iff_getElem]; exact ⟨k, by simpa using h, rfl⟩)
  have hsg : s[0].toNat = 45 ↔ n < 0 := by
    obtain ⟨c, l, e, h1⟩ := itoa_sign n
    rw [hit] at e
    have e0 : s.data.toList[0]? = some s[0] := by rw [List.getElem?_eq_getElem (by simpa using h0)]; rfl
    rw [e] at e0
    have e1 := Option.some.inj e0
    rw [← e1]
    exact h1
  have HSG : Hid (s[0].toNat = 45 ↔ n < 0) := hsg
  have HL : Hid (LitOf s.data.toList (1, n, ⟨#[]⟩)) := hl
  have c0' : ((s[0].toNat : Int) != 39) = true := by simp; omega
  have h0i : (0 : Int) < (s.size : Int) := by omega
  clear hl hit hsg c0
  go_enter Tryd.func48, Tryd.ntmps48
  go_wp2
  go_loopw [3, 4] (fun x i wr => ∃ (k : Nat) (X : Int), k ≤ s.size ∧ i = .int .i64 k ∧ x = .int .i64 X ∧ X = -(mg (s.data.toList.take k) : Int) ∧ wr = w.alloc (.cells #[.int .i64 0, .int .i64 0, .string ⟨#[]⟩] 37)) (fun _ i _ => s.size - (intOf i).toNat)
  case atStart => exact ⟨0, 0, Nat.zero_le _, rfl, rfl, rfl, rfl⟩
  case round =>
    obtain ⟨k, X, hk, rfl, rfl, hX, rfl⟩ := hrel
    have hle := take_mg_le s (k + 1)
    have hle0 := take_mg_le s k
    rw [HM.out] at hle hle0
    by_cases hlt : k < s.size
    · have hst := take_mg hlt
      have k0 : (k : Int) < (s.size : Int) := by omega
      have k1 : (k : Int) < 20 := by omega
      by_cases hc : s[k].toNat = 45
      · have hc' : ((s[k].toNat : Int) != 45) = false := by simp; omega
        rw [if_pos hc] at hst
        have HX : Hid (X = -(mg (s.data.toList.take (k + 1)) : Int)) := by
          have : X = -(mg (s.data.toList.take (k + 1)) : Int) := by rw [hst]; exact hX
          exact this
        clear hX hst hle hle0 hc
        go_wp2
        go_roundw
        case rel => exact ⟨k + 1, X, by omega, by go_num, rfl, HX.out, by first | rfl | trivial⟩
        case measure => simp [intOf]; omega
      · have hc' : ((s[k].toNat : Int) != 45) = true := by simp; omega
        have hr := HB.out k hlt
        rw [if_neg hc] at hst
        obtain ⟨c, hcc⟩ : ∃ c : Int, (s[k].toNat : Int) = c := ⟨_, rfl⟩
        have f1 : -4611686018427387904 ≤ 10 * X := by omega
        have f2 : 10 * X ≤ 0 := by omega
        have f3 : 48 ≤ c := by omega
        have f4 : c ≤ 57 := by omega
        have HX : Hid (10 * X - c + 48 = -(mg (s.data.toList.take (k + 1)) : Int)) := by
          have : 10 * X - c + 48 = -(mg (s.data.toList.take (k + 1)) : Int) := by omega
          exact this
        rw [hcc] at hc'
        clear hX hst hle hle0 hc hr
        go_wp2
        go_roundw
        case rel => exact ⟨k + 1, 10 * X - c + 48, by omega, by go_num, by go_num, HX.out, by first | rfl | trivial⟩
        case measure => simp [intOf]; omega
    · have hk' : k = s.size := by omega
      subst hk'
      have htk : s.data.toList.take s.size = s.data.toList := List.take_of_length_le (by simp)
      rw [htk, HM.out] at hX
      clear hle hle0 htk
      by_cases hn : n < 0
      · have g0 : ((s[0].toNat : Int) != 45) = false := by have := HSG.out.2 hn; simp; omega
        have HX : Hid (X = n) := by
          have : X = n := by omega
          exact this
        clear hX hn
        go_wp2_with (first | (go_at_call 56; refine (rnumber_any _ _).mono ?_; rintro e w' ⟨rfl, hb⟩; obtain ⟨hc, hf⟩ := bcell hb; have hz := hb.size; (try simp at hz); (try have hz0 : w.heap.size < w'.heap.size := by omega); (try have hz1 : w.heap.size + 1 < w'.heap.size := by omega); (try have hz2 : w.heap.size + 1 + 1 < w'.heap.size := by omega); (try have hz3 : w.heap.size + 1 + 1 + 1 < w'.heap.size := by omega)))
        exact bodyPost_ret (v := .agg #[.int .i64 1, .int .i64 X, .string ⟨#[]⟩]) (by simp [results, Tryd.results48, go_sem, *]) rfl (by rw [HX.out]; exact said_at (1, n, ⟨#[]⟩) HL.out (by (repeat (first | exact Below.refl _ _ | assumption | refine Below.drew ?_ | refine below_drewN ?_ _ | refine Below.alloc ?_ (by first | omega | (simp; done) | (simp; omega)) _ | refine Below.setCell ?_ (by first | omega | (simp; done) | (simp; omega)) _ | refine Below.trans ?_ (Below.mono (by assumption) (by first | omega | (simp; done) | (simp; omega)))))))
      · have g0 : ((s[0].toNat : Int) != 45) = true := by
          have h1 : ¬ s[0].toNat = 45 := fun h => hn (HSG.out.1 h)
          simp; omega
        have hX2 : X = -n := by omega
        subst hX2
        clear hX
        go_wp2_with (first | (go_at_call 56; refine (rnumber_any _ _).mono ?_; rintro e w' ⟨rfl, hb⟩; obtain ⟨hc, hf⟩ := bcell hb; have hz := hb.size; (try simp at hz); (try have hz0 : w.heap.size < w'.heap.size := by omega); (try have hz1 : w.heap.size + 1 < w'.heap.size := by omega); (try have hz2 : w.heap.size + 1 + 1 < w'.heap.size := by omega); (try have hz3 : w.heap.size + 1 + 1 + 1 < w'.heap.size := by omega)))
        exact bodyPost_ret (v := .agg #[.int .i64 1, .int .i64 n, .string ⟨#[]⟩]) (by simp [results, Tryd.results48, go_sem, *]) rfl (said_at (1, n, ⟨#[]⟩) HL.out (by (repeat (first | exact Below.refl _ _ | assumption | refine Below.drew ?_ | refine below_drewN ?_ _ | refine Below.alloc ?_ (by first | omega | (simp; done) | (simp; omega)) _ | refine Below.setCell ?_ (by first | omega | (simp; done) | (simp; omega)) _ | refine Below.trans ?_ (Below.mono (by assumption) (by first | omega | (simp; done) | (simp; omega)))))))

set_option maxHeartbeats 2000000 in
set_option maxRecDepth 100000 in
theorem said_none (s : ByteArray) (w : World) (hs : s.size ≤ 2147483648) (n1 : (s.toList == [78, 85, 76, 76]) = false) (n2 : (s.toList == [84, 82, 85, 69]) = false) (n3 : (s.toList == [70, 65, 76, 83, 69]) = false) (n4 : (s.toList == []) = false)
    (h0 : 0 < s.size) (c0 : ¬ s[0].toNat = 39) (hl : ∀ u, ¬ LitOf s.data.toList u) : Calls Tryd.prog 48 #[.string s] w (SaidP s w) := by
  have HL : Hid (∀ u, ¬ LitOf s.data.toList u) := hl
  have c0' : ((s[0].toNat : Int) != 39) = true := by simp; omega
  have h0i : (0 : Int) < (s.size : Int) := by omega
  clear hl c0
  go_enter Tryd.func48, Tryd.ntmps48
  go_wp2
  go_loopw [3, 4] (fun x i wr => ∃ (k : Nat) (X : Int), k ≤ s.size ∧ i = .int .i64 k ∧ x = .int .i64 X ∧ wr = w.alloc (.cells #[.int .i64 0, .int .i64 0, .string ⟨#[]⟩] 37)) (fun _ i _ => s.size - (intOf i).toNat)
  case atStart => exact ⟨0, 0, Nat.zero_le _, rfl, rfl, rfl⟩
  case round =>
    obtain ⟨k, X, hk, rfl, rfl, rfl⟩ := hrel
    have hcase : ((k : Int) < (s.size : Int) ∧ (k : Int) < 20) ∨ ¬ (k : Int) < (s.size : Int) ∨ ((k : Int) < (s.size : Int) ∧ ¬ (k : Int) < 20) := by omega
    have hg : ((s[0].toNat : Int) != 45) = true ∨ ((s[0].toNat : Int) != 45) = false := by cases ((s[0].toNat : Int) != 45) <;> simp
    rcases hcase with ⟨k0, k1⟩ | k0 | ⟨k0, k1⟩
    · have hlt : k < s.size := by omega
      have hc : ((s[k].toNat : Int) != 45) = true ∨ ((s[k].toNat : Int) != 45) = false := by cases ((s[k].toNat : Int) != 45) <;> simp
      clear hg
      rcases hc with hc | hc
      all_goals
        go_wp2
        go_roundw
        case rel => exact ⟨k + 1, _, by omega, by go_num, rfl, by first | rfl | trivial⟩
        case measure => simp [intOf]; omega
    all_goals
      rcases hg with g0 | g0
      all_goals
        go_wp2_with fail
        refine (rnumber_any _ _).mono ?_
        rintro e w' ⟨rfl, hb⟩
        (obtain ⟨hc, hf⟩ := bcell hb; have hz := hb.size; (try simp at hz); (try have hz0 : w.heap.size < w'.heap.size := by omega); (try have hz1 : w.heap.size + 1 < w'.heap.size := by omega); (try have hz2 : w.heap.size + 1 + 1 < w'.heap.size := by omega); (try have hz3 : w.heap.size + 1 + 1 + 1 < w'.heap.size := by omega))
        go_wp2
        refine bodyPost_ret (by simp [results, Tryd.results48, go_sem, *]; rfl) rfl (said_no (1, _, ⟨#[]⟩) HL.out (by (repeat (first | exact Below.refl _ _ | assumption | refine Below.drew ?_ | refine below_drewN ?_ _ | refine Below.alloc ?_ (by first | omega | (simp; done) | (simp; omega)) _ | refine Below.setCell ?_ (by first | omega | (simp; done) | (simp; omega)) _ | refine Below.trans ?_ (Below.mono (by assumption) (by first | omega | (simp; done) | (simp; omega)))))))
end Go.Proofs.YtkigilgoolnaaaaDoor
