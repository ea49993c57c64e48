/- Walks of layer 1: a byte out of two digits. -/
import Derived.Test.YtlooelldkbdomaaGreatDoorV1
import Derived.Deep.QuietTactic
import Derived.BigQuiet
import Derived.Lib.Hide
namespace Go.Proofs.YtlooelldkbdomaaGreatDoor
open Go.RowKit

/-- The place of a byte among the digits. -/
def hx (c : UInt8) : Int := Lib.indexByte [48, 49, 50, 51, 52, 53, 54, 55, 56, 57, 97, 98, 99, 100, 101, 102] c
theorem hx_range (c : UInt8) : -1 ≤ hx c ∧ hx c ≤ 15 := by
  have : ∀ c : Fin 256, -1 ≤ hx (UInt8.ofNat c.val) ∧ hx (UInt8.ofNat c.val) ≤ 15 := by decide +kernel
  have h := this ⟨c.toNat, UInt8.toNat_lt c⟩
  simpa using h
theorem hx_hexd (i : Nat) (h : i < 16) : hx (hexd i) = i := by
  have : ∀ i : Fin 16, hx (hexd i.val) = (i.val : Int) := by decide +kernel
  exact this ⟨i, h⟩

theorem hexor (h l : Nat) (hh : h < 16) (hl : l < 16) : bits BinOp.or IntKind.i64 ((h : Int) * 16) (l : Int) % 256 = ((h * 16 + l : Nat) : Int) := by
  have : ∀ h l : Fin 16, bits BinOp.or IntKind.i64 ((h.val : Int) * 16) (l.val : Int) % 256 = ((h.val * 16 + l.val : Nat) : Int) := by decide +kernel
  exact this ⟨h, hh⟩ ⟨l, hl⟩
/-- What hexByte answers. -/
def HexP (s : ByteArray) (w : World) (e : Ending) (w' : World) : Prop := ∃ (b : UInt8) (ok : Bool), e = .returned (.tuple #[.int .u8 (b.toNat : Int), .bool ok]) ∧ (∀ d : UInt8, [hexd (d.toNat / 16), hexd (d.toNat % 16)] <+: s.data.toList → ok = true ∧ b = d) ∧ (ok = true → 2 ≤ s.size) ∧ Below w.heap.size w w'
theorem two_bytes {s : ByteArray} (h : 1 < s.size) {c d : UInt8} (g : [c, d] <+: s.data.toList) : s[0] = c ∧ s[1] = d := by
  obtain ⟨t, e⟩ := g
  have e0 : s.data.toList[0]? = some c := by rw [← e]; rfl
  have e1 : s.data.toList[1]? = some d := by rw [← e]; rfl
  rw [List.getElem?_eq_getElem (by simp; omega)] at e0 e1
  exact ⟨Option.some.inj e0, Option.some.inj e1⟩

set_option maxHeartbeats 2000000 in
set_option maxRecDepth 100000 in
theorem hex_any (s : ByteArray) (w : World) : Calls Tryz.prog 176 #[.string s] w (HexP s w) := by
  by_cases h2 : s.size < 2
  · have h2i : (s.size : Int) < 2 := by omega
    go_enter Tryz.func176, Tryz.ntmps176
    go_wp2
    refine bodyPost_ret (v := .tuple #[.int .u8 0, .bool false]) (by simp [results, Tryz.results176, go_sem]) rfl ⟨0, false, rfl, ?_, by simp, by (repeat (first | exact Below.refl _ _ | assumption | refine Below.drew ?_ | refine below_drewN ?_ _ | refine Below.alloc ?_ (by first | omega | (simp; done) | (simp; omega)) _ | refine Below.setCell ?_ (by first | omega | (simp; done) | (simp; omega)) _ | refine Below.trans ?_ (Below.mono (by assumption) (by first | omega | (simp; done) | (simp; omega)))))⟩
    intro d hd
    have := hd.length_le
    simp at this
    omega
  · have h2i : ¬ (s.size : Int) < 2 := by omega
    have h0 : (0 : Int) < (s.size : Int) := by omega
    have h1 : (1 : Int) < (s.size : Int) := by omega
    have q0 : 0 < s.size := by omega
    have q1 : 1 < s.size := by omega
    obtain ⟨H, hH⟩ : ∃ H, Lib.indexByte [48, 49, 50, 51, 52, 53, 54, 55, 56, 57, 97, 98, 99, 100, 101, 102] s[0] = H := ⟨_, rfl⟩
    obtain ⟨L, hL⟩ : ∃ L, Lib.indexByte [48, 49, 50, 51, 52, 53, 54, 55, 56, 57, 97, 98, 99, 100, 101, 102] s[1] = L := ⟨_, rfl⟩
    have bH : -1 ≤ H ∧ H ≤ 15 := by have := hx_range s[0]; unfold hx at this; rw [hH] at this; exact this
    have bL : -1 ≤ L ∧ L ≤ 15 := by have := hx_range s[1]; unfold hx at this; rw [hL] at this; exact this
    have HD : Hid (∀ d : UInt8, [hexd (d.toNat / 16), hexd (d.toNat % 16)] <+: s.data.toList → H = ((d.toNat / 16 : Nat) : Int) ∧ L = ((d.toNat % 16 : Nat) : Int)) := fun d hd => by
      have hdl := UInt8.toNat_lt d
      obtain ⟨a, b⟩ := two_bytes q1 hd
      have c1 := hx_hexd (d.toNat / 16) (by omega)
      have c2 := hx_hexd (d.toNat % 16) (by omega)
      unfold hx at c1 c2
      rw [a, c1] at hH
      rw [b, c2] at hL
      exact ⟨hH.symm, hL.symm⟩
    clear h2
    have hcs : H < 0 ∨ (¬ H < 0 ∧ L < 0) ∨ (¬ H < 0 ∧ ¬ L < 0 ∧ ∃ h l : Nat, H = (h : Int) ∧ L = (l : Int) ∧ h < 16 ∧ l < 16) := by
      by_cases a : H < 0
      · exact Or.inl a
      · by_cases b : L < 0
        · exact Or.inr (Or.inl ⟨a, b⟩)
        · exact Or.inr (Or.inr ⟨a, b, H.toNat, L.toNat, by omega, by omega, by omega, by omega⟩)
    rcases hcs with a | ⟨a, b⟩ | ⟨a, b, h, l, rfl, rfl, hh, hl⟩
    · go_enter Tryz.func176, Tryz.ntmps176
      go_wp2
      go_region_held3 (fun _ => True) (trivial) (first | (go_at_call 113; refine (Tryz.strings_IndexByte _ _ _).mono ?_; rintro e w' ⟨rfl, rfl⟩))
      all_goals
        go_wp2
        refine bodyPost_ret (v := .tuple #[.int .u8 0, .bool false]) (by simp [results, Tryz.results176, go_sem]) rfl ⟨0, false, rfl, ?_, by simp, by (repeat (first | exact Below.refl _ _ | assumption | refine Below.drew ?_ | refine below_drewN ?_ _ | refine Below.alloc ?_ (by first | omega | (simp; done) | (simp; omega)) _ | refine Below.setCell ?_ (by first | omega | (simp; done) | (simp; omega)) _ | refine Below.trans ?_ (Below.mono (by assumption) (by first | omega | (simp; done) | (simp; omega)))))⟩
        intro d hd
        have := HD.out d hd
        omega
    · go_enter Tryz.func176, Tryz.ntmps176
      go_wp2
      go_region_held3 (fun _ => True) (trivial) (first | (go_at_call 113; refine (Tryz.strings_IndexByte _ _ _).mono ?_; rintro e w' ⟨rfl, rfl⟩))
      all_goals
        go_wp2
        refine bodyPost_ret (v := .tuple #[.int .u8 0, .bool false]) (by simp [results, Tryz.results176, go_sem]) rfl ⟨0, false, rfl, ?_, by simp, by (repeat (first | exact Below.refl _ _ | assumption | refine Below.drew ?_ | refine below_drewN ?_ _ | refine Below.alloc ?_ (by first | omega | (simp; done) | (simp; omega)) _ | refine Below.setCell ?_ (by first | omega | (simp; done) | (simp; omega)) _ | refine Below.trans ?_ (Below.mono (by assumption) (by first | omega | (simp; done) | (simp; omega)))))⟩
        intro d hd
        have := HD.out d hd
        omega
    · have hv : (UInt8.ofNat (h * 16 + l)).toNat = h * 16 + l := by rw [UInt8.toNat_ofNat']; omega
      have HO := Lib.hid (hexor h l hh hl)
      have HVV := Lib.hid hv
      clear hv
      go_enter Tryz.func176, Tryz.ntmps176
      go_wp2
      go_region_held3 (fun _ => True) (trivial) (first | (go_at_call 113; refine (Tryz.strings_IndexByte _ _ _).mono ?_; rintro e w' ⟨rfl, rfl⟩))
      all_goals
        go_wp2
        refine bodyPost_ret (v := .tuple #[.int .u8 ((h * 16 + l : Nat) : Int), .bool true]) (by simp [results, Tryz.results176, go_sem]; have := HO.out; push_cast at this; omega) rfl ⟨UInt8.ofNat (h * 16 + l), true, by rw [HVV.out], ?_, by omega, by (repeat (first | exact Below.refl _ _ | assumption | refine Below.drew ?_ | refine below_drewN ?_ _ | refine Below.alloc ?_ (by first | omega | (simp; done) | (simp; omega)) _ | refine Below.setCell ?_ (by first | omega | (simp; done) | (simp; omega)) _ | refine Below.trans ?_ (Below.mono (by assumption) (by first | omega | (simp; done) | (simp; omega)))))⟩
        intro d hd
        have hdl := UInt8.toNat_lt d
        have := HD.out d hd
        exact ⟨rfl, UInt8.toNat_inj.1 (by rw [HVV.out]; omega)⟩
end Go.Proofs.YtlooelldkbdomaaGreatDoor
