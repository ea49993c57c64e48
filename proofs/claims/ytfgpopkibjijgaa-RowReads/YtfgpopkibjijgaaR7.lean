/- Walks of layer 3, seventh part: how many bytes, by the document; a value out of its bytes. -/
import Derived.Test.YtfgpopkibjijgaaR6
namespace Go.Proofs.Ytfgpopkibjijgaa
open Go.RowKit

set_option maxHeartbeats 1000000 in
theorem rsize_any (a : Option Addr) (cap : Nat) (vs : List V3) (w : World) (hlen : vs.length ≤ 2147483648) (hrow : Row w a vs) :
    Calls Try.prog 11 #[.slice a vs.length cap] w fun e w' => e = .returned (szV vs) ∧ Below w.heap.size w w' := by
  go_enter Try.func11, Try.ntmps11
  go_wp2_with fail
  refine (renc_any a cap vs _ hlen hrow).mono ?_
  rintro e w1 ⟨rfl, hb1⟩
  unfold wrV
  go_wp2
  exact bodyPost_ret (v := szV vs) (by simp [results, Try.results11, go_sem, szV]) rfl ⟨rfl, hb1⟩

theorem drop_next {s : ByteArray} {k : Nat} (h : k < s.size) : s.data.toList.drop k = s[k] :: s.data.toList.drop (k + 1) := by
  rw [List.drop_eq_getElem_cons (by simpa using h)]
  rfl
theorem front {s : ByteArray} (h : 0 < s.size) : s.data.toList = s[0] :: s.data.toList.drop 1 := by
  have := drop_next (s := s) (k := 0) h
  simpa using this
/-- What a reader of a known kind answers: a value, what is behind it, whether it is there. -/
def VR (K : Int) (s : ByteArray) (w : World) (e : Ending) (w' : World) : Prop := ∃ (v : V3) (r : ByteArray) (ok : Bool), e = .returned (.tuple #[.agg #[.int .i64 v.1, .int .i64 v.2.1, .string v.2.2], .string r, .bool ok]) ∧ RF K s.data.toList v r.data.toList ok ∧ r.size ≤ s.size ∧ Below w.heap.size w w'

theorem kat_num : ∀ (c : Fin 256) (r : Fin 4), bits BinOp.and IntKind.u8 ((c.val / q4 r.val : Nat) : Int) 3 = ((c.val / q4 r.val % 4 : Nat) : Int) := by decide +kernel

set_option maxHeartbeats 1000000 in
theorem kat_q (s : ByteArray) (i q r : Nat) (w : World) (hqi : (i : Int) / 4 = (q : Int)) (hri : (i : Int) % 4 = (r : Int)) (hr4 : r < 4) (hq1 : q ≤ 1000) (h : q < s.size) :
    Calls Try.prog 27 #[.string s, .int .i64 (i : Int)] w fun e w' => e = .returned (.int .i64 ((s[q].toNat / q4 r % 4 : Nat) : Int)) ∧ w' = w := by
  have hqs : (q : Int) < (s.size : Int) := by omega
  have hcb := UInt8.toNat_lt s[q]
  have hnum := fun r => kat_num ⟨s[q].toNat, hcb⟩ r
  obtain ⟨c, hc⟩ : ∃ c, s[q].toNat = c := ⟨_, rfl⟩
  simp only [hc] at hnum hcb ⊢
  have hrd : r = 0 ∨ r = 1 ∨ r = 2 ∨ r = 3 := by omega
  rcases hrd with rfl | rfl | rfl | rfl
  · have hn : bits BinOp.and IntKind.u8 ((c : Int)) 3 = ((c / q4 0 % 4 : Nat) : Int) := by
      have := hnum ⟨0, by omega⟩
      simpa [q4] using this
    have HN : Hid (bits BinOp.and IntKind.u8 ((c : Int)) 3 = ((c / q4 0 % 4 : Nat) : Int)) := hn
    have hb : (0 : Int) ≤ ((c / q4 0 % 4 : Nat) : Int) ∧ ((c / q4 0 % 4 : Nat) : Int) < 4 := by omega
    clear hnum hn
    have hri' : (i : Int) % 4 = 0 := hri
    clear hri
    go_enter Try.func27, Try.ntmps27
    go_wp2
    go_ret
    refine ⟨ret_int ?_, rfl⟩
    first | (rw [HN.out]; unfold wrap64; omega) | (simp only [hc]; rw [HN.out]; unfold wrap64; omega) | exact HN.out | (simp only [hc]; exact HN.out)
  · have hn : bits BinOp.and IntKind.u8 ((c : Int) / 4) 3 = ((c / q4 1 % 4 : Nat) : Int) := by
      have := hnum ⟨1, by omega⟩
      simpa [q4] using this
    have HN : Hid (bits BinOp.and IntKind.u8 ((c : Int) / 4) 3 = ((c / q4 1 % 4 : Nat) : Int)) := hn
    have hb : (0 : Int) ≤ ((c / q4 1 % 4 : Nat) : Int) ∧ ((c / q4 1 % 4 : Nat) : Int) < 4 := by omega
    clear hnum hn
    have hri' : (i : Int) % 4 = 1 := hri
    clear hri
    go_enter Try.func27, Try.ntmps27
    go_wp2
    go_ret
    refine ⟨ret_int ?_, rfl⟩
    first | (rw [HN.out]; unfold wrap64; omega) | (simp only [hc]; rw [HN.out]; unfold wrap64; omega) | exact HN.out | (simp only [hc]; exact HN.out)
  · have hn : bits BinOp.and IntKind.u8 ((c : Int) / 16) 3 = ((c / q4 2 % 4 : Nat) : Int) := by
      have := hnum ⟨2, by omega⟩
      simpa [q4] using this
    have HN : Hid (bits BinOp.and IntKind.u8 ((c : Int) / 16) 3 = ((c / q4 2 % 4 : Nat) : Int)) := hn
    have hb : (0 : Int) ≤ ((c / q4 2 % 4 : Nat) : Int) ∧ ((c / q4 2 % 4 : Nat) : Int) < 4 := by omega
    clear hnum hn
    have hri' : (i : Int) % 4 = 2 := hri
    clear hri
    go_enter Try.func27, Try.ntmps27
    go_wp2
    go_ret
    refine ⟨ret_int ?_, rfl⟩
    first | (rw [HN.out]; unfold wrap64; omega) | (simp only [hc]; rw [HN.out]; unfold wrap64; omega) | exact HN.out | (simp only [hc]; exact HN.out)
  · have hn : bits BinOp.and IntKind.u8 ((c : Int) / 64) 3 = ((c / q4 3 % 4 : Nat) : Int) := by
      have := hnum ⟨3, by omega⟩
      simpa [q4] using this
    have HN : Hid (bits BinOp.and IntKind.u8 ((c : Int) / 64) 3 = ((c / q4 3 % 4 : Nat) : Int)) := hn
    have hb : (0 : Int) ≤ ((c / q4 3 % 4 : Nat) : Int) ∧ ((c / q4 3 % 4 : Nat) : Int) < 4 := by omega
    clear hnum hn
    have hri' : (i : Int) % 4 = 3 := hri
    clear hri
    go_enter Try.func27, Try.ntmps27
    go_wp2
    go_ret
    refine ⟨ret_int ?_, rfl⟩
    first | (rw [HN.out]; unfold wrap64; omega) | (simp only [hc]; rw [HN.out]; unfold wrap64; omega) | exact HN.out | (simp only [hc]; exact HN.out)

theorem kat_any (s : ByteArray) (i : Nat) (w : World) (hi : i < 1000) (h : i / 4 < s.size) :
    Calls Try.prog 27 #[.string s, .int .i64 (i : Int)] w fun e w' => e = .returned (.int .i64 ((s[i / 4].toNat / q4 (i % 4) % 4 : Nat) : Int)) ∧ w' = w :=
  kat_q s i (i / 4) (i % 4) w (by omega) (by omega) (by omega) (by omega) h
end Go.Proofs.Ytfgpopkibjijgaa
