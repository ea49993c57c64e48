/- Walks of layer 8: the text that a reader reads. -/
import Derived.Test.YtkgkkcefnonejaaGreatT31
namespace Go.Proofs.YtkgkkcefnonejaaGreat
open Go.RowKit

theorem minI_eq (a b : Nat) (W : World) : (Builtin.min_ #[3, 3] 3 #[.int .i64 (a : Int), .int .i64 (b : Int)]).run Tryz.prog W = .ok (.int .i64 ((min a b : Nat) : Int)) W := by
  simp [Builtin.min_, Builtin.min2]
  split <;> omega
theorem ext_front {t : ByteArray} {n : Nat} : bs (t.extract 0 n) = (bs t).take n := by
  simp [bs]
theorem text_rd {s s1 : ByteArray} {n : Nat} (hr : Rd num (fun m => m ≤ 1000 ∧ m < 2097152) (bs s) n (bs s1)) : Rd txt (fun x => x.size ≤ 1000) (bs s) (s1.extract 0 (min n s1.size)) (bs (s1.extract (min n s1.size) s1.size)) := by
  intro x y hx e
  rw [txt, List.append_assoc] at e
  obtain ⟨e1, e2⟩ := hr x.size (bs x ++ y) ⟨hx, by omega⟩ e
  have hl : s1.size = x.size + y.length := by rw [← bs_len s1, e2, List.length_append, bs_len]
  have hm : min n s1.size = (bs x).length := by rw [bs_len]; omega
  rw [hm]
  refine ⟨bs_inj ?_, ?_⟩
  · rw [ext_front, e2, List.take_left]
  · rw [ext_bs, e2, List.drop_left]
set_option maxHeartbeats 4000000 in
theorem rtext_any : TextSpec := by
  intro r s w h hs
  go_enter Tryz.func94, Tryz.ntmps94
  go_wp2_with fail
  refine (upTo_any r s 1000 w h hs (by omega)).mono ?_
  rintro e w1 ⟨n, s1, rfl, hn, h1, hz, hrd, ho⟩
  have c0 := cell_of_one h1
  have f0 := free_of_one h1
  obtain ⟨E, hE⟩ : ∃ E, min n s1.size = E := ⟨_, rfl⟩
  have hmn : ∀ W, (Builtin.min_ #[3, 3] 3 #[.int .i64 (n : Int), .int .i64 (s1.size : Int)]).run Tryz.prog W = .ok (.int .i64 (E : Int)) W := fun W => by rw [← hE]; exact minI_eq n s1.size W
  have HR := Lib.hid (text_rd hrd)
  rw [hE] at HR
  have hEs : E ≤ s1.size := by omega
  have hEi : (E : Int) ≤ (s1.size : Int) := by omega
  have hE0 : (0 : Int) ≤ (E : Int) := by omega
  have HH := Lib.hid h1
  have hxs : (s1.extract 0 E).size ≤ 1099511627776 := by simp; omega
  have hxn : (s1.extract 0 E).size ≤ 1000 := by simp; omega
  clear h1 hrd hE h
  go_wp2_with fail
  refine (clone_any (s1.extract 0 E) w1 hxs).mono ?_
  rintro e w2 ⟨rfl, hb⟩
  have H2 := Lib.hid (HH.out.later hb)
  have c1 := cell_of_one H2.out
  have f1 := free_of_one H2.out
  clear c0 f0
  go_wp2
  go_ret
  refine ⟨s1.extract 0 E, s1.extract E s1.size, rfl, hxn, H2.out.set _, ?_, HR.out, Only.setCell (Z := fun k => k = r) (ho.later hb) (p := ⟨r, 0, none⟩) rfl _⟩
  simp
  omega
end Go.Proofs.YtkgkkcefnonejaaGreat
