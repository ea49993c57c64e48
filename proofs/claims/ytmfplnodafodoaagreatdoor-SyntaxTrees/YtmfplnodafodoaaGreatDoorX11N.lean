/- Plain mathematics of layer 11: the sources that awake reads. -/
import Derived.Test.YtmfplnodafodoaaGreatDoorX11M
import Derived.Test.YtmfplnodafodoaaGreatDoorX11K
namespace Go.Proofs.YtmfplnodafodoaaGreatDoor
open Go Go.RowKit
theorem toks_one : Toks [83, 69, 76, 69, 67, 84, 32, 42, 32, 70, 82, 79, 77, 32, 116, 32, 74, 79, 73, 78, 32, 117, 32, 79, 78, 32, 116, 46, 97, 32, 61, 32, 117, 46, 98] 0 [((4, 0, ⟨#[83, 69, 76, 69, 67, 84]⟩), 0), ((7, 0, ⟨#[42]⟩), 7), ((4, 0, ⟨#[70, 82, 79, 77]⟩), 9), ((3, 0, ⟨#[116]⟩), 14), ((4, 0, ⟨#[74, 79, 73, 78]⟩), 16), ((3, 0, ⟨#[117]⟩), 21), ((4, 0, ⟨#[79, 78]⟩), 23), ((3, 0, ⟨#[116]⟩), 26), ((7, 0, ⟨#[46]⟩), 27), ((3, 0, ⟨#[97]⟩), 28), ((7, 0, ⟨#[61]⟩), 30), ((3, 0, ⟨#[117]⟩), 32), ((7, 0, ⟨#[46]⟩), 33), ((3, 0, ⟨#[98]⟩), 34), ((1, 0, ⟨#[]⟩), 35)] := by
  have h0 : tokR (pce [83, 69, 76, 69, 67, 84, 32, 42, 32, 70, 82, 79, 77, 32, 116, 32, 74, 79, 73, 78, 32, 117, 32, 79, 78, 32, 116, 46, 97, 32, 61, 32, 117, 46, 98]) = ((4, 0, ⟨#[83, 69, 76, 69, 67, 84]⟩), 0) := by
    rw [show pce [83, 69, 76, 69, 67, 84, 32, 42, 32, 70, 82, 79, 77, 32, 116, 32, 74, 79, 73, 78, 32, 117, 32, 79, 78, 32, 116, 46, 97, 32, 61, 32, 117, 46, 98] = [83, 69, 76, 69, 67, 84] from by decide +kernel, tokR_run (by decide +kernel), if_pos (by decide +kernel)]
    rfl
  have h1 : tokR (pce [32, 42, 32, 70, 82, 79, 77, 32, 116, 32, 74, 79, 73, 78, 32, 117, 32, 79, 78, 32, 116, 46, 97, 32, 61, 32, 117, 46, 98]) = ((7, 0, ⟨#[42]⟩), 0) := by
    rw [show pce [32, 42, 32, 70, 82, 79, 77, 32, 116, 32, 74, 79, 73, 78, 32, 117, 32, 79, 78, 32, 116, 46, 97, 32, 61, 32, 117, 46, 98] = [42] from by decide +kernel, tokR_sign (by decide +kernel)]
    rfl
  have h2 : tokR (pce [32, 70, 82, 79, 77, 32, 116, 32, 74, 79, 73, 78, 32, 117, 32, 79, 78, 32, 116, 46, 97, 32, 61, 32, 117, 46, 98]) = ((4, 0, ⟨#[70, 82, 79, 77]⟩), 0) := by
    rw [show pce [32, 70, 82, 79, 77, 32, 116, 32, 74, 79, 73, 78, 32, 117, 32, 79, 78, 32, 116, 46, 97, 32, 61, 32, 117, 46, 98] = [70, 82, 79, 77] from by decide +kernel, tokR_run (by decide +kernel), if_pos (by decide +kernel)]
    rfl
  have h3 : tokR (pce [32, 116, 32, 74, 79, 73, 78, 32, 117, 32, 79, 78, 32, 116, 46, 97, 32, 61, 32, 117, 46, 98]) = ((3, 0, ⟨#[116]⟩), 0) := by
    rw [show pce [32, 116, 32, 74, 79, 73, 78, 32, 117, 32, 79, 78, 32, 116, 46, 97, 32, 61, 32, 117, 46, 98] = [116] from by decide +kernel, tokR_run (by decide +kernel), if_neg (by decide +kernel), if_pos (by decide +kernel)]
    rfl
  have h4 : tokR (pce [32, 74, 79, 73, 78, 32, 117, 32, 79, 78, 32, 116, 46, 97, 32, 61, 32, 117, 46, 98]) = ((4, 0, ⟨#[74, 79, 73, 78]⟩), 0) := by
    rw [show pce [32, 74, 79, 73, 78, 32, 117, 32, 79, 78, 32, 116, 46, 97, 32, 61, 32, 117, 46, 98] = [74, 79, 73, 78] from by decide +kernel, tokR_run (by decide +kernel), if_pos (by decide +kernel)]
    rfl
  have h5 : tokR (pce [32, 117, 32, 79, 78, 32, 116, 46, 97, 32, 61, 32, 117, 46, 98]) = ((3, 0, ⟨#[117]⟩), 0) := by
    rw [show pce [32, 117, 32, 79, 78, 32, 116, 46, 97, 32, 61, 32, 117, 46, 98] = [117] from by decide +kernel, tokR_run (by decide +kernel), if_neg (by decide +kernel), if_pos (by decide +kernel)]
    rfl
  have h6 : tokR (pce [32, 79, 78, 32, 116, 46, 97, 32, 61, 32, 117, 46, 98]) = ((4, 0, ⟨#[79, 78]⟩), 0) := by
    rw [show pce [32, 79, 78, 32, 116, 46, 97, 32, 61, 32, 117, 46, 98] = [79, 78] from by decide +kernel, tokR_run (by decide +kernel), if_pos (by decide +kernel)]
    rfl
  have h7 : tokR (pce [32, 116, 46, 97, 32, 61, 32, 117, 46, 98]) = ((3, 0, ⟨#[116]⟩), 0) := by
    rw [show pce [32, 116, 46, 97, 32, 61, 32, 117, 46, 98] = [116] from by decide +kernel, tokR_run (by decide +kernel), if_neg (by decide +kernel), if_pos (by decide +kernel)]
    rfl
  have h8 : tokR (pce [46, 97, 32, 61, 32, 117, 46, 98]) = ((7, 0, ⟨#[46]⟩), 0) := by
    rw [show pce [46, 97, 32, 61, 32, 117, 46, 98] = [46] from by decide +kernel, tokR_sign (by decide +kernel)]
    rfl
  have h9 : tokR (pce [97, 32, 61, 32, 117, 46, 98]) = ((3, 0, ⟨#[97]⟩), 0) := by
    rw [show pce [97, 32, 61, 32, 117, 46, 98] = [97] from by decide +kernel, tokR_run (by decide +kernel), if_neg (by decide +kernel), if_pos (by decide +kernel)]
    rfl
  have h10 : tokR (pce [32, 61, 32, 117, 46, 98]) = ((7, 0, ⟨#[61]⟩), 0) := by
    rw [show pce [32, 61, 32, 117, 46, 98] = [61] from by decide +kernel, tokR_sign (by decide +kernel)]
    rfl
  have h11 : tokR (pce [32, 117, 46, 98]) = ((3, 0, ⟨#[117]⟩), 0) := by
    rw [show pce [32, 117, 46, 98] = [117] from by decide +kernel, tokR_run (by decide +kernel), if_neg (by decide +kernel), if_pos (by decide +kernel)]
    rfl
  have h12 : tokR (pce [46, 98]) = ((7, 0, ⟨#[46]⟩), 0) := by
    rw [show pce [46, 98] = [46] from by decide +kernel, tokR_sign (by decide +kernel)]
    rfl
  have h13 : tokR (pce [98]) = ((3, 0, ⟨#[98]⟩), 0) := by
    rw [show pce [98] = [98] from by decide +kernel, tokR_run (by decide +kernel), if_neg (by decide +kernel), if_pos (by decide +kernel)]
    rfl
  have t14 := Toks.fin (l := []) (a := 35) (by decide +kernel)
  have t13 := Toks.more (l := [98]) (a := 34) (by decide +kernel) h13 t14
  have t12 := Toks.more (l := [46, 98]) (a := 33) (by decide +kernel) h12 t13
  have t11 := Toks.more (l := [32, 117, 46, 98]) (a := 31) (by decide +kernel) h11 t12
  have t10 := Toks.more (l := [32, 61, 32, 117, 46, 98]) (a := 29) (by decide +kernel) h10 t11
  have t9 := Toks.more (l := [97, 32, 61, 32, 117, 46, 98]) (a := 28) (by decide +kernel) h9 t10
  have t8 := Toks.more (l := [46, 97, 32, 61, 32, 117, 46, 98]) (a := 27) (by decide +kernel) h8 t9
  have t7 := Toks.more (l := [32, 116, 46, 97, 32, 61, 32, 117, 46, 98]) (a := 25) (by decide +kernel) h7 t8
  have t6 := Toks.more (l := [32, 79, 78, 32, 116, 46, 97, 32, 61, 32, 117, 46, 98]) (a := 22) (by decide +kernel) h6 t7
  have t5 := Toks.more (l := [32, 117, 32, 79, 78, 32, 116, 46, 97, 32, 61, 32, 117, 46, 98]) (a := 20) (by decide +kernel) h5 t6
  have t4 := Toks.more (l := [32, 74, 79, 73, 78, 32, 117, 32, 79, 78, 32, 116, 46, 97, 32, 61, 32, 117, 46, 98]) (a := 15) (by decide +kernel) h4 t5
  have t3 := Toks.more (l := [32, 116, 32, 74, 79, 73, 78, 32, 117, 32, 79, 78, 32, 116, 46, 97, 32, 61, 32, 117, 46, 98]) (a := 13) (by decide +kernel) h3 t4
  have t2 := Toks.more (l := [32, 70, 82, 79, 77, 32, 116, 32, 74, 79, 73, 78, 32, 117, 32, 79, 78, 32, 116, 46, 97, 32, 61, 32, 117, 46, 98]) (a := 8) (by decide +kernel) h2 t3
  have t1 := Toks.more (l := [32, 42, 32, 70, 82, 79, 77, 32, 116, 32, 74, 79, 73, 78, 32, 117, 32, 79, 78, 32, 116, 46, 97, 32, 61, 32, 117, 46, 98]) (a := 6) (by decide +kernel) h1 t2
  have t0 := Toks.more (l := [83, 69, 76, 69, 67, 84, 32, 42, 32, 70, 82, 79, 77, 32, 116, 32, 74, 79, 73, 78, 32, 117, 32, 79, 78, 32, 116, 46, 97, 32, 61, 32, 117, 46, 98]) (a := 0) (by decide +kernel) h0 t1
  exact t0
theorem toks_two : Toks [83, 69, 76, 69, 67, 84, 32, 97, 32, 70, 82, 79, 77, 32, 116, 32, 87, 72, 69, 82, 69] 0 [((4, 0, ⟨#[83, 69, 76, 69, 67, 84]⟩), 0), ((3, 0, ⟨#[97]⟩), 7), ((4, 0, ⟨#[70, 82, 79, 77]⟩), 9), ((3, 0, ⟨#[116]⟩), 14), ((4, 0, ⟨#[87, 72, 69, 82, 69]⟩), 16), ((1, 0, ⟨#[]⟩), 21)] := by
  have h0 : tokR (pce [83, 69, 76, 69, 67, 84, 32, 97, 32, 70, 82, 79, 77, 32, 116, 32, 87, 72, 69, 82, 69]) = ((4, 0, ⟨#[83, 69, 76, 69, 67, 84]⟩), 0) := by
    rw [show pce [83, 69, 76, 69, 67, 84, 32, 97, 32, 70, 82, 79, 77, 32, 116, 32, 87, 72, 69, 82, 69] = [83, 69, 76, 69, 67, 84] from by decide +kernel, tokR_run (by decide +kernel), if_pos (by decide +kernel)]
    rfl
  have h1 : tokR (pce [32, 97, 32, 70, 82, 79, 77, 32, 116, 32, 87, 72, 69, 82, 69]) = ((3, 0, ⟨#[97]⟩), 0) := by
    rw [show pce [32, 97, 32, 70, 82, 79, 77, 32, 116, 32, 87, 72, 69, 82, 69] = [97] from by decide +kernel, tokR_run (by decide +kernel), if_neg (by decide +kernel), if_pos (by decide +kernel)]
    rfl
  have h2 : tokR (pce [32, 70, 82, 79, 77, 32, 116, 32, 87, 72, 69, 82, 69]) = ((4, 0, ⟨#[70, 82, 79, 77]⟩), 0) := by
    rw [show pce [32, 70, 82, 79, 77, 32, 116, 32, 87, 72, 69, 82, 69] = [70, 82, 79, 77] from by decide +kernel, tokR_run (by decide +kernel), if_pos (by decide +kernel)]
    rfl
  have h3 : tokR (pce [32, 116, 32, 87, 72, 69, 82, 69]) = ((3, 0, ⟨#[116]⟩), 0) := by
    rw [show pce [32, 116, 32, 87, 72, 69, 82, 69] = [116] from by decide +kernel, tokR_run (by decide +kernel), if_neg (by decide +kernel), if_pos (by decide +kernel)]
    rfl
  have h4 : tokR (pce [32, 87, 72, 69, 82, 69]) = ((4, 0, ⟨#[87, 72, 69, 82, 69]⟩), 0) := by
    rw [show pce [32, 87, 72, 69, 82, 69] = [87, 72, 69, 82, 69] from by decide +kernel, tokR_run (by decide +kernel), if_pos (by decide +kernel)]
    rfl
  have t5 := Toks.fin (l := []) (a := 21) (by decide +kernel)
  have t4 := Toks.more (l := [32, 87, 72, 69, 82, 69]) (a := 15) (by decide +kernel) h4 t5
  have t3 := Toks.more (l := [32, 116, 32, 87, 72, 69, 82, 69]) (a := 13) (by decide +kernel) h3 t4
  have t2 := Toks.more (l := [32, 70, 82, 79, 77, 32, 116, 32, 87, 72, 69, 82, 69]) (a := 8) (by decide +kernel) h2 t3
  have t1 := Toks.more (l := [32, 97, 32, 70, 82, 79, 77, 32, 116, 32, 87, 72, 69, 82, 69]) (a := 6) (by decide +kernel) h1 t2
  have t0 := Toks.more (l := [83, 69, 76, 69, 67, 84, 32, 97, 32, 70, 82, 79, 77, 32, 116, 32, 87, 72, 69, 82, 69]) (a := 0) (by decide +kernel) h0 t1
  exact t0
def exOn : Ex := over 6 1 30 [.mk 3 0 v0 ⟨#[116]⟩ ⟨#[97]⟩ [] 26, .mk 3 0 v0 ⟨#[117]⟩ ⟨#[98]⟩ [] 32]
def stOne : St := ⟨4, ⟨#[116]⟩, ⟨#[117]⟩, [exOn], [], [], true, [], [], [], [], 0, 21⟩
theorem on_one : exprR (⟨[((3, 0, ⟨#[116]⟩), 26), ((7, 0, ⟨#[46]⟩), 27), ((3, 0, ⟨#[97]⟩), 28), ((7, 0, ⟨#[61]⟩), 30), ((3, 0, ⟨#[117]⟩), 32), ((7, 0, ⟨#[46]⟩), 33), ((3, 0, ⟨#[98]⟩), 34), ((1, 0, ⟨#[]⟩), 35)], 0, 0⟩ : PS) (.ok exOn (⟨[((1, 0, ⟨#[]⟩), 35)], 0, 0⟩ : PS)) := ⟨12, by rfl⟩
theorem st_one : stR (⟨[((4, 0, ⟨#[83, 69, 76, 69, 67, 84]⟩), 0), ((7, 0, ⟨#[42]⟩), 7), ((4, 0, ⟨#[70, 82, 79, 77]⟩), 9), ((3, 0, ⟨#[116]⟩), 14), ((4, 0, ⟨#[74, 79, 73, 78]⟩), 16), ((3, 0, ⟨#[117]⟩), 21), ((4, 0, ⟨#[79, 78]⟩), 23), ((3, 0, ⟨#[116]⟩), 26), ((7, 0, ⟨#[46]⟩), 27), ((3, 0, ⟨#[97]⟩), 28), ((7, 0, ⟨#[61]⟩), 30), ((3, 0, ⟨#[117]⟩), 32), ((7, 0, ⟨#[46]⟩), 33), ((3, 0, ⟨#[98]⟩), 34), ((1, 0, ⟨#[]⟩), 35)], 0, 0⟩ : PS) (.ok stOne (⟨[((1, 0, ⟨#[]⟩), 35)], 0, 0⟩ : PS)) := thenR_ok (ifR_not rfl (ifR_not rfl (ifR_not rfl (ifR_yes rfl (thenR_ok (ifR_yes rfl rfl) (thenR_ok (rfl) (thenR_ok (rfl) (thenR_ok (ifR_yes rfl (thenR_ok (rfl) (thenR_ok (rfl) (thenR_ok (rfl) (thenR_ok (on_one) (rfl)))))) (thenR_ok (ifR_not rfl rfl) (thenR_ok (ifR_not rfl rfl) (thenR_ok (ifR_not rfl rfl) (thenR_ok (ifR_not rfl rfl) (rfl))))))))))))) (rfl)
theorem item_two : itemR (⟨[((3, 0, ⟨#[97]⟩), 7), ((4, 0, ⟨#[70, 82, 79, 77]⟩), 9), ((3, 0, ⟨#[116]⟩), 14), ((4, 0, ⟨#[87, 72, 69, 82, 69]⟩), 16), ((1, 0, ⟨#[]⟩), 21)], 0, 0⟩ : PS) (.ok (.mk 3 0 v0 ⟨#[]⟩ ⟨#[97]⟩ [] 7) (⟨[((4, 0, ⟨#[70, 82, 79, 77]⟩), 9), ((3, 0, ⟨#[116]⟩), 14), ((4, 0, ⟨#[87, 72, 69, 82, 69]⟩), 16), ((1, 0, ⟨#[]⟩), 21)], 0, 0⟩ : PS)) := ifR_not rfl (ifR_not rfl (ifR_not rfl (ifR_not rfl ⟨12, by rfl⟩)))
theorem bad_two : exprR (⟨[((1, 0, ⟨#[]⟩), 21)], 0, 0⟩ : PS) (.bad 21) := ⟨12, by rfl⟩
theorem st_two : stR (⟨[((4, 0, ⟨#[83, 69, 76, 69, 67, 84]⟩), 0), ((3, 0, ⟨#[97]⟩), 7), ((4, 0, ⟨#[70, 82, 79, 77]⟩), 9), ((3, 0, ⟨#[116]⟩), 14), ((4, 0, ⟨#[87, 72, 69, 82, 69]⟩), 16), ((1, 0, ⟨#[]⟩), 21)], 0, 0⟩ : PS) (.bad 21) := thenR_bad (ifR_not rfl (ifR_not rfl (ifR_not rfl (ifR_yes rfl (thenR_ok (ifR_not rfl (thenR_ok (LsR.last item_two rfl) rfl)) (thenR_ok rfl (thenR_ok rfl (thenR_ok (ifR_not rfl rfl) (thenR_bad (ifR_yes rfl (thenR_bad bad_two)))))))))))
theorem out_one : outOf (.ok stOne (⟨[((1, 0, ⟨#[]⟩), 35)], 0, 0⟩ : PS)) = .st stOne := by rfl
theorem parse_one {x : Out} (h : ParseIs ⟨#[83, 69, 76, 69, 67, 84, 32, 42, 32, 70, 82, 79, 77, 32, 116, 32, 74, 79, 73, 78, 32, 117, 32, 79, 78, 32, 116, 46, 97, 32, 61, 32, 117, 46, 98]⟩ x) : x = .st stOne := h.one ⟨_, 0, 0, Or.inr ⟨by decide, Or.inl ⟨rfl, rfl, toks_one⟩⟩, Or.inr ⟨rfl, _, st_one, out_one.symm⟩⟩
theorem parse_two {x : Out} (h : ParseIs ⟨#[83, 69, 76, 69, 67, 84, 32, 97, 32, 70, 82, 79, 77, 32, 116, 32, 87, 72, 69, 82, 69]⟩ x) : x = .fault 110 21 := h.one ⟨_, 0, 0, Or.inr ⟨by decide, Or.inl ⟨rfl, rfl, toks_two⟩⟩, Or.inr ⟨rfl, _, st_two, rfl⟩⟩
end Go.Proofs.YtmfplnodafodoaaGreatDoor
/- Plain mathematics of layer 11: signs and brackets, as many as one likes. -/
namespace Go.Proofs.YtmfplnodafodoaaGreatDoor
open Go Go.RowKit
/-- A text as often as one likes. -/
def rp (x : List UInt8) : Nat → List UInt8
  | 0 => []
  | k + 1 => rp x k ++ x
theorem rp_cons (x : List UInt8) : ∀ k, rp x (k + 1) = x ++ rp x k
  | 0 => by simp [rp]
  | k + 1 => by
    show rp x (k + 1) ++ x = x ++ (rp x k ++ x)
    rw [rp_cons x k, List.append_assoc]
theorem rp_length (x : List UInt8) : ∀ k, (rp x k).length = x.length * k
  | 0 => rfl
  | k + 1 => by rw [rp, List.length_append, rp_length x k, Nat.mul_succ]
def srcN (n m : Nat) : List UInt8 := [68, 69, 76, 69, 84, 69, 32, 70, 82, 79, 77, 32, 116, 32, 87, 72, 69, 82, 69, 32] ++ rp [78, 79, 84, 32] n ++ rp [40] m ++ [84, 82, 85, 69] ++ rp [41] m
theorem srcN_size (n m : Nat) : (srcN n m).length = 24 + 4 * n + 2 * m := by
  simp only [srcN, List.length_append, rp_length, List.length_cons, List.length_nil]
  omega
/-- A blank ahead. -/
theorem toks_blank {l : List UInt8} {a : Nat} {ts : List (Tk × Nat)} (h : Toks l (a + 1) ts) : Toks (32 :: l) a ts := by
  have hs : skp false (32 :: l) = 1 + skp false l := by
    show (if _ then _ else _) = _
    rw [if_pos (by decide +kernel)]
  have hk : skipL (32 :: l) = skipL l := by
    unfold skipL
    rw [hs, Nat.add_comm, List.drop_succ_cons]
  cases h with
  | fin h0 =>
    have := Toks.fin (a := a) (hk.trans h0)
    rw [hs, show a + (1 + skp false l) = a + 1 + skp false l by omega] at this
    exact this
  | more h0 h1 h2 =>
    have e1 : pce (32 :: l) = pce l := by unfold pce; rw [hk]
    have e2 : rst (32 :: l) = rst l := by unfold rst; rw [hk]
    have := Toks.more (l := 32 :: l) (a := a) (by rw [hk]; exact h0) (by rw [e1]; exact h1) (by rw [e2, hs, hk, show a + (1 + skp false l) = a + 1 + skp false l by omega]; exact h2)
    rw [hs, show a + (1 + skp false l) = a + 1 + skp false l by omega] at this
    exact this
/-- A piece ahead of all else. -/
theorem toks_piece {p l : List UInt8} {a : Nat} {t : Tk} {ts : List (Tk × Nat)} (hp : p ≠ []) (h0 : skp false (p ++ l) = 0) (h1 : pieceN (p ++ l) = p.length) (ht : tokR p = (t, 0)) (h : Toks l (a + p.length) ts) : Toks (p ++ l) a ((t, a) :: ts) := by
  have hk : skipL (p ++ l) = p ++ l := by unfold skipL; rw [h0]; rfl
  have e1 : pce (p ++ l) = p := by unfold pce; rw [hk, h1]; exact List.take_left
  have e2 : rst (p ++ l) = l := by unfold rst; rw [hk, h1]; exact List.drop_left
  have := Toks.more (l := p ++ l) (a := a) (t := t) (ts := ts) (by rw [hk]; simp [hp]) (by rw [e1]; exact ht) (by rw [e2, h0, hk, h1]; exact h)
  rw [h0] at this
  exact this
/-- A sign of one byte. -/
theorem toks_sign {c : UInt8} {l : List UInt8} {a : Nat} {ts : List (Tk × Nat)} (hc : c = 40 ∨ c = 41) (h : Toks l (a + 1) ts) : Toks (c :: l) a (((7, 0, ⟨#[c]⟩), a) :: ts) := by
  refine toks_piece (p := [c]) (by simp) ?_ ?_ ?_ h
  · show (if _ then _ else if _ then _ else _) = 0
    rw [if_neg (by rcases hc with rfl | rfl <;> decide +kernel), if_neg (by rcases hc with rfl | rfl <;> simp)]
  · show (if _ then _ else if _ then _ else if _ then _ else _) = 1
    rw [if_neg (by rcases hc with rfl | rfl <;> decide +kernel), if_neg (by rcases hc with rfl | rfl <;> decide +kernel), if_pos (by rcases hc with rfl | rfl <;> decide +kernel)]
    cases l with
    | nil => rfl
    | cons d l =>
      show (if _ then _ else _) = 1
      rw [if_neg (by unfold twoS; rcases hc with rfl | rfl <;> simp)]
  · rw [tokR_sign (by rcases hc with rfl | rfl <;> decide +kernel)]
    rcases hc with rfl | rfl <;> rfl
/-- What no run goes on with. -/
def stops (l : List UInt8) : Prop := runN l = 0
theorem toks_run {c : UInt8} {p l : List UInt8} {a : Nat} {t : Tk} {ts : List (Tk × Nat)} (hs : ¬ (cls c = 2 ∨ cls c = 3)) (h45 : c ≠ 45) (hr : runB c) (hrun : runN (p ++ l) = p.length) (ht : tokR (c :: p) = (t, 0)) (h : Toks l (a + (p.length + 1)) ts) : Toks (c :: (p ++ l)) a ((t, a) :: ts) := by
  refine toks_piece (p := c :: p) (by simp) ?_ ?_ ht h
  · show (if _ then _ else if _ then _ else _) = 0
    rw [if_neg hs, if_neg (fun k => h45 k.1)]
  · show (if _ then _ else _) = _
    rw [if_pos (Or.inl hr)]
    show 1 + runN (p ++ l) = _
    rw [hrun, List.length_cons]
    omega
theorem runN_app : ∀ (p l : List UInt8), (∀ c ∈ p, runB c) → runN l = 0 → runN (p ++ l) = p.length
  | [], _, _, h => h
  | c :: p, l, hp, h => by
    show (if _ then _ else _) = _
    rw [if_pos (hp c (by simp))]
    show 1 + runN (p ++ l) = _
    rw [runN_app p l (fun x hx => hp x (List.mem_cons_of_mem _ hx)) h, List.length_cons]
    omega
/-- The tokens of so many signs and brackets, their places aside. -/
def tkNot : Tk := (4, 0, ⟨#[78, 79, 84]⟩)
def tkTrue : Tk := (4, 0, ⟨#[84, 82, 85, 69]⟩)
def tkL : Tk := (7, 0, ⟨#[40]⟩)
def tkR_ : Tk := (7, 0, ⟨#[41]⟩)
def tkEnd : Tk := (1, 0, ⟨#[]⟩)
theorem toks_close : ∀ (m a : Nat), ∃ ts, Toks (rp [41] m) a ts ∧ ts.map Prod.fst = List.replicate m tkR_ ++ [tkEnd]
  | 0, a => ⟨_, Toks.fin rfl, rfl⟩
  | m + 1, a => by
    obtain ⟨ts, h1, h2⟩ := toks_close m (a + 1)
    refine ⟨_, by rw [rp_cons]; exact toks_sign (Or.inr rfl) h1, ?_⟩
    simp [h2, List.replicate_succ, tkR_]
theorem rp_stops (m : Nat) : runN (rp [41] m) = 0 := by
  cases m with
  | zero => rfl
  | succ m =>
    rw [rp_cons]
    show (if _ then _ else _) = 0
    rw [if_neg (by decide +kernel)]
theorem toks_true (m a : Nat) : ∃ ts, Toks ([84, 82, 85, 69] ++ rp [41] m) a ts ∧ ts.map Prod.fst = tkTrue :: (List.replicate m tkR_ ++ [tkEnd]) := by
  obtain ⟨ts, h1, h2⟩ := toks_close m (a + 4)
  refine ⟨_, toks_run (c := 84) (p := [82, 85, 69]) (t := tkTrue) (by decide +kernel) (by decide) (by decide +kernel) (runN_app [82, 85, 69] _ (by decide +kernel) (rp_stops m)) (by rw [tokR_run (by decide +kernel), if_pos (by decide +kernel)]; rfl) h1, ?_⟩
  simp [h2]
theorem toks_open : ∀ (k m a : Nat), ∃ ts, Toks (rp [40] k ++ ([84, 82, 85, 69] ++ rp [41] m)) a ts ∧ ts.map Prod.fst = List.replicate k tkL ++ (tkTrue :: (List.replicate m tkR_ ++ [tkEnd]))
  | 0, m, a => toks_true m a
  | k + 1, m, a => by
    obtain ⟨ts, h1, h2⟩ := toks_open k m (a + 1)
    refine ⟨_, by rw [rp_cons, List.append_assoc]; exact toks_sign (Or.inl rfl) h1, ?_⟩
    simp [h2, List.replicate_succ, tkL]
theorem toks_nots : ∀ (n k m a : Nat), ∃ ts, Toks (rp [78, 79, 84, 32] n ++ (rp [40] k ++ ([84, 82, 85, 69] ++ rp [41] m))) a ts ∧ ts.map Prod.fst = List.replicate n tkNot ++ (List.replicate k tkL ++ (tkTrue :: (List.replicate m tkR_ ++ [tkEnd])))
  | 0, k, m, a => toks_open k m a
  | n + 1, k, m, a => by
    obtain ⟨ts, h1, h2⟩ := toks_nots n k m (a + 4)
    refine ⟨_, by rw [rp_cons, List.append_assoc]; exact toks_run (c := 78) (p := [79, 84]) (t := tkNot) (by decide +kernel) (by decide) (by decide +kernel) (runN_app [79, 84] (32 :: _) (by decide +kernel) (if_neg (by decide +kernel))) (by rw [tokR_run (by decide +kernel), if_pos (by decide +kernel)]; rfl) (toks_blank h1), ?_⟩
    simp [h2, List.replicate_succ]
theorem toks_src (n m : Nat) : ∃ ts p1 p2 p3, Toks (srcN n m) 0 (((4, 0, ⟨#[68, 69, 76, 69, 84, 69]⟩), 0) :: ((4, 0, ⟨#[70, 82, 79, 77]⟩), p1) :: ((3, 0, ⟨#[116]⟩), p2) :: ((4, 0, ⟨#[87, 72, 69, 82, 69]⟩), p3) :: ts) ∧ ts.map Prod.fst = List.replicate n tkNot ++ (List.replicate m tkL ++ (tkTrue :: (List.replicate m tkR_ ++ [tkEnd]))) := by
  obtain ⟨ts, h1, h2⟩ := toks_nots n m m 20
  have e : srcN n m = 68 :: ([69, 76, 69, 84, 69] ++ 32 :: (70 :: ([82, 79, 77] ++ 32 :: (116 :: ([] ++ 32 :: (87 :: ([72, 69, 82, 69] ++ 32 :: (rp [78, 79, 84, 32] n ++ (rp [40] m ++ ([84, 82, 85, 69] ++ rp [41] m)))))))))) := by simp [srcN]
  have w4 := toks_run (a := 14) (c := 87) (p := [72, 69, 82, 69]) (t := (4, 0, ⟨#[87, 72, 69, 82, 69]⟩)) (by decide +kernel) (by decide) (by decide +kernel) (runN_app [72, 69, 82, 69] (32 :: _) (by decide +kernel) (if_neg (by decide +kernel))) (by rw [tokR_run (by decide +kernel), if_pos (by decide +kernel)]; rfl) (toks_blank h1)
  have w3 := toks_run (a := 12) (c := 116) (p := []) (t := (3, 0, ⟨#[116]⟩)) (by decide +kernel) (by decide) (by decide +kernel) (runN_app [] (32 :: _) (by decide +kernel) (if_neg (by decide +kernel))) (by rw [tokR_run (by decide +kernel), if_neg (by decide +kernel), if_pos (by decide +kernel)]; rfl) (toks_blank w4)
  have w2 := toks_run (a := 7) (c := 70) (p := [82, 79, 77]) (t := (4, 0, ⟨#[70, 82, 79, 77]⟩)) (by decide +kernel) (by decide) (by decide +kernel) (runN_app [82, 79, 77] (32 :: _) (by decide +kernel) (if_neg (by decide +kernel))) (by rw [tokR_run (by decide +kernel), if_pos (by decide +kernel)]; rfl) (toks_blank w3)
  have w1 := toks_run (a := 0) (c := 68) (p := [69, 76, 69, 84, 69]) (t := (4, 0, ⟨#[68, 69, 76, 69, 84, 69]⟩)) (by decide +kernel) (by decide) (by decide +kernel) (runN_app [69, 76, 69, 84, 69] (32 :: _) (by decide +kernel) (if_neg (by decide +kernel))) (by rw [tokR_run (by decide +kernel), if_pos (by decide +kernel)]; rfl) (toks_blank w2)
  exact ⟨ts, 7, 12, 14, by rw [e]; exact w1, h2⟩
end Go.Proofs.YtmfplnodafodoaaGreatDoor
/- Plain mathematics of layer 11: how so many signs and brackets are read. -/
namespace Go.Proofs.YtmfplnodafodoaaGreatDoor
open Go Go.RowKit
/-- Nothing that an expression goes on with is next. -/
structure Calm_ (s : PS) : Prop where
  prod : opOf s prodO = 0
  sum : opOf s sumO = 0
  is : s.sees wIs = false
  cmp : opOf s cmpO = 0
  and : s.sees wAnd = false
  or : s.sees wOr = false
theorem Pr.up {s s1 : PS} {e : Ex} (h : Pr .fact s (.ok e s1)) (c : Calm_ s1) (hn : s.sees wNot = false) : Pr .not s (.ok e s1) := by
  have h1 : Pr .prod s (.ok e s1) := Pr.bind (fun n => by rw [pX]) h ⟨1, fun m hm => pX_le hm (show pX 1 (.prodL e) s1 = some (.ok e s1) by rw [pX, if_pos c.prod])⟩
  have h2 : Pr .sum s (.ok e s1) := Pr.bind (fun n => by rw [pX]) h1 ⟨1, fun m hm => pX_le hm (show pX 1 (.sumL e) s1 = some (.ok e s1) by rw [pX, if_pos c.sum])⟩
  have h3 : Pr .test s (.ok e s1) := Pr.bind (fun n => by rw [pX]) h2 ⟨0, fun m _ => by rw [if_neg (by rw [c.is]; simp), if_pos c.cmp]⟩
  obtain ⟨n, h3⟩ := h3
  exact ⟨n + 1, by rw [pX, if_neg (by rw [hn]; simp)]; exact h3⟩
theorem Pr.top {s s1 : PS} {e : Ex} (h : Pr .not s (.ok e s1)) (c : Calm_ s1) : Pr .or s (.ok e s1) := by
  have h1 : Pr .and s (.ok e s1) := Pr.bind (fun n => by rw [pX]) h ⟨0, fun m _ => by rw [if_neg (by rw [c.and]; simp)]⟩
  exact Pr.bind (fun n => by rw [pX]) h1 ⟨0, fun m _ => by rw [if_neg (by rw [c.or]; simp)]⟩
theorem Pr.neg {s s1 : PS} {e : Ex} (h : Pr .not s.next (.ok e s1)) (hn : s.sees wNot = true) : Pr .not s (.ok (over 8 0 s.hd.2 [e]) s1) := Pr.bind (g1 := .not) (s0 := s.next) (f := fun _ e s1 => some (.ok (over 8 0 s.hd.2 [e]) s1)) (fun n => by rw [pX, if_pos hn]) h ⟨0, fun _ _ => rfl⟩
theorem Pr.par {s s1 : PS} {e : Ex} (h : Pr .or s.next (.ok e s1)) (h0 : s.sees [45] = false) (h1 : s.sees [40] = true) (h2 : s1.sees [41] = true) : Pr .fact s (.ok e s1.next) := Pr.bind (g1 := .or) (s0 := s.next) (f := fun _ e s1 => if s1.sees [41] = true then some (.ok e s1.next) else some (.bad s1.hd.2)) (fun n => by rw [pX, if_neg (by rw [h0]; simp), if_pos h1]) h ⟨0, fun _ _ => by rw [if_pos h2]⟩
/-- A row of signs over what stands for itself. -/
inductive Ch : Nat → Ex → Prop
  | leaf (p : Int) : Ch 0 (.mk 1 0 (2, 1, ⟨#[]⟩) ⟨#[]⟩ ⟨#[]⟩ [] p)
  | more {n : Nat} {e : Ex} (p : Nat) (h : Ch n e) : Ch (n + 1) (over 8 0 p [e])
theorem Ch.deep {n : Nat} {e : Ex} (h : Ch n e) : ∀ k, dpr k e = decide (k ≤ n) := by
  induction h with
  | leaf p =>
    intro k
    cases k with
    | zero => rfl
    | succ k => rfl
  | more p _ ih =>
    intro k
    cases k with
    | zero => rfl
    | succ k =>
      show List.any [_] _ = _
      rw [List.any_cons, List.any_nil, Bool.or_false, ih k]
      simp
theorem map_head {ts : List (Tk × Nat)} {t : Tk} {l : List Tk} (h : ts.map Prod.fst = t :: l) : ∃ p r, ts = (t, p) :: r ∧ r.map Prod.fst = l := by
  cases ts with
  | nil => simp at h
  | cons x r =>
    obtain ⟨y, p⟩ := x
    simp only [List.map_cons, List.cons.injEq] at h
    exact ⟨p, r, by rw [h.1], h.2⟩
def mk0 (l : List T) : PS := ⟨l, 0, 0⟩
theorem calm_close (p : Nat) (r : List T) : Calm_ (mk0 ((tkR_, p) :: r)) := ⟨rfl, rfl, rfl, rfl, rfl, rfl⟩
theorem calm_end (p : Nat) (r : List T) : Calm_ (mk0 ((tkEnd, p) :: r)) := ⟨rfl, rfl, rfl, rfl, rfl, rfl⟩
/-- So many brackets round what stands for itself. -/
theorem pr_par : ∀ (m k : Nat) (ts : List T), ts.map Prod.fst = List.replicate m tkL ++ (tkTrue :: (List.replicate (m + k) tkR_ ++ [tkEnd])) → ∃ e r, Pr .fact (mk0 ts) (.ok e (mk0 r)) ∧ Ch 0 e ∧ r.map Prod.fst = List.replicate k tkR_ ++ [tkEnd] ∧ (mk0 ts).sees wNot = false
  | 0, k, ts, h => by
    simp only [List.replicate_zero, List.nil_append, Nat.zero_add] at h
    obtain ⟨p, r, rfl, hr⟩ := map_head h
    exact ⟨_, r, ⟨1, rfl⟩, Ch.leaf p, hr, rfl⟩
  | m + 1, k, ts, h => by
    rw [List.replicate_succ, List.cons_append] at h
    obtain ⟨p, r, rfl, hr⟩ := map_head h
    obtain ⟨e, r1, h1, h2, h3, h4⟩ := pr_par m (k + 1) r (by rw [show m + (k + 1) = m + 1 + k by omega]; exact hr)
    rw [List.replicate_succ, List.cons_append] at h3
    obtain ⟨q, r2, rfl, hr2⟩ := map_head h3
    have g1 : Pr .or (mk0 r) (.ok e (mk0 ((tkR_, q) :: r2))) := (h1.up (calm_close q r2) h4).top (calm_close q r2)
    exact ⟨e, r2, Pr.par (s := mk0 ((tkL, p) :: r)) (s1 := mk0 ((tkR_, q) :: r2)) g1 rfl rfl rfl, h2, hr2, rfl⟩
theorem pr_nots : ∀ (n m : Nat) (ts : List T), ts.map Prod.fst = List.replicate n tkNot ++ (List.replicate m tkL ++ (tkTrue :: (List.replicate m tkR_ ++ [tkEnd]))) → ∃ e p, Pr .not (mk0 ts) (.ok e (mk0 [(tkEnd, p)])) ∧ Ch n e
  | 0, m, ts, h => by
    simp only [List.replicate_zero, List.nil_append] at h
    obtain ⟨e, r, h1, h2, h3, h4⟩ := pr_par m 0 ts h
    simp only [List.replicate_zero, List.nil_append] at h3
    obtain ⟨p, r2, rfl, hr2⟩ := map_head h3
    have : r2 = [] := by simpa using hr2
    subst this
    exact ⟨e, p, h1.up (calm_end p []) h4, h2⟩
  | n + 1, m, ts, h => by
    rw [List.replicate_succ, List.cons_append] at h
    obtain ⟨q, r, rfl, hr⟩ := map_head h
    obtain ⟨e, p, h1, h2⟩ := pr_nots n m r hr
    exact ⟨_, p, Pr.neg (s := mk0 ((tkNot, q) :: r)) h1 rfl, Ch.more q h2⟩
def stN (e : Ex) : St := { st0 with kind := 3, table := ⟨#[116]⟩, whr := [e] }
/-- What becomes of a source of so many signs and brackets. -/
theorem parse_nested {n m : Nat} {s : ByteArray} (hs : s.data.toList = srcN n m) (hsz : s.size ≤ 1000) : ∃ e, Ch n e ∧ ParseIs s (if 16 ≤ n then .fault 111 0 else .st (stN e)) := by
  obtain ⟨ts, p1, p2, p3, ht, hm⟩ := toks_src n m
  obtain ⟨e, p, h1, h2⟩ := pr_nots n m ts hm
  refine ⟨e, h2, _, 0, 0, Or.inr ⟨hsz, Or.inl ⟨rfl, rfl, by rw [hs]; exact ht⟩⟩, Or.inr ⟨rfl, .ok (stN e) (mk0 [(tkEnd, p)]), ?_, ?_⟩⟩
  · refine thenR_ok (ifR_not rfl (ifR_not rfl (ifR_yes rfl (thenR_ok rfl (thenR_ok rfl (thenR_ok (ifR_yes rfl (thenR_ok (show exprR (mk0 ts) _ from h1.top (calm_end p [])) rfl)) rfl)))))) rfl
  · have hd : deepS (stN e) = decide (16 ≤ n) := by
      show (deepL [] || deepL [e] || deepL [] || deepL [] || List.any [] _) = _
      simp [deepL, h2.deep 16]
    have ho : outOf (.ok (stN e) (mk0 [(tkEnd, p)])) = if deepS (stN e) = true then .fault 111 (stN e).place else .st (stN e) := rfl
    rw [ho, hd]
    by_cases h16 : 16 ≤ n
    · rw [if_pos h16, if_pos (by simpa using h16)]
      rfl
    · rw [if_neg h16, if_neg (by simpa using h16)]
end Go.Proofs.YtmfplnodafodoaaGreatDoor
/- Walks of layer 11: awake. -/
namespace Go.Proofs.YtmfplnodafodoaaGreatDoor
open Go.RowKit
/-- Two new blocks, one behind the other. -/
theorem two_new {w : World} {o p : Obj} : ((w.alloc o).alloc p).heap[w.heap.size]? = some o ∧ ((w.alloc o).alloc p).heap[w.heap.size + 1]? = some p ∧ Below w.heap.size w ((w.alloc o).alloc p) := by
  refine ⟨(alloc_off (by simp) _).trans (heap_alloc_new w o), ?_, ((Below.refl _ _).alloc (Nat.le_refl _) _).alloc (by simp) _⟩
  have := heap_alloc_new (w.alloc o) p
  simpa using this
/-- What one reads of the first source's statement. -/
theorem one_rows {w : World} {B : Nat} {a : Option Addr} {c : Nat} (h : XL w B [exOn] (.slice a 1 c)) : ∃ b off b2 off2 c2, a = some ⟨b, off, none⟩ ∧ 1 ≤ c ∧ 2 ≤ c2 ∧ w.cell? ⟨b, off, none⟩ = some (.int .i64 6) ∧ w.cell? ⟨b, off + 7, none⟩ = some (.slice (some ⟨b2, off2, none⟩) 2 c2) ∧ w.cell? ⟨b2, off2 + 9 + 5, none⟩ = some (.string ⟨#[117]⟩) := by
  obtain ⟨p, c', ks, e, h1, h2, h3, h4, h5⟩ := h.row
  injection e with e1 _ e3
  subst e1 e3
  have hk : 0 < ks.length := by simp at h3; omega
  obtain ⟨b, off, rfl, hc⟩ := h4 0 (by simp) hk
  have hx := h5 0 (by simp) hk
  simp only [List.getElem_cons_zero] at hc hx
  obtain ⟨k, hke⟩ : ∃ k, ks[0] = k := ⟨_, rfl⟩
  rw [hke] at hc hx
  unfold exOn over at hx hc
  cases hx with
  | @mk _ _ _ _ _ _ _ p2 c2 qs g1 g2 g3 g4 g5 =>
    have hq : 1 < qs.length := by simp at g1; omega
    obtain ⟨b2, off2, rfl, hc2⟩ := g4 1 (by simp) hq
    refine ⟨b, off, b2, off2, c2, rfl, by simpa using h1, by simpa using g2, by simpa using hc 0 _ rfl, by simpa using hc 7 _ rfl, by simpa using hc2 5 _ rfl⟩


set_option maxHeartbeats 4000000 in
set_option maxRecDepth 100000 in
theorem synAwake_any (w : World) (hv : SV w) : Calls Tryz.prog 13 #[] w fun e w' => e = .returned (.bool true) ∧ Below w.heap.size w w' := by
  have HV := Lib.hid hv
  clear hv
  go_enter Tryz.func13, Tryz.ntmps13
  go_wp2_with fail
  refine (synParse_any ⟨#[83, 69, 76, 69, 67, 84, 32, 42, 32, 70, 82, 79, 77, 32, 116, 32, 74, 79, 73, 78, 32, 117, 32, 79, 78, 32, 116, 46, 97, 32, 61, 32, 117, 46, 98]⟩ w HV.out).mono ?_
  rintro e w1 ⟨o, hp, hb, hm⟩
  obtain rfl := parse_one hp
  obtain ⟨v, rfl, ⟨a0, a1, a2, a3, a4, a5, a6, c0, c1, c2, c3, c4, c5, c6, rfl, hx⟩⟩ := hm
  have hon := hx.on
  simp only [stC, stOne, List.length_nil, List.length_cons, Nat.zero_add] at hon ⊢
  obtain ⟨b, off, b2, off2, k2, rfl, hc1, hc2, q0, q1, q2⟩ := one_rows hon
  have HB := Lib.hid hb
  have HQ := Lib.hid (And.intro q0 (And.intro q1 q2))
  clear hp hb hx hon q0 q1 q2
  go_wp2_with fail
  obtain ⟨W2, hW2⟩ : ∃ W, (w1.alloc (.cells #[.int .i64 4, .string ⟨#[116]⟩, .string ⟨#[117]⟩, .slice (some ⟨b, off, none⟩) 1 c0, .slice a1 0 c1, .slice a2 0 c2, .bool true, .slice a3 0 c3, .slice a4 0 c4, .slice a5 0 c5, .slice a6 0 c6, .int .i64 0, .int .i64 21] 27)).alloc (.cells #[.int .i64 0, .int .i64 0] 30) = W := ⟨_, rfl⟩
  rw [hW2]
  obtain ⟨r1, r2, k1⟩ := hW2 ▸ two_new (w := w1) (o := .cells #[.int .i64 4, .string ⟨#[116]⟩, .string ⟨#[117]⟩, .slice (some ⟨b, off, none⟩) 1 c0, .slice a1 0 c1, .slice a2 0 c2, .bool true, .slice a3 0 c3, .slice a4 0 c4, .slice a5 0 c5, .slice a6 0 c6, .int .i64 0, .int .i64 21] 27) (p := .cells #[.int .i64 0, .int .i64 0] 30)
  clear hW2
  have R1 := Lib.hid r1
  have R2 := Lib.hid r2
  have K1 := Lib.hid k1
  have HB2 := Lib.hid (HB.out.trans (k1.mono HB.out.size))
  clear r1 r2 k1
  refine (synParse_any ⟨#[83, 69, 76, 69, 67, 84, 32, 97, 32, 70, 82, 79, 77, 32, 116, 32, 87, 72, 69, 82, 69]⟩ W2 (HV.out.later HB2.out)).mono ?_
  rintro e w3 ⟨o, hp, hb, hm⟩
  obtain rfl := parse_two hp
  obtain ⟨v, rfl, ⟨b0, b1, b20, b3, b4, b5, b6, d0, d1, d2, d3, d4, d5, d6, rfl, hx⟩⟩ := hm
  simp only [stC, st0, List.length_nil]
  have HB3 := Lib.hid hb
  clear hp hx hb
  go_upto_region 3 with fail
  obtain ⟨W4, hW4⟩ : ∃ W, (w3.alloc (.cells #[.int .i64 0, .string ⟨#[]⟩, .string ⟨#[]⟩, .slice b0 0 d0, .slice b1 0 d1, .slice b20 0 d2, .bool false, .slice b3 0 d3, .slice b4 0 d4, .slice b5 0 d5, .slice b6 0 d6, .int .i64 0, .int .i64 0] 27)).alloc (.cells #[.int .i64 110, .int .i64 21] 30) = W := ⟨_, rfl⟩
  rw [hW4]
  obtain ⟨-, r4, k4⟩ := hW4 ▸ two_new (w := w3) (o := .cells #[.int .i64 0, .string ⟨#[]⟩, .string ⟨#[]⟩, .slice b0 0 d0, .slice b1 0 d1, .slice b20 0 d2, .bool false, .slice b3 0 d3, .slice b4 0 d4, .slice b5 0 d5, .slice b6 0 d6, .int .i64 0, .int .i64 0] 27) (p := .cells #[.int .i64 110, .int .i64 21] 30)
  clear hW4
  have hb4 : Below W2.heap.size W2 W4 := HB3.out.trans (k4.mono HB3.out.size)
  obtain ⟨⟨x0, x1, x2, x3, x4, x5, x6, x7, x8, x9, x10, x11, x12⟩, -⟩ := thirt_of ((hb4.block _ (Array.getElem?_eq_some_iff.1 R1.out).1).trans R1.out)
  have f0 : W4.cell? ⟨w1.heap.size + 1, 0, none⟩ = some (.int .i64 0) := by simp [World.cell?, (hb4.block _ (Array.getElem?_eq_some_iff.1 R2.out).1).trans R2.out]
  have g0 : W4.cell? ⟨w3.heap.size + 1, 0, none⟩ = some (.int .i64 110) := by simp [World.cell?, r4]
  have g1 : W4.cell? ⟨w3.heap.size + 1, 1, none⟩ = some (.int .i64 21) := by simp [World.cell?, r4]
  have hb5 : Below w1.heap.size w1 W4 := K1.out.trans (hb4.mono K1.out.size)
  have q0 := (hb5.cell (World.block_lt_of_cell? _ _ HQ.out.1)).trans HQ.out.1
  have q1 := (hb5.cell (World.block_lt_of_cell? _ _ HQ.out.2.1)).trans HQ.out.2.1
  have q2 := (hb5.cell (World.block_lt_of_cell? _ _ HQ.out.2.2)).trans HQ.out.2.2
  have HB6 := Lib.hid (HB2.out.trans (hb4.mono HB2.out.size))
  clear hb4 hb5 r4 k4
  go_wp2
  exact bodyPost_ret (v := .bool true) (by simp [results, Tryz.results13, go_sem]) rfl ⟨rfl, HB6.out⟩
end Go.Proofs.YtmfplnodafodoaaGreatDoor
/- Walks of layer 11: how deep, as the document says. -/
namespace Go.Proofs.YtmfplnodafodoaaGreatDoor
open Go.RowKit
/-- How deep an expression is. -/
inductive DP : Ex → Nat → Prop
  | mk {kind op : Int} {v : V3} {t n : ByteArray} {kids : List Ex} {pl : Int} (ds : List Nat) (h1 : kids.length = ds.length) (h2 : ∀ i (h : i < kids.length) (h' : i < ds.length), DP kids[i] ds[i]) (hb : ds.foldl max 0 + 1 ≤ 9223372036854775807) : DP (.mk kind op v t n kids pl) (ds.foldl max 0 + 1)
theorem DP.le {e : Ex} {d : Nat} (h : DP e d) : d ≤ 9223372036854775807 := by
  cases h with
  | mk ds _ _ hb => exact hb
theorem Ch.dp {n : Nat} {e : Ex} (h : Ch n e) (hn : n ≤ 1000) : DP e (n + 1) := by
  induction h with
  | leaf p => exact DP.mk [] rfl (fun _ h => absurd h (Nat.not_lt_zero _)) (by decide)
  | @more n e p _ ih =>
    have := DP.mk (kind := 8) (op := 0) (v := v0) (t := ⟨#[]⟩) (n := ⟨#[]⟩) (kids := [e]) (pl := (p : Int)) [n + 1] rfl (fun i h h' => by
      have : i = 0 := by simp at h; omega
      subst this
      exact ih (by omega)) (by simp; omega)
    show DP (Ex.mk 8 0 v0 ⟨#[]⟩ ⟨#[]⟩ [e] (p : Int)) (n + 1 + 1)
    simpa using this
theorem fold_take {ds : List Nat} {i : Nat} (h : i < ds.length) : (ds.take (i + 1)).foldl max 0 = max ((ds.take i).foldl max 0) ds[i] := by
  rw [List.take_add_one, List.getElem?_eq_getElem h, Option.toList_some, List.foldl_append]
  rfl
theorem fold_le : ∀ (ds : List Nat) (a : Nat), a ≤ ds.foldl max a
  | [], _ => Nat.le_refl _
  | d :: ds, a => Nat.le_trans (Nat.le_max_left a d) (fold_le ds (max a d))
theorem fold_mono : ∀ (ds : List Nat) (a b : Nat), a ≤ b → ds.foldl max a ≤ ds.foldl max b
  | [], _, _, h => h
  | d :: ds, a, b, h => fold_mono ds (max a d) (max b d) (by omega)
theorem fold_part (ds : List Nat) (i : Nat) : (ds.take i).foldl max 0 ≤ ds.foldl max 0 := by
  have e : ds.foldl max 0 = (ds.drop i).foldl max ((ds.take i).foldl max 0) := by rw [← List.foldl_append, List.take_append_drop]
  rw [e]
  exact fold_le _ _

set_option maxHeartbeats 4000000 in
set_option maxRecDepth 100000 in
theorem depth_any (e : Ex) (d : Nat) (h : DP e d) : ∀ (k : Value) (w : World), XR w e k → Calls Tryz.prog 19 #[.agg (exC e k).toArray] w fun r w' => r = .returned (.int .i64 (d : Int)) ∧ Below w.heap.size w w' := by
  induction h with
  | @mk kk oo v tt nn kids pp ds hkd _ hbd ih =>
    intro k w hx
    have HIH := Lib.hid ih
    have HKD := Lib.hid hkd
    have HBD := Lib.hid hbd
    clear ih hkd hbd
    obtain ⟨v1, v2, v3⟩ := v
    cases hx with
    | @mk _ _ _ _ _ _ _ p c ks h1 hc hm h2 h3 =>
      have HR := Lib.hid h2
      have HXs := Lib.hid h3
      have HLK := Lib.hid h1
      clear h1 h2 h3
      simp only [exC]
      obtain ⟨W, hW⟩ : ∃ W, w.alloc (.cells #[.int .i64 kk, .int .i64 oo, .int .i64 v1, .int .i64 v2, .string v3, .string tt, .string nn, .slice p kids.length c, .int .i64 pp] 48) = W := ⟨_, rfl⟩
      have hb : Below w.heap.size w W := hW ▸ (Below.refl _ _).alloc (Nat.le_refl _) _
      have he : W.heap[w.heap.size]? = some (.cells #[.int .i64 kk, .int .i64 oo, .int .i64 v1, .int .i64 v2, .string v3, .string tt, .string nn, .slice p kids.length c, .int .i64 pp] 48 (0, 0)) := hW ▸ heap_alloc_new w _
      have HB := Lib.hid hb
      have HE := Lib.hid he
      have hsz : w.heap.size < W.heap.size := (Array.getElem?_eq_some_iff.1 he).1
      clear hb he
      go_enter Tryz.func19, Tryz.ntmps19
      go_wp2_with fail
      clear hW
      go_loopw [3, 4] (fun m i wr => ∃ k : Nat, k ≤ kids.length ∧ m = .int .i64 (((ds.take k).foldl max 0 : Nat) : Int) ∧ i = .int .i64 (k : Int) ∧ Below W.heap.size W wr) (fun _ i _ => kids.length - (intOf i).toNat)
      case atStart => exact ⟨0, Nat.zero_le _, rfl, rfl, Below.refl _ _⟩
      case round =>
        obtain ⟨k, hk, rfl, rfl, hb⟩ := hrel
        have HW := Lib.hid hb
        obtain ⟨⟨y0, y1, y2, y3, y4, y5, y6, y7, y8⟩, -⟩ := nine_of ((hb.block _ hsz).trans HE.out)
        clear hb
        obtain ⟨M, hM⟩ : ∃ M, (ds.take k).foldl max 0 = M := ⟨_, rfl⟩
        have HM := Lib.hid hM
        have hMb : M + 1 ≤ 9223372036854775807 := by have h1 := fold_part ds k; have h2 := HBD.out; omega
        rw [hM]
        clear hM
        by_cases hlt : k < kids.length
        · have hlti : (k : Int) < (kids.length : Int) := by omega
          have hlt' : k < ks.length := by rw [← HLK.out]; exact hlt
          have hltd : k < ds.length := by rw [← HKD.out]; exact hlt
          obtain ⟨b, off, rfl, hcs⟩ := HR.out k hlt hlt'
          have hxk := HXs.out k hlt hlt'
          obtain ⟨a2, m2, c2, hks⟩ := hxk.slice
          have HCk := Lib.hid (HIH.out k hlt hltd ks[k])
          rw [hks] at hcs HCk hxk
          have HF := Lib.hid (fold_take hltd)
          rw [HM.out] at HF
          have hDle : ds[k] ≤ 9223372036854775806 := by have h1 := fold_part ds (k + 1); have h2 := HBD.out; have h3 := HF.out; omega
          obtain ⟨D, hD⟩ : ∃ D, ds[k] = D := ⟨_, rfl⟩
          rw [hD] at HCk HF hDle
          clear hD
          obtain ⟨⟨kk2, oo2, ⟨u1, u2, u3⟩, tt2, nn2, ks2, pp2⟩, hx⟩ : ∃ x, kids[k] = x := ⟨_, rfl⟩
          rw [hx] at hcs HCk hxk
          have HXK := Lib.hid hxk
          clear hx hks hxk
          simp only [exC] at HCk
          have HCS : Hid (∀ j u, [.int .i64 kk2, .int .i64 oo2, .int .i64 u1, .int .i64 u2, .string u3, .string tt2, .string nn2, .slice a2 m2 c2, .int .i64 pp2][j]? = some u → w.cell? ⟨b, off + k * 9 + j, none⟩ = some u) := hcs
          clear hcs
          have HBW := Lib.hid (HB.out.trans (HW.out.mono HB.out.size))
          have q0 := (HBW.out.cell (World.block_lt_of_cell? _ _ (HCS.out 0 _ rfl))).trans (HCS.out 0 _ rfl)
          have q1 := (HBW.out.cell (World.block_lt_of_cell? _ _ (HCS.out 1 _ rfl))).trans (HCS.out 1 _ rfl)
          have q2 := (HBW.out.cell (World.block_lt_of_cell? _ _ (HCS.out 2 _ rfl))).trans (HCS.out 2 _ rfl)
          have q3 := (HBW.out.cell (World.block_lt_of_cell? _ _ (HCS.out 3 _ rfl))).trans (HCS.out 3 _ rfl)
          have q4 := (HBW.out.cell (World.block_lt_of_cell? _ _ (HCS.out 4 _ rfl))).trans (HCS.out 4 _ rfl)
          have q5 := (HBW.out.cell (World.block_lt_of_cell? _ _ (HCS.out 5 _ rfl))).trans (HCS.out 5 _ rfl)
          have q6 := (HBW.out.cell (World.block_lt_of_cell? _ _ (HCS.out 6 _ rfl))).trans (HCS.out 6 _ rfl)
          have q7 := (HBW.out.cell (World.block_lt_of_cell? _ _ (HCS.out 7 _ rfl))).trans (HCS.out 7 _ rfl)
          have q8 := (HBW.out.cell (World.block_lt_of_cell? _ _ (HCS.out 8 _ rfl))).trans (HCS.out 8 _ rfl)
          simp only [Nat.add_zero] at q0
          go_wp2_with fail
          refine (HCk.out _ (HXK.out.later HBW.out)).mono ?_
          rintro e w2 ⟨rfl, hb2⟩
          have HW2 := Lib.hid (HW.out.trans (hb2.mono HW.out.size))
          clear hb2 q0 q1 q2 q3 q4 q5 q6 q7 q8 y0 y1 y2 y3 y4 y5 y6 y7 y8
          go_wp2
          go_roundw
          case rel => exact ⟨k + 1, by omega, by rw [HF.out]; go_num, by go_num, HW2.out⟩
          case measure => simp [intOf]; omega
        · have hnlt : ¬ (k : Int) < (kids.length : Int) := by omega
          have hk2 : k = ds.length := by have := HKD.out; omega
          have hMe : M = ds.foldl max 0 := by rw [← HM.out, hk2, List.take_length]
          have HME := Lib.hid hMe
          clear hMe
          go_wp2
          exact bodyPost_ret (v := .int .i64 ((M : Int) + 1)) (by simp [results, Tryz.results19, go_sem]) rfl ⟨by rw [HME.out], HB.out.trans (HW.out.mono HB.out.size)⟩
end Go.Proofs.YtmfplnodafodoaaGreatDoor
/- Walks of layer 11: SyntaxNested. -/
namespace Go.Proofs.YtmfplnodafodoaaGreatDoor
open Go.RowKit

set_option maxHeartbeats 8000000 in
set_option maxRecDepth 100000 in
theorem syntaxNested_law (a b : Int) (w : World) (hv : SV w) : Calls Tryz.prog 8 #[.int .i64 a, .int .i64 b] w fun e w' => e = .returned (.bool true) ∧ Below w.heap.size w w' := by
  have HV := Lib.hid hv
  clear hv
  go_enter Tryz.func8, Tryz.ntmps8
  go_wp2_with fail
  refine (synAwake_any w HV.out).mono ?_
  rintro e w1 ⟨rfl, hb⟩
  have HB := Lib.hid hb
  clear hb
  by_cases h1 : a < 0
  · go_wp2
    exact bodyPost_ret (v := .bool true) (by simp [results, Tryz.results8, go_sem]) rfl ⟨rfl, HB.out⟩
  by_cases h2 : 100 < a
  · go_wp2
    exact bodyPost_ret (v := .bool true) (by simp [results, Tryz.results8, go_sem]) rfl ⟨rfl, HB.out⟩
  by_cases h3 : b < 0
  · go_wp2
    exact bodyPost_ret (v := .bool true) (by simp [results, Tryz.results8, go_sem]) rfl ⟨rfl, HB.out⟩
  by_cases h4 : 100 < b
  · go_wp2
    exact bodyPost_ret (v := .bool true) (by simp [results, Tryz.results8, go_sem]) rfl ⟨rfl, HB.out⟩
  obtain ⟨n, rfl⟩ : ∃ n : Nat, a = n := ⟨a.toNat, by omega⟩
  obtain ⟨m, rfl⟩ : ∃ m : Nat, b = m := ⟨b.toNat, by omega⟩
  have hn : n ≤ 100 := by omega
  have hm : m ≤ 100 := by omega
  go_wp2
  clear h1 h2 h3 h4
  have HS : Hid ((⟨#[68, 69, 76, 69, 84, 69, 32, 70, 82, 79, 77, 32, 116, 32, 87, 72, 69, 82, 69, 32]⟩ : ByteArray).data.toList = [68, 69, 76, 69, 84, 69, 32, 70, 82, 79, 77, 32, 116, 32, 87, 72, 69, 82, 69, 32] ++ []) := Lib.hid rfl
  go_loopw [6, 7] (fun sv iv wr => ∃ (k : Nat) (S : ByteArray), sv = .string S ∧ iv = .int .i64 (k : Int) ∧ k ≤ n ∧ S.data.toList = [68, 69, 76, 69, 84, 69, 32, 70, 82, 79, 77, 32, 116, 32, 87, 72, 69, 82, 69, 32] ++ rp [78, 79, 84, 32] k ∧ Below w.heap.size w wr) (fun _ i _ => n - (intOf i).toNat)
  case atStart => exact ⟨0, _, rfl, rfl, Nat.zero_le _, HS.out, HB.out⟩
  case round =>
    clear HB HS
    obtain ⟨k, S, rfl, rfl, hk, hS, hb⟩ := hrel
    have hsz : S.size ≤ 1000 := by rw [← ByteArray.size_data, ← Array.length_toList, hS]; simp only [List.length_append, rp_length, List.length_cons, List.length_nil]; omega
    have HS := Lib.hid hS
    have HB := Lib.hid hb
    clear hS hb
    by_cases hlt : k < n
    · have hlti : (k : Int) < (n : Int) := by omega
      have g1 : ¬ 9223372036854775807 < S.size + 4 := by omega
      have HS2 : Hid ((S ++ ⟨#[78, 79, 84, 32]⟩ : ByteArray).data.toList = [68, 69, 76, 69, 84, 69, 32, 70, 82, 79, 77, 32, 116, 32, 87, 72, 69, 82, 69, 32] ++ rp [78, 79, 84, 32] (k + 1)) := Lib.hid (by rw [rp, ← List.append_assoc, ← HS.out]; simp)
      go_wp2
      go_roundw
      case rel => exact ⟨k + 1, _, rfl, by go_num, by omega, HS2.out, HB.out⟩
      case measure => simp [intOf]; omega
    · have hnlt : ¬ (k : Int) < (n : Int) := by omega
      have hkn : k = n := by omega
      rw [hkn] at HS
      clear hkn
      have HS0 : Hid (S.data.toList = ([68, 69, 76, 69, 84, 69, 32, 70, 82, 79, 77, 32, 116, 32, 87, 72, 69, 82, 69, 32] ++ rp [78, 79, 84, 32] n) ++ rp [40] 0) := Lib.hid (by rw [HS.out]; simp [rp])
      clear HS
      have HS := HS0
      clear HS0
      go_wp2
      clear hnlt hlt hk
      go_loopw [6, 8] (fun sv iv wr => ∃ (k : Nat) (S : ByteArray), sv = .string S ∧ iv = .int .i64 (k : Int) ∧ k ≤ m ∧ S.data.toList = ([68, 69, 76, 69, 84, 69, 32, 70, 82, 79, 77, 32, 116, 32, 87, 72, 69, 82, 69, 32] ++ rp [78, 79, 84, 32] n) ++ rp [40] k ∧ Below w.heap.size w wr) (fun _ i _ => m - (intOf i).toNat)
      case atStart => exact ⟨0, _, rfl, rfl, Nat.zero_le _, HS.out, HB.out⟩
      case round =>
        clear HB HS
        obtain ⟨k, S, rfl, rfl, hk, hS, hb⟩ := hrel
        have hsz : S.size ≤ 1000 := by rw [← ByteArray.size_data, ← Array.length_toList, hS]; simp only [List.length_append, rp_length, List.length_cons, List.length_nil]; omega
        have HS := Lib.hid hS
        have HB := Lib.hid hb
        clear hS hb
        by_cases hlt : k < m
        · have hlti : (k : Int) < (m : Int) := by omega
          have g1 : ¬ 9223372036854775807 < S.size + 1 := by omega
          have HS2 : Hid ((S ++ ⟨#[40]⟩ : ByteArray).data.toList = ([68, 69, 76, 69, 84, 69, 32, 70, 82, 79, 77, 32, 116, 32, 87, 72, 69, 82, 69, 32] ++ rp [78, 79, 84, 32] n) ++ rp [40] (k + 1)) := Lib.hid (by rw [rp, ← List.append_assoc, ← HS.out]; simp)
          go_wp2
          go_roundw
          case rel => exact ⟨k + 1, _, rfl, by go_num, by omega, HS2.out, HB.out⟩
          case measure => simp [intOf]; omega
        · have hnlt : ¬ (k : Int) < (m : Int) := by omega
          have hkn : k = m := by omega
          rw [hkn] at HS
          clear hkn
          have HS0 : Hid ((S ++ ⟨#[84, 82, 85, 69]⟩ : ByteArray).data.toList = ((([68, 69, 76, 69, 84, 69, 32, 70, 82, 79, 77, 32, 116, 32, 87, 72, 69, 82, 69, 32] ++ rp [78, 79, 84, 32] n) ++ rp [40] m) ++ [84, 82, 85, 69]) ++ rp [41] 0) := Lib.hid (by rw [rp, List.append_nil, ← HS.out]; simp)
          clear HS
          have HS := HS0
          clear HS0
          have g1 : ¬ 9223372036854775807 < S.size + 4 := by omega
          go_wp2
          clear hnlt hlt hk g1
          go_loopw [6, 9] (fun sv iv wr => ∃ (k : Nat) (S : ByteArray), sv = .string S ∧ iv = .int .i64 (k : Int) ∧ k ≤ m ∧ S.data.toList = ((([68, 69, 76, 69, 84, 69, 32, 70, 82, 79, 77, 32, 116, 32, 87, 72, 69, 82, 69, 32] ++ rp [78, 79, 84, 32] n) ++ rp [40] m) ++ [84, 82, 85, 69]) ++ rp [41] k ∧ Below w.heap.size w wr) (fun _ i _ => m - (intOf i).toNat)
          case atStart => exact ⟨0, _, rfl, rfl, Nat.zero_le _, HS.out, HB.out⟩
          case round =>
            clear HB HS
            obtain ⟨k, S, rfl, rfl, hk, hS, hb⟩ := hrel
            have hsz : S.size ≤ 1000 := by rw [← ByteArray.size_data, ← Array.length_toList, hS]; simp only [List.length_append, rp_length, List.length_cons, List.length_nil]; omega
            have HS := Lib.hid hS
            have HB := Lib.hid hb
            clear hS hb
            by_cases hlt : k < m
            · have hlti : (k : Int) < (m : Int) := by omega
              have g1 : ¬ 9223372036854775807 < S.size + 1 := by omega
              have HS2 : Hid ((S ++ ⟨#[41]⟩ : ByteArray).data.toList = ((([68, 69, 76, 69, 84, 69, 32, 70, 82, 79, 77, 32, 116, 32, 87, 72, 69, 82, 69, 32] ++ rp [78, 79, 84, 32] n) ++ rp [40] m) ++ [84, 82, 85, 69]) ++ rp [41] (k + 1)) := Lib.hid (by rw [rp, ← List.append_assoc, ← HS.out]; simp)
              go_wp2
              go_roundw
              case rel => exact ⟨k + 1, _, rfl, by go_num, by omega, HS2.out, HB.out⟩
              case measure => simp [intOf]; omega
            · have hnlt : ¬ (k : Int) < (m : Int) := by omega
              have hkn : k = m := by omega
              rw [hkn] at HS
              clear hkn
              have hsrc : S.data.toList = srcN n m := by rw [HS.out]; rfl
              obtain ⟨e, hch, hpi⟩ := parse_nested hsrc hsz
              have HCH := Lib.hid hch
              have HPI := Lib.hid hpi
              clear hch hpi hsrc HS
              go_wp2_with fail
              refine (synParse_any S _ (HV.out.later HB.out)).mono ?_
              rintro e1 w5 ⟨o, hp, hb5, hmm⟩
              obtain rfl := hp.one HPI.out
              have HB5 := Lib.hid hb5
              clear hb5 hp
              by_cases h16 : 16 ≤ n
              · rw [if_pos h16] at hmm
                obtain ⟨v, rfl, ⟨a0, a1, a2, a3, a4, a5, a6, c0, c1, c2, c3, c4, c5, c6, rfl, hx⟩⟩ := hmm
                simp only [stC, st0, List.length_nil]
                have h16i : (16 : Int) ≤ (n : Int) := by omega
                clear hx
                go_upto_region 19 with fail
                obtain ⟨W6, hW6⟩ : ∃ W, (w5.alloc (.cells #[.int .i64 0, .string ⟨#[]⟩, .string ⟨#[]⟩, .slice a0 0 c0, .slice a1 0 c1, .slice a2 0 c2, .bool false, .slice a3 0 c3, .slice a4 0 c4, .slice a5 0 c5, .slice a6 0 c6, .int .i64 0, .int .i64 0] 27)).alloc (.cells #[.int .i64 111, .int .i64 0] 30) = W := ⟨_, rfl⟩
                rw [hW6]
                obtain ⟨-, r6, k6⟩ := hW6 ▸ two_new (w := w5) (o := .cells #[.int .i64 0, .string ⟨#[]⟩, .string ⟨#[]⟩, .slice a0 0 c0, .slice a1 0 c1, .slice a2 0 c2, .bool false, .slice a3 0 c3, .slice a4 0 c4, .slice a5 0 c5, .slice a6 0 c6, .int .i64 0, .int .i64 0] 27) (p := .cells #[.int .i64 111, .int .i64 0] 30)
                clear hW6
                have g0 : W6.cell? ⟨w5.heap.size + 1, 0, none⟩ = some (.int .i64 111) := by simp [World.cell?, r6]
                have g1 : W6.cell? ⟨w5.heap.size + 1, 1, none⟩ = some (.int .i64 0) := by simp [World.cell?, r6]
                have HB6 := Lib.hid ((HB.out.trans (HB5.out.mono HB.out.size)).trans (k6.mono (Nat.le_trans HB.out.size HB5.out.size)))
                clear r6 k6
                go_wp2
                exact bodyPost_ret (v := .bool true) (by simp [results, Tryz.results8, go_sem]) rfl ⟨rfl, HB6.out⟩
              · rw [if_neg h16] at hmm
                obtain ⟨v, rfl, ⟨a0, a1, a2, a3, a4, a5, a6, c0, c1, c2, c3, c4, c5, c6, rfl, hx⟩⟩ := hmm
                have hwr := hx.whr
                simp only [stC, stN, st0, List.length_nil, List.length_cons, Nat.zero_add] at hwr ⊢
                obtain ⟨p, cc, qs, e2, hq1, hq2, hq3, hq4, hq5⟩ := hwr.row
                simp only [List.length_nil, List.length_cons, Nat.zero_add] at e2 hq1
                injection e2 with e3 _ e4
                subst e3 e4
                have hqk : 0 < qs.length := by simp at hq3; omega
                obtain ⟨bb, off, rfl, hcs⟩ := hq4 0 (by simp) hqk
                have hxr := hq5 0 (by simp) hqk
                simp only [List.getElem_cons_zero] at hcs hxr
                obtain ⟨qk, hqe⟩ : ∃ q, qs[0] = q := ⟨_, rfl⟩
                rw [hqe] at hcs hxr
                obtain ⟨p2, m2, c22, rfl⟩ := hxr.slice
                have HD := Lib.hid (depth_any e (n + 1) (HCH.out.dp (by omega)) (.slice p2 m2 c22))
                obtain ⟨kk, oo, ⟨v1, v2, v3⟩, tt, nn, ks, pp⟩ := e
                simp only [exC] at HD
                have HXR := Lib.hid hxr
                have HCS : Hid (∀ j u, [.int .i64 kk, .int .i64 oo, .int .i64 v1, .int .i64 v2, .string v3, .string tt, .string nn, .slice p2 m2 c22, .int .i64 pp][j]? = some u → w5.cell? ⟨bb, off + 0 * 9 + j, none⟩ = some u) := hcs
                clear hx hwr hcs hxr hq2 hq3 hq4 hq5 hqk hqe
                have h16i : ¬ (16 : Int) ≤ (n : Int) := by omega
                go_upto_region 19 with fail
                obtain ⟨W6, hW6⟩ : ∃ W, (w5.alloc (.cells #[.int .i64 3, .string ⟨#[116]⟩, .string ⟨#[]⟩, .slice a0 0 c0, .slice (some ⟨bb, off, none⟩) 1 c1, .slice a2 0 c2, .bool false, .slice a3 0 c3, .slice a4 0 c4, .slice a5 0 c5, .slice a6 0 c6, .int .i64 0, .int .i64 0] 27)).alloc (.cells #[.int .i64 0, .int .i64 0] 30) = W := ⟨_, rfl⟩
                rw [hW6]
                obtain ⟨r5, r6, k6⟩ := hW6 ▸ two_new (w := w5) (o := .cells #[.int .i64 3, .string ⟨#[116]⟩, .string ⟨#[]⟩, .slice a0 0 c0, .slice (some ⟨bb, off, none⟩) 1 c1, .slice a2 0 c2, .bool false, .slice a3 0 c3, .slice a4 0 c4, .slice a5 0 c5, .slice a6 0 c6, .int .i64 0, .int .i64 0] 27) (p := .cells #[.int .i64 0, .int .i64 0] 30)
                clear hW6
                have g0 : W6.cell? ⟨w5.heap.size + 1, 0, none⟩ = some (.int .i64 0) := by simp [World.cell?, r6]
                obtain ⟨⟨x0, x1, x2, x3, x4, x5, x6, x7, x8, x9, x10, x11, x12⟩, -⟩ := thirt_of r5
                have q0 := (k6.cell (World.block_lt_of_cell? _ _ (HCS.out 0 _ rfl))).trans (HCS.out 0 _ rfl)
                have q1 := (k6.cell (World.block_lt_of_cell? _ _ (HCS.out 1 _ rfl))).trans (HCS.out 1 _ rfl)
                have q2 := (k6.cell (World.block_lt_of_cell? _ _ (HCS.out 2 _ rfl))).trans (HCS.out 2 _ rfl)
                have q3 := (k6.cell (World.block_lt_of_cell? _ _ (HCS.out 3 _ rfl))).trans (HCS.out 3 _ rfl)
                have q4 := (k6.cell (World.block_lt_of_cell? _ _ (HCS.out 4 _ rfl))).trans (HCS.out 4 _ rfl)
                have q5 := (k6.cell (World.block_lt_of_cell? _ _ (HCS.out 5 _ rfl))).trans (HCS.out 5 _ rfl)
                have q6 := (k6.cell (World.block_lt_of_cell? _ _ (HCS.out 6 _ rfl))).trans (HCS.out 6 _ rfl)
                have q7 := (k6.cell (World.block_lt_of_cell? _ _ (HCS.out 7 _ rfl))).trans (HCS.out 7 _ rfl)
                have q8 := (k6.cell (World.block_lt_of_cell? _ _ (HCS.out 8 _ rfl))).trans (HCS.out 8 _ rfl)
                simp only [Nat.zero_mul, Nat.add_zero] at q0 q1 q2 q3 q4 q5 q6 q7 q8
                have HX6 := Lib.hid (HXR.out.later k6)
                have HB6 := Lib.hid ((HB.out.trans (HB5.out.mono HB.out.size)).trans (k6.mono (Nat.le_trans HB.out.size HB5.out.size)))
                clear r5 r6 k6
                go_wp2_with fail
                refine (HD.out _ HX6.out).mono ?_
                rintro e w7 ⟨rfl, hb7⟩
                have HB7 := Lib.hid (HB6.out.trans (hb7.mono HB6.out.size))
                clear hb7
                go_wp2
                exact bodyPost_ret (v := .bool true) (by simp [results, Tryz.results8, go_sem]) rfl ⟨rfl, HB7.out⟩
end Go.Proofs.YtmfplnodafodoaaGreatDoor
