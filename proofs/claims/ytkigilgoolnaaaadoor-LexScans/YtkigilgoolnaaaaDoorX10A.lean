/- Walks of layer 10: the document's word. -/
import Derived.Test.YtkigilgoolnaaaaDoorX10B
import Derived.Test.YtkigilgoolnaaaaDoorA4
namespace Go.Proofs.YtkigilgoolnaaaaDoor
open Go.RowKit

/-- What the document tells of a piece at a place: a token, the place behind it, an error. -/
def DTokP (p : List UInt8) (a : Nat) (w : World) (e : Ending) (w' : World) : Prop := ∃ (t : Tk) (b : Int) (z : Int), e = .returned (.tuple #[tkA t (a : Int), .int .i64 b, .int .i64 z]) ∧ z = (tokR p).2 ∧ (z = 0 → t = (tokR p).1 ∧ b = ((a + p.length : Nat) : Int)) ∧ Below w.heap.size w w'
theorem dtok_no {p : List UInt8} {a : Nat} {w w' : World} {t : Tk} {z : Int} (h : tokR p = (tk0, z)) (hz : z ≠ 0) (hb : Below w.heap.size w w') : DTokP p a w (.returned (.tuple #[tkA t (a : Int), .int .i64 0, .int .i64 z])) w' := ⟨t, 0, z, rfl, by rw [h], fun g => absurd g hz, hb⟩
theorem dtok_yes {p : List UInt8} {a : Nat} {w w' : World} {t : Tk} (h : tokR p = (t, 0)) (hb : Below w.heap.size w w') : DTokP p a w (.returned (.tuple #[tkA t (a : Int), .int .i64 ((a : Int) + (p.length : Int)), .int .i64 0])) w' := ⟨t, _, 0, rfl, by rw [h], fun _ => ⟨by rw [h], by omega⟩, hb⟩

theorem four_of {w : World} {x : Nat} {a b c d : Value} {t : TypeId} (h : w.heap[x]? = some (.cells #[a, b, c, d] t (0, 0))) : (w.cell? ⟨x, 0, none⟩ = some a ∧ w.cell? ⟨x, 1, none⟩ = some b ∧ w.cell? ⟨x, 2, none⟩ = some c ∧ w.cell? ⟨x, 3, none⟩ = some d) ∧ w.frozen? ⟨x, 0, none⟩ = false ∧ w.frozen? ⟨x, 1, none⟩ = false ∧ w.frozen? ⟨x, 2, none⟩ = false ∧ w.frozen? ⟨x, 3, none⟩ = false := by
  simp [World.cell?, World.frozen?, h]
theorem set_at {w : World} {l i : Nat} {cs : Array Value} {t : TypeId} {fr : Nat × Nat} (h : w.heap[l]? = some (.cells cs t fr)) (v : Value) : (w.setCell ⟨l, i, none⟩ v).heap[l]? = some (.cells (cs.setIfInBounds i v) t fr) := by
  have hl : l < w.heap.size := (Array.getElem?_eq_some_iff.1 h).1
  simp [World.setCell, Array.getElem?_modify, h]
theorem set_other {w : World} {l k i : Nat} (v : Value) (h : k ≠ l) : (w.setCell ⟨l, i, none⟩ v).heap[k]? = w.heap[k]? := Below.heap_setCell _ _ _ _ (fun e => h e)
theorem two_blocks {w w1 : World} {c1 c2 : Array Value} {t : TypeId} (hb : Below ((w.alloc (.cells c1 t)).alloc (.cells c2 t)).heap.size ((w.alloc (.cells c1 t)).alloc (.cells c2 t)) w1) : w1.heap[w.heap.size]? = some (.cells c1 t (0, 0)) ∧ w1.heap[w.heap.size + 1]? = some (.cells c2 t (0, 0)) ∧ w.heap.size + 1 < w1.heap.size ∧ w.heap.size < w1.heap.size ∧ Below w.heap.size w w1 := by
  have hz := hb.size
  simp at hz
  refine ⟨(hb.block _ (by simp; omega)).trans ?_, (hb.block _ (by simp)).trans ?_, by omega, by omega, (((Below.refl _ _).alloc (Nat.le_refl _) _).alloc (by simp) _).trans (hb.mono (by simp; omega))⟩
  · have := ((Below.refl (w.alloc (.cells c1 t)).heap.size (w.alloc (.cells c1 t))).alloc (Nat.le_refl _) (.cells c2 t)).block w.heap.size (by simp)
    exact this.trans (heap_alloc_new w _)
  · have := heap_alloc_new (w.alloc (.cells c1 t)) (.cells c2 t)
    simpa using this

set_option maxHeartbeats 8000000 in
set_option maxRecDepth 100000 in
theorem dword_num (s : ByteArray) (a : Nat) (w : World) (h0 : 0 < s.size) (hs : s.size ≤ 1000) (ha : a ≤ 1000) (hc : cls s[0] = 4) : Calls Tryd.prog 36 #[tkA tk0 (a : Int), .string s] w (DTokP s.data.toList a w) := by
  have h0i : (0 : Int) < (s.size : Int) := by omega
  have hD := ddigit_any s[0]
  rw [decide_eq_true hc] at hD
  have HD := Lib.hid hD
  have hbl : s.data.toList = s[0] :: bl s 1 := by have := bl_in h0; rw [bl, List.drop_zero] at this; exact this
  have HY : Hid (NumOk s.data.toList → tokR s.data.toList = ((2, (mg s.data.toList : Int), ⟨#[]⟩), 0)) := by
    intro h
    rw [hbl] at h ⊢
    exact tok_num_ok hc h
  have HX : Hid (¬ NumOk s.data.toList → tokR s.data.toList = (tk0, 101)) := by
    intro h
    rw [hbl] at h ⊢
    exact tok_num_no hc h
  have hv : IntKind.i64.wrap ((a : Int) + (s.size : Int)) = (a : Int) + (s.size : Int) := by rw [IntKind.wrap_i64]; omega
  have hl : s.data.toList.length = s.size := by simp
  have HLS := Lib.hid hl
  clear hD hbl hl hc
  unfold tkA tk0
  go_enter Tryd.func36, Tryd.ntmps36
  go_wp2_with (first | (go_at_call 26; refine (HD.out _).mono ?_; rintro e w' ⟨rfl, he⟩; rw [he]; clear he))
  refine (dnum_any s _ h0 hs).mono ?_
  rintro e w1 ⟨z, ok, rfl, hy, hn, rfl⟩
  cases ok with
  | false =>
    have HT := Lib.hid (HX.out (hn rfl))
    clear hy hn
    go_wp2
    exact bodyPost_ret (v := .tuple #[tkA tk0 (a : Int), .int .i64 0, .int .i64 101]) (by simp [results, Tryd.results36, go_sem, tkA, tk0]) rfl (dtok_no HT.out (by decide) (by (repeat (first | exact Below.refl _ _ | assumption | refine Below.drew ?_ | refine below_drewN ?_ _ | refine Below.alloc ?_ (by first | omega | (simp; done) | (simp; omega)) _ | refine Below.setCell ?_ (by first | omega | (simp; done) | (simp; omega)) _ | refine Below.trans ?_ (Below.mono (by assumption) (by first | omega | (simp; done) | (simp; omega)))))))
  | true =>
    obtain ⟨g1, rfl⟩ := hy rfl
    have HT := Lib.hid (HY.out g1)
    clear hn g1
    obtain ⟨M, hM⟩ : ∃ M : Int, (mg s.data.toList : Int) = M := ⟨_, rfl⟩
    rw [hM] at HT ⊢
    go_wp2
    go_region
    all_goals
      go_wp2
      refine bodyPost_ret (v := .tuple #[tkA (2, M, ⟨#[]⟩) (a : Int), .int .i64 ((a : Int) + (s.size : Int)), .int .i64 0]) (by simp [results, Tryd.results36, go_sem, tkA]) rfl ?_
      rw [← HLS.out]
      exact dtok_yes HT.out (by (repeat (first | exact Below.refl _ _ | assumption | refine Below.drew ?_ | refine below_drewN ?_ _ | refine Below.alloc ?_ (by first | omega | (simp; done) | (simp; omega)) _ | refine Below.setCell ?_ (by first | omega | (simp; done) | (simp; omega)) _ | refine Below.trans ?_ (Below.mono (by assumption) (by first | omega | (simp; done) | (simp; omega))))))

end Go.Proofs.YtkigilgoolnaaaaDoor
/- Walks of layer 10: the document's IsWord, with what it makes. -/
namespace Go.Proofs.YtkigilgoolnaaaaDoor
open Go.RowKit

set_option maxHeartbeats 16000000 in
set_option maxRecDepth 100000 in
theorem dIsWord_exact (s : ByteArray) (w : World) : Calls Tryd.prog 16 #[.string s] w fun e w' => e = .returned (.bool (isWord s)) ∧ ∃ o, w' = w.alloc o := by
  obtain ⟨Z, hZ⟩ : ∃ Z, w.alloc (.cells #[.string ⟨#[83, 69, 76, 69, 67, 84]⟩, .string ⟨#[73, 78, 83, 69, 82, 84]⟩, .string ⟨#[73, 78, 84, 79]⟩, .string ⟨#[86, 65, 76, 85, 69, 83]⟩, .string ⟨#[85, 80, 68, 65, 84, 69]⟩, .string ⟨#[83, 69, 84]⟩, .string ⟨#[68, 69, 76, 69, 84, 69]⟩, .string ⟨#[70, 82, 79, 77]⟩, .string ⟨#[74, 79, 73, 78]⟩, .string ⟨#[79, 78]⟩, .string ⟨#[87, 72, 69, 82, 69]⟩, .string ⟨#[71, 82, 79, 85, 80]⟩, .string ⟨#[79, 82, 68, 69, 82]⟩, .string ⟨#[66, 89]⟩, .string ⟨#[68, 69, 83, 67]⟩, .string ⟨#[76, 73, 77, 73, 84]⟩, .string ⟨#[65, 78, 68]⟩, .string ⟨#[79, 82]⟩, .string ⟨#[78, 79, 84]⟩, .string ⟨#[73, 83]⟩, .string ⟨#[78, 85, 76, 76]⟩, .string ⟨#[84, 82, 85, 69]⟩, .string ⟨#[70, 65, 76, 83, 69]⟩, .string ⟨#[67, 79, 85, 78, 84]⟩, .string ⟨#[83, 85, 77]⟩, .string ⟨#[77, 73, 78]⟩, .string ⟨#[77, 65, 88]⟩] 9) = Z := ⟨_, rfl⟩
  have HCL : Hid (∀ k (hk : k < 27), Z.cell? ⟨w.heap.size, k, none⟩ = some (.string ⟨(wordsL[k]'(by simpa [wordsL] using hk)).toArray⟩)) := fun k hk => by rw [← hZ]; exact words_cell w k hk
  have HBL : Hid (∃ o, Z = w.alloc o) := ⟨_, hZ.symm⟩
  go_enter Tryd.func16, Tryd.ntmps16
  go_wp2
  clear hZ
  go_loopw [4] (fun i wz => ∃ k : Nat, k ≤ 27 ∧ i = .int .i64 k ∧ (∀ j (hj : j < 27), j < k → (s.toList == wordsL[j]'(by simpa [wordsL] using hj)) = false) ∧ wz = Z) (fun i _ => 27 - (intOf i).toNat)
  case atStart => exact ⟨0, Nat.zero_le _, rfl, fun _ _ g => absurd g (Nat.not_lt_zero _), rfl⟩
  case round =>
    obtain ⟨k, hk, rfl, hall, rfl⟩ := hrel
    have HA := Lib.hid hall
    clear hall
    by_cases hlt : k < 27
    · have hlti : (k : Int) < 27 := by omega
      have c0 := HCL.out k hlt
      have hkw : k < wordsL.length := by simpa [wordsL] using hlt
      obtain ⟨x, hx⟩ : ∃ x, wordsL[k] = x := ⟨_, rfl⟩
      rw [hx] at c0
      have HM : Hid (x ∈ wordsL) := by show x ∈ wordsL; rw [← hx]; exact List.getElem_mem hkw
      have hse : ((⟨x.toArray⟩ : ByteArray).toList == s.toList) = (s.toList == x) := by
        rw [ByteArray.toList_eq, Bool.eq_iff_iff, beq_iff_eq, beq_iff_eq]
        exact eq_comm
      have hse2 : (x == s.toList) = (s.toList == x) := by
        rw [Bool.eq_iff_iff, beq_iff_eq, beq_iff_eq]
        exact eq_comm
      cases hb : (s.toList == x) with
      | true =>
        rw [hb] at hse hse2
        have HV : Hid (isWord s = true) := isWord_yes x HM.out hb
        clear hb hx
        go_wp2
        go_ret
        exact ⟨ret_bool HV.out.symm, HBL.out⟩
      | false =>
        rw [hb] at hse hse2
        have HA2 : Hid (∀ j (hj : j < 27), j < k + 1 → (s.toList == wordsL[j]'(by simpa [wordsL] using hj)) = false) := fun j hj g => by
          by_cases e : j = k
          · subst e; rw [hx]; exact hb
          · exact HA.out j hj (by omega)
        clear hb hx
        go_wp2
        go_roundw
        case rel => exact ⟨k + 1, by omega, by go_num, HA2.out, trivial⟩
        case measure => simp [intOf]; omega
    · have hlti : ¬ (k : Int) < 27 := by omega
      have HV : Hid (isWord s = false) := by
        show isWord s = false
        rw [isWord, List.any_eq_false]
        intro x hx
        obtain ⟨j, hj, rfl⟩ := List.getElem_of_mem hx
        have hj27 : j < 27 := by simpa [wordsL] using hj
        rw [HA.out j hj27 (by omega)]
        decide
      go_wp2
      go_ret
      exact ⟨ret_bool HV.out.symm, HBL.out⟩
end Go.Proofs.YtkigilgoolnaaaaDoor
/- Walks of layer 10: the document's word, where it is none. -/
namespace Go.Proofs.YtkigilgoolnaaaaDoor
open Go.RowKit

set_option maxHeartbeats 8000000 in
set_option maxRecDepth 100000 in
theorem dword_none (s : ByteArray) (a : Nat) (w : World) (h0 : 0 < s.size) (hs : s.size ≤ 1000) (ha : a ≤ 1000) (hc : cls s[0] = 5 ∨ cls s[0] = 6 ∨ cls s[0] = 7) (hx : isWord s = false) (hy : isName s = false) : Calls Tryd.prog 36 #[tkA tk0 (a : Int), .string s] w (DTokP s.data.toList a w) := by
  have h0i : (0 : Int) < (s.size : Int) := by omega
  have hD := ddigit_any s[0]
  rw [decide_eq_false (by omega)] at hD
  have HD := Lib.hid hD
  have hbl : s.data.toList = s[0] :: bl s 1 := by have := bl_in h0; rw [bl, List.drop_zero] at this; exact this
  have HTK : Hid (tokR s.data.toList = if isWord s = true then ((4, 0, s), 0) else if isName s = true then ((3, 0, s), 0) else (tk0, 102)) := by
    rw [isWord_list, isName_list]
    have := tokR_run (l := bl s 1) hc
    rw [← hbl, ofL_list] at this
    exact this
  have hv : IntKind.i64.wrap ((a : Int) + (s.size : Int)) = (a : Int) + (s.size : Int) := by rw [IntKind.wrap_i64]; omega
  have HLS : Hid (s.data.toList.length = s.size) := by show s.data.toList.length = s.size; simp
  have hW := dIsWord_exact s
  have hN := dIsName_any s
  rw [hx] at hW HTK
  rw [hy] at hN HTK
  have HW := Lib.hid hW
  have HN := Lib.hid hN
  clear hD hbl hc hW hN hx hy
  unfold tkA tk0
  have HT : Hid (tokR s.data.toList = (tk0, 102)) := HTK.out
  go_enter Tryd.func36, Tryd.ntmps36
  go_wp2_with (first | (go_at_call 26; refine (HD.out _).mono ?_; rintro e w' ⟨rfl, he⟩; rw [he]; clear he) | (go_at_call 15; refine (HN.out _).mono ?_; rintro e w' ⟨rfl, he⟩; rw [he]; clear he) | (go_at_call 16; refine (HW.out _).mono ?_; rintro e w1 ⟨rfl, o, he⟩; rw [he]; clear he))
  exact bodyPost_ret (v := .tuple #[tkA (3, 0, s) (a : Int), .int .i64 0, .int .i64 102]) (by simp [results, Tryd.results36, go_sem, tkA]) rfl (dtok_no HT.out (by decide) (by (repeat (first | exact Below.refl _ _ | assumption | refine Below.drew ?_ | refine below_drewN ?_ _ | refine Below.alloc ?_ (by first | omega | (simp; done) | (simp; omega)) _ | refine Below.setCell ?_ (by first | omega | (simp; done) | (simp; omega)) _ | refine Below.trans ?_ (Below.mono (by assumption) (by first | omega | (simp; done) | (simp; omega)))))))
end Go.Proofs.YtkigilgoolnaaaaDoor
/- Walks of layer 10: the document's word, where it is a name. -/
namespace Go.Proofs.YtkigilgoolnaaaaDoor
open Go.RowKit

set_option maxHeartbeats 8000000 in
set_option maxRecDepth 100000 in
theorem dword_name (s : ByteArray) (a : Nat) (w : World) (h0 : 0 < s.size) (hs : s.size ≤ 1000) (ha : a ≤ 1000) (hc : cls s[0] = 5 ∨ cls s[0] = 6 ∨ cls s[0] = 7) (hx : isWord s = false) (hy : isName s = true) : Calls Tryd.prog 36 #[tkA tk0 (a : Int), .string s] w (DTokP s.data.toList a w) := by
  have h0i : (0 : Int) < (s.size : Int) := by omega
  have hD := ddigit_any s[0]
  rw [decide_eq_false (by omega)] at hD
  have HD := Lib.hid hD
  have hbl : s.data.toList = s[0] :: bl s 1 := by have := bl_in h0; rw [bl, List.drop_zero] at this; exact this
  have HTK : Hid (tokR s.data.toList = if isWord s = true then ((4, 0, s), 0) else if isName s = true then ((3, 0, s), 0) else (tk0, 102)) := by
    rw [isWord_list, isName_list]
    have := tokR_run (l := bl s 1) hc
    rw [← hbl, ofL_list] at this
    exact this
  have hv : IntKind.i64.wrap ((a : Int) + (s.size : Int)) = (a : Int) + (s.size : Int) := by rw [IntKind.wrap_i64]; omega
  have HLS : Hid (s.data.toList.length = s.size) := by show s.data.toList.length = s.size; simp
  have hW := dIsWord_any s
  have hN := dIsName_any s
  rw [hx] at hW HTK
  rw [hy] at hN HTK
  have HW := Lib.hid hW
  have HN := Lib.hid hN
  clear hD hbl hc hW hN hx hy
  unfold tkA tk0
  have HT : Hid (tokR s.data.toList = ((3, 0, s), 0)) := HTK.out
  go_enter Tryd.func36, Tryd.ntmps36
  go_wp2_with (first | (go_at_call 26; refine (HD.out _).mono ?_; rintro e w' ⟨rfl, he⟩; rw [he]; clear he) | (go_at_call 15; refine (HN.out _).mono ?_; rintro e w' ⟨rfl, he⟩; rw [he]; clear he) | (go_at_call 16; refine (HW.out _).mono ?_; rintro e w1 ⟨rfl, hb⟩; obtain ⟨e1, e2, e3, e4, hbw⟩ := two_blocks hb; have E1 := Lib.hid e1; have E2 := Lib.hid e2; obtain ⟨⟨k0, k1, k2, k3⟩, f0, f1, f2, f3⟩ := four_of e1; clear e1 e2 hb))
  clear k0 k1 k2 k3 f0 f1 f2 f3
  obtain ⟨W5, hW5⟩ : ∃ W5, ((w1.setCell ⟨w.heap.size, 0, none⟩ (.int .i64 3)).setCell ⟨w.heap.size, 2, none⟩ (.string s)) = W5 := ⟨_, rfl⟩
  have x1 : W5.heap[w.heap.size]? = some (.cells #[.int .i64 3, .int .i64 0, .string s, .int .i64 (a : Int)] 28 (0, 0)) := by
    rw [← hW5]
    exact set_at (set_at (E1.out) _) _
  have x2 : W5.heap[w.heap.size + 1]? = some (.cells #[.int .i64 0, .int .i64 0, .string ⟨#[]⟩, .int .i64 0] 28 (0, 0)) := by
    rw [← hW5]
    exact (set_other _ (by omega)).trans ((set_other _ (by omega)).trans (E2.out))
  have HB5 : Hid (Below w.heap.size w W5) := by
    show Below w.heap.size w W5
    rw [← hW5]
    (repeat (first | exact Below.refl _ _ | assumption | refine Below.drew ?_ | refine below_drewN ?_ _ | refine Below.alloc ?_ (by first | omega | (simp; done) | (simp; omega)) _ | refine Below.setCell ?_ (by first | omega | (simp; done) | (simp; omega)) _ | refine Below.trans ?_ (Below.mono (by assumption) (by first | omega | (simp; done) | (simp; omega)))))
  have hz5 : w.heap.size + 1 < W5.heap.size := (Array.getElem?_eq_some_iff.1 x2).1
  obtain ⟨⟨k0, k1, k2, k3⟩, f0, f1, f2, f3⟩ := four_of x1
  obtain ⟨⟨m0, m1, m2, m3⟩, g0, g1, g2, g3⟩ := four_of x2
  rw [hW5]
  clear hW5 x1 x2 hbw e3 e4
  go_region
  all_goals
    go_wp2
    refine bodyPost_ret (v := .tuple #[tkA (3, 0, s) (a : Int), .int .i64 ((a : Int) + (s.size : Int)), .int .i64 0]) (by simp [results, Tryd.results36, go_sem, tkA, m0, m1, m2, m3]) rfl ?_
    rw [← HLS.out]
    exact dtok_yes HT.out (by have h0 := HB5.out; (repeat (first | exact Below.refl _ _ | assumption | refine Below.drew ?_ | refine below_drewN ?_ _ | refine Below.alloc ?_ (by first | omega | (simp; done) | (simp; omega)) _ | refine Below.setCell ?_ (by first | omega | (simp; done) | (simp; omega)) _ | refine Below.trans ?_ (Below.mono (by assumption) (by first | omega | (simp; done) | (simp; omega))))))
end Go.Proofs.YtkigilgoolnaaaaDoor
/- Walks of layer 10: the document's word, where it is a word. -/
namespace Go.Proofs.YtkigilgoolnaaaaDoor
open Go.RowKit

set_option maxHeartbeats 8000000 in
set_option maxRecDepth 100000 in
theorem dword_word (s : ByteArray) (a : Nat) (w : World) (h0 : 0 < s.size) (hs : s.size ≤ 1000) (ha : a ≤ 1000) (hc : cls s[0] = 5 ∨ cls s[0] = 6 ∨ cls s[0] = 7) (y : Bool) (hx : isWord s = true) (hy : isName s = y) : Calls Tryd.prog 36 #[tkA tk0 (a : Int), .string s] w (DTokP s.data.toList a w) := by
  have h0i : (0 : Int) < (s.size : Int) := by omega
  have hD := ddigit_any s[0]
  rw [decide_eq_false (by omega)] at hD
  have HD := Lib.hid hD
  have hbl : s.data.toList = s[0] :: bl s 1 := by have := bl_in h0; rw [bl, List.drop_zero] at this; exact this
  have HTK : Hid (tokR s.data.toList = if isWord s = true then ((4, 0, s), 0) else if isName s = true then ((3, 0, s), 0) else (tk0, 102)) := by
    rw [isWord_list, isName_list]
    have := tokR_run (l := bl s 1) hc
    rw [← hbl, ofL_list] at this
    exact this
  have hv : IntKind.i64.wrap ((a : Int) + (s.size : Int)) = (a : Int) + (s.size : Int) := by rw [IntKind.wrap_i64]; omega
  have HLS : Hid (s.data.toList.length = s.size) := by show s.data.toList.length = s.size; simp
  have hW := dIsWord_any s
  have hN := dIsName_any s
  rw [hx] at hW HTK
  rw [hy] at hN HTK
  have HW := Lib.hid hW
  have HN := Lib.hid hN
  clear hD hbl hc hW hN hx hy
  unfold tkA tk0
  have HT : Hid (tokR s.data.toList = ((4, 0, s), 0)) := HTK.out
  go_enter Tryd.func36, Tryd.ntmps36
  go_wp2_with (first | (go_at_call 26; refine (HD.out _).mono ?_; rintro e w' ⟨rfl, he⟩; rw [he]; clear he) | (go_at_call 15; refine (HN.out _).mono ?_; rintro e w' ⟨rfl, he⟩; rw [he]; clear he) | (go_at_call 16; refine (HW.out _).mono ?_; rintro e w1 ⟨rfl, hb⟩; obtain ⟨e1, e2, e3, e4, hbw⟩ := two_blocks hb; have E1 := Lib.hid e1; have E2 := Lib.hid e2; obtain ⟨⟨k0, k1, k2, k3⟩, f0, f1, f2, f3⟩ := four_of e1; clear e1 e2 hb))
  clear k0 k1 k2 k3 f0 f1 f2 f3
  obtain ⟨W5, hW5⟩ : ∃ W5, (((w1.setCell ⟨w.heap.size, 0, none⟩ (.int .i64 3)).setCell ⟨w.heap.size, 0, none⟩ (.int .i64 4)).setCell ⟨w.heap.size, 2, none⟩ (.string s)) = W5 := ⟨_, rfl⟩
  have x1 : W5.heap[w.heap.size]? = some (.cells #[.int .i64 4, .int .i64 0, .string s, .int .i64 (a : Int)] 28 (0, 0)) := by
    rw [← hW5]
    exact set_at (set_at (set_at (E1.out) _) _) _
  have x2 : W5.heap[w.heap.size + 1]? = some (.cells #[.int .i64 0, .int .i64 0, .string ⟨#[]⟩, .int .i64 0] 28 (0, 0)) := by
    rw [← hW5]
    exact (set_other _ (by omega)).trans ((set_other _ (by omega)).trans ((set_other _ (by omega)).trans (E2.out)))
  have HB5 : Hid (Below w.heap.size w W5) := by
    show Below w.heap.size w W5
    rw [← hW5]
    (repeat (first | exact Below.refl _ _ | assumption | refine Below.drew ?_ | refine below_drewN ?_ _ | refine Below.alloc ?_ (by first | omega | (simp; done) | (simp; omega)) _ | refine Below.setCell ?_ (by first | omega | (simp; done) | (simp; omega)) _ | refine Below.trans ?_ (Below.mono (by assumption) (by first | omega | (simp; done) | (simp; omega)))))
  have hz5 : w.heap.size + 1 < W5.heap.size := (Array.getElem?_eq_some_iff.1 x2).1
  obtain ⟨⟨k0, k1, k2, k3⟩, f0, f1, f2, f3⟩ := four_of x1
  obtain ⟨⟨m0, m1, m2, m3⟩, g0, g1, g2, g3⟩ := four_of x2
  rw [hW5]
  clear hW5 x1 x2 hbw e3 e4
  go_region
  all_goals
    go_wp2
    refine bodyPost_ret (v := .tuple #[tkA (4, 0, s) (a : Int), .int .i64 ((a : Int) + (s.size : Int)), .int .i64 0]) (by simp [results, Tryd.results36, go_sem, tkA, m0, m1, m2, m3]) rfl ?_
    rw [← HLS.out]
    exact dtok_yes HT.out (by have h0 := HB5.out; (repeat (first | exact Below.refl _ _ | assumption | refine Below.drew ?_ | refine below_drewN ?_ _ | refine Below.alloc ?_ (by first | omega | (simp; done) | (simp; omega)) _ | refine Below.setCell ?_ (by first | omega | (simp; done) | (simp; omega)) _ | refine Below.trans ?_ (Below.mono (by assumption) (by first | omega | (simp; done) | (simp; omega))))))
end Go.Proofs.YtkigilgoolnaaaaDoor
/- Walks of layer 10: the document's next, what it leans on. -/
namespace Go.Proofs.YtkigilgoolnaaaaDoor
open Go.RowKit

theorem dword_any (s : ByteArray) (a : Nat) (w : World) (h0 : 0 < s.size) (hs : s.size ≤ 1000) (ha : a ≤ 1000) (hc : runB s[0]) : Calls Tryd.prog 36 #[tkA tk0 (a : Int), .string s] w (DTokP s.data.toList a w) := by
  by_cases h4 : cls s[0] = 4
  · exact dword_num s a w h0 hs ha h4
  · have h5 : cls s[0] = 5 ∨ cls s[0] = 6 ∨ cls s[0] = 7 := by unfold runB at hc; omega
    cases hx : isWord s with
    | true => exact dword_word s a w h0 hs ha h5 _ hx rfl
    | false =>
      cases hy : isName s with
      | true => exact dword_name s a w h0 hs ha h5 hx hy
      | false => exact dword_none s a w h0 hs ha h5 hx hy
theorem size_set (w : World) (p : Addr) (v : Value) : (w.setCell p v).heap.size = w.heap.size := by simp [World.setCell]
theorem alloc_other {w : World} {k : Nat} (h : k < w.heap.size) (o : Obj) : (w.alloc o).heap[k]? = w.heap[k]? := ((Below.refl w.heap.size w).alloc (Nat.le_refl _) o).block k h
theorem below_draws (w : World) (n : Nat) : Below w.heap.size w (w.drewN n) := ⟨rfl, rfl, rfl, Nat.le_refl _, fun _ _ => rfl⟩
/-- The piece at a place where a token stands. -/
def pcA (s : ByteArray) (a : Nat) : List UInt8 := (bl s a).take (pieceN (bl s a))
theorem pcA_run {s : ByteArray} {a : Nat} (h : a < s.size) (hr : runB s[a]) : (s.extract a (a + runN (bl s a))).data.toList = pcA s a ∧ 0 < runN (bl s a) := by
  have e : pieceN (bl s a) = runN (bl s a) := by
    rw [bl_in h]
    simp only [pieceN, runN]
    rw [if_pos (Or.inl hr), if_pos hr]
  rw [extract_bl, pcA, e]
  refine ⟨rfl, ?_⟩
  rw [bl_in h]
  simp only [runN]
  rw [if_pos hr]
  omega
theorem run_none {s : ByteArray} {a : Nat} (h : a < s.size) (hr : ¬ runB s[a]) : s.extract a (a + runN (bl s a)) = ⟨#[]⟩ := by
  have e : runN (bl s a) = 0 := by
    rw [bl_in h]
    simp only [runN]
    rw [if_neg hr]
  apply bytes_eq
  rw [extract_bl, e]
  rfl
theorem pcA_colon {s : ByteArray} {a : Nat} (h : a < s.size) (hc : s[a].toNat = 58) : pcA s a = 58 :: (s.extract (a + 1) (a + 1 + runN (bl s (a + 1)))).data.toList := by
  have e : s[a] = 58 := UInt8.toNat_inj.1 hc
  rw [pcA, extract_bl, bl_in h]
  simp only [pieceN]
  rw [if_pos (Or.inr (by rw [e]; decide)), e, Nat.add_comm, List.take_succ_cons]
theorem pcA_mark {s : ByteArray} {a : Nat} (h : a < s.size) (hc : s[a].toNat = 39) : pcA s a = 39 :: (bl s (a + 1)).take (txtN false (bl s (a + 1))) ∧ (s.extract a (a + 1 + txtN false (bl s (a + 1)))).data.toList = pcA s a := by
  have e : s[a] = 39 := UInt8.toNat_inj.1 hc
  have hp : pieceN (bl s a) = txtN false (bl s (a + 1)) + 1 := by
    rw [bl_in h]
    simp only [pieceN]
    rw [if_neg (by rw [e]; decide), if_pos (by rw [e]; decide), Nat.add_comm]
  refine ⟨?_, ?_⟩
  · rw [pcA, hp, bl_in h, List.take_succ_cons, e]
  · rw [show a + 1 + txtN false (bl s (a + 1)) = a + (txtN false (bl s (a + 1)) + 1) from by omega, extract_bl, pcA, hp]
theorem pcA_sign {s : ByteArray} {a : Nat} (h : a < s.size) (h1 : ¬ runB s[a]) (hs : sgn s[a] = true) : cls s[a] = 10 ∧ (sgnT s a h).data.toList = pcA s a := by
  have h10 : cls s[a] = 10 := by
    have : ∀ b : UInt8, sgn b = true → cls b = 10 := cls_all (fun b => sgn b = true → cls b = 10) (by decide +kernel)
    exact this _ hs
  have hp : pieceN (bl s a) = sgnN (bl s a) := by
    rw [bl_in h]
    simp only [pieceN]
    rw [if_neg (by rintro (q | q); · exact h1 q
                   · omega), if_neg (by omega), if_pos h10]
  refine ⟨h10, ?_⟩
  unfold sgnT
  rw [if_pos hs, extract_bl, pcA, hp]
theorem pcA_other {s : ByteArray} {a : Nat} (h : a < s.size) (h0 : skp false (bl s a) = 0) (h1 : ¬ runB s[a]) (h2 : s[a].toNat ≠ 58) (h3 : s[a].toNat ≠ 39) (hs : sgn s[a] = false) : tokR (pcA s a) = (tk0, 100) := by
  have hc : cls s[a] = 0 := by
    have k2 : cls s[a] ≠ 2 ∧ cls s[a] ≠ 3 := by
      rw [bl_in h] at h0
      simp only [skp] at h0
      by_cases q : cls s[a] = 2 ∨ cls s[a] = 3
      · rw [if_pos q] at h0; omega
      · exact ⟨fun g => q (Or.inl g), fun g => q (Or.inr g)⟩
    have k8 : cls s[a] ≠ 8 := fun g => h2 (by rw [(cls_colon _).1 g]; rfl)
    have k9 : cls s[a] ≠ 9 := fun g => h3 (by rw [(cls_mark _).1 g]; rfl)
    have k10 : cls s[a] ≠ 10 := fun g => by
      have : ∀ b : UInt8, cls b = 10 → sgn b = true := cls_all (fun b => cls b = 10 → sgn b = true) (by decide +kernel)
      rw [this _ g] at hs
      exact absurd hs (by decide)
    have kr : ¬ (cls s[a] = 4 ∨ cls s[a] = 5 ∨ cls s[a] = 6 ∨ cls s[a] = 7) := h1
    have := clsAt_range s a
    rw [clsAt_in h] at this
    have k1 := cls_one s[a]
    omega
  obtain ⟨n, hn⟩ : ∃ n, pieceN (bl s a) = n + 1 := ⟨pieceN (bl s a) - 1, by have := pieceN_pos s[a] (bl s (a + 1)); rw [← bl_in h] at this; omega⟩
  rw [pcA, hn, bl_in h, List.take_succ_cons, tokR_byte (Or.inl hc)]
end Go.Proofs.YtkigilgoolnaaaaDoor
/- Walks of layer 10: the document's next, where a run stands. -/
namespace Go.Proofs.YtkigilgoolnaaaaDoor
open Go.RowKit

set_option maxHeartbeats 8000000 in
set_option maxRecDepth 100000 in
theorem dnext_run (s : ByteArray) (a : Nat) (w : World) (ha : a < s.size) (hs : s.size ≤ 1000) (hr : runB s[a]) : Calls Tryd.prog 23 #[.string s, .int .i64 (a : Int)] w (DTokP (pcA s a) a w) := by
  have hai : (a : Int) < (s.size : Int) := by omega
  obtain ⟨p1, p2⟩ := pcA_run ha hr
  have hRU := drun_any s a
  have hle := runN_le (bl s a)
  rw [bl_len] at hle
  obtain ⟨X, hX⟩ : ∃ X, s.extract a (a + runN (bl s a)) = X := ⟨_, rfl⟩
  have hXs : X.size = runN (bl s a) := by rw [← hX, ByteArray.size_extract]; omega
  rw [hX] at p1
  have hRU2 : ∀ w, Calls Tryd.prog 35 #[.string s, .int .i64 (a : Int)] w fun e w' => e = .returned (.string X) ∧ w' = w := fun w => by have := hRU w (by omega) hs; rw [hX] at this; exact this
  have HRU := Lib.hid hRU2
  have hX0 : 0 < X.size := by omega
  have hne : (X.toList == []) = false := by
    rw [beq_eq_false_iff_ne, ByteArray.toList_eq]
    intro e
    have : X.data.toList.length = X.size := by simp
    rw [e] at this
    simp at this
    omega
  have hX1 : runB X[0] := by
    have h1 := bl_in hX0
    have h2 := bl_in ha
    have h3 : X.data.toList = (bl s a).take (runN (bl s a)) := by rw [← hX, extract_bl]
    rw [bl, List.drop_zero, h3] at h1
    obtain ⟨n, hn⟩ : ∃ n, runN (bl s a) = n + 1 := ⟨runN (bl s a) - 1, by omega⟩
    rw [hn, h2, List.take_succ_cons] at h1
    rw [← (List.cons.inj h1).1]
    exact hr
  have HWD : Hid (∀ W, Calls Tryd.prog 36 #[.agg #[.int .i64 0, .int .i64 0, .string ⟨#[]⟩, .int .i64 (a : Int)], .string X] W (DTokP (pcA s a) a W)) := by
    intro W
    have := dword_any X a W hX0 (by omega) (by omega) hX1
    rw [p1] at this
    exact this
  clear hRU hRU2 hX p1 p2 hX1 hr hle hXs
  go_enter Tryd.func23, Tryd.ntmps23
  go_wp2_with (first | (go_at_call 35; refine (HRU.out _).mono ?_; rintro e w' ⟨rfl, he⟩; rw [he]; clear he))
  refine (HWD.out _).mono ?_
  rintro e w1 ⟨⟨k, n, t⟩, b, z, rfl, hz, ht, hb⟩
  obtain ⟨e1, e2, e3, e4, hbw⟩ := two_blocks hb
  obtain ⟨⟨m0, m1, m2, m3⟩, g0, g1, g2, g3⟩ := four_of e1
  have HZ := Lib.hid hz
  have HT := Lib.hid ht
  clear hb hz ht e1 e2
  unfold tkA
  go_wp2
  exact bodyPost_ret (v := .tuple #[tkA (k, n, t) (a : Int), .int .i64 b, .int .i64 z]) (by simp [results, Tryd.results23, go_sem, tkA, m0, m1, m2, m3]) rfl (⟨(k, n, t), b, z, rfl, HZ.out, HT.out, by (repeat (first | with_reducible exact Below.refl _ _ | with_reducible assumption | refine Below.drew ?_ | refine Below.setCell ?_ (by first | omega | (simp; done) | (simp; omega)) _ | refine Below.alloc ?_ (by first | omega | (simp; done) | (simp; omega)) _ | refine Below.trans ?_ (Below.mono (by with_reducible assumption) (by first | omega | (simp; done) | (simp; omega)))))⟩)
end Go.Proofs.YtkigilgoolnaaaaDoor
/- Walks of layer 10: the document's next, where a parameter stands. -/
namespace Go.Proofs.YtkigilgoolnaaaaDoor
open Go.RowKit

set_option maxHeartbeats 8000000 in
set_option maxRecDepth 100000 in
theorem dnext_param (s : ByteArray) (a : Nat) (w : World) (ha : a < s.size) (hs : s.size ≤ 1000) (hr : ¬ runB s[a]) (hc : s[a].toNat = 58) : Calls Tryd.prog 23 #[.string s, .int .i64 (a : Int)] w (DTokP (pcA s a) a w) := by
  have hai : (a : Int) < (s.size : Int) := by omega
  have hRU : ∀ w, Calls Tryd.prog 35 #[.string s, .int .i64 (a : Int)] w fun e w' => e = .returned (.string ⟨#[]⟩) ∧ w' = w := fun w => by have := drun_any s a w (by omega) hs; rw [run_none ha hr] at this; exact this
  have HRU := Lib.hid hRU
  have hnil : ((⟨#[]⟩ : ByteArray).toList == []) = true := by rw [ByteArray.toList_eq]; rfl
  have hp := pcA_colon ha hc
  have q1 : ((s[a].toNat : Int) == 58) = true := by simp; omega
  have hle := runN_le (bl s (a + 1))
  rw [bl_len] at hle
  have hw1 : IntKind.i64.wrap ((a : Int) + 1) = (a : Int) + 1 := by rw [IntKind.wrap_i64]; omega
  obtain ⟨X, hX⟩ : ∃ X, s.extract (a + 1) (a + 1 + runN (bl s (a + 1))) = X := ⟨_, rfl⟩
  have hXs : X.size ≤ 1000 := by rw [← hX, ByteArray.size_extract]; omega
  have hRV : ∀ w, Calls Tryd.prog 35 #[.string s, .int .i64 ((a : Int) + 1)] w fun e w' => e = .returned (.string X) ∧ w' = w := fun w => by have := drun_any s (a + 1) w (by omega) hs; rw [hX] at this; exact this
  have HRV := Lib.hid hRV
  have hw2 : IntKind.i64.wrap ((a : Int) + 1 + (X.size : Int)) = (a : Int) + 1 + (X.size : Int) := by rw [IntKind.wrap_i64]; omega
  rw [hX] at hp
  have HTK : Hid (tokR (pcA s a) = if isName X = true then ((6, 0, X), 0) else (tk0, 102)) := by
    show tokR (pcA s a) = _
    rw [hp, tokR_colon (by decide), isName_list, ofL_list]
  have HL : Hid (((a : Int) + 1 + (X.size : Int)) = (a : Int) + ((pcA s a).length : Int)) := by
    show ((a : Int) + 1 + (X.size : Int)) = (a : Int) + ((pcA s a).length : Int)
    rw [hp, List.length_cons, show X.data.toList.length = X.size from by simp]
    omega
  have hN := dIsName_any X
  obtain ⟨y, hy⟩ : ∃ y, isName X = y := ⟨_, rfl⟩
  rw [hy] at hN HTK
  have HN := Lib.hid hN
  clear hRU hRV hX hp hN hy hc hr hle
  cases y
  · have HT : Hid (tokR (pcA s a) = (tk0, 102)) := HTK.out
    go_enter Tryd.func23, Tryd.ntmps23
    go_wp2_with fail
    refine (HRU.out _).mono ?_
    rintro e w' ⟨rfl, rfl⟩
    go_wp2_with fail
    refine (HRV.out _).mono ?_
    rintro e w' ⟨rfl, rfl⟩
    go_wp2_with (first | (go_at_call 15; refine (HN.out _).mono ?_; rintro e w' ⟨rfl, he⟩; rw [he]; clear he))
    exact bodyPost_ret (v := .tuple #[tkA tk0 (a : Int), .int .i64 0, .int .i64 102]) (by simp [results, Tryd.results23, go_sem, tkA, tk0]) rfl (dtok_no HT.out (by decide) (by (repeat (first | with_reducible exact Below.refl _ _ | with_reducible assumption | refine Below.drew ?_ | refine Below.setCell ?_ (by first | omega | (simp; done) | (simp; omega)) _ | refine Below.alloc ?_ (by first | omega | (simp; done) | (simp; omega)) _ | refine Below.trans ?_ (Below.mono (by with_reducible assumption) (by first | omega | (simp; done) | (simp; omega)))))))
  · have HT : Hid (tokR (pcA s a) = ((6, 0, X), 0)) := HTK.out
    go_enter Tryd.func23, Tryd.ntmps23
    go_wp2_with fail
    refine (HRU.out _).mono ?_
    rintro e w' ⟨rfl, rfl⟩
    go_wp2_with fail
    refine (HRV.out _).mono ?_
    rintro e w' ⟨rfl, rfl⟩
    go_wp2_with (first | (go_at_call 15; refine (HN.out _).mono ?_; rintro e w' ⟨rfl, he⟩; rw [he]; clear he))
    refine bodyPost_ret (v := .tuple #[tkA (6, 0, X) (a : Int), .int .i64 ((a : Int) + 1 + (X.size : Int)), .int .i64 0]) (by simp [results, Tryd.results23, go_sem, tkA]) rfl ?_
    rw [HL.out]
    exact dtok_yes HT.out (by (repeat (first | with_reducible exact Below.refl _ _ | with_reducible assumption | refine Below.drew ?_ | refine Below.setCell ?_ (by first | omega | (simp; done) | (simp; omega)) _ | refine Below.alloc ?_ (by first | omega | (simp; done) | (simp; omega)) _ | refine Below.trans ?_ (Below.mono (by with_reducible assumption) (by first | omega | (simp; done) | (simp; omega))))))
end Go.Proofs.YtkigilgoolnaaaaDoor
/- Walks of layer 10: the document's next, where a text stands. -/
namespace Go.Proofs.YtkigilgoolnaaaaDoor
open Go.RowKit

set_option maxHeartbeats 8000000 in
set_option maxRecDepth 100000 in
theorem dnext_text (s : ByteArray) (a : Nat) (w : World) (ha : a < s.size) (hs : s.size ≤ 1000) (hr : ¬ runB s[a]) (hc : s[a].toNat = 39) : Calls Tryd.prog 23 #[.string s, .int .i64 (a : Int)] w (DTokP (pcA s a) a w) := by
  have hai : (a : Int) < (s.size : Int) := by omega
  have hRU : ∀ w, Calls Tryd.prog 35 #[.string s, .int .i64 (a : Int)] w fun e w' => e = .returned (.string ⟨#[]⟩) ∧ w' = w := fun w => by have := drun_any s a w (by omega) hs; rw [run_none ha hr] at this; exact this
  have HRU := Lib.hid hRU
  have hnil : ((⟨#[]⟩ : ByteArray).toList == []) = true := by rw [ByteArray.toList_eq]; rfl
  obtain ⟨hp, hp2⟩ := pcA_mark ha hc
  have q1 : ((s[a].toNat : Int) == 58) = false := by simp; omega
  have q2 : ((s[a].toNat : Int) == 39) = true := by simp; omega
  have hle := txtN_le (bl s (a + 1)) false
  rw [bl_len] at hle
  have HU : Hid (txtC false (bl s (a + 1)) = false → tokR (pcA s a) = (tk0, 103)) := by
    intro h
    rw [hp, txtN_open _ _ h, List.take_length]
    exact tok_no (lit_open h)
  obtain ⟨X, hX⟩ : ∃ X, s.extract a (a + 1 + txtN false (bl s (a + 1))) = X := ⟨_, rfl⟩
  have hXs : X.size ≤ 1000 := by rw [← hX, ByteArray.size_extract]; omega
  have hXe : X.data.toList = pcA s a := by rw [← hX]; exact hp2
  have HV : Hid (tokR (pcA s a) = if (parR X.data.toList).2 = 0 then ((5, 0, (parR X.data.toList).1.2.2), 0) else (tk0, 103)) := by
    rw [hXe, hp]
    exact tokR_mark (by decide)
  have HK : Hid (∀ v, LitOf X.data.toList v → v.1 = 3) := by
    intro v hv
    rw [hXe, hp] at hv
    exact (lit_mark hv).1
  have hw2 : IntKind.i64.wrap ((a : Int) + (X.size : Int)) = (a : Int) + (X.size : Int) := by rw [IntKind.wrap_i64]; omega
  have HL : Hid (((a : Int) + (X.size : Int)) = (a : Int) + ((pcA s a).length : Int)) := by
    show ((a : Int) + (X.size : Int)) = (a : Int) + ((pcA s a).length : Int)
    rw [← hXe, show X.data.toList.length = X.size from by simp]
  have HX := Lib.hid hX
  clear hRU hX hp hp2 hXe hc hr hle
  go_enter Tryd.func23, Tryd.ntmps23
  go_wp2_with (first | (go_at_call 35; refine (HRU.out _).mono ?_; rintro e w' ⟨rfl, he⟩; rw [he]; clear he))
  refine (dtext_any s a _ ha hs).mono ?_
  rintro e w1 ⟨p, ok, rfl, hok, hpp, rfl⟩
  cases ok with
  | false =>
    have HT := Lib.hid (HU.out hok.symm)
    clear hok hpp
    go_wp2
    exact bodyPost_ret (v := .tuple #[tkA tk0 (a : Int), .int .i64 0, .int .i64 103]) (by simp [results, Tryd.results23, go_sem, tkA, tk0]) rfl (dtok_no HT.out (by decide) (by (repeat (first | with_reducible exact Below.refl _ _ | with_reducible assumption | refine Below.drew ?_ | refine Below.setCell ?_ (by first | omega | (simp; done) | (simp; omega)) _ | refine Below.alloc ?_ (by first | omega | (simp; done) | (simp; omega)) _ | refine Below.trans ?_ (Below.mono (by with_reducible assumption) (by first | omega | (simp; done) | (simp; omega)))))))
  | true =>
    have hpX := hpp rfl
    rw [HX.out] at hpX
    subst hpX
    clear hok hpp
    go_wp2_with fail
    refine (rparse_any p _ (by omega)).mono ?_
    rintro e w1 ⟨rfl, hb⟩
    obtain ⟨e1, e2, e3, e4, hbw⟩ := two_blocks hb
    obtain ⟨⟨m0, m1, m2, m3⟩, g0, g1, g2, g3⟩ := four_of e1
    obtain ⟨⟨k0, k1, k2, k3⟩, f0, f1, f2, f3⟩ := four_of e2
    have E1 := Lib.hid e1
    clear hb e1 e2
    rcases pa_or p with ⟨k, n, t, hp, h0, h1⟩ | ⟨h0, hp⟩
    · have HT : Hid (tokR (pcA s a) = ((5, 0, t), 0)) := by
        have := HV.out
        rw [if_pos h0, h1] at this
        exact this
      have hk3 : k = 3 := by
        by_cases g : ∃ v, LitOf p.data.toList v
        · obtain ⟨v, g⟩ := g
          have := HK.out v g
          rw [parR_ok g] at h1
          rw [show v = (k, n, t) from h1] at this
          exact this
        · rw [parR_no fun v q => g ⟨v, q⟩] at h0
          exact absurd h0 (by decide)
      subst hk3
      rw [hp]
      clear hp h0 h1 HV HK HU
      go_wp2
      obtain ⟨W6, hW6⟩ : ∃ W6, (((((((w1.setCell ⟨w.heap.size + 1, 0, none⟩ (.int .i64 5)).setCell ⟨w.heap.size + 1, 2, none⟩ (.string t)).setCell ⟨w.heap.size, 0, none⟩ (.int .i64 5)).setCell ⟨w.heap.size, 1, none⟩ (.int .i64 0)).setCell ⟨w.heap.size, 2, none⟩ (.string t)).setCell ⟨w.heap.size, 3, none⟩ (.int .i64 (a : Int))).alloc (.cells #[.int .i64 3, .int .i64 n, .string t] 37)) = W6 := ⟨_, rfl⟩
      rw [hW6]
      have x1 : W6.heap[w.heap.size]? = some (.cells #[.int .i64 5, .int .i64 0, .string t, .int .i64 (a : Int)] 28 (0, 0)) := by
        rw [← hW6]
        refine (alloc_other (by simp only [size_set]; exact e4) _).trans ?_
        exact (set_at (set_at (set_at (set_at ((set_other _ (by omega)).trans ((set_other _ (by omega)).trans E1.out)) _) _) _) _)
      have HB6 : Hid (Below w.heap.size w W6) := by
        show Below w.heap.size w W6
        rw [← hW6]
        exact ((((((hbw.setCell (Nat.le_succ _) _).setCell (Nat.le_succ _) _).setCell (Nat.le_refl _) _).setCell (Nat.le_refl _) _).setCell (Nat.le_refl _) _).setCell (Nat.le_refl _) _).alloc (by simp only [size_set]; omega) _
      obtain ⟨⟨y0, y1, y2, y3⟩, -, -, -, -⟩ := four_of x1
      clear hW6 x1
      refine bodyPost_ret (v := .tuple #[tkA (5, 0, t) (a : Int), .int .i64 ((a : Int) + (p.size : Int)), .int .i64 0]) (by simp [results, Tryd.results23, go_sem, tkA, y0, y1, y2, y3]) rfl ?_
      rw [HL.out]
      exact dtok_yes HT.out HB6.out
    · have HT : Hid (tokR (pcA s a) = (tk0, 103)) := by
        have := HV.out
        rw [if_neg h0] at this
        exact this
      rw [hp]
      clear hp h0 HV HK HU
      go_wp2
      obtain ⟨W6, hW6⟩ : ∃ W6, (((((w1.setCell ⟨w.heap.size, 0, none⟩ (.int .i64 0)).setCell ⟨w.heap.size, 1, none⟩ (.int .i64 0)).setCell ⟨w.heap.size, 2, none⟩ (.string ⟨#[]⟩)).setCell ⟨w.heap.size, 3, none⟩ (.int .i64 (a : Int))).alloc (.cells #[.int .i64 0, .int .i64 0, .string ⟨#[]⟩] 37)) = W6 := ⟨_, rfl⟩
      rw [hW6]
      have x1 : W6.heap[w.heap.size]? = some (.cells #[.int .i64 0, .int .i64 0, .string ⟨#[]⟩, .int .i64 (a : Int)] 28 (0, 0)) := by
        rw [← hW6]
        refine (alloc_other (by simp only [size_set]; exact e4) _).trans ?_
        exact (set_at (set_at (set_at (set_at E1.out _) _) _) _)
      have HB6 : Hid (Below w.heap.size w W6) := by
        show Below w.heap.size w W6
        rw [← hW6]
        (repeat (first | with_reducible exact Below.refl _ _ | with_reducible assumption | refine Below.drew ?_ | refine Below.setCell ?_ (by first | omega | (simp; done) | (simp; omega)) _ | refine Below.alloc ?_ (by first | omega | (simp; done) | (simp; omega)) _ | refine Below.trans ?_ (Below.mono (by with_reducible assumption) (by first | omega | (simp; done) | (simp; omega)))))
      obtain ⟨⟨y0, y1, y2, y3⟩, -, -, -, -⟩ := four_of x1
      clear hW6 x1
      exact bodyPost_ret (v := .tuple #[tkA tk0 (a : Int), .int .i64 0, .int .i64 103]) (by simp [results, Tryd.results23, go_sem, tkA, tk0, y0, y1, y2, y3]) rfl (dtok_no HT.out (by decide) HB6.out)
end Go.Proofs.YtkigilgoolnaaaaDoor
/- Walks of layer 10: the document's next, where a sign stands, or none. -/
namespace Go.Proofs.YtkigilgoolnaaaaDoor
open Go.RowKit

set_option maxHeartbeats 8000000 in
set_option maxRecDepth 100000 in
theorem dnext_sign (s : ByteArray) (a : Nat) (w : World) (ha : a < s.size) (hs : s.size ≤ 1000) (hr : ¬ runB s[a]) (hc8 : s[a].toNat ≠ 58) (hc9 : s[a].toNat ≠ 39) (h0 : skp false (bl s a) = 0) : Calls Tryd.prog 23 #[.string s, .int .i64 (a : Int)] w (DTokP (pcA s a) a w) := by
  have hai : (a : Int) < (s.size : Int) := by omega
  have hRU : ∀ w, Calls Tryd.prog 35 #[.string s, .int .i64 (a : Int)] w fun e w' => e = .returned (.string ⟨#[]⟩) ∧ w' = w := fun w => by have := drun_any s a w (by omega) hs; rw [run_none ha hr] at this; exact this
  have HRU := Lib.hid hRU
  have hnil : ((⟨#[]⟩ : ByteArray).toList == []) = true := by rw [ByteArray.toList_eq]; rfl
  have q1 : ((s[a].toNat : Int) == 58) = false := by simp; omega
  have q2 : ((s[a].toNat : Int) == 39) = false := by simp; omega
  have hSG := dsign_any s a
  cases hsg : sgn s[a] with
  | true =>
    obtain ⟨h10, hX⟩ := pcA_sign ha hr hsg
    obtain ⟨X, hXX⟩ : ∃ X, sgnT s a ha = X := ⟨_, rfl⟩
    rw [hXX] at hX
    have hS2 : ∀ w, Calls Tryd.prog 39 #[.string s, .int .i64 (a : Int)] w fun e w' => e = .returned (.string X) ∧ ∃ m, w' = w.drewN m := fun w => by have := hSG w ha hs; rw [hXX] at this; exact this
    have HSG := Lib.hid hS2
    have hpl := pieceN_le (bl s a)
    rw [bl_len] at hpl
    have hXl : X.size = (pcA s a).length := by rw [← hX]; simp
    have hXs : X.size ≤ 1000 := by rw [hXl, pcA, List.length_take]; omega
    have hw2 : IntKind.i64.wrap ((a : Int) + (X.size : Int)) = (a : Int) + (X.size : Int) := by rw [IntKind.wrap_i64]; omega
    have HT : Hid (tokR (pcA s a) = ((7, 0, X), 0)) := by
      have hne : ∃ c q, pcA s a = c :: q ∧ cls c = 10 := by
        obtain ⟨n, hn⟩ : ∃ n, pieceN (bl s a) = n + 1 := ⟨pieceN (bl s a) - 1, by have := pieceN_pos s[a] (bl s (a + 1)); rw [← bl_in ha] at this; omega⟩
        exact ⟨s[a], _, by rw [pcA, hn, bl_in ha, List.take_succ_cons], h10⟩
      obtain ⟨c, q, e1, e2⟩ := hne
      have := tokR_sign (l := q) e2
      rw [← e1, ← hX, ofL_list] at this
      rw [← hX]
      exact this
    have hne : (X.toList == []) = false := by
      rw [beq_eq_false_iff_ne, ByteArray.toList_eq, hX, pcA, bl_in ha]
      have := pieceN_pos s[a] (bl s (a + 1))
      obtain ⟨n, hn⟩ : ∃ n, pieceN (s[a] :: bl s (a + 1)) = n + 1 := ⟨pieceN (s[a] :: bl s (a + 1)) - 1, by omega⟩
      rw [hn, List.take_succ_cons]
      simp
    have HL := Lib.hid hXl
    clear hRU hSG hS2 hXX hX h10 hsg hr hc8 hc9 h0 hpl hXl
    go_enter Tryd.func23, Tryd.ntmps23
    go_wp2_with fail
    refine (HRU.out _).mono ?_
    rintro e w' ⟨rfl, rfl⟩
    go_wp2_with fail
    refine (HSG.out _).mono ?_
    rintro e w1 ⟨rfl, m, he⟩
    have hb := below_draws ((w.alloc (.cells #[.int .i64 0, .int .i64 0, .string ⟨#[]⟩, .int .i64 0] 28)).alloc (.cells #[.int .i64 7, .int .i64 0, .string ⟨#[]⟩, .int .i64 (a : Int)] 28)) m
    rw [← he] at hb
    obtain ⟨e1, e2, e3, e4, hbw⟩ := two_blocks hb
    obtain ⟨⟨k0, k1, k2, k3⟩, f0, f1, f2, f3⟩ := four_of e2
    have E1 := Lib.hid e1
    have E2 := Lib.hid e2
    clear hb e1 e2 he
    go_wp2
    clear k0 k1 k2 k3 f0 f1 f2 f3
    obtain ⟨W5, hW5⟩ : ∃ W5, w1.setCell ⟨w.heap.size + 1, 2, none⟩ (.string X) = W5 := ⟨_, rfl⟩
    have x1 : W5.heap[w.heap.size]? = some (.cells #[.int .i64 0, .int .i64 0, .string ⟨#[]⟩, .int .i64 0] 28 (0, 0)) := by
      rw [← hW5]
      exact (set_other _ (by omega)).trans E1.out
    have x2 : W5.heap[w.heap.size + 1]? = some (.cells #[.int .i64 7, .int .i64 0, .string X, .int .i64 (a : Int)] 28 (0, 0)) := by
      rw [← hW5]
      exact set_at E2.out _
    have HB5 : Hid (Below w.heap.size w W5) := by
      show Below w.heap.size w W5
      rw [← hW5]
      (repeat (first | with_reducible exact Below.refl _ _ | with_reducible assumption | refine Below.drew ?_ | refine Below.setCell ?_ (by first | omega | (simp; done) | (simp; omega)) _ | refine Below.alloc ?_ (by first | omega | (simp; done) | (simp; omega)) _ | refine Below.trans ?_ (Below.mono (by with_reducible assumption) (by first | omega | (simp; done) | (simp; omega)))))
    have hz5 : w.heap.size + 1 < W5.heap.size := (Array.getElem?_eq_some_iff.1 x2).1
    have hz6 : w.heap.size < W5.heap.size := by omega
    obtain ⟨⟨m0, m1, m2, m3⟩, g0, g1, g2, g3⟩ := four_of x1
    obtain ⟨⟨k0, k1, k2, k3⟩, f0, f1, f2, f3⟩ := four_of x2
    rw [hW5]
    clear hW5 x1 x2 hbw e3 e4
    go_region
    all_goals
      go_wp2
      refine bodyPost_ret (v := .tuple #[tkA (7, 0, X) (a : Int), .int .i64 ((a : Int) + (X.size : Int)), .int .i64 0]) (by simp [results, Tryd.results23, go_sem, tkA, m0, m1, m2, m3]) rfl ?_
      rw [HL.out]
      exact dtok_yes HT.out (by have h0 := HB5.out; (repeat (first | with_reducible exact Below.refl _ _ | with_reducible assumption | refine Below.drew ?_ | refine Below.setCell ?_ (by first | omega | (simp; done) | (simp; omega)) _ | refine Below.alloc ?_ (by first | omega | (simp; done) | (simp; omega)) _ | refine Below.trans ?_ (Below.mono (by with_reducible assumption) (by first | omega | (simp; done) | (simp; omega))))))
  | false =>
    have HT := Lib.hid (pcA_other ha h0 hr hc8 hc9 hsg)
    have hS2 : ∀ w, Calls Tryd.prog 39 #[.string s, .int .i64 (a : Int)] w fun e w' => e = .returned (.string ⟨#[]⟩) ∧ ∃ m, w' = w.drewN m := fun w => by have := hSG w ha hs; rw [sgnT_no ha hsg] at this; exact this
    have HSG := Lib.hid hS2
    clear hRU hSG hS2 hsg hr hc8 hc9 h0
    go_enter Tryd.func23, Tryd.ntmps23
    go_wp2_with fail
    refine (HRU.out _).mono ?_
    rintro e w' ⟨rfl, rfl⟩
    go_wp2_with fail
    refine (HSG.out _).mono ?_
    rintro e w1 ⟨rfl, m, he⟩
    have hb := below_draws ((w.alloc (.cells #[.int .i64 0, .int .i64 0, .string ⟨#[]⟩, .int .i64 0] 28)).alloc (.cells #[.int .i64 7, .int .i64 0, .string ⟨#[]⟩, .int .i64 (a : Int)] 28)) m
    rw [← he] at hb
    obtain ⟨e1, e2, e3, e4, hbw⟩ := two_blocks hb
    obtain ⟨⟨k0, k1, k2, k3⟩, f0, f1, f2, f3⟩ := four_of e2
    have E1 := Lib.hid e1
    have E2 := Lib.hid e2
    obtain ⟨⟨m0, m1, m2, m3⟩, g0, g1, g2, g3⟩ := four_of e1
    clear hb e1 e2 he
    go_wp2
    obtain ⟨W6, hW6⟩ : ∃ W6, ((((w1.setCell ⟨w.heap.size + 1, 2, none⟩ (.string ⟨#[]⟩)).setCell ⟨w.heap.size, 0, none⟩ (.int .i64 7)).setCell ⟨w.heap.size, 1, none⟩ (.int .i64 0)).setCell ⟨w.heap.size, 2, none⟩ (.string ⟨#[]⟩)).setCell ⟨w.heap.size, 3, none⟩ (.int .i64 (a : Int)) = W6 := ⟨_, rfl⟩
    rw [hW6]
    have x1 : W6.heap[w.heap.size]? = some (.cells #[.int .i64 7, .int .i64 0, .string ⟨#[]⟩, .int .i64 (a : Int)] 28 (0, 0)) := by
      rw [← hW6]
      exact set_at (set_at (set_at (set_at ((set_other _ (by omega)).trans E1.out) _) _) _) _
    have HB6 : Hid (Below w.heap.size w W6) := by
      show Below w.heap.size w W6
      rw [← hW6]
      (repeat (first | with_reducible exact Below.refl _ _ | with_reducible assumption | refine Below.drew ?_ | refine Below.setCell ?_ (by first | omega | (simp; done) | (simp; omega)) _ | refine Below.alloc ?_ (by first | omega | (simp; done) | (simp; omega)) _ | refine Below.trans ?_ (Below.mono (by with_reducible assumption) (by first | omega | (simp; done) | (simp; omega)))))
    obtain ⟨⟨y0, y1, y2, y3⟩, -, -, -, -⟩ := four_of x1
    clear hW6 x1
    exact bodyPost_ret (v := .tuple #[tkA (7, 0, ⟨#[]⟩) (a : Int), .int .i64 0, .int .i64 100]) (by simp [results, Tryd.results23, go_sem, tkA, y0, y1, y2, y3]) rfl (dtok_no HT.out (by decide) HB6.out)
end Go.Proofs.YtkigilgoolnaaaaDoor
/- Walks of layer 10: the document's Scan. -/
namespace Go.Proofs.YtkigilgoolnaaaaDoor
open Go.RowKit

theorem dnext_any (s : ByteArray) (a : Nat) (w : World) (ha : a < s.size) (hs : s.size ≤ 1000) (h0 : skp false (bl s a) = 0) : Calls Tryd.prog 23 #[.string s, .int .i64 (a : Int)] w (DTokP (pcA s a) a w) := by
  by_cases hr : runB s[a]
  · exact dnext_run s a w ha hs hr
  · by_cases h8 : s[a].toNat = 58
    · exact dnext_param s a w ha hs hr h8
    · by_cases h9 : s[a].toNat = 39
      · exact dnext_text s a w ha hs hr h9
      · exact dnext_sign s a w ha hs hr h8 h9 h0
/-- Where a token stands: what is cut ahead of it, and from where. -/
theorem skip_at {s : ByteArray} {e : Nat} (hn : e + skp false (bl s e) < s.size) : skp false (bl s (e + skp false (bl s e))) = 0 ∧ skipL (bl s e) = bl s (e + skp false (bl s e)) ∧ skipL (bl s e) ≠ [] := by
  have e1 : skipL (bl s e) = bl s (e + skp false (bl s e)) := by rw [skipL, bl_drop]
  have hne : skipL (bl s e) ≠ [] := by
    rw [e1, bl_in hn]
    simp
  refine ⟨?_, e1, hne⟩
  rw [← e1]
  exact (skip_zero hne).2
theorem Sc.dstep {s : ByteArray} {e a : Nat} {ts : List (Tk × Nat)} (h : Sc s e ts) (ha : e + skp false (bl s e) = a) (hn : a < s.size) {t : Tk} (ht : tokR (pcA s a) = (t, 0)) : Sc s (a + (pcA s a).length) (ts ++ [(t, a)]) ∧ a < a + (pcA s a).length := by
  subst ha
  obtain ⟨h1, h2, h3⟩ := skip_at hn
  have hp : pce (bl s e) = pcA s (e + skp false (bl s e)) := by rw [pce, h2, pcA]
  have hpl := pieceN_le (bl s (e + skp false (bl s e)))
  have hl : (pcA s (e + skp false (bl s e))).length = pieceN (bl s (e + skp false (bl s e))) := by rw [pcA, List.length_take]; omega
  have hpos : 0 < pieceN (bl s (e + skp false (bl s e))) := by rw [bl_in hn]; exact pieceN_pos _ _
  have hlen := bl_len s (e + skp false (bl s e))
  have hr : rst (bl s e) = bl s (e + skp false (bl s e) + pieceN (bl s (e + skp false (bl s e)))) := by rw [rst, h2, bl_drop]
  rw [hl]
  refine ⟨⟨by omega, ?_, fun us g => ?_, fun p c g => ?_⟩, by omega⟩
  · have := h.few
    simp
    omega
  · rw [List.append_assoc]
    refine h.toks _ (Toks.more h3 (by rw [hp]; exact ht) ?_)
    rw [hr, h2]
    exact g
  · refine h.bad _ _ (Bad.more h3 (by rw [hp]; exact ht) ?_)
    rw [hr, h2]
    exact g
theorem Sc.dbad {s : ByteArray} {e a : Nat} {ts : List (Tk × Nat)} (h : Sc s e ts) (ha : e + skp false (bl s e) = a) (hn : a < s.size) (ht : (tokR (pcA s a)).2 ≠ 0) : Bad s.data.toList 0 a (tokR (pcA s a)).2 := by
  subst ha
  obtain ⟨h1, h2, h3⟩ := skip_at hn
  have hp : pce (bl s e) = pcA s (e + skp false (bl s e)) := by rw [pce, h2, pcA]
  exact h.bad _ _ (Bad.here (t := (tokR (pcA s (e + skp false (bl s e)))).1) (by rw [hp]) ht)
theorem Sc.dfin {s : ByteArray} {e a : Nat} {ts : List (Tk × Nat)} (h : Sc s e ts) (ha : e + skp false (bl s e) = a) (hn : ¬ a < s.size) : Toks s.data.toList 0 (ts ++ [((1, 0, ⟨#[]⟩), s.size)]) := by
  subst ha
  have h1 := skp_le (bl s e) false
  rw [bl_len] at h1
  have hle := h.le
  have e1 : skipL (bl s e) = [] := by rw [skipL, bl_drop, bl_out hn]
  have := Toks.fin (l := bl s e) (a := e) e1
  rw [show e + skp false (bl s e) = s.size from by omega] at this
  exact h.toks _ this

set_option maxHeartbeats 8000000 in
set_option maxRecDepth 100000 in
theorem dscan_any (s : ByteArray) (w : World) : Calls Tryd.prog 10 #[.string s] w (ScanP s w) := by
  obtain ⟨i0, hi, hz0, hz1, hz2⟩ := info_parts Tryd.infoTok
  by_cases hl : 1000 < s.size
  · have hli : (1000 : Int) < (s.size : Int) := by omega
    have HX : Hid (ScanIs s [] 0 2) := Or.inl ⟨hl, rfl, rfl, rfl⟩
    go_enter Tryd.func10, Tryd.ntmps10
    go_wp2
    exact bodyPost_ret (v := .tuple #[.slice none 0 0, .int .i64 0, .int .i64 2]) (by simp [results, Tryd.results10, go_sem]) rfl (scan_bad HX.out (by (repeat (first | exact Below.refl _ _ | assumption | refine Below.drew ?_ | refine below_drewN ?_ _ | refine Below.alloc ?_ (by first | omega | (simp; done) | (simp; omega)) _ | refine Below.setCell ?_ (by first | omega | (simp; done) | (simp; omega)) _ | refine Below.trans ?_ (Below.mono (by assumption) (by first | omega | (simp; done) | (simp; omega)))))))
  · have hli : ¬ (1000 : Int) < (s.size : Int) := by omega
    have hs : s.size ≤ 1000 := by omega
    clear hl
    go_enter Tryd.func10, Tryd.ntmps10
    go_wp2_with fail
    refine (dskip_any s 0 _ (by omega) hs).mono ?_
    rintro e w1 ⟨rfl, rfl⟩
    obtain ⟨a0, ha0⟩ : ∃ a0, 0 + skp false (bl s 0) = a0 := ⟨_, rfl⟩
    have HA0 := Lib.hid ha0
    rw [ha0]
    clear ha0 hli
    go_wp2
    go_loopw [5, 6] (fun v at_ wr => ∃ (ts : List (Tk × Nat)) (e a : Nat), at_ = .int .i64 (a : Int) ∧ e + skp false (bl s e) = a ∧ a ≤ s.size ∧ Sc s e ts ∧ wr.ownsRow w1.heap.size 28 4 v ts.length (tc ts) ∧ Below w1.heap.size w1 wr) (fun _ a _ => s.size - (intOf a).toNat)
    case atStart => exact ⟨[], 0, a0, rfl, HA0.out, by have := skp_le (bl s 0) false; rw [bl_len] at this; have := HA0.out; omega, Sc.start s, World.ownsRow_nil _ _ _ _, by (repeat (first | exact Below.refl _ _ | assumption | refine Below.drew ?_ | refine below_drewN ?_ _ | refine Below.alloc ?_ (by first | omega | (simp; done) | (simp; omega)) _ | refine Below.setCell ?_ (by first | omega | (simp; done) | (simp; omega)) _ | refine Below.trans ?_ (Below.mono (by assumption) (by first | omega | (simp; done) | (simp; omega)))))⟩
    case round =>
      clear HA0
      obtain ⟨ts, e, a, rfl, hea, has, hsc, hown, hb⟩ := hrel
      have HEA := Lib.hid hea
      have HS := Lib.hid hsc
      clear hea hsc
      have hsz := hb.size
      have hts : ts.length ≤ 1000 := by have := HS.out.few; have := HS.out.le; omega
      by_cases hlt : a < s.size
      · have hlti : (a : Int) < (s.size : Int) := by omega
        have h0 := (skip_at (by rw [HEA.out]; exact hlt)).1
        rw [HEA.out] at h0
        have HNX := Lib.hid (dnext_any s a · hlt hs h0)
        clear h0
        go_wp2_with fail
        refine (HNX.out _).mono ?_
        rintro e3 w3 ⟨⟨k, n, t⟩, b, z, rfl, hzz, htk, hb3⟩
        have hb3' : Below w1.heap.size w1 w3 := hb.trans (hb3.mono hsz)
        have hz3 := hb3'.size
        have hown3 := own_later hown hb3
        have hlt3 := hown3.lt
        clear hown hb3 HNX
        unfold tkA
        by_cases hz : z = 0
        · subst hz
          obtain ⟨ht1, hb0⟩ := htk rfl
          obtain ⟨B, hB⟩ : ∃ B, a + (pcA s a).length = B := ⟨_, rfl⟩
          rw [hB] at hb0
          subst hb0
          have htt : tokR (pcA s a) = ((k, n, t), 0) := Prod.ext ht1.symm hzz.symm
          have hst := HS.out.dstep HEA.out hlt htt
          rw [hB] at hst
          have HST := Lib.hid hst
          clear hst hB
          clear hzz htk ht1 htt
          go_wp2_with (first | (at_builtin; refine wpList_append_own _ rfl _ _ 22 rfl w1.heap.size 28 i0 _ 4 40 Tryd.underlying22 hi hz0 hz1 hz2 rfl (by decide) _ ts.length (tc ts) rfl ?c0 ⟨w3.heap.size + 1, 0, none⟩ 1 1 (tc [((k, n, t), a)]) rfl rfl ?c1 ?c2 ?c3 ?c4 ?c5 ?_))
          case c0 => exact (hown3.alloc _).alloc _
          case c1 =>
            have := cells_alloc (w3.alloc (.cells #[.int .i64 k, .int .i64 n, .string t, .int .i64 (a : Int)] 28)) (tc [((k, n, t), a)]) 28
            simpa [tc] using this
          case c2 => exact tc_one _
          case c3 => unfold maxLen; omega
          case c4 => omega
          case c5 => simp; omega
          intro v' w4 hown4 hgrow _
          have hbb : Below w1.heap.size w1 w4 := ((hb3'.alloc (by omega) _).alloc (by simp; omega) _).grown hgrow (by simp; omega) fun k hk => (hlt3 k hk).1
          rw [← tc_append] at hown4
          have hlen : (ts ++ [(((k, n, t) : Tk), a)]).length = ts.length + 1 := by simp
          clear hown3 hlt3 hb3' hgrow
          rw [← hlen] at hown4
          have HO := Lib.hid hown4
          clear hown4
          have hBs := HST.out.1.le
          go_wp2_with fail
          refine (dskip_any s B _ hBs hs).mono ?_
          rintro e5 w5 ⟨rfl, rfl⟩
          obtain ⟨a2, ha2⟩ : ∃ a2, B + skp false (bl s B) = a2 := ⟨_, rfl⟩
          have hq := skp_le (bl s B) false
          rw [bl_len] at hq
          have HA2 := Lib.hid ha2
          rw [ha2]
          have hab2 : a < a2 := by have := HST.out.2; omega
          have ha2s : a2 ≤ s.size := by omega
          clear ha2
          go_wp2
          go_roundw
          case rel => exact ⟨ts ++ [((k, n, t), a)], B, a2, rfl, HA2.out, ha2s, HST.out.1, HO.out, hbb⟩
          case measure => simp [intOf]; omega
        · have hzi : (z != 0) = true := by simpa using hz
          have HB : Hid (ScanIs s [] a z) := by
            have h1 := HS.out.dbad HEA.out hlt (by rw [← hzz]; exact hz)
            rw [← hzz] at h1
            exact Or.inr ⟨hs, Or.inr ⟨rfl, h1⟩⟩
          clear hz hown3 hlt3 hzz htk
          go_wp2
          exact bodyPost_ret (v := .tuple #[.slice none 0 0, .int .i64 (a : Int), .int .i64 z]) (by simp [results, Tryd.results10, go_sem]) rfl (scan_bad HB.out (by (repeat (first | exact Below.refl _ _ | assumption | refine Below.drew ?_ | refine below_drewN ?_ _ | refine Below.alloc ?_ (by first | omega | (simp; done) | (simp; omega)) _ | refine Below.setCell ?_ (by first | omega | (simp; done) | (simp; omega)) _ | refine Below.trans ?_ (Below.mono (by assumption) (by first | omega | (simp; done) | (simp; omega)))))))
      · have hlti : ¬ (a : Int) < (s.size : Int) := by omega
        have HF := Lib.hid (HS.out.dfin HEA.out hlt)
        have hlt0 := hown.lt
        go_wp2_with (first | (at_builtin; refine wpList_append_own _ rfl _ _ 22 rfl w1.heap.size 28 i0 _ 4 40 Tryd.underlying22 hi hz0 hz1 hz2 rfl (by decide) _ ts.length (tc ts) rfl ?c0 ⟨wr.heap.size, 0, none⟩ 1 1 (tc [((1, 0, ⟨#[]⟩), s.size)]) rfl rfl ?c1 ?c2 ?c3 ?c4 ?c5 ?_))
        case c0 => exact hown.alloc _
        case c1 => exact fun _ _ h => h
        case c2 => exact tc_one _
        case c3 => unfold maxLen; omega
        case c4 => omega
        case c5 => first | omega | (simp; omega)
        intro v' w4 hown4 hgrow _
        have hbb : Below w1.heap.size w1 w4 := (hb.alloc (by omega) _).grown hgrow (by simp; omega) fun k hk => (hlt0 k hk).1
        rw [← tc_append] at hown4
        have hlen : (ts ++ [(((1, 0, ⟨#[]⟩) : Tk), s.size)]).length = ts.length + 1 := by simp
        clear hown hlt0 hb hgrow
        rw [← hlen] at hown4
        obtain ⟨la, lc, rfl⟩ := own_form hown4
        have HO := Lib.hid hown4
        clear hown4
        go_wp2
        exact bodyPost_ret (v := .tuple #[.slice la (ts ++ [(((1, 0, ⟨#[]⟩) : Tk), s.size)]).length lc, .int .i64 0, .int .i64 0]) (by simp [results, Tryd.results10, go_sem]) rfl ⟨la, lc, _, 0, 0, rfl, Or.inr ⟨hs, Or.inl ⟨rfl, rfl, HF.out⟩⟩, HO.out, by rw [hlen]; omega, by (repeat (first | exact Below.refl _ _ | assumption | refine Below.drew ?_ | refine below_drewN ?_ _ | refine Below.alloc ?_ (by first | omega | (simp; done) | (simp; omega)) _ | refine Below.setCell ?_ (by first | omega | (simp; done) | (simp; omega)) _ | refine Below.trans ?_ (Below.mono (by assumption) (by first | omega | (simp; done) | (simp; omega)))))⟩
end Go.Proofs.YtkigilgoolnaaaaDoor
/- Walks of layer 10: LexScans. -/
namespace Go.Proofs.YtkigilgoolnaaaaDoor
open Go.RowKit

/-- Two scans of one source tell the same. -/
theorem scan_two {s : ByteArray} {l m : List (Tk × Nat)} {p q : Nat} {c d : Int} (h : ScanIs s l p c) (g : ScanIs s m q d) : m = l ∧ q = p ∧ d = c := g.one h
/-- A row that is the call's own, its block as it is told. -/
theorem own_cells {w : World} {B n cap : Nat} {p : Option Addr} {xs : List Value} {T : TypeId} (h : w.ownsRow B T 4 (.slice p n cap) n xs) (hn : 0 < n) : ∃ g cur, p = some ⟨g, 0, none⟩ ∧ B ≤ g ∧ w.heap[g]? = some (.cells cur T (0, 0)) ∧ n * 4 ≤ cur.size := by
  obtain ⟨hl, ⟨h1, h2⟩ | ⟨g, cap', cur, e1, hb, hg, hr⟩⟩ := h
  · omega
  · injection e1 with e1 e2 e3
    subst e1
    refine ⟨g, cur, rfl, hb, hg, ?_⟩
    obtain ⟨r1, _, r3, _⟩ := hr
    rw [r3]
    exact Nat.mul_le_mul_right _ r1

theorem own_ge {w : World} {B : Nat} {e : TypeId} {size : Nat} {v : Value} {n : Nat} {xs : List Value} (h : w.ownsRow B e size v n xs) : ∀ g, v.ownBlock = some g → B ≤ g := fun g hg => (h.lt g hg).1
theorem cell_in {w : World} {g k : Nat} {cur : Array Value} {T : TypeId} (h : w.heap[g]? = some (.cells cur T (0, 0))) (hk : k < cur.size) : ∃ v, w.cell? ⟨g, k, none⟩ = some v ∧ w.frozen? ⟨g, k, none⟩ = false := ⟨cur[k], by simp [World.cell?, h, hk], by simp [World.frozen?, h]⟩
/-- While the first answer is written over: what stays. -/
structure Kp (w w1 w3 wr : World) (pa : Option Addr) (n : Nat) : Prop where
  below : Below w.heap.size w wr
  keep : ∀ k, w1.heap.size ≤ k → wr.heap[k]? = w3.heap[k]?
  block : 0 < n → ∃ g cur, pa = some ⟨g, 0, none⟩ ∧ w.heap.size ≤ g ∧ g < w1.heap.size ∧ wr.heap[g]? = some (.cells cur 28 (0, 0)) ∧ n * 4 ≤ cur.size
theorem Kp.set {w w1 w3 wr : World} {g n i : Nat} (h : Kp w w1 w3 wr (some ⟨g, 0, none⟩) n) (hn : 0 < n) (v : Value) : Kp w w1 w3 (wr.setCell ⟨g, i, none⟩ v) (some ⟨g, 0, none⟩) n := by
  obtain ⟨g', cur, e, h1, h2, h3, h4⟩ := h.block hn
  injection e with e
  injection e with e _ _
  subst e
  refine ⟨h.below.setCell h1 _, fun k hk => (set_other _ (by omega)).trans (h.keep k hk), fun _ => ⟨g, cur.setIfInBounds i v, rfl, h1, h2, set_at h3 v, by simpa using h4⟩⟩

set_option maxHeartbeats 16000000 in
set_option maxRecDepth 100000 in
theorem lexScans_law (s t : ByteArray) (w : World) (hv : SV w) : Calls Tryd.prog 3 #[.string s, .string t] w fun e w' => e = .returned (.bool true) ∧ Below w.heap.size w w' := by
  have HSV := Lib.hid hv
  clear hv
  go_enter Tryd.func3, Tryd.ntmps3
  go_wp2_with fail
  refine (scan_any s _ HSV.out).mono ?_
  rintro e w1 ⟨pa, ca, la, p, c, rfl, hsa, howa, hlena, hb1⟩
  have HB1 := Lib.hid hb1
  have HSA := Lib.hid hsa
  have HOA := Lib.hid howa
  clear hb1 hsa howa
  go_wp2_with fail
  refine (dscan_any s _).mono ?_
  rintro e w2 ⟨pb, cb, lb, q, d, rfl, hsb, howb, hlenb, hb2⟩
  obtain ⟨rfl, rfl, rfl⟩ := scan_two HSA.out hsb
  have HB2 : Hid (Below w.heap.size w w2) := HB1.out.trans (hb2.mono HB1.out.size)
  have HOA2 := Lib.hid (own_later HOA.out hb2)
  have HOB := Lib.hid howb
  have HZ1 := Lib.hid hb2.size
  clear hb2 howb hsb
  go_wp2_with fail
  refine (same_any pa pb ca cb lb lb _ (TR.of_own HOA2.out) (TR.of_own HOB.out) (by omega)).mono ?_
  rintro e w3 ⟨bt, rfl, hbt, hb3⟩
  obtain rfl : bt = true := hbt.2 rfl
  have HB3 : Hid (Below w.heap.size w w3) := HB2.out.trans (hb3.mono HB2.out.size)
  have HOB3 := Lib.hid (own_later HOB.out hb3)
  have HK0 : Hid (Kp w w1 w3 w3 pa lb.length) := by
    refine ⟨HB3.out, fun _ _ => rfl, fun hn => ?_⟩
    obtain ⟨g, cur, rfl, h1, h2, h3⟩ := own_cells (own_later HOA2.out hb3) hn
    exact ⟨g, cur, rfl, h1, (HOA.out.lt g rfl).2, h2, h3⟩
  clear hbt hb3 HOA2 HOA HOB
  go_wp2
  go_loopw [12] (fun i wr => ∃ k : Nat, k ≤ lb.length ∧ i = .int .i64 (k : Int) ∧ Kp w w1 w3 wr pa lb.length) (fun i _ => lb.length - (intOf i).toNat)
  case atStart => exact ⟨0, Nat.zero_le _, rfl, HK0.out⟩
  case round =>
    obtain ⟨k, hk, rfl, hkp⟩ := hrel
    by_cases hlt : k < lb.length
    · have hlti : (k : Int) < (lb.length : Int) := by omega
      obtain ⟨g, cur, rfl, h1, h2, h3, h4⟩ := hkp.block (by omega)
      have HKP := Lib.hid hkp
      obtain ⟨x0, a0, f0⟩ := cell_in (k := k * 4) h3 (by omega)
      obtain ⟨x1, a1, f1⟩ := cell_in (k := k * 4 + 1) h3 (by omega)
      obtain ⟨x2, a2, f2⟩ := cell_in (k := k * 4 + 2) h3 (by omega)
      obtain ⟨x3, a3, f3⟩ := cell_in (k := k * 4 + 3) h3 (by omega)
      clear hkp h1 h2 h3 h4 HK0
      go_wp2
      go_roundw
      case rel => exact ⟨k + 1, by omega, by go_num, (((HKP.out.set (by omega) _).set (by omega) _).set (by omega) _).set (by omega) _⟩
      case measure => simp [intOf]; omega
    · have hlti : ¬ (k : Int) < (lb.length : Int) := by omega
      have HKP := Lib.hid hkp
      have HOBR : Hid (wr.ownsRow w1.heap.size 28 4 (.slice pb lb.length cb) lb.length (tc lb)) := own_kept HOB3.out fun g hg => hkp.keep g (own_ge HOB3.out g hg)
      clear hkp HK0
      go_wp2_with fail
      refine (scan_any t _ (HSV.out.later HKP.out.below)).mono ?_
      rintro e w4 ⟨pc, cc, lc, r, f, rfl, hsc, howc, hlenc, hb4⟩
      have HB4 : Hid (Below w.heap.size w w4) := HKP.out.below.trans (hb4.mono HKP.out.below.size)
      have HTB4 := Lib.hid ((TR.of_own HOBR.out).later hb4)
      have HTC := Lib.hid (TR.of_own howc)
      have HSC := Lib.hid hsc
      clear hb4 howc hsc HOBR
      go_wp2_with fail
      refine (dscan_any t _).mono ?_
      rintro e w5 ⟨pd, cd, ld, r2, f2, rfl, hsd, howd, hlend, hb5⟩
      obtain ⟨rfl, rfl, rfl⟩ := scan_two HSC.out hsd
      have HB5 : Hid (Below w.heap.size w w5) := HB4.out.trans (hb5.mono HB4.out.size)
      have HTB5 := Lib.hid (HTB4.out.later hb5)
      have HTC5 := Lib.hid (HTC.out.later hb5)
      have HTD := Lib.hid (TR.of_own howd)
      clear hb5 howd hsd HTB4 HTC
      go_wp2_with fail
      refine (scan_any s _ (HSV.out.later HB5.out)).mono ?_
      rintro e w6 ⟨pe, ce, le, r3, f3, rfl, hse, howe, hlene, hb6⟩
      obtain ⟨rfl, rfl, rfl⟩ := scan_two HSA.out hse
      have HB6 : Hid (Below w.heap.size w w6) := HB5.out.trans (hb6.mono HB5.out.size)
      have HTB6 := Lib.hid (HTB5.out.later hb6)
      have HTC6 := Lib.hid (HTC5.out.later hb6)
      have HTD6 := Lib.hid (HTD.out.later hb6)
      have HTE := Lib.hid (TR.of_own howe)
      clear hb6 howe hse HTB5 HTC5 HTD
      go_wp2_with fail
      refine (same_any pc pd cc cd _ _ _ HTC6.out HTD6.out (by omega)).mono ?_
      rintro e w7 ⟨b7, rfl, hb7t, hb7⟩
      obtain rfl : b7 = true := hb7t.2 rfl
      have HB7 : Hid (Below w.heap.size w w7) := HB6.out.trans (hb7.mono HB6.out.size)
      have HTB7 := Lib.hid (HTB6.out.later hb7)
      have HTE7 := Lib.hid (HTE.out.later hb7)
      clear hb7 hb7t HTB6 HTE
      go_wp2_with fail
      refine (same_any pe pb ce cb _ _ _ HTE7.out HTB7.out (by omega)).mono ?_
      rintro e w8 ⟨b8, rfl, hb8t, hb8⟩
      obtain rfl : b8 = true := hb8t.2 rfl
      have HB8 : Hid (Below w.heap.size w w8) := HB7.out.trans (hb8.mono HB7.out.size)
      clear hb8 hb8t
      go_wp2
      exact bodyPost_ret (v := .bool true) (by simp [results, Tryd.results3, go_sem]) rfl ⟨rfl, HB8.out⟩
end Go.Proofs.YtkigilgoolnaaaaDoor
