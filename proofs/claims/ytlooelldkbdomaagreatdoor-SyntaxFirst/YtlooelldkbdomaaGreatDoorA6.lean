/- Walks of layer 10: the token that a piece is. -/
import Derived.Test.YtlooelldkbdomaaGreatDoorA4
import Derived.Test.YtlooelldkbdomaaGreatDoorV6
import Derived.Test.YtlooelldkbdomaaGreatDoorM112
namespace Go.Proofs.YtlooelldkbdomaaGreatDoor
open Go.RowKit

theorem clone_any (s : ByteArray) (w : World) (hs : s.size ≤ 2147483648) : Calls Tryz.prog 123 #[.string s] w fun e w' => e = .returned (.string s) ∧ Below w.heap.size w w' := by
  go_enter Tryz.func123, Tryz.ntmps123
  go_wp2_with fail
  refine (Tryz.stringslite_Clone s _ (by omega)).mono ?_
  rintro e w1 ⟨rfl, hb1⟩
  go_wp2
  go_ret
  exact ⟨rfl, hb1⟩
/-- A token as a value. -/
def tkA (t : Tk) (a : Int) : Value := .agg #[.int .i64 t.1, .int .i64 t.2.1, .string t.2.2, .int .i64 a]
/-- A token and an error. -/
def tkE (r : Tk × Int) : Value := .tuple #[tkA r.1 0, .int .i64 r.2]
def TkP (r : Tk × Int) (w : World) (e : Ending) (w' : World) : Prop := e = .returned (tkE r) ∧ Below w.heap.size w w'

set_option maxHeartbeats 1000000 in
theorem lettered_any (k : Int) (s : ByteArray) (w : World) (hs : s.size ≤ 2147483648) : Calls Tryz.prog 88 #[.int .i64 k, .string s] w fun e w' => e = .returned (.agg #[.int .i64 k, .int .i64 0, .string s, .int .i64 0]) ∧ Below w.heap.size w w' := by
  go_enter Tryz.func88, Tryz.ntmps88
  go_wp2_with fail
  refine (clone_any s _ hs).mono ?_
  rintro e w' ⟨rfl, hb⟩
  (obtain ⟨hc, hf⟩ := bcell hb; have hz := hb.size; (try simp at hz); (try have hz0 : w.heap.size < w'.heap.size := by omega); (try have hz1 : w.heap.size + 1 < w'.heap.size := by omega); (try have hz2 : w.heap.size + 1 + 1 < w'.heap.size := by omega); (try have hz3 : w.heap.size + 1 + 1 + 1 < w'.heap.size := by omega))
  go_wp2
  exact bodyPost_ret (v := .agg #[.int .i64 k, .int .i64 0, .string s, .int .i64 0]) (by simp [results, Tryz.results88, go_sem, *]) rfl ⟨rfl, by (repeat (first | exact Below.refl _ _ | assumption | refine Below.drew ?_ | refine below_drewN ?_ _ | refine Below.alloc ?_ (by first | omega | (simp; done) | (simp; omega)) _ | refine Below.setCell ?_ (by first | omega | (simp; done) | (simp; omega)) _ | refine Below.trans ?_ (Below.mono (by assumption) (by first | omega | (simp; done) | (simp; omega)))))⟩

set_option maxHeartbeats 1000000 in
theorem param_any (s : ByteArray) (w : World) (hs : s.size ≤ 2147483648) : Calls Tryz.prog 86 #[.string s] w (TkP (if isName s = true then ((6, 0, s), 0) else (tk0, 102)) w) := by
  have HN := isName_any s
  cases hn : isName s with
  | true =>
    rw [hn] at HN
    have HI := Lib.hid HN
    clear HN hn
    rw [if_pos rfl]
    go_enter Tryz.func86, Tryz.ntmps86
    go_wp2_with (first | (go_at_call 29; refine (HI.out _).mono ?_; rintro e w' ⟨rfl, he⟩; rw [he]; clear he) | (go_at_call 88; refine (lettered_any _ _ _ hs).mono ?_; rintro e w' ⟨rfl, hb⟩; (obtain ⟨hc, hf⟩ := bcell hb; have hz := hb.size; (try simp at hz); (try have hz0 : w.heap.size < w'.heap.size := by omega); (try have hz1 : w.heap.size + 1 < w'.heap.size := by omega); (try have hz2 : w.heap.size + 1 + 1 < w'.heap.size := by omega); (try have hz3 : w.heap.size + 1 + 1 + 1 < w'.heap.size := by omega))))
    exact bodyPost_ret (v := tkE ((6, 0, s), 0)) (by simp [results, Tryz.results86, go_sem, tkE, tkA, *]) rfl ⟨rfl, by (repeat (first | exact Below.refl _ _ | assumption | refine Below.drew ?_ | refine below_drewN ?_ _ | refine Below.alloc ?_ (by first | omega | (simp; done) | (simp; omega)) _ | refine Below.setCell ?_ (by first | omega | (simp; done) | (simp; omega)) _ | refine Below.trans ?_ (Below.mono (by assumption) (by first | omega | (simp; done) | (simp; omega)))))⟩
  | false =>
    rw [hn] at HN
    have HI := Lib.hid HN
    clear HN hn
    rw [if_neg (by simp)]
    go_enter Tryz.func86, Tryz.ntmps86
    go_wp2_with (first | (go_at_call 29; refine (HI.out _).mono ?_; rintro e w' ⟨rfl, he⟩; rw [he]; clear he))
    exact bodyPost_ret (v := tkE (tk0, 102)) (by simp [results, Tryz.results86, go_sem, tkE, tkA, tk0, *]) rfl ⟨rfl, by (repeat (first | exact Below.refl _ _ | assumption | refine Below.drew ?_ | refine below_drewN ?_ _ | refine Below.alloc ?_ (by first | omega | (simp; done) | (simp; omega)) _ | refine Below.setCell ?_ (by first | omega | (simp; done) | (simp; omega)) _ | refine Below.trans ?_ (Below.mono (by assumption) (by first | omega | (simp; done) | (simp; omega)))))⟩

set_option maxHeartbeats 1000000 in
theorem nameOrWord_any (s : ByteArray) (w : World) (hs : s.size ≤ 2147483648) : Calls Tryz.prog 85 #[.string s] w (TkP (if isWord s = true then ((4, 0, s), 0) else if isName s = true then ((3, 0, s), 0) else (tk0, 102)) w) := by
  have HW := isWord_any s
  cases hw : isWord s with
  | true =>
    rw [hw] at HW
    have HJ := Lib.hid HW
    clear HW hw
    rw [if_pos rfl]
    go_enter Tryz.func85, Tryz.ntmps85
    go_wp2_with (first | (go_at_call 122; refine (HJ.out _).mono ?_; rintro e w' ⟨rfl, he⟩; rw [he]; clear he) | (go_at_call 88; refine (lettered_any _ _ _ hs).mono ?_; rintro e w' ⟨rfl, hb⟩; (obtain ⟨hc, hf⟩ := bcell hb; have hz := hb.size; (try simp at hz); (try have hz0 : w.heap.size < w'.heap.size := by omega); (try have hz1 : w.heap.size + 1 < w'.heap.size := by omega); (try have hz2 : w.heap.size + 1 + 1 < w'.heap.size := by omega); (try have hz3 : w.heap.size + 1 + 1 + 1 < w'.heap.size := by omega))))
    exact bodyPost_ret (v := tkE ((4, 0, s), 0)) (by simp [results, Tryz.results85, go_sem, tkE, tkA, *]) rfl ⟨rfl, by (repeat (first | exact Below.refl _ _ | assumption | refine Below.drew ?_ | refine below_drewN ?_ _ | refine Below.alloc ?_ (by first | omega | (simp; done) | (simp; omega)) _ | refine Below.setCell ?_ (by first | omega | (simp; done) | (simp; omega)) _ | refine Below.trans ?_ (Below.mono (by assumption) (by first | omega | (simp; done) | (simp; omega)))))⟩
  | false =>
    rw [hw] at HW
    have HJ := Lib.hid HW
    clear HW hw
    rw [if_neg (by simp)]
    have HN := isName_any s
    cases hn : isName s with
    | true =>
      rw [hn] at HN
      have HI := Lib.hid HN
      clear HN hn
      rw [if_pos rfl]
      go_enter Tryz.func85, Tryz.ntmps85
      go_wp2_with (first | (go_at_call 122; refine (HJ.out _).mono ?_; rintro e w' ⟨rfl, he⟩; rw [he]; clear he) | (go_at_call 29; refine (HI.out _).mono ?_; rintro e w' ⟨rfl, he⟩; rw [he]; clear he) | (go_at_call 88; refine (lettered_any _ _ _ hs).mono ?_; rintro e w' ⟨rfl, hb⟩; (obtain ⟨hc, hf⟩ := bcell hb; have hz := hb.size; (try simp at hz); (try have hz0 : w.heap.size < w'.heap.size := by omega); (try have hz1 : w.heap.size + 1 < w'.heap.size := by omega); (try have hz2 : w.heap.size + 1 + 1 < w'.heap.size := by omega); (try have hz3 : w.heap.size + 1 + 1 + 1 < w'.heap.size := by omega))))
      exact bodyPost_ret (v := tkE ((3, 0, s), 0)) (by simp [results, Tryz.results85, go_sem, tkE, tkA, *]) rfl ⟨rfl, by (repeat (first | exact Below.refl _ _ | assumption | refine Below.drew ?_ | refine below_drewN ?_ _ | refine Below.alloc ?_ (by first | omega | (simp; done) | (simp; omega)) _ | refine Below.setCell ?_ (by first | omega | (simp; done) | (simp; omega)) _ | refine Below.trans ?_ (Below.mono (by assumption) (by first | omega | (simp; done) | (simp; omega)))))⟩
    | false =>
      rw [hn] at HN
      have HI := Lib.hid HN
      clear HN hn
      rw [if_neg (by simp)]
      go_enter Tryz.func85, Tryz.ntmps85
      go_wp2_with (first | (go_at_call 122; refine (HJ.out _).mono ?_; rintro e w' ⟨rfl, he⟩; rw [he]; clear he) | (go_at_call 29; refine (HI.out _).mono ?_; rintro e w' ⟨rfl, he⟩; rw [he]; clear he))
      exact bodyPost_ret (v := tkE (tk0, 102)) (by simp [results, Tryz.results85, go_sem, tkE, tkA, tk0, *]) rfl ⟨rfl, by (repeat (first | exact Below.refl _ _ | assumption | refine Below.drew ?_ | refine below_drewN ?_ _ | refine Below.alloc ?_ (by first | omega | (simp; done) | (simp; omega)) _ | refine Below.setCell ?_ (by first | omega | (simp; done) | (simp; omega)) _ | refine Below.trans ?_ (Below.mono (by assumption) (by first | omega | (simp; done) | (simp; omega)))))⟩

theorem pa_or (s : ByteArray) : (∃ k n t, paV s = .tuple #[.agg #[.int .i64 k, .int .i64 n, .string t], .int .i64 0] ∧ (parR s.data.toList).2 = 0 ∧ (parR s.data.toList).1 = (k, n, t)) ∨ ((parR s.data.toList).2 ≠ 0 ∧ paV s = .tuple #[.agg #[.int .i64 0, .int .i64 0, .string ⟨#[]⟩], .int .i64 10]) := by
  by_cases h : ∃ v, LitOf s.data.toList v
  · obtain ⟨⟨k, n, t⟩, h⟩ := h
    exact Or.inl ⟨k, n, t, paV_ok h, by rw [parR_ok h], by rw [parR_ok h]⟩
  · have h' : ∀ v, ¬ LitOf s.data.toList v := fun v g => h ⟨v, g⟩
    exact Or.inr ⟨by rw [parR_no h']; decide, paV_no h'⟩

set_option maxHeartbeats 1000000 in
theorem numTok_any (s : ByteArray) (w : World) (hs : s.size ≤ 2147483648) (hv : SV w) : Calls Tryz.prog 84 #[.string s] w (TkP (if (parR s.data.toList).2 = 0 then ((2, (parR s.data.toList).1.2.1, ⟨#[]⟩), 0) else (tk0, 101)) w) := by
  have HSV := Lib.hid hv
  clear hv
  rcases pa_or s with ⟨k, n, t, hp, h0, h1⟩ | ⟨h0, hp⟩
  · rw [if_pos h0, h1]
    clear h0 h1
    have HP := Lib.hid hp
    clear hp
    go_enter Tryz.func84, Tryz.ntmps84
    go_wp2_with fail
    refine (parse_any s _ hs (HSV.out.alloc _)).mono ?_
    rintro e w' ⟨rfl, hb⟩
    rw [HP.out]
    (obtain ⟨hc, hf⟩ := bcell hb; have hz := hb.size; (try simp at hz); (try have hz0 : w.heap.size < w'.heap.size := by omega); (try have hz1 : w.heap.size + 1 < w'.heap.size := by omega); (try have hz2 : w.heap.size + 1 + 1 < w'.heap.size := by omega); (try have hz3 : w.heap.size + 1 + 1 + 1 < w'.heap.size := by omega))
    go_wp2
    exact bodyPost_ret (v := tkE ((2, n, ⟨#[]⟩), 0)) (by simp [results, Tryz.results84, go_sem, tkE, tkA, *]) rfl ⟨rfl, by (repeat (first | exact Below.refl _ _ | assumption | refine Below.drew ?_ | refine below_drewN ?_ _ | refine Below.alloc ?_ (by first | omega | (simp; done) | (simp; omega)) _ | refine Below.setCell ?_ (by first | omega | (simp; done) | (simp; omega)) _ | refine Below.trans ?_ (Below.mono (by assumption) (by first | omega | (simp; done) | (simp; omega)))))⟩
  · rw [if_neg h0]
    clear h0
    have HP := Lib.hid hp
    clear hp
    go_enter Tryz.func84, Tryz.ntmps84
    go_wp2_with fail
    refine (parse_any s _ hs (HSV.out.alloc _)).mono ?_
    rintro e w' ⟨rfl, hb⟩
    rw [HP.out]
    (obtain ⟨hc, hf⟩ := bcell hb; have hz := hb.size; (try simp at hz); (try have hz0 : w.heap.size < w'.heap.size := by omega); (try have hz1 : w.heap.size + 1 < w'.heap.size := by omega); (try have hz2 : w.heap.size + 1 + 1 < w'.heap.size := by omega); (try have hz3 : w.heap.size + 1 + 1 + 1 < w'.heap.size := by omega))
    go_wp2
    exact bodyPost_ret (v := tkE (tk0, 101)) (by simp [results, Tryz.results84, go_sem, tkE, tkA, tk0, *]) rfl ⟨rfl, by (repeat (first | exact Below.refl _ _ | assumption | refine Below.drew ?_ | refine below_drewN ?_ _ | refine Below.alloc ?_ (by first | omega | (simp; done) | (simp; omega)) _ | refine Below.setCell ?_ (by first | omega | (simp; done) | (simp; omega)) _ | refine Below.trans ?_ (Below.mono (by assumption) (by first | omega | (simp; done) | (simp; omega)))))⟩

theorem par_text {s : List UInt8} (h : (parR s).2 = 0) : (parR s).1.2.2.size ≤ 64 := by
  by_cases g : ∃ v, LitOf s v
  · obtain ⟨v, g⟩ := g
    rw [parR_ok g]
    rcases rt_kind g.1 with k | k | k | k
    · rw [(right_null g.1 k).2]; decide
    · rw [(rt_num g.1 k).2.2]; decide
    · rw [(right_bool g.1 k).2]; decide
    · exact (rt_text g.1 k).2
  · rw [parR_no fun v q => g ⟨v, q⟩] at h
    exact absurd h (by decide)

set_option maxHeartbeats 1000000 in
theorem text_tok (s : ByteArray) (w : World) (hs : s.size ≤ 2147483648) (hv : SV w) : Calls Tryz.prog 87 #[.string s] w (TkP (if (parR s.data.toList).2 = 0 then ((5, 0, (parR s.data.toList).1.2.2), 0) else (tk0, 103)) w) := by
  have HSV := Lib.hid hv
  clear hv
  rcases pa_or s with ⟨k, n, t, hp, h0, h1⟩ | ⟨h0, hp⟩
  · have ht := par_text h0
    rw [h1] at ht
    rw [if_pos h0, h1]
    clear h0 h1
    have ht2 : t.size ≤ 2147483648 := by have : t.size ≤ 64 := ht; omega
    clear ht
    have HP := Lib.hid hp
    clear hp
    go_enter Tryz.func87, Tryz.ntmps87
    go_wp2_with fail
    refine (parse_any s _ hs (HSV.out.alloc _)).mono ?_
    rintro e w' ⟨rfl, hb⟩
    rw [HP.out]
    (obtain ⟨hc, hf⟩ := bcell hb; have hz := hb.size; (try simp at hz); (try have hz0 : w.heap.size < w'.heap.size := by omega); (try have hz1 : w.heap.size + 1 < w'.heap.size := by omega); (try have hz2 : w.heap.size + 1 + 1 < w'.heap.size := by omega); (try have hz3 : w.heap.size + 1 + 1 + 1 < w'.heap.size := by omega))
    go_wp2_with fail
    refine (lettered_any _ _ _ ht2).mono ?_
    rintro e w2 ⟨rfl, hb2⟩
    obtain ⟨hc2, hf2⟩ := bcell hb2
    have hy := hb2.size
    simp at hy
    have hy0 : w.heap.size < w2.heap.size := by omega
    have hy1 : w'.heap.size < w2.heap.size := by omega
    obtain ⟨ha, hg⟩ := bcell ((Below.refl w'.heap.size w').alloc (Nat.le_refl _) (.cells #[.int .i64 k, .int .i64 n, .string t] 46))
    have k0 : w2.cell? ⟨w.heap.size, 0, none⟩ = some (.int .i64 0) := (hc2 w.heap.size 0 (by simp; omega)).trans ((ha _ _ hz0).trans ((hc _ _ (by simp)).trans (by simp)))
    have f0 : w2.frozen? ⟨w.heap.size, 0, none⟩ = false := (hf2 w.heap.size 0 (by simp; omega)).trans ((hg _ _ hz0).trans ((hf _ _ (by simp)).trans (by simp)))
    have k1 : w2.cell? ⟨w.heap.size, 1, none⟩ = some (.int .i64 0) := (hc2 w.heap.size 1 (by simp; omega)).trans ((ha _ _ hz0).trans ((hc _ _ (by simp)).trans (by simp)))
    have f1 : w2.frozen? ⟨w.heap.size, 1, none⟩ = false := (hf2 w.heap.size 1 (by simp; omega)).trans ((hg _ _ hz0).trans ((hf _ _ (by simp)).trans (by simp)))
    have k2 : w2.cell? ⟨w.heap.size, 2, none⟩ = some (.string ⟨#[]⟩) := (hc2 w.heap.size 2 (by simp; omega)).trans ((ha _ _ hz0).trans ((hc _ _ (by simp)).trans (by simp)))
    have f2 : w2.frozen? ⟨w.heap.size, 2, none⟩ = false := (hf2 w.heap.size 2 (by simp; omega)).trans ((hg _ _ hz0).trans ((hf _ _ (by simp)).trans (by simp)))
    have k3 : w2.cell? ⟨w.heap.size, 3, none⟩ = some (.int .i64 0) := (hc2 w.heap.size 3 (by simp; omega)).trans ((ha _ _ hz0).trans ((hc _ _ (by simp)).trans (by simp)))
    have f3 : w2.frozen? ⟨w.heap.size, 3, none⟩ = false := (hf2 w.heap.size 3 (by simp; omega)).trans ((hg _ _ hz0).trans ((hf _ _ (by simp)).trans (by simp)))
    go_wp2
    exact bodyPost_ret (v := tkE ((5, 0, t), 0)) (by simp [results, Tryz.results87, go_sem, tkE, tkA, *]) rfl ⟨rfl, by (repeat (first | exact Below.refl _ _ | assumption | refine Below.drew ?_ | refine below_drewN ?_ _ | refine Below.alloc ?_ (by first | omega | (simp; done) | (simp; omega)) _ | refine Below.setCell ?_ (by first | omega | (simp; done) | (simp; omega)) _ | refine Below.trans ?_ (Below.mono (by assumption) (by first | omega | (simp; done) | (simp; omega)))))⟩
  · rw [if_neg h0]
    clear h0
    have HP := Lib.hid hp
    clear hp
    go_enter Tryz.func87, Tryz.ntmps87
    go_wp2_with fail
    refine (parse_any s _ hs (HSV.out.alloc _)).mono ?_
    rintro e w' ⟨rfl, hb⟩
    rw [HP.out]
    (obtain ⟨hc, hf⟩ := bcell hb; have hz := hb.size; (try simp at hz); (try have hz0 : w.heap.size < w'.heap.size := by omega); (try have hz1 : w.heap.size + 1 < w'.heap.size := by omega); (try have hz2 : w.heap.size + 1 + 1 < w'.heap.size := by omega); (try have hz3 : w.heap.size + 1 + 1 + 1 < w'.heap.size := by omega))
    go_wp2
    exact bodyPost_ret (v := tkE (tk0, 103)) (by simp [results, Tryz.results87, go_sem, tkE, tkA, tk0, *]) rfl ⟨rfl, by (repeat (first | exact Below.refl _ _ | assumption | refine Below.drew ?_ | refine below_drewN ?_ _ | refine Below.alloc ?_ (by first | omega | (simp; done) | (simp; omega)) _ | refine Below.setCell ?_ (by first | omega | (simp; done) | (simp; omega)) _ | refine Below.trans ?_ (Below.mono (by assumption) (by first | omega | (simp; done) | (simp; omega)))))⟩
end Go.Proofs.YtlooelldkbdomaaGreatDoor
