/- Walks of layer 7: the small functions of a node. -/
import Derived.Test.YtlpannicklkghaaB1
namespace Go.Proofs.Ytlpannicklkghaa
open Go.RowKit

theorem clone_any (s : ByteArray) (w : World) (hs : s.size ≤ 281474976710656) : Calls Try.prog 36 #[.string s] w fun e w' => e = .returned (.string s) ∧ Below w.heap.size w w' := by
  go_enter Try.func36, Try.ntmps36
  go_wp2_with fail
  refine (Try.stringslite_Clone s _ (by omega)).mono ?_
  rintro e w1 ⟨rfl, hb1⟩
  go_wp2
  go_ret
  exact ⟨rfl, hb1⟩

def pOf (k : Option Nat) : Option Addr := k.map fun b => ⟨b, 0, none⟩
/-- The first kid of a node. -/
def kid0 (l : List It) : Option Nat := l.head?.bind (·.kid)
set_option maxHeartbeats 2000000 in
set_option maxRecDepth 100000 in
theorem firstKid_any (w : World) (n : Nd) (nx : Option Nat) (h : NdAt w n nx) (hl : n.its.length ≤ 1000000) :
    Calls Try.prog 39 #[.pointer (some ⟨n.b, 0, none⟩)] w fun e w' => e = .returned (.pointer (pOf (kid0 n.its))) ∧ w' = w := by
  have c0 := h.nc.c0
  have hr := h.row
  obtain ⟨b, hb⟩ : ∃ b, n.b = b := ⟨_, rfl⟩
  rw [hb] at c0 ⊢
  match hi : n.its with
  | [] =>
    rw [hi] at hr
    obtain ⟨p, cap, e, _⟩ := irow_form hr
    rw [e] at c0
    simp only [List.length_nil] at c0
    clear h hr hb hi hl e
    go_enter Try.func39, Try.ntmps39
    go_wp2
    go_ret
    exact ⟨rfl, rfl⟩
  | x :: r =>
    rw [hi] at hr hl
    obtain ⟨g, cap, e, _, _, _, hc, _⟩ := irow_at hr (by simp)
    rw [e] at c0
    obtain ⟨_, _, c2⟩ := hc 0 (by simp)
    simp only [Nat.zero_mul, Nat.zero_add, List.getElem_cons_zero] at c2
    simp only [List.length_cons] at c0 hl
    obtain ⟨q, hq⟩ : ∃ q : Option Addr, (x.kid.map fun b => (⟨b, 0, none⟩ : Addr)) = q := ⟨_, rfl⟩
    have HQ : Hid (pOf (kid0 (x :: r)) = q) := hq
    rw [hq] at c2
    have h1 : ¬ ((r.length : Int) + 1 = 0) := by omega
    have h2 : (0 : Int) < (r.length : Int) + 1 := by omega
    clear h hr hb hi hl e hc hq
    go_enter Try.func39, Try.ntmps39
    go_wp2
    go_ret
    exact ⟨by rw [HQ.out]; rfl, rfl⟩
theorem pOf_none (k : Option Nat) : (pOf k = none) ↔ k = none := by cases k <;> simp [pOf]
set_option maxHeartbeats 2000000 in
set_option maxRecDepth 100000 in
theorem leaf_any (w : World) (n : Nd) (nx : Option Nat) (h : NdAt w n nx) (hl : n.its.length ≤ 1000000) :
    Calls Try.prog 44 #[.pointer (some ⟨n.b, 0, none⟩)] w fun e w' => e = .returned (.bool (kid0 n.its).isNone) ∧ w' = w := by
  have HC := firstKid_any w n nx h hl
  obtain ⟨k, hk⟩ : ∃ k, kid0 n.its = k := ⟨_, rfl⟩
  obtain ⟨b, hb⟩ : ∃ b, n.b = b := ⟨_, rfl⟩
  rw [hk, hb] at HC ⊢
  cases k with
  | none =>
    have HC2 : Hid (Calls Try.prog 39 #[.pointer (some ⟨b, 0, none⟩)] w fun e w' => e = .returned (.pointer none) ∧ w' = w) := HC
    clear HC h hl hk hb
    go_enter Try.func44, Try.ntmps44
    go_wp2_with (go_at_call 39; refine (HC2.out).mono ?_; rintro e w' ⟨rfl, rfl⟩)
    go_ret
    exact ⟨rfl, rfl⟩
  | some k =>
    have HC2 : Hid (Calls Try.prog 39 #[.pointer (some ⟨b, 0, none⟩)] w fun e w' => e = .returned (.pointer (some ⟨k, 0, none⟩)) ∧ w' = w) := HC
    clear HC h hl hk hb
    go_enter Try.func44, Try.ntmps44
    go_wp2_with (go_at_call 39; refine (HC2.out).mono ?_; rintro e w' ⟨rfl, rfl⟩)
    go_ret
    exact ⟨rfl, rfl⟩
set_option maxHeartbeats 2000000 in
set_option maxRecDepth 100000 in
theorem spot_any (w : World) (n : Nd) (nx : Option Nat) (i : Nat) (h : NdAt w n nx) (_hl : n.its.length ≤ 1000000) (_hi : i ≤ 1000000) :
    Calls Try.prog 42 #[.pointer (some ⟨n.b, 0, none⟩), .int .i64 (i : Int)] w fun e w' => e = .returned (.tuple #[.pointer (if i < n.its.length then some ⟨n.b, 0, none⟩ else pOf nx), .int .i64 (if i < n.its.length then (i : Int) else 0)]) ∧ w' = w := by
  have c0 := h.nc.c0
  have c1 := h.nc.c1
  obtain ⟨p, cap, e, _⟩ := irow_form h.row
  rw [e] at c0
  obtain ⟨b, hb⟩ : ∃ b, n.b = b := ⟨_, rfl⟩
  obtain ⟨m, hm⟩ : ∃ m, n.its.length = m := ⟨_, rfl⟩
  obtain ⟨q, hq⟩ : ∃ q : Option Addr, (nx.map fun b => (⟨b, 0, none⟩ : Addr)) = q := ⟨_, rfl⟩
  have hq2 : pOf nx = q := hq
  rw [hb, hm] at c0
  rw [hb, hq] at c1
  rw [hb, hm, hq2]
  clear h _hl e hb hm hq hq2
  by_cases hlt : i < m
  · have hlti : (i : Int) < (m : Int) := by omega
    simp only [if_pos hlt]
    go_enter Try.func42, Try.ntmps42
    go_wp2
    refine bodyPost_ret (v := .tuple #[.pointer (some ⟨b, 0, none⟩), .int .i64 (i : Int)]) (by simp [results, Try.results42, go_sem]) rfl ?_
    exact ⟨rfl, rfl⟩
  · have hlti : ¬ (i : Int) < (m : Int) := by omega
    simp only [if_neg hlt]
    go_enter Try.func42, Try.ntmps42
    go_wp2
    refine bodyPost_ret (v := .tuple #[.pointer q, .int .i64 0]) (by simp [results, Try.results42, go_sem]) rfl ?_
    exact ⟨rfl, rfl⟩
set_option maxHeartbeats 2000000 in
set_option maxRecDepth 100000 in
theorem asKid_any (w : World) (n : Nd) (nx : Option Nat) (x : It) (r : List It) (h : NdAt w n nx) (hi : n.its = x :: r) (hl : n.its.length ≤ 1000000) :
    Calls Try.prog 55 #[.pointer (some ⟨n.b, 0, none⟩)] w fun e w' => e = .returned (.agg #[.string x.key, .string ⟨#[]⟩, .pointer (some ⟨n.b, 0, none⟩)]) ∧ Below w.heap.size w w' := by
  have c0 := h.nc.c0
  have hr := h.row
  rw [hi] at hr hl
  obtain ⟨g, cap, e, _, _, hg, hc, _⟩ := irow_at hr (by simp)
  rw [e] at c0
  obtain ⟨k0, _, _⟩ := hc 0 (by simp)
  simp only [Nat.zero_mul, List.getElem_cons_zero] at k0
  simp only [List.length_cons] at c0 hl
  have hn := h.lt
  obtain ⟨b, hb⟩ : ∃ b, n.b = b := ⟨_, rfl⟩
  rw [hb] at c0 hn ⊢
  have h2 : (0 : Int) < (r.length : Int) + 1 := by omega
  clear h hr hb hi hl e hc
  go_enter Try.func55, Try.ntmps55
  go_wp2
  refine bodyPost_ret (v := .agg #[.string x.key, .string ⟨#[]⟩, .pointer (some ⟨b, 0, none⟩)]) (by simp [results, Try.results55, go_sem]) rfl ?_
  exact ⟨rfl, by
    refine ⟨rfl, rfl, rfl, by simp, fun k hk => ?_⟩
    repeat rw [Below.heap_setCell _ _ _ _ (by simp only; omega)]
    exact Below.heap_alloc _ _ _ hk⟩
set_option maxHeartbeats 4000000 in
set_option maxRecDepth 100000 in
theorem pair_any (k v : ByteArray) (q : Option Addr) (w : World) (hk : k.size ≤ 281474976710656) (hv : v.size ≤ 281474976710656) :
    Calls Try.prog 41 #[.agg #[.string k, .string v, .pointer q]] w fun e w' => e = .returned (.agg #[.string k, .string v]) ∧ Below w.heap.size w w' := by
  obtain ⟨w0, hw0⟩ : ∃ w0, (w.alloc (.cells #[.string k, .string v, .pointer q] 86)).alloc (.cells #[.string ⟨#[]⟩, .string ⟨#[]⟩] 27) = w0 := ⟨_, rfl⟩
  have d0 : w0.cell? ⟨w.heap.size, 0, none⟩ = some (.string k) := by rw [← hw0]; simp
  have d1 : w0.cell? ⟨w.heap.size, 1, none⟩ = some (.string v) := by rw [← hw0]; simp
  have r0 : w0.cell? ⟨w.heap.size + 1, 0, none⟩ = some (.string ⟨#[]⟩) := by rw [← hw0]; simp
  have r1 : w0.cell? ⟨w.heap.size + 1, 1, none⟩ = some (.string ⟨#[]⟩) := by rw [← hw0]; simp
  have hz0 : w0.heap.size = w.heap.size + 2 := by rw [← hw0]; simp
  have HB0 : Hid (Below w.heap.size w w0) := by rw [← hw0]; exact ((Below.refl _ _).alloc (Nat.le_refl _) _).alloc (by simp) _
  have f0 : w0.frozen? ⟨w.heap.size + 1, 0, none⟩ = false := by rw [← hw0]; simp
  have f1 : w0.frozen? ⟨w.heap.size + 1, 1, none⟩ = false := by rw [← hw0]; simp
  have z0 : w.heap.size + 1 < w0.heap.size := by omega
  go_enter Try.func41, Try.ntmps41
  go_wp2_with fail
  clear hw0 hz0
  go_region_law (first
    | (go_simp; go_at_call 36; refine (clone_any _ _ (by first | exact hk | exact hv)).mono ?_; rintro e wN ⟨rfl, hbN⟩; (have z1 : w.heap.size + 1 < wN.heap.size := Nat.lt_of_lt_of_le (by first | exact z0 | assumption) hbN.size); (have a0 : wN.cell? ⟨w.heap.size, 0, none⟩ = some (.string k) := cell_later hbN (by first | exact d0 | assumption)); (have a1 : wN.cell? ⟨w.heap.size, 1, none⟩ = some (.string v) := cell_later hbN (by first | exact d1 | assumption)); (have b0 : wN.cell? ⟨w.heap.size + 1, 0, none⟩ = some (.string ⟨#[]⟩) := cell_later hbN (by first | exact r0 | assumption)); (have b1 : wN.cell? ⟨w.heap.size + 1, 1, none⟩ = some (.string ⟨#[]⟩) := cell_later hbN (by first | exact r1 | assumption)); (have g0 : wN.frozen? ⟨w.heap.size + 1, 0, none⟩ = false := (hbN.frozen (p := ⟨w.heap.size + 1, 0, none⟩) (by first | exact z0 | assumption)).trans (by first | exact f0 | assumption)); (have g1 : wN.frozen? ⟨w.heap.size + 1, 1, none⟩ = false := (hbN.frozen (p := ⟨w.heap.size + 1, 1, none⟩) (by first | exact z0 | assumption)).trans (by first | exact f1 | assumption)); (have hB : Below w.heap.size w wN := by first | exact HB0.out.drew.trans (hbN.mono (Nat.le_of_lt (Nat.lt_of_succ_lt z0))) | exact HBx.out.trans (hbN.mono HBx.out.size)); (have HBx : Hid (Below w.heap.size w wN) := hB); clear hbN hB))
  all_goals
    go_wp2
    refine bodyPost_ret (v := .agg #[.string k, .string v]) (by simp [results, Try.results41, go_sem, *]) rfl ?_
    exact ⟨rfl, (HBx.out.setCell (p := ⟨w.heap.size + 1, 0, none⟩) (Nat.le_succ _) _).setCell (p := ⟨w.heap.size + 1, 1, none⟩) (Nat.le_succ _) _⟩
end Go.Proofs.Ytlpannicklkghaa
