/- Walks of layer 7: the document's Shaped. -/
import Derived.Test.YtlpannicklkghaaB44
namespace Go.Proofs.Ytlpannicklkghaa
open Go.RowKit

/-- Levels that are as they may be. -/
structure ShapeOk (ws : List (List Nat)) (m keys : Nat) : Prop where
  ne : 0 < ws.length
  top : ∀ h : 0 < ws.length, (ws[0]).length = 1
  most : ∀ i (h : i < ws.length) j (hj : j < (ws[i]).length), (ws[i])[j] ≤ m ∧ (ws[i])[j] ≤ keys
  least : ∀ i (h : i < ws.length) j (hj : j < (ws[i]).length), 0 < i → m / 2 ≤ (ws[i])[j]
  root : ∀ (h : 0 < ws.length) j (hj : j < (ws[0]).length), 1 < ws.length → 2 ≤ (ws[0])[j]
  sums : ∀ i (h : i < ws.length) (h' : i + 1 < ws.length), (ws[i]).sum = (ws[i + 1]).length
  last : ∀ i (h : i < ws.length), i + 1 = ws.length → (ws[i]).sum = keys
/-- Levels in memory, to be read. -/
def LR (w : World) (v : Value) (ws : List (List Nat)) : Prop := ∃ g cap, v = .slice (some ⟨g, 0, none⟩) ws.length cap ∧ ∀ i (h : i < ws.length), ∃ p c, w.cell? ⟨g, i, none⟩ = some (.slice p (ws[i]).length c) ∧ ∀ j (hj : j < (ws[i]).length), ∃ b, p = some ⟨b, 0, none⟩ ∧ w.cell? ⟨b, j, none⟩ = some (.int .i64 ((ws[i])[j] : Int))
theorem LV.read {w wr : World} {v : Value} {vs : List Value} {ws : List (List Nat)} (h : LV w wr v vs ws) (hne : 0 < ws.length) : LR wr v ws := by
  have hr := h.outer
  obtain ⟨h1, ⟨_, h2⟩ | ⟨g, cap, cur, e, _⟩⟩ := h.outer
  · have := h.len; omega
  · rw [e] at hr
    refine ⟨g, cap, by rw [e, h.len], fun i hi => ?_⟩
    have hi' : i < vs.length := by rw [h.len]; exact hi
    have hin := h.inner i hi' hi
    obtain ⟨p, c, ep, _⟩ := srow_form hin
    refine ⟨p, c, ?_, fun j hj => ?_⟩
    · rw [hr.cellAt i (by omega), List.getElem?_eq_getElem hi', ep]
    · have hin2 := hin
      obtain ⟨_, ⟨q1, q2⟩ | ⟨b, cap2, cur2, e2, _⟩⟩ := hin
      · rw [q2] at hj; exact absurd hj (Nat.not_lt_zero _)
      · rw [ep] at e2
        simp only [Value.slice.injEq] at e2
        obtain ⟨rfl, _, rfl⟩ := e2
        rw [ep] at hin2
        refine ⟨b, rfl, ?_⟩
        rw [hin2.cellAt j (by omega), List.getElem?_eq_getElem (by rw [iv_length]; exact hj)]
        simp [iv]
theorem LR.later {w w' : World} {v : Value} {ws : List (List Nat)} (h : LR w v ws) (hb : Below w.heap.size w w') : LR w' v ws := by
  obtain ⟨g, cap, e, hc⟩ := h
  refine ⟨g, cap, e, fun i hi => ?_⟩
  obtain ⟨p, c, h1, h2⟩ := hc i hi
  refine ⟨p, c, cell_later hb h1, fun j hj => ?_⟩
  obtain ⟨b, e1, h3⟩ := h2 j hj
  exact ⟨b, e1, cell_later hb h3⟩
theorem sum_take (l : List Nat) (j : Nat) (h : j < l.length) : (l.take (j + 1)).sum = (l.take j).sum + l[j] := by
  rw [List.take_add_one, List.getElem?_eq_getElem h, List.sum_append]
  simp
theorem sum_take_le : ∀ (l : List Nat) (j : Nat), (l.take j).sum ≤ l.sum
  | [], j => by simp
  | a :: l, 0 => by simp
  | a :: l, j + 1 => by
    have := sum_take_le l j
    rw [List.take_succ_cons, List.sum_cons, List.sum_cons]
    omega

set_option maxHeartbeats 16000000 in
set_option maxRecDepth 100000 in
theorem shaped_true (w : World) (v : Value) (ws : List (List Nat)) (m keys : Nat) (hr : LR w v ws) (hs : ShapeOk ws m keys) (hm : m ≤ 64) (hk : keys ≤ 4000000000) (hl : ws.length ≤ 64) (hll : ∀ i (h : i < ws.length), (ws[i]).length ≤ 4000000001) :
    Calls Try.prog 21 #[v, .int .i64 (m : Int), .int .i64 (keys : Int)] w fun e w' => e = .returned (.bool true) ∧ w' = w := by
  obtain ⟨g, cap, rfl, hc⟩ := hr
  have HS : Hid (ShapeOk ws m keys) := hs
  have HC : Hid (∀ i (h : i < ws.length), ∃ p c, w.cell? ⟨g, i, none⟩ = some (.slice p (ws[i]).length c) ∧ ∀ j (hj : j < (ws[i]).length), ∃ b, p = some ⟨b, 0, none⟩ ∧ w.cell? ⟨b, j, none⟩ = some (.int .i64 ((ws[i])[j] : Int))) := hc
  have HLL : Hid (∀ i (h : i < ws.length), (ws[i]).length ≤ 4000000001) := hll
  have hne := hs.ne
  obtain ⟨p0, c0, hc0, _⟩ := hc 0 hne
  rw [hs.top hne] at hc0
  obtain ⟨wl, hwl⟩ : ∃ wl, ws.length = wl := ⟨_, rfl⟩
  have HWL : Hid (ws.length = wl) := hwl
  rw [hwl] at hne hl ⊢
  have h0 : ((wl : Int) == 0) = false := by simp; omega
  have h00 : (0 : Int) < (wl : Int) := by omega
  clear hs hc hll hwl
  go_enter Try.func21, Try.ntmps21
  go_wp2
  go_loopw [6, 7] (fun _ i wr => ∃ k : Nat, k ≤ wl ∧ i = .int .i64 (k : Int) ∧ wr = w) (fun _ i _ => wl - (intOf i).toNat)
  case atStart => exact ⟨0, Nat.zero_le _, rfl, rfl⟩
  case round =>
    obtain ⟨k, hkl, rfl, hwr⟩ := hrel
    clear hc0
    subst hwr
    by_cases hlt : k < wl
    · have hlti : (k : Int) < (wl : Int) := by omega
      have hltw : k < ws.length := by rw [HWL.out]; exact hlt
      obtain ⟨p, c, hck, hcj⟩ := HC.out k hltw
      obtain ⟨L, hL⟩ : ∃ L, ws[k] = L := ⟨_, rfl⟩
      have HL : Hid (∀ h : k < ws.length, ws[k]'h = L) := fun _ => hL
      have HCJ : Hid (∀ j (hj : j < L.length), ∃ b, p = some ⟨b, 0, none⟩ ∧ wr.cell? ⟨b, j, none⟩ = some (.int .i64 (L[j] : Int))) := by subst hL; exact hcj
      rw [hL] at hck
      have hLl : L.length ≤ 4000000001 := by rw [← hL]; exact HLL.out k hltw
      have hsum : L.sum ≤ 4000000001 := by
        by_cases h2 : k + 1 < ws.length
        · have := HS.out.sums k hltw h2
          rw [hL] at this
          have := HLL.out (k + 1) h2
          omega
        · have := HS.out.last k hltw (by omega)
          rw [hL] at this
          omega
      clear hcj
      go_wp2
      go_loopw [6, 8, 9] (fun _ z j w2 => ∃ q : Nat, q ≤ L.length ∧ j = .int .i64 (q : Int) ∧ z = .int .i64 ((L.take q).sum : Int) ∧ w2 = wr) (fun _ _ j _ => L.length - (intOf j).toNat)
      case atStart => exact ⟨0, Nat.zero_le _, rfl, rfl, rfl⟩
      case round =>
        obtain ⟨q, hql, rfl, rfl, hw2⟩ := hrel
        subst hw2
        by_cases hqt : q < L.length
        · have hqti : (q : Int) < (L.length : Int) := by omega
          obtain ⟨b, rfl, hcq⟩ := HCJ.out q hqt
          obtain ⟨x, hx⟩ : ∃ x, L[q] = x := ⟨_, rfl⟩
          have hmost := HS.out.most k hltw
          have hleast := HS.out.least k hltw
          rw [hL] at hmost hleast
          have h1 := hmost q hqt
          have h2 := hleast q hqt
          have h3 : k = 0 → 1 < wl → 2 ≤ x := fun e h4 => by
            subst e
            have := HS.out.root hltw
            rw [hL] at this
            rw [← hx]
            exact this q hqt (by rw [HWL.out]; exact h4)
          have h4 := sum_take L q hqt
          have h5 := sum_take_le L (q + 1)
          rw [hx] at h1 h2 h4 hcq
          obtain ⟨T, hT⟩ : ∃ T, (L.take q).sum = T := ⟨_, rfl⟩
          rw [hT] at h4 ⊢
          have hT2 : T + x ≤ 4000000001 := by omega
          have H4 : Hid ((L.take (q + 1)).sum = T + x) := h4
          have f1 : ¬ (m : Int) < (x : Int) := by omega
          have f2 : ¬ (x : Int) < 0 := by omega
          have f3 : ¬ (keys : Int) < (x : Int) := by omega
          clear hmost hleast h4 h5 hT hx
          by_cases hk0 : k = 0
          · subst hk0
            by_cases hone : 1 < wl
            · have f4 : (1 : Int) < (wl : Int) := by omega
              have f5 : ¬ (x : Int) < 2 := by have := h3 rfl hone; omega
              go_wp2
              first | exact ⟨⟨q + 1, hqt, by go_num, by rw [H4.out]; go_num, trivial⟩, by simp only [intOf]; omega⟩ | exact ⟨⟨q + 1, hqt, by go_num, by rw [H4.out]; go_num, rfl⟩, by simp only [intOf]; omega⟩ | (go_roundw; all_goals first | exact ⟨q + 1, hqt, by go_num, by rw [H4.out]; go_num, rfl⟩ | (simp only [intOf]; omega))
            · have f4 : ¬ (1 : Int) < (wl : Int) := by omega
              go_wp2
              first | exact ⟨⟨q + 1, hqt, by go_num, by rw [H4.out]; go_num, trivial⟩, by simp only [intOf]; omega⟩ | exact ⟨⟨q + 1, hqt, by go_num, by rw [H4.out]; go_num, rfl⟩, by simp only [intOf]; omega⟩ | (go_roundw; all_goals first | exact ⟨q + 1, hqt, by go_num, by rw [H4.out]; go_num, rfl⟩ | (simp only [intOf]; omega))
          · have f4 : (0 : Int) < (k : Int) := by omega
            have f5 : ¬ (x : Int) < (m : Int) / 2 := by have := h2 (by omega); omega
            have f6 : ¬ (k : Int) = 0 := by omega
            go_wp2
            first | exact ⟨⟨q + 1, hqt, by go_num, by rw [H4.out]; go_num, trivial⟩, by simp [intOf]; omega⟩ | (refine ⟨⟨_, _, _, ⟨q + 1, hqt, ?_, ?_⟩, rfl, rfl, rfl⟩, ?_⟩ <;> first | go_num | (rw [H4.out]; go_num) | (simp [intOf]; omega)) | (refine ⟨⟨_, _, ⟨q + 1, hqt, ?_, ?_⟩, rfl, rfl⟩, ?_⟩ <;> first | go_num | (rw [H4.out]; go_num) | (simp [intOf]; omega)) | (go_roundw; all_goals first | exact ⟨q + 1, hqt, by go_num, by rw [H4.out]; go_num, rfl⟩ | exact ⟨q + 1, hqt, by go_num, by rw [H4.out]; go_num⟩ | (simp [intOf]; omega))
        · have hqti : ¬ (q : Int) < (L.length : Int) := by omega
          obtain rfl : q = L.length := by omega
          rw [List.take_length]
          by_cases hk1 : k + 1 < wl
          · have hk1i : (k : Int) + 1 < (wl : Int) := by omega
            have hk1j : ¬ (k : Int) + 1 = (wl : Int) := by omega
            have hk1w : k + 1 < ws.length := by rw [HWL.out]; exact hk1
            obtain ⟨p1, c1, hck1, _⟩ := HC.out (k + 1) hk1w
            have hsu := HS.out.sums k hltw hk1w
            rw [hL] at hsu
            rw [← hsu] at hck1
            clear hsu
            go_wp2
            first | exact ⟨⟨k + 1, by omega, by go_num, trivial⟩, by simp [intOf]; omega⟩ | (refine ⟨?_, by simp [intOf]; omega⟩; (repeat apply Exists.intro); refine ⟨?_, rfl⟩; exact ⟨k + 1, by omega, by go_num, rfl⟩)
          · have hk1i : ¬ (k : Int) + 1 < (wl : Int) := by omega
            have hk1j : (k : Int) + 1 = (wl : Int) := by omega
            have hla := HS.out.last k hltw (by rw [HWL.out]; omega)
            rw [hL] at hla
            rw [hla]
            clear hla
            go_wp2
            first | exact ⟨⟨k + 1, by omega, by go_num, trivial⟩, by simp only [intOf]; omega⟩ | exact ⟨⟨k + 1, by omega, by go_num, rfl⟩, by simp only [intOf]; omega⟩ | (go_roundw; all_goals first | exact ⟨k + 1, by omega, by go_num, rfl⟩ | (simp only [intOf]; omega))
    · have hlti : ¬ (k : Int) < (wl : Int) := by omega
      go_wp2
      go_ret
      exact ⟨rfl, rfl⟩
end Go.Proofs.Ytlpannicklkghaa
