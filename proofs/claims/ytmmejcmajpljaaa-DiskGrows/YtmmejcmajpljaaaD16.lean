/- Walks of layer 4, sixteenth part: DiskGrows. -/
import Derived.Test.YtmmejcmajpljaaaD14
import Derived.Test.YtmmejcmajpljaaaM46
import Derived.Test.YtmmejcmajpljaaaF10
namespace Go.Proofs.Ytmmejcmajpljaaa
open Go.RowKit

theorem strs_low {w w' : World} {p : Option Addr} {l : List ByteArray} (h : Strs w p l) (hb : Below w.heap.size w w') : Strs w' p l := fun i hi => by
  obtain ⟨b, off, e, hc⟩ := h i hi
  exact ⟨b, off, e, cell_later hb hc⟩
theorem str_back (s : ByteArray) : (⟨s.data.toList.toArray⟩ : ByteArray) = s := by simp

set_option maxHeartbeats 8000000 in
set_option maxRecDepth 100000 in
theorem grows_law (p : Option Addr) (cap : Nat) (ps : List ByteArray) (q : Option Addr) (cap' : Nat) (ys : List Bool) (W : World) (hp : Strs W p ps) (hpc : ps.length ≤ cap) (hpm : cap ≤ maxLen) (hq : Bools W q ys) (hqc : ys.length ≤ cap') (hqm : cap' ≤ maxLen) :
    Calls Try.prog 6 #[.slice p ps.length cap, .slice q ys.length cap'] W fun e w' => e = .returned (.bool true) ∧ Below W.heap.size W w' := by
  have HP : Hid (Strs W p ps) := hp
  have HQ : Hid (Bools W q ys) := hq
  have hpl : ps.length ≤ 9223372036854775807 := by unfold maxLen at hpm; omega
  have hql : ys.length ≤ 9223372036854775807 := by unfold maxLen at hqm; omega
  clear hp hq hpc hpm hqc hqm
  go_enter Try.func6, Try.ntmps6
  go_wp2
  go_loopw [5, 6] (fun z i wr => ∃ (k : Nat) (m : Nat), k ≤ ps.length ∧ i = .int .i64 k ∧ z = .int .i64 (m : Int) ∧ m ≤ 2097153 ∧ (m ≤ 1048576 → m = sumS (ps.take k)) ∧ W = wr) (fun _ i _ => ps.length - (intOf i).toNat)
  case atStart => exact ⟨0, 0, Nat.zero_le _, rfl, rfl, by omega, fun _ => rfl, rfl⟩
  case round =>
    obtain ⟨k, m, hk, rfl, rfl, hm, hms, rfl⟩ := hrel
    have HMS : Hid (m ≤ 1048576 → m = sumS (ps.take k)) := hms
    clear hms
    by_cases hlt : k < ps.length ∧ m ≤ 1048576
    · obtain ⟨hlt, hm1⟩ := hlt
      have hlti : (k : Int) < (ps.length : Int) := by omega
      have hm1i : (m : Int) ≤ 1048576 := by omega
      obtain ⟨b, off, rfl, hc⟩ := HP.out k hlt
      have hss := sumS_succ hlt
      obtain ⟨x, hx⟩ : ∃ x, ps[k] = x := ⟨_, rfl⟩
      rw [hx] at hc hss
      have HLT : Hid (k < ps.length) := hlt
      by_cases hbig : 1048576 < x.size
      · have hbi : (1048576 : Int) < (x.size : Int) := by omega
        clear hss hx
        go_wp2
        go_roundw
        case rel => exact ⟨k + 1, 1048577, HLT.out, by go_num, rfl, by omega, fun h => by omega, trivial⟩
        case measure => have := HLT.out; simp [intOf]; omega
      · have hbi : ¬ (1048576 : Int) < (x.size : Int) := by omega
        have HS : Hid (m + x.size = sumS (ps.take (k + 1))) := by rw [Hid, hss, HMS.out hm1]
        clear hss hx
        go_wp2
        go_roundw
        case rel => exact ⟨k + 1, m + x.size, HLT.out, by go_num, by congr 1, by omega, fun _ => HS.out, trivial⟩
        case measure => have := HLT.out; simp [intOf]; omega
    · have hex : (decide ((k : Int) < (ps.length : Int)) && decide ((m : Int) ≤ 1048576)) = false := by
        rw [Bool.and_eq_false_iff, decide_eq_false_iff_not, decide_eq_false_iff_not]
        omega
      by_cases hbig : 1048576 < m
      · have hbi : (1048576 : Int) < (m : Int) := by omega
        by_cases hl2 : k < ps.length
        · have hl2i : (k : Int) < (ps.length : Int) := by omega
          go_wp2_with (first | (go_at_call 9; refine (awake_any _).mono ?_; rintro e w1 ⟨rfl, hb1⟩))
          go_ret
          exact ⟨rfl, hb1⟩
        · have hl2i : ¬ (k : Int) < (ps.length : Int) := by omega
          go_wp2_with (first | (go_at_call 9; refine (awake_any _).mono ?_; rintro e w1 ⟨rfl, hb1⟩))
          go_ret
          exact ⟨rfl, hb1⟩
      · have hl2 : k = ps.length := by omega
        subst hl2
        have hbi : ¬ (1048576 : Int) < (m : Int) := by omega
        have hT := HMS.out (by omega)
        rw [List.take_length] at hT
        have HTT : Hid (m = sumS ps) := hT
        clear hT
        by_cases hlong : 2147483647 < ps.length
        · have hli : (2147483647 : Int) < (ps.length : Int) := by omega
          go_wp2_with (first | (go_at_call 9; refine (awake_any _).mono ?_; rintro e w1 ⟨rfl, hb1⟩))
          go_ret
          exact ⟨rfl, hb1⟩
        · have hli : ¬ (2147483647 : Int) < (ps.length : Int) := by omega
          go_wp2_with (first
            | (go_at_call 9; refine (awake_any _).mono ?_; rintro e w1 ⟨rfl, hb1⟩; (have HB1 : Hid (Below W.heap.size W w1) := hb1); clear hb1)
            | (go_at_call 10; refine (new_any 1048576 none 0 [] _ (by simp) (by simp) (FRow.nil _ _)).mono ?_; rintro e w2 ⟨hb2, hN⟩; rcases hN with ⟨hN, _⟩ | ⟨_, a, rfl, hi2⟩; exact absurd g_new.1 hN; rw [g_new.2] at hi2; (have HB2 : Hid (Below W.heap.size W w2) := HB1.out.trans (hb2.mono HB1.out.size)); (have HI2 : Hid (IsDisk w2 (fun k => W.heap.size ≤ k) a (gst 0 [] 0 0)) := hi2.mono fun k _ hk => Nat.le_trans HB1.out.size hk); clear hb2 hi2))
          go_loopw [10, 11, 12] (fun al sf i wx => ∃ (k : Nat) (S : ByteArray) (safe steps : Nat), k ≤ ps.length ∧ i = .int .i64 k ∧ al = .string S ∧ sf = .int .i64 (safe : Int) ∧ S.size = sumS (ps.take k) ∧ (k = 0 → S.data.toList = [] ∧ safe = 0) ∧ steps ≤ 2 * k ∧ IsDisk wx (fun k => W.heap.size ≤ k) a (gst k S.data.toList safe steps) ∧ Below W.heap.size W wx) (fun _ _ i _ => ps.length - (intOf i).toNat)
          case atStart => exact ⟨0, ⟨#[]⟩, 0, 0, Nat.zero_le _, rfl, rfl, rfl, rfl, fun _ => ⟨rfl, rfl⟩, Nat.le_refl _, HI2.out, HB2.out⟩
          case round =>
            clear HI2 HB2 HB1
            obtain ⟨k, S, safe, steps, hk, rfl, rfl, rfl, hS, h0, hst, hi, hb⟩ := hrel
            have HS : Hid (S.size = sumS (ps.take k)) := hS
            have H0 : Hid (k = 0 → S.data.toList = [] ∧ safe = 0) := h0
            have HI : Hid (IsDisk wr (fun k => W.heap.size ≤ k) a (gst k S.data.toList safe steps)) := hi
            have HB : Hid (Below W.heap.size W wr) := hb
            have hlen : S.data.toList.length = S.size := by simp
            have HLN : Hid (S.data.toList.length = S.size) := hlen
            clear hS h0 hi hb hlen
            by_cases hlt : k < ps.length
            · have hlti : (k : Int) < (ps.length : Int) := by omega
              obtain ⟨x, hx⟩ : ∃ x, ps[k] = x := ⟨_, rfl⟩
              have hss := sumS_succ hlt
              have hsl := sumS_le ps (k + 1)
              obtain ⟨b, off, rfl, hc⟩ : ∃ b off, p = some ⟨b, off, none⟩ ∧ wr.cell? ⟨b, off + k, none⟩ = some (.string x) := by
                rw [← hx]
                exact (strs_low HP.out HB.out) k hlt
              rw [hx] at hss
              have HX : Hid (ps[k] = x) := hx
              have HLT : Hid (k < ps.length) := hlt
              have hsz : S.size + x.size ≤ 1048576 := by
                have := HS.out
                have := HTT.out
                omega
              have HS2 : Hid ((S ++ x).size = sumS (ps.take (k + 1))) := by
                show (S ++ x).size = sumS (ps.take (k + 1))
                rw [hss, ← HS.out]
                simp [ByteArray.size_append]
              have HDA : Hid ((S ++ x).data.toList = S.data.toList ++ x.data.toList) := by
                show (S ++ x).data.toList = S.data.toList ++ x.data.toList
                simp [ByteArray.data_append]
              have hbd : ¬ (9223372036854775807 : Int) < (S.size : Int) + (x.size : Int) := by omega
              have hk2 : k ≤ 2147483647 := by omega
              clear hss hsl hx
              go_wp2_with fail
              have hs := append_any wr (fun k => W.heap.size ≤ k) a (gst k S.data.toList safe steps) ⟨#[108, 111, 103]⟩ x HI.out (zone_new HB.out.size) (by simp only [gst]; omega)
              rw [show appR (gst k S.data.toList safe steps) [108, 111, 103] x.data.toList = (0, gst (k + 1) (S ++ x).data.toList safe (steps + 1)) by rw [HDA.out]; exact g_app (by have := HLN.out; simp; omega) H0.out] at hs
              refine hs.mono ?_
              clear hs
              rintro e w3 ⟨rfl, hi3, ho3⟩
              have HB3 : Hid (Below W.heap.size W w3) := ho3.zone HB.out
              have HI3 : Hid (IsDisk w3 (fun k => W.heap.size ≤ k) a (gst (k + 1) (S ++ x).data.toList safe (steps + 1))) := hi3
              have hc3 : w3.cell? ⟨b, off + k, none⟩ = some (.string x) := by
                obtain ⟨b', off', e', hc'⟩ : ∃ b' off', some (⟨b, off, none⟩ : Addr) = some ⟨b', off', none⟩ ∧ w3.cell? ⟨b', off' + k, none⟩ = some (.string x) := by
                  rw [← HX.out]
                  exact (strs_low HP.out HB3.out) k HLT.out
                simp only [Option.some.injEq, Addr.mk.injEq] at e'
                rw [e'.1, e'.2.1]
                exact hc'
              clear hi3 ho3 hc
              by_cases hyl : k < ys.length
              · have hyli : (k : Int) < (ys.length : Int) := by omega
                obtain ⟨yv, hyv⟩ : ∃ yv, ys[k] = yv := ⟨_, rfl⟩
                obtain ⟨b2, off2, rfl, hy3⟩ : ∃ b2 off2, q = some ⟨b2, off2, none⟩ ∧ w3.cell? ⟨b2, off2 + k, none⟩ = some (.bool yv) := by
                  rw [← hyv]
                  obtain ⟨b2, off2, e, hc⟩ := HQ.out k hyl
                  exact ⟨b2, off2, e, cell_later HB3.out hc⟩
                clear hyv
                cases yv with
                | true =>
                  go_wp2_with fail
                  have hs := sync_any w3 (fun k => W.heap.size ≤ k) a (gst (k + 1) (S ++ x).data.toList safe (steps + 1)) ⟨#[108, 111, 103]⟩ HI3.out (zone_new HB3.out.size) (by simp only [gst]; omega)
                  rw [show synR (gst (k + 1) (S ++ x).data.toList safe (steps + 1)) [108, 111, 103] = (0, gst (k + 1) (S ++ x).data.toList (S ++ x).size (steps + 2)) by rw [g_syn]; simp] at hs
                  refine hs.mono ?_
                  clear hs
                  rintro e w4 ⟨rfl, hi4, ho4⟩
                  have HB4 : Hid (Below W.heap.size W w4) := ho4.zone HB3.out
                  have HI4 : Hid (IsDisk w4 (fun k => W.heap.size ≤ k) a (gst (k + 1) (S ++ x).data.toList (S ++ x).size (steps + 2))) := hi4
                  clear hi4 ho4
                  go_wp2
                  go_roundw
                  case rel => exact ⟨k + 1, S ++ x, (S ++ x).size, steps + 2, HLT.out, by go_num, by first | rfl | simp, by first | rfl | simp, HS2.out, fun h => by omega, by omega, HI4.out, HB4.out⟩
                  case measure => have := HLT.out; simp [intOf]; omega
                | false =>
                  go_wp2
                  go_roundw
                  case rel => exact ⟨k + 1, S ++ x, safe, steps + 1, HLT.out, by go_num, by first | rfl | simp, rfl, HS2.out, fun h => by omega, by omega, HI3.out, HB3.out⟩
                  case measure => have := HLT.out; simp [intOf]; omega
              · have hyli : ¬ (k : Int) < (ys.length : Int) := by omega
                go_wp2
                go_roundw
                case rel => exact ⟨k + 1, S ++ x, safe, steps + 1, HLT.out, by go_num, by first | rfl | simp, rfl, HS2.out, fun h => by omega, by omega, HI3.out, HB3.out⟩
                case measure => have := HLT.out; simp [intOf]; omega
            · have hk' : k = ps.length := by omega
              subst hk'
              have hSm : S.size = m := by
                have h1 := HS.out
                rw [List.take_length] at h1
                rw [h1, ← HTT.out]
              go_wp2_with fail
              refine (free_any wr (fun k => W.heap.size ≤ k) a _ HI.out).mono ?_
              rintro e w3 ⟨rfl, hb3⟩
              rw [g_free _ _ _ _ (fun h => (H0.out h).1), HLN.out, hSm]
              go_wp2_with fail
              refine (files_any w3 (fun k => W.heap.size ≤ k) a _ (HI.out.later hb3)).mono ?_
              rintro e w4 ⟨v, rfl, hf4, hb4⟩
              have HB4 : Hid (Below W.heap.size W w4) := (HB.out.trans (hb3.mono HB.out.size)).trans (hb4.mono (Nat.le_trans HB.out.size hb3.size))
              have HI4 : Hid (IsDisk w4 (fun k => W.heap.size ≤ k) a (gst ps.length S.data.toList safe steps)) := (HI.out.later hb3).later hb4
              clear hb3 hb4
              by_cases hn0 : ps.length = 0
              · have hm0 : m = 0 := by
                  have := (H0.out hn0).1
                  have := HLN.out
                  rw [(H0.out hn0).1] at this
                  simp at this
                  omega
                have hfl : (gst ps.length S.data.toList safe steps).fs.length = 0 := by rw [hn0, gst_zero]; rfl
                obtain ⟨pv, cv, rfl⟩ := own_form hf4
                rw [hfl]
                have hn0b : ((ps.length : Int) == 0) = true := by simp [hn0]
                clear hf4 hSm
                subst hm0
                go_wp2
                go_ret
                exact ⟨rfl, HB4.out⟩
              · obtain ⟨n', hn'⟩ : ∃ n', ps.length = n' + 1 := ⟨ps.length - 1, by omega⟩
                have HN' : Hid (ps.length = n' + 1) := hn'
                rw [hn', gst_succ] at hf4
                obtain ⟨g, capg, rfl, _, _⟩ := hf4.form (by simp)
                have hc := hf4.cells (g := g) rfl
                have f0 := hc 0 (.string ⟨#[108, 111, 103]⟩) rfl
                have f1 := hc 1 (.string S) (by simp [fc])
                have f2 := hc 2 (.int .i64 (safe : Int)) rfl
                simp only [Addr.add_lit, Nat.zero_add] at f0 f1 f2
                have hn0b : ((ps.length : Int) == 0) = false := by simp [hn0]
                have hfl : (gst ps.length S.data.toList safe steps).fs.length = 1 := by rw [hn', gst_succ]; rfl
                have e1 : (⟨1048576, [([108, 111, 103], (S.data.toList, safe))], steps, -1, false⟩ : St).fs.length = 1 := rfl
                rw [e1]
                clear hc hf4 hn' hn0 e1 hfl hSm
                go_wp2_with fail
                have hs := read_any w4 (fun k => W.heap.size ≤ k) a _ ⟨#[108, 111, 103]⟩ HI4.out
                rw [show readR (gst ps.length S.data.toList safe steps) [108, 111, 103] = (S.data.toList, 0) by rw [HN'.out]; exact g_read _ _ _ _, str_back] at hs
                refine hs.mono ?_
                clear hs
                rintro e w5 ⟨rfl, hb5⟩
                have g0 := cell_later hb5 f0
                have g1 := cell_later hb5 f1
                have g2 := cell_later hb5 f2
                have HB5 : Hid (Below W.heap.size W w5) := HB4.out.trans (hb5.mono HB4.out.size)
                clear f0 f1 f2 hb5
                go_wp2
                go_ret
                exact ⟨rfl, HB5.out⟩
end Go.Proofs.Ytmmejcmajpljaaa
