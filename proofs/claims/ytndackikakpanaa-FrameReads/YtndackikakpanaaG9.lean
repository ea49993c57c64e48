/- Walks of layer 5, ninth part: FrameReads. -/
import Derived.Test.YtndackikakpanaaG8
namespace Go.Proofs.Ytndackikakpanaa
open Go.RowKit

theorem sv_set (ds : List (List UInt8)) (j : Nat) (d : List UInt8) : (sv ds).set j (.string (ba d)) = sv (ds.set j d) := by simp [sv]
theorem own_form {w : World} {B : Nat} {v : Value} {n : Nat} {ds : List (List UInt8)} (h : w.ownsRow B 9 1 v n (sv ds)) : ∃ p cap, v = .slice p n cap ∧ n = ds.length ∧ (0 < n → ∃ g, p = some ⟨g, 0, none⟩ ∧ B ≤ g) := by
  obtain ⟨h1, ⟨rfl, h0⟩ | ⟨g, cap, cur, rfl, hB, _⟩⟩ := h
  · rw [sv_length] at h1
    exact ⟨none, 0, by rw [h0], by omega, fun h => by omega⟩
  · rw [sv_length] at h1
    exact ⟨_, cap, rfl, by omega, fun _ => ⟨g, rfl, hB⟩⟩
theorem own_mark {w : World} {B n cap g : Nat} {ds : List (List UInt8)} (hown : w.ownsRow B 9 1 (.slice (some ⟨g, 0, none⟩) n cap) n (sv ds)) (q : Nat) (d : List UInt8) (s : ByteArray) (hs : s = ba d) : (w.setCell ⟨g, q, none⟩ (.string s)).ownsRow B 9 1 (.slice (some ⟨g, 0, none⟩) n cap) n (sv (ds.set q d)) := by
  subst hs
  rw [← sv_set]
  exact (hown.stored q _).1
theorem map_ba_inj {ds es : List (List UInt8)} (h : ds = es) : ds.map ba = es.map ba := by rw [h]

set_option maxHeartbeats 8000000 in
set_option maxRecDepth 100000 in
theorem reads_law (s : ByteArray) (x : Int) (w : World) : Calls Try.prog 4 #[.string s, .int .i64 x] w fun e w' => e = .returned (.bool true) ∧ Below w.heap.size w w' := by
  by_cases hd : 2147483647 < s.size
  · have hdi : (2147483647 : Int) < (s.size : Int) := by omega
    go_enter Try.func4, Try.ntmps4
    go_wp2
    go_ret
    exact ⟨rfl, Below.refl _ _⟩
  · have hdi : ¬ (2147483647 : Int) < (s.size : Int) := by omega
    obtain ⟨i0, hi, hz0, hz1, hz2⟩ := info_parts Try.info9
    go_enter Try.func4, Try.ntmps4
    go_wp2_with fail
    refine (awake_any w).mono ?_
    rintro e w1 ⟨rfl, hb1⟩
    go_wp2_with fail
    refine (read_any s x w1 (by omega)).mono ?_
    rintro e w2 ⟨rfl, hb2⟩
    go_wp2_with fail
    refine (rread_any s x w2 (by omega)).mono ?_
    rintro e w3 ⟨rfl, hb3⟩
    obtain ⟨t, ht⟩ : ∃ t, t = (rdT s x).1 := ⟨_, rfl⟩
    obtain ⟨n0, hn0⟩ : ∃ t, t = (rdT s x).2.1 := ⟨_, rfl⟩
    obtain ⟨e0, he0⟩ : ∃ t, t = (rdT s x).2.2 := ⟨_, rfl⟩
    rw [← ht, ← hn0, ← he0]
    clear ht hn0 he0
    go_wp2_with fail
    refine (rall_any s w3 (by omega)).mono ?_
    rintro e w4 ⟨v, ds, n, rfl, hall, hown, hb4⟩
    have HB4 : Hid (Below w.heap.size w w4) := below_two (below_two (below_two hb1 hb2) hb3) hb4
    obtain ⟨p, cap, rfl, hst⟩ := own_strs hown
    have HALL : Hid (AllIs s.data.toList ds n) := hall
    have HST : Hid (Strs w4 p (ds.map ba)) := hst
    have hdl : ds.length ≤ s.size := by
      have h1 := cat_six ds
      obtain ⟨_, _, r, hr, _⟩ := hall
      have h2 := congrArg List.length hr
      rw [List.length_append] at h2
      have h3 : s.data.toList.length = s.size := by simp
      omega
    clear hb1 hb2 hb3 hb4 hall hst hown
    go_wp2
    go_loopw [14] (fun i wr => ∃ k : Nat, k ≤ 2 ∧ i = .int .i64 k ∧ Below w4.heap.size w4 wr) (fun i _ => 2 - (intOf i).toNat)
    case atStart => exact ⟨0, Nat.zero_le _, rfl, Below.refl _ _⟩
    case round =>
      obtain ⟨k, hk, rfl, hbr⟩ := hrel
      obtain ⟨w5, h5⟩ : ∃ w5, w5 = wr := ⟨_, rfl⟩
      subst h5
      by_cases hlt : k < 2
      · have hlti : (k : Int) < 2 := by omega
        go_wp2_with fail
        refine (all_any s w5 (by omega)).mono ?_
        rintro e w6 ⟨v, es, m, rfl, hall, hown, hb6⟩
        obtain ⟨rfl, rfl⟩ := hall.unique' HALL.out
        obtain ⟨q, cq, rfl, hst6⟩ := own_strs hown
        have HO6 : Hid (w6.ownsRow w5.heap.size 9 1 (.slice q es.length cq) es.length (sv es)) := hown
        have HB6 : Hid (Below w5.heap.size w5 w6) := hb6
        have HS6 : Hid (Strs w6 q (es.map ba)) := hst6
        have HS4 : Hid (Strs w6 p (es.map ba)) := HST.out.later (hbr.trans (hb6.mono hbr.size))
        have HBR : Hid (Below w4.heap.size w4 w5) := hbr
        clear hall hown hst6 hb6 hbr
        go_wp2_with fail
        have hsame := same_any q p cq cap (es.map ba) (es.map ba) w6 (by rw [List.length_map]; omega) HS6.out HS4.out
        rw [List.length_map, show eqS (es.map ba) (es.map ba) = true from eqS_iff.2 rfl] at hsame
        refine hsame.mono ?_
        clear hsame
        rintro e w7 ⟨rfl, hb7⟩
        have HO7 : Hid (w7.ownsRow w5.heap.size 9 1 (.slice q es.length cq) es.length (sv es)) := own_kept HO6.out fun k _ hk => hb7.block k hk
        have HB7 : Hid (Below w5.heap.size w5 w7) := HB6.out.trans (hb7.mono HB6.out.size)
        clear hb7
        have hqn := own_form HO7.out
        obtain ⟨q', cq', hv, _, hq⟩ := hqn
        have hqq : q = q' ∧ cq = cq' := by simpa using hv
        obtain ⟨rfl, rfl⟩ := hqq
        have HQ : Hid (0 < es.length → ∃ g, q = some ⟨g, 0, none⟩ ∧ w5.heap.size ≤ g) := hq
        clear hq hv
        go_wp2
        go_loopw [18] (fun i wr => ∃ (j : Nat) (fs : List (List UInt8)), j ≤ es.length ∧ i = .int .i64 j ∧ fs.length = es.length ∧ wr.ownsRow w5.heap.size 9 1 (.slice q es.length cq) es.length (sv fs) ∧ Below w5.heap.size w5 wr) (fun i _ => es.length - (intOf i).toNat)
        case atStart => exact ⟨0, es, Nat.zero_le _, rfl, rfl, HO7.out, HB7.out⟩
        case round =>
          obtain ⟨j, fs, hj, rfl, hfs, hown, hb⟩ := hrel
          have hsz := hb.size
          by_cases hje : j < es.length
          · have hji : (j : Int) < (es.length : Int) := by omega
            obtain ⟨g, rfl, hg⟩ := HQ.out (by omega)
            have hcell := hown.cellAt j (by omega)
            rw [show (sv fs)[j]? = some (.string (ba (fs[j]'(by omega)))) by simp [sv, hfs, hje]] at hcell
            have hfr := hown.frozenAt j
            have hgl : g < wr.heap.size := (hown.lt _ rfl).2
            go_wp2
            go_roundw
            case rel => exact ⟨j + 1, fs.set j [109, 97, 114, 107], by omega, by go_num, by rw [List.length_set]; exact hfs, own_mark hown j _ _ rfl, hb.setCell (p := ⟨g, j, none⟩) hg _⟩
            case measure => simp [intOf]; omega
          · obtain rfl : j = es.length := by omega
            have hlt' := hown.lt
            go_wp2_with (first | (at_builtin; refine wpList_append_own _ rfl _ _ 31 rfl w5.heap.size 9 i0 (.string ⟨#[]⟩) 1 16 Try.underlying31 hi hz0 hz1 hz2 rfl (by decide) _ _ _ rfl (hown.alloc _) ⟨wr.heap.size, 0, none⟩ 1 1 (sv [[109, 111, 114, 101]]) rfl rfl ?c1 ?c2 ?c3 ?c4 ?c5 ?_))
            case c1 => exact str1 wr _ _ _ rfl
            case c2 => exact sv_one _
            case c3 => unfold maxLen; omega
            case c4 => omega
            case c5 => first | omega | (simp; omega)
            · intro v' w8 hown' hgrow _
              have hbb : Below w5.heap.size w5 w8 := (hb.alloc (by omega) _).grown hgrow (by simp; omega) fun k hk => (hlt' k hk).1
              clear hgrow hown' hlt' hown
              go_wp2
              go_roundw
              case rel => exact ⟨k + 1, by omega, by go_num, HBR.out.trans (hbb.mono HBR.out.size)⟩
              case measure => simp [intOf]; omega
      · have hlti : ¬ (k : Int) < 2 := by omega
        go_wp2
        go_ret
        exact ⟨rfl, HB4.out.trans (hbr.mono HB4.out.size)⟩
end Go.Proofs.Ytndackikakpanaa
