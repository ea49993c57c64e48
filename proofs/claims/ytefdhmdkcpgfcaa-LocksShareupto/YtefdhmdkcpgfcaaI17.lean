/- Walks of layer 19: LocksPlays. -/
import Derived.Test.YtefdhmdkcpgfcaaI16
import Derived.Test.YtefdhmdkcpgfcaaI11
namespace Go.Proofs.Ytefdhmdkcpgfcaa
open Go.RowKit
theorem mem_le_sum {α : Type} (g : α → Nat) {x : α} : ∀ {l : List α}, x ∈ l → g x ≤ (l.map g).sum
  | y :: r, h => by
    rw [List.map_cons, List.sum_cons]
    rcases List.mem_cons.1 h with rfl | h
    · exact Nat.le_add_right _ _
    · exact Nat.le_trans (mem_le_sum g h) (Nat.le_add_left _ _)
theorem sl_of_wg {s : List Op9} (h : wgS s ≤ 2147483647) {x : Op9} (hx : x ∈ s) : Sl9 x.ls := by
  have h1 := mem_le_sum (fun x : Op9 => x.ls.length + wgL x.ls) hx
  unfold wgS at h
  have h1 : x.ls.length + wgL x.ls ≤ _ := h1
  refine ⟨by omega, fun y hy => ?_⟩
  have h2 := mem_le_sum (fun x : Lk => x.lo.size + x.hi.size) hy
  have hw : wgL x.ls = (x.ls.map fun x => x.lo.size + x.hi.size).sum := rfl
  have h2 : y.lo.size + y.hi.size ≤ _ := h2
  omega
theorem plays19_any {PT : Tm9} (hL : LocksIs PT) (x : Op9) (T : Tb9) (Bp Bd t r : Nat) (Zp Zd : Nat → Prop) (p : Option Addr) (cap : Nat) (w0 w : World) (h : Fm w0 [ptR PT Bp Zp t T, dtR Bd Zd r T] (fun _ => True) w) (hr : RowR 4 LkR w0 p x.ls) (hs : Sz9 T) (hsl : Sl9 x.ls) (hn : T.ps.length < 2147483647) (hp : -9223372036854775808 ≤ x.pos ∧ x.pos ≤ 9223372036854775807) : Calls Try.prog 15 #[.pointer (some ⟨t, 0, none⟩), .pointer (some ⟨r, 0, none⟩), .agg #[.int .i64 x.what, .int .i64 x.pos, .slice p x.ls.length cap]] w (Pl19 PT Bp Bd t r w0 (step9 T x)) := by
  obtain ⟨W, P, l⟩ := x
  by_cases h1 : W = 1
  · exact plays_ask hL W P l T Bp Bd t r Zp Zd p cap w0 w h hr hs hsl hn hp h1
  · by_cases h2 : W = 2
    · exact plays_free hL W P l T Bp Bd t r Zp Zd p cap w0 w h hr hs hsl hn hp h2
    · by_cases h4 : W = 4
      · exact plays_waits hL W P l T Bp Bd t r Zp Zd p cap w0 w h hr hs hsl hn hp h4
      · by_cases h5 : W = 5
        · exact plays_locks hL W P l T Bp Bd t r Zp Zd p cap w0 w h hr hs hsl hn hp h5
        · exact plays_else hL W P l T Bp Bd t r Zp Zd p cap w0 w h hr hs hsl hn hp h1 h2 h4 h5

set_option maxHeartbeats 16000000 in
set_option maxRecDepth 100000 in
theorem locksPlays_any {PT : Tm9} (hL : LocksIs PT) (p : Option Addr) (cap : Nat) (s : List Op9) (w : World) (hr : RowR 3 (Op9R w) w p s) (hl : s.length ≤ 140737488351232) : Calls Try.prog 4 #[.slice p s.length cap] w fun e w' => e = .returned (.bool true) ∧ Below w.heap.size w w' := by
  have H := Lib.hid hL
  have HR := Lib.hid hr
  clear hL hr
  go_enter Try.func4, Try.ntmps4
  go_wp2_with fail
  refine (weighs19_any p cap s _ HR.out hl).mono ?_
  rintro e w1 ⟨m, rfl, hm, hq⟩
  have HB1 := Lib.hid (quiet_below hq)
  have HM := Lib.hid hm
  clear hq hm
  by_cases hb : m ≤ 2147483647
  rotate_left
  · have hbi : ¬ (m : Int) ≤ 2147483647 := by omega
    have hbj : (m : Int) > 2147483647 := by omega
    go_wp2
    go_ret
    exact ⟨rfl, HB1.out⟩
  have HW := Lib.hid (HM.out hb)
  have hsl : s.length ≤ 2147483647 := by
    have h9 := HW.out
    unfold wgS at h9
    omega
  have hbj : ¬ (m : Int) > 2147483647 := by omega
  clear HM
  have F0 := Lib.hid ((Fm.start w).call HB1.out)
  clear HB1
  go_wp2_with fail
  refine (awake19_any H.out _).mono ?_
  rintro e w2 ⟨rfl, hq⟩
  have F1 := Lib.hid (F0.out.call hq)
  clear hq F0
  go_wp2_with fail
  refine (H.out.new _).mono ?_
  rintro e w3 ⟨t, rfl, hp, hq⟩
  have F2 := Lib.hid (F1.out.push (r := ptR PT _ _ t t90) hq (ptR_ok H.out _ _ _ _) hp fun _ h => h)
  clear hp hq F1
  go_wp2_with fail
  refine (rnew_any _).mono ?_
  rintro e w4 ⟨r, rfl, hp, hq⟩
  have F3 := Lib.hid ((F2.out.push (r := dtR _ _ r t90) hq (dtR_ok _ _ _ _) hp fun _ h => h).perm (List.Perm.swap _ _ _))
  clear hp hq F2
  generalize (fun k => w2.heap.size ≤ k ∧ k < w3.heap.size) = Zp0 at F3
  generalize (fun k => w3.heap.size ≤ k ∧ k < w4.heap.size) = Zd0 at F3
  obtain ⟨Bp, hBp⟩ : ∃ B, w2.heap.size = B := ⟨_, rfl⟩
  obtain ⟨Bd, hBd⟩ : ∃ B, w3.heap.size = B := ⟨_, rfl⟩
  rw [hBp, hBd] at F3
  clear hBp hBd
  go_wp2_with fail
  go_loopw [7, 8] (fun i _ wr => ∃ (k : Nat) (T : Tb9) (Zp Zd : Nat → Prop), k ≤ s.length ∧ i = .int .i64 k ∧ Fm w [ptR PT Bp Zp t T, dtR Bd Zd r T] (fun _ => True) wr ∧ Sz9 T ∧ T.ps.length ≤ k) (fun i _ _ => s.length - (intOf i).toNat)
  case atStart => exact ⟨0, t90, Zp0, Zd0, Nat.zero_le _, rfl, F3.out, sz_t0, Nat.le_refl _⟩
  case round =>
    clear F3
    obtain ⟨k, T, Zp, Zd, hk, rfl, hF, hS, hT⟩ := hrel
    have HF := Lib.hid hF
    have HS := Lib.hid hS
    clear hF hS
    by_cases hlt : k < s.length
    · have hlti : (k : Int) < (s.length : Int) := by omega
      have ho := op_at HR.out hlt
      have hx9 := sl_of_wg HW.out (List.getElem_mem hlt)
      generalize s[k] = x at ho hx9
      obtain ⟨b, o, p1, c1, rfl, a0, a1, a2, hr1, hf, hp⟩ := ho
      have HR1 := Lib.hid hr1
      have HX := Lib.hid hx9
      have HP := Lib.hid hp
      clear hr1 hx9 hp hf
      have d0 := cell_later HF.out.bel a0
      have d1 := cell_later HF.out.bel a1
      have d2 := cell_later HF.out.bel a2
      clear a0 a1 a2
      go_wp2_with fail
      clear d0 d1 d2
      refine (plays19_any H.out x T Bp Bd t r Zp Zd p1 c1 w _ HF.out HR1.out HS.out HX.out (by omega) HP.out).mono ?_
      rintro e w7 ⟨rfl, Zp1, Zd1, hF1⟩
      have HF1 := Lib.hid hF1
      clear hF1
      go_wp2
      go_roundw
      case rel => exact ⟨k + 1, step9 T x, Zp1, Zd1, by omega, by go_num, HF1.out, step_sz HS.out HX.out (by omega) HP.out.2, Nat.le_trans (step_len T x) (by omega)⟩
      case measure => simp [intOf]; omega
    · have hlti : ¬ (k : Int) < (s.length : Int) := by omega
      go_wp2_with fail
      refine (H.out.held T t _ _ _ (HF.out.at 0 rfl) HS.out).mono ?_
      rintro e v1 ⟨v, rfl, ho, hb1⟩
      obtain ⟨p1, c1, rfl, _⟩ := ho.form
      have G1 := Lib.hid (HF.out.pushOwn hb1 ho)
      clear ho hb1
      go_wp2_with fail
      refine (ropen_any T r _ _ _ (G1.out.at 2 rfl) HS.out.sm).mono ?_
      rintro e v2 ⟨v, rfl, ho, hb2⟩
      obtain ⟨p2, c2, rfl, _⟩ := ho.form
      have G2 := Lib.hid (G1.out.pushOwn hb2 ho)
      clear ho hb2
      go_wp2_with fail
      refine (H.out.ready T t _ _ _ (G2.out.at 2 rfl) HS.out).mono ?_
      rintro e v3 ⟨v, rfl, ho, hb3⟩
      obtain ⟨p3, c3, rfl, _⟩ := ho.form
      have G3 := Lib.hid (G2.out.pushOwn hb3 ho)
      clear ho hb3
      go_wp2_with fail
      refine (rgranted_any T r _ _ _ (G3.out.at 4 rfl) HS.out.sm).mono ?_
      rintro e v4 ⟨v, rfl, ho, hb4⟩
      obtain ⟨p4, c4, rfl, _⟩ := ho.form
      have G4 := Lib.hid (G3.out.pushOwn hb4 ho)
      clear ho hb4
      have hol := Lib.hid (openL_len T)
      have hgl := Lib.hid (grntL_len T)
      go_wp2_with fail
      have r1 : RowR 1 IntR _ p1 (openL T) := G4.out.ownRow 3 rfl
      have r2 : RowR 1 IntR _ p2 (openL T) := G4.out.ownRow 2 rfl
      have hle : (openL T).length ≤ 1099511627776 := by have := hol.out; omega
      refine (ints19_same p1 p2 c1 c2 (openL T) _ r1 r2 hle).mono ?_
      rintro e v5 ⟨rfl, hq⟩
      have G5 := Lib.hid (G4.out.call hq)
      clear hq
      go_wp2_with fail
      have r3 : RowR 1 IntR _ p3 (grntL T) := G5.out.ownRow 1 rfl
      have r4 : RowR 1 IntR _ p4 (grntL T) := G5.out.ownRow 0 rfl
      have hle2 : (grntL T).length ≤ 1099511627776 := by have := hgl.out; omega
      refine (ints19_same p3 p4 c3 c4 (grntL T) _ r3 r4 hle2).mono ?_
      rintro e v6 ⟨rfl, hq⟩
      have G6 := Lib.hid (G5.out.call hq)
      clear hq
      go_wp2
      go_ret
      exact ⟨rfl, G6.out.bel⟩
end Go.Proofs.Ytefdhmdkcpgfcaa
