/- Walks of layer 4, seventeenth part: scripts; weighs, goes. -/
import Derived.Test.YtejbelbfmchadaaD14
namespace Go.Proofs.Ytejbelbfmchadaa
open Go.RowKit

/-- One of a script. -/
structure OpV where
  what : Int
  a : ByteArray
  b : ByteArray
  data : ByteArray
  n : Int
  kp : Option Addr
  kc : Nat
  ks : List Int
def OpV.cells (x : OpV) : Array Value := #[.int .i64 x.what, .string x.a, .string x.b, .string x.data, .int .i64 x.n, .slice x.kp x.ks.length x.kc]
def ORow (w : World) (p : Option Addr) (l : List OpV) : Prop := ∀ i (h : i < l.length), ∃ b off, p = some ⟨b, off, none⟩ ∧ w.cell? ⟨b, off + i * 6, none⟩ = some (.int .i64 (l[i]).what) ∧ w.cell? ⟨b, off + i * 6 + 1, none⟩ = some (.string (l[i]).a) ∧
  w.cell? ⟨b, off + i * 6 + 2, none⟩ = some (.string (l[i]).b) ∧ w.cell? ⟨b, off + i * 6 + 3, none⟩ = some (.string (l[i]).data) ∧ w.cell? ⟨b, off + i * 6 + 4, none⟩ = some (.int .i64 (l[i]).n) ∧ w.cell? ⟨b, off + i * 6 + 5, none⟩ = some (.slice (l[i]).kp (l[i]).ks.length (l[i]).kc) ∧
  Ints w (l[i]).kp (l[i]).ks ∧ (l[i]).ks.length ≤ (l[i]).kc ∧ (l[i]).n ≤ 9223372036854775807
theorem ints_later {w w' : World} {p : Option Addr} {ks : List Int} (h : Ints w p ks) (hb : Below w.heap.size w w') : Ints w' p ks := fun i hi => by
  obtain ⟨b, off, e, hc⟩ := h i hi
  exact ⟨b, off, e, cell_later hb hc⟩
theorem ORow.later {w w' : World} {p : Option Addr} {l : List OpV} (h : ORow w p l) (hb : Below w.heap.size w w') : ORow w' p l := fun i hi => by
  obtain ⟨b, off, e, c0, c1, c2, c3, c4, c5, hin, r⟩ := h i hi
  exact ⟨b, off, e, cell_later hb c0, cell_later hb c1, cell_later hb c2, cell_later hb c3, cell_later hb c4, cell_later hb c5, ints_later hin hb, r⟩
/-- At one place, the one under a name. -/
theorem ORow.at {w : World} {p : Option Addr} {l : List OpV} (h : ORow w p l) {k : Nat} (hk : k < l.length) {x : OpV} (hx : l[k] = x) : ∃ b off, p = some ⟨b, off, none⟩ ∧ w.cell? ⟨b, off + k * 6, none⟩ = some (.int .i64 x.what) ∧ w.cell? ⟨b, off + k * 6 + 1, none⟩ = some (.string x.a) ∧
    w.cell? ⟨b, off + k * 6 + 2, none⟩ = some (.string x.b) ∧ w.cell? ⟨b, off + k * 6 + 3, none⟩ = some (.string x.data) ∧ w.cell? ⟨b, off + k * 6 + 4, none⟩ = some (.int .i64 x.n) ∧ w.cell? ⟨b, off + k * 6 + 5, none⟩ = some (.slice x.kp x.ks.length x.kc) ∧ Ints w x.kp x.ks ∧ x.ks.length ≤ x.kc ∧ x.n ≤ 9223372036854775807 := by
  subst hx
  exact h k hk

def goR (st : St) (x : OpV) : Int × St :=
  if x.what = 1 then appR st x.a.data.toList x.data.data.toList else if x.what = 2 then synR st x.a.data.toList else if x.what = 3 then renR st x.a.data.toList x.b.data.toList else if x.what = 4 then remR st x.a.data.toList else (1, st)

set_option maxHeartbeats 4000000 in
set_option maxRecDepth 100000 in
theorem goes_any (w : World) (Z : Nat → Prop) (a : Nat) (st : St) (x : OpV) (h : IsDisk w Z a st) (hZ : ∀ k, w.heap.size ≤ k → Z k) (hst : st.steps < 4611686018427387904) :
    Calls Try.prog 16 #[.pointer (some ⟨a, 0, none⟩), .agg #[.int .i64 x.what, .string x.a, .string x.b, .string x.data, .int .i64 x.n, .slice x.kp x.ks.length x.kc]] w fun e w' => e = .returned (.int .i64 (goR st x).1) ∧ IsDisk w' Z a (goR st x).2 ∧ Only Z w w' := by
  have HI : Hid (∀ o, IsDisk (w.alloc o) Z a st) := fun o => h.later ((Below.refl _ _).alloc (Nat.le_refl _) _)
  have HZ : Hid (∀ o k, (w.alloc o).heap.size ≤ k → Z k) := fun o k hk => hZ k (by simp at hk; omega)
  have HH : Hid (IsDisk w Z a st) := h
  clear h hZ
  obtain ⟨wh, hw⟩ : ∃ wh, x.what = wh := ⟨_, rfl⟩
  rw [hw]
  by_cases q1 : wh = 1
  · have HG : Hid (goR st x = appR st x.a.data.toList x.data.data.toList) := by show goR st x = _; simp [goR, hw, q1]
    subst q1
    clear hw
    go_enter Try.func16, Try.ntmps16
    go_wp2_with (first | (go_at_call 22; refine (append_any _ Z a st x.a x.data (HI.out _) (HZ.out _) hst).mono ?_; rintro e w1 ⟨rfl, hi1, ho1⟩))
    go_ret
    rw [HG.out]
    exact ⟨rfl, hi1, ((Only.refl _ _).alloc _).trans ho1⟩
  · by_cases q2 : wh = 2
    · have HG : Hid (goR st x = synR st x.a.data.toList) := by show goR st x = _; simp [goR, hw, q2]
      subst q2
      clear hw
      go_enter Try.func16, Try.ntmps16
      go_wp2_with (first | (go_at_call 23; refine (sync_any _ Z a st x.a (HI.out _) (HZ.out _) hst).mono ?_; rintro e w1 ⟨rfl, hi1, ho1⟩))
      go_ret
      rw [HG.out]
      exact ⟨rfl, hi1, ((Only.refl _ _).alloc _).trans ho1⟩
    · by_cases q3 : wh = 3
      · have HG : Hid (goR st x = renR st x.a.data.toList x.b.data.toList) := by show goR st x = _; simp [goR, hw, q3]
        subst q3
        clear hw
        go_enter Try.func16, Try.ntmps16
        go_wp2_with (first | (go_at_call 26; refine (rename_any _ Z a st x.a x.b (HI.out _) (HZ.out _) hst).mono ?_; rintro e w1 ⟨rfl, hi1, ho1⟩))
        go_ret
        rw [HG.out]
        exact ⟨rfl, hi1, ((Only.refl _ _).alloc _).trans ho1⟩
      · by_cases q4 : wh = 4
        · have HG : Hid (goR st x = remR st x.a.data.toList) := by show goR st x = _; simp [goR, hw, q4]
          subst q4
          clear hw
          go_enter Try.func16, Try.ntmps16
          go_wp2_with (first | (go_at_call 36; refine (remove_any _ Z a st x.a (HI.out _) (HZ.out _) hst).mono ?_; rintro e w1 ⟨rfl, hi1, ho1⟩))
          go_ret
          rw [HG.out]
          exact ⟨rfl, hi1, ((Only.refl _ _).alloc _).trans ho1⟩
        · have HG : Hid (goR st x = (1, st)) := by show goR st x = _; simp [goR, hw, q1, q2, q3, q4]
          have b1 : (wh == 1) = false := by simpa using q1
          have b2 : (wh == 2) = false := by simpa using q2
          have b3 : (wh == 3) = false := by simpa using q3
          have b4 : (wh == 4) = false := by simpa using q4
          clear hw
          go_enter Try.func16, Try.ntmps16
          go_wp2
          go_ret
          rw [HG.out]
          exact ⟨rfl, HI.out _, (Only.refl _ _).alloc _⟩

set_option maxHeartbeats 8000000 in
set_option maxRecDepth 100000 in
theorem weighs_any (w : World) (p : Option Addr) (cap : Nat) (l : List FV) (q : Option Addr) (cap' : Nat) (s : List OpV) (hl : l.length + s.length ≤ 9223372036854775807) (hp : FRow w p l) (hq : ORow w q s) :
    Calls Try.prog 8 #[.slice p l.length cap, .slice q s.length cap'] w fun e w' => ∃ m : Nat, e = .returned (.int .i64 (m : Int)) ∧ (m ≤ 2147483647 → l.length + s.length ≤ 2147483647 ∧ ∀ f ∈ l, f.2.1.size ≤ 2147483647) ∧ Below w.heap.size w w' := by
  have HP : Hid (FRow w p l) := hp
  have HQ : Hid (ORow w q s) := hq
  clear hp hq
  go_enter Try.func8, Try.ntmps8
  go_wp2
  go_loopw [5, 6] (fun z i wr => ∃ (k m : Nat), k ≤ l.length ∧ i = .int .i64 k ∧ z = .int .i64 (m : Int) ∧ m ≤ 9223372036854775807 ∧ l.length + s.length ≤ m ∧ (∀ j (h : j < l.length), j < k → (l[j]).2.1.size ≤ 2147483647) ∧ Below w.heap.size w wr) (fun _ i _ => l.length - (intOf i).toNat)
  case atStart => exact ⟨0, l.length + s.length, Nat.zero_le _, rfl, by first | rfl | go_num, hl, Nat.le_refl _, fun j _ h => absurd h (Nat.not_lt_zero _), Below.refl _ _⟩
  case round =>
    obtain ⟨k, m, hk, rfl, rfl, hm, hlm, hall, hb⟩ := hrel
    have HA : Hid (∀ j (h : j < l.length), j < k → (l[j]).2.1.size ≤ 2147483647) := hall
    have HLM : Hid (l.length + s.length ≤ m) := hlm
    have HB : Hid (Below w.heap.size w wr) := hb
    clear hall hlm hb
    by_cases hin : k < l.length ∧ m ≤ 2147483647
    · obtain ⟨hlt, hm1⟩ := hin
      have hlti : (k : Int) < (l.length : Int) := by omega
      have hm1i : (m : Int) ≤ 2147483647 := by omega
      obtain ⟨b, off, rfl, d0, d1, d2⟩ := (HP.out.later HB.out) k hlt
      obtain ⟨nm, dt, sf, hf⟩ : ∃ nm dt sf, l[k] = (nm, dt, sf) := ⟨_, _, _, rfl⟩
      rw [hf] at d0 d1 d2
      simp only at d0 d1 d2
      by_cases g1 : 2147483647 < dt.size
      · have g1i : (2147483647 : Int) < (dt.size : Int) := by omega
        clear hf
        go_wp2
        all_goals go_ret
        all_goals exact ⟨2147483648, rfl, fun h => by omega, HB.out⟩
      · have g1i : ¬ (2147483647 : Int) < (dt.size : Int) := by omega
        by_cases g2 : 2147483647 < nm.size
        · have g2i : (2147483647 : Int) < (nm.size : Int) := by omega
          clear hf
          go_wp2
          all_goals go_ret
          all_goals exact ⟨2147483648, rfl, fun h => by omega, HB.out⟩
        · have g2i : ¬ (2147483647 : Int) < (nm.size : Int) := by omega
          have HN : Hid (∀ j (h : j < l.length), j < k + 1 → (l[j]).2.1.size ≤ 2147483647) := by
            intro j h hj
            by_cases e : j = k
            · subst e
              rw [hf]
              simp only
              omega
            · exact HA.out j h (by omega)
          have HLT : Hid (k < l.length) := hlt
          obtain ⟨E, hE⟩ : ∃ E, m + dt.size = E := ⟨_, rfl⟩
          have hEi : (m : Int) + (dt.size : Int) = (E : Int) := by omega
          obtain ⟨G, hG⟩ : ∃ G, E + nm.size = G := ⟨_, rfl⟩
          have hGi : (E : Int) + (nm.size : Int) = (G : Int) := by omega
          have HE : Hid (m + dt.size + nm.size = G) := by show m + dt.size + nm.size = G; omega
          have hE2 : E ≤ 4294967294 := by omega
          have hG2 : G ≤ 6442450941 := by omega
          clear hf hE hG
          go_wp2
          go_quiet (fail)
          go_wp2
          go_roundw
          case rel => exact ⟨k + 1, G, HLT.out, by go_num, rfl, by omega, by have := HLM.out; have := HE.out; omega, HN.out, below_drewN HB.out _⟩
          case measure => have := HLT.out; simp [intOf]; omega
    · by_cases hl3 : k < l.length
      · have hl3i : (k : Int) < (l.length : Int) := by omega
        have hbi : ¬ (m : Int) ≤ 2147483647 := by omega
        have HALL : Hid (m ≤ 2147483647 → ∀ f ∈ l, f.2.1.size ≤ 2147483647) := fun h => by omega
        go_wp2
        go_loopw [5, 7] (fun z i wx => ∃ (k m : Nat), k ≤ s.length ∧ i = .int .i64 k ∧ z = .int .i64 (m : Int) ∧ m ≤ 9223372036854775807 ∧ l.length + s.length ≤ m ∧ (m ≤ 2147483647 → ∀ f ∈ l, f.2.1.size ≤ 2147483647) ∧ Below w.heap.size w wx) (fun _ i _ => s.length - (intOf i).toNat)
        case atStart => exact ⟨0, m, Nat.zero_le _, rfl, rfl, hm, HLM.out, HALL.out, HB.out⟩
        case round =>
          clear HALL HLM HB HA
          obtain ⟨k2, m2, hk2, rfl, rfl, hm2, hlm2, hall2, hb2⟩ := hrel
          have HA2 : Hid (m2 ≤ 2147483647 → ∀ f ∈ l, f.2.1.size ≤ 2147483647) := hall2
          have HLM2 : Hid (l.length + s.length ≤ m2) := hlm2
          have HB2 : Hid (Below w.heap.size w wr) := hb2
          have hsz2 := hb2.size
          clear hall2 hlm2 hb2
          by_cases hin2 : k2 < s.length ∧ m2 ≤ 2147483647
          · obtain ⟨hlt2, hm3⟩ := hin2
            have hlt2i : (k2 : Int) < (s.length : Int) := by omega
            have hm3i : (m2 : Int) ≤ 2147483647 := by omega
            obtain ⟨x, hx⟩ : ∃ x, s[k2] = x := ⟨_, rfl⟩
            obtain ⟨bb, off, rfl, d0, d1, d2, d3, d4, d5, _⟩ := (HQ.out.later HB2.out).at hlt2 hx
            obtain ⟨wh, xa, xb, xd, xn, xp, xc, xk⟩ := x
            simp only at d0 d1 d2 d3 d4 d5
            have HLT : Hid (k2 < s.length) := hlt2
            clear hx
            by_cases g1 : 2147483647 < xd.size
            · have g1i : (2147483647 : Int) < (xd.size : Int) := by omega
              go_wp2
              all_goals go_ret
              all_goals exact ⟨2147483648, rfl, fun h => by omega, HB2.out.alloc (by omega) _⟩
            · have g1i : ¬ (2147483647 : Int) < (xd.size : Int) := by omega
              by_cases g2 : 2147483647 < xa.size
              · have g2i : (2147483647 : Int) < (xa.size : Int) := by omega
                go_wp2
                all_goals go_ret
                all_goals exact ⟨2147483648, rfl, fun h => by omega, HB2.out.alloc (by omega) _⟩
              · have g2i : ¬ (2147483647 : Int) < (xa.size : Int) := by omega
                by_cases g3 : 2147483647 < xb.size
                · have g3i : (2147483647 : Int) < (xb.size : Int) := by omega
                  go_wp2
                  all_goals go_ret
                  all_goals exact ⟨2147483648, rfl, fun h => by omega, HB2.out.alloc (by omega) _⟩
                · have g3i : ¬ (2147483647 : Int) < (xb.size : Int) := by omega
                  by_cases g4 : 2147483647 < xk.length
                  · have g4i : (2147483647 : Int) < (xk.length : Int) := by omega
                    go_wp2
                    all_goals go_ret
                    all_goals exact ⟨2147483648, rfl, fun h => by omega, HB2.out.alloc (by omega) _⟩
                  · have g4i : ¬ (2147483647 : Int) < (xk.length : Int) := by omega
                    go_wp2
                    go_roundw
                    case rel => exact ⟨k2 + 1, m2 + xd.size + xa.size + xb.size + xk.length, HLT.out, by go_num, by congr 1, by omega, by have := HLM2.out; omega, fun h => HA2.out (by omega), HB2.out.alloc (by omega) _⟩
                    case measure => have := HLT.out; simp [intOf]; omega
          · by_cases hl4 : k2 < s.length
            · have hl4i : (k2 : Int) < (s.length : Int) := by omega
              have hbi4 : ¬ (m2 : Int) ≤ 2147483647 := by omega
              go_wp2
              go_ret
              exact ⟨m2, rfl, fun h => ⟨by have := HLM2.out; omega, by first | exact HA2.out h | exact fun _ _ _ hf => HA2.out h _ hf⟩, HB2.out⟩
            · have hl4i : ¬ (k2 : Int) < (s.length : Int) := by omega
              go_wp2
              go_ret
              exact ⟨m2, rfl, fun h => ⟨by have := HLM2.out; omega, by first | exact HA2.out h | exact fun _ _ _ hf => HA2.out h _ hf⟩, HB2.out⟩
      · have hl3i : ¬ (k : Int) < (l.length : Int) := by omega
        have HALL : Hid (m ≤ 2147483647 → ∀ f ∈ l, f.2.1.size ≤ 2147483647) := fun h f hf => by
          obtain ⟨j, hj, rfl⟩ := List.getElem_of_mem hf
          exact HA.out j hj (by omega)
        go_wp2
        go_loopw [5, 7] (fun z i wx => ∃ (k m : Nat), k ≤ s.length ∧ i = .int .i64 k ∧ z = .int .i64 (m : Int) ∧ m ≤ 9223372036854775807 ∧ l.length + s.length ≤ m ∧ (m ≤ 2147483647 → ∀ f ∈ l, f.2.1.size ≤ 2147483647) ∧ Below w.heap.size w wx) (fun _ i _ => s.length - (intOf i).toNat)
        case atStart => exact ⟨0, m, Nat.zero_le _, rfl, rfl, hm, HLM.out, HALL.out, HB.out⟩
        case round =>
          clear HALL HLM HB HA
          obtain ⟨k2, m2, hk2, rfl, rfl, hm2, hlm2, hall2, hb2⟩ := hrel
          have HA2 : Hid (m2 ≤ 2147483647 → ∀ f ∈ l, f.2.1.size ≤ 2147483647) := hall2
          have HLM2 : Hid (l.length + s.length ≤ m2) := hlm2
          have HB2 : Hid (Below w.heap.size w wr) := hb2
          have hsz2 := hb2.size
          clear hall2 hlm2 hb2
          by_cases hin2 : k2 < s.length ∧ m2 ≤ 2147483647
          · obtain ⟨hlt2, hm3⟩ := hin2
            have hlt2i : (k2 : Int) < (s.length : Int) := by omega
            have hm3i : (m2 : Int) ≤ 2147483647 := by omega
            obtain ⟨x, hx⟩ : ∃ x, s[k2] = x := ⟨_, rfl⟩
            obtain ⟨bb, off, rfl, d0, d1, d2, d3, d4, d5, _⟩ := (HQ.out.later HB2.out).at hlt2 hx
            obtain ⟨wh, xa, xb, xd, xn, xp, xc, xk⟩ := x
            simp only at d0 d1 d2 d3 d4 d5
            have HLT : Hid (k2 < s.length) := hlt2
            clear hx
            by_cases g1 : 2147483647 < xd.size
            · have g1i : (2147483647 : Int) < (xd.size : Int) := by omega
              go_wp2
              all_goals go_ret
              all_goals exact ⟨2147483648, rfl, fun h => by omega, HB2.out.alloc (by omega) _⟩
            · have g1i : ¬ (2147483647 : Int) < (xd.size : Int) := by omega
              by_cases g2 : 2147483647 < xa.size
              · have g2i : (2147483647 : Int) < (xa.size : Int) := by omega
                go_wp2
                all_goals go_ret
                all_goals exact ⟨2147483648, rfl, fun h => by omega, HB2.out.alloc (by omega) _⟩
              · have g2i : ¬ (2147483647 : Int) < (xa.size : Int) := by omega
                by_cases g3 : 2147483647 < xb.size
                · have g3i : (2147483647 : Int) < (xb.size : Int) := by omega
                  go_wp2
                  all_goals go_ret
                  all_goals exact ⟨2147483648, rfl, fun h => by omega, HB2.out.alloc (by omega) _⟩
                · have g3i : ¬ (2147483647 : Int) < (xb.size : Int) := by omega
                  by_cases g4 : 2147483647 < xk.length
                  · have g4i : (2147483647 : Int) < (xk.length : Int) := by omega
                    go_wp2
                    all_goals go_ret
                    all_goals exact ⟨2147483648, rfl, fun h => by omega, HB2.out.alloc (by omega) _⟩
                  · have g4i : ¬ (2147483647 : Int) < (xk.length : Int) := by omega
                    go_wp2
                    go_roundw
                    case rel => exact ⟨k2 + 1, m2 + xd.size + xa.size + xb.size + xk.length, HLT.out, by go_num, by congr 1, by omega, by have := HLM2.out; omega, fun h => HA2.out (by omega), HB2.out.alloc (by omega) _⟩
                    case measure => have := HLT.out; simp [intOf]; omega
          · by_cases hl4 : k2 < s.length
            · have hl4i : (k2 : Int) < (s.length : Int) := by omega
              have hbi4 : ¬ (m2 : Int) ≤ 2147483647 := by omega
              go_wp2
              go_ret
              exact ⟨m2, rfl, fun h => ⟨by have := HLM2.out; omega, by first | exact HA2.out h | exact fun _ _ _ hf => HA2.out h _ hf⟩, HB2.out⟩
            · have hl4i : ¬ (k2 : Int) < (s.length : Int) := by omega
              go_wp2
              go_ret
              exact ⟨m2, rfl, fun h => ⟨by have := HLM2.out; omega, by first | exact HA2.out h | exact fun _ _ _ hf => HA2.out h _ hf⟩, HB2.out⟩
end Go.Proofs.Ytejbelbfmchadaa
