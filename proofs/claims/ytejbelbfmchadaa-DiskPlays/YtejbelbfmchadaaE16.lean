/- The laws' function weighs of layer 4 once more, with all that it tells. -/
import Derived.Test.YtejbelbfmchadaaD17
namespace Go.Proofs.Ytejbelbfmchadaa
open Go.RowKit

def FSmall (f : FV) : Prop := f.2.1.size ≤ 2147483647 ∧ f.1.size ≤ 2147483647
def OSmall (x : OpV) : Prop := x.data.size ≤ 2147483647 ∧ x.a.size ≤ 2147483647 ∧ x.b.size ≤ 2147483647 ∧ x.ks.length ≤ 2147483647
theorem upto1 {n k : Nat} {p : (j : Nat) → j < n → Prop} (h : ∀ j (g : j < n), j < k → p j g) {hlt : k < n} (e : p k hlt) : ∀ j (g : j < n), j < k + 1 → p j g := by
  intro j g hj
  by_cases hjk : j = k
  · subst hjk; exact e
  · exact h j g (by omega)

set_option maxHeartbeats 8000000 in
set_option maxRecDepth 100000 in
theorem weighs2_any (w : World) (p : Option Addr) (cap : Nat) (l : List FV) (q : Option Addr) (cap' : Nat) (s : List OpV) (hl : l.length + s.length ≤ 9223372036854775807) (hp : FRow w p l) (hq : ORow w q s) :
    Calls Try.prog 8 #[.slice p l.length cap, .slice q s.length cap'] w fun e w' => ∃ m : Nat, e = .returned (.int .i64 (m : Int)) ∧ (m ≤ 2147483647 → l.length + s.length ≤ 2147483647 ∧ (∀ f ∈ l, FSmall f) ∧ ∀ x ∈ s, OSmall x) ∧ Below w.heap.size w w' := by
  have HP : Hid (FRow w p l) := hp
  have HQ : Hid (ORow w q s) := hq
  clear hp hq
  go_enter Try.func8, Try.ntmps8
  go_wp2
  go_loopw [5, 6] (fun z i wr => ∃ (k m : Nat), k ≤ l.length ∧ i = .int .i64 k ∧ z = .int .i64 (m : Int) ∧ m ≤ 9223372036854775807 ∧ l.length + s.length ≤ m ∧ (∀ j (h : j < l.length), j < k → FSmall l[j]) ∧ Below w.heap.size w wr) (fun _ i _ => l.length - (intOf i).toNat)
  case atStart => exact ⟨0, l.length + s.length, Nat.zero_le _, rfl, by first | rfl | go_num, hl, Nat.le_refl _, fun j _ h => absurd h (Nat.not_lt_zero _), Below.refl _ _⟩
  case round =>
    obtain ⟨k, m, hk, rfl, rfl, hm, hlm, hall, hb⟩ := hrel
    have HA : Hid (∀ j (h : j < l.length), j < k → FSmall l[j]) := hall
    have HLM : Hid (l.length + s.length ≤ m) := hlm
    have HB : Hid (Below w.heap.size w wr) := hb
    clear hall hlm hb
    by_cases hin : k < l.length ∧ m ≤ 2147483647
    · obtain ⟨hlt, hm1⟩ := hin
      have hlti : (k : Int) < (l.length : Int) := by omega
      have hm1i : (m : Int) ≤ 2147483647 := by omega
      obtain ⟨b, off, rfl, d0, d1, d2⟩ := (HP.out.later HB.out) k hlt
      obtain ⟨nm, dt, sf, hf⟩ : ∃ nm dt sf, l[k] = (nm, dt, sf) := ⟨_, _, _, rfl⟩
      rw [hf] at d0 d1 d2
      simp only at d0 d1 d2
      by_cases g1 : 2147483647 < dt.size
      · have g1i : (2147483647 : Int) < (dt.size : Int) := by omega
        clear hf
        go_wp2
        all_goals go_ret
        all_goals exact ⟨2147483648, rfl, fun h => by omega, HB.out⟩
      · have g1i : ¬ (2147483647 : Int) < (dt.size : Int) := by omega
        by_cases g2 : 2147483647 < nm.size
        · have g2i : (2147483647 : Int) < (nm.size : Int) := by omega
          clear hf
          go_wp2
          all_goals go_ret
          all_goals exact ⟨2147483648, rfl, fun h => by omega, HB.out⟩
        · have g2i : ¬ (2147483647 : Int) < (nm.size : Int) := by omega
          have HN : Hid (∀ j (h : j < l.length), j < k + 1 → FSmall l[j]) := by
            intro j h hj
            by_cases e : j = k
            · subst e
              rw [hf]
              exact ⟨by show dt.size ≤ 2147483647; omega, by show nm.size ≤ 2147483647; omega⟩
            · exact HA.out j h (by omega)
          have HLT : Hid (k < l.length) := hlt
          obtain ⟨E, hE⟩ : ∃ E, m + dt.size = E := ⟨_, rfl⟩
          have hEi : (m : Int) + (dt.size : Int) = (E : Int) := by omega
          obtain ⟨G, hG⟩ : ∃ G, E + nm.size = G := ⟨_, rfl⟩
          have hGi : (E : Int) + (nm.size : Int) = (G : Int) := by omega
          have HE : Hid (m + dt.size + nm.size = G) := by show m + dt.size + nm.size = G; omega
          have hE2 : E ≤ 4294967294 := by omega
          have hG2 : G ≤ 6442450941 := by omega
          clear hf hE hG
          go_wp2
          go_quiet (fail)
          go_wp2
          go_roundw
          case rel => exact ⟨k + 1, G, HLT.out, by go_num, rfl, by omega, by have := HLM.out; have := HE.out; omega, HN.out, below_drewN HB.out _⟩
          case measure => have := HLT.out; simp [intOf]; omega
    · by_cases hl3 : k < l.length
      · have hl3i : (k : Int) < (l.length : Int) := by omega
        have hbi : ¬ (m : Int) ≤ 2147483647 := by omega
        have HALL : Hid (m ≤ 2147483647 → ∀ f ∈ l, FSmall f) := fun h => by omega
        go_wp2
        go_loopw [5, 7] (fun z i wx => ∃ (k m : Nat), k ≤ s.length ∧ i = .int .i64 k ∧ z = .int .i64 (m : Int) ∧ m ≤ 9223372036854775807 ∧ l.length + s.length ≤ m ∧ (m ≤ 2147483647 → ∀ f ∈ l, FSmall f) ∧ (∀ j (h : j < s.length), j < k → OSmall s[j]) ∧ Below w.heap.size w wx) (fun _ i _ => s.length - (intOf i).toNat)
        case atStart => exact ⟨0, m, Nat.zero_le _, rfl, rfl, hm, HLM.out, HALL.out, fun j _ h => absurd h (Nat.not_lt_zero _), HB.out⟩
        case round =>
          clear HALL HLM HB HA
          obtain ⟨k2, m2, hk2, rfl, rfl, hm2, hlm2, hall2, hos2, hb2⟩ := hrel
          have HOS : Hid (∀ j (h : j < s.length), j < k2 → OSmall s[j]) := hos2
          have HA2 : Hid (m2 ≤ 2147483647 → ∀ f ∈ l, FSmall f) := hall2
          have HLM2 : Hid (l.length + s.length ≤ m2) := hlm2
          have HB2 : Hid (Below w.heap.size w wr) := hb2
          have hsz2 := hb2.size
          clear hall2 hlm2 hb2 hos2
          by_cases hin2 : k2 < s.length ∧ m2 ≤ 2147483647
          · obtain ⟨hlt2, hm3⟩ := hin2
            have hlt2i : (k2 : Int) < (s.length : Int) := by omega
            have hm3i : (m2 : Int) ≤ 2147483647 := by omega
            obtain ⟨x, hx⟩ : ∃ x, s[k2] = x := ⟨_, rfl⟩
            obtain ⟨bb, off, rfl, d0, d1, d2, d3, d4, d5, _⟩ := (HQ.out.later HB2.out).at hlt2 hx
            obtain ⟨wh, xa, xb, xd, xn, xp, xc, xk⟩ := x
            simp only at d0 d1 d2 d3 d4 d5
            have HLT : Hid (k2 < s.length) := hlt2
            have HX : Hid (∀ h : k2 < s.length, s[k2]'h = ⟨wh, xa, xb, xd, xn, xp, xc, xk⟩) := fun _ => hx
            clear hx
            by_cases g1 : 2147483647 < xd.size
            · have g1i : (2147483647 : Int) < (xd.size : Int) := by omega
              go_wp2
              all_goals go_ret
              all_goals exact ⟨2147483648, rfl, fun h => by omega, HB2.out.alloc (by omega) _⟩
            · have g1i : ¬ (2147483647 : Int) < (xd.size : Int) := by omega
              by_cases g2 : 2147483647 < xa.size
              · have g2i : (2147483647 : Int) < (xa.size : Int) := by omega
                go_wp2
                all_goals go_ret
                all_goals exact ⟨2147483648, rfl, fun h => by omega, HB2.out.alloc (by omega) _⟩
              · have g2i : ¬ (2147483647 : Int) < (xa.size : Int) := by omega
                by_cases g3 : 2147483647 < xb.size
                · have g3i : (2147483647 : Int) < (xb.size : Int) := by omega
                  go_wp2
                  all_goals go_ret
                  all_goals exact ⟨2147483648, rfl, fun h => by omega, HB2.out.alloc (by omega) _⟩
                · have g3i : ¬ (2147483647 : Int) < (xb.size : Int) := by omega
                  by_cases g4 : 2147483647 < xk.length
                  · have g4i : (2147483647 : Int) < (xk.length : Int) := by omega
                    go_wp2
                    all_goals go_ret
                    all_goals exact ⟨2147483648, rfl, fun h => by omega, HB2.out.alloc (by omega) _⟩
                  · have g4i : ¬ (2147483647 : Int) < (xk.length : Int) := by omega
                    go_wp2
                    go_roundw
                    case rel => exact ⟨k2 + 1, m2 + xd.size + xa.size + xb.size + xk.length, HLT.out, by go_num, by congr 1, by omega, by have := HLM2.out; omega, fun h => HA2.out (by omega), upto1 HOS.out (hlt := HLT.out) (by rw [HX.out]; exact ⟨by show xd.size ≤ 2147483647; omega, by show xa.size ≤ 2147483647; omega, by show xb.size ≤ 2147483647; omega, by show xk.length ≤ 2147483647; omega⟩), HB2.out.alloc (by omega) _⟩
                    case measure => have := HLT.out; simp [intOf]; omega
          · by_cases hl4 : k2 < s.length
            · have hl4i : (k2 : Int) < (s.length : Int) := by omega
              have hbi4 : ¬ (m2 : Int) ≤ 2147483647 := by omega
              go_wp2
              go_ret
              exact ⟨m2, rfl, fun h => by omega, HB2.out⟩
            · have hl4i : ¬ (k2 : Int) < (s.length : Int) := by omega
              go_wp2
              go_ret
              exact ⟨m2, rfl, fun h => ⟨by have := HLM2.out; omega, (by first | exact HA2.out h | exact fun _ _ _ hf => HA2.out h _ hf), fun x hx => by obtain ⟨j, hj, rfl⟩ := List.getElem_of_mem hx; exact HOS.out j hj (by omega)⟩, HB2.out⟩
      · have hl3i : ¬ (k : Int) < (l.length : Int) := by omega
        have HALL : Hid (m ≤ 2147483647 → ∀ f ∈ l, FSmall f) := fun h f hf => by
          obtain ⟨j, hj, rfl⟩ := List.getElem_of_mem hf
          exact HA.out j hj (by omega)
        go_wp2
        go_loopw [5, 7] (fun z i wx => ∃ (k m : Nat), k ≤ s.length ∧ i = .int .i64 k ∧ z = .int .i64 (m : Int) ∧ m ≤ 9223372036854775807 ∧ l.length + s.length ≤ m ∧ (m ≤ 2147483647 → ∀ f ∈ l, FSmall f) ∧ (∀ j (h : j < s.length), j < k → OSmall s[j]) ∧ Below w.heap.size w wx) (fun _ i _ => s.length - (intOf i).toNat)
        case atStart => exact ⟨0, m, Nat.zero_le _, rfl, rfl, hm, HLM.out, HALL.out, fun j _ h => absurd h (Nat.not_lt_zero _), HB.out⟩
        case round =>
          clear HALL HLM HB HA
          obtain ⟨k2, m2, hk2, rfl, rfl, hm2, hlm2, hall2, hos2, hb2⟩ := hrel
          have HOS : Hid (∀ j (h : j < s.length), j < k2 → OSmall s[j]) := hos2
          have HA2 : Hid (m2 ≤ 2147483647 → ∀ f ∈ l, FSmall f) := hall2
          have HLM2 : Hid (l.length + s.length ≤ m2) := hlm2
          have HB2 : Hid (Below w.heap.size w wr) := hb2
          have hsz2 := hb2.size
          clear hall2 hlm2 hb2 hos2
          by_cases hin2 : k2 < s.length ∧ m2 ≤ 2147483647
          · obtain ⟨hlt2, hm3⟩ := hin2
            have hlt2i : (k2 : Int) < (s.length : Int) := by omega
            have hm3i : (m2 : Int) ≤ 2147483647 := by omega
            obtain ⟨x, hx⟩ : ∃ x, s[k2] = x := ⟨_, rfl⟩
            obtain ⟨bb, off, rfl, d0, d1, d2, d3, d4, d5, _⟩ := (HQ.out.later HB2.out).at hlt2 hx
            obtain ⟨wh, xa, xb, xd, xn, xp, xc, xk⟩ := x
            simp only at d0 d1 d2 d3 d4 d5
            have HLT : Hid (k2 < s.length) := hlt2
            have HX : Hid (∀ h : k2 < s.length, s[k2]'h = ⟨wh, xa, xb, xd, xn, xp, xc, xk⟩) := fun _ => hx
            clear hx
            by_cases g1 : 2147483647 < xd.size
            · have g1i : (2147483647 : Int) < (xd.size : Int) := by omega
              go_wp2
              all_goals go_ret
              all_goals exact ⟨2147483648, rfl, fun h => by omega, HB2.out.alloc (by omega) _⟩
            · have g1i : ¬ (2147483647 : Int) < (xd.size : Int) := by omega
              by_cases g2 : 2147483647 < xa.size
              · have g2i : (2147483647 : Int) < (xa.size : Int) := by omega
                go_wp2
                all_goals go_ret
                all_goals exact ⟨2147483648, rfl, fun h => by omega, HB2.out.alloc (by omega) _⟩
              · have g2i : ¬ (2147483647 : Int) < (xa.size : Int) := by omega
                by_cases g3 : 2147483647 < xb.size
                · have g3i : (2147483647 : Int) < (xb.size : Int) := by omega
                  go_wp2
                  all_goals go_ret
                  all_goals exact ⟨2147483648, rfl, fun h => by omega, HB2.out.alloc (by omega) _⟩
                · have g3i : ¬ (2147483647 : Int) < (xb.size : Int) := by omega
                  by_cases g4 : 2147483647 < xk.length
                  · have g4i : (2147483647 : Int) < (xk.length : Int) := by omega
                    go_wp2
                    all_goals go_ret
                    all_goals exact ⟨2147483648, rfl, fun h => by omega, HB2.out.alloc (by omega) _⟩
                  · have g4i : ¬ (2147483647 : Int) < (xk.length : Int) := by omega
                    go_wp2
                    go_roundw
                    case rel => exact ⟨k2 + 1, m2 + xd.size + xa.size + xb.size + xk.length, HLT.out, by go_num, by congr 1, by omega, by have := HLM2.out; omega, fun h => HA2.out (by omega), upto1 HOS.out (hlt := HLT.out) (by rw [HX.out]; exact ⟨by show xd.size ≤ 2147483647; omega, by show xa.size ≤ 2147483647; omega, by show xb.size ≤ 2147483647; omega, by show xk.length ≤ 2147483647; omega⟩), HB2.out.alloc (by omega) _⟩
                    case measure => have := HLT.out; simp [intOf]; omega
          · by_cases hl4 : k2 < s.length
            · have hl4i : (k2 : Int) < (s.length : Int) := by omega
              have hbi4 : ¬ (m2 : Int) ≤ 2147483647 := by omega
              go_wp2
              go_ret
              exact ⟨m2, rfl, fun h => by omega, HB2.out⟩
            · have hl4i : ¬ (k2 : Int) < (s.length : Int) := by omega
              go_wp2
              go_ret
              exact ⟨m2, rfl, fun h => ⟨by have := HLM2.out; omega, (by first | exact HA2.out h | exact fun _ _ _ hf => HA2.out h _ hf), fun x hx => by obtain ⟨j, hj, rfl⟩ := List.getElem_of_mem hx; exact HOS.out j hj (by omega)⟩, HB2.out⟩
end Go.Proofs.Ytejbelbfmchadaa
