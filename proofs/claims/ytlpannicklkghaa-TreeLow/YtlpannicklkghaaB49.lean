/- TreeLow, walked. -/
import Derived.Test.YtlpannicklkghaaB47
import Derived.Test.YtlpannicklkghaaB28
namespace Go.Proofs.Ytlpannicklkghaa
open Go.RowKit

set_option maxHeartbeats 40000000 in
set_option maxRecDepth 100000 in
theorem low_law (o : Int) (p : Option Addr) (cap : Nat) (l : List Int) (w : World) (row : IRow w p l) (le : l.length ≤ cap) (ml : cap ≤ maxLen) :
    Calls Try.prog 7 #[.int .i64 o, .slice p l.length cap] w fun e w' => e = .returned (.bool true) ∧ Below w.heap.size w w' := by
  have HR : Hid (IRow w p l) := row
  have hl63 : l.length ≤ 9223372036854775807 := by unfold maxLen at ml; omega
  clear row le ml
  go_enter Try.func7, Try.ntmps7
  by_cases hbig : (268435455 : Int) < (l.length : Int)
  · go_wp2
    go_ret
    exact ⟨rfl, Below.refl _ _⟩
  have hll : l.length ≤ 268435455 := by omega
  go_wp2_with fail
  refine (awake7_any w).mono ?_
  rintro e w1 ⟨rfl, hb1⟩
  have HB1 : Hid (Below w.heap.size w w1) := hb1
  clear hb1
  by_cases ho1 : o < 4
  · go_wp2_with fail
    refine (new_bad w1 o _ (Or.inl ho1)).mono ?_
    rintro e w2 ⟨rfl, hw2⟩
    subst hw2
    go_wp2
    go_ret
    exact ⟨rfl, HB1.out⟩
  by_cases ho2 : 64 < o
  · go_wp2_with fail
    refine (new_bad w1 o _ (Or.inr ho2)).mono ?_
    rintro e w2 ⟨rfl, hw2⟩
    subst hw2
    go_wp2
    go_ret
    exact ⟨rfl, HB1.out⟩
  obtain ⟨m, rfl⟩ : ∃ n : Nat, o = (n : Int) := ⟨o.toNat, by omega⟩
  go_wp2_with fail
  refine (newnil_z w1 m (by omega) (by omega)).mono ?_
  rintro e w2 ⟨hb2, t, rfl, ht, htz⟩
  have HB2 : Hid (Below w.heap.size w w2) := below_two HB1.out hb2
  have HS1 : Hid (w.heap.size ≤ w1.heap.size) := HB1.out.size
  have HTZ : Hid (∃ Z, TreeZ w2 w1.heap.size Z t m []) := ⟨_, htz⟩
  clear hb2 ht htz
  go_wp2_with fail
  go_loopw [8] (fun i wr => ∃ (k : Nat) (Z : Nat → Prop) (a : List It), k ≤ l.length ∧ i = .int .i64 (k : Int) ∧ a.length ≤ k ∧ TreeZ wr w1.heap.size Z t m a ∧ Below w.heap.size w wr) (fun i _ => l.length - (intOf i).toNat)
  case atStart =>
    obtain ⟨Z, hz⟩ := HTZ.out
    exact ⟨0, Z, [], Nat.zero_le _, rfl, Nat.le_refl _, hz, HB2.out⟩
  case round =>
    obtain ⟨k, Z, a, hk, rfl, hak, htz, hb⟩ := hrel
    have HB : Hid (Below w.heap.size w wr) := hb
    have HT : Hid (TreeZ wr w1.heap.size Z t m a) := htz
    clear hb htz HTZ HB2 HB1
    by_cases hlt : k < l.length
    · have hlti : (k : Int) < (l.length : Int) := by omega
      obtain ⟨b, off, rfl, c0⟩ := (HR.out.later HB.out) k hlt
      obtain ⟨x, hx⟩ : ∃ x, l[k] = x := ⟨_, rfl⟩
      rw [hx] at c0
      clear hx
      obtain ⟨s, hs2, hcv⟩ := two_bytes7 wr (x / 256 % 256) (x % 256) (by omega) (by omega)
      have HSS : Hid (s.size = 2) := hs2
      have HBA : Hid (Below wr.heap.size wr (wr.alloc (Obj.cells #[.int .u8 (x / 256 % 256), .int .u8 (x % 256)] 5))) := (Below.refl _ _).alloc (Nat.le_refl _) _
      clear hs2
      have hbs := HB.out.size
      have HTA : Hid (TreeZ (wr.alloc (Obj.cells #[.int .u8 (x / 256 % 256), .int .u8 (x % 256)] 5)) w1.heap.size Z t m a ∧ Below w.heap.size w (wr.alloc (Obj.cells #[.int .u8 (x / 256 % 256), .int .u8 (x % 256)] 5))) := ⟨HT.out.later HBA.out, below_two HB.out HBA.out⟩
      by_cases hneg : x < 0
      · go_wp2_with fail
        have HDE := del_z _ _ Z t m s a HTA.out.1 (by omega) (by omega) (by omega)
        have hdl := delL_length (key := s) (l := a)
        refine HDE.mono ?_
        rintro e w5 ⟨rfl, ho5, Z5, htz5, hz5⟩
        have hb5 : Below w.heap.size w w5 := HTA.out.2.trans (HTA.out.1.below ho5 HS1.out)
        have HF5 : Hid (TreeZ w5 w1.heap.size Z5 t m (delL s a) ∧ (delL s a).length ≤ k + 1 ∧ Below w.heap.size w w5) := ⟨htz5, by omega, hb5⟩
        clear HDE ho5 hz5 HBA HTA hcv htz5 hb5 hdl
        go_wp2
        first | exact ⟨⟨k + 1, Z5, _, hlt, by go_num, HF5.out.2.1, HF5.out.1, HF5.out.2.2⟩, by simp only [intOf]; omega⟩ | (go_roundw; all_goals first | exact ⟨k + 1, Z5, _, hlt, by go_num, HF5.out.2.1, HF5.out.1, HF5.out.2.2⟩ | (simp [intOf]; omega))
      · go_wp2_with fail
        have HPU := put_z _ _ Z t m s ⟨#[]⟩ a HTA.out.1 (by omega) (by omega) (by omega) (by have := HSS.out; omega) (by decide)
        have hpl := putL_length (key := s) (val := ⟨#[]⟩) (l := a)
        refine HPU.mono ?_
        rintro e w5 ⟨rfl, ho5, Z5, htz5, hz5⟩
        have hb5 : Below w.heap.size w w5 := HTA.out.2.trans (HTA.out.1.below ho5 HS1.out)
        have HF5 : Hid (TreeZ w5 w1.heap.size Z5 t m (putL s ⟨#[]⟩ a) ∧ (putL s ⟨#[]⟩ a).length ≤ k + 1 ∧ Below w.heap.size w w5) := ⟨htz5, by omega, hb5⟩
        clear HPU ho5 hz5 HBA HTA hcv htz5 hb5 hpl
        go_wp2
        first | exact ⟨⟨k + 1, Z5, _, hlt, by go_num, HF5.out.2.1, HF5.out.1, HF5.out.2.2⟩, by simp only [intOf]; omega⟩ | (go_roundw; all_goals first | exact ⟨k + 1, Z5, _, hlt, by go_num, HF5.out.2.1, HF5.out.1, HF5.out.2.2⟩ | (simp [intOf]; omega))
    · have hlti : ¬ (k : Int) < (l.length : Int) := by omega
      have hal : a.length ≤ 268435455 := by omega
      go_wp2_with fail
      refine (levels_z wr _ Z t m a HT.out (by omega) (by omega) (by omega)).mono ?_
      rintro e w6 ⟨v6, vs6, ws6, rfl, hlv, hsh, hlo, hw64, hwl⟩
      have HB6 : Hid (Below w.heap.size w w6) := below_two HB.out hlv.bel
      have HT6 : Hid (TreeZ w6 w1.heap.size Z t m a) := HT.out.later hlv.bel
      have HLO : Hid (LowOk ws6 m a.length) := hlo
      obtain ⟨g, gc, rfl, hcc⟩ := hlv.read hsh.ne
      have HC : Hid (∀ i (h : i < ws6.length), ∃ p c, w6.cell? ⟨g, i, none⟩ = some (.slice p (ws6[i]).length c)) := fun i h => by
        obtain ⟨p, c, h1, _⟩ := hcc i h
        exact ⟨p, c, h1⟩
      have hne := hsh.ne
      clear hlv hsh hlo hcc hwl
      obtain ⟨wl, hwl⟩ : ∃ wl, ws6.length = wl := ⟨_, rfl⟩
      have HWL : Hid (ws6.length = wl) := hwl
      rw [hwl] at hne hw64 ⊢
      clear hwl
      go_wp2_with fail
      refine (len_z w6 _ Z t m a HT6.out).mono ?_
      rintro e w7 ⟨rfl, hw7⟩
      subst hw7
      go_wp2_with fail
      go_loopw [13, 14] (fun z i wr2 => ∃ j : Nat, j + 1 ≤ wl ∧ i = .int .i64 ((j : Int) + 1) ∧ z = .int .i64 ((2 * (m / 2) ^ j : Nat) : Int) ∧ wr2 = w7) (fun _ i _ => wl + 1 - (intOf i).toNat)
      case atStart => exact ⟨0, hne, rfl, by simp, rfl⟩
      case round =>
        obtain ⟨j, hj, rfl, rfl, hw2⟩ := hrel
        subst hw2
        have hall : 1 < wl → 2 * (m / 2) ^ (wl - 1) ≤ a.length := fun h => by
          have := HLO.out.all (by rw [HWL.out]; exact h)
          rw [HWL.out] at this
          exact this
        have hmono : ∀ i q, i ≤ q → 2 * (m / 2) ^ i ≤ 2 * (m / 2) ^ q := fun i q h => Nat.mul_le_mul_left 2 (Nat.pow_le_pow_right (by omega) h)
        obtain ⟨T, hT⟩ : ∃ T, 2 * (m / 2) ^ j = T := ⟨_, rfl⟩
        rw [hT]
        by_cases hjl : j + 1 < wl
        · have hjli : (j : Int) + 1 < (wl : Int) := by omega
          have hjw : j + 1 < ws6.length := by rw [HWL.out]; exact hjl
          obtain ⟨p1, c1, hc1⟩ := HC.out (j + 1) hjw
          have h1 := HLO.out.at_ j hjw
          rw [hT] at h1
          obtain ⟨q, hq⟩ : ∃ q, (ws6[j + 1]).length = q := ⟨_, rfl⟩
          rw [hq] at hc1 h1
          have f1 : ¬ (q : Int) < (T : Int) := by omega
          have h2 : 2 * (m / 2) ^ (j + 1) ≤ a.length := Nat.le_trans (hmono _ _ (by omega)) (hall (by omega))
          have h3 : T * (m / 2) = 2 * (m / 2) ^ (j + 1) := by rw [← hT, Nat.pow_succ, Nat.mul_assoc]
          obtain ⟨G, hG⟩ : ∃ G, T * (m / 2) = G := ⟨_, rfl⟩
          have f2 : (T : Int) * ((m : Int) / 2) = (G : Int) := by rw [← hG]; push_cast; rfl
          have f3 : ¬ (2147483647 : Int) < (G : Int) := by omega
          have f4 : G ≤ 268435455 := by omega
          have HG : Hid (2 * (m / 2) ^ (j + 1) = G) := by rw [← h3]; exact hG
          clear hq h1 h2 h3 hG hT hall hmono
          go_wp2
          first | exact ⟨⟨j + 1, by omega, by go_num, by rw [HG.out], trivial⟩, by simp only [intOf]; omega⟩ | exact ⟨⟨j + 1, by omega, by go_num, by rw [HG.out]⟩, by simp only [intOf]; omega⟩ | (go_roundw; all_goals first | exact ⟨j + 1, by omega, by go_num, by rw [HG.out], rfl⟩ | (simp [intOf]; omega))
        · have hjli : ¬ (j : Int) + 1 < (wl : Int) := by omega
          have f0 : (0 : Int) < (wl : Int) := by omega
          by_cases hone : wl = 1
          · have f1 : (wl : Int) = 1 := by omega
            clear hall hmono hT
            go_wp2
            go_ret
            exact ⟨rfl, HB6.out⟩
          · have f1 : ¬ (wl : Int) = 1 := by omega
            have h2 := hall (by omega)
            have f2 : (T : Int) ≤ (a.length : Int) := by
              rw [show wl - 1 = j by omega, hT] at h2
              omega
            clear hall hmono hT h2
            go_wp2
            go_ret
            exact ⟨rfl, HB6.out⟩
end Go.Proofs.Ytlpannicklkghaa
