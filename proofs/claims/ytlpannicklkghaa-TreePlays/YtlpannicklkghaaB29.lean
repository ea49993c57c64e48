/- Walks of layer 7: weighs, same. -/
import Derived.Test.YtlpannicklkghaaB24
namespace Go.Proofs.Ytlpannicklkghaa
open Go.RowKit

/-- One of a script. -/
structure OpS where
  what : Int
  key : ByteArray
  val : ByteArray
  n : Int
structure OpAt7 (w : World) (b off : Nat) (x : OpS) : Prop where
  c0 : w.cell? ⟨b, off, none⟩ = some (.int .i64 x.what)
  c1 : w.cell? ⟨b, off + 1, none⟩ = some (.string x.key)
  c2 : w.cell? ⟨b, off + 2, none⟩ = some (.string x.val)
  c3 : w.cell? ⟨b, off + 3, none⟩ = some (.int .i64 x.n)
def ORow7 (w : World) (p : Option Addr) (l : List OpS) : Prop := ∀ i (h : i < l.length), ∃ b off, p = some ⟨b, off, none⟩ ∧ OpAt7 w b (off + i * 4) l[i]
theorem OpAt7.later {w w' : World} {b off : Nat} {x : OpS} (h : OpAt7 w b off x) (hb : Below w.heap.size w w') : OpAt7 w' b off x := ⟨cell_later hb h.c0, cell_later hb h.c1, cell_later hb h.c2, cell_later hb h.c3⟩
theorem ORow7.later {w w' : World} {p : Option Addr} {l : List OpS} (h : ORow7 w p l) (hb : Below w.heap.size w w') : ORow7 w' p l := fun i hi => by
  obtain ⟨b, off, e, hc⟩ := h i hi
  exact ⟨b, off, e, hc.later hb⟩
def Sm7 (x : Pr) : Prop := x.1.size ≤ 2147483647 ∧ x.2.size ≤ 2147483647
def So7 (x : OpS) : Prop := x.key.size ≤ 2147483647 ∧ x.val.size ≤ 2147483647

set_option maxHeartbeats 16000000 in
set_option maxRecDepth 100000 in
theorem weighs7_any (w : World) (p q : Option Addr) (c d : Nat) (l : List Pr) (s : List OpS) (hls : l.length + s.length ≤ 9223372036854775807) (hp : PRow w p l) (hq : ORow7 w q s) :
    Calls Try.prog 9 #[.slice p l.length c, .slice q s.length d] w fun e w' => ∃ m : Nat, e = .returned (.int .i64 (m : Int)) ∧ (m ≤ 2147483647 → l.length + s.length ≤ m ∧ (∀ x ∈ l, Sm7 x) ∧ ∀ x ∈ s, So7 x) ∧ Below w.heap.size w w' := by
  have HP : Hid (PRow w p l) := hp
  have HQ : Hid (ORow7 w q s) := hq
  clear hp hq
  go_enter Try.func9, Try.ntmps9
  go_wp2
  go_loopw [5, 6] (fun z i wr => ∃ (k m : Nat), k ≤ l.length ∧ i = .int .i64 (k : Int) ∧ z = .int .i64 (m : Int) ∧ m ≤ 9223372036854775807 ∧ l.length + s.length ≤ m ∧ (m ≤ 2147483647 → ∀ j (h : j < l.length), j < k → Sm7 l[j]) ∧ Below w.heap.size w wr) (fun _ i _ => l.length - (intOf i).toNat)
  case atStart => exact ⟨0, l.length + s.length, Nat.zero_le _, rfl, by go_num, by omega, Nat.le_refl _, fun _ j _ h => absurd h (Nat.not_lt_zero _), Below.refl _ _⟩
  case round =>
    obtain ⟨k, m, hk, rfl, rfl, hm, hlm, hall, hb⟩ := hrel
    have HA : Hid (m ≤ 2147483647 → ∀ j (h : j < l.length), j < k → Sm7 l[j]) := hall
    have HLM : Hid (l.length + s.length ≤ m) := hlm
    have HB : Hid (Below w.heap.size w wr) := hb
    clear hall hlm hb
    by_cases hin : k < l.length ∧ m ≤ 2147483647
    · obtain ⟨hlt, hm1⟩ := hin
      have hlti : (k : Int) < (l.length : Int) := by omega
      have hm1i : (m : Int) ≤ 2147483647 := by omega
      obtain ⟨b, off, rfl, d0, d1⟩ := (HP.out.later HB.out) k hlt
      obtain ⟨x, hx⟩ : ∃ x, l[k] = x := ⟨_, rfl⟩
      rw [hx] at d0 d1
      have HLT : Hid (k < l.length) := hlt
      have HX : Hid (∀ h : k < l.length, l[k]'h = x) := fun _ => hx
      obtain ⟨D, hD⟩ : ∃ D, x.1 = D := ⟨_, rfl⟩
      obtain ⟨K, hK⟩ : ∃ K, x.2 = K := ⟨_, rfl⟩
      have HDK : Hid (x.1 = D ∧ x.2 = K) := ⟨hD, hK⟩
      rw [hD] at d0
      rw [hK] at d1
      clear hx hD hK
      by_cases hbig : D.size ≤ 2147483647
      · by_cases hbig2 : K.size ≤ 2147483647
        · have hbi : ¬ (2147483647 : Int) < (D.size : Int) := by omega
          have hbi2 : ¬ (2147483647 : Int) < (K.size : Int) := by omega
          obtain ⟨E, hE⟩ : ∃ E, m + D.size = E := ⟨_, rfl⟩
          have hEi : (m : Int) + (D.size : Int) = (E : Int) := by omega
          obtain ⟨G, hG⟩ : ∃ G, E + K.size = G := ⟨_, rfl⟩
          have hGi : (E : Int) + (K.size : Int) = (G : Int) := by omega
          have HE : Hid (m + D.size + K.size = G ∧ D.size ≤ 2147483647 ∧ K.size ≤ 2147483647) := ⟨by omega, hbig, hbig2⟩
          have hE3 : E ≤ 4000000000000000 := by omega
          have hG3 : G ≤ 10000000000 := by omega
          clear hE hG
          go_wp2
          go_quiet (fail)
          go_wp2
          go_roundw
          case rel =>
            refine ⟨k + 1, G, HLT.out, by go_num, rfl, by omega, by have := HLM.out; have := HE.out.1; omega, fun hGs j h hj => ?_, below_drewN HB.out _⟩
            by_cases e : j = k
            · subst e
              rw [HX.out]
              exact ⟨by rw [HDK.out.1]; exact HE.out.2.1, by rw [HDK.out.2]; exact HE.out.2.2⟩
            · exact HA.out hm1 j h (by omega)
          case measure => have := HLT.out; simp [intOf]; omega
        · have hbi : ¬ (2147483647 : Int) < (D.size : Int) := by omega
          have hbi2 : (2147483647 : Int) < (K.size : Int) := by omega
          go_wp2
          go_ret
          exact ⟨2147483648, rfl, fun h => by omega, HB.out⟩
      · have hbi : (2147483647 : Int) < (D.size : Int) := by omega
        go_wp2
        go_ret
        exact ⟨2147483648, rfl, fun h => by omega, HB.out⟩
    · have hex : (¬ k < l.length) ∨ (k < l.length ∧ ¬ m ≤ 2147483647) := by omega
      have HA2 : Hid (m ≤ 2147483647 → ∀ x ∈ l, Sm7 x) := fun h x hx => by
        obtain ⟨j, hj, rfl⟩ := List.getElem_of_mem hx
        exact HA.out h j hj (by omega)
      clear HA
      rcases hex with hex | ⟨hex, hex2⟩
      · have hexi : ¬ (k : Int) < (l.length : Int) := by omega
        go_wp2
        go_loopw [5, 7] (fun z i wr => ∃ (k m : Nat), k ≤ s.length ∧ i = .int .i64 (k : Int) ∧ z = .int .i64 (m : Int) ∧ m ≤ 9223372036854775807 ∧ l.length + s.length ≤ m ∧ (m ≤ 2147483647 → ∀ x ∈ l, Sm7 x) ∧ (m ≤ 2147483647 → ∀ j (h : j < s.length), j < k → So7 s[j]) ∧ Below w.heap.size w wr) (fun _ i _ => s.length - (intOf i).toNat)
        case atStart => exact ⟨0, m, Nat.zero_le _, rfl, rfl, hm, HLM.out, HA2.out, fun _ j _ h => absurd h (Nat.not_lt_zero _), HB.out⟩
        case round =>
          clear HA2 HLM HB
          obtain ⟨k, m, hk, rfl, rfl, hm, hlm, hall2, hall, hb⟩ := hrel
          have HA2 : Hid (m ≤ 2147483647 → ∀ x ∈ l, Sm7 x) := hall2
          have HA : Hid (m ≤ 2147483647 → ∀ j (h : j < s.length), j < k → So7 s[j]) := hall
          have HLM : Hid (l.length + s.length ≤ m) := hlm
          have HB : Hid (Below w.heap.size w wr) := hb
          clear hall hall2 hlm hb
          by_cases hin : k < s.length ∧ m ≤ 2147483647
          · obtain ⟨hlt, hm1⟩ := hin
            have hlti : (k : Int) < (s.length : Int) := by omega
            have hm1i : (m : Int) ≤ 2147483647 := by omega
            obtain ⟨b, off, rfl, hop⟩ := (HQ.out.later HB.out) k hlt
            obtain ⟨x, hx⟩ : ∃ x, s[k] = x := ⟨_, rfl⟩
            rw [hx] at hop
            have d0 := hop.c1
            have d1 := hop.c2
            clear hop
            have HLT : Hid (k < s.length) := hlt
            have HX : Hid (∀ h : k < s.length, s[k]'h = x) := fun _ => hx
            obtain ⟨D, hD⟩ : ∃ D, x.key = D := ⟨_, rfl⟩
            obtain ⟨K, hK⟩ : ∃ K, x.val = K := ⟨_, rfl⟩
            have HDK : Hid (x.key = D ∧ x.val = K) := ⟨hD, hK⟩
            rw [hD] at d0
            rw [hK] at d1
            clear hx hD hK
            by_cases hbig : D.size ≤ 2147483647
            · by_cases hbig2 : K.size ≤ 2147483647
              · have hbi : ¬ (2147483647 : Int) < (D.size : Int) := by omega
                have hbi2 : ¬ (2147483647 : Int) < (K.size : Int) := by omega
                obtain ⟨E, hE⟩ : ∃ E, m + D.size = E := ⟨_, rfl⟩
                have hEi : (m : Int) + (D.size : Int) = (E : Int) := by omega
                obtain ⟨G, hG⟩ : ∃ G, E + K.size = G := ⟨_, rfl⟩
                have hGi : (E : Int) + (K.size : Int) = (G : Int) := by omega
                have HE : Hid (m + D.size + K.size = G ∧ D.size ≤ 2147483647 ∧ K.size ≤ 2147483647) := ⟨by omega, hbig, hbig2⟩
                have hE3 : E ≤ 4000000000000000 := by omega
                have hG3 : G ≤ 10000000000 := by omega
                clear hE hG
                go_wp2
                go_quiet (fail)
                go_wp2
                go_roundw
                case rel =>
                  refine ⟨k + 1, G, HLT.out, by go_num, rfl, by omega, by have := HLM.out; have := HE.out.1; omega, fun _ => HA2.out hm1, fun hGs j h hj => ?_, below_drewN HB.out _⟩
                  by_cases e : j = k
                  · subst e
                    rw [HX.out]
                    exact ⟨by rw [HDK.out.1]; exact HE.out.2.1, by rw [HDK.out.2]; exact HE.out.2.2⟩
                  · exact HA.out hm1 j h (by omega)
                case measure => have := HLT.out; simp [intOf]; omega
              · have hbi : ¬ (2147483647 : Int) < (D.size : Int) := by omega
                have hbi2 : (2147483647 : Int) < (K.size : Int) := by omega
                go_wp2
                go_ret
                exact ⟨2147483648, rfl, fun h => by omega, HB.out⟩
            · have hbi : (2147483647 : Int) < (D.size : Int) := by omega
              go_wp2
              go_ret
              exact ⟨2147483648, rfl, fun h => by omega, HB.out⟩
          · by_cases hl4 : k < s.length
            · have hl4i : (k : Int) < (s.length : Int) := by omega
              have hbi4 : ¬ (m : Int) ≤ 2147483647 := by omega
              go_wp2
              go_ret
              exact ⟨m, rfl, fun h => by omega, HB.out⟩
            · have hl4i : ¬ (k : Int) < (s.length : Int) := by omega
              go_wp2
              go_ret
              exact ⟨m, rfl, fun h => ⟨HLM.out, fun a b hab => HA2.out h (a, b) hab, fun x hx => by obtain ⟨j, hj, rfl⟩ := List.getElem_of_mem hx; exact HA.out h j hj (by omega)⟩, HB.out⟩
      · have hexi : (k : Int) < (l.length : Int) := by omega
        have hex2i : ¬ (m : Int) ≤ 2147483647 := by omega
        go_wp2
        go_loopw [5, 7] (fun z i wr => ∃ (k m : Nat), k ≤ s.length ∧ i = .int .i64 (k : Int) ∧ z = .int .i64 (m : Int) ∧ m ≤ 9223372036854775807 ∧ l.length + s.length ≤ m ∧ (m ≤ 2147483647 → ∀ x ∈ l, Sm7 x) ∧ (m ≤ 2147483647 → ∀ j (h : j < s.length), j < k → So7 s[j]) ∧ Below w.heap.size w wr) (fun _ i _ => s.length - (intOf i).toNat)
        case atStart => exact ⟨0, m, Nat.zero_le _, rfl, rfl, hm, HLM.out, HA2.out, fun _ j _ h => absurd h (Nat.not_lt_zero _), HB.out⟩
        case round =>
          clear HA2 HLM HB
          obtain ⟨k, m, hk, rfl, rfl, hm, hlm, hall2, hall, hb⟩ := hrel
          have HA2 : Hid (m ≤ 2147483647 → ∀ x ∈ l, Sm7 x) := hall2
          have HA : Hid (m ≤ 2147483647 → ∀ j (h : j < s.length), j < k → So7 s[j]) := hall
          have HLM : Hid (l.length + s.length ≤ m) := hlm
          have HB : Hid (Below w.heap.size w wr) := hb
          clear hall hall2 hlm hb
          by_cases hin : k < s.length ∧ m ≤ 2147483647
          · obtain ⟨hlt, hm1⟩ := hin
            have hlti : (k : Int) < (s.length : Int) := by omega
            have hm1i : (m : Int) ≤ 2147483647 := by omega
            obtain ⟨b, off, rfl, hop⟩ := (HQ.out.later HB.out) k hlt
            obtain ⟨x, hx⟩ : ∃ x, s[k] = x := ⟨_, rfl⟩
            rw [hx] at hop
            have d0 := hop.c1
            have d1 := hop.c2
            clear hop
            have HLT : Hid (k < s.length) := hlt
            have HX : Hid (∀ h : k < s.length, s[k]'h = x) := fun _ => hx
            obtain ⟨D, hD⟩ : ∃ D, x.key = D := ⟨_, rfl⟩
            obtain ⟨K, hK⟩ : ∃ K, x.val = K := ⟨_, rfl⟩
            have HDK : Hid (x.key = D ∧ x.val = K) := ⟨hD, hK⟩
            rw [hD] at d0
            rw [hK] at d1
            clear hx hD hK
            by_cases hbig : D.size ≤ 2147483647
            · by_cases hbig2 : K.size ≤ 2147483647
              · have hbi : ¬ (2147483647 : Int) < (D.size : Int) := by omega
                have hbi2 : ¬ (2147483647 : Int) < (K.size : Int) := by omega
                obtain ⟨E, hE⟩ : ∃ E, m + D.size = E := ⟨_, rfl⟩
                have hEi : (m : Int) + (D.size : Int) = (E : Int) := by omega
                obtain ⟨G, hG⟩ : ∃ G, E + K.size = G := ⟨_, rfl⟩
                have hGi : (E : Int) + (K.size : Int) = (G : Int) := by omega
                have HE : Hid (m + D.size + K.size = G ∧ D.size ≤ 2147483647 ∧ K.size ≤ 2147483647) := ⟨by omega, hbig, hbig2⟩
                have hE3 : E ≤ 4000000000000000 := by omega
                have hG3 : G ≤ 10000000000 := by omega
                clear hE hG
                go_wp2
                go_quiet (fail)
                go_wp2
                go_roundw
                case rel =>
                  refine ⟨k + 1, G, HLT.out, by go_num, rfl, by omega, by have := HLM.out; have := HE.out.1; omega, fun _ => HA2.out hm1, fun hGs j h hj => ?_, below_drewN HB.out _⟩
                  by_cases e : j = k
                  · subst e
                    rw [HX.out]
                    exact ⟨by rw [HDK.out.1]; exact HE.out.2.1, by rw [HDK.out.2]; exact HE.out.2.2⟩
                  · exact HA.out hm1 j h (by omega)
                case measure => have := HLT.out; simp [intOf]; omega
              · have hbi : ¬ (2147483647 : Int) < (D.size : Int) := by omega
                have hbi2 : (2147483647 : Int) < (K.size : Int) := by omega
                go_wp2
                go_ret
                exact ⟨2147483648, rfl, fun h => by omega, HB.out⟩
            · have hbi : (2147483647 : Int) < (D.size : Int) := by omega
              go_wp2
              go_ret
              exact ⟨2147483648, rfl, fun h => by omega, HB.out⟩
          · by_cases hl4 : k < s.length
            · have hl4i : (k : Int) < (s.length : Int) := by omega
              have hbi4 : ¬ (m : Int) ≤ 2147483647 := by omega
              go_wp2
              go_ret
              exact ⟨m, rfl, fun h => by omega, HB.out⟩
            · have hl4i : ¬ (k : Int) < (s.length : Int) := by omega
              go_wp2
              go_ret
              exact ⟨m, rfl, fun h => ⟨HLM.out, fun a b hab => HA2.out h (a, b) hab, fun x hx => by obtain ⟨j, hj, rfl⟩ := List.getElem_of_mem hx; exact HA.out h j hj (by omega)⟩, HB.out⟩
end Go.Proofs.Ytlpannicklkghaa
