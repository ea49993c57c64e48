/- Walks of layer 1, eleventh part: a byte of a text, quoted. -/
import Derived.Test.YtlooelldkbdomaaGreatDoorW1
import Derived.Test.YtlooelldkbdomaaGreatDoorM5
import Derived.Deep.RegionLaw
import Derived.Deep.AppendLies
namespace Go.Proofs.YtlooelldkbdomaaGreatDoor
open Go.RowKit

/-- Bytes as cells. -/
def bv (l : List UInt8) : List Value := l.map fun b => .int .u8 (b.toNat : Int)
theorem bv_append (l m : List UInt8) : bv (l ++ m) = bv l ++ bv m := List.map_append
theorem bv_length (l : List UInt8) : (bv l).length = l.length := List.length_map _
theorem bv_one (l : List UInt8) : ∀ u ∈ bv l, u.oneCell' = true := by
  intro u hu
  obtain ⟨b, _, rfl⟩ := List.mem_map.1 hu
  rfl
theorem Tryz.info5 : (Tryz.prog.info? 5).map (fun i => (i.zero, i.size, i.bytes)) = some (some (.int .u8 0), 1, 1) := by kernel_rfl

theorem ownsRow_drew {w : World} {base : Nat} {e : TypeId} {size : Nat} {v : Value} {n : Nat} {xs : List Value} (h : w.ownsRow base e size v n xs) : w.drew.ownsRow base e size v n xs := h

set_option maxHeartbeats 1000000 in
theorem aq_mark (B n : Nat) (v : Value) (xs : List UInt8) (w : World) (hown : w.ownsRow B 5 1 v n (bv xs)) (hn : n ≤ 1000000000000) (hB : B ≤ w.heap.size) :
    Calls Tryz.prog 180 #[v, .int .u8 39] w fun e w' => ∃ v', e = .returned v' ∧ w'.ownsRow B 5 1 v' (n + 2) (bv (xs ++ [39, 39])) ∧ Below B w w' := by
  obtain ⟨i0, hi, hz0, hz1, hz2⟩ := info_parts Tryz.info5
  have hlt := hown.lt
  go_enter Tryz.func180, Tryz.ntmps180
  go_wp2_with (first | (at_builtin; refine wpList_append_own _ rfl _ _ 150 rfl B 5 i0 (.int .u8 0) 1 1 Tryz.underlying150 hi hz0 hz1 hz2 rfl (by decide) _ _ _ rfl (hown.alloc _) ⟨w.heap.size, 0, none⟩ 2 2 (bv [39, 39]) rfl rfl ?c1 ?c2 ?c3 ?c4 ?c5 ?_))
  case c1 =>
    intro j u hj
    match j, hj with
    | 0, hj => simp [bv] at hj; subst hj; simp [Addr.add]
    | 1, hj => simp [bv] at hj; subst hj; simp [Addr.add]
  case c2 => exact bv_one _
  case c3 => unfold maxLen; omega
  case c4 => omega
  case c5 => simp; omega
  · intro v' w1 hown' hgrow _
    go_wp2
    go_ret
    refine ⟨_, rfl, by rw [bv_append]; exact hown', ?_⟩
    exact ((Below.refl _ _).alloc hB _).grown hgrow (by simp; omega) fun k hk => (hlt k hk).1

theorem hexd_at (n : Nat) (h : n < (⟨#[48, 49, 50, 51, 52, 53, 54, 55, 56, 57, 97, 98, 99, 100, 101, 102]⟩ : ByteArray).size) :
    (⟨#[48, 49, 50, 51, 52, 53, 54, 55, 56, 57, 97, 98, 99, 100, 101, 102]⟩ : ByteArray)[n]'h = hexd n := by
  unfold hexd
  rw [Array.getD_eq_getD_getElem?, Array.getElem?_eq_getElem (by exact h)]
  rfl
theorem and15 : ∀ c : Fin 256, bits BinOp.and IntKind.u8 ((c.val : Nat) : Int) 15 = ((c.val % 16 : Nat) : Int) := by decide +kernel

theorem cells3 (w : World) (y z : UInt8) (t : TypeId) : ∀ j u, (bv [92, y, z])[j]? = some u →
    ((w.alloc (.cells #[.int .u8 92, .int .u8 (y.toNat : Int), .int .u8 (z.toNat : Int)] t)).drew).cell? ((⟨w.heap.size, 0, none⟩ : Addr).add j) = some u := by
  intro j u hj
  match j, hj with
  | 0, hj => simp [bv] at hj; subst hj; simp [Addr.add]
  | 1, hj => simp [bv] at hj; subst hj; simp [Addr.add]
  | 2, hj => simp [bv] at hj; subst hj; simp [Addr.add]

set_option maxHeartbeats 1000000 in
set_option maxRecDepth 100000 in
theorem aq_hex (B n : Nat) (v : Value) (xs : List UInt8) (c : Nat) (w : World) (hown : w.ownsRow B 5 1 v n (bv xs)) (hn : n ≤ 1000000000000) (hB : B ≤ w.heap.size) (hc : c < 256) (_h1 : ¬ c = 39) (h2 : c = 92 ∨ c < 32 ∨ 126 < c) :
    Calls Tryz.prog 180 #[v, .int .u8 (c : Int)] w fun e w' => ∃ v', e = .returned v' ∧ w'.ownsRow B 5 1 v' (n + 3) (bv (xs ++ [92, hexd (c / 16), hexd (c % 16)])) ∧ Below B w w' := by
  obtain ⟨i0, hi, hz0, hz1, hz2⟩ := info_parts Tryz.info5
  have hlt := hown.lt
  have h1' : ((c : Int) == 39) = false := by simp; omega
  have hb15 := and15 ⟨c, hc⟩
  simp only at hb15
  have e1 : (0 : Int) ≤ (c : Int) / 16 := by omega
  have e2 : (c : Int) / 16 < 16 := by omega
  have e3 : ((c : Int) / 16).toNat = c / 16 := by omega
  obtain ⟨d, hd⟩ : ∃ d, c % 16 = d := ⟨_, rfl⟩
  obtain ⟨g, hg⟩ : ∃ g, c / 16 = g := ⟨_, rfl⟩
  have e4 : (0 : Int) ≤ (d : Int) := by omega
  have e5 : (d : Int) < 16 := by omega
  have hx1 := fun h => hexd_at g h
  have hx2 := fun h => hexd_at d h
  rw [hd] at hb15
  rw [hg] at e3
  rw [hd, hg]
  have h2' : ((c : Int) == 92) = true ∨ (((c : Int) == 92) = false ∧ (c : Int) < 32) ∨ (((c : Int) == 92) = false ∧ ¬ (c : Int) < 32 ∧ 126 < (c : Int)) := by
    by_cases a : c = 92
    · exact Or.inl (by simp [a])
    · by_cases b : (c : Int) < 32
      · exact Or.inr (Or.inl ⟨by simp; omega, b⟩)
      · exact Or.inr (Or.inr ⟨by simp; omega, b, by omega⟩)
  clear h2 hd hg
  rcases h2' with k1 | ⟨k1, k2⟩ | ⟨k1, k2, k3⟩
  all_goals
    go_enter Tryz.func180, Tryz.ntmps180
    go_wp2
    go_region_law (first | (refine step_append_lies _ rfl _ _ 150 rfl B 5 i0 (.int .u8 0) 1 1 Tryz.underlying150 hi hz0 hz1 hz2 rfl (by decide) v n (bv xs) rfl (ownsRow_drew (hown.alloc _)) ⟨w.heap.size, 0, none⟩ 3 3 (bv [92, hexd g, hexd d]) rfl rfl (cells3 w (hexd g) (hexd d) _) (bv_one _) (by decide) (by unfold maxLen; omega) (by omega) (by simp; omega) (w.heap.size + 1) (by simp) ?_; intro g' cap' w1 hown' hgrow _ _))
    all_goals
      go_wp2
      go_ret
      refine ⟨_, rfl, by rw [bv_append]; exact hown', ?_⟩
      exact (((Below.refl _ _).alloc hB _).drew).grown hgrow (by simp; omega) fun k hk => (hlt k hk).1

set_option maxHeartbeats 1000000 in
set_option maxRecDepth 100000 in
theorem aq_plain (B n : Nat) (v : Value) (xs : List UInt8) (c : UInt8) (w : World) (hown : w.ownsRow B 5 1 v n (bv xs)) (hn : n ≤ 1000000000000) (hB : B ≤ w.heap.size) (h1 : ¬ c.toNat = 39) (h2 : ¬ (c.toNat = 92 ∨ c.toNat < 32 ∨ 126 < c.toNat)) :
    Calls Tryz.prog 180 #[v, .int .u8 (c.toNat : Int)] w fun e w' => ∃ v', e = .returned v' ∧ w'.ownsRow B 5 1 v' (n + 1) (bv (xs ++ [c])) ∧ Below B w w' := by
  obtain ⟨i0, hi, hz0, hz1, hz2⟩ := info_parts Tryz.info5
  have hlt := hown.lt
  have h1' : ((c.toNat : Int) == 39) = false := by simp; omega
  have k1 : ((c.toNat : Int) == 92) = false := by simp; omega
  have k2 : ¬ (c.toNat : Int) < 32 := by omega
  have k3 : ¬ 126 < (c.toNat : Int) := by omega
  clear h1 h2
  go_enter Tryz.func180, Tryz.ntmps180
  go_wp2_with (first | (at_builtin; refine wpList_append_own _ rfl _ _ 150 rfl B 5 i0 (.int .u8 0) 1 1 Tryz.underlying150 hi hz0 hz1 hz2 rfl (by decide) _ _ _ rfl (hown.alloc _) ⟨w.heap.size, 0, none⟩ 1 1 (bv [c]) rfl rfl ?c1 ?c2 ?c3 ?c4 ?c5 ?_))
  case c1 =>
    intro j u hj
    match j, hj with
    | 0, hj => simp [bv] at hj; subst hj; simp
  case c2 => exact bv_one _
  case c3 => unfold maxLen; omega
  case c4 => omega
  case c5 => first | omega | (simp; omega)
  · intro v' w1 hown' hgrow _
    go_wp2
    go_ret
    refine ⟨_, rfl, by rw [bv_append]; exact hown', ?_⟩
    exact ((Below.refl _ _).alloc hB _).grown hgrow (by simp; omega) fun k hk => (hlt k hk).1

theorem aq_any (B n : Nat) (v : Value) (xs : List UInt8) (c : UInt8) (w : World) (hown : w.ownsRow B 5 1 v n (bv xs)) (hn : n ≤ 1000000000000) (hB : B ≤ w.heap.size) :
    Calls Tryz.prog 180 #[v, .int .u8 (c.toNat : Int)] w fun e w' => ∃ v', e = .returned v' ∧ w'.ownsRow B 5 1 v' (n + (qb c).length) (bv (xs ++ qb c)) ∧ Below B w w' := by
  by_cases h1 : c.toNat = 39
  · rw [qb_mark h1, h1]
    exact aq_mark B n v xs w hown hn hB
  · by_cases h2 : c.toNat = 92 ∨ c.toNat < 32 ∨ 126 < c.toNat
    · rw [qb_hex h1 h2]
      exact aq_hex B n v xs c.toNat w hown hn hB (UInt8.toNat_lt c) h1 h2
    · rw [qb_plain h1 h2]
      exact aq_plain B n v xs c w hown hn hB h1 h2
end Go.Proofs.YtlooelldkbdomaaGreatDoor
