/- Walks of layer 1: the document's quoted. -/
import Derived.Test.YtkigilgoolnaaaaDoorV3
import Derived.Test.YtkigilgoolnaaaaDoorW12
import Derived.Deep.RegionLaw
import Derived.Deep.AppendLies
namespace Go.Proofs.YtkigilgoolnaaaaDoor
open Go.RowKit

theorem cell2 (w : World) (t : TypeId) : ∀ j u, (bv [39, 39])[j]? = some u → (w.alloc (.cells #[.int .u8 39, .int .u8 39] t)).cell? ((⟨w.heap.size, 0, none⟩ : Addr).add j) = some u := by
  intro j u hj
  match j, hj with
  | 0, hj => simp [bv] at hj; subst hj; simp [Addr.add]
  | 1, hj => simp [bv] at hj; subst hj; simp [Addr.add]

set_option maxHeartbeats 4000000 in
set_option maxRecDepth 100000 in
theorem quoted_any (s : ByteArray) (w : World) (hs : s.size ≤ 2147483648) :
    Calls Tryd.prog 59 #[.string s] w fun e w' => e = .returned (.string ⟨(quo s).toArray⟩) ∧ Below w.heap.size w w' := by
  obtain ⟨i0, hi, hz0, hz1, hz2⟩ := info_parts Tryd.info5
  go_enter Tryd.func59, Tryd.ntmps59
  go_wp2
  go_loopw [3, 4] (fun v i wr => ∃ (k : Nat) (xs : List UInt8), k ≤ s.size ∧ i = .int .i64 k ∧ xs = 39 :: qbs (s.data.toList.take k) ∧ xs.length ≤ 3 * k + 1 ∧ wr.ownsRow w.heap.size 5 1 v xs.length (bv xs) ∧ Below w.heap.size w wr) (fun _ i _ => s.size - (intOf i).toNat)
  case atStart =>
    refine ⟨0, [39], Nat.zero_le _, rfl, rfl, by simp, ⟨by simp [bv], Or.inr ⟨w.heap.size, 1, #[.int .u8 39], rfl, Nat.le_refl _, ?_, by simp, by decide, by simp, by simp [bv]⟩⟩, (Below.refl _ _).alloc (Nat.le_refl _) _⟩
    exact heap_alloc_new w _
  case round =>
    obtain ⟨k, xs, hk, rfl, hxs, hxl, hown, hb⟩ := hrel
    have hsz := hb.size
    have hlt := hown.lt
    by_cases hlt2 : k < s.size
    · have HQ : Hid (xs ++ qb s[k] = 39 :: qbs (s.data.toList.take (k + 1))) := by
        have : xs ++ qb s[k] = 39 :: qbs (s.data.toList.take (k + 1)) := by rw [qbs_take s k hlt2, hxs]; rfl
        exact this
      have hq3 := qb_len s[k]
      have hcl := UInt8.toNat_lt s[k]
      obtain ⟨c, hc⟩ : ∃ c, s[k] = c := ⟨_, rfl⟩
      rw [hc] at HQ hq3 hcl
      clear hxs
      by_cases c39 : c.toNat = 39
      · rw [qb_mark c39] at HQ
        have e39 : ((c.toNat : Int) == 39) = true := by rw [c39]; rfl
        clear c39 hq3
        go_wp2_with (first | (at_builtin; refine wpList_append_own _ rfl _ _ 60 rfl w.heap.size 5 i0 (.int .u8 0) 1 1 Tryd.underlying60 hi hz0 hz1 hz2 rfl (by decide) _ _ _ rfl (hown.alloc _) ⟨wr.heap.size, 0, none⟩ 2 2 (bv [39, 39]) rfl rfl ?c1 ?c2 ?c3 ?c4 ?c5 ?_))
        case c1 => exact cell2 wr _
        case c2 => exact bv_one _
        case c3 => unfold maxLen; omega
        case c4 => omega
        case c5 => simp; omega
        · intro v1 w1 hown1 hgrow1 _
          rw [← bv_append] at hown1
          have hb1 : Below w.heap.size w w1 := (hb.alloc (by omega) _).grown hgrow1 (by simp; omega) fun k hk => (hlt k hk).1
          clear hgrow1 hown
          go_wp2
          go_roundw
          case rel => exact ⟨k + 1, xs ++ [39, 39], by omega, by go_num, HQ.out, by simp; omega, by simpa using hown1, hb1⟩
          case measure => simp [intOf]; omega
      · have c39' : ((c.toNat : Int) == 39) = false := by rw [beq_eq_false_iff_ne]; omega
        by_cases h2 : c.toNat = 92 ∨ c.toNat < 32 ∨ 126 < c.toNat
        · rw [qb_hex c39 h2] at HQ
          obtain ⟨d, hd⟩ : ∃ d, c.toNat % 16 = d := ⟨_, rfl⟩
          obtain ⟨g, hg⟩ : ∃ g, c.toNat / 16 = g := ⟨_, rfl⟩
          rw [hd, hg] at HQ
          have e1 : (c.toNat : Int).tdiv 16 = (g : Int) := by rw [Int.tdiv_eq_ediv_of_nonneg (by omega)]; omega
          have e2 : (c.toNat : Int).tmod 16 = (d : Int) := by rw [Int.tmod_eq_emod_of_nonneg (by omega)]; omega
          have e3 : (0 : Int) ≤ (g : Int) := by omega
          have eg : IntKind.u8.wrap (g : Int) = g := by rw [IntKind.wrap_u8]; omega
          have e4 : (g : Int) < 16 := by omega
          have e5 : (0 : Int) ≤ (d : Int) := by omega
          have e6 : (d : Int) < 16 := by omega
          have hx1 := fun h => hexd_at g h
          have hx2 := fun h => hexd_at d h
          have h2' : ((c.toNat : Int) < 32) ∨ (¬ (c.toNat : Int) < 32 ∧ 126 < (c.toNat : Int)) ∨ (¬ (c.toNat : Int) < 32 ∧ ¬ 126 < (c.toNat : Int) ∧ ((c.toNat : Int) == 92) = true) := by
            by_cases a : (c.toNat : Int) < 32
            · exact Or.inl a
            · by_cases b : 126 < (c.toNat : Int)
              · exact Or.inr (Or.inl ⟨a, b⟩)
              · exact Or.inr (Or.inr ⟨a, b, by rw [beq_iff_eq]; omega⟩)
          clear h2 hd hg c39 hq3
          rcases h2' with k1 | ⟨k1, k2⟩ | ⟨k1, k2, k3⟩
          all_goals
            go_wp2
            go_region_law (first | (refine step_append_lies _ rfl _ _ 60 rfl w.heap.size 5 i0 (.int .u8 0) 1 1 Tryd.underlying60 hi hz0 hz1 hz2 rfl (by decide) _ xs.length (bv xs) rfl (ownsRow_drew (hown.alloc _)) ⟨wr.heap.size, 0, none⟩ 3 3 (bv [92, hexd g, hexd d]) rfl rfl (cells3 wr (hexd g) (hexd d) _) (bv_one _) (by decide) (by unfold maxLen; omega) (by omega) (by simp; omega) (wr.heap.size + 1) (by simp) ?_; intro g' cap' w1 hown1 hgrow1 _ _))
            all_goals
              rw [← bv_append] at hown1
              have hb1 : Below w.heap.size w w1 := ((hb.alloc (by omega) _).drew).grown hgrow1 (by simp; omega) fun k hk => (hlt k hk).1
              clear hgrow1 hown
              go_wp2
              go_roundw
              case rel => exact ⟨k + 1, xs ++ [92, hexd g, hexd d], by omega, by go_num, HQ.out, by simp; omega, by simpa using hown1, hb1⟩
              case measure => simp [intOf]; omega
        · rw [qb_plain c39 h2] at HQ
          have k1 : ¬ (c.toNat : Int) < 32 := by omega
          have k2 : ¬ 126 < (c.toNat : Int) := by omega
          have k3 : ((c.toNat : Int) == 92) = false := by rw [beq_eq_false_iff_ne]; omega
          clear h2 c39 hq3
          go_wp2_with (first | (at_builtin; refine wpList_append_own _ rfl _ _ 60 rfl w.heap.size 5 i0 (.int .u8 0) 1 1 Tryd.underlying60 hi hz0 hz1 hz2 rfl (by decide) _ _ _ rfl (hown.alloc _) ⟨wr.heap.size, 0, none⟩ 1 1 (bv [c]) rfl rfl ?c1 ?c2 ?c3 ?c4 ?c5 ?_))
          case c1 =>
            intro j u hj
            match j, hj with
            | 0, hj => simp [bv] at hj; subst hj; simp
          case c2 => exact bv_one _
          case c3 => unfold maxLen; omega
          case c4 => omega
          case c5 => first | omega | (simp; omega)
          · intro v1 w1 hown1 hgrow1 _
            rw [← bv_append] at hown1
            have hb1 : Below w.heap.size w w1 := (hb.alloc (by omega) _).grown hgrow1 (by simp; omega) fun k hk => (hlt k hk).1
            clear hgrow1 hown
            go_wp2
            go_roundw
            case rel => exact ⟨k + 1, xs ++ [c], by omega, by go_num, HQ.out, by simp; omega, by simpa using hown1, hb1⟩
            case measure => simp [intOf]; omega
    · have hk' : k = s.size := by omega
      subst hk'
      have htk : s.data.toList.take s.size = s.data.toList := List.take_of_length_le (by simp)
      rw [htk] at hxs
      have HQ : Hid (xs ++ [39] = quo s) := by
        have : xs ++ [39] = quo s := by rw [hxs]; rfl
        exact this
      clear htk hxs
      go_wp2_with (first | (at_builtin; refine wpList_append_own _ rfl _ _ 60 rfl w.heap.size 5 i0 (.int .u8 0) 1 1 Tryd.underlying60 hi hz0 hz1 hz2 rfl (by decide) _ _ _ rfl (hown.alloc _) ⟨wr.heap.size, 0, none⟩ 1 1 (bv [39]) rfl rfl ?c1 ?c2 ?c3 ?c4 ?c5 ?_))
      case c1 => exact cellb wr _ _ _ rfl
      case c2 => exact bv_one _
      case c3 => unfold maxLen; omega
      case c4 => omega
      case c5 => simp; omega
      · intro v1 w1 hown1 hgrow1 _
        rw [← bv_append] at hown1
        obtain ⟨g, cap, rfl, hcv⟩ := own_string hown1 (by simp)
        have hbb : Below w.heap.size w w1 := (hb.alloc (by omega) _).grown hgrow1 (by simp; omega) fun k hk => (hlt k hk).1
        clear hown1 hgrow1 hown hlt
        go_wp2
        go_ret
        exact ⟨by rw [HQ.out]; rfl, hbb⟩
end Go.Proofs.YtkigilgoolnaaaaDoor
