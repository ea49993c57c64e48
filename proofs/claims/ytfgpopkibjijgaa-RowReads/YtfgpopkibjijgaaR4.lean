/- Walks of layer 3, fourth part: the bytes of some values' kinds. -/
import Derived.Test.YtfgpopkibjijgaaR3
import Derived.OwnWalk
import Derived.BigRegion
namespace Go.Proofs.Ytfgpopkibjijgaa
open Go.RowKit

theorem bv_set (l : List UInt8) (j : Nat) (c : UInt8) : (bv l).set j (.int .u8 (c.toNat : Int)) = bv (l.set j c) := by simp [bv]
theorem bv_zero (n : Nat) : (madeCells #[.int .u8 0] n).toList = bv (List.replicate n 0) := by
  rw [toList_madeCells_one]
  simp [bv]
theorem kq_or : ∀ (X : Fin 64) (K : Fin 4), (X.val < 1 → bits BinOp.or IntKind.u8 (X.val : Int) (K.val : Int) = ((X.val + 1 * K.val : Nat) : Int)) ∧ (X.val < 4 → bits BinOp.or IntKind.u8 (X.val : Int) ((K.val : Int) * 4) = ((X.val + 4 * K.val : Nat) : Int)) ∧ (X.val < 16 → bits BinOp.or IntKind.u8 (X.val : Int) ((K.val : Int) * 16) = ((X.val + 16 * K.val : Nat) : Int)) ∧ bits BinOp.or IntKind.u8 (X.val : Int) ((K.val : Int) * 64) = ((X.val + 64 * K.val : Nat) : Int) := by decide +kernel

theorem own_step {w : World} {B N n g : Nat} {l : List UInt8} (hown : w.ownsRow B 5 1 (.slice (some ⟨g, 0, none⟩) n N) n (bv l)) (q : Nat) (x : Int) (c : UInt8) (hx : x = (c.toNat : Int)) : (w.setCell ⟨g, q, none⟩ (.int .u8 x)).ownsRow B 5 1 (.slice (some ⟨g, 0, none⟩) n N) n (bv (l.set q c)) := by
  subst hx
  rw [← bv_set]
  exact (hown.stored q _).1

set_option maxHeartbeats 4000000 in
set_option maxRecDepth 100000 in
theorem pack_any (a : Option Addr) (cap : Nat) (vs : List V3) (w : World) (hlen : vs.length ≤ 16) (hrt : ∀ v ∈ vs, V3.right v = true) (hrow : Row w a vs) :
    Calls Try.prog 16 #[.slice a vs.length cap] w fun e w' => ∃ v', e = .returned v' ∧ w'.ownsRow w.heap.size 5 1 v' ((vs.length + 3) / 4) (bv (pk ((vs.length + 3) / 4) vs)) ∧ Below w.heap.size w w' := by
  obtain ⟨i0, hi, hz0, hz1, hz2⟩ := info_parts Try.info5
  have HR : Hid (Row w a vs) := hrow
  have HT : Hid (∀ v ∈ vs, V3.right v = true) := hrt
  clear hrow hrt
  obtain ⟨N, hN⟩ : ∃ N, (vs.length + 3) / 4 = N := ⟨_, rfl⟩
  have HN : Hid ((vs.length + 3) / 4 = N) := hN
  have hN4 : N ≤ 4 := by omega
  have hNi : (((vs.length + 3) / 4 : Nat) : Int) = (N : Int) := by rw [hN]
  rw [hN]
  clear hN
  go_enter Try.func16, Try.ntmps16
  go_wp2_with fail
  refine (kbytes_any vs.length _ (by omega)).mono ?_
  rintro e w1 ⟨rfl, rfl⟩
  rw [hNi]
  clear hNi
  go_wp2_with (first | (at_make; refine wpList_make_full _ rfl _ _ 40 rfl w1.heap.size 5 i0 _ 1 Try.underlying40 hi hz0 hz1 .i64 .i64 _ _ N rfl rfl ?h1 ?h2 ?h3 ?h4 ?h5 ?_))
  case h1 => omega
  case h2 => omega
  case h3 => rw [hz2]; omega
  case h4 => unfold maxLen; omega
  case h5 => exact Nat.le_refl _
  intro w2 hown2 hgrow2
  have hb2 : Below w1.heap.size w1 w2 := (Below.refl _ _).grown hgrow2 (Nat.le_refl _) (fun k h => by cases h)
  rw [bv_zero] at hown2
  clear hgrow2
  go_wp2
  go_loopw [12] (fun i wr => ∃ k : Nat, k ≤ vs.length ∧ i = .int .i64 k ∧ wr.ownsRow w1.heap.size 5 1 (.slice (some ⟨w1.heap.size, 0, none⟩) N N) N (bv (pk N (vs.take k))) ∧ Below w1.heap.size w1 wr) (fun i _ => vs.length - (intOf i).toNat)
  case atStart => exact ⟨0, Nat.zero_le _, rfl, by rw [pk_zero]; exact hown2, hb2⟩
  case round =>
    clear hown2 hb2
    obtain ⟨k, hk, rfl, hown, hb⟩ := hrel
    have hsz := hb.size
    by_cases hlt : k < vs.length
    · obtain ⟨b, off, rfl, c0, c1, c2⟩ := HR.out k hlt
      have hbz := cell_lt c0
      have d0 := cell_later hb c0
      have d1 := cell_later hb c1
      have d2 := cell_later hb c2
      clear c0 c1 c2
      have hqN : k / 4 < N := by have := HN.out; omega
      obtain ⟨q, hq⟩ : ∃ q, k / 4 = q := ⟨_, rfl⟩
      rw [hq] at hqN
      have hqi : (k : Int) / 4 = (q : Int) := by omega
      have hq0 : (0 : Int) ≤ (q : Int) := by omega
      have hq1 : (q : Int) < (N : Int) := by omega
      have hXl := kq_take_lt HT.out k
      rw [hq] at hXl
      have hcell := hown.cellAt q (by omega)
      have hatp : (bv (pk N (vs.take k)))[q]? = some (.int .u8 ((kq (vs.take k) q : Nat) : Int)) := by
        have h64 : q4 (k % 4) ≤ 64 := by unfold q4; split <;> (try split) <;> (try split) <;> omega
        have h1 : q < (pk N (vs.take k)).length := by rw [pk_length]; exact hqN
        simp only [bv, List.getElem?_map, List.getElem?_eq_getElem h1, pk_at hqN, Option.map_some, UInt8.toNat_ofNat']
        rw [Nat.mod_eq_of_lt (by omega)]
      rw [hatp] at hcell
      have hfr := hown.frozenAt q
      have hstep := pk_step (n := N) hlt
      obtain ⟨K, hK, hK4⟩ : ∃ K : Nat, (vs[k]).1 = (K : Int) ∧ K < 4 := by
        rcases right_kind (HT.out _ (List.getElem_mem hlt)) with h | h | h | h
        · exact ⟨0, by omega, by omega⟩
        · exact ⟨1, by omega, by omega⟩
        · exact ⟨2, by omega, by omega⟩
        · exact ⟨3, by omega, by omega⟩
      rw [kOf_at hlt, hK, hq] at hstep
      rw [hK] at d0
      obtain ⟨X, hX⟩ : ∃ X, kq (vs.take k) q = X := ⟨_, rfl⟩
      rw [hX] at hcell hstep hXl
      have HS : Hid (pk N (vs.take (k + 1)) = (pk N (vs.take k)).set q (UInt8.ofNat (X + q4 (k % 4) * (K : Int).toNat))) := hstep
      have hg1 : w1.heap.size < wr.heap.size := (hown.lt _ rfl).2
      have hkw : IntKind.u8.wrap (K : Int) = (K : Int) := by rw [IntKind.wrap_u8]; omega
      clear hstep hX hatp hK hq
      have hr4 : k % 4 = 0 ∨ k % 4 = 1 ∨ k % 4 = 2 ∨ k % 4 = 3 := by omega
      rcases hr4 with hr | hr | hr | hr
      · have hri : (k : Int) % 4 = 0 := by omega
        rw [hr, show q4 0 = 1 from rfl] at hXl
        have hkw2 : IntKind.u8.wrap (K : Int) = (K : Int) := by rw [IntKind.wrap_u8]; omega
        have HB : Hid (bits BinOp.or IntKind.u8 (X : Int) (K : Int) = ((UInt8.ofNat (X + q4 (k % 4) * (K : Int).toNat)).toNat : Int)) := by
          have e : bits BinOp.or IntKind.u8 (X : Int) (K : Int) = ((UInt8.ofNat (X + q4 (k % 4) * (K : Int).toNat)).toNat : Int) := by
            have := (kq_or ⟨X, by omega⟩ ⟨K, hK4⟩).1
            rw [hr, show q4 0 = 1 from rfl, Int.toNat_natCast, UInt8.toNat_ofNat', Nat.mod_eq_of_lt (by omega)]
            exact this (by simpa using hXl)
          exact e
        go_wp2
        go_region
        all_goals
          go_wp2
          go_roundw
          case rel => exact ⟨k + 1, by omega, by go_num, by rw [HS.out]; exact (own_step hown q _ _ HB.out).alloc _, ((hb.setCell (p := ⟨w1.heap.size, q, none⟩) (Nat.le_refl _) _).alloc (by simp; omega) _).drew⟩
          case measure => simp [intOf]; omega
      · have hri : (k : Int) % 4 = 1 := by omega
        rw [hr, show q4 1 = 4 from rfl] at hXl
        have hkw2 : IntKind.u8.wrap ((K : Int) * 4) = ((K : Int) * 4) := by rw [IntKind.wrap_u8]; omega
        have HB : Hid (bits BinOp.or IntKind.u8 (X : Int) ((K : Int) * 4) = ((UInt8.ofNat (X + q4 (k % 4) * (K : Int).toNat)).toNat : Int)) := by
          have e : bits BinOp.or IntKind.u8 (X : Int) ((K : Int) * 4) = ((UInt8.ofNat (X + q4 (k % 4) * (K : Int).toNat)).toNat : Int) := by
            have := (kq_or ⟨X, by omega⟩ ⟨K, hK4⟩).2.1
            rw [hr, show q4 1 = 4 from rfl, Int.toNat_natCast, UInt8.toNat_ofNat', Nat.mod_eq_of_lt (by omega)]
            exact this (by simpa using hXl)
          exact e
        go_wp2
        go_region
        all_goals
          go_wp2
          go_roundw
          case rel => exact ⟨k + 1, by omega, by go_num, by rw [HS.out]; exact (own_step hown q _ _ HB.out).alloc _, ((hb.setCell (p := ⟨w1.heap.size, q, none⟩) (Nat.le_refl _) _).alloc (by simp; omega) _).drew⟩
          case measure => simp [intOf]; omega
      · have hri : (k : Int) % 4 = 2 := by omega
        rw [hr, show q4 2 = 16 from rfl] at hXl
        have hkw2 : IntKind.u8.wrap ((K : Int) * 16) = ((K : Int) * 16) := by rw [IntKind.wrap_u8]; omega
        have HB : Hid (bits BinOp.or IntKind.u8 (X : Int) ((K : Int) * 16) = ((UInt8.ofNat (X + q4 (k % 4) * (K : Int).toNat)).toNat : Int)) := by
          have e : bits BinOp.or IntKind.u8 (X : Int) ((K : Int) * 16) = ((UInt8.ofNat (X + q4 (k % 4) * (K : Int).toNat)).toNat : Int) := by
            have := (kq_or ⟨X, by omega⟩ ⟨K, hK4⟩).2.2.1
            rw [hr, show q4 2 = 16 from rfl, Int.toNat_natCast, UInt8.toNat_ofNat', Nat.mod_eq_of_lt (by omega)]
            exact this (by simpa using hXl)
          exact e
        go_wp2
        go_region
        all_goals
          go_wp2
          go_roundw
          case rel => exact ⟨k + 1, by omega, by go_num, by rw [HS.out]; exact (own_step hown q _ _ HB.out).alloc _, ((hb.setCell (p := ⟨w1.heap.size, q, none⟩) (Nat.le_refl _) _).alloc (by simp; omega) _).drew⟩
          case measure => simp [intOf]; omega
      · have hri : (k : Int) % 4 = 3 := by omega
        rw [hr, show q4 3 = 64 from rfl] at hXl
        have hkw2 : IntKind.u8.wrap ((K : Int) * 64) = ((K : Int) * 64) := by rw [IntKind.wrap_u8]; omega
        have HB : Hid (bits BinOp.or IntKind.u8 (X : Int) ((K : Int) * 64) = ((UInt8.ofNat (X + q4 (k % 4) * (K : Int).toNat)).toNat : Int)) := by
          have e : bits BinOp.or IntKind.u8 (X : Int) ((K : Int) * 64) = ((UInt8.ofNat (X + q4 (k % 4) * (K : Int).toNat)).toNat : Int) := by
            have := (kq_or ⟨X, by omega⟩ ⟨K, hK4⟩).2.2.2
            rw [hr, show q4 3 = 64 from rfl, Int.toNat_natCast, UInt8.toNat_ofNat', Nat.mod_eq_of_lt (by omega)]
            exact this
          exact e
        go_wp2
        go_region
        all_goals
          go_wp2
          go_roundw
          case rel => exact ⟨k + 1, by omega, by go_num, by rw [HS.out]; exact (own_step hown q _ _ HB.out).alloc _, ((hb.setCell (p := ⟨w1.heap.size, q, none⟩) (Nat.le_refl _) _).alloc (by simp; omega) _).drew⟩
          case measure => simp [intOf]; omega
    · have hk' : k = vs.length := by omega
      subst hk'
      rw [List.take_length] at hown
      go_wp2
      go_ret
      exact ⟨_, rfl, hown, hb⟩
end Go.Proofs.Ytfgpopkibjijgaa
