/- Walks of layer 5, second part: a number as bytes; frames. -/
import Derived.Test.YtckmjmpajbjbkaaGreatDoorD1
import Derived.Test.YtckmjmpajbjbkaaGreatDoorG1
namespace Go.Proofs.YtckmjmpajbjbkaaGreatDoor
open Go.RowKit

theorem bv_set (l : List UInt8) (j : Nat) (c : UInt8) : (bv l).set j (.int .u8 (c.toNat : Int)) = bv (l.set j c) := by simp [bv]
theorem bv_zero (n : Nat) : (madeCells #[.int .u8 0] n).toList = bv (List.replicate n 0) := by
  rw [toList_madeCells_one]
  simp [bv]
theorem own_step {w : World} {B N n g : Nat} {l : List UInt8} (hown : w.ownsRow B 5 1 (.slice (some ⟨g, 0, none⟩) n N) n (bv l)) (q : Nat) (x : Int) (c : UInt8) (hx : x = (c.toNat : Int)) : (w.setCell ⟨g, q, none⟩ (.int .u8 x)).ownsRow B 5 1 (.slice (some ⟨g, 0, none⟩) n N) n (bv (l.set q c)) := by
  subst hx
  rw [← bv_set]
  exact (hown.stored q _).1

/-- The first k of N digits of base 256, zeros behind them. -/
def fl (N n k : Nat) : List UInt8 := (List.range N).map fun j => if j < k then UInt8.ofNat (n / 256 ^ j) else 0
theorem fl_zero (N n : Nat) : fl N n 0 = List.replicate N 0 := by
  apply List.ext_getElem
  · simp [fl]
  · intro i h h'
    simp [fl]
theorem fl_step (N n k : Nat) : (fl N n k).set k (UInt8.ofNat (n / 256 ^ k)) = fl N n (k + 1) := by
  apply List.ext_getElem
  · simp [fl]
  · intro i h h'
    rw [List.getElem_set]
    by_cases e : k = i
    · subst e
      simp [fl]
    · rw [if_neg e]
      simp only [fl, List.getElem_map, List.getElem_range]
      by_cases g : i < k
      · rw [if_pos g, if_pos (by omega)]
      · rw [if_neg g, if_neg (by omega)]
theorem fl_two (n : Nat) : fl 2 n 2 = le2 n := by simp [fl, le2, List.range_succ]
theorem fl_four (n : Nat) : fl 4 n 4 = le4 n := by simp [fl, le4, List.range_succ]

set_option maxHeartbeats 4000000 in
set_option maxRecDepth 100000 in
theorem lowest_any (n N : Nat) (w : World) (hN : N ≤ 8) (hN0 : 0 < N) :
    Calls Tryz.prog 80 #[.int .i64 (n : Int), .int .i64 (N : Int)] w fun e w' => e = .returned (.string ⟨(fl N n N).toArray⟩) ∧ Below w.heap.size w w' := by
  obtain ⟨i0, hi, hz0, hz1, hz2⟩ := info_parts Tryz.info5
  go_enter Tryz.func80, Tryz.ntmps80
  go_wp2_with (first | (at_make; refine wpList_make_full _ rfl _ _ 75 rfl w.heap.size 5 i0 _ 1 Tryz.underlying75 hi hz0 hz1 .i64 .i64 _ _ N rfl rfl ?h1 ?h2 ?h3 ?h4 ?h5 ?_))
  case h1 => omega
  case h2 => omega
  case h3 => rw [hz2]; omega
  case h4 => unfold maxLen; omega
  case h5 => exact Nat.le_refl _
  intro w2 hown2 hgrow2
  have hb2 : Below w.heap.size w w2 := (Below.refl _ _).grown hgrow2 (Nat.le_refl _) (fun k h => by cases h)
  rw [bv_zero] at hown2
  clear hgrow2
  go_wp2
  go_loopw [0, 11] (fun v i wr => ∃ k : Nat, k ≤ N ∧ i = .int .i64 k ∧ (∃ x : Nat, v = .int .i64 (x : Int) ∧ x = n / 256 ^ k) ∧ wr.ownsRow w.heap.size 5 1 (.slice (some ⟨w.heap.size, 0, none⟩) N N) N (bv (fl N n k)) ∧ Below w.heap.size w wr) (fun _ i _ => N - (intOf i).toNat)
  case atStart => exact ⟨0, Nat.zero_le _, rfl, ⟨n, rfl, by simp⟩, by rw [fl_zero]; exact hown2, hb2⟩
  case round =>
    clear hown2 hb2
    obtain ⟨k, hk, rfl, ⟨x, rfl, hx⟩, hown, hb⟩ := hrel
    have hxl : x ≤ n := by rw [hx]; exact Nat.div_le_self _ _
    have HX : Hid (x = n / 256 ^ k) := hx
    clear hx
    have hsz := hb.size
    by_cases hlt : k < N
    · have hlti : (k : Int) < (N : Int) := by omega
      have hfr := hown.frozenAt k
      have hcell := hown.cellAt k (by omega)
      rw [show (bv (fl N n k))[k]? = some (.int .u8 0) by simp [bv, fl, hlt]] at hcell
      have hg1 : w.heap.size < wr.heap.size := (hown.lt _ rfl).2
      go_wp2
      go_roundw
      case rel => exact ⟨k + 1, by omega, by go_num, ⟨x / 256, by go_num, by rw [HX.out, Nat.div_div_eq_div_mul, Nat.pow_succ]⟩, by rw [← fl_step]; exact own_step hown k _ _ (by rw [UInt8.toNat_ofNat', ← HX.out]; first | omega | (rw [IntKind.wrap_u8]; omega)), hb.setCell (p := ⟨w.heap.size, k, none⟩) (Nat.le_refl _) _⟩
      case measure => simp [intOf]; omega
    · obtain rfl : k = N := by omega
      have hconv := (ownB.ofRow hown).str
      go_wp2
      go_ret
      exact ⟨rfl, hb⟩

def wrS (d : ByteArray) : ByteArray := if d.size ≤ 4096 then ⟨(frm d.data.toList).toArray⟩ else ⟨#[]⟩
def wrE (d : ByteArray) : Int := if d.size ≤ 4096 then 0 else 2
theorem ba_eq {s t : ByteArray} (h : s.data.toList = t.data.toList) : s = t := ByteArray.ext (Array.ext' h)

theorem fbelow_two {a b c : World} (h : Below a.heap.size a b) (k : Below b.heap.size b c) : Below a.heap.size a c := h.trans (k.mono h.size)

set_option maxHeartbeats 4000000 in
set_option maxRecDepth 100000 in
theorem wrap_any (d : ByteArray) (w : World) (hd : d.size ≤ 1099511627776) :
    Calls Tryz.prog 51 #[.string d] w fun e w' => e = .returned (.tuple #[.string (wrS d), .int .i64 (wrE d)]) ∧ Below w.heap.size w w' := by
  by_cases hl : d.size ≤ 4096
  · have hli : (d.size : Int) ≤ 4096 := by omega
    have HS : Hid (wrS d = ⟨(frm d.data.toList).toArray⟩) := if_pos hl
    have HE : Hid (wrE d = 0) := if_pos hl
    go_enter Tryz.func51, Tryz.ntmps51
    go_wp2_with fail
    refine (lowest_any d.size 2 _ (by omega) (by omega)).mono ?_
    rintro e w1 ⟨rfl, hb1⟩
    rw [fl_two]
    obtain ⟨c, hc⟩ : ∃ c : ByteArray, c = ⟨(le2 d.size).toArray⟩ := ⟨_, rfl⟩
    have hcs : c.size = 2 := by rw [hc]; rfl
    rw [← hc]
    have HC : Hid (c = ⟨(le2 d.size).toArray⟩) := hc
    clear hc
    go_wp2_with fail
    obtain ⟨m, hm⟩ : ∃ m, c ++ d = m := ⟨_, rfl⟩
    rw [hm]
    have hms : m.size = 2 + d.size := by rw [← hm, ByteArray.size_append, hcs]
    have hml : m.data.toList = le2 d.data.toList.length ++ d.data.toList := by
      rw [← hm, HC.out]
      simp
    have HM : Hid (m.data.toList = le2 d.data.toList.length ++ d.data.toList) := hml
    clear hm hml
    refine (sum_any m _ (by omega)).mono ?_
    rintro e w2 ⟨rfl, hw⟩
    have hw' := hw.symm
    subst hw'
    obtain ⟨X, hX⟩ : ∃ X, crc m.data.toList = X := ⟨_, rfl⟩
    have hXl : X < 4294967296 := by rw [← hX]; exact crc_lt _
    rw [hX]
    have HX : Hid (crc m.data.toList = X) := hX
    clear hX hw
    go_wp2_with fail
    refine (lowest_any X 4 _ (by omega) (by omega)).mono ?_
    rintro e w3 ⟨rfl, hb3⟩
    rw [fl_four]
    obtain ⟨g, hg⟩ : ∃ g : ByteArray, g = ⟨(le4 X).toArray⟩ := ⟨_, rfl⟩
    have hgs : g.size = 4 := by rw [hg]; rfl
    rw [← hg]
    have HG : Hid (g = ⟨(le4 X).toArray⟩) := hg
    clear hg
    have hcg : (c ++ g).size = 6 := by rw [ByteArray.size_append, hcs, hgs]
    go_wp2
    have hend : c ++ g ++ d = wrS d := by
      rw [HS.out]
      apply ba_eq
      rw [HC.out, HG.out, ← HX.out, HM.out]
      simp [frm]
    exact bodyPost_ret (v := .tuple #[.string (wrS d), .int .i64 (wrE d)]) (by rw [HE.out, ← hend]; simp [results, Tryz.results51, go_sem]) rfl ⟨rfl, fbelow_two hb1 hb3⟩
  · have hli : ¬ (d.size : Int) ≤ 4096 := by omega
    rw [show wrS d = ⟨#[]⟩ from if_neg hl, show wrE d = 2 from if_neg hl]
    go_enter Tryz.func51, Tryz.ntmps51
    go_wp2
    exact bodyPost_ret (v := .tuple #[.string ⟨#[]⟩, .int .i64 2]) (by simp [results, Tryz.results51, go_sem]) rfl ⟨rfl, Below.refl _ _⟩

theorem two_bytes (w : World) (a b : UInt8) (t : TypeId) : (convert 75 9 (.slice (some ⟨w.heap.size, 0, none⟩) 2 2)).run Tryz.prog (w.alloc (.cells #[.int .u8 (a.toNat : Int), .int .u8 (b.toNat : Int)] t)) = .ok (.string ⟨#[a, b]⟩) (w.alloc (.cells #[.int .u8 (a.toNat : Int), .int .u8 (b.toNat : Int)] t)) := by
  refine run_convert_bytes_back _ 75 9 5 ⟨w.heap.size, 0, none⟩ 2 [a, b] Tryz.underlying75 Tryz.underlying5 Tryz.underlying9 ?_
  intro j hj
  match j, hj with
  | 0, _ => simp [Addr.add]
  | 1, _ => simp [Addr.add]
theorem four_bytes (w : World) (a b c d : UInt8) (t : TypeId) : (convert 75 9 (.slice (some ⟨w.heap.size, 0, none⟩) 4 4)).run Tryz.prog (w.alloc (.cells #[.int .u8 (a.toNat : Int), .int .u8 (b.toNat : Int), .int .u8 (c.toNat : Int), .int .u8 (d.toNat : Int)] t)) = .ok (.string ⟨#[a, b, c, d]⟩) (w.alloc (.cells #[.int .u8 (a.toNat : Int), .int .u8 (b.toNat : Int), .int .u8 (c.toNat : Int), .int .u8 (d.toNat : Int)] t)) := by
  refine run_convert_bytes_back _ 75 9 5 ⟨w.heap.size, 0, none⟩ 4 [a, b, c, d] Tryz.underlying75 Tryz.underlying5 Tryz.underlying9 ?_
  intro j hj
  match j, hj with
  | 0, _ => simp [Addr.add]
  | 1, _ => simp [Addr.add]
  | 2, _ => simp [Addr.add]
  | 3, _ => simp [Addr.add]

set_option maxHeartbeats 4000000 in
set_option maxRecDepth 100000 in
theorem rwrap_any (d : ByteArray) (w : World) (hd : d.size ≤ 1099511627776) :
    Calls Tryz.prog 68 #[.string d] w fun e w' => e = .returned (.tuple #[.string (wrS d), .int .i64 (wrE d)]) ∧ Below w.heap.size w w' := by
  by_cases hl : d.size ≤ 4096
  · have hli : (d.size : Int) ≤ 4096 := by omega
    have HS : Hid (wrS d = ⟨(frm d.data.toList).toArray⟩) := if_pos hl
    have HE : Hid (wrE d = 0) := if_pos hl
    obtain ⟨a0, ha0⟩ : ∃ a, UInt8.ofNat d.size = a := ⟨_, rfl⟩
    obtain ⟨a1, ha1⟩ : ∃ a, UInt8.ofNat (d.size / 256) = a := ⟨_, rfl⟩
    have h0 : IntKind.u8.wrap (d.size : Int) = (a0.toNat : Int) := by rw [← ha0, UInt8.toNat_ofNat', IntKind.wrap_u8]; omega
    have h1 : IntKind.u8.wrap ((d.size : Int) / 256) = (a1.toNat : Int) := by rw [← ha1, UInt8.toNat_ofNat', IntKind.wrap_u8]; omega
    have HC : Hid (le2 d.size = [a0, a1]) := by unfold le2; rw [ha0, ha1]; exact rfl
    clear ha0 ha1
    have hcv := two_bytes w a0 a1 5
    go_enter Tryz.func68, Tryz.ntmps68
    go_wp2_with fail
    obtain ⟨w1, hw1⟩ : ∃ w1, w1 = w.alloc (.cells #[.int .u8 (a0.toNat : Int), .int .u8 (a1.toNat : Int)] 5) := ⟨_, rfl⟩
    rw [← hw1]
    have hb1 : Below w.heap.size w w1 := by rw [hw1]; exact (Below.refl _ _).alloc (Nat.le_refl _) _
    obtain ⟨c, hc⟩ : ∃ c : ByteArray, c = ⟨#[a0, a1]⟩ := ⟨_, rfl⟩
    have hcs : c.size = 2 := by rw [hc]; rfl
    rw [← hc]
    have HC' : Hid (c = ⟨(le2 d.size).toArray⟩) := by rw [HC.out]; exact hc
    clear hc hw1 hcv HC h0 h1
    obtain ⟨m, hm⟩ : ∃ m, c ++ d = m := ⟨_, rfl⟩
    rw [hm]
    have hms : m.size = 2 + d.size := by rw [← hm, ByteArray.size_append, hcs]
    have hml : m.data.toList = le2 d.data.toList.length ++ d.data.toList := by
      rw [← hm, HC'.out]
      simp
    have HM : Hid (m.data.toList = le2 d.data.toList.length ++ d.data.toList) := hml
    clear hm hml
    refine (rsum_any m _ (by omega)).mono ?_
    rintro e w2 ⟨rfl, hw⟩
    have hw' := hw.symm
    subst hw'
    obtain ⟨X, hX⟩ : ∃ X, crc m.data.toList = X := ⟨_, rfl⟩
    have hXl : X < 4294967296 := by rw [← hX]; exact crc_lt _
    rw [hX]
    have HX : Hid (crc m.data.toList = X) := hX
    clear hX hw
    obtain ⟨b0, hb0⟩ : ∃ a, UInt8.ofNat X = a := ⟨_, rfl⟩
    obtain ⟨b1, hb1'⟩ : ∃ a, UInt8.ofNat (X / 256) = a := ⟨_, rfl⟩
    obtain ⟨b2, hb2⟩ : ∃ a, UInt8.ofNat (X / 65536) = a := ⟨_, rfl⟩
    obtain ⟨b3, hb3⟩ : ∃ a, UInt8.ofNat (X / 16777216) = a := ⟨_, rfl⟩
    have h0 : IntKind.u8.wrap (X : Int) = (b0.toNat : Int) := by rw [← hb0, UInt8.toNat_ofNat', IntKind.wrap_u8]; omega
    have h1 : IntKind.u8.wrap ((X : Int) / 256) = (b1.toNat : Int) := by rw [← hb1', UInt8.toNat_ofNat', IntKind.wrap_u8]; omega
    have h2 : IntKind.u8.wrap ((X : Int) / 65536) = (b2.toNat : Int) := by rw [← hb2, UInt8.toNat_ofNat', IntKind.wrap_u8]; omega
    have h3 : IntKind.u8.wrap ((X : Int) / 16777216) = (b3.toNat : Int) := by rw [← hb3, UInt8.toNat_ofNat', IntKind.wrap_u8]; omega
    have HG : Hid (le4 X = [b0, b1, b2, b3]) := by unfold le4; rw [hb0, hb1', hb2, hb3]; exact rfl
    clear hb0 hb1' hb2 hb3
    have hcv := four_bytes w1 b0 b1 b2 b3 5
    have hgs : (⟨#[b0, b1, b2, b3]⟩ : ByteArray).size = 4 := rfl
    have hcg : (c ++ ⟨#[b0, b1, b2, b3]⟩).size = 6 := by rw [ByteArray.size_append, hcs, hgs]
    go_wp2
    have hend : c ++ ⟨#[b0, b1, b2, b3]⟩ ++ d = wrS d := by
      rw [HS.out]
      apply ba_eq
      unfold frm
      rw [HC'.out, ← HM.out, HX.out, HG.out]
      simp
    exact bodyPost_ret (v := .tuple #[.string (wrS d), .int .i64 (wrE d)]) (by rw [HE.out, ← hend]; simp [results, Tryz.results68, go_sem]) rfl ⟨rfl, fbelow_two hb1 ((Below.refl _ _).alloc (Nat.le_refl _) _)⟩
  · have hli : ¬ (d.size : Int) ≤ 4096 := by omega
    rw [show wrS d = ⟨#[]⟩ from if_neg hl, show wrE d = 2 from if_neg hl]
    go_enter Tryz.func68, Tryz.ntmps68
    go_wp2
    exact bodyPost_ret (v := .tuple #[.string ⟨#[]⟩, .int .i64 2]) (by simp [results, Tryz.results68, go_sem]) rfl ⟨rfl, Below.refl _ _⟩
end Go.Proofs.YtckmjmpajbjbkaaGreatDoor
