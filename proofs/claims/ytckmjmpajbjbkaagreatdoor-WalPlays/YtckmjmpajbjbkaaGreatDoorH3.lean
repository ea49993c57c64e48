/- Walks of layer 5, third part: a cursor and what it goes over. -/
import Derived.Test.YtckmjmpajbjbkaaGreatDoorH2
namespace Go.Proofs.YtckmjmpajbjbkaaGreatDoor
open Go.RowKit

/-- A reader at a place of a text. -/
structure Cur (w : World) (g : Nat) (s : ByteArray) (a : Nat) : Prop where
  text : w.cell? ⟨g, 0, none⟩ = some (.string s)
  place : w.cell? ⟨g, 1, none⟩ = some (.int .i64 (a : Int))
  fz : ∀ o, w.frozen? ⟨g, o, none⟩ = false
theorem Cur.kept {w w' : World} {g a : Nat} {s : ByteArray} (h : Cur w g s a) (hk : w'.heap[g]? = w.heap[g]?) : Cur w' g s a :=
  ⟨(World.cell?_of_block (a := ⟨g, 0, none⟩) hk).trans h.text, (World.cell?_of_block (a := ⟨g, 1, none⟩) hk).trans h.place, fun o => (World.frozen?_of_block (a := ⟨g, o, none⟩) hk).trans (h.fz o)⟩
theorem Cur.lt {w : World} {g a : Nat} {s : ByteArray} (h : Cur w g s a) : g < w.heap.size := by
  by_cases k : g < w.heap.size
  · exact k
  · have := h.text
    simp [World.cell?, Array.getElem?_eq_none (by omega : w.heap.size ≤ g)] at this
theorem Cur.later {w w' : World} {g a : Nat} {s : ByteArray} (h : Cur w g s a) (hb : Below w.heap.size w w') : Cur w' g s a := h.kept (hb.block g h.lt)
theorem Cur.moved {w : World} {g a : Nat} {s : ByteArray} (h : Cur w g s a) (b : Nat) : Cur (w.setCell ⟨g, 1, none⟩ (.int .i64 (b : Int))) g s b :=
  ⟨by rw [World.cell?_setCell_other _ _ _ _ (by simp)]; exact h.text, World.cell?_setCell_same _ _ _ h.place, fun o => by rw [World.frozen?_setCell]; exact h.fz o⟩
/-- What a reader's steps turn. -/
def only (g : Nat) : Nat → Prop := fun k => k = g

theorem fmin_eq (a b : Nat) (W : World) : (Builtin.min_ #[3, 3] 3 #[.int .i64 (a : Int), .int .i64 (b : Int)]).run Tryz.prog W = .ok (.int .i64 ((min a b : Nat) : Int)) W := by
  simp [Builtin.min_, Builtin.min2]
  omega

set_option maxHeartbeats 4000000 in
set_option maxRecDepth 100000 in
theorem since_any (w : World) (g a b : Nat) (s : ByteArray) (h : Cur w g s b) (ha : a ≤ b) (hb : b ≤ s.size) :
    Calls Tryz.prog 89 #[.pointer (some ⟨g, 0, none⟩), .int .i64 (a : Int)] w fun e w' => e = .returned (.string (s.extract a b)) ∧ Below w.heap.size w w' := by
  have c0 := h.text
  have c1 := h.place
  have hgl := h.lt
  clear h
  have h1 : (a : Int) ≤ (b : Int) := by omega
  have h2 : (b : Int) ≤ (s.size : Int) := by omega
  go_enter Tryz.func89, Tryz.ntmps89
  go_wp2
  go_quiet (fail)
  go_wp2
  go_ret
  exact ⟨rfl, by (repeat (first | exact Below.refl _ _ | assumption | refine Below.drew ?_ | refine below_drewN ?_ _ | refine Below.alloc ?_ (by first | omega | (simp; done) | (simp; omega)) _ | refine Below.setCell ?_ (by first | omega | (simp; done) | (simp; omega)) _ | refine Below.trans ?_ (Below.mono (by assumption) (by first | omega | (simp; done) | (simp; omega)))))⟩

set_option maxHeartbeats 4000000 in
set_option maxRecDepth 100000 in
theorem back_any (w : World) (g a b : Nat) (s : ByteArray) (h : Cur w g s b) :
    Calls Tryz.prog 90 #[.pointer (some ⟨g, 0, none⟩), .int .i64 (a : Int)] w fun e w' => e = .returned (.tuple #[]) ∧ Cur w' g s a ∧ Only (only g) w w' := by
  have HC : Hid (Cur w g s b) := h
  have c1 := h.place
  have f1 := h.fz 1
  clear h
  go_enter Tryz.func90, Tryz.ntmps90
  go_wp2
  exact bodyPost_end (v := .tuple #[]) (by simp [results, Tryz.results90, go_sem]) rfl ⟨rfl, HC.out.moved a, (Only.refl (only g) _).setCell (p := ⟨g, 1, none⟩) rfl _⟩

set_option maxHeartbeats 4000000 in
set_option maxRecDepth 100000 in
theorem take_any (w : World) (g a c E : Nat) (s : ByteArray) (h : Cur w g s a) (ha : a ≤ s.size) (hs : s.size ≤ 1099511627776) (hE : a + min c (s.size - a) = E) :
    Calls Tryz.prog 88 #[.pointer (some ⟨g, 0, none⟩), .int .i64 (c : Int)] w fun e w' => e = .returned (.string (s.extract a E)) ∧ Cur w' g s E ∧ Only (only g) w w' := by
  have HC : Hid (Cur w g s a) := h
  have c0 := h.text
  have c1 := h.place
  have f1 := h.fz 1
  have hgl := h.lt
  clear h
  obtain ⟨L, hL⟩ : ∃ L, s.size - a = L := ⟨_, rfl⟩
  rw [hL] at hE
  have hLi : (s.size : Int) - (a : Int) = (L : Int) := by omega
  have hmin := fmin_eq c L
  obtain ⟨M, hM⟩ : ∃ M, min c L = M := ⟨_, rfl⟩
  have hML : M ≤ L := by omega
  rw [hM] at hmin hE
  have hEi : (a : Int) + (M : Int) = (E : Int) := by omega
  have HM : Hid (min c L = M) := hM
  clear hM
  go_enter Tryz.func88, Tryz.ntmps88
  go_wp2
  go_region
  all_goals
    go_wp2_with fail
    refine (since_any _ g a E s ((HC.out.moved E).later (Below.refl _ _).drew) (by omega) (by omega)).mono ?_
    rintro e w1 ⟨rfl, hb1⟩
    go_wp2
    go_ret
    exact ⟨rfl, ((HC.out.moved E).later (Below.refl _ _).drew).later hb1, (((Only.refl (only g) _).setCell (p := ⟨g, 1, none⟩) rfl _).drew).later hb1⟩

theorem i64_or_nat (a b : Nat) (ha : a < 65536) (hb : b < 65536) : bits .or .i64 (a : Int) (b : Int) = ((a ||| b : Nat) : Int) := by
  have hx : a ||| b < 2 ^ 16 := Nat.or_lt_two_pow (by omega) (by omega)
  show IntKind.i64.wrap ((BitVec.ofInt 64 (a : Int) ||| BitVec.ofInt 64 (b : Int)).toNat : Int) = _
  rw [BitVec.toNat_or, ofInt_u64 a (by omega), ofInt_u64 b (by omega), IntKind.wrap_i64]
  omega
theorem or_none (b : UInt8) : bits .or .i64 0 (b.toNat : Int) = (b.toNat : Int) := by
  have hb := UInt8.toNat_lt b
  have := i64_or_nat 0 b.toNat (by omega) (by omega)
  rw [Nat.zero_or] at this
  exact this
theorem or_next (a b : UInt8) : bits .or .i64 (a.toNat : Int) ((b.toNat : Int) * 256) = ((a.toNat + 256 * b.toNat : Nat) : Int) := by
  have ha := UInt8.toNat_lt a
  have hb := UInt8.toNat_lt b
  have := i64_or_nat a.toNat (b.toNat * 256) (by omega) (by omega)
  rw [nat_join8' (b.toNat * 256) a.toNat (by omega) (by omega)] at this
  rw [show ((b.toNat : Int) * 256) = ((b.toNat * 256 : Nat) : Int) by omega, this]
  omega

set_option maxHeartbeats 4000000 in
set_option maxRecDepth 100000 in
theorem takeNum_any (w : World) (g a E : Nat) (s : ByteArray) (h : Cur w g s a) (ha : a ≤ s.size) (hs : s.size ≤ 1099511627776) (hE : a + min 2 (s.size - a) = E) :
    Calls Tryz.prog 87 #[.pointer (some ⟨g, 0, none⟩), .int .i64 2] w fun e w' => e = .returned (.int .i64 (cnt (s.data.toList.drop a) : Int)) ∧ Cur w' g s E ∧ Only (only g) w w' := by
  have HC : Hid (Cur w g s a) := h
  clear h
  go_enter Tryz.func87, Tryz.ntmps87
  go_wp2_with fail
  refine (take_any w g a 2 E s HC.out ha hs hE).mono ?_
  rintro e w1 ⟨rfl, hc1, ho1⟩
  obtain ⟨t, ht⟩ : ∃ t, s.extract a E = t := ⟨_, rfl⟩
  have hts : t.size = E - a := by rw [← ht]; simp; omega
  have htl : t.data.toList = (s.data.toList.drop a).take 2 := by
    rw [← ht]
    simp only [ByteArray.data_extract, Array.toList_extract, List.extract_eq_take_drop]
    rw [← hE]
    apply List.ext_getElem?
    intro i
    simp only [List.getElem?_take]
    by_cases h2 : i < 2
    · by_cases hi : i < a + min 2 (s.size - a) - a
      · rw [if_pos hi, if_pos h2]
      · rw [if_neg hi, if_pos h2, List.getElem?_eq_none]
        simp
        omega
    · rw [if_neg (by omega), if_neg h2]
  have hcnt : cnt (s.data.toList.drop a) = cnt t.data.toList := by
    rw [htl]
    match s.data.toList.drop a with
    | [] => rfl
    | [_] => rfl
    | _ :: _ :: _ => rfl
  rw [ht]
  have HCN : Hid (cnt (s.data.toList.drop a) = cnt t.data.toList) := hcnt
  obtain ⟨v, w2, hcv, hob, hvb, hb2, hz2⟩ := ownB.made w1 t (by omega)
  rcases hob with ⟨rfl, _⟩ | ⟨q, cap, rfl, h1, h2, ⟨cur, fr, h3⟩, h4, h5⟩
  · cases hvb
  have hlen : t.data.toList.length = t.size := by simp
  have HF : Hid (Cur w2 g s E ∧ Only (only g) w w2) := ⟨hc1.later hb2, ho1.later hb2⟩
  have ht2 : t.size ≤ 2 := by omega
  have hx : ∀ j (h : j < t.size), w2.cell? ⟨q, j, none⟩ = some (.int .u8 (t[j].toNat : Int)) := fun j h => h5 j (by simpa using h)
  have hpre : ∀ j (h : j < t.data.toList.length), t.data.toList[j] = t[j]'(by simpa using h) := fun j h => rfl
  rw [hlen] at hcv
  clear hc1 ho1 hb2 hz2 hvb h1 h2 h3 h4 h5 htl ht hcnt hE hts
  have h3 : t.size = 0 ∨ t.size = 1 ∨ t.size = 2 := by omega
  rcases h3 with h0 | h0 | h0
  · have HN : Hid (cnt t.data.toList = 0) := by
      have : t.data.toList = [] := List.eq_nil_of_length_eq_zero (by omega)
      rw [this]; exact rfl
    rw [h0] at hcv
    clear hpre hx hlen
    go_wp2
    go_loopw [5, 13] (fun v i wr => v = .int .i64 0 ∧ i = .int .i64 0 ∧ w2 = wr) (fun _ i _ => 2 - (intOf i).toNat)
    case atStart => exact ⟨rfl, rfl, rfl⟩
    case round =>
      obtain ⟨rfl, rfl, rfl⟩ := hrel
      go_wp2
      go_ret
      exact ⟨by rw [HCN.out, HN.out]; rfl, HF.out.1, HF.out.2⟩
  · have HN : Hid (cnt t.data.toList = (t[0]'(by omega)).toNat) := by
      have : t.data.toList = [t[0]'(by omega)] := by
        apply List.ext_getElem
        · simp; omega
        · intro i hi hi'
          obtain rfl : i = 0 := by simpa using hi'
          exact hpre 0 _
      rw [this]; exact rfl
    have x0 := hx 0 (by omega)
    obtain ⟨b0, hb0⟩ : ∃ b, t[0]'(by omega) = b := ⟨_, rfl⟩
    rw [hb0] at x0 HN
    have ho := or_none b0
    have hbl := UInt8.toNat_lt b0
    rw [h0] at hcv
    clear hpre hx hlen hb0
    go_wp2
    go_loopw [5, 13] (fun v i wr => ((v = .int .i64 0 ∧ i = .int .i64 0) ∨ (v = .int .i64 (b0.toNat : Int) ∧ i = .int .i64 1)) ∧ w2 = wr) (fun _ i _ => 2 - (intOf i).toNat)
    case atStart => exact ⟨Or.inl ⟨rfl, rfl⟩, rfl⟩
    case round =>
      obtain ⟨⟨rfl, rfl⟩ | ⟨rfl, rfl⟩, rfl⟩ := hrel
      · go_wp2
        go_roundw
        case rel => exact ⟨Or.inr ⟨rfl, by go_num⟩, by first | rfl | trivial⟩
        case measure => simp [intOf]
      · go_wp2
        go_ret
        exact ⟨by rw [HCN.out, HN.out]; rfl, HF.out.1, HF.out.2⟩
  · have HN : Hid (cnt t.data.toList = (t[0]'(by omega)).toNat + 256 * (t[1]'(by omega)).toNat) := by
      have : t.data.toList = [t[0]'(by omega), t[1]'(by omega)] := by
        apply List.ext_getElem
        · simp; omega
        · intro i hi hi'
          have : i = 0 ∨ i = 1 := by simp at hi'; omega
          rcases this with rfl | rfl
          · exact hpre 0 _
          · exact hpre 1 _
      rw [this]; exact rfl
    have x0 := hx 0 (by omega)
    have x1 := hx 1 (by omega)
    obtain ⟨b0, hb0⟩ : ∃ b, t[0]'(by omega) = b := ⟨_, rfl⟩
    obtain ⟨b1, hb1⟩ : ∃ b, t[1]'(by omega) = b := ⟨_, rfl⟩
    rw [hb0] at x0 HN
    rw [hb1] at x1 HN
    have ho := or_none b0
    have ho1 := or_next b0 b1
    have hbl := UInt8.toNat_lt b0
    have hbl1 := UInt8.toNat_lt b1
    rw [h0] at hcv
    obtain ⟨N, hN⟩ : ∃ N, b0.toNat + 256 * b1.toNat = N := ⟨_, rfl⟩
    rw [hN] at HN ho1
    clear hpre hx hlen hb0 hb1 hN
    go_wp2
    go_loopw [5, 13] (fun v i wr => ((v = .int .i64 0 ∧ i = .int .i64 0) ∨ (v = .int .i64 (b0.toNat : Int) ∧ i = .int .i64 1) ∨ (v = .int .i64 (N : Int) ∧ i = .int .i64 2)) ∧ w2 = wr) (fun _ i _ => 2 - (intOf i).toNat)
    case atStart => exact ⟨Or.inl ⟨rfl, rfl⟩, rfl⟩
    case round =>
      obtain ⟨⟨rfl, rfl⟩ | ⟨rfl, rfl⟩ | ⟨rfl, rfl⟩, rfl⟩ := hrel
      · go_wp2
        go_roundw
        case rel => exact ⟨Or.inr (Or.inl ⟨rfl, by go_num⟩), by first | rfl | trivial⟩
        case measure => simp [intOf]
      · go_wp2
        go_roundw
        case rel => exact ⟨Or.inr (Or.inr ⟨rfl, by go_num⟩), by first | rfl | trivial⟩
        case measure => simp [intOf]
      · go_wp2
        go_ret
        exact ⟨by rw [HCN.out, HN.out]; rfl, HF.out.1, HF.out.2⟩
end Go.Proofs.YtckmjmpajbjbkaaGreatDoor
