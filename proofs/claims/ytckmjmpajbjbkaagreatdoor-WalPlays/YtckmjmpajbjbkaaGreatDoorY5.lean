/- Walks of the document's log, first part: names and places. -/
import Derived.Test.YtckmjmpajbjbkaaGreatDoorJ8
import Derived.Deep.Upon
import Derived.Test.YtckmjmpajbjbkaaGreatDoorY2
import Derived.Test.YtckmjmpajbjbkaaGreatDoorJ7
namespace Go.Proofs.YtckmjmpajbjbkaaGreatDoor
open Go.RowKit

theorem dig_ext (d : Nat) (h : d < 10) : (⟨#[48, 49, 50, 51, 52, 53, 54, 55, 56, 57]⟩ : ByteArray).extract d (d + 1) = ⟨#[UInt8.ofNat (48 + d)]⟩ := by
  have : ∀ d : Fin 10, (⟨#[48, 49, 50, 51, 52, 53, 54, 55, 56, 57]⟩ : ByteArray).extract d.val (d.val + 1) = ⟨#[UInt8.ofNat (48 + d.val)]⟩ := by decide +kernel
  exact this ⟨d, h⟩
theorem app_dig (c : UInt8) (l : List UInt8) : (⟨#[c]⟩ : ByteArray) ++ (⟨l.toArray⟩ : ByteArray) = ⟨(c :: l).toArray⟩ := by
  apply ba_eq
  simp [ByteArray.data_append]
theorem app_pre (l : List UInt8) : (⟨#[108, 111, 103, 46]⟩ : ByteArray) ++ (⟨l.toArray⟩ : ByteArray) = ⟨(pre4 ++ l).toArray⟩ := by
  apply ba_eq
  simp [ByteArray.data_append, pre4]
def isDig (c : UInt8) : Prop := 48 ≤ c.toNat ∧ c.toNat ≤ 57
theorem digs_dig : ∀ n p, ∀ c ∈ digs n p, isDig c
  | 0, _, c, h => by simp [digs] at h
  | n + 1, p, c, h => by
    rw [digs, List.mem_append, List.mem_singleton] at h
    rcases h with h | rfl
    · exact digs_dig n _ c h
    · have := Nat.mod_lt p (show 0 < 10 by decide)
      unfold isDig
      rw [dig_nat this]
      omega
theorem digs_of : ∀ (n : Nat) (l : List UInt8), l.length = n → (∀ c ∈ l, isDig c) → l = digs n (dval l)
  | 0, l, h, _ => by
    obtain rfl : l = [] := List.eq_nil_of_length_eq_zero h
    rfl
  | n + 1, l, h, hd => by
    obtain ⟨m, c, rfl⟩ := snoc_of (l := l) (by rintro rfl; cases h)
    obtain ⟨c1, c2⟩ := hd c (by simp)
    have ih := digs_of n m (by simpa using h) (fun x hx => hd x (by simp [hx]))
    rw [dval_snoc, digs, show (10 * dval m + (c.toNat - 48)) / 10 = dval m by omega, ← ih, show 48 + (10 * dval m + (c.toNat - 48)) % 10 = c.toNat by omega]
    simp
theorem dval_lt {l : List UInt8} (h : ∀ c ∈ l, isDig c) : dval l < 10 ^ l.length := by
  have e := congrArg dval (digs_of l.length l rfl h)
  rw [dval_digs] at e
  rw [e]
  exact Nat.mod_lt _ (Nat.pow_pos (by decide))
def placeI (n : Nm) : Int := match placeN n with | some p => (p : Int) | none => -1
theorem placeI_long {n : Nm} (h : n.length ≠ 16) : placeI n = -1 := by
  cases e : placeN n with
  | none => simp [placeI, e]
  | some p => exact absurd (by rw [(placeN_iff.1 e).2]; exact nameN_length p) h
theorem placeI_pre {n : Nm} (h : n.take 4 ≠ pre4) : placeI n = -1 := by
  cases e : placeN n with
  | none => simp [placeI, e]
  | some p => exact absurd (by rw [(placeN_iff.1 e).2]; exact nameN_take p) h
theorem placeI_dig {n : Nm} {c : UInt8} (hc : c ∈ n.drop 4) (h : ¬ isDig c) : placeI n = -1 := by
  cases e : placeN n with
  | none => simp [placeI, e]
  | some p =>
    rw [(placeN_iff.1 e).2, nameN_drop] at hc
    exact absurd (digs_dig _ _ c hc) h
theorem placeI_yes {n : Nm} (h1 : n.length = 16) (h2 : n.take 4 = pre4) (h3 : ∀ c ∈ n.drop 4, isDig c) : placeI n = (dval (n.drop 4) : Int) := by
  have hl : (n.drop 4).length = 12 := by simp [h1]
  have e := digs_of 12 (n.drop 4) hl h3
  have e2 : n = nameN (dval (n.drop 4)) := by
    rw [nameN, ← e, ← h2, List.take_append_drop]
  have : placeN n = some (dval (n.drop 4)) := by
    unfold placeN
    rw [if_pos e2]
  simp [placeI, this]

set_option maxHeartbeats 2000000 in
set_option maxRecDepth 100000 in
theorem gname_any (p : Nat) (w : World) (hp : p ≤ 1000000000000) :
    Calls Tryz.prog 65 #[.int .i64 (p : Int)] w fun e w' => e = .returned (.string ⟨(nameN p).toArray⟩) ∧ w' = w := by
  go_enter Tryz.func65, Tryz.ntmps65
  go_wp2
  go_loopw [0, 3, 4] (fun q v i wr => ∃ (k m : Nat), k ≤ 12 ∧ i = .int .i64 k ∧ m = p / 10 ^ k ∧ m ≤ 1000000000000 ∧ q = .int .i64 m ∧ v = .string ⟨(digs k p).toArray⟩ ∧ wr = w) (fun _ _ i _ => 12 - (intOf i).toNat)
  case atStart => exact ⟨0, p, by omega, rfl, by simp, hp, rfl, rfl, rfl⟩
  case round =>
    obtain ⟨k, m, hk, rfl, hm, hm2, rfl, rfl, rfl⟩ := hrel
    by_cases hlt : k < 12
    · obtain ⟨g', hg'⟩ : ∃ g', m / 10 = g' := ⟨_, rfl⟩
      obtain ⟨d', hd'⟩ : ∃ d', m % 10 = d' := ⟨_, rfl⟩
      have HG : Hid (g' = p / 10 ^ (k + 1)) := by
        have : g' = p / 10 ^ (k + 1) := by rw [← hg', hm, Nat.div_div_eq_div_mul, Nat.pow_succ]
        exact this
      obtain ⟨l, hl⟩ : ∃ l, digs k p = l := ⟨_, rfl⟩
      have HD : Hid (digs (k + 1) p = UInt8.ofNat (48 + d') :: l) := by
        have := digs_cons k p
        rw [← hm, hd', hl] at this
        exact this
      have hll : l.length = k := by rw [← hl, digs_length]
      rw [hl]
      have hq : (m : Int).tdiv 10 = (g' : Int) := by rw [Int.tdiv_eq_ediv_of_nonneg (by omega)]; omega
      have hr : (m : Int).tmod 10 = (d' : Int) := by rw [Int.tmod_eq_emod_of_nonneg (by omega)]; omega
      have d0 : ¬ (d' : Int) < 0 := by omega
      have d1 : (0 : Int) ≤ (d' : Int) + 1 := by omega
      have d2 : (d' : Int) + 1 ≤ 10 := by omega
      have d3 : (d' : Int) ≤ (d' : Int) + 1 := by omega
      have d4 : ((d' : Int) + 1).toNat = d' + 1 := by omega
      have d5 := dig_ext d' (by omega)
      obtain ⟨c', hc'⟩ : ∃ c', UInt8.ofNat (48 + d') = c' := ⟨_, rfl⟩
      rw [hc'] at d5 HD
      have d6 := app_dig c' l
      have d7 : ¬ 9223372036854775807 < 1 + l.length := by omega
      have hg2' : g' ≤ 1000000000000 := by omega
      clear hg' hd' hc' hm hl
      go_wp2
      go_roundw
      case rel => exact ⟨k + 1, g', by omega, by go_num, HG.out, hg2', rfl, by rw [HD.out], by first | rfl | trivial⟩
      case measure => simp [intOf]; omega
    · obtain rfl : k = 12 := by omega
      have d6 := app_pre (digs 12 p)
      have hll : (digs 12 p).length = 12 := digs_length _ _
      obtain ⟨l, hl⟩ : ∃ l, digs 12 p = l := ⟨_, rfl⟩
      have HL : Hid (nameN p = pre4 ++ l) := by
        have : nameN p = pre4 ++ l := by rw [← hl]; rfl
        exact this
      rw [hl] at d6 hll ⊢
      have d7 : ¬ 9223372036854775807 < 4 + l.length := by omega
      clear hl hm
      go_wp2
      go_ret
      exact ⟨by rw [HL.out]; rfl, rfl⟩
end Go.Proofs.YtckmjmpajbjbkaaGreatDoor
/- Walks of the document's log, second part: rows of one cell each that may begin behind their block's front. -/
namespace Go.Proofs.YtckmjmpajbjbkaaGreatDoor
open Go.RowKit

/-- A row of elements of one cell each: what it holds, and the room behind it. -/
def Rw (w : World) (v : Value) (xs : List Value) : Prop :=
  ∃ ao b off cap, v = .slice ao xs.length cap ∧ cap ≤ maxLen ∧ (ao = none ∨ ao = some ⟨b, off, none⟩) ∧ Came w 1 ao b off xs.length cap xs
theorem Rw.nil (w : World) : Rw w (.slice none 0 0) [] := ⟨none, 0, 0, 0, rfl, Nat.zero_le _, Or.inl rfl, ⟨Nat.le_refl _, fun h => absurd h (by omega), fun h => absurd h (by omega), rfl, fun j u h => (by cases h), fun j h => by simp at h⟩⟩
theorem came_own {w : World} {ao : Option Addr} {b off n cap : Nat} {xs : List Value} (h : Came w 1 ao b off n cap xs) (hc : 0 < cap) : (Value.slice ao n cap).ownBlock = some b := by
  rw [h.addr hc]
  rfl
theorem Rw.kept {w w' : World} {v : Value} {xs : List Value} (h : Rw w v xs) (hk : ∀ g, v.ownBlock = some g → w'.heap[g]? = w.heap[g]?) : Rw w' v xs := by
  obtain ⟨ao, b, off, cap, rfl, hm, ha, hc⟩ := h
  refine ⟨ao, b, off, cap, rfl, hm, ha, ?_⟩
  rcases Nat.eq_zero_or_pos cap with h0 | h0
  · have hle := hc.le
    obtain rfl : xs = [] := List.eq_nil_of_length_eq_zero (by omega)
    subst h0
    exact ⟨Nat.le_refl _, fun h => absurd h (by omega), fun h => absurd h (by omega), rfl, fun j u h => (by cases h), fun j h => by simp at h⟩
  · have e := hk b (came_own hc h0)
    have hlt := hc.lt h0
    have hlt' : b < w'.heap.size := by
      rcases Nat.lt_or_ge b w'.heap.size with h | h
      · exact h
      · rw [Array.getElem?_eq_none h, Array.getElem?_eq_getElem hlt] at e
        cases e
    exact ⟨hc.le, hc.addr, fun _ => hlt', hc.oldsLen, fun j u hj => (World.cell?_of_block (a := ⟨b, off + j, none⟩) e).trans (hc.olds j u hj), fun j hj => by
      rw [World.cell?_of_block (a := ⟨b, off + xs.length * 1 + j, none⟩) e, World.frozen?_of_block (a := ⟨b, off + xs.length * 1 + j, none⟩) e]
      exact hc.spare j hj⟩
theorem Rw.form {w : World} {v : Value} {xs : List Value} (h : Rw w v xs) : ∃ p cap, v = .slice p xs.length cap ∧ xs.length ≤ cap ∧ cap ≤ maxLen := by
  obtain ⟨ao, b, off, cap, rfl, hm, ha, hc⟩ := h
  exact ⟨ao, cap, rfl, hc.le, hm⟩
theorem Rw.base {w : World} {p : Option Addr} {n cap : Nat} {xs : List Value} (h : Rw w (.slice p n cap) xs) : (p = none ∧ n = 0 ∧ cap = 0 ∧ xs = []) ∨ ∃ b off, p = some ⟨b, off, none⟩ := by
  obtain ⟨ao, b, off, cap', e, hm, ha, hc⟩ := h
  simp only [Value.slice.injEq] at e
  obtain ⟨rfl, rfl, rfl⟩ := e
  rcases ha with rfl | rfl
  · rcases Nat.eq_zero_or_pos cap with h0 | h0
    · have := hc.le
      exact Or.inl ⟨rfl, by omega, h0, List.eq_nil_of_length_eq_zero (by omega)⟩
    · cases hc.addr h0
  · exact Or.inr ⟨b, off, rfl⟩
theorem Rw.at {w : World} {v : Value} {xs : List Value} (h : Rw w v xs) (hn : xs ≠ []) : ∃ b off cap, v = .slice (some ⟨b, off, none⟩) xs.length cap ∧ xs.length ≤ cap ∧ cap ≤ maxLen ∧ b < w.heap.size ∧ ∀ j (h : j < xs.length), w.cell? ⟨b, off + j, none⟩ = some xs[j] := by
  obtain ⟨ao, b, off, cap, rfl, hm, ha, hc⟩ := h
  have hl := List.length_pos_iff.2 hn
  have h0 : 0 < cap := by have := hc.le; omega
  obtain rfl := hc.addr h0
  exact ⟨b, off, cap, rfl, hc.le, hm, hc.lt h0, fun j hj => hc.olds j _ (List.getElem?_eq_getElem hj)⟩
theorem Rw.lt {w : World} {v : Value} {xs : List Value} (h : Rw w v xs) (hn : xs ≠ []) : ∃ b, v.ownBlock = some b ∧ b < w.heap.size := by
  obtain ⟨b, off, cap, rfl, _, _, h1, _⟩ := h.at hn
  exact ⟨b, rfl, h1⟩
/-- The row from an element on. -/
theorem Rw.cut {w : World} {b off n cap : Nat} {xs : List Value} (h : Rw w (.slice (some ⟨b, off, none⟩) n cap) xs) {k : Nat} (hk : k ≤ xs.length) : Rw w (.slice (some ⟨b, off + k, none⟩) (n - k) (cap - k)) (xs.drop k) := by
  obtain ⟨ao, b', off', cap', e, hm, ha, hc⟩ := h
  simp only [Value.slice.injEq] at e
  obtain ⟨rfl, rfl, rfl⟩ := e
  have hle := hc.le
  refine ⟨_, b, off + k, cap - k, by rw [List.length_drop], by omega, Or.inr rfl, ?_⟩
  rcases Nat.eq_zero_or_pos cap with h0 | h0
  · obtain rfl : xs = [] := List.eq_nil_of_length_eq_zero (by omega)
    subst h0
    exact ⟨by simp, fun h => absurd h (by omega), fun h => absurd h (by omega), by simp, fun j u h => by simp at h, fun j h => by simp at h⟩
  · have e := hc.addr h0
    simp only [Option.some.injEq, Addr.mk.injEq, and_true] at e
    obtain ⟨rfl, rfl⟩ := e
    refine ⟨by rw [List.length_drop]; omega, fun _ => rfl, fun _ => hc.lt h0, by simp, fun j u hj => ?_, fun j hj => ?_⟩
    · rw [List.getElem?_drop] at hj
      have := hc.olds (k + j) u hj
      rwa [← Nat.add_assoc] at this
    · rw [List.length_drop] at hj ⊢
      have := hc.spare j (by omega)
      rwa [show off + k + (xs.length - k) * 1 + j = off + xs.length * 1 + j by omega]

/-- The row from an element on, as the model says it. -/
theorem Rw.cutI {w : World} {b off n cap : Nat} {xs : List Value} (h : Rw w (.slice (some ⟨b, off, none⟩) n cap) xs) {k : Nat} (hk : k ≤ xs.length) : Rw w (.slice (if cap = k then some ⟨b, off, none⟩ else some ⟨b, off + k, none⟩) (n - k) (cap - k)) (xs.drop k) := by
  by_cases e : cap = k
  · obtain ⟨p, cap', e', hle, _⟩ := h.form
    simp only [Value.slice.injEq] at e'
    obtain ⟨_, rfl, rfl⟩ := e'
    rw [if_pos e]
    have h0 : xs.drop k = [] := List.drop_eq_nil_of_le (by omega)
    rw [h0, show xs.length - k = 0 by omega, show cap - k = 0 by omega]
    exact ⟨_, b, off, 0, rfl, Nat.zero_le _, Or.inr rfl, ⟨Nat.le_refl _, fun h => absurd h (by omega), fun h => absurd h (by omega), rfl, fun j u h => (by cases h), fun j h => by simp at h⟩⟩
  · rw [if_neg e]
    exact h.cut hk

/-- What is appended. -/
theorem Rw.app {w : World} {v : Value} {xs : List Value} (h : Rw w v xs) {P : Program} (t ty e : TypeId) (z : Value) (bytes : Nat) (ht : P.underlying t = some (.slice e)) (hinfo : ∃ i, P.info? e = some i ∧ i.zero = some z ∧ i.size = 1 ∧ i.bytes = bytes) (hz : z.cells.size = 1) (hb : bytes ≤ 16)
    (x : Value) (news : List Value) (hs : Src P 1 t x news.length news w) (hlen : xs.length + news.length ≤ 4398046511104) :
    ∃ v' w', (Builtin.append_ #[t, t] ty #[v, x]).run P w = .ok v' w' ∧ Rw w' v' (xs ++ news) ∧ w.grownBy w' v.ownBlock ∧ (∀ g, v'.ownBlock = some g → v.ownBlock = some g ∨ w.heap.size ≤ g) := by
  obtain ⟨i, hi, hiz, his, hib⟩ := hinfo
  obtain ⟨ao, b, off, cap, rfl, hm, ha, hc⟩ := h
  have hle := hc.le
  by_cases hroom : xs.length + news.length ≤ cap
  · rcases Nat.eq_zero_or_pos cap with h0 | h0
    · subst h0
      obtain rfl : xs = [] := List.eq_nil_of_length_eq_zero (by omega)
      obtain rfl : news = [] := List.eq_nil_of_length_eq_zero (by omega)
      refine ⟨_, _, run_append_nothing (P := P) w t t ty e i ht hi ao 0 0 (Nat.le_refl _) x (by rw [his]; exact hs), ⟨ao, b, off, 0, rfl, hm, ha, hc⟩, ⟨rfl, rfl, rfl, Nat.le_refl _, fun _ _ _ => rfl⟩, fun g hg => Or.inl hg⟩
    · have hao := hc.addr h0
      subst hao
      have hfree : ∀ j, j < news.length → (w.cell? ⟨b, off + xs.length * 1 + j, none⟩).isSome = true ∧ w.frozen? ⟨b, off + xs.length * 1 + j, none⟩ = false := fun j hj => hc.spare j (by omega)
      have hr := run_append_room_src (P := P) w t t ty e i ht hi b off xs.length cap x news.length news (by rw [his]; exact hs) hroom (by rw [his]; exact fun j hj => (hfree j hj).1) (by rw [his]; exact fun j hj => (hfree j hj).2)
      rw [his] at hr
      refine ⟨_, _, hr, ⟨_, b, off, cap, by rw [List.length_append], hm, Or.inr rfl, ?_⟩, setCells_grown b _ _ w, fun g hg => Or.inl hg⟩
      have hsz : (w.setCells b (off + xs.length * 1) news).heap.size ≥ w.heap.size := (setCells_grown b news _ w).size
      refine ⟨by rw [List.length_append]; exact hroom, fun _ => rfl, fun _ => Nat.lt_of_lt_of_le (hc.lt h0) hsz, by simp, fun j u hj => ?_, fun j hj => ?_⟩
      · by_cases hjx : j < xs.length
        · rw [List.getElem?_append_left hjx] at hj
          rw [World.cell?_setCells_out b _ _ _ _ (fun _ _ => Or.inl (by simp only; omega))]
          exact hc.olds j u hj
        · obtain ⟨d, rfl⟩ : ∃ d, j = xs.length + d := ⟨j - xs.length, by omega⟩
          rw [List.getElem?_append_right (by omega), Nat.add_sub_cancel_left] at hj
          obtain ⟨hd, rfl⟩ := List.getElem?_eq_some_iff.1 hj
          have := World.cell?_setCells_in b news (off + xs.length * 1) w (fun j hj => (hfree j hj).1) d hd
          rwa [show off + (xs.length + d) = off + xs.length * 1 + d by omega]
      · rw [List.length_append] at hj ⊢
        have h1 := hc.spare (news.length + j) (by omega)
        rw [show off + (xs.length + news.length) * 1 + j = off + xs.length * 1 + (news.length + j) by omega]
        rw [World.frozen?_setCells, World.cell?_setCells_out b _ _ _ _ (fun _ _ => Or.inr (by simp only; omega))]
        exact h1
  · have hold : (Builtin.firstCells i.size xs.length (.slice ao xs.length cap)).run P w.drew = .ok xs.toArray w.drew := by
      rw [his]
      rcases Nat.eq_zero_or_pos cap with h0 | h0
      · obtain rfl : xs = [] := List.eq_nil_of_length_eq_zero (by omega)
        cases ao with
        | none => exact run_firstCells_none w.drew 1 0 0 cap
        | some a => exact run_firstCells_some w.drew 1 0 a 0 cap [] rfl (fun j u h => by cases h)
      · rw [hc.addr h0]
        refine run_firstCells_some w.drew 1 xs.length ⟨b, off, none⟩ xs.length cap xs (by simp) fun j u hj => ?_
        rw [Addr.add_lit]
        exact hc.olds j u hj
    have hr := run_append_grow_src (P := P) w t t ty e i z ht hi hiz ao xs.length cap xs hold x news.length news (by rw [his]; exact hs) (by omega) (by omega) (growslice_fits (by omega) (by
      rw [hib]
      calc _ ≤ 4398046511104 * 16 := Nat.mul_le_mul hlen hb
        _ ≤ _ := by decide))
    have hge := grownCap_ge w (xs.length + news.length) cap e
    have hcm := grownCap_le_maxLen w (xs.length + news.length) cap e (by unfold maxLen; omega)
    obtain ⟨c', hc'⟩ : ∃ c', grownCap w (xs.length + news.length) cap e = c' := ⟨_, rfl⟩
    rw [hc'] at hr hge hcm
    have hsz : ((xs ++ news).toArray ++ Builtin.zeroCells z.cells (c' - (xs.length + news.length))).size = c' := by
      rw [Array.size_append, List.size_toArray, List.length_append, size_zeroCells, hz]
      omega
    refine ⟨_, _, hr, ⟨_, w.heap.size, 0, c', by rw [List.length_append], hcm, Or.inr rfl, ?_⟩, ⟨rfl, rfl, rfl, by simp, fun k hk _ => Below.heap_alloc w.drew _ k hk⟩, fun g hg => Or.inr ?_⟩
    · refine ⟨by rw [List.length_append]; exact hge, fun _ => rfl, fun _ => by simp, by simp, fun j u hj => ?_, fun j hj => ⟨?_, ?_⟩⟩
      · rw [Nat.zero_add]
        refine (World.cell?_alloc_new w.drew _ _ j).trans ?_
        have hjl := (List.getElem?_eq_some_iff.1 hj).1
        rw [Array.getElem?_append_left (by simpa using hjl), List.getElem?_toArray]
        exact hj
      · rw [List.length_append] at hj ⊢
        have e1 := World.cell?_alloc_new w.drew ((xs ++ news).toArray ++ Builtin.zeroCells z.cells (c' - (xs.length + news.length))) e (0 + (xs.length + news.length) * 1 + j)
        refine (congrArg Option.isSome e1).trans ?_
        rw [Array.getElem?_eq_getElem (by rw [hsz]; omega)]
        rfl
      · exact World.frozen?_alloc_new w.drew _ _ _
    · have : w.heap.size = g := by simpa [Value.ownBlock] using hg
      omega
end Go.Proofs.YtckmjmpajbjbkaaGreatDoor
/- Walks of the document's log, third part: the log in memory; Base, Next, Read. -/
namespace Go.Proofs.YtckmjmpajbjbkaaGreatDoor
open Go.RowKit

def gcells (c : Nat) (g : Lg) (v2 v4 : Value) : Array Value := #[.pointer (some ⟨c, 0, none⟩), .int .i64 (g.size : Int), v2, .int .i64 (g.frm : Int), v4, .int .i64 (g.safe : Int)]
def stV (l : List Sg) : List Value := l.map fun s => .int .i64 (s.1 : Int)
def reV (l : List (List UInt8)) : List Value := l.map fun d => .string ⟨d.toArray⟩
theorem stV_length (l : List Sg) : (stV l).length = l.length := by simp [stV]
theorem reV_length (l : List (List UInt8)) : (reV l).length = l.length := by simp [reV]
/-- The document's log in memory: its cells, the row of the segments' places, the row of all records. -/
structure GAt (w : World) (Y : Nat → Prop) (l c : Nat) (g : Lg) (v2 v4 : Value) : Prop where
  cells : w.heap[l]? = some (.cells (gcells c g v2 v4) 88 (0, 0))
  zl : Y l
  starts : Rw w v2 (stV g.segs)
  recs : Rw w v4 (reV (recsL g.segs))
  z2 : ∀ k, v2.ownBlock = some k → Y k ∧ k < w.heap.size ∧ k ≠ l
  z4 : ∀ k, v4.ownBlock = some k → Y k ∧ k < w.heap.size ∧ k ≠ l
  apart : ∀ k, v2.ownBlock = some k → v4.ownBlock = some k → False
theorem GAt.lt {w : World} {Y : Nat → Prop} {l c : Nat} {g : Lg} {v2 v4 : Value} (h : GAt w Y l c g v2 v4) : l < w.heap.size := (Array.getElem?_eq_some_iff.1 h.cells).1
theorem GAt.kept {w w' : World} {Y : Nat → Prop} {l c : Nat} {g : Lg} {v2 v4 : Value} (h : GAt w Y l c g v2 v4) (hs : w.heap.size ≤ w'.heap.size) (hk : ∀ k, k < w.heap.size → Y k → w'.heap[k]? = w.heap[k]?) : GAt w' Y l c g v2 v4 :=
  ⟨(hk l h.lt h.zl).trans h.cells, h.zl, h.starts.kept fun k e => hk k (h.z2 k e).2.1 (h.z2 k e).1, h.recs.kept fun k e => hk k (h.z4 k e).2.1 (h.z4 k e).1, fun k e => ⟨(h.z2 k e).1, Nat.lt_of_lt_of_le (h.z2 k e).2.1 hs, (h.z2 k e).2.2⟩, fun k e => ⟨(h.z4 k e).1, Nat.lt_of_lt_of_le (h.z4 k e).2.1 hs, (h.z4 k e).2.2⟩, h.apart⟩
theorem GAt.later {w w' : World} {Y : Nat → Prop} {l c : Nat} {g : Lg} {v2 v4 : Value} (h : GAt w Y l c g v2 v4) (hb : Below w.heap.size w w') : GAt w' Y l c g v2 v4 := h.kept hb.size fun k hk _ => hb.block k hk
theorem GAt.mono {w : World} {Y Y' : Nat → Prop} {l c : Nat} {g : Lg} {v2 v4 : Value} (h : GAt w Y l c g v2 v4) (hy : ∀ k, k < w.heap.size → Y k → Y' k) : GAt w Y' l c g v2 v4 :=
  ⟨h.cells, hy l h.lt h.zl, h.starts, h.recs, fun k e => ⟨hy k (h.z2 k e).2.1 (h.z2 k e).1, (h.z2 k e).2⟩, fun k e => ⟨hy k (h.z4 k e).2.1 (h.z4 k e).1, (h.z4 k e).2⟩, h.apart⟩
structure GCells (w : World) (l c : Nat) (g : Lg) (v2 v4 : Value) : Prop where
  c0 : w.cell? ⟨l, 0, none⟩ = some (.pointer (some ⟨c, 0, none⟩))
  c1 : w.cell? ⟨l, 1, none⟩ = some (.int .i64 (g.size : Int))
  c2 : w.cell? ⟨l, 2, none⟩ = some v2
  c3 : w.cell? ⟨l, 3, none⟩ = some (.int .i64 (g.frm : Int))
  c4 : w.cell? ⟨l, 4, none⟩ = some v4
  c5 : w.cell? ⟨l, 5, none⟩ = some (.int .i64 (g.safe : Int))
  fz : ∀ o, w.frozen? ⟨l, o, none⟩ = false
theorem GAt.gc {w : World} {Y : Nat → Prop} {l c : Nat} {g : Lg} {v2 v4 : Value} (h : GAt w Y l c g v2 v4) : GCells w l c g v2 v4 := by
  have e := h.cells
  refine ⟨?_, ?_, ?_, ?_, ?_, ?_, fun o => ?_⟩ <;> simp [World.cell?, World.frozen?, e, gcells]
/-- A cell of the log is stored. -/
theorem GAt.stored {w : World} {Y : Nat → Prop} {l c : Nat} {g g' : Lg} {v2 v4 : Value} (h : GAt w Y l c g v2 v4) {i : Nat} {u : Value} (hc : (gcells c g v2 v4).setIfInBounds i u = gcells c g' v2 v4) (hs : g'.segs = g.segs) : GAt (w.setCell ⟨l, i, none⟩ u) Y l c g' v2 v4 := by
  have hk : ∀ k, k ≠ l → (w.setCell ⟨l, i, none⟩ u).heap[k]? = w.heap[k]? := fun k hk => Below.heap_setCell _ _ _ _ (by simpa using hk)
  have hsz : (w.setCell ⟨l, i, none⟩ u).heap.size = w.heap.size := by simp [World.setCell]
  exact ⟨by rw [← hc]; exact heap_setCell_at h.cells u, h.zl, by rw [hs]; exact h.starts.kept fun k e => hk k (h.z2 k e).2.2, by rw [hs]; exact h.recs.kept fun k e => hk k (h.z4 k e).2.2, fun k e => by rw [hsz]; exact h.z2 k e, fun k e => by rw [hsz]; exact h.z4 k e, h.apart⟩

theorem row_next : ∀ (f : Nat) (l : List Sg), Row l → baseL f l + (recsL l).length = nextL f l
  | f, [], _ => by simp [baseL, recsL, nextL]
  | f, [s], _ => by simp [baseL, recsL, nextL, Sg.end]
  | f, s :: t :: r, h => by
    have ih := row_next f (t :: r) h.2
    have e : nextL f (s :: t :: r) = nextL f (t :: r) := by simp [nextL]
    rw [e, ← ih]
    have := h.1
    simp only [baseL_cons, recsL, List.flatMap_cons, List.length_append] at *
    unfold Sg.end at this
    omega
theorem LgW.len {g : Lg} (h : LgW g) : g.base + (recsL g.segs).length = g.next := row_next _ _ h.row
theorem LgW.segs_le {g : Lg} (h : LgW g) : g.segs.length ≤ 2000000000064 := by
  have h1 := h.many
  have h2 := h.next_le
  omega

/-- The document's log on the document's disk: all of it lies in X. -/
structure IsGE (w : World) (X : Nat → Prop) (l c : Nat) (st : St) (g : Lg) (v v2 v4 : Value) : Prop where
  ok : LgW g
  dok : OKs st
  two : ∃ (Z Y : Nat → Prop), RefAt w Z c st v ∧ GAt w Y l c g v2 v4 ∧ (∀ k, Z k → Y k → False) ∧ (∀ k, Z k → X k) ∧ (∀ k, Y k → X k)
def IsG (w : World) (X : Nat → Prop) (l c : Nat) (st : St) (g : Lg) : Prop := ∃ v v2 v4, IsGE w X l c st g v v2 v4
theorem IsGE.is {w : World} {X : Nat → Prop} {l c : Nat} {st : St} {g : Lg} {v v2 v4 : Value} (h : IsGE w X l c st g v v2 v4) : IsG w X l c st g := ⟨v, v2, v4, h⟩
theorem IsGE.later {w w' : World} {X : Nat → Prop} {l c : Nat} {st : St} {g : Lg} {v v2 v4 : Value} (h : IsGE w X l c st g v v2 v4) (hb : Below w.heap.size w w') : IsGE w' X l c st g v v2 v4 := by
  obtain ⟨h1, h2, Z, Y, k1, k2, k3, k4, k5⟩ := h
  exact ⟨h1, h2, Z, Y, k1.later hb, k2.later hb, k3, k4, k5⟩
theorem IsG.later {w w' : World} {X : Nat → Prop} {l c : Nat} {st : St} {g : Lg} (h : IsG w X l c st g) (hb : Below w.heap.size w w') : IsG w' X l c st g := by
  obtain ⟨v, v2, v4, h⟩ := h
  exact ⟨v, v2, v4, h.later hb⟩
theorem IsGE.at {w : World} {X : Nat → Prop} {l c : Nat} {st : St} {g : Lg} {v v2 v4 : Value} (h : IsGE w X l c st g v v2 v4) : ∃ Y, GAt w Y l c g v2 v4 := by
  obtain ⟨_, _, Z, Y, _, k2, _⟩ := h
  exact ⟨Y, k2⟩
theorem IsGE.ref {w : World} {X : Nat → Prop} {l c : Nat} {st : St} {g : Lg} {v v2 v4 : Value} (h : IsGE w X l c st g v v2 v4) : ∃ Z, RefAt w Z c st v := by
  obtain ⟨_, _, Z, Y, k1, _⟩ := h
  exact ⟨Z, k1⟩
/-- What a step of the disk leaves. -/
theorem IsGE.disk {w : World} {X : Nat → Prop} {l c : Nat} {st : St} {g : Lg} {v v2 v4 : Value} (h : IsGE w X l c st g v v2 v4) (hX : ∀ k, w.heap.size ≤ k → X k) :
    ∃ Z : Nat → Prop, RefAt w Z c st v ∧ (∀ k, w.heap.size ≤ k → Z k) ∧ ∀ w1 st', (∃ v', RefAt w1 Z c st' v') → OKs st' → Only Z w w1 → (∃ v', IsGE w1 X l c st' g v' v2 v4) ∧ Only X w w1 := by
  obtain ⟨h1, h2, Z, Y, k1, k2, k3, k4, k5⟩ := h
  refine ⟨fun k => Z k ∨ w.heap.size ≤ k, k1.mono fun k _ hk => Or.inl hk, fun k hk => Or.inr hk, fun w1 st' hd hok ho => ?_⟩
  obtain ⟨v', hd⟩ := hd
  have hoX : Only X w w1 := ho.mono fun k hk => by
    rcases hk with hk | hk
    · exact k4 k hk
    · exact hX k hk
  have hYlt : GAt w (fun k => Y k ∧ k < w.heap.size) l c g v2 v4 := k2.mono fun k hk hy => ⟨hy, hk⟩
  refine ⟨⟨v', h1, hok, fun k => Z k ∨ w.heap.size ≤ k, fun k => Y k ∧ k < w.heap.size, hd, hYlt.kept ho.size fun k hk hy => ho.block k hk fun e => ?_, fun k hz hy => ?_, fun k hk => ?_, fun k hk => k5 k hk.1⟩, hoX⟩
  · rcases e with e | e
    · exact k3 k e hy.1
    · omega
  · rcases hz with e | e
    · exact k3 k e hy.1
    · omega
  · rcases hk with hk | hk
    · exact k4 k hk
    · exact hX k hk
/-- What a step of the log's own memory leaves. -/
theorem IsGE.own {w : World} {X : Nat → Prop} {l c : Nat} {st : St} {g : Lg} {v v2 v4 : Value} (h : IsGE w X l c st g v v2 v4) (hX : ∀ k, w.heap.size ≤ k → X k) :
    ∃ (Y : Nat → Prop), GAt w Y l c g v2 v4 ∧ (∀ k, w.heap.size ≤ k → Y k) ∧ ∀ w1 g' v2' v4', GAt w1 Y l c g' v2' v4' → LgW g' → Only Y w w1 → IsGE w1 X l c st g' v v2' v4' ∧ Only X w w1 := by
  obtain ⟨h1, h2, Z, Y, k1, k2, k3, k4, k5⟩ := h
  have hYX : ∀ k, Y k ∨ w.heap.size ≤ k → X k := fun k hk => by
    rcases hk with hk | hk
    · exact k5 k hk
    · exact hX k hk
  refine ⟨fun k => Y k ∨ w.heap.size ≤ k, k2.mono fun k _ hk => Or.inl hk, fun k hk => Or.inr hk, fun w1 g' v2' v4' hl hg ho => ?_⟩
  have hoX : Only X w w1 := ho.mono hYX
  have hZlt : RefAt w (fun k => Z k ∧ k < w.heap.size) c st v := k1.mono fun k hk hz => ⟨hz, hk⟩
  refine ⟨⟨hg, h2, fun k => Z k ∧ k < w.heap.size, fun k => Y k ∨ w.heap.size ≤ k, hZlt.kept fun k hk hz => ho.block k hk fun e => ?_, hl, fun k hz hy => ?_, fun k hk => k4 k hk.1, hYX⟩, hoX⟩
  · rcases e with e | e
    · exact k3 k hz.1 e
    · omega
  · rcases hy with e | e
    · exact k3 k hz.1 e
    · omega

set_option maxHeartbeats 2000000 in
set_option maxRecDepth 100000 in
theorem gbase_any (w : World) (Y : Nat → Prop) (l c : Nat) (g : Lg) (v2 v4 : Value) (h : GAt w Y l c g v2 v4) (hg : LgW g) :
    Calls Tryz.prog 45 #[.pointer (some ⟨l, 0, none⟩)] w fun e w' => e = .returned (.int .i64 (g.base : Int)) ∧ w' = w := by
  have c2 := h.gc.c2
  have c3 := h.gc.c3
  have hm := hg.segs_le
  by_cases hs : g.segs = []
  · have hn : g.base = g.frm := by rw [Lg.base, hs]; rfl
    obtain ⟨p, cap, rfl, _⟩ := h.starts.form
    rw [stV_length, hs] at c2
    rw [hn]
    clear h hs
    simp only [List.length_nil] at c2
    go_enter Tryz.func45, Tryz.ntmps45
    go_wp2
    go_ret
    exact ⟨rfl, rfl⟩
  · obtain ⟨b, off, cap, rfl, _, _, _, hcell⟩ := h.starts.at (by simpa [stV] using hs)
    obtain ⟨s, r, e⟩ := List.exists_cons_of_ne_nil hs
    have hn : g.base = s.1 := by rw [Lg.base, e]; rfl
    have d0 := hcell 0 (by rw [stV_length, e]; simp)
    simp only [stV, e, List.map_cons, List.getElem_cons_zero, Nat.add_zero, List.length_cons] at c2 d0 hm
    rw [List.length_map] at c2
    rw [hn]
    have hl : (r.length : Int) + 1 ≠ 0 := by omega
    have hl2 : (0 : Int) < (r.length : Int) + 1 := by omega
    clear h hs hcell e
    go_enter Tryz.func45, Tryz.ntmps45
    go_wp2
    go_ret
    exact ⟨rfl, rfl⟩

set_option maxHeartbeats 2000000 in
set_option maxRecDepth 100000 in
theorem gnext_any (w : World) (Y : Nat → Prop) (l c : Nat) (g : Lg) (v2 v4 : Value) (h : GAt w Y l c g v2 v4) (hg : LgW g) :
    Calls Tryz.prog 46 #[.pointer (some ⟨l, 0, none⟩)] w fun e w' => e = .returned (.int .i64 (g.next : Int)) ∧ Below w.heap.size w w' := by
  have c4 := h.gc.c4
  have hm := hg.next_le
  have hl := hg.len
  obtain ⟨p, cap, rfl, _⟩ := h.recs.form
  rw [reV_length] at c4
  have HPK : Hid (∀ n, Calls Tryz.prog 45 #[.pointer (some ⟨l, 0, none⟩)] (w.drewN n) fun e w' => e = .returned (.int .i64 (g.base : Int)) ∧ w' = w.drewN n) := fun n => gbase_any _ Y l c g v2 _ (h.later ⟨rfl, rfl, rfl, by simp [World.drewN], fun k hk => rfl⟩) hg
  obtain ⟨n, hn⟩ : ∃ n, (recsL g.segs).length = n := ⟨_, rfl⟩
  rw [hn] at c4 hl
  have HNX : Hid ((g.next : Int) = (g.base : Int) + (n : Int)) := by
    have : (g.next : Int) = (g.base : Int) + (n : Int) := by omega
    exact this
  have hbb : g.base + n ≤ 2000000000000 := by omega
  rw [HNX.out]
  clear h hg hl hn hm
  go_enter Tryz.func46, Tryz.ntmps46
  go_wp2
  go_quiet ((go_at_call 45; exact Calls.quiet_of_same (HPK.out _)))
  all_goals
    go_wp2
    go_ret
    exact ⟨rfl, ⟨rfl, rfl, rfl, by simp [World.drewN], fun k hk => rfl⟩⟩
end Go.Proofs.YtckmjmpajbjbkaaGreatDoor
/- Walks of the document's log, fourth part: Read, Place, Sync. -/
namespace Go.Proofs.YtckmjmpajbjbkaaGreatDoor
open Go.RowKit

set_option maxHeartbeats 4000000 in
set_option maxRecDepth 100000 in
theorem gread_any (w : World) (Y : Nat → Prop) (l c : Nat) (g : Lg) (v2 v4 : Value) (h : GAt w Y l c g v2 v4) (hg : LgW g) (P : Int) :
    Calls Tryz.prog 38 #[.pointer (some ⟨l, 0, none⟩), .int .i64 P] w fun e w' => e = .returned (readV (readL g P)) ∧ Below w.heap.size w w' := by
  have HL : Hid (GAt w Y l c g v2 v4) := h
  have HG : Hid (LgW g) := hg
  have hm := hg.next_le
  have hl := hg.len
  by_cases h1 : P < (g.base : Int)
  · have HE : Hid (readL g P = ([], 61)) := readL_no (Or.inl h1)
    clear h hg hm hl
    go_enter Tryz.func38, Tryz.ntmps38
    go_wp2_with (first | (go_at_call 45; refine (gbase_any _ Y l c g v2 v4 HL.out HG.out).mono ?_; rintro e w1 ⟨rfl, rfl⟩) | (go_at_call 46; refine (gnext_any _ Y l c g v2 v4 HL.out HG.out).mono ?_; rintro e w2 ⟨rfl, hb2⟩))
    refine bodyPost_ret (v := .tuple #[.string ⟨#[]⟩, .int .i64 61]) (by simp [results, Tryz.results38, go_sem]) rfl ?_
    rw [HE.out]
    exact ⟨rfl, hb2⟩
  · by_cases h2 : (g.next : Int) ≤ P
    · have HE : Hid (readL g P = ([], 61)) := readL_no (Or.inr h2)
      clear h hg hm hl
      go_enter Tryz.func38, Tryz.ntmps38
      go_wp2_with (first | (go_at_call 45; refine (gbase_any _ Y l c g v2 v4 HL.out HG.out).mono ?_; rintro e w1 ⟨rfl, rfl⟩) | (go_at_call 46; refine (gnext_any _ Y l c g v2 v4 HL.out HG.out).mono ?_; rintro e w2 ⟨rfl, hb2⟩))
      refine bodyPost_ret (v := .tuple #[.string ⟨#[]⟩, .int .i64 61]) (by simp [results, Tryz.results38, go_sem]) rfl ?_
      rw [HE.out]
      exact ⟨rfl, hb2⟩
    · obtain ⟨j, hj⟩ : ∃ j : Nat, P = (g.base : Int) + (j : Int) := ⟨(P - (g.base : Int)).toNat, by omega⟩
      have hjl : j < (recsL g.segs).length := by omega
      have HE : Hid (readL g P = ((recsL g.segs)[j], 0)) := by
        have e : readL g P = ((recsL g.segs)[j], 0) := by
          rw [readL_yes (fun e => e.elim h1 h2), show (P - (g.base : Int)).toNat = j by omega, List.getElem?_eq_getElem hjl]
          rfl
        exact e
      obtain ⟨b, off, cap, rfl, _, _, _, hcell⟩ := h.recs.at (by intro e; have := congrArg List.length e; rw [reV_length, List.length_nil] at this; omega)
      have d0 := hcell j (by rw [reV_length]; exact hjl)
      have c4 := h.gc.c4
      simp only [reV, List.getElem_map, List.length_map] at d0 c4
      obtain ⟨D, hD⟩ : ∃ D, (recsL g.segs)[j] = D := ⟨_, rfl⟩
      obtain ⟨n, hn⟩ : ∃ n, (recsL g.segs).length = n := ⟨_, rfl⟩
      rw [hD] at d0 HE
      rw [hn] at c4 hjl hl
      subst hj
      have k1 : (g.base : Int) + (j : Int) - (g.base : Int) = (j : Int) := by omega
      have k2 : (0 : Int) ≤ (j : Int) := by omega
      have k3 : (j : Int) < (n : Int) := by omega
      clear h hg hcell hD hn h1
      have h1 : ¬ (g.base : Int) + (j : Int) < (g.base : Int) := by omega
      go_enter Tryz.func38, Tryz.ntmps38
      go_wp2_with (first | (go_at_call 45; refine (gbase_any _ Y l c g v2 _ HL.out HG.out).mono ?_; rintro e w1 ⟨rfl, rfl⟩) | (go_at_call 46; refine (gnext_any _ Y l c g v2 _ HL.out HG.out).mono ?_; rintro e w2 ⟨rfl, hb2⟩; (have m4 := cell_later hb2 c4); (have m5 := cell_later hb2 d0)))
      refine bodyPost_ret (v := .tuple #[.string ⟨D.toArray⟩, .int .i64 0]) (by simp [results, Tryz.results38, go_sem]) rfl ?_
      rw [HE.out]
      exact ⟨rfl, hb2⟩

theorem not_dig {c : UInt8} (h : ¬ isDig c) : c.toNat < 48 ∨ 57 < c.toNat := by
  unfold isDig at h
  omega

set_option maxHeartbeats 4000000 in
set_option maxRecDepth 100000 in
theorem gplace_any (s : ByteArray) (w : World) :
    Calls Tryz.prog 92 #[.string s] w fun e w' => e = .returned (.int .i64 (placeI s.data.toList)) ∧ w' = w := by
  have hsl : s.data.toList.length = s.size := by simp
  by_cases h16 : s.size = 16
  · have hex : (s.extract 0 4).data.toList = s.data.toList.take 4 := by rw [extract_list]; simp
    have e4 : (0 : Int) ≤ 4 := by omega
    have hi16 : (s.size : Int) = 16 := by omega
    by_cases hp : s.data.toList.take 4 = pre4
    · have hpp : ((s.extract 0 4).toList == [108, 111, 103, 46]) = true := (by rw [ByteArray.toList_eq, hex, hp]; rfl)
      have HP : Hid (s.data.toList.take 4 = pre4) := hp
      have HS : Hid (s.data.toList.length = 16) := hsl.trans h16
      clear hex hp hsl
      go_enter Tryz.func92, Tryz.ntmps92
      go_wp2
      go_loopw [3, 4] (fun n i wr => ∃ (k m : Nat), k ≤ 12 ∧ i = .int .i64 ((4 + k : Nat) : Int) ∧ n = .int .i64 (m : Int) ∧ m = dval ((s.data.toList.drop 4).take k) ∧ (∀ c ∈ (s.data.toList.drop 4).take k, isDig c) ∧ wr = w) (fun _ i _ => 16 - (intOf i).toNat)
      case atStart => exact ⟨0, 0, by omega, rfl, rfl, by simp [dval], by simp, rfl⟩
      case round =>
        obtain ⟨k, m, hk, rfl, rfl, hm, hd, rfl⟩ := hrel
        have hm12 : m < 1000000000000 := by
          have h1 := dval_lt hd
          rw [← hm] at h1
          refine Nat.lt_of_lt_of_le h1 ?_
          calc 10 ^ ((s.data.toList.drop 4).take k).length ≤ 10 ^ 12 := Nat.pow_le_pow_right (by decide) (by rw [List.length_take]; omega)
            _ ≤ _ := by decide
        by_cases hlt : k < 12
        · have hki : 4 + k < s.size := by omega
          have hgl : (s.data.toList.drop 4)[k]? = some s[4 + k] := by
            rw [List.getElem?_drop, List.getElem?_eq_getElem (by rw [HS.out]; omega)]
            rfl
          have hcb := UInt8.toNat_lt s[4 + k]
          have htk : (s.data.toList.drop 4).take (k + 1) = (s.data.toList.drop 4).take k ++ [s[4 + k]] := by
            rw [List.take_add_one, hgl]
            rfl
          by_cases hdg : isDig s[4 + k]
          · have HM : Hid (10 * m + (s[4 + k].toNat - 48) = dval ((s.data.toList.drop 4).take (k + 1))) := by
              have : 10 * m + (s[4 + k].toNat - 48) = dval ((s.data.toList.drop 4).take (k + 1)) := by rw [htk, dval_snoc, hm]
              exact this
            have HD : Hid (∀ c ∈ (s.data.toList.drop 4).take (k + 1), isDig c) := by
              have : ∀ c ∈ (s.data.toList.drop 4).take (k + 1), isDig c := fun c hc => by
                rw [htk, List.mem_append, List.mem_singleton] at hc
                rcases hc with hc | rfl
                · exact hd c hc
                · exact hdg
              exact this
            obtain ⟨g1, g2⟩ : 48 ≤ s[4 + k].toNat ∧ s[4 + k].toNat ≤ 57 := hdg
            clear hm hd hgl htk
            go_wp2
            go_roundw
            case rel => exact ⟨k + 1, 10 * m + (s[4 + k].toNat - 48), by omega, by go_num, by go_num, HM.out, HD.out, by first | rfl | trivial⟩
            case measure => simp [intOf]; omega
          · have HR : Hid (placeI s.data.toList = -1) := placeI_dig (c := s[4 + k]) (List.mem_of_getElem? hgl) hdg
            have g1 := not_dig hdg
            clear hm hd hgl htk hdg
            rcases g1 with g1 | g1
            · go_wp2
              go_ret
              exact ⟨by rw [HR.out]; rfl, rfl⟩
            · have g2 : ¬ s[4 + k].toNat < 48 := by omega
              go_wp2
              go_ret
              exact ⟨by rw [HR.out]; rfl, rfl⟩
        · obtain rfl : k = 12 := by omega
          have HR : Hid (placeI s.data.toList = (m : Int)) := by
            have e : (s.data.toList.drop 4).take 12 = s.data.toList.drop 4 := List.take_of_length_le (by rw [List.length_drop, HS.out]; omega)
            rw [e] at hm hd
            have := placeI_yes HS.out HP.out hd
            rw [← hm] at this
            exact this
          clear hm hd
          go_wp2
          go_ret
          exact ⟨by rw [HR.out]; rfl, rfl⟩
    · have hpp : ((s.extract 0 4).toList == [108, 111, 103, 46]) = false := (by rw [ByteArray.toList_eq, hex]; exact beq_eq_false_iff_ne.2 hp)
      have HR : Hid (placeI s.data.toList = -1) := placeI_pre hp
      clear hp hex hsl
      go_enter Tryz.func92, Tryz.ntmps92
      go_wp2
      go_ret
      exact ⟨by rw [HR.out]; rfl, rfl⟩
  · have HR : Hid (placeI s.data.toList = -1) := placeI_long (by rw [hsl]; exact h16)
    have hi : ¬ (s.size : Int) = 16 := by omega
    clear hsl
    go_enter Tryz.func92, Tryz.ntmps92
    go_wp2
    go_ret
    exact ⟨by rw [HR.out]; rfl, rfl⟩
end Go.Proofs.YtckmjmpajbjbkaaGreatDoor
/- Walks of the document's log, fifth part: calls of its disk; Sync. -/
namespace Go.Proofs.YtckmjmpajbjbkaaGreatDoor
open Go.RowKit

theorem gdsync_any {w : World} {X : Nat → Prop} {l c : Nat} {st : St} {g : Lg} {v v2 v4 : Value} (h : IsGE w X l c st g v v2 v4) (hX : ∀ k, w.heap.size ≤ k → X k) (hst : st.steps < 4611686018427387904) (s : ByteArray) (hs : s.size ≤ 9223372036854775807) :
    Calls Tryz.prog 67 #[.pointer (some ⟨c, 0, none⟩), .string s] w fun e w' => e = .returned (.int .i64 (synR st s.data.toList).1) ∧ (∃ v', IsGE w' X l c (synR st s.data.toList).2 g v' v2 v4) ∧ Only X w w' := by
  have ho := h.dok
  obtain ⟨Z, k1, _, k3⟩ := h.disk hX
  refine (rsync_any w Z c st v s hs hst ho.low ho.high k1).mono ?_
  rintro e w' ⟨rfl, hr, hw⟩
  exact ⟨rfl, k3 w' _ hr (synR_ok ho _) hw⟩
theorem gdappend_any {w : World} {X : Nat → Prop} {l c : Nat} {st : St} {g : Lg} {v v2 v4 : Value} (h : IsGE w X l c st g v v2 v4) (hX : ∀ k, w.heap.size ≤ k → X k) (hst : st.steps < 4611686018427387904) (s t : ByteArray) (hs : s.size ≤ 9223372036854775807) (ht : t.size ≤ 2147483647) :
    Calls Tryz.prog 69 #[.pointer (some ⟨c, 0, none⟩), .string s, .string t] w fun e w' => e = .returned (.int .i64 (appR st s.data.toList t.data.toList).1) ∧ (∃ v', IsGE w' X l c (appR st s.data.toList t.data.toList).2 g v' v2 v4) ∧ Only X w w' := by
  have ho := h.dok
  obtain ⟨Z, k1, k2, k3⟩ := h.disk hX
  refine (rappend_any w Z c st v s t hs ht hst ho.low ho.high ho.files k1 k2).mono ?_
  rintro e w' ⟨rfl, hr, hw⟩
  exact ⟨rfl, k3 w' _ hr (appR_ok ho _ _) hw⟩
theorem gdremove_any {w : World} {X : Nat → Prop} {l c : Nat} {st : St} {g : Lg} {v v2 v4 : Value} (h : IsGE w X l c st g v v2 v4) (hX : ∀ k, w.heap.size ≤ k → X k) (hst : st.steps < 4611686018427387904) (s : ByteArray) (hs : s.size ≤ 9223372036854775807) :
    Calls Tryz.prog 73 #[.pointer (some ⟨c, 0, none⟩), .string s] w fun e w' => e = .returned (.int .i64 (remR st s.data.toList).1) ∧ (∃ v', IsGE w' X l c (remR st s.data.toList).2 g v' v2 v4) ∧ Only X w w' := by
  have ho := h.dok
  obtain ⟨Z, k1, k2, k3⟩ := h.disk hX
  refine (rremove_any w Z c st v s hs hst ho.low ho.high k1 k2).mono ?_
  rintro e w' ⟨rfl, hr, hw⟩
  exact ⟨rfl, k3 w' _ hr (remR_ok ho _) hw⟩
theorem gdrename_any {w : World} {X : Nat → Prop} {l c : Nat} {st : St} {g : Lg} {v v2 v4 : Value} (h : IsGE w X l c st g v v2 v4) (hX : ∀ k, w.heap.size ≤ k → X k) (hst : st.steps < 4611686018427387904) (s t : ByteArray) (hs : s.size ≤ 9223372036854775807) (ht : t.size ≤ 9223372036854775807) :
    Calls Tryz.prog 95 #[.pointer (some ⟨c, 0, none⟩), .string s, .string t] w fun e w' => e = .returned (.int .i64 (renR st s.data.toList t.data.toList).1) ∧ (∃ v', IsGE w' X l c (renR st s.data.toList t.data.toList).2 g v' v2 v4) ∧ Only X w w' := by
  have ho := h.dok
  obtain ⟨Z, k1, k2, k3⟩ := h.disk hX
  refine (rrename_any w Z c st v s t hs ht hst ho.low ho.high ho.files.few k1 k2).mono ?_
  rintro e w' ⟨rfl, hr, hw⟩
  exact ⟨rfl, k3 w' _ hr (renR_ok ho _ _) hw⟩
theorem gnm_size (p : Nat) : (⟨(nameN p).toArray⟩ : ByteArray).size ≤ 9223372036854775807 := by
  have : (⟨(nameN p).toArray⟩ : ByteArray).size = 16 := by
    show (nameN p).toArray.size = 16
    rw [List.size_toArray, nameN_length]
  omega
/-- The last segment's place. -/
theorem GAt.last {w : World} {Y : Nat → Prop} {l c : Nat} {g : Lg} {v2 v4 : Value} (h : GAt w Y l c g v2 v4) {A : List Sg} {s : Sg} (e : g.segs = A ++ [s]) : ∃ b off cap, v2 = .slice (some ⟨b, off, none⟩) (A.length + 1) cap ∧ w.cell? ⟨b, off + A.length, none⟩ = some (.int .i64 (s.1 : Int)) := by
  obtain ⟨b, off, cap, e2, _, _, _, hcell⟩ := h.starts.at (by simp [stV, e])
  have := hcell A.length (by rw [stV_length, e]; simp)
  refine ⟨b, off, cap, by rw [e2, stV_length, e]; simp, ?_⟩
  rw [this]
  simp [stV, e]
theorem GAt.lastc {w : World} {Y : Nat → Prop} {l c b off n cap : Nat} {g : Lg} {v4 : Value} (h : GAt w Y l c g (.slice (some ⟨b, off, none⟩) n cap) v4) {A : List Sg} {s : Sg} (e : g.segs = A ++ [s]) : w.cell? ⟨b, off + A.length, none⟩ = some (.int .i64 (s.1 : Int)) := by
  obtain ⟨b', off', cap', eb, hc⟩ := h.last e
  simp only [Value.slice.injEq, Option.some.injEq, Addr.mk.injEq, and_true] at eb
  obtain ⟨⟨rfl, rfl⟩, _⟩ := eb
  exact hc
theorem LgW.lastok {g : Lg} (h : LgW g) {A : List Sg} {s : Sg} (e : g.segs = A ++ [s]) : s.1 < 1000000000000 ∧ A.length ≤ 2000000000064 := by
  have := h.segs_le
  rw [e] at this
  simp at this
  exact ⟨h.low s (by rw [e]; simp), by omega⟩

set_option maxHeartbeats 4000000 in
set_option maxRecDepth 100000 in
theorem gsync_any (w : World) (X : Nat → Prop) (l c : Nat) (st : St) (g : Lg) (h : IsG w X l c st g) (hne : g.segs = [] → g.safe = g.next) (hle : g.safe ≤ g.next) (hX : ∀ k, w.heap.size ≤ k → X k) (hst : st.steps < 4611686018427387904) :
    Calls Tryz.prog 37 #[.pointer (some ⟨l, 0, none⟩)] w fun e w' => e = .returned (.int .i64 (syncL st g).1) ∧ IsG w' X l c (syncL st g).2.1 (syncL st g).2.2 ∧ Only X w w' := by
  obtain ⟨v, v2, v4, h⟩ := h
  have HI : Hid (IsGE w X l c st g v v2 v4) := h
  have HX : Hid (∀ k, w.heap.size ≤ k → X k) := hX
  obtain ⟨Y, hL⟩ := h.at
  have HG : Hid (LgW g) := h.ok
  have c5 := hL.gc.c5
  by_cases hs : g.safe = g.next
  · have HL : Hid (GAt w Y l c g v2 v4) := hL
    have HE : Hid (syncL st g = (0, st, g)) := syncL_eq hs
    rw [hs] at c5
    have hlt : ¬ (g.next : Int) < (g.next : Int) := by omega
    clear h hX hL hs hne
    go_enter Tryz.func37, Tryz.ntmps37
    go_wp2_with (first | (go_at_call 46; refine (gnext_any _ Y l c g v2 v4 HL.out HG.out).mono ?_; rintro e w1 ⟨rfl, hb1⟩; (have c51 := cell_later hb1 c5)))
    go_ret
    rw [HE.out]
    exact ⟨rfl, (HI.out.later hb1).is, Only.of hb1⟩
  · obtain ⟨A, s, e⟩ := snoc_of (l := g.segs) (fun e => hs (hne e))
    obtain ⟨hs1, hA⟩ := HG.out.lastok e
    obtain ⟨b, off, cap, rfl, d0⟩ := hL.last e
    have hlast : lastL g.segs = s := by rw [e, lastL_snoc]
    have c0 := hL.gc.c0
    have c2 := hL.gc.c2
    have HL : Hid (GAt w Y l c g (.slice (some ⟨b, off, none⟩) (A.length + 1) cap) v4) := hL
    have hlt : (g.safe : Int) < (g.next : Int) := by omega
    have hi0 : (0 : Int) ≤ (A.length : Int) + 1 - 1 := by omega
    have hi1 : (A.length : Int) + 1 - 1 < (A.length : Int) + 1 := by omega
    have hi2 : (A.length : Int) < (A.length : Int) + 1 := by omega
    have hi3 : (0 : Int) ≤ (A.length : Int) := by omega
    have hw1 : IntKind.i64.wrap (A.length : Int) = (A.length : Int) := by rw [IntKind.wrap_i64]; omega
    have hw2 : IntKind.i64.wrap ((A.length : Int) + 1 - 1) = (A.length : Int) := by rw [IntKind.wrap_i64]; omega
    have HY : Hid (∀ (h' : (synR st (nameN s.1)).1 ≠ 0), syncL st g = ((synR st (nameN s.1)).1, (synR st (nameN s.1)).2, g)) := fun h' => by
      have := syncL_no hs (by rw [hlast]; exact h')
      rw [hlast] at this
      exact this
    have HZ : Hid (∀ (h' : (synR st (nameN s.1)).1 = 0), syncL st g = (0, (synR st (nameN s.1)).2, { g with safe := g.next })) := fun h' => by
      have := syncL_yes hs (by rw [hlast]; exact h')
      rw [hlast] at this
      exact this
    have HSG : Hid (g.segs = A ++ [s]) := e
    clear h hX hL hs hlast hne e
    go_enter Tryz.func37, Tryz.ntmps37
    go_wp2_with (first | (go_at_call 46; refine (gnext_any _ Y l c g _ v4 HL.out HG.out).mono ?_; rintro e w1 ⟨rfl, hb1⟩; (have c51 := cell_later hb1 c5); (have k0 := cell_later hb1 c0); (have k2 := cell_later hb1 c2); (have k5 := cell_later hb1 d0); (have HB1 : Hid (Below w.heap.size w w1) := hb1); clear hb1))
    clear c0 c2 c5 d0 c51
    go_region_held3 (fun w' => w'.cell? ⟨l, 0, none⟩ = some (.pointer (some ⟨c, 0, none⟩)) ∧ w'.cell? ⟨l, 2, none⟩ = some (.slice (some ⟨b, off, none⟩) (A.length + 1) cap) ∧ w'.cell? ⟨b, off + A.length, none⟩ = some (.int .i64 (s.1 : Int))) (go_simp) (first
      | (go_at_call 65; refine (gname_any s.1 _ (by omega)).mono ?_; rintro e w3 ⟨rfl, rfl⟩)
      | (go_at_call 67; refine (gdsync_any (HI.out.later HB1.out.drew) (fun k hk => HX.out k (Nat.le_trans HB1.out.size hk)) hst ⟨(nameN s.1).toArray⟩ (gnm_size _)).mono ?_; rintro e w4 ⟨rfl, ⟨v', hi4⟩, ho4⟩; simp only at hi4 ⊢; (have HI4 : Hid (IsGE w4 X l c (synR st (nameN s.1)).2 g v' (.slice (some ⟨b, off, none⟩) (A.length + 1) cap) v4) := hi4); (obtain ⟨Y4, hL4⟩ := hi4.at); (have q0 := hL4.gc.c0); (have q2 := hL4.gc.c2); (have q5 := hL4.lastc HSG.out); clear hi4 hL4))
    all_goals
      have HO4 : Hid (Only X w w4) := (Only.of HB1.out.drew).trans ho4
      have HX4 : Hid (∀ k, w4.heap.size ≤ k → X k) := fun k hk => HX.out k (Nat.le_trans HO4.out.size hk)
      clear ho4 k0 k2 k5 q0 q2 q5
      by_cases he : (synR st (nameN s.1)).1 = 0
      · have HE := HZ.out he
        obtain ⟨Y4, hL4, hY4, hown⟩ := HI4.out.own HX4.out
        have HL4 : Hid (GAt w4 Y4 l c g (.slice (some ⟨b, off, none⟩) (A.length + 1) cap) v4) := hL4
        have HO : Hid (∀ w1 g' v2' v4', GAt w1 Y4 l c g' v2' v4' → LgW g' → Only Y4 w4 w1 → IsGE w1 X l c (synR st (nameN s.1)).2 g' v' v2' v4' ∧ Only X w4 w1) := hown
        have s5 := hL4.gc.c5
        have sf := hL4.gc.fz
        clear hL4 hown hY4
        rw [he]
        go_wp2
        go_ret
        rw [HE]
        have hl := HL4.out.stored (i := 5) (u := .int .i64 (g.next : Int)) (g' := { g with safe := g.next }) (by simp [gcells]) rfl
        obtain ⟨r1, r2⟩ := HO.out _ _ _ _ hl (HG.out.synced _) ((Only.refl _ _).setCell (p := ⟨l, 5, none⟩) HL4.out.zl _)
        exact ⟨rfl, r1.is, HO4.out.trans r2⟩
      · have HE := HY.out he
        go_wp2
        go_ret
        rw [HE]
        exact ⟨rfl, HI4.out.is, HO4.out⟩
end Go.Proofs.YtckmjmpajbjbkaaGreatDoor
/- Walks of the document's log, sixth part: what is appended to its rows. -/
namespace Go.Proofs.YtckmjmpajbjbkaaGreatDoor
open Go.RowKit

theorem Tryz.infoInt : (Tryz.prog.info? 3).map (fun i => (i.zero, i.size, i.bytes)) = some (some (.int .i64 0), 1, 8) := by kernel_rfl
theorem Tryz.infoStr : (Tryz.prog.info? 9).map (fun i => (i.zero, i.size, i.bytes)) = some (some (.string ⟨#[]⟩), 1, 16) := by kernel_rfl

/-- The log's memory, its rows as they stand. -/
structure GR (w : World) (Y : Nat → Prop) (l c : Nat) (g : Lg) (S R : List Value) (v2 v4 : Value) : Prop where
  cells : w.heap[l]? = some (.cells (gcells c g v2 v4) 88 (0, 0))
  zl : Y l
  starts : Rw w v2 S
  recs : Rw w v4 R
  z2 : ∀ k, v2.ownBlock = some k → Y k ∧ k < w.heap.size ∧ k ≠ l
  z4 : ∀ k, v4.ownBlock = some k → Y k ∧ k < w.heap.size ∧ k ≠ l
  apart : ∀ k, v2.ownBlock = some k → v4.ownBlock = some k → False
theorem GAt.raw {w : World} {Y : Nat → Prop} {l c : Nat} {g : Lg} {v2 v4 : Value} (h : GAt w Y l c g v2 v4) : GR w Y l c g (stV g.segs) (reV (recsL g.segs)) v2 v4 := ⟨h.cells, h.zl, h.starts, h.recs, h.z2, h.z4, h.apart⟩
theorem GR.is {w : World} {Y : Nat → Prop} {l c : Nat} {g g' : Lg} {S R : List Value} {v2 v4 : Value} (h : GR w Y l c g S R v2 v4) (h1 : g'.size = g.size) (h2 : g'.frm = g.frm) (h3 : g'.safe = g.safe) (hS : S = stV g'.segs) (hR : R = reV (recsL g'.segs)) : GAt w Y l c g' v2 v4 :=
  ⟨by rw [h.cells]; simp [gcells, h1, h2, h3], h.zl, by rw [← hS]; exact h.starts, by rw [← hR]; exact h.recs, h.z2, h.z4, h.apart⟩
theorem GR.lt {w : World} {Y : Nat → Prop} {l c : Nat} {g : Lg} {S R : List Value} {v2 v4 : Value} (h : GR w Y l c g S R v2 v4) : l < w.heap.size := (Array.getElem?_eq_some_iff.1 h.cells).1
theorem GR.gc {w : World} {Y : Nat → Prop} {l c : Nat} {g : Lg} {S R : List Value} {v2 v4 : Value} (h : GR w Y l c g S R v2 v4) : GCells w l c g v2 v4 := by
  have e := h.cells
  refine ⟨?_, ?_, ?_, ?_, ?_, ?_, fun o => ?_⟩ <;> simp [World.cell?, World.frozen?, e, gcells]
theorem GR.kept {w w' : World} {Y : Nat → Prop} {l c : Nat} {g : Lg} {S R : List Value} {v2 v4 : Value} (h : GR w Y l c g S R v2 v4) (hs : w.heap.size ≤ w'.heap.size) (hk : ∀ k, k < w.heap.size → Y k → w'.heap[k]? = w.heap[k]?) : GR w' Y l c g S R v2 v4 :=
  ⟨(hk l h.lt h.zl).trans h.cells, h.zl, h.starts.kept fun k e => hk k (h.z2 k e).2.1 (h.z2 k e).1, h.recs.kept fun k e => hk k (h.z4 k e).2.1 (h.z4 k e).1, fun k e => ⟨(h.z2 k e).1, Nat.lt_of_lt_of_le (h.z2 k e).2.1 hs, (h.z2 k e).2.2⟩, fun k e => ⟨(h.z4 k e).1, Nat.lt_of_lt_of_le (h.z4 k e).2.1 hs, (h.z4 k e).2.2⟩, h.apart⟩
theorem GR.later {w w' : World} {Y : Nat → Prop} {l c : Nat} {g : Lg} {S R : List Value} {v2 v4 : Value} (h : GR w Y l c g S R v2 v4) (hb : Below w.heap.size w w') : GR w' Y l c g S R v2 v4 := h.kept hb.size fun k hk _ => hb.block k hk
/-- The cells of the log behind an append. -/
theorem GR.still {w w' : World} {Y : Nat → Prop} {l c : Nat} {g : Lg} {S R : List Value} {v2 v4 : Value} (h : GR w Y l c g S R v2 v4) {row : Option Nat} (hg : w.grownBy w' row) (hr : row ≠ some l) : w'.heap[l]? = w.heap[l]? := hg.block l h.lt fun e => hr e.symm
theorem GR.stillc {w w' : World} {Y : Nat → Prop} {l c : Nat} {g : Lg} {S R : List Value} {v2 v4 : Value} (h : GR w Y l c g S R v2 v4) {row : Option Nat} (hg : w.grownBy w' row) (hr : row ≠ some l) : GCells w' l c g v2 v4 := by
  have e := (h.still hg hr).trans h.cells
  refine ⟨?_, ?_, ?_, ?_, ?_, ?_, fun o => ?_⟩ <;> simp [World.cell?, World.frozen?, e, gcells]
theorem GR.ne2 {w : World} {Y : Nat → Prop} {l c : Nat} {g : Lg} {S R : List Value} {v2 v4 : Value} (h : GR w Y l c g S R v2 v4) : v2.ownBlock ≠ some l := fun e => (h.z2 l e).2.2 rfl
theorem GR.ne4 {w : World} {Y : Nat → Prop} {l c : Nat} {g : Lg} {S R : List Value} {v2 v4 : Value} (h : GR w Y l c g S R v2 v4) : v4.ownBlock ≠ some l := fun e => (h.z4 l e).2.2 rfl
theorem set_far {w : World} {l i k : Nat} {u : Value} (h : k ≠ l) : (w.setCell ⟨l, i, none⟩ u).heap[k]? = w.heap[k]? := Below.heap_setCell _ _ _ _ (by simpa using h)
theorem set_size {w : World} {p : Addr} {u : Value} : (w.setCell p u).heap.size = w.heap.size := by simp [World.setCell]
/-- A row that grew, stored in its cell. -/
theorem GR.push2 {w w' : World} {Y : Nat → Prop} {l c : Nat} {g : Lg} {S R : List Value} {v2 v4 v' : Value} {S' : List Value} (h : GR w Y l c g S R v2 v4) (hY : ∀ k, w.heap.size ≤ k → Y k) (hr : Rw w' v' S') (hn : S' ≠ []) (hg : w.grownBy w' v2.ownBlock) (hat : ∀ k, v'.ownBlock = some k → v2.ownBlock = some k ∨ w.heap.size ≤ k) :
    GR (w'.setCell ⟨l, 2, none⟩ v') Y l c g S' R v' v4 ∧ Only Y w (w'.setCell ⟨l, 2, none⟩ v') := by
  have hl := h.lt
  have hs := hg.size
  obtain ⟨b, e', hb⟩ := hr.lt hn
  have hne : ∀ k, v'.ownBlock = some k → Y k ∧ k < w'.heap.size ∧ k ≠ l ∧ v4.ownBlock ≠ some k := fun k e => by
    have hk : k < w'.heap.size := by
      rw [e'] at e
      obtain rfl : b = k := by simpa using e
      exact hb
    rcases hat k e with e2 | e2
    · exact ⟨(h.z2 k e2).1, hk, (h.z2 k e2).2.2, fun e4 => h.apart k e2 e4⟩
    · exact ⟨hY k e2, hk, by omega, fun e4 => by have := (h.z4 k e4).2.1; omega⟩
  have h4 : ∀ k, v4.ownBlock = some k → (w'.setCell ⟨l, 2, none⟩ v').heap[k]? = w.heap[k]? := fun k e => (set_far (h.z4 k e).2.2).trans (hg.block k (h.z4 k e).2.1 fun e2 => h.apart k e2.symm e)
  refine ⟨⟨?_, h.zl, hr.kept fun k e => set_far (hne k e).2.2.1, h.recs.kept h4, fun k e => ?_, fun k e => ?_, fun k e e4 => (hne k e).2.2.2 e4⟩, ((Only.refl Y w).grown hg fun k e => (h.z2 k e).1).setCell (p := ⟨l, 2, none⟩) h.zl _⟩
  · rw [heap_setCell_at ((h.still hg h.ne2).trans h.cells) v']
    simp [gcells]
  · rw [set_size]
    exact ⟨(hne k e).1, (hne k e).2.1, (hne k e).2.2.1⟩
  · rw [set_size]
    exact ⟨(h.z4 k e).1, Nat.lt_of_lt_of_le (h.z4 k e).2.1 hs, (h.z4 k e).2.2⟩
theorem GR.push4 {w w' : World} {Y : Nat → Prop} {l c : Nat} {g : Lg} {S R : List Value} {v2 v4 v' : Value} {R' : List Value} (h : GR w Y l c g S R v2 v4) (hY : ∀ k, w.heap.size ≤ k → Y k) (hr : Rw w' v' R') (hn : R' ≠ [] ∨ v' = v4) (hg : w.grownBy w' v4.ownBlock) (hat : ∀ k, v'.ownBlock = some k → v4.ownBlock = some k ∨ w.heap.size ≤ k) :
    GR (w'.setCell ⟨l, 4, none⟩ v') Y l c g S R' v2 v' ∧ Only Y w (w'.setCell ⟨l, 4, none⟩ v') := by
  have hl := h.lt
  have hs := hg.size
  have hne : ∀ k, v'.ownBlock = some k → Y k ∧ k < w'.heap.size ∧ k ≠ l ∧ v2.ownBlock ≠ some k := fun k e => by
    have hk : k < w'.heap.size := by
      rcases hn with hn | rfl
      · obtain ⟨b, e', hb⟩ := hr.lt hn
        rw [e'] at e
        obtain rfl : b = k := by simpa using e
        exact hb
      · have := (h.z4 k e).2.1
        omega
    rcases hat k e with e2 | e2
    · exact ⟨(h.z4 k e2).1, hk, (h.z4 k e2).2.2, fun e4 => h.apart k e4 e2⟩
    · exact ⟨hY k e2, hk, by omega, fun e4 => by have := (h.z2 k e4).2.1; omega⟩
  have h4 : ∀ k, v2.ownBlock = some k → (w'.setCell ⟨l, 4, none⟩ v').heap[k]? = w.heap[k]? := fun k e => (set_far (h.z2 k e).2.2).trans (hg.block k (h.z2 k e).2.1 fun e2 => h.apart k e e2.symm)
  refine ⟨⟨?_, h.zl, h.starts.kept h4, hr.kept fun k e => set_far (hne k e).2.2.1, fun k e => ?_, fun k e => ?_, fun k e e4 => (hne k e4).2.2.2 e⟩, ((Only.refl Y w).grown hg fun k e => (h.z4 k e).1).setCell (p := ⟨l, 4, none⟩) h.zl _⟩
  · rw [heap_setCell_at ((h.still hg h.ne4).trans h.cells) v']
    simp [gcells]
  · rw [set_size]
    exact ⟨(h.z2 k e).1, Nat.lt_of_lt_of_le (h.z2 k e).2.1 hs, (h.z2 k e).2.2⟩
  · rw [set_size]
    exact ⟨(hne k e).1, (hne k e).2.1, (hne k e).2.2.1⟩

theorem src_one (w : World) (x : Value) (t te : TypeId) (hk : Tryz.prog.underlying t = some (.slice te)) (h1 : x.oneCell' = true) : Src Tryz.prog 1 t (.slice (some ⟨w.heap.size, 0, none⟩) 1 1) 1 [x] (w.alloc (.cells #[x] te)) :=
  Src.ofSlice _ hk _ 1 1 [x] rfl (fun j u hj => by
    have hj0 : j = 0 := by
      have := (List.getElem?_eq_some_iff.1 hj).1
      simp at this
      omega
    subst hj0
    have e : some x = some u := hj
    rw [Addr.add_lit, ← e]
    exact (World.cell?_alloc_new w #[x] te 0).trans rfl) (fun u hu => by
    obtain rfl : u = x := by simpa using hu
    exact h1)
/-- 'append' of one element or of a whole row, at a plain region's list. -/
theorem wpList_rw (w : World) {ops : Array Oper} {rest : List Oper} {o : Oper} {a : Act} {Q : Exit → Act → World → Prop} (hgd : o.guard = none) (sl x : Operand) (t : TypeId)
    (ho : o.op = .call { callee := .builtin .append, args := #[sl, x], argTypes := #[t, t] }) (e : TypeId) (z : Value) (bytes : Nat) (ht : Tryz.prog.underlying t = some (.slice e)) (hinfo : ∃ i, Tryz.prog.info? e = some i ∧ i.zero = some z ∧ i.size = 1 ∧ i.bytes = bytes) (hz : z.cells.size = 1) (hb : bytes ≤ 16)
    (v : Value) (xs : List Value) (hs : a.eval sl = v) (hr : Rw w v xs) (xv : Value) (news : List Value) (hx : a.eval x = xv) (hsrc : Src Tryz.prog 1 t xv news.length news w) (hlen : xs.length + news.length ≤ 4398046511104)
    (h : ∀ p cap w', Rw w' (.slice p (xs.length + news.length) cap) (xs ++ news) → w.grownBy w' v.ownBlock → (∀ g, (Value.slice p (xs.length + news.length) cap).ownBlock = some g → v.ownBlock = some g ∨ w.heap.size ≤ g) → wpList Tryz.prog ops Q rest (a.put o.dst (.slice p (xs.length + news.length) cap)) w') : wpList Tryz.prog ops Q (o :: rest) a w := by
  refine wpList_plain hgd fun K hK => ?_
  obtain ⟨v', w', hrun, h2, h3, h4⟩ := hr.app t o.type e z bytes ht hinfo hz hb xv news hsrc hlen
  obtain ⟨p, cap, e', _⟩ := h2.form
  rw [List.length_append] at e'
  subst e'
  unfold Oper.wp execOp
  simp only [ho, resolve, invoke, builtin, Sem.run_bind, Sem.run_pure, Result.andThen_ok, List.map_toArray, List.map_cons, List.map_nil, hs, hx, hrun]
  exact hK _ _ (h p cap w' h2 h3 h4)
end Go.Proofs.YtckmjmpajbjbkaaGreatDoor
