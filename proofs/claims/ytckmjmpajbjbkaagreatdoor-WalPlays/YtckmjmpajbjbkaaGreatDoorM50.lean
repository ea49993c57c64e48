/- Plain mathematics of layer 5: the sum of bytes, frames, and how they are read. -/
import GoSem.Op.String
namespace Go.Proofs.YtckmjmpajbjbkaaGreatDoor

/-! ### the sum -/
/-- One bit falls out. -/
def sb (v : Nat) : Nat := (v / 2) ^^^ (v % 2 * 3988292384)
def sbs : Nat → Nat → Nat
  | 0, v => v
  | k + 1, v => sb (sbs k v)
def sy (v : Nat) (b : UInt8) : Nat := sbs 8 (v ^^^ b.toNat)
def crcF (v : Nat) (l : List UInt8) : Nat := l.foldl sy v
def crc (l : List UInt8) : Nat := crcF 4294967295 l ^^^ 4294967295

theorem sb_even {v : Nat} (h : v % 2 = 0) : sb v = v / 2 := by simp [sb, h]
theorem sb_odd {v : Nat} (h : v % 2 = 1) : sb v = (v / 2) ^^^ 3988292384 := by simp [sb, h]
theorem sb_lt {v : Nat} (h : v < 4294967296) : sb v < 4294967296 := by
  have h1 : v / 2 < 2 ^ 32 := by omega
  have h2 : v % 2 * 3988292384 < 2 ^ 32 := by
    have : v % 2 < 2 := Nat.mod_lt _ (by decide)
    omega
  exact Nat.xor_lt_two_pow h1 h2
theorem sbs_lt {v : Nat} (h : v < 4294967296) : ∀ k, sbs k v < 4294967296
  | 0 => h
  | k + 1 => sb_lt (sbs_lt h k)
theorem sx_lt {v : Nat} (b : UInt8) (h : v < 4294967296) : v ^^^ b.toNat < 4294967296 := by
  have hb := UInt8.toNat_lt b
  exact Nat.xor_lt_two_pow (n := 32) h (by omega)
theorem sy_lt {v : Nat} (b : UInt8) (h : v < 4294967296) : sy v b < 4294967296 := sbs_lt (sx_lt b h) 8
theorem crcF_lt : ∀ (l : List UInt8) {v : Nat}, v < 4294967296 → crcF v l < 4294967296
  | [], _, h => h
  | b :: l, _, h => crcF_lt l (sy_lt b h)
theorem crc_lt (l : List UInt8) : crc l < 4294967296 := Nat.xor_lt_two_pow (n := 32) (crcF_lt l (by decide)) (by decide)
theorem crcF_snoc (v : Nat) (l : List UInt8) (b : UInt8) : crcF v (l ++ [b]) = sy (crcF v l) b := by simp [crcF]

theorem sb_top {v : Nat} (h : v < 4294967296) : (sb v).testBit 31 = decide (v % 2 = 1) := by
  have h1 : (v / 2).testBit 31 = false := Nat.testBit_lt_two_pow (by omega)
  rcases Nat.mod_two_eq_zero_or_one v with e | e
  · rw [sb_even e, h1]; simp [e]
  · rw [sb_odd e, Nat.testBit_xor, h1, e]; decide
theorem xor_cancel_right {a b c : Nat} (h : a ^^^ c = b ^^^ c) : a = b := by
  have := congrArg (· ^^^ c) h
  simpa [Nat.xor_assoc] using this
theorem xor_cancel_left {a b c : Nat} (h : c ^^^ a = c ^^^ b) : a = b := by
  rw [Nat.xor_comm c a, Nat.xor_comm c b] at h
  exact xor_cancel_right h
theorem sb_inj {u v : Nat} (hu : u < 4294967296) (hv : v < 4294967296) (h : sb u = sb v) : u = v := by
  have ht : decide (u % 2 = 1) = decide (v % 2 = 1) := by rw [← sb_top hu, ← sb_top hv, h]
  rcases Nat.mod_two_eq_zero_or_one u with e | e <;> rcases Nat.mod_two_eq_zero_or_one v with g | g
  · rw [sb_even e, sb_even g] at h; omega
  · simp [e, g] at ht
  · simp [e, g] at ht
  · rw [sb_odd e, sb_odd g] at h
    have := xor_cancel_right h
    omega
theorem sbs_inj {u v : Nat} (hu : u < 4294967296) (hv : v < 4294967296) : ∀ k, sbs k u = sbs k v → u = v
  | 0, h => h
  | k + 1, h => sbs_inj hu hv k (sb_inj (sbs_lt hu k) (sbs_lt hv k) h)
theorem sy_inj {u v : Nat} {b : UInt8} (hu : u < 4294967296) (hv : v < 4294967296) (h : sy u b = sy v b) : u = v :=
  xor_cancel_right (sbs_inj (sx_lt b hu) (sx_lt b hv) 8 h)
theorem sy_byte {u : Nat} {b c : UInt8} (hu : u < 4294967296) (h : sy u b = sy u c) : b = c :=
  UInt8.toNat_inj.1 (xor_cancel_left (sbs_inj (sx_lt b hu) (sx_lt c hu) 8 h))
theorem crcF_inj : ∀ (l : List UInt8) {u v : Nat}, u < 4294967296 → v < 4294967296 → crcF u l = crcF v l → u = v
  | [], _, _, _, _, h => h
  | b :: l, _, _, hu, hv, h => sy_inj hu hv (crcF_inj l (sy_lt b hu) (sy_lt b hv) h)
theorem crc_byte (p s : List UInt8) (b c : UInt8) (h : crc (p ++ b :: s) = crc (p ++ c :: s)) : b = c := by
  have h' := xor_cancel_right h
  unfold crcF at h'
  rw [List.foldl_append, List.foldl_append, List.foldl_cons, List.foldl_cons] at h'
  have hp : p.foldl sy 4294967295 < 4294967296 := crcF_lt p (by decide)
  exact sy_byte hp (crcF_inj s (sy_lt b hp) (sy_lt c hp) h')

/-! ### frames -/
def le2 (n : Nat) : List UInt8 := [UInt8.ofNat n, UInt8.ofNat (n / 256)]
def le4 (n : Nat) : List UInt8 := [UInt8.ofNat n, UInt8.ofNat (n / 256), UInt8.ofNat (n / 65536), UInt8.ofNat (n / 16777216)]
def frm (d : List UInt8) : List UInt8 := le2 d.length ++ (le4 (crc (le2 d.length ++ d)) ++ d)
/-- What a frame's first two bytes say, be they there or not. -/
def cnt : List UInt8 → Nat
  | [] => 0
  | [a] => a.toNat
  | a :: b :: _ => a.toNat + 256 * b.toNat
/-- The data of the frame at the front. -/
def rd (l : List UInt8) : Option (List UInt8) :=
  if ((l.drop 6).take (cnt l)).length ≤ 4096 ∧ frm ((l.drop 6).take (cnt l)) = l.take (6 + cnt l) then some ((l.drop 6).take (cnt l)) else none

theorem frm_length (d : List UInt8) : (frm d).length = 6 + d.length := by simp [frm, le2, le4]; omega
theorem cnt_lt : ∀ l : List UInt8, cnt l < 65536
  | [] => by decide
  | [a] => by have := UInt8.toNat_lt a; simp only [cnt]; omega
  | a :: b :: _ => by have := UInt8.toNat_lt a; have := UInt8.toNat_lt b; simp only [cnt]; omega
theorem cnt_frm {d : List UInt8} (h : d.length < 65536) (r : List UInt8) : cnt (frm d ++ r) = d.length := by
  simp only [frm, le2, List.cons_append, List.nil_append, cnt, UInt8.toNat_ofNat']
  omega
theorem frm_drop (d r : List UInt8) : (frm d ++ r).drop 6 = d ++ r := by simp [frm, le2, le4]
theorem rd_frm {d : List UInt8} (h : d.length ≤ 4096) (r : List UInt8) : rd (frm d ++ r) = some d := by
  unfold rd
  rw [cnt_frm (by omega), frm_drop, List.take_left' rfl, List.take_left' (frm_length d)]
  simp [h]
theorem rd_some {l d : List UInt8} (h : rd l = some d) : d.length ≤ 4096 ∧ cnt l = d.length ∧ l = frm d ++ l.drop (6 + d.length) := by
  unfold rd at h
  split at h
  · rename_i h'
    obtain rfl := Option.some.inj h
    obtain ⟨h1, h2⟩ := h'
    have hl : frm ((l.drop 6).take (cnt l)) ++ l.drop (6 + cnt l) = l := by rw [h2, List.take_append_drop]
    have hc : cnt l = ((l.drop 6).take (cnt l)).length := by
      have := cnt_frm (d := (l.drop 6).take (cnt l)) (by omega) (l.drop (6 + cnt l))
      rw [hl] at this
      exact this
    exact ⟨h1, hc, by rw [← hc]; exact hl.symm⟩
  · cases h
theorem rd_short {l : List UInt8} (h : l.length < 6 + cnt l) : rd l = none := by
  cases e : rd l with
  | none => rfl
  | some d =>
    obtain ⟨_, h2, h3⟩ := rd_some e
    have := congrArg List.length h3
    rw [List.length_append, frm_length] at this
    omega
theorem rd_long {l : List UInt8} (h : 4096 < ((l.drop 6).take (cnt l)).length) : rd l = none := by
  unfold rd
  rw [if_neg (by omega)]
theorem rd_other {l : List UInt8} (h : frm ((l.drop 6).take (cnt l)) ≠ l.take (6 + cnt l)) : rd l = none := by
  unfold rd
  rw [if_neg (fun h' => h h'.2)]
theorem rd_is {l : List UInt8} (h : ((l.drop 6).take (cnt l)).length ≤ 4096) (h' : frm ((l.drop 6).take (cnt l)) = l.take (6 + cnt l)) : rd l = some ((l.drop 6).take (cnt l)) := by
  unfold rd
  rw [if_pos ⟨h, h'⟩]
theorem rd_size {l d : List UInt8} (h : rd l = some d) : 6 + d.length ≤ l.length := by
  have := congrArg List.length (rd_some h).2.2
  rw [List.length_append, frm_length] at this
  omega

/-! ### frames, one behind the other -/
def cat : List (List UInt8) → List UInt8
  | [] => []
  | d :: ds => frm d ++ cat ds
theorem cat_append : ∀ ds es : List (List UInt8), cat (ds ++ es) = cat ds ++ cat es
  | [], _ => rfl
  | d :: ds, es => by rw [List.cons_append, cat, cat, cat_append ds es, List.append_assoc]
theorem cat_one (d : List UInt8) : cat [d] = frm d := by simp [cat]
/-- These are all frames of l from its beginning on; n: the place behind them. -/
def AllIs (l : List UInt8) (ds : List (List UInt8)) (n : Nat) : Prop :=
  (∀ d ∈ ds, d.length ≤ 4096) ∧ n = (cat ds).length ∧ ∃ r, l = cat ds ++ r ∧ rd r = none
theorem AllIs.unique {l : List UInt8} : ∀ {ds es : List (List UInt8)} {n m : Nat}, AllIs l ds n → AllIs l es m → ds = es := by
  intro ds
  induction ds generalizing l with
  | nil =>
    intro es n m ⟨_, _, r, hr, hn⟩ ⟨h, _, r', hr', _⟩
    cases es with
    | nil => rfl
    | cons e es =>
      rw [cat, List.nil_append] at hr
      subst hr
      rw [hr', cat, List.append_assoc, rd_frm (h e (by simp))] at hn
      cases hn
  | cons d ds ih =>
    intro es n m ⟨h, _, r, hr, hn⟩ ⟨h', _, r', hr', hn'⟩
    cases es with
    | nil =>
      rw [cat, List.nil_append] at hr'
      subst hr'
      rw [hr, cat, List.append_assoc, rd_frm (h d (by simp))] at hn'
      cases hn'
    | cons e es =>
      have h1 := rd_frm (h d (by simp)) (cat ds ++ r)
      have h2 := rd_frm (h' e (by simp)) (cat es ++ r')
      rw [cat, List.append_assoc] at hr hr'
      rw [← hr] at h1
      rw [← hr', h1] at h2
      obtain rfl := Option.some.inj h2
      have h3 : cat ds ++ r = cat es ++ r' := List.append_cancel_left (hr.symm.trans hr')
      rw [ih (l := cat ds ++ r) (n := (cat ds).length) (m := (cat es).length) ⟨fun x hx => h x (by simp [hx]), rfl, r, rfl, hn⟩ ⟨fun x hx => h' x (by simp [hx]), rfl, r', h3, hn'⟩]
theorem AllIs.unique' {l : List UInt8} {ds es : List (List UInt8)} {n m : Nat} (h : AllIs l ds n) (h' : AllIs l es m) : ds = es ∧ n = m := by
  have e := h.unique h'
  subst e
  exact ⟨rfl, by rw [h.2.1, h'.2.1]⟩
theorem AllIs.join {l m : List UInt8} {ds es : List (List UInt8)} {k n : Nat} (h : AllIs l ds k) (hk : k = l.length) (h' : AllIs m es n) : AllIs (l ++ m) (ds ++ es) (k + n) := by
  obtain ⟨h1, h2, r, h3, _⟩ := h
  obtain ⟨g1, g2, r', g3, g4⟩ := h'
  have hr : r = [] := by
    have := congrArg List.length h3
    rw [List.length_append] at this
    exact List.eq_nil_of_length_eq_zero (by omega)
  subst hr
  rw [List.append_nil] at h3
  refine ⟨fun d hd => ?_, by rw [cat_append, List.length_append, h2, g2], r', by rw [cat_append, List.append_assoc, ← g3, h3], g4⟩
  rcases List.mem_append.1 hd with h | h
  · exact h1 d h
  · exact g1 d h
theorem rd_nil : rd [] = none := rd_short (by decide)
theorem AllIs.whole {ds : List (List UInt8)} (h : ∀ d ∈ ds, d.length ≤ 4096) : AllIs (cat ds) ds (cat ds).length := ⟨h, rfl, [], by simp, rd_nil⟩

/-! ### a cut end, a turned byte -/
theorem frm_prefix {d e : List UInt8} (hd : d.length < 65536) (he : e.length < 65536) {r s : List UInt8} (h : frm d ++ r = frm e ++ s) : d.length = e.length := by
  rw [← cnt_frm hd r, h, cnt_frm he s]
theorem rd_cut {d : List UInt8} (hd : d.length ≤ 4096) {k : Nat} (hk : k < 6 + d.length) : rd ((frm d).take k) = none := by
  cases e : rd ((frm d).take k) with
  | none => rfl
  | some x =>
    exfalso
    obtain ⟨h1, _, h3⟩ := rd_some e
    have h4 := List.take_append_drop k (frm d)
    rw [h3, List.append_assoc] at h4
    have h5 := frm_prefix (by omega) (by omega) (h4.trans (List.append_nil _).symm)
    have h6 := rd_size e
    rw [List.length_take, frm_length] at h6
    omega
theorem AllIs.torn {ds : List (List UInt8)} (h : ∀ d ∈ ds, d.length ≤ 4096) {d : List UInt8} (hd : d.length ≤ 4096) {k : Nat} (hk : k < 6 + d.length) : AllIs (cat ds ++ (frm d).take k) ds (cat ds).length :=
  ⟨h, rfl, _, rfl, rd_cut hd hk⟩
theorem le4_inj {m n : Nat} (hm : m < 4294967296) (hn : n < 4294967296) (h : le4 m = le4 n) : m = n := by
  simp only [le4, List.cons.injEq, and_true] at h
  obtain ⟨h1, h2, h3, h4⟩ := h
  have e1 := congrArg UInt8.toNat h1
  have e2 := congrArg UInt8.toNat h2
  have e3 := congrArg UInt8.toNat h3
  have e4 := congrArg UInt8.toNat h4
  simp only [UInt8.toNat_ofNat'] at e1 e2 e3 e4
  omega
theorem frm_six (d : List UInt8) : (frm d).take 6 = le2 d.length ++ le4 (crc (le2 d.length ++ d)) := by simp [frm, le2, le4]
theorem rd_turned {d : List UInt8} (hd : d.length ≤ 4096) {i : Nat} (h2 : 2 ≤ i) (hi : i < (frm d).length) {b : UInt8} (hb : (frm d)[i] ≠ b) : rd ((frm d).set i b) = none := by
  cases e : rd ((frm d).set i b) with
  | none => rfl
  | some x =>
    exfalso
    obtain ⟨g1, g2, g3⟩ := rd_some e
    have hc : cnt ((frm d).set i b) = d.length := by
      have : ∃ a c t, frm d = a :: c :: t := ⟨_, _, _, rfl⟩
      obtain ⟨a, c, t, ht⟩ := this
      have h0 := cnt_frm (d := d) (by omega) []
      rw [List.append_nil] at h0
      rw [← h0, ht]
      match i, h2 with
      | j + 2, _ => rfl
    have hx : x.length = d.length := by omega
    have hr : (frm d).set i b = frm x := by
      rw [g3]
      have : ((frm d).set i b).drop (6 + x.length) = [] := List.drop_eq_nil_of_le (by rw [List.length_set, frm_length]; omega)
      rw [this, List.append_nil]
    rw [frm_length] at hi
    by_cases h6 : i < 6
    · have hdx : d = x := by
        have := congrArg (List.drop 6) hr
        rw [List.drop_set_of_lt h6] at this
        have a := frm_drop d []
        have c := frm_drop x []
        rw [List.append_nil, List.append_nil] at a c
        rw [← a, ← c, this]
      subst hdx
      have : ((frm d).set i b)[i]? = (frm d)[i]? := by rw [hr]
      rw [List.getElem?_set_self (by rw [frm_length]; omega), List.getElem?_eq_getElem (by rw [frm_length]; omega)] at this
      exact hb (Option.some.inj this).symm
    · obtain ⟨j, rfl⟩ : ∃ j, i = 6 + j := ⟨i - 6, by omega⟩
      have hj : j < d.length := by omega
      have hdx : d.set j b = x := by
        have := congrArg (List.drop 6) hr
        rw [List.drop_set, if_neg (by omega)] at this
        have a := frm_drop d []
        have c := frm_drop x []
        rw [List.append_nil, List.append_nil] at a c
        rw [a, c] at this
        simpa using this
      have ht := congrArg (List.take 6) hr
      rw [List.take_set_of_le (by omega), frm_six, frm_six, hx] at ht
      have h4 := le4_inj (crc_lt _) (crc_lt _) (List.append_cancel_left ht)
      have hbd : (frm d)[6 + j]'(by rw [frm_length]; omega) = d[j] := by
        have a := frm_drop d []
        rw [List.append_nil, List.append_nil] at a
        have : ((frm d).drop 6)[j]? = d[j]? := by rw [a]
        rw [List.getElem?_drop, List.getElem?_eq_getElem (by rw [frm_length]; omega), List.getElem?_eq_getElem hj] at this
        exact Option.some.inj this
      have hs : d = d.take j ++ d[j] :: d.drop (j + 1) := by
        rw [List.getElem_cons_drop, List.take_append_drop]
      have hs' : x = d.take j ++ b :: d.drop (j + 1) := by rw [← hdx, List.set_eq_take_append_cons_drop, if_pos hj]
      rw [hs'] at h4
      have h5 : crc ((le2 d.length ++ d.take j) ++ d[j] :: d.drop (j + 1)) = crc ((le2 d.length ++ d.take j) ++ b :: d.drop (j + 1)) := by
        rw [List.append_assoc, List.append_assoc, ← hs]
        exact h4
      exact hb (hbd.trans (crc_byte _ _ _ _ h5))
end Go.Proofs.YtckmjmpajbjbkaaGreatDoor
