/- Plain mathematics of layer 2: the order of lists and of keys; what is next behind a text. -/
import Derived.Test.YtbmgcibclmbelabDoorM20
import Derived.Test.YtbmgcibclmbelabDoorM6
namespace Go.Proofs.YtbmgcibclmbelabDoor

def ordV3 (u v : V3) : Int := ordV u.1 u.2.1 u.2.2 v.1 v.2.1 v.2.2
theorem ordV3_range (u v : V3) : -1 ≤ ordV3 u v ∧ ordV3 u v ≤ 1 := by unfold ordV3; exact ordV_range _ _ _ _ _ _
theorem ordV3_neg (u v : V3) : ordV3 v u = -ordV3 u v := by unfold ordV3; exact ordV_neg _ _ _ _ _ _
theorem ordV3_zero {u v : V3} (h : ordV3 u v = 0) : u = v := by
  unfold ordV3 at h
  obtain ⟨a, b, c⟩ := (ordV_zero _ _ _ _ _ _).1 h
  rw [ByteArray.toList_eq, ByteArray.toList_eq] at c
  exact v3_ext a b (ba_ext c)
theorem ordV3_self (u : V3) : ordV3 u u = 0 := by unfold ordV3; exact (ordV_zero _ _ _ _ _ _).2 ⟨rfl, rfl, rfl⟩
theorem ordS_self (s : ByteArray) : ordS s s = 0 := ordS_zero.2 rfl
/-- How two lists stand. -/
def ordL : List V3 → List V3 → Int
  | [], [] => 0
  | [], _ :: _ => -1
  | _ :: _, [] => 1
  | u :: us, v :: vs => if ordV3 u v = 0 then ordL us vs else ordV3 u v
theorem ordL_at : ∀ (us vs : List V3) (k : Nat) (h : k < us.length) (h' : k < vs.length), (∀ j (g : j < us.length) (g' : j < vs.length), j < k → ordV3 us[j] vs[j] = 0) → ordV3 us[k] vs[k] ≠ 0 → ordL us vs = ordV3 us[k] vs[k]
  | u :: us, v :: vs, 0, _, _, _, g => by
    have g' : ordV3 u v ≠ 0 := g
    rw [ordL, if_neg g']; rfl
  | u :: us, v :: vs, k + 1, h, h', f, g => by
    have f0 : ordV3 u v = 0 := f 0 (by simp) (by simp) (by omega)
    rw [ordL, if_pos f0]
    exact ordL_at us vs k (by simpa using h) (by simpa using h') (fun j g g' hj => f (j + 1) (by simpa using g) (by simpa using g') (by omega)) g
theorem ordL_end : ∀ (us vs : List V3), (∀ j (g : j < us.length) (g' : j < vs.length), ordV3 us[j] vs[j] = 0) → ordL us vs = ordI us.length vs.length
  | [], [], _ => rfl
  | [], v :: vs, _ => by rw [ordL, ordI, if_pos (by simp only [List.length_cons, List.length_nil]; omega)]
  | u :: us, [], _ => by rw [ordL, ordI, if_neg (by simp only [List.length_cons, List.length_nil]; omega), if_pos (by simp only [List.length_cons, List.length_nil]; omega)]
  | u :: us, v :: vs, f => by
    have f0 : ordV3 u v = 0 := f 0 (by simp) (by simp)
    rw [ordL, if_pos f0, ordL_end us vs (fun j g g' => f (j + 1) (by simpa using g) (by simpa using g'))]
    unfold ordI
    simp only [List.length_cons]
    split <;> split <;> (try split) <;> (try split) <;> omega
theorem ordL_range : ∀ (us vs : List V3), ordL us vs = -1 ∨ ordL us vs = 0 ∨ ordL us vs = 1
  | [], [] => Or.inr (Or.inl rfl)
  | [], v :: vs => Or.inl rfl
  | u :: us, [] => Or.inr (Or.inr rfl)
  | u :: us, v :: vs => by
    rw [ordL]
    split
    · exact ordL_range us vs
    · have := ordV3_range u v; omega
theorem ordL_neg : ∀ (us vs : List V3), ordL vs us = -ordL us vs
  | [], [] => rfl
  | [], v :: vs => rfl
  | u :: us, [] => rfl
  | u :: us, v :: vs => by
    rw [ordL, ordL, ordV3_neg u v]
    by_cases h : ordV3 u v = 0
    · rw [if_pos h, if_pos (by omega), ordL_neg us vs]
    · rw [if_neg h, if_neg (by omega)]
theorem ordL_zero : ∀ (us vs : List V3), ordL us vs = 0 → us = vs
  | [], [], _ => rfl
  | [], v :: vs, h => absurd h (by simp [ordL])
  | u :: us, [], h => absurd h (by simp [ordL])
  | u :: us, v :: vs, h => by
    rw [ordL] at h
    by_cases g : ordV3 u v = 0
    · rw [if_pos g] at h
      rw [ordV3_zero g, ordL_zero us vs h]
    · rw [if_neg g] at h; exact absurd h g
theorem ordL_self : ∀ us : List V3, ordL us us = 0
  | [] => rfl
  | u :: us => by rw [ordL, if_pos (ordV3_self u), ordL_self us]

theorem bl_cons (a b : UInt8) (x y : List UInt8) : Op.bytesLess (a :: x) (b :: y) = (decide (a < b) || (a == b && Op.bytesLess x y)) := rfl
theorem bl_head {a b : UInt8} (h : a.toNat < b.toNat) (x y : List UInt8) : Op.bytesLess (a :: x) (b :: y) = true := by
  rw [bl_cons, Bool.or_eq_true]
  exact Or.inl (by simpa [UInt8.lt_iff_toNat_lt] using h)
theorem bl_same (a : UInt8) (x y : List UInt8) : Op.bytesLess (a :: x) (a :: y) = Op.bytesLess x y := by
  rw [bl_cons]; simp
theorem bl_prefix : ∀ (p x y : List UInt8), Op.bytesLess (p ++ x) (p ++ y) = Op.bytesLess x y
  | [], _, _ => rfl
  | a :: p, x, y => by rw [List.cons_append, List.cons_append, bl_same, bl_prefix p x y]

/-- A number by its bytes, the highest first. -/
def vl : List UInt8 → Nat
  | [] => 0
  | c :: l => c.toNat * 256 ^ l.length + vl l
theorem vl_lt : ∀ l : List UInt8, vl l < 256 ^ l.length
  | [] => by simp [vl]
  | c :: l => by
    have h := vl_lt l
    have hc := UInt8.toNat_lt c
    rw [vl, List.length_cons, Nat.pow_succ]
    have : c.toNat * 256 ^ l.length + 256 ^ l.length ≤ 256 ^ l.length * 256 := by
      rw [Nat.mul_comm (256 ^ l.length) 256, ← Nat.succ_mul]
      exact Nat.mul_le_mul_right _ (by omega)
    omega
theorem vl_less : ∀ (a b x y : List UInt8), a.length = b.length → vl a < vl b → Op.bytesLess (a ++ x) (b ++ y) = true
  | [], [], _, _, _, h => by simp [vl] at h
  | [], _ :: _, _, _, h, _ => by simp at h
  | _ :: _, [], _, _, h, _ => by simp at h
  | c :: a, d :: b, x, y, hl, h => by
    have hl' : a.length = b.length := by simpa using hl
    have hb := vl_lt b
    rw [vl, vl, hl'] at h
    rw [List.cons_append, List.cons_append]
    rcases Nat.lt_trichotomy c.toNat d.toNat with g | g | g
    · exact bl_head g _ _
    · have : c = d := UInt8.toNat_inj.1 g
      subst this
      rw [bl_same]
      exact vl_less a b x y hl' (by omega)
    · have : (d.toNat + 1) * 256 ^ b.length ≤ c.toNat * 256 ^ b.length := Nat.mul_le_mul_right _ g
      rw [Nat.succ_mul] at this
      omega
theorem vl_be8 {n : Nat} (h : n < 18446744073709551616) : vl (be8 n) = n := by
  simp only [vl, be8, UInt8.toNat_ofNat', List.length_cons, List.length_nil]
  omega
theorem esc_less : ∀ (a b x y : List UInt8), Op.bytesLess a b = true → Op.bytesLess (esc a ++ 0 :: 0 :: x) (esc b ++ 0 :: 0 :: y) = true
  | [], [], _, _, h => by simp [Op.bytesLess] at h
  | [], d :: b, x, y, _ => by
    rw [esc_nil, List.nil_append, esc_cons]
    by_cases hd : d = 0
    · subst hd
      rw [esc1_zero]
      rw [List.append_assoc, List.cons_append, bl_same]
      exact bl_head (by decide) _ _
    · rw [esc1_other hd]
      refine bl_head ?_ _ _
      have : d.toNat ≠ 0 := fun e => hd (UInt8.toNat_inj.1 e)
      show 0 < d.toNat
      omega
  | c :: a, [], _, _, h => by simp [Op.bytesLess] at h
  | c :: a, d :: b, x, y, h => by
    rw [esc_cons, esc_cons]
    by_cases e : c = d
    · subst e
      rw [bl_same] at h
      rw [List.append_assoc, List.append_assoc, bl_prefix]
      exact esc_less a b x y h
    · rw [bl_cons] at h
      have hlt : c.toNat < d.toNat := by simpa [e, UInt8.lt_iff_toNat_lt] using h
      have hd : d ≠ 0 := fun g => by rw [g] at hlt; simp at hlt
      rw [esc1_other hd]
      by_cases hc : c = 0
      · subst hc
        rw [esc1_zero]
        exact bl_head hlt _ _
      · rw [esc1_other hc]
        exact bl_head hlt _ _
/-- The bytes of values stand as they do. -/
theorem kb_less {u v : V3} (hu : V3.right u = true) (hv : V3.right v = true) (h : ordV3 u v = -1) (x y : List UInt8) : Op.bytesLess (kb u ++ x) (kb v ++ y) = true := by
  unfold ordV3 ordV orI at h
  rcases right_kind hu with ku | ku | ku | ku <;> rcases right_kind hv with kv | kv | kv | kv
  all_goals (first | rw [kb_null ku] | rw [kb_int ku] | rw [kb_bool ku] | rw [kb_text ku])
  all_goals (first | rw [kb_null kv] | rw [kb_int kv] | rw [kb_bool kv] | rw [kb_text kv])
  all_goals rw [ku, kv] at h
  all_goals (try (exact bl_head (by decide) _ _))
  all_goals (try (exfalso; rw [if_neg (by decide)] at h; exact absurd h (by decide)))
  all_goals rw [if_pos (by decide)] at h
  · obtain ⟨a, b⟩ := right_null hu ku
    obtain ⟨c, d⟩ := right_null hv kv
    rw [a, b, c, d, if_pos (by decide), ordS_self] at h
    exact absurd h (by decide)
  · obtain ⟨a, b, c⟩ := right_num hu ku
    obtain ⟨a', b', c'⟩ := right_num hv kv
    rw [c, c'] at h
    have hlt : u.2.1 < v.2.1 := by
      by_cases e : ordI u.2.1 v.2.1 = 0
      · rw [if_pos e, ordS_self] at h; exact absurd h (by decide)
      · rw [if_neg e] at h; exact ordI_lt.1 (by omega)
    rw [List.cons_append, List.cons_append, bl_same]
    exact vl_less _ _ _ _ (by rw [be8_length, be8_length]) (by rw [vl_be8 (by omega), vl_be8 (by omega)]; omega)
  · obtain ⟨a, b⟩ := right_bool hu ku
    obtain ⟨c, d⟩ := right_bool hv kv
    rw [b, d] at h
    rcases a with a | a <;> rcases c with c | c <;> rw [a, c] at h ⊢
    all_goals (first | (exfalso; rw [if_pos (by decide), ordS_self] at h; exact absurd h (by decide)) | (exfalso; rw [if_neg (by decide)] at h; exact absurd h (by decide)) | (simp only [List.cons_append]; rw [bl_same]; exact bl_head (by decide) _ _))
  · obtain ⟨a, _⟩ := right_text hu ku
    obtain ⟨c, _⟩ := right_text hv kv
    rw [a, c, if_pos (by decide)] at h
    have hlt : Op.bytesLess u.2.2.toList v.2.2.toList = true := ordS_lt.1 (by omega)
    rw [ByteArray.toList_eq, ByteArray.toList_eq] at hlt
    rw [List.cons_append, List.cons_append, bl_same, List.append_assoc, List.append_assoc]
    exact esc_less _ _ _ _ hlt
/-- The keys stand as the values do. -/
theorem kbs_less : ∀ (us vs : List V3), (∀ v ∈ us, V3.right v = true) → (∀ v ∈ vs, V3.right v = true) → ordL us vs = -1 → Op.bytesLess (kbs us) (kbs vs) = true
  | [], [], _, _, h => by simp [ordL] at h
  | [], v :: vs, _, _, _ => by
    have hp := kb_pos v
    rw [kbs_nil, kbs_cons]
    cases e : kb v with
    | nil => rw [e] at hp; simp at hp
    | cons a l => rfl
  | u :: us, [], _, _, h => by simp [ordL] at h
  | u :: us, v :: vs, hu, hv, h => by
    rw [ordL] at h
    rw [kbs_cons, kbs_cons]
    by_cases g : ordV3 u v = 0
    · rw [if_pos g] at h
      rw [ordV3_zero g, bl_prefix]
      exact kbs_less us vs (fun x hx => hu x (by simp [hx])) (fun x hx => hv x (by simp [hx])) h
    · rw [if_neg g] at h
      exact kb_less (hu u (by simp)) (hv v (by simp)) h _ _
theorem kbs_order {us vs : List V3} (hu : ∀ v ∈ us, V3.right v = true) (hv : ∀ v ∈ vs, V3.right v = true) :
    ordL us vs = if Op.bytesLess (kbs us) (kbs vs) then -1 else if kbs us = kbs vs then 0 else 1 := by
  rcases ordL_range us vs with h | h | h
  · rw [h, if_pos (kbs_less us vs hu hv h)]
  · obtain rfl := ordL_zero us vs h
    rw [h, if_neg (by rw [bl_irrefl]; simp), if_pos rfl]
  · have h' : ordL vs us = -1 := by rw [ordL_neg us vs, h]
    have g := kbs_less vs us hv hu h'
    rw [h, if_neg (by rw [bl_asymm _ _ g]; simp), if_neg]
    intro e
    rw [e, bl_irrefl] at g
    exact absurd g (by simp)

/-- What is next behind all that begin with a text. -/
def nxt (s : List UInt8) : List UInt8 × Bool := match s.reverse.dropWhile (fun c => c == 255) with
  | [] => ([], false)
  | c :: p => (p.reverse ++ [c + 1], true)
theorem nxt_all {s : List UInt8} (h : ∀ c ∈ s, c = 255) : nxt s = ([], false) := by
  have e : s.reverse.dropWhile (fun c => c == 255) = [] := by
    have := List.dropWhile_append_of_pos (p := fun c : UInt8 => c == 255) (l₁ := s.reverse) (l₂ := []) (by intro c hc; simpa using h c (by simpa using hc))
    simpa using this
  unfold nxt
  rw [e]
theorem nxt_some {p q : List UInt8} {c : UInt8} (hc : c ≠ 255) (hq : ∀ d ∈ q, d = 255) : nxt (p ++ c :: q) = (p ++ [c + 1], true) := by
  have e : (p ++ c :: q).reverse.dropWhile (fun c => c == 255) = c :: p.reverse := by
    rw [List.reverse_append, List.reverse_cons, List.append_assoc, List.dropWhile_append_of_pos (by intro d hd; simpa using hq d (by simpa using hd))]
    rw [List.singleton_append, List.dropWhile_cons_of_neg (by simpa using hc)]
  unfold nxt
  rw [e]
  simp
theorem nxt_cases (s : List UInt8) : (∀ c ∈ s, c = 255) ∨ ∃ p c q, s = p ++ c :: q ∧ c ≠ 255 ∧ ∀ d ∈ q, d = 255 := by
  by_cases h : ∀ c ∈ s, c = 255
  · exact Or.inl h
  · right
    induction s with
    | nil => exact absurd (by simp) h
    | cons a s ih =>
      by_cases g : ∀ c ∈ s, c = 255
      · refine ⟨[], a, s, rfl, ?_, g⟩
        intro e
        exact h (by intro c hc; rcases List.mem_cons.1 hc with rfl | hc; exact e; exact g c hc)
      · obtain ⟨p, c, q, rfl, hc, hq⟩ := ih g
        exact ⟨a :: p, c, q, rfl, hc, hq⟩
theorem bl_all : ∀ (s t : List UInt8), (∀ c ∈ s, c = 255) → (s <+: t ↔ Op.bytesLess t s = false)
  | [], t, _ => by cases t <;> simp [Op.bytesLess]
  | c :: s, [], _ => by simp [Op.bytesLess]
  | c :: s, d :: t, h => by
    obtain rfl := h c (by simp)
    have ih := bl_all s t (fun c hc => h c (by simp [hc]))
    have hd := UInt8.toNat_lt d
    rw [bl_cons]
    by_cases e : d = 255
    · subst e
      rw [List.prefix_cons_inj, ih]
      simp
    · have hlt : d < 255 := by
        have : d.toNat ≠ 255 := fun g => e (UInt8.toNat_inj.1 g)
        rw [UInt8.lt_iff_toNat_lt]
        show d.toNat < 255
        omega
      constructor
      · intro g
        obtain ⟨r, g⟩ := g
        simp at g
        exact absurd g.1.symm e
      · intro g
        simp [hlt] at g
theorem bl_next : ∀ (p q t : List UInt8) (c : UInt8), c ≠ 255 → (∀ d ∈ q, d = 255) → (p ++ c :: q <+: t ↔ Op.bytesLess t (p ++ c :: q) = false ∧ Op.bytesLess t (p ++ [c + 1]) = true)
  | [], q, [], c, _, _ => by simp [Op.bytesLess]
  | [], q, d :: t, c, hc, hq => by
    have ih := bl_all q t hq
    have hn : (c + 1).toNat = c.toNat + 1 := by
      have h1 := UInt8.toNat_lt c
      have : c.toNat ≠ 255 := fun g => hc (UInt8.toNat_inj.1 g)
      rw [UInt8.toNat_add]
      show (c.toNat + 1) % 256 = c.toNat + 1
      omega
    rw [List.nil_append, List.nil_append, bl_cons, bl_cons]
    have ht : Op.bytesLess t [] = false := by cases t <;> rfl
    rw [ht]
    by_cases e : d = c
    · subst e
      rw [List.prefix_cons_inj, ih]
      have : d < d + 1 := by rw [UInt8.lt_iff_toNat_lt]; omega
      simp [this]
    · constructor
      · intro g
        obtain ⟨r, g⟩ := g
        simp at g
        exact absurd g.1.symm e
      · intro ⟨g, g'⟩
        simp only [Bool.and_false, Bool.or_false, decide_eq_true_eq, UInt8.lt_iff_toNat_lt, hn] at g'
        simp only [Bool.or_eq_false_iff, decide_eq_false_iff_not, UInt8.lt_iff_toNat_lt] at g
        exact absurd (UInt8.toNat_inj.1 (by omega)) e
  | a :: p, q, [], c, _, _ => by simp [Op.bytesLess]
  | a :: p, q, d :: t, c, hc, hq => by
    have ih := bl_next p q t c hc hq
    rw [List.cons_append, List.cons_append, bl_cons, bl_cons]
    by_cases e : d = a
    · subst e
      rw [List.prefix_cons_inj, ih]
      simp
    · constructor
      · intro g
        obtain ⟨r, g⟩ := g
        simp at g
        exact absurd g.1.symm e
      · intro ⟨g, g'⟩
        simp [e] at g g'
        rw [UInt8.lt_iff_toNat_lt] at g'
        rw [UInt8.le_iff_toNat_le] at g
        omega
/-- What lies from a text on and ahead of what is next is what begins with it. -/
theorem nxt_lies (s t : List UInt8) : (s <+: t) ↔ (Op.bytesLess t s = false ∧ ((nxt s).2 = false ∨ Op.bytesLess t (nxt s).1 = true)) := by
  rcases nxt_cases s with h | ⟨p, c, q, rfl, hc, hq⟩
  · rw [nxt_all h, bl_all s t h]; simp
  · rw [nxt_some hc hq, bl_next p q t c hc hq]; simp
end Go.Proofs.YtbmgcibclmbelabDoor
