/- Plain mathematics of layer 7: parts of a list; the key behind a key. -/
import Derived.Test.YtlpannicklkghaaM92
import Derived.Test.YtlpannicklkghaaB26
namespace Go.Proofs.Ytlpannicklkghaa

theorem bl_next : ∀ k y : List UInt8, Op.bytesLess y (k ++ [0]) = !(Op.bytesLess k y)
  | [], [] => by simp [Op.bytesLess]
  | [], b :: y => by
    have h : ¬ b < 0 := by simp
    simp only [List.nil_append, Op.bytesLess]
    cases y <;> simp
  | a :: k, [] => by simp [Op.bytesLess]
  | a :: k, b :: y => by
    have ih := bl_next k y
    simp only [List.cons_append, Op.bytesLess, ih]
    by_cases e : a = b
    · subst e
      simp
    · have e' : ¬ b = a := fun h => e h.symm
      by_cases h : b < a
      · have h2 : ¬ a < b := fun h3 => by
          have h4 : b.toNat < a.toNat := h
          have h5 : a.toNat < b.toNat := h3
          omega
        simp [h, h2, e]
      · have h2 : a < b := by
          have h3 : ¬ b.toNat < a.toNat := h
          have h4 : a.toNat ≠ b.toNat := fun h5 => e (UInt8.toNat_inj.1 h5)
          show a.toNat < b.toNat
          omega
        simp [h, h2, e']
theorem kl_next (k y : ByteArray) : kl y (nextK k) = !(kl k y) := by
  unfold kl nextK
  have e : (k ++ (⟨#[0]⟩ : ByteArray)).toList = k.toList ++ [0] := by
    rw [ByteArray.toList_eq, ByteArray.toList_eq]
    simp
  rw [e]
  exact bl_next _ _
theorem cntL_eq {key : ByteArray} {P S : List It} (hP : ∀ x ∈ P, kl x.key key = true) (hS : ∀ x ∈ S, kl x.key key = false) : cntL key (P ++ S) = P.length := by
  rw [cntL_append hP]
  cases S with
  | nil => rfl
  | cons x r => rw [cntL, hS x (by simp)]; rfl
/-- The items behind the first one from a key on. -/
theorem next_drop {L : List It} (hs : Srt L) {frm : ByteArray} {x : It} {r : List It} (h : L.drop (cntL frm L) = x :: r) : L.drop (cntL (nextK x.key) L) = r := by
  have e : L = L.take (cntL frm L) ++ [x] ++ r := by
    conv => lhs; rw [← List.take_append_drop (cntL frm L) L, h]
    simp
  have hp : (L.take (cntL frm L) ++ [x] ++ r).Pairwise fun a b => kl a.key b.key = true := by rw [← e]; exact hs
  have hp2 := List.pairwise_append.1 hp
  have hp3 := List.pairwise_append.1 hp2.1
  have hc : cntL (nextK x.key) L = (L.take (cntL frm L) ++ [x]).length := by
    conv => lhs; rw [e]
    refine cntL_eq (fun y hy => ?_) fun y hy => ?_
    · rw [kl_next]
      rcases List.mem_append.1 hy with h1 | h1
      · rw [kl_asymm (hp3.2.2 y h1 x (by simp))]; rfl
      · simp at h1; subst h1; rw [kl_irrefl]; rfl
    · rw [kl_next, hp2.2.2 x (by simp) y hy]; rfl
  have h9 : (L.take (cntL frm L) ++ [x] ++ r).drop (L.take (cntL frm L) ++ [x]).length = r := List.drop_left' rfl
  rw [← e] at h9
  rw [hc]
  exact h9
theorem take_while_srt {to : ByteArray} : ∀ {r : List It}, Srt r → ∀ x, x ∈ r.takeWhile (fun y => untilB to y.key) ↔ x ∈ r ∧ untilB to x.key = true
  | [], _, x => by simp
  | y :: r, hs, x => by
    have hs' := List.pairwise_cons.1 hs
    rw [List.takeWhile_cons]
    cases hy : untilB to y.key with
    | true =>
      rw [if_pos rfl, List.mem_cons, take_while_srt hs'.2 x, List.mem_cons]
      constructor
      · rintro (rfl | ⟨h1, h2⟩)
        · exact ⟨Or.inl rfl, hy⟩
        · exact ⟨Or.inr h1, h2⟩
      · rintro ⟨rfl | h1, h2⟩
        · exact Or.inl rfl
        · exact Or.inr ⟨h1, h2⟩
    | false =>
      constructor
      · intro h; simp at h
      · rintro ⟨h1, h2⟩
        unfold untilB at hy h2
        rw [Bool.or_eq_false_iff] at hy
        rw [hy.1, Bool.false_or] at h2
        rcases List.mem_cons.1 h1 with rfl | h1
        · rw [hy.2] at h2; cases h2
        · have := kl_trans (hs'.1 x h1) h2
          rw [hy.2] at this
          cases this
theorem take_enough {α : Type} {m : Int} {p : α → Bool} {r : List α} (h : (r.length : Int) ≤ m) : (r.takeWhile p).take m.toNat = r.takeWhile p := by
  refine List.take_of_length_le ?_
  have := (List.takeWhile_sublist p (l := r)).length_le
  omega
theorem mem_listL {frm to : ByteArray} {m : Int} {L : List It} (hs : Srt L) (hm : (L.length : Int) ≤ m) (x : It) : x ∈ listL frm to m L ↔ x ∈ L ∧ kl x.key frm = false ∧ untilB to x.key = true := by
  have hd : Srt (L.drop (cntL frm L)) := List.Pairwise.sublist (List.drop_sublist _ _) hs
  unfold listL tellL
  rw [take_enough (by rw [List.length_drop]; omega), take_while_srt hd]
  have hc := cntL_cut (key := frm) hs
  constructor
  · rintro ⟨h1, h2⟩
    exact ⟨List.mem_of_mem_drop h1, hc.2 x h1, h2⟩
  · rintro ⟨h1, h2, h3⟩
    refine ⟨?_, h3⟩
    rw [← List.take_append_drop (cntL frm L) L] at h1
    rcases List.mem_append.1 h1 with h1 | h1
    · rw [hc.1 x h1] at h2; cases h2
    · exact h1
theorem listL_srt {frm to : ByteArray} {m : Int} {L : List It} (hs : Srt L) : Srt (listL frm to m L) := by
  unfold listL tellL
  exact List.Pairwise.sublist ((List.take_sublist _ _).trans ((List.takeWhile_sublist _).trans (List.drop_sublist _ _))) hs
theorem listL_length {frm to : ByteArray} {m : Int} {L : List It} : (listL frm to m L).length ≤ L.length := by
  unfold listL tellL
  exact ((List.take_sublist _ _).trans ((List.takeWhile_sublist _).trans (List.drop_sublist _ _))).length_le
/-- What lies between two keys is what lies up to one between them, and from it on. -/
theorem list_parts {frm mid to : ByteArray} {m : Int} {L : List It} (hs : Srt L) (hm : (L.length : Int) ≤ m) (h1 : kl mid frm = false) (h2 : mid.toList.isEmpty = false) (h3 : to.toList.isEmpty = true ∨ kl to mid = false) : listL frm mid m L ++ listL mid to m L = listL frm to m L := by
  refine srt_ext ?_ (listL_srt hs) fun x => ?_
  · refine List.pairwise_append.2 ⟨listL_srt hs, listL_srt hs, fun x hx y hy => ?_⟩
    have hx' := ((mem_listL hs hm x).1 hx).2.2
    have hy' := ((mem_listL hs hm y).1 hy).2.1
    unfold untilB at hx'
    rw [h2, Bool.false_or] at hx'
    exact kl_lt_le hx' hy'
  · rw [List.mem_append, mem_listL hs hm, mem_listL hs hm, mem_listL hs hm]
    have hu : untilB mid x.key = kl x.key mid := by unfold untilB; rw [h2, Bool.false_or]
    rw [hu]
    constructor
    · rintro (⟨a, b, c⟩ | ⟨a, b, c⟩)
      · refine ⟨a, b, ?_⟩
        unfold untilB
        rcases h3 with h3 | h3
        · rw [h3]; rfl
        · rw [kl_lt_le c h3, Bool.or_true]
      · exact ⟨a, kl_le_trans h1 b, c⟩
    · rintro ⟨a, b, c⟩
      cases hk : kl x.key mid with
      | true => exact Or.inl ⟨a, b, rfl⟩
      | false => exact Or.inr ⟨a, rfl, c⟩
/-- What Next tells behind as many of a list's items. -/
theorem tell_at {to : ByteArray} : ∀ {r : List It} {k : Nat} (h : k < (r.takeWhile fun y => untilB to y.key).length), ∃ r', r.drop k = (r.takeWhile fun y => untilB to y.key)[k] :: r'
  | y :: r, 0, h => by
    rw [List.takeWhile_cons] at h
    refine ⟨r, ?_⟩
    cases hy : untilB to y.key with
    | true => simp [hy]
    | false => rw [hy] at h; simp at h
  | y :: r, k + 1, h => by
    cases hy : untilB to y.key with
    | true =>
      have h' : k < (r.takeWhile fun y => untilB to y.key).length := by
        rw [List.takeWhile_cons, hy] at h
        simpa using h
      obtain ⟨r', e⟩ := tell_at h'
      refine ⟨r', ?_⟩
      rw [List.drop_succ_cons, e]
      simp [hy]
    | false =>
      rw [List.takeWhile_cons, hy] at h
      simp at h
theorem tell_end {to : ByteArray} : ∀ {r : List It}, ∀ x r', r.drop (r.takeWhile fun y => untilB to y.key).length = x :: r' → untilB to x.key = false
  | [], x, r', h => by simp at h
  | y :: r, x, r', h => by
    cases hy : untilB to y.key with
    | true =>
      rw [List.takeWhile_cons, hy] at h
      exact tell_end (r := r) x r' (by simpa using h)
    | false =>
      rw [List.takeWhile_cons, hy] at h
      simp at h
      rw [← h.1]
      exact hy
end Go.Proofs.Ytlpannicklkghaa
