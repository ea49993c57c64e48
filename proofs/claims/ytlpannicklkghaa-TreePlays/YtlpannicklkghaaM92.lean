/- Plain mathematics of layer 7: what sorted items say of keys. -/
import Derived.Test.YtlpannicklkghaaB25
namespace Go.Proofs.Ytlpannicklkghaa

/-- Sorted items are told by which there are. -/
theorem srt_ext : ∀ {a b : List It}, Srt a → Srt b → (∀ x, x ∈ a ↔ x ∈ b) → a = b
  | [], [], _, _, _ => rfl
  | [], y :: b, _, _, h => absurd ((h y).2 (by simp)) (by simp)
  | x :: a, [], _, _, h => absurd ((h x).1 (by simp)) (by simp)
  | x :: a, y :: b, ha, hb, h => by
    have ha' := List.pairwise_cons.1 ha
    have hb' := List.pairwise_cons.1 hb
    have e : x = y := by
      rcases List.mem_cons.1 ((h x).1 (by simp)) with e | h1
      · exact e
      · rcases List.mem_cons.1 ((h y).2 (by simp)) with e | h2
        · exact e.symm
        · have h3 := ha'.1 y h2
          have h4 := hb'.1 x h1
          rw [kl_asymm h3] at h4
          cases h4
    subst e
    congr 1
    refine srt_ext ha'.2 hb'.2 fun z => ⟨fun hz => ?_, fun hz => ?_⟩
    · rcases List.mem_cons.1 ((h z).1 (List.mem_cons_of_mem _ hz)) with e | h1
      · subst e
        have := ha'.1 z hz
        rw [kl_irrefl] at this
        cases this
      · exact h1
    · rcases List.mem_cons.1 ((h z).2 (List.mem_cons_of_mem _ hz)) with e | h1
      · subst e
        have := hb'.1 z hz
        rw [kl_irrefl] at this
        cases this
      · exact h1
theorem found_iff {key : ByteArray} {l : List It} (hs : Srt l) : foundL key l = true ↔ ∃ y ∈ l, y.key = key := by
  constructor
  · intro h
    have hc := found_lt h
    rw [foundL_at hc] at h
    exact ⟨_, List.getElem_mem hc, of_decide_eq_true h⟩
  · rintro ⟨y, hy, rfl⟩
    obtain ⟨i, hi, rfl⟩ := List.getElem_of_mem hy
    have hpw := List.pairwise_iff_getElem.1 hs
    have hcl := cntL_le (l[i]).key l
    have h1 : ¬ i < cntL (l[i]).key l := fun h => by
      have := cntL_lt (l[i]).key l i hi h
      rw [kl_irrefl] at this
      cases this
    have h2 : ¬ cntL (l[i]).key l < i := fun h => by
      have h3 := hpw _ _ (by omega) hi h
      rw [cntL_at (l[i]).key l (by omega)] at h3
      cases h3
    have h3 : cntL (l[i]).key l = i := by omega
    rw [foundL_at (by omega)]
    simp only [h3, decide_true]
theorem mem_insL {key val : ByteArray} {l : List It} {x : It} : x ∈ insL key val l ↔ x = ⟨key, val, none⟩ ∨ x ∈ l := by
  refine ⟨ins_mem, fun h => ?_⟩
  unfold insL
  rcases h with rfl | h
  · simp
  · rw [← List.take_append_drop (cntL key l) l] at h
    rcases List.mem_append.1 h with h | h
    · exact List.mem_append_left _ h
    · exact List.mem_append_right _ (List.mem_cons_of_mem _ h)
theorem mem_setV (val : ByteArray) : ∀ (i : Nat) (l : List It) (hi : i < l.length), Srt l → ∀ x, x ∈ setV i val l ↔ x = ⟨(l[i]).key, val, (l[i]).kid⟩ ∨ (x ∈ l ∧ x.key ≠ (l[i]).key)
  | 0, y :: r, _, hs, x => by
    rw [setV_zero, List.mem_cons, List.mem_cons]
    have hr := (List.pairwise_cons.1 hs).1
    constructor
    · rintro (rfl | h)
      · exact Or.inl rfl
      · exact Or.inr ⟨Or.inr h, fun e => kl_ne (hr x h) e.symm⟩
    · rintro (rfl | ⟨rfl | h, h2⟩)
      · exact Or.inl rfl
      · exact absurd rfl h2
      · exact Or.inr h
  | i + 1, y :: r, hi, hs, x => by
    have hi' : i < r.length := by simpa using hi
    rw [setV_succ, List.mem_cons, mem_setV val i r hi' (List.pairwise_cons.1 hs).2 x, List.mem_cons]
    have hr := (List.pairwise_cons.1 hs).1 _ (List.getElem_mem hi')
    constructor
    · rintro (rfl | h | ⟨h, h2⟩)
      · exact Or.inr ⟨Or.inl rfl, kl_ne hr⟩
      · exact Or.inl h
      · exact Or.inr ⟨Or.inr h, h2⟩
    · rintro (h | ⟨rfl | h, h2⟩)
      · exact Or.inr (Or.inl h)
      · exact Or.inl rfl
      · exact Or.inr (Or.inr ⟨h, h2⟩)
theorem mem_putL {key val : ByteArray} {l : List It} (hs : Srt l) (hk : ∀ y ∈ l, y.kid = none) (x : It) : x ∈ putL key val l ↔ x = ⟨key, val, none⟩ ∨ (x ∈ l ∧ x.key ≠ key) := by
  unfold putL
  split
  · rename_i h
    have hc := found_lt h
    have h2 := h
    rw [foundL_at hc] at h2
    have e := of_decide_eq_true h2
    rw [mem_setV val _ l hc hs x, e, hk _ (List.getElem_mem hc)]
  · rename_i h
    rw [mem_insL]
    constructor
    · rintro (e | hx)
      · exact Or.inl e
      · exact Or.inr ⟨hx, fun e => h ((found_iff hs).2 ⟨x, hx, e⟩)⟩
    · rintro (e | ⟨hx, _⟩)
      · exact Or.inl e
      · exact Or.inr hx
theorem putL_srt {key val : ByteArray} {l : List It} (hs : Srt l) : Srt (putL key val l) := by
  unfold putL
  split
  · exact setV_srt val _ hs
  · rename_i h
    exact ins_sorted hs (by simpa using h)
theorem putL_length {key val : ByteArray} {l : List It} : (putL key val l).length ≤ l.length + 1 := by
  unfold putL
  split
  · rw [setV_length]; omega
  · rw [insL_length]; exact Nat.le_refl _
/-- The first pair of a key. -/
def fst? (k : ByteArray) : List Pr → Option ByteArray
  | [] => none
  | p :: r => if p.1 = k then some p.2 else fst? k r
theorem fst_append (k : ByteArray) : ∀ a b : List Pr, fst? k (a ++ b) = (fst? k a).or (fst? k b)
  | [], _ => by simp [fst?]
  | p :: r, b => by
    rw [List.cons_append, fst?, fst?]
    split
    · rfl
    · exact fst_append k r b
theorem fst_mem {k v : ByteArray} : ∀ {l : List Pr}, fst? k l = some v → (k, v) ∈ l
  | [], h => by cases h
  | p :: r, h => by
    rw [fst?] at h
    split at h
    · rename_i e
      obtain ⟨a, b⟩ := p
      simp at h e
      subst h e
      simp
    · exact List.mem_cons_of_mem _ (fst_mem h)
/-- Items that say what the first pairs of their keys say. -/
structure SetIs (r : List It) (l : List Pr) : Prop where
  srt : Srt r
  mem : ∀ x, x ∈ r ↔ x.kid = none ∧ fst? x.key l = some x.val
theorem SetIs.nil : SetIs [] [] := ⟨List.Pairwise.nil, fun x => by simp [fst?]⟩
theorem SetIs.kid {r : List It} {l : List Pr} (h : SetIs r l) : ∀ y ∈ r, y.kid = none := fun y hy => ((h.mem y).1 hy).1
theorem SetIs.same {r r' : List It} {l : List Pr} (h : SetIs r l) (h' : SetIs r' l) : r = r' := srt_ext h.srt h'.srt fun x => (h.mem x).trans (h'.mem x).symm
theorem SetIs.pair {r : List It} {l : List Pr} (h : SetIs r l) {y : It} (hy : y ∈ r) : (y.key, y.val) ∈ l := fst_mem ((h.mem y).1 hy).2
theorem It.ext3 {x y : It} (h1 : x.key = y.key) (h2 : x.val = y.val) (h3 : x.kid = y.kid) : x = y := by
  cases x; cases y; simp at h1 h2 h3; simp [h1, h2, h3]
/-- One more ahead of all. -/
theorem SetIs.put {r : List It} {l : List Pr} (h : SetIs r l) (p : Pr) : SetIs (putL p.1 p.2 r) (p :: l) := by
  refine ⟨putL_srt h.srt, fun x => ?_⟩
  rw [mem_putL h.srt h.kid, h.mem, fst?]
  constructor
  · rintro (rfl | ⟨⟨h1, h2⟩, h3⟩)
    · simp
    · exact ⟨h1, by rw [if_neg fun e => h3 e.symm]; exact h2⟩
  · rintro ⟨h1, h2⟩
    split at h2
    · rename_i e
      exact Or.inl (It.ext3 e.symm (by simpa using h2.symm) h1)
    · rename_i e
      exact Or.inr ⟨⟨h1, h2⟩, fun e' => e e'.symm⟩
/-- One more behind all, that is there. -/
theorem SetIs.old {r : List It} {l : List Pr} (h : SetIs r l) (p : Pr) (hf : foundL p.1 r = true) : SetIs r (l ++ [p]) := by
  refine ⟨h.srt, fun x => ?_⟩
  rw [h.mem, fst_append]
  refine and_congr_right fun hx => ?_
  cases he : fst? x.key l with
  | some v => rfl
  | none =>
    simp only [Option.none_or, fst?]
    split
    · rename_i e
      obtain ⟨y, hy, hyk⟩ := (found_iff h.srt).1 hf
      have := ((h.mem y).1 hy).2
      rw [hyk, e, he] at this
      cases this
    · rfl
theorem SetIs.new {r : List It} {l : List Pr} (h : SetIs r l) (p : Pr) (hf : foundL p.1 r = false) : SetIs (putL p.1 p.2 r) (l ++ [p]) := by
  refine ⟨putL_srt h.srt, fun x => ?_⟩
  have hno : ∀ v, fst? p.1 l ≠ some v := fun v hv => by
    have := (found_iff h.srt (key := p.1)).2 ⟨⟨p.1, v, none⟩, (h.mem _).2 ⟨rfl, hv⟩, rfl⟩
    rw [hf] at this
    cases this
  rw [mem_putL h.srt h.kid, h.mem, fst_append]
  constructor
  · rintro (rfl | ⟨⟨h1, h2⟩, h3⟩)
    · refine ⟨rfl, ?_⟩
      cases he : fst? p.1 l with
      | some v => exact absurd he (hno v)
      | none => simp [fst?]
    · exact ⟨h1, by rw [h2]; rfl⟩
  · rintro ⟨h1, h2⟩
    cases he : fst? x.key l with
    | some v =>
      rw [he] at h2
      simp at h2
      subst h2
      exact Or.inr ⟨⟨h1, rfl⟩, fun e => hno x.val (by rw [← e]; exact he)⟩
    | none =>
      rw [he] at h2
      simp only [Option.none_or, fst?] at h2
      split at h2
      · rename_i e
        exact Or.inl (It.ext3 e.symm (by simpa using h2.symm) h1)
      · cases h2
theorem take_while_all {p : It → Bool} : ∀ {l : List It}, (∀ x ∈ l, p x = true) → l.takeWhile p = l
  | [], _ => rfl
  | x :: r, h => by rw [List.takeWhile_cons, h x (by simp), if_pos rfl, take_while_all fun y hy => h y (List.mem_cons_of_mem _ hy)]
theorem list_all {l : List It} {m : Int} (h : (l.length : Int) ≤ m) : listL ⟨#[]⟩ ⟨#[]⟩ m l = l := by
  have h0 : cntL ⟨#[]⟩ l = 0 := by
    cases l with
    | nil => rfl
    | cons x r =>
      have hn : ¬ 0 < cntL ⟨#[]⟩ (x :: r) := fun hc => by
        have := cntL_lt ⟨#[]⟩ (x :: r) 0 (by simp) hc
        unfold kl at this
        rw [ByteArray.toList_eq, ByteArray.toList_eq] at this
        cases hx : ((x :: r)[0]).key.data.toList <;> simp [Op.bytesLess] at this
      omega
  unfold listL tellL
  have ht : l.takeWhile (fun x => untilB ⟨#[]⟩ x.key) = l := by
    refine take_while_all fun x _ => ?_
    simp [untilB, ByteArray.toList_eq]
  rw [h0, List.drop_zero, ht, List.take_of_length_le (by omega)]
end Go.Proofs.Ytlpannicklkghaa
