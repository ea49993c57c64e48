/- Plain mathematics of layer 7: a key's leaf, and all items. -/
import Derived.Test.YtlpannicklkghaaM86
namespace Go.Proofs.Ytlpannicklkghaa

theorem cntL_append {key : ByteArray} : ∀ {P l : List It}, (∀ x ∈ P, kl x.key key = true) → cntL key (P ++ l) = P.length + cntL key l
  | [], l, _ => by simp
  | x :: P, l, h => by
    have ih := cntL_append (P := P) (l := l) fun y hy => h y (List.mem_cons_of_mem _ hy)
    have hx := h x (by simp)
    show cntL key (x :: (P ++ l)) = _
    rw [cntL, if_pos hx, ih, List.length_cons]
    omega
theorem cntL_behind {key : ByteArray} : ∀ {l S : List It}, (∀ x ∈ S, kl key x.key = true) → cntL key (l ++ S) = cntL key l
  | [], [], _ => rfl
  | [], y :: S, h => by
    have := kl_asymm (h y (by simp))
    show cntL key (y :: S) = 0
    unfold cntL
    rw [if_neg (by rw [this]; simp)]
  | x :: l, S, h => by
    have ih := cntL_behind (l := l) (S := S) h
    show cntL key (x :: (l ++ S)) = cntL key (x :: l)
    rw [cntL, cntL, ih]
theorem foundL_append {key : ByteArray} {P l : List It} (h : ∀ x ∈ P, kl x.key key = true) : foundL key (P ++ l) = foundL key l := by
  unfold foundL
  rw [cntL_append h, List.getElem?_append_right (by omega)]
  simp
theorem foundL_behind {key : ByteArray} {l S : List It} (h : ∀ x ∈ S, kl key x.key = true) : foundL key (l ++ S) = foundL key l := by
  unfold foundL
  rw [cntL_behind h]
  rcases Nat.eq_or_lt_of_le (cntL_le key l) with e | e
  · rw [List.getElem?_append_right (by omega), e, Nat.sub_self, List.getElem?_eq_none (Nat.le_refl _)]
    cases S with
    | nil => rfl
    | cons y S =>
      have := kl_ne (h y (by simp))
      simp
      exact fun e => this e.symm
  · rw [List.getElem?_append_left e]
theorem insL_mid {key val : ByteArray} {P l S : List It} (hP : ∀ x ∈ P, kl x.key key = true) (hS : ∀ x ∈ S, kl key x.key = true) : insL key val (P ++ (l ++ S)) = P ++ (insL key val l ++ S) := by
  unfold insL
  have hc := cntL_le key l
  rw [cntL_append hP, cntL_behind hS, List.take_length_add_append, List.drop_length_add_append, List.take_append_of_le_length hc, List.drop_append_of_le_length hc]
  simp
/-- What lies in a level beside a key's node. -/
theorem beside {key : ByteArray} : ∀ {S : List Slot} {L : List Nd}, Fits S L → (∀ t ∈ S, ∃ h, t.2.hi = some h ∧ kl key h = false) → ∀ x ∈ L.flatMap (·.its), kl x.key key = true
  | [], [], _, _, x, hx => by simp at hx
  | s :: S, n :: L, hf, h, x, hx => by
    rw [List.flatMap_cons] at hx
    rcases List.mem_append.1 hx with hx | hx
    · obtain ⟨hh, e, hk⟩ := h s (by simp)
      exact kl_lt_le ((hf.1.2.mem x hx).2 hh e) hk
    · exact beside hf.2 (fun t ht => h t (List.mem_cons_of_mem _ ht)) x hx
  | [], _ :: _, hf, _, _, _ => hf.elim
  | _ :: _, [], hf, _, _, _ => hf.elim
theorem behind {key : ByteArray} : ∀ {S : List Slot} {L : List Nd}, Fits S L → (∀ t ∈ S, ∃ l, t.2.lo = some l ∧ kl key l = true) → ∀ x ∈ L.flatMap (·.its), kl key x.key = true
  | [], [], _, _, x, hx => by simp at hx
  | s :: S, n :: L, hf, h, x, hx => by
    rw [List.flatMap_cons] at hx
    rcases List.mem_append.1 hx with hx | hx
    · obtain ⟨hh, e, hk⟩ := h s (by simp)
      exact kl_lt_le hk ((hf.1.2.mem x hx).1 hh e)
    · exact behind hf.2 (fun t ht => h t (List.mem_cons_of_mem _ ht)) x hx
  | [], _ :: _, hf, _, _, _ => hf.elim
  | _ :: _, [], hf, _, _, _ => hf.elim
/-- A key's leaf among all leaves. -/
theorem leaf_mid {key : ByteArray} {c : Ctx} {A C : List Nd} {n : Nd} (hg : Good c.all [A ++ n :: C]) (hl : Loc key c) (hp : c.SA.length = A.length) : (∀ x ∈ A.flatMap (·.its), kl x.key key = true) ∧ (∀ x ∈ C.flatMap (·.its), kl key x.key = true) ∧ Srt n.its := by
  obtain ⟨hfit, _⟩ := good_leaf.1 hg
  obtain ⟨hfa, ⟨_, hok⟩, hfc⟩ := (fits_append hp).1 hfit
  exact ⟨beside hfa hl.a, behind hfc hl.c, hok.srt⟩
theorem items_mid (A C : List Nd) (n : Nd) : items [A ++ n :: C] = A.flatMap (·.its) ++ (n.its ++ C.flatMap (·.its)) := by simp [items_one]
end Go.Proofs.Ytlpannicklkghaa
