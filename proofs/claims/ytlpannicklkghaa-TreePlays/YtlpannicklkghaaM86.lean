/- Plain mathematics of layer 7: a key comes into a leaf. -/
import Derived.Test.YtlpannicklkghaaM84
namespace Go.Proofs.Ytlpannicklkghaa

def insL (key val : ByteArray) (l : List It) : List It := l.take (cntL key l) ++ ⟨key, val, none⟩ :: l.drop (cntL key l)
theorem insL_length (key val : ByteArray) (l : List It) : (insL key val l).length = l.length + 1 := by
  have := cntL_le key l
  simp [insL]
  omega
theorem ins_below {key : ByteArray} {l : List It} : ∀ x ∈ l.take (cntL key l), kl x.key key = true := fun x hx => by
  obtain ⟨i, hi, rfl⟩ := List.getElem_of_mem hx
  rw [List.length_take] at hi
  rw [List.getElem_take]
  exact cntL_lt key l i (by omega) (by omega)
theorem ins_above {key : ByteArray} {l : List It} (hs : Srt l) (hf : foundL key l = false) : ∀ x ∈ l.drop (cntL key l), kl key x.key = true := fun x hx => by
  obtain ⟨i, hi, rfl⟩ := List.getElem_of_mem hx
  rw [List.length_drop] at hi
  rw [List.getElem_drop]
  have h0 := cntL_at key l (by omega)
  have hne0 : (l[cntL key l]'(by omega)).key ≠ key := fun e' => by
    rw [foundL_at (by omega), e'] at hf
    simp at hf
  have hlt := kl_total h0 hne0
  rcases Nat.eq_zero_or_pos i with e' | e'
  · subst e'; exact hlt
  · exact kl_trans hlt (List.pairwise_iff_getElem.1 hs _ _ (by omega) (by omega) (by omega))
theorem ins_sorted {key val : ByteArray} {l : List It} (hs : Srt l) (hf : foundL key l = false) : Srt (insL key val l) := by
  have h := hs
  rw [← List.take_append_drop (cntL key l) l] at h
  obtain ⟨h1, h2, h3⟩ := List.pairwise_append.1 h
  refine List.pairwise_append.2 ⟨h1, List.pairwise_cons.2 ⟨ins_above hs hf, h2⟩, fun a ha b hb => ?_⟩
  rcases List.mem_cons.1 hb with rfl | hb
  · exact ins_below a ha
  · exact h3 a ha b hb
theorem ins_mem {key val : ByteArray} {l : List It} {x : It} (h : x ∈ insL key val l) : x = ⟨key, val, none⟩ ∨ x ∈ l := by
  rcases List.mem_append.1 h with h | h
  · exact Or.inr (List.mem_of_mem_take h)
  · rcases List.mem_cons.1 h with h | h
    · exact Or.inl h
    · exact Or.inr (List.mem_of_mem_drop h)
/-- Widths of levels, parted along a way. -/
theorem wlv_part {m : Nat} : ∀ {rs : List Fr} {L : List Nd} {low : List (List Nd)}, WLv m true (lvls rs ++ L :: low) → WF m rs ∧ (∀ x ∈ L, lowB m rs.isEmpty low.isEmpty ≤ x.its.length ∧ x.its.length ≤ m) ∧ WLv m false low
  | [], _, _, h => ⟨trivial, h.1, h.2⟩
  | f :: rs, L, low, h => by
    rw [lvls_cons, List.append_assoc] at h
    obtain ⟨h1, h2, h3⟩ := wlv_part (rs := rs) (L := f.lvl) (low := L :: low) h
    exact ⟨⟨h2, h1⟩, h3.1, h3.2⟩
/-- .. and laid together. -/
theorem wlv_glue {m : Nat} : ∀ {rs : List Fr} {L : List Nd} {low : List (List Nd)}, WF m rs → (∀ x ∈ L, lowB m rs.isEmpty low.isEmpty ≤ x.its.length ∧ x.its.length ≤ m) → WLv m false low → WLv m true (lvls rs ++ L :: low)
  | [], _, _, _, h2, h3 => ⟨h2, h3⟩
  | f :: rs, L, low, h1, h2, h3 => by
    rw [lvls_cons, List.append_assoc]
    exact wlv_glue (rs := rs) (L := f.lvl) (low := L :: low) h1.2 h1.1 ⟨h2, h3⟩
/-- A key that was not there has come into its leaf: what grow begins with. -/
theorem GI.start {key val : ByteArray} {m : Nat} {c : Ctx} {top : Bool} {A C : List Nd} {n n' : Nd} (hg : Good c.all [A ++ n :: C]) (hl : Loc key c) (hp : c.SA.length = A.length) (hw : ∀ x ∈ A ++ n :: C, lowB m top true ≤ x.its.length ∧ x.its.length ≤ m) (hf : foundL key n.its = false) (hb : n'.b = n.b) (hi : n'.its = insL key val n.its) : GI key m c top A n' C [] := by
  obtain ⟨hfit, hlf⟩ := good_leaf.1 hg
  obtain ⟨hfa, ⟨hnb, hok⟩, hfc⟩ := (fits_append hp).1 hfit
  have hlen : n'.its.length = n.its.length + 1 := by rw [hi, insL_length]
  have hwn := hw n (by simp)
  refine ⟨good_leaf.2 ⟨(fits_append hp).2 ⟨hfa, ⟨hb.trans hnb, ⟨?_, fun x hx => ?_⟩⟩, hfc⟩, fun x hx => ?_⟩, hp, fun x hx => hw x ?_, ⟨?_, ?_⟩, trivial⟩
  · rw [hi]; exact ins_sorted hok.srt hf
  · rw [hi] at hx
    rcases ins_mem hx with rfl | hx
    · exact ⟨inLo_lower_key key _, hl.hi⟩
    · exact ⟨inLo_lower (hok.mem x hx).1, (hok.mem x hx).2⟩
  · rcases List.mem_append.1 hx with hx | hx
    · exact hlf x (List.mem_append_left _ hx)
    · rcases List.mem_cons.1 hx with rfl | hx
      · intro z hz
        rw [hi] at hz
        rcases ins_mem hz with rfl | hz
        · rfl
        · exact hlf n (by simp) z hz
      · exact hlf x (List.mem_append_right _ (List.mem_cons_of_mem _ hx))
  · rcases List.mem_append.1 hx with hx | hx
    · exact List.mem_append_left _ hx
    · exact List.mem_append_right _ (List.mem_cons_of_mem _ hx)
  · rw [hlen]; exact Nat.le_succ_of_le hwn.1
  · rw [hlen]; exact Nat.succ_le_succ hwn.2
end Go.Proofs.Ytlpannicklkghaa
