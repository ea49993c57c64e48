/- Walks of layer 7: Delete of a tree; how levels hang together. -/
import Derived.Test.YtlpannicklkghaaB42
import Derived.Test.YtlpannicklkghaaB31
namespace Go.Proofs.Ytlpannicklkghaa
open Go.RowKit

/-- Delete. -/
theorem tree_del (w : World) (Z : Nat → Prop) (t m : Nat) (key : ByteArray) (ls : List (List Nd)) (l : List It) (h : TreeIs w Z t m ls l) (hZ : ∀ k, w.heap.size ≤ k → Z k) (hm : 4 ≤ m) (hm2 : m ≤ 64) (hcnt : l.length ≤ 4000000000) :
    Calls Try.prog 17 #[.pointer (some ⟨t, 0, none⟩), .string key] w fun e w' => e = .returned (.tuple #[.string (valL key l), .bool (foundL key l)]) ∧ Only (fun k => Z k ∨ k = t) w w' ∧ ∃ ls', TreeIs w' Z t m ls' (delL key l) := by
  cases hf : foundL key l with
  | false =>
    refine (tree_del_none w Z t m key ls l h hm hm2 hcnt hf).mono ?_
    rintro e w' ⟨hb, rfl⟩
    refine ⟨by unfold valL; rw [hf]; rfl, Only.of hb, ls, ?_⟩
    unfold delL
    rw [hf]
    exact h.later hb
  | true =>
    obtain ⟨rb, ht, hg⟩ := h.some_
    have hlt := found_lt hf
    obtain ⟨cnt, hc⟩ : ∃ cnt, l.length = cnt + 1 := ⟨l.length - 1, by omega⟩
    rw [hc] at ht
    refine (del_old w Z t m cnt rb key ls ht h.hp hZ hg h.wid (by have := h.low hm (by omega); omega) hm hm2 (by omega) (fun rs A n C hd => by rw [← hd.found, h.its]; exact hf)).mono ?_
    rintro e w' ⟨rs, A, n, C, v', hd, rfl, _, ho, rb', ls', ht', hp', hg', hw', hi'⟩
    have hfn : foundL key n.its = true := by rw [← hd.found, h.its]; exact hf
    rw [hd.cut v' hfn, h.its] at hi'
    refine ⟨by rw [← hd.val, h.its], ho, ls', ?_⟩
    unfold delL
    rw [hf, if_pos rfl]
    have hcl := cutL_length hf
    exact ⟨⟨rb', by rw [show (cutL key l).length = cnt by omega]; exact ht', hg'⟩, hp', hw', hi', List.Pairwise.sublist (cutL_sub key l) h.srt⟩
theorem del_z (w : World) (B : Nat) (Z : Nat → Prop) (t m : Nat) (key : ByteArray) (l : List It) (h : TreeZ w B Z t m l) (hm : 4 ≤ m) (hm2 : m ≤ 64) (hcnt : l.length ≤ 4000000000) :
    Calls Try.prog 17 #[.pointer (some ⟨t, 0, none⟩), .string key] w fun e w' => e = .returned (.tuple #[.string (valL key l), .bool (foundL key l)]) ∧ Only Z w w' ∧ ∃ Z', TreeZ w' B Z' t m (delL key l) ∧ ∀ k, Z' k → Z k ∨ w.heap.size ≤ k := by
  obtain ⟨ls, h1⟩ := h.is
  refine (tree_del w _ t m key ls l (h.wide h1) (fun k hk => Or.inr hk) hm hm2 hcnt).mono ?_
  rintro e w' ⟨rfl, ho, ls', ht'⟩
  exact ⟨rfl, h.step ho ht'⟩

/-! ### levels -/
def headB : List (List Nd) → Option Nat
  | (n :: _) :: _ => some n.b
  | _ => none
/-- Each level begins with the first kid of the first node of the one above. -/
def Chain : List (List Nd) → Prop
  | [] => True
  | L :: r => (∃ n C, L = n :: C ∧ kid0 n.its = headB r) ∧ Chain r
theorem good_chain : ∀ {ls : List (List Nd)} {S : List Slot}, Good S ls → S ≠ [] → Chain ls
  | [], _, h, _ => h.elim
  | [L], S, h, hne => by
    obtain ⟨hf, hl⟩ := good_leaf.1 h
    obtain ⟨s, S', rfl⟩ := List.exists_cons_of_ne_nil hne
    match L, hf, hl with
    | n :: C, hf, hl =>
      refine ⟨⟨n, C, rfl, ?_⟩, trivial⟩
      have h1 := hl n (by simp)
      unfold kid0 headB
      match hi : n.its with
      | [] => rfl
      | x :: r => exact h1 x (by rw [hi]; simp)
  | L :: M :: r, S, h, hne => by
    obtain ⟨hf, hmid, hg⟩ := good_mid.1 h
    obtain ⟨s, S', rfl⟩ := List.exists_cons_of_ne_nil hne
    match L, hf, hmid, hg with
    | n :: C, hf, hmid, hg =>
      have h1 := hmid n (by simp)
      obtain ⟨x, xr, hx⟩ := List.exists_cons_of_ne_nil h1.ne
      obtain ⟨b, hb⟩ := h1.kid x (by rw [hx]; simp)
      have hsl : slots (s :: S') (n :: C) = (b, ⟨some x.key, hiOf xr s.2.hi⟩) :: (nslots xr s.2.hi ++ slots S' C) := by
        simp [slots, hx, nslots, hb]
      have hf2 := good_fits hg
      rw [hsl] at hf2
      match M, hf2, hg with
      | n' :: C', hf2, hg =>
        refine ⟨⟨n, C, rfl, ?_⟩, good_chain hg (by rw [hsl]; simp)⟩
        unfold kid0 headB
        rw [hx]
        show x.kid = some n'.b
        rw [hb, hf2.1.1]
theorem level_low {m : Nat} (hm : 4 ≤ m) : ∀ {ls : List (List Nd)} {S : List Slot}, Good S ls → WLv m false ls → ∀ L ∈ ls, L.length ≤ (items ls).length
  | [], _, h, _ => h.elim
  | [L], S, _, hw => by
    intro L' hL
    obtain rfl : L' = L := by simpa using hL
    have h2 := wide_sumB (L := L') (q := 1) fun x hx => by have := (hw.1 x hx).1; unfold lowB at this; simp at this; omega
    rw [items_one]
    omega
  | L :: M :: r, S, h, hw => by
    intro L' hL
    obtain ⟨hf, hmid, hg⟩ := good_mid.1 h
    have ih := level_low hm hg hw.2
    rw [items_cons]
    rcases List.mem_cons.1 hL with rfl | hL
    · have h2 := wide_sumB (L := L') (q := 1) fun x hx => List.length_pos_iff.2 (hmid x hx).ne
      have h3 := slots_length hf
      have h4 := (good_fits hg).length
      have h5 := ih M (by simp)
      omega
    · exact ih L' hL
theorem level_le {m : Nat} (hm : 4 ≤ m) {s : Slot} {ls : List (List Nd)} (h : Good [s] ls) (hw : WLv m true ls) : ∀ L ∈ ls, L.length ≤ (items ls).length + 1 := by
  match ls, h, hw with
  | [L], h, _ =>
    intro L' hL
    obtain rfl : L' = L := by simpa using hL
    have := (good_fits h).length
    simp at this
    omega
  | L :: M :: r, h, hw =>
    intro L' hL
    obtain ⟨hf, _, hg⟩ := good_mid.1 h
    rw [items_cons]
    rcases List.mem_cons.1 hL with rfl | hL
    · have := hf.length
      simp at this
      omega
    · have := level_low hm hg hw.2 L' hL
      omega
end Go.Proofs.Ytlpannicklkghaa
