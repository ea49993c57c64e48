/- Plain mathematics of layer 7: how high a tree may be. -/
import Derived.Test.YtlpannicklkghaaM87
namespace Go.Proofs.Ytlpannicklkghaa

theorem slots_length : ∀ {S : List Slot} {L : List Nd}, Fits S L → (slots S L).length = (L.flatMap (·.its)).length
  | [], [], _ => rfl
  | s :: S, n :: L, h => by
    rw [slots, List.length_append, nslots_length, slots_length h.2, List.flatMap_cons, List.length_append]
  | [], _ :: _, h => h.elim
  | _ :: _, [], h => h.elim
theorem wide_sum : ∀ {L : List Nd}, (∀ n ∈ L, 2 ≤ n.its.length) → 2 * L.length ≤ (L.flatMap (·.its)).length
  | [], _ => by simp
  | n :: L, h => by
    have h1 := h n (by simp)
    have h2 := wide_sum (L := L) fun x hx => h x (List.mem_cons_of_mem _ hx)
    rw [List.flatMap_cons, List.length_append, List.length_cons]
    omega
theorem high_low {m : Nat} (hm : 4 ≤ m) : ∀ {ls : List (List Nd)} {S : List Slot}, Good S ls → WLv m false ls → S ≠ [] → S.length + ls.length ≤ (items ls).length
  | [], _, h, _, _ => h.elim
  | [L], S, h, hw, hne => by
    have hf := good_fits h
    have h2 := wide_sum (L := L) fun x hx => by have := (hw.1 x hx).1; unfold lowB at this; simp at this; omega
    have h3 := hf.length
    have h4 : 0 < S.length := List.length_pos_iff.2 hne
    rw [items_one, List.length_cons, List.length_nil]
    omega
  | L :: M :: r, S, h, hw, hne => by
    obtain ⟨hf, _, hg⟩ := good_mid.1 h
    have h2 := wide_sum (L := L) fun x hx => by have := (hw.1 x hx).1; unfold lowB at this; simp at this; omega
    have h3 := hf.length
    have h4 : 0 < S.length := List.length_pos_iff.2 hne
    have h5 := slots_length hf
    have ih := high_low hm hg hw.2 (fun e => by rw [e, List.length_nil] at h5; omega)
    rw [items_cons, List.length_cons]
    omega
theorem high_le {m : Nat} {s : Slot} {ls : List (List Nd)} (hm : 4 ≤ m) (h : Good [s] ls) (hw : WLv m true ls) : ls.length ≤ (items ls).length + 1 := by
  match ls, h, hw with
  | [L], _, _ => simp
  | L :: M :: r, h, hw =>
    obtain ⟨hf, _, hg⟩ := good_mid.1 h
    have h2 := wide_sum (L := L) fun x hx => (hw.1 x hx).1
    have h3 := hf.length
    have h5 := slots_length hf
    simp only [List.length_cons, List.length_nil] at h3
    have ih := high_low hm hg hw.2 (fun e => by rw [e, List.length_nil] at h5; omega)
    rw [items_cons, List.length_cons]
    omega
end Go.Proofs.Ytlpannicklkghaa
