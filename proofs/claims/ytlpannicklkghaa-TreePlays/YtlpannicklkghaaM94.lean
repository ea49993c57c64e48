/- Plain mathematics of layer 7: a key is taken away. -/
import Derived.Test.YtlpannicklkghaaB19
import Derived.Test.YtlpannicklkghaaM90
namespace Go.Proofs.Ytlpannicklkghaa

def cutL (key : ByteArray) (l : List It) : List It := l.take (cntL key l) ++ l.drop (cntL key l + 1)
def delL (key : ByteArray) (l : List It) : List It := if foundL key l then cutL key l else l
theorem cutL_sub (key : ByteArray) (l : List It) : (cutL key l).Sublist l := by
  unfold cutL
  conv => rhs; rw [← List.take_append_drop (cntL key l) l]
  exact (List.Sublist.refl _).append (by rw [← List.drop_drop]; exact List.drop_sublist _ _)
theorem cutL_length {key : ByteArray} {l : List It} (h : foundL key l = true) : (cutL key l).length + 1 = l.length := by
  have := found_lt h
  unfold cutL
  rw [List.length_append, List.length_take, List.length_drop]
  omega
theorem cut_mid {key : ByteArray} {P l S : List It} (hP : ∀ x ∈ P, kl x.key key = true) (hS : ∀ x ∈ S, kl key x.key = true) (hf : foundL key l = true) : cutL key (P ++ (l ++ S)) = P ++ (cutL key l ++ S) := by
  have hl := found_lt hf
  have hP0 : P.take (P.length + cntL key l) = P := List.take_of_length_le (by omega)
  have hP1 : P.drop (P.length + cntL key l + 1) = [] := List.drop_eq_nil_of_le (by omega)
  unfold cutL
  rw [cntL_append hP, cntL_behind hS, List.take_append, List.drop_append, hP0, hP1, show P.length + cntL key l - P.length = cntL key l by omega, show P.length + cntL key l + 1 - P.length = cntL key l + 1 by omega, List.take_append_of_le_length (by omega), List.drop_append_of_le_length (by omega)]
  simp
theorem DPure.cut {key : ByteArray} {ls : List (List Nd)} {rb : Nat} {rs : List Fr} {A : List Nd} {n : Nd} {C : List Nd} (v' : Value) (h : DPure key ls rb rs A n C) (hf : foundL key n.its = true) : Go.Proofs.Ytlpannicklkghaa.items [A ++ ⟨n.b, v', cutL key n.its⟩ :: C] = cutL key (Go.Proofs.Ytlpannicklkghaa.items ls) := by
  rw [h.items, cut_mid h.mid.1 h.mid.2.1 hf, items_mid]
/-- A leaf has lost an item: what shrink begins with. -/
theorem SI.start {key : ByteArray} {m : Nat} {c : Ctx} {top : Bool} {A C : List Nd} {n n' : Nd} (hg : Good c.all [A ++ n :: C]) (hp : c.SA.length = A.length) (hw : ∀ x ∈ A ++ n :: C, lowB m top true ≤ x.its.length ∧ x.its.length ≤ m) (hf : foundL key n.its = true) (hb : n'.b = n.b) (hi : n'.its = cutL key n.its) : SI m c top A n' C [] := by
  obtain ⟨hfit, hlf⟩ := good_leaf.1 hg
  obtain ⟨hfa, ⟨hnb, hok⟩, hfc⟩ := (fits_append hp).1 hfit
  have hsub := cutL_sub key n.its
  have hlen : n'.its.length + 1 = n.its.length := by rw [hi]; exact cutL_length hf
  have hwn := hw n (by simp)
  refine ⟨good_leaf.2 ⟨(fits_append hp).2 ⟨hfa, ⟨hb.trans hnb, ⟨?_, fun x hx => ?_⟩⟩, hfc⟩, fun x hx => ?_⟩, hp, fun x hx => hw x ?_, ⟨?_, ?_⟩, trivial⟩
  · rw [hi]; exact List.Pairwise.sublist hsub hok.srt
  · rw [hi] at hx
    exact hok.mem x (hsub.subset hx)
  · rcases List.mem_append.1 hx with hx | hx
    · exact hlf x (List.mem_append_left _ hx)
    · rcases List.mem_cons.1 hx with rfl | hx
      · intro z hz
        rw [hi] at hz
        exact hlf n (by simp) z (hsub.subset hz)
      · exact hlf x (List.mem_append_right _ (List.mem_cons_of_mem _ hx))
  · rcases List.mem_append.1 hx with hx | hx
    · exact List.mem_append_left _ hx
    · exact List.mem_append_right _ (List.mem_cons_of_mem _ hx)
  · rw [hlen]; exact hwn.1
  · omega
end Go.Proofs.Ytlpannicklkghaa
