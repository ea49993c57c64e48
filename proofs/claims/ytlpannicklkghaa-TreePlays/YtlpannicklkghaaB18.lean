/- Walks of layer 7: a tree and what Put makes of it. -/
import Derived.Test.YtlpannicklkghaaB17
import Derived.Test.YtlpannicklkghaaM87
namespace Go.Proofs.Ytlpannicklkghaa
open Go.RowKit

/-- A tree in memory, all of it in Z; l: its items. -/
structure TreeIs (w : World) (Z : Nat → Prop) (t m : Nat) (ls : List (List Nd)) (l : List It) : Prop where
  some_ : ∃ rb, TrAt w t m l.length rb ∧ Good [(rb, ⟨none, none⟩)] ls
  hp : Hp w Z (allX ls)
  wid : WLv m true ls
  its : items ls = l
  srt : Srt l
/-- What stands under keys, with one more. -/
def putL (key val : ByteArray) (l : List It) : List It := if foundL key l then setV (cntL key l) val l else insL key val l
theorem DPure.items {key : ByteArray} {ls : List (List Nd)} {rb : Nat} {rs : List Fr} {A : List Nd} {n : Nd} {C : List Nd} (h : DPure key ls rb rs A n C) : items ls = A.flatMap (·.its) ++ (n.its ++ C.flatMap (·.its)) := by
  rw [h.all, items_append _ (by simp), items_mid]
theorem DPure.mid {key : ByteArray} {ls : List (List Nd)} {rb : Nat} {rs : List Fr} {A : List Nd} {n : Nd} {C : List Nd} (h : DPure key ls rb rs A n C) : (∀ x ∈ A.flatMap (·.its), kl x.key key = true) ∧ (∀ x ∈ C.flatMap (·.its), kl key x.key = true) ∧ Srt n.its := leaf_mid h.good (Frs.loc rfl h.frs) h.pos
theorem DPure.found {key : ByteArray} {ls : List (List Nd)} {rb : Nat} {rs : List Fr} {A : List Nd} {n : Nd} {C : List Nd} (h : DPure key ls rb rs A n C) : foundL key (Go.Proofs.Ytlpannicklkghaa.items ls) = foundL key n.its := by
  rw [h.items, foundL_append h.mid.1, foundL_behind h.mid.2.1]
theorem DPure.ins {key : ByteArray} (val : ByteArray) {ls : List (List Nd)} {rb : Nat} {rs : List Fr} {A : List Nd} {n : Nd} {C : List Nd} (v' : Value) (h : DPure key ls rb rs A n C) : Go.Proofs.Ytlpannicklkghaa.items [A ++ ⟨n.b, v', insL key val n.its⟩ :: C] = insL key val (Go.Proofs.Ytlpannicklkghaa.items ls) := by
  rw [h.items, insL_mid h.mid.1 h.mid.2.1, items_mid]
/-- Put of a key that is not there. -/
theorem tree_put_new (w : World) (Z : Nat → Prop) (t m : Nat) (key val : ByteArray) (ls : List (List Nd)) (l : List It) (h : TreeIs w Z t m ls l) (hZ : ∀ k, w.heap.size ≤ k → Z k) (hlen : ls.length ≤ 1000000) (hm : 4 ≤ m) (hm2 : m ≤ 64) (hcnt : l.length ≤ 4000000000) (hks : key.size ≤ 281474976710656) (hvs : val.size ≤ 281474976710656) (hnf : foundL key l = false) :
    Calls Try.prog 18 #[.pointer (some ⟨t, 0, none⟩), .string key, .string val] w fun e w' => e = .returned (.tuple #[.string ⟨#[]⟩, .bool false]) ∧ Only (fun k => Z k ∨ k = t) w w' ∧ ∃ ls', TreeIs w' Z t m ls' (insL key val l) := by
  obtain ⟨rb, ht, hg⟩ := h.some_
  refine (put_new w Z t m l.length rb key val ls ht h.hp hZ hg h.wid hlen hm hm2 hcnt hks hvs (fun rs A n C hd => by rw [← hd.found, h.its]; exact hnf)).mono ?_
  rintro e w' ⟨rfl, rs, A, n, C, v', hd, _, ho, rb', ls', ht', hp', hg', hw', hi'⟩
  rw [hd.ins val v', h.its] at hi'
  exact ⟨rfl, ho, ls', ⟨⟨rb', by rw [insL_length]; exact ht', hg'⟩, hp', hw', hi', ins_sorted h.srt hnf⟩⟩
end Go.Proofs.Ytlpannicklkghaa
