/- TreeOrderless: two trees side by side. -/
import Derived.Test.YtlpannicklkghaaB28
import Derived.Test.YtlpannicklkghaaB30
import Derived.Test.YtlpannicklkghaaB31
namespace Go.Proofs.Ytlpannicklkghaa
open Go.RowKit

/-- Two trees side by side. -/
structure OL (w : World) (Ba Bb ta tb ma mb : Nat) (la lb : List Pr) (Za Zb : Nat → Prop) (a b : List It) : Prop where
  ta : TreeZ w Ba Za ta ma a
  tb : TreeZ w Bb Zb tb mb b
  ap : ∀ k, Za k → ¬ Zb k
  sa : SetIs a la
  sb : SetIs b lb
  na : a.length ≤ la.length
  nb : b.length ≤ lb.length
def OLs (w : World) (Ba Bb ta tb ma mb : Nat) (la lb : List Pr) : Prop := ∃ Za Zb a b, OL w Ba Bb ta tb ma mb la lb Za Zb a b
theorem OL.later {w w' : World} {Ba Bb ta tb ma mb : Nat} {la lb : List Pr} {Za Zb : Nat → Prop} {a b : List It} (h : OL w Ba Bb ta tb ma mb la lb Za Zb a b) (hb : Below w.heap.size w w') : OL w' Ba Bb ta tb ma mb la lb Za Zb a b := ⟨h.ta.later hb, h.tb.later hb, h.ap, h.sa, h.sb, h.na, h.nb⟩
theorem OLs.later {w w' : World} {Ba Bb ta tb ma mb : Nat} {la lb : List Pr} (h : OLs w Ba Bb ta tb ma mb la lb) (hb : Below w.heap.size w w') : OLs w' Ba Bb ta tb ma mb la lb := by
  obtain ⟨Za, Zb, a, b, h⟩ := h
  exact ⟨Za, Zb, a, b, h.later hb⟩
def Small (l : List Pr) : Prop := ∀ x ∈ l, Sm7 x
theorem OL.putA {w : World} {Ba Bb ta tb ma mb : Nat} {la lb : List Pr} {Za Zb : Nat → Prop} {a b : List It} (h : OL w Ba Bb ta tb ma mb la lb Za Zb a b) (p : Pr) (hm : 4 ≤ ma) (hm2 : ma ≤ 64) (hl : la.length ≤ 4000000000) (hp : Sm7 p) (hf : foundL p.1 a = false) (B : Nat) (hB : B ≤ Ba) :
    Calls Try.prog 18 #[.pointer (some ⟨ta, 0, none⟩), .string p.1, .string p.2] w fun e w' => (∃ x y, e = .returned (.tuple #[x, y])) ∧ Below B w w' ∧ OLs w' Ba Bb ta tb ma mb (la ++ [p]) lb := by
  refine (put_z w Ba Za ta ma p.1 p.2 a h.ta hm hm2 (by have := h.na; omega) (by have := hp.1; omega) (by have := hp.2; omega)).mono ?_
  rintro e w' ⟨rfl, ho, Z', hz, hzz⟩
  refine ⟨⟨_, _, rfl⟩, h.ta.below ho hB, Z', Zb, _, b, ⟨hz, h.tb.kept ho fun k hk h2 => h.ap k h2 hk, fun k hk h2 => ?_, h.sa.new p hf, h.sb, by have := putL_length (key := p.1) (val := p.2) (l := a); have := h.na; rw [List.length_append, List.length_singleton]; omega, h.nb⟩⟩
  rcases hzz k hk with h3 | h3
  · exact h.ap k h3 h2
  · have := (h.tb.lo k h2).2
    omega
theorem OL.putB {w : World} {Ba Bb ta tb ma mb : Nat} {la lb : List Pr} {Za Zb : Nat → Prop} {a b : List It} (h : OL w Ba Bb ta tb ma mb la lb Za Zb a b) (p : Pr) (hm : 4 ≤ mb) (hm2 : mb ≤ 64) (hl : lb.length ≤ 4000000000) (hp : Sm7 p) (B : Nat) (hB : B ≤ Bb) :
    Calls Try.prog 18 #[.pointer (some ⟨tb, 0, none⟩), .string p.1, .string p.2] w fun e w' => (∃ x y, e = .returned (.tuple #[x, y])) ∧ Below B w w' ∧ OLs w' Ba Bb ta tb ma mb la (p :: lb) := by
  refine (put_z w Bb Zb tb mb p.1 p.2 b h.tb hm hm2 (by have := h.nb; omega) (by have := hp.1; omega) (by have := hp.2; omega)).mono ?_
  rintro e w' ⟨rfl, ho, Z', hz, hzz⟩
  refine ⟨⟨_, _, rfl⟩, h.tb.below ho hB, Za, Z', a, _, ⟨h.ta.kept ho fun k hk h2 => h.ap k hk h2, hz, fun k hk h2 => ?_, h.sa, h.sb.put p, h.na, by have := putL_length (key := p.1) (val := p.2) (l := b); have := h.nb; rw [List.length_cons]; omega⟩⟩
  rcases hzz k h2 with h3 | h3
  · exact h.ap k hk h3
  · have := (h.ta.lo k hk).2
    omega
theorem SetIs.small {r : List It} {l : List Pr} (h : SetIs r l) (hs : Small l) : ∀ y ∈ r, y.key.size ≤ 2147483647 ∧ y.val.size ≤ 2147483647 := fun _ hy => hs _ (h.pair hy)
theorem SetIs.ris {r : List It} {l : List Pr} (h : SetIs r l) : risB (r.map pr) = true := by
  rw [risB_iff]
  intro j hj
  rw [List.length_map] at hj
  rw [List.getElem_map, List.getElem_map]
  exact List.pairwise_iff_getElem.1 h.srt j (j + 1) (by omega) hj (by omega)
theorem SetIs.back {r : List It} {l : List Pr} (h : SetIs r l) : (r.map pr).map itOf = r := by
  rw [List.map_map]
  conv => rhs; rw [← List.map_id r]
  refine List.map_congr_left fun x hx => ?_
  exact It.ext3 rfl rfl (h.kid x hx).symm
theorem drop_one {l : List Pr} {k : Nat} (hk : k < l.length) (h : l.length - 1 - k < l.length) : l.drop (l.length - (k + 1)) = l[l.length - 1 - k] :: l.drop (l.length - k) := by
  have e : l.length - (k + 1) = l.length - 1 - k := by omega
  rw [e, List.drop_eq_getElem_cons h]
  congr 2
  omega
theorem take_one {l : List Pr} {k : Nat} (hk : k < l.length) : l.take (k + 1) = l.take k ++ [l[k]] := by
  rw [List.take_add_one, List.getElem?_eq_getElem hk]
  rfl
end Go.Proofs.Ytlpannicklkghaa
