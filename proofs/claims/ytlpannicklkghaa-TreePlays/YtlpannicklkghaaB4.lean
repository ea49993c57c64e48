/- Walks of layer 7: slices.Clone of items; slices.Insert of one item at the end. -/
import Derived.Test.YtlpannicklkghaaB3
import Derived.Lib.AppendZerosOnto
import Derived.Lib.Overlaps
import Derived.Lib.SliceRun
import Derived.Laws.Externs
namespace Go.Proofs.Ytlpannicklkghaa
open Go.RowKit

set_option maxHeartbeats 4000000 in
set_option maxRecDepth 100000 in
theorem cloneI_any (w : World) (b off c : Nat) (l : List It) (hl : l.length ≤ 1000000) (hne : 0 < l.length) (hc : ∀ j u, (ic l)[j]? = some u → w.cell? ⟨b, off + j, none⟩ = some u) :
    Calls Try.prog 58 #[.slice (some ⟨b, off, none⟩) l.length c] w fun e w' => ∃ g cap, e = .returned (.slice (some ⟨g, 0, none⟩) l.length cap) ∧ w'.ownsRow w.heap.size 86 3 (.slice (some ⟨g, 0, none⟩) l.length cap) l.length (ic l) ∧ Below w.heap.size w w' := by
  obtain ⟨i0, hi, hz0, hz1, hz2⟩ := info_parts Try.infoItem
  have HC : Hid (∀ j u, (ic l)[j]? = some u → w.cell? ⟨b, off + j, none⟩ = some u) := hc
  have q22 : ∀ (w : World) (a : Option Addr) (n c n' c' : Nat), (binOp .eql 72 (.slice a n c) (.slice none n' c')).run Try.prog w = .ok (.bool a.isNone) w := fun w a n c n' c' => Lib.run_eql_slice_nil w _ _ a n c n' c' Try.underlying72
  clear hc
  go_enter Try.func58, Try.ntmps58
  go_wp2_with (at_builtin; refine wpList_append_lies _ rfl _ _ 72 rfl w.heap.size 86 i0 _ 3 40 Try.underlying72 hi hz0 hz1 hz2 rfl (by decide) _ _ _ rfl (World.ownsRow_made w #[] 0 (Nat.le_refl _) (Nat.zero_le _) (by simp)) ⟨b, off, none⟩ l.length c (ic l) rfl ?qc1 ?qc2 ?qc3 ?qc4 ?qc5 ?qc6 ?qc7 _ rfl ?_)
  case qc1 => exact ic_length l
  case qc2 =>
    intro j u hj
    rw [Addr.add_lit]
    exact Lib.cell?_alloc_some _ (HC.out j u hj)
  case qc3 => exact ic_one l
  case qc4 => exact hne
  case qc5 => rw [Nat.zero_add]; unfold maxLen; omega
  case qc6 => rw [Nat.zero_add]; omega
  case qc7 => simp
  intro g cap w1 hown hgrow _ _
  have hown2 : w1.ownsRow w.heap.size 86 3 (.slice (some ⟨g, 0, none⟩) l.length cap) l.length (ic l) := by simpa using hown
  have HO : Hid (w1.ownsRow w.heap.size 86 3 (.slice (some ⟨g, 0, none⟩) l.length cap) l.length (ic l)) := hown2
  have HB : Hid (Below w.heap.size w w1) := ((Below.refl _ w).alloc (Nat.le_refl _) _).grown hgrow (by simp) (by intro k hk; simp [Value.ownBlock] at hk; omega)
  clear hown hown2 hgrow q22
  go_wp2
  go_ret
  exact ⟨g, cap, by simp, HO.out, HB.out⟩

/-- What slices.Insert leaves: a row of the same array, or of a new one. -/
def InsP (w : World) (v : Value) (l : List It) (e : Ending) (w' : World) : Prop :=
  ∃ g cap, e = .returned (.slice (some ⟨g, 0, none⟩) l.length cap) ∧ w'.ownsRow 0 86 3 (.slice (some ⟨g, 0, none⟩) l.length cap) l.length (ic l) ∧ (v.ownBlock = some g ∨ w.heap.size ≤ g) ∧ Only (fun k => v.ownBlock = some k) w w'
set_option maxHeartbeats 4000000 in
set_option maxRecDepth 100000 in
theorem insert_end (w : World) (v : Value) (l : List It) (x : It) (vb : Nat) (hr : w.ownsRow 0 86 3 v l.length (ic l)) (hl : l.length ≤ 1000000) (hx : w.heap[vb]? = some (.cells (ic [x]).toArray 86 (0, 0))) :
    Calls Try.prog 37 #[v, .int .i64 (l.length : Int), .slice (some ⟨vb, 0, none⟩) 1 1] w (InsP w v (l ++ [x])) := by
  obtain ⟨i0, hi, hz0, hz1, hz2⟩ := info_parts Try.infoItem
  have HR : Hid (w.ownsRow 0 86 3 v l.length (ic l)) := hr
  have HX : Hid (∀ j u, (ic [x])[j]? = some u → w.cell? ((⟨vb, 0, none⟩ : Addr).add j) = some u) := World.news_of_block hx
  obtain ⟨p, cap, rfl, hcap, hmax⟩ := irow_form hr
  obtain ⟨n, hn⟩ : ∃ n, l.length = n := ⟨_, rfl⟩
  have HN : Hid (l.length = n) := hn
  rw [hn] at HR hl hcap ⊢
  have hnn : (n : Int) ≤ (n : Int) := Int.le_refl _
  have hn0 : (0 : Int) ≤ (n : Int) := by omega
  clear hr hx hn
  by_cases hcn : cap = n
  · subst hcn
    go_enter Try.func37, Try.ntmps37
    go_wp2_with (at_builtin; refine wpList_append_lies _ rfl _ _ 72 rfl 0 86 i0 _ 3 40 Try.underlying72 hi hz0 hz1 hz2 rfl (by decide) _ _ _ rfl HR.out ⟨vb, 0, none⟩ 1 1 (ic [x]) rfl rfl HX.out (ic_one _) Nat.one_pos (by unfold maxLen; omega) (by omega) (Nat.zero_le _) _ rfl ?_)
    intro g cap' w1 hown hgrow hor _
    have HO : Hid (w1.ownsRow 0 86 3 (.slice (some ⟨g, 0, none⟩) (l ++ [x]).length cap') (l ++ [x]).length (ic (l ++ [x]))) := by
      have h1 : w1.ownsRow 0 86 3 (.slice (some ⟨g, 0, none⟩) (l ++ [x]).length cap') (l ++ [x]).length (ic (l ++ [x])) := by
        rw [ic_append, List.length_append, HN.out]
        exact hown
      exact h1
    have HB : Hid (Only (fun k => (Value.slice p cap cap).ownBlock = some k) w w1) := (Only.refl _ _).grown hgrow (fun k hk => hk)
    have HG : Hid ((Value.slice p cap cap).ownBlock = some g ∨ w.heap.size ≤ g) := by
      rcases hor with h | h
      · exact Or.inl h
      · exact Or.inr (by omega)
    clear hown hgrow hor
    go_wp2
    go_ret
    exact ⟨g, cap', by rw [List.length_append, HN.out]; rfl, HO.out, HG.out, HB.out⟩
  · have hcn2 : n < cap := by omega
    go_enter Try.func37, Try.ntmps37
    go_wp2_with (at_builtin; refine wpList_append_lies _ rfl _ _ 72 rfl 0 86 i0 _ 3 40 Try.underlying72 hi hz0 hz1 hz2 rfl (by decide) _ _ _ rfl HR.out ⟨vb, 0, none⟩ 1 1 (ic [x]) rfl rfl HX.out (ic_one _) Nat.one_pos (by unfold maxLen; omega) (by omega) (Nat.zero_le _) _ rfl ?_)
    intro g cap' w1 hown hgrow hor _
    have HO : Hid (w1.ownsRow 0 86 3 (.slice (some ⟨g, 0, none⟩) (l ++ [x]).length cap') (l ++ [x]).length (ic (l ++ [x]))) := by
      have h1 : w1.ownsRow 0 86 3 (.slice (some ⟨g, 0, none⟩) (l ++ [x]).length cap') (l ++ [x]).length (ic (l ++ [x])) := by
        rw [ic_append, List.length_append, HN.out]
        exact hown
      exact h1
    have HB : Hid (Only (fun k => (Value.slice p n cap).ownBlock = some k) w w1) := (Only.refl _ _).grown hgrow (fun k hk => hk)
    have HG : Hid ((Value.slice p n cap).ownBlock = some g ∨ w.heap.size ≤ g) := by
      rcases hor with h | h
      · exact Or.inl h
      · exact Or.inr (by omega)
    clear hown hgrow hor
    go_wp2
    go_ret
    exact ⟨g, cap', by rw [List.length_append, HN.out]; rfl, HO.out, HG.out, HB.out⟩
end Go.Proofs.Ytlpannicklkghaa
