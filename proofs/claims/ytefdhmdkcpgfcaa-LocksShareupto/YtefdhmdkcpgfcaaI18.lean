/- Layer 19: frames whose rows grow; lists of lists of locks in memory. -/
import Derived.Test.YtefdhmdkcpgfcaaI17
import Derived.Test.YtefdhmdkcpgfcaaM193
namespace Go.Proofs.Ytefdhmdkcpgfcaa
open Go.RowKit
theorem Try.infoOp9 : (Try.prog.info? 36).map (fun i => (i.zero, i.size, i.bytes)) = some (some (.agg #[.int .i64 0, .int .i64 0, .slice none 0 0]), 3, 40) := by kernel_rfl
theorem Try.infoSlk : (Try.prog.info? 34).map (fun i => (i.zero, i.size, i.bytes)) = some (some (.slice none 0 0), 1, 24) := by kernel_rfl
/-- A list of locks, handed in. -/
def SlR (w : World) (l : List Lk) (vs : List Value) : Prop := ∃ p cap, vs = [.slice p l.length cap] ∧ RowR 4 LkR w p l ∧ fitL l
theorem sl_at {w : World} {a : Option Addr} {l : List (List Lk)} (h : RowR 1 (SlR w) w a l) {i : Nat} (hi : i < l.length) : ∃ b off p cap, a = some ⟨b, off, none⟩ ∧ w.cell? ⟨b, off + i, none⟩ = some (.slice p l[i].length cap) ∧ RowR 4 LkR w p l[i] ∧ fitL l[i] := by
  obtain ⟨b, off, v, e, ⟨p, cap, hv, hr, hf⟩, hc⟩ := h.at1 hi
  simp only [List.cons.injEq, and_true] at hv
  subst hv
  exact ⟨b, off, p, cap, e, hc, hr, hf⟩
theorem Op9R.later {w w' : World} (hb : Below w.heap.size w w') (x : Op9) (vs : List Value) (h : Op9R w x vs) : Op9R w' x vs := by
  obtain ⟨p, cap, e, hr, hf⟩ := h
  exact ⟨p, cap, e, hr.later hb fun _ _ h => h, hf⟩
/-- A script that asks for all. -/
def opsOf (l : List (List Lk)) : List Op9 := l.map fun x => ⟨0, 0, x⟩
theorem opsOf_snoc (l : List (List Lk)) (k : Nat) (h : k < l.length) : opsOf (l.take (k + 1)) = opsOf (l.take k) ++ [⟨0, 0, l[k]⟩] := by
  unfold opsOf
  rw [List.take_succ_eq_append_getElem h, List.map_append]
  rfl
theorem opsOf_len (l : List (List Lk)) : (opsOf l).length = l.length := by simp [opsOf]
theorem ops_wg {l : List (List Lk)} (h : wgS (opsOf l) ≤ 2147483647) : l.length ≤ 2147483647 ∧ ∀ x ∈ l, Sl9 x := by
  refine ⟨?_, fun x hx => sl_of_wg h (x := ⟨0, 0, x⟩) (List.mem_map.2 ⟨x, hx, rfl⟩)⟩
  unfold wgS at h
  rw [opsOf_len] at h
  omega
section
variable {w0 w w2 : World} {K : List Rs} {I : World → Prop}
theorem Fm.emptyOw (h : Fm w0 K I w) {α : Type} (n : Nat) (ty : TypeId) (R : α → List Value → Prop) : Fm w0 (owR n ty R 0 (.slice none 0 0) [] :: K) I w := h.push (Below.refl _ _) (owR_ok _ _ _ _ _ _) (OwnR.nil _ _ _ _ _) fun _ hk => by cases hk
/-- One more at the end of a row of one's own. -/
theorem Fm.grown1 {α : Type} {n : Nat} {ty : TypeId} {R : α → List Value → Prop} {B : Nat} {v : Value} {l : List α} (h : Fm w0 (owR n ty R B v l :: K) I w) {ps : List (α × List Value)} (h1 : ps.map (·.1) = l) (h2 : ∀ p ∈ ps, R p.1 p.2 ∧ p.2.length = n) {o : Obj} {x : α} {us : List Value} (hx : R x us) (hus : us.length = n) {g cap m : Nat} (hm : m = l.length) (ho : w2.ownsRow B ty n (.slice (some ⟨g, 0, none⟩) (m + 1) cap) (m + 1) (ps.flatMap (·.2) ++ us)) (hg : (w.alloc o).grownBy w2 v.ownBlock) (hor : v.ownBlock = some g ∨ g = (w.alloc o).heap.size) : Fm w0 (owR n ty R B (.slice (some ⟨g, 0, none⟩) (m + 1) cap) (l ++ [x]) :: K) I w2 := by
  subst hm
  have hF := h.call ((Below.refl _ _).alloc (Nat.le_refl _) o)
  have hlt := (ho.lt g rfl).2
  have := hF.turn 0 (r' := owR n ty R B (.slice (some ⟨g, 0, none⟩) (l.length + 1) cap) (l ++ [x])) rfl ((Only.refl _ _).grown hg fun _ q => q) (owR_ok _ _ _ _ _ _) (OwnR.push h1 h2 (fun _ _ h => h) hx hus ho) fun k hk => by
    obtain rfl : g = k := by
      have hk2 : (Value.slice (some ⟨g, 0, none⟩) (l.length + 1) cap).ownBlock = some k := hk
      simpa [Value.ownBlock] using hk2
    rcases hor with q | q
    · exact Or.inl q
    · exact Or.inr ⟨by omega, hlt⟩
  simpa using this
/-- Two things of one's own, seen as one. -/
theorem Fm.join {a b c : Rs} (h : Fm w0 (a :: b :: K) I w) (hc : c.ok) (hh : c.H w) (hz : ∀ k, c.Z k ↔ a.Z k ∨ b.Z k) : Fm w0 (c :: K) I w := by
  have h1 := List.pairwise_cons.1 h.apart
  have h2 := List.pairwise_cons.1 h1.2
  have hin : ∀ x ∈ K, x ∈ a :: b :: K := fun x hx => List.mem_cons_of_mem _ (List.mem_cons_of_mem _ hx)
  refine ⟨h.bel, fun x hx => ?_, fun x hx => ?_, fun x hx => ?_, List.pairwise_cons.2 ⟨fun x hx g hg hg' => ?_, h2.2⟩, fun W hW => h.inv W fun g hg hn hl => hW g hg (fun m => hn ?_) hl⟩
  · rcases List.mem_cons.1 hx with rfl | hx
    · exact hc
    · exact h.ok x (hin x hx)
  · rcases List.mem_cons.1 hx with rfl | hx
    · exact hh
    · exact h.has x (hin x hx)
  · rcases List.mem_cons.1 hx with rfl | hx
    · intro k hk
      rcases (hz k).1 hk with q | q
      · exact h.lies a List.mem_cons_self k q
      · exact h.lies b (List.mem_cons_of_mem _ List.mem_cons_self) k q
    · exact h.lies x (hin x hx)
  · rcases (hz g).1 hg with q | q
    · exact h1.1 x (List.mem_cons_of_mem _ hx) g q hg'
    · exact h2.1 x hx g q hg'
  · obtain ⟨x, hx, q⟩ := m
    rcases List.mem_cons.1 hx with rfl | hx
    · rcases (hz g).1 q with q | q
      · exact ⟨a, List.mem_cons_self, q⟩
      · exact ⟨b, List.mem_cons_of_mem _ List.mem_cons_self, q⟩
    · exact ⟨x, hin x hx, q⟩
end
end Go.Proofs.Ytefdhmdkcpgfcaa
