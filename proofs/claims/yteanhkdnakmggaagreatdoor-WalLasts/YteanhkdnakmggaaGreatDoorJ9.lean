/- Walks of layer 6, ninth part: load. -/
import Derived.Test.YteanhkdnakmggaaGreatDoorJ8
namespace Go.Proofs.YteanhkdnakmggaaGreatDoor
open Go.RowKit

/-- A segment more, with its records. -/
theorem LogAt.more2 {W W1 W2 : World} {Y : Nat → Prop} {l a cap : Nat} {g : Lg} {p : Option Addr} {es : List Ent} (h : LogAt W Y l a g p cap es) (hY : ∀ k, W.heap.size ≤ k → Y k) (h1 : Below W.heap.size W W1) {v : Value} {ds : List (List UInt8)} (hv : W1.ownsRow W.heap.size 9 1 v ds.length (sv ds)) (hg : W1.grownBy W2 (Value.slice p es.length cap).ownBlock) {p' : Option Addr} {cap' q : Nat}
    (ho : W2.ownsRow 0 100 2 (.slice p' (es.length + 1) cap') (es.length + 1) (ec es ++ ec [(q, ds, v)])) (hb : ∀ k, (Value.slice p' (es.length + 1) cap').ownBlock = some k → (Value.slice p es.length cap).ownBlock = some k ∨ W1.heap.size ≤ k) :
    LogAt (W2.setCell ⟨l, 4, none⟩ (.slice p' (es.length + 1) cap')) Y l a { g with segs := g.segs ++ [(q, ds)] } p' cap' (es ++ [(q, ds, v)]) ∧ Only Y W (W2.setCell ⟨l, 4, none⟩ (.slice p' (es.length + 1) cap')) := by
  have hL := h.later h1
  have hs1 := h1.size
  have hrow := hL.rows
  have kl : W2.heap[l]? = W1.heap[l]? := hg.block l hL.lt (fun e => own_ne hrow hL.cells (by decide) e.symm)
  have hlen : (es ++ [(q, ds, v)]).length = es.length + 1 := by simp
  refine ⟨⟨?_, h.zl, ?_, ?_, ?_, fun e he => ?_, fun e he k hk => ?_, ?_⟩, ?_⟩
  · rw [hlen, heap_setCell_at (kl.trans hL.cells)]
    simp [lcells]
  · simp only [h.segs, List.map_append]
    rfl
  · rw [hlen, ec_append]
    exact ownsRow_setCell_other ho (own_ne ho (kl.trans hL.cells) (by decide)) _
  · intro k hk
    rw [hlen] at hk
    rcases hb k hk with hk | hk
    · exact h.zs k hk
    · exact hY k (by omega)
  · rcases List.mem_append.1 he with he | he
    · have hr := hL.recs e he
      have hr2 := own_grown hr hg fun k hk => own_apart hr hrow (by decide) hk
      exact ownsRow_setCell_other hr2 (own_ne hr2 (kl.trans hL.cells) (by decide)) _
    · obtain rfl : e = (q, ds, v) := by simpa using he
      have hv0 := own_mono hv (Nat.zero_le _)
      have hr2 := own_grown hv0 hg fun k hk => own_apart hv0 hrow (by decide) hk
      exact ownsRow_setCell_other hr2 (own_ne hr2 (kl.trans hL.cells) (by decide)) _
  · rcases List.mem_append.1 he with he | he
    · exact h.zr e he k hk
    · obtain rfl : e = (q, ds, v) := by simpa using he
      exact hY k (hv.lt k hk).1
  · refine pair_snoc.2 ⟨h.apart, fun e he k hk hk' => ?_⟩
    have a1 := ((h.recs e he).lt k hk).2
    have a2 := (hv.lt k hk').1
    omega
  · exact ((Only.of h1).grown hg fun k hk => h.zs k hk).setCell (p := ⟨l, 4, none⟩) h.zl _
theorem seg_cells2 (w : World) (q : Nat) (ds : List (List UInt8)) (v : Value) (t : TypeId) : ∀ j u, (ec [(q, ds, v)])[j]? = some u → (w.alloc (.cells #[.int .i64 (q : Int), v] t)).cell? ((⟨w.heap.size, 0, none⟩ : Addr).add j) = some u := by
  intro j u hj
  match j, hj with
  | 0, hj => simp [ec] at hj; subst hj; simp [Addr.add]
  | 1, hj => simp [ec] at hj; subst hj; simp [Addr.add]
theorem fc_at : ∀ (l : Fs) (i : Nat) (h : i < l.length), (fc l)[i * 3]? = some (.string ⟨(l[i]).1.toArray⟩) ∧ (fc l)[i * 3 + 1]? = some (.string ⟨(l[i]).2.1.toArray⟩) ∧ (fc l)[i * 3 + 2]? = some (.int .i64 ((l[i]).2.2 : Int))
  | p :: r, 0, _ => ⟨rfl, rfl, rfl⟩
  | p :: r, i + 1, h => by
    rw [Nat.add_mul, Nat.one_mul]
    exact fc_at r i (by simpa using h)
theorem file_cells {w : World} {B n cap : Nat} {p : Option Addr} {fs : Fs} (h : w.ownsRow B 65 3 (.slice p n cap) n (fc fs)) (hn : n = fs.length) {i : Nat} (hi : i < fs.length) : ∃ b, p = some ⟨b, 0, none⟩ ∧ B ≤ b ∧ b < w.heap.size ∧ w.cell? ⟨b, i * 3, none⟩ = some (.string ⟨(fs[i]).1.toArray⟩) ∧ w.cell? ⟨b, i * 3 + 1, none⟩ = some (.string ⟨(fs[i]).2.1.toArray⟩) ∧ w.cell? ⟨b, i * 3 + 2, none⟩ = some (.int .i64 ((fs[i]).2.2 : Int)) := by
  subst hn
  have hr := h
  obtain ⟨_, ⟨_, h0⟩ | ⟨b, cap', cur, e, hb, hg, h1, h2, _⟩⟩ := h
  · omega
  · simp only [Value.slice.injEq] at e
    obtain ⟨rfl, _, rfl⟩ := e
    obtain ⟨k1, k2, k3⟩ := fc_at fs i hi
    exact ⟨b, rfl, hb, (Array.getElem?_eq_some_iff.1 hg).1, (hr.cellAt (i * 3) (by omega)).trans k1, (hr.cellAt (i * 3 + 1) (by omega)).trans k2, (hr.cellAt (i * 3 + 2) (by omega)).trans k3⟩

theorem loadR_skip {f : Nat} {p : Nm × Fl} {r : Fs} {acc : List Sg} (h : isLog p.1 = false) : loadR f (p :: r) acc = loadR f r acc := by simp [loadR, h]
theorem loadR_bad {f : Nat} {p : Nm × Fl} {r : Fs} {acc : List Sg} (h : isLog p.1 = true) (h' : placeN p.1 = none) : loadR f (p :: r) acc = none := by simp [loadR, h, h']
theorem loadR_gap {f q : Nat} {p : Nm × Fl} {r : Fs} {acc : List Sg} (h : isLog p.1 = true) (h' : placeN p.1 = some q) (hg : acc ≠ [] ∧ q ≠ nextL f acc) : loadR f (p :: r) acc = none := by
  rw [loadR, if_pos h, h']
  simp only
  rw [if_pos hg]
theorem loadR_next {f q : Nat} {p : Nm × Fl} {r : Fs} {acc : List Sg} (h : isLog p.1 = true) (h' : placeN p.1 = some q) (hg : ¬ (acc ≠ [] ∧ q ≠ nextL f acc)) : loadR f (p :: r) acc = loadR f r (acc ++ [(q, fr p.2.1)]) := by
  rw [loadR, if_pos h, h']
  simp only
  rw [if_neg hg]

/-- What load leaves. -/
def LoadP (B : Nat) (w : World) (X : Nat → Prop) (l a : Nat) (st : St) (g : Lg) (e : Ending) (w' : World) : Prop :=
  Only X w w' ∧ ((loadR g.frm st.fs [] = none ∧ e = .returned (.int .i64 60) ∧ ∃ g', IsLog B w' X l a st g') ∨ ∃ L, loadR g.frm st.fs [] = some L ∧ e = .returned (.int .i64 0) ∧ IsLog B w' X l a st { g with segs := L })
end Go.Proofs.YteanhkdnakmggaaGreatDoor
