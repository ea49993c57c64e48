/- Walks of layer 19: the document's table in memory. -/
import Derived.Test.YtefdhmdkcpgfcaaI3
namespace Go.Proofs.Ytefdhmdkcpgfcaa
open Go.RowKit
theorem Try.infoLk : (Try.prog.info? 23).map (fun i => (i.zero, i.size, i.bytes)) = some (some (.agg #[.int .i64 0, .string ⟨#[]⟩, .string ⟨#[]⟩, .bool false]), 4, 48) := by kernel_rfl
theorem Try.infoPl : (Try.prog.info? 71).map (fun i => (i.zero, i.size, i.bytes)) = some (some (.agg #[.int .i64 0, .slice none 0 0]), 2, 32) := by kernel_rfl
/-- An open place in memory, all of it in Z. -/
def PlO (w : World) (Z : Nat → Prop) (p : Pl9) (vs : List Value) : Prop := ∃ v, vs = [.int .i64 p.pos, v] ∧ OwnR 4 23 LkR w 0 v p.ls ∧ ∀ g, v.ownBlock = some g → Z g
/-- .. as it reads. -/
def PlR (w : World) (p : Pl9) (vs : List Value) : Prop := ∃ q cap, vs = [.int .i64 p.pos, .slice q p.ls.length cap] ∧ RowR 4 LkR w q p.ls
/-- The document's table at t, all of it in Z. -/
structure DT (w : World) (B : Nat) (Z : Nat → Prop) (t : Nat) (T : Tb9) : Prop where
  tb : ∃ v, w.heap[t]? = some (.cells #[v, .int .i64 T.last] 61 (0, 0)) ∧ OwnR 2 71 (PlO w Z) w 0 v T.ps ∧ ∀ g, v.ownBlock = some g → Z g
  lies : ∀ k, Z k → B ≤ k ∧ k < w.heap.size
  tz : Z t
theorem PlO.keep {w w' : World} {Z Z' : Nat → Prop} (hk : ∀ k, Z k → k < w.heap.size → w'.heap[k]? = w.heap[k]?) (hz : ∀ k, Z k → Z' k) (p : Pl9) (vs : List Value) (h : PlO w Z p vs) : PlO w' Z' p vs := by
  obtain ⟨v, rfl, h1, h2⟩ := h
  exact ⟨v, rfl, h1.kept (fun g hg => hk g (h2 g hg) (h1.lt hg).2) fun _ _ h => h, fun g hg => hz g (h2 g hg)⟩
theorem PlO.reads {w : World} {Z : Nat → Prop} (p : Pl9) (vs : List Value) (h : PlO w Z p vs) : PlR w p vs := by
  obtain ⟨v, rfl, h1, _⟩ := h
  obtain ⟨q, cap, rfl, _⟩ := h1.form
  exact ⟨q, cap, rfl, h1.row fun _ _ h => h⟩
theorem PlR.later {w w' : World} (hb : Below w.heap.size w w') (p : Pl9) (vs : List Value) (h : PlR w p vs) : PlR w' p vs := by
  obtain ⟨q, cap, e, h1⟩ := h
  exact ⟨q, cap, e, h1.later hb fun _ _ h => h⟩
theorem DT.kept {w w' : World} {B : Nat} {Z : Nat → Prop} {t : Nat} {T : Tb9} (h : DT w B Z t T) {Y : Nat → Prop} (ho : Only Y w w') (hy : ∀ k, Z k → ¬ Y k) : DT w' B Z t T := by
  obtain ⟨v, h1, h2, h3⟩ := h.tb
  have hk : ∀ k, Z k → k < w.heap.size → w'.heap[k]? = w.heap[k]? := fun k hz hl => ho.block k hl (hy k hz)
  exact ⟨⟨v, (hk t h.tz (h.lies t h.tz).2).trans h1, h2.kept (fun g hg => hk g (h3 g hg) (h2.lt hg).2) (PlO.keep hk fun _ h => h), h3⟩, fun k hk => ⟨(h.lies k hk).1, Nat.lt_of_lt_of_le (h.lies k hk).2 ho.size⟩, h.tz⟩
theorem DT.later {w w' : World} {B : Nat} {Z : Nat → Prop} {t : Nat} {T : Tb9} (h : DT w B Z t T) (hb : Below w.heap.size w w') : DT w' B Z t T := h.kept (Y := fun _ => False) (Only.of hb) fun _ _ h => h
theorem DT.reads {w : World} {B : Nat} {Z : Nat → Prop} {t : Nat} {T : Tb9} (h : DT w B Z t T) : ∃ q cap, w.heap[t]? = some (.cells #[.slice q T.ps.length cap, .int .i64 T.last] 61 (0, 0)) ∧ RowR 2 (PlR w) w q T.ps := by
  obtain ⟨v, h1, h2, _⟩ := h.tb
  obtain ⟨q, cap, rfl, _⟩ := h2.form
  exact ⟨q, cap, h1, h2.row PlO.reads⟩
theorem two_of {w : World} {x : Nat} {a b : Value} {t : TypeId} (h : w.heap[x]? = some (.cells #[a, b] t (0, 0))) : (w.cell? ⟨x, 0, none⟩ = some a ∧ w.cell? ⟨x, 1, none⟩ = some b) ∧ w.frozen? ⟨x, 0, none⟩ = false ∧ w.frozen? ⟨x, 1, none⟩ = false := by
  simp [World.cell?, World.frozen?, h]
/-- A place of a row, cell by cell. -/
theorem place_at {w0 w : World} {a : Option Addr} {l : List Pl9} (h : RowR 2 (PlR w0) w a l) {i : Nat} (hi : i < l.length) : ∃ b off q cap, a = some ⟨b, off, none⟩ ∧ w.cell? ⟨b, off + i * 2, none⟩ = some (.int .i64 l[i].pos) ∧ w.cell? ⟨b, off + i * 2 + 1, none⟩ = some (.slice q l[i].ls.length cap) ∧ RowR 4 LkR w0 q l[i].ls := by
  obtain ⟨b, off, v0, v1, e, hR, c0, c1⟩ := h.at2 hi
  obtain ⟨q, cap, e2, hr⟩ := hR
  simp only [List.cons.injEq, and_true] at e2
  obtain ⟨rfl, rfl⟩ := e2
  exact ⟨b, off, q, cap, e, c0, c1, hr⟩
/-- How many there may be. -/
structure Sm9 (T : Tb9) : Prop where
  ps : T.ps.length ≤ 2147483648
  ls : ∀ p ∈ T.ps, p.ls.length ≤ 2147483648
theorem ints_flat : ∀ l : List Int, ((l.map fun n => (n, [Value.int .i64 n])).flatMap fun x => x.2) = l.map fun n => Value.int .i64 n
  | [] => rfl
  | n :: l => by rw [List.map_cons, List.flatMap_cons, ints_flat l]; rfl
theorem iC_own {w : World} {B : Nat} {v : Value} {l : List Int} (h : w.ownsRow B 3 1 v l.length (l.map fun n => Value.int .i64 n)) : OwnR 1 3 IntR w B v l := by
  refine ⟨l.map fun n => (n, [Value.int .i64 n]), by rw [List.map_map]; exact List.map_id' _, fun p hp => ?_, ?_⟩
  · obtain ⟨n, _, rfl⟩ := List.mem_map.1 hp
    exact ⟨rfl, rfl⟩
  · rw [ints_flat]
    exact h

set_option maxHeartbeats 4000000 in
set_option maxRecDepth 100000 in
theorem rnew_any (w : World) : Calls Try.prog 14 #[] w fun e w' => ∃ t, e = .returned (.pointer (some ⟨t, 0, none⟩)) ∧ DT w' w.heap.size (fun k => w.heap.size ≤ k ∧ k < w'.heap.size) t t90 ∧ Below w.heap.size w w' := by
  go_enter Try.func14, Try.ntmps14
  go_wp2
  go_ret
  refine ⟨w.heap.size, rfl, ⟨⟨.slice none 0 0, heap_alloc_new w _, OwnR.nil _ _ _ _ _, fun g hg => by cases hg⟩, fun _ h => h, ⟨Nat.le_refl _, by simp⟩⟩, by (repeat (first | exact Below.refl _ _ | assumption | refine Below.drew ?_ | refine below_drewN ?_ _ | refine Below.alloc ?_ (by first | omega | (simp; done) | (simp; omega)) _ | refine Below.setCell ?_ (by first | omega | (simp; done) | (simp; omega)) _ | refine Below.trans ?_ (Below.mono (by assumption) (by first | omega | (simp; done) | (simp; omega)))))⟩
end Go.Proofs.Ytefdhmdkcpgfcaa
