/- Walks of layer 4, first part: the bytes that a file holds; what may turn; what a disk is in memory. -/
import Derived.Test.YtckmjmpajbjbkaaGreatDoorW1
import Derived.Test.YtckmjmpajbjbkaaGreatDoorM41
import Derived.Test.YtckmjmpajbjbkaaGreatDoorSh
import Derived.Test.YtckmjmpajbjbkaaGreatDoorItr
import Derived.Lib.AppendStr
import Derived.Laws.IdiomStrings
import Derived.Laws.IdiomCopy
import Derived.Maps.RangeWalk
import Derived.Deep.RegionLaw
import Derived.Deep.AppendLies
import Derived.Deep.QuietTactic
import Derived.BigQuiet
namespace Go.Proofs.YtckmjmpajbjbkaaGreatDoor
open Go.RowKit

theorem Tryz.info5 : (Tryz.prog.info? 5).map (fun i => (i.zero, i.size, i.bytes)) = some (some (.int .u8 0), 1, 1) := by kernel_rfl

/-- Bytes as cells. -/
def bv (l : List UInt8) : List Value := l.map fun b => .int .u8 (b.toNat : Int)
theorem bv_append (l m : List UInt8) : bv (l ++ m) = bv l ++ bv m := List.map_append
theorem bv_length (l : List UInt8) : (bv l).length = l.length := List.length_map _
theorem strCells_bv (s : ByteArray) : Lib.strCells s = bv s.data.toList := rfl
theorem bv_one (l : List UInt8) : ∀ u ∈ bv l, u.oneCell' = true := by
  intro u hu
  obtain ⟨b, _, rfl⟩ := List.mem_map.1 hu
  rfl

/-- A slice of bytes of the disk's own: its bytes, room behind them that may be written. -/
def ownB (w : World) (v : Value) (bs : List UInt8) : Prop :=
  (v = .slice none 0 0 ∧ bs = []) ∨
  ∃ g cap, v = .slice (some ⟨g, 0, none⟩) bs.length cap ∧ bs.length ≤ cap ∧ cap ≤ maxLen ∧ (∃ cur fr, w.heap[g]? = some (.cells cur 5 fr)) ∧
    (∀ j, j < cap → (w.cell? ⟨g, j, none⟩).isSome = true ∧ w.frozen? ⟨g, j, none⟩ = false) ∧ ∀ j (h : j < bs.length), w.cell? ⟨g, j, none⟩ = some (.int .u8 (bs[j].toNat : Int))

theorem ownB.kept {w w' : World} {v : Value} {bs : List UInt8} (h : ownB w v bs) (hk : ∀ g, v.ownBlock = some g → w'.heap[g]? = w.heap[g]?) : ownB w' v bs := by
  rcases h with h | ⟨g, cap, rfl, h1, h2, ⟨cur, fr, h3⟩, h4, h5⟩
  · exact Or.inl h
  · have e := hk g rfl
    exact Or.inr ⟨g, cap, rfl, h1, h2, ⟨cur, fr, e.trans h3⟩, fun j hj => by rw [World.cell?_of_block (a := ⟨g, j, none⟩) e, World.frozen?_of_block (a := ⟨g, j, none⟩) e]; exact h4 j hj, fun j hj => (World.cell?_of_block (a := ⟨g, j, none⟩) e).trans (h5 j hj)⟩
theorem ownB.lt {w : World} {v : Value} {bs : List UInt8} (h : ownB w v bs) {g : Nat} (hg : v.ownBlock = some g) : ∃ cur fr, w.heap[g]? = some (.cells cur 5 fr) := by
  rcases h with ⟨rfl, _⟩ | ⟨g', cap, rfl, _, _, h3, _⟩
  · cases hg
  · obtain rfl : g' = g := by simpa [Value.ownBlock] using hg
    exact h3
theorem ownB.form {w : World} {v : Value} {bs : List UInt8} (h : ownB w v bs) : ∃ p cap, v = .slice p bs.length cap ∧ bs.length ≤ cap := by
  rcases h with ⟨rfl, rfl⟩ | ⟨g, cap, rfl, h1, _⟩
  · exact ⟨none, 0, rfl, Nat.le_refl _⟩
  · exact ⟨_, cap, rfl, h1⟩
theorem ownB.nil (w : World) : ownB w (.slice none 0 0) [] := Or.inl ⟨rfl, rfl⟩
theorem ownB.cut {w : World} {p : Option Addr} {n cap : Nat} {bs : List UInt8} (h : ownB w (.slice p n cap) bs) {k : Nat} (hk : k ≤ bs.length) : ownB w (.slice p k cap) (bs.take k) := by
  have hl : (bs.take k).length = k := by rw [List.length_take]; omega
  rcases h with ⟨e, rfl⟩ | ⟨g, cap', e, h1, h2, h3, h4, h5⟩
  · simp at e hk
    obtain ⟨rfl, rfl, rfl⟩ := e
    subst hk
    exact Or.inl ⟨rfl, rfl⟩
  · simp only [Value.slice.injEq] at e
    obtain ⟨rfl, rfl, rfl⟩ := e
    refine Or.inr ⟨g, cap, by rw [hl], by omega, h2, h3, h4, fun j hj => ?_⟩
    rw [hl] at hj
    rw [h5 j (by omega), List.getElem_take]
theorem ownB.str {w : World} {v : Value} {bs : List UInt8} (h : ownB w v bs) : (convert 75 9 v).run Tryz.prog w = .ok (.string ⟨bs.toArray⟩) w := by
  rcases h with ⟨rfl, rfl⟩ | ⟨g, cap, rfl, h1, h2, h3, h4, h5⟩
  · rw [run_convert_bytes_string w 75 9 5 none 0 0 Tryz.underlying75 Tryz.underlying5 Tryz.underlying9]
    rfl
  · refine run_convert_bytes_back w 75 9 5 ⟨g, 0, none⟩ cap bs Tryz.underlying75 Tryz.underlying5 Tryz.underlying9 ?_
    intro j hj
    rw [Addr.add_lit, Nat.zero_add]
    exact h5 j hj
theorem ownB.ofRow {w : World} {base n : Nat} {v : Value} {bs : List UInt8} (h : w.ownsRow base 5 1 v n (bv bs)) : ownB w v bs := by
  have hc := fun g => h.cells (g := g)
  obtain ⟨hl, ⟨rfl, h0⟩ | ⟨g, cap, cur, rfl, _, hg, hn, hm, hs, ht⟩⟩ := h
  · rw [bv_length] at hl
    exact Or.inl ⟨rfl, List.eq_nil_of_length_eq_zero (by omega)⟩
  · rw [bv_length] at hl
    have hn' : n = bs.length := by omega
    subst hn'
    refine Or.inr ⟨g, cap, rfl, hn, hm, ⟨cur, _, hg⟩, fun j hj => ⟨?_, ?_⟩, fun j hj => ?_⟩
    · have hj' : j < cur.size := by omega
      simp [World.cell?, hg, hj']
    · simp [World.frozen?, hg]
    · have := hc g rfl j (.int .u8 (bs[j].toNat : Int)) (by simp [bv, hj])
      rw [Addr.add_lit, Nat.zero_add] at this
      exact this

/-- '[]byte(s)'. -/
theorem ownB.made (w : World) (s : ByteArray) (hs : s.size ≤ 1099511627776) : ∃ v w', (convert 9 75 (.string s)).run Tryz.prog w = .ok v w' ∧ ownB w' v s.data.toList ∧ v.ownBlock = some w.heap.size ∧ Below w.heap.size w w' ∧ w'.heap.size = w.heap.size + 1 := by
  refine ⟨_, _, run_bytes_of_string (P := Tryz.prog) w 9 75 5 s Tryz.underlying9 Tryz.underlying75 Tryz.underlying5, ?_, rfl, ((Below.refl _ _).drew).alloc (Nat.le_refl _) _, by simp⟩
  have hge := grownCap_ge w s.size 0 5
  have hle := grownCap_le_maxLen w s.size 0 5 (by unfold maxLen; omega)
  have hz : (bytesRow s (grownCap w s.size 0 5)).size = grownCap w s.size 0 5 := by
    unfold bytesRow
    simp only [Array.size_append, Array.size_map, Array.size_replicate]
    have : s.data.size = s.size := rfl
    omega
  have hh := heap_alloc_new w.drew (.cells (bytesRow s (grownCap w s.size 0 5)) 5 ((bytesRow s (grownCap w s.size 0 5)).size, (bytesRow s (grownCap w s.size 0 5)).size + 1))
  refine Or.inr ⟨w.heap.size, grownCap w s.size 0 5, by simp, by simpa using hge, hle, ⟨_, _, hh⟩, fun j hj => ⟨?_, ?_⟩, fun j hj => ?_⟩
  · have hh' : (w.drew.alloc (.cells (bytesRow s (grownCap w s.size 0 5)) 5 ((bytesRow s (grownCap w s.size 0 5)).size, (bytesRow s (grownCap w s.size 0 5)).size + 1))).heap[w.heap.size]? = _ := hh
    simp only [World.cell?, hh']
    simp [hz, hj]
  · have hh' : (w.drew.alloc (.cells (bytesRow s (grownCap w s.size 0 5)) 5 ((bytesRow s (grownCap w s.size 0 5)).size, (bytesRow s (grownCap w s.size 0 5)).size + 1))).heap[w.heap.size]? = _ := hh
    simp only [World.frozen?, hh']
    have : ¬ (bytesRow s (grownCap w s.size 0 5)).size ≤ j := by omega
    simp [this]
  · have hj' : j < s.size := by simpa using hj
    have := World.cell?_alloc_mark w.drew (bytesRow s (grownCap w s.size 0 5)) 5 ((bytesRow s (grownCap w s.size 0 5)).size, (bytesRow s (grownCap w s.size 0 5)).size + 1) j
    exact this.trans (bytesRow_at s _ j hj')

theorem setCells_heap (g : Nat) : ∀ (vs : List Value) (o : Nat) (w : World) {cur : Array Value} {e : TypeId} {fr : Nat × Nat}, w.heap[g]? = some (.cells cur e fr) → ∃ cur', (w.setCells g o vs).heap[g]? = some (.cells cur' e fr)
  | [], _, _, cur, _, _, h => ⟨cur, h⟩
  | v :: r, o, w, cur, e, fr, h => by
    have : (w.setCell ⟨g, o, none⟩ v).heap[g]? = some (.cells (cur.setIfInBounds o v) e fr) := by
      simp only [World.setCell, Array.getElem?_modify, if_true, h]
      simp
    exact setCells_heap g r (o + 1) _ this
theorem setCells_grown (g : Nat) : ∀ (vs : List Value) (o : Nat) (w : World), w.grownBy (w.setCells g o vs) (some g)
  | [], _, w => ⟨rfl, rfl, rfl, Nat.le_refl _, fun _ _ _ => rfl⟩
  | v :: r, o, w => by
    have ih := setCells_grown g r (o + 1) (w.setCell ⟨g, o, none⟩ v)
    refine ⟨ih.os, ih.tape, ih.output, ?_, fun k hk hne => ?_⟩
    · have := ih.size
      rw [World.setCells]
      refine Nat.le_trans ?_ this
      simp [World.setCell]
    · rw [World.setCells]
      rw [ih.block k (by simpa [World.setCell] using hk) hne]
      exact Below.heap_setCell _ _ _ _ (fun e => hne (by rw [e]))

/-- 'append(v, s...)'. -/
theorem ownB.app {w : World} {v : Value} {bs : List UInt8} (h : ownB w v bs) (s : ByteArray) (hs : bs.length + s.size ≤ 1099511627776) (ty : TypeId) :
    ∃ v' w', (Builtin.append_ #[75, 9] ty #[v, .string s]).run Tryz.prog w = .ok v' w' ∧ ownB w' v' (bs ++ s.data.toList) ∧ w.grownBy w' v.ownBlock ∧ (∀ g, v'.ownBlock = some g → v.ownBlock = some g ∨ w.heap.size ≤ g) ∧ ownB w' v bs := by
  obtain ⟨i0, hi, hz0, hz1, hz2⟩ := info_parts Tryz.info5
  have hsl : s.data.toList.length = s.size := by simp
  rcases h with ⟨rfl, rfl⟩ | ⟨g, cap, rfl, h1, h2, ⟨cur, fr, h3⟩, h4, h5⟩
  · obtain ⟨v', w', hr, ho, hg, _⟩ := Lib.run_append_own_string (P := Tryz.prog) w w.heap.size 75 9 ty 5 i0 Tryz.underlying75 Tryz.underlying9 hi hz0 hz1 hz2 (.slice none 0 0) 0 [] (World.ownsRow_nil _ _ _ _) s (by unfold maxLen; simp at hs; omega) (by simp at hs; omega) (Nat.le_refl _)
    refine ⟨v', w', hr, ownB.ofRow (by simpa [strCells_bv] using ho), hg, fun g hg' => Or.inr (ho.lt g hg').1, ownB.nil _⟩
  · by_cases hroom : bs.length + s.size ≤ cap
    · have hst := run_storeCells_cells (P := Tryz.prog) g bs.length (Lib.strCells s) 0 w (fun j hj => by rw [Lib.strCells_length] at hj; exact (h4 (bs.length + 0 + j) (by omega)).1) (fun j hj => by rw [Lib.strCells_length] at hj; exact (h4 (bs.length + 0 + j) (by omega)).2) (Lib.strCells_oneCell s)
      have hf := Lib.run_firstCells_string (P := Tryz.prog) w 1 s
      simp only [Nat.add_zero] at hst
      refine ⟨.slice (some ⟨g, 0, none⟩) (bs.length + s.size) cap, w.setCells g bs.length (Lib.strCells s), ?_, ?_, setCells_grown g _ _ w, fun g' hg' => Or.inl hg', ?_⟩
      · simp [Builtin.append_, run_underlying Tryz.underlying75, run_underlying Tryz.underlying9, sizeOf, typeInfo, hi, hz1, Builtin.lenOf, hroom, hf, Addr.add_lit, hst]
      · obtain ⟨cur', hc'⟩ := setCells_heap g (Lib.strCells s) bs.length w h3
        refine Or.inr ⟨g, cap, by simp, by simp; omega, h2, ⟨cur', fr, hc'⟩, fun j hj => ⟨?_, ?_⟩, fun j hj => ?_⟩
        · by_cases hin : bs.length ≤ j ∧ j < bs.length + s.size
          · obtain ⟨d, rfl⟩ : ∃ d, j = bs.length + d := ⟨j - bs.length, by omega⟩
            rw [World.cell?_setCells_in g _ _ _ (fun j hj => by rw [Lib.strCells_length] at hj; exact (h4 (bs.length + j) (by omega)).1) d (by rw [Lib.strCells_length]; omega)]
            rfl
          · rw [World.cell?_setCells_out g _ _ _ _ (fun _ _ => by rw [Lib.strCells_length]; simp only; omega)]
            exact (h4 j hj).1
        · rw [World.frozen?_setCells]
          exact (h4 j hj).2
        · by_cases hin : bs.length ≤ j
          · obtain ⟨d, rfl⟩ : ∃ d, j = bs.length + d := ⟨j - bs.length, by omega⟩
            have hd : d < s.size := by simpa using hj
            rw [World.cell?_setCells_in g _ _ _ (fun j hj => by rw [Lib.strCells_length] at hj; exact (h4 (bs.length + j) (by omega)).1) d (by rw [Lib.strCells_length]; omega)]
            simp [Lib.strCells]
          · rw [World.cell?_setCells_out g _ _ _ _ (fun _ _ => by simp only; omega), h5 j (by omega), List.getElem_append_left]
      · obtain ⟨cur', hc'⟩ := setCells_heap g (Lib.strCells s) bs.length w h3
        refine Or.inr ⟨g, cap, rfl, h1, h2, ⟨cur', fr, hc'⟩, fun j hj => ⟨?_, ?_⟩, fun j hj => ?_⟩
        · by_cases hin : bs.length ≤ j ∧ j < bs.length + s.size
          · obtain ⟨d, rfl⟩ : ∃ d, j = bs.length + d := ⟨j - bs.length, by omega⟩
            rw [World.cell?_setCells_in g _ _ _ (fun j hj => by rw [Lib.strCells_length] at hj; exact (h4 (bs.length + j) (by omega)).1) d (by rw [Lib.strCells_length]; omega)]
            rfl
          · rw [World.cell?_setCells_out g _ _ _ _ (fun _ _ => by rw [Lib.strCells_length]; simp only; omega)]
            exact (h4 j hj).1
        · rw [World.frozen?_setCells]
          exact (h4 j hj).2
        · rw [World.cell?_setCells_out g _ _ _ _ (fun _ _ => by simp only; omega)]
          exact h5 j hj
    · have hr := Lib.run_append_grow_string (P := Tryz.prog) w 75 9 ty 5 i0 (.int .u8 0) Tryz.underlying75 Tryz.underlying9 hi hz0 ⟨g, 0, none⟩ bs.length cap (bv bs) (by rw [bv_length, hz1, Nat.mul_one]) (fun j u hj => by
        have hj' : j < bs.length := by have := (List.getElem?_eq_some_iff.1 hj).1; rwa [bv_length] at this
        rw [Addr.add_lit, Nat.zero_add, h5 j hj']
        simpa [bv, hj'] using hj) s (by omega) (by omega) (by
          rw [hz2]
          exact growslice_fits (by omega) (by omega))
      have hgl : ∀ g', (Value.slice (some ⟨g, 0, none⟩) bs.length cap).ownBlock = some g' → g' < w.drew.heap.size := fun g' e => by
        have e' : g = g' := by simpa [Value.ownBlock] using e
        rw [← e']
        exact (Array.getElem?_eq_some_iff.1 h3).1
      have hge := grownCap_ge w (bs.length + s.size) cap 5
      have hcm := grownCap_le_maxLen w (bs.length + s.size) cap 5 (by unfold maxLen; omega)
      have hown : (w.drew.alloc (.cells ((bv bs).toArray ++ (Lib.strCells s).toArray ++ Builtin.zeroCells (Value.int .u8 0).cells (grownCap w (bs.length + s.size) cap 5 - (bs.length + s.size))) 5)).ownsRow w.heap.size 5 1 (.slice (some ⟨w.heap.size, 0, none⟩) (bs.length + s.size) (grownCap w (bs.length + s.size) cap 5)) (bs.length + s.size) (bv (bs ++ s.data.toList)) := by
        refine ⟨by simp [bv], .inr ⟨w.heap.size, _, _, rfl, Nat.le_refl _, heap_alloc_new w.drew _, hge, hcm, ?_, ?_⟩⟩
        · have hz1 : (Value.int IntKind.u8 0).cells.size = 1 := rfl
          simp only [Array.size_append, List.size_toArray, size_zeroCells, hz1, bv_length, Lib.strCells_length]
          omega
        · have hlen : (bv bs ++ Lib.strCells s).length = (bs.length + s.size) * 1 := by rw [List.length_append, bv_length, Lib.strCells_length, Nat.mul_one]
          rw [bv_append, ← strCells_bv]
          simp only [Array.toList_append, List.append_assoc]
          rw [← List.append_assoc, ← hlen]
          exact List.take_left
      exact ⟨_, _, hr, ownB.ofRow hown, ⟨rfl, rfl, rfl, by simp, fun k hk _ => Below.heap_alloc w.drew _ k hk⟩, fun g' hg' => Or.inr (hown.lt g' hg').1, ownB.kept (Or.inr ⟨g, cap, rfl, h1, h2, ⟨cur, fr, h3⟩, h4, h5⟩) fun g' hg' => Below.heap_alloc w.drew _ g' (hgl g' hg')⟩

/-! ### what may turn -/
/-- Of what was there nothing has turned but what lies in the zone Z. -/
structure Only (Z : Nat → Prop) (w w' : World) : Prop where
  os : w'.os = w.os
  tape : w'.tape = w.tape
  output : w'.output = w.output
  size : w.heap.size ≤ w'.heap.size
  block : ∀ k, k < w.heap.size → ¬ Z k → w'.heap[k]? = w.heap[k]?
theorem Only.refl (Z : Nat → Prop) (w : World) : Only Z w w := ⟨rfl, rfl, rfl, Nat.le_refl _, fun _ _ _ => rfl⟩
theorem Only.trans {Z : Nat → Prop} {a b c : World} (h : Only Z a b) (k : Only Z b c) : Only Z a c :=
  ⟨k.os.trans h.os, k.tape.trans h.tape, k.output.trans h.output, Nat.le_trans h.size k.size, fun i hi hz => (k.block i (Nat.lt_of_lt_of_le hi h.size) hz).trans (h.block i hi hz)⟩
theorem Only.of {Z : Nat → Prop} {w w' : World} (h : Below w.heap.size w w') : Only Z w w' := ⟨h.os, h.tape, h.output, h.size, fun k hk _ => h.block k hk⟩
theorem Only.later {Z : Nat → Prop} {a b c : World} (h : Only Z a b) (k : Below b.heap.size b c) : Only Z a c := h.trans (Only.of k)
theorem Only.below {Z : Nat → Prop} {w w' : World} (h : Only Z w w') {B : Nat} (hB : B ≤ w.heap.size) (hZ : ∀ k, k < B → ¬ Z k) : Below B w w' := ⟨h.os, h.tape, h.output, h.size, fun k hk => h.block k (by omega) (hZ k hk)⟩
theorem Only.alloc {Z : Nat → Prop} {a w : World} (h : Only Z a w) (o : Obj) : Only Z a (w.alloc o) := h.later ((Below.refl _ _).alloc (Nat.le_refl _) _)
theorem Only.drew {Z : Nat → Prop} {a w : World} (h : Only Z a w) : Only Z a w.drew := h.later (Below.refl _ _).drew
theorem Only.grown {Z : Nat → Prop} {a w w' : World} {row : Option Nat} (h : Only Z a w) (hg : w.grownBy w' row) (hr : ∀ k, row = some k → Z k) : Only Z a w' :=
  h.trans ⟨hg.os, hg.tape, hg.output, hg.size, fun k hk hz => hg.block k hk (fun e => hz (hr k e.symm))⟩
theorem Only.setCell {Z : Nat → Prop} {a w : World} (h : Only Z a w) {p : Addr} (hp : Z p.block) (u : Value) : Only Z a (w.setCell p u) :=
  h.trans ⟨rfl, rfl, rfl, by simp [World.setCell], fun k _ hz => Below.heap_setCell _ _ _ _ (fun e => hz (by rw [e]; exact hp))⟩
theorem Only.mono {Z Z' : Nat → Prop} {w w' : World} (h : Only Z w w') (hz : ∀ k, Z k → Z' k) : Only Z' w w' := ⟨h.os, h.tape, h.output, h.size, fun k hk g => h.block k hk (fun e => g (hz k e))⟩

/-! ### a disk in memory -/
/-- A file in memory: its bytes, how many are safe, the slice that holds them. -/
structure Fil where
  dat : List UInt8
  safe : Nat
  v : Value
def Fil.raw (f : Fil) : Value := .agg #[f.v, .int .i64 (f.safe : Int)]
def Fil.fl (f : Fil) : Fl := (f.dat, f.safe)
def rawE (v : Value) : Option (DataW Value × List MemPlace) :=
  match v with
  | .agg cs => match cs.toList with
    | [.slice _ _ _, .int .i64 _] => some (.held (.agg cs), [])
    | _ => none
  | _ => none
theorem rawE_mk (p : Option Addr) (n c : Nat) (k : Int) : rawE (.agg #[.slice p n c, .int .i64 k]) = some (.held (.agg #[.slice p n c, .int .i64 k]), []) := rfl
theorem rawE_inv {v : Value} {y : DataW Value × List MemPlace} (h : rawE v = some y) : y.1 = .held v ∧ ∃ p n c k, v = .agg #[.slice p n c, .int .i64 k] := by
  unfold rawE at h
  split at h
  · rename_i cs
    split at h
    · rename_i p n c k e
      cases h
      refine ⟨rfl, p, n, c, k, ?_⟩
      congr 1
      apply Array.ext'
      rw [e]
    · cases h
  · cases h
theorem Fil.raw_is {w : World} {f : Fil} (h : ownB w f.v f.dat) : rawE f.raw = some (.held f.raw, []) := by
  obtain ⟨p, cap, e, _⟩ := h.form
  unfold Fil.raw
  rw [e]
  rfl
theorem keyed9 : Maps.Keyed Tryz.prog 9 := Maps.string_keyed Tryz.underlying9
theorem zero68 (w : World) : (zeroValue 77).run Tryz.prog w = .ok (.agg #[.slice none 0 0, .int .i64 0]) w := by kernel_rfl

structure Held (w : World) (Z : Nat → Prop) (b : Nat) (es : List (Nm × Fil)) : Prop where
  map : w.ownsMap Tryz.prog 9 rawE b es.length (mapD (mapL Fil.raw es))
  zb : Z b
  rows : ∀ p ∈ es, ownB w p.2.v p.2.dat
  zone : ∀ p ∈ es, ∀ g, p.2.v.ownBlock = some g → Z g
  apart : ∀ p ∈ es, ∀ q ∈ es, ∀ g, p.2.v.ownBlock = some g → q.2.v.ownBlock = some g → p.1 = q.1
  sorted : srt es

theorem owns_at {w w' : World} {b n : Nat} {D : DataW Value} (h : w.ownsMap Tryz.prog 9 rawE b n D) (hb : w'.heap[b]? = w.heap[b]?) : w'.ownsMap Tryz.prog 9 rawE b n D := by
  obtain ⟨es, clock, h1, r⟩ := h
  exact ⟨es, clock, hb.trans h1, r⟩
theorem owns_size {w : World} {b n : Nat} {D : DataW Value} (h : w.ownsMap Tryz.prog 9 rawE b n D) : w.ownsMap Tryz.prog 9 rawE b (Maps.size D) D := by
  obtain ⟨es, clock, h1, F, h2, rfl⟩ := h
  exact ⟨es, clock, h1, F, by simp [Maps.size, length_sorted], rfl⟩
theorem Held.kept {w w' : World} {Z : Nat → Prop} {b : Nat} {es : List (Nm × Fil)} (h : Held w Z b es) (hk : ∀ k, k = b ∨ (∃ p ∈ es, p.2.v.ownBlock = some k) → w'.heap[k]? = w.heap[k]?) : Held w' Z b es :=
  ⟨owns_at h.map (hk b (Or.inl rfl)), h.zb, fun p hp => (h.rows p hp).kept fun g hg => hk g (Or.inr ⟨p, hp, hg⟩), h.zone, h.apart, h.sorted⟩
theorem Held.lt {w : World} {Z : Nat → Prop} {b : Nat} {es : List (Nm × Fil)} (h : Held w Z b es) {k : Nat} (hk : k = b ∨ ∃ p ∈ es, p.2.v.ownBlock = some k) : k < w.heap.size := by
  rcases hk with rfl | ⟨p, hp, hg⟩
  · exact h.map.lt
  · obtain ⟨cur, fr, e⟩ := (h.rows p hp).lt hg
    exact (Array.getElem?_eq_some_iff.1 e).1
theorem Held.later {w w' : World} {Z : Nat → Prop} {b : Nat} {es : List (Nm × Fil)} (h : Held w Z b es) (hb : Below w.heap.size w w') : Held w' Z b es :=
  h.kept fun k hk => hb.block k (h.lt hk)
theorem Held.mono {w : World} {Z Z' : Nat → Prop} {b : Nat} {es : List (Nm × Fil)} (h : Held w Z b es) (hz : ∀ k, k < w.heap.size → Z k → Z' k) : Held w Z' b es :=
  ⟨h.map, hz b h.map.lt h.zb, h.rows, fun p hp g hg => hz g (h.lt (Or.inr ⟨p, hp, hg⟩)) (h.zone p hp g hg), h.apart, h.sorted⟩
/-- A block that holds cells of another type is none of these. -/
theorem Held.ne {w : World} {Z : Nat → Prop} {b : Nat} {es : List (Nm × Fil)} (h : Held w Z b es) {a : Nat} {c : Array Value} {t : TypeId} {fr : Nat × Nat} (ha : w.heap[a]? = some (.cells c t fr)) (ht : t ≠ 5) : a ≠ b ∧ ∀ p ∈ es, p.2.v.ownBlock ≠ some a := by
  refine ⟨fun e => ?_, fun p hp e => ?_⟩
  · obtain ⟨x, y, h1, _⟩ := h.map
    rw [← e, ha] at h1
    cases h1
  · obtain ⟨cur, fr', h1⟩ := (h.rows p hp).lt e
    rw [ha] at h1
    simp only [Option.some.injEq, Obj.cells.injEq] at h1
    exact ht h1.2.1
theorem Held.bne {w : World} {Z : Nat → Prop} {b : Nat} {es : List (Nm × Fil)} (h : Held w Z b es) : ∀ p ∈ es, p.2.v.ownBlock ≠ some b := fun p hp e => by
  obtain ⟨cur, fr', h1⟩ := (h.rows p hp).lt e
  obtain ⟨x, y, h2, _⟩ := h.map
  rw [h1] at h2
  cases h2

theorem key_str {s : ByteArray} (h : s.size ≤ maxLen) : keyOf Tryz.prog 9 (.string s) = some (.string s.data.toList) := WideMaps.keyOf_string_mk Tryz.underlying9 h

/-- What a look-up tells. -/
def zf : Value := .agg #[.slice none 0 0, .int .i64 0]
def lookV (es : List (Nm × Fil)) (k : Nm) : Value := ((getL es k).map Fil.raw).getD zf
theorem Held.look {w : World} {Z : Nat → Prop} {b : Nat} {es : List (Nm × Fil)} (h : Held w Z b es) {s : ByteArray} (hs : s.size ≤ maxLen) :
    (Instr.lookup 71 (.map (some b)) (.string s) false).run Tryz.prog w = .ok (lookV es s.data.toList) w := by
  obtain ⟨v, ps, hrun, hv⟩ := h.map.lookup keyed9 Tryz.underlying71 (zero68 w) (zd := .held zf) (zp := []) rfl (key_str hs)
  rw [mapD_at, getL_mapL] at hv
  have hv' := (rawE_inv hv).1
  simp only [DataW.held.injEq] at hv'
  rw [hrun, ← hv']
  rfl
theorem Held.lookOk {w : World} {Z : Nat → Prop} {b : Nat} {es : List (Nm × Fil)} (h : Held w Z b es) {s : ByteArray} (hs : s.size ≤ maxLen) :
    (Instr.lookup 71 (.map (some b)) (.string s) true).run Tryz.prog w = .ok (.tuple #[lookV es s.data.toList, .bool (getL es s.data.toList).isSome]) w := by
  obtain ⟨v, ps, hrun, hv⟩ := h.map.look_ok keyed9 Tryz.underlying71 (zero68 w) (zd := .held zf) (zp := []) rfl (key_str hs)
  rw [mapD_at, getL_mapL] at hv
  have hv' := (rawE_inv hv).1
  simp only [DataW.held.injEq] at hv'
  rw [hrun, ← hv', mapD_has, getL_mapL]
  simp [lookV]
/-- 'm[k] = f'. -/
theorem Held.store {w : World} {Z : Nat → Prop} {b : Nat} {es : List (Nm × Fil)} (h : Held w Z b es) {s : ByteArray} (hs : s.size ≤ maxLen) (hl : es.length < maxLen) (f : Fil) (hf : ownB w f.v f.dat) (hz : ∀ g, f.v.ownBlock = some g → Z g)
    (ha : ∀ g, f.v.ownBlock = some g → ∀ p ∈ es, p.2.v.ownBlock = some g → p.1 = s.data.toList) :
    ∃ w', (Instr.mapUpdate 71 (.map (some b)) (.string s) f.raw).run Tryz.prog w = .ok () w' ∧ Held w' Z b (putL es s.data.toList f) ∧ w.grownBy w' (some b) := by
  obtain ⟨w', hrun, ho, hg⟩ := h.map.update keyed9 Tryz.underlying71 hl (val := f.raw) (d := .held f.raw) (ps := []) (key_str hs) (Fil.raw_is hf)
  rw [mapD_put ((srt_mapL _).2 h.sorted), ← mapL_putL] at ho
  have hsz := owns_size ho
  rw [mapD_size, mapL_length] at hsz
  have hfb : f.v.ownBlock ≠ some b := fun e => by
    obtain ⟨cur, fr', h1⟩ := hf.lt e
    obtain ⟨x, y, h2, _⟩ := h.map
    rw [h1] at h2
    cases h2
  refine ⟨w', hrun, ⟨hsz, h.zb, fun p hp => ?_, fun p hp g hg' => ?_, fun p hp q hq g hp' hq' => ?_, srt_putL h.sorted _ _⟩, hg⟩
  · rcases mem_putL h.sorted hp with rfl | ⟨hp, _⟩
    · exact hf.kept fun g hg' => hg.block g (by obtain ⟨c, fr, e⟩ := hf.lt hg'; exact (Array.getElem?_eq_some_iff.1 e).1) (fun e => hfb (by rw [hg', e]))
    · exact (h.rows p hp).kept fun g hg' => hg.block g (h.lt (Or.inr ⟨p, hp, hg'⟩)) (fun e => h.bne p hp (by rw [hg', e]))
  · rcases mem_putL h.sorted hp with rfl | ⟨hp, _⟩
    · exact hz g hg'
    · exact h.zone p hp g hg'
  · rcases mem_putL h.sorted hp with rfl | ⟨hp, hpn⟩
    · rcases mem_putL h.sorted hq with rfl | ⟨hq, hqn⟩
      · rfl
      · exact absurd (ha g hp' q hq hq') hqn
    · rcases mem_putL h.sorted hq with rfl | ⟨hq, hqn⟩
      · exact absurd (ha g hq' p hp hp') hpn
      · exact h.apart p hp q hq g hp' hq'
/-- 'delete(m, k)'. -/
theorem Held.drop {w : World} {Z : Nat → Prop} {b : Nat} {es : List (Nm × Fil)} (h : Held w Z b es) {s : ByteArray} (hs : s.size ≤ maxLen) (ty : TypeId) :
    ∃ w', (Builtin.delete_ #[71, 9] ty #[.map (some b), .string s]).run Tryz.prog w = .ok (.tuple #[]) w' ∧ Held w' Z b (delL es s.data.toList) ∧ w.grownBy w' (some b) := by
  obtain ⟨w', hrun, ho, hg⟩ := h.map.drop keyed9 Tryz.underlying71 (key_str hs) ty
  rw [mapD_del, ← mapL_delL] at ho
  have hsz := owns_size ho
  rw [mapD_size, mapL_length] at hsz
  have hg' := hg.grown
  refine ⟨w', hrun, ⟨hsz, h.zb, fun p hp => ?_, fun p hp g e => h.zone p (mem_delL hp).1 g e, fun p hp q hq g e e' => h.apart p (mem_delL hp).1 q (mem_delL hq).1 g e e', srt_delL h.sorted _⟩, hg'⟩
  have hp := (mem_delL hp).1
  exact (h.rows p hp).kept fun g e => hg'.block g (h.lt (Or.inr ⟨p, hp, e⟩)) (fun e' => h.bne p hp (by rw [e, e']))

/-- The five cells of a disk. -/
def dcells (b : Nat) (st : St) : Array Value := #[.map (some b), .int .i64 (st.size : Int), .int .i64 (st.steps : Int), .int .i64 st.armed, .bool st.down]
/-- A disk: its cells, its map, its files. -/
structure DiskAt (w : World) (Z : Nat → Prop) (a : Nat) (st : St) (b : Nat) (es : List (Nm × Fil)) : Prop where
  cells : w.heap[a]? = some (.cells (dcells b st) 73 (0, 0))
  za : Z a
  held : Held w Z b es
  files : st.fs = mapL Fil.fl es
  ok : OKs st
def IsDisk (w : World) (Z : Nat → Prop) (a : Nat) (st : St) : Prop := ∃ b es, DiskAt w Z a st b es

theorem DiskAt.lt {w : World} {Z : Nat → Prop} {a : Nat} {st : St} {b : Nat} {es : List (Nm × Fil)} (h : DiskAt w Z a st b es) : a < w.heap.size := (Array.getElem?_eq_some_iff.1 h.cells).1
theorem DiskAt.ne {w : World} {Z : Nat → Prop} {a : Nat} {st : St} {b : Nat} {es : List (Nm × Fil)} (h : DiskAt w Z a st b es) : a ≠ b ∧ ∀ p ∈ es, p.2.v.ownBlock ≠ some a := h.held.ne h.cells (by decide)
theorem DiskAt.later {w w' : World} {Z : Nat → Prop} {a : Nat} {st : St} {b : Nat} {es : List (Nm × Fil)} (h : DiskAt w Z a st b es) (hb : Below w.heap.size w w') : DiskAt w' Z a st b es :=
  ⟨(hb.block a h.lt).trans h.cells, h.za, h.held.later hb, h.files, h.ok⟩
theorem IsDisk.later {w w' : World} {Z : Nat → Prop} {a : Nat} {st : St} (h : IsDisk w Z a st) (hb : Below w.heap.size w w') : IsDisk w' Z a st := by
  obtain ⟨b, es, h⟩ := h
  exact ⟨b, es, h.later hb⟩
theorem IsDisk.mono {w : World} {Z Z' : Nat → Prop} {a : Nat} {st : St} (h : IsDisk w Z a st) (hz : ∀ k, k < w.heap.size → Z k → Z' k) : IsDisk w Z' a st := by
  obtain ⟨b, es, h⟩ := h
  exact ⟨b, es, h.cells, hz a h.lt h.za, h.held.mono hz, h.files, h.ok⟩
/-- Nothing of a disk has turned where nothing of its zone has. -/
theorem IsDisk.kept {w w' : World} {Z : Nat → Prop} {a : Nat} {st : St} (h : IsDisk w Z a st) (hk : ∀ k, k < w.heap.size → Z k → w'.heap[k]? = w.heap[k]?) : IsDisk w' Z a st := by
  obtain ⟨b, es, h⟩ := h
  exact ⟨b, es, (hk a h.lt h.za).trans h.cells, h.za, h.held.kept fun k g => hk k (h.held.lt g) (by
    rcases g with rfl | ⟨p, hp, e⟩
    · exact h.held.zb
    · exact h.held.zone p hp k e), h.files, h.ok⟩
theorem IsDisk.ok {w : World} {Z : Nat → Prop} {a : Nat} {st : St} (h : IsDisk w Z a st) : OKs st := by
  obtain ⟨b, es, h⟩ := h
  exact h.ok
theorem cell5 {w : World} {a b : Nat} {st : St} (h : w.heap[a]? = some (.cells (dcells b st) 73 (0, 0))) :
    w.cell? ⟨a, 0, none⟩ = some (.map (some b)) ∧ w.cell? ⟨a, 1, none⟩ = some (.int .i64 (st.size : Int)) ∧ w.cell? ⟨a, 2, none⟩ = some (.int .i64 (st.steps : Int)) ∧ w.cell? ⟨a, 3, none⟩ = some (.int .i64 st.armed) ∧ w.cell? ⟨a, 4, none⟩ = some (.bool st.down) ∧ (∀ o, w.frozen? ⟨a, o, none⟩ = false) := by
  simp [World.cell?, World.frozen?, h, dcells]
end Go.Proofs.YtckmjmpajbjbkaaGreatDoor
