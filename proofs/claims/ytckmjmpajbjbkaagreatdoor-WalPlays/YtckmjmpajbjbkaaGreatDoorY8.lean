/- Scripts of layer 6. -/
import Derived.Test.YtckmjmpajbjbkaaGreatDoorJ8
import Derived.Test.YtckmjmpajbjbkaaGreatDoorD11
import Derived.Test.YtckmjmpajbjbkaaGreatDoorRows
import Derived.Lib.LaidTab
import Derived.Stop.LaidErr
import Derived.WalkKit
import Derived.ProofKit
import Derived.LaidMore
import Derived.OpenShut
import Derived.ShutString
import Derived.ChangeOld
import Derived.Below
import Derived.Lib.SmallJoins
import Derived.Deep.Slices
import Derived.Deep.Strs
import Derived.Stop.Joined
import Derived.SizedLaws
namespace Go.Proofs.YtckmjmpajbjbkaaGreatDoor
open Go.RowKit

/-- One of a script. -/
structure OpW where
  what : Int
  d : ByteArray
  n : Int
  m : Int
  kp : Option Addr
  kc : Nat
  ks : List Int
structure OpAt (w : World) (b off : Nat) (x : OpW) : Prop where
  c0 : w.cell? ⟨b, off, none⟩ = some (.int .i64 x.what)
  c1 : w.cell? ⟨b, off + 1, none⟩ = some (.string x.d)
  c2 : w.cell? ⟨b, off + 2, none⟩ = some (.int .i64 x.n)
  c3 : w.cell? ⟨b, off + 3, none⟩ = some (.int .i64 x.m)
  c4 : w.cell? ⟨b, off + 4, none⟩ = some (.slice x.kp x.ks.length x.kc)
  ints : Ints w x.kp x.ks
  kl : x.ks.length ≤ x.kc
  nb : x.n ≤ 9223372036854775807
  db : x.d.size ≤ 140737488351232
  kb : x.ks.length ≤ 140737488351232
def ORow6 (w : World) (p : Option Addr) (l : List OpW) : Prop := ∀ i (h : i < l.length), ∃ b off, p = some ⟨b, off, none⟩ ∧ OpAt w b (off + i * 5) l[i]
theorem ints_later {w w' : World} {p : Option Addr} {ks : List Int} (h : Ints w p ks) (hb : Below w.heap.size w w') : Ints w' p ks := fun i hi => by
  obtain ⟨b, off, e, hc⟩ := h i hi
  exact ⟨b, off, e, cell_later hb hc⟩
theorem OpAt.later {w w' : World} {b off : Nat} {x : OpW} (h : OpAt w b off x) (hb : Below w.heap.size w w') : OpAt w' b off x :=
  ⟨cell_later hb h.c0, cell_later hb h.c1, cell_later hb h.c2, cell_later hb h.c3, cell_later hb h.c4, ints_later h.ints hb, h.kl, h.nb, h.db, h.kb⟩
theorem ORow6.later {w w' : World} {p : Option Addr} {l : List OpW} (h : ORow6 w p l) (hb : Below w.heap.size w w') : ORow6 w' p l := fun i hi => by
  obtain ⟨b, off, e, hc⟩ := h i hi
  exact ⟨b, off, e, hc.later hb⟩
def Sm (x : OpW) : Prop := x.d.size ≤ 2147483647 ∧ x.ks.length ≤ 2147483647
theorem belowN {B : Nat} {a w : World} (h : Below B a w) (n : Nat) : Below B a (w.drewN n) := ⟨h.os, h.tape, h.output, h.size, h.block⟩
end Go.Proofs.YtckmjmpajbjbkaaGreatDoor
/- How what comes in is opened, layer 6: a list of texts; what the library's variables hold, out of a row's own list. -/
namespace Go.Proofs.YtckmjmpajbjbkaaGreatDoor
open Go.Shelf Go.ChangeShapes Go.WideShapes Go.ChangeAt Go.WideMaps Go.WideElems Go.RowKit
open Go.ChangeMaps (open_string shut_string)

theorem Tryz.own : ownKnob Tryz.prog.godebug = none := by kernel_rfl
theorem Tryz.laidOut : laidOutB Tryz.prog = true := by kernel_rfl
theorem Tryz.cells9 : Tryz.prog.cellsOf 9 = 1 := by kernel_rfl

theorem slice_one {α : Type} [Inhabited α] (mk : α → Value) {H : Type} {enc : TypeId × Value → H} {W : World} {fuel : Nat} {t e : TypeId} {cs : List Value} {x : DataW H × List MemPlace} (ht : Tryz.prog.underlying t = some (.slice e)) (hc : Tryz.prog.cellsOf e = 1)
    (h : DataW.trod enc Tryz.prog W 0 (fun _ => true) true fuel t cs = some x) (hmk : ∀ n v y, DataW.trod enc Tryz.prog W 0 (fun _ => true) true n e [v] = some y → ∃ z, v = mk z) :
    ∃ (p : Option Addr) (cap : Nat) (l : List α), cs = [.slice p l.length cap] ∧ (∀ i (h : i < l.length), ∃ b off, p = some ⟨b, off, none⟩ ∧ W.cell? ⟨b, off + i, none⟩ = some (mk l[i])) ∧ l.length ≤ cap ∧ cap ≤ maxLen := by
  rcases Deep.open_slice1 ht hc h with ⟨rfl, _⟩ | ⟨a, len, cap, m, n, V, D, Pl, rfl, _, hl, hm, hmm, _, hx⟩
  · exact ⟨none, 0, [], rfl, fun i hi => absurd hi (by simp), Nat.le_refl _, Nat.zero_le _⟩
  · simp at hmm
    subst hmm
    have hone : ∀ i, i < len → ∃ z, W.cell? (a.add i) = some (mk z) := fun i hi => by
      obtain ⟨h1, h2⟩ := hx i (by omega)
      obtain ⟨z, e⟩ := hmk _ _ _ h2
      exact ⟨z, by rw [h1, e]⟩
    obtain ⟨f, hf⟩ := Deep.choose_lt hone
    refine ⟨some a, m, (List.range len).map f, by simp, fun i hi => ?_, by simpa using hl, hm⟩
    have hi' : i < len := by simpa using hi
    obtain ⟨b, off, spot⟩ := a
    have h0 := hf 0 (by omega)
    have hspot : spot = none := by simpa [Addr.add] using World.cell?_spot h0
    subst hspot
    have hadd : (⟨b, off, none⟩ : Addr).add i = ⟨b, off + i, none⟩ := by unfold Addr.add; split <;> simp_all
    have := hf i hi'
    rw [hadd] at this
    exact ⟨b, off, rfl, by simpa using this⟩
set_option maxRecDepth 100000 in
theorem open_strs4 {H : Type} {enc : TypeId × Value → H} {W : World} {base : Nat} {v : Value} {d : DataW H} {p : List MemPlace} (hv : Value.okWide Tryz.prog W .any base 44 v) (h : DataW.Trod enc Tryz.prog W 0 (fun _ => true) true 44 v d p) :
    ∃ (a : Option Addr) (cap : Nat) (l : List ByteArray), v = .slice a l.length cap ∧ Strs W a l ∧ l.length ≤ cap ∧ cap ≤ maxLen := by
  obtain ⟨a0, len, cap, rfl⟩ := okWide_slice Tryz.underlying44 hv
  obtain ⟨fuel, hf⟩ := h
  obtain ⟨a, cap', l, e, r⟩ := slice_one Value.string Tryz.underlying44 Tryz.cells9 hf fun n v y hy => by
    obtain ⟨k, e, _, _⟩ := DataW.trod_string Tryz.underlying9 hy
    simp at e
    exact ⟨k, e⟩
  exact ⟨a, cap', l, by simpa [Value.cells] using e, r⟩

theorem star_es : "*" ++ "errors.errorString" = "*errors.errorString" := by decide
theorem row_es (u : TypeId) (h : Tryz.prog.typeName? 3 u = some "*errors.errorString") : u = 184 :=
  typeName_ptr_named (nm := "errors.errorString") (by rw [star_es]; kernel_rfl) (by kernel_rfl) (by decide) u (by rw [star_es]; exact h)
theorem sv_of {W : World} (h : laidMet Tryz.prog Rows.walSegmentsRow.laid W) : SV W.heap.size W := by
  have h3 := h.tail.tail
  have h4 := h3.tail
  have h5 := h4.tail
  have h0 : SV0 W := by
    refine ⟨Lib.tabIs_of_head (g := 2) (t := 191) (e := 166) (n := 20) (by kernel_rfl) (by kernel_rfl) Tryz.underlying191 Tryz.underlying166 (by kernel_rfl) (by kernel_rfl) h3, ?_, ?_⟩
    · obtain ⟨a, s, hv, -⟩ := laid_sentinel (g := 0) (ti := 136) (tp := 184) (te := 186) (ts := 9) h5 (by kernel_rfl) (by kernel_rfl) Tryz.underlying136 row_es Tryz.underlying184 Tryz.underlying186 rfl rfl Tryz.underlying9 (by kernel_rfl) (by kernel_rfl)
      exact ⟨_, _, hv⟩
    · obtain ⟨a, s, hv, -⟩ := laid_sentinel (g := 1) (ti := 136) (tp := 184) (te := 186) (ts := 9) h4 (by kernel_rfl) (by kernel_rfl) Tryz.underlying136 row_es Tryz.underlying184 Tryz.underlying186 rfl rfl Tryz.underlying9 (by kernel_rfl) (by kernel_rfl)
      exact ⟨_, _, hv⟩
  exact fun w' hb => h0.later hb
end Go.Proofs.YtckmjmpajbjbkaaGreatDoor
/- How what comes in is opened, layer 6: a fall; a script. -/
namespace Go.Proofs.YtckmjmpajbjbkaaGreatDoor
open Go.Shelf Go.ChangeShapes Go.WideShapes Go.ChangeAt Go.WideMaps Go.WideElems Go.RowKit
open Go.ChangeMaps (open_string shut_string)

theorem Tryz.cells3 : Tryz.prog.cellsOf 3 = 1 := by kernel_rfl

abbrev I64 := { z : Int // z ≤ 9223372036854775807 }
instance : Inhabited I64 := ⟨⟨0, by decide⟩⟩
theorem ints_in {H : Type} {enc : TypeId × Value → H} {W : World} {fuel : Nat} {cs : List Value} {x : DataW H × List MemPlace} (h : DataW.trod enc Tryz.prog W 0 (fun _ => true) true fuel 39 cs = some x) :
    ∃ (a : Option Addr) (cap : Nat) (ks : List Int), cs = [.slice a ks.length cap] ∧ Ints W a ks ∧ (∀ k ∈ ks, k ≤ 9223372036854775807) ∧ ks.length ≤ cap ∧ cap ≤ maxLen := by
  obtain ⟨a, cap, l, e, r, le, ml⟩ := slice_one (fun z : I64 => Value.int .i64 z.1) Tryz.underlying39 Tryz.cells3 h fun n v y hy => by
    obtain ⟨k, e, _, wk⟩ := DataW.trod_int Tryz.underlying3 hy
    simp at e
    exact ⟨⟨k, (bounds_i64 wk).2⟩, e⟩
  refine ⟨a, cap, l.map (·.1), by simpa using e, fun i hi => ?_, fun k hk => ?_, by simpa using le, ml⟩
  · obtain ⟨b, off, e1, e2⟩ := r i (by simpa using hi)
    exact ⟨b, off, e1, by simpa using e2⟩
  · obtain ⟨z, _, rfl⟩ := List.mem_map.1 hk
    exact z.2
theorem strs_in {H : Type} {enc : TypeId × Value → H} {W : World} {fuel : Nat} {cs : List Value} {x : DataW H × List MemPlace} (h : DataW.trod enc Tryz.prog W 0 (fun _ => true) true fuel 44 cs = some x) :
    ∃ (a : Option Addr) (cap : Nat) (l : List ByteArray), cs = [.slice a l.length cap] ∧ Strs W a l ∧ l.length ≤ cap ∧ cap ≤ maxLen := by
  obtain ⟨a, cap, l, e, r⟩ := slice_one Value.string Tryz.underlying44 Tryz.cells9 h fun n v y hy => by
    obtain ⟨k, e, _, _⟩ := DataW.trod_string Tryz.underlying9 hy
    simp at e
    exact ⟨k, e⟩
  exact ⟨a, cap, l, e, r⟩

theorem Tryz.cellsFall : Tryz.prog.cellsOf 55 = 4 := by kernel_rfl
set_option maxRecDepth 100000 in
theorem open_fall {H : Type} {enc : TypeId × Value → H} {W : World} {base : Nat} {v : Value} {d : DataW H} {p : List MemPlace} (hv : Value.okWide Tryz.prog W .any base 55 v) (h : DataW.Trod enc Tryz.prog W 0 (fun _ => true) true 55 v d p) :
    ∃ (size : Int) (a : Option Addr) (cap : Nat) (rs : List ByteArray) (cut : Int) (b : Option Addr) (cap' : Nat) (ks : List Int), v = .agg #[.int .i64 size, .slice a rs.length cap, .int .i64 cut, .slice b ks.length cap'] ∧ Strs W a rs ∧ rs.length ≤ cap ∧ cap ≤ maxLen ∧ Ints W b ks ∧ ∀ k ∈ ks, k ≤ 9223372036854775807 := by
  obtain ⟨v0, v1, v2, v3, y0, y1, y2, y3, m, rfl, rfl, rfl, t0, t1, t2, t3⟩ := Joins.open_agg4 Tryz.underlying55 (by kernel_rfl) Tryz.cellsFall hv h
  obtain ⟨s, e0, _, _⟩ := DataW.trod_int Tryz.underlying3 t0
  obtain ⟨a, cap, rs, e1, h1, h2, h3⟩ := strs_in t1
  obtain ⟨c, e2, _, _⟩ := DataW.trod_int Tryz.underlying3 t2
  obtain ⟨b, cap', ks, e3, k1, k2, _⟩ := ints_in t3
  simp at e0 e1 e2 e3
  subst e0 e1 e2 e3
  exact ⟨s, a, cap, rs, c, b, cap', ks, rfl, h1, h2, h3, k1, k2⟩
end Go.Proofs.YtckmjmpajbjbkaaGreatDoor
/- How what comes in is opened, layer 6: a script, files. -/
namespace Go.Proofs.YtckmjmpajbjbkaaGreatDoor
open Go.Shelf Go.ChangeShapes Go.WideShapes Go.ChangeAt Go.WideMaps Go.WideElems Go.RowKit
open Go.ChangeMaps (open_string shut_string)

theorem Tryz.cellsOp6 : Tryz.prog.cellsOf 41 = 5 := by kernel_rfl
theorem Tryz.cellsInts : Tryz.prog.cellsOf 39 = 1 := by kernel_rfl
theorem Tryz.bytesInt : Tryz.prog.bytesOf 3 = 8 := by kernel_rfl
theorem wAll_mem {H : Type} {P : Program} {e : TypeId} : ∀ {l : List (DataW H)} {d : DataW H}, d ∈ l → ∀ n ∈ d.weights P e, n ∈ DataW.weightsAll P e l
  | x :: l, d, h, n, hn => by
    rw [DataW.weightsAll]
    rcases List.mem_cons.1 h with rfl | h
    · exact List.mem_append_left _ hn
    · exact List.mem_append_right _ (wAll_mem h n hn)
theorem keep_len {H : Type} {d : DataW H} (h : ∀ n ∈ d.weights Tryz.prog 39, n ≤ reachBytes) : Joins.sliceLen d ≤ 140737488351232 := by
  cases d with
  | slice el sp =>
    have := h ((el.length + sp.length) * Tryz.prog.bytesOf 3) (by rw [DataW.weights, Tryz.underlying39]; exact List.mem_cons_self)
    rw [Tryz.bytesInt] at this
    simp only [reachBytes, Joins.sliceLen] at this ⊢
    omega
  | _ => simp [Joins.sliceLen]
instance : Inhabited OpW := ⟨⟨0, ⟨#[]⟩, 0, 0, none, 0, []⟩⟩
theorem add_lit6 (b off j : Nat) : (⟨b, off, none⟩ : Addr).add j = ⟨b, off + j, none⟩ := by unfold Addr.add; split <;> simp_all

set_option maxRecDepth 100000 in
theorem open_ops6 {H : Type} {enc : TypeId × Value → H} {W : World} {base : Nat} {v : Value} {d : DataW H} {p : List MemPlace} (hv : Value.okWide Tryz.prog W .any base 23 v) (h : DataW.Trod enc Tryz.prog W 0 (fun _ => true) true 23 v d p) (hw : ∀ n ∈ d.weights Tryz.prog 23, n ≤ reachBytes) :
    ∃ (a : Option Addr) (cap : Nat) (l : List OpW), v = .slice a l.length cap ∧ ORow6 W a l ∧ l.length ≤ cap ∧ cap ≤ maxLen := by
  obtain ⟨a0, len, cap, rfl⟩ := okWide_slice Tryz.underlying23 hv
  obtain ⟨fuel, hf⟩ := h
  rcases Deep.open_slice Tryz.underlying23 hf with ⟨hcs, _⟩ | ⟨x, l, c, m, n, D, Pl, hcs, _, hlc, hcm, hm, hx, hel⟩
  · simp [Value.cells] at hcs
    obtain ⟨rfl, rfl, rfl⟩ := hcs
    exact ⟨none, 0, [], rfl, fun i hi => absurd hi (by simp), Nat.le_refl _, Nat.zero_le _⟩
  · simp [Value.cells] at hcs
    obtain ⟨rfl, rfl, rfl⟩ := hcs
    simp at hm
    subst hm
    obtain ⟨sp, hd⟩ : ∃ sp, d = .slice ((List.range len).map D) sp := ⟨_, (Prod.mk.inj hx).1⟩
    have hwi : ∀ i, i < len → ∀ n ∈ (D i).weights Tryz.prog 41, n ≤ reachBytes := fun i hi n hn => by
      refine hw n ?_
      rw [hd, DataW.weights, Tryz.underlying23]
      exact List.mem_cons_of_mem _ (List.mem_append_left _ (wAll_mem (List.mem_map_of_mem (List.mem_range.2 hi)) n hn))
    have hone : ∀ i, i < len → ∃ u : OpW, W.cell? (x.add (i * 5)) = some (.int .i64 u.what) ∧ W.cell? (x.add (i * 5 + 1)) = some (.string u.d) ∧ W.cell? (x.add (i * 5 + 2)) = some (.int .i64 u.n) ∧ W.cell? (x.add (i * 5 + 3)) = some (.int .i64 u.m) ∧
        W.cell? (x.add (i * 5 + 4)) = some (.slice u.kp u.ks.length u.kc) ∧ Ints W u.kp u.ks ∧ u.ks.length ≤ u.kc ∧ u.n ≤ 9223372036854775807 ∧ u.d.size ≤ 140737488351232 ∧ u.ks.length ≤ 140737488351232 := by
      intro i hi
      obtain ⟨cs, hc, ht⟩ := hel i (by omega)
      rw [Tryz.cellsOp6] at hc
      obtain ⟨xs, q, _, hxe, hl, hlen, hfd⟩ := DataW.trod_struct Tryz.underlying41 ht
      rw [Tryz.cellsOp6] at hl
      match cs, hl, xs, hlen with
      | [c0, c1, c2, c3, c4], _, [y0, y1, y2, y3, y4], _ =>
        have hs := (World.cells?_some hc).2.2
        have t0 := hfd 0 _ rfl
        have t1 := hfd 1 _ rfl
        have t2 := hfd 2 _ rfl
        have t3 := hfd 3 _ rfl
        have t4 := hfd 4 _ rfl
        simp [Tryz.cells9, Tryz.cells3, Tryz.cellsInts] at t0 t1 t2 t3 t4
        have hDi : D i = .agg [y0.1, y1.1, y2.1, y3.1, y4.1] := (Prod.mk.inj hxe).1
        have hparts : ∀ j t (dj : DataW H), [3, 9, 3, 3, 39][j]? = some t → [y0.1, y1.1, y2.1, y3.1, y4.1][j]? = some dj → ∀ n ∈ dj.weights Tryz.prog t, n ≤ reachBytes := fun j t dj h1 h2 n hn => by
          refine hwi i hi n ?_
          rw [hDi, DataW.weights, Tryz.underlying41]
          exact DataW.weights_mem_each (ts := [3, 9, 3, 3, 39]) h1 h2 n hn
        obtain ⟨k0, e0, _, _⟩ := DataW.trod_int Tryz.underlying3 t0
        obtain ⟨k1, e1, f1, _⟩ := DataW.trod_string Tryz.underlying9 t1
        obtain ⟨k2, e2, _, w2⟩ := DataW.trod_int Tryz.underlying3 t2
        obtain ⟨k3, e3, _, _⟩ := DataW.trod_int Tryz.underlying3 t3
        obtain ⟨ka, kc, ks, e4, hin, _, hkl, _⟩ := ints_in t4
        simp at e0 e1 e2 e3 e4
        subst e0 e1 e2 e3 e4
        have hk1 : k1.size ≤ 140737488351232 := by
          have := hparts 1 9 y1.1 rfl rfl k1.data.toList.length (by rw [f1]; simp [DataW.weights])
          simpa [reachBytes] using this
        have hk4 : ks.length ≤ 140737488351232 := by
          have h5 := keep_len (d := y4.1) (fun n hn => hparts 4 39 y4.1 rfl rfl n hn)
          have h6 : DataW.Trod enc Tryz.prog W 0 (fun _ => true) true 39 (.slice ka ks.length kc) y4.1 y4.2 := ⟨_, t4⟩
          rw [Joins.sliceLen_Trod Tryz.underlying39 h6] at h5
          exact h5
        have g : ∀ j, j < 5 → W.cell? (x.add (i * 5 + j)) = some ([Value.int .i64 k0, .string k1, .int .i64 k2, .int .i64 k3, .slice ka ks.length kc][j]?.getD .nilFunc) := fun j hj => by
          have := hs j (by simpa using hj)
          rw [Deep.add_add] at this
          rw [this]
          match j, hj with
          | 0, _ => rfl
          | 1, _ => rfl
          | 2, _ => rfl
          | 3, _ => rfl
          | 4, _ => rfl
        exact ⟨⟨k0, k1, k2, k3, ka, kc, ks⟩, g 0 (by omega), g 1 (by omega), g 2 (by omega), g 3 (by omega), g 4 (by omega), hin, hkl, (bounds_i64 w2).2, hk1, hk4⟩
    obtain ⟨f, hfs⟩ := Deep.choose_lt hone
    refine ⟨some x, _, (List.range len).map f, by simp, ?_, by simpa using hlc, hcm⟩
    intro i hi
    have hi' : i < len := by simpa using hi
    obtain ⟨b, off, spot⟩ := x
    have h0 := (hfs 0 (by omega)).1
    have hspot : spot = none := by simpa [Addr.add] using World.cell?_spot h0
    subst hspot
    obtain ⟨g0, g1, g2, g3, g4, g5, g6, g7, g8, g9⟩ := hfs i hi'
    rw [add_lit6] at g0 g1 g2 g3 g4
    have e : ((List.range len).map f)[i] = f i := by simp
    rw [e]
    exact ⟨b, off, rfl, ⟨g0, g1, g2, g3, g4, g5, g6, g7, g8, g9⟩⟩

theorem Tryz.cellsFile6 : Tryz.prog.cellsOf 65 = 3 := by kernel_rfl
instance : Inhabited FV := ⟨(⟨#[]⟩, ⟨#[]⟩, 0)⟩
set_option maxRecDepth 100000 in
theorem open_files6 {H : Type} {enc : TypeId × Value → H} {W : World} {base : Nat} {v : Value} {d : DataW H} {p : List MemPlace} (hv : Value.okWide Tryz.prog W .any base 22 v) (h : DataW.Trod enc Tryz.prog W 0 (fun _ => true) true 22 v d p) (hw : ∀ n ∈ d.weights Tryz.prog 22, n ≤ reachBytes) :
    ∃ (a : Option Addr) (cap : Nat) (l : List FV), v = .slice a l.length cap ∧ FRow W a l ∧ l.length ≤ cap ∧ cap ≤ maxLen ∧ ∀ f ∈ l, f.1.size ≤ 140737488351232 ∧ f.2.1.size ≤ 140737488351232 := by
  obtain ⟨a0, len, cap, rfl⟩ := okWide_slice Tryz.underlying22 hv
  obtain ⟨fuel, hf⟩ := h
  rcases Deep.open_slice Tryz.underlying22 hf with ⟨hcs, _⟩ | ⟨x, l, c, m, n, D, Pl, hcs, _, hlc, hcm, hm, hx, hel⟩
  · simp [Value.cells] at hcs
    obtain ⟨rfl, rfl, rfl⟩ := hcs
    exact ⟨none, 0, [], rfl, FRow.nil _ _, Nat.le_refl _, Nat.zero_le _, fun f hf => by simp at hf⟩
  · simp [Value.cells] at hcs
    obtain ⟨rfl, rfl, rfl⟩ := hcs
    simp at hm
    subst hm
    obtain ⟨sp, hd⟩ : ∃ sp, d = .slice ((List.range len).map D) sp := ⟨_, (Prod.mk.inj hx).1⟩
    have hwi : ∀ i, i < len → ∀ n ∈ (D i).weights Tryz.prog 65, n ≤ reachBytes := fun i hi n hn => by
      refine hw n ?_
      rw [hd, DataW.weights, Tryz.underlying22]
      exact List.mem_cons_of_mem _ (List.mem_append_left _ (wAll_mem (List.mem_map_of_mem (List.mem_range.2 hi)) n hn))
    have hone : ∀ i, i < len → ∃ u : FV, W.cell? (x.add (i * 3)) = some (.string u.1) ∧ W.cell? (x.add (i * 3 + 1)) = some (.string u.2.1) ∧ W.cell? (x.add (i * 3 + 2)) = some (.int .i64 u.2.2) ∧ u.1.size ≤ 140737488351232 ∧ u.2.1.size ≤ 140737488351232 := by
      intro i hi
      obtain ⟨cs, hc, ht⟩ := hel i (by omega)
      rw [Tryz.cellsFile6] at hc
      obtain ⟨xs, q, _, hxe, hl, hlen, hfd⟩ := DataW.trod_struct Tryz.underlying65 ht
      rw [Tryz.cellsFile6] at hl
      match cs, hl, xs, hlen with
      | [c0, c1, c2], _, [y0, y1, y2], _ =>
        have hs := (World.cells?_some hc).2.2
        have t0 := hfd 0 _ rfl
        have t1 := hfd 1 _ rfl
        have t2 := hfd 2 _ rfl
        simp [Tryz.cells9, Tryz.cells3] at t0 t1 t2
        have hDi : D i = .agg [y0.1, y1.1, y2.1] := (Prod.mk.inj hxe).1
        have hparts : ∀ j t (dj : DataW H), [9, 9, 3][j]? = some t → [y0.1, y1.1, y2.1][j]? = some dj → ∀ n ∈ dj.weights Tryz.prog t, n ≤ reachBytes := fun j t dj h1 h2 n hn => by
          refine hwi i hi n ?_
          rw [hDi, DataW.weights, Tryz.underlying65]
          exact DataW.weights_mem_each (ts := [9, 9, 3]) h1 h2 n hn
        obtain ⟨k0, e0, f0, _⟩ := DataW.trod_string Tryz.underlying9 t0
        obtain ⟨k1, e1, f1, _⟩ := DataW.trod_string Tryz.underlying9 t1
        obtain ⟨k2, e2, _, w2⟩ := DataW.trod_int Tryz.underlying3 t2
        simp at e0 e1 e2
        subst e0 e1 e2
        have hk0 : k0.size ≤ 140737488351232 := by
          have := hparts 0 9 y0.1 rfl rfl k0.data.toList.length (by rw [f0]; simp [DataW.weights])
          simpa [reachBytes] using this
        have hk1 : k1.size ≤ 140737488351232 := by
          have := hparts 1 9 y1.1 rfl rfl k1.data.toList.length (by rw [f1]; simp [DataW.weights])
          simpa [reachBytes] using this
        have g : ∀ j, j < 3 → W.cell? (x.add (i * 3 + j)) = some ([Value.string k0, .string k1, .int .i64 k2][j]?.getD .nilFunc) := fun j hj => by
          have := hs j (by simpa using hj)
          rw [Deep.add_add] at this
          rw [this]
          match j, hj with
          | 0, _ => rfl
          | 1, _ => rfl
          | 2, _ => rfl
        exact ⟨(k0, k1, k2), g 0 (by omega), g 1 (by omega), g 2 (by omega), hk0, hk1⟩
    obtain ⟨f, hfs⟩ := Deep.choose_lt hone
    refine ⟨some x, _, (List.range len).map f, by simp, ?_, by simpa using hlc, hcm, ?_⟩
    rotate_left
    · intro g hg
      obtain ⟨i, hi, rfl⟩ := List.mem_map.1 hg
      exact (hfs i (by simpa using hi)).2.2.2
    intro i hi
    have hi' : i < len := by simpa using hi
    obtain ⟨b, off, spot⟩ := x
    have h0 := (hfs 0 (by omega)).1
    have hspot : spot = none := by simpa [Addr.add] using World.cell?_spot h0
    subst hspot
    obtain ⟨g0, g1, g2, _⟩ := hfs i hi'
    rw [add_lit6] at g0 g1 g2
    refine ⟨b, off, rfl, ?_, ?_, ?_⟩
    · simpa using g0
    · simpa [Nat.add_assoc] using g1
    · simpa [Nat.add_assoc] using g2
theorem sized_len6 {H : Type} {P : Program} {ts : List TypeId} {ds : List (DataW H)} (h : (DataW.weightsEach P ts ds).all (· ≤ reachBytes) = true) {j : Nat} {t e : TypeId} {d : DataW H} (ht : ts[j]? = some t) (hd : ds[j]? = some d) (hu : P.underlying t = some (.slice e)) : Joins.sliceLen d * P.bytesOf e ≤ reachBytes := by
  cases d with
  | slice el sp =>
    have := sized_slice h ht hd hu
    refine Nat.le_trans (Nat.mul_le_mul_right _ ?_) this
    exact Nat.le_add_right _ _
  | _ => simp [Joins.sliceLen]
theorem Tryz.bytesFile6 : Tryz.prog.bytesOf 65 = 40 := by kernel_rfl
theorem Tryz.bytesOp6 : Tryz.prog.bytesOf 41 = 64 := by kernel_rfl
end Go.Proofs.YtckmjmpajbjbkaaGreatDoor
