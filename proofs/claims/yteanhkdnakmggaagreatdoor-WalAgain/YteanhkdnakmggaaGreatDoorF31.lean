/- How what comes in is opened, layer 6: a fall; a script. -/
import Derived.Test.YteanhkdnakmggaaGreatDoorF30
import Derived.Test.YteanhkdnakmggaaGreatDoorD11
namespace Go.Proofs.YteanhkdnakmggaaGreatDoor
open Go.Shelf Go.ChangeShapes Go.WideShapes Go.ChangeAt Go.WideMaps Go.WideElems Go.RowKit
open Go.ChangeMaps (open_string shut_string)

theorem Tryz.cells3 : Tryz.prog.cellsOf 3 = 1 := by kernel_rfl

abbrev I64 := { z : Int // z ≤ 9223372036854775807 }
instance : Inhabited I64 := ⟨⟨0, by decide⟩⟩
theorem ints_in {H : Type} {enc : TypeId × Value → H} {W : World} {fuel : Nat} {cs : List Value} {x : DataW H × List MemPlace} (h : DataW.trod enc Tryz.prog W 0 (fun _ => true) true fuel 39 cs = some x) :
    ∃ (a : Option Addr) (cap : Nat) (ks : List Int), cs = [.slice a ks.length cap] ∧ Ints W a ks ∧ (∀ k ∈ ks, k ≤ 9223372036854775807) ∧ ks.length ≤ cap ∧ cap ≤ maxLen := by
  obtain ⟨a, cap, l, e, r, le, ml⟩ := slice_one (fun z : I64 => Value.int .i64 z.1) Tryz.underlying39 Tryz.cells3 h fun n v y hy => by
    obtain ⟨k, e, _, wk⟩ := DataW.trod_int Tryz.underlying3 hy
    simp at e
    exact ⟨⟨k, (bounds_i64 wk).2⟩, e⟩
  refine ⟨a, cap, l.map (·.1), by simpa using e, fun i hi => ?_, fun k hk => ?_, by simpa using le, ml⟩
  · obtain ⟨b, off, e1, e2⟩ := r i (by simpa using hi)
    exact ⟨b, off, e1, by simpa using e2⟩
  · obtain ⟨z, _, rfl⟩ := List.mem_map.1 hk
    exact z.2
theorem strs_in {H : Type} {enc : TypeId × Value → H} {W : World} {fuel : Nat} {cs : List Value} {x : DataW H × List MemPlace} (h : DataW.trod enc Tryz.prog W 0 (fun _ => true) true fuel 44 cs = some x) :
    ∃ (a : Option Addr) (cap : Nat) (l : List ByteArray), cs = [.slice a l.length cap] ∧ Strs W a l ∧ l.length ≤ cap ∧ cap ≤ maxLen := by
  obtain ⟨a, cap, l, e, r⟩ := slice_one Value.string Tryz.underlying44 Tryz.cells9 h fun n v y hy => by
    obtain ⟨k, e, _, _⟩ := DataW.trod_string Tryz.underlying9 hy
    simp at e
    exact ⟨k, e⟩
  exact ⟨a, cap, l, e, r⟩

theorem Tryz.cellsFall : Tryz.prog.cellsOf 55 = 4 := by kernel_rfl
set_option maxRecDepth 100000 in
theorem open_fall {H : Type} {enc : TypeId × Value → H} {W : World} {base : Nat} {v : Value} {d : DataW H} {p : List MemPlace} (hv : Value.okWide Tryz.prog W .any base 55 v) (h : DataW.Trod enc Tryz.prog W 0 (fun _ => true) true 55 v d p) :
    ∃ (size : Int) (a : Option Addr) (cap : Nat) (rs : List ByteArray) (cut : Int) (b : Option Addr) (cap' : Nat) (ks : List Int), v = .agg #[.int .i64 size, .slice a rs.length cap, .int .i64 cut, .slice b ks.length cap'] ∧ Strs W a rs ∧ rs.length ≤ cap ∧ cap ≤ maxLen ∧ Ints W b ks ∧ ∀ k ∈ ks, k ≤ 9223372036854775807 := by
  obtain ⟨v0, v1, v2, v3, y0, y1, y2, y3, m, rfl, rfl, rfl, t0, t1, t2, t3⟩ := Joins.open_agg4 Tryz.underlying55 (by kernel_rfl) Tryz.cellsFall hv h
  obtain ⟨s, e0, _, _⟩ := DataW.trod_int Tryz.underlying3 t0
  obtain ⟨a, cap, rs, e1, h1, h2, h3⟩ := strs_in t1
  obtain ⟨c, e2, _, _⟩ := DataW.trod_int Tryz.underlying3 t2
  obtain ⟨b, cap', ks, e3, k1, k2, _⟩ := ints_in t3
  simp at e0 e1 e2 e3
  subst e0 e1 e2 e3
  exact ⟨s, a, cap, rs, c, b, cap', ks, rfl, h1, h2, h3, k1, k2⟩
end Go.Proofs.YteanhkdnakmggaaGreatDoor
