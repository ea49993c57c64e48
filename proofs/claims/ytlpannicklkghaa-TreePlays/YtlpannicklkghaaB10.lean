/- Walks of layer 7: slices.Backward over the steps of a way. -/
import Derived.Test.YtlpannicklkghaaB9
import Derived.Test.YtlpannicklkghaaM83
import Derived.RangeFuncBound
import Derived.RangeFuncCalls
import Derived.RangeFuncLeaves
import Derived.Shelf.Abstract
import Derived.Shelf.RegionOpen
import Derived.OwnWalkIn
import Derived.TacticsInMore
import Derived.LoopNIn
import Derived.LoopIn
namespace Go.Proofs.Ytlpannicklkghaa
open Go.RowKit Go.Shelf
attribute [local go_sem] Oper.semAt_some

theorem wc_at : ∀ (l : List Fr) (i : Nat) (h : i < l.length), (wc l)[i * 2]? = some (.pointer (some ⟨(l[i]).n.b, 0, none⟩)) ∧ (wc l)[i * 2 + 1]? = some (.int .i64 ((l[i]).X.length : Int))
  | f :: r, 0, _ => ⟨rfl, rfl⟩
  | f :: r, i + 1, h => by
    have := wc_at r i (by simpa using h)
    have e0 : (i + 1) * 2 = i * 2 + 1 + 1 := by omega
    have e1 : (i + 1) * 2 + 1 = (i * 2 + 1) + 1 + 1 := by omega
    rw [e1, e0]
    simpa only [wc, List.getElem?_cons_succ, List.getElem_cons_succ] using this
theorem wrow_at {w : World} {B : Nat} {v : Value} {l : List Fr} (h : w.ownsRow B 101 2 v l.length (wc l)) (hl : 0 < l.length) : ∃ g cap, v = .slice (some ⟨g, 0, none⟩) l.length cap ∧ ∀ i (hi : i < l.length), w.cell? ⟨g, i * 2, none⟩ = some (.pointer (some ⟨(l[i]).n.b, 0, none⟩)) ∧ w.cell? ⟨g, i * 2 + 1, none⟩ = some (.int .i64 ((l[i]).X.length : Int)) := by
  have hr := h
  obtain ⟨_, ⟨rfl, h2⟩ | ⟨g, cap, cur, rfl, _, _, h3, h4, _⟩⟩ := h
  · omega
  · refine ⟨g, cap, rfl, fun i hi => ?_⟩
    obtain ⟨e0, e1⟩ := wc_at l i hi
    exact ⟨(hr.cellAt (i * 2) (by omega)).trans e0, (hr.cellAt (i * 2 + 1) (by omega)).trans e1⟩
/-- What a round hands over: a place, a step. -/
def encF (x : Nat × Fr) : Array Value := #[.int .i64 (x.1 : Int), .agg #[.pointer (some ⟨x.2.n.b, 0, none⟩), .int .i64 (x.2.X.length : Int)]]
/-- What comes behind what: the lowest step first. -/
def comes (rs : List Fr) (pre : List (Nat × Fr)) (x : Nat × Fr) : Prop := ∃ rest, rs = pre.map (·.2) ++ x.2 :: rest ∧ x.1 = rest.length
/-- The box of the way, and the way's own block, lie as they lay. -/
def keepsW (Bs : Nat) (v : Value) (A B : World) : Prop := B.heap[Bs]? = A.heap[Bs]? ∧ ∀ k, v.ownBlock = some k → B.heap[k]? = A.heap[k]?
theorem keepsW.trans {Bs : Nat} {v : Value} {A B C : World} (h : keepsW Bs v A B) (k : keepsW Bs v B C) : keepsW Bs v A C := ⟨k.1.trans h.1, fun j hj => (k.2 j hj).trans (h.2 j hj)⟩

set_option maxHeartbeats 4000000 in
set_option maxRecDepth 100000 in
theorem back1_in (F : Fence) (n : Nat) (hf : F.fn 57) (hro : F.round = none) (hn : 1 ≤ n) (l Bs : Nat) (B : Nat) (v : Value) (rs : List Fr) (hlen : rs.length ≤ 1000000) (J Jx : List (Nat × Fr) → World → Prop)
    (hY : ∀ pre x W, J pre W → comes rs pre x → YieldAt F (n - 1) Try.prog l (encF x) W fun e W' => (e = .returned (.bool true) ∧ J (pre ++ [x]) W' ∧ keepsW Bs v W W') ∨ (e = .returned (.bool false) ∧ Jx (pre ++ [x]) W'))
    (W : World) (hBs : W.cell? ⟨Bs, 0, none⟩ = some v) (hrow : W.ownsRow B 101 2 v rs.length (wc rs.reverse)) (h0 : J [] W) :
    CallsIn F n Try.prog 57 #[.func (.yield l) #[] #[], .pointer (some ⟨Bs, 0, none⟩)] W fun e W' => (∃ v, e = .returned v) ∧
      ((∃ ys : List (Nat × Fr), ys.map (·.2) = rs ∧ J ys W') ∨ (∃ pre : List (Nat × Fr), (∃ rest, rs = pre.map (·.2) ++ rest) ∧ Jx pre W')) := by
  obtain ⟨p, cap, e, _⟩ := wrow_form hrow
  subst e
  refine callsIn_of_wp Try.func57 rfl hf ?_ hro
  simp only [Try.ntmps57, List.size_toArray, List.length_cons, List.length_nil, Nat.reduceAdd, Nat.reduceSub, Array.replicate_succ, Array.replicate_zero, List.push_toArray, List.append_toArray, List.nil_append, List.cons_append]
  gi_wp2
  gi_loopw [3] (fun i wr => ∃ (pre : List (Nat × Fr)) (rest : List Fr), rs = pre.map (·.2) ++ rest ∧ i = .int .i64 ((rest.length : Int) - 1) ∧ J pre wr ∧ keepsW Bs (.slice p rs.length cap) W wr) (fun i _ => (intOf i + 1).toNat)
  case atStart => exact ⟨[], rs, rfl, by go_num, h0, ⟨rfl, fun _ _ => rfl⟩⟩
  case round =>
    obtain ⟨pre, rest, hrs, rfl, hJ, hkp⟩ := hrel
    cases rest with
    | nil =>
      have hneg : ¬ (0 : Int) ≤ ((([] : List Fr).length : Nat) : Int) - 1 := by simp
      gi_wp2
      go_end0
      exact ⟨⟨_, rfl⟩, .inl ⟨pre, by simp, hJ⟩⟩
    | cons f rest =>
      obtain ⟨fn, tmps, assign, body, hy, hR⟩ := hY pre (rest.length, f) wr hJ ⟨rest, hrs, rfl⟩
      unfold encF at hy
      dsimp only at hy
      have hll : rs.length = pre.length + (rest.length + 1) := by rw [hrs]; simp
      obtain ⟨r, hr⟩ : ∃ r, rest.length = r := ⟨_, rfl⟩
      have hrow2 := own_kept hrow hkp.2
      rw [← List.length_reverse] at hrow2
      obtain ⟨g, cap', e, hc⟩ := wrow_at hrow2 (by rw [List.length_reverse]; omega)
      simp only [Value.slice.injEq] at e
      obtain ⟨rfl, _, rfl⟩ := e
      obtain ⟨c0, c1⟩ := hc r (by rw [List.length_reverse]; omega)
      have hfr : rs.reverse[r]'(by rw [List.length_reverse]; omega) = f := by
        subst hr
        simp [hrs]
      rw [hfr] at c0 c1
      have cb : wr.cell? ⟨Bs, 0, none⟩ = some (.slice (some ⟨g, 0, none⟩) rs.length cap) := cell_at hkp.1 hBs
      have hi : ((((f :: rest).length : Nat) : Int) - 1) = (r : Int) := by simp [← hr]
      rw [hi]
      have hrl : (r : Int) < (rs.length : Int) := by omega
      rw [hr] at hy
      have HRS : Hid (rs = pre.map (·.2) ++ f :: rest ∧ rest.length = r) := ⟨hrs, hr⟩
      clear hc hrow2 hfr hi hll hrs hr
      gi_wp2
      refine hR.mono ?_
      rintro e W3 (⟨rfl, hJ3, hk3⟩ | ⟨rfl, hJx3⟩)
      · gi_wp2
        go_roundw
        case rel => exact ⟨pre ++ [(rest.length, f)], rest, by rw [HRS.out.1]; simp, by rw [HRS.out.2], hJ3, hkp.trans hk3⟩
        case measure => simp [intOf]
      · gi_wp2
        refine bodyPost_ret (results_none rfl _ _ _) rfl ?_
        exact ⟨⟨_, rfl⟩, .inr ⟨pre ++ [(rest.length, f)], ⟨rest, by rw [HRS.out.1]; simp⟩, hJx3⟩⟩
set_option maxHeartbeats 1000000 in
theorem back_in (F : Fence) (n : Nat) (hf : F.fn 49) (hro : F.round = none) (a : Option Addr) (len cap : Nat) (w : World) :
    CallsIn F n Try.prog 49 #[.slice a len cap] w fun e w' => e = .returned (.func (.func 57) #[] #[.pointer (some ⟨w.heap.size, 0, none⟩)]) ∧ w' = w.alloc (.cells #[.slice a len cap] 80) := by
  refine callsIn_of_wp Try.func49 rfl hf ?_ hro
  simp only [Try.ntmps49, List.size_toArray, List.length_cons, List.length_nil, Nat.reduceAdd, Nat.reduceSub, Array.replicate_succ, Array.replicate_zero, List.push_toArray, List.append_toArray, List.nil_append, List.cons_append]
  gi_wp2
  go_ret
  exact ⟨rfl, rfl⟩
/-- slices.Backward of a way: its steps, the lowest first. -/
theorem back_stops (F : Fence) (n : Nat) (hf : F.fn 57) (hro : F.round = none) (hn : 1 ≤ n) (Bs B : Nat) (v : Value) (rs : List Fr) (hlen : rs.length ≤ 1000000) (w : World) (hBs : w.cell? ⟨Bs, 0, none⟩ = some v) (hbl : Bs < w.heap.size) (hrow : w.ownsRow B 101 2 v rs.length (wc rs.reverse)) :
    SeqV F n Try.prog 57 #[.pointer (some ⟨Bs, 0, none⟩)] encF (keepsW Bs v) (fun ys => ys.map (·.2) = rs) (fun pre => ∃ rest, rs = pre.map (·.2) ++ rest) (comes rs) w := fun l J Jx W hW hY h0 =>
  back1_in F n hf hro hn l Bs B v rs hlen J Jx hY W (cell_at (hW.block _ hbl) hBs) (own_kept hrow fun k hk => hW.block _ (hrow.lt k hk).2) h0
end Go.Proofs.Ytlpannicklkghaa
