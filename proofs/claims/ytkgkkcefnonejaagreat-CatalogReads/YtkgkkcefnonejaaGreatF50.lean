/- How what comes in is opened, layer 8: a catalog, a table, a procedure, lists of them; how much each part of them has. -/
import Derived.Test.YtkgkkcefnonejaaGreatRows
import Derived.Test.YtkgkkcefnonejaaGreatT40
import Derived.WalkKit
import Derived.ProofKit
import Derived.LaidMore
import Derived.OpenShut
import Derived.ShutString
import Derived.ChangeOld
import Derived.Below
import Derived.Lib.SmallJoins
import Derived.Deep.Slices
import Derived.Deep.Strs
import Derived.Stop.Joined
import Derived.SizedLaws
namespace Go.Proofs.YtkgkkcefnonejaaGreat
open Go.ChangeShapes Go.WideShapes Go.ChangeAt Go.WideMaps Go.WideElems Go.RowKit
open Go.ChangeMaps (open_string shut_string)

theorem Tryz.own : ownKnob Tryz.prog.godebug = none := by kernel_rfl
theorem Tryz.laidOut : laidOutB Tryz.prog = true := by kernel_rfl
theorem Tryz.c8str : Tryz.prog.cellsOf 9 = 1 := by kernel_rfl
theorem Tryz.c8int : Tryz.prog.cellsOf 3 = 1 := by kernel_rfl
theorem Tryz.c8bool : Tryz.prog.cellsOf 4 = 1 := by kernel_rfl
theorem Tryz.c8ints : Tryz.prog.cellsOf 43 = 1 := by kernel_rfl
theorem Tryz.c8strs : Tryz.prog.cellsOf 50 = 1 := by kernel_rfl
theorem Tryz.c8cols : Tryz.prog.cellsOf 42 = 1 := by kernel_rfl
theorem Tryz.c8ixs : Tryz.prog.cellsOf 44 = 1 := by kernel_rfl
theorem Tryz.c8prms : Tryz.prog.cellsOf 49 = 1 := by kernel_rfl
theorem Tryz.c8tbs : Tryz.prog.cellsOf 22 = 1 := by kernel_rfl
theorem Tryz.c8prs : Tryz.prog.cellsOf 23 = 1 := by kernel_rfl
theorem Tryz.c8col : Tryz.prog.cellsOf 62 = 3 := by kernel_rfl
theorem Tryz.c8ix : Tryz.prog.cellsOf 64 = 3 := by kernel_rfl
theorem Tryz.c8prm : Tryz.prog.cellsOf 66 = 2 := by kernel_rfl
theorem Tryz.c8tb : Tryz.prog.cellsOf 46 = 5 := by kernel_rfl
theorem Tryz.c8pc : Tryz.prog.cellsOf 52 = 5 := by kernel_rfl
theorem Tryz.c8ct : Tryz.prog.cellsOf 25 = 2 := by kernel_rfl

/-- What lies in these cells opens as one of these, and its parts have no more than memory has. -/
def Opens {α : Type} (P : Program) (W : World) (t : TypeId) (R : α → List Value → Prop) (Z : α → Prop) : Prop :=
  ∀ (H : Type) (enc : TypeId × Value → H) (fuel : Nat) (cs : List Value) (d : DataW H × List MemPlace), DataW.trod enc P W 0 (fun _ => true) true fuel t cs = some d → (∀ n ∈ d.1.weights P t, n ≤ reachBytes) → ∃ x, R x cs ∧ Z x

theorem add_lit8 (b off j : Nat) : (⟨b, off, none⟩ : Addr).add j = ⟨b, off + j, none⟩ := by unfold Addr.add; split <;> simp_all
theorem weightsAll_mem {H : Type} {P : Program} {e : TypeId} : ∀ {l : List (DataW H)} {d : DataW H}, d ∈ l → ∀ n ∈ d.weights P e, n ∈ DataW.weightsAll P e l
  | x :: l, d, hd, n, hn => by
    simp only [DataW.weightsAll, List.mem_append]
    rcases List.mem_cons.1 hd with rfl | h
    · exact Or.inl hn
    · exact Or.inr (weightsAll_mem h n hn)

/-- A row that came in. -/
theorem opens_row {α : Type} {P : Program} {W : World} {t e : TypeId} {c : Nat} {R : α → List Value → Prop} {Z : α → Prop} (hu : P.underlying t = some (.slice e)) (hc : P.cellsOf e = c) (hpos : 0 < c) (hb : 0 < P.bytesOf e) (h : Opens P W e R Z) :
    Opens P W t (fun (l : List α) cs => ∃ a cap, cs = [.slice a l.length cap] ∧ RowR c R W a l ∧ l.length ≤ cap ∧ cap ≤ maxLen) (fun l => l.length ≤ reachBytes ∧ ∀ x ∈ l, Z x) := by
  intro H enc fuel cs d hf hw
  rcases Deep.open_slice hu hf with ⟨rfl, rfl⟩ | ⟨x, len, cap, m, n, D, Pl, rfl, _, hlc, hcm, hm, rfl, hel⟩
  · exact ⟨[], ⟨none, 0, rfl, RowR.nil, Nat.le_refl _, Nat.zero_le _⟩, Nat.zero_le _, fun _ hx => by simp at hx⟩
  · simp only [if_true] at hm
    subst hm
    have hone : ∀ i : Fin len, ∃ u : α, (∃ vs, R u vs ∧ vs.length = c ∧ ∀ j (hj : j < vs.length), W.cell? ((x.add (i.val * c)).add j) = some vs[j]) ∧ Z u := by
      intro i
      obtain ⟨cs', hcs, ht⟩ := hel i.val (by omega)
      rw [hc] at hcs
      obtain ⟨_, hl, hg⟩ := World.cells?_some hcs
      obtain ⟨u, hR, hZ⟩ := h H enc n cs' _ ht (fun k hk => hw k (by
        simp only [DataW.weights, hu, List.mem_cons, List.mem_append]
        exact Or.inr (Or.inl (weightsAll_mem (List.mem_map.2 ⟨i.val, List.mem_range.2 i.isLt, rfl⟩) k hk))))
      exact ⟨u, ⟨cs', hR, hl, fun j hj => by rw [hg j (by omega)]; exact List.getElem?_eq_getElem hj⟩, hZ⟩
    have hwl := hw _ (by simp only [DataW.weights, hu]; exact List.mem_cons_self)
    simp only [List.length_map, List.length_range] at hwl
    have hlen : len ≤ reachBytes := by
      refine Nat.le_trans ?_ hwl
      calc len ≤ len + (m - len) := Nat.le_add_right _ _
        _ = (len + (m - len)) * 1 := (Nat.mul_one _).symm
        _ ≤ _ := Nat.mul_le_mul_left _ hb
    refine ⟨List.ofFn fun i : Fin len => Classical.choose (hone i), ⟨some x, m, by simp, ?_, by simpa using hlc, hcm⟩, by simpa using hlen, ?_⟩
    · intro i hi
      have hi' : i < len := by simpa using hi
      obtain ⟨⟨vs, h1, h2, h3⟩, -⟩ := Classical.choose_spec (hone ⟨i, hi'⟩)
      obtain ⟨b, off, spot⟩ := x
      have hspot : spot = none := by
        obtain ⟨⟨vs', _, g2, g3⟩, -⟩ := Classical.choose_spec (hone ⟨0, by omega⟩)
        have h0 := g3 0 (by omega)
        simpa [Addr.add] using World.cell?_spot h0
      subst hspot
      refine ⟨b, off, vs, rfl, by simpa using h1, h2, fun j hj => ?_⟩
      have := h3 j hj
      rwa [add_lit8, add_lit8] at this
    · intro u hu
      obtain ⟨i, rfl⟩ := (List.mem_ofFn).1 hu
      exact (Classical.choose_spec (hone i)).2

theorem reach47 {n : Nat} (h : n ≤ reachBytes) : n ≤ 140737488355328 := Nat.le_trans h (by decide)

theorem opens_str {W : World} : Opens Tryz.prog W 9 StrR (fun s => s.size ≤ reachBytes) := by
  intro H enc fuel cs d hf hw
  obtain ⟨s, rfl, rfl, _⟩ := DataW.trod_string Tryz.underlying9 hf
  exact ⟨s, rfl, by have := hw s.data.toList.length (by simp [DataW.weights]); simpa using this⟩
theorem opens_int {W : World} : Opens Tryz.prog W 3 IntR (fun n => -9223372036854775808 ≤ n ∧ n ≤ 9223372036854775807) := by
  intro H enc fuel cs d hf hw
  obtain ⟨n, rfl, rfl, hn⟩ := DataW.trod_int Tryz.underlying3 hf
  exact ⟨n, rfl, bounds_i64 hn⟩
theorem opens_bool {W : World} : Opens Tryz.prog W 4 (fun (b : Bool) vs => vs = [.bool b]) (fun _ => True) := by
  intro H enc fuel cs d hf hw
  obtain ⟨b, rfl, rfl⟩ := DataW.trod_bool Tryz.underlying4 hf
  exact ⟨b, rfl, trivial⟩
set_option maxRecDepth 100000 in
theorem opens_col {W : World} : Opens Tryz.prog W 62 (ColR) (fun c => c.nm.size ≤ reachBytes) := by
  intro H enc fuel cs d hf hw
  obtain ⟨xs, q, _, rfl, hl, hlen, hfd⟩ := DataW.trod_struct Tryz.underlying62 hf
  rw [Tryz.c8col] at hl
  match cs, hl, xs, hlen with
  | [c0, c1, c2], _, [y0, y1, y2], _ =>
    simp only [DataW.weights, Tryz.underlying62] at hw
    have t0 := hfd 0 _ rfl
    have t1 := hfd 1 _ rfl
    have t2 := hfd 2 _ rfl
    simp [Tryz.c8bool, Tryz.c8int, Tryz.c8str] at t0 t1 t2
    obtain ⟨x0, r0, z0⟩ := opens_str H enc q _ _ t0 (fun k hk => hw k (DataW.weights_mem_each (j := 0) rfl rfl k hk))
    obtain ⟨x1, r1, z1⟩ := opens_int H enc q _ _ t1 (fun k hk => hw k (DataW.weights_mem_each (j := 1) rfl rfl k hk))
    obtain ⟨x2, r2, z2⟩ := opens_bool H enc q _ _ t2 (fun k hk => hw k (DataW.weights_mem_each (j := 2) rfl rfl k hk))
    simp only [StrR, IntR, List.cons.injEq, and_true] at r0 r1 r2
    subst r0 r1 r2
    exact ⟨⟨x0, x1, x2⟩, rfl, z0⟩
set_option maxRecDepth 100000 in
theorem opens_prm {W : World} : Opens Tryz.prog W 66 (PmR) (fun c => c.nm.size ≤ reachBytes) := by
  intro H enc fuel cs d hf hw
  obtain ⟨xs, q, _, rfl, hl, hlen, hfd⟩ := DataW.trod_struct Tryz.underlying66 hf
  rw [Tryz.c8prm] at hl
  match cs, hl, xs, hlen with
  | [c0, c1], _, [y0, y1], _ =>
    simp only [DataW.weights, Tryz.underlying66] at hw
    have t0 := hfd 0 _ rfl
    have t1 := hfd 1 _ rfl
    simp [Tryz.c8int, Tryz.c8str] at t0 t1
    obtain ⟨x0, r0, z0⟩ := opens_str H enc q _ _ t0 (fun k hk => hw k (DataW.weights_mem_each (j := 0) rfl rfl k hk))
    obtain ⟨x1, r1, z1⟩ := opens_int H enc q _ _ t1 (fun k hk => hw k (DataW.weights_mem_each (j := 1) rfl rfl k hk))
    simp only [StrR, IntR, List.cons.injEq, and_true] at r0 r1
    subst r0 r1
    exact ⟨⟨x0, x1⟩, rfl, z0⟩
set_option maxRecDepth 100000 in
theorem opens_ix {W : World} : Opens Tryz.prog W 64 (IxR W) (fun x => x.nm.size ≤ reachBytes ∧ x.cols.length ≤ reachBytes) := by
  intro H enc fuel cs d hf hw
  obtain ⟨xs, q, _, rfl, hl, hlen, hfd⟩ := DataW.trod_struct Tryz.underlying64 hf
  rw [Tryz.c8ix] at hl
  match cs, hl, xs, hlen with
  | [c0, c1, c2], _, [y0, y1, y2], _ =>
    simp only [DataW.weights, Tryz.underlying64] at hw
    have t0 := hfd 0 _ rfl
    have t1 := hfd 1 _ rfl
    have t2 := hfd 2 _ rfl
    simp [Tryz.c8bool, Tryz.c8ints, Tryz.c8str] at t0 t1 t2
    obtain ⟨x0, r0, z0⟩ := opens_str H enc q _ _ t0 (fun k hk => hw k (DataW.weights_mem_each (j := 0) rfl rfl k hk))
    obtain ⟨x1, r1, z1⟩ := (opens_row Tryz.underlying43 Tryz.c8int (by decide) (by decide +kernel) opens_int) H enc q _ _ t1 (fun k hk => hw k (DataW.weights_mem_each (j := 1) rfl rfl k hk))
    obtain ⟨x2, r2, z2⟩ := opens_bool H enc q _ _ t2 (fun k hk => hw k (DataW.weights_mem_each (j := 2) rfl rfl k hk))
    obtain ⟨a, cap, r1, row, _, _⟩ := r1
    simp only [StrR, List.cons.injEq, and_true] at r0 r1 r2
    subst r0 r1 r2
    exact ⟨⟨x0, x1, x2⟩, ⟨a, cap, rfl, row⟩, z0, z1.1⟩
set_option maxRecDepth 100000 in
theorem opens_tb {W : World} : Opens Tryz.prog W 46 (TbR W) (TbZ 140737488355328) := by
  intro H enc fuel cs d hf hw
  obtain ⟨xs, q, _, rfl, hl, hlen, hfd⟩ := DataW.trod_struct Tryz.underlying46 hf
  rw [Tryz.c8tb] at hl
  match cs, hl, xs, hlen with
  | [c0, c1, c2, c3, c4], _, [y0, y1, y2, y3, y4], _ =>
    simp only [DataW.weights, Tryz.underlying46] at hw
    have t0 := hfd 0 _ rfl
    have t1 := hfd 1 _ rfl
    have t2 := hfd 2 _ rfl
    have t3 := hfd 3 _ rfl
    have t4 := hfd 4 _ rfl
    simp [Tryz.c8cols, Tryz.c8int, Tryz.c8ints, Tryz.c8ixs, Tryz.c8str] at t0 t1 t2 t3 t4
    obtain ⟨x0, r0, z0⟩ := opens_str H enc q _ _ t0 (fun k hk => hw k (DataW.weights_mem_each (j := 0) rfl rfl k hk))
    obtain ⟨x1, r1, z1⟩ := (opens_row Tryz.underlying42 Tryz.c8col (by decide) (by decide +kernel) opens_col) H enc q _ _ t1 (fun k hk => hw k (DataW.weights_mem_each (j := 1) rfl rfl k hk))
    obtain ⟨x2, r2, z2⟩ := (opens_row Tryz.underlying43 Tryz.c8int (by decide) (by decide +kernel) opens_int) H enc q _ _ t2 (fun k hk => hw k (DataW.weights_mem_each (j := 2) rfl rfl k hk))
    obtain ⟨x3, r3, z3⟩ := opens_int H enc q _ _ t3 (fun k hk => hw k (DataW.weights_mem_each (j := 3) rfl rfl k hk))
    obtain ⟨x4, r4, z4⟩ := (opens_row Tryz.underlying44 Tryz.c8ix (by decide) (by decide +kernel) opens_ix) H enc q _ _ t4 (fun k hk => hw k (DataW.weights_mem_each (j := 4) rfl rfl k hk))
    obtain ⟨a1, p1, r1, row1, _, _⟩ := r1
    obtain ⟨a2, p2, r2, row2, _, _⟩ := r2
    obtain ⟨a4, p4, r4, row4, _, _⟩ := r4
    simp only [StrR, IntR, List.cons.injEq, and_true] at r0 r1 r2 r3 r4
    subst r0 r1 r2 r3 r4
    exact ⟨⟨x0, x1, x2, x3, x4⟩, ⟨a1, p1, a2, p2, a4, p4, rfl, row1, row2, row4⟩, reach47 z0, reach47 z1.1, reach47 z2.1, reach47 z4.1, fun c hc => reach47 (z1.2 c hc), fun x hx => ⟨reach47 (z4.2 x hx).1, reach47 (z4.2 x hx).2⟩⟩
set_option maxRecDepth 100000 in
theorem opens_pc {W : World} : Opens Tryz.prog W 52 (PcR W) (PcZ 140737488355328) := by
  intro H enc fuel cs d hf hw
  obtain ⟨xs, q, _, rfl, hl, hlen, hfd⟩ := DataW.trod_struct Tryz.underlying52 hf
  rw [Tryz.c8pc] at hl
  match cs, hl, xs, hlen with
  | [c0, c1, c2, c3, c4], _, [y0, y1, y2, y3, y4], _ =>
    simp only [DataW.weights, Tryz.underlying52] at hw
    have t0 := hfd 0 _ rfl
    have t1 := hfd 1 _ rfl
    have t2 := hfd 2 _ rfl
    have t3 := hfd 3 _ rfl
    have t4 := hfd 4 _ rfl
    simp [Tryz.c8int, Tryz.c8prms, Tryz.c8str, Tryz.c8strs] at t0 t1 t2 t3 t4
    obtain ⟨x0, r0, z0⟩ := opens_str H enc q _ _ t0 (fun k hk => hw k (DataW.weights_mem_each (j := 0) rfl rfl k hk))
    obtain ⟨x1, r1, z1⟩ := (opens_row Tryz.underlying49 Tryz.c8prm (by decide) (by decide +kernel) opens_prm) H enc q _ _ t1 (fun k hk => hw k (DataW.weights_mem_each (j := 1) rfl rfl k hk))
    obtain ⟨x2, r2, z2⟩ := (opens_row Tryz.underlying50 Tryz.c8str (by decide) (by decide +kernel) opens_str) H enc q _ _ t2 (fun k hk => hw k (DataW.weights_mem_each (j := 2) rfl rfl k hk))
    obtain ⟨x3, r3, z3⟩ := opens_int H enc q _ _ t3 (fun k hk => hw k (DataW.weights_mem_each (j := 3) rfl rfl k hk))
    obtain ⟨x4, r4, z4⟩ := opens_int H enc q _ _ t4 (fun k hk => hw k (DataW.weights_mem_each (j := 4) rfl rfl k hk))
    obtain ⟨a1, p1, r1, row1, _, _⟩ := r1
    obtain ⟨a2, p2, r2, row2, _, _⟩ := r2
    simp only [StrR, IntR, List.cons.injEq, and_true] at r0 r1 r2 r3 r4
    subst r0 r1 r2 r3 r4
    exact ⟨⟨x0, x1, x2, x3, x4⟩, ⟨a1, p1, a2, p2, rfl, row1, row2⟩, reach47 z0, reach47 z1.1, reach47 z2.1, fun c hc => reach47 (z1.2 c hc), fun x hx => reach47 (z2.2 x hx)⟩
set_option maxRecDepth 100000 in
theorem opens_ct {W : World} : Opens Tryz.prog W 25 (CtR W) (CtZ 140737488355328) := by
  intro H enc fuel cs d hf hw
  obtain ⟨xs, q, _, rfl, hl, hlen, hfd⟩ := DataW.trod_struct Tryz.underlying25 hf
  rw [Tryz.c8ct] at hl
  match cs, hl, xs, hlen with
  | [c0, c1], _, [y0, y1], _ =>
    simp only [DataW.weights, Tryz.underlying25] at hw
    have t0 := hfd 0 _ rfl
    have t1 := hfd 1 _ rfl
    simp [Tryz.c8prs, Tryz.c8tbs] at t0 t1
    obtain ⟨x0, r0, z0⟩ := (opens_row Tryz.underlying22 Tryz.c8tb (by decide) (by decide +kernel) opens_tb) H enc q _ _ t0 (fun k hk => hw k (DataW.weights_mem_each (j := 0) rfl rfl k hk))
    obtain ⟨x1, r1, z1⟩ := (opens_row Tryz.underlying23 Tryz.c8pc (by decide) (by decide +kernel) opens_pc) H enc q _ _ t1 (fun k hk => hw k (DataW.weights_mem_each (j := 1) rfl rfl k hk))
    obtain ⟨a1, p1, r0, row1, _, _⟩ := r0
    obtain ⟨a2, p2, r1, row2, _, _⟩ := r1
    simp only [List.cons.injEq, and_true] at r0 r1
    subst r0 r1
    exact ⟨⟨x0, x1⟩, ⟨a1, p1, a2, p2, rfl, row1, row2⟩, reach47 z0.1, reach47 z1.1, z0.2, z1.2⟩
end Go.Proofs.YtkgkkcefnonejaaGreat
