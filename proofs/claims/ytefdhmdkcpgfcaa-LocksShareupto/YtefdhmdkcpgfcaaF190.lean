/- How what comes in is opened, layer 19: a lock, a script, lists of lists of locks; how much each part of them has. -/
import Derived.Test.YtefdhmdkcpgfcaaRows
import Derived.Test.YtefdhmdkcpgfcaaI18
import Derived.WalkKit
import Derived.ProofKit
import Derived.LaidMore
import Derived.OpenShut
import Derived.ShutString
import Derived.ChangeOld
import Derived.Below
import Derived.Lib.SmallJoins
import Derived.Deep.Slices
import Derived.Deep.Strs
import Derived.Stop.Joined
import Derived.SizedLaws
namespace Go.Proofs.Ytefdhmdkcpgfcaa
open Go.ChangeShapes Go.WideShapes Go.ChangeAt Go.WideMaps Go.WideElems Go.RowKit
open Go.ChangeMaps (open_string shut_string)

theorem Try.own : ownKnob Try.prog.godebug = none := by kernel_rfl
theorem Try.laidOut : laidOutB Try.prog = true := by kernel_rfl
theorem Try.c8str : Try.prog.cellsOf 9 = 1 := by kernel_rfl
theorem Try.c8int : Try.prog.cellsOf 3 = 1 := by kernel_rfl
theorem Try.c8bool : Try.prog.cellsOf 4 = 1 := by kernel_rfl
theorem Try.c8lks : Try.prog.cellsOf 34 = 1 := by kernel_rfl
theorem Try.c8lk : Try.prog.cellsOf 23 = 4 := by kernel_rfl
theorem Try.c8op : Try.prog.cellsOf 36 = 3 := by kernel_rfl

/-- What lies in these cells opens as one of these, and its parts have no more than memory has. -/
def Opens {α : Type} (P : Program) (W : World) (t : TypeId) (R : α → List Value → Prop) (Z : α → Prop) : Prop :=
  ∀ (H : Type) (enc : TypeId × Value → H) (fuel : Nat) (cs : List Value) (d : DataW H × List MemPlace), DataW.trod enc P W 0 (fun _ => true) true fuel t cs = some d → (∀ n ∈ d.1.weights P t, n ≤ reachBytes) → ∃ x, R x cs ∧ Z x

theorem add_lit8 (b off j : Nat) : (⟨b, off, none⟩ : Addr).add j = ⟨b, off + j, none⟩ := by unfold Addr.add; split <;> simp_all
theorem weightsAll_mem {H : Type} {P : Program} {e : TypeId} : ∀ {l : List (DataW H)} {d : DataW H}, d ∈ l → ∀ n ∈ d.weights P e, n ∈ DataW.weightsAll P e l
  | x :: l, d, hd, n, hn => by
    simp only [DataW.weightsAll, List.mem_append]
    rcases List.mem_cons.1 hd with rfl | h
    · exact Or.inl hn
    · exact Or.inr (weightsAll_mem h n hn)

/-- A row that came in. -/
theorem opens_row {α : Type} {P : Program} {W : World} {t e : TypeId} {c : Nat} {R : α → List Value → Prop} {Z : α → Prop} (hu : P.underlying t = some (.slice e)) (hc : P.cellsOf e = c) (hpos : 0 < c) (hb : 0 < P.bytesOf e) (h : Opens P W e R Z) :
    Opens P W t (fun (l : List α) cs => ∃ a cap, cs = [.slice a l.length cap] ∧ RowR c R W a l ∧ l.length ≤ cap ∧ cap ≤ maxLen) (fun l => l.length ≤ reachBytes ∧ ∀ x ∈ l, Z x) := by
  intro H enc fuel cs d hf hw
  rcases Deep.open_slice hu hf with ⟨rfl, rfl⟩ | ⟨x, len, cap, m, n, D, Pl, rfl, _, hlc, hcm, hm, rfl, hel⟩
  · exact ⟨[], ⟨none, 0, rfl, RowR.nil, Nat.le_refl _, Nat.zero_le _⟩, Nat.zero_le _, fun _ hx => by simp at hx⟩
  · simp only [if_true] at hm
    subst hm
    have hone : ∀ i : Fin len, ∃ u : α, (∃ vs, R u vs ∧ vs.length = c ∧ ∀ j (hj : j < vs.length), W.cell? ((x.add (i.val * c)).add j) = some vs[j]) ∧ Z u := by
      intro i
      obtain ⟨cs', hcs, ht⟩ := hel i.val (by omega)
      rw [hc] at hcs
      obtain ⟨_, hl, hg⟩ := World.cells?_some hcs
      obtain ⟨u, hR, hZ⟩ := h H enc n cs' _ ht (fun k hk => hw k (by
        simp only [DataW.weights, hu, List.mem_cons, List.mem_append]
        exact Or.inr (Or.inl (weightsAll_mem (List.mem_map.2 ⟨i.val, List.mem_range.2 i.isLt, rfl⟩) k hk))))
      exact ⟨u, ⟨cs', hR, hl, fun j hj => by rw [hg j (by omega)]; exact List.getElem?_eq_getElem hj⟩, hZ⟩
    have hwl := hw _ (by simp only [DataW.weights, hu]; exact List.mem_cons_self)
    simp only [List.length_map, List.length_range] at hwl
    have hlen : len ≤ reachBytes := by
      refine Nat.le_trans ?_ hwl
      calc len ≤ len + (m - len) := Nat.le_add_right _ _
        _ = (len + (m - len)) * 1 := (Nat.mul_one _).symm
        _ ≤ _ := Nat.mul_le_mul_left _ hb
    refine ⟨List.ofFn fun i : Fin len => Classical.choose (hone i), ⟨some x, m, by simp, ?_, by simpa using hlc, hcm⟩, by simpa using hlen, ?_⟩
    · intro i hi
      have hi' : i < len := by simpa using hi
      obtain ⟨⟨vs, h1, h2, h3⟩, -⟩ := Classical.choose_spec (hone ⟨i, hi'⟩)
      obtain ⟨b, off, spot⟩ := x
      have hspot : spot = none := by
        obtain ⟨⟨vs', _, g2, g3⟩, -⟩ := Classical.choose_spec (hone ⟨0, by omega⟩)
        have h0 := g3 0 (by omega)
        simpa [Addr.add] using World.cell?_spot h0
      subst hspot
      refine ⟨b, off, vs, rfl, by simpa using h1, h2, fun j hj => ?_⟩
      have := h3 j hj
      rwa [add_lit8, add_lit8] at this
    · intro u hu
      obtain ⟨i, rfl⟩ := (List.mem_ofFn).1 hu
      exact (Classical.choose_spec (hone i)).2

theorem reach47 {n : Nat} (h : n ≤ reachBytes) : n ≤ 140737488351232 := Nat.le_trans h (by decide)

theorem opens_str {W : World} : Opens Try.prog W 9 StrR (fun s => s.size ≤ reachBytes) := by
  intro H enc fuel cs d hf hw
  obtain ⟨s, rfl, rfl, _⟩ := DataW.trod_string Try.underlying9 hf
  exact ⟨s, rfl, by have := hw s.data.toList.length (by simp [DataW.weights]); simpa using this⟩
theorem opens_int {W : World} : Opens Try.prog W 3 IntR (fun n => -9223372036854775808 ≤ n ∧ n ≤ 9223372036854775807) := by
  intro H enc fuel cs d hf hw
  obtain ⟨n, rfl, rfl, hn⟩ := DataW.trod_int Try.underlying3 hf
  exact ⟨n, rfl, bounds_i64 hn⟩
theorem opens_bool {W : World} : Opens Try.prog W 4 (fun (b : Bool) vs => vs = [.bool b]) (fun _ => True) := by
  intro H enc fuel cs d hf hw
  obtain ⟨b, rfl, rfl⟩ := DataW.trod_bool Try.underlying4 hf
  exact ⟨b, rfl, trivial⟩
def LkZ (x : Lk) : Prop := x.lo.size ≤ reachBytes ∧ x.hi.size ≤ reachBytes
set_option maxRecDepth 100000 in
theorem opens_lk {W : World} : Opens Try.prog W 23 LkR LkZ := by
  intro H enc fuel cs d hf hw
  obtain ⟨xs, q, _, rfl, hl, hlen, hfd⟩ := DataW.trod_struct Try.underlying23 hf
  rw [Try.c8lk] at hl
  match cs, hl, xs, hlen with
  | [c0, c1, c2, c3], _, [y0, y1, y2, y3], _ =>
    simp only [DataW.weights, Try.underlying23] at hw
    have t0 := hfd 0 _ rfl
    have t1 := hfd 1 _ rfl
    have t2 := hfd 2 _ rfl
    have t3 := hfd 3 _ rfl
    simp [Try.c8bool, Try.c8int, Try.c8str] at t0 t1 t2 t3
    obtain ⟨x0, r0, z0⟩ := opens_int H enc q _ _ t0 (fun k hk => hw k (DataW.weights_mem_each (j := 0) rfl rfl k hk))
    obtain ⟨x1, r1, z1⟩ := opens_str H enc q _ _ t1 (fun k hk => hw k (DataW.weights_mem_each (j := 1) rfl rfl k hk))
    obtain ⟨x2, r2, z2⟩ := opens_str H enc q _ _ t2 (fun k hk => hw k (DataW.weights_mem_each (j := 2) rfl rfl k hk))
    obtain ⟨x3, r3, z3⟩ := opens_bool H enc q _ _ t3 (fun k hk => hw k (DataW.weights_mem_each (j := 3) rfl rfl k hk))
    simp only [StrR, IntR, List.cons.injEq, and_true] at r0 r1 r2 r3
    subst r0 r1 r2 r3
    exact ⟨⟨x0, x1, x2, x3⟩, rfl, z1, z2⟩
theorem fit_of {l : List Lk} (h : l.length ≤ reachBytes ∧ ∀ x ∈ l, LkZ x) : fitL l := ⟨h.1, fun x hx => h.2 x hx⟩
set_option maxRecDepth 100000 in
theorem opens_sl {W : World} : Opens Try.prog W 34 (SlR W) (fun _ => True) := by
  intro H enc fuel cs d hf hw
  obtain ⟨l, ⟨a, cap, r, row, _, _⟩, z⟩ := (opens_row Try.underlying34 Try.c8lk (by decide) (by decide +kernel) opens_lk) H enc fuel cs d hf hw
  exact ⟨l, ⟨a, cap, r, row, fit_of z⟩, trivial⟩
set_option maxRecDepth 100000 in
theorem opens_op {W : World} : Opens Try.prog W 36 (Op9R W) (fun _ => True) := by
  intro H enc fuel cs d hf hw
  obtain ⟨xs, q, _, rfl, hl, hlen, hfd⟩ := DataW.trod_struct Try.underlying36 hf
  rw [Try.c8op] at hl
  match cs, hl, xs, hlen with
  | [c0, c1, c2], _, [y0, y1, y2], _ =>
    simp only [DataW.weights, Try.underlying36] at hw
    have t0 := hfd 0 _ rfl
    have t1 := hfd 1 _ rfl
    have t2 := hfd 2 _ rfl
    simp [Try.c8int, Try.c8lks] at t0 t1 t2
    obtain ⟨x0, r0, z0⟩ := opens_int H enc q _ _ t0 (fun k hk => hw k (DataW.weights_mem_each (j := 0) rfl rfl k hk))
    obtain ⟨x1, r1, z1⟩ := opens_int H enc q _ _ t1 (fun k hk => hw k (DataW.weights_mem_each (j := 1) rfl rfl k hk))
    obtain ⟨x2, ⟨a, cap, r2, row, hfit⟩, _⟩ := opens_sl H enc q _ _ t2 (fun k hk => hw k (DataW.weights_mem_each (j := 2) rfl rfl k hk))
    simp only [IntR, List.cons.injEq, and_true] at r0 r1 r2
    subst r0 r1 r2
    exact ⟨⟨x0, x1, x2⟩, ⟨a, cap, rfl, row, hfit, z1⟩, trivial⟩
theorem sized_of8 {H : Type} {P : Program} {ts : List TypeId} {ds : List (DataW H)} (h : (DataW.weightsEach P ts ds).all (· ≤ reachBytes) = true) {j : Nat} {t : TypeId} {d : DataW H} (ht : ts[j]? = some t) (hd : ds[j]? = some d) : ∀ n ∈ d.weights P t, n ≤ reachBytes := fun n hn => by
  simpa using List.all_eq_true.1 h n (DataW.weights_mem_each ht hd n hn)
theorem open_agg8 {α : Type} {H : Type} {enc : TypeId × Value → H} {P : Program} {W : World} {base : Nat} {t : TypeId} {fs : Array Field} {v : Value} {d : DataW H} {p : List MemPlace} {R : α → List Value → Prop} {Z : α → Prop} (hu : P.underlying t = some (.struct fs)) (ho : Opens P W t R Z) (hv : Value.okWide P W .any base t v) (h : DataW.Trod enc P W 0 (fun _ => true) true t v d p) (hw : ∀ n ∈ d.weights P t, n ≤ reachBytes) :
    ∃ x vs, v = .agg (List.toArray vs) ∧ R x vs ∧ Z x := by
  obtain ⟨cs, rfl, _⟩ := okWide_struct hu hv
  obtain ⟨fuel, hf⟩ := h
  obtain ⟨x, hR, hZ⟩ := ho H enc fuel _ _ hf hw
  exact ⟨x, cs.toList, rfl, hR, hZ⟩
theorem open_row8 {α : Type} {H : Type} {enc : TypeId × Value → H} {P : Program} {W : World} {base : Nat} {t e : TypeId} {c : Nat} {v : Value} {d : DataW H} {p : List MemPlace} {R : α → List Value → Prop} {Z : α → Prop} (hu : P.underlying t = some (.slice e)) (hc : P.cellsOf e = c) (hpos : 0 < c) (hb : 0 < P.bytesOf e) (ho : Opens P W e R Z) (hv : Value.okWide P W .any base t v) (h : DataW.Trod enc P W 0 (fun _ => true) true t v d p) (hw : ∀ n ∈ d.weights P t, n ≤ reachBytes) :
    ∃ (l : List α) (a : Option Addr) (cap : Nat), v = .slice a l.length cap ∧ RowR c R W a l ∧ l.length ≤ cap ∧ cap ≤ maxLen ∧ l.length ≤ 140737488351232 ∧ ∀ x ∈ l, Z x := by
  obtain ⟨a0, len, cap, rfl⟩ := okWide_slice hu hv
  obtain ⟨fuel, hf⟩ := h
  obtain ⟨l, ⟨a, c', e1, r1, r2, r3⟩, z1, z2⟩ := opens_row hu hc hpos hb ho H enc fuel _ _ hf hw
  refine ⟨l, a, c', by simpa [Value.cells] using e1, r1, r2, r3, reach47 z1, z2⟩

/-! ### of how much bulk -/
theorem bulk_one {H : Type} (d : DataW H) : 1 ≤ Rows.uptoBulk d := by
  cases d with
  | lit l => cases l <;> simp [Rows.uptoBulk]
  | nil => simp [Rows.uptoBulk]
  | ptr d => simp [Rows.uptoBulk]
  | slice elems spare => simp [Rows.uptoBulk]
  | agg parts => simp [Rows.uptoBulk]
  | iface t d => simp [Rows.uptoBulk]
  | map entries => simp [Rows.uptoBulk]
  | held h => simp [Rows.uptoBulk]
theorem bulk_len {H : Type} (l : List (DataW H)) : l.length ≤ Rows.uptoBulkAll l := by
  induction l with
  | nil => simp [Rows.uptoBulkAll]
  | cons x r ih => have := bulk_one x; simp only [Rows.uptoBulkAll, List.length_cons]; omega
theorem bulk_head {H : Type} {d : DataW H} {l : List (DataW H)} (hk : Rows.uptoSmall H (d :: l) = true) : Rows.uptoBulk d ≤ 1048576 := by
  have h : Rows.uptoBulkAll (d :: l) ≤ 1048576 := of_decide_eq_true hk
  simp only [Rows.uptoBulkAll] at h
  omega
theorem bulk_row {H : Type} {enc : TypeId × Value → H} {P : Program} {W : World} {t e : TypeId} {a : Option Addr} {n cap : Nat} {d : DataW H} {p : List MemPlace} (hu : P.underlying t = some (.slice e)) (h : DataW.Trod enc P W 0 (fun _ => true) true t (.slice a n cap) d p) : n ≤ Rows.uptoBulk d := by
  obtain ⟨fuel, hf⟩ := h
  rcases Deep.open_slice hu hf with ⟨hcs, _⟩ | ⟨x, len, c, m, k, D, Pl, hcs, _, _, _, _, hd, _⟩
  · simp [Value.cells] at hcs
    omega
  · simp [Value.cells] at hcs
    obtain ⟨_, rfl, _⟩ := hcs
    simp only [Prod.mk.injEq] at hd
    rw [hd.1]
    simp only [Rows.uptoBulk]
    have := bulk_len ((List.range n).map D)
    simp only [List.length_map, List.length_range] at this
    omega
end Go.Proofs.Ytefdhmdkcpgfcaa
