/- Walks of layer 7: slices.Insert of one item ahead of others. -/
import Derived.Test.YtlpannicklkghaaB4
import Derived.Shelf.Spec.SlicesInsert
import Derived.Laws.NewBlocks
namespace Go.Proofs.Ytlpannicklkghaa
open Go.RowKit

/-- 'copy' between slices of elements of several cells, as many as both have. -/
theorem run_copy_min {P : Program} (w : World) (dT sT ty elem : TypeId) (b o dLen dCap : Nat) (ad : Addr) (sLen sCap size k : Nat) (cs : List Value)
    (hu : P.underlying dT = some (.slice elem)) (hs : (P.info? elem).map (·.size) = some size) (hk : Nat.min sLen dLen = k) (hn : cs.length = k * size)
    (hcell : ∀ j v, cs[j]? = some v → w.cell? (ad.add j) = some v) (hc : ∀ j, j < cs.length → (w.cell? ⟨b, o + j, none⟩).isSome = true) (hf : ∀ j, j < cs.length → w.frozen? ⟨b, o + j, none⟩ = false) (h1 : ∀ v ∈ cs, v.oneCell' = true) :
    (Builtin.copy_ #[dT, sT] ty #[.slice (some ⟨b, o, none⟩) dLen dCap, .slice (some ad) sLen sCap]).run P w = .ok (goInt k) (w.setCells b o cs) := by
  have hst := run_storeCells_cells (P := P) b o cs 0 w (by simpa using hc) (by simpa using hf) h1
  cases hq : P.info? elem with
  | none => simp [hq] at hs
  | some i =>
    have hi : i.size = size := by simpa [hq] using hs
    have hl := run_loadCells_list (P := P) w ad cs hcell
    rw [hn] at hl
    simp [Builtin.copy_, run_underlying hu, Builtin.lenOf, Builtin.firstCells, sizeOf, typeInfo, hq, hi, hk, hl, hst]

theorem ic_ins (l : List It) (i : Nat) (x : It) (hi : i ≤ l.length) (k : Nat) : (ic (l.take i ++ x :: l.drop i))[k]? = if k < i * 3 then (ic l)[k]? else if k < (i + 1) * 3 then (ic [x])[k - i * 3]? else (ic (l.drop i))[k - (i + 1) * 3]? := by
  rw [ic_append, show x :: l.drop i = [x] ++ l.drop i from rfl, ic_append]
  by_cases h : k < i * 3
  · rw [if_pos h, List.getElem?_append_left (by rw [ic_length, List.length_take]; omega), ← ic_take, List.getElem?_take_of_lt h]
  · rw [if_neg h, List.getElem?_append_right (by rw [ic_length, List.length_take]; omega), ic_length, List.length_take, Nat.min_eq_left hi]
    by_cases h2 : k < (i + 1) * 3
    · rw [if_pos h2, List.getElem?_append_left (by rw [ic_length]; simp; omega)]
    · rw [if_neg h2, List.getElem?_append_right (by rw [ic_length]; simp; omega), ic_length]
      congr 1
      simp
      omega

set_option maxHeartbeats 8000000 in
set_option maxRecDepth 100000 in
theorem insert_shift (w : World) (b cap : Nat) (l : List It) (x : It) (i vb : Nat) (hr : w.ownsRow 0 86 3 (.slice (some ⟨b, 0, none⟩) l.length cap) l.length (ic l)) (hl : l.length ≤ 1000000) (hi0 : i < l.length) (hroom : l.length + 1 ≤ cap) (hx : w.heap[vb]? = some (.cells (ic [x]).toArray 86 (0, 0))) (hne : vb ≠ b) :
    Calls Try.prog 37 #[.slice (some ⟨b, 0, none⟩) l.length cap, .int .i64 (i : Int), .slice (some ⟨vb, 0, none⟩) 1 1] w (InsP w (.slice (some ⟨b, 0, none⟩) l.length cap) (l.take i ++ x :: l.drop i)) := by
  obtain ⟨i0, hi, hz0, hz1, hz2⟩ := info_parts Try.infoItem
  have hrr := hr
  obtain ⟨_, ⟨_, h0⟩ | ⟨g, cap', cur, e, _, hg, hn, hm, hs, _⟩⟩ := hr
  · omega
  simp only [Value.slice.injEq, Option.some.injEq, Addr.mk.injEq, and_true] at e
  obtain ⟨rfl, _, rfl⟩ := e
  have hsz : (Try.prog.info? 86).map (·.size) = some 3 := by rw [hi]; simp [hz1]
  obtain ⟨n, hn1⟩ : ∃ n, l.length = n := ⟨_, rfl⟩
  rw [hn1] at hrr hl hi0 hroom hn ⊢
  have hcs : ∀ j, j < n * 3 → w.cell? ⟨b, j, none⟩ = (ic l)[j]? := fun j hj => hrr.cellAt j hj
  have hfz : ∀ o, w.frozen? ⟨b, o, none⟩ = false := fun o => hrr.frozenAt o
  have hsome : ∀ t, t < cap * 3 → (w.cell? ⟨b, t, none⟩).isSome = true := fun t ht => by
    have : t < cur.size := by omega
    simp [World.cell?, hg, this]
  have hdl : (ic (l.drop i)).length = (n - i) * 3 := by rw [ic_length, List.length_drop, hn1]
  have hov : ∀ lb cb, (callFunc 53 #[.slice (some ⟨vb, 0, none⟩) 1 1, .slice (some ⟨b, (i + 1) * 3, none⟩) lb cb]).run Try.prog w = .ok (.value (.bool false)) w := fun lb cb => by
    rw [run_callFunc_extern Try.func53 (by kernel_rfl) (by kernel_rfl) (by kernel_rfl) (e := Extern.SlicesOverlaps.overlaps #[72, 72] #[4]) (by kernel_rfl),
      Lib.run_overlaps_apart w 72 4 86 Try.underlying72 3 Try.sizeOf86 ⟨vb, 0, none⟩ ⟨b, (i + 1) * 3, none⟩ 1 1 lb cb hne 86 86 3 cur.size (by simp [World.shape?, hx, ic]) (by simp [World.shape?, hg]) (by omega) (by simp [World.frozen?, hx]) (by simp [World.frozen?, hx])]
    rfl
  have hcp1 : ∀ ty dc sc, (Builtin.copy_ #[72, 72] ty #[.slice (some ⟨b, (i + 1) * 3, none⟩) (n - i) dc, .slice (some ⟨b, i * 3, none⟩) (n + 1 - i) sc]).run Try.prog w.drew = .ok (goInt ((n - i : Nat) : Int)) (w.drew.setCells b ((i + 1) * 3) (ic (l.drop i))) := fun ty dc sc =>
    run_copy_min w.drew _ _ ty 86 b ((i + 1) * 3) (n - i) dc ⟨b, i * 3, none⟩ (n + 1 - i) sc 3 (n - i) (ic (l.drop i)) Try.underlying72 hsz (by simp only [Nat.min_def]; split <;> omega) hdl
      (fun j v hj => by
        have hj2 := (List.getElem?_eq_some_iff.1 hj).1
        rw [hdl] at hj2
        rw [Addr.add_lit]
        show w.cell? ⟨b, i * 3 + j, none⟩ = some v
        rw [hcs _ (by omega), ← ic_drop l i j (by omega)]
        exact hj)
      (fun j hj => by rw [hdl] at hj; exact hsome _ (by omega)) (fun j hj => hfz _) (ic_one _)
  obtain ⟨W1, hW1⟩ : ∃ W1, W1 = w.drew.setCells b ((i + 1) * 3) (ic (l.drop i)) := ⟨_, rfl⟩
  obtain ⟨cur1, hg1, hs1⟩ := setCells_row b (ic (l.drop i)) ((i + 1) * 3) w.drew (cur := cur) (e := 86) (fr := (0, 0)) hg
  rw [← hW1] at hg1
  have hsome1 : ∀ t, t < cap * 3 → (W1.cell? ⟨b, t, none⟩).isSome = true := fun t ht => by
    have : t < cur1.size := by omega
    simp [World.cell?, hg1, this]
  have hvx : ∀ j v, (ic [x])[j]? = some v → W1.cell? ⟨vb, j, none⟩ = some v := fun j v hj => by
    rw [hW1, World.cell?_setCells_out b _ _ _ _ (fun h _ => absurd h hne)]
    have := World.news_of_block hx j v (by simpa using hj)
    rw [Addr.add_lit, Nat.zero_add] at this
    exact this
  have hcp2 : ∀ (W : World), (∀ y, W.cell? y = W1.cell? y) → (∀ y, W.frozen? y = W1.frozen? y) → ∀ ty dc, (Builtin.copy_ #[72, 72] ty #[.slice (some ⟨b, i * 3, none⟩) (n + 1 - i) dc, .slice (some ⟨vb, 0, none⟩) 1 1]).run Try.prog W = .ok (goInt 1) (W.setCells b (i * 3) (ic [x])) := fun W hWc hWf ty dc =>
    run_copy_min W _ _ ty 86 b (i * 3) (n + 1 - i) dc ⟨vb, 0, none⟩ 1 1 3 1 (ic [x]) Try.underlying72 hsz (by simp only [Nat.min_def]; split <;> omega) rfl
      (fun j v hj => by rw [Addr.add_lit, hWc, Nat.zero_add]; exact hvx j v hj)
      (fun j hj => by rw [hWc]; simp only [ic, List.length_cons, List.length_nil] at hj; exact hsome1 _ (by omega)) (fun j hj => by rw [hWf]; simp [World.frozen?, hg1]) (ic_one _)
  rw [← hW1] at hcp1
  have hfin : Hid (InsP w (.slice (some ⟨b, 0, none⟩) n cap) (l.take i ++ x :: l.drop i) (.returned (.slice (some ⟨b, 0, none⟩) (n + 1) cap)) (W1.setCells b (i * 3) (ic [x]))) := by
    have hlen : (l.take i ++ x :: l.drop i).length = n + 1 := by rw [List.length_append, List.length_cons, List.length_take, List.length_drop, hn1]; omega
    obtain ⟨cur2, hg2, hs2⟩ := setCells_row b (ic [x]) (i * 3) W1 hg1
    refine ⟨b, cap, by rw [hlen], ?_, Or.inl rfl, ?_⟩
    · rw [hlen]
      refine own_cells (by rw [ic_length, hlen]) hg2 hroom hm (by rw [hs2, hs1, hs]) fun t ht => ?_
      rw [ic_ins l i x (by omega) t]
      split
      · rename_i h
        rw [World.cell?_setCells_out b _ _ _ _ (fun _ _ => by simp only; omega), hW1, World.cell?_setCells_out b _ _ _ _ (fun _ _ => by simp only; omega)]
        exact hcs t (by omega)
      · rename_i h
        split
        · rename_i h2
          have := World.cell?_setCells_in b (ic [x]) (i * 3) W1 (fun t ht => hsome1 _ (by simp only [ic, List.length_cons, List.length_nil] at ht; omega)) (t - i * 3) (by simp only [ic, List.length_cons, List.length_nil]; omega)
          rw [show i * 3 + (t - i * 3) = t by omega] at this
          rw [this, List.getElem?_eq_getElem (by simp only [ic, List.length_cons, List.length_nil]; omega)]
        · rename_i h2
          rw [World.cell?_setCells_out b _ _ _ _ (fun _ _ => by simp only [ic, List.length_cons, List.length_nil]; omega), hW1]
          have := World.cell?_setCells_in b (ic (l.drop i)) ((i + 1) * 3) w.drew (fun t ht => by rw [hdl] at ht; exact hsome _ (by omega)) (t - (i + 1) * 3) (by rw [hdl]; omega)
          rw [show (i + 1) * 3 + (t - (i + 1) * 3) = t by omega] at this
          rw [this, List.getElem?_eq_getElem (by rw [hdl]; omega)]
    · have o1 : Only (fun k => (Value.slice (some ⟨b, 0, none⟩) n cap).ownBlock = some k) w w.drew := (Only.refl _ _).drew
      have o2 := o1.grown (setCells_grown b (ic (l.drop i)) ((i + 1) * 3) w.drew) (fun k hk => hk)
      rw [← hW1] at o2
      exact o2.grown (setCells_grown b (ic [x]) (i * 3) W1) (fun k hk => hk)
  have hz2' : ¬ ((i : Int) = (n : Int)) := by omega
  have hz3 : ¬ (cap : Int) < (n : Int) + 1 := by omega
  have hw1 : IntKind.i64.wrap ((i : Int) + 1) = (i : Int) + 1 := by rw [IntKind.wrap_i64]; omega
  have hin : i ≤ n := by omega
  have hb0 : (0 : Int) ≤ (i : Int) + 1 := by omega
  have hb1 : (i : Int) + 1 ≤ (n : Int) + 1 := by omega
  have hb2 : ¬ (cap = i + 1) := by omega
  have hb3 : (i : Int) ≤ (n : Int) + 1 := by omega
  have hb4 : ¬ (cap = i) := by omega
  have hb5 : (n : Int) + 1 ≤ (cap : Int) := by omega
  have hb6 : (i : Int) ≤ (n : Int) := by omega
  have hcm : cap ≤ 9223372036854775807 := by unfold maxLen at hm; omega
  clear hrr hg hs hm hcs hfz hsome hg1 hs1 hsome1 hvx hn hn1 hx hdl
  go_enter Try.func37, Try.ntmps37
  go_wp2_with (simp only [hov])
  go_region_law (refine step_copy_runI rfl _ _ 72 72 rfl _ _ (by simp [Act.eval, Act.put]) (by simp [Act.eval, Act.put]) (hcp1 _ _ _) ?_)
  go_wp2_with (at_builtin; refine wpList_copy_runI _ rfl _ _ 72 72 rfl _ _ rfl rfl (hcp2 _ (fun _ => rfl) (fun _ => rfl) _ _) ?_)
  refine bodyPost_ret (v := .slice (some ⟨b, 0, none⟩) (n + 1) cap) (by simp [results, Try.results37, go_sem]) rfl ?_
  rw [← hW1]
  exact hfin.out

set_option maxHeartbeats 8000000 in
set_option maxRecDepth 100000 in
theorem insert_grow (w : World) (b cap : Nat) (l : List It) (x : It) (i vb : Nat) (hr : w.ownsRow 0 86 3 (.slice (some ⟨b, 0, none⟩) l.length cap) l.length (ic l)) (hl : l.length ≤ 1000000) (hi0 : i < l.length) (hroom : cap < l.length + 1) (hx : w.heap[vb]? = some (.cells (ic [x]).toArray 86 (0, 0))) :
    Calls Try.prog 37 #[.slice (some ⟨b, 0, none⟩) l.length cap, .int .i64 (i : Int), .slice (some ⟨vb, 0, none⟩) 1 1] w (InsP w (.slice (some ⟨b, 0, none⟩) l.length cap) (l.take i ++ x :: l.drop i)) := by
  obtain ⟨i0, hi, hz0, hz1, hz2⟩ := info_parts Try.infoItem
  have hrr := hr
  obtain ⟨_, ⟨_, h0⟩ | ⟨g, cap', cur, e, _, hg, hn, hm, hs, _⟩⟩ := hr
  · omega
  simp only [Value.slice.injEq, Option.some.injEq, Addr.mk.injEq, and_true] at e
  obtain ⟨rfl, _, rfl⟩ := e
  have hsz : (Try.prog.info? 86).map (·.size) = some 3 := by rw [hi]; simp [hz1]
  obtain ⟨n, hn1⟩ : ∃ n, l.length = n := ⟨_, rfl⟩
  rw [hn1] at hrr hl hi0 hroom hn ⊢
  obtain rfl : cap = n := by omega
  have hbw : b < w.heap.size := (hrr.lt b rfl).2
  have hvw : vb < w.heap.size := (Array.getElem?_eq_some_iff.1 hx).1
  have hcs : ∀ j, j < cap * 3 → w.cell? ⟨b, j, none⟩ = (ic l)[j]? := fun j hj => hrr.cellAt j hj
  have hdl : (ic (l.drop i)).length = (cap - i) * 3 := by rw [ic_length, List.length_drop, hn1]
  have htl : (ic (l.take i)).length = i * 3 := by rw [ic_length, List.length_take]; omega
  have hold : (Builtin.firstCells i0.size i (.slice (some ⟨b, 0, none⟩) i cap)).run Try.prog w.drew = .ok (ic (l.take i)).toArray w.drew := by
    rw [hz1]
    exact run_firstCells_some w.drew 3 i ⟨b, 0, none⟩ i cap (ic (l.take i)) (by rw [htl]) (fun j v hj => by
      rw [Addr.add_lit, Nat.zero_add]
      rw [← ic_take, List.getElem?_take] at hj
      split at hj
      · show w.cell? ⟨b, j, none⟩ = some v
        rw [hcs j (by omega)]
        exact hj
      · cases hj)
  have hrz : ∀ ty, (Builtin.append_ #[72, 3] ty #[.slice (some ⟨b, 0, none⟩) i cap, .int .i64 ((cap : Int) + 1 - (i : Int))]).run Try.prog w =
      .ok (.slice (some ⟨w.heap.size, 0, none⟩) (cap + 1) (grownCap w (cap + 1) cap 86)) (w.drew.alloc (.cells ((ic (l.take i)).toArray ++ Builtin.zeroCells (Value.agg #[.string ⟨#[]⟩, .string ⟨#[]⟩, .pointer none]).cells (cap + 1 - i) ++ Builtin.zeroCells (Value.agg #[.string ⟨#[]⟩, .string ⟨#[]⟩, .pointer none]).cells (grownCap w (cap + 1) cap 86 - (cap + 1))) 86)) := fun ty => by
    have hik : i + (cap + 1 - i) = cap + 1 := by omega
    have h := Lib.run_append_grow_zeros w 72 3 ty 86 i0 _ .i64 .i64 Try.underlying72 Try.underlying3 hi hz0 (some ⟨b, 0, none⟩) i cap (ic (l.take i)) hold (cap + 1 - i) (by omega) (by omega) (by omega) (by omega) (by rw [hz2]; omega) (by rw [hz2, hik]; exact growslice_fits hroom (by omega))
    rw [hik] at h
    rw [show (cap : Int) + 1 - (i : Int) = ((cap + 1 - i : Nat) : Int) by omega]
    exact h
  obtain ⟨G, hG⟩ : ∃ G, G = grownCap w (cap + 1) cap 86 := ⟨_, rfl⟩
  obtain ⟨ROW, hROW⟩ : ∃ ROW : Array Value, ROW = (ic (l.take i)).toArray ++ Builtin.zeroCells (Value.agg #[.string ⟨#[]⟩, .string ⟨#[]⟩, .pointer none]).cells (cap + 1 - i) ++ Builtin.zeroCells (Value.agg #[.string ⟨#[]⟩, .string ⟨#[]⟩, .pointer none]).cells (G - (cap + 1)) := ⟨_, rfl⟩
  rw [← hG] at hrz
  rw [← hROW] at hrz
  have hGn : cap + 1 ≤ G := by rw [hG]; exact grownCap_ge w _ _ _
  have hGm : G ≤ maxLen := by
    have := grownCap_le_maxLen w (cap + 1) cap 86 (by unfold maxLen; omega)
    rw [← hG] at this
    exact this
  have hRl : ROW.size = G * 3 := by
    rw [hROW]
    simp [Builtin.zeroCells, Value.cells, htl]
    omega
  have hRf : ∀ j, j < i * 3 → ROW[j]? = (ic l)[j]? := fun j hj => by
    rw [hROW, Array.append_assoc, Array.getElem?_append_left (by simpa [htl] using hj)]
    simp only [List.getElem?_toArray]
    rw [← ic_take, List.getElem?_take_of_lt hj]
  obtain ⟨W1, hW1⟩ : ∃ W1, W1 = w.drew.alloc (.cells ROW 86) := ⟨_, rfl⟩
  rw [← hW1] at hrz
  have hg1 : W1.heap[w.heap.size]? = some (.cells ROW 86 (0, 0)) := by rw [hW1]; exact heap_alloc_new w.drew _
  have hN : ∀ j, j < G * 3 → (W1.cell? ⟨w.heap.size, j, none⟩).isSome = true := fun j hj => by
    have : j < ROW.size := by omega
    simp [World.cell?, hg1, this]
  have hb1' : ∀ k, k < w.heap.size → W1.heap[k]? = w.heap[k]? := fun k hk => by rw [hW1]; exact Below.heap_alloc w.drew _ k hk
  have hvx : ∀ j v, (ic [x])[j]? = some v → W1.cell? ⟨vb, j, none⟩ = some v := fun j v hj => by
    have := World.news_of_block hx j v (by simpa using hj)
    rw [Addr.add_lit, Nat.zero_add] at this
    exact cell_at (hb1' vb hvw) this
  have hcpA : ∀ (W : World), (∀ y, W.cell? y = W1.cell? y) → (∀ y, W.frozen? y = W1.frozen? y) → ∀ ty dc, (Builtin.copy_ #[72, 72] ty #[.slice (some ⟨w.heap.size, i * 3, none⟩) (cap + 1 - i) dc, .slice (some ⟨vb, 0, none⟩) 1 1]).run Try.prog W = .ok (goInt 1) (W.setCells w.heap.size (i * 3) (ic [x])) := fun W hWc hWf ty dc =>
    run_copy_min W _ _ ty 86 w.heap.size (i * 3) (cap + 1 - i) dc ⟨vb, 0, none⟩ 1 1 3 1 (ic [x]) Try.underlying72 hsz (by simp only [Nat.min_def]; split <;> omega) rfl
      (fun j v hj => by rw [Addr.add_lit, hWc, Nat.zero_add]; exact hvx j v hj)
      (fun j hj => by rw [hWc]; simp only [ic, List.length_cons, List.length_nil] at hj; exact hN _ (by omega)) (fun j hj => by rw [hWf]; simp [World.frozen?, hg1]) (ic_one _)
  obtain ⟨W2, hW2⟩ : ∃ W2, W2 = W1.setCells w.heap.size (i * 3) (ic [x]) := ⟨_, rfl⟩
  obtain ⟨cur2, hg2, hs2⟩ := setCells_row w.heap.size (ic [x]) (i * 3) W1 hg1
  rw [← hW2] at hg2
  have hN2 : ∀ j, j < G * 3 → (W2.cell? ⟨w.heap.size, j, none⟩).isSome = true := fun j hj => by
    have : j < cur2.size := by omega
    simp [World.cell?, hg2, this]
  have hcpB : ∀ (W : World), (∀ y, W.cell? y = W2.cell? y) → (∀ y, W.frozen? y = W2.frozen? y) → ∀ ty dc sc, (Builtin.copy_ #[72, 72] ty #[.slice (some ⟨w.heap.size, (i + 1) * 3, none⟩) (cap - i) dc, .slice (some ⟨b, i * 3, none⟩) (cap - i) sc]).run Try.prog W = .ok (goInt ((cap - i : Nat) : Int)) (W.setCells w.heap.size ((i + 1) * 3) (ic (l.drop i))) := fun W hWc hWf ty dc sc =>
    run_copy_min W _ _ ty 86 w.heap.size ((i + 1) * 3) (cap - i) dc ⟨b, i * 3, none⟩ (cap - i) sc 3 (cap - i) (ic (l.drop i)) Try.underlying72 hsz (by simp only [Nat.min_def]; split <;> omega) hdl
      (fun j v hj => by
        have hj2 := (List.getElem?_eq_some_iff.1 hj).1
        rw [hdl] at hj2
        rw [Addr.add_lit, hWc, hW2, World.cell?_setCells_out _ _ _ _ _ (fun h _ => absurd h (by simp only; omega))]
        refine cell_at (hb1' b hbw) ?_
        rw [hcs _ (by omega), ← ic_drop l i j (by omega)]
        exact hj)
      (fun j hj => by rw [hdl] at hj; rw [hWc]; exact hN2 _ (by omega)) (fun j hj => by rw [hWf]; simp [World.frozen?, hg2]) (ic_one _)
  have hfin : ∀ W3 : World, W3.heap = (W2.setCells w.heap.size ((i + 1) * 3) (ic (l.drop i))).heap → W3.os = w.os → W3.tape = w.tape → W3.output = w.output → InsP w (.slice (some ⟨b, 0, none⟩) cap cap) (l.take i ++ x :: l.drop i) (.returned (.slice (some ⟨w.heap.size, 0, none⟩) (cap + 1) G)) W3 := by
    intro W3 hh h1 h2 h3
    have hlen : (l.take i ++ x :: l.drop i).length = cap + 1 := by rw [List.length_append, List.length_cons, List.length_take, List.length_drop, hn1]; omega
    obtain ⟨cur3, hg3, hs3⟩ := setCells_row w.heap.size (ic (l.drop i)) ((i + 1) * 3) W2 hg2
    have hcell3 : ∀ y, W3.cell? y = (W2.setCells w.heap.size ((i + 1) * 3) (ic (l.drop i))).cell? y := fun y => by simp only [World.cell?, hh]
    rw [← hh] at hg3
    refine ⟨w.heap.size, G, by rw [hlen], ?_, Or.inr (Nat.le_refl _), ?_⟩
    · rw [hlen]
      refine own_cells (by rw [ic_length, hlen]) hg3 hGn hGm (by rw [hs3, hs2, hRl]) fun t ht => ?_
      rw [hcell3, ic_ins l i x (by omega) t]
      split
      · rename_i h
        rw [World.cell?_setCells_out _ _ _ _ _ (fun _ _ => by simp only; omega), hW2, World.cell?_setCells_out _ _ _ _ _ (fun _ _ => by simp only; omega)]
        simp only [World.cell?, hg1]
        simpa using hRf t h
      · rename_i h
        split
        · rename_i h2
          rw [World.cell?_setCells_out _ _ _ _ _ (fun _ _ => by simp only; omega), hW2]
          have := World.cell?_setCells_in w.heap.size (ic [x]) (i * 3) W1 (fun t ht => hN _ (by simp only [ic, List.length_cons, List.length_nil] at ht; omega)) (t - i * 3) (by simp only [ic, List.length_cons, List.length_nil]; omega)
          rw [show i * 3 + (t - i * 3) = t by omega] at this
          rw [this, List.getElem?_eq_getElem (by simp only [ic, List.length_cons, List.length_nil]; omega)]
        · rename_i h2
          have := World.cell?_setCells_in w.heap.size (ic (l.drop i)) ((i + 1) * 3) W2 (fun t ht => by rw [hdl] at ht; exact hN2 _ (by omega)) (t - (i + 1) * 3) (by rw [hdl]; omega)
          rw [show (i + 1) * 3 + (t - (i + 1) * 3) = t by omega] at this
          rw [this, List.getElem?_eq_getElem (by rw [hdl]; omega)]
    · have gB := setCells_grown w.heap.size (ic (l.drop i)) ((i + 1) * 3) W2
      have gA := setCells_grown w.heap.size (ic [x]) (i * 3) W1
      rw [← hW2] at gA
      have s1 : w.heap.size ≤ W1.heap.size := by rw [hW1]; simp
      have s2 := gA.size
      have s3 := gB.size
      refine ⟨h1, h2, h3, by rw [hh]; omega, fun k hk _ => ?_⟩
      rw [hh, gB.block k (by omega) (fun e => by simp only [Option.some.injEq] at e; omega), gA.block k (by omega) (fun e => by simp only [Option.some.injEq] at e; omega)]
      exact hb1' k hk
  have hfin' : Hid (∀ W3 : World, W3.heap = (W2.setCells w.heap.size ((i + 1) * 3) (ic (l.drop i))).heap → W3.os = w.os → W3.tape = w.tape → W3.output = w.output → InsP w (.slice (some ⟨b, 0, none⟩) cap cap) (l.take i ++ x :: l.drop i) (.returned (.slice (some ⟨w.heap.size, 0, none⟩) (cap + 1) G)) W3) := hfin
  have hz2' : ¬ ((i : Int) = (cap : Int)) := by omega
  have hz3 : (cap : Int) < (cap : Int) + 1 := by omega
  have hw1 : IntKind.i64.wrap ((i : Int) + 1) = (i : Int) + 1 := by rw [IntKind.wrap_i64]; omega
  have hin : i ≤ cap := by omega
  have hb0 : (0 : Int) ≤ (i : Int) + 1 := by omega
  have hb4 : ¬ (cap = i) := by omega
  have hb6 : (i : Int) ≤ (cap : Int) := by omega
  have hb7 : (i : Int) ≤ (cap : Int) + 1 := by omega
  have hGi : ¬ (G = i) := by omega
  have hGim : ¬ (G = i + 1) := by omega
  have hG63 : G ≤ 9223372036854775807 := by unfold maxLen at hGm; omega
  have hcm : cap ≤ 9223372036854775807 := by omega
  have HW2 : Hid (W2 = W1.setCells w.heap.size (i * 3) (ic [x])) := hW2
  have HW1 : Hid (W1.os = w.os ∧ W1.tape = w.tape ∧ W1.output = w.output) := by rw [hW1]; exact ⟨rfl, rfl, rfl⟩
  clear hW1 hW2
  clear hrr hg hs hm hcs hg1 hn hn1 hx hdl htl hold hROW hG hRl hRf hN hb1' hvx hg2 hs2 hN2 hfin hroom hGm hi hz0 hz1 hz2 hsz hbw hvw
  go_enter Try.func37, Try.ntmps37
  go_wp2_with (first
    | (at_builtin; refine Lib.wpList_append_run _ rfl _ _ _ _ rfl _ _ rfl rfl _ _ (hrz _) ?_)
    | (at_builtin; refine wpList_copy_runI _ rfl _ _ 72 72 rfl _ _ rfl rfl (hcpA _ (fun _ => rfl) (fun _ => rfl) _ _) ?_))
  rw [← HW2.out]
  go_region_law (refine step_copy_runI rfl _ _ 72 72 rfl (.slice (some ⟨w.heap.size, (i + 1) * 3, none⟩) (cap - i) (G - (i + 1))) (.slice (some ⟨b, i * 3, none⟩) (cap - i) (cap - i)) (by simp [Act.eval, Act.put]) (by simp [Act.eval, Act.put]) (hcpB W2.drew (fun _ => rfl) (fun _ => rfl) 3 (G - (i + 1)) (cap - i)) ?_)
  go_wp2
  refine bodyPost_ret (v := .slice (some ⟨w.heap.size, 0, none⟩) (cap + 1) G) (by simp [results, Try.results37, go_sem]) rfl ?_
  have gB := setCells_grown w.heap.size (ic (l.drop i)) ((i + 1) * 3) W2.drew
  have gA := setCells_grown w.heap.size (ic [x]) (i * 3) W1
  rw [← HW2.out] at gA
  refine hfin'.out _ ?_ (gB.os.trans (gA.os.trans HW1.out.1)) (gB.tape.trans (gA.tape.trans HW1.out.2.1)) (gB.output.trans (gA.output.trans HW1.out.2.2))
  rw [← drew_setCells]
  rfl

/-- slices.Insert of one item, wherever. -/
theorem insert_any (w : World) (v : Value) (l : List It) (x : It) (i vb : Nat) (hr : w.ownsRow 0 86 3 v l.length (ic l)) (hl : l.length ≤ 1000000) (hi : i ≤ l.length) (hx : w.heap[vb]? = some (.cells (ic [x]).toArray 86 (0, 0))) (hne : v.ownBlock ≠ some vb) :
    Calls Try.prog 37 #[v, .int .i64 (i : Int), .slice (some ⟨vb, 0, none⟩) 1 1] w (InsP w v (l.take i ++ x :: l.drop i)) := by
  rcases Nat.eq_or_lt_of_le hi with e | hlt
  · subst e
    rw [List.take_length, List.drop_length]
    exact insert_end w v l x vb hr hl hx
  · obtain ⟨b, cap, rfl, _⟩ := irow_at hr (by omega)
    rcases Nat.lt_or_ge cap (l.length + 1) with h | h
    · exact insert_grow w b cap l x i vb hr hl hlt h hx
    · exact insert_shift w b cap l x i vb hr hl hlt h hx (fun e => hne (by rw [e]; rfl))
end Go.Proofs.Ytlpannicklkghaa
