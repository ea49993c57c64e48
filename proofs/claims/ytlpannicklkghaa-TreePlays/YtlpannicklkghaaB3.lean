/- Walks of layer 7: slices.Delete, slices.Clone of items. -/
import Derived.Test.YtlpannicklkghaaB0
namespace Go.Proofs.Ytlpannicklkghaa
open Go.RowKit

theorem Try.infoItem : (Try.prog.info? 86).map (fun i => (i.zero, i.size, i.bytes)) = some (some (.agg #[.string ⟨#[]⟩, .string ⟨#[]⟩, .pointer none]), 3, 40) := by kernel_rfl
theorem zeroItem (w : World) : (zeroValue 86).run Try.prog w = .ok (.agg #[.string ⟨#[]⟩, .string ⟨#[]⟩, .pointer none]) w := by kernel_rfl
/-- Items that hold nothing, as cells. -/
def zi (k : Nat) : List Value := (Builtin.zeroCells (Value.agg #[.string ⟨#[]⟩, .string ⟨#[]⟩, .pointer none]).cells k).toList
theorem zi_length (k : Nat) : (zi k).length = k * 3 := by simp [zi, Builtin.zeroCells, Value.cells]
theorem zi_one (k : Nat) : ∀ u ∈ zi k, u.oneCell' = true := by
  intro u hu
  simp [zi, Builtin.zeroCells, Value.cells] at hu
  obtain ⟨a, _, rfl⟩ := hu
  have h3 : a % 3 = 0 ∨ a % 3 = 1 ∨ a % 3 = 2 := by omega
  rcases h3 with h | h | h <;> rw [h] <;> rfl
theorem setCells_row (g : Nat) : ∀ (vs : List Value) (o : Nat) (w : World) {cur : Array Value} {e : TypeId} {fr : Nat × Nat}, w.heap[g]? = some (.cells cur e fr) → ∃ cur', (w.setCells g o vs).heap[g]? = some (.cells cur' e fr) ∧ cur'.size = cur.size
  | [], _, _, cur, _, _, h => ⟨cur, h, rfl⟩
  | v :: r, o, w, cur, e, fr, h => by
    have : (w.setCell ⟨g, o, none⟩ v).heap[g]? = some (.cells (cur.setIfInBounds o v) e fr) := heap_setCell_at h v
    obtain ⟨cur', h1, h2⟩ := setCells_row g r (o + 1) _ this
    exact ⟨cur', h1, by rw [h2]; simp⟩
/-- A row out of its cells. -/
theorem own_cells {w : World} {e : TypeId} {size n cap g : Nat} {cur : Array Value} {xs : List Value} (hx : xs.length = n * size) (hg : w.heap[g]? = some (.cells cur e (0, 0))) (hn : n ≤ cap) (hm : cap ≤ maxLen) (hs : cur.size = cap * size) (hc : ∀ j, j < n * size → w.cell? ⟨g, j, none⟩ = xs[j]?) : w.ownsRow 0 e size (.slice (some ⟨g, 0, none⟩) n cap) n xs := by
  refine ⟨hx, Or.inr ⟨g, cap, cur, rfl, Nat.zero_le _, hg, hn, hm, hs, ?_⟩⟩
  have hle : n * size ≤ cur.size := by rw [hs]; exact Nat.mul_le_mul_right _ hn
  apply List.ext_getElem?
  intro j
  by_cases hj : j < n * size
  · have h1 := hc j hj
    simp only [World.cell?, hg] at h1
    rw [List.getElem?_take_of_lt hj, ← h1]
    simp
  · rw [List.getElem?_eq_none (by rw [List.length_take]; omega), List.getElem?_eq_none (by omega)]
theorem clear_items (w : World) (ty : TypeId) (b o k c : Nat) (hk : 0 < k) (hc : ∀ j, j < k * 3 → (w.cell? ⟨b, o + j, none⟩).isSome = true) (hf : ∀ j, j < k * 3 → w.frozen? ⟨b, o + j, none⟩ = false) :
    (Builtin.clear_ #[72] ty #[.slice (some ⟨b, o, none⟩) k c]).run Try.prog w = .ok (.tuple #[]) (w.setCells b o (zi k)) := by
  have hst := run_storeCells_cells (P := Try.prog) b o (zi k) 0 w (by simpa [zi_length] using hc) (by simpa [zi_length] using hf) (zi_one k)
  simp only [Nat.add_zero] at hst
  obtain ⟨m, rfl⟩ : ∃ m, k = m + 1 := ⟨k - 1, by omega⟩
  simp [Builtin.clear_, run_underlying Try.underlying72, zeroItem w]
  show ((Sem.run Try.prog (storeCells ⟨b, o, none⟩ (zi (m + 1))) w).andThen fun _ w' => Result.ok (Value.tuple #[]) w') = _
  rw [hst]
  rfl

theorem ic_take (l : List It) (i : Nat) : (ic l).take (i * 3) = ic (l.take i) := by
  have h := congrArg (List.take (i * 3)) (congrArg ic (List.take_append_drop i l))
  rw [← h, ic_append]
  by_cases hi : i ≤ l.length
  · rw [List.take_left' (by rw [ic_length, List.length_take]; omega)]
  · rw [List.take_of_length_le (by rw [List.length_append, ic_length, ic_length, List.length_take, List.length_drop]; omega), List.drop_eq_nil_of_le (by omega)]
    simp [ic]
theorem ic_drop (l : List It) (i : Nat) (j : Nat) (h : i ≤ l.length) : (ic (l.drop i))[j]? = (ic l)[i * 3 + j]? := by
  conv => rhs; rw [← List.take_append_drop i l, ic_append]
  rw [List.getElem?_append_right (by rw [ic_length, List.length_take]; omega), ic_length, List.length_take, Nat.min_eq_left h, Nat.add_sub_cancel_left]
theorem ic_cut (l : List It) (i j : Nat) (hi : i ≤ l.length) (k : Nat) : (ic (l.take i ++ l.drop j))[k]? = if k < i * 3 then (ic l)[k]? else (ic (l.drop j))[k - i * 3]? := by
  rw [ic_append]
  by_cases h : k < i * 3
  · rw [if_pos h, List.getElem?_append_left (by rw [ic_length, List.length_take]; omega), ← ic_take, List.getElem?_take_of_lt h]
  · rw [if_neg h, List.getElem?_append_right (by rw [ic_length, List.length_take]; omega), ic_length, List.length_take, Nat.min_eq_left hi]

set_option maxHeartbeats 8000000 in
set_option maxRecDepth 100000 in
theorem delete_any (w : World) (b cap : Nat) (l : List It) (i j : Nat) (hrow : w.ownsRow 0 86 3 (.slice (some ⟨b, 0, none⟩) l.length cap) l.length (ic l)) (hij : i < j) (hjl : j ≤ l.length) (hl : l.length ≤ 1000000) :
    Calls Try.prog 34 #[.slice (some ⟨b, 0, none⟩) l.length cap, .int .i64 (i : Int), .int .i64 (j : Int)] w fun e w' => e = .returned (.slice (some ⟨b, 0, none⟩) (i + (l.length - j)) cap) ∧ w'.ownsRow 0 86 3 (.slice (some ⟨b, 0, none⟩) (i + (l.length - j)) cap) (i + (l.length - j)) (ic (l.take i ++ l.drop j)) ∧ Only (fun k => k = b) w w' := by
  obtain ⟨i0, hi, hz0, hz1, hz2⟩ := info_parts Try.infoItem
  have hr := hrow
  obtain ⟨_, ⟨_, h0⟩ | ⟨g, cap', cur, e, _, hg, hn, hm, hs, _⟩⟩ := hrow
  · omega
  simp only [Value.slice.injEq, Option.some.injEq, Addr.mk.injEq, and_true] at e
  obtain ⟨rfl, _, rfl⟩ := e
  obtain ⟨n, hn1⟩ : ∃ n, l.length = n := ⟨_, rfl⟩
  have hnl : n ≤ cap := by omega
  rw [hn1] at hr hjl hl ⊢
  obtain ⟨m, hm1⟩ : ∃ m, n - j = m := ⟨_, rfl⟩
  rw [hm1]
  have hnm : j + m = n := by omega
  have hel : (ic (l.drop j)).length = m * 3 := by rw [ic_length, List.length_drop]; omega
  have hcell : ∀ t, t < n * 3 → w.cell? ⟨b, t, none⟩ = (ic l)[t]? := fun t ht => hr.cellAt t ht
  have hfz : ∀ o, w.frozen? ⟨b, o, none⟩ = false := fun o => hr.frozenAt o
  have hsome0 : ∀ t, t < cap * 3 → (w.cell? ⟨b, t, none⟩).isSome = true := fun t ht => by
    have : t < cur.size := by omega
    simp [World.cell?, hg, this]
  have hnews : Hid (∀ t u, (ic (l.drop j))[t]? = some u → w.drew.cell? ⟨b, j * 3 + t, none⟩ = some u) := fun t u hu => by
    have ht : t < m * 3 := by
      have := (List.getElem?_eq_some_iff.1 hu).1
      rwa [hel] at this
    show w.cell? ⟨b, j * 3 + t, none⟩ = some u
    rw [hcell (j * 3 + t) (by omega), ← ic_drop l j t (by omega)]
    exact hu
  have hspare : Hid (∀ t, t < (ic (l.drop j)).length → (w.drew.cell? ⟨b, 0 + i * 3 + t, none⟩).isSome = true ∧ w.drew.frozen? ⟨b, 0 + i * 3 + t, none⟩ = false) := fun t ht => by
    rw [hel] at ht
    exact ⟨hsome0 _ (by omega), hfz _⟩
  obtain ⟨W1, hW1⟩ : ∃ W1, W1 = w.drew.setCells b (0 + i * 3) (ic (l.drop j)) := ⟨_, rfl⟩
  have hW : Hid (W1 = w.drew.setCells b (0 + i * 3) (ic (l.drop j))) := hW1
  obtain ⟨cur1, hg1, hs1⟩ := setCells_row b (ic (l.drop j)) (0 + i * 3) w.drew (cur := cur) (e := 86) (fr := (0, 0)) hg
  rw [← hW1] at hg1
  have hin1 : ∀ t, t < (i + m) * 3 → W1.cell? ⟨b, t, none⟩ = (ic (l.take i ++ l.drop j))[t]? := fun t ht => by
    rw [ic_cut l i j (by omega) t, hW1]
    split
    · rename_i h
      rw [World.cell?_setCells_out b _ _ _ _ (fun _ _ => by simp only; omega)]
      exact hcell t (by omega)
    · rename_i h
      have := World.cell?_setCells_in b (ic (l.drop j)) (0 + i * 3) w.drew (fun t ht => (hspare.out t ht).1) (t - i * 3) (by rw [hel]; omega)
      rw [show 0 + i * 3 + (t - i * 3) = t by omega] at this
      rw [this, List.getElem?_eq_getElem (by rw [hel]; omega)]
  have hfz1 : ∀ o, W1.frozen? ⟨b, o, none⟩ = false := fun o => by simp [World.frozen?, hg1]
  have hle1 : cur1.size = cap * 3 := by rw [hs1, hs]
  have hsome1 : ∀ t, t < cap * 3 → (W1.cell? ⟨b, t, none⟩).isSome = true := fun t ht => by
    have : t < cur1.size := by omega
    simp [World.cell?, hg1, this]
  have hcl : ∀ ty, (Builtin.clear_ #[72] ty #[.slice (some ⟨b, (i + m) * 3, none⟩) (n - (i + m)) (cap - (i + m))]).run Try.prog W1 = .ok (.tuple #[]) (W1.setCells b ((i + m) * 3) (zi (n - (i + m)))) := fun ty => clear_items W1 ty b ((i + m) * 3) (n - (i + m)) (cap - (i + m)) (by omega) (fun t ht => hsome1 _ (by omega)) (fun t _ => hfz1 _)
  have hfin : Hid ((W1.setCells b ((i + m) * 3) (zi (n - (i + m)))).ownsRow 0 86 3 (.slice (some ⟨b, 0, none⟩) (i + m) cap) (i + m) (ic (l.take i ++ l.drop j)) ∧ Only (fun k => k = b) w (W1.setCells b ((i + m) * 3) (zi (n - (i + m))))) := by
    obtain ⟨cur2, hg2, hs2⟩ := setCells_row b (zi (n - (i + m))) ((i + m) * 3) W1 hg1
    refine ⟨own_cells (by rw [ic_length, List.length_append, List.length_take, List.length_drop]; omega) hg2 (by omega) hm (by rw [hs2, hle1]) fun t ht => ?_, ?_⟩
    · rw [World.cell?_setCells_out b _ _ _ _ (fun _ _ => by simp only; omega)]
      exact hin1 t ht
    · have o1 : Only (fun k => k = b) w w.drew := (Only.refl _ _).drew
      have o2 := o1.grown (setCells_grown b (ic (l.drop j)) (0 + i * 3) w.drew) (fun k hk => by simpa using hk.symm)
      rw [← hW1] at o2
      exact o2.grown (setCells_grown b (zi (n - (i + m))) ((i + m) * 3) W1) (fun k hk => by simpa using hk.symm)
  have hlen : Hid ((ic (l.drop j)).length = m * 3) := hel
  have hone : Hid (∀ u ∈ ic (l.drop j), u.oneCell' = true) := ic_one _
  have hmlen : cap ≤ 9223372036854775807 := by unfold maxLen at hm; omega
  have hne : ¬ (i : Int) = (j : Int) := by omega
  have q1 : (i : Int) ≤ (n : Int) := by omega
  have q2 : (j : Int) ≤ (n : Int) := by omega
  have q3 : (n : Int) ≤ (cap : Int) := by omega
  have q4 : (i : Int) ≤ (j : Int) := by omega
  have q5 : (i : Int) ≤ (cap : Int) := by omega
  have q6 : (i : Int) + (m : Int) ≤ (n : Int) := by omega
  have q7 : n - j = m := by omega
  have q8 : ¬ cap = i + m := by omega
  have q9 : i + m ≤ n := by omega
  have qa : i ≤ j := by omega
  have qb : j ≤ n := by omega
  clear hr hg hs hm hcell hfz hin1 hfz1 hsome1 hle1 hs1 hg1 hW1 hel hm1 hn hn1 hsome0
  by_cases hcj : cap = j
  · have hm0 : m = 0 := by omega
    have hnews0 : Hid (∀ t u, (ic (l.drop j))[t]? = some u → w.drew.cell? ((⟨b, 0, none⟩ : Addr).add t) = some u) := fun t u hu => by
      have := (List.getElem?_eq_some_iff.1 hu).1
      rw [hlen.out, hm0] at this
      omega
    obtain ⟨nw, hnw⟩ : ∃ nw, ic (l.drop j) = nw := ⟨_, rfl⟩
    obtain ⟨fin, hfn⟩ : ∃ fin, ic (l.take i ++ l.drop j) = fin := ⟨_, rfl⟩
    rw [hnw] at hlen hone hspare hnews0 hW
    rw [hfn] at hfin ⊢
    subst hcj hm0
    simp only [Nat.add_zero] at hcl hfin q8 q9
    clear hnw hfn hnews q7 hnm q6
    go_enter Try.func34, Try.ntmps34
    go_wp2_with fail
    go_region_law (refine step_append_room rfl (.tmp 22) (.tmp 25) 72 rfl 86 i0 3 Try.underlying72 hi hz1 b 0 i cap (by simp [Act.eval, Act.put]) ⟨b, 0, none⟩ 0 0 nw (by simp [Act.eval, Act.put]) hlen.out hnews0.out hone.out (by omega) hspare.out ?_; rw [← hW.out])
    go_wp2
    go_ret
    exact ⟨by simp, hfin.out⟩
  · go_enter Try.func34, Try.ntmps34
    go_wp2_with fail
    go_region_law (refine step_append_room rfl (.tmp 22) (.tmp 25) 72 rfl 86 i0 3 Try.underlying72 hi hz1 b 0 i cap (by simp [Act.eval, Act.put]) ⟨b, j * 3, none⟩ m (cap - j) (ic (l.drop j)) (by simp [Act.eval, Act.put]) hlen.out (fun t u hu => by rw [Addr.add_lit]; exact hnews.out t u hu) hone.out (by omega) hspare.out ?_; rw [← hW.out])
    go_wp2
    go_ret
    exact ⟨by simp, hfin.out⟩
end Go.Proofs.Ytlpannicklkghaa
