/- Layer 19: a script's steps on both tables; a frame of both. -/
import Derived.Test.YtefdhmdkcpgfcaaI12
import Derived.Test.YtefdhmdkcpgfcaaIC
namespace Go.Proofs.Ytefdhmdkcpgfcaa
open Go.RowKit
theorem Sz9.ask {T : Tb9} (h : Sz9 T) {pos : Int} {l : List Lk} (hl : Sl9 l) (hn : T.ps.length < 2147483647) (hp : pos ≤ 9223372036854775807) : Sz9 (askT T pos l) := by
  by_cases e : askE T pos l = 0
  · have hq : ¬ (pos < 0 ∨ pos ≤ T.last) := fun q => by
      rw [askE_one q] at e
      cases e
    rw [askT_yes e]
    refine ⟨by simp; omega, ⟨by show -1 ≤ pos; omega, hp⟩, fun p hm => ?_, fun p hm => ?_, fun p hm => ?_, fun i j hi hj hij => ?_⟩
    · rcases List.mem_append.1 hm with hm | hm
      · have := h.pos p hm
        exact ⟨this.1, by show p.pos ≤ pos; omega⟩
      · rw [List.mem_singleton.1 hm]
        exact ⟨by show 0 ≤ pos; omega, Int.le_refl _⟩
    · rcases List.mem_append.1 hm with hm | hm
      · exact h.ls p hm
      · rw [List.mem_singleton.1 hm]
        exact hl.len
    · rcases List.mem_append.1 hm with hm | hm
      · exact h.size p hm
      · rw [List.mem_singleton.1 hm]
        exact hl.size
    · simp only [List.length_append, List.length_cons, List.length_nil] at hi hj
      have hi2 : i < T.ps.length := by omega
      rw [List.getElem_append_left hi2]
      by_cases c : j < T.ps.length
      · rw [List.getElem_append_left c]
        exact h.rise i j hi2 c hij
      · rw [List.getElem_append_right (by omega)]
        have := h.pos _ (List.getElem_mem hi2)
        simp
        omega
  · rw [askT_no e]
    exact h
theorem Sz9.free {T : Tb9} (h : Sz9 T) (pos : Int) : Sz9 (freeT T pos) := by
  unfold freeT
  split
  · exact h
  · rename_i i hi
    split
    · have hs : (T.ps.take i ++ T.ps.drop (i + 1)).Sublist T.ps := by
        rw [← List.eraseIdx_eq_take_drop_succ]
        exact List.eraseIdx_sublist _ _
      have hr : T.ps.Pairwise fun a b => a.pos < b.pos := List.pairwise_iff_getElem.2 fun i j hi hj hij => h.rise i j hi hj hij
      have hr2 := List.pairwise_iff_getElem.1 (hr.sublist hs)
      exact ⟨Nat.le_trans hs.length_le h.ps, h.last, fun p hp => h.pos p (hs.subset hp), fun p hp => h.ls p (hs.subset hp), fun p hp => h.size p (hs.subset hp), fun i j hi hj hij => hr2 i j hi hj hij⟩
    · exact h
theorem free_len (T : Tb9) (pos : Int) : (freeT T pos).ps.length ≤ T.ps.length := by
  unfold freeT
  split
  · exact Nat.le_refl _
  · split
    · simp
      omega
    · exact Nat.le_refl _
theorem ask_len (T : Tb9) (pos : Int) (l : List Lk) : (askT T pos l).ps.length ≤ T.ps.length + 1 := by
  unfold askT
  split
  · simp
  · exact Nat.le_succ _
/-- A step of a script. -/
def step9 (T : Tb9) (x : Op9) : Tb9 := if x.what = 1 then askT T x.pos x.ls else if x.what = 2 then freeT T x.pos else T
theorem step_sz {T : Tb9} {x : Op9} (h : Sz9 T) (hl : Sl9 x.ls) (hn : T.ps.length < 2147483647) (hp : x.pos ≤ 9223372036854775807) : Sz9 (step9 T x) := by
  unfold step9
  split
  · exact h.ask hl hn hp
  · split
    · exact h.free _
    · exact h
theorem step_len (T : Tb9) (x : Op9) : (step9 T x).ps.length ≤ T.ps.length + 1 := by
  unfold step9
  split
  · exact ask_len _ _ _
  · split
    · exact Nat.le_succ_of_le (free_len _ _)
    · exact Nat.le_succ _
/-! ### the program's table, the document's table, a block of one's own -/
def ptR (PT : Tm9) (B : Nat) (Z : Nat → Prop) (t : Nat) (T : Tb9) : Rs := ⟨Z, fun w => PT w B Z t T⟩
theorem ptR_ok {PT : Tm9} (hL : LocksIs PT) (B : Nat) (Z : Nat → Prop) (t : Nat) (T : Tb9) : (ptR PT B Z t T).ok := fun _ _ h ho => hL.kept h ho fun _ hz hn => hn hz
def dtR (B : Nat) (Z : Nat → Prop) (t : Nat) (T : Tb9) : Rs := ⟨Z, fun w => DT w B Z t T⟩
theorem dtR_ok (B : Nat) (Z : Nat → Prop) (t : Nat) (T : Tb9) : (dtR B Z t T).ok := fun _ _ h ho => h.kept ho fun _ hz hn => hn hz
/-- A block of so many cells. -/
def anR (g : Nat) (ty : TypeId) (m : Nat) : Rs := ⟨fun k => k = g, fun w => ∃ cur, w.heap[g]? = some (.cells cur ty (0, 0)) ∧ cur.size = m⟩
theorem anR_ok (g : Nat) (ty : TypeId) (m : Nat) : (anR g ty m).ok := fun _ _ ⟨cur, h, hs⟩ ho => ⟨cur, (ho.block g (Array.getElem?_eq_some_iff.1 h).1 fun q => q rfl).trans h, hs⟩
section
variable {w0 w w' : World} {L : List Rs} {I : World → Prop}
theorem Fm.turnP {PT : Tm9} (hL : LocksIs PT) (h : Fm w0 L I w) (k : Nat) {B : Nat} {Z : Nat → Prop} {t : Nat} {T T' : Tb9} (hk : L[k]? = some (ptR PT B Z t T)) (hp : PP9 PT w B Z t T' w') : ∃ Z', Fm w0 (L.set k (ptR PT B Z' t T')) I w' := by
  obtain ⟨ho, Z', h1, h2⟩ := hp
  exact ⟨Z', h.turn k hk ho (ptR_ok hL _ _ _ _) h1 h2⟩
theorem Fm.turnD (h : Fm w0 L I w) (k : Nat) {B : Nat} {Z : Nat → Prop} {t : Nat} {T T' : Tb9} (hk : L[k]? = some (dtR B Z t T)) (hp : DP9 w B Z t T' w') : ∃ Z', Fm w0 (L.set k (dtR B Z' t T')) I w' := by
  obtain ⟨ho, Z', h1, h2⟩ := hp
  exact ⟨Z', h.turn k hk ho (dtR_ok _ _ _ _) h1 h2⟩
theorem set_cells_any (g : Nat) : ∀ (vs : List Value) (o : Nat) (w : World) {cur : Array Value} {e : TypeId} {fr : Nat × Nat}, w.heap[g]? = some (.cells cur e fr) → Only (fun k => k = g) w (w.setCells g o vs) := fun vs o w cur e fr h => (Only.refl (fun k => k = g) w).grown (setCells_grown g vs o w) fun k hk => by
  cases hk
  rfl
theorem Fm.over (h : Fm w0 L I w) (k : Nat) {g : Nat} {ty : TypeId} {m : Nat} (hk : L[k]? = some (anR g ty m)) (o : Nat) (vs : List Value) : Fm w0 L I (w.setCells g o vs) := by
  obtain ⟨cur, h1, h2⟩ := h.at k hk
  obtain ⟨cur', h3, h4⟩ := setCells_row g vs o w h1
  have := h.turn k (r' := anR g ty m) hk (set_cells_any g vs o w h1) (anR_ok _ _ _) ⟨cur', h3, h4.trans h2⟩ fun _ q => Or.inl q
  have e : L.set k (anR g ty m) = L := by
    obtain ⟨hl, he⟩ := List.getElem?_eq_some_iff.1 hk
    rw [← he, List.set_getElem_self]
  rwa [e] at this
theorem an_room {m g : Nat} {ty : TypeId} (h : (anR g ty m).H w) : (∀ j, j < m → (w.cell? ⟨g, j, none⟩).isSome = true) ∧ ∀ o, w.frozen? ⟨g, o, none⟩ = false := by
  obtain ⟨cur, h1, h2⟩ := h
  refine ⟨fun j hj => ?_, fun o => ?_⟩
  · simp [World.cell?, h1, h2, hj]
  · simp [World.frozen?, h1]
/-- A row of one's own is a block. -/
theorem Fm.asBlock {B g cap n : Nat} {ty : TypeId} {size : Nat} {xs : List Value} {K : List Rs} (h : Fm w0 (rw_ B ty size (.slice (some ⟨g, 0, none⟩) n cap) n xs :: K) I w) : Fm w0 (anR g ty (cap * size) :: K) I w := by
  have hh : w.ownsRow B ty size (.slice (some ⟨g, 0, none⟩) n cap) n xs := h.at 0 rfl
  obtain ⟨_, ⟨e, _⟩ | ⟨g', cap', cur, e, _, h2, _, _, h3, _⟩⟩ := hh
  · cases e
  · simp only [Value.slice.injEq, Option.some.injEq, Addr.mk.injEq, and_true, true_and] at e
    obtain ⟨rfl, rfl⟩ := e
    have := h.turn 0 (r' := anR g ty (cap * size)) rfl (Only.refl _ _) (anR_ok _ _ _) ⟨cur, h2, h3⟩ fun k hk => Or.inl (by cases hk; rfl)
    simpa using this
end
end Go.Proofs.Ytefdhmdkcpgfcaa
