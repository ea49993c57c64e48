/- Walks of layer 8: a question that remembers what it was asked. -/
import Derived.Test.YtkgkkcefnonejaaGreatT2
namespace Go.Proofs.YtkgkkcefnonejaaGreat
open Go.RowKit Go.Maps

theorem keyedS : Keyed Tryz.prog 9 := string_keyed Tryz.underlying9
theorem keyedI : Keyed Tryz.prog 3 := int_keyed Tryz.underlying3
theorem zeroU (w : World) : (zeroValue 143).run Tryz.prog w = .ok (.agg #[]) w := by kernel_rfl
def setS (ks : List (List UInt8)) : DataW Unit := setOf (.agg []) (ks.map Lit.string)
def setI (ks : List Int) : DataW Unit := setOf (.agg []) (ks.map (Lit.int .i64))
theorem setS_snoc (ks : List (List UInt8)) (k : List UInt8) : (setS ks).put (.string k) (.agg []) = setS (ks ++ [k]) := by
  rw [setS, setS, List.map_append]
  exact (setOf_snoc _ _ _).symm
theorem setI_snoc (ks : List Int) (k : Int) : (setI ks).put (.int .i64 k) (.agg []) = setI (ks ++ [k]) := by
  rw [setI, setI, List.map_append]
  exact (setOf_snoc _ _ _).symm
theorem setS_has (ks : List (List UInt8)) (k : List UInt8) : Maps.has (setS ks) (.string k) = decide (k ∈ ks) := by
  rw [setS, has_setOf _ _ _ (fun x hx => by obtain ⟨y, _, rfl⟩ := List.mem_map.1 hx; trivial), Bool.eq_iff_iff]
  simp [Lit.sameKey]
theorem setI_has (ks : List Int) (k : Int) : Maps.has (setI ks) (.int .i64 k) = decide (k ∈ ks) := by
  rw [setI, has_setOf _ _ _ (fun x hx => by obtain ⟨y, _, rfl⟩ := List.mem_map.1 hx; trivial), Bool.eq_iff_iff]
  simp [Lit.sameKey]
/-- What has been asked of texts. -/
structure AskS (w : World) (b p : Nat) (ks : List (List UInt8)) : Prop where
  box : w.heap[p]? = some (.cells #[.map (some b)] 142 (0, 0))
  map : w.ownsMap Tryz.prog 9 (unitElem (H := Unit)) b ks.length (setS ks)
structure AskI (w : World) (b p : Nat) (ks : List Int) : Prop where
  box : w.heap[p]? = some (.cells #[.map (some b)] 158 (0, 0))
  map : w.ownsMap Tryz.prog 3 (unitElem (H := Unit)) b ks.length (setI ks)
theorem AskS.kept {w w' : World} {b p : Nat} {ks : List (List UInt8)} (h : AskS w b p ks) (hp : w'.heap[p]? = w.heap[p]?) (hb : w'.heap[b]? = w.heap[b]?) : AskS w' b p ks := by
  obtain ⟨es, clock, h4, r⟩ := h.map
  exact ⟨hp.trans h.box, es, clock, hb.trans h4, r⟩
theorem AskS.lt {w : World} {b p : Nat} {ks : List (List UInt8)} (h : AskS w b p ks) : p < w.heap.size ∧ b < w.heap.size := ⟨(Array.getElem?_eq_some_iff.1 h.box).1, h.map.lt⟩
theorem AskS.later {w w' : World} {b p : Nat} {ks : List (List UInt8)} (h : AskS w b p ks) (hb : Below w.heap.size w w') : AskS w' b p ks := h.kept (hb.block _ h.lt.1) (hb.block _ h.lt.2)
/-- The map is no block of cells. -/
theorem AskS.ne {w : World} {b p : Nat} {ks : List (List UInt8)} (h : AskS w b p ks) {k : Nat} {cs : Array Value} {t : TypeId} {fr : Nat × Nat} (hk : w.heap[k]? = some (.cells cs t fr)) : k ≠ b := fun e => by
  obtain ⟨es, clock, h4, _⟩ := h.map
  rw [← e, hk] at h4
  cases h4
theorem AskI.kept {w w' : World} {b p : Nat} {ks : List Int} (h : AskI w b p ks) (hp : w'.heap[p]? = w.heap[p]?) (hb : w'.heap[b]? = w.heap[b]?) : AskI w' b p ks := by
  obtain ⟨es, clock, h4, r⟩ := h.map
  exact ⟨hp.trans h.box, es, clock, hb.trans h4, r⟩
theorem AskI.lt {w : World} {b p : Nat} {ks : List Int} (h : AskI w b p ks) : p < w.heap.size ∧ b < w.heap.size := ⟨(Array.getElem?_eq_some_iff.1 h.box).1, h.map.lt⟩
theorem AskI.later {w w' : World} {b p : Nat} {ks : List Int} (h : AskI w b p ks) (hb : Below w.heap.size w w') : AskI w' b p ks := h.kept (hb.block _ h.lt.1) (hb.block _ h.lt.2)
/-- The map is no block of cells. -/
theorem AskI.ne {w : World} {b p : Nat} {ks : List Int} (h : AskI w b p ks) {k : Nat} {cs : Array Value} {t : TypeId} {fr : Nat × Nat} (hk : w.heap[k]? = some (.cells cs t fr)) : k ≠ b := fun e => by
  obtain ⟨es, clock, h4, _⟩ := h.map
  rw [← e, hk] at h4
  cases h4

set_option maxHeartbeats 1000000 in
theorem unmetS_any (w : World) : Calls Tryz.prog 71 #[] w fun e w' => ∃ p b, e = .returned (.func (.func 121) #[] #[.pointer (some ⟨p, 0, none⟩)]) ∧ AskS w' b p [] ∧ Below w.heap.size w w' ∧ w.heap.size ≤ b := by
  have hmm := @run_makeMap Tryz.prog
  go_enter Tryz.func71, Tryz.ntmps71
  go_wp2
  go_ret
  refine ⟨w.heap.size + 1, w.heap.size, rfl, ⟨?_, ?_⟩, by (repeat (first | exact Below.refl _ _ | assumption | refine Below.drew ?_ | refine below_drewN ?_ _ | refine Below.alloc ?_ (by first | omega | (simp; done) | (simp; omega)) _ | refine Below.setCell ?_ (by first | omega | (simp; done) | (simp; omega)) _ | refine Below.trans ?_ (Below.mono (by assumption) (by first | omega | (simp; done) | (simp; omega))))), Nat.le_refl _⟩
  · have := heap_alloc_new (w.alloc (.map #[] 0)) (.cells #[.map (some w.heap.size)] 142 (0, 0))
    simpa using this
  · exact (World.ownsMap_made w Tryz.prog 9 (unitElem (H := Unit))).alloc _

set_option maxHeartbeats 2000000 in
set_option maxRecDepth 100000 in
theorem metS_any (s : ByteArray) (w : World) (b p : Nat) (ks : List (List UInt8)) (h : AskS w b p ks) (hk : ks.length ≤ 1000000) (hs : s.size ≤ 1099511627776) :
    Calls Tryz.prog 121 #[.string s, .pointer (some ⟨p, 0, none⟩)] w fun e w' => e = .returned (.bool (!decide (bs s ∈ ks))) ∧ AskS w' b p (ks ++ [bs s]) ∧ Only (fun k => k = b) w w' := by
  obtain ⟨h1, h3⟩ := h
  have H1 := Lib.hid h1
  have c0 : w.cell? ⟨p, 0, none⟩ = some (.map (some b)) := cell_of_one h1
  have hp : p < w.heap.size := (Array.getElem?_eq_some_iff.1 h1).1
  have hb := h3.lt
  have hpb : p ≠ b := fun e => by
    obtain ⟨es, clock, h4, _⟩ := h3
    rw [← e, h1] at h4
    cases h4
  have hkey : keyOf Tryz.prog 9 (.string s) = some (.string (bs s)) := WideMaps.keyOf_string_mk Tryz.underlying9 (by unfold maxLen; omega)
  have hown := h3
  clear h1 h3
  go_enter Tryz.func121, Tryz.ntmps121
  go_wp2_with (first
    | (at_lookup; refine wpList_lookup_own_unit _ rfl _ _ 142 rfl 9 143 keyedS Tryz.underlying142 (zeroU _) b ks.length _ rfl hown _ _ rfl hkey ?_)
    | (at_mapUpdate; refine wpList_mapUpdate_own _ rfl _ _ _ 142 rfl 9 143 keyedS Tryz.underlying142 (unitElem (H := Unit)) b ks.length _ rfl (hown.alloc _) (by unfold maxLen; omega) _ _ _ rfl rfl hkey _ [] unitElem_mk ?_; intro w1 hown1 hgrow1))
  go_ret
  refine ⟨ret_bool (by rw [setS_has]), ⟨?_, ?_⟩, ?_⟩
  · exact (hgrow1.block p (by simp; omega) (fun e => hpb (by simpa using e))).trans ((Below.heap_alloc _ _ _ hp).trans H1.out)
  · rw [← setS_snoc, List.length_append]
    exact hown1
  · exact ((Only.refl _ _).alloc _).grown hgrow1 (fun k hk => by cases hk; rfl)

set_option maxHeartbeats 1000000 in
theorem unmetI_any (w : World) : Calls Tryz.prog 141 #[] w fun e w' => ∃ p b, e = .returned (.func (.func 144) #[] #[.pointer (some ⟨p, 0, none⟩)]) ∧ AskI w' b p [] ∧ Below w.heap.size w w' ∧ w.heap.size ≤ b := by
  have hmm := @run_makeMap Tryz.prog
  go_enter Tryz.func141, Tryz.ntmps141
  go_wp2
  go_ret
  refine ⟨w.heap.size + 1, w.heap.size, rfl, ⟨?_, ?_⟩, by (repeat (first | exact Below.refl _ _ | assumption | refine Below.drew ?_ | refine below_drewN ?_ _ | refine Below.alloc ?_ (by first | omega | (simp; done) | (simp; omega)) _ | refine Below.setCell ?_ (by first | omega | (simp; done) | (simp; omega)) _ | refine Below.trans ?_ (Below.mono (by assumption) (by first | omega | (simp; done) | (simp; omega))))), Nat.le_refl _⟩
  · have := heap_alloc_new (w.alloc (.map #[] 0)) (.cells #[.map (some w.heap.size)] 158 (0, 0))
    simpa using this
  · exact (World.ownsMap_made w Tryz.prog 3 (unitElem (H := Unit))).alloc _

set_option maxHeartbeats 2000000 in
set_option maxRecDepth 100000 in
theorem metI_any (n : Int) (w : World) (b p : Nat) (ks : List Int) (h : AskI w b p ks) (hk : ks.length ≤ 1000000) (hs : (Lit.int .i64 n).wf = true) :
    Calls Tryz.prog 144 #[.int .i64 n, .pointer (some ⟨p, 0, none⟩)] w fun e w' => e = .returned (.bool (!decide (n ∈ ks))) ∧ AskI w' b p (ks ++ [n]) ∧ Only (fun k => k = b) w w' := by
  obtain ⟨h1, h3⟩ := h
  have H1 := Lib.hid h1
  have c0 : w.cell? ⟨p, 0, none⟩ = some (.map (some b)) := cell_of_one h1
  have hp : p < w.heap.size := (Array.getElem?_eq_some_iff.1 h1).1
  have hb := h3.lt
  have hpb : p ≠ b := fun e => by
    obtain ⟨es, clock, h4, _⟩ := h3
    rw [← e, h1] at h4
    cases h4
  have hkey : keyOf Tryz.prog 3 (.int .i64 n) = some (.int .i64 n) := keyOf_int_mk Tryz.underlying3 hs
  have hown := h3
  clear h1 h3
  go_enter Tryz.func144, Tryz.ntmps144
  go_wp2_with (first
    | (at_lookup; refine wpList_lookup_own_unit _ rfl _ _ 158 rfl 3 143 keyedI Tryz.underlying158 (zeroU _) b ks.length _ rfl hown _ _ rfl hkey ?_)
    | (at_mapUpdate; refine wpList_mapUpdate_own _ rfl _ _ _ 158 rfl 3 143 keyedI Tryz.underlying158 (unitElem (H := Unit)) b ks.length _ rfl (hown.alloc _) (by unfold maxLen; omega) _ _ _ rfl rfl hkey _ [] unitElem_mk ?_; intro w1 hown1 hgrow1))
  go_ret
  refine ⟨ret_bool (by rw [setI_has]), ⟨?_, ?_⟩, ?_⟩
  · exact (hgrow1.block p (by simp; omega) (fun e => hpb (by simpa using e))).trans ((Below.heap_alloc _ _ _ hp).trans H1.out)
  · rw [← setI_snoc, List.length_append]
    exact hown1
  · exact ((Only.refl _ _).alloc _).grown hgrow1 (fun k hk => by cases hk; rfl)

/-- A question after names, and what it was asked. -/
structure AskN (w : World) (b q : Nat) (ks : List (List UInt8)) : Prop where
  ex : ∃ p, w.heap[q]? = some (.cells #[.func (.func 121) #[] #[.pointer (some ⟨p, 0, none⟩)]] 37 (0, 0)) ∧ AskS w b p ks
theorem AskN.lt {w : World} {b q : Nat} {ks : List (List UInt8)} (h : AskN w b q ks) : q < w.heap.size ∧ b < w.heap.size := by
  obtain ⟨p, h1, h2⟩ := h.ex
  exact ⟨(Array.getElem?_eq_some_iff.1 h1).1, h2.lt.2⟩
theorem AskN.later {w w' : World} {b q : Nat} {ks : List (List UInt8)} (h : AskN w b q ks) (hb : Below w.heap.size w w') : AskN w' b q ks := by
  obtain ⟨p, h1, h2⟩ := h.ex
  exact ⟨p, (hb.block _ (Array.getElem?_eq_some_iff.1 h1).1).trans h1, h2.later hb⟩
theorem AskN.ne {w : World} {b q : Nat} {ks : List (List UInt8)} (h : AskN w b q ks) {k : Nat} {cs : Array Value} {t : TypeId} {fr : Nat × Nat} (hk : w.heap[k]? = some (.cells cs t fr)) : k ≠ b := by
  obtain ⟨p, h1, h2⟩ := h.ex
  exact h2.ne hk
/-- Another question's map may turn. -/
theorem AskN.beside {w w' : World} {b b' q : Nat} {ks : List (List UInt8)} (h : AskN w b q ks) (ho : Only (fun k => k = b') w w') (hb : b ≠ b') (hm : ∀ k cs t fr, w.heap[k]? = some (.cells cs t fr) → k ≠ b') : AskN w' b q ks := by
  obtain ⟨p, h1, h2⟩ := h.ex
  exact ⟨p, (ho.block _ (Array.getElem?_eq_some_iff.1 h1).1 (hm _ _ _ _ h1)).trans h1, h2.kept (ho.block _ h2.lt.1 (hm _ _ _ _ h2.box)) (ho.block _ h2.lt.2 hb)⟩

set_option maxHeartbeats 2000000 in
theorem newName_any (w : World) : Calls Tryz.prog 35 #[] w fun e w' => ∃ q b, e = .returned (.func (.func 72) #[] #[.pointer (some ⟨q, 0, none⟩)]) ∧ AskN w' b q [] ∧ Below w.heap.size w w' ∧ w.heap.size ≤ b := by
  go_enter Tryz.func35, Tryz.ntmps35
  go_wp2_with fail
  refine (unmetS_any _).mono ?_
  rintro e w1 ⟨p, b, rfl, ha, hb, hB⟩
  have HA := Lib.hid ha
  have hs := hb.size
  clear ha
  dsimp only
  go_wp2
  go_ret
  refine ⟨w1.heap.size, b, rfl, ⟨p, ?_, HA.out.later ((Below.refl _ _).alloc (Nat.le_refl _) _)⟩, by (repeat (first | exact Below.refl _ _ | assumption | refine Below.drew ?_ | refine below_drewN ?_ _ | refine Below.alloc ?_ (by first | omega | (simp; done) | (simp; omega)) _ | refine Below.setCell ?_ (by first | omega | (simp; done) | (simp; omega)) _ | refine Below.trans ?_ (Below.mono (by assumption) (by first | omega | (simp; done) | (simp; omega))))), hB⟩
  exact heap_alloc_new w1 _

set_option maxHeartbeats 2000000 in
set_option maxRecDepth 100000 in
theorem newName1_any (s : ByteArray) (w : World) (b q : Nat) (ks : List (List UInt8)) (h : AskN w b q ks) (hk : ks.length ≤ 1000000) :
    Calls Tryz.prog 72 #[.string s, .pointer (some ⟨q, 0, none⟩)] w fun e w' => e = .returned (.bool (isNm (bs s) && !decide (bs s ∈ ks))) ∧ (isNm (bs s) = true → AskN w' b q (ks ++ [bs s])) ∧ Only (fun k => k = b) w w' := by
  have hlt := h.lt
  have HN : Hid (∀ {k : Nat} {cs : Array Value} {t : TypeId} {fr : Nat × Nat}, w.heap[k]? = some (.cells cs t fr) → k ≠ b) := h.ne
  obtain ⟨p, h1, h2⟩ := h.ex
  have H1 := Lib.hid h1
  have H2 := Lib.hid h2
  have c0 := cell_of_one h1
  clear h1 h2 h
  cases hn : isNm (bs s) with
  | false =>
    go_enter Tryz.func72, Tryz.ntmps72
    go_wp2_with (first | (go_at_call 73; refine (name_any s _).mono ?_; rintro e w' ⟨rfl, he⟩; rw [hn, he]; clear he))
    go_ret
    exact ⟨rfl, fun h => (by cases h), Only.refl _ _⟩
  | true =>
    have hz := isNm_size hn
    go_enter Tryz.func72, Tryz.ntmps72
    go_wp2_with (first | (go_at_call 73; refine (name_any s _).mono ?_; rintro e w' ⟨rfl, he⟩; rw [hn, he]; clear he) | (go_at_call 121; refine (metS_any s w b p ks H2.out hk (by omega)).mono ?_; rintro e w' ⟨rfl, ha, hb⟩))
    go_ret
    exact ⟨ret_bool (by simp), fun _ => ⟨p, (hb.block _ hlt.1 (HN.out H1.out)).trans H1.out, ha⟩, hb⟩
end Go.Proofs.YtkgkkcefnonejaaGreat
