/- Walks of layer 8: which columns may be. -/
import Derived.Test.YtkgkkcefnonejaaGreatT5
namespace Go.Proofs.YtkgkkcefnonejaaGreat
open Go.RowKit

/-- A question after names in its box. -/
structure AskX (w : World) (b x : Nat) (ks : List (List UInt8)) : Prop where
  ex : ∃ q, w.heap[x]? = some (.cells #[.func (.func 72) #[] #[.pointer (some ⟨q, 0, none⟩)]] 37 (0, 0)) ∧ AskN w b q ks
theorem AskX.later {w w' : World} {b x : Nat} {ks : List (List UInt8)} (h : AskX w b x ks) (hb : Below w.heap.size w w') : AskX w' b x ks := by
  obtain ⟨p, h1, h2⟩ := h.ex
  exact ⟨p, heap_of h1 hb, h2.later hb⟩
theorem AskX.lt {w : World} {b x : Nat} {ks : List (List UInt8)} (h : AskX w b x ks) : b < w.heap.size := by
  obtain ⟨p, h1, h2⟩ := h.ex
  exact h2.lt.2
theorem AskX.ne {w : World} {b x : Nat} {ks : List (List UInt8)} (h : AskX w b x ks) {k : Nat} {cs : Array Value} {t : TypeId} {fr : Nat × Nat} (hk : w.heap[k]? = some (.cells cs t fr)) : k ≠ b := by
  obtain ⟨p, h1, h2⟩ := h.ex
  exact h2.ne hk
theorem AskX.beside {w w' : World} {b b' q : Nat} {ks : List (List UInt8)} (h : AskX w b q ks) (ho : Only (fun k => k = b') w w') (hb : b ≠ b') (hm : ∀ k cs t fr, w.heap[k]? = some (.cells cs t fr) → k ≠ b') : AskX w' b q ks := by
  obtain ⟨p, h1, h2⟩ := h.ex
  exact ⟨p, heap_only h1 ho (hm _ _ _ _ h1), h2.beside ho hb hm⟩
/-- What the question tells, asked through its box. -/
theorem AskX.ask {w : World} {b x : Nat} {ks : List (List UInt8)} (h : AskX w b x ks) (hk : ks.length ≤ 1000000) : ∃ q, w.cell? ⟨x, 0, none⟩ = some (.func (.func 72) #[] #[.pointer (some ⟨q, 0, none⟩)]) ∧ x < w.heap.size ∧
    ∀ (s : ByteArray) (w1 : World), Below w.heap.size w w1 → Calls Tryz.prog 72 #[.string s, .pointer (some ⟨q, 0, none⟩)] w1 fun e w' => e = .returned (.bool (isNm (bs s) && !decide (bs s ∈ ks))) ∧ (isNm (bs s) = true → AskX w' b x (ks ++ [bs s])) ∧ Only (fun k => k = b) w1 w' := by
  obtain ⟨q, h1, h2⟩ := h.ex
  refine ⟨q, cell_of_one h1, (Array.getElem?_eq_some_iff.1 h1).1, fun s w1 hb => ?_⟩
  refine (newName1_any s w1 b q ks (h2.later hb) hk).mono ?_
  rintro e w2 ⟨rfl, g1, g2⟩
  exact ⟨rfl, fun hn => ⟨q, heap_only (heap_of h1 hb) g2 ((h2.later hb).ne (heap_of h1 hb)), g1 hn⟩, g2⟩
theorem newNm_at {α : Type} (f : α → List UInt8) (l : List α) (k : Nat) (h : k < l.length) : newNm (l.map f) k = (isNm (f l[k]) && !decide (f l[k] ∈ (l.map f).take k)) := by simp [newNm, h]
theorem names_snoc {α : Type} (f : α → List UInt8) (l : List α) (k : Nat) (h : k < l.length) : (l.map f).take k ++ [f l[k]] = (l.map f).take (k + 1) := by
  have := take_snoc (l.map f) k (by simpa using h)
  rw [List.getElem_map] at this
  exact this

set_option maxHeartbeats 4000000 in
set_option maxRecDepth 100000 in
theorem col1_any (c : Col) (vs : List Value) (w : World) (x b : Nat) (ks : List (List UInt8)) (hR : ColR c vs) (h : AskX w b x ks) (hk : ks.length ≤ 1000000) :
    Calls Tryz.prog 125 #[.agg vs.toArray, .pointer (some ⟨x, 0, none⟩)] w fun e w' => e = .returned (.bool ((isNm (bs c.nm) && !decide (bs c.nm ∈ ks)) && typB c.ty)) ∧ (isNm (bs c.nm) = true → AskX w' b x (ks ++ [bs c.nm])) ∧ Only (fun k => k = b) w w' := by
  obtain rfl := hR
  have hbl := h.lt
  obtain ⟨q, c0, hx, hq⟩ := h.ask hk
  have HQ := Lib.hid hq
  clear hq h
  obtain ⟨g, hg⟩ : ∃ g, (isNm (bs c.nm) && !decide (bs c.nm ∈ ks)) = g := ⟨_, rfl⟩
  have HG := Lib.hid hg
  rw [hg]
  clear hg
  cases g with
  | false =>
    go_enter Tryz.func125, Tryz.ntmps125
    go_wp2_with (first | (go_at_call 72; refine (HQ.out c.nm _ (by (repeat (first | exact Below.refl _ _ | assumption | refine Below.drew ?_ | refine below_drewN ?_ _ | refine Below.alloc ?_ (by first | omega | (simp; done) | (simp; omega)) _ | refine Below.setCell ?_ (by first | omega | (simp; done) | (simp; omega)) _ | refine Below.trans ?_ (Below.mono (by assumption) (by first | omega | (simp; done) | (simp; omega))))))).mono ?_; rintro e w1 ⟨rfl, ha, hb⟩; rw [HG.out]))
    go_ret
    exact ⟨rfl, ha, ((Only.refl _ _).alloc _).trans hb⟩
  | true =>
    go_enter Tryz.func125, Tryz.ntmps125
    go_wp2_with (first
      | (go_at_call 72; refine (HQ.out c.nm _ (by (repeat (first | exact Below.refl _ _ | assumption | refine Below.drew ?_ | refine below_drewN ?_ _ | refine Below.alloc ?_ (by first | omega | (simp; done) | (simp; omega)) _ | refine Below.setCell ?_ (by first | omega | (simp; done) | (simp; omega)) _ | refine Below.trans ?_ (Below.mono (by assumption) (by first | omega | (simp; done) | (simp; omega))))))).mono ?_; rintro e w1 ⟨rfl, ha, hb⟩; rw [HG.out]; have hc1 : w1.cell? ⟨w.heap.size, 1, none⟩ = some (.int .i64 c.ty) := cell_at (hb.block w.heap.size (by simp) (by omega)) (by simp))
      | (go_at_call 126; refine (type_any _ _).mono ?_; rintro e w2 ⟨rfl, he⟩; rw [he]; clear he))
    go_ret
    exact ⟨ret_bool (by simp), ha, ((Only.refl _ _).alloc _).trans hb⟩

theorem mayCols_len {l : List Col} (h : ¬ (1 ≤ l.length ∧ l.length ≤ 16)) : mayCols l = false := by
  cases e : mayCols l with
  | false => rfl
  | true =>
    simp only [mayCols, Bool.and_eq_true, decide_eq_true_eq] at e
    exact absurd e.1 h

set_option maxHeartbeats 4000000 in
set_option maxRecDepth 100000 in
theorem columns_any (a : Option Addr) (cap : Nat) (l : List Col) (w : World) (hr : RowR 3 ColR w a l) :
    Calls Tryz.prog 74 #[.slice a l.length cap] w fun e w' => e = .returned (.bool (mayCols l)) ∧ Below w.heap.size w w' := by
  have HR := Lib.hid hr
  clear hr
  by_cases hl : 1 ≤ l.length ∧ l.length ≤ 16
  · have hl' : l.length ≤ 1000000 := by omega
    have hfr : fromB 1 16 (l.length : Int) = true := by simp [fromB]; omega
    have HE : Hid (mayCols l = allB l.length (fun i => newNm (l.map fun x => bs x.nm) i && (l[i]?).any fun c => typB c.ty)) := by
      show mayCols l = _
      simp [mayCols, hl]
    go_enter Tryz.func74, Tryz.ntmps74
    go_wp2_with fail
    refine (newName_any _).mono ?_
    rintro e w1 ⟨q, b, rfl, ha, hb, hB⟩
    have HB1 := Lib.hid hb
    have HA := Lib.hid ha
    have hs := hb.size
    clear ha hb
    go_wp2_with (first
      | (go_at_call 79; refine (from_any _ _ _ _).mono ?_; rintro e w' ⟨rfl, he⟩; rw [hfr, he]; clear he)
      | (go_at_call 124; refine (evCol_any w _ a cap l w1.heap.size (fun i => newNm (l.map fun x => bs x.nm) i && (l[i]?).any fun c => typB c.ty) (fun k wr => AskX wr b w1.heap.size ((l.map fun x => bs x.nm).take k)) hl' HR.out ?_ ?_ ?_ ?_).mono ?_))
    · exact ⟨q, heap_alloc_new w1 _, HA.out.later ((Below.refl _ _).alloc (Nat.le_refl _) _)⟩
    · exact below_two HB1.out ((Below.refl _ _).alloc (Nat.le_refl _) _)
    · exact fun k v1 v2 i2 hv => i2.later hv
    · intro k hk vs v1 hR i2 hv
      refine (col1_any l[k] vs v1 _ b _ hR i2 (by simp; omega)).mono ?_
      rintro e v2 ⟨rfl, g1, g2⟩
      have e1 : ((l[k]?).any fun c => typB c.ty) = typB l[k].ty := by simp [hk]
      have e2 := newNm_at (fun x : Col => bs x.nm) l k hk
      refine ⟨ret_bool (by rw [e1, e2]), fun h => ?_, below_only hv g2 (by omega)⟩
      rw [e2, Bool.and_eq_true, Bool.and_eq_true] at h
      rw [← names_snoc (fun x : Col => bs x.nm) l k hk]
      exact g1 h.1.1
    · rintro e w2 ⟨rfl, hb2⟩
      go_wp2
      go_ret
      exact ⟨ret_bool HE.out.symm, hb2⟩
  · have hfr : fromB 1 16 (l.length : Int) = false := fromB_no (a := 1) (b := 16) hl
    have HE : Hid (mayCols l = false) := mayCols_len hl
    clear hl
    go_enter Tryz.func74, Tryz.ntmps74
    go_wp2_with fail
    refine (newName_any _).mono ?_
    rintro e w1 ⟨q, b, rfl, ha, hb, hB⟩
    have hs := hb.size
    clear ha
    go_wp2_with (first | (go_at_call 79; refine (from_any _ _ _ _).mono ?_; rintro e w' ⟨rfl, he⟩; rw [hfr, he]; clear he))
    go_ret
    exact ⟨ret_bool HE.out.symm, by (repeat (first | exact Below.refl _ _ | assumption | refine Below.drew ?_ | refine below_drewN ?_ _ | refine Below.alloc ?_ (by first | omega | (simp; done) | (simp; omega)) _ | refine Below.setCell ?_ (by first | omega | (simp; done) | (simp; omega)) _ | refine Below.trans ?_ (Below.mono (by assumption) (by first | omega | (simp; done) | (simp; omega)))))⟩

set_option maxHeartbeats 4000000 in
set_option maxRecDepth 100000 in
theorem pm1_any (c : Pm) (vs : List Value) (w : World) (x b : Nat) (ks : List (List UInt8)) (hR : PmR c vs) (h : AskX w b x ks) (hk : ks.length ≤ 1000000) :
    Calls Tryz.prog 134 #[.agg vs.toArray, .pointer (some ⟨x, 0, none⟩)] w fun e w' => e = .returned (.bool ((isNm (bs c.nm) && !decide (bs c.nm ∈ ks)) && typB c.ty)) ∧ (isNm (bs c.nm) = true → AskX w' b x (ks ++ [bs c.nm])) ∧ Only (fun k => k = b) w w' := by
  obtain rfl := hR
  have hbl := h.lt
  obtain ⟨q, c0, hx, hq⟩ := h.ask hk
  have HQ := Lib.hid hq
  clear hq h
  obtain ⟨g, hg⟩ : ∃ g, (isNm (bs c.nm) && !decide (bs c.nm ∈ ks)) = g := ⟨_, rfl⟩
  have HG := Lib.hid hg
  rw [hg]
  clear hg
  cases g with
  | false =>
    go_enter Tryz.func134, Tryz.ntmps134
    go_wp2_with (first | (go_at_call 72; refine (HQ.out c.nm _ (by (repeat (first | exact Below.refl _ _ | assumption | refine Below.drew ?_ | refine below_drewN ?_ _ | refine Below.alloc ?_ (by first | omega | (simp; done) | (simp; omega)) _ | refine Below.setCell ?_ (by first | omega | (simp; done) | (simp; omega)) _ | refine Below.trans ?_ (Below.mono (by assumption) (by first | omega | (simp; done) | (simp; omega))))))).mono ?_; rintro e w1 ⟨rfl, ha, hb⟩; rw [HG.out]))
    go_ret
    exact ⟨rfl, ha, ((Only.refl _ _).alloc _).trans hb⟩
  | true =>
    go_enter Tryz.func134, Tryz.ntmps134
    go_wp2_with (first
      | (go_at_call 72; refine (HQ.out c.nm _ (by (repeat (first | exact Below.refl _ _ | assumption | refine Below.drew ?_ | refine below_drewN ?_ _ | refine Below.alloc ?_ (by first | omega | (simp; done) | (simp; omega)) _ | refine Below.setCell ?_ (by first | omega | (simp; done) | (simp; omega)) _ | refine Below.trans ?_ (Below.mono (by assumption) (by first | omega | (simp; done) | (simp; omega))))))).mono ?_; rintro e w1 ⟨rfl, ha, hb⟩; rw [HG.out]; have hc1 : w1.cell? ⟨w.heap.size, 1, none⟩ = some (.int .i64 c.ty) := cell_at (hb.block w.heap.size (by simp) (by omega)) (by simp))
      | (go_at_call 126; refine (type_any _ _).mono ?_; rintro e w2 ⟨rfl, he⟩; rw [he]; clear he))
    go_ret
    exact ⟨ret_bool (by simp), ha, ((Only.refl _ _).alloc _).trans hb⟩

theorem mayPms_len {l : List Pm} (h : ¬ (l.length ≤ 8)) : mayPms l = false := by
  cases e : mayPms l with
  | false => rfl
  | true =>
    simp only [mayPms, Bool.and_eq_true, decide_eq_true_eq] at e
    exact absurd e.1 h

set_option maxHeartbeats 4000000 in
set_option maxRecDepth 100000 in
theorem params_any (a : Option Addr) (cap : Nat) (l : List Pm) (w : World) (hr : RowR 2 PmR w a l) :
    Calls Tryz.prog 77 #[.slice a l.length cap] w fun e w' => e = .returned (.bool (mayPms l)) ∧ Below w.heap.size w w' := by
  have HR := Lib.hid hr
  clear hr
  by_cases hl : l.length ≤ 8
  · have hl' : l.length ≤ 1000000 := by omega
    have hfr : decide ((l.length : Int) ≤ 8) = true := decide_eq_true (by omega)
    have HE : Hid (mayPms l = allB l.length (fun i => newNm (l.map fun x => bs x.nm) i && (l[i]?).any fun c => typB c.ty)) := by
      show mayPms l = _
      simp [mayPms, hl]
    go_enter Tryz.func77, Tryz.ntmps77
    go_wp2_with fail
    refine (newName_any _).mono ?_
    rintro e w1 ⟨q, b, rfl, ha, hb, hB⟩
    have HB1 := Lib.hid hb
    have HA := Lib.hid ha
    have hs := hb.size
    clear ha hb
    go_wp2_with (first
      | fail
      | (go_at_call 133; refine (evPm_any w _ a cap l w1.heap.size (fun i => newNm (l.map fun x => bs x.nm) i && (l[i]?).any fun c => typB c.ty) (fun k wr => AskX wr b w1.heap.size ((l.map fun x => bs x.nm).take k)) hl' HR.out ?_ ?_ ?_ ?_).mono ?_))
    · exact ⟨q, heap_alloc_new w1 _, HA.out.later ((Below.refl _ _).alloc (Nat.le_refl _) _)⟩
    · exact below_two HB1.out ((Below.refl _ _).alloc (Nat.le_refl _) _)
    · exact fun k v1 v2 i2 hv => i2.later hv
    · intro k hk vs v1 hR i2 hv
      refine (pm1_any l[k] vs v1 _ b _ hR i2 (by simp; omega)).mono ?_
      rintro e v2 ⟨rfl, g1, g2⟩
      have e1 : ((l[k]?).any fun c => typB c.ty) = typB l[k].ty := by simp [hk]
      have e2 := newNm_at (fun x : Pm => bs x.nm) l k hk
      refine ⟨ret_bool (by rw [e1, e2]), fun h => ?_, below_only hv g2 (by omega)⟩
      rw [e2, Bool.and_eq_true, Bool.and_eq_true] at h
      rw [← names_snoc (fun x : Pm => bs x.nm) l k hk]
      exact g1 h.1.1
    · rintro e w2 ⟨rfl, hb2⟩
      go_wp2
      go_ret
      exact ⟨ret_bool HE.out.symm, hb2⟩
  · have hfr : decide ((l.length : Int) ≤ 8) = false := decide_eq_false (by omega)
    have HE : Hid (mayPms l = false) := mayPms_len hl
    clear hl
    go_enter Tryz.func77, Tryz.ntmps77
    go_wp2_with fail
    refine (newName_any _).mono ?_
    rintro e w1 ⟨q, b, rfl, ha, hb, hB⟩
    have hs := hb.size
    clear ha
    go_wp2_with (first | fail)
    go_ret
    exact ⟨ret_bool HE.out.symm, by (repeat (first | exact Below.refl _ _ | assumption | refine Below.drew ?_ | refine below_drewN ?_ _ | refine Below.alloc ?_ (by first | omega | (simp; done) | (simp; omega)) _ | refine Below.setCell ?_ (by first | omega | (simp; done) | (simp; omega)) _ | refine Below.trans ?_ (Below.mono (by assumption) (by first | omega | (simp; done) | (simp; omega)))))⟩

end Go.Proofs.YtkgkkcefnonejaaGreat
