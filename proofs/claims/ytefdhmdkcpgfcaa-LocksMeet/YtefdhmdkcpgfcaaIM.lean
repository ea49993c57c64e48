/- Walks of layer 19: slices.Delete; the program's Release; all that is asked of its locks. -/
import Derived.Test.YtefdhmdkcpgfcaaIL
namespace Go.Proofs.Ytefdhmdkcpgfcaa
open Go.RowKit
theorem zeroPp (w : World) : (zeroValue 68).run Try.prog w = .ok (.agg #[.int .i64 0, .slice none 0 0]) w := by kernel_rfl
theorem clear_pp (w : World) (ty : TypeId) (b o c : Nat) (hc : ∀ j, j < 2 → (w.cell? ⟨b, o + j, none⟩).isSome = true) (hf : ∀ j, j < 2 → w.frozen? ⟨b, o + j, none⟩ = false) :
    (Builtin.clear_ #[56] ty #[.slice (some ⟨b, o, none⟩) 1 c]).run Try.prog w = .ok (.tuple #[]) (w.setCells b o [.int .i64 0, .slice none 0 0]) := by
  have hst := run_storeCells_cells (P := Try.prog) b o [.int .i64 0, .slice none 0 0] 0 w (by simpa using hc) (by simpa using hf) (by intro v hv; simp at hv; rcases hv with rfl | rfl <;> rfl)
  simp only [Nat.add_zero] at hst
  have hz : (Builtin.zeroCells (Value.agg #[.int .i64 0, .slice none 0 0]).cells 1).toList = [.int .i64 0, .slice none 0 0] := by kernel_rfl
  simp [Builtin.clear_, run_underlying Try.underlying56, zeroPp w, hz, hst]

set_option maxHeartbeats 8000000 in
set_option maxRecDepth 100000 in
theorem delete19_any (w : World) (b cap n i : Nat) (F : List Value) (hrow : w.ownsRow 0 68 2 (.slice (some ⟨b, 0, none⟩) n cap) n F) (hin : i < n) (hl : n ≤ 2147483648) (hone1 : ∀ u ∈ F, u.oneCell' = true) :
    Calls Try.prog 43 #[.slice (some ⟨b, 0, none⟩) n cap, .int .i64 (i : Int), .int .i64 ((i : Int) + 1)] w fun e w' => e = .returned (.slice (some ⟨b, 0, none⟩) (n - 1) cap) ∧ w'.ownsRow 0 68 2 (.slice (some ⟨b, 0, none⟩) (n - 1) cap) (n - 1) (F.take (i * 2) ++ F.drop ((i + 1) * 2)) ∧ Only (fun k => k = b) w w' := by
  obtain ⟨i0, hi, hz0, hz1, hz2⟩ := info_parts Try.infoPp
  have hr := hrow
  have hF : F.length = n * 2 := hrow.1
  obtain ⟨_, ⟨_, h0⟩ | ⟨g, cap', cur, e, _, hg, hn, hm, hs, _⟩⟩ := hrow
  · omega
  simp only [Value.slice.injEq, Option.some.injEq, Addr.mk.injEq, and_true] at e
  obtain ⟨rfl, _, rfl⟩ := e
  have hnl : n ≤ cap := by omega
  obtain ⟨m, hm1⟩ : ∃ m, n - (i + 1) = m := ⟨_, rfl⟩
  have hn1 : n - 1 = i + m := by omega
  rw [hn1]
  obtain ⟨D, hD⟩ : ∃ D, F.drop ((i + 1) * 2) = D := ⟨_, rfl⟩
  have hel : D.length = m * 2 := by rw [← hD, List.length_drop]; omega
  have hone : Hid (∀ u ∈ D, u.oneCell' = true) := Lib.hid fun u hu => hone1 u (List.mem_of_mem_drop (hD ▸ hu))
  have hcell : ∀ t, t < n * 2 → w.cell? ⟨b, t, none⟩ = F[t]? := fun t ht => hr.cellAt t ht
  have hfz : ∀ o, w.frozen? ⟨b, o, none⟩ = false := fun o => hr.frozenAt o
  have hsome0 : ∀ t, t < cap * 2 → (w.cell? ⟨b, t, none⟩).isSome = true := fun t ht => by
    have : t < cur.size := by omega
    simp [World.cell?, hg, this]
  have hnews : Hid (∀ t u, D[t]? = some u → w.drew.cell? ⟨b, (i + 1) * 2 + t, none⟩ = some u) := Lib.hid fun t u hu => by
    have ht : t < m * 2 := by
      have := (List.getElem?_eq_some_iff.1 hu).1
      rwa [hel] at this
    show w.cell? ⟨b, (i + 1) * 2 + t, none⟩ = some u
    rw [hcell ((i + 1) * 2 + t) (by omega), ← List.getElem?_drop, hD]
    exact hu
  have hspare : Hid (∀ t, t < D.length → (w.drew.cell? ⟨b, 0 + i * 2 + t, none⟩).isSome = true ∧ w.drew.frozen? ⟨b, 0 + i * 2 + t, none⟩ = false) := Lib.hid fun t ht => by
    rw [hel] at ht
    exact ⟨hsome0 _ (by omega), hfz _⟩
  obtain ⟨W1, hW1⟩ : ∃ W1, W1 = w.drew.setCells b (0 + i * 2) D := ⟨_, rfl⟩
  have hW : Hid (W1 = w.drew.setCells b (0 + i * 2) D) := hW1
  obtain ⟨cur1, hg1, hs1⟩ := setCells_row b D (0 + i * 2) w.drew (cur := cur) (e := 68) (fr := (0, 0)) hg
  rw [← hW1] at hg1
  have hin1 : ∀ t, t < (i + m) * 2 → W1.cell? ⟨b, t, none⟩ = (F.take (i * 2) ++ D)[t]? := fun t ht => by
    rw [hW1]
    by_cases h : t < i * 2
    · rw [List.getElem?_append_left (by rw [List.length_take]; omega), List.getElem?_take_of_lt h, World.cell?_setCells_out b _ _ _ _ (fun _ _ => by simp only; omega)]
      exact hcell t (by omega)
    · have := World.cell?_setCells_in b D (0 + i * 2) w.drew (fun t ht => (hspare.out t ht).1) (t - i * 2) (by rw [hel]; omega)
      rw [show 0 + i * 2 + (t - i * 2) = t by omega] at this
      rw [this, List.getElem?_append_right (by rw [List.length_take]; omega), List.length_take, Nat.min_eq_left (by omega), List.getElem?_eq_getElem (by rw [hel]; omega)]
  have hfz1 : ∀ o, W1.frozen? ⟨b, o, none⟩ = false := fun o => by simp [World.frozen?, hg1]
  have hle1 : cur1.size = cap * 2 := by rw [hs1, hs]
  have hsome1 : ∀ t, t < cap * 2 → (W1.cell? ⟨b, t, none⟩).isSome = true := fun t ht => by
    have : t < cur1.size := by omega
    simp [World.cell?, hg1, this]
  have hcl : ∀ ty, (Builtin.clear_ #[56] ty #[.slice (some ⟨b, (i + m) * 2, none⟩) 1 (cap - (i + m))]).run Try.prog W1 = .ok (.tuple #[]) (W1.setCells b ((i + m) * 2) [.int .i64 0, .slice none 0 0]) := fun ty => clear_pp W1 ty b ((i + m) * 2) (cap - (i + m)) (fun t ht => hsome1 _ (by omega)) (fun t _ => hfz1 _)
  have hfin : Hid ((W1.setCells b ((i + m) * 2) [.int .i64 0, .slice none 0 0]).ownsRow 0 68 2 (.slice (some ⟨b, 0, none⟩) (i + m) cap) (i + m) (F.take (i * 2) ++ D) ∧ Only (fun k => k = b) w (W1.setCells b ((i + m) * 2) [.int .i64 0, .slice none 0 0])) := Lib.hid (by
    obtain ⟨cur2, hg2, hs2⟩ := setCells_row b [.int .i64 0, .slice none 0 0] ((i + m) * 2) W1 hg1
    refine ⟨own_of_cells (by rw [List.length_append, List.length_take, hel]; omega) hg2 (by omega) hm (by rw [hs2, hle1]) fun t ht => ?_, ?_⟩
    · rw [World.cell?_setCells_out b _ _ _ _ (fun _ _ => by simp only; omega)]
      exact hin1 t ht
    · have o1 : Only (fun k => k = b) w w.drew := (Only.refl _ _).drew
      have o2 := o1.grown (setCells_grown b D (0 + i * 2) w.drew) (fun k hk => by simpa using hk.symm)
      rw [← hW1] at o2
      exact o2.grown (setCells_grown b [.int .i64 0, .slice none 0 0] ((i + m) * 2) W1) (fun k hk => by simpa using hk.symm))
  have hlen : Hid (D.length = m * 2) := hel
  have hmlen : cap ≤ 9223372036854775807 := by unfold maxLen at hm; omega
  have hne : ¬ (i : Int) = (i : Int) + 1 := by omega
  have q1 : (i : Int) ≤ (n : Int) := by omega
  have q2 : (i : Int) + 1 ≤ (n : Int) := by omega
  have q3 : (n : Int) ≤ (cap : Int) := by omega
  have q4 : (i : Int) ≤ (i : Int) + 1 := by omega
  have q5 : (i : Int) ≤ (cap : Int) := by omega
  have q6 : (i : Int) + (m : Int) ≤ (n : Int) := by omega
  have q7 : n - (i + 1) = m := by omega
  have q8 : ¬ cap = i + m := by omega
  have q9 : i + m ≤ n := by omega
  have qb : i + 1 ≤ n := by omega
  have qc : n - (i + m) = 1 := by omega
  have qd : (0 : Int) ≤ (i : Int) + 1 := by omega
  have qe : (i : Int) + 1 ≤ (cap : Int) := by omega
  have qf : i + 1 ≤ cap := by omega
  clear hr hg hs hm hcell hfz hin1 hfz1 hsome1 hle1 hs1 hg1 hW1 hel hm1 hn hn1 hsome0 hone1 hF
  by_cases hcj : cap = i + 1
  · have hm0 : m = 0 := by omega
    have hnews0 : Hid (∀ t u, D[t]? = some u → w.drew.cell? ((⟨b, 0, none⟩ : Addr).add t) = some u) := Lib.hid fun t u hu => by
      have := (List.getElem?_eq_some_iff.1 hu).1
      rw [hlen.out, hm0] at this
      omega
    rw [hD]
    subst hcj hm0
    simp only [Nat.add_zero] at hcl hfin q8 q9
    have qg : n - i = 1 := by omega
    rw [show i + 1 - i = 1 by omega] at hcl
    clear hD hnews q7
    go_enter Try.func43, Try.ntmps43
    go_wp2_with fail
    go_region_law (refine step_append_room rfl (.tmp 22) (.tmp 25) 56 rfl 68 i0 2 Try.underlying56 hi hz1 b 0 i (i + 1) (by simp [Act.eval, Act.put]) ⟨b, 0, none⟩ 0 0 D (by simp [Act.eval, Act.put]) hlen.out hnews0.out hone.out (by omega) hspare.out ?_; rw [← hW.out])
    go_wp2
    go_ret
    exact ⟨by simp, hfin.out⟩
  · rw [hD]
    clear hD
    go_enter Try.func43, Try.ntmps43
    go_wp2_with fail
    go_region_law (refine step_append_room rfl (.tmp 22) (.tmp 25) 56 rfl 68 i0 2 Try.underlying56 hi hz1 b 0 i cap (by simp [Act.eval, Act.put]) ⟨b, (i + 1) * 2, none⟩ m (cap - (i + 1)) D (by simp [Act.eval, Act.put]) hlen.out (fun t u hu => by rw [Addr.add_lit]; exact hnews.out t u hu) hone.out (by omega) hspare.out ?_; rw [← hW.out])
    go_wp2
    go_ret
    exact ⟨by simp, hfin.out⟩

/-- The table behind a Release that was taken. -/
theorem PT9.cut {w w1 w3 : World} {B : Nat} {Z : Nat → Prop} {t : Nat} {T : Tb9} (h : PT9 w B Z t T) {g n cap : Nat} {xs : List Value} (hbox : w.heap[t]? = some (.cells #[.slice (some ⟨g, 0, none⟩) n cap, .int .i64 T.last] 58 (0, 0))) (q3 : w.ownsRow 0 68 2 (.slice (some ⟨g, 0, none⟩) n cap) n xs) (hgz : Z g) (hb : Below w.heap.size w w1) (ho : Only (fun k => k = g) w1 w3) {qs : List (Pl9 × List Value)} (q2 : ∀ p ∈ qs, PlO w Z p.1 p.2 ∧ p.2.length = 2) (hown : w3.ownsRow 0 68 2 (.slice (some ⟨g, 0, none⟩) qs.length cap) qs.length (qs.flatMap (·.2))) : PP9 PT9 w B Z t ⟨qs.map (·.1), T.last⟩ (w3.setCell ⟨t, 0, none⟩ (.slice (some ⟨g, 0, none⟩) qs.length cap)) := by
  have hs1 := hb.size
  have hs3 := ho.size
  have htl := (h.lies t h.tz).2
  have hgt : t ≠ g := fun e => prow_off q3 hbox (by rw [e]; rfl)
  have hlow : ∀ k, k < w.heap.size → k ≠ g → w3.heap[k]? = w.heap[k]? := fun k hk hn => (ho.block k (by omega) hn).trans (hb.block k hk)
  have ht3 := (hlow t htl hgt).trans hbox
  obtain ⟨W, hW⟩ : ∃ W, w3.setCell ⟨t, 0, none⟩ (.slice (some ⟨g, 0, none⟩) qs.length cap) = W := ⟨_, rfl⟩
  have hWo : ∀ k, k ≠ t → W.heap[k]? = w3.heap[k]? := fun k hk => by
    rw [← hW]
    exact Below.heap_setCell _ _ _ _ fun e => hk e
  have hWt : W.heap[t]? = some (.cells #[.slice (some ⟨g, 0, none⟩) qs.length cap, .int .i64 T.last] 58 (0, 0)) := by
    rw [← hW]
    have := heap_setCell_at ht3 (.slice (some ⟨g, 0, none⟩) qs.length cap) (i := 0)
    simpa using this
  have hWs : W.heap.size = w3.heap.size := by rw [← hW]; simp [World.setCell]
  have hWos : W.os = w.os ∧ W.tape = w.tape ∧ W.output = w.output := by
    rw [← hW]
    exact ⟨ho.os.trans hb.os, ho.tape.trans hb.tape, ho.output.trans hb.output⟩
  rw [hW]
  have hlock : ∀ (k : Nat) (cur : Array Value), w.heap[k]? = some (.cells cur 23 (0, 0)) → W.heap[k]? = w.heap[k]? := fun k cur hc => by
    have hk := (Array.getElem?_eq_some_iff.1 hc).1
    refine (hWo k fun e => ?_).trans (hlow k hk fun e => ?_)
    · rw [e, hbox] at hc
      simp only [Option.some.injEq, Obj.cells.injEq] at hc
      exact absurd hc.2.1 (by decide)
    · obtain ⟨cur', hc'⟩ := own_block q3 (g := g) rfl
      rw [e, hc'] at hc
      simp only [Option.some.injEq, Obj.cells.injEq] at hc
      exact absurd hc.2.1 (by decide)
  refine ⟨⟨hWos.1, hWos.2.1, hWos.2.2, by omega, fun k hk hz => (hWo k fun e => hz (e ▸ h.tz)).trans (hlow k hk fun e => hz (e ▸ hgz))⟩, Z, ⟨⟨_, hWt, ⟨qs, rfl, fun p hp => ⟨(q2 p hp).1.elim fun v hv => PlO.keepL hlock (fun _ hk => hk) _ _ ⟨v, hv⟩, (q2 p hp).2⟩, ?_⟩, fun k hk => ?_⟩, fun k hk => ⟨(h.lies k hk).1, by have := (h.lies k hk).2; omega⟩, h.tz⟩, fun _ hk => Or.inl hk⟩
  · have := own_kept hown (w' := W) fun k hk => hWo k (by
      have e : g = k := by simpa [Value.ownBlock] using hk
      omega)
    simpa using this
  · have e : g = k := by simpa [Value.ownBlock] using hk
    exact e ▸ hgz

set_option maxHeartbeats 8000000 in
set_option maxRecDepth 100000 in
theorem prelease_any (T : Tb9) (t B : Nat) (Z : Nat → Prop) (pos : Int) (w : World) (h : PT9 w B Z t T) (hs : Sz9 T) : Calls Try.prog 25 #[.pointer (some ⟨t, 0, none⟩), .int .i64 pos] w fun e w' => e = .returned (.int .i64 (freeE T pos)) ∧ PP9 PT9 w B Z t (freeT T pos) w' := by
  have HD := Lib.hid h
  have HF := Lib.hid (find19_any T t B Z pos w h hs)
  cases hat : atI T pos with
  | none =>
    have HE : Hid (freeE T pos = 1) := Lib.hid (freeE_no (by unfold isGr; rw [hat]))
    have HT : Hid (freeT T pos = T) := Lib.hid (freeT_none hat)
    unfold FindI at HF
    rw [hat] at HF
    rw [HE.out, HT.out]
    clear h hs hat
    go_enter Try.func25, Try.ntmps25
    go_wp2_with (first | (go_at_call 42; refine HF.out.mono ?_; rintro e w1 ⟨⟨j, hj, rfl, hi⟩, hb⟩; (have HB := Lib.hid hb); clear hi hb))
    go_ret
    exact ⟨rfl, HD.out.same9 HB.out⟩
  | some i =>
    obtain ⟨hi, _⟩ := atI_lt hat
    have HAT := Lib.hid hat
    unfold FindI at HF
    rw [hat] at HF
    obtain ⟨v0, hbox, ⟨qs, q1, q2, q3⟩, q4⟩ := h.tb
    have hql : qs.length = T.ps.length := by rw [← q1, List.length_map]
    obtain ⟨g, cap, rfl, _, hgl⟩ := q3.form (by omega)
    have hrow : RowR 2 (PlR w) w (some ⟨g, 0, none⟩) T.ps := OwnR.row ⟨qs, q1, q2, q3⟩ PlO.reads
    have hzt : t < w.heap.size := (Array.getElem?_eq_some_iff.1 hbox).1
    have c0 := (two_of hbox).1.1
    have hpl := place_at hrow hi
    obtain ⟨b, off, qk, ck, e, p0, p1, hrk⟩ := hpl
    simp only [Option.some.injEq, Addr.mk.injEq, and_true] at e
    obtain ⟨rfl, rfl⟩ := e
    rw [Nat.zero_add] at p0 p1
    have HG := Lib.hid (fun (W : World) (hb : Below w.heap.size w W) => granted1_any T t B Z i qk ck W (h.later hb) hs hi (hrk.later hb fun _ _ h => h))
    obtain ⟨x, hx⟩ : ∃ x, T.ps[i] = x := ⟨_, rfl⟩
    rw [hx] at p0 p1 HG
    have HC := Lib.hid (And.intro c0 (And.intro p0 p1))
    have hlti : (i : Int) < (T.ps.length : Int) := by omega
    have hps := hs.ps
    have HBX := Lib.hid hbox
    have HQ := Lib.hid (And.intro q1 (And.intro q2 (And.intro q3 q4)))
    clear h hs hat hbox hrow hrk hx c0 p0 p1 q1 q2 q4
    cases hm : grntI T i with
    | false =>
      have HE : Hid (freeE T pos = 1) := Lib.hid (freeE_no (by unfold isGr; rw [HAT.out]; exact hm))
      have HT : Hid (freeT T pos = T) := Lib.hid (freeT_no HAT.out hm)
      rw [hm] at HG
      rw [HE.out, HT.out]
      clear hm q3
      go_enter Try.func25, Try.ntmps25
      go_wp2_with (first
        | (go_at_call 42; refine HF.out.mono ?_; rintro e w1 ⟨⟨j, hj, rfl, hj2⟩, hb⟩; (have hij := hj2 i rfl); subst hij; (have HB := Lib.hid hb); (have d0 := cell_later hb HC.out.1); (have d1 := cell_later hb HC.out.2.1); (have d2 := cell_later hb HC.out.2.2); clear hj2 hb)
        | (go_at_call 40; refine (HG.out _ HB.out).mono ?_; rintro e w2 ⟨rfl, hb2⟩; (have HB2 := Lib.hid (HB.out.trans (hb2.mono HB.out.size))); clear hb2))
      go_ret
      exact ⟨rfl, HD.out.same9 HB2.out⟩
    | true =>
      have HE : Hid (freeE T pos = 0) := Lib.hid (freeE_yes (by unfold isGr; rw [HAT.out]; exact hm))
      have HT : Hid (freeT T pos = ⟨T.ps.take i ++ T.ps.drop (i + 1), T.last⟩) := Lib.hid (freeT_yes HAT.out hm)
      have HL := Lib.hid (fun p hp => (HQ.out.2.1 p hp).2)
      have HDE := Lib.hid (fun (W : World) (hb : Below w.heap.size w W) => delete19_any W g cap T.ps.length i (qs.flatMap (·.2)) (own_later q3 hb) hi (by omega) fun u hu => by
        obtain ⟨p, hp, hu⟩ := List.mem_flatMap.1 hu
        exact plC_one (HQ.out.2.1 p hp).1 u hu)
      have e1 : IntKind.i64.wrap ((i : Int) + 1) = (i : Int) + 1 := by rw [IntKind.wrap_i64]; omega
      have hgt : t ≠ g := fun e => prow_off q3 HBX.out (by rw [e]; rfl)
      rw [hm] at HG
      rw [HE.out, HT.out]
      clear hm
      go_enter Try.func25, Try.ntmps25
      go_wp2_with (first
        | (go_at_call 42; refine HF.out.mono ?_; rintro e w1 ⟨⟨j, hj, rfl, hj2⟩, hb⟩; (have hij := hj2 i rfl); subst hij; (have HB := Lib.hid hb); (have d0 := cell_later hb HC.out.1); (have d1 := cell_later hb HC.out.2.1); (have d2 := cell_later hb HC.out.2.2); clear hj2 hb)
        | (go_at_call 40; refine (HG.out _ HB.out).mono ?_; rintro e w2 ⟨rfl, hb2⟩; (have HB2 := Lib.hid (HB.out.trans (hb2.mono HB.out.size))); (have z2 := two_of ((HB2.out.block t hzt).trans HBX.out)); (have hs2 := HB2.out.size); clear hb2)
        | (go_at_call 43; refine (HDE.out _ HB2.out).mono ?_; rintro e w3 ⟨rfl, hown3, ho3⟩; (have z3 := two_of ((ho3.block t (by omega) hgt).trans ((HB2.out.block t hzt).trans HBX.out))); (have HX3 := Lib.hid (And.intro hown3 ho3)); clear hown3 ho3))
      go_ret
      refine ⟨rfl, ?_⟩
      have hlen : (qs.take i ++ qs.drop (i + 1)).length = T.ps.length - 1 := by rw [List.length_append, List.length_take, List.length_drop, hql]; omega
      have hc := HD.out.cut (qs := qs.take i ++ qs.drop (i + 1)) HBX.out q3 (HQ.out.2.2.2 g rfl) HB2.out HX3.out.2 (fun p hp => HQ.out.2.1 p (by
        rcases List.mem_append.1 hp with hp | hp
        · exact List.mem_of_mem_take hp
        · exact List.mem_of_mem_drop hp)) (by
        rw [hlen, List.flatMap_append, flat_take2 HL.out, flat_drop2 HL.out]
        exact HX3.out.1)
      rw [hlen, List.map_append, List.map_take, List.map_drop, HQ.out.1] at hc
      exact hc

/-- The program's locks are what is asked of them. -/
theorem locks_is : LocksIs PT9 where
  kept h _ ho hy := h.kept ho hy
  lies h := h.lies
  right l w _ _ := right_any l w
  conflict a b w _ _ _ _ := conflict_any a b w
  new w := pnew_any w
  ask T t B Z pos p cap l w h hs hn _ _ hr hl := pask_any T t B Z pos p cap l w h hs hn hr hl
  held T t B Z w h hs := pheld_any T t B Z w h hs
  ready T t B Z w h hs := pready_any T t B Z w h hs
  granted T t B Z pos w h hs _ _ := pgranted_any T t B Z pos w h hs
  waits T t B Z pos w h hs _ _ := pwaits_any T t B Z pos w h hs
  locks T t B Z pos w h hs _ _ := plocks_any T t B Z pos w h hs
  release T t B Z pos w h hs _ _ := prelease_any T t B Z pos w h hs
end Go.Proofs.Ytefdhmdkcpgfcaa
