/- A law for copy between slices whose elements are of several cells. -/
import Derived.Laws.IdiomCopy
import Derived.Laws.CopyOwn
import Derived.OwnWalk
import Derived.Test.YtlpannicklkghaaB31
import Derived.Test.YtlpannicklkghaaB29
import Derived.Test.YtlpannicklkghaaM94
import Derived.Test.YtlpannicklkghaaB47
import Derived.Test.YtlpannicklkghaaM92
import Derived.Test.YtlpannicklkghaaB26
import Derived.Test.YtlpannicklkghaaB27
namespace Go.Proofs.Ytlpannicklkghaa
open Go Go.RowKit

theorem run_copy_wide {P : Program} (w : World) (dT sT ty elem : TypeId) (b o dLen dCap : Nat) (a : Option Addr) (sLen sCap size : Nat) (cs : List Value)
    (hu : P.underlying dT = some (.slice elem)) (hs : (P.info? elem).map (·.size) = some size) (hle : sLen ≤ dLen) (hn : cs.length = sLen * size)
    (hsrc : 0 < cs.length → ∃ ad, a = some ad ∧ ∀ j v, cs[j]? = some v → w.cell? (ad.add j) = some v) (hc : ∀ j, j < cs.length → (w.cell? ⟨b, o + j, none⟩).isSome = true) (hf : ∀ j, j < cs.length → w.frozen? ⟨b, o + j, none⟩ = false) (h1 : ∀ v ∈ cs, v.oneCell' = true) :
    (Builtin.copy_ #[dT, sT] ty #[.slice (some ⟨b, o, none⟩) dLen dCap, .slice a sLen sCap]).run P w = .ok (goInt sLen) (w.setCells b o cs) := by
  have hst := run_storeCells_cells (P := P) b o cs 0 w (by simpa using hc) (by simpa using hf) h1
  have hmin : Nat.min sLen dLen = sLen := Nat.min_eq_left hle
  cases hq : P.info? elem with
  | none => simp [hq] at hs
  | some i =>
    have hi : i.size = size := by simpa [hq] using hs
    by_cases h0 : cs.length = 0
    · obtain rfl : cs = [] := List.eq_nil_of_length_eq_zero h0
      have hz : sLen * size = 0 := by simpa using hn.symm
      have hl : ∀ (x : Addr), (loadCells x 0).run P w = .ok #[] w := fun x => by simpa using run_loadCells_list (P := P) w x [] (by simp)
      cases a <;> simp [Builtin.copy_, run_underlying hu, Builtin.lenOf, Builtin.firstCells, sizeOf, typeInfo, hq, hi, hmin, hz, storeCells, hl, World.setCells]
    · obtain ⟨ad, rfl, hcell⟩ := hsrc (by omega)
      have hl := run_loadCells_list (P := P) w ad cs hcell
      rw [hn] at hl
      simp [Builtin.copy_, run_underlying hu, Builtin.lenOf, Builtin.firstCells, sizeOf, typeInfo, hq, hi, hmin, hl, hst]

theorem wpList_copy_wide {P : Program} {w : World} {ops : Array Oper} {rest : List Oper} {o : Oper} {a : Act} {Q : Exit → Act → World → Prop} (hgd : o.guard = none) (d s : Operand) (dT sT : TypeId)
    (ho : o.op = .call { callee := .builtin .copy, args := #[d, s], argTypes := #[dT, sT] }) (elem : TypeId) (size : Nat) (hu : P.underlying dT = some (.slice elem)) (hsz : (P.info? elem).map (·.size) = some size)
    (b off dLen dCap : Nat) (sp : Option Addr) (sLen sCap : Nat) (hd : a.eval d = .slice (some ⟨b, off, none⟩) dLen dCap) (hs : a.eval s = .slice sp sLen sCap) (cs : List Value) (hle : sLen ≤ dLen) (hn : cs.length = sLen * size)
    (hsrc : 0 < cs.length → ∃ ad, sp = some ad ∧ ∀ j v, cs[j]? = some v → w.cell? (ad.add j) = some v) (hc : ∀ j, j < cs.length → (w.cell? ⟨b, off + j, none⟩).isSome = true) (hf : ∀ j, j < cs.length → w.frozen? ⟨b, off + j, none⟩ = false) (h1 : ∀ v ∈ cs, v.oneCell' = true)
    (h : ∀ w', w' = w.setCells b off cs → wpList P ops Q rest (a.put o.dst (goInt sLen)) w') : wpList P ops Q (o :: rest) a w := by
  refine wpList_plain hgd fun K hK => ?_
  have hrun := run_copy_wide (P := P) w dT sT o.type elem b off dLen dCap sp sLen sCap size cs hu hsz hle hn hsrc hc hf h1
  unfold Oper.wp
  simp [execOp, ho, resolve, invoke, builtin, hd, hs, hrun, Result.andThen]
  exact hK _ _ (h _ rfl)
end Go.Proofs.Ytlpannicklkghaa
/- Walks of layer 7: the document's tree, New. -/
namespace Go.Proofs.Ytlpannicklkghaa
open Go.RowKit

/-- The document's tree in memory. -/
structure RtAt (w : World) (B : Nat) (r m : Nat) (v : Value) (l : List It) : Prop where
  cells : w.heap[r]? = some (.cells #[.int .i64 (m : Int), v] 46 (0, 0))
  row : w.ownsRow B 27 2 v l.length (pc l)
  le : B ≤ r
theorem RtAt.lt {w : World} {B r m : Nat} {v : Value} {l : List It} (h : RtAt w B r m v l) : r < w.heap.size := (Array.getElem?_eq_some_iff.1 h.cells).1
theorem RtAt.kept {w w' : World} {B r m : Nat} {v : Value} {l : List It} (h : RtAt w B r m v l) (hr : w'.heap[r]? = w.heap[r]?) (hk : ∀ k, v.ownBlock = some k → w'.heap[k]? = w.heap[k]?) : RtAt w' B r m v l := ⟨hr.trans h.cells, own_kept h.row hk, h.le⟩
theorem RtAt.later {w w' : World} {B r m : Nat} {v : Value} {l : List It} (h : RtAt w B r m v l) (hb : Below w.heap.size w w') : RtAt w' B r m v l := h.kept (hb.block _ h.lt) fun k hk => hb.block _ (h.row.lt k hk).2
/-- The cells of pairs that came in. -/
theorem PRow.cells {w : World} {p : Option Addr} {l : List Pr} (h : PRow w p l) : 0 < (pc (l.map itOf)).length → ∃ ad, p = some ad ∧ ∀ j v, (pc (l.map itOf))[j]? = some v → w.cell? (ad.add j) = some v := by
  intro h0
  rw [pc_length, List.length_map] at h0
  obtain ⟨b, off, e, _, _⟩ := h 0 (by omega)
  refine ⟨_, e, fun j v hj => ?_⟩
  have hadd : (⟨b, off, none⟩ : Addr).add j = ⟨b, off + j, none⟩ := by unfold Addr.add; split <;> simp_all
  have hlt := (List.getElem?_eq_some_iff.1 hj).1
  rw [pc_length, List.length_map] at hlt
  have hi : j / 2 < l.length := by omega
  obtain ⟨b', off', e', c0, c1⟩ := h (j / 2) hi
  rw [e] at e'
  simp only [Option.some.injEq, Addr.mk.injEq, and_true] at e'
  obtain ⟨rfl, rfl⟩ := e'
  obtain ⟨p0, p1⟩ := pc_at (l.map itOf) (j / 2) (by rw [List.length_map]; exact hi)
  rw [List.getElem_map] at p0 p1
  rw [hadd]
  rcases Nat.mod_two_eq_zero_or_one j with hm | hm
  · have ej : j / 2 * 2 = j := by omega
    rw [ej] at p0 c0
    rw [p0] at hj
    rw [c0, ← hj]
    rfl
  · have ej : j / 2 * 2 + 1 = j := by omega
    rw [ej] at p1
    rw [Nat.add_assoc, ej] at c1
    rw [p1] at hj
    rw [c1, ← hj]
    rfl
theorem geq_kl (x y : ByteArray) : (Op.bytesLess y.toList x.toList || x.toList == y.toList) = !(kl x y) := by
  rw [← leq_kl x y]
  congr 1
  rw [Bool.eq_iff_iff, beq_iff_eq, beq_iff_eq]
  exact eq_comm
/-- What was made, and copied over whole. -/
theorem copied_row {w w' : World} {B g n : Nat} {zs cs : List Value} {e : TypeId} {size : Nat} (ho : w.ownsRow B e size (.slice (some ⟨g, 0, none⟩) n n) n zs) (hc : cs.length = n * size) (hw : w' = w.setCells g 0 cs) : w'.ownsRow B e size (.slice (some ⟨g, 0, none⟩) n n) n cs := by
  obtain ⟨h1, ⟨h2, _⟩ | ⟨g', cap, cur, e', hB, hg, hn, hm, hs, _⟩⟩ := ho
  · cases h2
  · simp only [Value.slice.injEq, Option.some.injEq, Addr.mk.injEq, and_true, true_and] at e'
    obtain ⟨rfl, rfl⟩ := e'
    obtain ⟨cur', hg', hs'⟩ := setCells_row g cs 0 w hg
    rw [← hw] at hg'
    have hin : ∀ j, j < cs.length → (w.cell? ⟨g, 0 + j, none⟩).isSome = true := fun j hj => by
      simp only [World.cell?, hg, Nat.zero_add]
      rw [hc, ← hs] at hj
      simp [hj]
    have h := own_cells (w := w') (e := e) (size := size) hc hg' (Nat.le_refl n) hm (by rw [hs', hs]) fun j hj => by
      have h2 := World.cell?_setCells_in g cs 0 w hin j (by omega)
      rw [Nat.zero_add] at h2
      rw [hw, h2, List.getElem?_eq_getElem (by omega)]
    obtain ⟨q1, ⟨q2, _⟩ | ⟨g', cap, cur, e', _, q⟩⟩ := h
    · cases q2
    · exact ⟨q1, Or.inr ⟨g', cap, cur, e', by
        simp only [Value.slice.injEq, Option.some.injEq, Addr.mk.injEq, and_true] at e'
        rw [← e'.1]; exact hB, q⟩⟩
theorem row_room {w : World} {B g n : Nat} {zs : List Value} {e : TypeId} {size : Nat} (ho : w.ownsRow B e size (.slice (some ⟨g, 0, none⟩) n n) n zs) : (∀ j, j < n * size → (w.cell? ⟨g, 0 + j, none⟩).isSome = true) ∧ ∀ o, w.frozen? ⟨g, o, none⟩ = false := by
  refine ⟨fun j hj => ?_, fun o => ho.frozenAt o⟩
  rw [Nat.zero_add, ho.cellAt j hj, List.getElem?_eq_getElem (by rw [ho.1]; exact hj)]
  rfl
end Go.Proofs.Ytlpannicklkghaa
/- Walks of layer 7: the document's New. -/
namespace Go.Proofs.Ytlpannicklkghaa
open Go.RowKit

set_option maxHeartbeats 2000000 in
set_option maxRecDepth 100000 in
theorem rnew_bad (w : World) (m : Int) (v : Value) (hm : m < 4 ∨ 64 < m) : Calls Try.prog 12 #[.int .i64 m, v] w fun e w' => e = .returned (.tuple #[.pointer none, .int .i64 70]) ∧ w' = w := by
  by_cases h1 : m < 4
  · go_enter Try.func12, Try.ntmps12
    go_wp2
    refine bodyPost_ret (v := .tuple #[.pointer none, .int .i64 70]) (by simp [results, Try.results12, go_sem]) rfl ?_
    exact ⟨rfl, rfl⟩
  · have h2 : (64 : Int) < m := by omega
    go_enter Try.func12, Try.ntmps12
    go_wp2
    refine bodyPost_ret (v := .tuple #[.pointer none, .int .i64 70]) (by simp [results, Try.results12, go_sem]) rfl ?_
    exact ⟨rfl, rfl⟩
/-- What the document's New leaves. -/
def RNewP (w : World) (m : Nat) (l : List Pr) (e : Ending) (w' : World) : Prop :=
  Below w.heap.size w w' ∧ (risB l = false → e = .returned (.tuple #[.pointer none, .int .i64 71])) ∧ (risB l = true → ∃ r v, e = .returned (.tuple #[.pointer (some ⟨r, 0, none⟩), .int .i64 0]) ∧ RtAt w' w.heap.size r m v (l.map itOf))

set_option maxHeartbeats 8000000 in
set_option maxRecDepth 100000 in
theorem rnew_any (w : World) (m : Nat) (p : Option Addr) (cap : Nat) (l : List Pr) (hm : 4 ≤ m) (hm2 : m ≤ 64) (hr : PRow w p l) (hl : l.length ≤ 4000000000) :
    Calls Try.prog 12 #[.int .i64 (m : Int), .slice p l.length cap] w (RNewP w m l) := by
  obtain ⟨i0, hi, hz0, hz1, hz2⟩ := info_parts Try.infoPair
  have HR : Hid (PRow w p l) := hr
  clear hr
  have h1 : ¬ (m : Int) < 4 := by omega
  have h2 : ¬ (64 : Int) < (m : Int) := by omega
  go_enter Try.func12, Try.ntmps12
  go_wp2
  go_loopw [6] (fun i wr => ∃ j : Nat, i = .int .i64 ((j : Int) + 1) ∧ (j + 1 ≤ l.length ∨ j = 0) ∧ (∀ q (h : q + 1 < l.length), q < j → kl (l[q]).1 (l[q + 1]).1 = true) ∧ Below w.heap.size w wr) (fun i _ => l.length + 1 - (intOf i).toNat)
  case atStart => exact ⟨0, rfl, Or.inr rfl, fun q _ h => absurd h (Nat.not_lt_zero _), Below.refl _ _⟩
  case round =>
    obtain ⟨j, rfl, hj, hall, hb⟩ := hrel
    have HA : Hid (∀ q (h : q + 1 < l.length), q < j → kl (l[q]).1 (l[q + 1]).1 = true) := hall
    have HB : Hid (Below w.heap.size w wr) := hb
    have hbs := hb.size
    clear hall hb
    by_cases hlt : j + 1 < l.length
    · have hlti : (j : Int) + 1 < (l.length : Int) := by omega
      have hlt0 : (j : Int) < (l.length : Int) := by omega
      obtain ⟨b, off, rfl, h1, _⟩ := (HR.out.later HB.out) (j + 1) hlt
      obtain ⟨b', off', e', h0, _⟩ := (HR.out.later HB.out) j (by omega)
      simp only [Option.some.injEq, Addr.mk.injEq, and_true] at e'
      obtain ⟨rfl, rfl⟩ := e'
      obtain ⟨x, hx⟩ : ∃ x, (l[j]).1 = x := ⟨_, rfl⟩
      obtain ⟨y, hy⟩ : ∃ y, (l[j + 1]).1 = y := ⟨_, rfl⟩
      rw [hx] at h0
      rw [hy] at h1
      have HXY : Hid (∀ (h0 : j < l.length) (h1 : j + 1 < l.length), (l[j]).1 = x ∧ (l[j + 1]).1 = y) := fun _ _ => ⟨hx, hy⟩
      clear hx hy
      go_wp2
      go_quiet (fail)
      obtain ⟨c, hc⟩ : ∃ c, Op.bytesLess x.toList y.toList = c := ⟨_, rfl⟩
      rw [hc]
      have HC : Hid (kl x y = c) := hc
      clear hc
      cases c with
      | false =>
        go_wp2
        refine bodyPost_ret (v := .tuple #[.pointer none, .int .i64 71]) (by simp [results, Try.results12, go_sem]) rfl ?_
        have hn : risB l = false := by
          cases h : risB l with
          | false => rfl
          | true =>
            have h1 := (risB_iff l).1 h j hlt
            rw [(HXY.out (by omega) hlt).1, (HXY.out (by omega) hlt).2, HC.out] at h1
            cases h1
        exact ⟨below_drewN HB.out _, fun _ => rfl, fun h => by rw [hn] at h; cases h⟩
      | true =>
        go_wp2
        refine ⟨⟨j + 1, by go_num, Or.inl (by omega), fun q hq hq2 => ?_, below_drewN HB.out _⟩, by simp only [intOf]; omega⟩
        by_cases e : q = j
        · subst e
          rw [(HXY.out (by omega) hlt).1, (HXY.out (by omega) hlt).2]
          exact HC.out
        · exact HA.out q hq (by omega)
    · have hlti : ¬ (j : Int) + 1 < (l.length : Int) := by omega
      have HRS : Hid (risB l = true) := (risB_iff l).2 fun q hq => HA.out q hq (by omega)
      have HR1 : Hid (PRow wr p l) := HR.out.later HB.out
      clear HA HR
      go_wp2_with (first | (at_make; refine wpList_make_full _ rfl _ _ 22 rfl wr.heap.size 27 i0 _ 2 Try.underlying22 hi hz0 hz1 .i64 .i64 _ _ l.length rfl rfl (by omega) (by omega) (by rw [hz2]; omega) (by unfold maxLen; omega) (Nat.le_refl _) ?_; intro w1 hown hgrow; (have hb1 : Below wr.heap.size wr w1 := (Below.refl _ _).grown hgrow (Nat.le_refl _) (fun k h => by cases h)); (have HO1 : Hid (w1.ownsRow wr.heap.size 27 2 (.slice (some ⟨wr.heap.size, 0, none⟩) l.length l.length) l.length (madeCells #[.string ⟨#[]⟩, .string ⟨#[]⟩] (l.length * 2)).toList) := hown); (have HB1 : Hid (Below wr.heap.size wr w1) := hb1); clear hown hgrow hb1) | (refine wpList_copy_wide rfl (.tmp 41) (.tmp 42) 22 22 rfl 27 2 Try.underlying22 (by rw [hi]; simp [hz1]) wr.heap.size 0 l.length l.length p l.length cap rfl rfl (pc (l.map itOf)) (Nat.le_refl _) (by rw [pc_length, List.length_map]) ((HR1.out.later (HB1.out.alloc HB1.out.size _)).cells) (fun j hj => (row_room (HO1.out.alloc _)).1 j (by rw [pc_length, List.length_map] at hj; exact hj)) (fun j _ => (row_room (HO1.out.alloc _)).2 _) (pc_one _) ?_; intro w4 hw4; (have HW4 : Hid (w4 = (w1.alloc (Obj.cells #[.int .i64 (m : Int), .slice (some ⟨wr.heap.size, 0, none⟩) l.length l.length] 46)).setCells wr.heap.size 0 (pc (l.map itOf))) := hw4); clear hw4))
      refine bodyPost_ret (v := .tuple #[.pointer (some ⟨w1.heap.size, 0, none⟩), .int .i64 0]) (by simp [results, Try.results12, go_sem]) rfl ?_
      have hlt1 : wr.heap.size < w1.heap.size := (HO1.out.lt _ rfl).2
      have hs1 := HB1.out.size
      have hbw : Below w.heap.size w (w1.alloc (Obj.cells #[.int .i64 (m : Int), .slice (some ⟨wr.heap.size, 0, none⟩) l.length l.length] 46)) := (HB.out.trans (HB1.out.mono hbs)).alloc (by omega) _
      have hg := setCells_grown wr.heap.size (pc (l.map itOf)) 0 (w1.alloc (Obj.cells #[.int .i64 (m : Int), .slice (some ⟨wr.heap.size, 0, none⟩) l.length l.length] 46))
      have hrow : w4.ownsRow wr.heap.size 27 2 (.slice (some ⟨wr.heap.size, 0, none⟩) l.length l.length) l.length (pc (l.map itOf)) := copied_row (HO1.out.alloc _) (by rw [pc_length, List.length_map]) HW4.out
      refine ⟨by rw [HW4.out]; exact hbw.grown hg (by rw [World.size_alloc]; omega) (fun k hk => by simp at hk; omega), fun h => (by rw [HRS.out] at h; cases h), fun _ => ⟨w1.heap.size, .slice (some ⟨wr.heap.size, 0, none⟩) l.length l.length, rfl, ⟨?_, ?_, by omega⟩⟩⟩
      · rw [HW4.out, hg.block _ (by rw [World.size_alloc]; omega) (fun e => by have := Option.some.inj e; omega)]
        exact heap_alloc_new w1 _
      · rw [List.length_map]
        obtain ⟨q1, ⟨q2, _⟩ | ⟨g', cap', cur, e', qB, q⟩⟩ := hrow
        · cases q2
        · exact ⟨q1, Or.inr ⟨g', cap', cur, e', by omega, q⟩⟩
end Go.Proofs.Ytlpannicklkghaa
/- Walks of layer 7: the document's tree, Place and Get. -/
namespace Go.Proofs.Ytlpannicklkghaa
open Go.RowKit

theorem RtAt.c0 {w : World} {B r m : Nat} {v : Value} {l : List It} (h : RtAt w B r m v l) : w.cell? ⟨r, 0, none⟩ = some (.int .i64 (m : Int)) := by simp [World.cell?, h.cells]
theorem RtAt.c1 {w : World} {B r m : Nat} {v : Value} {l : List It} (h : RtAt w B r m v l) : w.cell? ⟨r, 1, none⟩ = some v := by simp [World.cell?, h.cells]
theorem RtAt.fz {w : World} {B r m : Nat} {v : Value} {l : List It} (h : RtAt w B r m v l) (o : Nat) : w.frozen? ⟨r, o, none⟩ = false := by simp [World.frozen?, h.cells]

set_option maxHeartbeats 8000000 in
set_option maxRecDepth 100000 in
theorem place_any (w : World) (B r m : Nat) (v : Value) (l : List It) (key : ByteArray) (h : RtAt w B r m v l) (hs : Srt l) (hl : l.length ≤ 4000000001) :
    Calls Try.prog 43 #[.pointer (some ⟨r, 0, none⟩), .string key] w fun e w' => e = .returned (.int .i64 (cntL key l : Int)) ∧ w' = w := by
  obtain ⟨p, cap, rfl, hcap, _⟩ := prow_form h.row
  have c1 := h.c1
  have HR : Hid (w.ownsRow B 27 2 (.slice p l.length cap) l.length (pc l)) := h.row
  have HS : Hid (Srt l) := hs
  have hcl := cntL_le key l
  obtain ⟨c, hc⟩ : ∃ c, cntL key l = c := ⟨_, rfl⟩
  have HC : Hid (cntL key l = c) := hc
  rw [hc] at hcl ⊢
  clear h hs hc
  go_enter Try.func43, Try.ntmps43
  go_wp2
  go_loopw [5, 6] (fun lo hi wr => ∃ x y : Nat, lo = .int .i64 (x : Int) ∧ hi = .int .i64 (y : Int) ∧ x ≤ c ∧ c ≤ y ∧ y ≤ l.length ∧ wr = w) (fun lo hi _ => (intOf hi).toNat - (intOf lo).toNat)
  case atStart => exact ⟨0, l.length, rfl, rfl, Nat.zero_le _, hcl, Nat.le_refl _, rfl⟩
  case round =>
    obtain ⟨x, y, rfl, rfl, hx, hy, hyl, hwr⟩ := hrel
    subst hwr
    by_cases hlt : x < y
    · have hlti : (x : Int) < (y : Int) := by omega
      obtain ⟨md, hmd⟩ : ∃ md, (x + y) / 2 = md := ⟨_, rfl⟩
      have hmdi : ((x : Int) + (y : Int)) / 2 = (md : Int) := by omega
      have hml : md < l.length := by omega
      have hmli : (md : Int) < (l.length : Int) := by omega
      obtain ⟨g, gc, eg, _, _, _, hcc, _⟩ := prow_at HR.out (by omega)
      simp only [Value.slice.injEq] at eg
      obtain ⟨rfl, _, rfl⟩ := eg
      obtain ⟨d0, _⟩ := hcc md hml
      obtain ⟨z, hz⟩ : ∃ z, (l[md]).key = z := ⟨_, rfl⟩
      rw [hz] at d0
      obtain ⟨b, hb⟩ : ∃ b, kl z key = b := ⟨_, rfl⟩
      have hbl : Op.bytesLess z.toList key.toList = b := hb
      cases b with
      | true =>
        have hmc : md + 1 ≤ c := by
          rcases Nat.lt_or_ge md c with h1 | h1
          · exact h1
          · have := cntL_ge HS.out hml (by rw [HC.out]; exact h1)
            rw [hz, hb] at this
            cases this
        clear hcc hz hb
        go_wp2
        first | exact ⟨⟨md + 1, y, by go_num, rfl, hmc, hy, hyl, trivial⟩, by simp only [intOf]; omega⟩ | exact ⟨⟨md + 1, y, by go_num, rfl, hmc, hy, hyl, rfl⟩, by simp only [intOf]; omega⟩ | (go_roundw; all_goals first | exact ⟨md + 1, y, by go_num, rfl, hmc, hy, hyl, rfl⟩ | (simp [intOf]; omega))
      | false =>
        have hmc : c ≤ md := by
          rcases Nat.lt_or_ge md c with h1 | h1
          · have := cntL_lt key l md hml (by rw [HC.out]; exact h1)
            rw [hz, hb] at this
            cases this
          · exact h1
        clear hcc hz hb
        go_wp2
        exact ⟨⟨x, md, rfl, by rw [hmdi], hx, hmc, by omega, trivial⟩, by simp only [intOf]; omega⟩
    · have hlti : ¬ (x : Int) < (y : Int) := by omega
      obtain rfl : x = c := by omega
      go_wp2
      go_ret
      exact ⟨rfl, rfl⟩
set_option maxHeartbeats 8000000 in
set_option maxRecDepth 100000 in
theorem rget_any (w : World) (B r m : Nat) (v : Value) (l : List It) (key : ByteArray) (h : RtAt w B r m v l) (hs : Srt l) (hl : l.length ≤ 4000000001) :
    Calls Try.prog 29 #[.pointer (some ⟨r, 0, none⟩), .string key] w fun e w' => e = .returned (.tuple #[.string (valL key l), .bool (foundL key l)]) ∧ w' = w := by
  have HP := place_any w B r m v l key h hs hl
  obtain ⟨p, cap, rfl, hcap, _⟩ := prow_form h.row
  have c1 := h.c1
  have HR : Hid (w.ownsRow B 27 2 (.slice p l.length cap) l.length (pc l)) := h.row
  have hcl := cntL_le key l
  obtain ⟨c, hc⟩ : ∃ c, cntL key l = c := ⟨_, rfl⟩
  have HC : Hid (cntL key l = c) := hc
  rw [hc] at hcl HP
  have HP2 : Hid (Calls Try.prog 43 #[.pointer (some ⟨r, 0, none⟩), .string key] w fun e w' => e = .returned (.int .i64 (c : Int)) ∧ w' = w) := HP
  clear h hs hc HP
  go_enter Try.func29, Try.ntmps29
  go_wp2_with fail
  refine HP2.out.mono ?_
  rintro e w1 ⟨rfl, hw1⟩
  subst hw1
  by_cases hlt : c < l.length
  · have hlti : (c : Int) < (l.length : Int) := by omega
    obtain ⟨g, gc, eg, _, _, _, hcc, _⟩ := prow_at HR.out (by omega)
    simp only [Value.slice.injEq] at eg
    obtain ⟨rfl, _, rfl⟩ := eg
    obtain ⟨d0, d1⟩ := hcc c hlt
    obtain ⟨z, hz⟩ : ∃ z, l[c] = z := ⟨_, rfl⟩
    rw [hz] at d0 d1
    have HF : Hid (foundL key l = decide (z.key = key) ∧ (z.key = key → valL key l = z.val) ∧ (z.key ≠ key → valL key l = ⟨#[]⟩)) := by
      have hfe : foundL key l = decide (z.key = key) := by
        rw [foundL_at (by rw [HC.out]; exact hlt)]
        simp only [HC.out, hz]
      refine ⟨hfe, fun e => ?_, fun e => ?_⟩
      · unfold valL
        rw [hfe, HC.out, List.getElem?_eq_getElem hlt, hz]
        simp [e]
      · unfold valL
        rw [hfe]
        simp [e]
    clear hcc hz
    by_cases he : z.key = key
    · have hbe : (z.key.toList == key.toList) = true := by rw [he]; simp
      go_wp2
      refine bodyPost_ret (v := .tuple #[.string z.val, .bool true]) (by simp [results, Try.results29, go_sem]) rfl ?_
      rw [HF.out.1, HF.out.2.1 he]
      simp [he]
    · have hbe : (z.key.toList == key.toList) = false := by rw [beq_eq_false_iff_ne]; exact fun h => he (ba_inj h)
      go_wp2
      refine bodyPost_ret (v := .tuple #[.string ⟨#[]⟩, .bool false]) (by simp [results, Try.results29, go_sem]) rfl ?_
      rw [HF.out.1, HF.out.2.2 he]
      simp [he]
  · have hlti : ¬ (c : Int) < (l.length : Int) := by omega
    have HF : Hid (foundL key l = false) := foundL_no (by rw [HC.out]; omega)
    go_wp2
    refine bodyPost_ret (v := .tuple #[.string ⟨#[]⟩, .bool false]) (by simp [results, Try.results29, go_sem]) rfl ?_
    unfold valL
    rw [HF.out]
    exact ⟨rfl, rfl⟩
end Go.Proofs.Ytlpannicklkghaa
/- Walks of layer 7: the document's tree, Put. -/
namespace Go.Proofs.Ytlpannicklkghaa
open Go.RowKit

theorem pc_set : ∀ (xs : List It) (k : Nat) (_ : k < xs.length) (x : It), ((pc xs).set (k * 2) (.string x.key)).set (k * 2 + 1) (.string x.val) = pc (xs.set k x)
  | y :: r, 0, _, x => rfl
  | y :: r, k + 1, h, x => by
    have ih := pc_set r k (by simpa using h) x
    rw [show (k + 1) * 2 = k * 2 + 1 + 1 by omega, show (k * 2 + 1 + 1) + 1 = (k * 2 + 1) + 1 + 1 by omega]
    simp only [pc, List.set_cons_succ, ih]
theorem own_pair {w : World} {B g n cap : Nat} {xs : List It} (h : w.ownsRow B 27 2 (.slice (some ⟨g, 0, none⟩) n cap) n (pc xs)) (k : Nat) (hn : xs.length = n) (hk : k < n) (x : It) : ((w.setCell ⟨g, k * 2, none⟩ (.string x.key)).setCell ⟨g, k * 2 + 1, none⟩ (.string x.val)).ownsRow B 27 2 (.slice (some ⟨g, 0, none⟩) n cap) n (pc (xs.set k x)) := by
  have h1 := (h.stored (k * 2) (.string x.key)).1
  have h2 := (h1.stored (k * 2 + 1) (.string x.val)).1
  rw [pc_set xs k (by omega) x] at h2
  exact h2
/-- What may turn when the document's tree does. -/
def rz (r : Nat) (v : Value) (k : Nat) : Prop := k = r ∨ v.ownBlock = some k
theorem RtAt.ne {w : World} {B r m : Nat} {v : Value} {l : List It} (h : RtAt w B r m v l) : v.ownBlock ≠ some r := own_ne h.row h.cells (by decide)
/-- A pair is stored. -/
theorem RtAt.store {w : World} {B r m g cap : Nat} {l : List It} (h : RtAt w B r m (.slice (some ⟨g, 0, none⟩) l.length cap) l) (k : Nat) (hk : k < l.length) (x : It) : RtAt ((w.setCell ⟨g, k * 2, none⟩ (.string x.key)).setCell ⟨g, k * 2 + 1, none⟩ (.string x.val)) B r m (.slice (some ⟨g, 0, none⟩) l.length cap) (l.set k x) := by
  have hne : r ≠ g := fun e => h.ne (by rw [e]; rfl)
  refine ⟨?_, by rw [List.length_set]; exact own_pair h.row k rfl hk x, h.le⟩
  rw [Below.heap_setCell _ _ _ _ (fun e => hne (by simpa using e)), Below.heap_setCell _ _ _ _ (fun e => hne (by simpa using e))]
  exact h.cells
theorem only_store {Z : Nat → Prop} {w w' : World} (h : Only Z w w') {g : Nat} (hg : Z g ∨ w.heap.size ≤ g) (o : Nat) (u : Value) : Only Z w (w'.setCell ⟨g, o, none⟩ u) := by
  refine ⟨h.os, h.tape, h.output, by simpa [World.setCell] using h.size, fun k hk hz => ?_⟩
  rw [Below.heap_setCell _ _ _ _ (fun e => ?_)]
  · exact h.block k hk hz
  · have e2 : k = g := e
    rcases hg with hg | hg
    · exact hz (e2 ▸ hg)
    · omega

set_option maxHeartbeats 16000000 in
set_option maxRecDepth 100000 in
theorem rput_new (w : World) (B r m : Nat) (v : Value) (l : List It) (key val : ByteArray) (h : RtAt w B r m v l) (hs : Srt l) (hl : l.length ≤ 4000000000) (hf : foundL key l = false) :
    Calls Try.prog 26 #[.pointer (some ⟨r, 0, none⟩), .string key, .string val] w fun e w' => e = .returned (.tuple #[.string ⟨#[]⟩, .bool false]) ∧ Only (rz r v) w w' ∧ ∃ v', RtAt w' B r m v' (insL key val l) ∧ ∀ k, v'.ownBlock = some k → v.ownBlock = some k ∨ w.heap.size ≤ k := by
  obtain ⟨i0, hif, hz0, hz1, hz2⟩ := info_parts Try.infoPair
  have HG := rget_any w B r m v l key h hs (by omega)
  have HP := place_any w B r m v l key h hs (by omega)
  have hval : valL key l = ⟨#[]⟩ := by unfold valL; rw [hf]; rfl
  rw [hval, hf] at HG
  obtain ⟨p, cap, rfl, hcap, _⟩ := prow_form h.row
  have c1 := h.c1
  have f1 := h.fz 1
  have HR : Hid (RtAt w B r m (.slice p l.length cap) l) := h
  have hBs : B ≤ w.heap.size := Nat.le_trans h.le (Nat.le_of_lt h.lt)
  have hrl := h.lt
  have hcl := cntL_le key l
  obtain ⟨c, hc⟩ : ∃ c, cntL key l = c := ⟨_, rfl⟩
  have HC : Hid (cntL key l = c) := hc
  rw [hc] at hcl HP
  clear h hs hc hval hf
  go_enter Try.func26, Try.ntmps26
  go_wp2_with fail
  refine HG.mono ?_
  rintro e w1 ⟨rfl, hw1⟩
  subst hw1
  go_wp2_with fail
  refine HP.mono ?_
  rintro e w2 ⟨rfl, hw2⟩
  subst hw2
  go_wp2_with (at_builtin; go_must (refine wpList_append_lies _ rfl _ _ 22 rfl B 27 i0 _ 2 32 Try.underlying22 hif hz0 hz1 hz2 rfl (by decide) _ _ _ rfl (HR.out.row.alloc _) ⟨w2.heap.size, 0, none⟩ 1 1 [.string ⟨#[]⟩, .string ⟨#[]⟩] rfl rfl (pair_cells w2 ⟨#[]⟩ ⟨#[]⟩) (by intro u hu; simp at hu; subst hu; rfl) Nat.one_pos (by unfold maxLen; omega) (by omega) (by simp; omega) _ rfl ?_); intro g5 cap5 w5 hown5 hgrow5 hor5 hlt5; (have hr5 : w5.heap[r]? = w2.heap[r]? := (hgrow5.block r (by simp; omega) (fun e => HR.out.ne e.symm)).trans (Below.heap_alloc _ _ _ hrl)); (have c5 := cell_at hr5 c1); (have f5 : w5.frozen? ⟨r, 1, none⟩ = false := by simp [World.frozen?, hr5, HR.out.cells]))
  obtain ⟨w6, hw6⟩ : ∃ w6, w5.setCell ⟨r, 1, none⟩ (.slice (some ⟨g5, 0, none⟩) (l.length + 1) cap5) = w6 := ⟨_, rfl⟩
  have hne5 : r ≠ g5 := fun e => own_ne hown5 (by rw [hr5]; exact HR.out.cells) (by decide) (by rw [e]; rfl)
  have HO5 : Hid (Only (rz r (.slice p l.length cap)) w2 w5) := ((Only.refl _ _).alloc _).grown hgrow5 fun k hk => Or.inr hk
  have HG5 : Hid ((Value.slice p l.length cap).ownBlock = some g5 ∨ w2.heap.size ≤ g5) := by
    rcases hor5 with h1 | h1
    · exact Or.inl h1
    · exact Or.inr (by rw [h1]; simp)
  have HL0 : Hid (RtAt w6 B r m (.slice (some ⟨g5, 0, none⟩) (l.length + 1) cap5) (l ++ [⟨⟨#[]⟩, ⟨#[]⟩, none⟩]) ∧ Only (rz r (.slice p l.length cap)) w2 w6) := by
    rw [← hw6]
    refine ⟨⟨?_, ?_, HR.out.le⟩, only_store HO5.out (Or.inl (Or.inl rfl)) _ _⟩
    · rw [heap_setCell_at (hr5.trans HR.out.cells)]
      simp
    · rw [List.length_append, List.length_singleton, pc_append]
      exact own_kept hown5 fun k hk => Below.heap_setCell _ _ _ _ (fun e => by
        obtain rfl : g5 = k := by simpa [Value.ownBlock] using hk
        exact hne5 (by simpa using e.symm))
  rw [hw6]
  obtain ⟨N, hN⟩ : ∃ N, l.length + 1 = N := ⟨_, rfl⟩
  rw [hN] at HL0 ⊢
  clear hown5 hgrow5 hor5 hr5 c5 f5 HG HP c1 f1 hw6
  go_loopw [11] (fun i wr => ∃ (q : Nat) (y : It), c ≤ q ∧ q ≤ l.length ∧ i = .int .i64 (q : Int) ∧ RtAt wr B r m (.slice (some ⟨g5, 0, none⟩) N cap5) (l.take q ++ y :: l.drop q) ∧ Only (rz r (.slice p l.length cap)) w2 wr) (fun i _ => (intOf i).toNat)
  case atStart => exact ⟨l.length, _, hcl, Nat.le_refl _, rfl, by rw [List.take_length, List.drop_length]; exact HL0.out.1, HL0.out.2⟩
  case round =>
    obtain ⟨q, y, hq1, hq2, rfl, hrt, hon⟩ := hrel
    have HRT : Hid (RtAt wr B r m (.slice (some ⟨g5, 0, none⟩) N cap5) (l.take q ++ y :: l.drop q)) := hrt
    have HON : Hid (Only (rz r (.slice p l.length cap)) w2 wr) := hon
    have c1 := hrt.c1
    have hlen : (l.take q ++ y :: l.drop q).length = N := by simp; omega
    obtain ⟨g, gc, eg, _, _, _, hcc, hfz⟩ := prow_at hrt.row (by omega)
    rw [hlen] at eg
    simp only [Value.slice.injEq, Option.some.injEq, Addr.mk.injEq, and_true, true_and] at eg
    obtain ⟨rfl, rfl⟩ := eg
    by_cases hlt : c < q
    · have hlti : (c : Int) < (q : Int) := by omega
      obtain ⟨q', rfl⟩ : ∃ q', q = q' + 1 := ⟨q - 1, by omega⟩
      have hqi : (((q' + 1 : Nat)) : Int) = (q' : Int) + 1 := by omega
      have hq' : q' < l.length := by omega
      obtain ⟨d0, d1⟩ := hcc q' (by omega)
      obtain ⟨e0, e1⟩ := hcc (q' + 1) (by omega)
      have ff0 := hfz ((q' + 1) * 2)
      have ff1 := hfz ((q' + 1) * 2 + 1)
      have hgx : (l.take (q' + 1) ++ y :: l.drop (q' + 1))[q']'(by omega) = l[q'] := by
        rw [List.getElem_append_left (by rw [List.length_take]; omega), List.getElem_take]
      rw [hgx] at d0 d1
      obtain ⟨x, hx⟩ : ∃ x, l[q'] = x := ⟨_, rfl⟩
      rw [hx] at d0 d1
      obtain ⟨z, hz⟩ : ∃ z, (l.take (q' + 1) ++ y :: l.drop (q' + 1))[q' + 1]'(by omega) = z := ⟨_, rfl⟩
      rw [hz] at e0 e1
      have HST : Hid (RtAt ((wr.setCell ⟨g5, (q' + 1) * 2, none⟩ (.string x.key)).setCell ⟨g5, (q' + 1) * 2 + 1, none⟩ (.string x.val)) B r m (.slice (some ⟨g5, 0, none⟩) N cap5) (l.take q' ++ x :: l.drop q')) := by
        have h1 := HRT.out
        rw [← hlen] at h1
        have h2 := h1.store (q' + 1) (by omega) x
        rw [hlen] at h2
        have e : (l.take (q' + 1) ++ y :: l.drop (q' + 1)).set (q' + 1) x = l.take q' ++ x :: l.drop q' := by
          have ht : l.take (q' + 1) = l.take q' ++ [x] := by rw [List.take_add_one, List.getElem?_eq_getElem hq', hx]; rfl
          have hd2 : l.drop q' = x :: l.drop (q' + 1) := by rw [List.drop_eq_getElem_cons hq', hx]
          rw [hd2, List.set_append, if_neg (by rw [List.length_take]; omega), List.length_take, show q' + 1 - min (q' + 1) l.length = 0 by omega, List.set_cons_zero, ht]
          simp
        rw [e] at h2
        exact h2
      have HOS : Hid (Only (rz r (.slice p l.length cap)) w2 ((wr.setCell ⟨g5, (q' + 1) * 2, none⟩ (.string x.key)).setCell ⟨g5, (q' + 1) * 2 + 1, none⟩ (.string x.val))) := by
        have hg : rz r (.slice p l.length cap) g5 ∨ w2.heap.size ≤ g5 := by
          rcases HG5.out with h1 | h1
          · exact Or.inl (Or.inr h1)
          · exact Or.inr h1
        exact only_store (only_store HON.out hg _ _) hg _ _
      have hqli2 : (q' : Int) + 1 < (N : Int) := by omega
      have hqli3 : (q' : Int) < (N : Int) := by omega
      have hN2 : N ≤ 4000000001 := by omega
      have hq0 : (0 : Int) ≤ (q' : Int) + 1 := by omega
      have htn : ((q' : Int) + 1).toNat = q' + 1 := by omega
      have hwr1 : IntKind.i64.wrap (q' : Int) = (q' : Int) := by rw [IntKind.wrap_i64]; omega
      rw [hqi] at hlti ⊢
      clear hcc hfz hgx hx hz hrt hon hlen hN
      go_wp2_with fail
      go_region_law (fail)
      all_goals
        go_wp2
        first | exact ⟨⟨q', x, by omega, by omega, rfl, HST.out.later (Below.refl _ _).drew, HOS.out.drew⟩, by simp only [intOf]; omega⟩ | (go_roundw; all_goals first | exact ⟨q', x, by omega, by omega, by go_num, HST.out.later (Below.refl _ _).drew, HOS.out.drew⟩ | (simp [intOf]; omega))
    · have hlti : ¬ (c : Int) < (q : Int) := by omega
      obtain rfl : q = c := by omega
      obtain ⟨e0, e1⟩ := hcc q (by omega)
      have ff0 := hfz (q * 2)
      have ff1 := hfz (q * 2 + 1)
      obtain ⟨z, hz⟩ : ∃ z, (l.take q ++ y :: l.drop q)[q]'(by omega) = z := ⟨_, rfl⟩
      rw [hz] at e0 e1
      have HST : Hid (RtAt ((wr.setCell ⟨g5, q * 2, none⟩ (.string key)).setCell ⟨g5, q * 2 + 1, none⟩ (.string val)) B r m (.slice (some ⟨g5, 0, none⟩) N cap5) (insL key val l)) := by
        have h1 := HRT.out
        rw [← hlen] at h1
        have h2 := h1.store q (by omega) ⟨key, val, none⟩
        rw [hlen] at h2
        have e : (l.take q ++ y :: l.drop q).set q ⟨key, val, none⟩ = insL key val l := by
          unfold insL
          rw [HC.out, List.set_append, if_neg (by rw [List.length_take]; omega), List.length_take, show q - min q l.length = 0 by omega, List.set_cons_zero]
        rw [e] at h2
        exact h2
      have HOS : Hid (Only (rz r (.slice p l.length cap)) w2 ((wr.setCell ⟨g5, q * 2, none⟩ (.string key)).setCell ⟨g5, q * 2 + 1, none⟩ (.string val))) := by
        have hg : rz r (.slice p l.length cap) g5 ∨ w2.heap.size ≤ g5 := by
          rcases HG5.out with h1 | h1
          · exact Or.inl (Or.inr h1)
          · exact Or.inr h1
        exact only_store (only_store HON.out hg _ _) hg _ _
      have hqN : (q : Int) < (N : Int) := by omega
      clear hcc hfz hz hrt hon hlen hN
      go_wp2
      refine bodyPost_ret (v := .tuple #[.string ⟨#[]⟩, .bool false]) (by simp [results, Try.results26, go_sem]) rfl ?_
      refine ⟨rfl, HOS.out, _, HST.out, fun k hk => ?_⟩
      obtain rfl : g5 = k := by simpa [Value.ownBlock] using hk
      exact HG5.out
end Go.Proofs.Ytlpannicklkghaa
/- Walks of layer 7: the document's tree, Put and Delete. -/
namespace Go.Proofs.Ytlpannicklkghaa
open Go.RowKit

set_option maxHeartbeats 16000000 in
set_option maxRecDepth 100000 in
theorem rput_old (w : World) (B r m : Nat) (v : Value) (l : List It) (key val : ByteArray) (h : RtAt w B r m v l) (hs : Srt l) (hl : l.length ≤ 4000000000) (hf : foundL key l = true) :
    Calls Try.prog 26 #[.pointer (some ⟨r, 0, none⟩), .string key, .string val] w fun e w' => e = .returned (.tuple #[.string (valL key l), .bool true]) ∧ Only (rz r v) w w' ∧ RtAt w' B r m v (setV (cntL key l) val l) := by
  have HG := rget_any w B r m v l key h hs (by omega)
  have HP := place_any w B r m v l key h hs (by omega)
  rw [hf] at HG
  have hlt := found_lt hf
  obtain ⟨g, cap, rfl, hcap, _, _, hcc, hfz⟩ := prow_at h.row (by omega)
  have c1 := h.c1
  obtain ⟨c, hc⟩ : ∃ c, cntL key l = c := ⟨_, rfl⟩
  obtain ⟨x0, hx0⟩ : ∃ x0, valL key l = x0 := ⟨_, rfl⟩
  rw [hc] at HP hlt ⊢
  rw [hx0] at HG ⊢
  obtain ⟨e0, e1⟩ := hcc c hlt
  have ff0 := hfz (c * 2)
  have ff1 := hfz (c * 2 + 1)
  have hke : (l[c]).key = key := by
    have h2 := hf
    rw [foundL_at (by rw [hc]; exact hlt)] at h2
    have h3 := of_decide_eq_true h2
    simp only [hc] at h3
    exact h3
  have HST : Hid (RtAt ((w.setCell ⟨g, c * 2, none⟩ (.string key)).setCell ⟨g, c * 2 + 1, none⟩ (.string val)) B r m (.slice (some ⟨g, 0, none⟩) l.length cap) (setV c val l)) := by
    have h2 := h.store c hlt ⟨key, val, none⟩
    refine ⟨h2.cells, ?_, h2.le⟩
    have h3 := h2.row
    rw [List.length_set] at h3
    have e : pc (l.set c ⟨key, val, none⟩) = pc (setV c val l) := by
      have key2 : ∀ (l : List It) (c : Nat) (hc : c < l.length), (l[c]).key = key → pc (l.set c ⟨key, val, none⟩) = pc (setV c val l) := by
        intro l
        induction l with
        | nil => intro c hc; simp at hc
        | cons y r ih =>
          intro c hc hk
          cases c with
          | zero => rw [setV_zero]; simp only [List.set_cons_zero, pc]; rw [show y.key = key from hk]
          | succ c => rw [setV_succ, List.set_cons_succ, pc, pc, ih c (by simpa using hc) hk]
      exact key2 l c hlt hke
    rw [e] at h3
    rw [setV_length]
    exact h3
  have HOS : Hid (Only (rz r (.slice (some ⟨g, 0, none⟩) l.length cap)) w ((w.setCell ⟨g, c * 2, none⟩ (.string key)).setCell ⟨g, c * 2 + 1, none⟩ (.string val))) := only_store (only_store (Only.refl _ _) (Or.inl (Or.inr rfl)) _ _) (Or.inl (Or.inr rfl)) _ _
  obtain ⟨z, hz⟩ : ∃ z, l[c] = z := ⟨_, rfl⟩
  rw [hz] at e0 e1
  have hlti : (c : Int) < (l.length : Int) := by omega
  clear h hs hf hcc hfz hc hx0 hke hz
  go_enter Try.func26, Try.ntmps26
  go_wp2_with fail
  refine HG.mono ?_
  rintro e w1 ⟨rfl, hw1⟩
  subst hw1
  go_wp2_with fail
  refine HP.mono ?_
  rintro e w2 ⟨rfl, hw2⟩
  subst hw2
  clear HG HP
  go_wp2
  refine bodyPost_ret (v := .tuple #[.string x0, .bool true]) (by simp [results, Try.results26, go_sem]) rfl ?_
  exact ⟨rfl, HOS.out, HST.out⟩
/-- Put. -/
theorem rput_any (w : World) (B r m : Nat) (v : Value) (l : List It) (key val : ByteArray) (h : RtAt w B r m v l) (hs : Srt l) (hl : l.length ≤ 4000000000) :
    Calls Try.prog 26 #[.pointer (some ⟨r, 0, none⟩), .string key, .string val] w fun e w' => e = .returned (.tuple #[.string (valL key l), .bool (foundL key l)]) ∧ Only (rz r v) w w' ∧ ∃ v', RtAt w' B r m v' (putL key val l) ∧ ∀ k, v'.ownBlock = some k → v.ownBlock = some k ∨ w.heap.size ≤ k := by
  cases hf : foundL key l with
  | true =>
    refine (rput_old w B r m v l key val h hs hl hf).mono ?_
    rintro e w' ⟨rfl, ho, hr⟩
    refine ⟨rfl, ho, v, ?_, fun k hk => Or.inl hk⟩
    unfold putL
    rw [hf]
    exact hr
  | false =>
    refine (rput_new w B r m v l key val h hs hl hf).mono ?_
    rintro e w' ⟨rfl, ho, v', hr, hk⟩
    refine ⟨by unfold valL; rw [hf]; rfl, ho, v', ?_, hk⟩
    unfold putL
    rw [hf]
    exact hr
/-- A row's beginning. -/
theorem own_less {w : World} {B g n cap k : Nat} {e : TypeId} {size : Nat} {xs : List Value} (h : w.ownsRow B e size (.slice (some ⟨g, 0, none⟩) n cap) n xs) (hk : k ≤ n) : w.ownsRow B e size (.slice (some ⟨g, 0, none⟩) k cap) k (xs.take (k * size)) := by
  obtain ⟨h1, ⟨h2, _⟩ | ⟨g', cap', cur, e', hB, hg, hn, hm, hs, hx⟩⟩ := h
  · cases h2
  · simp only [Value.slice.injEq, Option.some.injEq, Addr.mk.injEq, and_true, true_and] at e'
    obtain ⟨rfl, rfl⟩ := e'
    have hle : k * size ≤ n * size := Nat.mul_le_mul_right _ hk
    refine ⟨by rw [List.length_take, h1]; omega, Or.inr ⟨g, cap, cur, rfl, hB, hg, by omega, hm, hs, ?_⟩⟩
    rw [← hx, List.take_take, Nat.min_eq_left hle]
theorem pc_take : ∀ (l : List It) (k : Nat), (pc l).take (k * 2) = pc (l.take k)
  | [], k => by simp [pc]
  | x :: r, 0 => by simp [pc]
  | x :: r, k + 1 => by
    rw [show (k + 1) * 2 = k * 2 + 1 + 1 by omega]
    simp only [pc, List.take_succ_cons, pc_take r k]
theorem rdel_none (w : World) (B r m : Nat) (v : Value) (l : List It) (key : ByteArray) (h : RtAt w B r m v l) (hs : Srt l) (hl : l.length ≤ 4000000000) (hf : foundL key l = false) :
    Calls Try.prog 27 #[.pointer (some ⟨r, 0, none⟩), .string key] w fun e w' => e = .returned (.tuple #[.string ⟨#[]⟩, .bool false]) ∧ w' = w := by
  have HG := rget_any w B r m v l key h hs (by omega)
  have hval : valL key l = ⟨#[]⟩ := by unfold valL; rw [hf]; rfl
  rw [hval, hf] at HG
  clear h hs hf hval
  go_enter Try.func27, Try.ntmps27
  go_wp2_with fail
  refine HG.mono ?_
  rintro e w1 ⟨rfl, hw1⟩
  subst hw1
  go_wp2
  refine bodyPost_ret (v := .tuple #[.string ⟨#[]⟩, .bool false]) (by simp [results, Try.results27, go_sem]) rfl ?_
  exact ⟨rfl, rfl⟩
set_option maxHeartbeats 16000000 in
set_option maxRecDepth 100000 in
theorem rdel_old (w : World) (B r m : Nat) (v : Value) (l : List It) (key : ByteArray) (h : RtAt w B r m v l) (hs : Srt l) (hl : l.length ≤ 4000000000) (hf : foundL key l = true) :
    Calls Try.prog 27 #[.pointer (some ⟨r, 0, none⟩), .string key] w fun e w' => e = .returned (.tuple #[.string (valL key l), .bool true]) ∧ Only (rz r v) w w' ∧ ∃ v', RtAt w' B r m v' (cutL key l) ∧ v'.ownBlock = v.ownBlock := by
  have HG := rget_any w B r m v l key h hs (by omega)
  have HP := place_any w B r m v l key h hs (by omega)
  rw [hf] at HG
  have hlt := found_lt hf
  have hcl := cutL_length hf
  obtain ⟨g, cap, rfl, hcap, _, _, _, _⟩ := prow_at h.row (by omega)
  have HR : Hid (RtAt w B r m (.slice (some ⟨g, 0, none⟩) l.length cap) l) := h
  obtain ⟨c, hc⟩ : ∃ c, cntL key l = c := ⟨_, rfl⟩
  obtain ⟨x0, hx0⟩ : ∃ x0, valL key l = x0 := ⟨_, rfl⟩
  obtain ⟨cl, hcq⟩ : ∃ cl, cutL key l = cl := ⟨_, rfl⟩
  have HCL : Hid (cl = l.take c ++ l.drop (c + 1)) := by rw [← hcq, ← hc]; rfl
  rw [hc] at HP hlt
  rw [hcq] at hcl ⊢
  rw [hx0] at HG ⊢
  clear h hs hf hc hx0 hcq
  go_enter Try.func27, Try.ntmps27
  go_wp2_with fail
  refine HG.mono ?_
  rintro e w1 ⟨rfl, hw1⟩
  subst hw1
  go_wp2_with fail
  refine HP.mono ?_
  rintro e w2 ⟨rfl, hw2⟩
  subst hw2
  clear HG HP
  go_wp2_with fail
  obtain ⟨N, hN⟩ : ∃ N, l.length = N := ⟨_, rfl⟩
  rw [hN] at HR
  go_loopw [8] (fun i wr => ∃ (q : Nat) (y : It), c ≤ q ∧ q + 1 ≤ N ∧ i = .int .i64 (q : Int) ∧ RtAt wr B r m (.slice (some ⟨g, 0, none⟩) N cap) (cl.take q ++ y :: l.drop (q + 1)) ∧ Only (rz r (.slice (some ⟨g, 0, none⟩) N cap)) w2 wr) (fun i _ => N - (intOf i).toNat)
  case atStart =>
    refine ⟨c, l[c], Nat.le_refl _, by omega, rfl, ?_, Only.refl _ _⟩
    have e : cl.take c ++ l[c] :: l.drop (c + 1) = l := by
      rw [HCL.out, List.take_append_of_le_length (by rw [List.length_take]; omega), List.take_take, Nat.min_self, ← List.drop_eq_getElem_cons hlt, List.take_append_drop]
    rw [e]
    exact HR.out
  case round =>
    obtain ⟨q, y, hq1, hq2, rfl, hrt, hon⟩ := hrel
    have HRT : Hid (RtAt wr B r m (.slice (some ⟨g, 0, none⟩) N cap) (cl.take q ++ y :: l.drop (q + 1))) := hrt
    have HON : Hid (Only (rz r (.slice (some ⟨g, 0, none⟩) N cap)) w2 wr) := hon
    have c1 := hrt.c1
    have fr1 := hrt.fz 1
    have hlen : (cl.take q ++ y :: l.drop (q + 1)).length = N := by simp; omega
    obtain ⟨g', gc, eg, _, _, _, hcc, hfz⟩ := prow_at hrt.row (by omega)
    rw [hlen] at eg
    simp only [Value.slice.injEq, Option.some.injEq, Addr.mk.injEq, and_true, true_and] at eg
    obtain ⟨rfl, rfl⟩ := eg
    have hN2 : N ≤ 4000000000 := by omega
    by_cases hlt2 : q + 1 < N
    · have hlti : (q : Int) + 1 < (N : Int) := by omega
      obtain ⟨d0, d1⟩ := hcc (q + 1) (by omega)
      obtain ⟨e0, e1⟩ := hcc q (by omega)
      have ff0 := hfz (q * 2)
      have ff1 := hfz (q * 2 + 1)
      have hql : q + 1 < l.length := by omega
      have hgx : (cl.take q ++ y :: l.drop (q + 1))[q + 1]'(by omega) = l[q + 1] := by
        rw [List.getElem_append_right (by rw [List.length_take]; omega)]
        simp only [List.length_take]
        have e : q + 1 - min q cl.length = 0 + 1 := by omega
        simp only [e, List.getElem_cons_succ, List.getElem_drop]
      rw [hgx] at d0 d1
      obtain ⟨x, hx⟩ : ∃ x, l[q + 1] = x := ⟨_, rfl⟩
      rw [hx] at d0 d1
      obtain ⟨z, hz⟩ : ∃ z, (cl.take q ++ y :: l.drop (q + 1))[q]'(by omega) = z := ⟨_, rfl⟩
      rw [hz] at e0 e1
      have HST : Hid (RtAt ((wr.setCell ⟨g, q * 2, none⟩ (.string x.key)).setCell ⟨g, q * 2 + 1, none⟩ (.string x.val)) B r m (.slice (some ⟨g, 0, none⟩) N cap) (cl.take (q + 1) ++ x :: l.drop (q + 1 + 1))) := by
        have h1 := HRT.out
        rw [← hlen] at h1
        have h2 := h1.store q (by omega) x
        rw [hlen] at h2
        have e : (cl.take q ++ y :: l.drop (q + 1)).set q x = cl.take (q + 1) ++ x :: l.drop (q + 1 + 1) := by
          have hq3 : q < cl.length := by omega
          have hcq : cl[q] = x := by
            have h3 : cl[q]? = some x := by
              rw [HCL.out, List.getElem?_append_right (by rw [List.length_take]; omega), List.length_take, List.getElem?_drop, show c + 1 + (q - min c l.length) = q + 1 by omega, List.getElem?_eq_getElem hql, hx]
            rw [List.getElem?_eq_getElem hq3] at h3
            exact Option.some.inj h3
          have ht : cl.take (q + 1) = cl.take q ++ [x] := by rw [List.take_add_one, List.getElem?_eq_getElem hq3, hcq]; rfl
          have hd2 : l.drop (q + 1) = x :: l.drop (q + 1 + 1) := by rw [List.drop_eq_getElem_cons hql, hx]
          rw [List.set_append, if_neg (by rw [List.length_take]; omega), List.length_take, show q - min q cl.length = 0 by omega, List.set_cons_zero, ht, hd2]
          simp
        rw [e] at h2
        exact h2
      have HOS : Hid (Only (rz r (.slice (some ⟨g, 0, none⟩) N cap)) w2 ((wr.setCell ⟨g, q * 2, none⟩ (.string x.key)).setCell ⟨g, q * 2 + 1, none⟩ (.string x.val))) := only_store (only_store HON.out (Or.inl (Or.inr rfl)) _ _) (Or.inl (Or.inr rfl)) _ _
      have hq0 : (0 : Int) ≤ (q : Int) + 1 := by omega
      have htn : ((q : Int) + 1).toNat = q + 1 := by omega
      have hqN : (q : Int) < (N : Int) := by omega
      have hwr1 : IntKind.i64.wrap ((q : Int) + 1) = (q : Int) + 1 := by rw [IntKind.wrap_i64]; omega
      clear hcc hfz hgx hx hz hrt hon hlen hN
      go_wp2_with fail
      go_region_law (fail)
      all_goals
        go_wp2
        first | exact ⟨⟨q + 1, x, by omega, by omega, by go_num, HST.out.later (Below.refl _ _).drew, HOS.out.drew⟩, by simp only [intOf]; omega⟩ | (go_roundw; all_goals first | exact ⟨q + 1, x, by omega, by omega, by go_num, HST.out.later (Below.refl _ _).drew, HOS.out.drew⟩ | (simp [intOf]; omega))
    · have hlti : ¬ (q : Int) + 1 < (N : Int) := by omega
      have HST : Hid (RtAt (wr.setCell ⟨r, 1, none⟩ (.slice (some ⟨g, 0, none⟩) q cap)) B r m (.slice (some ⟨g, 0, none⟩) q cap) cl) := by
        have hne : r ≠ g := fun e => HRT.out.ne (by rw [e]; rfl)
        refine ⟨?_, ?_, HRT.out.le⟩
        · rw [heap_setCell_at HRT.out.cells]
          simp
        · have h1 := HRT.out.row
          rw [hlen] at h1
          have h2 := own_less h1 (k := q) (by omega)
          rw [pc_take, List.take_append_of_le_length (by rw [List.length_take]; omega), List.take_take, Nat.min_self, List.take_of_length_le (by omega)] at h2
          rw [show cl.length = q by omega]
          exact own_kept h2 fun k hk => Below.heap_setCell _ _ _ _ (fun e => by
            obtain rfl : g = k := by simpa [Value.ownBlock] using hk
            exact hne (by simpa using e.symm))
      have HOS : Hid (Only (rz r (.slice (some ⟨g, 0, none⟩) N cap)) w2 (wr.setCell ⟨r, 1, none⟩ (.slice (some ⟨g, 0, none⟩) q cap))) := only_store HON.out (Or.inl (Or.inl rfl)) _ _
      have hNq : (N : Int) - 1 = (q : Int) := by omega
      have hwr1 : IntKind.i64.wrap ((N : Int) - 1) = (q : Int) := by rw [IntKind.wrap_i64]; omega
      have hwr2 : IntKind.i64.wrap (q : Int) = (q : Int) := by rw [IntKind.wrap_i64]; omega
      have hqc : q ≤ cap := by omega
      have hqci : (q : Int) ≤ (cap : Int) := by omega
      have hq0 : (0 : Int) ≤ (q : Int) := by omega
      clear hcc hfz hrt hon hlen
      go_wp2_with fail
      go_region_law (fail)
      all_goals
        go_wp2
        refine bodyPost_ret (v := .tuple #[.string x0, .bool true]) (by simp [results, Try.results27, go_sem]) rfl ?_
        exact ⟨rfl, by rw [hN]; exact HOS.out.drew, _, HST.out.later (Below.refl _ _).drew, rfl⟩
end Go.Proofs.Ytlpannicklkghaa
/- Walks of layer 7: a tree and the document's, side by side. -/
namespace Go.Proofs.Ytlpannicklkghaa
open Go.RowKit

/-- A tree and the document's. -/
structure Duo7 (w : World) (Ba Br : Nat) (Z : Nat → Prop) (t r m : Nat) (v : Value) (la lb : List It) : Prop where
  tz : TreeZ w Ba Z t m la
  rt : RtAt w Br r m v lb
  ap : ∀ k, Z k → ¬ rz r v k
theorem Duo7.later {w w' : World} {Ba Br : Nat} {Z : Nat → Prop} {t r m : Nat} {v : Value} {la lb : List It} (h : Duo7 w Ba Br Z t r m v la lb) (hb : Below w.heap.size w w') : Duo7 w' Ba Br Z t r m v la lb := ⟨h.tz.later hb, h.rt.later hb, h.ap⟩
theorem Duo7.srt {w : World} {Ba Br : Nat} {Z : Nat → Prop} {t r m : Nat} {v : Value} {la lb : List It} (h : Duo7 w Ba Br Z t r m v la lb) : Srt la := by
  obtain ⟨ls, h1⟩ := h.tz.is
  exact h1.srt
/-- The tree has turned. -/
theorem Duo7.left {w w' : World} {Ba Br : Nat} {Z Z' : Nat → Prop} {t r m : Nat} {v : Value} {la la' lb : List It} (h : Duo7 w Ba Br Z t r m v la lb) (ho : Only Z w w') (hz : TreeZ w' Ba Z' t m la') (hzz : ∀ k, Z' k → Z k ∨ w.heap.size ≤ k) : Duo7 w' Ba Br Z' t r m v la' lb := by
  refine ⟨hz, h.rt.kept (ho.block _ h.rt.lt fun e => h.ap _ e (Or.inl rfl)) fun k hk => ho.block _ (h.rt.row.lt k hk).2 fun e => h.ap _ e (Or.inr hk), fun k hk hr => ?_⟩
  rcases hzz k hk with h1 | h1
  · exact h.ap k h1 hr
  · rcases hr with rfl | hr
    · have := h.rt.lt; omega
    · have := (h.rt.row.lt k hr).2; omega
/-- The document's has turned. -/
theorem Duo7.right {w w' : World} {Ba Br : Nat} {Z : Nat → Prop} {t r m : Nat} {v v' : Value} {la lb lb' : List It} (h : Duo7 w Ba Br Z t r m v la lb) (ho : Only (rz r v) w w') (hr : RtAt w' Br r m v' lb') (hv : ∀ k, v'.ownBlock = some k → v.ownBlock = some k ∨ w.heap.size ≤ k) : Duo7 w' Ba Br Z t r m v' la lb' := by
  refine ⟨h.tz.kept ho fun k hk hz => h.ap k hk hz, hr, fun k hk hz => ?_⟩
  rcases hz with rfl | hz
  · exact h.ap _ hk (Or.inl rfl)
  · rcases hv k hz with h1 | h1
    · exact h.ap k hk (Or.inr h1)
    · have := (h.tz.lo k hk).2; omega
theorem Duo7.belowR {w w' : World} {Ba Br C : Nat} {Z : Nat → Prop} {t r m : Nat} {v : Value} {la lb : List It} (h : Duo7 w Ba Br Z t r m v la lb) (ho : Only (rz r v) w w') (hC : C ≤ Br) : Below C w w' := ho.below (by have := h.rt.le; have := h.rt.lt; omega) fun k hk hz => by
  rcases hz with rfl | hz
  · have := h.rt.le; omega
  · have := (h.rt.row.lt k hz).1; omega
def DuoS (w : World) (Ba Br t r m : Nat) (la lb : List It) : Prop := ∃ Z v, Duo7 w Ba Br Z t r m v la lb
/-- Both put. -/
theorem duo_putA {w : World} {Ba Br t r m : Nat} {la lb : List It} (h : DuoS w Ba Br t r m la lb) (key val : ByteArray) (hm : 4 ≤ m) (hm2 : m ≤ 64) (hl : la.length ≤ 4000000000) (hk : key.size ≤ 281474976710656) (hv : val.size ≤ 281474976710656) (C : Nat) (hC : C ≤ Ba) :
    Calls Try.prog 18 #[.pointer (some ⟨t, 0, none⟩), .string key, .string val] w fun e w' => e = .returned (.tuple #[.string (valL key la), .bool (foundL key la)]) ∧ Below C w w' ∧ DuoS w' Ba Br t r m (putL key val la) lb := by
  obtain ⟨Z, v, h⟩ := h
  refine (put_z w Ba Z t m key val la h.tz hm hm2 hl hk hv).mono ?_
  rintro e w' ⟨rfl, ho, Z', hz, hzz⟩
  exact ⟨rfl, h.tz.below ho hC, Z', v, h.left ho hz hzz⟩
theorem duo_putB {w : World} {Ba Br t r m : Nat} {la lb : List It} (h : DuoS w Ba Br t r m la lb) (key val : ByteArray) (hs : Srt lb) (hl : lb.length ≤ 4000000000) (C : Nat) (hC : C ≤ Br) :
    Calls Try.prog 26 #[.pointer (some ⟨r, 0, none⟩), .string key, .string val] w fun e w' => e = .returned (.tuple #[.string (valL key lb), .bool (foundL key lb)]) ∧ Below C w w' ∧ DuoS w' Ba Br t r m la (putL key val lb) := by
  obtain ⟨Z, v, h⟩ := h
  refine (rput_any w Br r m v lb key val h.rt hs hl).mono ?_
  rintro e w' ⟨rfl, ho, v', hr, hv⟩
  exact ⟨rfl, h.belowR ho hC, Z, v', h.right ho hr hv⟩
theorem duo_delA {w : World} {Ba Br t r m : Nat} {la lb : List It} (h : DuoS w Ba Br t r m la lb) (key : ByteArray) (hm : 4 ≤ m) (hm2 : m ≤ 64) (hl : la.length ≤ 4000000000) (C : Nat) (hC : C ≤ Ba) :
    Calls Try.prog 17 #[.pointer (some ⟨t, 0, none⟩), .string key] w fun e w' => e = .returned (.tuple #[.string (valL key la), .bool (foundL key la)]) ∧ Below C w w' ∧ DuoS w' Ba Br t r m (delL key la) lb := by
  obtain ⟨Z, v, h⟩ := h
  refine (del_z w Ba Z t m key la h.tz hm hm2 hl).mono ?_
  rintro e w' ⟨rfl, ho, Z', hz, hzz⟩
  exact ⟨rfl, h.tz.below ho hC, Z', v, h.left ho hz hzz⟩
theorem duo_delB {w : World} {Ba Br t r m : Nat} {la lb : List It} (h : DuoS w Ba Br t r m la lb) (key : ByteArray) (hs : Srt lb) (hl : lb.length ≤ 4000000000) (C : Nat) (hC : C ≤ Br) :
    Calls Try.prog 27 #[.pointer (some ⟨r, 0, none⟩), .string key] w fun e w' => e = .returned (.tuple #[.string (valL key lb), .bool (foundL key lb)]) ∧ Below C w w' ∧ DuoS w' Ba Br t r m la (delL key lb) := by
  obtain ⟨Z, v, h⟩ := h
  cases hf : foundL key lb with
  | true =>
    refine (rdel_old w Br r m v lb key h.rt hs hl hf).mono ?_
    rintro e w' ⟨rfl, ho, v', hr, hv⟩
    refine ⟨rfl, h.belowR ho hC, Z, v', ?_⟩
    unfold delL
    rw [hf]
    exact h.right ho hr fun k hk => Or.inl (hv ▸ hk)
  | false =>
    refine (rdel_none w Br r m v lb key h.rt hs hl hf).mono ?_
    rintro e w' ⟨rfl, hw⟩
    subst hw
    refine ⟨by unfold valL; rw [hf]; rfl, Below.refl _ _, Z, v, ?_⟩
    unfold delL
    rw [hf]
    exact h
theorem DuoS.later {w w' : World} {Ba Br t r m : Nat} {la lb : List It} (h : DuoS w Ba Br t r m la lb) (hb : Below w.heap.size w w') : DuoS w' Ba Br t r m la lb := by
  obtain ⟨Z, v, h⟩ := h
  exact ⟨Z, v, h.later hb⟩
theorem DuoS.srt {w : World} {Ba Br t r m : Nat} {la lb : List It} (h : DuoS w Ba Br t r m la lb) : Srt la := by
  obtain ⟨Z, v, h⟩ := h
  exact h.srt
theorem mem_delL {key : ByteArray} {l : List It} (hs : Srt l) {x : It} (h : x ∈ delL key l) : x ∈ l ∧ x.key ≠ key := by
  unfold delL at h
  cases hf : foundL key l with
  | false =>
    rw [hf] at h
    exact ⟨h, fun e => by rw [(found_iff hs).2 ⟨x, h, e⟩] at hf; cases hf⟩
  | true =>
    rw [hf, if_pos rfl] at h
    refine ⟨(cutL_sub key l).subset h, ?_⟩
    have hlt := found_lt hf
    have hke : (l[cntL key l]).key = key := by
      rw [foundL_at hlt] at hf
      exact of_decide_eq_true hf
    unfold cutL at h
    rcases List.mem_append.1 h with h | h
    · exact kl_ne ((cntL_cut hs).1 x h)
    · obtain ⟨i, hi, rfl⟩ := List.getElem_of_mem h
      rw [List.length_drop] at hi
      rw [List.getElem_drop]
      have := List.pairwise_iff_getElem.1 hs (cntL key l) (cntL key l + 1 + i) hlt (by omega) (by omega)
      rw [hke] at this
      exact fun e => kl_ne this e.symm
/-- The index that is meant. -/
def idx7 (c : Int) (n j : Nat) : Nat := (((j : Int) + c) % (n : Int)).toNat
theorem idx7_lt (c : Int) {n : Nat} (hn : 0 < n) (j : Nat) : idx7 c n j < n := by
  unfold idx7
  have h1 := Int.emod_nonneg ((j : Int) + c) (b := (n : Int)) (by omega)
  have h2 := Int.emod_lt_of_pos ((j : Int) + c) (b := (n : Int)) (by omega)
  omega
theorem idx7_all (c : Int) {n q : Nat} (hq : q < n) : ∃ j, j < n ∧ idx7 c n j = q := by
  have h1 := Int.emod_nonneg ((q : Int) - c) (b := (n : Int)) (by omega)
  have h2 := Int.emod_lt_of_pos ((q : Int) - c) (b := (n : Int)) (by omega)
  refine ⟨(((q : Int) - c) % (n : Int)).toNat, by omega, ?_⟩
  unfold idx7
  have e : (((((q : Int) - c) % (n : Int)).toNat : Nat) : Int) = ((q : Int) - c) % (n : Int) := by omega
  rw [e, Int.emod_add_emod, show (q : Int) - c + c = (q : Int) by omega, Int.emod_eq_of_lt (by omega) (by omega)]
  rfl
theorem tmod_emod (a : Int) {n : Nat} (hn : 0 < n) : (a.tmod n < 0 → a.tmod n + n = a % n) ∧ (¬ a.tmod n < 0 → a.tmod n = a % n) := by
  have h1 : a = n * a.tdiv n + a.tmod n := (Int.mul_tdiv_add_tmod a n).symm
  have h3 := Int.tmod_lt_of_pos a (b := (n : Int)) (by omega)
  have h4 : -(n : Int) < a.tmod n := Int.lt_tmod_of_pos a (by omega)
  constructor
  · intro h
    have e : a % n = (a.tmod n + n) % n := by
      conv => lhs; rw [h1]
      rw [Int.add_comm, Int.add_mul_emod_self_left, Int.add_emod_right]
    rw [e, Int.emod_eq_of_lt (by omega) (by omega)]
  · intro h
    have e : a % n = (a.tmod n) % n := by
      conv => lhs; rw [h1]
      rw [Int.add_comm, Int.add_mul_emod_self_left]
    rw [e, Int.emod_eq_of_lt (by omega) (by omega)]
end Go.Proofs.Ytlpannicklkghaa
/- Walks of layer 7: the document's tree, List. -/
namespace Go.Proofs.Ytlpannicklkghaa
open Go.RowKit

set_option maxHeartbeats 8000000 in
set_option maxRecDepth 100000 in
theorem rlist_any (w : World) (B r m : Nat) (v : Value) (l : List It) (frm to : ByteArray) (most : Int) (h : RtAt w B r m v l) (hs : Srt l) (hl : l.length ≤ 4000000000) :
    Calls Try.prog 31 #[.pointer (some ⟨r, 0, none⟩), .string frm, .string to, .int .i64 most] w fun e w' => Below w.heap.size w w' ∧ ∃ v, e = .returned v ∧ w'.ownsRow w.heap.size 27 2 v (listL frm to most l).length (pc (listL frm to most l)) := by
  obtain ⟨i0, hif, hz0, hz1, hz2⟩ := info_parts Try.infoPair
  have HP := place_any w B r m v l frm h hs (by omega)
  obtain ⟨p, cap, rfl, hcap, _⟩ := prow_form h.row
  have HR : Hid (∀ w', Below w.heap.size w w' → RtAt w' B r m (.slice p l.length cap) l) := fun w' hb => h.later hb
  have hcl := cntL_le frm l
  obtain ⟨c, hc⟩ : ∃ c, cntL frm l = c := ⟨_, rfl⟩
  have HL0 : Hid (listL frm to most l = tellL to most (l.drop c)) := by rw [← hc]; rfl
  rw [hc] at hcl HP
  obtain ⟨L, hL⟩ : ∃ L, listL frm to most l = L := ⟨_, rfl⟩
  rw [hL] at HL0 ⊢
  clear h hs hc hL
  go_enter Try.func31, Try.ntmps31
  go_wp2_with fail
  refine HP.mono ?_
  rintro e w1 ⟨rfl, hw1⟩
  subst hw1
  go_wp2_with fail
  go_loopw [9, 10] (fun v q wr => ∃ (done : List It) (k : Nat), k = c + done.length ∧ L = done ++ tellL to (most - done.length) (l.drop k) ∧ k ≤ l.length ∧ q = .int .i64 (k : Int) ∧ Below w1.heap.size w1 wr ∧ wr.ownsRow w1.heap.size 27 2 v done.length (pc done)) (fun v _ _ => l.length - vLen v)
  case atStart => exact ⟨[], c, rfl, by rw [HL0.out]; simp, hcl, rfl, Below.refl _ _, World.ownsRow_nil _ _ _ _⟩
  case round =>
    obtain ⟨done, k, hk, hlist, hlen, rfl, hb, hrow⟩ := hrel
    obtain ⟨pv, cap2, rfl, hcap2, hcap3⟩ := prow_form hrow
    have c1 := (HR.out wr hb).c1
    have HB : Hid (Below w1.heap.size w1 wr) := hb
    have HRW : Hid (wr.ownsRow w1.heap.size 27 2 (.slice pv done.length cap2) done.length (pc done)) := hrow
    have HL : Hid (L = done ++ tellL to (most - done.length) (l.drop k)) := hlist
    have HK : Hid (k = c + done.length) := hk
    have hdk : done.length ≤ k := by omega
    have hbs := hb.size
    clear hb hrow hlist hk
    by_cases hkl : k < l.length
    · have hkli : (k : Int) < (l.length : Int) := by omega
      obtain ⟨g, gc, eg, _, _, _, hcc, _⟩ := prow_at (HR.out wr HB.out).row (by omega)
      simp only [Value.slice.injEq] at eg
      obtain ⟨rfl, _, rfl⟩ := eg
      obtain ⟨d0, d1⟩ := hcc k hkl
      obtain ⟨x, hx⟩ : ∃ x, l[k] = x := ⟨_, rfl⟩
      rw [hx] at d0 d1
      have HX : Hid (l.drop k = x :: l.drop (k + 1)) := by rw [← hx]; exact List.drop_eq_getElem_cons hkl
      clear hcc hx
      by_cases hmo : (done.length : Int) < most
      · have hcs : (to.toList.isEmpty = false ∧ ¬ to.toList = [] ∧ Op.bytesLess x.key.toList to.toList = false) ∨ (to.toList.isEmpty = true ∧ to.toList = []) ∨ (to.toList.isEmpty = false ∧ ¬ to.toList = [] ∧ Op.bytesLess x.key.toList to.toList = true) := by
          cases to.toList with
          | nil => exact Or.inr (Or.inl ⟨rfl, rfl⟩)
          | cons a rr =>
            cases Op.bytesLess x.key.toList (a :: rr) with
            | true => exact Or.inr (Or.inr ⟨rfl, by simp, rfl⟩)
            | false => exact Or.inl ⟨rfl, by simp, rfl⟩
        have HUN : Hid (untilB to x.key = (to.toList.isEmpty || Op.bytesLess x.key.toList to.toList)) := rfl
        rcases hcs with ⟨h1, h2, h3⟩ | hcs
        · go_wp2
          go_ret
          refine ⟨HB.out, _, rfl, ?_⟩
          have e := HL.out
          have hu := HUN.out
          rw [h1, h3] at hu
          rw [HX.out, tellL_stop hu, List.append_nil] at e
          rw [e]
          exact HRW.out
        · have hut : untilB to x.key = true := by
            rw [HUN.out]
            rcases hcs with ⟨h1, h2⟩ | ⟨h1, h2, h3⟩
            · rw [h1]; rfl
            · rw [h3, Bool.or_true]
          have HNX : Hid (L = (done ++ [x]) ++ tellL to (most - ((done ++ [x]).length : Int)) (l.drop (c + (done ++ [x]).length))) := by
            have hh := HL.out
            rw [HX.out, tellL_cons hut (by omega)] at hh
            have e1 : (done ++ [x]).length = done.length + 1 := by rw [List.length_append]; rfl
            rw [e1, show c + (done.length + 1) = k + 1 by have := HK.out; omega, List.append_assoc]
            have e2 : most - ((done.length + 1 : Nat) : Int) = most - (done.length : Int) - 1 := by omega
            rw [e2]
            exact hh
          clear hut
          rcases hcs with ⟨h1, h2⟩ | ⟨h1, h2, h3⟩
          all_goals
            go_wp2_with (at_builtin; go_must (refine wpList_append_lies _ rfl _ _ 22 rfl w1.heap.size 27 i0 _ 2 32 Try.underlying22 hif hz0 hz1 hz2 rfl (by decide) _ _ _ rfl (HRW.out.alloc _) ⟨wr.heap.size, 0, none⟩ 1 1 [.string x.key, .string x.val] rfl rfl (pair_cells wr x.key x.val) (by intro u hu; simp at hu; rcases hu with rfl | rfl <;> rfl) Nat.one_pos (by unfold maxLen; omega) (by omega) (by simp; omega) _ rfl ?_); intro g5 cap5 w5 hown5 hgrow5 hor5 hlt5)
            have hb5 : Below w1.heap.size w1 w5 := (HB.out.alloc hbs _).grown hgrow5 (by simp; omega) (fun j hj => (HRW.out.lt j hj).1)
            have e1 : (done ++ [x]).length = done.length + 1 := by rw [List.length_append]; rfl
            refine ⟨⟨done ++ [x], k + 1, by rw [e1]; have := HK.out; omega, by have h9 := HNX.out; rw [e1, show c + (done.length + 1) = k + 1 by have := HK.out; omega] at h9; rw [e1]; exact h9, by omega, by first | rfl | go_num, hb5, ?_⟩, ?_⟩
            · rw [e1, pc_append]
              exact hown5
            · simp only [vLen]
              omega
      · go_wp2
        go_ret
        refine ⟨HB.out, _, rfl, ?_⟩
        have e := HL.out
        rw [tellL_zero _ (by omega), List.append_nil] at e
        rw [e]
        exact HRW.out
    · have hkli : ¬ (k : Int) < (l.length : Int) := by omega
      go_wp2
      go_ret
      refine ⟨HB.out, _, rfl, ?_⟩
      have e := HL.out
      rw [List.drop_eq_nil_of_le (by omega), tellL_nil, List.append_nil] at e
      rw [e]
      exact HRW.out
end Go.Proofs.Ytlpannicklkghaa
/- Walks of layer 7: the document's cursor. -/
namespace Go.Proofs.Ytlpannicklkghaa
open Go.RowKit

/-- The document's cursor in memory. -/
structure RcAt (w : World) (c r : Nat) (frm : ByteArray) (told : Bool) (last : ByteArray) : Prop where
  cells : w.heap[c]? = some (.cells #[.pointer (some ⟨r, 0, none⟩), .string frm, .bool told, .string last] 79 (0, 0))
theorem RcAt.lt {w : World} {c r : Nat} {frm last : ByteArray} {told : Bool} (h : RcAt w c r frm told last) : c < w.heap.size := (Array.getElem?_eq_some_iff.1 h.cells).1
theorem RcAt.kept {w w' : World} {c r : Nat} {frm last : ByteArray} {told : Bool} (h : RcAt w c r frm told last) (hk : w'.heap[c]? = w.heap[c]?) : RcAt w' c r frm told last := ⟨hk.trans h.cells⟩
theorem RcAt.later {w w' : World} {c r : Nat} {frm last : ByteArray} {told : Bool} (h : RcAt w c r frm told last) (hb : Below w.heap.size w w') : RcAt w' c r frm told last := h.kept (hb.block _ h.lt)
/-- From where on the document's cursor tells. -/
def rcF (frm : ByteArray) (told : Bool) (last : ByteArray) : ByteArray := if told then nextK last else frm
/-- A cursor that tells from one key on. -/
def RcF (w : World) (c r : Nat) (f : ByteArray) : Prop := ∃ frm told last, RcAt w c r frm told last ∧ rcF frm told last = f ∧ last.size ≤ 281474976710656
theorem RcF.kept {w w' : World} {c r : Nat} {f : ByteArray} (h : RcF w c r f) (hk : w'.heap[c]? = w.heap[c]?) : RcF w' c r f := by
  obtain ⟨a, b, d, h1, h2⟩ := h
  exact ⟨a, b, d, h1.kept hk, h2⟩
theorem RcF.lt {w : World} {c r : Nat} {f : ByteArray} (h : RcF w c r f) : c < w.heap.size := by
  obtain ⟨a, b, d, h1, h2⟩ := h
  exact h1.lt
theorem RcF.later {w w' : World} {c r : Nat} {f : ByteArray} (h : RcF w c r f) (hb : Below w.heap.size w w') : RcF w' c r f := h.kept (hb.block _ h.lt)

set_option maxHeartbeats 8000000 in
set_option maxRecDepth 100000 in
theorem rnext_any (w : World) (B c r m : Nat) (v : Value) (f : ByteArray) (l : List It) (hc : RcF w c r f) (h : RtAt w B r m v l) (hs : Srt l) (hl : l.length ≤ 4000000000) (hz : ∀ y ∈ l, y.key.size ≤ 281474976710656) :
    Calls Try.prog 30 #[.pointer (some ⟨c, 0, none⟩)] w fun e w' => Only (fun k => k = c) w w' ∧ e = .returned (nextV (l.drop (cntL f l))) ∧ RcF w' c r (nextF f (l.drop (cntL f l))) := by
  obtain ⟨frm, told, last, hc, hf, hls⟩ := hc
  have HP : Hid (∀ w0 key, Below w.heap.size w w0 → Calls Try.prog 43 #[.pointer (some ⟨r, 0, none⟩), .string key] w0 fun e w' => e = .returned (.int .i64 (cntL key l : Int)) ∧ w' = w0) := fun w0 key hb => place_any w0 B r m v l key (h.later hb) hs (by omega)
  obtain ⟨p, cap, rfl, hcap, _⟩ := prow_form h.row
  have hne : ¬ c = r := fun e => by
    have h1 := hc.cells
    rw [e, h.cells] at h1
    simp at h1
  have hne2 : ∀ g, p = some ⟨g, 0, none⟩ → ¬ g = c := fun g e e2 => own_ne h.row hc.cells (by decide) (by rw [e, ← e2]; rfl)
  have HR : Hid (RtAt w B r m (.slice p l.length cap) l) := h
  have HC : Hid (RcAt w c r frm told last) := hc
  have c1 := h.c1
  have k0 : w.cell? ⟨c, 0, none⟩ = some (.pointer (some ⟨r, 0, none⟩)) := by simp [World.cell?, hc.cells]
  have k1 : w.cell? ⟨c, 1, none⟩ = some (.string frm) := by simp [World.cell?, hc.cells]
  have k2 : w.cell? ⟨c, 2, none⟩ = some (.bool told) := by simp [World.cell?, hc.cells]
  have k3 : w.cell? ⟨c, 3, none⟩ = some (.string last) := by simp [World.cell?, hc.cells]
  have kf : ∀ o, w.frozen? ⟨c, o, none⟩ = false := fun o => by simp [World.frozen?, hc.cells]
  have hcl := cntL_le f l
  obtain ⟨n, hn⟩ : ∃ n, cntL f l = n := ⟨_, rfl⟩
  have HN : Hid (cntL f l = n) := hn
  have HF : Hid (rcF frm told last = f) := hf
  rw [hn] at hcl ⊢
  have HZ : Hid (∀ y ∈ l, y.key.size ≤ 281474976710656) := hz
  clear h hs hc hn hf hz
  go_enter Try.func30, Try.ntmps30
  go_wp2_with fail
  go_quiet ((go_at_call 43; refine Calls.quiet_of_same (HP.out _ _ (below_drewN (Below.refl _ _) _))))
  obtain ⟨w1, hw1⟩ : ∃ w1, w.drewN nq = w1 := ⟨_, rfl⟩
  have HH1 : Hid (w1.heap = w.heap) := by rw [← hw1]; exact (rfl : _ = _)
  have HB1 : Hid (Below w.heap.size w w1) := by rw [← hw1]; exact below_drewN (Below.refl _ _) _
  have k0 := cell_at (congrArg (·[c]?) HH1.out) k0
  have k2 := cell_at (congrArg (·[c]?) HH1.out) k2
  have k3 := cell_at (congrArg (·[c]?) HH1.out) k3
  rw [hw1]
  clear hw1
  rcases told with _ | _
  rotate_left
  · have hcf : cntL (last ++ ⟨#[0]⟩) l = n := by rw [← HN.out, ← HF.out]; rfl
    go_wp2_with fail
    go_quiet ((go_at_call 43; refine Calls.quiet_of_same (HP.out _ _ (below_two HB1.out (below_drewN (Below.refl _ _) _)))))
    rw [hcf]
    obtain ⟨w2, hw2⟩ : ∃ w2, w1.drewN nq = w2 := ⟨_, rfl⟩
    have HH2 : Hid (w2.heap = w.heap) := by rw [← hw2]; exact HH1.out
    have HB2 : Hid (Below w.heap.size w w2) := by rw [← hw2]; exact below_two HB1.out (below_drewN (Below.refl _ _) _)
    have k0 := cell_at (congrArg (·[c]?) (HH2.out.trans HH1.out.symm)) k0
    have k2 := cell_at (congrArg (·[c]?) (HH2.out.trans HH1.out.symm)) k2
    have k3 := cell_at (congrArg (·[c]?) (HH2.out.trans HH1.out.symm)) k3
    rw [hw2]
    clear hw2
    have c1 := cell_at (congrArg (·[r]?) HH2.out) c1
    clear hcf
    by_cases hnl : n < l.length
    · have hnli : (n : Int) < (l.length : Int) := by omega
      have hrow := own_kept HR.out.row fun k hk => congrArg (·[k]?) HH2.out
      obtain ⟨g, gc, eg, _, _, _, hcc, _⟩ := prow_at hrow (by omega)
      simp only [Value.slice.injEq] at eg
      obtain ⟨rfl, _, rfl⟩ := eg
      have hgc : ¬ g = c := hne2 g rfl
      obtain ⟨d0, d1⟩ := hcc n hnl
      obtain ⟨x, hx⟩ : ∃ x, l[n] = x := ⟨_, rfl⟩
      rw [hx] at d0 d1
      have HX : Hid (l.drop n = x :: l.drop (n + 1)) := by rw [← hx]; exact List.drop_eq_getElem_cons hnl
      have HXM : Hid (x.key.size ≤ 281474976710656) := HZ.out x (by rw [← hx]; exact List.getElem_mem _)
      have f2 : ∀ o, w2.frozen? ⟨c, o, none⟩ = false := fun o => by simp [World.frozen?, HH2.out, HC.out.cells]
      have hcg : ¬ c = g := fun e => hgc e.symm
      have hrc : ¬ r = c := fun e => hne e.symm
      clear hcc hx hrow hne2
      go_wp2_with fail
      go_quiet (fail)
      go_wp2
      refine bodyPost_ret (v := .tuple #[.string x.key, .string x.val, .bool true]) (by simp [results, Try.results30, go_sem]) rfl ?_
      rw [HX.out]
      refine ⟨(((Only.of HB2.out : Only (fun k => k = c) w w2).setCell (p := ⟨c, 2, none⟩) rfl _).setCell (p := ⟨c, 3, none⟩) rfl _).later (below_drewN (Below.refl _ _) _), rfl, frm, true, x.key, ⟨?_⟩, rfl, HXM.out⟩
      show ((w2.setCell ⟨c, 2, none⟩ _).setCell ⟨c, 3, none⟩ _).heap[c]? = _
      rw [heap_setCell_at (heap_setCell_at ((congrArg (·[c]?) HH2.out).trans HC.out.cells) _)]
      simp
    · have hnli : ¬ (n : Int) < (l.length : Int) := by omega
      have hnli2 : (l.length : Int) ≤ (n : Int) := by omega
      go_wp2
      refine bodyPost_ret (v := .tuple #[.string ⟨#[]⟩, .string ⟨#[]⟩, .bool false]) (by simp [results, Try.results30, go_sem]) rfl ?_
      rw [List.drop_eq_nil_of_le (by omega)]
      exact ⟨Only.of HB2.out, rfl, frm, true, last, HC.out.later HB2.out, HF.out, hls⟩
  · have hcf : cntL frm l = n := by rw [← HN.out, ← HF.out]; rfl
    rw [hcf]
    have c1 := cell_at (congrArg (·[r]?) HH1.out) c1
    clear hcf
    by_cases hnl : n < l.length
    · have hnli : (n : Int) < (l.length : Int) := by omega
      have hrow := own_kept HR.out.row fun k hk => congrArg (·[k]?) HH1.out
      obtain ⟨g, gc, eg, _, _, _, hcc, _⟩ := prow_at hrow (by omega)
      simp only [Value.slice.injEq] at eg
      obtain ⟨rfl, _, rfl⟩ := eg
      have hgc : ¬ g = c := hne2 g rfl
      obtain ⟨d0, d1⟩ := hcc n hnl
      obtain ⟨x, hx⟩ : ∃ x, l[n] = x := ⟨_, rfl⟩
      rw [hx] at d0 d1
      have HX : Hid (l.drop n = x :: l.drop (n + 1)) := by rw [← hx]; exact List.drop_eq_getElem_cons hnl
      have HXM : Hid (x.key.size ≤ 281474976710656) := HZ.out x (by rw [← hx]; exact List.getElem_mem _)
      have f2 : ∀ o, w1.frozen? ⟨c, o, none⟩ = false := fun o => by simp [World.frozen?, HH1.out, HC.out.cells]
      have hcg : ¬ c = g := fun e => hgc e.symm
      have hrc : ¬ r = c := fun e => hne e.symm
      clear hcc hx hrow hne2
      go_wp2_with fail
      go_quiet (fail)
      go_wp2
      refine bodyPost_ret (v := .tuple #[.string x.key, .string x.val, .bool true]) (by simp [results, Try.results30, go_sem]) rfl ?_
      rw [HX.out]
      refine ⟨(((Only.of HB1.out : Only (fun k => k = c) w w1).setCell (p := ⟨c, 2, none⟩) rfl _).setCell (p := ⟨c, 3, none⟩) rfl _).later (below_drewN (Below.refl _ _) _), rfl, frm, true, x.key, ⟨?_⟩, rfl, HXM.out⟩
      show ((w1.setCell ⟨c, 2, none⟩ _).setCell ⟨c, 3, none⟩ _).heap[c]? = _
      rw [heap_setCell_at (heap_setCell_at ((congrArg (·[c]?) HH1.out).trans HC.out.cells) _)]
      simp
    · have hnli : ¬ (n : Int) < (l.length : Int) := by omega
      have hnli2 : (l.length : Int) ≤ (n : Int) := by omega
      go_wp2
      refine bodyPost_ret (v := .tuple #[.string ⟨#[]⟩, .string ⟨#[]⟩, .bool false]) (by simp [results, Try.results30, go_sem]) rfl ?_
      rw [List.drop_eq_nil_of_le (by omega)]
      exact ⟨Only.of HB1.out, rfl, frm, false, last, HC.out.later HB1.out, HF.out, hls⟩
end Go.Proofs.Ytlpannicklkghaa
/- Walks of layer 7: same. -/
namespace Go.Proofs.Ytlpannicklkghaa
open Go.RowKit

noncomputable def sameB (l s : List Pr) : Bool := @decide (l = s) (Classical.propDecidable _)
theorem sameB_iff (l s : List Pr) : sameB l s = true ↔ l = s := by
  unfold sameB
  exact @decide_eq_true_iff _ (Classical.propDecidable _)
theorem sameB_no {l s : List Pr} (h : l ≠ s) : sameB l s = false := by
  cases e : sameB l s with
  | false => rfl
  | true => exact absurd ((sameB_iff l s).1 e) h
set_option maxHeartbeats 16000000 in
set_option maxRecDepth 100000 in
theorem same7_any (w : World) (p q : Option Addr) (c d : Nat) (l s : List Pr) (hl : l.length ≤ 281474976710656) (hs : s.length ≤ 281474976710656) (hp : PRow w p l) (hq : PRow w q s) :
    Calls Try.prog 13 #[.slice p l.length c, .slice q s.length d] w fun e w' => e = .returned (.bool (sameB l s)) ∧ Below w.heap.size w w' := by
  have HP : Hid (PRow w p l) := hp
  have HQ : Hid (PRow w q s) := hq
  clear hp hq
  go_enter Try.func13, Try.ntmps13
  by_cases hne : l.length = s.length
  · have hnei : (l.length : Int) = (s.length : Int) := by omega
    go_wp2
    go_loopw [5] (fun i wr => ∃ (k : Nat), k ≤ l.length ∧ i = .int .i64 (k : Int) ∧ (∀ j (h : j < l.length) (h' : j < s.length), j < k → l[j] = s[j]) ∧ Below w.heap.size w wr) (fun i _ => l.length - (intOf i).toNat)
    case atStart => exact ⟨0, Nat.zero_le _, rfl, fun j _ _ h => absurd h (Nat.not_lt_zero _), Below.refl _ _⟩
    case round =>
      obtain ⟨k, hk, rfl, hall, hb⟩ := hrel
      have HA : Hid (∀ j (h : j < l.length) (h' : j < s.length), j < k → l[j] = s[j]) := hall
      have HB : Hid (Below w.heap.size w wr) := hb
      clear hall hb
      by_cases hlt : k < l.length
      · have hlti : (k : Int) < (l.length : Int) := by omega
        have hlti2 : (k : Int) < (s.length : Int) := by omega
        obtain ⟨b, off, rfl, d0, d1⟩ := (HP.out.later HB.out) k hlt
        obtain ⟨b2, off2, rfl, f0, f1⟩ := (HQ.out.later HB.out) k (by omega)
        obtain ⟨x, hx⟩ : ∃ x, l[k] = x := ⟨_, rfl⟩
        obtain ⟨y, hy⟩ : ∃ y, s[k]'(by omega) = y := ⟨_, rfl⟩
        rw [hx] at d0 d1
        rw [hy] at f0 f1
        have HXY : Hid (∀ (h : k < l.length) (h' : k < s.length), l[k]'h = x ∧ s[k]'h' = y) := fun _ _ => ⟨hx, hy⟩
        clear hx hy
        by_cases hxy : x = y
        · subst hxy
          go_wp2
          go_quiet (fail)
          go_wp2
          go_roundw
          case rel =>
            refine ⟨k + 1, by omega, by go_num, fun j h h' hj => ?_, below_drewN HB.out _⟩
            by_cases e : j = k
            · subst e
              rw [(HXY.out h h').1, (HXY.out h h').2]
            · exact HA.out j h h' (by omega)
          case measure => simp [intOf]; omega
        · have HE : Hid (sameB l s = false) := sameB_no fun e => by
            subst e
            exact hxy ((HXY.out hlt hlt).1.symm.trans (HXY.out hlt hlt).2)
          have hcs : (x.1.toList == y.1.toList) = false ∨ ((x.1.toList == y.1.toList) = true ∧ (x.2.toList == y.2.toList) = false) := by
            by_cases e1 : x.1 = y.1
            · by_cases e2 : x.2 = y.2
              · exact absurd (Prod.ext e1 e2) hxy
              · exact Or.inr ⟨by rw [e1]; simp, by rw [beq_eq_false_iff_ne]; exact fun h => e2 (ba_inj h)⟩
            · exact Or.inl (by rw [beq_eq_false_iff_ne]; exact fun h => e1 (ba_inj h))
          clear hxy HA
          rcases hcs with e1 | ⟨e1, e2⟩
          all_goals
            go_wp2
            go_quiet (fail)
            go_wp2
            go_ret
            exact ⟨ret_bool HE.out.symm, below_drewN HB.out _⟩
      · have hlti : ¬ (k : Int) < (l.length : Int) := by omega
        go_wp2
        go_ret
        exact ⟨ret_bool ((sameB_iff l s).2 (List.ext_getElem hne fun j h h' => HA.out j h h' (by omega))).symm, HB.out⟩
  · have hnei : ¬ (l.length : Int) = (s.length : Int) := by omega
    go_wp2
    go_ret
    exact ⟨ret_bool (sameB_no fun h => hne (congrArg List.length h)).symm, Below.refl _ _⟩
end Go.Proofs.Ytlpannicklkghaa
/- Plain mathematics of layer 7: parts of a list; the key behind a key. -/
namespace Go.Proofs.Ytlpannicklkghaa

theorem bl_next : ∀ k y : List UInt8, Op.bytesLess y (k ++ [0]) = !(Op.bytesLess k y)
  | [], [] => by simp [Op.bytesLess]
  | [], b :: y => by
    have h : ¬ b < 0 := by simp
    simp only [List.nil_append, Op.bytesLess]
    cases y <;> simp
  | a :: k, [] => by simp [Op.bytesLess]
  | a :: k, b :: y => by
    have ih := bl_next k y
    simp only [List.cons_append, Op.bytesLess, ih]
    by_cases e : a = b
    · subst e
      simp
    · have e' : ¬ b = a := fun h => e h.symm
      by_cases h : b < a
      · have h2 : ¬ a < b := fun h3 => by
          have h4 : b.toNat < a.toNat := h
          have h5 : a.toNat < b.toNat := h3
          omega
        simp [h, h2, e]
      · have h2 : a < b := by
          have h3 : ¬ b.toNat < a.toNat := h
          have h4 : a.toNat ≠ b.toNat := fun h5 => e (UInt8.toNat_inj.1 h5)
          show a.toNat < b.toNat
          omega
        simp [h, h2, e']
theorem kl_next (k y : ByteArray) : kl y (nextK k) = !(kl k y) := by
  unfold kl nextK
  have e : (k ++ (⟨#[0]⟩ : ByteArray)).toList = k.toList ++ [0] := by
    rw [ByteArray.toList_eq, ByteArray.toList_eq]
    simp
  rw [e]
  exact bl_next _ _
theorem cntL_eq {key : ByteArray} {P S : List It} (hP : ∀ x ∈ P, kl x.key key = true) (hS : ∀ x ∈ S, kl x.key key = false) : cntL key (P ++ S) = P.length := by
  rw [cntL_append hP]
  cases S with
  | nil => rfl
  | cons x r => rw [cntL, hS x (by simp)]; rfl
/-- The items behind the first one from a key on. -/
theorem next_drop {L : List It} (hs : Srt L) {frm : ByteArray} {x : It} {r : List It} (h : L.drop (cntL frm L) = x :: r) : L.drop (cntL (nextK x.key) L) = r := by
  have e : L = L.take (cntL frm L) ++ [x] ++ r := by
    conv => lhs; rw [← List.take_append_drop (cntL frm L) L, h]
    simp
  have hp : (L.take (cntL frm L) ++ [x] ++ r).Pairwise fun a b => kl a.key b.key = true := by rw [← e]; exact hs
  have hp2 := List.pairwise_append.1 hp
  have hp3 := List.pairwise_append.1 hp2.1
  have hc : cntL (nextK x.key) L = (L.take (cntL frm L) ++ [x]).length := by
    conv => lhs; rw [e]
    refine cntL_eq (fun y hy => ?_) fun y hy => ?_
    · rw [kl_next]
      rcases List.mem_append.1 hy with h1 | h1
      · rw [kl_asymm (hp3.2.2 y h1 x (by simp))]; rfl
      · simp at h1; subst h1; rw [kl_irrefl]; rfl
    · rw [kl_next, hp2.2.2 x (by simp) y hy]; rfl
  have h9 : (L.take (cntL frm L) ++ [x] ++ r).drop (L.take (cntL frm L) ++ [x]).length = r := List.drop_left' rfl
  rw [← e] at h9
  rw [hc]
  exact h9
theorem take_while_srt {to : ByteArray} : ∀ {r : List It}, Srt r → ∀ x, x ∈ r.takeWhile (fun y => untilB to y.key) ↔ x ∈ r ∧ untilB to x.key = true
  | [], _, x => by simp
  | y :: r, hs, x => by
    have hs' := List.pairwise_cons.1 hs
    rw [List.takeWhile_cons]
    cases hy : untilB to y.key with
    | true =>
      rw [if_pos rfl, List.mem_cons, take_while_srt hs'.2 x, List.mem_cons]
      constructor
      · rintro (rfl | ⟨h1, h2⟩)
        · exact ⟨Or.inl rfl, hy⟩
        · exact ⟨Or.inr h1, h2⟩
      · rintro ⟨rfl | h1, h2⟩
        · exact Or.inl rfl
        · exact Or.inr ⟨h1, h2⟩
    | false =>
      constructor
      · intro h; simp at h
      · rintro ⟨h1, h2⟩
        unfold untilB at hy h2
        rw [Bool.or_eq_false_iff] at hy
        rw [hy.1, Bool.false_or] at h2
        rcases List.mem_cons.1 h1 with rfl | h1
        · rw [hy.2] at h2; cases h2
        · have := kl_trans (hs'.1 x h1) h2
          rw [hy.2] at this
          cases this
theorem take_enough {α : Type} {m : Int} {p : α → Bool} {r : List α} (h : (r.length : Int) ≤ m) : (r.takeWhile p).take m.toNat = r.takeWhile p := by
  refine List.take_of_length_le ?_
  have := (List.takeWhile_sublist p (l := r)).length_le
  omega
theorem mem_listL {frm to : ByteArray} {m : Int} {L : List It} (hs : Srt L) (hm : (L.length : Int) ≤ m) (x : It) : x ∈ listL frm to m L ↔ x ∈ L ∧ kl x.key frm = false ∧ untilB to x.key = true := by
  have hd : Srt (L.drop (cntL frm L)) := List.Pairwise.sublist (List.drop_sublist _ _) hs
  unfold listL tellL
  rw [take_enough (by rw [List.length_drop]; omega), take_while_srt hd]
  have hc := cntL_cut (key := frm) hs
  constructor
  · rintro ⟨h1, h2⟩
    exact ⟨List.mem_of_mem_drop h1, hc.2 x h1, h2⟩
  · rintro ⟨h1, h2, h3⟩
    refine ⟨?_, h3⟩
    rw [← List.take_append_drop (cntL frm L) L] at h1
    rcases List.mem_append.1 h1 with h1 | h1
    · rw [hc.1 x h1] at h2; cases h2
    · exact h1
theorem listL_srt {frm to : ByteArray} {m : Int} {L : List It} (hs : Srt L) : Srt (listL frm to m L) := by
  unfold listL tellL
  exact List.Pairwise.sublist ((List.take_sublist _ _).trans ((List.takeWhile_sublist _).trans (List.drop_sublist _ _))) hs
theorem listL_length {frm to : ByteArray} {m : Int} {L : List It} : (listL frm to m L).length ≤ L.length := by
  unfold listL tellL
  exact ((List.take_sublist _ _).trans ((List.takeWhile_sublist _).trans (List.drop_sublist _ _))).length_le
/-- What lies between two keys is what lies up to one between them, and from it on. -/
theorem list_parts {frm mid to : ByteArray} {m : Int} {L : List It} (hs : Srt L) (hm : (L.length : Int) ≤ m) (h1 : kl mid frm = false) (h2 : mid.toList.isEmpty = false) (h3 : to.toList.isEmpty = true ∨ kl to mid = false) : listL frm mid m L ++ listL mid to m L = listL frm to m L := by
  refine srt_ext ?_ (listL_srt hs) fun x => ?_
  · refine List.pairwise_append.2 ⟨listL_srt hs, listL_srt hs, fun x hx y hy => ?_⟩
    have hx' := ((mem_listL hs hm x).1 hx).2.2
    have hy' := ((mem_listL hs hm y).1 hy).2.1
    unfold untilB at hx'
    rw [h2, Bool.false_or] at hx'
    exact kl_lt_le hx' hy'
  · rw [List.mem_append, mem_listL hs hm, mem_listL hs hm, mem_listL hs hm]
    have hu : untilB mid x.key = kl x.key mid := by unfold untilB; rw [h2, Bool.false_or]
    rw [hu]
    constructor
    · rintro (⟨a, b, c⟩ | ⟨a, b, c⟩)
      · refine ⟨a, b, ?_⟩
        unfold untilB
        rcases h3 with h3 | h3
        · rw [h3]; rfl
        · rw [kl_lt_le c h3, Bool.or_true]
      · exact ⟨a, kl_le_trans h1 b, c⟩
    · rintro ⟨a, b, c⟩
      cases hk : kl x.key mid with
      | true => exact Or.inl ⟨a, b, rfl⟩
      | false => exact Or.inr ⟨a, rfl, c⟩
/-- What Next tells behind as many of a list's items. -/
theorem tell_at {to : ByteArray} : ∀ {r : List It} {k : Nat} (h : k < (r.takeWhile fun y => untilB to y.key).length), ∃ r', r.drop k = (r.takeWhile fun y => untilB to y.key)[k] :: r'
  | y :: r, 0, h => by
    rw [List.takeWhile_cons] at h
    refine ⟨r, ?_⟩
    cases hy : untilB to y.key with
    | true => simp [hy]
    | false => rw [hy] at h; simp at h
  | y :: r, k + 1, h => by
    cases hy : untilB to y.key with
    | true =>
      have h' : k < (r.takeWhile fun y => untilB to y.key).length := by
        rw [List.takeWhile_cons, hy] at h
        simpa using h
      obtain ⟨r', e⟩ := tell_at h'
      refine ⟨r', ?_⟩
      rw [List.drop_succ_cons, e]
      simp [hy]
    | false =>
      rw [List.takeWhile_cons, hy] at h
      simp at h
theorem tell_end {to : ByteArray} : ∀ {r : List It}, ∀ x r', r.drop (r.takeWhile fun y => untilB to y.key).length = x :: r' → untilB to x.key = false
  | [], x, r', h => by simp at h
  | y :: r, x, r', h => by
    cases hy : untilB to y.key with
    | true =>
      rw [List.takeWhile_cons, hy] at h
      exact tell_end (r := r) x r' (by simpa using h)
    | false =>
      rw [List.takeWhile_cons, hy] at h
      simp at h
      rw [← h.1]
      exact hy
end Go.Proofs.Ytlpannicklkghaa
/- Walks of layer 7: the law's own lists. -/
namespace Go.Proofs.Ytlpannicklkghaa
open Go.RowKit

/-- A row of pairs of one's own, whatever it holds. -/
theorem own_front {w : World} {B n cap : Nat} {p : Option Addr} {e : TypeId} {size : Nat} {cs : List Value} (h : w.ownsRow B e size (.slice p n cap) n cs) (hn : 0 < n) : ∃ g, p = some ⟨g, 0, none⟩ ∧ B ≤ g ∧ g < w.heap.size ∧ (∀ j, j < n * size → ∃ u, w.cell? ⟨g, j, none⟩ = some u) ∧ ∀ o, w.frozen? ⟨g, o, none⟩ = false := by
  have hr := h
  obtain ⟨h1, ⟨h2, h3⟩ | ⟨g, cap', cur, e', _, _, _, _, _⟩⟩ := h
  · omega
  · simp only [Value.slice.injEq] at e'
    obtain ⟨rfl, _, rfl⟩ := e'
    refine ⟨g, rfl, (hr.lt g rfl).1, (hr.lt g rfl).2, fun j hj => ?_, fun o => hr.frozenAt o⟩
    rw [hr.cellAt j hj, List.getElem?_eq_getElem (by rw [h1]; exact hj)]
    exact ⟨_, rfl⟩

set_option maxHeartbeats 8000000 in
set_option maxRecDepth 100000 in
theorem lists_any (w : World) (Ba Br : Nat) (Z : Nat → Prop) (t r m : Nat) (v : Value) (l : List It) (frm to : ByteArray) (most : Int) (h : Duo7 w Ba Br Z t r m v l l) (hm : 4 ≤ m) (hm2 : m ≤ 64) (hl : l.length ≤ 4000000000) (hs : ∀ y ∈ l, y.key.size ≤ 281474976710656 ∧ y.val.size ≤ 281474976710656) :
    Calls Try.prog 15 #[.pointer (some ⟨t, 0, none⟩), .pointer (some ⟨r, 0, none⟩), .string frm, .string to, .int .i64 most] w fun e w' => e = .returned (.bool true) ∧ Below w.heap.size w w' := by
  obtain ⟨i0, hif, hz0, hz1, hz2⟩ := info_parts Try.infoPair
  have HA := list_z w Ba Z t m frm to most l h.tz hm hm2 hl hs
  have HB : Hid (∀ w', Below w.heap.size w w' → Calls Try.prog 31 #[.pointer (some ⟨r, 0, none⟩), .string frm, .string to, .int .i64 most] w' fun e w2 => Below w'.heap.size w' w2 ∧ ∃ v, e = .returned v ∧ w2.ownsRow w'.heap.size 27 2 v (listL frm to most l).length (pc (listL frm to most l))) := fun w' hb => rlist_any w' Br r m v l frm to most (h.rt.later hb) h.srt hl
  have hll := listL_length (frm := frm) (to := to) (m := most) (L := l)
  obtain ⟨L, hL⟩ : ∃ L, listL frm to most l = L := ⟨_, rfl⟩
  rw [hL] at HA HB hll
  clear h hs hL
  go_enter Try.func15, Try.ntmps15
  go_wp2_with fail
  refine HA.mono ?_
  rintro e w1 ⟨hb1, va, rfl, ho1⟩
  have HO1 : Hid (w1.ownsRow w.heap.size 27 2 va L.length (pc L)) := ho1
  have HB1 : Hid (Below w.heap.size w w1) := hb1
  clear ho1 hb1 HA
  go_wp2_with fail
  refine (HB.out w1 HB1.out).mono ?_
  rintro e w2 ⟨hb2, vb, rfl, ho2⟩
  have HO2 : Hid (w2.ownsRow w1.heap.size 27 2 vb L.length (pc L)) := ho2
  have HOA : Hid (w2.ownsRow w.heap.size 27 2 va L.length (pc L)) := own_kept HO1.out fun k hk => hb2.block k (HO1.out.lt k hk).2
  have HB2 : Hid (Below w.heap.size w w2) := below_two HB1.out hb2
  clear ho2 hb2
  obtain ⟨pa, ca, ea, hca, hpa⟩ := prow_row HOA.out
  obtain ⟨pb, cb, eb, hcb, hpb⟩ := prow_row HO2.out
  have HX := same7_any w2 pa pb ca cb (L.map pr) (L.map pr) (by rw [List.length_map]; omega) (by rw [List.length_map]; omega) hpa hpb
  rw [(sameB_iff _ _).2 rfl] at HX
  rw [List.length_map] at HX ea eb
  subst ea
  subst eb
  clear hpa hpb
  obtain ⟨n, hn⟩ : ∃ n, L.length = n := ⟨_, rfl⟩
  have HOA2 : Hid (w2.ownsRow w.heap.size 27 2 (.slice pa n ca) n (pc L)) := by rw [← hn]; exact HOA.out
  rw [hn] at hll hca hcb HX ⊢
  clear HOA HO2 HO1 hn
  go_wp2_with fail
  refine HX.mono ?_
  rintro e w3 ⟨rfl, hb3⟩
  have HB3 : Hid (Below w.heap.size w w3) := below_two HB2.out hb3
  have HO3 : Hid (w3.ownsRow w.heap.size 27 2 (.slice pa n ca) n (pc L)) := own_kept HOA2.out fun k hk => hb3.block k (HOA2.out.lt k hk).2
  clear hb3 HX HOA2
  dsimp only
  go_wp2_with fail
  go_loopw [14] (fun i wr => ∃ (k : Nat) (cs : List Value), i = .int .i64 (k : Int) ∧ k ≤ n ∧ Below w.heap.size w wr ∧ wr.ownsRow w.heap.size 27 2 (.slice pa n ca) n cs) (fun i _ => n - (intOf i).toNat)
  case atStart => exact ⟨0, _, rfl, Nat.zero_le _, HB3.out, HO3.out⟩
  case round =>
    obtain ⟨k, cs, rfl, hk, hb, ho⟩ := hrel
    have HBW : Hid (Below w.heap.size w wr) := hb
    have HO : Hid (wr.ownsRow w.heap.size 27 2 (.slice pa n ca) n cs) := ho
    have hbs := hb.size
    clear hb ho
    by_cases hkn : k < n
    · have hkni : (k : Int) < (n : Int) := by omega
      obtain ⟨g, rfl, hg1, hg2, hgc, hgf⟩ := own_front HO.out (by omega)
      obtain ⟨u, hu⟩ := hgc (k * 2 + 1) (by omega)
      clear hgc
      go_wp2
      refine ⟨⟨k + 1, _, by first | rfl | go_num, hkn, HBW.out.setCell hg1 _, (HO.out.stored (k * 2 + 1) _).1⟩, ?_⟩
      simp only [intOf]
      omega
    · have hkni : ¬ (k : Int) < (n : Int) := by omega
      go_wp2_with (at_builtin; go_must (refine wpList_append_lies _ rfl _ _ 22 rfl w.heap.size 27 i0 _ 2 32 Try.underlying22 hif hz0 hz1 hz2 rfl (by decide) _ _ _ rfl (HO.out.alloc _) ⟨wr.heap.size, 0, none⟩ 1 1 [.string ⟨#[109, 111, 114, 101]⟩, .string ⟨#[]⟩] rfl rfl (pair_cells wr ⟨#[109, 111, 114, 101]⟩ ⟨#[]⟩) (by intro u hu; simp at hu; rcases hu with rfl | rfl <;> rfl) Nat.one_pos (by unfold maxLen; omega) (by omega) (by simp; omega) _ rfl ?_); intro g5 cap5 w5 hown5 hgrow5 hor5 hlt5)
      have hb5 : Below w.heap.size w w5 := (HBW.out.alloc hbs _).grown hgrow5 (by simp; omega) (fun j hj => (HO.out.lt j hj).1)
      go_ret
      exact ⟨rfl, hb5⟩
end Go.Proofs.Ytlpannicklkghaa
/- Walks of layer 7: the law's own shaped. -/
namespace Go.Proofs.Ytlpannicklkghaa
open Go.RowKit

/-- Rows of numbers, whatever they hold, from the k-th on. -/
structure LW (w wr : World) (v : Value) (N : Nat) (vs : List Value) (k : Nat) : Prop where
  outer : wr.ownsRow w.heap.size 49 1 v N vs
  len : vs.length = N
  inner : ∀ i (h : i < vs.length), k ≤ i → ∃ n cs, n ≤ 4000000001 ∧ wr.ownsRow w.heap.size 3 1 vs[i] n cs
  bel : Below w.heap.size w wr
  dis : ∀ i j (hi : i < vs.length) (hj : j < vs.length), i < j → k ≤ i → ∀ g, vs[i].ownBlock = some g → vs[j].ownBlock ≠ some g
theorem LW.later {w wr w' : World} {v : Value} {vs : List Value} {N k : Nat} (h : LW w wr v N vs k) (hb : Below wr.heap.size wr w') : LW w w' v N vs k :=
  ⟨own_kept h.outer fun k e => hb.block k (h.outer.lt k e).2, h.len, fun i hi hk => by
    obtain ⟨n, cs, hn, h1⟩ := h.inner i hi hk
    exact ⟨n, cs, hn, own_kept h1 fun k e => hb.block k (h1.lt k e).2⟩, below_two h.bel hb, h.dis⟩
theorem LV.loose {w wr : World} {v : Value} {vs : List Value} {ws : List (List Nat)} (h : LV w wr v vs ws) (hl : ∀ i (h : i < ws.length), (ws[i]).length ≤ 4000000001) : LW w wr v vs.length vs 0 :=
  ⟨h.outer, rfl, fun i hi _ => ⟨_, _, hl i (by rw [← h.len]; exact hi), h.inner i hi (by rw [← h.len]; exact hi)⟩, h.bel, fun i j hi hj hij _ => List.pairwise_iff_getElem.1 h.dis i j hi hj hij⟩
/-- An inner row's block is none of the outer's. -/
theorem LW.ne {w wr : World} {v : Value} {vs : List Value} {N k i n : Nat} {cs : List Value} (h : LW w wr v N vs k) (hi : i < vs.length) (hr : wr.ownsRow w.heap.size 3 1 vs[i] n cs) (g : Nat) (hg : vs[i].ownBlock = some g) : v.ownBlock ≠ some g := by
  obtain ⟨_, ⟨e1, _⟩ | ⟨g', cap, cur, e1, _, hh, _⟩⟩ := hr
  · rw [e1] at hg; cases hg
  · rw [e1] at hg
    obtain rfl : g' = g := by simpa [Value.ownBlock] using hg
    exact own_ne h.outer hh (by decide)
/-- A number is stored in the k-th row. -/
theorem LW.store {w wr : World} {v : Value} {vs : List Value} {N k n g j : Nat} {cs : List Value} (h : LW w wr v N vs k) (hk : k < vs.length) (hr : wr.ownsRow w.heap.size 3 1 vs[k] n cs) (hn : n ≤ 4000000001) (hg : vs[k].ownBlock = some g) (u : Value) : LW w (wr.setCell ⟨g, j, none⟩ u) v N vs k := by
  refine ⟨own_kept h.outer fun q e => Below.heap_setCell _ _ _ _ fun e2 => h.ne hk hr g hg (by rw [e, show q = g from e2]), h.len, fun i hi hki => ?_, h.bel.setCell (hr.lt g hg).1 _, h.dis⟩
  rcases Nat.eq_or_lt_of_le hki with rfl | hlt
  · obtain ⟨_, ⟨e1, _⟩ | ⟨g', cap, cur, e1, _⟩⟩ := id hr
    · rw [e1] at hg; cases hg
    · rw [e1] at hg hr ⊢
      obtain rfl : g' = g := by simpa [Value.ownBlock] using hg
      exact ⟨n, _, hn, (hr.stored j u).1⟩
  · obtain ⟨n', cs', hn', h1⟩ := h.inner i hi hki
    exact ⟨n', cs', hn', own_kept h1 fun q e => Below.heap_setCell _ _ _ _ fun e2 => h.dis k i hk hi hlt (Nat.le_refl _) g hg (by rw [e, show q = g from e2])⟩
/-- The k-th row has grown. -/
theorem LW.grown {w wr w' : World} {v : Value} {vs : List Value} {N k n : Nat} {cs : List Value} (h : LW w wr v N vs k) (hk : k < vs.length) (hr : wr.ownsRow w.heap.size 3 1 vs[k] n cs) (hg : wr.grownBy w' vs[k].ownBlock) : LW w w' v N vs (k + 1) := by
  refine ⟨own_kept h.outer fun q e => hg.block q (h.outer.lt q e).2 fun e2 => h.ne hk hr q e2.symm e, h.len, fun i hi hki => ?_, h.bel.grown hg h.bel.size fun q e => (hr.lt q e).1, fun i j hi hj hij hki => h.dis i j hi hj hij (by omega)⟩
  obtain ⟨n', cs', hn', h1⟩ := h.inner i hi (by omega)
  exact ⟨n', cs', hn', own_kept h1 fun q e => hg.block q (h1.lt q e).2 fun e2 => h.dis k i hk hi (by omega) (Nat.le_refl _) q e2.symm e⟩
theorem LW.outer_at {w wr : World} {vs : List Value} {N k j g cap : Nat} {u : Value} (h : LW w wr (.slice (some ⟨g, 0, none⟩) N cap) N vs j) (hk : k < vs.length) (hN : k < N) (hu : vs[k] = u) : wr.cell? ⟨g, k, none⟩ = some u := by
  have h1 := h.outer.cellAt k (by omega)
  rw [List.getElem?_eq_getElem hk, hu] at h1
  exact h1
/-- The outer row's cell of a row that is done is stored. -/
theorem LW.put {w wr : World} {v : Value} {vs : List Value} {N k g cap : Nat} (h : LW w wr (.slice (some ⟨g, 0, none⟩) N cap) N vs (k + 1)) (hv : v = .slice (some ⟨g, 0, none⟩) N cap) (u : Value) : LW w (wr.setCell ⟨g, k, none⟩ u) v N (vs.set k u) (k + 1) := by
  subst hv
  refine ⟨(h.outer.stored k u).1, by rw [List.length_set]; exact h.len, fun i hi hki => ?_, h.bel.setCell (h.outer.lt g rfl).1 _, fun i j hi hj hij hki => ?_⟩
  · rw [List.length_set] at hi
    obtain ⟨n', cs', hn', h1⟩ := h.inner i hi hki
    rw [List.getElem_set_ne (by omega)]
    exact ⟨n', cs', hn', own_kept h1 fun q e => Below.heap_setCell _ _ _ _ fun e2 => h.ne hi h1 q e (by rw [show q = g from e2]; rfl)⟩
  · rw [List.length_set] at hi hj
    rw [List.getElem_set_ne (by omega), List.getElem_set_ne (by omega)]
    exact h.dis i j hi hj hij hki

set_option maxHeartbeats 8000000 in
set_option maxRecDepth 100000 in
theorem lshaped_any (w : World) (Ba Br : Nat) (Z : Nat → Prop) (t r m : Nat) (v : Value) (l : List It) (h : Duo7 w Ba Br Z t r m v l l) (hm : 4 ≤ m) (hm2 : m ≤ 64) (hl : l.length ≤ 4000000000) :
    Calls Try.prog 16 #[.pointer (some ⟨t, 0, none⟩), .pointer (some ⟨r, 0, none⟩)] w fun e w' => e = .returned (.bool true) ∧ Below w.heap.size w w' := by
  obtain ⟨i1, hi1, hz0, hz1, hz2⟩ := info_parts Try.infoInt
  obtain ⟨i2, hi2, hy0, hy1, hy2⟩ := info_parts Try.infoInts
  have HA := levels_z w Ba Z t m l h.tz hm hm2 hl
  obtain ⟨p, cap, rfl, hcap, _⟩ := prow_form h.rt.row
  have HRT : Hid (RtAt w Br r m (.slice p l.length cap) l) := h.rt
  clear h
  go_enter Try.func16, Try.ntmps16
  go_wp2_with fail
  refine HA.mono ?_
  rintro e w1 ⟨v0, vs, ws, rfl, hlv, hsh, _, h64, hll⟩
  have hr1 := HRT.out.later hlv.bel
  have c0 := hr1.c0
  have c1 := hr1.c1
  have HLV : Hid (LV w w1 v0 vs ws) := hlv
  have HS : Hid (∀ w', Below w1.heap.size w1 w' → Calls Try.prog 21 #[v0, .int .i64 (m : Int), .int .i64 (l.length : Int)] w' fun e w'' => e = .returned (.bool true) ∧ w'' = w') := fun w' hb => shaped_true w' v0 ws m l.length ((hlv.later hb).read hsh.ne) hsh hm2 hl h64 hll
  have HLW : Hid (LW w w1 v0 vs.length vs 0) := hlv.loose hll
  have hN : 0 < vs.length := by rw [hlv.len]; exact hsh.ne
  have hN64 : vs.length ≤ 64 := by rw [hlv.len]; exact h64
  obtain ⟨N, hNe⟩ : ∃ N, vs.length = N := ⟨_, rfl⟩
  rw [hNe] at hN hN64 HLW
  obtain ⟨p0, cap0, rfl, hc0, _⟩ := srow_form HLW.out.outer
  obtain ⟨g, rfl, _, _, _, _⟩ := own_front HLW.out.outer hN
  clear hr1 hlv hsh hll HA HLV hNe
  dsimp only
  go_wp2_with fail
  go_quiet ((go_at_call 21; refine Calls.quiet_of_same (HS.out _ (below_drewN (Below.refl _ _) _))))
  have HLW2 : Hid (LW w (w1.drewN nq) (.slice (some ⟨g, 0, none⟩) N cap0) N vs 0) := HLW.out.later (below_drewN (Below.refl _ _) _)
  obtain ⟨w2, hw2⟩ : ∃ w2, w1.drewN nq = w2 := ⟨_, rfl⟩
  rw [hw2] at HLW2 ⊢
  clear hw2 HLW c0 c1
  go_wp2_with fail
  go_loopw [7] (fun i wr => ∃ (k : Nat) (vs : List Value), i = .int .i64 (k : Int) ∧ k ≤ N ∧ LW w wr (.slice (some ⟨g, 0, none⟩) N cap0) N vs k) (fun i _ => N - (intOf i).toNat)
  case atStart => exact ⟨0, vs, rfl, Nat.zero_le _, HLW2.out⟩
  case round =>
    obtain ⟨k, us, rfl, hk, hlw⟩ := hrel
    by_cases hkn : k < N
    · have hkni : (k : Int) < (N : Int) := by omega
      have hku : k < us.length := by rw [hlw.len]; exact hkn
      obtain ⟨n, cs, hn, hrow⟩ := hlw.inner k hku (Nat.le_refl _)
      obtain ⟨q, qc, hq, hqc, hqm⟩ := srow_form hrow
      have HQ : Hid (us[k] = .slice q n qc) := hq
      obtain ⟨W, hW⟩ : ∃ W, W = wr := ⟨_, rfl⟩
      rw [← hW] at hlw
      rw [← hW]
      have HW0 : Hid (LW w W (.slice (some ⟨g, 0, none⟩) N cap0) N us k) := hlw
      clear hlw hrow hq hW
      go_wp2_with fail
      go_loopw [8] (fun j wr => ∃ (x : Nat), j = .int .i64 (x : Int) ∧ x ≤ n ∧ LW w wr (.slice (some ⟨g, 0, none⟩) N cap0) N us k) (fun j _ => n - (intOf j).toNat)
      case atStart => exact ⟨0, rfl, Nat.zero_le _, HW0.out⟩
      case round =>
        obtain ⟨x, rfl, hx, hlw⟩ := hrel
        have HLX : Hid (LW w wr (.slice (some ⟨g, 0, none⟩) N cap0) N us k) := hlw
        have dk : wr.cell? ⟨g, k, none⟩ = some (.slice q n qc) := hlw.outer_at hku hkn HQ.out
        have df : ∀ o, wr.frozen? ⟨g, o, none⟩ = false := fun o => hlw.outer.frozenAt o
        have HRX : Hid (∃ cs, wr.ownsRow w.heap.size 3 1 us[k] n cs) := by
          obtain ⟨n', cs', hn', h1⟩ := hlw.inner k hku (Nat.le_refl _)
          obtain ⟨q', qc', hq', _⟩ := srow_form h1
          rw [HQ.out, Value.slice.injEq] at hq'
          exact ⟨cs', by rw [hq'.2.1]; exact h1⟩
        obtain ⟨cs2, hrx⟩ := HRX.out
        have HR2 : Hid (wr.ownsRow w.heap.size 3 1 (.slice q n qc) n cs2) := by rw [← HQ.out]; exact hrx
        have hbs := hlw.bel.size
        clear hlw hrx
        by_cases hxn : x < n
        · have hxni : (x : Int) < (n : Int) := by omega
          obtain ⟨b, rfl, hb1, hb2, hbc, hbf⟩ := own_front HR2.out (by omega)
          obtain ⟨u, hu⟩ := hbc x (by omega)
          have HLY : Hid (∀ u, LW w (wr.setCell ⟨b, x, none⟩ u) (.slice (some ⟨g, 0, none⟩) N cap0) N us k) := fun u => HLX.out.store hku (by rw [HQ.out]; exact HR2.out) hn (by rw [HQ.out]; rfl) u
          clear hbc
          go_wp2
          refine ⟨⟨x + 1, by first | rfl | go_num, hxn, HLY.out _⟩, ?_⟩
          simp only [intOf]
          omega
        · have hxni : ¬ (x : Int) < (n : Int) := by omega
          have HLA : Hid (LW w (wr.alloc (Obj.cells #[.int .i64 7] 3)) (.slice (some ⟨g, 0, none⟩) N cap0) N us k) := HLX.out.later ((Below.refl _ _).alloc (Nat.le_refl _) _)
          go_wp2_with (at_builtin; go_must (refine wpList_append_lies _ rfl _ _ 49 rfl w.heap.size 3 i1 _ 1 8 Try.underlying49 hi1 hz0 hz1 hz2 rfl (by decide) _ _ _ rfl (HR2.out.alloc _) ⟨wr.heap.size, 0, none⟩ 1 1 [.int .i64 7] rfl rfl (cell_one wr _ _) (by intro u hu; simp at hu; subst hu; rfl) Nat.one_pos (by unfold maxLen; omega) (by omega) (by simp; omega) _ rfl ?_); intro g5 cap5 w5 hown5 hgrow5 hor5 hlt5; (have HL5 : Hid (LW w w5 (.slice (some ⟨g, 0, none⟩) N cap0) N us (k + 1)) := HLA.out.grown hku (by rw [HQ.out]; exact HR2.out.alloc _) (by rw [HQ.out]; exact hgrow5)); (have d5 : w5.cell? ⟨g, k, none⟩ = some (.slice q n qc) := HL5.out.outer_at hku hkn HQ.out); (have f5 : ∀ o, w5.frozen? ⟨g, o, none⟩ = false := fun o => HL5.out.outer.frozenAt o))
          refine ⟨⟨k + 1, _, by first | rfl | go_num, hkn, HL5.out.put rfl _⟩, ?_⟩
          simp only [intOf]
          omega
    · have hkni : ¬ (k : Int) < (N : Int) := by omega
      have HLX : Hid (LW w wr (.slice (some ⟨g, 0, none⟩) N cap0) N us k) := hlw
      have hbs := hlw.bel.size
      clear hlw
      go_wp2_with (at_builtin; go_must (refine wpList_append_lies _ rfl _ _ 55 rfl w.heap.size 49 i2 _ 1 24 Try.underlying55 hi2 hy0 hy1 hy2 rfl (by decide) _ _ _ rfl (HLX.out.outer.alloc _) ⟨wr.heap.size, 0, none⟩ 1 1 [.slice none 0 0] rfl rfl (cell_one wr _ _) (by intro u hu; simp at hu; subst hu; rfl) Nat.one_pos (by unfold maxLen; omega) (by omega) (by simp; omega) _ rfl ?_); intro g5 cap5 w5 hown5 hgrow5 hor5 hlt5)
      have hb5 : Below w.heap.size w w5 := (HLX.out.bel.alloc hbs _).grown hgrow5 (by simp; omega) (fun j hj => (HLX.out.outer.lt j hj).1)
      go_ret
      exact ⟨rfl, hb5⟩
end Go.Proofs.Ytlpannicklkghaa
/- Walks of layer 7: both trees and the cursors upon them. -/
namespace Go.Proofs.Ytlpannicklkghaa
open Go.RowKit

/-- A cursor's block, the document's beside it, from where on both tell. -/
structure Cu where
  own : Nat
  ref : Nat
  frm : ByteArray
def ptr (k : Nat) : Value := .pointer (some ⟨k, 0, none⟩)
/-- What the cursors have of the memory. -/
def cz (cc : Nat) (va vb : Value) (cs : List Cu) (k : Nat) : Prop := k = cc ∨ va.ownBlock = some k ∨ vb.ownBlock = some k ∨ ∃ c ∈ cs, k = c.own ∨ k = c.ref
/-- The cursors in memory. -/
structure CsAt (w : World) (B t r cc : Nat) (va vb : Value) (cs : List Cu) : Prop where
  cells : w.heap[cc]? = some (.cells #[va, vb] 40 (0, 0))
  rowa : w.ownsRow B 64 1 va cs.length (cs.map fun c => ptr c.own)
  rowb : w.ownsRow B 77 1 vb cs.length (cs.map fun c => ptr c.ref)
  cur : ∀ c ∈ cs, CurAt w c.own t c.frm ∧ RcF w c.ref r c.frm
  lo : ∀ k, cz cc va vb cs k → B ≤ k
theorem CsAt.lt {w : World} {B t r cc : Nat} {va vb : Value} {cs : List Cu} (h : CsAt w B t r cc va vb cs) (k : Nat) (hk : cz cc va vb cs k) : k < w.heap.size := by
  rcases hk with rfl | hk | hk | ⟨c, hc, rfl | rfl⟩
  · exact (Array.getElem?_eq_some_iff.1 h.cells).1
  · exact (h.rowa.lt k hk).2
  · exact (h.rowb.lt k hk).2
  · exact (h.cur c hc).1.lt
  · exact (h.cur c hc).2.lt
theorem CsAt.kept {w w' : World} {B t r cc : Nat} {va vb : Value} {cs : List Cu} (h : CsAt w B t r cc va vb cs) (hk : ∀ k, cz cc va vb cs k → w'.heap[k]? = w.heap[k]?) : CsAt w' B t r cc va vb cs :=
  ⟨(hk cc (Or.inl rfl)).trans h.cells, own_kept h.rowa fun k e => hk k (Or.inr (Or.inl e)), own_kept h.rowb fun k e => hk k (Or.inr (Or.inr (Or.inl e))), fun c hc => ⟨(h.cur c hc).1.kept (hk _ (Or.inr (Or.inr (Or.inr ⟨c, hc, Or.inl rfl⟩)))), (h.cur c hc).2.kept (hk _ (Or.inr (Or.inr (Or.inr ⟨c, hc, Or.inr rfl⟩))))⟩, h.lo⟩
/-- Both trees, and the cursors. -/
structure PL (w : World) (B : Nat) (Z : Nat → Prop) (t r m : Nat) (v : Value) (la lb : List It) (cc : Nat) (va vb : Value) (cs : List Cu) : Prop where
  duo : Duo7 w B B Z t r m v la lb
  cur : CsAt w B t r cc va vb cs
  dis : cs.Pairwise fun a b => a.own ≠ b.own ∧ a.ref ≠ b.ref
  sep : ∀ k, cz cc va vb cs k → ¬ Z k ∧ ¬ rz r v k
theorem PL.left {w w' : World} {B : Nat} {Z Z' : Nat → Prop} {t r m cc : Nat} {v va vb : Value} {la la' lb : List It} {cs : List Cu} (h : PL w B Z t r m v la lb cc va vb cs) (ho : Only Z w w') (hz : TreeZ w' B Z' t m la') (hzz : ∀ k, Z' k → Z k ∨ w.heap.size ≤ k) : PL w' B Z' t r m v la' lb cc va vb cs :=
  ⟨h.duo.left ho hz hzz, h.cur.kept fun k hk => ho.block k (h.cur.lt k hk) (h.sep k hk).1, h.dis, fun k hk => ⟨fun e => by
    rcases hzz k e with h1 | h1
    · exact (h.sep k hk).1 h1
    · have := h.cur.lt k hk; omega, (h.sep k hk).2⟩⟩
theorem PL.right {w w' : World} {B : Nat} {Z : Nat → Prop} {t r m cc : Nat} {v v' va vb : Value} {la lb lb' : List It} {cs : List Cu} (h : PL w B Z t r m v la lb cc va vb cs) (ho : Only (rz r v) w w') (hr : RtAt w' B r m v' lb') (hv : ∀ k, v'.ownBlock = some k → v.ownBlock = some k ∨ w.heap.size ≤ k) : PL w' B Z t r m v' la lb' cc va vb cs :=
  ⟨h.duo.right ho hr hv, h.cur.kept fun k hk => ho.block k (h.cur.lt k hk) (h.sep k hk).2, h.dis, fun k hk => ⟨(h.sep k hk).1, fun e => by
    rcases e with rfl | e
    · exact (h.sep _ hk).2 (Or.inl rfl)
    · rcases hv k e with h1 | h1
      · exact (h.sep k hk).2 (Or.inr h1)
      · have := h.cur.lt k hk; omega⟩⟩
theorem PL.later {w w' : World} {B : Nat} {Z : Nat → Prop} {t r m cc : Nat} {v va vb : Value} {la lb : List It} {cs : List Cu} (h : PL w B Z t r m v la lb cc va vb cs) (hb : Below w.heap.size w w') : PL w' B Z t r m v la lb cc va vb cs :=
  ⟨h.duo.later hb, h.cur.kept fun k hk => hb.block k (h.cur.lt k hk), h.dis, h.sep⟩
def PS (w : World) (B t r m : Nat) (la lb : List It) (cc : Nat) (cs : List Cu) : Prop := ∃ Z v va vb, PL w B Z t r m v la lb cc va vb cs
theorem PS.later {w w' : World} {B t r m cc : Nat} {la lb : List It} {cs : List Cu} (h : PS w B t r m la lb cc cs) (hb : Below w.heap.size w w') : PS w' B t r m la lb cc cs := by
  obtain ⟨Z, v, va, vb, h⟩ := h
  exact ⟨Z, v, va, vb, h.later hb⟩
theorem PS.srt {w : World} {B t r m cc : Nat} {la lb : List It} {cs : List Cu} (h : PS w B t r m la lb cc cs) : Srt la := by
  obtain ⟨Z, v, va, vb, h⟩ := h
  exact h.duo.srt
theorem PS.size {w : World} {B t r m cc : Nat} {la lb : List It} {cs : List Cu} (h : PS w B t r m la lb cc cs) : B ≤ w.heap.size := by
  obtain ⟨Z, v, va, vb, h⟩ := h
  have := h.cur.lo cc (Or.inl rfl)
  have := h.cur.lt cc (Or.inl rfl)
  omega
theorem ps_putA {w : World} {B t r m cc : Nat} {la lb : List It} {cs : List Cu} (h : PS w B t r m la lb cc cs) (key val : ByteArray) (hm : 4 ≤ m) (hm2 : m ≤ 64) (hl : la.length ≤ 4000000000) (hk : key.size ≤ 281474976710656) (hv : val.size ≤ 281474976710656) :
    Calls Try.prog 18 #[.pointer (some ⟨t, 0, none⟩), .string key, .string val] w fun e w' => e = .returned (.tuple #[.string (valL key la), .bool (foundL key la)]) ∧ Below B w w' ∧ PS w' B t r m (putL key val la) lb cc cs := by
  obtain ⟨Z, v, va, vb, h⟩ := h
  refine (put_z w B Z t m key val la h.duo.tz hm hm2 hl hk hv).mono ?_
  rintro e w' ⟨rfl, ho, Z', hz, hzz⟩
  exact ⟨rfl, h.duo.tz.below ho (Nat.le_refl _), Z', v, va, vb, h.left ho hz hzz⟩
theorem ps_putB {w : World} {B t r m cc : Nat} {la lb : List It} {cs : List Cu} (h : PS w B t r m la lb cc cs) (key val : ByteArray) (hs : Srt lb) (hl : lb.length ≤ 4000000000) :
    Calls Try.prog 26 #[.pointer (some ⟨r, 0, none⟩), .string key, .string val] w fun e w' => e = .returned (.tuple #[.string (valL key lb), .bool (foundL key lb)]) ∧ Below B w w' ∧ PS w' B t r m la (putL key val lb) cc cs := by
  obtain ⟨Z, v, va, vb, h⟩ := h
  refine (rput_any w B r m v lb key val h.duo.rt hs hl).mono ?_
  rintro e w' ⟨rfl, ho, v', hr, hv⟩
  exact ⟨rfl, h.duo.belowR ho (Nat.le_refl _), Z, v', va, vb, h.right ho hr hv⟩
theorem ps_delA {w : World} {B t r m cc : Nat} {la lb : List It} {cs : List Cu} (h : PS w B t r m la lb cc cs) (key : ByteArray) (hm : 4 ≤ m) (hm2 : m ≤ 64) (hl : la.length ≤ 4000000000) :
    Calls Try.prog 17 #[.pointer (some ⟨t, 0, none⟩), .string key] w fun e w' => e = .returned (.tuple #[.string (valL key la), .bool (foundL key la)]) ∧ Below B w w' ∧ PS w' B t r m (delL key la) lb cc cs := by
  obtain ⟨Z, v, va, vb, h⟩ := h
  refine (del_z w B Z t m key la h.duo.tz hm hm2 hl).mono ?_
  rintro e w' ⟨rfl, ho, Z', hz, hzz⟩
  exact ⟨rfl, h.duo.tz.below ho (Nat.le_refl _), Z', v, va, vb, h.left ho hz hzz⟩
theorem ps_delB {w : World} {B t r m cc : Nat} {la lb : List It} {cs : List Cu} (h : PS w B t r m la lb cc cs) (key : ByteArray) (hs : Srt lb) (hl : lb.length ≤ 4000000000) :
    Calls Try.prog 27 #[.pointer (some ⟨r, 0, none⟩), .string key] w fun e w' => e = .returned (.tuple #[.string (valL key lb), .bool (foundL key lb)]) ∧ Below B w w' ∧ PS w' B t r m la (delL key lb) cc cs := by
  obtain ⟨Z, v, va, vb, h⟩ := h
  cases hf : foundL key lb with
  | true =>
    refine (rdel_old w B r m v lb key h.duo.rt hs hl hf).mono ?_
    rintro e w' ⟨rfl, ho, v', hr, hv⟩
    refine ⟨rfl, h.duo.belowR ho (Nat.le_refl _), Z, v', va, vb, ?_⟩
    unfold delL
    rw [hf]
    exact h.right ho hr fun k hk => Or.inl (hv ▸ hk)
  | false =>
    refine (rdel_none w B r m v lb key h.duo.rt hs hl hf).mono ?_
    rintro e w' ⟨rfl, hw⟩
    subst hw
    refine ⟨by unfold valL; rw [hf]; rfl, Below.refl _ _, Z, v, va, vb, ?_⟩
    unfold delL
    rw [hf]
    exact h
theorem ps_getA {w : World} {B t r m cc : Nat} {la lb : List It} {cs : List Cu} (h : PS w B t r m la lb cc cs) (key : ByteArray) (hm : 4 ≤ m) (hm2 : m ≤ 64) (hl : la.length ≤ 4000000000) (hv : ∀ y ∈ la, y.val.size ≤ 281474976710656) :
    Calls Try.prog 22 #[.pointer (some ⟨t, 0, none⟩), .string key] w fun e w' => e = .returned (.tuple #[.string (valL key la), .bool (foundL key la)]) ∧ Below B w w' ∧ PS w' B t r m la lb cc cs := by
  have hs := h.size
  obtain ⟨Z, v, va, vb, h⟩ := h
  refine (get_z w B Z t m key la h.duo.tz hm hm2 hl hv).mono ?_
  rintro e w' ⟨hb, rfl⟩
  exact ⟨rfl, hb.mono hs, Z, v, va, vb, h.later hb⟩
theorem ps_getB {w : World} {B t r m cc : Nat} {la lb : List It} {cs : List Cu} (h : PS w B t r m la lb cc cs) (key : ByteArray) (hs : Srt lb) (hl : lb.length ≤ 4000000000) :
    Calls Try.prog 29 #[.pointer (some ⟨r, 0, none⟩), .string key] w fun e w' => e = .returned (.tuple #[.string (valL key lb), .bool (foundL key lb)]) ∧ w' = w := by
  obtain ⟨Z, v, va, vb, h⟩ := h
  exact rget_any w B r m v lb key h.duo.rt hs (by omega)
theorem ps_lists {w : World} {B t r m cc : Nat} {l : List It} {cs : List Cu} (h : PS w B t r m l l cc cs) (frm to : ByteArray) (most : Int) (hm : 4 ≤ m) (hm2 : m ≤ 64) (hl : l.length ≤ 4000000000) (hz : ∀ y ∈ l, y.key.size ≤ 281474976710656 ∧ y.val.size ≤ 281474976710656) :
    Calls Try.prog 15 #[.pointer (some ⟨t, 0, none⟩), .pointer (some ⟨r, 0, none⟩), .string frm, .string to, .int .i64 most] w fun e w' => e = .returned (.bool true) ∧ Below B w w' ∧ PS w' B t r m l l cc cs := by
  have hs := h.size
  obtain ⟨Z, v, va, vb, h⟩ := h
  refine (lists_any w B B Z t r m v l frm to most h.duo hm hm2 hl hz).mono ?_
  rintro e w' ⟨rfl, hb⟩
  exact ⟨rfl, hb.mono hs, Z, v, va, vb, h.later hb⟩
theorem ps_shaped {w : World} {B t r m cc : Nat} {l : List It} {cs : List Cu} (h : PS w B t r m l l cc cs) (hm : 4 ≤ m) (hm2 : m ≤ 64) (hl : l.length ≤ 4000000000) :
    Calls Try.prog 16 #[.pointer (some ⟨t, 0, none⟩), .pointer (some ⟨r, 0, none⟩)] w fun e w' => e = .returned (.bool true) ∧ Below B w w' ∧ PS w' B t r m l l cc cs := by
  have hs := h.size
  obtain ⟨Z, v, va, vb, h⟩ := h
  refine (lshaped_any w B B Z t r m v l h.duo hm hm2 hl).mono ?_
  rintro e w' ⟨rfl, hb⟩
  exact ⟨rfl, hb.mono hs, Z, v, va, vb, h.later hb⟩
theorem ps_len {w : World} {B t r m cc : Nat} {la lb : List It} {cs : List Cu} (h : PS w B t r m la lb cc cs) :
    Calls Try.prog 20 #[.pointer (some ⟨t, 0, none⟩)] w fun e w' => e = .returned (.int .i64 (la.length : Int)) ∧ w' = w := by
  obtain ⟨Z, v, va, vb, h⟩ := h
  exact len_z w B Z t m la h.duo.tz
end Go.Proofs.Ytlpannicklkghaa
/- Walks of layer 7: plays, all but Seek and Next (written by mkplays7.py). -/
namespace Go.Proofs.Ytlpannicklkghaa
open Go.RowKit

/-- Items that are a leaf's, and small. -/
def Bd (l : List It) : Prop := ∀ y ∈ l, y.kid = none ∧ y.key.size ≤ 281474976710656 ∧ y.val.size ≤ 281474976710656
theorem Bd.put {l : List It} (h : Bd l) (hs : Srt l) {key val : ByteArray} (hk : key.size ≤ 281474976710656) (hv : val.size ≤ 281474976710656) : Bd (putL key val l) := fun y hy => by
  rcases (mem_putL hs (fun y hy => (h y hy).1) y).1 hy with rfl | ⟨h1, _⟩
  · exact ⟨rfl, hk, hv⟩
  · exact h y h1
theorem Bd.del {l : List It} (h : Bd l) (hs : Srt l) {key : ByteArray} : Bd (delL key l) := fun y hy => h y (mem_delL hs hy).1
theorem box4 (w : World) (u0 u1 u2 u3 : Value) (t : TypeId) : (w.alloc (.cells #[u0, u1, u2, u3] t)).cell? ⟨w.heap.size, 0, none⟩ = some u0 ∧ (w.alloc (.cells #[u0, u1, u2, u3] t)).cell? ⟨w.heap.size, 1, none⟩ = some u1 ∧ (w.alloc (.cells #[u0, u1, u2, u3] t)).cell? ⟨w.heap.size, 2, none⟩ = some u2 ∧ (w.alloc (.cells #[u0, u1, u2, u3] t)).cell? ⟨w.heap.size, 3, none⟩ = some u3 := by
  refine ⟨?_, ?_, ?_, ?_⟩ <;> simp
theorem pl_putA {w : World} {B : Nat} {Z : Nat → Prop} {t r m cc : Nat} {v va vb : Value} {la lb : List It} {cs : List Cu} (h : PL w B Z t r m v la lb cc va vb cs) (key val : ByteArray) (hm : 4 ≤ m) (hm2 : m ≤ 64) (hl : la.length ≤ 4000000000) (hk : key.size ≤ 281474976710656) (hv : val.size ≤ 281474976710656) :
    Calls Try.prog 18 #[.pointer (some ⟨t, 0, none⟩), .string key, .string val] w fun e w' => e = .returned (.tuple #[.string (valL key la), .bool (foundL key la)]) ∧ Below B w w' ∧ PS w' B t r m (putL key val la) lb cc cs ∧ ∀ k, k < w.heap.size → ¬ Z k → w'.heap[k]? = w.heap[k]? := by
  refine (put_z w B Z t m key val la h.duo.tz hm hm2 hl hk hv).mono ?_
  rintro e w' ⟨rfl, ho, Z', hz, hzz⟩
  exact ⟨rfl, h.duo.tz.below ho (Nat.le_refl _), ⟨Z', v, va, vb, h.left ho hz hzz⟩, fun k hk hz => ho.block k hk hz⟩
theorem pl_delA {w : World} {B : Nat} {Z : Nat → Prop} {t r m cc : Nat} {v va vb : Value} {la lb : List It} {cs : List Cu} (h : PL w B Z t r m v la lb cc va vb cs) (key : ByteArray) (hm : 4 ≤ m) (hm2 : m ≤ 64) (hl : la.length ≤ 4000000000) :
    Calls Try.prog 17 #[.pointer (some ⟨t, 0, none⟩), .string key] w fun e w' => e = .returned (.tuple #[.string (valL key la), .bool (foundL key la)]) ∧ Below B w w' ∧ PS w' B t r m (delL key la) lb cc cs ∧ ∀ k, k < w.heap.size → ¬ Z k → w'.heap[k]? = w.heap[k]? := by
  refine (del_z w B Z t m key la h.duo.tz hm hm2 hl).mono ?_
  rintro e w' ⟨rfl, ho, Z', hz, hzz⟩
  exact ⟨rfl, h.duo.tz.below ho (Nat.le_refl _), ⟨Z', v, va, vb, h.left ho hz hzz⟩, fun k hk hz => ho.block k hk hz⟩
theorem pl_getA {w : World} {B : Nat} {Z : Nat → Prop} {t r m cc : Nat} {v va vb : Value} {la lb : List It} {cs : List Cu} (h : PL w B Z t r m v la lb cc va vb cs) (key : ByteArray) (hm : 4 ≤ m) (hm2 : m ≤ 64) (hl : la.length ≤ 4000000000) (hv : ∀ y ∈ la, y.val.size ≤ 281474976710656) :
    Calls Try.prog 22 #[.pointer (some ⟨t, 0, none⟩), .string key] w fun e w' => e = .returned (.tuple #[.string (valL key la), .bool (foundL key la)]) ∧ Below B w w' ∧ PS w' B t r m la lb cc cs ∧ ∀ k, k < w.heap.size → ¬ Z k → w'.heap[k]? = w.heap[k]? := by
  have hs : B ≤ w.heap.size := PS.size ⟨Z, v, va, vb, h⟩
  refine (get_z w B Z t m key la h.duo.tz hm hm2 hl hv).mono ?_
  rintro e w' ⟨hb, rfl⟩
  exact ⟨rfl, hb.mono hs, ⟨Z, v, va, vb, h.later hb⟩, fun k hk _ => hb.block k hk⟩
/-- What plays leaves. -/
def PP (w : World) (B t r m : Nat) (l : List It) (cc : Nat) (cs : List Cu) (e : Ending) (w' : World) : Prop := e = .returned (.bool true) ∧ Below B w w' ∧ ∃ l' cs', PS w' B t r m l' l' cc cs' ∧ l'.length ≤ l.length + 1 ∧ Bd l' ∧ cs'.length ≤ cs.length + 1

set_option maxHeartbeats 8000000 in
set_option maxRecDepth 100000 in
theorem plays7_1 (w : World) (B t r m cc : Nat) (l : List It) (cs : List Cu) (x : OpS) (h : PS w B t r m l l cc cs) (hm : 4 ≤ m) (hm2 : m ≤ 64) (hl : l.length ≤ 4000000000) (hb : Bd l) (hx : So7 x) :
    Calls Try.prog 14 #[.pointer (some ⟨cc, 0, none⟩), .pointer (some ⟨t, 0, none⟩), .pointer (some ⟨r, 0, none⟩), .agg #[.int .i64 1, .string x.key, .string x.val, .int .i64 x.n]] w (PP w B t r m l cc cs) := by
  have HBS := h.size
  have HSL : Hid (Srt l) := h.srt
  obtain ⟨Z, v, va, vb, h⟩ := h
  obtain ⟨w0, hw0⟩ : ∃ w0, w.alloc (.cells #[.int .i64 1, .string x.key, .string x.val, .int .i64 x.n] 43) = w0 := ⟨_, rfl⟩
  obtain ⟨d0, d1, d2, d3⟩ := box4 w (.int .i64 1) (.string x.key) (.string x.val) (.int .i64 x.n) 43
  have hb0 : Below w.heap.size w w0 := by rw [← hw0]; exact (Below.refl _ _).alloc (Nat.le_refl _) _
  have hsz0 : w0.heap.size = w.heap.size + 1 := by rw [← hw0]; simp
  rw [hw0] at d0 d1 d2 d3
  have HPL : Hid (PL w0 B Z t r m v l l cc va vb cs) := h.later hb0
  have HZ : Hid (¬ Z w.heap.size) := fun e => by have := (h.duo.tz.lo _ e).2; omega
  have HB0 : Hid (Below B w w0) := hb0.mono HBS
  have HBD : Hid (Bd l) := hb
  have HKS : Hid (x.key.size ≤ 281474976710656 ∧ x.val.size ≤ 281474976710656) := ⟨by have := hx.1; omega, by have := hx.2; omega⟩
  have HS0 : Hid (w.heap.size < w0.heap.size) := by rw [hsz0]; exact Nat.lt_succ_self _
  clear h hb0 hsz0 hb hx
  have HA := pl_putA HPL.out x.key x.val hm hm2 hl HKS.out.1 HKS.out.2
  obtain ⟨fo, hfo⟩ : ∃ fo, foundL x.key l = fo := ⟨_, rfl⟩
  obtain ⟨va0, hva0⟩ : ∃ va0, valL x.key l = va0 := ⟨_, rfl⟩
  have HFO : Hid (foundL x.key l = fo ∧ valL x.key l = va0) := ⟨hfo, hva0⟩
  rw [hfo, hva0] at HA
  clear hfo hva0
  go_enter Try.func14, Try.ntmps14
  go_wp2_with fail
  try rw [hw0]
  refine HA.mono ?_
  rintro e w1 ⟨rfl, hb1, hps1, hk1⟩
  have hkb := hk1 _ HS0.out HZ.out
  have d1 := cell_at hkb d1
  have d2 := cell_at hkb d2
  have HB := ps_putB hps1 x.key x.val HSL.out hl
  rw [HFO.out.1, HFO.out.2] at HB
  have HB1 : Hid (Below B w w1) := HB0.out.trans hb1
  clear hb1 hps1 hk1 hkb HA
  dsimp only
  go_wp2_with fail
  refine HB.mono ?_
  rintro e w2 ⟨rfl, hb2, hps2⟩
  have HP2 : Hid (PP w B t r m l cc cs (.returned (.bool true)) w2) := ⟨rfl, HB1.out.trans hb2, _, _, hps2, putL_length, HBD.out.put HSL.out HKS.out.1 HKS.out.2, Nat.le_succ _⟩
  clear hb2 hps2
  dsimp only
  have hve : (va0.toList == va0.toList) = true := by simp
  have hfe : (fo == fo) = true := by simp
  go_wp2
  go_ret
  exact HP2.out

set_option maxHeartbeats 8000000 in
set_option maxRecDepth 100000 in
theorem plays7_2 (w : World) (B t r m cc : Nat) (l : List It) (cs : List Cu) (x : OpS) (h : PS w B t r m l l cc cs) (hm : 4 ≤ m) (hm2 : m ≤ 64) (hl : l.length ≤ 4000000000) (hb : Bd l) (hx : So7 x) :
    Calls Try.prog 14 #[.pointer (some ⟨cc, 0, none⟩), .pointer (some ⟨t, 0, none⟩), .pointer (some ⟨r, 0, none⟩), .agg #[.int .i64 2, .string x.key, .string x.val, .int .i64 x.n]] w (PP w B t r m l cc cs) := by
  have HBS := h.size
  have HSL : Hid (Srt l) := h.srt
  obtain ⟨Z, v, va, vb, h⟩ := h
  obtain ⟨w0, hw0⟩ : ∃ w0, w.alloc (.cells #[.int .i64 2, .string x.key, .string x.val, .int .i64 x.n] 43) = w0 := ⟨_, rfl⟩
  obtain ⟨d0, d1, d2, d3⟩ := box4 w (.int .i64 2) (.string x.key) (.string x.val) (.int .i64 x.n) 43
  have hb0 : Below w.heap.size w w0 := by rw [← hw0]; exact (Below.refl _ _).alloc (Nat.le_refl _) _
  have hsz0 : w0.heap.size = w.heap.size + 1 := by rw [← hw0]; simp
  rw [hw0] at d0 d1 d2 d3
  have HPL : Hid (PL w0 B Z t r m v l l cc va vb cs) := h.later hb0
  have HZ : Hid (¬ Z w.heap.size) := fun e => by have := (h.duo.tz.lo _ e).2; omega
  have HB0 : Hid (Below B w w0) := hb0.mono HBS
  have HBD : Hid (Bd l) := hb
  have HKS : Hid (x.key.size ≤ 281474976710656 ∧ x.val.size ≤ 281474976710656) := ⟨by have := hx.1; omega, by have := hx.2; omega⟩
  have HS0 : Hid (w.heap.size < w0.heap.size) := by rw [hsz0]; exact Nat.lt_succ_self _
  clear h hb0 hsz0 hb hx
  have HA := pl_delA HPL.out x.key hm hm2 hl
  obtain ⟨fo, hfo⟩ : ∃ fo, foundL x.key l = fo := ⟨_, rfl⟩
  obtain ⟨va0, hva0⟩ : ∃ va0, valL x.key l = va0 := ⟨_, rfl⟩
  have HFO : Hid (foundL x.key l = fo ∧ valL x.key l = va0) := ⟨hfo, hva0⟩
  rw [hfo, hva0] at HA
  clear hfo hva0
  go_enter Try.func14, Try.ntmps14
  go_wp2_with fail
  try rw [hw0]
  refine HA.mono ?_
  rintro e w1 ⟨rfl, hb1, hps1, hk1⟩
  have hkb := hk1 _ HS0.out HZ.out
  have d1 := cell_at hkb d1
  have d2 := cell_at hkb d2
  have HB := ps_delB hps1 x.key HSL.out hl
  rw [HFO.out.1, HFO.out.2] at HB
  have HB1 : Hid (Below B w w1) := HB0.out.trans hb1
  clear hb1 hps1 hk1 hkb HA
  dsimp only
  go_wp2_with fail
  refine HB.mono ?_
  rintro e w2 ⟨rfl, hb2, hps2⟩
  have HP2 : Hid (PP w B t r m l cc cs (.returned (.bool true)) w2) := ⟨rfl, HB1.out.trans hb2, _, _, hps2, (by have := delL_length (key := x.key) (l := l); omega), HBD.out.del HSL.out, Nat.le_succ _⟩
  clear hb2 hps2
  dsimp only
  have hve : (va0.toList == va0.toList) = true := by simp
  have hfe : (fo == fo) = true := by simp
  go_wp2
  go_ret
  exact HP2.out

set_option maxHeartbeats 8000000 in
set_option maxRecDepth 100000 in
theorem plays7_3 (w : World) (B t r m cc : Nat) (l : List It) (cs : List Cu) (x : OpS) (h : PS w B t r m l l cc cs) (hm : 4 ≤ m) (hm2 : m ≤ 64) (hl : l.length ≤ 4000000000) (hb : Bd l) (hx : So7 x) :
    Calls Try.prog 14 #[.pointer (some ⟨cc, 0, none⟩), .pointer (some ⟨t, 0, none⟩), .pointer (some ⟨r, 0, none⟩), .agg #[.int .i64 3, .string x.key, .string x.val, .int .i64 x.n]] w (PP w B t r m l cc cs) := by
  have HBS := h.size
  have HSL : Hid (Srt l) := h.srt
  obtain ⟨Z, v, va, vb, h⟩ := h
  obtain ⟨w0, hw0⟩ : ∃ w0, w.alloc (.cells #[.int .i64 3, .string x.key, .string x.val, .int .i64 x.n] 43) = w0 := ⟨_, rfl⟩
  obtain ⟨d0, d1, d2, d3⟩ := box4 w (.int .i64 3) (.string x.key) (.string x.val) (.int .i64 x.n) 43
  have hb0 : Below w.heap.size w w0 := by rw [← hw0]; exact (Below.refl _ _).alloc (Nat.le_refl _) _
  have hsz0 : w0.heap.size = w.heap.size + 1 := by rw [← hw0]; simp
  rw [hw0] at d0 d1 d2 d3
  have HPL : Hid (PL w0 B Z t r m v l l cc va vb cs) := h.later hb0
  have HZ : Hid (¬ Z w.heap.size) := fun e => by have := (h.duo.tz.lo _ e).2; omega
  have HB0 : Hid (Below B w w0) := hb0.mono HBS
  have HBD : Hid (Bd l) := hb
  have HKS : Hid (x.key.size ≤ 281474976710656 ∧ x.val.size ≤ 281474976710656) := ⟨by have := hx.1; omega, by have := hx.2; omega⟩
  have HS0 : Hid (w.heap.size < w0.heap.size) := by rw [hsz0]; exact Nat.lt_succ_self _
  clear h hb0 hsz0 hb hx
  have HA := pl_getA HPL.out x.key hm hm2 hl (fun y hy => (HBD.out y hy).2.2)
  obtain ⟨fo, hfo⟩ : ∃ fo, foundL x.key l = fo := ⟨_, rfl⟩
  obtain ⟨va0, hva0⟩ : ∃ va0, valL x.key l = va0 := ⟨_, rfl⟩
  have HFO : Hid (foundL x.key l = fo ∧ valL x.key l = va0) := ⟨hfo, hva0⟩
  rw [hfo, hva0] at HA
  clear hfo hva0
  go_enter Try.func14, Try.ntmps14
  go_wp2_with fail
  try rw [hw0]
  refine HA.mono ?_
  rintro e w1 ⟨rfl, hb1, hps1, hk1⟩
  have hkb := hk1 _ HS0.out HZ.out
  have d1 := cell_at hkb d1
  have d2 := cell_at hkb d2
  have HB := ps_getB hps1 x.key HSL.out hl
  rw [HFO.out.1, HFO.out.2] at HB
  have HB1 : Hid (Below B w w1) := HB0.out.trans hb1
  have HP1 : PP w B t r m l cc cs (.returned (.bool true)) w1 := ⟨rfl, HB1.out, l, cs, hps1, Nat.le_succ _, HBD.out, Nat.le_succ _⟩
  have HP1 : Hid (PP w B t r m l cc cs (.returned (.bool true)) w1) := HP1
  clear hb1 hps1 hk1 hkb HA
  dsimp only
  go_wp2_with fail
  refine HB.mono ?_
  rintro e w2 ⟨rfl, hw2⟩
  subst hw2
  dsimp only
  have hve : (va0.toList == va0.toList) = true := by simp
  have hfe : (fo == fo) = true := by simp
  go_wp2
  go_ret
  exact HP1.out

set_option maxHeartbeats 8000000 in
set_option maxRecDepth 100000 in
theorem plays7_4 (w : World) (B t r m cc : Nat) (l : List It) (cs : List Cu) (x : OpS) (h : PS w B t r m l l cc cs) (hm : 4 ≤ m) (hm2 : m ≤ 64) (hl : l.length ≤ 4000000000) (hb : Bd l) (hx : So7 x) :
    Calls Try.prog 14 #[.pointer (some ⟨cc, 0, none⟩), .pointer (some ⟨t, 0, none⟩), .pointer (some ⟨r, 0, none⟩), .agg #[.int .i64 4, .string x.key, .string x.val, .int .i64 x.n]] w (PP w B t r m l cc cs) := by
  have HBS := h.size
  have HSL : Hid (Srt l) := h.srt
  obtain ⟨Z, v, va, vb, h⟩ := h
  obtain ⟨w0, hw0⟩ : ∃ w0, w.alloc (.cells #[.int .i64 4, .string x.key, .string x.val, .int .i64 x.n] 43) = w0 := ⟨_, rfl⟩
  obtain ⟨d0, d1, d2, d3⟩ := box4 w (.int .i64 4) (.string x.key) (.string x.val) (.int .i64 x.n) 43
  have hb0 : Below w.heap.size w w0 := by rw [← hw0]; exact (Below.refl _ _).alloc (Nat.le_refl _) _
  have hsz0 : w0.heap.size = w.heap.size + 1 := by rw [← hw0]; simp
  rw [hw0] at d0 d1 d2 d3
  have HPL : Hid (PL w0 B Z t r m v l l cc va vb cs) := h.later hb0
  have HZ : Hid (¬ Z w.heap.size) := fun e => by have := (h.duo.tz.lo _ e).2; omega
  have HB0 : Hid (Below B w w0) := hb0.mono HBS
  have HBD : Hid (Bd l) := hb
  have HKS : Hid (x.key.size ≤ 281474976710656 ∧ x.val.size ≤ 281474976710656) := ⟨by have := hx.1; omega, by have := hx.2; omega⟩
  have HS0 : Hid (w.heap.size < w0.heap.size) := by rw [hsz0]; exact Nat.lt_succ_self _
  clear h hb0 hsz0 hb hx
  have HA := ps_lists ⟨Z, v, va, vb, HPL.out⟩ x.key x.val x.n hm hm2 hl (fun y hy => (HBD.out y hy).2)
  go_enter Try.func14, Try.ntmps14
  go_wp2_with fail
  try rw [hw0]
  refine HA.mono ?_
  rintro e w1 ⟨rfl, hb1, hps1⟩
  have HP1 : Hid (PP w B t r m l cc cs (.returned (.bool true)) w1) := ⟨rfl, HB0.out.trans hb1, l, cs, hps1, Nat.le_succ _, HBD.out, Nat.le_succ _⟩
  clear hb1 hps1 HA
  dsimp only
  go_wp2
  go_ret
  exact HP1.out

set_option maxHeartbeats 8000000 in
set_option maxRecDepth 100000 in
theorem plays7_5 (w : World) (B t r m cc : Nat) (l : List It) (cs : List Cu) (x : OpS) (h : PS w B t r m l l cc cs) (hm : 4 ≤ m) (hm2 : m ≤ 64) (hl : l.length ≤ 4000000000) (hb : Bd l) (hx : So7 x) :
    Calls Try.prog 14 #[.pointer (some ⟨cc, 0, none⟩), .pointer (some ⟨t, 0, none⟩), .pointer (some ⟨r, 0, none⟩), .agg #[.int .i64 5, .string x.key, .string x.val, .int .i64 x.n]] w (PP w B t r m l cc cs) := by
  have HBS := h.size
  have HSL : Hid (Srt l) := h.srt
  obtain ⟨Z, v, va, vb, h⟩ := h
  obtain ⟨w0, hw0⟩ : ∃ w0, w.alloc (.cells #[.int .i64 5, .string x.key, .string x.val, .int .i64 x.n] 43) = w0 := ⟨_, rfl⟩
  obtain ⟨d0, d1, d2, d3⟩ := box4 w (.int .i64 5) (.string x.key) (.string x.val) (.int .i64 x.n) 43
  have hb0 : Below w.heap.size w w0 := by rw [← hw0]; exact (Below.refl _ _).alloc (Nat.le_refl _) _
  have hsz0 : w0.heap.size = w.heap.size + 1 := by rw [← hw0]; simp
  rw [hw0] at d0 d1 d2 d3
  have HPL : Hid (PL w0 B Z t r m v l l cc va vb cs) := h.later hb0
  have HZ : Hid (¬ Z w.heap.size) := fun e => by have := (h.duo.tz.lo _ e).2; omega
  have HB0 : Hid (Below B w w0) := hb0.mono HBS
  have HBD : Hid (Bd l) := hb
  have HKS : Hid (x.key.size ≤ 281474976710656 ∧ x.val.size ≤ 281474976710656) := ⟨by have := hx.1; omega, by have := hx.2; omega⟩
  have HS0 : Hid (w.heap.size < w0.heap.size) := by rw [hsz0]; exact Nat.lt_succ_self _
  clear h hb0 hsz0 hb hx
  have HA := ps_shaped ⟨Z, v, va, vb, HPL.out⟩ hm hm2 hl
  go_enter Try.func14, Try.ntmps14
  go_wp2_with fail
  try rw [hw0]
  refine HA.mono ?_
  rintro e w1 ⟨rfl, hb1, hps1⟩
  have HP1 : Hid (PP w B t r m l cc cs (.returned (.bool true)) w1) := ⟨rfl, HB0.out.trans hb1, l, cs, hps1, Nat.le_succ _, HBD.out, Nat.le_succ _⟩
  clear hb1 hps1 HA
  dsimp only
  go_wp2
  go_ret
  exact HP1.out

set_option maxHeartbeats 8000000 in
set_option maxRecDepth 100000 in
theorem plays7_8 (w : World) (B t r m cc : Nat) (l : List It) (cs : List Cu) (x : OpS) (h : PS w B t r m l l cc cs) (_ : 4 ≤ m) (_ : m ≤ 64) (_ : l.length ≤ 4000000000) (hb : Bd l) (hx : So7 x) :
    Calls Try.prog 14 #[.pointer (some ⟨cc, 0, none⟩), .pointer (some ⟨t, 0, none⟩), .pointer (some ⟨r, 0, none⟩), .agg #[.int .i64 8, .string x.key, .string x.val, .int .i64 x.n]] w (PP w B t r m l cc cs) := by
  have HBS := h.size
  have HSL : Hid (Srt l) := h.srt
  obtain ⟨Z, v, va, vb, h⟩ := h
  obtain ⟨w0, hw0⟩ : ∃ w0, w.alloc (.cells #[.int .i64 8, .string x.key, .string x.val, .int .i64 x.n] 43) = w0 := ⟨_, rfl⟩
  obtain ⟨d0, d1, d2, d3⟩ := box4 w (.int .i64 8) (.string x.key) (.string x.val) (.int .i64 x.n) 43
  have hb0 : Below w.heap.size w w0 := by rw [← hw0]; exact (Below.refl _ _).alloc (Nat.le_refl _) _
  have hsz0 : w0.heap.size = w.heap.size + 1 := by rw [← hw0]; simp
  rw [hw0] at d0 d1 d2 d3
  have HPL : Hid (PL w0 B Z t r m v l l cc va vb cs) := h.later hb0
  have HZ : Hid (¬ Z w.heap.size) := fun e => by have := (h.duo.tz.lo _ e).2; omega
  have HB0 : Hid (Below B w w0) := hb0.mono HBS
  have HBD : Hid (Bd l) := hb
  have HKS : Hid (x.key.size ≤ 281474976710656 ∧ x.val.size ≤ 281474976710656) := ⟨by have := hx.1; omega, by have := hx.2; omega⟩
  have HS0 : Hid (w.heap.size < w0.heap.size) := by rw [hsz0]; exact Nat.lt_succ_self _
  clear h hb0 hsz0 hb hx
  have HA := ps_len ⟨Z, v, va, vb, HPL.out⟩
  obtain ⟨p, cap, hv, hcap, _⟩ := prow_form HPL.out.duo.rt.row
  have c1 := HPL.out.duo.rt.c1
  rw [hv] at c1
  have HP1 : Hid (PP w B t r m l cc cs (.returned (.bool true)) w0) := ⟨rfl, HB0.out, l, cs, ⟨Z, v, va, vb, HPL.out⟩, Nat.le_succ _, HBD.out, Nat.le_succ _⟩
  go_enter Try.func14, Try.ntmps14
  go_wp2_with fail
  try rw [hw0]
  refine HA.mono ?_
  rintro e w1 ⟨rfl, hw1⟩
  subst hw1
  dsimp only
  go_wp2
  go_ret
  exact HP1.out

set_option maxHeartbeats 8000000 in
set_option maxRecDepth 100000 in
theorem plays7_0 (w : World) (B t r m cc : Nat) (l : List It) (cs : List Cu) (x : OpS) (h : PS w B t r m l l cc cs) (_ : 4 ≤ m) (_ : m ≤ 64) (_ : l.length ≤ 4000000000) (hb : Bd l) (hx : So7 x) (h1 : ¬ x.what = 1) (h2 : ¬ x.what = 2) (h3 : ¬ x.what = 3) (h4 : ¬ x.what = 4) (h5 : ¬ x.what = 5) (h6 : ¬ x.what = 6) (h7 : ¬ x.what = 7) (h8 : ¬ x.what = 8) :
    Calls Try.prog 14 #[.pointer (some ⟨cc, 0, none⟩), .pointer (some ⟨t, 0, none⟩), .pointer (some ⟨r, 0, none⟩), .agg #[.int .i64 x.what, .string x.key, .string x.val, .int .i64 x.n]] w (PP w B t r m l cc cs) := by
  have HBS := h.size
  have HSL : Hid (Srt l) := h.srt
  obtain ⟨Z, v, va, vb, h⟩ := h
  obtain ⟨w0, hw0⟩ : ∃ w0, w.alloc (.cells #[.int .i64 x.what, .string x.key, .string x.val, .int .i64 x.n] 43) = w0 := ⟨_, rfl⟩
  obtain ⟨d0, d1, d2, d3⟩ := box4 w (.int .i64 x.what) (.string x.key) (.string x.val) (.int .i64 x.n) 43
  have hb0 : Below w.heap.size w w0 := by rw [← hw0]; exact (Below.refl _ _).alloc (Nat.le_refl _) _
  have hsz0 : w0.heap.size = w.heap.size + 1 := by rw [← hw0]; simp
  rw [hw0] at d0 d1 d2 d3
  have HPL : Hid (PL w0 B Z t r m v l l cc va vb cs) := h.later hb0
  have HZ : Hid (¬ Z w.heap.size) := fun e => by have := (h.duo.tz.lo _ e).2; omega
  have HB0 : Hid (Below B w w0) := hb0.mono HBS
  have HBD : Hid (Bd l) := hb
  have HKS : Hid (x.key.size ≤ 281474976710656 ∧ x.val.size ≤ 281474976710656) := ⟨by have := hx.1; omega, by have := hx.2; omega⟩
  have HS0 : Hid (w.heap.size < w0.heap.size) := by rw [hsz0]; exact Nat.lt_succ_self _
  clear h hb0 hsz0 hb hx
  have HP1 : Hid (PP w B t r m l cc cs (.returned (.bool true)) w0) := ⟨rfl, HB0.out, l, cs, ⟨Z, v, va, vb, HPL.out⟩, Nat.le_succ _, HBD.out, Nat.le_succ _⟩
  go_enter Try.func14, Try.ntmps14
  go_wp2
  try rw [hw0]
  go_ret
  exact HP1.out
end Go.Proofs.Ytlpannicklkghaa
/- Walks of layer 7: plays, Next. -/
namespace Go.Proofs.Ytlpannicklkghaa
open Go.RowKit

theorem tmod_in (a : Int) (n : Nat) (hn : 0 < n) : -(n : Int) < a.tmod n ∧ a.tmod n < n := by
  have h0 : (0 : Int) < n := by omega
  exact ⟨Int.lt_tmod_of_pos a h0, Int.tmod_lt_of_pos a h0⟩
/-- A cursor with another key to go on from. -/
def Cu.at_ (c : Cu) (f : ByteArray) : Cu := ⟨c.own, c.ref, f⟩
theorem set_at {cs : List Cu} {i : Nat} (hi : i < cs.length) (f : ByteArray) {c : Cu} (h : c ∈ cs.set i (cs[i].at_ f)) : ∃ c' ∈ cs, c'.own = c.own ∧ c'.ref = c.ref := by
  rcases List.mem_or_eq_of_mem_set h with h1 | rfl
  · exact ⟨c, h1, rfl, rfl⟩
  · exact ⟨cs[i], List.getElem_mem hi, rfl, rfl⟩
theorem map_at {β : Type} {cs : List Cu} {i : Nat} (hi : i < cs.length) (f : ByteArray) (g : Cu → β) (hg : g (cs[i].at_ f) = g cs[i]) : (cs.set i (cs[i].at_ f)).map g = cs.map g := by
  rw [List.map_set, hg]
  apply List.ext_getElem (by simp)
  intro j h1 h2
  rw [List.getElem_set]
  split
  · rename_i e; subst e; simp
  · rfl
/-- Both cursors have told. -/
theorem PL.turn {w w' : World} {B : Nat} {Z : Nat → Prop} {t r m cc i : Nat} {v va vb : Value} {la lb : List It} {cs : List Cu} {f : ByteArray} (h : PL w B Z t r m v la lb cc va vb cs) (hi : i < cs.length) (ho : Only (fun k => k = cs[i].own ∨ k = cs[i].ref) w w') (h1 : CurAt w' cs[i].own t f) (h2 : RcF w' cs[i].ref r f) : PL w' B Z t r m v la lb cc va vb (cs.set i (cs[i].at_ f)) := by
  have hm := List.getElem_mem hi
  have hin : ∀ k, (k = cs[i].own ∨ k = cs[i].ref) → cz cc va vb cs k := fun k hk => Or.inr (Or.inr (Or.inr ⟨_, hm, hk⟩))
  have hcz : ∀ k, cz cc va vb (cs.set i (cs[i].at_ f)) k → cz cc va vb cs k := fun k hk => by
    rcases hk with hk | hk | hk | ⟨c, hc, hk⟩
    · exact Or.inl hk
    · exact Or.inr (Or.inl hk)
    · exact Or.inr (Or.inr (Or.inl hk))
    · obtain ⟨c', hc', e1, e2⟩ := set_at hi f hc
      exact Or.inr (Or.inr (Or.inr ⟨c', hc', by rw [e1, e2]; exact hk⟩))
  have hco := (h.cur.cur _ hm).1.cells
  obtain ⟨q1, q2, q3, hcr, _⟩ := (h.cur.cur _ hm).2
  have hcr := hcr.cells
  have hkk : ∀ k, k < w.heap.size → ¬ k = cs[i].own → ¬ k = cs[i].ref → w'.heap[k]? = w.heap[k]? := fun k hk n1 n2 => ho.block k hk fun e => by
    rcases e with e | e
    · exact n1 e
    · exact n2 e
  refine ⟨⟨h.duo.tz.kept ho fun k hk e => (h.sep k (hin k e)).1 hk, h.duo.rt.kept (ho.block _ h.duo.rt.lt fun e => (h.sep _ (hin _ e)).2 (Or.inl rfl)) fun k hk => ho.block _ (h.duo.rt.row.lt k hk).2 fun e => (h.sep _ (hin _ e)).2 (Or.inr hk), h.duo.ap⟩, ⟨?_, ?_, ?_, fun c hc => ?_, fun k hk => h.cur.lo k (hcz k hk)⟩, ?_, fun k hk => h.sep k (hcz k hk)⟩
  · rw [hkk cc (h.cur.lt cc (Or.inl rfl)) (fun e => by have := h.cur.cells; rw [e, hco] at this; simp at this) (fun e => by have := h.cur.cells; rw [e, hcr] at this; simp at this)]
    exact h.cur.cells
  · rw [map_at hi f (fun c => ptr c.own) rfl, List.length_set]
    exact own_kept h.cur.rowa fun k e => hkk k (h.cur.rowa.lt k e).2 (fun e2 => own_ne h.cur.rowa hco (by decide) (by rw [e, e2])) (fun e2 => own_ne h.cur.rowa hcr (by decide) (by rw [e, e2]))
  · rw [map_at hi f (fun c => ptr c.ref) rfl, List.length_set]
    exact own_kept h.cur.rowb fun k e => hkk k (h.cur.rowb.lt k e).2 (fun e2 => own_ne h.cur.rowb hco (by decide) (by rw [e, e2])) (fun e2 => own_ne h.cur.rowb hcr (by decide) (by rw [e, e2]))
  · obtain ⟨j, hj, rfl⟩ := List.getElem_of_mem hc
    rw [List.length_set] at hj
    rw [List.getElem_set]
    split
    · exact ⟨h1, h2⟩
    · rename_i hne
      have hcj := h.cur.cur _ (List.getElem_mem hj)
      have hdj : cs[j].own ≠ cs[i].own ∧ cs[j].ref ≠ cs[i].ref := by
        rcases Nat.lt_or_gt_of_ne hne with hlt | hlt
        · have := List.pairwise_iff_getElem.1 h.dis i j hi hj hlt
          exact ⟨this.1.symm, this.2.symm⟩
        · exact List.pairwise_iff_getElem.1 h.dis j i hj hi hlt
      obtain ⟨p1, p2, p3, hrj, p4⟩ := hcj.2
      refine ⟨hcj.1.kept (hkk _ hcj.1.lt hdj.1 fun e => ?_), hcj.2.kept (hkk _ hcj.2.lt (fun e => ?_) hdj.2)⟩
      · have h5 := hcj.1.cells
        rw [e, hcr] at h5
        simp at h5
      · have h5 := hrj.cells
        rw [e, hco] at h5
        simp at h5
  · have h5 : (cs.map fun c => (c.own, c.ref)).Pairwise fun a b => a.1 ≠ b.1 ∧ a.2 ≠ b.2 := List.pairwise_map.2 h.dis
    rw [← map_at hi f (fun c => (c.own, c.ref)) rfl] at h5
    exact List.pairwise_map.1 h5
/-- One cursor has told: what the other one finds. -/
theorem PL.half {w w' : World} {B : Nat} {Z : Nat → Prop} {t r m cc i : Nat} {v va vb : Value} {la lb : List It} {cs : List Cu} (h : PL w B Z t r m v la lb cc va vb cs) (hi : i < cs.length) (ho : Only (fun k => k = cs[i].own) w w') : RcF w' cs[i].ref r cs[i].frm ∧ RtAt w' B r m v lb ∧ w'.heap[cc]? = w.heap[cc]? ∧ ∀ k, vb.ownBlock = some k → w'.heap[k]? = w.heap[k]? := by
  have hm := List.getElem_mem hi
  have hin : cz cc va vb cs cs[i].own := Or.inr (Or.inr (Or.inr ⟨_, hm, Or.inl rfl⟩))
  have hco := (h.cur.cur _ hm).1.cells
  obtain ⟨q1, q2, q3, hcr, _⟩ := (h.cur.cur _ hm).2
  have hcr := hcr.cells
  refine ⟨(h.cur.cur _ hm).2.kept (ho.block _ (h.cur.cur _ hm).2.lt fun e => ?_), h.duo.rt.kept (ho.block _ h.duo.rt.lt fun e => (h.sep _ hin).2 (Or.inl e.symm)) fun k hk => ho.block _ (h.duo.rt.row.lt k hk).2 fun e => (h.sep _ hin).2 (Or.inr (by rw [hk, e])), ho.block cc (h.cur.lt cc (Or.inl rfl)) fun e => ?_, fun k hk => ho.block k (h.cur.rowb.lt k hk).2 fun e => own_ne h.cur.rowb hco (by decide) (by rw [hk, e])⟩
  · rw [e, hco] at hcr
    simp at hcr
  · have := h.cur.cells
    rw [e, hco] at this
    simp at this
set_option maxHeartbeats 8000000 in
set_option maxRecDepth 100000 in
theorem plays7_7 (w : World) (B t r m cc : Nat) (l : List It) (cs : List Cu) (x : OpS) (h : PS w B t r m l l cc cs) (hm : 4 ≤ m) (hm2 : m ≤ 64) (hl : l.length ≤ 4000000000) (hb : Bd l) (hcn : cs.length ≤ 4000000000) :
    Calls Try.prog 14 #[.pointer (some ⟨cc, 0, none⟩), .pointer (some ⟨t, 0, none⟩), .pointer (some ⟨r, 0, none⟩), .agg #[.int .i64 7, .string x.key, .string x.val, .int .i64 x.n]] w (PP w B t r m l cc cs) := by
  have HBS := h.size
  have HSL : Hid (Srt l) := h.srt
  obtain ⟨Z, v, va, vb, h⟩ := h
  obtain ⟨w0, hw0⟩ : ∃ w0, w.alloc (.cells #[.int .i64 7, .string x.key, .string x.val, .int .i64 x.n] 43) = w0 := ⟨_, rfl⟩
  obtain ⟨d0, d1, d2, d3⟩ := box4 w (.int .i64 7) (.string x.key) (.string x.val) (.int .i64 x.n) 43
  have hb0 : Below w.heap.size w w0 := by rw [← hw0]; exact (Below.refl _ _).alloc (Nat.le_refl _) _
  rw [hw0] at d0 d1 d2 d3
  have hpl := h.later hb0
  obtain ⟨pa, ca, rfl, hca, hca2⟩ := srow_form hpl.cur.rowa
  obtain ⟨pb, cb, rfl, hcb, hcb2⟩ := srow_form hpl.cur.rowb
  have k0 : w0.cell? ⟨cc, 0, none⟩ = some (.slice pa cs.length ca) := by simp [World.cell?, hpl.cur.cells]
  have k1 : w0.cell? ⟨cc, 1, none⟩ = some (.slice pb cs.length cb) := by simp [World.cell?, hpl.cur.cells]
  have HPL : Hid (PL w0 B Z t r m v l l cc (.slice pa cs.length ca) (.slice pb cs.length cb) cs) := hpl
  have HB0 : Hid (Below B w w0) := hb0.mono HBS
  have HBD : Hid (Bd l) := hb
  clear h hb0 hb hpl d1 d2
  by_cases hn0 : cs.length = 0
  · have hn1 : ((cs.length : Int) == 0) = true := by rw [hn0]; rfl
    have HP1 : Hid (PP w B t r m l cc cs (.returned (.bool true)) w0) := ⟨rfl, HB0.out, l, cs, ⟨Z, v, _, _, HPL.out⟩, Nat.le_succ _, HBD.out, Nat.le_succ _⟩
    go_enter Try.func14, Try.ntmps14
    go_wp2
    try rw [hw0]
    go_ret
    exact HP1.out
  · have hn1 : ((cs.length : Int) == 0) = false := by rw [beq_eq_false_iff_ne]; omega
    have hn2 : ¬ (cs.length : Int) = 0 := by omega
    go_enter Try.func14, Try.ntmps14
    go_wp2_with fail
    try rw [hw0]
    go_quiet (fail)
    obtain ⟨w1, hw1⟩ : ∃ w1, w0.drewN nq = w1 := ⟨_, rfl⟩
    have HPL1 : Hid (PL w1 B Z t r m v l l cc (.slice pa cs.length ca) (.slice pb cs.length cb) cs) := by rw [← hw1]; exact HPL.out.later (below_drewN (Below.refl _ _) _)
    have HB1 : Hid (Below B w w1) := by rw [← hw1]; exact below_drewN HB0.out _
    rw [hw1]
    have hbw1 : B ≤ w1.heap.size := by have := HB1.out.size; omega
    clear hw1 HPL HB0 k0 k1 d0 d3
    obtain ⟨hq1, hq2⟩ := tmod_in x.n cs.length (by omega)
    obtain ⟨q, hq⟩ : ∃ q, x.n.tmod cs.length = q := ⟨_, rfl⟩
    rw [hq] at hq1 hq2 ⊢
    clear hq hw0
    obtain ⟨i, hi, hqi⟩ : ∃ i : Nat, i < cs.length ∧ ((q < 0 ∧ q + cs.length = i) ∨ (0 ≤ q ∧ q = i)) := by
      by_cases h0 : q < 0
      · exact ⟨(q + cs.length).toNat, by omega, Or.inl ⟨h0, by omega⟩⟩
      · exact ⟨q.toNat, by omega, Or.inr ⟨by omega, by omega⟩⟩
    have k0 : w1.cell? ⟨cc, 0, none⟩ = some (.slice pa cs.length ca) := by simp [World.cell?, HPL1.out.cur.cells]
    have k1 : w1.cell? ⟨cc, 1, none⟩ = some (.slice pb cs.length cb) := by simp [World.cell?, HPL1.out.cur.cells]
    obtain ⟨ga, rfl, _, _, _, _⟩ := own_front HPL1.out.cur.rowa (by omega)
    obtain ⟨gb, rfl, _, _, _, _⟩ := own_front HPL1.out.cur.rowb (by omega)
    obtain ⟨co, hco⟩ : ∃ co, cs[i].own = co := ⟨_, rfl⟩
    obtain ⟨ro, hro⟩ : ∃ ro, cs[i].ref = ro := ⟨_, rfl⟩
    obtain ⟨f, hf⟩ : ∃ f, cs[i].frm = f := ⟨_, rfl⟩
    have ea : w1.cell? ⟨ga, i, none⟩ = some (.pointer (some ⟨co, 0, none⟩)) := by
      have h1 := HPL1.out.cur.rowa.cellAt i (by omega)
      rw [List.getElem?_map, List.getElem?_eq_getElem hi, Option.map_some, hco] at h1
      exact h1
    have eb : w1.cell? ⟨gb, i, none⟩ = some (.pointer (some ⟨ro, 0, none⟩)) := by
      have h1 := HPL1.out.cur.rowb.cellAt i (by omega)
      rw [List.getElem?_map, List.getElem?_eq_getElem hi, Option.map_some, hro] at h1
      exact h1
    have HN1 := next_z w1 B Z co t m f l (by rw [← hco, ← hf]; exact (HPL1.out.cur.cur _ (List.getElem_mem hi)).1) HPL1.out.duo.tz hm hm2 hl fun y hy => (HBD.out y hy).2
    have HN2 : Hid (∀ w2, Only (fun k => k = co) w1 w2 → (w2.cell? ⟨cc, 1, none⟩ = some (.slice (some ⟨gb, 0, none⟩) cs.length cb) ∧ w2.cell? ⟨gb, i, none⟩ = some (.pointer (some ⟨ro, 0, none⟩))) ∧ Calls Try.prog 30 #[.pointer (some ⟨ro, 0, none⟩)] w2 fun e w' => Only (fun k => k = ro) w2 w' ∧ e = .returned (nextV (l.drop (cntL f l))) ∧ RcF w' ro r (nextF f (l.drop (cntL f l)))) := fun w2 ho => by
      obtain ⟨z1, z2, z3, z4⟩ := HPL1.out.half hi (by rw [hco]; exact ho)
      exact ⟨⟨cell_at z3 k1, cell_at (z4 gb rfl) eb⟩, rnext_any w2 B ro r m v f l (by rw [← hro, ← hf]; exact z1) z2 HSL.out hl fun y hy => (HBD.out y hy).2.1⟩
    have HEND : Hid (∀ w2 w3, Only (fun k => k = co) w1 w2 → CurAt w2 co t (nextF f (l.drop (cntL f l))) → Only (fun k => k = ro) w2 w3 → RcF w3 ro r (nextF f (l.drop (cntL f l))) → PP w B t r m l cc cs (.returned (.bool true)) w3) := fun w2 w3 ho2 hc2 ho3 hr3 => by
      have ho : Only (fun k => k = cs[i].own ∨ k = cs[i].ref) w1 w3 := (ho2.mono fun k e => Or.inl (e.trans hco.symm)).trans (ho3.mono fun k e => Or.inr (e.trans hro.symm))
      have hc3 := hc2.kept (ho3.block co hc2.lt fun e => by
        obtain ⟨⟨_, _, _, z1, _⟩, _⟩ := HPL1.out.half hi (by rw [hco]; exact ho2)
        have z2 := z1.cells
        rw [hro, ← e, hc2.cells] at z2
        simp at z2)
      refine ⟨rfl, HB1.out.trans (ho.below hbw1 fun k hk e => ?_), l, _, ⟨Z, v, _, _, HPL1.out.turn hi ho (by rw [hco]; exact hc3) (by rw [hro]; exact hr3)⟩, Nat.le_succ _, HBD.out, by rw [List.length_set]; exact Nat.le_succ _⟩
      have := HPL1.out.cur.lo k (Or.inr (Or.inr (Or.inr ⟨_, List.getElem_mem hi, e⟩)))
      omega
    obtain ⟨D, hD⟩ : ∃ D, l.drop (cntL f l) = D := ⟨_, rfl⟩
    rw [hD] at HN1 HN2 HEND
    clear hD
    rcases hqi with ⟨hqn, hqi⟩ | ⟨hqn, rfl⟩
    · have htn : (q + cs.length).toNat = i := by omega
      have hql : q + cs.length < cs.length := by omega
      have hq0 : 0 ≤ q + cs.length := by omega
      cases D with
      | nil =>
        simp only [nextV, nextF] at HN1 HN2 HEND
        go_wp2_with fail
        refine HN1.mono ?_
        rintro e w2 ⟨ho2, rfl, hc2⟩
        obtain ⟨⟨k1, eb⟩, hn2⟩ := HN2.out w2 ho2
        dsimp only
        go_wp2_with fail
        refine hn2.mono ?_
        rintro e w3 ⟨ho3, rfl, hr3⟩
        dsimp only
        go_wp2
        go_ret
        exact HEND.out w2 w3 ho2 hc2 ho3 hr3
      | cons y D' =>
        simp only [nextV, nextF] at HN1 HN2 HEND
        have e1 : (y.key.toList == y.key.toList) = true := by simp
        have e2 : (y.val.toList == y.val.toList) = true := by simp
        go_wp2_with fail
        refine HN1.mono ?_
        rintro e w2 ⟨ho2, rfl, hc2⟩
        obtain ⟨⟨k1, eb⟩, hn2⟩ := HN2.out w2 ho2
        dsimp only
        go_wp2_with fail
        refine hn2.mono ?_
        rintro e w3 ⟨ho3, rfl, hr3⟩
        dsimp only
        go_wp2
        go_ret
        exact HEND.out w2 w3 ho2 hc2 ho3 hr3
    · have hql : (i : Int) < cs.length := by omega
      have hqn2 : ¬ (i : Int) < 0 := by omega
      cases D with
      | nil =>
        simp only [nextV, nextF] at HN1 HN2 HEND
        go_wp2_with fail
        refine HN1.mono ?_
        rintro e w2 ⟨ho2, rfl, hc2⟩
        obtain ⟨⟨k1, eb⟩, hn2⟩ := HN2.out w2 ho2
        dsimp only
        go_wp2_with fail
        refine hn2.mono ?_
        rintro e w3 ⟨ho3, rfl, hr3⟩
        dsimp only
        go_wp2
        go_ret
        exact HEND.out w2 w3 ho2 hc2 ho3 hr3
      | cons y D' =>
        simp only [nextV, nextF] at HN1 HN2 HEND
        have e1 : (y.key.toList == y.key.toList) = true := by simp
        have e2 : (y.val.toList == y.val.toList) = true := by simp
        go_wp2_with fail
        refine HN1.mono ?_
        rintro e w2 ⟨ho2, rfl, hc2⟩
        obtain ⟨⟨k1, eb⟩, hn2⟩ := HN2.out w2 ho2
        dsimp only
        go_wp2_with fail
        refine hn2.mono ?_
        rintro e w3 ⟨ho3, rfl, hr3⟩
        dsimp only
        go_wp2
        go_ret
        exact HEND.out w2 w3 ho2 hc2 ho3 hr3
end Go.Proofs.Ytlpannicklkghaa
/- Walks of layer 7: plays, Seek. -/
namespace Go.Proofs.Ytlpannicklkghaa
open Go.RowKit

theorem Try.infoCurP : (Try.prog.info? 64).map (fun i => (i.zero, i.size, i.bytes)) = some (some (.pointer none), 1, 8) := by kernel_rfl
theorem Try.infoCurR : (Try.prog.info? 77).map (fun i => (i.zero, i.size, i.bytes)) = some (some (.pointer none), 1, 8) := by kernel_rfl

/-- What turns when a cursor is added. -/
def yz (cc : Nat) (va vb : Value) (k : Nat) : Prop := k = cc ∨ va.ownBlock = some k ∨ vb.ownBlock = some k
theorem PL.push {w w' : World} {B N : Nat} {Z : Nat → Prop} {t r m cc co ro : Nat} {v va vb va' vb' : Value} {la lb : List It} {cs : List Cu} {f : ByteArray} (h : PL w B Z t r m v la lb cc va vb cs) (ho : Only (yz cc va vb) w w') (hc : w'.heap[cc]? = some (.cells #[va', vb'] 40 (0, 0)))
    (ha : w'.ownsRow B 64 1 va' (cs.length + 1) ((cs.map fun c => ptr c.own) ++ [ptr co])) (hb : w'.ownsRow B 77 1 vb' (cs.length + 1) ((cs.map fun c => ptr c.ref) ++ [ptr ro])) (h1 : CurAt w' co t f) (h2 : RcF w' ro r f) (hBN : B ≤ N) (hco : N ≤ co) (hro : N ≤ ro)
    (hz : ∀ k, Z k → k < N) (hr : ∀ k, rz r v k → k < N) (hcz : ∀ k, cz cc va vb cs k → k < N) (hva : ∀ k, va'.ownBlock = some k → va.ownBlock = some k ∨ N ≤ k) (hvb : ∀ k, vb'.ownBlock = some k → vb.ownBlock = some k ∨ N ≤ k) : PL w' B Z t r m v la lb cc va' vb' (cs ++ [⟨co, ro, f⟩]) := by
  have hnew : ∀ k, cz cc va' vb' (cs ++ [⟨co, ro, f⟩]) k → cz cc va vb cs k ∨ N ≤ k := fun k hk => by
    rcases hk with hk | hk | hk | ⟨c, hc, hk⟩
    · exact Or.inl (Or.inl hk)
    · rcases hva k hk with h3 | h3
      · exact Or.inl (Or.inr (Or.inl h3))
      · exact Or.inr h3
    · rcases hvb k hk with h3 | h3
      · exact Or.inl (Or.inr (Or.inr (Or.inl h3)))
      · exact Or.inr h3
    · rcases List.mem_append.1 hc with hc | hc
      · exact Or.inl (Or.inr (Or.inr (Or.inr ⟨c, hc, hk⟩)))
      · obtain rfl := List.mem_singleton.1 hc
        rcases hk with rfl | rfl
        · exact Or.inr hco
        · exact Or.inr hro
  have hyc : ∀ k, yz cc va vb k → cz cc va vb cs k := fun k hk => by
    rcases hk with hk | hk | hk
    · exact Or.inl hk
    · exact Or.inr (Or.inl hk)
    · exact Or.inr (Or.inr (Or.inl hk))
  refine ⟨⟨h.duo.tz.kept ho fun k hk e => (h.sep k (hyc k e)).1 hk, h.duo.rt.kept (ho.block _ h.duo.rt.lt fun e => (h.sep _ (hyc _ e)).2 (Or.inl rfl)) fun k hk => ho.block _ (h.duo.rt.row.lt k hk).2 fun e => (h.sep _ (hyc _ e)).2 (Or.inr hk), h.duo.ap⟩, ⟨hc, ?_, ?_, fun c hc => ?_, fun k hk => ?_⟩, ?_, fun k hk => ?_⟩
  · rw [List.length_append, List.length_singleton, List.map_append]; exact ha
  · rw [List.length_append, List.length_singleton, List.map_append]; exact hb
  · rcases List.mem_append.1 hc with hc | hc
    · have hcj := h.cur.cur c hc
      obtain ⟨p1, p2, p3, hrj, p4⟩ := id hcj.2
      refine ⟨hcj.1.kept (ho.block _ hcj.1.lt fun e => ?_), hcj.2.kept (ho.block _ hcj.2.lt fun e => ?_)⟩
      · rcases e with e | e | e
        · have h5 := h.cur.cells
          rw [← e, hcj.1.cells] at h5
          simp at h5
        · exact own_ne h.cur.rowa hcj.1.cells (by decide) e
        · exact own_ne h.cur.rowb hcj.1.cells (by decide) e
      · rcases e with e | e | e
        · have h5 := h.cur.cells
          rw [← e, hrj.cells] at h5
          simp at h5
        · exact own_ne h.cur.rowa hrj.cells (by decide) e
        · exact own_ne h.cur.rowb hrj.cells (by decide) e
    · obtain rfl := List.mem_singleton.1 hc
      exact ⟨h1, h2⟩
  · rcases hnew k hk with h3 | h3
    · exact h.cur.lo k h3
    · omega
  · refine List.pairwise_append.2 ⟨h.dis, List.pairwise_singleton _ _, fun c hc c' hc' => ?_⟩
    obtain rfl := List.mem_singleton.1 hc'
    have h3 := hcz _ (Or.inr (Or.inr (Or.inr ⟨c, hc, Or.inl rfl⟩)))
    have h4 := hcz _ (Or.inr (Or.inr (Or.inr ⟨c, hc, Or.inr rfl⟩)))
    exact ⟨by show c.own ≠ co; omega, by show c.ref ≠ ro; omega⟩
  · rcases hnew k hk with h3 | h3
    · exact h.sep k h3
    · exact ⟨fun e => by have := hz k e; omega, fun e => by have := hr k e; omega⟩
theorem bel_da (w : World) (a b : Obj) : Below w.heap.size w ((w.drew.alloc a).alloc b) := ((Below.refl _ _).drew.alloc (Nat.le_refl _) _).alloc (by simp) _
theorem cell_two (w : World) (a : Obj) (u : Value) (ty : TypeId) : ∀ j x, ([u] : List Value)[j]? = some x → ((w.drew.alloc a).alloc (.cells #[u] ty)).cell? ((⟨w.heap.size + 1, 0, none⟩ : Addr).add j) = some x := by
  have h := cell_one (w.drew.alloc a) u ty
  have e : (w.drew.alloc a).heap.size = w.heap.size + 1 := by simp
  rw [e] at h
  exact h
theorem rows_ne {w : World} {B n n' : Nat} {e e' : TypeId} {z z' : Nat} {va vb : Value} {xs ys : List Value} (ha : w.ownsRow B e z va n xs) (hb : w.ownsRow B e' z' vb n' ys) (hne : e ≠ e') (k : Nat) (hk : vb.ownBlock = some k) : va.ownBlock ≠ some k := by
  obtain ⟨_, ⟨e1, _⟩ | ⟨g', cap, cur, e1, _, hh, _⟩⟩ := hb
  · rw [e1] at hk; cases hk
  · rw [e1] at hk
    obtain rfl : g' = k := by simpa [Value.ownBlock] using hk
    exact own_ne ha hh (fun h => hne h.symm)
set_option maxHeartbeats 8000000 in
set_option maxRecDepth 100000 in
theorem plays7_6 (w : World) (B t r m cc : Nat) (l : List It) (cs : List Cu) (x : OpS) (h : PS w B t r m l l cc cs) (hb : Bd l) (hx : So7 x) (hcn : cs.length ≤ 4000000000) :
    Calls Try.prog 14 #[.pointer (some ⟨cc, 0, none⟩), .pointer (some ⟨t, 0, none⟩), .pointer (some ⟨r, 0, none⟩), .agg #[.int .i64 6, .string x.key, .string x.val, .int .i64 x.n]] w (PP w B t r m l cc cs) := by
  obtain ⟨i1, hi1, hz0, hz1, hz2⟩ := info_parts Try.infoCurP
  obtain ⟨i2, hi2, hy0, hy1, hy2⟩ := info_parts Try.infoCurR
  have HBS := h.size
  obtain ⟨Z, v, va, vb, h⟩ := h
  obtain ⟨w0, hw0⟩ : ∃ w0, w.alloc (.cells #[.int .i64 6, .string x.key, .string x.val, .int .i64 x.n] 43) = w0 := ⟨_, rfl⟩
  obtain ⟨d0, d1, d2, d3⟩ := box4 w (.int .i64 6) (.string x.key) (.string x.val) (.int .i64 x.n) 43
  have hb0 : Below w.heap.size w w0 := by rw [← hw0]; exact (Below.refl _ _).alloc (Nat.le_refl _) _
  have hsz0 : w0.heap.size = w.heap.size + 1 := by rw [← hw0]; simp
  rw [hw0] at d0 d1 d2 d3
  have hpl := h.later hb0
  have HLT : Hid (∀ k, cz cc va vb cs k → k < w.heap.size) := fun k hk => h.cur.lt k hk
  have HZL : Hid ((∀ k, Z k → k < w.heap.size) ∧ ∀ k, rz r v k → k < w.heap.size) := ⟨fun k hk => (h.duo.tz.lo k hk).2, fun k hk => by
    rcases hk with rfl | hk
    · exact h.duo.rt.lt
    · exact (h.duo.rt.row.lt k hk).2⟩
  obtain ⟨pa, ca, rfl, hca, hca2⟩ := srow_form hpl.cur.rowa
  obtain ⟨pb, cb, rfl, hcb, hcb2⟩ := srow_form hpl.cur.rowb
  have HPL : Hid (PL w0 B Z t r m v l l cc (.slice pa cs.length ca) (.slice pb cs.length cb) cs) := hpl
  have HB0 : Hid (Below B w w0) := hb0.mono HBS
  have HBD : Hid (Bd l) := hb
  have HSK := seek_any w0 t x.key (by have := hx.1; omega)
  have hccl := HLT.out cc (Or.inl rfl)
  clear h hb0 hb hpl d2 d3 hx
  go_enter Try.func14, Try.ntmps14
  go_wp2_with fail
  try rw [hw0]
  refine HSK.mono ?_
  rintro e w1 ⟨hb1, co, rfl, hco, hc1⟩
  have hs1 := hb1.size
  have HPL1 : Hid (PL w1 B Z t r m v l l cc (.slice pa cs.length ca) (.slice pb cs.length cb) cs) := HPL.out.later hb1
  have HB1 : Hid (Below B w w1) := HB0.out.trans (hb1.mono (by omega))
  have HC1 : Hid (CurAt w1 co t x.key) := hc1
  have d1 := cell_at (hb1.block _ (by omega)) d1
  have k0 : w1.cell? ⟨cc, 0, none⟩ = some (.slice pa cs.length ca) := by simp [World.cell?, HPL1.out.cur.cells]
  have k1 : w1.cell? ⟨cc, 1, none⟩ = some (.slice pb cs.length cb) := by simp [World.cell?, HPL1.out.cur.cells]
  have HOA : Hid (w1.ownsRow B 64 1 (.slice pa cs.length ca) cs.length (cs.map fun c => ptr c.own)) := HPL1.out.cur.rowa
  clear hb1 hc1 HPL HB0 HSK hw0 d0
  dsimp only
  go_wp2_with (at_builtin; go_must (refine wpList_append_lies _ rfl _ _ 37 rfl B 64 i1 _ 1 8 Try.underlying37 hi1 hz0 hz1 hz2 rfl (by decide) _ _ _ rfl (HOA.out.alloc _) ⟨w1.heap.size, 0, none⟩ 1 1 [.pointer (some ⟨co, 0, none⟩)] rfl rfl (cell_one w1 _ _) (by intro u hu; simp at hu; subst hu; rfl) Nat.one_pos (by unfold maxLen; omega) (by omega) (by simp; omega) _ rfl ?_); intro g2 cap2 w2 hown2 hgrow2 hor2 hlt2; (have hcc2 : w2.heap[cc]? = w1.heap[cc]? := (hgrow2.block cc (by simp; omega) (fun e => own_ne HOA.out HPL1.out.cur.cells (by decide) e.symm)).trans (Below.heap_alloc _ _ _ (by omega))); (have e0 := cell_at hcc2 k0); (have e1 := cell_at hcc2 k1); (have f0 : ∀ o, w2.frozen? ⟨cc, o, none⟩ = false := fun o => by simp [World.frozen?, hcc2, HPL1.out.cur.cells]))
  obtain ⟨w3, hw3⟩ : ∃ w3, w2.setCell ⟨cc, 0, none⟩ (.slice (some ⟨g2, 0, none⟩) (cs.length + 1) cap2) = w3 := ⟨_, rfl⟩
  have hsz3 : w3.heap.size = w2.heap.size := by rw [← hw3]; simp
  have hs2 : w1.heap.size ≤ w2.heap.size := by have := hgrow2.size; simp at this; omega
  have HK2 : Hid (∀ k, k < w1.heap.size → ¬ k = cc → (Value.slice pa cs.length ca).ownBlock ≠ some k → w3.heap[k]? = w1.heap[k]?) := fun k hk n1 n2 => by
    rw [← hw3, Below.heap_setCell _ _ _ _ (fun e => n1 e), hgrow2.block k (by simp; omega) (fun e => n2 e.symm), Below.heap_alloc _ _ _ hk]
  have HOB : Hid (w3.ownsRow B 77 1 (.slice pb cs.length cb) cs.length (cs.map fun c => ptr c.ref)) := own_kept HPL1.out.cur.rowb fun k e => HK2.out k (HPL1.out.cur.rowb.lt k e).2 (fun e2 => own_ne HPL1.out.cur.rowb HPL1.out.cur.cells (by decide) (by rw [e, e2])) (rows_ne HPL1.out.cur.rowa HPL1.out.cur.rowb (by decide) k e)
  have d1 : w3.cell? ⟨w.heap.size, 1, none⟩ = some (.string x.key) := cell_at (HK2.out _ (by omega) (by omega) (fun e => by have := HLT.out _ (Or.inr (Or.inl e)); omega)) d1
  have k1 : w3.cell? ⟨cc, 1, none⟩ = some (.slice pb cs.length cb) := by rw [← hw3, World.cell?_setCell_other _ _ _ _ (by simp)]; exact e1
  have f1 : ∀ o, w3.frozen? ⟨cc, o, none⟩ = false := fun o => by rw [← hw3, World.frozen?_setCell]; exact f0 o
  have hc3 : (w3.heap[cc]? = some (.cells #[.slice (some ⟨g2, 0, none⟩) (cs.length + 1) cap2, .slice pb cs.length cb] 40 (0, 0))) := by
    rw [← hw3, heap_setCell_at (hcc2.trans HPL1.out.cur.cells)]
    simp
  have HC3 : Hid (w3.heap[cc]? = some (.cells #[.slice (some ⟨g2, 0, none⟩) (cs.length + 1) cap2, .slice pb cs.length cb] 40 (0, 0))) := hc3
  clear hc3
  have HOA3 : Hid (w3.ownsRow B 64 1 (.slice (some ⟨g2, 0, none⟩) (cs.length + 1) cap2) (cs.length + 1) ((cs.map fun c => ptr c.own) ++ [ptr co])) := by
    rw [← hw3]
    exact own_kept hown2 fun k e => Below.heap_setCell _ _ _ _ fun e2 => own_ne hown2 (hcc2.trans HPL1.out.cur.cells) (by decide) (by rw [e, show k = cc from e2])
  have HG2 : Hid ((Value.slice pa cs.length ca).ownBlock = some g2 ∨ w1.heap.size ≤ g2) := by
    rcases hor2 with h1 | h1
    · exact Or.inl h1
    · exact Or.inr (by rw [h1]; simp)
  have hB3 : B ≤ w3.heap.size := by omega
  rw [hw3]
  have HO3 : Hid (Only (yz cc (.slice pa cs.length ca) (.slice pb cs.length cb)) w1 w3) := by
    rw [← hw3]
    exact Only.setCell (Z := yz cc (.slice pa cs.length ca) (.slice pb cs.length cb)) (Only.grown ((Only.refl _ _).alloc _) hgrow2 fun k e => Or.inr (Or.inl e)) (p := ⟨cc, 0, none⟩) (Or.inl rfl) _
  have HB3 : Hid (Below B w w3) := by
    rw [← hw3]
    exact ((HB1.out.alloc (by omega) _).grown hgrow2 (by simp; omega) (fun j hj => (HOA.out.lt j hj).1)).setCell (HPL1.out.cur.lo cc (Or.inl rfl)) _
  clear hw3 hown2 hgrow2 hor2 hlt2 hcc2 e0 e1 f0 k0
  have hs3 : w1.heap.size ≤ w3.heap.size := by omega
  have hne1 : ¬ w3.heap.size = cc := by omega
  have hne2 : ¬ cc = w3.heap.size := by omega
  have hne3 : ¬ w3.heap.size + 1 = cc := by omega
  have hne4 : ¬ cc = w3.heap.size + 1 := by omega
  have hcl3 : cc < w3.heap.size := by omega
  clear hsz3 hs2
  have HOW : Hid (∀ w', Below w3.heap.size w3 w' → w'.ownsRow B 77 1 (.slice pb cs.length cb) cs.length (cs.map fun c => ptr c.ref)) := fun w' hb => own_kept HOB.out fun k e => hb.block k (HOB.out.lt k e).2
  go_region_law (first | ((refine step_append_lies _ (by rfl) _ _ 38 (by rfl) B 77 i2 _ 1 8 Try.underlying38 hi2 hy0 hy1 hy2 rfl (by decide) _ _ _ (by rfl) (HOW.out _ (bel_da _ _ _)) ⟨w3.heap.size + 1, 0, none⟩ 1 1 [.pointer (some ⟨w3.heap.size, 0, none⟩)] (by rfl) rfl (cell_two _ _ _ _) (by intro u hu; simp at hu; subst hu; rfl) Nat.one_pos (by unfold maxLen; omega) (by omega) (by simp; omega) _ (by rfl) ?_); intro g5 cap5 w5 hown5 hgrow5 hor5 hlt5; (have hcc5 : w5.heap[cc]? = w3.heap[cc]? := (hgrow5.block cc (by simp; omega) (fun e => own_ne HOB.out HC3.out (by decide) e.symm)).trans ((bel_da w3 _ _).block cc hcl3)); (have k5 := cell_at hcc5 k1); (have f5 : ∀ o, w5.frozen? ⟨cc, o, none⟩ = false := fun o => by simp [World.frozen?, hcc5, HC3.out])))
  all_goals
    have ho6 : Only (yz cc (.slice pa cs.length ca) (.slice pb cs.length cb)) w1 (w5.setCell ⟨cc, 1, none⟩ (.slice (some ⟨g5, 0, none⟩) (cs.length + 1) cap5)) := ((HO3.out.later (bel_da w3 _ _)).grown hgrow5 fun k e => Or.inr (Or.inr e)).setCell (p := ⟨cc, 1, none⟩) (Or.inl rfl) _
    have hro : w5.heap[w3.heap.size]? = some (.cells #[.pointer (some ⟨r, 0, none⟩), .string x.key, .bool false, .string ⟨#[]⟩] 79 (0, 0)) := by
      rw [hgrow5.block w3.heap.size (by simp; omega) (fun e => by have := (HOB.out.lt _ e.symm).2; omega)]
      exact (Below.heap_alloc (w3.alloc _) _ _ (by simp)).trans (heap_alloc_new w3 _)
    have hg5c : ¬ g5 = cc := fun e => own_ne hown5 (hcc5.trans HC3.out) (by decide) (by rw [e]; rfl)
    have HP6 : Hid (PP w B t r m l cc cs (.returned (.bool true)) (w5.setCell ⟨cc, 1, none⟩ (.slice (some ⟨g5, 0, none⟩) (cs.length + 1) cap5))) := by
      refine ⟨rfl, HB1.out.trans (ho6.below (by omega) fun k hk e => ?_), l, _, ⟨Z, v, _, _, HPL1.out.push (N := w.heap.size) ho6 (va' := .slice (some ⟨g2, 0, none⟩) (cs.length + 1) cap2) (vb' := .slice (some ⟨g5, 0, none⟩) (cs.length + 1) cap5) (co := co) (ro := w3.heap.size) (f := x.key) ?_ ?_ ?_ ?_ ?_ HBS (by omega) (by omega) HZL.out.1 HZL.out.2 HLT.out (fun k hk => ?_) (fun k hk => ?_)⟩, Nat.le_succ _, HBD.out, ?_⟩
      · have h3 := HPL1.out.cur.lo k (by rcases e with e | e | e; exact Or.inl e; exact Or.inr (Or.inl e); exact Or.inr (Or.inr (Or.inl e)))
        omega
      · rw [heap_setCell_at (hcc5.trans HC3.out)]
        simp
      · refine own_kept HOA3.out fun k e => ?_
        have hk3 := (HOA3.out.lt k e).2
        rw [Below.heap_setCell _ _ _ _ (fun e2 => own_ne HOA3.out HC3.out (by decide) (by rw [e, show k = cc from e2])), hgrow5.block k (by simp; omega) (fun e2 => rows_ne HOA3.out HOB.out (by decide) k e2.symm e)]
        exact (bel_da w3 _ _).block k hk3
      · exact own_kept hown5 fun k e => Below.heap_setCell _ _ _ _ fun e2 => own_ne hown5 (hcc5.trans HC3.out) (by decide) (by rw [e, show k = cc from e2])
      · refine HC1.out.kept (ho6.block co HC1.out.lt fun e => ?_)
        have h3 := HLT.out co (by rcases e with e | e | e; exact Or.inl e; exact Or.inr (Or.inl e); exact Or.inr (Or.inr (Or.inl e)))
        omega
      · exact ⟨x.key, false, ⟨#[]⟩, ⟨by rw [Below.heap_setCell _ _ _ _ (fun e => by have e2 : w3.heap.size = cc := e; omega)]; exact hro⟩, rfl, by decide⟩
      · obtain rfl : g2 = k := by simpa [Value.ownBlock] using hk
        rcases HG2.out with h3 | h3
        · exact Or.inl h3
        · exact Or.inr (by omega)
      · obtain rfl : g5 = k := by simpa [Value.ownBlock] using hk
        rcases hor5 with h3 | h3
        · exact Or.inl h3
        · exact Or.inr (by rw [h3]; simp; omega)
      · rw [List.length_append]
        exact Nat.le_refl _
    clear ho6 hro hown5 hgrow5 hor5 hlt5 hcc5
    go_wp2
    go_ret
    exact HP6.out
end Go.Proofs.Ytlpannicklkghaa
/- Walks of layer 7: plays, whatever is played. -/
namespace Go.Proofs.Ytlpannicklkghaa
open Go.RowKit

theorem plays7_any (w : World) (B t r m cc : Nat) (l : List It) (cs : List Cu) (x : OpS) (h : PS w B t r m l l cc cs) (hm : 4 ≤ m) (hm2 : m ≤ 64) (hl : l.length ≤ 4000000000) (hb : Bd l) (hx : So7 x) (hcn : cs.length ≤ 4000000000) :
    Calls Try.prog 14 #[.pointer (some ⟨cc, 0, none⟩), .pointer (some ⟨t, 0, none⟩), .pointer (some ⟨r, 0, none⟩), .agg #[.int .i64 x.what, .string x.key, .string x.val, .int .i64 x.n]] w (PP w B t r m l cc cs) := by
  by_cases h1 : x.what = 1
  · rw [h1]; exact plays7_1 w B t r m cc l cs x h hm hm2 hl hb hx
  by_cases h2 : x.what = 2
  · rw [h2]; exact plays7_2 w B t r m cc l cs x h hm hm2 hl hb hx
  by_cases h3 : x.what = 3
  · rw [h3]; exact plays7_3 w B t r m cc l cs x h hm hm2 hl hb hx
  by_cases h4 : x.what = 4
  · rw [h4]; exact plays7_4 w B t r m cc l cs x h hm hm2 hl hb hx
  by_cases h5 : x.what = 5
  · rw [h5]; exact plays7_5 w B t r m cc l cs x h hm hm2 hl hb hx
  by_cases h6 : x.what = 6
  · rw [h6]; exact plays7_6 w B t r m cc l cs x h hb hx hcn
  by_cases h7 : x.what = 7
  · rw [h7]; exact plays7_7 w B t r m cc l cs x h hm hm2 hl hb hcn
  by_cases h8 : x.what = 8
  · rw [h8]; exact plays7_8 w B t r m cc l cs x h hm hm2 hl hb hx
  · exact plays7_0 w B t r m cc l cs x h hm hm2 hl hb hx h1 h2 h3 h4 h5 h6 h7 h8
end Go.Proofs.Ytlpannicklkghaa
/- Walks of layer 7: awake. -/
namespace Go.Proofs.Ytlpannicklkghaa
open Go.RowKit

def awP : List Pr := [(⟨#[97]⟩, ⟨#[49]⟩), (⟨#[98]⟩, ⟨#[]⟩)]
def awL : List It := [⟨⟨#[97]⟩, ⟨#[50]⟩, none⟩, ⟨⟨#[98]⟩, ⟨#[]⟩, none⟩]
theorem aw_ris : risB awP = true := by simp [awP, risB, kl, ByteArray.toList_eq, Op.bytesLess]
theorem aw_put : putL ⟨#[97]⟩ ⟨#[50]⟩ (awP.map itOf) = awL := by simp [awP, awL, itOf, putL, foundL, cntL, setV, kl, ByteArray.toList_eq, Op.bytesLess]
theorem aw_val : valL ⟨#[97]⟩ (awP.map itOf) = ⟨#[49]⟩ := by simp [awP, itOf, valL, foundL, cntL, kl, ByteArray.toList_eq, Op.bytesLess]
theorem aw_found : foundL ⟨#[97]⟩ (awP.map itOf) = true := by simp [awP, itOf, foundL, cntL, kl, ByteArray.toList_eq, Op.bytesLess]
theorem aw_none : foundL ⟨#[99]⟩ awL = false := by simp [awL, foundL, cntL, kl, ByteArray.toList_eq, Op.bytesLess]
theorem aw_list : listL ⟨#[]⟩ ⟨#[]⟩ 9 awL = awL := by simp [awL, listL, tellL, untilB, cntL, kl, ByteArray.toList_eq, Op.bytesLess]
theorem aw_next : awL.drop (cntL ⟨#[97, 97]⟩ awL) = [⟨⟨#[98]⟩, ⟨#[]⟩, none⟩] := by simp [awL, cntL, kl, ByteArray.toList_eq, Op.bytesLess]
theorem only_below {Z : Nat → Prop} {t B : Nat} {w w' : World} (h : Only (fun k => Z k ∨ k = t) w w') (hB : B ≤ w.heap.size) (hZ : ∀ k, k < B → ¬ Z k) (ht : B ≤ t) : Below B w w' := h.below hB fun k hk hz => by
  rcases hz with hz | hz
  · exact hZ k hk hz
  · omega

set_option maxHeartbeats 16000000 in
set_option maxRecDepth 100000 in
theorem awake7_any (w : World) : Calls Try.prog 10 #[] w fun e w' => e = .returned (.bool true) ∧ Below w.heap.size w w' := by
  go_enter Try.func10, Try.ntmps10
  go_wp2_with fail
  obtain ⟨w0, hw0⟩ : ∃ w0, w.alloc (Obj.cells #[.string ⟨#[97]⟩, .string ⟨#[49]⟩, .string ⟨#[98]⟩, .string ⟨#[]⟩] 27) = w0 := ⟨_, rfl⟩
  rw [hw0]
  have hr0 : PRow w0 (some ⟨w.heap.size, 0, none⟩) awP := by
    intro i hi
    rw [← hw0]
    match i, hi with
    | 0, _ => exact ⟨_, _, rfl, by simp [awP], by simp [awP]⟩
    | 1, _ => exact ⟨_, _, rfl, by simp [awP], by simp [awP]⟩
  have hb0 : Below w.heap.size w w0 := by rw [← hw0]; exact (Below.refl _ _).alloc (Nat.le_refl _) _
  have HN : Calls Try.prog 11 #[.int .i64 4, .slice (some ⟨w.heap.size, 0, none⟩) 2 2] w0 fun e w' => Below w0.heap.size w0 w' ∧ ∃ t, e = .returned (.tuple #[.pointer (some ⟨t, 0, none⟩), .int .i64 0]) ∧ w0.heap.size ≤ t ∧ ∃ ls, TreeIs w' (fun k => w0.heap.size ≤ k) t 4 ls (awP.map itOf) := new_any w0 4 _ 2 awP (by omega) (by omega) hr0 (by simp [awP]) (fun x hx => by simp [awP] at hx; rcases hx with rfl | rfl <;> (constructor <;> decide)) aw_ris
  refine HN.mono ?_
  rintro e w1 ⟨hb1, t, rfl, ht, ls, htr⟩
  have hs0 := hb0.size
  have hs1 := hb1.size
  have HB1 : Hid (Below w.heap.size w w1) := hb0.trans (hb1.mono hs0)
  have HT : Hid (w.heap.size ≤ t) := Nat.le_trans hs0 ht
  have HT1 : Hid (TreeIs w1 (fun k => w0.heap.size ≤ k) t 4 ls (awP.map itOf)) := htr
  clear hw0 hr0 hb0 hb1 htr HN
  go_wp2_with fail
  refine (new_bad w1 3 _ (by omega)).mono ?_
  rintro e w2 ⟨rfl, hw2⟩
  subst hw2
  go_wp2_with fail
  have HP := tree_put w2 _ t 4 ⟨#[97]⟩ ⟨#[50]⟩ ls _ HT1.out (fun k hk => Nat.le_trans hs1 hk) (by have := HT1.out.low (by omega) (by simp [awP]); omega) (by omega) (by omega) (by simp [awP]) (by decide) (by decide)
  rw [aw_put, aw_val, aw_found] at HP
  refine HP.mono ?_
  rintro e w3 ⟨rfl, ho3, ls3, ht3⟩
  have HB3 : Hid (Below w.heap.size w w3) := HB1.out.trans (only_below ho3 (by omega) (fun k hk hz => by omega) HT.out)
  have HT3 : Hid (TreeIs w3 (fun k => w0.heap.size ≤ k) t 4 ls3 awL) := ht3
  clear ho3 ht3 HP HT1 HB1
  go_wp2_with fail
  refine (tree_del_none w3 _ t 4 ⟨#[99]⟩ ls3 awL HT3.out (by omega) (by omega) (by simp [awL]) aw_none).mono ?_
  rintro e w4 ⟨hb4, rfl⟩
  have HB4 : Hid (Below w.heap.size w w4) := below_two HB3.out hb4
  have HT4 : Hid (TreeIs w4 (fun k => w0.heap.size ≤ k) t 4 ls3 awL) := HT3.out.later hb4
  clear hb4
  go_wp2_with fail
  have HSZ : Hid (∀ y ∈ awL, y.key.size ≤ 281474976710656 ∧ y.val.size ≤ 281474976710656) := fun y hy => by simp [awL] at hy; rcases hy with rfl | rfl <;> (constructor <;> decide)
  have HL := tree_list w4 _ t 4 ⟨#[]⟩ ⟨#[]⟩ 9 ls3 awL HT4.out (by omega) (by omega) (by simp [awL]) HSZ.out
  rw [aw_list] at HL
  refine HL.mono ?_
  rintro e w5 ⟨hb5, v, rfl, hrow⟩
  have HB5 : Hid (Below w.heap.size w w5) := below_two HB4.out hb5
  have HT5 : Hid (TreeIs w5 (fun k => w0.heap.size ≤ k) t 4 ls3 awL) := HT4.out.later hb5
  clear hb5 HL
  go_wp2_with fail
  refine (tree_len w5 _ t 4 ls3 awL HT5.out).mono ?_
  rintro e w6 ⟨rfl, hw6⟩
  subst hw6
  go_wp2_with fail
  refine (seek_any w6 t ⟨#[97, 97]⟩ (by decide)).mono ?_
  rintro e w7 ⟨hb7, c, rfl, hc, hcur⟩
  have HB7 : Hid (Below w.heap.size w w7) := below_two HB5.out hb7
  have HT7 : Hid (TreeIs w7 (fun k => w0.heap.size ≤ k) t 4 ls3 awL) := HT5.out.later hb7
  have HR7 : Hid (w7.ownsRow w4.heap.size 27 2 v 2 (pc awL)) := own_kept hrow fun k hk => hb7.block k (hrow.lt k hk).2
  have HC : Hid (CurAt w7 c t ⟨#[97, 97]⟩ ∧ w6.heap.size ≤ c ∧ w.heap.size ≤ c ∧ ∀ k, v.ownBlock = some k → k < w6.heap.size) := ⟨hcur, hc, Nat.le_trans HB5.out.size hc, fun k hk => (hrow.lt k hk).2⟩
  clear hb7 hrow hcur hc
  go_wp2_with fail
  have HX := next_any w7 _ c t 4 ⟨#[97, 97]⟩ ls3 awL HC.out.1 HT7.out (by omega) (by omega) (by simp [awL]) HSZ.out
  rw [aw_next] at HX
  refine HX.mono ?_
  rintro e w8 ⟨ho8, rfl, _⟩
  have HB8 : Hid (Below w.heap.size w w8) := HB7.out.trans (ho8.below HB7.out.size fun k hk hz => by have := HC.out.2.2.1; omega)
  have HR8 : Hid (w8.ownsRow w4.heap.size 27 2 v 2 (pc awL)) := own_kept HR7.out fun k hk => ho8.block k (HR7.out.lt k hk).2 fun e => by have := HC.out.2.2.2 k hk; have := HC.out.2.1; omega
  obtain ⟨g, cap, rfl, _, _, _, hcc, _⟩ := prow_at (l := awL) HR8.out (by decide)
  obtain ⟨d0, d1⟩ := hcc 0 (by decide)
  simp only [awL, List.getElem_cons_zero, Nat.zero_mul, Nat.zero_add] at d0 d1
  have e2 : awL.length = 2 := rfl
  rw [e2]
  clear hcc e2
  clear ho8 HX
  simp only [nextV]
  go_wp2
  go_ret
  exact ⟨rfl, HB8.out⟩
end Go.Proofs.Ytlpannicklkghaa
/- Walks of layer 7: TreePlays, what it makes first. -/
namespace Go.Proofs.Ytlpannicklkghaa
open Go.RowKit

/-- What was made, and copied over in part. -/
theorem copied_part {w w' : World} {B g n : Nat} {zs cs : List Value} {e : TypeId} {size : Nat} (ho : w.ownsRow B e size (.slice (some ⟨g, 0, none⟩) n n) n zs) (hc : cs.length ≤ n * size) (hw : w' = w.setCells g 0 cs) : w'.ownsRow B e size (.slice (some ⟨g, 0, none⟩) n n) n (cs ++ zs.drop cs.length) := by
  have hl : zs.length = n * size := ho.1
  have hall := ho
  obtain ⟨h1, ⟨h2, _⟩ | ⟨g', cap, cur, e', hB, hg, hn, hm, hs, _⟩⟩ := ho
  · cases h2
  · simp only [Value.slice.injEq, Option.some.injEq, Addr.mk.injEq, and_true, true_and] at e'
    obtain ⟨rfl, rfl⟩ := e'
    obtain ⟨cur', hg', hs'⟩ := setCells_row g cs 0 w hg
    rw [← hw] at hg'
    have hin : ∀ j, j < cs.length → (w.cell? ⟨g, 0 + j, none⟩).isSome = true := fun j hj => by
      simp only [World.cell?, hg, Nat.zero_add]
      have : j < cur.size := by rw [hs]; omega
      simp [this]
    have h := own_cells (w := w') (e := e) (size := size) (xs := cs ++ zs.drop cs.length) (by rw [List.length_append, List.length_drop, hl]; omega) hg' (Nat.le_refl n) hm (by rw [hs', hs]) fun j hj => by
      rcases Nat.lt_or_ge j cs.length with hj2 | hj2
      · have h2 := World.cell?_setCells_in g cs 0 w hin j hj2
        rw [Nat.zero_add] at h2
        rw [hw, h2, List.getElem?_append_left hj2, List.getElem?_eq_getElem hj2]
      · rw [hw, World.cell?_setCells_out g cs 0 w _ (fun _ _ => Or.inr (by show 0 + cs.length ≤ j; omega)), hall.cellAt j (by first | exact hj | omega), List.getElem?_append_right hj2, List.getElem?_drop, show cs.length + (j - cs.length) = j by omega]
    obtain ⟨q1, ⟨q2, _⟩ | ⟨g', cap, cur, e', _, q⟩⟩ := h
    · cases q2
    · exact ⟨q1, Or.inr ⟨g', cap, cur, e', by
        simp only [Value.slice.injEq, Option.some.injEq, Addr.mk.injEq, and_true] at e'
        rw [← e'.1]; exact hB, q⟩⟩
theorem srt_ofP {l : List Pr} (h : risB l = true) : Srt (l.map itOf) := List.pairwise_map.2 (risB_srt h)
theorem bd_of {l : List Pr} (h : ∀ x ∈ l, Sm7 x) : Bd (l.map itOf) := fun y hy => by
  obtain ⟨x, hx, rfl⟩ := List.mem_map.1 hy
  have := h x hx
  exact ⟨rfl, by have := this.1; show x.1.size ≤ _; omega, by have := this.2; show x.2.size ≤ _; omega⟩
/-- The front of a row of pairs. -/
theorem front_row {w : World} {B g n c : Nat} {l : List Pr} {zs : List Value} (ho : w.ownsRow B 27 2 (.slice (some ⟨g, 0, none⟩) n c) n (pc (l.map itOf) ++ zs)) (hl : l.length ≤ n) : PRow w (some ⟨g, 0, none⟩) l := fun i hi => by
  have hp : (pc (l.map itOf)).length = l.length * 2 := by rw [pc_length, List.length_map]
  obtain ⟨p0, p1⟩ := pc_at (l.map itOf) i (by rw [List.length_map]; exact hi)
  rw [List.getElem_map] at p0 p1
  refine ⟨g, 0, rfl, ?_, ?_⟩
  · rw [Nat.zero_add, ho.cellAt (i * 2) (by omega), List.getElem?_append_left (by omega), p0]; rfl
  · rw [Nat.zero_add, ho.cellAt (i * 2 + 1) (by omega), List.getElem?_append_left (by omega), p1]; rfl
theorem made_at7 {n j : Nat} (h : j < n) (z : Array Value) : (madeCells z n).toList[j]? = some (z[j % z.size]!) := by
  simp [madeCells, h]
theorem made_tail (n : Nat) : ((madeCells #[.string ⟨#[]⟩, .string ⟨#[]⟩] ((n + 2) * 2)).toList).drop (n * 2) = [.string ⟨#[]⟩, .string ⟨#[]⟩, .string ⟨#[]⟩, .string ⟨#[]⟩] := by
  have hl : (madeCells #[.string ⟨#[]⟩, .string ⟨#[]⟩] ((n + 2) * 2)).toList.length = (n + 2) * 2 := by rw [Array.length_toList, size_madeCells]
  have hz : ∀ j, (#[.string ⟨#[]⟩, .string ⟨#[]⟩] : Array Value)[j % 2]! = .string ⟨#[]⟩ := fun j => by
    rcases Nat.mod_two_eq_zero_or_one j with h | h <;> rw [h] <;> rfl
  refine List.ext_getElem? fun i => ?_
  rw [List.getElem?_drop]
  rcases Nat.lt_or_ge i 4 with h | h
  · rw [made_at7 (by omega)]
    have e : (#[.string ⟨#[]⟩, .string ⟨#[]⟩] : Array Value).size = 2 := rfl
    rw [e, hz]
    match i, h with
    | 0, _ => rfl
    | 1, _ => rfl
    | 2, _ => rfl
    | 3, _ => rfl
  · rw [List.getElem?_eq_none (by omega), List.getElem?_eq_none (by simpa using h)]
def markV : Value := .string ⟨#[109, 97, 114, 107]⟩
/-- The copy that the law hands in, and what stands behind it. -/
def Own7 (w : World) (B g n : Nat) (l : List Pr) (u : Value) : Prop := w.ownsRow B 27 2 (.slice (some ⟨g, 0, none⟩) (n + 2) (n + 2)) (n + 2) (pc (l.map itOf) ++ [u, .string ⟨#[]⟩, .string ⟨#[]⟩, .string ⟨#[]⟩])
theorem Own7.cells {w : World} {B g n : Nat} {l : List Pr} {u : Value} (h : Own7 w B g n l u) (hn : l.length = n) : w.cell? ⟨g, n * 2, none⟩ = some u ∧ w.cell? ⟨g, n * 2 + 1, none⟩ = some (.string ⟨#[]⟩) ∧ (∀ o, w.frozen? ⟨g, o, none⟩ = false) ∧ PRow w (some ⟨g, 0, none⟩) l := by
  have hp : (pc (l.map itOf)).length = n * 2 := by rw [pc_length, List.length_map, hn]
  have ho : w.ownsRow B 27 2 (.slice (some ⟨g, 0, none⟩) (n + 2) (n + 2)) (n + 2) (pc (l.map itOf) ++ [u, .string ⟨#[]⟩, .string ⟨#[]⟩, .string ⟨#[]⟩]) := h
  refine ⟨?_, ?_, fun o => ho.frozenAt o, front_row ho (by omega)⟩
  · rw [ho.cellAt (n * 2) (by omega), List.getElem?_append_right (by omega), hp, Nat.sub_self]; rfl
  · rw [ho.cellAt (n * 2 + 1) (by omega), List.getElem?_append_right (by omega), hp, show n * 2 + 1 - n * 2 = 1 by omega]; rfl
theorem Own7.mark {w : World} {B g n : Nat} {l : List Pr} {u u' : Value} (h : Own7 w B g n l u) (hn : l.length = n) : Own7 (w.setCell ⟨g, n * 2, none⟩ u') B g n l u' := by
  have hp : (pc (l.map itOf)).length = n * 2 := by rw [pc_length, List.length_map, hn]
  have h1 := (World.ownsRow.stored h (n * 2) u').1
  rw [List.set_append, if_neg (by omega), hp, Nat.sub_self, List.set_cons_zero] at h1
  exact h1
theorem own7_of {w w' : World} {B g n : Nat} {l : List Pr} (ho : w.ownsRow B 27 2 (.slice (some ⟨g, 0, none⟩) (n + 2) (n + 2)) (n + 2) (madeCells #[.string ⟨#[]⟩, .string ⟨#[]⟩] ((n + 2) * 2)).toList) (hn : l.length = n) (hw : w' = w.setCells g 0 (pc (l.map itOf))) : Own7 w' B g n l (.string ⟨#[]⟩) := by
  have hp : (pc (l.map itOf)).length = n * 2 := by rw [pc_length, List.length_map, hn]
  have h := copied_part ho (by omega) hw
  rw [hp, made_tail] at h
  exact h
end Go.Proofs.Ytlpannicklkghaa
/- Walks of layer 7: TreePlays. -/
namespace Go.Proofs.Ytlpannicklkghaa
open Go.RowKit

theorem RtAt.base {w : World} {B B' r m : Nat} {v : Value} {l : List It} (h : RtAt w B r m v l) (hb : B' ≤ B) : RtAt w B' r m v l := ⟨h.cells, own_base h.row hb, Nat.le_trans hb h.le⟩
theorem Duo7.far {w w' : World} {B : Nat} {Z Y : Nat → Prop} {t r m : Nat} {v : Value} {la lb : List It} (h : Duo7 w B B Z t r m v la lb) (ho : Only Y w w') (hY : ∀ k, Y k → k < B) : Duo7 w' B B Z t r m v la lb :=
  ⟨h.tz.kept ho fun k hk e => by have := hY k e; have := (h.tz.lo k hk).1; omega, h.rt.kept (ho.block _ h.rt.lt fun e => by have := hY _ e; have := h.rt.le; omega) fun k hk => ho.block _ (h.rt.row.lt k hk).2 fun e => by have := hY _ e; have := (h.rt.row.lt k hk).1; omega, h.ap⟩
/-- The cursors' block is made. -/
theorem PS.start {w : World} {B : Nat} {Z : Nat → Prop} {t r m : Nat} {v : Value} {la lb : List It} (h : Duo7 w B B Z t r m v la lb) : PS (w.alloc (.cells #[.slice none 0 0, .slice none 0 0] 40)) B t r m la lb w.heap.size [] := by
  have hB : B ≤ w.heap.size := by have := h.rt.le; have := h.rt.lt; omega
  have hk : ∀ k, cz w.heap.size (.slice none 0 0) (.slice none 0 0) [] k → k = w.heap.size := fun k hk => by
    rcases hk with hk | hk | hk | ⟨c, hc, _⟩
    · exact hk
    · cases hk
    · cases hk
    · cases hc
  refine ⟨Z, v, _, _, ⟨h.later ((Below.refl _ _).alloc (Nat.le_refl _) _), ⟨heap_alloc_new w _, World.ownsRow_nil _ _ _ _, World.ownsRow_nil _ _ _ _, fun c hc => by simp at hc, fun k hk' => by rw [hk k hk']; exact hB⟩, List.Pairwise.nil, fun k hk' => ?_⟩⟩
  rw [hk k hk']
  refine ⟨fun e => by have := (h.tz.lo _ e).2; omega, fun e => ?_⟩
  rcases e with e | e
  · have := h.rt.lt; omega
  · have := (h.rt.row.lt _ e).2; omega
theorem PS.ref {w : World} {B t r m cc : Nat} {la lb : List It} {cs : List Cu} (h : PS w B t r m la lb cc cs) : ∃ p cap, w.cell? ⟨r, 1, none⟩ = some (.slice p lb.length cap) := by
  obtain ⟨Z, v, va, vb, h⟩ := h
  obtain ⟨p, cap, rfl, _⟩ := prow_form h.duo.rt.row
  exact ⟨p, cap, h.duo.rt.c1⟩
set_option maxHeartbeats 16000000 in
set_option maxRecDepth 100000 in
theorem treePlays_law (o : Int) (p q : Option Addr) (cap d : Nat) (l : List Pr) (s : List OpS) (w : World) (row : PRow w p l) (rs : ORow7 w q s) (hls : l.length + s.length ≤ 9223372036854775807) :
    Calls Try.prog 3 #[.int .i64 o, .slice p l.length cap, .slice q s.length d] w fun e w' => e = .returned (.bool true) ∧ Below w.heap.size w w' := by
  obtain ⟨i0, hi, hz0, hz1, hz2⟩ := info_parts Try.infoPair
  have HW := weighs7_any w p q cap d l s hls row rs
  have HR : Hid (PRow w p l) := row
  have HQ : Hid (ORow7 w q s) := rs
  have HQ0 : Hid (ORow7 w q s) := rs
  clear row rs
  go_enter Try.func3, Try.ntmps3
  go_wp2_with fail
  refine HW.mono ?_
  rintro e w1 ⟨m, rfl, hm, hb1⟩
  by_cases hbig : ¬ m ≤ 2147483647
  · have hbi : (2147483647 : Int) < (m : Int) := by omega
    go_wp2
    go_ret
    exact ⟨rfl, hb1⟩
  have hbi : ¬ (2147483647 : Int) < (m : Int) := by omega
  obtain ⟨hlen, hsm, hso⟩ := hm (by omega)
  have hll : l.length + s.length ≤ 2147483647 := by omega
  have HS : Hid ((∀ x ∈ l, Sm7 x) ∧ ∀ x ∈ s, So7 x) := ⟨hsm, hso⟩
  have HB1 : Hid (Below w.heap.size w w1) := hb1
  clear hlen hsm hso hb1 HW hm hls
  go_wp2_with fail
  refine (awake7_any w1).mono ?_
  rintro e w2 ⟨rfl, hb2⟩
  have HB2 : Hid (Below w.heap.size w w2) := below_two HB1.out hb2
  have HR2 : Hid (PRow w2 p l) := HR.out.later HB2.out
  have HQ2 : Hid (ORow7 w2 q s) := HQ.out.later HB2.out
  clear hb2 HB1
  dsimp only
  obtain ⟨n, hn⟩ : ∃ n, l.length = n := ⟨_, rfl⟩
  have HN : Hid (l.length = n) := hn
  have hnn : n ≤ 2147483647 := by omega
  have HSS : Hid (n + s.length ≤ 2147483647) := by rw [← hn]; exact hll
  have hw64 : IntKind.i64.wrap ((n : Int) + 2) = (n : Int) + 2 := by rw [IntKind.wrap_i64]; omega
  rw [hn]
  clear hn
  go_wp2_with (first | (at_make; refine wpList_make_full _ rfl _ _ 22 rfl w2.heap.size 27 i0 _ 2 Try.underlying22 hi hz0 hz1 .i64 .i64 _ _ (n + 2) rfl rfl (by omega) (by omega) (by rw [hz2]; omega) (by unfold maxLen; omega) (Nat.le_refl _) ?_; intro w3 hown hgrow; (have hb3 : Below w2.heap.size w2 w3 := (Below.refl _ _).grown hgrow (Nat.le_refl _) (fun k h => by cases h)); (have HO3 : Hid (w3.ownsRow w2.heap.size 27 2 (.slice (some ⟨w2.heap.size, 0, none⟩) (n + 2) (n + 2)) (n + 2) (madeCells #[.string ⟨#[]⟩, .string ⟨#[]⟩] ((n + 2) * 2)).toList) := hown); (have HB3 : Hid (Below w2.heap.size w2 w3) := hb3); clear hown hgrow hb3) | (refine wpList_copy_wide rfl (.tmp 32) (.tmp 33) 22 22 rfl 27 2 Try.underlying22 (by rw [hi]; simp [hz1]) w2.heap.size 0 (n + 2) (n + 2) p n cap rfl rfl (pc (l.map itOf)) (by omega) (by rw [pc_length, List.length_map, HN.out]) ((HR2.out.later HB3.out).cells) (fun j hj => (row_room HO3.out).1 j (by rw [pc_length, List.length_map, HN.out] at hj; omega)) (fun j _ => (row_room HO3.out).2 _) (pc_one _) ?_; intro w4 hw4; (have HW4 : Hid (w4 = w3.setCells w2.heap.size 0 (pc (l.map itOf))) := hw4); (have HO4 : Hid (Own7 w4 w2.heap.size w2.heap.size n l (.string ⟨#[]⟩)) := own7_of HO3.out HN.out HW4.out); (obtain ⟨c4, c5, f4, _⟩ := HO4.out.cells HN.out); clear hw4))
  obtain ⟨w5, hw5⟩ : ∃ w5, w4.setCell ⟨w2.heap.size, n * 2, none⟩ (.string ⟨#[109, 97, 114, 107]⟩) = w5 := ⟨_, rfl⟩
  have HO5 : Hid (Own7 w5 w2.heap.size w2.heap.size n l markV) := by rw [← hw5]; exact HO4.out.mark HN.out
  have HB5 : Hid (Below w2.heap.size w2 w5) := by
    rw [← hw5, HW4.out]
    exact (HB3.out.grown (setCells_grown w2.heap.size (pc (l.map itOf)) 0 w3) HB3.out.size (fun k hk => by simp at hk; omega)).setCell (Nat.le_refl _) _
  obtain ⟨e4, e5, f5, _⟩ := HO5.out.cells HN.out
  try rw [hw5]
  clear hw5 c4 c5 f4 HO4 HW4 HO3 HB3
  have HR5 : Hid (PRow w5 (some ⟨w2.heap.size, 0, none⟩) l) := (HO5.out.cells HN.out).2.2.2
  have HP5 : Hid (PRow w5 p l) := HR2.out.later HB5.out
  have HQ5 : Hid (ORow7 w5 q s) := HQ2.out.later HB5.out
  have HBW5 : Hid (Below w.heap.size w w5) := below_two HB2.out HB5.out
  have hg5 : w2.heap.size < w5.heap.size := (World.ownsRow.lt HO5.out w2.heap.size rfl).2
  have hw2s : w.heap.size ≤ w2.heap.size := HB2.out.size
  clear HR HQ HR2 HQ2
  by_cases hok : ¬ ((4 ≤ o ∧ o ≤ 64) ∧ risB l = true)
  · have HNL : Hid (∃ cde : Int, Calls Try.prog 11 #[.int .i64 o, .slice (some ⟨w2.heap.size, 0, none⟩) n (n + 2)] w5 (fun e w' => e = .returned (.tuple #[.pointer none, .int .i64 cde]) ∧ Below w5.heap.size w5 w') ∧ ∀ w', PRow w' p l → Calls Try.prog 12 #[.int .i64 o, .slice p n cap] w' (fun e w'' => e = .returned (.tuple #[.pointer none, .int .i64 cde]) ∧ Below w'.heap.size w' w'')) := by
      by_cases hb : o < 4 ∨ 64 < o
      · exact ⟨70, (new_bad w5 o _ hb).mono fun e w' h => ⟨h.1, by rw [h.2]; exact Below.refl _ _⟩, fun w' _ => (rnew_bad w' o _ hb).mono fun e w'' h => ⟨h.1, by rw [h.2]; exact Below.refl _ _⟩⟩
      · obtain ⟨mm, rfl⟩ : ∃ mm : Nat, o = (mm : Int) := ⟨o.toNat, by omega⟩
        have hri : risB l = false := by
          cases hri : risB l with
          | false => rfl
          | true => exact absurd ⟨⟨by omega, by omega⟩, hri⟩ hok
        rw [← HN.out]
        exact ⟨71, new_flat w5 mm _ _ l (by omega) (by omega) HR5.out (by rw [HN.out]; omega) hri, fun w' hr => (rnew_any w' mm p cap l (by omega) (by omega) hr (by rw [HN.out]; omega)).mono fun e w'' h => ⟨h.2.1 hri, h.1⟩⟩
    obtain ⟨cde, hn1, hn2⟩ := HNL.out
    have HN2 : Hid (∀ w', PRow w' p l → Calls Try.prog 12 #[.int .i64 o, .slice p n cap] w' (fun e w'' => e = .returned (.tuple #[.pointer none, .int .i64 cde]) ∧ Below w'.heap.size w' w'')) := hn2
    clear hn2 HNL hok
    refine hn1.mono ?_
    rintro e w6 ⟨rfl, hb6⟩
    clear hn1
    dsimp only
    go_wp2_with fail
    refine (HN2.out w6 (HP5.out.later hb6)).mono ?_
    rintro e w7 ⟨rfl, hb7⟩
    have hb57 := below_two hb6 hb7
    have HSM := same7_any w7 (some ⟨w2.heap.size, 0, none⟩) p (n + 2) cap l l (by rw [HN.out]; omega) (by rw [HN.out]; omega) (HR5.out.later hb57) (HP5.out.later hb57)
    rw [(sameB_iff _ _).2 rfl, HN.out] at HSM
    have HB7 : Hid (Below w5.heap.size w5 w7) := hb57
    clear hb6 hb7 hb57
    dsimp only
    go_wp2_with fail
    refine HSM.mono ?_
    rintro e w8 ⟨rfl, hb8⟩
    have HB8 : Hid (Below w5.heap.size w5 w8) := below_two HB7.out hb8
    have e4 := cell_at (HB8.out.block _ hg5) e4
    have e5 := cell_at (HB8.out.block _ hg5) e5
    unfold markV at e4
    clear hb8
    dsimp only
    go_wp2
    go_ret
    exact ⟨rfl, below_two HBW5.out HB8.out⟩
  have hok := Classical.not_not.1 hok
  obtain ⟨⟨ho4, ho64⟩, hris⟩ := hok
  obtain ⟨mm, rfl⟩ : ∃ mm : Nat, o = (mm : Int) := ⟨o.toNat, by omega⟩
  have HRI : Hid (risB l = true) := hris
  have HNZ := new_z w5 mm (some ⟨w2.heap.size, 0, none⟩) (n + 2) l (by omega) (by omega) HR5.out (by rw [HN.out]; omega) (fun x hx => by have h1 := HS.out.1 x hx; have h2 := h1.1; have h3 := h1.2; omega) hris
  rw [HN.out] at HNZ
  clear hris
  refine HNZ.mono ?_
  rintro e w6 ⟨hb6, t, rfl, ht, hz6⟩
  have HRN := rnew_any w6 mm p cap l (by omega) (by omega) (HP5.out.later hb6) (by rw [HN.out]; omega)
  rw [HN.out] at HRN
  have HZ6 : Hid (TreeZ w6 w5.heap.size (fun k => w5.heap.size ≤ k ∧ k < w6.heap.size) t mm (l.map itOf)) := hz6
  have HB6 : Hid (Below w5.heap.size w5 w6) := hb6
  clear hz6 hb6 HNZ
  dsimp only
  go_wp2_with fail
  refine HRN.mono ?_
  rintro e w7 ⟨hb7, _, hr7⟩
  obtain ⟨r, v, rfl, hrt⟩ := hr7 HRI.out
  have hb57 := below_two HB6.out hb7
  have hs6 := HB6.out.size
  have HSM := same7_any w7 (some ⟨w2.heap.size, 0, none⟩) p (n + 2) cap l l (by rw [HN.out]; omega) (by rw [HN.out]; omega) (HR5.out.later hb57) (HP5.out.later hb57)
  rw [(sameB_iff _ _).2 rfl, HN.out] at HSM
  have HB7 : Hid (Below w5.heap.size w5 w7) := hb57
  have HD7 : Hid (Duo7 w7 w5.heap.size w5.heap.size (fun k => w5.heap.size ≤ k ∧ k < w6.heap.size) t r mm v (l.map itOf) (l.map itOf)) := ⟨HZ6.out.later hb7, hrt.base hs6, fun k hk e => by
    rcases e with rfl | e
    · have := hrt.le; have := hk.2; omega
    · have := (hrt.row.lt k e).1; have := hk.2; omega⟩
  clear hb57 hb7 hr7 hrt HRN
  dsimp only
  go_wp2_with fail
  refine HSM.mono ?_
  rintro e w8 ⟨rfl, hb8⟩
  have HB8 : Hid (Below w5.heap.size w5 w8) := below_two HB7.out hb8
  have HD8 : Hid (Duo7 w8 w5.heap.size w5.heap.size (fun k => w5.heap.size ≤ k ∧ k < w6.heap.size) t r mm v (l.map itOf) (l.map itOf)) := HD7.out.later hb8
  have HO8 : Hid (Own7 w8 w2.heap.size w2.heap.size n l markV) := own_kept HO5.out fun k e => HB8.out.block k (World.ownsRow.lt HO5.out k e).2
  have HBW8 : Hid (Below w.heap.size w w8) := below_two HBW5.out HB8.out
  have e4 := cell_at (HB8.out.block _ hg5) e4
  have e5 := cell_at (HB8.out.block _ hg5) e5
  have hs8 := HB8.out.size
  unfold markV at e4
  clear hb8 HSM HD7 HB7 HZ6 HB6 f5
  dsimp only
  go_wp2_with fail
  go_loopw [15] (fun i wr => ∃ (k : Nat) (cs : List Value), i = .int .i64 (k : Int) ∧ k ≤ n ∧ Only (fun k => k = w2.heap.size) w8 wr ∧ wr.ownsRow w2.heap.size 27 2 (.slice (some ⟨w2.heap.size, 0, none⟩) (n + 2) (n + 2)) (n + 2) cs) (fun i _ => n - (intOf i).toNat)
  case atStart => exact ⟨0, _, rfl, Nat.zero_le _, Only.refl _ _, HO8.out⟩
  case round =>
    obtain ⟨k, cs, rfl, hk, hon, hown⟩ := hrel
    have HON : Hid (Only (fun k => k = w2.heap.size) w8 wr) := hon
    have HOW : Hid (wr.ownsRow w2.heap.size 27 2 (.slice (some ⟨w2.heap.size, 0, none⟩) (n + 2) (n + 2)) (n + 2) cs) := hown
    clear hon hown e4 e5
    by_cases hkn : k < n
    · have hkni : (k : Int) < (n : Int) := by omega
      obtain ⟨g, eg, _, _, hgc, hgf⟩ := own_front HOW.out (by omega)
      simp only [Option.some.injEq, Addr.mk.injEq, and_true] at eg
      subst eg
      obtain ⟨u0, hu0⟩ := hgc (k * 2) (by omega)
      obtain ⟨u1, hu1⟩ := hgc (k * 2 + 1) (by omega)
      clear hgc
      go_wp2
      refine ⟨⟨k + 1, _, by first | rfl | go_num, hkn, (HON.out.setCell (p := ⟨w2.heap.size, k * 2, none⟩) rfl _).setCell (p := ⟨w2.heap.size, k * 2 + 1, none⟩) rfl _, ((HOW.out.stored (k * 2) _).1.stored (k * 2 + 1) _).1⟩, ?_⟩
      simp only [intOf]
      omega
    · have hkni : ¬ (k : Int) < (n : Int) := by omega
      have HDR : Hid (Duo7 wr w5.heap.size w5.heap.size (fun k => w5.heap.size ≤ k ∧ k < w6.heap.size) t r mm v (l.map itOf) (l.map itOf)) := HD8.out.far HON.out fun k e => by rw [e]; exact hg5
      have HBR : Hid (Below w.heap.size w wr) := HBW8.out.trans (HON.out.below (by omega) fun k hk e => by omega)
      have HPS0 : Hid (PS (wr.alloc (.cells #[.slice none 0 0, .slice none 0 0] 40)) w5.heap.size t r mm (l.map itOf) (l.map itOf) wr.heap.size []) := PS.start HDR.out
      have hbrs := HBR.out.size
      have HBA : Hid (Below w.heap.size w (wr.alloc (.cells #[.slice none 0 0, .slice none 0 0] 40))) := HBR.out.alloc hbrs _
      obtain ⟨cc, hcc⟩ : ∃ cc, wr.heap.size = cc := ⟨_, rfl⟩
      obtain ⟨wA, hwA⟩ : ∃ wA, wr.alloc (.cells #[.slice none 0 0, .slice none 0 0] 40) = wA := ⟨_, rfl⟩
      rw [hwA, hcc] at HPS0
      rw [hwA] at HBA
      go_wp2_with fail
      try rw [hwA]
      try rw [hcc]
      have HBD0 : Hid (Bd (l.map itOf)) := bd_of HS.out.1
      have HS2 : Hid (∀ x ∈ s, So7 x) := HS.out.2
      have HLN : Hid ((l.map itOf).length = n) := by rw [List.length_map]; exact HN.out
      obtain ⟨B, hB⟩ : ∃ B, w5.heap.size = B := ⟨_, rfl⟩
      have hwB : w.heap.size ≤ B := by omega
      rw [hB] at HPS0
      clear hwA hcc HBR HDR HON HOW HO8 HD8 HBW8 HB8 HS HBW5 HP5 HQ5 HR5 HO5 HB5
      go_loopw [17] (fun i wr => ∃ (k : Nat) (l' : List It) (cs : List Cu), i = .int .i64 (k : Int) ∧ k ≤ s.length ∧ PS wr B t r mm l' l' cc cs ∧ l'.length ≤ n + k ∧ cs.length ≤ k ∧ Bd l' ∧ Below w.heap.size w wr) (fun i _ => s.length - (intOf i).toNat)
      case atStart => exact ⟨0, _, [], rfl, Nat.zero_le _, HPS0.out, by rw [HLN.out]; exact Nat.le_refl _, Nat.le_refl _, HBD0.out, HBA.out⟩
      case round =>
        obtain ⟨k, l', cs, rfl, hk, hps, hl', hcs, hbd, hbw⟩ := hrel
        have HPS : Hid (PS wr B t r mm l' l' cc cs) := hps
        have HBD : Hid (Bd l') := hbd
        have HBW : Hid (Below w.heap.size w wr) := hbw
        clear hps hbd hbw
        have hl4 : l'.length ≤ 4000000000 := by have := HSS.out; omega
        have hc4 : cs.length ≤ 4000000000 := by have := HSS.out; omega
        by_cases hks : k < s.length
        · have hksi : (k : Int) < (s.length : Int) := by omega
          obtain ⟨b, off, rfl, hop⟩ := (HQ0.out.later HBW.out) k hks
          obtain ⟨x, hx⟩ : ∃ x, s[k] = x := ⟨_, rfl⟩
          rw [hx] at hop
          have HSX : Hid (So7 x) := HS2.out x (by rw [← hx]; exact List.getElem_mem _)
          obtain ⟨c0, c1, c2, c3⟩ := hop
          clear hx
          go_wp2_with fail
          refine (plays7_any wr B t r mm cc l' cs x HPS.out (by omega) (by omega) hl4 HBD.out HSX.out hc4).mono ?_
          rintro e w9 ⟨rfl, hb9, l2, cs2, hps2, hl2, hbd2, hcs2⟩
          have HE : Hid (PS w9 B t r mm l2 l2 cc cs2 ∧ Bd l2 ∧ Below w.heap.size w w9) := ⟨hps2, hbd2, HBW.out.trans (hb9.mono hwB)⟩
          clear hb9 hps2 hbd2 c0 c1 c2 c3
          dsimp only
          go_wp2
          refine ⟨⟨k + 1, l2, cs2, by first | rfl | go_num, hks, HE.out.1, by omega, by omega, HE.out.2.1, HE.out.2.2⟩, ?_⟩
          simp only [intOf]
          omega
        · have hksi : ¬ (k : Int) < (s.length : Int) := by omega
          obtain ⟨pr1, cr1, cR⟩ := HPS.out.ref
          have hwl : IntKind.i64.wrap ((l'.length : Int) + 1) = (l'.length : Int) + 1 := by rw [IntKind.wrap_i64]; omega
          go_wp2_with fail
          refine (ps_lists HPS.out ⟨#[]⟩ ⟨#[]⟩ ((l'.length : Int) + 1) (by omega) (by omega) hl4 (fun y hy => (HBD.out y hy).2)).mono ?_
          rintro e wb ⟨rfl, hbb, hpb⟩
          have HBb : Hid (Below w.heap.size w wb) := HBW.out.trans (hbb.mono hwB)
          have HPb : Hid (PS wb B t r mm l' l' cc cs) := hpb
          obtain ⟨pr2, cr2, cR2⟩ := hpb.ref
          clear hbb hpb cR
          dsimp only
          go_wp2_with fail
          refine (ps_lists HPb.out ⟨#[]⟩ ⟨#[]⟩ ((l'.length : Int) + 1) (by omega) (by omega) hl4 (fun y hy => (HBD.out y hy).2)).mono ?_
          rintro e wc ⟨rfl, hbc, hpc⟩
          have HBc : Hid (Below w.heap.size w wc) := HBb.out.trans (hbc.mono hwB)
          have HPc : Hid (PS wc B t r mm l' l' cc cs) := hpc
          clear hbc hpc cR2
          dsimp only
          go_wp2_with fail
          refine (ps_shaped HPc.out (by omega) (by omega) hl4).mono ?_
          rintro e wd ⟨rfl, hbd, _⟩
          have HBd : Hid (Below w.heap.size w wd) := HBc.out.trans (hbd.mono hwB)
          clear hbd
          dsimp only
          go_wp2
          go_ret
          exact ⟨rfl, HBd.out⟩
end Go.Proofs.Ytlpannicklkghaa
