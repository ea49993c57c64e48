/- Walks of layer 7: awake. -/
import Derived.Test.YtlpannicklkghaaB26
import Derived.Test.YtlpannicklkghaaB27
import Derived.Laws.IdiomCopy
import Derived.Laws.CopyOwn
import Derived.OwnWalk
import Derived.Test.YtlpannicklkghaaB31
import Derived.Test.YtlpannicklkghaaB29
import Derived.Test.YtlpannicklkghaaM94
import Derived.Test.YtlpannicklkghaaB47
namespace Go.Proofs.Ytlpannicklkghaa
open Go.RowKit

def awP : List Pr := [(⟨#[97]⟩, ⟨#[49]⟩), (⟨#[98]⟩, ⟨#[]⟩)]
def awL : List It := [⟨⟨#[97]⟩, ⟨#[50]⟩, none⟩, ⟨⟨#[98]⟩, ⟨#[]⟩, none⟩]
theorem aw_ris : risB awP = true := by simp [awP, risB, kl, ByteArray.toList_eq, Op.bytesLess]
theorem aw_put : putL ⟨#[97]⟩ ⟨#[50]⟩ (awP.map itOf) = awL := by simp [awP, awL, itOf, putL, foundL, cntL, setV, kl, ByteArray.toList_eq, Op.bytesLess]
theorem aw_val : valL ⟨#[97]⟩ (awP.map itOf) = ⟨#[49]⟩ := by simp [awP, itOf, valL, foundL, cntL, kl, ByteArray.toList_eq, Op.bytesLess]
theorem aw_found : foundL ⟨#[97]⟩ (awP.map itOf) = true := by simp [awP, itOf, foundL, cntL, kl, ByteArray.toList_eq, Op.bytesLess]
theorem aw_none : foundL ⟨#[99]⟩ awL = false := by simp [awL, foundL, cntL, kl, ByteArray.toList_eq, Op.bytesLess]
theorem aw_list : listL ⟨#[]⟩ ⟨#[]⟩ 9 awL = awL := by simp [awL, listL, tellL, untilB, cntL, kl, ByteArray.toList_eq, Op.bytesLess]
theorem aw_next : awL.drop (cntL ⟨#[97, 97]⟩ awL) = [⟨⟨#[98]⟩, ⟨#[]⟩, none⟩] := by simp [awL, cntL, kl, ByteArray.toList_eq, Op.bytesLess]
theorem only_below {Z : Nat → Prop} {t B : Nat} {w w' : World} (h : Only (fun k => Z k ∨ k = t) w w') (hB : B ≤ w.heap.size) (hZ : ∀ k, k < B → ¬ Z k) (ht : B ≤ t) : Below B w w' := h.below hB fun k hk hz => by
  rcases hz with hz | hz
  · exact hZ k hk hz
  · omega

set_option maxHeartbeats 16000000 in
set_option maxRecDepth 100000 in
theorem awake7_any (w : World) : Calls Try.prog 10 #[] w fun e w' => e = .returned (.bool true) ∧ Below w.heap.size w w' := by
  go_enter Try.func10, Try.ntmps10
  go_wp2_with fail
  obtain ⟨w0, hw0⟩ : ∃ w0, w.alloc (Obj.cells #[.string ⟨#[97]⟩, .string ⟨#[49]⟩, .string ⟨#[98]⟩, .string ⟨#[]⟩] 27) = w0 := ⟨_, rfl⟩
  rw [hw0]
  have hr0 : PRow w0 (some ⟨w.heap.size, 0, none⟩) awP := by
    intro i hi
    rw [← hw0]
    match i, hi with
    | 0, _ => exact ⟨_, _, rfl, by simp [awP], by simp [awP]⟩
    | 1, _ => exact ⟨_, _, rfl, by simp [awP], by simp [awP]⟩
  have hb0 : Below w.heap.size w w0 := by rw [← hw0]; exact (Below.refl _ _).alloc (Nat.le_refl _) _
  have HN : Calls Try.prog 11 #[.int .i64 4, .slice (some ⟨w.heap.size, 0, none⟩) 2 2] w0 fun e w' => Below w0.heap.size w0 w' ∧ ∃ t, e = .returned (.tuple #[.pointer (some ⟨t, 0, none⟩), .int .i64 0]) ∧ w0.heap.size ≤ t ∧ ∃ ls, TreeIs w' (fun k => w0.heap.size ≤ k) t 4 ls (awP.map itOf) := new_any w0 4 _ 2 awP (by omega) (by omega) hr0 (by simp [awP]) (fun x hx => by simp [awP] at hx; rcases hx with rfl | rfl <;> (constructor <;> decide)) aw_ris
  refine HN.mono ?_
  rintro e w1 ⟨hb1, t, rfl, ht, ls, htr⟩
  have hs0 := hb0.size
  have hs1 := hb1.size
  have HB1 : Hid (Below w.heap.size w w1) := hb0.trans (hb1.mono hs0)
  have HT : Hid (w.heap.size ≤ t) := Nat.le_trans hs0 ht
  have HT1 : Hid (TreeIs w1 (fun k => w0.heap.size ≤ k) t 4 ls (awP.map itOf)) := htr
  clear hw0 hr0 hb0 hb1 htr HN
  go_wp2_with fail
  refine (new_bad w1 3 _ (by omega)).mono ?_
  rintro e w2 ⟨rfl, hw2⟩
  subst hw2
  go_wp2_with fail
  have HP := tree_put w2 _ t 4 ⟨#[97]⟩ ⟨#[50]⟩ ls _ HT1.out (fun k hk => Nat.le_trans hs1 hk) (by have := HT1.out.low (by omega) (by simp [awP]); omega) (by omega) (by omega) (by simp [awP]) (by decide) (by decide)
  rw [aw_put, aw_val, aw_found] at HP
  refine HP.mono ?_
  rintro e w3 ⟨rfl, ho3, ls3, ht3⟩
  have HB3 : Hid (Below w.heap.size w w3) := HB1.out.trans (only_below ho3 (by omega) (fun k hk hz => by omega) HT.out)
  have HT3 : Hid (TreeIs w3 (fun k => w0.heap.size ≤ k) t 4 ls3 awL) := ht3
  clear ho3 ht3 HP HT1 HB1
  go_wp2_with fail
  refine (tree_del_none w3 _ t 4 ⟨#[99]⟩ ls3 awL HT3.out (by omega) (by omega) (by simp [awL]) aw_none).mono ?_
  rintro e w4 ⟨hb4, rfl⟩
  have HB4 : Hid (Below w.heap.size w w4) := below_two HB3.out hb4
  have HT4 : Hid (TreeIs w4 (fun k => w0.heap.size ≤ k) t 4 ls3 awL) := HT3.out.later hb4
  clear hb4
  go_wp2_with fail
  have HSZ : Hid (∀ y ∈ awL, y.key.size ≤ 281474976710656 ∧ y.val.size ≤ 281474976710656) := fun y hy => by simp [awL] at hy; rcases hy with rfl | rfl <;> (constructor <;> decide)
  have HL := tree_list w4 _ t 4 ⟨#[]⟩ ⟨#[]⟩ 9 ls3 awL HT4.out (by omega) (by omega) (by simp [awL]) HSZ.out
  rw [aw_list] at HL
  refine HL.mono ?_
  rintro e w5 ⟨hb5, v, rfl, hrow⟩
  have HB5 : Hid (Below w.heap.size w w5) := below_two HB4.out hb5
  have HT5 : Hid (TreeIs w5 (fun k => w0.heap.size ≤ k) t 4 ls3 awL) := HT4.out.later hb5
  clear hb5 HL
  go_wp2_with fail
  refine (tree_len w5 _ t 4 ls3 awL HT5.out).mono ?_
  rintro e w6 ⟨rfl, hw6⟩
  subst hw6
  go_wp2_with fail
  refine (seek_any w6 t ⟨#[97, 97]⟩ (by decide)).mono ?_
  rintro e w7 ⟨hb7, c, rfl, hc, hcur⟩
  have HB7 : Hid (Below w.heap.size w w7) := below_two HB5.out hb7
  have HT7 : Hid (TreeIs w7 (fun k => w0.heap.size ≤ k) t 4 ls3 awL) := HT5.out.later hb7
  have HR7 : Hid (w7.ownsRow w4.heap.size 27 2 v 2 (pc awL)) := own_kept hrow fun k hk => hb7.block k (hrow.lt k hk).2
  have HC : Hid (CurAt w7 c t ⟨#[97, 97]⟩ ∧ w6.heap.size ≤ c ∧ w.heap.size ≤ c ∧ ∀ k, v.ownBlock = some k → k < w6.heap.size) := ⟨hcur, hc, Nat.le_trans HB5.out.size hc, fun k hk => (hrow.lt k hk).2⟩
  clear hb7 hrow hcur hc
  go_wp2_with fail
  have HX := next_any w7 _ c t 4 ⟨#[97, 97]⟩ ls3 awL HC.out.1 HT7.out (by omega) (by omega) (by simp [awL]) HSZ.out
  rw [aw_next] at HX
  refine HX.mono ?_
  rintro e w8 ⟨ho8, rfl, _⟩
  have HB8 : Hid (Below w.heap.size w w8) := HB7.out.trans (ho8.below HB7.out.size fun k hk hz => by have := HC.out.2.2.1; omega)
  have HR8 : Hid (w8.ownsRow w4.heap.size 27 2 v 2 (pc awL)) := own_kept HR7.out fun k hk => ho8.block k (HR7.out.lt k hk).2 fun e => by have := HC.out.2.2.2 k hk; have := HC.out.2.1; omega
  obtain ⟨g, cap, rfl, _, _, _, hcc, _⟩ := prow_at (l := awL) HR8.out (by decide)
  obtain ⟨d0, d1⟩ := hcc 0 (by decide)
  simp only [awL, List.getElem_cons_zero, Nat.zero_mul, Nat.zero_add] at d0 d1
  have e2 : awL.length = 2 := rfl
  rw [e2]
  clear hcc e2
  clear ho8 HX
  simp only [nextV]
  go_wp2
  go_ret
  exact ⟨rfl, HB8.out⟩
end Go.Proofs.Ytlpannicklkghaa
/- A law for copy between slices whose elements are of several cells. -/
namespace Go.Proofs.Ytlpannicklkghaa
open Go Go.RowKit

theorem run_copy_wide {P : Program} (w : World) (dT sT ty elem : TypeId) (b o dLen dCap : Nat) (a : Option Addr) (sLen sCap size : Nat) (cs : List Value)
    (hu : P.underlying dT = some (.slice elem)) (hs : (P.info? elem).map (·.size) = some size) (hle : sLen ≤ dLen) (hn : cs.length = sLen * size)
    (hsrc : 0 < cs.length → ∃ ad, a = some ad ∧ ∀ j v, cs[j]? = some v → w.cell? (ad.add j) = some v) (hc : ∀ j, j < cs.length → (w.cell? ⟨b, o + j, none⟩).isSome = true) (hf : ∀ j, j < cs.length → w.frozen? ⟨b, o + j, none⟩ = false) (h1 : ∀ v ∈ cs, v.oneCell' = true) :
    (Builtin.copy_ #[dT, sT] ty #[.slice (some ⟨b, o, none⟩) dLen dCap, .slice a sLen sCap]).run P w = .ok (goInt sLen) (w.setCells b o cs) := by
  have hst := run_storeCells_cells (P := P) b o cs 0 w (by simpa using hc) (by simpa using hf) h1
  have hmin : Nat.min sLen dLen = sLen := Nat.min_eq_left hle
  cases hq : P.info? elem with
  | none => simp [hq] at hs
  | some i =>
    have hi : i.size = size := by simpa [hq] using hs
    by_cases h0 : cs.length = 0
    · obtain rfl : cs = [] := List.eq_nil_of_length_eq_zero h0
      have hz : sLen * size = 0 := by simpa using hn.symm
      have hl : ∀ (x : Addr), (loadCells x 0).run P w = .ok #[] w := fun x => by simpa using run_loadCells_list (P := P) w x [] (by simp)
      cases a <;> simp [Builtin.copy_, run_underlying hu, Builtin.lenOf, Builtin.firstCells, sizeOf, typeInfo, hq, hi, hmin, hz, storeCells, hl, World.setCells]
    · obtain ⟨ad, rfl, hcell⟩ := hsrc (by omega)
      have hl := run_loadCells_list (P := P) w ad cs hcell
      rw [hn] at hl
      simp [Builtin.copy_, run_underlying hu, Builtin.lenOf, Builtin.firstCells, sizeOf, typeInfo, hq, hi, hmin, hl, hst]

theorem wpList_copy_wide {P : Program} {w : World} {ops : Array Oper} {rest : List Oper} {o : Oper} {a : Act} {Q : Exit → Act → World → Prop} (hgd : o.guard = none) (d s : Operand) (dT sT : TypeId)
    (ho : o.op = .call { callee := .builtin .copy, args := #[d, s], argTypes := #[dT, sT] }) (elem : TypeId) (size : Nat) (hu : P.underlying dT = some (.slice elem)) (hsz : (P.info? elem).map (·.size) = some size)
    (b off dLen dCap : Nat) (sp : Option Addr) (sLen sCap : Nat) (hd : a.eval d = .slice (some ⟨b, off, none⟩) dLen dCap) (hs : a.eval s = .slice sp sLen sCap) (cs : List Value) (hle : sLen ≤ dLen) (hn : cs.length = sLen * size)
    (hsrc : 0 < cs.length → ∃ ad, sp = some ad ∧ ∀ j v, cs[j]? = some v → w.cell? (ad.add j) = some v) (hc : ∀ j, j < cs.length → (w.cell? ⟨b, off + j, none⟩).isSome = true) (hf : ∀ j, j < cs.length → w.frozen? ⟨b, off + j, none⟩ = false) (h1 : ∀ v ∈ cs, v.oneCell' = true)
    (h : ∀ w', w' = w.setCells b off cs → wpList P ops Q rest (a.put o.dst (goInt sLen)) w') : wpList P ops Q (o :: rest) a w := by
  refine wpList_plain hgd fun K hK => ?_
  have hrun := run_copy_wide (P := P) w dT sT o.type elem b off dLen dCap sp sLen sCap size cs hu hsz hle hn hsrc hc hf h1
  unfold Oper.wp
  simp [execOp, ho, resolve, invoke, builtin, hd, hs, hrun, Result.andThen]
  exact hK _ _ (h _ rfl)
end Go.Proofs.Ytlpannicklkghaa
/- Walks of layer 7: the document's tree, New. -/
namespace Go.Proofs.Ytlpannicklkghaa
open Go.RowKit

/-- The document's tree in memory. -/
structure RtAt (w : World) (B : Nat) (r m : Nat) (v : Value) (l : List It) : Prop where
  cells : w.heap[r]? = some (.cells #[.int .i64 (m : Int), v] 46 (0, 0))
  row : w.ownsRow B 27 2 v l.length (pc l)
  le : B ≤ r
theorem RtAt.lt {w : World} {B r m : Nat} {v : Value} {l : List It} (h : RtAt w B r m v l) : r < w.heap.size := (Array.getElem?_eq_some_iff.1 h.cells).1
theorem RtAt.kept {w w' : World} {B r m : Nat} {v : Value} {l : List It} (h : RtAt w B r m v l) (hr : w'.heap[r]? = w.heap[r]?) (hk : ∀ k, v.ownBlock = some k → w'.heap[k]? = w.heap[k]?) : RtAt w' B r m v l := ⟨hr.trans h.cells, own_kept h.row hk, h.le⟩
theorem RtAt.later {w w' : World} {B r m : Nat} {v : Value} {l : List It} (h : RtAt w B r m v l) (hb : Below w.heap.size w w') : RtAt w' B r m v l := h.kept (hb.block _ h.lt) fun k hk => hb.block _ (h.row.lt k hk).2
/-- The cells of pairs that came in. -/
theorem PRow.cells {w : World} {p : Option Addr} {l : List Pr} (h : PRow w p l) : 0 < (pc (l.map itOf)).length → ∃ ad, p = some ad ∧ ∀ j v, (pc (l.map itOf))[j]? = some v → w.cell? (ad.add j) = some v := by
  intro h0
  rw [pc_length, List.length_map] at h0
  obtain ⟨b, off, e, _, _⟩ := h 0 (by omega)
  refine ⟨_, e, fun j v hj => ?_⟩
  have hadd : (⟨b, off, none⟩ : Addr).add j = ⟨b, off + j, none⟩ := by unfold Addr.add; split <;> simp_all
  have hlt := (List.getElem?_eq_some_iff.1 hj).1
  rw [pc_length, List.length_map] at hlt
  have hi : j / 2 < l.length := by omega
  obtain ⟨b', off', e', c0, c1⟩ := h (j / 2) hi
  rw [e] at e'
  simp only [Option.some.injEq, Addr.mk.injEq, and_true] at e'
  obtain ⟨rfl, rfl⟩ := e'
  obtain ⟨p0, p1⟩ := pc_at (l.map itOf) (j / 2) (by rw [List.length_map]; exact hi)
  rw [List.getElem_map] at p0 p1
  rw [hadd]
  rcases Nat.mod_two_eq_zero_or_one j with hm | hm
  · have ej : j / 2 * 2 = j := by omega
    rw [ej] at p0 c0
    rw [p0] at hj
    rw [c0, ← hj]
    rfl
  · have ej : j / 2 * 2 + 1 = j := by omega
    rw [ej] at p1
    rw [Nat.add_assoc, ej] at c1
    rw [p1] at hj
    rw [c1, ← hj]
    rfl
theorem geq_kl (x y : ByteArray) : (Op.bytesLess y.toList x.toList || x.toList == y.toList) = !(kl x y) := by
  rw [← leq_kl x y]
  congr 1
  rw [Bool.eq_iff_iff, beq_iff_eq, beq_iff_eq]
  exact eq_comm
/-- What was made, and copied over whole. -/
theorem copied_row {w w' : World} {B g n : Nat} {zs cs : List Value} {e : TypeId} {size : Nat} (ho : w.ownsRow B e size (.slice (some ⟨g, 0, none⟩) n n) n zs) (hc : cs.length = n * size) (hw : w' = w.setCells g 0 cs) : w'.ownsRow B e size (.slice (some ⟨g, 0, none⟩) n n) n cs := by
  obtain ⟨h1, ⟨h2, _⟩ | ⟨g', cap, cur, e', hB, hg, hn, hm, hs, _⟩⟩ := ho
  · cases h2
  · simp only [Value.slice.injEq, Option.some.injEq, Addr.mk.injEq, and_true, true_and] at e'
    obtain ⟨rfl, rfl⟩ := e'
    obtain ⟨cur', hg', hs'⟩ := setCells_row g cs 0 w hg
    rw [← hw] at hg'
    have hin : ∀ j, j < cs.length → (w.cell? ⟨g, 0 + j, none⟩).isSome = true := fun j hj => by
      simp only [World.cell?, hg, Nat.zero_add]
      rw [hc, ← hs] at hj
      simp [hj]
    have h := own_cells (w := w') (e := e) (size := size) hc hg' (Nat.le_refl n) hm (by rw [hs', hs]) fun j hj => by
      have h2 := World.cell?_setCells_in g cs 0 w hin j (by omega)
      rw [Nat.zero_add] at h2
      rw [hw, h2, List.getElem?_eq_getElem (by omega)]
    obtain ⟨q1, ⟨q2, _⟩ | ⟨g', cap, cur, e', _, q⟩⟩ := h
    · cases q2
    · exact ⟨q1, Or.inr ⟨g', cap, cur, e', by
        simp only [Value.slice.injEq, Option.some.injEq, Addr.mk.injEq, and_true] at e'
        rw [← e'.1]; exact hB, q⟩⟩
theorem row_room {w : World} {B g n : Nat} {zs : List Value} {e : TypeId} {size : Nat} (ho : w.ownsRow B e size (.slice (some ⟨g, 0, none⟩) n n) n zs) : (∀ j, j < n * size → (w.cell? ⟨g, 0 + j, none⟩).isSome = true) ∧ ∀ o, w.frozen? ⟨g, o, none⟩ = false := by
  refine ⟨fun j hj => ?_, fun o => ho.frozenAt o⟩
  rw [Nat.zero_add, ho.cellAt j hj, List.getElem?_eq_getElem (by rw [ho.1]; exact hj)]
  rfl
end Go.Proofs.Ytlpannicklkghaa
/- Walks of layer 7: the document's New. -/
namespace Go.Proofs.Ytlpannicklkghaa
open Go.RowKit

set_option maxHeartbeats 2000000 in
set_option maxRecDepth 100000 in
theorem rnew_bad (w : World) (m : Int) (v : Value) (hm : m < 4 ∨ 64 < m) : Calls Try.prog 12 #[.int .i64 m, v] w fun e w' => e = .returned (.tuple #[.pointer none, .int .i64 70]) ∧ w' = w := by
  by_cases h1 : m < 4
  · go_enter Try.func12, Try.ntmps12
    go_wp2
    refine bodyPost_ret (v := .tuple #[.pointer none, .int .i64 70]) (by simp [results, Try.results12, go_sem]) rfl ?_
    exact ⟨rfl, rfl⟩
  · have h2 : (64 : Int) < m := by omega
    go_enter Try.func12, Try.ntmps12
    go_wp2
    refine bodyPost_ret (v := .tuple #[.pointer none, .int .i64 70]) (by simp [results, Try.results12, go_sem]) rfl ?_
    exact ⟨rfl, rfl⟩
/-- What the document's New leaves. -/
def RNewP (w : World) (m : Nat) (l : List Pr) (e : Ending) (w' : World) : Prop :=
  Below w.heap.size w w' ∧ (risB l = false → e = .returned (.tuple #[.pointer none, .int .i64 71])) ∧ (risB l = true → ∃ r v, e = .returned (.tuple #[.pointer (some ⟨r, 0, none⟩), .int .i64 0]) ∧ RtAt w' w.heap.size r m v (l.map itOf))

set_option maxHeartbeats 8000000 in
set_option maxRecDepth 100000 in
theorem rnew_any (w : World) (m : Nat) (p : Option Addr) (cap : Nat) (l : List Pr) (hm : 4 ≤ m) (hm2 : m ≤ 64) (hr : PRow w p l) (hl : l.length ≤ 4000000000) :
    Calls Try.prog 12 #[.int .i64 (m : Int), .slice p l.length cap] w (RNewP w m l) := by
  obtain ⟨i0, hi, hz0, hz1, hz2⟩ := info_parts Try.infoPair
  have HR : Hid (PRow w p l) := hr
  clear hr
  have h1 : ¬ (m : Int) < 4 := by omega
  have h2 : ¬ (64 : Int) < (m : Int) := by omega
  go_enter Try.func12, Try.ntmps12
  go_wp2
  go_loopw [6] (fun i wr => ∃ j : Nat, i = .int .i64 ((j : Int) + 1) ∧ (j + 1 ≤ l.length ∨ j = 0) ∧ (∀ q (h : q + 1 < l.length), q < j → kl (l[q]).1 (l[q + 1]).1 = true) ∧ Below w.heap.size w wr) (fun i _ => l.length + 1 - (intOf i).toNat)
  case atStart => exact ⟨0, rfl, Or.inr rfl, fun q _ h => absurd h (Nat.not_lt_zero _), Below.refl _ _⟩
  case round =>
    obtain ⟨j, rfl, hj, hall, hb⟩ := hrel
    have HA : Hid (∀ q (h : q + 1 < l.length), q < j → kl (l[q]).1 (l[q + 1]).1 = true) := hall
    have HB : Hid (Below w.heap.size w wr) := hb
    have hbs := hb.size
    clear hall hb
    by_cases hlt : j + 1 < l.length
    · have hlti : (j : Int) + 1 < (l.length : Int) := by omega
      have hlt0 : (j : Int) < (l.length : Int) := by omega
      obtain ⟨b, off, rfl, h1, _⟩ := (HR.out.later HB.out) (j + 1) hlt
      obtain ⟨b', off', e', h0, _⟩ := (HR.out.later HB.out) j (by omega)
      simp only [Option.some.injEq, Addr.mk.injEq, and_true] at e'
      obtain ⟨rfl, rfl⟩ := e'
      obtain ⟨x, hx⟩ : ∃ x, (l[j]).1 = x := ⟨_, rfl⟩
      obtain ⟨y, hy⟩ : ∃ y, (l[j + 1]).1 = y := ⟨_, rfl⟩
      rw [hx] at h0
      rw [hy] at h1
      have HXY : Hid (∀ (h0 : j < l.length) (h1 : j + 1 < l.length), (l[j]).1 = x ∧ (l[j + 1]).1 = y) := fun _ _ => ⟨hx, hy⟩
      clear hx hy
      go_wp2
      go_quiet (fail)
      obtain ⟨c, hc⟩ : ∃ c, Op.bytesLess x.toList y.toList = c := ⟨_, rfl⟩
      rw [hc]
      have HC : Hid (kl x y = c) := hc
      clear hc
      cases c with
      | false =>
        go_wp2
        refine bodyPost_ret (v := .tuple #[.pointer none, .int .i64 71]) (by simp [results, Try.results12, go_sem]) rfl ?_
        have hn : risB l = false := by
          cases h : risB l with
          | false => rfl
          | true =>
            have h1 := (risB_iff l).1 h j hlt
            rw [(HXY.out (by omega) hlt).1, (HXY.out (by omega) hlt).2, HC.out] at h1
            cases h1
        exact ⟨below_drewN HB.out _, fun _ => rfl, fun h => by rw [hn] at h; cases h⟩
      | true =>
        go_wp2
        refine ⟨⟨j + 1, by go_num, Or.inl (by omega), fun q hq hq2 => ?_, below_drewN HB.out _⟩, by simp only [intOf]; omega⟩
        by_cases e : q = j
        · subst e
          rw [(HXY.out (by omega) hlt).1, (HXY.out (by omega) hlt).2]
          exact HC.out
        · exact HA.out q hq (by omega)
    · have hlti : ¬ (j : Int) + 1 < (l.length : Int) := by omega
      have HRS : Hid (risB l = true) := (risB_iff l).2 fun q hq => HA.out q hq (by omega)
      have HR1 : Hid (PRow wr p l) := HR.out.later HB.out
      clear HA HR
      go_wp2_with (first | (at_make; refine wpList_make_full _ rfl _ _ 22 rfl wr.heap.size 27 i0 _ 2 Try.underlying22 hi hz0 hz1 .i64 .i64 _ _ l.length rfl rfl (by omega) (by omega) (by rw [hz2]; omega) (by unfold maxLen; omega) (Nat.le_refl _) ?_; intro w1 hown hgrow; (have hb1 : Below wr.heap.size wr w1 := (Below.refl _ _).grown hgrow (Nat.le_refl _) (fun k h => by cases h)); (have HO1 : Hid (w1.ownsRow wr.heap.size 27 2 (.slice (some ⟨wr.heap.size, 0, none⟩) l.length l.length) l.length (madeCells #[.string ⟨#[]⟩, .string ⟨#[]⟩] (l.length * 2)).toList) := hown); (have HB1 : Hid (Below wr.heap.size wr w1) := hb1); clear hown hgrow hb1) | (refine wpList_copy_wide rfl (.tmp 41) (.tmp 42) 22 22 rfl 27 2 Try.underlying22 (by rw [hi]; simp [hz1]) wr.heap.size 0 l.length l.length p l.length cap rfl rfl (pc (l.map itOf)) (Nat.le_refl _) (by rw [pc_length, List.length_map]) ((HR1.out.later (HB1.out.alloc HB1.out.size _)).cells) (fun j hj => (row_room (HO1.out.alloc _)).1 j (by rw [pc_length, List.length_map] at hj; exact hj)) (fun j _ => (row_room (HO1.out.alloc _)).2 _) (pc_one _) ?_; intro w4 hw4; (have HW4 : Hid (w4 = (w1.alloc (Obj.cells #[.int .i64 (m : Int), .slice (some ⟨wr.heap.size, 0, none⟩) l.length l.length] 46)).setCells wr.heap.size 0 (pc (l.map itOf))) := hw4); clear hw4))
      refine bodyPost_ret (v := .tuple #[.pointer (some ⟨w1.heap.size, 0, none⟩), .int .i64 0]) (by simp [results, Try.results12, go_sem]) rfl ?_
      have hlt1 : wr.heap.size < w1.heap.size := (HO1.out.lt _ rfl).2
      have hs1 := HB1.out.size
      have hbw : Below w.heap.size w (w1.alloc (Obj.cells #[.int .i64 (m : Int), .slice (some ⟨wr.heap.size, 0, none⟩) l.length l.length] 46)) := (HB.out.trans (HB1.out.mono hbs)).alloc (by omega) _
      have hg := setCells_grown wr.heap.size (pc (l.map itOf)) 0 (w1.alloc (Obj.cells #[.int .i64 (m : Int), .slice (some ⟨wr.heap.size, 0, none⟩) l.length l.length] 46))
      have hrow : w4.ownsRow wr.heap.size 27 2 (.slice (some ⟨wr.heap.size, 0, none⟩) l.length l.length) l.length (pc (l.map itOf)) := copied_row (HO1.out.alloc _) (by rw [pc_length, List.length_map]) HW4.out
      refine ⟨by rw [HW4.out]; exact hbw.grown hg (by rw [World.size_alloc]; omega) (fun k hk => by simp at hk; omega), fun h => (by rw [HRS.out] at h; cases h), fun _ => ⟨w1.heap.size, .slice (some ⟨wr.heap.size, 0, none⟩) l.length l.length, rfl, ⟨?_, ?_, by omega⟩⟩⟩
      · rw [HW4.out, hg.block _ (by rw [World.size_alloc]; omega) (fun e => by have := Option.some.inj e; omega)]
        exact heap_alloc_new w1 _
      · rw [List.length_map]
        obtain ⟨q1, ⟨q2, _⟩ | ⟨g', cap', cur, e', qB, q⟩⟩ := hrow
        · cases q2
        · exact ⟨q1, Or.inr ⟨g', cap', cur, e', by omega, q⟩⟩
end Go.Proofs.Ytlpannicklkghaa
/- Walks of layer 7: the document's tree, Place and Get. -/
namespace Go.Proofs.Ytlpannicklkghaa
open Go.RowKit

theorem RtAt.c0 {w : World} {B r m : Nat} {v : Value} {l : List It} (h : RtAt w B r m v l) : w.cell? ⟨r, 0, none⟩ = some (.int .i64 (m : Int)) := by simp [World.cell?, h.cells]
theorem RtAt.c1 {w : World} {B r m : Nat} {v : Value} {l : List It} (h : RtAt w B r m v l) : w.cell? ⟨r, 1, none⟩ = some v := by simp [World.cell?, h.cells]
theorem RtAt.fz {w : World} {B r m : Nat} {v : Value} {l : List It} (h : RtAt w B r m v l) (o : Nat) : w.frozen? ⟨r, o, none⟩ = false := by simp [World.frozen?, h.cells]

set_option maxHeartbeats 8000000 in
set_option maxRecDepth 100000 in
theorem place_any (w : World) (B r m : Nat) (v : Value) (l : List It) (key : ByteArray) (h : RtAt w B r m v l) (hs : Srt l) (hl : l.length ≤ 4000000001) :
    Calls Try.prog 43 #[.pointer (some ⟨r, 0, none⟩), .string key] w fun e w' => e = .returned (.int .i64 (cntL key l : Int)) ∧ w' = w := by
  obtain ⟨p, cap, rfl, hcap, _⟩ := prow_form h.row
  have c1 := h.c1
  have HR : Hid (w.ownsRow B 27 2 (.slice p l.length cap) l.length (pc l)) := h.row
  have HS : Hid (Srt l) := hs
  have hcl := cntL_le key l
  obtain ⟨c, hc⟩ : ∃ c, cntL key l = c := ⟨_, rfl⟩
  have HC : Hid (cntL key l = c) := hc
  rw [hc] at hcl ⊢
  clear h hs hc
  go_enter Try.func43, Try.ntmps43
  go_wp2
  go_loopw [5, 6] (fun lo hi wr => ∃ x y : Nat, lo = .int .i64 (x : Int) ∧ hi = .int .i64 (y : Int) ∧ x ≤ c ∧ c ≤ y ∧ y ≤ l.length ∧ wr = w) (fun lo hi _ => (intOf hi).toNat - (intOf lo).toNat)
  case atStart => exact ⟨0, l.length, rfl, rfl, Nat.zero_le _, hcl, Nat.le_refl _, rfl⟩
  case round =>
    obtain ⟨x, y, rfl, rfl, hx, hy, hyl, hwr⟩ := hrel
    subst hwr
    by_cases hlt : x < y
    · have hlti : (x : Int) < (y : Int) := by omega
      obtain ⟨md, hmd⟩ : ∃ md, (x + y) / 2 = md := ⟨_, rfl⟩
      have hmdi : ((x : Int) + (y : Int)) / 2 = (md : Int) := by omega
      have hml : md < l.length := by omega
      have hmli : (md : Int) < (l.length : Int) := by omega
      obtain ⟨g, gc, eg, _, _, _, hcc, _⟩ := prow_at HR.out (by omega)
      simp only [Value.slice.injEq] at eg
      obtain ⟨rfl, _, rfl⟩ := eg
      obtain ⟨d0, _⟩ := hcc md hml
      obtain ⟨z, hz⟩ : ∃ z, (l[md]).key = z := ⟨_, rfl⟩
      rw [hz] at d0
      obtain ⟨b, hb⟩ : ∃ b, kl z key = b := ⟨_, rfl⟩
      have hbl : Op.bytesLess z.toList key.toList = b := hb
      cases b with
      | true =>
        have hmc : md + 1 ≤ c := by
          rcases Nat.lt_or_ge md c with h1 | h1
          · exact h1
          · have := cntL_ge HS.out hml (by rw [HC.out]; exact h1)
            rw [hz, hb] at this
            cases this
        clear hcc hz hb
        go_wp2
        first | exact ⟨⟨md + 1, y, by go_num, rfl, hmc, hy, hyl, trivial⟩, by simp only [intOf]; omega⟩ | exact ⟨⟨md + 1, y, by go_num, rfl, hmc, hy, hyl, rfl⟩, by simp only [intOf]; omega⟩ | (go_roundw; all_goals first | exact ⟨md + 1, y, by go_num, rfl, hmc, hy, hyl, rfl⟩ | (simp [intOf]; omega))
      | false =>
        have hmc : c ≤ md := by
          rcases Nat.lt_or_ge md c with h1 | h1
          · have := cntL_lt key l md hml (by rw [HC.out]; exact h1)
            rw [hz, hb] at this
            cases this
          · exact h1
        clear hcc hz hb
        go_wp2
        exact ⟨⟨x, md, rfl, by rw [hmdi], hx, hmc, by omega, trivial⟩, by simp only [intOf]; omega⟩
    · have hlti : ¬ (x : Int) < (y : Int) := by omega
      obtain rfl : x = c := by omega
      go_wp2
      go_ret
      exact ⟨rfl, rfl⟩
set_option maxHeartbeats 8000000 in
set_option maxRecDepth 100000 in
theorem rget_any (w : World) (B r m : Nat) (v : Value) (l : List It) (key : ByteArray) (h : RtAt w B r m v l) (hs : Srt l) (hl : l.length ≤ 4000000001) :
    Calls Try.prog 29 #[.pointer (some ⟨r, 0, none⟩), .string key] w fun e w' => e = .returned (.tuple #[.string (valL key l), .bool (foundL key l)]) ∧ w' = w := by
  have HP := place_any w B r m v l key h hs hl
  obtain ⟨p, cap, rfl, hcap, _⟩ := prow_form h.row
  have c1 := h.c1
  have HR : Hid (w.ownsRow B 27 2 (.slice p l.length cap) l.length (pc l)) := h.row
  have hcl := cntL_le key l
  obtain ⟨c, hc⟩ : ∃ c, cntL key l = c := ⟨_, rfl⟩
  have HC : Hid (cntL key l = c) := hc
  rw [hc] at hcl HP
  have HP2 : Hid (Calls Try.prog 43 #[.pointer (some ⟨r, 0, none⟩), .string key] w fun e w' => e = .returned (.int .i64 (c : Int)) ∧ w' = w) := HP
  clear h hs hc HP
  go_enter Try.func29, Try.ntmps29
  go_wp2_with fail
  refine HP2.out.mono ?_
  rintro e w1 ⟨rfl, hw1⟩
  subst hw1
  by_cases hlt : c < l.length
  · have hlti : (c : Int) < (l.length : Int) := by omega
    obtain ⟨g, gc, eg, _, _, _, hcc, _⟩ := prow_at HR.out (by omega)
    simp only [Value.slice.injEq] at eg
    obtain ⟨rfl, _, rfl⟩ := eg
    obtain ⟨d0, d1⟩ := hcc c hlt
    obtain ⟨z, hz⟩ : ∃ z, l[c] = z := ⟨_, rfl⟩
    rw [hz] at d0 d1
    have HF : Hid (foundL key l = decide (z.key = key) ∧ (z.key = key → valL key l = z.val) ∧ (z.key ≠ key → valL key l = ⟨#[]⟩)) := by
      have hfe : foundL key l = decide (z.key = key) := by
        rw [foundL_at (by rw [HC.out]; exact hlt)]
        simp only [HC.out, hz]
      refine ⟨hfe, fun e => ?_, fun e => ?_⟩
      · unfold valL
        rw [hfe, HC.out, List.getElem?_eq_getElem hlt, hz]
        simp [e]
      · unfold valL
        rw [hfe]
        simp [e]
    clear hcc hz
    by_cases he : z.key = key
    · have hbe : (z.key.toList == key.toList) = true := by rw [he]; simp
      go_wp2
      refine bodyPost_ret (v := .tuple #[.string z.val, .bool true]) (by simp [results, Try.results29, go_sem]) rfl ?_
      rw [HF.out.1, HF.out.2.1 he]
      simp [he]
    · have hbe : (z.key.toList == key.toList) = false := by rw [beq_eq_false_iff_ne]; exact fun h => he (ba_inj h)
      go_wp2
      refine bodyPost_ret (v := .tuple #[.string ⟨#[]⟩, .bool false]) (by simp [results, Try.results29, go_sem]) rfl ?_
      rw [HF.out.1, HF.out.2.2 he]
      simp [he]
  · have hlti : ¬ (c : Int) < (l.length : Int) := by omega
    have HF : Hid (foundL key l = false) := foundL_no (by rw [HC.out]; omega)
    go_wp2
    refine bodyPost_ret (v := .tuple #[.string ⟨#[]⟩, .bool false]) (by simp [results, Try.results29, go_sem]) rfl ?_
    unfold valL
    rw [HF.out]
    exact ⟨rfl, rfl⟩
end Go.Proofs.Ytlpannicklkghaa
/- Walks of layer 7: the document's tree, Put. -/
namespace Go.Proofs.Ytlpannicklkghaa
open Go.RowKit

theorem pc_set : ∀ (xs : List It) (k : Nat) (_ : k < xs.length) (x : It), ((pc xs).set (k * 2) (.string x.key)).set (k * 2 + 1) (.string x.val) = pc (xs.set k x)
  | y :: r, 0, _, x => rfl
  | y :: r, k + 1, h, x => by
    have ih := pc_set r k (by simpa using h) x
    rw [show (k + 1) * 2 = k * 2 + 1 + 1 by omega, show (k * 2 + 1 + 1) + 1 = (k * 2 + 1) + 1 + 1 by omega]
    simp only [pc, List.set_cons_succ, ih]
theorem own_pair {w : World} {B g n cap : Nat} {xs : List It} (h : w.ownsRow B 27 2 (.slice (some ⟨g, 0, none⟩) n cap) n (pc xs)) (k : Nat) (hn : xs.length = n) (hk : k < n) (x : It) : ((w.setCell ⟨g, k * 2, none⟩ (.string x.key)).setCell ⟨g, k * 2 + 1, none⟩ (.string x.val)).ownsRow B 27 2 (.slice (some ⟨g, 0, none⟩) n cap) n (pc (xs.set k x)) := by
  have h1 := (h.stored (k * 2) (.string x.key)).1
  have h2 := (h1.stored (k * 2 + 1) (.string x.val)).1
  rw [pc_set xs k (by omega) x] at h2
  exact h2
/-- What may turn when the document's tree does. -/
def rz (r : Nat) (v : Value) (k : Nat) : Prop := k = r ∨ v.ownBlock = some k
theorem RtAt.ne {w : World} {B r m : Nat} {v : Value} {l : List It} (h : RtAt w B r m v l) : v.ownBlock ≠ some r := own_ne h.row h.cells (by decide)
/-- A pair is stored. -/
theorem RtAt.store {w : World} {B r m g cap : Nat} {l : List It} (h : RtAt w B r m (.slice (some ⟨g, 0, none⟩) l.length cap) l) (k : Nat) (hk : k < l.length) (x : It) : RtAt ((w.setCell ⟨g, k * 2, none⟩ (.string x.key)).setCell ⟨g, k * 2 + 1, none⟩ (.string x.val)) B r m (.slice (some ⟨g, 0, none⟩) l.length cap) (l.set k x) := by
  have hne : r ≠ g := fun e => h.ne (by rw [e]; rfl)
  refine ⟨?_, by rw [List.length_set]; exact own_pair h.row k rfl hk x, h.le⟩
  rw [Below.heap_setCell _ _ _ _ (fun e => hne (by simpa using e)), Below.heap_setCell _ _ _ _ (fun e => hne (by simpa using e))]
  exact h.cells
theorem only_store {Z : Nat → Prop} {w w' : World} (h : Only Z w w') {g : Nat} (hg : Z g ∨ w.heap.size ≤ g) (o : Nat) (u : Value) : Only Z w (w'.setCell ⟨g, o, none⟩ u) := by
  refine ⟨h.os, h.tape, h.output, by simpa [World.setCell] using h.size, fun k hk hz => ?_⟩
  rw [Below.heap_setCell _ _ _ _ (fun e => ?_)]
  · exact h.block k hk hz
  · have e2 : k = g := e
    rcases hg with hg | hg
    · exact hz (e2 ▸ hg)
    · omega

set_option maxHeartbeats 16000000 in
set_option maxRecDepth 100000 in
theorem rput_new (w : World) (B r m : Nat) (v : Value) (l : List It) (key val : ByteArray) (h : RtAt w B r m v l) (hs : Srt l) (hl : l.length ≤ 4000000000) (hf : foundL key l = false) :
    Calls Try.prog 26 #[.pointer (some ⟨r, 0, none⟩), .string key, .string val] w fun e w' => e = .returned (.tuple #[.string ⟨#[]⟩, .bool false]) ∧ Only (rz r v) w w' ∧ ∃ v', RtAt w' B r m v' (insL key val l) ∧ ∀ k, v'.ownBlock = some k → v.ownBlock = some k ∨ w.heap.size ≤ k := by
  obtain ⟨i0, hif, hz0, hz1, hz2⟩ := info_parts Try.infoPair
  have HG := rget_any w B r m v l key h hs (by omega)
  have HP := place_any w B r m v l key h hs (by omega)
  have hval : valL key l = ⟨#[]⟩ := by unfold valL; rw [hf]; rfl
  rw [hval, hf] at HG
  obtain ⟨p, cap, rfl, hcap, _⟩ := prow_form h.row
  have c1 := h.c1
  have f1 := h.fz 1
  have HR : Hid (RtAt w B r m (.slice p l.length cap) l) := h
  have hBs : B ≤ w.heap.size := Nat.le_trans h.le (Nat.le_of_lt h.lt)
  have hrl := h.lt
  have hcl := cntL_le key l
  obtain ⟨c, hc⟩ : ∃ c, cntL key l = c := ⟨_, rfl⟩
  have HC : Hid (cntL key l = c) := hc
  rw [hc] at hcl HP
  clear h hs hc hval hf
  go_enter Try.func26, Try.ntmps26
  go_wp2_with fail
  refine HG.mono ?_
  rintro e w1 ⟨rfl, hw1⟩
  subst hw1
  go_wp2_with fail
  refine HP.mono ?_
  rintro e w2 ⟨rfl, hw2⟩
  subst hw2
  go_wp2_with (at_builtin; go_must (refine wpList_append_lies _ rfl _ _ 22 rfl B 27 i0 _ 2 32 Try.underlying22 hif hz0 hz1 hz2 rfl (by decide) _ _ _ rfl (HR.out.row.alloc _) ⟨w2.heap.size, 0, none⟩ 1 1 [.string ⟨#[]⟩, .string ⟨#[]⟩] rfl rfl (pair_cells w2 ⟨#[]⟩ ⟨#[]⟩) (by intro u hu; simp at hu; subst hu; rfl) Nat.one_pos (by unfold maxLen; omega) (by omega) (by simp; omega) _ rfl ?_); intro g5 cap5 w5 hown5 hgrow5 hor5 hlt5; (have hr5 : w5.heap[r]? = w2.heap[r]? := (hgrow5.block r (by simp; omega) (fun e => HR.out.ne e.symm)).trans (Below.heap_alloc _ _ _ hrl)); (have c5 := cell_at hr5 c1); (have f5 : w5.frozen? ⟨r, 1, none⟩ = false := by simp [World.frozen?, hr5, HR.out.cells]))
  obtain ⟨w6, hw6⟩ : ∃ w6, w5.setCell ⟨r, 1, none⟩ (.slice (some ⟨g5, 0, none⟩) (l.length + 1) cap5) = w6 := ⟨_, rfl⟩
  have hne5 : r ≠ g5 := fun e => own_ne hown5 (by rw [hr5]; exact HR.out.cells) (by decide) (by rw [e]; rfl)
  have HO5 : Hid (Only (rz r (.slice p l.length cap)) w2 w5) := ((Only.refl _ _).alloc _).grown hgrow5 fun k hk => Or.inr hk
  have HG5 : Hid ((Value.slice p l.length cap).ownBlock = some g5 ∨ w2.heap.size ≤ g5) := by
    rcases hor5 with h1 | h1
    · exact Or.inl h1
    · exact Or.inr (by rw [h1]; simp)
  have HL0 : Hid (RtAt w6 B r m (.slice (some ⟨g5, 0, none⟩) (l.length + 1) cap5) (l ++ [⟨⟨#[]⟩, ⟨#[]⟩, none⟩]) ∧ Only (rz r (.slice p l.length cap)) w2 w6) := by
    rw [← hw6]
    refine ⟨⟨?_, ?_, HR.out.le⟩, only_store HO5.out (Or.inl (Or.inl rfl)) _ _⟩
    · rw [heap_setCell_at (hr5.trans HR.out.cells)]
      simp
    · rw [List.length_append, List.length_singleton, pc_append]
      exact own_kept hown5 fun k hk => Below.heap_setCell _ _ _ _ (fun e => by
        obtain rfl : g5 = k := by simpa [Value.ownBlock] using hk
        exact hne5 (by simpa using e.symm))
  rw [hw6]
  obtain ⟨N, hN⟩ : ∃ N, l.length + 1 = N := ⟨_, rfl⟩
  rw [hN] at HL0 ⊢
  clear hown5 hgrow5 hor5 hr5 c5 f5 HG HP c1 f1 hw6
  go_loopw [11] (fun i wr => ∃ (q : Nat) (y : It), c ≤ q ∧ q ≤ l.length ∧ i = .int .i64 (q : Int) ∧ RtAt wr B r m (.slice (some ⟨g5, 0, none⟩) N cap5) (l.take q ++ y :: l.drop q) ∧ Only (rz r (.slice p l.length cap)) w2 wr) (fun i _ => (intOf i).toNat)
  case atStart => exact ⟨l.length, _, hcl, Nat.le_refl _, rfl, by rw [List.take_length, List.drop_length]; exact HL0.out.1, HL0.out.2⟩
  case round =>
    obtain ⟨q, y, hq1, hq2, rfl, hrt, hon⟩ := hrel
    have HRT : Hid (RtAt wr B r m (.slice (some ⟨g5, 0, none⟩) N cap5) (l.take q ++ y :: l.drop q)) := hrt
    have HON : Hid (Only (rz r (.slice p l.length cap)) w2 wr) := hon
    have c1 := hrt.c1
    have hlen : (l.take q ++ y :: l.drop q).length = N := by simp; omega
    obtain ⟨g, gc, eg, _, _, _, hcc, hfz⟩ := prow_at hrt.row (by omega)
    rw [hlen] at eg
    simp only [Value.slice.injEq, Option.some.injEq, Addr.mk.injEq, and_true, true_and] at eg
    obtain ⟨rfl, rfl⟩ := eg
    by_cases hlt : c < q
    · have hlti : (c : Int) < (q : Int) := by omega
      obtain ⟨q', rfl⟩ : ∃ q', q = q' + 1 := ⟨q - 1, by omega⟩
      have hqi : (((q' + 1 : Nat)) : Int) = (q' : Int) + 1 := by omega
      have hq' : q' < l.length := by omega
      obtain ⟨d0, d1⟩ := hcc q' (by omega)
      obtain ⟨e0, e1⟩ := hcc (q' + 1) (by omega)
      have ff0 := hfz ((q' + 1) * 2)
      have ff1 := hfz ((q' + 1) * 2 + 1)
      have hgx : (l.take (q' + 1) ++ y :: l.drop (q' + 1))[q']'(by omega) = l[q'] := by
        rw [List.getElem_append_left (by rw [List.length_take]; omega), List.getElem_take]
      rw [hgx] at d0 d1
      obtain ⟨x, hx⟩ : ∃ x, l[q'] = x := ⟨_, rfl⟩
      rw [hx] at d0 d1
      obtain ⟨z, hz⟩ : ∃ z, (l.take (q' + 1) ++ y :: l.drop (q' + 1))[q' + 1]'(by omega) = z := ⟨_, rfl⟩
      rw [hz] at e0 e1
      have HST : Hid (RtAt ((wr.setCell ⟨g5, (q' + 1) * 2, none⟩ (.string x.key)).setCell ⟨g5, (q' + 1) * 2 + 1, none⟩ (.string x.val)) B r m (.slice (some ⟨g5, 0, none⟩) N cap5) (l.take q' ++ x :: l.drop q')) := by
        have h1 := HRT.out
        rw [← hlen] at h1
        have h2 := h1.store (q' + 1) (by omega) x
        rw [hlen] at h2
        have e : (l.take (q' + 1) ++ y :: l.drop (q' + 1)).set (q' + 1) x = l.take q' ++ x :: l.drop q' := by
          have ht : l.take (q' + 1) = l.take q' ++ [x] := by rw [List.take_add_one, List.getElem?_eq_getElem hq', hx]; rfl
          have hd2 : l.drop q' = x :: l.drop (q' + 1) := by rw [List.drop_eq_getElem_cons hq', hx]
          rw [hd2, List.set_append, if_neg (by rw [List.length_take]; omega), List.length_take, show q' + 1 - min (q' + 1) l.length = 0 by omega, List.set_cons_zero, ht]
          simp
        rw [e] at h2
        exact h2
      have HOS : Hid (Only (rz r (.slice p l.length cap)) w2 ((wr.setCell ⟨g5, (q' + 1) * 2, none⟩ (.string x.key)).setCell ⟨g5, (q' + 1) * 2 + 1, none⟩ (.string x.val))) := by
        have hg : rz r (.slice p l.length cap) g5 ∨ w2.heap.size ≤ g5 := by
          rcases HG5.out with h1 | h1
          · exact Or.inl (Or.inr h1)
          · exact Or.inr h1
        exact only_store (only_store HON.out hg _ _) hg _ _
      have hqli2 : (q' : Int) + 1 < (N : Int) := by omega
      have hqli3 : (q' : Int) < (N : Int) := by omega
      have hN2 : N ≤ 4000000001 := by omega
      have hq0 : (0 : Int) ≤ (q' : Int) + 1 := by omega
      have htn : ((q' : Int) + 1).toNat = q' + 1 := by omega
      have hwr1 : IntKind.i64.wrap (q' : Int) = (q' : Int) := by rw [IntKind.wrap_i64]; omega
      rw [hqi] at hlti ⊢
      clear hcc hfz hgx hx hz hrt hon hlen hN
      go_wp2_with fail
      go_region_law (fail)
      all_goals
        go_wp2
        first | exact ⟨⟨q', x, by omega, by omega, rfl, HST.out.later (Below.refl _ _).drew, HOS.out.drew⟩, by simp only [intOf]; omega⟩ | (go_roundw; all_goals first | exact ⟨q', x, by omega, by omega, by go_num, HST.out.later (Below.refl _ _).drew, HOS.out.drew⟩ | (simp [intOf]; omega))
    · have hlti : ¬ (c : Int) < (q : Int) := by omega
      obtain rfl : q = c := by omega
      obtain ⟨e0, e1⟩ := hcc q (by omega)
      have ff0 := hfz (q * 2)
      have ff1 := hfz (q * 2 + 1)
      obtain ⟨z, hz⟩ : ∃ z, (l.take q ++ y :: l.drop q)[q]'(by omega) = z := ⟨_, rfl⟩
      rw [hz] at e0 e1
      have HST : Hid (RtAt ((wr.setCell ⟨g5, q * 2, none⟩ (.string key)).setCell ⟨g5, q * 2 + 1, none⟩ (.string val)) B r m (.slice (some ⟨g5, 0, none⟩) N cap5) (insL key val l)) := by
        have h1 := HRT.out
        rw [← hlen] at h1
        have h2 := h1.store q (by omega) ⟨key, val, none⟩
        rw [hlen] at h2
        have e : (l.take q ++ y :: l.drop q).set q ⟨key, val, none⟩ = insL key val l := by
          unfold insL
          rw [HC.out, List.set_append, if_neg (by rw [List.length_take]; omega), List.length_take, show q - min q l.length = 0 by omega, List.set_cons_zero]
        rw [e] at h2
        exact h2
      have HOS : Hid (Only (rz r (.slice p l.length cap)) w2 ((wr.setCell ⟨g5, q * 2, none⟩ (.string key)).setCell ⟨g5, q * 2 + 1, none⟩ (.string val))) := by
        have hg : rz r (.slice p l.length cap) g5 ∨ w2.heap.size ≤ g5 := by
          rcases HG5.out with h1 | h1
          · exact Or.inl (Or.inr h1)
          · exact Or.inr h1
        exact only_store (only_store HON.out hg _ _) hg _ _
      have hqN : (q : Int) < (N : Int) := by omega
      clear hcc hfz hz hrt hon hlen hN
      go_wp2
      refine bodyPost_ret (v := .tuple #[.string ⟨#[]⟩, .bool false]) (by simp [results, Try.results26, go_sem]) rfl ?_
      refine ⟨rfl, HOS.out, _, HST.out, fun k hk => ?_⟩
      obtain rfl : g5 = k := by simpa [Value.ownBlock] using hk
      exact HG5.out
end Go.Proofs.Ytlpannicklkghaa
/- Walks of layer 7: the document's tree, Put and Delete. -/
namespace Go.Proofs.Ytlpannicklkghaa
open Go.RowKit

set_option maxHeartbeats 16000000 in
set_option maxRecDepth 100000 in
theorem rput_old (w : World) (B r m : Nat) (v : Value) (l : List It) (key val : ByteArray) (h : RtAt w B r m v l) (hs : Srt l) (hl : l.length ≤ 4000000000) (hf : foundL key l = true) :
    Calls Try.prog 26 #[.pointer (some ⟨r, 0, none⟩), .string key, .string val] w fun e w' => e = .returned (.tuple #[.string (valL key l), .bool true]) ∧ Only (rz r v) w w' ∧ RtAt w' B r m v (setV (cntL key l) val l) := by
  have HG := rget_any w B r m v l key h hs (by omega)
  have HP := place_any w B r m v l key h hs (by omega)
  rw [hf] at HG
  have hlt := found_lt hf
  obtain ⟨g, cap, rfl, hcap, _, _, hcc, hfz⟩ := prow_at h.row (by omega)
  have c1 := h.c1
  obtain ⟨c, hc⟩ : ∃ c, cntL key l = c := ⟨_, rfl⟩
  obtain ⟨x0, hx0⟩ : ∃ x0, valL key l = x0 := ⟨_, rfl⟩
  rw [hc] at HP hlt ⊢
  rw [hx0] at HG ⊢
  obtain ⟨e0, e1⟩ := hcc c hlt
  have ff0 := hfz (c * 2)
  have ff1 := hfz (c * 2 + 1)
  have hke : (l[c]).key = key := by
    have h2 := hf
    rw [foundL_at (by rw [hc]; exact hlt)] at h2
    have h3 := of_decide_eq_true h2
    simp only [hc] at h3
    exact h3
  have HST : Hid (RtAt ((w.setCell ⟨g, c * 2, none⟩ (.string key)).setCell ⟨g, c * 2 + 1, none⟩ (.string val)) B r m (.slice (some ⟨g, 0, none⟩) l.length cap) (setV c val l)) := by
    have h2 := h.store c hlt ⟨key, val, none⟩
    refine ⟨h2.cells, ?_, h2.le⟩
    have h3 := h2.row
    rw [List.length_set] at h3
    have e : pc (l.set c ⟨key, val, none⟩) = pc (setV c val l) := by
      have key2 : ∀ (l : List It) (c : Nat) (hc : c < l.length), (l[c]).key = key → pc (l.set c ⟨key, val, none⟩) = pc (setV c val l) := by
        intro l
        induction l with
        | nil => intro c hc; simp at hc
        | cons y r ih =>
          intro c hc hk
          cases c with
          | zero => rw [setV_zero]; simp only [List.set_cons_zero, pc]; rw [show y.key = key from hk]
          | succ c => rw [setV_succ, List.set_cons_succ, pc, pc, ih c (by simpa using hc) hk]
      exact key2 l c hlt hke
    rw [e] at h3
    rw [setV_length]
    exact h3
  have HOS : Hid (Only (rz r (.slice (some ⟨g, 0, none⟩) l.length cap)) w ((w.setCell ⟨g, c * 2, none⟩ (.string key)).setCell ⟨g, c * 2 + 1, none⟩ (.string val))) := only_store (only_store (Only.refl _ _) (Or.inl (Or.inr rfl)) _ _) (Or.inl (Or.inr rfl)) _ _
  obtain ⟨z, hz⟩ : ∃ z, l[c] = z := ⟨_, rfl⟩
  rw [hz] at e0 e1
  have hlti : (c : Int) < (l.length : Int) := by omega
  clear h hs hf hcc hfz hc hx0 hke hz
  go_enter Try.func26, Try.ntmps26
  go_wp2_with fail
  refine HG.mono ?_
  rintro e w1 ⟨rfl, hw1⟩
  subst hw1
  go_wp2_with fail
  refine HP.mono ?_
  rintro e w2 ⟨rfl, hw2⟩
  subst hw2
  clear HG HP
  go_wp2
  refine bodyPost_ret (v := .tuple #[.string x0, .bool true]) (by simp [results, Try.results26, go_sem]) rfl ?_
  exact ⟨rfl, HOS.out, HST.out⟩
/-- Put. -/
theorem rput_any (w : World) (B r m : Nat) (v : Value) (l : List It) (key val : ByteArray) (h : RtAt w B r m v l) (hs : Srt l) (hl : l.length ≤ 4000000000) :
    Calls Try.prog 26 #[.pointer (some ⟨r, 0, none⟩), .string key, .string val] w fun e w' => e = .returned (.tuple #[.string (valL key l), .bool (foundL key l)]) ∧ Only (rz r v) w w' ∧ ∃ v', RtAt w' B r m v' (putL key val l) ∧ ∀ k, v'.ownBlock = some k → v.ownBlock = some k ∨ w.heap.size ≤ k := by
  cases hf : foundL key l with
  | true =>
    refine (rput_old w B r m v l key val h hs hl hf).mono ?_
    rintro e w' ⟨rfl, ho, hr⟩
    refine ⟨rfl, ho, v, ?_, fun k hk => Or.inl hk⟩
    unfold putL
    rw [hf]
    exact hr
  | false =>
    refine (rput_new w B r m v l key val h hs hl hf).mono ?_
    rintro e w' ⟨rfl, ho, v', hr, hk⟩
    refine ⟨by unfold valL; rw [hf]; rfl, ho, v', ?_, hk⟩
    unfold putL
    rw [hf]
    exact hr
/-- A row's beginning. -/
theorem own_less {w : World} {B g n cap k : Nat} {e : TypeId} {size : Nat} {xs : List Value} (h : w.ownsRow B e size (.slice (some ⟨g, 0, none⟩) n cap) n xs) (hk : k ≤ n) : w.ownsRow B e size (.slice (some ⟨g, 0, none⟩) k cap) k (xs.take (k * size)) := by
  obtain ⟨h1, ⟨h2, _⟩ | ⟨g', cap', cur, e', hB, hg, hn, hm, hs, hx⟩⟩ := h
  · cases h2
  · simp only [Value.slice.injEq, Option.some.injEq, Addr.mk.injEq, and_true, true_and] at e'
    obtain ⟨rfl, rfl⟩ := e'
    have hle : k * size ≤ n * size := Nat.mul_le_mul_right _ hk
    refine ⟨by rw [List.length_take, h1]; omega, Or.inr ⟨g, cap, cur, rfl, hB, hg, by omega, hm, hs, ?_⟩⟩
    rw [← hx, List.take_take, Nat.min_eq_left hle]
theorem pc_take : ∀ (l : List It) (k : Nat), (pc l).take (k * 2) = pc (l.take k)
  | [], k => by simp [pc]
  | x :: r, 0 => by simp [pc]
  | x :: r, k + 1 => by
    rw [show (k + 1) * 2 = k * 2 + 1 + 1 by omega]
    simp only [pc, List.take_succ_cons, pc_take r k]
theorem rdel_none (w : World) (B r m : Nat) (v : Value) (l : List It) (key : ByteArray) (h : RtAt w B r m v l) (hs : Srt l) (hl : l.length ≤ 4000000000) (hf : foundL key l = false) :
    Calls Try.prog 27 #[.pointer (some ⟨r, 0, none⟩), .string key] w fun e w' => e = .returned (.tuple #[.string ⟨#[]⟩, .bool false]) ∧ w' = w := by
  have HG := rget_any w B r m v l key h hs (by omega)
  have hval : valL key l = ⟨#[]⟩ := by unfold valL; rw [hf]; rfl
  rw [hval, hf] at HG
  clear h hs hf hval
  go_enter Try.func27, Try.ntmps27
  go_wp2_with fail
  refine HG.mono ?_
  rintro e w1 ⟨rfl, hw1⟩
  subst hw1
  go_wp2
  refine bodyPost_ret (v := .tuple #[.string ⟨#[]⟩, .bool false]) (by simp [results, Try.results27, go_sem]) rfl ?_
  exact ⟨rfl, rfl⟩
set_option maxHeartbeats 16000000 in
set_option maxRecDepth 100000 in
theorem rdel_old (w : World) (B r m : Nat) (v : Value) (l : List It) (key : ByteArray) (h : RtAt w B r m v l) (hs : Srt l) (hl : l.length ≤ 4000000000) (hf : foundL key l = true) :
    Calls Try.prog 27 #[.pointer (some ⟨r, 0, none⟩), .string key] w fun e w' => e = .returned (.tuple #[.string (valL key l), .bool true]) ∧ Only (rz r v) w w' ∧ ∃ v', RtAt w' B r m v' (cutL key l) ∧ v'.ownBlock = v.ownBlock := by
  have HG := rget_any w B r m v l key h hs (by omega)
  have HP := place_any w B r m v l key h hs (by omega)
  rw [hf] at HG
  have hlt := found_lt hf
  have hcl := cutL_length hf
  obtain ⟨g, cap, rfl, hcap, _, _, _, _⟩ := prow_at h.row (by omega)
  have HR : Hid (RtAt w B r m (.slice (some ⟨g, 0, none⟩) l.length cap) l) := h
  obtain ⟨c, hc⟩ : ∃ c, cntL key l = c := ⟨_, rfl⟩
  obtain ⟨x0, hx0⟩ : ∃ x0, valL key l = x0 := ⟨_, rfl⟩
  obtain ⟨cl, hcq⟩ : ∃ cl, cutL key l = cl := ⟨_, rfl⟩
  have HCL : Hid (cl = l.take c ++ l.drop (c + 1)) := by rw [← hcq, ← hc]; rfl
  rw [hc] at HP hlt
  rw [hcq] at hcl ⊢
  rw [hx0] at HG ⊢
  clear h hs hf hc hx0 hcq
  go_enter Try.func27, Try.ntmps27
  go_wp2_with fail
  refine HG.mono ?_
  rintro e w1 ⟨rfl, hw1⟩
  subst hw1
  go_wp2_with fail
  refine HP.mono ?_
  rintro e w2 ⟨rfl, hw2⟩
  subst hw2
  clear HG HP
  go_wp2_with fail
  obtain ⟨N, hN⟩ : ∃ N, l.length = N := ⟨_, rfl⟩
  rw [hN] at HR
  go_loopw [8] (fun i wr => ∃ (q : Nat) (y : It), c ≤ q ∧ q + 1 ≤ N ∧ i = .int .i64 (q : Int) ∧ RtAt wr B r m (.slice (some ⟨g, 0, none⟩) N cap) (cl.take q ++ y :: l.drop (q + 1)) ∧ Only (rz r (.slice (some ⟨g, 0, none⟩) N cap)) w2 wr) (fun i _ => N - (intOf i).toNat)
  case atStart =>
    refine ⟨c, l[c], Nat.le_refl _, by omega, rfl, ?_, Only.refl _ _⟩
    have e : cl.take c ++ l[c] :: l.drop (c + 1) = l := by
      rw [HCL.out, List.take_append_of_le_length (by rw [List.length_take]; omega), List.take_take, Nat.min_self, ← List.drop_eq_getElem_cons hlt, List.take_append_drop]
    rw [e]
    exact HR.out
  case round =>
    obtain ⟨q, y, hq1, hq2, rfl, hrt, hon⟩ := hrel
    have HRT : Hid (RtAt wr B r m (.slice (some ⟨g, 0, none⟩) N cap) (cl.take q ++ y :: l.drop (q + 1))) := hrt
    have HON : Hid (Only (rz r (.slice (some ⟨g, 0, none⟩) N cap)) w2 wr) := hon
    have c1 := hrt.c1
    have fr1 := hrt.fz 1
    have hlen : (cl.take q ++ y :: l.drop (q + 1)).length = N := by simp; omega
    obtain ⟨g', gc, eg, _, _, _, hcc, hfz⟩ := prow_at hrt.row (by omega)
    rw [hlen] at eg
    simp only [Value.slice.injEq, Option.some.injEq, Addr.mk.injEq, and_true, true_and] at eg
    obtain ⟨rfl, rfl⟩ := eg
    have hN2 : N ≤ 4000000000 := by omega
    by_cases hlt2 : q + 1 < N
    · have hlti : (q : Int) + 1 < (N : Int) := by omega
      obtain ⟨d0, d1⟩ := hcc (q + 1) (by omega)
      obtain ⟨e0, e1⟩ := hcc q (by omega)
      have ff0 := hfz (q * 2)
      have ff1 := hfz (q * 2 + 1)
      have hql : q + 1 < l.length := by omega
      have hgx : (cl.take q ++ y :: l.drop (q + 1))[q + 1]'(by omega) = l[q + 1] := by
        rw [List.getElem_append_right (by rw [List.length_take]; omega)]
        simp only [List.length_take]
        have e : q + 1 - min q cl.length = 0 + 1 := by omega
        simp only [e, List.getElem_cons_succ, List.getElem_drop]
      rw [hgx] at d0 d1
      obtain ⟨x, hx⟩ : ∃ x, l[q + 1] = x := ⟨_, rfl⟩
      rw [hx] at d0 d1
      obtain ⟨z, hz⟩ : ∃ z, (cl.take q ++ y :: l.drop (q + 1))[q]'(by omega) = z := ⟨_, rfl⟩
      rw [hz] at e0 e1
      have HST : Hid (RtAt ((wr.setCell ⟨g, q * 2, none⟩ (.string x.key)).setCell ⟨g, q * 2 + 1, none⟩ (.string x.val)) B r m (.slice (some ⟨g, 0, none⟩) N cap) (cl.take (q + 1) ++ x :: l.drop (q + 1 + 1))) := by
        have h1 := HRT.out
        rw [← hlen] at h1
        have h2 := h1.store q (by omega) x
        rw [hlen] at h2
        have e : (cl.take q ++ y :: l.drop (q + 1)).set q x = cl.take (q + 1) ++ x :: l.drop (q + 1 + 1) := by
          have hq3 : q < cl.length := by omega
          have hcq : cl[q] = x := by
            have h3 : cl[q]? = some x := by
              rw [HCL.out, List.getElem?_append_right (by rw [List.length_take]; omega), List.length_take, List.getElem?_drop, show c + 1 + (q - min c l.length) = q + 1 by omega, List.getElem?_eq_getElem hql, hx]
            rw [List.getElem?_eq_getElem hq3] at h3
            exact Option.some.inj h3
          have ht : cl.take (q + 1) = cl.take q ++ [x] := by rw [List.take_add_one, List.getElem?_eq_getElem hq3, hcq]; rfl
          have hd2 : l.drop (q + 1) = x :: l.drop (q + 1 + 1) := by rw [List.drop_eq_getElem_cons hql, hx]
          rw [List.set_append, if_neg (by rw [List.length_take]; omega), List.length_take, show q - min q cl.length = 0 by omega, List.set_cons_zero, ht, hd2]
          simp
        rw [e] at h2
        exact h2
      have HOS : Hid (Only (rz r (.slice (some ⟨g, 0, none⟩) N cap)) w2 ((wr.setCell ⟨g, q * 2, none⟩ (.string x.key)).setCell ⟨g, q * 2 + 1, none⟩ (.string x.val))) := only_store (only_store HON.out (Or.inl (Or.inr rfl)) _ _) (Or.inl (Or.inr rfl)) _ _
      have hq0 : (0 : Int) ≤ (q : Int) + 1 := by omega
      have htn : ((q : Int) + 1).toNat = q + 1 := by omega
      have hqN : (q : Int) < (N : Int) := by omega
      have hwr1 : IntKind.i64.wrap ((q : Int) + 1) = (q : Int) + 1 := by rw [IntKind.wrap_i64]; omega
      clear hcc hfz hgx hx hz hrt hon hlen hN
      go_wp2_with fail
      go_region_law (fail)
      all_goals
        go_wp2
        first | exact ⟨⟨q + 1, x, by omega, by omega, by go_num, HST.out.later (Below.refl _ _).drew, HOS.out.drew⟩, by simp only [intOf]; omega⟩ | (go_roundw; all_goals first | exact ⟨q + 1, x, by omega, by omega, by go_num, HST.out.later (Below.refl _ _).drew, HOS.out.drew⟩ | (simp [intOf]; omega))
    · have hlti : ¬ (q : Int) + 1 < (N : Int) := by omega
      have HST : Hid (RtAt (wr.setCell ⟨r, 1, none⟩ (.slice (some ⟨g, 0, none⟩) q cap)) B r m (.slice (some ⟨g, 0, none⟩) q cap) cl) := by
        have hne : r ≠ g := fun e => HRT.out.ne (by rw [e]; rfl)
        refine ⟨?_, ?_, HRT.out.le⟩
        · rw [heap_setCell_at HRT.out.cells]
          simp
        · have h1 := HRT.out.row
          rw [hlen] at h1
          have h2 := own_less h1 (k := q) (by omega)
          rw [pc_take, List.take_append_of_le_length (by rw [List.length_take]; omega), List.take_take, Nat.min_self, List.take_of_length_le (by omega)] at h2
          rw [show cl.length = q by omega]
          exact own_kept h2 fun k hk => Below.heap_setCell _ _ _ _ (fun e => by
            obtain rfl : g = k := by simpa [Value.ownBlock] using hk
            exact hne (by simpa using e.symm))
      have HOS : Hid (Only (rz r (.slice (some ⟨g, 0, none⟩) N cap)) w2 (wr.setCell ⟨r, 1, none⟩ (.slice (some ⟨g, 0, none⟩) q cap))) := only_store HON.out (Or.inl (Or.inl rfl)) _ _
      have hNq : (N : Int) - 1 = (q : Int) := by omega
      have hwr1 : IntKind.i64.wrap ((N : Int) - 1) = (q : Int) := by rw [IntKind.wrap_i64]; omega
      have hwr2 : IntKind.i64.wrap (q : Int) = (q : Int) := by rw [IntKind.wrap_i64]; omega
      have hqc : q ≤ cap := by omega
      have hqci : (q : Int) ≤ (cap : Int) := by omega
      have hq0 : (0 : Int) ≤ (q : Int) := by omega
      clear hcc hfz hrt hon hlen
      go_wp2_with fail
      go_region_law (fail)
      all_goals
        go_wp2
        refine bodyPost_ret (v := .tuple #[.string x0, .bool true]) (by simp [results, Try.results27, go_sem]) rfl ?_
        exact ⟨rfl, by rw [hN]; exact HOS.out.drew, _, HST.out.later (Below.refl _ _).drew, rfl⟩
end Go.Proofs.Ytlpannicklkghaa
/- Walks of layer 7: a tree and the document's, side by side. -/
namespace Go.Proofs.Ytlpannicklkghaa
open Go.RowKit

/-- A tree and the document's. -/
structure Duo7 (w : World) (Ba Br : Nat) (Z : Nat → Prop) (t r m : Nat) (v : Value) (la lb : List It) : Prop where
  tz : TreeZ w Ba Z t m la
  rt : RtAt w Br r m v lb
  ap : ∀ k, Z k → ¬ rz r v k
theorem Duo7.later {w w' : World} {Ba Br : Nat} {Z : Nat → Prop} {t r m : Nat} {v : Value} {la lb : List It} (h : Duo7 w Ba Br Z t r m v la lb) (hb : Below w.heap.size w w') : Duo7 w' Ba Br Z t r m v la lb := ⟨h.tz.later hb, h.rt.later hb, h.ap⟩
theorem Duo7.srt {w : World} {Ba Br : Nat} {Z : Nat → Prop} {t r m : Nat} {v : Value} {la lb : List It} (h : Duo7 w Ba Br Z t r m v la lb) : Srt la := by
  obtain ⟨ls, h1⟩ := h.tz.is
  exact h1.srt
/-- The tree has turned. -/
theorem Duo7.left {w w' : World} {Ba Br : Nat} {Z Z' : Nat → Prop} {t r m : Nat} {v : Value} {la la' lb : List It} (h : Duo7 w Ba Br Z t r m v la lb) (ho : Only Z w w') (hz : TreeZ w' Ba Z' t m la') (hzz : ∀ k, Z' k → Z k ∨ w.heap.size ≤ k) : Duo7 w' Ba Br Z' t r m v la' lb := by
  refine ⟨hz, h.rt.kept (ho.block _ h.rt.lt fun e => h.ap _ e (Or.inl rfl)) fun k hk => ho.block _ (h.rt.row.lt k hk).2 fun e => h.ap _ e (Or.inr hk), fun k hk hr => ?_⟩
  rcases hzz k hk with h1 | h1
  · exact h.ap k h1 hr
  · rcases hr with rfl | hr
    · have := h.rt.lt; omega
    · have := (h.rt.row.lt k hr).2; omega
/-- The document's has turned. -/
theorem Duo7.right {w w' : World} {Ba Br : Nat} {Z : Nat → Prop} {t r m : Nat} {v v' : Value} {la lb lb' : List It} (h : Duo7 w Ba Br Z t r m v la lb) (ho : Only (rz r v) w w') (hr : RtAt w' Br r m v' lb') (hv : ∀ k, v'.ownBlock = some k → v.ownBlock = some k ∨ w.heap.size ≤ k) : Duo7 w' Ba Br Z t r m v' la lb' := by
  refine ⟨h.tz.kept ho fun k hk hz => h.ap k hk hz, hr, fun k hk hz => ?_⟩
  rcases hz with rfl | hz
  · exact h.ap _ hk (Or.inl rfl)
  · rcases hv k hz with h1 | h1
    · exact h.ap k hk (Or.inr h1)
    · have := (h.tz.lo k hk).2; omega
theorem Duo7.belowR {w w' : World} {Ba Br C : Nat} {Z : Nat → Prop} {t r m : Nat} {v : Value} {la lb : List It} (h : Duo7 w Ba Br Z t r m v la lb) (ho : Only (rz r v) w w') (hC : C ≤ Br) : Below C w w' := ho.below (by have := h.rt.le; have := h.rt.lt; omega) fun k hk hz => by
  rcases hz with rfl | hz
  · have := h.rt.le; omega
  · have := (h.rt.row.lt k hz).1; omega
def DuoS (w : World) (Ba Br t r m : Nat) (la lb : List It) : Prop := ∃ Z v, Duo7 w Ba Br Z t r m v la lb
/-- Both put. -/
theorem duo_putA {w : World} {Ba Br t r m : Nat} {la lb : List It} (h : DuoS w Ba Br t r m la lb) (key val : ByteArray) (hm : 4 ≤ m) (hm2 : m ≤ 64) (hl : la.length ≤ 4000000000) (hk : key.size ≤ 281474976710656) (hv : val.size ≤ 281474976710656) (C : Nat) (hC : C ≤ Ba) :
    Calls Try.prog 18 #[.pointer (some ⟨t, 0, none⟩), .string key, .string val] w fun e w' => e = .returned (.tuple #[.string (valL key la), .bool (foundL key la)]) ∧ Below C w w' ∧ DuoS w' Ba Br t r m (putL key val la) lb := by
  obtain ⟨Z, v, h⟩ := h
  refine (put_z w Ba Z t m key val la h.tz hm hm2 hl hk hv).mono ?_
  rintro e w' ⟨rfl, ho, Z', hz, hzz⟩
  exact ⟨rfl, h.tz.below ho hC, Z', v, h.left ho hz hzz⟩
theorem duo_putB {w : World} {Ba Br t r m : Nat} {la lb : List It} (h : DuoS w Ba Br t r m la lb) (key val : ByteArray) (hs : Srt lb) (hl : lb.length ≤ 4000000000) (C : Nat) (hC : C ≤ Br) :
    Calls Try.prog 26 #[.pointer (some ⟨r, 0, none⟩), .string key, .string val] w fun e w' => e = .returned (.tuple #[.string (valL key lb), .bool (foundL key lb)]) ∧ Below C w w' ∧ DuoS w' Ba Br t r m la (putL key val lb) := by
  obtain ⟨Z, v, h⟩ := h
  refine (rput_any w Br r m v lb key val h.rt hs hl).mono ?_
  rintro e w' ⟨rfl, ho, v', hr, hv⟩
  exact ⟨rfl, h.belowR ho hC, Z, v', h.right ho hr hv⟩
theorem duo_delA {w : World} {Ba Br t r m : Nat} {la lb : List It} (h : DuoS w Ba Br t r m la lb) (key : ByteArray) (hm : 4 ≤ m) (hm2 : m ≤ 64) (hl : la.length ≤ 4000000000) (C : Nat) (hC : C ≤ Ba) :
    Calls Try.prog 17 #[.pointer (some ⟨t, 0, none⟩), .string key] w fun e w' => e = .returned (.tuple #[.string (valL key la), .bool (foundL key la)]) ∧ Below C w w' ∧ DuoS w' Ba Br t r m (delL key la) lb := by
  obtain ⟨Z, v, h⟩ := h
  refine (del_z w Ba Z t m key la h.tz hm hm2 hl).mono ?_
  rintro e w' ⟨rfl, ho, Z', hz, hzz⟩
  exact ⟨rfl, h.tz.below ho hC, Z', v, h.left ho hz hzz⟩
theorem duo_delB {w : World} {Ba Br t r m : Nat} {la lb : List It} (h : DuoS w Ba Br t r m la lb) (key : ByteArray) (hs : Srt lb) (hl : lb.length ≤ 4000000000) (C : Nat) (hC : C ≤ Br) :
    Calls Try.prog 27 #[.pointer (some ⟨r, 0, none⟩), .string key] w fun e w' => e = .returned (.tuple #[.string (valL key lb), .bool (foundL key lb)]) ∧ Below C w w' ∧ DuoS w' Ba Br t r m la (delL key lb) := by
  obtain ⟨Z, v, h⟩ := h
  cases hf : foundL key lb with
  | true =>
    refine (rdel_old w Br r m v lb key h.rt hs hl hf).mono ?_
    rintro e w' ⟨rfl, ho, v', hr, hv⟩
    refine ⟨rfl, h.belowR ho hC, Z, v', ?_⟩
    unfold delL
    rw [hf]
    exact h.right ho hr fun k hk => Or.inl (hv ▸ hk)
  | false =>
    refine (rdel_none w Br r m v lb key h.rt hs hl hf).mono ?_
    rintro e w' ⟨rfl, hw⟩
    subst hw
    refine ⟨by unfold valL; rw [hf]; rfl, Below.refl _ _, Z, v, ?_⟩
    unfold delL
    rw [hf]
    exact h
theorem DuoS.later {w w' : World} {Ba Br t r m : Nat} {la lb : List It} (h : DuoS w Ba Br t r m la lb) (hb : Below w.heap.size w w') : DuoS w' Ba Br t r m la lb := by
  obtain ⟨Z, v, h⟩ := h
  exact ⟨Z, v, h.later hb⟩
theorem DuoS.srt {w : World} {Ba Br t r m : Nat} {la lb : List It} (h : DuoS w Ba Br t r m la lb) : Srt la := by
  obtain ⟨Z, v, h⟩ := h
  exact h.srt
theorem mem_delL {key : ByteArray} {l : List It} (hs : Srt l) {x : It} (h : x ∈ delL key l) : x ∈ l ∧ x.key ≠ key := by
  unfold delL at h
  cases hf : foundL key l with
  | false =>
    rw [hf] at h
    exact ⟨h, fun e => by rw [(found_iff hs).2 ⟨x, h, e⟩] at hf; cases hf⟩
  | true =>
    rw [hf, if_pos rfl] at h
    refine ⟨(cutL_sub key l).subset h, ?_⟩
    have hlt := found_lt hf
    have hke : (l[cntL key l]).key = key := by
      rw [foundL_at hlt] at hf
      exact of_decide_eq_true hf
    unfold cutL at h
    rcases List.mem_append.1 h with h | h
    · exact kl_ne ((cntL_cut hs).1 x h)
    · obtain ⟨i, hi, rfl⟩ := List.getElem_of_mem h
      rw [List.length_drop] at hi
      rw [List.getElem_drop]
      have := List.pairwise_iff_getElem.1 hs (cntL key l) (cntL key l + 1 + i) hlt (by omega) (by omega)
      rw [hke] at this
      exact fun e => kl_ne this e.symm
/-- The index that is meant. -/
def idx7 (c : Int) (n j : Nat) : Nat := (((j : Int) + c) % (n : Int)).toNat
theorem idx7_lt (c : Int) {n : Nat} (hn : 0 < n) (j : Nat) : idx7 c n j < n := by
  unfold idx7
  have h1 := Int.emod_nonneg ((j : Int) + c) (b := (n : Int)) (by omega)
  have h2 := Int.emod_lt_of_pos ((j : Int) + c) (b := (n : Int)) (by omega)
  omega
theorem idx7_all (c : Int) {n q : Nat} (hq : q < n) : ∃ j, j < n ∧ idx7 c n j = q := by
  have h1 := Int.emod_nonneg ((q : Int) - c) (b := (n : Int)) (by omega)
  have h2 := Int.emod_lt_of_pos ((q : Int) - c) (b := (n : Int)) (by omega)
  refine ⟨(((q : Int) - c) % (n : Int)).toNat, by omega, ?_⟩
  unfold idx7
  have e : (((((q : Int) - c) % (n : Int)).toNat : Nat) : Int) = ((q : Int) - c) % (n : Int) := by omega
  rw [e, Int.emod_add_emod, show (q : Int) - c + c = (q : Int) by omega, Int.emod_eq_of_lt (by omega) (by omega)]
  rfl
theorem tmod_emod (a : Int) {n : Nat} (hn : 0 < n) : (a.tmod n < 0 → a.tmod n + n = a % n) ∧ (¬ a.tmod n < 0 → a.tmod n = a % n) := by
  have h1 : a = n * a.tdiv n + a.tmod n := (Int.mul_tdiv_add_tmod a n).symm
  have h3 := Int.tmod_lt_of_pos a (b := (n : Int)) (by omega)
  have h4 : -(n : Int) < a.tmod n := Int.lt_tmod_of_pos a (by omega)
  constructor
  · intro h
    have e : a % n = (a.tmod n + n) % n := by
      conv => lhs; rw [h1]
      rw [Int.add_comm, Int.add_mul_emod_self_left, Int.add_emod_right]
    rw [e, Int.emod_eq_of_lt (by omega) (by omega)]
  · intro h
    have e : a % n = (a.tmod n) % n := by
      conv => lhs; rw [h1]
      rw [Int.add_comm, Int.add_mul_emod_self_left]
    rw [e, Int.emod_eq_of_lt (by omega) (by omega)]
end Go.Proofs.Ytlpannicklkghaa
/- TreeEmpties, walked. -/
namespace Go.Proofs.Ytlpannicklkghaa
open Go.RowKit

set_option maxHeartbeats 40000000 in
set_option maxRecDepth 100000 in
theorem empties_law (o : Int) (p : Option Addr) (cap : Nat) (l : List Pr) (tu : Int) (w : World) (row : PRow w p l) (le : l.length ≤ cap) (ml : cap ≤ maxLen) :
    Calls Try.prog 8 #[.int .i64 o, .slice p l.length cap, .int .i64 tu] w fun e w' => e = .returned (.bool true) ∧ Below w.heap.size w w' := by
  have HW := weighs7_any w p none cap 0 l [] (by simp; unfold maxLen at ml; omega) row (fun i hi => absurd hi (by simp))
  have HR : Hid (PRow w p l) := row
  clear row le ml
  go_enter Try.func8, Try.ntmps8
  go_wp2_with fail
  refine HW.mono ?_
  rintro e w1 ⟨mw, rfl, hm, hb1⟩
  by_cases hbig : ¬ mw ≤ 536870911
  · have hbi : (536870911 : Int) < (mw : Int) := by omega
    go_wp2
    go_ret
    exact ⟨rfl, hb1⟩
  have hbi : ¬ (536870911 : Int) < (mw : Int) := by omega
  obtain ⟨hlen, hsm, _⟩ := hm (by omega)
  have hll : l.length ≤ 536870911 := by simp at hlen; omega
  have HS : Hid (∀ x ∈ l, Sm7 x) := fun x hx => hsm x hx
  have HB1 : Hid (Below w.heap.size w w1) := hb1
  clear hlen hsm hb1 HW hm
  go_wp2_with fail
  refine (awake7_any w1).mono ?_
  rintro e w2 ⟨rfl, hb2⟩
  have HB2 : Hid (Below w.heap.size w w2) := below_two HB1.out hb2
  clear hb2
  by_cases ho1 : o < 4
  · go_wp2
    go_ret
    exact ⟨rfl, HB2.out⟩
  by_cases ho2 : 64 < o
  · go_wp2
    go_ret
    exact ⟨rfl, HB2.out⟩
  obtain ⟨m, rfl⟩ : ∃ n : Nat, o = (n : Int) := ⟨o.toNat, by omega⟩
  go_wp2_with fail
  refine (newnil_z w2 m (by omega) (by omega)).mono ?_
  rintro e w3 ⟨hb3, t, rfl, ht, htz⟩
  have HB3 : Hid (Below w.heap.size w w3) := below_two HB2.out hb3
  have HS23 : Hid (w.heap.size ≤ w2.heap.size ∧ w2.heap.size ≤ w3.heap.size) := ⟨HB2.out.size, hb3.size⟩
  have HTZ : Hid (TreeZ w3 w2.heap.size (fun k => w2.heap.size ≤ k ∧ k < w3.heap.size) t m []) := htz
  have HRN : Calls Try.prog 12 #[.int .i64 (m : Int), .slice none 0 0] w3 (RNewP w3 m []) := rnew_any w3 m none 0 [] (by omega) (by omega) (fun i hi => absurd hi (by simp)) (by simp)
  clear hb3 htz ht
  go_wp2_with fail
  refine HRN.mono ?_
  rintro e w4 ⟨hb4, _, he⟩
  obtain ⟨r, vr, rfl, hrt⟩ := he rfl
  have HB4 : Hid (Below w.heap.size w w4) := below_two HB3.out hb4
  have HDU : Hid (DuoS w4 w2.heap.size w3.heap.size t r m [] []) := ⟨_, vr, HTZ.out.later hb4, hrt, fun k hk hz => by
    rcases hz with rfl | hz
    · have := hrt.le; have := hk.2; omega
    · have := (hrt.row.lt k hz).1; have := hk.2; omega⟩
  clear hb4 he hrt HRN
  go_wp2_with fail
  go_loopw [13] (fun i wr => ∃ (k : Nat) (a : List It), k ≤ l.length ∧ i = .int .i64 (k : Int) ∧ a.length ≤ k ∧ (∀ x ∈ a, x.kid = none ∧ ∃ q ∈ l, q.1 = x.key) ∧ DuoS wr w2.heap.size w3.heap.size t r m a a ∧ Below w.heap.size w wr) (fun i _ => l.length - (intOf i).toNat)
  case atStart => exact ⟨0, [], Nat.zero_le _, rfl, Nat.le_refl _, fun x hx => by simp at hx, HDU.out, HB4.out⟩
  case round =>
    obtain ⟨k, a, hk, rfl, hak, hks, hdu, hb⟩ := hrel
    have HKS : Hid (∀ x ∈ a, x.kid = none ∧ ∃ q ∈ l, q.1 = x.key) := hks
    have HD : Hid (DuoS wr w2.heap.size w3.heap.size t r m a a) := hdu
    have HB : Hid (Below w.heap.size w wr) := hb
    clear hks hdu hb HDU HB4 HB3 HB2 HB1
    by_cases hlt : k < l.length
    · have hlti : (k : Int) < (l.length : Int) := by omega
      obtain ⟨g, off, hpe, hcl⟩ := (HR.out.later HB.out) k hlt
      subst hpe
      clear hcl
      obtain ⟨x, hx⟩ : ∃ x, l[k] = x := ⟨_, rfl⟩
      have hxs : Sm7 x := HS.out x (by rw [← hx]; exact List.getElem_mem hlt)
      have hxl : x ∈ l := by rw [← hx]; exact List.getElem_mem hlt
      have HRX : Hid (∀ W, Below w.heap.size w W → W.cell? ⟨g, off + k * 2, none⟩ = some (.string x.1) ∧ W.cell? ⟨g, off + k * 2 + 1, none⟩ = some (.string x.2)) := fun W hW => by
        obtain ⟨g', off', e', f0, f1⟩ := (HR.out.later hW) k hlt
        simp only [Option.some.injEq, Addr.mk.injEq, and_true] at e'
        obtain ⟨rfl, rfl⟩ := e'
        rw [hx] at f0 f1
        exact ⟨f0, f1⟩
      have HPA : Hid (∀ W, Below wr.heap.size wr W → Calls Try.prog 18 #[.pointer (some ⟨t, 0, none⟩), .string x.1, .string x.2] W fun e w' => (∃ u v, e = .returned (.tuple #[u, v])) ∧ Below w.heap.size w w' ∧ DuoS w' w2.heap.size w3.heap.size t r m (putL x.1 x.2 a) a) := fun W hW => by
        refine (duo_putA (HD.out.later hW) x.1 x.2 (by omega) (by omega) (by omega) (by have := hxs.1; omega) (by have := hxs.2; omega) w.heap.size HS23.out.1).mono ?_
        rintro e w' ⟨rfl, h2, h3⟩
        exact ⟨⟨_, _, rfl⟩, (below_two HB.out hW).trans h2, h3⟩
      have HPB : Hid (∀ W, Below w.heap.size w W → DuoS W w2.heap.size w3.heap.size t r m (putL x.1 x.2 a) a → Calls Try.prog 26 #[.pointer (some ⟨r, 0, none⟩), .string x.1, .string x.2] W fun e w' => (∃ u v, e = .returned (.tuple #[u, v])) ∧ Below w.heap.size w w' ∧ DuoS w' w2.heap.size w3.heap.size t r m (putL x.1 x.2 a) (putL x.1 x.2 a)) := fun W hW hd => by
        refine (duo_putB hd x.1 x.2 HD.out.srt (by omega) w.heap.size (by have := HS23.out; omega)).mono ?_
        rintro e w' ⟨rfl, h2, h3⟩
        exact ⟨⟨_, _, rfl⟩, hW.trans h2, h3⟩
      have HNX : Hid ((putL x.1 x.2 a).length ≤ k + 1 ∧ ∀ z ∈ putL x.1 x.2 a, z.kid = none ∧ ∃ q ∈ l, q.1 = z.key) := by
        have hpl := putL_length (key := x.1) (val := x.2) (l := a)
        refine ⟨by omega, fun z hz => ?_⟩
        rcases (mem_putL HD.out.srt (fun y hy => (HKS.out y hy).1) z).1 hz with rfl | ⟨h1, _⟩
        · exact ⟨rfl, x, hxl, rfl⟩
        · exact HKS.out z h1
      obtain ⟨d0, d1⟩ := HRX.out wr HB.out
      clear hx hxs hxl
      go_wp2_with fail
      go_region_law (go_simp; go_at_call 18; refine (HPA.out _ (by first | exact Below.refl _ _ | exact (Below.refl _ _).drew | exact below_drewN (Below.refl _ _) _)).mono ?_; rintro e w6 ⟨⟨u, v, rfl⟩, hb6, hdu6⟩)
      all_goals
        have HBW6 : Hid (Below w.heap.size w w6) := hb6
        have HD6 : Hid (DuoS w6 w2.heap.size w3.heap.size t r m (putL x.1 x.2 a) a) := hdu6
        clear hb6 hdu6 d0 d1
        obtain ⟨f0, f1⟩ := HRX.out w6 HBW6.out
        go_wp2_with fail
        go_region_law (go_simp; go_at_call 26; refine (HPB.out _ (by first | exact HBW6.out | exact HBW6.out.drew | exact below_drewN HBW6.out _) (HD6.out.later (by first | exact Below.refl _ _ | exact (Below.refl _ _).drew | exact below_drewN (Below.refl _ _) _))).mono ?_; rintro e w7 ⟨⟨u', v', rfl⟩, hb7, hdu7⟩)
        all_goals
          go_wp2
          exact ⟨⟨k + 1, putL x.1 x.2 a, hlt, by go_num, HNX.out.1, HNX.out.2, hdu7, hb7⟩, by simp only [intOf]; omega⟩
    · have hlti : ¬ (k : Int) < (l.length : Int) := by omega
      obtain rfl : k = l.length := by omega
      obtain ⟨C, hC⟩ : ∃ C : Int, tu.tmod ((l.length : Int) + 1) = C := ⟨_, rfl⟩
      have HC : Hid (tu.tmod ((l.length : Int) + 1) = C) := hC
      have hC1 : C ≤ (l.length : Int) := by rw [← hC]; have := Int.tmod_lt_of_pos tu (b := (l.length : Int) + 1) (by omega); omega
      have hC2 : -(l.length : Int) ≤ C := by rw [← hC]; have := Int.lt_tmod_of_pos tu (b := (l.length : Int) + 1) (by omega); omega
      clear hC
      go_wp2_with fail
      go_loopw [14] (fun i wr => ∃ (k : Nat) (a : List It), k ≤ l.length ∧ i = .int .i64 (k : Int) ∧ a.length ≤ l.length ∧ (∀ x ∈ a, ∃ q ∈ l, q.1 = x.key) ∧ (∀ j, j < k → ∀ x ∈ a, ∀ h : idx7 C l.length j < l.length, x.key ≠ (l[idx7 C l.length j]).1) ∧ DuoS wr w2.heap.size w3.heap.size t r m a a ∧ Below w.heap.size w wr) (fun i _ => l.length - (intOf i).toNat)
      case atStart => exact ⟨0, a, Nat.zero_le _, rfl, hak, fun x hx => (HKS.out x hx).2, fun j hj => absurd hj (Nat.not_lt_zero _), HD.out, HB.out⟩
      case round =>
        clear HKS HD HB hak
        obtain ⟨k, a, hk, rfl, hal, hks, hab, hdu, hb⟩ := hrel
        have HKS : Hid (∀ x ∈ a, ∃ q ∈ l, q.1 = x.key) := hks
        have HAB : Hid (∀ j, j < k → ∀ x ∈ a, ∀ h : idx7 C l.length j < l.length, x.key ≠ (l[idx7 C l.length j]).1) := hab
        have HD : Hid (DuoS wr w2.heap.size w3.heap.size t r m a a) := hdu
        have HB : Hid (Below w.heap.size w wr) := hb
        clear hks hab hdu hb
        by_cases hlt : k < l.length
        · have hlti : (k : Int) < (l.length : Int) := by omega
          have hn0 : 0 < l.length := by omega
          have fC := HC.out
          have fW : wrap64 ((k : Int) + C) = (k : Int) + C := by unfold wrap64; omega
          obtain ⟨R, fR⟩ : ∃ R, ((k : Int) + C).tmod (l.length : Int) = R := ⟨_, rfl⟩
          obtain ⟨q, hq⟩ : ∃ q, idx7 C l.length k = q := ⟨_, rfl⟩
          have hql : q < l.length := by rw [← hq]; exact idx7_lt C hn0 k
          have hqe : ((k : Int) + C) % (l.length : Int) = (q : Int) := by
            have h1 := Int.emod_nonneg ((k : Int) + C) (b := (l.length : Int)) (by omega)
            rw [← hq]
            unfold idx7
            omega
          have hRe := tmod_emod ((k : Int) + C) hn0
          rw [fR, hqe] at hRe
          have HQ : Hid (idx7 C l.length k = q) := hq
          have hqli : (q : Int) < (l.length : Int) := by omega
          have hn1 : ¬ (l.length : Int) = 0 := by omega
          have hn2 : ¬ (l.length : Int) + 1 = 0 := by omega
          obtain ⟨g, off, hpe, hcl⟩ := (HR.out.later HB.out) q hql
          subst hpe
          clear hcl
          obtain ⟨x, hx⟩ : ∃ x, l[q] = x := ⟨_, rfl⟩
          have HRX : Hid (∀ W, Below w.heap.size w W → W.cell? ⟨g, off + q * 2, none⟩ = some (.string x.1)) := fun W hW => by
            obtain ⟨g', off', e', f0, f1⟩ := (HR.out.later hW) q hql
            simp only [Option.some.injEq, Addr.mk.injEq, and_true] at e'
            obtain ⟨rfl, rfl⟩ := e'
            rw [hx] at f0
            exact f0
          have HDA : Hid (Calls Try.prog 17 #[.pointer (some ⟨t, 0, none⟩), .string x.1] wr fun e w' => e = .returned (.tuple #[.string (valL x.1 a), .bool (foundL x.1 a)]) ∧ Below w.heap.size wr w' ∧ DuoS w' w2.heap.size w3.heap.size t r m (delL x.1 a) a) := duo_delA HD.out x.1 (by omega) (by omega) (by omega) w.heap.size HS23.out.1
          have HDB : Hid (∀ W, DuoS W w2.heap.size w3.heap.size t r m (delL x.1 a) a → Calls Try.prog 27 #[.pointer (some ⟨r, 0, none⟩), .string x.1] W fun e w' => e = .returned (.tuple #[.string (valL x.1 a), .bool (foundL x.1 a)]) ∧ Below w.heap.size W w' ∧ DuoS w' w2.heap.size w3.heap.size t r m (delL x.1 a) (delL x.1 a)) := fun W hd => duo_delB hd x.1 HD.out.srt (by omega) w.heap.size (by have := HS23.out; omega)
          have HNX : Hid ((delL x.1 a).length ≤ l.length ∧ (∀ z ∈ delL x.1 a, ∃ q ∈ l, q.1 = z.key) ∧ ∀ j, j < k + 1 → ∀ z ∈ delL x.1 a, ∀ h : idx7 C l.length j < l.length, z.key ≠ (l[idx7 C l.length j]).1) := by
            have h1 := delL_length (key := x.1) (l := a)
            refine ⟨by omega, fun z hz => HKS.out z (mem_delL HD.out.srt hz).1, fun j hj z hz h => ?_⟩
            by_cases e : j = k
            · subst e
              have h2 : (l[idx7 C l.length j]'h).1 = x.1 := by
                rw [← hx]
                congr 1
                simp only [hq]
              rw [h2]
              exact (mem_delL HD.out.srt hz).2
            · exact HAB.out j (by omega) z (mem_delL HD.out.srt hz).1 h
          obtain ⟨vv, hvv⟩ : ∃ vv, valL x.1 a = vv := ⟨_, rfl⟩
          obtain ⟨ff, hff⟩ : ∃ ff, foundL x.1 a = ff := ⟨_, rfl⟩
          rw [hvv, hff] at HDA HDB
          have d0 := HRX.out wr HB.out
          clear hx hq hqe hvv hff
          by_cases hneg : R < 0
          · have fN : wrap64 (R + (l.length : Int)) = (q : Int) := by have := hRe.1 hneg; unfold wrap64; omega
            clear hRe
            go_wp2_with fail
            refine HDA.out.mono ?_
            rintro e w6 ⟨rfl, hb6, hd6⟩
            have HB6 : Hid (Below w.heap.size w w6) := HB.out.trans hb6
            have HD6 : Hid (DuoS w6 w2.heap.size w3.heap.size t r m (delL x.1 a) a) := hd6
            have f0 := HRX.out w6 HB6.out
            clear hb6 hd6 d0
            go_wp2_with fail
            refine (HDB.out w6 HD6.out).mono ?_
            rintro e w7 ⟨rfl, hb7, hd7⟩
            have HB7 : Hid (Below w.heap.size w w7) := HB6.out.trans hb7
            have HD7 : Hid (DuoS w7 w2.heap.size w3.heap.size t r m (delL x.1 a) (delL x.1 a)) := hd7
            clear hb7 hd7 f0
            go_wp2
            first | exact ⟨⟨k + 1, delL x.1 a, hlt, by go_num, HNX.out.1, HNX.out.2.1, HNX.out.2.2, HD7.out, HB7.out⟩, by simp only [intOf]; omega⟩ | (go_roundw; all_goals first | exact ⟨k + 1, delL x.1 a, hlt, by go_num, HNX.out.1, HNX.out.2.1, HNX.out.2.2, HD7.out, HB7.out⟩ | (simp [intOf]; omega))
          · have fN : R = (q : Int) := hRe.2 hneg
            clear hRe
            subst fN
            go_wp2_with fail
            refine HDA.out.mono ?_
            rintro e w6 ⟨rfl, hb6, hd6⟩
            have HB6 : Hid (Below w.heap.size w w6) := HB.out.trans hb6
            have HD6 : Hid (DuoS w6 w2.heap.size w3.heap.size t r m (delL x.1 a) a) := hd6
            have f0 := HRX.out w6 HB6.out
            clear hb6 hd6 d0
            go_wp2_with fail
            refine (HDB.out w6 HD6.out).mono ?_
            rintro e w7 ⟨rfl, hb7, hd7⟩
            have HB7 : Hid (Below w.heap.size w w7) := HB6.out.trans hb7
            have HD7 : Hid (DuoS w7 w2.heap.size w3.heap.size t r m (delL x.1 a) (delL x.1 a)) := hd7
            clear hb7 hd7 f0
            go_wp2
            first | exact ⟨⟨k + 1, delL x.1 a, hlt, by go_num, HNX.out.1, HNX.out.2.1, HNX.out.2.2, HD7.out, HB7.out⟩, by simp only [intOf]; omega⟩ | (go_roundw; all_goals first | exact ⟨k + 1, delL x.1 a, hlt, by go_num, HNX.out.1, HNX.out.2.1, HNX.out.2.2, HD7.out, HB7.out⟩ | (simp [intOf]; omega))
        · have hlti : ¬ (k : Int) < (l.length : Int) := by omega
          obtain rfl : k = l.length := by omega
          have ha : a = [] := by
            refine List.eq_nil_iff_forall_not_mem.2 fun x hx => ?_
            obtain ⟨y, hy, hyk⟩ := HKS.out x hx
            obtain ⟨q, hq, rfl⟩ := List.getElem_of_mem hy
            obtain ⟨j, hj, hji⟩ := idx7_all C hq
            have hjl : idx7 C l.length j < l.length := by rw [hji]; exact hq
            have h2 : (l[idx7 C l.length j]'hjl).1 = (l[q]).1 := by congr 1; simp only [hji]
            exact HAB.out j hj x hx hjl (by rw [h2, hyk])
          subst ha
          obtain ⟨Z, v, hd⟩ := HD.out
          have HZ : Hid (TreeZ wr w2.heap.size Z t m []) := hd.tz
          clear hd
          go_wp2_with fail
          refine (len_z wr _ Z t m [] HZ.out).mono ?_
          rintro e w7 ⟨rfl, hw7⟩
          subst hw7
          go_wp2_with fail
          refine (list_z w7 _ Z t m ⟨#[]⟩ ⟨#[]⟩ ((l.length : Int) + 1) [] HZ.out (by omega) (by omega) (by simp) (fun y hy => by simp at hy)).mono ?_
          rintro e w8 ⟨hb8, v8, rfl, hrow8⟩
          have he0 : listL ⟨#[]⟩ ⟨#[]⟩ ((l.length : Int) + 1) [] = [] := by simp [listL, tellL]
          rw [he0] at hrow8
          obtain ⟨p8, c8, rfl, _⟩ := prow_form hrow8
          have HB8 : Hid (Below w.heap.size w w8) := below_two HB.out hb8
          have HZ8 : Hid (TreeZ w8 w2.heap.size Z t m []) := HZ.out.later hb8
          clear hb8 hrow8 he0
          go_wp2_with fail
          refine (levels_z w8 _ Z t m [] HZ8.out (by omega) (by omega) (by simp)).mono ?_
          rintro e w9 ⟨v9, vs9, ws9, rfl, hlv, hsh, hlo, _, _⟩
          have hone : ws9.length = 1 := by
            have h1 := hsh.ne
            rcases Nat.lt_or_ge 1 ws9.length with h2 | h2
            · have h3 := hlo.all h2
              have h4 : 0 < (m / 2) ^ (ws9.length - 1) := Nat.pow_pos (by omega)
              simp at h3
              omega
            · omega
          obtain ⟨g9, c9, rfl, _⟩ := hlv.read hsh.ne
          rw [hone]
          have HB9 : Hid (Below w.heap.size w w9) := below_two HB8.out hlv.bel
          clear hlv hsh hlo hone
          dsimp only
          go_wp2
          go_ret
          exact ⟨rfl, HB9.out⟩
end Go.Proofs.Ytlpannicklkghaa
