/- Walks of layer 8: what lies in memory. -/
import Derived.Test.YtkgkkcefnonejaaGreatChecked
import Derived.Test.YtkgkkcefnonejaaGreatM100
import Derived.Test.YtkgkkcefnonejaaGreatSh
import Derived.WalkKit
import Derived.WalkSpells
import Derived.WalkLawsBesides
import Derived.Lib.Hide
import Derived.Deep.RegionHeld3
import Derived.Deep.Light
import Derived.Deep.RegionLaw
import Derived.Deep.AppendLies
import Derived.Deep.QuietTactic
import Derived.BigQuiet
import Derived.Laws.OwnMore
import Derived.Laws.CopyOwn
import Derived.Lib.AppendStr
import Derived.OneCell
import Derived.Maps.OwnSet
import Derived.Maps.OwnOps
import Derived.Laws.EntriesVeiled
namespace Go.Proofs.YtkgkkcefnonejaaGreat
open Go.RowKit

theorem ret_bool {a b : Bool} (h : a = b) : Ending.returned (.bool a) = .returned (.bool b) := by rw [h]
theorem ret_int {k : IntKind} {a b : Int} (h : a = b) : Ending.returned (.int k a) = .returned (.int k b) := by rw [h]
theorem cell_at {w w' : World} {x o : Nat} {v : Value} (h : w'.heap[x]? = w.heap[x]?) (hc : w.cell? ⟨x, o, none⟩ = some v) : w'.cell? ⟨x, o, none⟩ = some v := (World.cell?_of_block (a := ⟨x, o, none⟩) h).trans hc
theorem below_two {a b c : World} (h : Below a.heap.size a b) (k : Below b.heap.size b c) : Below a.heap.size a c := h.trans (k.mono h.size)
theorem below_drewN {B : Nat} {a w : World} (h : Below B a w) (n : Nat) : Below B a (w.drewN n) := ⟨h.os, h.tape, h.output, h.size, h.block⟩
theorem below_on {B : Nat} {a b c : World} (h : Below B a b) (k : Below b.heap.size b c) (hB : B ≤ b.heap.size) : Below B a c := h.trans (k.mono hB)
theorem bcell {W w1 : World} (hb : Below W.heap.size W w1) : (∀ b o, b < W.heap.size → w1.cell? ⟨b, o, none⟩ = W.cell? ⟨b, o, none⟩) ∧ (∀ b o, b < W.heap.size → w1.frozen? ⟨b, o, none⟩ = W.frozen? ⟨b, o, none⟩) :=
  ⟨fun b o h => hb.cell (p := ⟨b, o, none⟩) h, fun b o h => hb.frozen (p := ⟨b, o, none⟩) h⟩
theorem cell_lt {w : World} {b o : Nat} {v : Value} (h : w.cell? ⟨b, o, none⟩ = some v) : b < w.heap.size := World.block_lt_of_cell? _ _ h
/-- A text against another one, as a walk asks it. -/
theorem str_eq (s t : ByteArray) : (s.toList == t.toList) = decide (bs s = bs t) := by
  rw [ByteArray.toList_eq, ByteArray.toList_eq, Bool.eq_iff_iff]
  simp [bs]

/-! ### what may turn -/
/-- Of what was there nothing has turned but what lies in the zone Z. -/
structure Only (Z : Nat → Prop) (w w' : World) : Prop where
  os : w'.os = w.os
  tape : w'.tape = w.tape
  output : w'.output = w.output
  size : w.heap.size ≤ w'.heap.size
  block : ∀ k, k < w.heap.size → ¬ Z k → w'.heap[k]? = w.heap[k]?
theorem Only.refl (Z : Nat → Prop) (w : World) : Only Z w w := ⟨rfl, rfl, rfl, Nat.le_refl _, fun _ _ _ => rfl⟩
theorem Only.trans {Z : Nat → Prop} {a b c : World} (h : Only Z a b) (k : Only Z b c) : Only Z a c :=
  ⟨k.os.trans h.os, k.tape.trans h.tape, k.output.trans h.output, Nat.le_trans h.size k.size, fun i hi hz => (k.block i (Nat.lt_of_lt_of_le hi h.size) hz).trans (h.block i hi hz)⟩
theorem Only.of {Z : Nat → Prop} {w w' : World} (h : Below w.heap.size w w') : Only Z w w' := ⟨h.os, h.tape, h.output, h.size, fun k hk _ => h.block k hk⟩
theorem Only.later {Z : Nat → Prop} {a b c : World} (h : Only Z a b) (k : Below b.heap.size b c) : Only Z a c := h.trans (Only.of k)
theorem Only.below {Z : Nat → Prop} {w w' : World} (h : Only Z w w') {B : Nat} (hB : B ≤ w.heap.size) (hZ : ∀ k, k < B → ¬ Z k) : Below B w w' := ⟨h.os, h.tape, h.output, h.size, fun k hk => h.block k (by omega) (hZ k hk)⟩
theorem Only.alloc {Z : Nat → Prop} {a w : World} (h : Only Z a w) (o : Obj) : Only Z a (w.alloc o) := h.later ((Below.refl _ _).alloc (Nat.le_refl _) _)
theorem Only.drew {Z : Nat → Prop} {a w : World} (h : Only Z a w) : Only Z a w.drew := h.later (Below.refl _ _).drew
theorem Only.grown {Z : Nat → Prop} {a w w' : World} {row : Option Nat} (h : Only Z a w) (hg : w.grownBy w' row) (hr : ∀ k, row = some k → Z k) : Only Z a w' :=
  h.trans ⟨hg.os, hg.tape, hg.output, hg.size, fun k hk hz => hg.block k hk (fun e => hz (hr k e.symm))⟩
theorem Only.setCell {Z : Nat → Prop} {a w : World} (h : Only Z a w) {p : Addr} (hp : Z p.block) (u : Value) : Only Z a (w.setCell p u) :=
  h.trans ⟨rfl, rfl, rfl, by simp [World.setCell], fun k _ hz => Below.heap_setCell _ _ _ _ (fun e => hz (by rw [e]; exact hp))⟩
theorem Only.mono {Z Z' : Nat → Prop} {w w' : World} (h : Only Z w w') (hz : ∀ k, Z k → Z' k) : Only Z' w w' := ⟨h.os, h.tape, h.output, h.size, fun k hk g => h.block k hk (fun e => g (hz k e))⟩

/-! ### rows as they are read -/
/-- A row of things: each lies in n cells, which read as it. -/
def RowR {α : Type} (n : Nat) (R : α → List Value → Prop) (w : World) (a : Option Addr) (l : List α) : Prop :=
  ∀ i (h : i < l.length), ∃ b off vs, a = some ⟨b, off, none⟩ ∧ R l[i] vs ∧ vs.length = n ∧ ∀ j (hj : j < vs.length), w.cell? ⟨b, off + i * n + j, none⟩ = some vs[j]
theorem RowR.later {α : Type} {n : Nat} {R R' : α → List Value → Prop} {w w' : World} {a : Option Addr} {l : List α} (h : RowR n R w a l) (hb : Below w.heap.size w w') (hR : ∀ x vs, R x vs → R' x vs) : RowR n R' w' a l := by
  intro i hi
  obtain ⟨b, off, vs, e, h1, h2, h3⟩ := h i hi
  exact ⟨b, off, vs, e, hR _ _ h1, h2, fun j hj => cell_later hb (h3 j hj)⟩
theorem RowR.nil {α : Type} {n : Nat} {R : α → List Value → Prop} {w : World} {a : Option Addr} : RowR n R w a [] := fun _ h => absurd h (Nat.not_lt_zero _)

def IntR (n : Int) (vs : List Value) : Prop := vs = [.int .i64 n]
def StrR (s : ByteArray) (vs : List Value) : Prop := vs = [.string s]
def ColR (c : Col) (vs : List Value) : Prop := vs = [.string c.nm, .int .i64 c.ty, .bool c.nn]
def PmR (p : Pm) (vs : List Value) : Prop := vs = [.string p.nm, .int .i64 p.ty]
def IxR (w : World) (x : Ix) (vs : List Value) : Prop := ∃ p cap, vs = [.string x.nm, .slice p x.cols.length cap, .bool x.un] ∧ RowR 1 IntR w p x.cols
def TbR (w : World) (t : Tb) (vs : List Value) : Prop := ∃ pc cc pk ck px cx, vs = [.string t.nm, .slice pc t.cols.length cc, .slice pk t.key.length ck, .int .i64 t.part, .slice px t.ixs.length cx] ∧
  RowR 3 ColR w pc t.cols ∧ RowR 1 IntR w pk t.key ∧ RowR 3 (IxR w) w px t.ixs
def PcR (w : World) (p : Pc) (vs : List Value) : Prop := ∃ pp cp pb cb, vs = [.string p.nm, .slice pp p.prms.length cp, .slice pb p.body.length cb, .int .i64 p.rows, .int .i64 p.bytes] ∧
  RowR 2 PmR w pp p.prms ∧ RowR 1 StrR w pb p.body
def CtR (w : World) (c : Ct) (vs : List Value) : Prop := ∃ pt ct pp cp, vs = [.slice pt c.tbs.length ct, .slice pp c.prs.length cp] ∧ RowR 5 (TbR w) w pt c.tbs ∧ RowR 5 (PcR w) w pp c.prs
theorem IxR.later {w w' : World} (hb : Below w.heap.size w w') (x : Ix) (vs : List Value) (h : IxR w x vs) : IxR w' x vs := by
  obtain ⟨p, cap, e, h1⟩ := h
  exact ⟨p, cap, e, h1.later hb fun _ _ h => h⟩
theorem TbR.later {w w' : World} (hb : Below w.heap.size w w') (t : Tb) (vs : List Value) (h : TbR w t vs) : TbR w' t vs := by
  obtain ⟨pc, cc, pk, ck, px, cx, e, h1, h2, h3⟩ := h
  exact ⟨pc, cc, pk, ck, px, cx, e, h1.later hb fun _ _ h => h, h2.later hb fun _ _ h => h, h3.later hb (IxR.later hb)⟩
theorem PcR.later {w w' : World} (hb : Below w.heap.size w w') (p : Pc) (vs : List Value) (h : PcR w p vs) : PcR w' p vs := by
  obtain ⟨pp, cp, pb, cb, e, h1, h2⟩ := h
  exact ⟨pp, cp, pb, cb, e, h1.later hb fun _ _ h => h, h2.later hb fun _ _ h => h⟩
theorem CtR.later {w w' : World} (hb : Below w.heap.size w w') (c : Ct) (vs : List Value) (h : CtR w c vs) : CtR w' c vs := by
  obtain ⟨pt, ct, pp, cp, e, h1, h2⟩ := h
  exact ⟨pt, ct, pp, cp, e, h1.later hb (TbR.later hb), h2.later hb (PcR.later hb)⟩
/-! what a walk reads of one -/
theorem RowR.at1 {α : Type} {R : α → List Value → Prop} {w : World} {a : Option Addr} {l : List α} (h : RowR 1 R w a l) {i : Nat} (hi : i < l.length) : ∃ b off v0, a = some ⟨b, off, none⟩ ∧ R l[i] [v0] ∧ w.cell? ⟨b, off + i, none⟩ = some v0 := by
  obtain ⟨b, off, vs, e, h1, h2, h3⟩ := h i hi
  match vs, h2 with
  | [v0], _ =>
    have g0 := h3 0 (by simp)
    simp only [Nat.mul_one, Nat.add_zero, List.getElem_cons_zero] at g0
    exact ⟨b, off, v0, e, h1, g0⟩
theorem RowR.at2 {α : Type} {R : α → List Value → Prop} {w : World} {a : Option Addr} {l : List α} (h : RowR 2 R w a l) {i : Nat} (hi : i < l.length) : ∃ b off v0 v1, a = some ⟨b, off, none⟩ ∧ R l[i] [v0, v1] ∧ w.cell? ⟨b, off + i * 2, none⟩ = some v0 ∧ w.cell? ⟨b, off + i * 2 + 1, none⟩ = some v1 := by
  obtain ⟨b, off, vs, e, h1, h2, h3⟩ := h i hi
  match vs, h2 with
  | [v0, v1], _ => exact ⟨b, off, v0, v1, e, h1, h3 0 (by simp), h3 1 (by simp)⟩
theorem RowR.at3 {α : Type} {R : α → List Value → Prop} {w : World} {a : Option Addr} {l : List α} (h : RowR 3 R w a l) {i : Nat} (hi : i < l.length) : ∃ b off v0 v1 v2, a = some ⟨b, off, none⟩ ∧ R l[i] [v0, v1, v2] ∧ w.cell? ⟨b, off + i * 3, none⟩ = some v0 ∧ w.cell? ⟨b, off + i * 3 + 1, none⟩ = some v1 ∧ w.cell? ⟨b, off + i * 3 + 2, none⟩ = some v2 := by
  obtain ⟨b, off, vs, e, h1, h2, h3⟩ := h i hi
  match vs, h2 with
  | [v0, v1, v2], _ => exact ⟨b, off, v0, v1, v2, e, h1, h3 0 (by simp), h3 1 (by simp), h3 2 (by simp)⟩
theorem RowR.at5 {α : Type} {R : α → List Value → Prop} {w : World} {a : Option Addr} {l : List α} (h : RowR 5 R w a l) {i : Nat} (hi : i < l.length) : ∃ b off v0 v1 v2 v3 v4, a = some ⟨b, off, none⟩ ∧ R l[i] [v0, v1, v2, v3, v4] ∧ w.cell? ⟨b, off + i * 5, none⟩ = some v0 ∧ w.cell? ⟨b, off + i * 5 + 1, none⟩ = some v1 ∧ w.cell? ⟨b, off + i * 5 + 2, none⟩ = some v2 ∧ w.cell? ⟨b, off + i * 5 + 3, none⟩ = some v3 ∧ w.cell? ⟨b, off + i * 5 + 4, none⟩ = some v4 := by
  obtain ⟨b, off, vs, e, h1, h2, h3⟩ := h i hi
  match vs, h2 with
  | [v0, v1, v2, v3, v4], _ => exact ⟨b, off, v0, v1, v2, v3, v4, e, h1, h3 0 (by simp), h3 1 (by simp), h3 2 (by simp), h3 3 (by simp), h3 4 (by simp)⟩
end Go.Proofs.YtkgkkcefnonejaaGreat
