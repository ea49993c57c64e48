/- Walks of layer 6, first part: what the library's variables hold; a log in memory. -/
import Derived.Test.YtckmjmpajbjbkaaGreatDoorD10
import Derived.Test.YtckmjmpajbjbkaaGreatDoorD13
import Derived.Test.YtckmjmpajbjbkaaGreatDoorH7
import Derived.Test.YtckmjmpajbjbkaaGreatDoorM61
import Derived.Test.YtckmjmpajbjbkaaGreatDoorM63
import Derived.Test.YtckmjmpajbjbkaaGreatDoorSk
import Derived.Test.YtckmjmpajbjbkaaGreatDoorRows
import Derived.Lib.AppendIntMem
import Derived.Lib.AtoiErrMem
import Derived.Laws.OwnMore
import Derived.OneCell
namespace Go.Proofs.YtckmjmpajbjbkaaGreatDoor
open Go.RowKit

/-- The name of the library's table of powers of ten, as the row names it. -/
def powName : String := (Rows.walSegmentsRow.named.drop 2).headD ""
/-- What the library's variables hold; B: in all that turns nothing below B. -/
def SV0 (w : World) : Prop := Lib.TabIs Tryz.prog w powName .u64 Lib.pow10Tab ∧ (∃ tp p, w.var? Tryz.prog "strconv.ErrSyntax" = some #[.iface tp p]) ∧ (∃ tp p, w.var? Tryz.prog "strconv.ErrRange" = some #[.iface tp p])
theorem var_later {w w' : World} {n : String} {cs : Array Value} (h : w.var? Tryz.prog n = some cs) (hb : Below w.heap.size w w') : w'.var? Tryz.prog n = some cs := by
  unfold World.var? at h ⊢
  cases hg : Tryz.prog.globalNamed n with
  | none => simp [hg] at h
  | some g =>
    simp only [hg, Option.bind_some] at h ⊢
    have hlt : g < w.heap.size := by
      rcases Nat.lt_or_ge g w.heap.size with h' | h'
      · exact h'
      · rw [Array.getElem?_eq_none h'] at h; simp at h
    rw [hb.block g hlt]
    exact h
def SV (B : Nat) (w : World) : Prop := ∀ w', Below B w w' → SV0 w'
theorem SV.on {B : Nat} {w w' : World} (h : SV B w) (hb : Below B w w') : SV B w' := fun w2 h2 => h w2 (hb.trans h2)
theorem SV.here {B : Nat} {w : World} (h : SV B w) : SV0 w := h w (Below.refl _ _)
theorem SV.later {B : Nat} {w w' : World} (h : SV B w) (hB : B ≤ w.heap.size) (hb : Below w.heap.size w w') : SV B w' := h.on (hb.mono hB)

theorem SV0.alloc {w : World} (h : SV0 w) (o : Obj) : SV0 (w.alloc o) := by
  have h' : SV w.heap.size w := fun w' hb => by
    obtain ⟨a, ⟨tp, p, b⟩, ⟨tq, q, c⟩⟩ := h
    exact ⟨Lib.tabBelow_of_tabIs a w' hb, ⟨tp, p, var_later b hb⟩, ⟨tq, q, var_later c hb⟩⟩
  exact h' _ ((Below.refl _ _).alloc (Nat.le_refl _) _)
theorem itoa_any (n : Int) (w : World) (h : SV0 w) (h0 : -9223372036854775808 ≤ n) (h1 : n ≤ 9223372036854775807) :
    Calls Tryz.prog 113 #[.int .i64 n] w fun e w' => e = .returned (.string ⟨(Lib.itoa n).toArray⟩) ∧ Below w.heap.size w w' := by
  refine (Go.Proofs.Any.strconv_Itoa Tryz.laysM171 n h0 h1 w h.1).mono ?_
  rintro e w' ⟨rfl, k, os, rfl⟩
  exact ⟨rfl, Lib.below_grow _ _ (Nat.le_refl _) _ _⟩

/-! ### cells of segments -/
abbrev Ent := Nat × List (List UInt8) × Value
def Ent.sg (e : Ent) : Sg := (e.1, e.2.1)
def ec : List Ent → List Value
  | [] => []
  | e :: r => .int .i64 (e.1 : Int) :: e.2.2 :: ec r
theorem ec_append : ∀ l m : List Ent, ec (l ++ m) = ec l ++ ec m
  | [], _ => rfl
  | e :: r, m => by simp [ec, ec_append r m]
theorem ec_length : ∀ l : List Ent, (ec l).length = l.length * 2
  | [] => rfl
  | e :: r => by simp [ec, ec_length r, Nat.add_mul]
theorem ec_at0 : ∀ (l : List Ent) (i : Nat) (h : i < l.length), (ec l)[i * 2]? = some (.int .i64 ((l[i]).1 : Int))
  | e :: r, 0, _ => rfl
  | e :: r, i + 1, h => by
    rw [Nat.add_mul, Nat.one_mul]
    exact ec_at0 r i (by simpa using h)
theorem ec_at1 : ∀ (l : List Ent) (i : Nat) (h : i < l.length), (ec l)[i * 2 + 1]? = some (l[i]).2.2
  | e :: r, 0, _ => rfl
  | e :: r, i + 1, h => by
    rw [Nat.add_mul, Nat.one_mul]
    exact ec_at1 r i (by simpa using h)
theorem ec_set : ∀ (A : List Ent) (x : Ent) (v : Value), (ec (A ++ [x])).set (A.length * 2 + 1) v = ec (A ++ [(x.1, x.2.1, v)])
  | [], x, v => rfl
  | e :: r, x, v => by
    rw [List.length_cons, Nat.add_mul, Nat.one_mul]
    show _ :: _ :: (ec (r ++ [x])).set (r.length * 2 + 1) v = _
    rw [ec_set r x v]
    rfl

/-! ### a log in memory -/
def lcells (a : Nat) (g : Lg) (v : Value) : Array Value := #[.pointer (some ⟨a, 0, none⟩), .int .i64 (g.size : Int), .int .i64 (g.frm : Int), .int .i64 (g.safe : Int), v]
structure LogAt (w : World) (Y : Nat → Prop) (l a : Nat) (g : Lg) (p : Option Addr) (cap : Nat) (es : List Ent) : Prop where
  cells : w.heap[l]? = some (.cells (lcells a g (.slice p es.length cap)) 91 (0, 0))
  zl : Y l
  segs : g.segs = es.map Ent.sg
  rows : w.ownsRow 0 100 2 (.slice p es.length cap) es.length (ec es)
  zs : ∀ b, (Value.slice p es.length cap).ownBlock = some b → Y b
  recs : ∀ e ∈ es, w.ownsRow 0 9 1 e.2.2 e.2.1.length (sv e.2.1)
  zr : ∀ e ∈ es, ∀ b, e.2.2.ownBlock = some b → Y b
  apart : es.Pairwise fun x y => ∀ b, x.2.2.ownBlock = some b → y.2.2.ownBlock ≠ some b
theorem LogAt.lt {w : World} {Y : Nat → Prop} {l a : Nat} {g : Lg} {p : Option Addr} {cap : Nat} {es : List Ent} (h : LogAt w Y l a g p cap es) : l < w.heap.size := (Array.getElem?_eq_some_iff.1 h.cells).1
theorem LogAt.kept {w w' : World} {Y : Nat → Prop} {l a : Nat} {g : Lg} {p : Option Addr} {cap : Nat} {es : List Ent} (h : LogAt w Y l a g p cap es) (hk : ∀ k, k < w.heap.size → Y k → w'.heap[k]? = w.heap[k]?) : LogAt w' Y l a g p cap es :=
  ⟨(hk l h.lt h.zl).trans h.cells, h.zl, h.segs, own_kept h.rows fun b hb => hk b (h.rows.lt b hb).2 (h.zs b hb), h.zs, fun e he => own_kept (h.recs e he) fun b hb => hk b ((h.recs e he).lt b hb).2 (h.zr e he b hb), h.zr, h.apart⟩
theorem LogAt.later {w w' : World} {Y : Nat → Prop} {l a : Nat} {g : Lg} {p : Option Addr} {cap : Nat} {es : List Ent} (h : LogAt w Y l a g p cap es) (hb : Below w.heap.size w w') : LogAt w' Y l a g p cap es := h.kept fun k hk _ => hb.block k hk
theorem LogAt.mono {w : World} {Y Y' : Nat → Prop} {l a : Nat} {g : Lg} {p : Option Addr} {cap : Nat} {es : List Ent} (h : LogAt w Y l a g p cap es) (hz : ∀ k, k < w.heap.size → Y k → Y' k) : LogAt w Y' l a g p cap es :=
  ⟨h.cells, hz l h.lt h.zl, h.segs, h.rows, fun b hb => hz b (h.rows.lt b hb).2 (h.zs b hb), h.recs, fun e he b hb => hz b ((h.recs e he).lt b hb).2 (h.zr e he b hb), h.apart⟩
/-- The log's own cells. -/
structure LCells (w : World) (l a : Nat) (g : Lg) (v : Value) : Prop where
  c0 : w.cell? ⟨l, 0, none⟩ = some (.pointer (some ⟨a, 0, none⟩))
  c1 : w.cell? ⟨l, 1, none⟩ = some (.int .i64 (g.size : Int))
  c2 : w.cell? ⟨l, 2, none⟩ = some (.int .i64 (g.frm : Int))
  c3 : w.cell? ⟨l, 3, none⟩ = some (.int .i64 (g.safe : Int))
  c4 : w.cell? ⟨l, 4, none⟩ = some v
  fz : ∀ o, w.frozen? ⟨l, o, none⟩ = false
theorem LogAt.lc {w : World} {Y : Nat → Prop} {l a : Nat} {g : Lg} {p : Option Addr} {cap : Nat} {es : List Ent} (h : LogAt w Y l a g p cap es) : LCells w l a g (.slice p es.length cap) := by
  have e := h.cells
  refine ⟨?_, ?_, ?_, ?_, ?_, fun o => ?_⟩ <;> simp [World.cell?, World.frozen?, e, lcells]
/-- The cells of a segment. -/
theorem LogAt.seg {w : World} {Y : Nat → Prop} {l a : Nat} {g : Lg} {p : Option Addr} {cap : Nat} {es : List Ent} (h : LogAt w Y l a g p cap es) {i : Nat} (hi : i < es.length) : ∃ b, p = some ⟨b, 0, none⟩ ∧ es.length ≤ cap ∧ cap ≤ maxLen ∧ Y b ∧ w.cell? ⟨b, i * 2, none⟩ = some (.int .i64 ((es[i]).1 : Int)) ∧ w.cell? ⟨b, i * 2 + 1, none⟩ = some (es[i]).2.2 ∧ ∀ o, w.frozen? ⟨b, o, none⟩ = false := by
  have hr := h.rows
  have hz := h.zs
  obtain ⟨_, ⟨_, h0⟩ | ⟨b, cap', cur, e, _, hg, h1, h2, _⟩⟩ := h.rows
  · omega
  · simp only [Value.slice.injEq] at e
    obtain ⟨rfl, _, rfl⟩ := e
    exact ⟨b, rfl, h1, h2, hz b rfl, (hr.cellAt (i * 2) (by omega)).trans (ec_at0 es i hi), (hr.cellAt (i * 2 + 1) (by omega)).trans (ec_at1 es i hi), fun o => hr.frozenAt o⟩
theorem own_slice {w : World} {B : Nat} {e : TypeId} {size : Nat} {v : Value} {n : Nat} {xs : List Value} (h : w.ownsRow B e size v n xs) : ∃ q c, v = .slice q n c ∧ n ≤ c := by
  obtain ⟨_, ⟨rfl, rfl⟩ | ⟨g, cap, cur, rfl, _, _, h1, _⟩⟩ := h
  · exact ⟨none, 0, rfl, Nat.le_refl _⟩
  · exact ⟨_, cap, rfl, h1⟩

/-- A log on its disk: all of it lies in X, and X from B on. -/
structure IsLogE (B : Nat) (w : World) (X : Nat → Prop) (l a : Nat) (st : St) (g : Lg) (p : Option Addr) (cap : Nat) (es : List Ent) : Prop where
  base : B ≤ w.heap.size
  lib : SV B w
  zone : ∀ k, X k → B ≤ k
  ok : LgW g
  two : ∃ (Z Y : Nat → Prop), IsDisk w Z a st ∧ LogAt w Y l a g p cap es ∧ (∀ k, Z k → Y k → False) ∧ (∀ k, Z k → X k) ∧ (∀ k, Y k → X k)
def IsLog (B : Nat) (w : World) (X : Nat → Prop) (l a : Nat) (st : St) (g : Lg) : Prop := ∃ p cap es, IsLogE B w X l a st g p cap es
theorem IsLogE.is {B : Nat} {w : World} {X : Nat → Prop} {l a : Nat} {st : St} {g : Lg} {p : Option Addr} {cap : Nat} {es : List Ent} (h : IsLogE B w X l a st g p cap es) : IsLog B w X l a st g := ⟨p, cap, es, h⟩
theorem IsLogE.later {B : Nat} {w w' : World} {X : Nat → Prop} {l a : Nat} {st : St} {g : Lg} {p : Option Addr} {cap : Nat} {es : List Ent} (h : IsLogE B w X l a st g p cap es) (hb : Below w.heap.size w w') : IsLogE B w' X l a st g p cap es := by
  obtain ⟨h0, h1, h2, h3, Z, Y, k1, k2, k3, k4, k5⟩ := h
  exact ⟨Nat.le_trans h0 hb.size, h1.later h0 hb, h2, h3, Z, Y, k1.later hb, k2.later hb, k3, k4, k5⟩
theorem IsLog.later {B : Nat} {w w' : World} {X : Nat → Prop} {l a : Nat} {st : St} {g : Lg} (h : IsLog B w X l a st g) (hb : Below w.heap.size w w') : IsLog B w' X l a st g := by
  obtain ⟨p, cap, es, h⟩ := h
  exact ⟨p, cap, es, h.later hb⟩
theorem IsLogE.dok {B : Nat} {w : World} {X : Nat → Prop} {l a : Nat} {st : St} {g : Lg} {p : Option Addr} {cap : Nat} {es : List Ent} (h : IsLogE B w X l a st g p cap es) : OKs st := by
  obtain ⟨_, _, _, _, Z, Y, k1, _⟩ := h
  exact k1.ok
theorem IsLogE.at {B : Nat} {w : World} {X : Nat → Prop} {l a : Nat} {st : St} {g : Lg} {p : Option Addr} {cap : Nat} {es : List Ent} (h : IsLogE B w X l a st g p cap es) : ∃ Y, LogAt w Y l a g p cap es := by
  obtain ⟨_, _, _, _, Z, Y, _, k2, _⟩ := h
  exact ⟨Y, k2⟩
/-- What a step of the disk leaves of a log. -/
theorem IsLogE.disk {B : Nat} {w : World} {X : Nat → Prop} {l a : Nat} {st : St} {g : Lg} {p : Option Addr} {cap : Nat} {es : List Ent} (h : IsLogE B w X l a st g p cap es) (hX : ∀ k, w.heap.size ≤ k → X k) :
    ∃ Z : Nat → Prop, IsDisk w Z a st ∧ (∀ k, w.heap.size ≤ k → Z k) ∧ ∀ w1 st', IsDisk w1 Z a st' → Only Z w w1 → IsLogE B w1 X l a st' g p cap es ∧ Only X w w1 := by
  obtain ⟨h0, h1, h2, h3, Z, Y, k1, k2, k3, k4, k5⟩ := h
  refine ⟨fun k => Z k ∨ w.heap.size ≤ k, k1.mono fun k _ hk => Or.inl hk, fun k hk => Or.inr hk, fun w1 st' hd ho => ?_⟩
  have hoX : Only X w w1 := ho.mono fun k hk => by
    rcases hk with hk | hk
    · exact k4 k hk
    · exact hX k hk
  have hYlt : LogAt w (fun k => Y k ∧ k < w.heap.size) l a g p cap es := k2.mono fun k hk hy => ⟨hy, hk⟩
  refine ⟨⟨Nat.le_trans h0 ho.size, h1.on (hoX.below h0 fun k hk e => by have := h2 k e; omega), h2, h3, fun k => Z k ∨ w.heap.size ≤ k, fun k => Y k ∧ k < w.heap.size, hd, hYlt.kept fun k hk hy => ho.block k hk fun e => ?_, fun k hz hy => ?_, fun k hk => ?_, fun k hk => k5 k hk.1⟩, hoX⟩
  · rcases e with e | e
    · exact k3 k e hy.1
    · omega
  · rcases hz with e | e
    · exact k3 k e hy.1
    · omega
  · rcases hk with hk | hk
    · exact k4 k hk
    · exact hX k hk
/-- What a step of the log's own memory leaves. -/
theorem IsLogE.own {B : Nat} {w : World} {X : Nat → Prop} {l a : Nat} {st : St} {g : Lg} {p : Option Addr} {cap : Nat} {es : List Ent} (h : IsLogE B w X l a st g p cap es) (hX : ∀ k, w.heap.size ≤ k → X k) :
    ∃ (Y : Nat → Prop), LogAt w Y l a g p cap es ∧ (∀ k, w.heap.size ≤ k → Y k) ∧ (∀ k, Y k → X k) ∧ ∀ w1 g' p' cap' es', LogAt w1 Y l a g' p' cap' es' → LgW g' → Only Y w w1 → IsLogE B w1 X l a st g' p' cap' es' ∧ Only X w w1 := by
  obtain ⟨h0, h1, h2, h3, Z, Y, k1, k2, k3, k4, k5⟩ := h
  have hYX : ∀ k, Y k ∨ w.heap.size ≤ k → X k := fun k hk => by
    rcases hk with hk | hk
    · exact k5 k hk
    · exact hX k hk
  refine ⟨fun k => Y k ∨ w.heap.size ≤ k, k2.mono fun k _ hk => Or.inl hk, fun k hk => Or.inr hk, hYX, fun w1 g' p' cap' es' hl hg ho => ?_⟩
  have hoX : Only X w w1 := ho.mono hYX
  have hZlt : IsDisk w (fun k => Z k ∧ k < w.heap.size) a st := k1.mono fun k hk hz => ⟨hz, hk⟩
  refine ⟨⟨Nat.le_trans h0 ho.size, h1.on (hoX.below h0 fun k hk e => by have := h2 k e; omega), h2, hg, fun k => Z k ∧ k < w.heap.size, fun k => Y k ∨ w.heap.size ≤ k, hZlt.kept fun k hk hz => ho.block k hk fun e => ?_, hl, fun k hz hy => ?_, fun k hk => k4 k hk.1, fun k hk => ?_⟩, hoX⟩
  · rcases e with e | e
    · exact k3 k hz.1 e
    · omega
  · rcases hy with e | e
    · exact k3 k hz.1 e
    · omega
  · rcases hk with hk | hk
    · exact k5 k hk
    · exact hX k hk
theorem from_drew {w w1 : World} (h : Below w.drew.heap.size w.drew w1) : Below w.heap.size w w1 := ((Below.refl _ _).drew).trans h
end Go.Proofs.YtckmjmpajbjbkaaGreatDoor
