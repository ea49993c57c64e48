/- Walks: what all of them lean on: rows as they are read and as one owns them; a frame of things that lie apart. -/
import Derived.Test.YtefdhmdkcpgfcaaChecked
import Derived.Test.YtefdhmdkcpgfcaaM1
import Derived.WalkKit
import Derived.WalkSpells
import Derived.WalkLawsBesides
import Derived.Lib.Hide
import Derived.Deep.RegionHeld3
import Derived.Deep.Light
import Derived.Deep.RegionLaw
import Derived.Deep.AppendLies
import Derived.Deep.QuietTactic
import Derived.BigQuiet
import Derived.Laws.OwnMore
import Derived.Laws.CopyOwn
import Derived.OneCell
import Derived.Laws.EntriesVeiled
namespace Go.Proofs.Ytefdhmdkcpgfcaa
open Go.RowKit
theorem Try.infoInt : (Try.prog.info? 3).map (fun i => (i.zero, i.size, i.bytes)) = some (some (.int .i64 0), 1, 8) := by kernel_rfl

/-- A text's bytes. -/
def bs (s : ByteArray) : List UInt8 := s.data.toList
theorem ret_bool {a b : Bool} (h : a = b) : Ending.returned (.bool a) = .returned (.bool b) := by rw [h]
theorem ret_int {k : IntKind} {a b : Int} (h : a = b) : Ending.returned (.int k a) = .returned (.int k b) := by rw [h]
theorem cell_at {w w' : World} {x o : Nat} {v : Value} (h : w'.heap[x]? = w.heap[x]?) (hc : w.cell? ⟨x, o, none⟩ = some v) : w'.cell? ⟨x, o, none⟩ = some v := (World.cell?_of_block (a := ⟨x, o, none⟩) h).trans hc
theorem below_two {a b c : World} (h : Below a.heap.size a b) (k : Below b.heap.size b c) : Below a.heap.size a c := h.trans (k.mono h.size)
theorem below_drewN {B : Nat} {a w : World} (h : Below B a w) (n : Nat) : Below B a (w.drewN n) := ⟨h.os, h.tape, h.output, h.size, h.block⟩
theorem below_on {B : Nat} {a b c : World} (h : Below B a b) (k : Below b.heap.size b c) (hB : B ≤ b.heap.size) : Below B a c := h.trans (k.mono hB)
theorem bcell {W w1 : World} (hb : Below W.heap.size W w1) : (∀ b o, b < W.heap.size → w1.cell? ⟨b, o, none⟩ = W.cell? ⟨b, o, none⟩) ∧ (∀ b o, b < W.heap.size → w1.frozen? ⟨b, o, none⟩ = W.frozen? ⟨b, o, none⟩) :=
  ⟨fun b o h => hb.cell (p := ⟨b, o, none⟩) h, fun b o h => hb.frozen (p := ⟨b, o, none⟩) h⟩
theorem cell_lt {w : World} {b o : Nat} {v : Value} (h : w.cell? ⟨b, o, none⟩ = some v) : b < w.heap.size := World.block_lt_of_cell? _ _ h
/-- A text against another one, as a walk asks it. -/
theorem str_eq (s t : ByteArray) : (s.toList == t.toList) = decide (bs s = bs t) := by
  rw [ByteArray.toList_eq, ByteArray.toList_eq, Bool.eq_iff_iff]
  simp [bs]

/-! ### what may turn -/
/-- Of what was there nothing has turned but what lies in the zone Z. -/
structure Only (Z : Nat → Prop) (w w' : World) : Prop where
  os : w'.os = w.os
  tape : w'.tape = w.tape
  output : w'.output = w.output
  size : w.heap.size ≤ w'.heap.size
  block : ∀ k, k < w.heap.size → ¬ Z k → w'.heap[k]? = w.heap[k]?
theorem Only.refl (Z : Nat → Prop) (w : World) : Only Z w w := ⟨rfl, rfl, rfl, Nat.le_refl _, fun _ _ _ => rfl⟩
theorem Only.trans {Z : Nat → Prop} {a b c : World} (h : Only Z a b) (k : Only Z b c) : Only Z a c :=
  ⟨k.os.trans h.os, k.tape.trans h.tape, k.output.trans h.output, Nat.le_trans h.size k.size, fun i hi hz => (k.block i (Nat.lt_of_lt_of_le hi h.size) hz).trans (h.block i hi hz)⟩
theorem Only.of {Z : Nat → Prop} {w w' : World} (h : Below w.heap.size w w') : Only Z w w' := ⟨h.os, h.tape, h.output, h.size, fun k hk _ => h.block k hk⟩
theorem Only.later {Z : Nat → Prop} {a b c : World} (h : Only Z a b) (k : Below b.heap.size b c) : Only Z a c := h.trans (Only.of k)
theorem Only.below {Z : Nat → Prop} {w w' : World} (h : Only Z w w') {B : Nat} (hB : B ≤ w.heap.size) (hZ : ∀ k, k < B → ¬ Z k) : Below B w w' := ⟨h.os, h.tape, h.output, h.size, fun k hk => h.block k (by omega) (hZ k hk)⟩
theorem Only.alloc {Z : Nat → Prop} {a w : World} (h : Only Z a w) (o : Obj) : Only Z a (w.alloc o) := h.later ((Below.refl _ _).alloc (Nat.le_refl _) _)
theorem Only.drew {Z : Nat → Prop} {a w : World} (h : Only Z a w) : Only Z a w.drew := h.later (Below.refl _ _).drew
theorem Only.grown {Z : Nat → Prop} {a w w' : World} {row : Option Nat} (h : Only Z a w) (hg : w.grownBy w' row) (hr : ∀ k, row = some k → Z k) : Only Z a w' :=
  h.trans ⟨hg.os, hg.tape, hg.output, hg.size, fun k hk hz => hg.block k hk (fun e => hz (hr k e.symm))⟩
theorem Only.setCell {Z : Nat → Prop} {a w : World} (h : Only Z a w) {p : Addr} (hp : Z p.block) (u : Value) : Only Z a (w.setCell p u) :=
  h.trans ⟨rfl, rfl, rfl, by simp [World.setCell], fun k _ hz => Below.heap_setCell _ _ _ _ (fun e => hz (by rw [e]; exact hp))⟩
theorem Only.mono {Z Z' : Nat → Prop} {w w' : World} (h : Only Z w w') (hz : ∀ k, Z k → Z' k) : Only Z' w w' := ⟨h.os, h.tape, h.output, h.size, fun k hk g => h.block k hk (fun e => g (hz k e))⟩

/-! ### rows as they are read -/
/-- A row of things: each lies in n cells, which read as it. -/
def RowR {α : Type} (n : Nat) (R : α → List Value → Prop) (w : World) (a : Option Addr) (l : List α) : Prop :=
  ∀ i (h : i < l.length), ∃ b off vs, a = some ⟨b, off, none⟩ ∧ R l[i] vs ∧ vs.length = n ∧ ∀ j (hj : j < vs.length), w.cell? ⟨b, off + i * n + j, none⟩ = some vs[j]
theorem RowR.later {α : Type} {n : Nat} {R R' : α → List Value → Prop} {w w' : World} {a : Option Addr} {l : List α} (h : RowR n R w a l) (hb : Below w.heap.size w w') (hR : ∀ x vs, R x vs → R' x vs) : RowR n R' w' a l := by
  intro i hi
  obtain ⟨b, off, vs, e, h1, h2, h3⟩ := h i hi
  exact ⟨b, off, vs, e, hR _ _ h1, h2, fun j hj => cell_later hb (h3 j hj)⟩
theorem RowR.nil {α : Type} {n : Nat} {R : α → List Value → Prop} {w : World} {a : Option Addr} : RowR n R w a [] := fun _ h => absurd h (Nat.not_lt_zero _)

def IntR (n : Int) (vs : List Value) : Prop := vs = [.int .i64 n]
def StrR (s : ByteArray) (vs : List Value) : Prop := vs = [.string s]
/-! what a walk reads of one -/
theorem RowR.at1 {α : Type} {R : α → List Value → Prop} {w : World} {a : Option Addr} {l : List α} (h : RowR 1 R w a l) {i : Nat} (hi : i < l.length) : ∃ b off v0, a = some ⟨b, off, none⟩ ∧ R l[i] [v0] ∧ w.cell? ⟨b, off + i, none⟩ = some v0 := by
  obtain ⟨b, off, vs, e, h1, h2, h3⟩ := h i hi
  match vs, h2 with
  | [v0], _ =>
    have g0 := h3 0 (by simp)
    simp only [Nat.mul_one, Nat.add_zero, List.getElem_cons_zero] at g0
    exact ⟨b, off, v0, e, h1, g0⟩
theorem RowR.at2 {α : Type} {R : α → List Value → Prop} {w : World} {a : Option Addr} {l : List α} (h : RowR 2 R w a l) {i : Nat} (hi : i < l.length) : ∃ b off v0 v1, a = some ⟨b, off, none⟩ ∧ R l[i] [v0, v1] ∧ w.cell? ⟨b, off + i * 2, none⟩ = some v0 ∧ w.cell? ⟨b, off + i * 2 + 1, none⟩ = some v1 := by
  obtain ⟨b, off, vs, e, h1, h2, h3⟩ := h i hi
  match vs, h2 with
  | [v0, v1], _ => exact ⟨b, off, v0, v1, e, h1, h3 0 (by simp), h3 1 (by simp)⟩
theorem RowR.at3 {α : Type} {R : α → List Value → Prop} {w : World} {a : Option Addr} {l : List α} (h : RowR 3 R w a l) {i : Nat} (hi : i < l.length) : ∃ b off v0 v1 v2, a = some ⟨b, off, none⟩ ∧ R l[i] [v0, v1, v2] ∧ w.cell? ⟨b, off + i * 3, none⟩ = some v0 ∧ w.cell? ⟨b, off + i * 3 + 1, none⟩ = some v1 ∧ w.cell? ⟨b, off + i * 3 + 2, none⟩ = some v2 := by
  obtain ⟨b, off, vs, e, h1, h2, h3⟩ := h i hi
  match vs, h2 with
  | [v0, v1, v2], _ => exact ⟨b, off, v0, v1, v2, e, h1, h3 0 (by simp), h3 1 (by simp), h3 2 (by simp)⟩
theorem heap_setCell_at {w : World} {l i : Nat} {cs : Array Value} {t : TypeId} {fr : Nat × Nat} (h : w.heap[l]? = some (.cells cs t fr)) (v : Value) : (w.setCell ⟨l, i, none⟩ v).heap[l]? = some (.cells (cs.setIfInBounds i v) t fr) := by
  simp only [World.setCell, Array.getElem?_modify, if_true, h]
  simp
theorem heap_of {w w' : World} {x : Nat} {o : Obj} (h : w.heap[x]? = some o) (hb : Below w.heap.size w w') : w'.heap[x]? = some o := (hb.block _ (Array.getElem?_eq_some_iff.1 h).1).trans h
theorem own_kept {w w' : World} {base n : Nat} {e : TypeId} {size : Nat} {v : Value} {xs : List Value} (h : w.ownsRow base e size v n xs) (hk : ∀ g, v.ownBlock = some g → w'.heap[g]? = w.heap[g]?) : w'.ownsRow base e size v n xs := by
  obtain ⟨h1, h2 | ⟨g, cap, cur, rfl, a, b, c⟩⟩ := h
  · exact ⟨h1, Or.inl h2⟩
  · exact ⟨h1, Or.inr ⟨g, cap, cur, rfl, a, (hk g rfl).trans b, c⟩⟩
theorem own_later {w w' : World} {B : Nat} {e : TypeId} {size : Nat} {v : Value} {n : Nat} {xs : List Value} (h : w.ownsRow B e size v n xs) (hb : Below w.heap.size w w') : w'.ownsRow B e size v n xs := own_kept h fun g hg => hb.block g (h.lt g hg).2
theorem own_mono {w : World} {base base' : Nat} {e : TypeId} {size : Nat} {v : Value} {n : Nat} {xs : List Value} (h : w.ownsRow base e size v n xs) (hb : base' ≤ base) : w.ownsRow base' e size v n xs := by
  obtain ⟨h1, h2 | ⟨g, cap, cur, e, a, r⟩⟩ := h
  · exact ⟨h1, Or.inl h2⟩
  · exact ⟨h1, Or.inr ⟨g, cap, cur, e, Nat.le_trans hb a, r⟩⟩
theorem own_block {w : World} {B : Nat} {e : TypeId} {size : Nat} {v : Value} {n : Nat} {xs : List Value} (h : w.ownsRow B e size v n xs) {g : Nat} (hg : v.ownBlock = some g) : ∃ cur, w.heap[g]? = some (.cells cur e (0, 0)) := by
  obtain ⟨_, ⟨rfl, _⟩ | ⟨b, cap, cur, rfl, _, hh, _⟩⟩ := h
  · cases hg
  · obtain rfl : b = g := by simpa [Value.ownBlock] using hg
    exact ⟨cur, hh⟩
theorem own_ge {w : World} {B : Nat} {e : TypeId} {size : Nat} {v : Value} {n : Nat} {xs : List Value} (h : w.ownsRow B e size v n xs) : ∀ g, v.ownBlock = some g → B ≤ g := fun g hg => (h.lt g hg).1
theorem cells_alloc (w : World) (us : List Value) (t : TypeId) : ∀ j u, us[j]? = some u → (w.alloc (.cells us.toArray t)).cell? ((⟨w.heap.size, 0, none⟩ : Addr).add j) = some u := by
  intro j u hj
  have hadd : (⟨w.heap.size, 0, none⟩ : Addr).add j = ⟨w.heap.size, j, none⟩ := by rw [Addr.add_lit, Nat.zero_add]
  rw [hadd]
  have hl := (List.getElem?_eq_some_iff.1 hj)
  obtain ⟨hl, rfl⟩ := hl
  have := heap_alloc_new w (.cells us.toArray t (0, 0))
  simp only [World.cell?, this]
  simp [hl]

/-! ### rows of the call's own -/
def OwnR {α : Type} (n : Nat) (T : TypeId) (R : α → List Value → Prop) (w : World) (B : Nat) (v : Value) (l : List α) : Prop :=
  ∃ ps : List (α × List Value), ps.map (·.1) = l ∧ (∀ p ∈ ps, R p.1 p.2 ∧ p.2.length = n) ∧ w.ownsRow B T n v l.length (ps.flatMap (·.2))
section
variable {α : Type} {n : Nat} {T : TypeId} {R R' : α → List Value → Prop} {w w' : World} {B : Nat} {v : Value} {l : List α}
theorem OwnR.nil (n : Nat) (T : TypeId) (R : α → List Value → Prop) (w : World) (B : Nat) : OwnR n T R w B (.slice none 0 0) ([] : List α) := ⟨[], rfl, fun _ hp => absurd hp List.not_mem_nil, World.ownsRow_nil _ _ _ _⟩
theorem OwnR.form (h : OwnR n T R w B v l) : ∃ p cap, v = .slice p l.length cap ∧ l.length ≤ cap := by
  obtain ⟨ps, _, _, h3⟩ := h
  obtain ⟨_, ⟨rfl, h0⟩ | ⟨g, cap, cur, rfl, _, _, hc, _⟩⟩ := h3
  · exact ⟨none, 0, by rw [h0], by omega⟩
  · exact ⟨_, cap, rfl, hc⟩
theorem OwnR.kept (h : OwnR n T R w B v l) (hk : ∀ g, v.ownBlock = some g → w'.heap[g]? = w.heap[g]?) (hR : ∀ x vs, R x vs → R' x vs) : OwnR n T R' w' B v l := by
  obtain ⟨ps, h1, h2, h3⟩ := h
  exact ⟨ps, h1, fun p hp => ⟨hR _ _ (h2 p hp).1, (h2 p hp).2⟩, own_kept h3 hk⟩
theorem OwnR.lt (h : OwnR n T R w B v l) {g : Nat} (hg : v.ownBlock = some g) : B ≤ g ∧ g < w.heap.size := by
  obtain ⟨_, _, _, h3⟩ := h
  exact h3.lt g hg
theorem OwnR.mono (h : OwnR n T R w B v l) {B' : Nat} (hB : B' ≤ B) (hR : ∀ x vs, R x vs → R' x vs) : OwnR n T R' w B' v l := by
  obtain ⟨ps, h1, h2, h3⟩ := h
  exact ⟨ps, h1, fun p hp => ⟨hR _ _ (h2 p hp).1, (h2 p hp).2⟩, own_mono h3 hB⟩
theorem flat_at {n : Nat} : ∀ (ps : List (α × List Value)) (i j : Nat) (hi : i < ps.length), (∀ p ∈ ps, p.2.length = n) → j < n → (ps.flatMap (·.2))[i * n + j]? = (ps[i].2)[j]?
  | p :: r, 0, j, _, h, hj => by
    have := h p List.mem_cons_self
    rw [List.flatMap_cons, Nat.zero_mul, Nat.zero_add, List.getElem?_append_left (by omega)]
    rfl
  | p :: r, i + 1, j, hi, h, hj => by
    have hp := h p List.mem_cons_self
    have ih := flat_at r i j (by simpa using hi) (fun q hq => h q (List.mem_cons_of_mem _ hq)) hj
    rw [List.flatMap_cons, List.getElem?_append_right (by rw [hp, Nat.add_mul]; omega), hp, Nat.add_mul, Nat.one_mul]
    rw [show i * n + n + j - n = i * n + j by omega, ih]
    rfl
theorem OwnR.row {p : Option Addr} {m cap : Nat} (h : OwnR n T R w B (.slice p m cap) l) (hR : ∀ x vs, R x vs → R' x vs) : RowR n R' w p l := by
  obtain ⟨ps, h1, h2, h3⟩ := h
  intro i hi
  have hl : ps.length = l.length := by rw [← h1, List.length_map]
  have hmem : ps[i]'(by omega) ∈ ps := List.getElem_mem _
  have hx : (ps[i]'(by omega)).1 = l[i] := by subst h1; rw [List.getElem_map]
  have h30 := h3
  obtain ⟨_, ⟨e, h0⟩ | ⟨g, cap', cur, e, _⟩⟩ := h3
  · omega
  · simp only [Value.slice.injEq] at e
    obtain ⟨rfl, rfl, rfl⟩ := e
    refine ⟨g, 0, (ps[i]'(by omega)).2, rfl, by rw [← hx]; exact hR _ _ (h2 _ hmem).1, (h2 _ hmem).2, fun j hj => ?_⟩
    have hj' : j < n := by rw [← (h2 _ hmem).2]; exact hj
    have hlt : i * n + j < l.length * n := by
      have : (i + 1) * n ≤ l.length * n := Nat.mul_le_mul_right _ (by omega)
      rw [Nat.add_mul] at this
      omega
    rw [Nat.zero_add, h30.cellAt _ hlt, flat_at ps i j (by omega) (fun p hp => (h2 p hp).2) hj', List.getElem?_eq_getElem hj]
theorem OwnR.push {w3 : World} {v' : Value} {ps : List (α × List Value)} {x : α} {us : List Value} (h1 : ps.map (·.1) = l) (h2 : ∀ p ∈ ps, R p.1 p.2 ∧ p.2.length = n) (hR : ∀ x vs, R x vs → R' x vs) (hx : R' x us) (hus : us.length = n) (ho : w3.ownsRow B T n v' (l.length + 1) (ps.flatMap (·.2) ++ us)) : OwnR n T R' w3 B v' (l ++ [x]) := by
  refine ⟨ps ++ [(x, us)], by rw [List.map_append, h1]; rfl, fun p hp => ?_, ?_⟩
  · rcases List.mem_append.1 hp with hp | hp
    · exact ⟨hR _ _ (h2 p hp).1, (h2 p hp).2⟩
    · obtain rfl : p = (x, us) := by simpa using hp
      exact ⟨hx, hus⟩
  · rw [List.flatMap_append, List.length_append]
    simpa using ho
end

/-! ### a frame -/
/-- Something in memory: where it lies, and what is true of it. -/
structure Rs where
  Z : Nat → Prop
  H : World → Prop
/-- It hangs on its zone alone. -/
def Rs.ok (r : Rs) : Prop := ∀ w w' : World, r.H w → Only (fun k => ¬ r.Z k) w w' → r.H w'
/-- It holds in whatever world agrees with this one from B on, off a zone. -/
def FS (w : World) (B : Nat) (Z : Nat → Prop) (I : World → Prop) : Prop := ∀ W : World, (∀ g, B ≤ g → ¬ Z g → g < w.heap.size → W.heap[g]? = w.heap[g]?) → I W
theorem FS.out {w : World} {B : Nat} {Z : Nat → Prop} {I : World → Prop} (h : FS w B Z I) : I w := h w fun _ _ _ _ => rfl
theorem FS.keep {w W : World} {B : Nat} {Z Z' : Nat → Prop} {I : World → Prop} (h : FS w B Z I) (hs : w.heap.size ≤ W.heap.size) (hk : ∀ g, B ≤ g → ¬ Z g → g < w.heap.size → W.heap[g]? = w.heap[g]?) (hz : ∀ g, g < w.heap.size → Z' g → Z g) : FS W B Z' I :=
  fun V hV => h V fun g hg hn hl => (hV g hg (fun k => hn (hz g hl k)) (Nat.lt_of_lt_of_le hl hs)).trans (hk g hg hn hl)
theorem FS.and {w : World} {B : Nat} {Z : Nat → Prop} {I J : World → Prop} (h : FS w B Z I) (k : FS w B Z J) : FS w B Z fun W => I W ∧ J W := fun W hW => ⟨h W hW, k W hW⟩
theorem FS.imp {w : World} {B : Nat} {Z : Nat → Prop} {I J : World → Prop} (h : FS w B Z I) (k : ∀ W, I W → J W) : FS w B Z J := fun W hW => k W (h W hW)
/-- Where any of some things lie. -/
def hotZ (L : List Rs) (g : Nat) : Prop := ∃ r ∈ L, r.Z g
def Apart (a b : Rs) : Prop := ∀ k, a.Z k → ¬ b.Z k
/-- At a place of a walk that began in w0. -/
structure Fm (w0 : World) (L : List Rs) (I : World → Prop) (w : World) : Prop where
  bel : Below w0.heap.size w0 w
  ok : ∀ r ∈ L, r.ok
  has : ∀ r ∈ L, r.H w
  lies : ∀ r ∈ L, ∀ k, r.Z k → w0.heap.size ≤ k ∧ k < w.heap.size
  apart : L.Pairwise Apart
  inv : FS w w0.heap.size (hotZ L) I
section
variable {w0 w w' : World} {L : List Rs} {I J : World → Prop}
theorem Fm.start (w : World) : Fm w [] (fun _ => True) w := ⟨Below.refl _ _, fun _ h => absurd h (by simp), fun _ h => absurd h (by simp), fun _ h => absurd h (by simp), List.Pairwise.nil, fun _ _ => trivial⟩
theorem Fm.imp (h : Fm w0 L I w) (k : ∀ W, I W → J W) : Fm w0 L J w := ⟨h.bel, h.ok, h.has, h.lies, h.apart, h.inv.imp k⟩
/-- Something else was made. -/
theorem Fm.gain (h : Fm w0 L I w) (hb : Below w.heap.size w w') (hJ : ∀ W : World, (∀ g, w.heap.size ≤ g → g < w'.heap.size → W.heap[g]? = w'.heap[g]?) → J W) : Fm w0 L (fun W => I W ∧ J W) w' := by
  have hi : FS w' w0.heap.size (hotZ L) I := h.inv.keep hb.size (fun g _ _ hl => hb.block g hl) fun _ _ k => k
  refine ⟨h.bel.trans (hb.mono h.bel.size), h.ok, fun r hr => h.ok r hr w w' (h.has r hr) (Only.of hb), fun r hr k hk => ⟨(h.lies r hr k hk).1, Nat.lt_of_lt_of_le (h.lies r hr k hk).2 hb.size⟩, h.apart, hi.and fun W hW => hJ W fun g hg hl => hW g (Nat.le_trans h.bel.size hg) (fun m => ?_) hl⟩
  obtain ⟨r, hr, hz⟩ := m
  have := (h.lies r hr g hz).2
  omega
theorem Fm.call (h : Fm w0 L I w) (hb : Below w.heap.size w w') : Fm w0 L I w' := (h.gain hb (J := fun _ => True) fun _ _ => trivial).imp fun _ k => k.1
/-- Something new of one's own. -/
theorem Fm.push (h : Fm w0 L I w) (hb : Below w.heap.size w w') {r : Rs} (hr : r.ok) (hh : r.H w') (hz : ∀ k, r.Z k → w.heap.size ≤ k ∧ k < w'.heap.size) : Fm w0 (r :: L) I w' := by
  have k := h.call hb
  have hs := h.bel.size
  refine ⟨k.bel, fun x hx => ?_, fun x hx => ?_, fun x hx => ?_, List.pairwise_cons.2 ⟨fun x hx g hg hg' => ?_, h.apart⟩, ?_⟩
  · rcases List.mem_cons.1 hx with rfl | hx
    · exact hr
    · exact h.ok x hx
  · rcases List.mem_cons.1 hx with rfl | hx
    · exact hh
    · exact k.has x hx
  · rcases List.mem_cons.1 hx with rfl | hx
    · exact fun g hg => ⟨Nat.le_trans hs (hz g hg).1, (hz g hg).2⟩
    · exact k.lies x hx
  · have h1 := (hz g hg).1
    have h2 := (h.lies x hx g hg').2
    omega
  · refine h.inv.keep hb.size (fun g _ _ hl => hb.block g hl) fun g hl m => ?_
    obtain ⟨x, hx, hg⟩ := m
    rcases List.mem_cons.1 hx with rfl | hx
    · have := (hz g hg).1
      omega
    · exact ⟨x, hx, hg⟩
/-- One of one's own things turned, and nothing else of what there was. -/
theorem Fm.turn (h : Fm w0 L I w) (k : Nat) {r r' : Rs} (hk : L[k]? = some r) (ho : Only r.Z w w') (hr : r'.ok) (hh : r'.H w') (hz : ∀ g, r'.Z g → r.Z g ∨ (w.heap.size ≤ g ∧ g < w'.heap.size)) : Fm w0 (L.set k r') I w' := by
  obtain ⟨hkl, hke⟩ := List.getElem?_eq_some_iff.1 hk
  have hm : r ∈ L := List.mem_of_getElem? hk
  have hs := h.bel.size
  have hz' : ∀ g, r'.Z g → w0.heap.size ≤ g ∧ g < w'.heap.size := fun g hg => by
    rcases hz g hg with hg | hg
    · exact ⟨(h.lies r hm g hg).1, Nat.lt_of_lt_of_le (h.lies r hm g hg).2 ho.size⟩
    · exact ⟨Nat.le_trans hs hg.1, hg.2⟩
  have hpw := List.pairwise_iff_getElem.1 h.apart
  have off : ∀ j (hj : j < L.length), j ≠ k → ∀ g, L[j].Z g → ¬ r.Z g := fun j hj hjk g hg hr' => by
    rcases Nat.lt_or_gt_of_ne hjk with hlt | hlt
    · exact hpw j k hj hkl hlt g hg (hke ▸ hr')
    · exact hpw k j hkl hj hlt g (hke ▸ hr') hg
  have others : ∀ x ∈ L.set k r', x = r' ∨ ∃ j, ∃ hj : j < L.length, j ≠ k ∧ L[j] = x := fun x hx => by
    obtain ⟨j, hj, e⟩ := List.getElem_of_mem hx
    rw [List.getElem_set] at e
    by_cases c : k = j
    · rw [if_pos c] at e
      exact Or.inl e.symm
    · rw [if_neg c] at e
      exact Or.inr ⟨j, by simpa using hj, fun q => c q.symm, e⟩
  refine ⟨⟨ho.os.trans h.bel.os, ho.tape.trans h.bel.tape, ho.output.trans h.bel.output, Nat.le_trans hs ho.size, fun g hg => (ho.block g (by omega) fun q => ?_).trans (h.bel.block g hg)⟩, fun x hx => ?_, fun x hx => ?_, fun x hx => ?_, List.pairwise_iff_getElem.2 fun i j hi hj hij g hg hg' => ?_, ?_⟩
  · have := (h.lies r hm g q).1
    omega
  · rcases others x hx with rfl | ⟨j, hj, _, rfl⟩
    · exact hr
    · exact h.ok _ (List.getElem_mem _)
  · rcases others x hx with rfl | ⟨j, hj, hjk, rfl⟩
    · exact hh
    · exact h.ok _ (List.getElem_mem _) w w' (h.has _ (List.getElem_mem _)) (ho.mono fun g hg hn => off j hj hjk g hn hg)
  · rcases others x hx with rfl | ⟨j, hj, hjk, rfl⟩
    · exact hz'
    · exact fun g hg => ⟨(h.lies _ (List.getElem_mem _) g hg).1, Nat.lt_of_lt_of_le (h.lies _ (List.getElem_mem _) g hg).2 ho.size⟩
  · have hi' : i < L.length := by simpa using hi
    have hj' : j < L.length := by simpa using hj
    rw [List.getElem_set] at hg hg'
    by_cases c1 : k = i
    · rw [if_pos c1] at hg
      rw [if_neg (by omega)] at hg'
      rcases hz g hg with q | q
      · exact off j hj' (by omega) g hg' q
      · have := (h.lies _ (List.getElem_mem hj') g hg').2
        omega
    · rw [if_neg c1] at hg
      by_cases c2 : k = j
      · rw [if_pos c2] at hg'
        rcases hz g hg' with q | q
        · exact off i hi' (by omega) g hg q
        · have := (h.lies _ (List.getElem_mem hi') g hg).2
          omega
      · rw [if_neg c2] at hg'
        exact hpw i j hi' hj' hij g hg hg'
  · refine h.inv.keep ho.size (fun g _ hn hl => ho.block g hl fun q => hn ⟨r, hm, q⟩) fun g hl m => ?_
    obtain ⟨x, hx, hg⟩ := m
    rcases others x hx with rfl | ⟨j, hj, _, rfl⟩
    · rcases hz g hg with q | q
      · exact ⟨r, hm, q⟩
      · omega
    · exact ⟨_, List.getElem_mem _, hg⟩
/-- The first thing is kept for good. -/
theorem Fm.own {r : Rs} (h : Fm w0 (r :: L) I w) (k : ∀ W : World, I W → (∀ g, r.Z g → W.heap[g]? = w.heap[g]?) → J W) : Fm w0 L J w := by
  have hp := List.pairwise_cons.1 h.apart
  refine ⟨h.bel, fun x hx => h.ok x (List.mem_cons_of_mem _ hx), fun x hx => h.has x (List.mem_cons_of_mem _ hx), fun x hx => h.lies x (List.mem_cons_of_mem _ hx), hp.2, fun W hW => k W (h.inv W fun g hg hn hl => hW g hg (fun m => hn ?_) hl) fun g hg => ?_⟩
  · obtain ⟨x, hx, q⟩ := m
    exact ⟨x, List.mem_cons_of_mem _ hx, q⟩
  · have hl := h.lies r List.mem_cons_self g hg
    refine hW g hl.1 (fun m => ?_) hl.2
    obtain ⟨x, hx, q⟩ := m
    exact hp.1 x hx g hg q
theorem Fm.drop {r : Rs} (h : Fm w0 (r :: L) I w) : Fm w0 L I w := h.own fun _ h _ => h
theorem Fm.drops {K : List Rs} (h : Fm w0 (K ++ L) I w) : Fm w0 L I w := by
  induction K with
  | nil => exact h
  | cons r K ih => exact ih (Fm.drop (L := K ++ L) h)
/-- In another order. -/
theorem Fm.perm {L' : List Rs} (h : Fm w0 L I w) (hp : L.Perm L') : Fm w0 L' I w := by
  refine ⟨h.bel, fun r hr => h.ok r (hp.mem_iff.2 hr), fun r hr => h.has r (hp.mem_iff.2 hr), fun r hr => h.lies r (hp.mem_iff.2 hr), (hp.pairwise_iff fun {a b} hab k hb ha => hab k ha hb).1 h.apart, fun W hW => h.inv W fun g hg hn hl => hW g hg (fun m => hn ?_) hl⟩
  obtain ⟨x, hx, q⟩ := m
  exact ⟨x, hp.mem_iff.2 hx, q⟩
theorem Fm.at (h : Fm w0 L I w) (k : Nat) {r : Rs} (hk : L[k]? = some r) : r.H w := h.has r (List.mem_of_getElem? hk)
/-! ### boxes, rows -/
def bx (b : Nat) (o : Obj) : Rs := ⟨fun k => k = b, fun w => w.heap[b]? = some o⟩
theorem bx_ok (b : Nat) (o : Obj) : (bx b o).ok := fun _ _ h ho => (ho.block b (Array.getElem?_eq_some_iff.1 h).1 fun q => q rfl).trans h
def rw_ (B : Nat) (T : TypeId) (size : Nat) (v : Value) (n : Nat) (xs : List Value) : Rs := ⟨fun k => v.ownBlock = some k, fun w => w.ownsRow B T size v n xs⟩
theorem rw_ok (B : Nat) (T : TypeId) (size : Nat) (v : Value) (n : Nat) (xs : List Value) : (rw_ B T size v n xs).ok := fun _ _ h ho => own_kept h fun g hg => ho.block g (h.lt g hg).2 fun q => q hg
theorem Fm.box (h : Fm w0 L I w) (o : Obj) : Fm w0 (bx w.heap.size o :: L) I (w.alloc o) := by
  refine h.push ((Below.refl _ _).alloc (Nat.le_refl _) _) (bx_ok _ _) (heap_alloc_new w o) fun k hk => ?_
  rw [show k = w.heap.size from hk]
  simp
theorem only_set (w : World) (p : Addr) (u : Value) : Only (fun k => k = p.block) w (w.setCell p u) := (Only.refl (fun k => k = p.block) w).setCell (p := p) rfl u
theorem Fm.put (h : Fm w0 L I w) (k : Nat) {b : Nat} {cs : Array Value} {t : TypeId} (hk : L[k]? = some (bx b (.cells cs t (0, 0)))) (i : Nat) (v : Value) : Fm w0 (L.set k (bx b (.cells (cs.setIfInBounds i v) t (0, 0)))) I (w.setCell ⟨b, i, none⟩ v) :=
  h.turn k hk (only_set w ⟨b, i, none⟩ v) (bx_ok _ _) (heap_setCell_at (h.at k hk) v) fun _ hg => Or.inl hg
theorem Fm.grow (h : Fm w0 L I w) (k : Nat) {B : Nat} {T : TypeId} {size : Nat} {v v' : Value} {n n' : Nat} {xs xs' : List Value} (hk : L[k]? = some (rw_ B T size v n xs)) (hg : w.grownBy w' v.ownBlock) (ho : w'.ownsRow B T size v' n' xs') (hv : ∀ g, v'.ownBlock = some g → v.ownBlock = some g ∨ w.heap.size ≤ g) : Fm w0 (L.set k (rw_ B T size v' n' xs')) I w' :=
  h.turn k hk ((Only.refl _ _).grown hg fun _ q => q) (rw_ok _ _ _ _ _ _) ho fun g hg' => (hv g hg').imp id fun q => ⟨q, (ho.lt g hg').2⟩
theorem Fm.fresh (h : Fm w0 L I w) (B : Nat) (T : TypeId) (size : Nat) : Fm w0 (rw_ B T size (.slice none 0 0) 0 [] :: L) I w := by
  refine h.push (Below.refl _ _) (rw_ok _ _ _ _ _ _) (World.ownsRow_nil _ _ _ _) fun k hk => ?_
  have : (Value.slice none 0 0).ownBlock = some k := hk
  cases this
end
end Go.Proofs.Ytefdhmdkcpgfcaa
