/- Plain mathematics of layer 7: the way down a tree, and what lies beside it. -/
import Derived.Test.YtlpannicklkghaaM81
namespace Go.Proofs.Ytlpannicklkghaa

/-! ### nodes of a level, each with the one behind it -/
def hd : List Nd → Option Nat → Option Nat
  | [], nx => nx
  | n :: _, _ => some n.b
def linkN (nx : Option Nat) : List Nd → List (Nd × Option Nat)
  | [] => []
  | n :: r => (n, hd r nx) :: linkN nx r
def allX (ls : List (List Nd)) : List (Nd × Option Nat) := ls.flatMap (linkN none)
theorem hd_append (A B : List Nd) (nx : Option Nat) : hd (A ++ B) nx = hd A (hd B nx) := by cases A <;> rfl
theorem linkN_append (nx : Option Nat) : ∀ (A B : List Nd), linkN nx (A ++ B) = linkN (hd B nx) A ++ linkN nx B
  | [], _ => rfl
  | n :: A, B => by
    show (n, hd (A ++ B) nx) :: linkN nx (A ++ B) = (n, hd A (hd B nx)) :: (linkN (hd B nx) A ++ linkN nx B)
    rw [linkN_append nx A B, hd_append]
theorem linkN_mem {nx : Option Nat} : ∀ {L : List Nd} {n : Nd}, n ∈ L → ∃ y, (n, y) ∈ linkN nx L
  | m :: L, n, h => by
    rcases List.mem_cons.1 h with rfl | h
    · exact ⟨_, List.mem_cons_self ..⟩
    · obtain ⟨y, hy⟩ := linkN_mem (nx := nx) h
      exact ⟨y, List.mem_cons_of_mem _ hy⟩
theorem allX_append (a b : List (List Nd)) : allX (a ++ b) = allX a ++ allX b := by simp [allX]
theorem allX_cons (L : List Nd) (b : List (List Nd)) : allX (L :: b) = linkN none L ++ allX b := by simp [allX]
/-- What is left beside a node of a level. -/
theorem perm_one (pre post : List (List Nd)) (A C : List Nd) (n : Nd) : (allX (pre ++ (A ++ n :: C) :: post)).Perm ((n, hd C none) :: (allX pre ++ (linkN (some n.b) A ++ (linkN none C ++ allX post)))) := by
  rw [allX_append, allX_cons, linkN_append]
  show (allX pre ++ (linkN (some n.b) A ++ (n, hd C none) :: linkN none C ++ allX post)).Perm _
  rw [List.append_assoc]
  refine (List.Perm.append_left _ ?_).trans List.perm_middle
  show (linkN (some n.b) A ++ (n, hd C none) :: (linkN none C ++ allX post)).Perm ((n, hd C none) :: (linkN (some n.b) A ++ (linkN none C ++ allX post)))
  exact List.perm_middle

/-! ### the way down -/
structure Fr where
  A : List Nd
  n : Nd
  C : List Nd
  X : List It
  it : It
  Y : List It
def Fr.lvl (f : Fr) : List Nd := f.A ++ f.n :: f.C
structure Ctx where
  SA : List Slot
  s : Slot
  SC : List Slot
def Ctx.all (c : Ctx) : List Slot := c.SA ++ c.s :: c.SC
def Ctx.step (c : Ctx) (f : Fr) : Ctx := ⟨slots c.SA f.A ++ nslots f.X (some f.it.key), (f.it.kid.getD 0, ⟨some f.it.key, hiOf f.Y c.s.2.hi⟩), nslots f.Y c.s.2.hi ++ slots c.SC f.C⟩
structure FrOk (key : ByteArray) (c : Ctx) (f : Fr) : Prop where
  fa : Fits c.SA f.A
  nb : f.n.b = c.s.1
  ok : NodeOk f.n c.s.2
  fc : Fits c.SC f.C
  mid : ∀ n ∈ f.lvl, MidN n
  its : f.n.its = f.X ++ f.it :: f.Y
  after : ∀ y ∈ f.Y, kl key y.key = true
  ahead : f.X = [] ∨ kl key f.it.key = false
structure Loc (key : ByteArray) (c : Ctx) : Prop where
  a : ∀ t ∈ c.SA, ∃ h, t.2.hi = some h ∧ kl key h = false
  hi : inHi c.s.2.hi key
  c : ∀ t ∈ c.SC, ∃ l, t.2.lo = some l ∧ kl key l = true
theorem Ctx.step_all (c : Ctx) (f : Fr) (hl : c.SA.length = f.A.length) (hi : f.n.its = f.X ++ f.it :: f.Y) : slots c.all f.lvl = (c.step f).all := by
  unfold Ctx.all Fr.lvl Ctx.step
  rw [slots_append hl]
  show slots c.SA f.A ++ (nslots f.n.its c.s.2.hi ++ slots c.SC f.C) = _
  rw [hi, nslots_append]
  simp [nslots, hiOf]
theorem nslots_hi {key : ByteArray} : ∀ {l : List It} {hi : Option ByteArray}, (∀ x ∈ l, kl key x.key = false) → (∀ h, hi = some h → kl key h = false) → hi ≠ none → ∀ t ∈ nslots l hi, ∃ h, t.2.hi = some h ∧ kl key h = false
  | [], _, _, _, _, t, ht => by simp [nslots] at ht
  | i :: r, hi, h1, h2, h3, t, ht => by
    rw [nslots] at ht
    rcases List.mem_cons.1 ht with rfl | ht
    · cases r with
      | nil =>
        obtain ⟨h, e⟩ := Option.ne_none_iff_exists'.1 h3
        exact ⟨h, e, h2 h e⟩
      | cons j r => exact ⟨j.key, rfl, h1 j (by simp)⟩
    · exact nslots_hi (fun x hx => h1 x (List.mem_cons_of_mem _ hx)) h2 h3 t ht
theorem nslots_lo {key : ByteArray} : ∀ {l : List It} {hi : Option ByteArray}, (∀ x ∈ l, kl key x.key = true) → ∀ t ∈ nslots l hi, ∃ lo, t.2.lo = some lo ∧ kl key lo = true
  | [], _, _, t, ht => by simp [nslots] at ht
  | i :: r, hi, h1, t, ht => by
    rw [nslots] at ht
    rcases List.mem_cons.1 ht with rfl | ht
    · exact ⟨i.key, rfl, h1 i (by simp)⟩
    · exact nslots_lo (fun x hx => h1 x (List.mem_cons_of_mem _ hx)) t ht
theorem slots_hi {key : ByteArray} : ∀ {S : List Slot} {L : List Nd}, Fits S L → (∀ t ∈ S, ∃ h, t.2.hi = some h ∧ kl key h = false) → ∀ t ∈ slots S L, ∃ h, t.2.hi = some h ∧ kl key h = false
  | [], [], _, _, t, ht => by simp [slots] at ht
  | s :: S, n :: L, hf, h, t, ht => by
    rw [slots] at ht
    rcases List.mem_append.1 ht with ht | ht
    · obtain ⟨hh, e, hk⟩ := h s (by simp)
      refine nslots_hi (fun x hx => ?_) (fun h' e' => ?_) (by rw [e]; simp) t ht
      · have := (hf.1.2.mem x hx).2 hh e
        exact kl_asymm (kl_lt_le this hk)
      · rw [e] at e'
        obtain rfl := Option.some.inj e'
        exact hk
    · exact slots_hi hf.2 (fun t ht => h t (List.mem_cons_of_mem _ ht)) t ht
  | [], _ :: _, hf, _, _, _ => hf.elim
  | _ :: _, [], hf, _, _, _ => hf.elim
theorem slots_lo {key : ByteArray} : ∀ {S : List Slot} {L : List Nd}, Fits S L → (∀ t ∈ S, ∃ l, t.2.lo = some l ∧ kl key l = true) → ∀ t ∈ slots S L, ∃ l, t.2.lo = some l ∧ kl key l = true
  | [], [], _, _, t, ht => by simp [slots] at ht
  | s :: S, n :: L, hf, h, t, ht => by
    rw [slots] at ht
    rcases List.mem_append.1 ht with ht | ht
    · obtain ⟨l, e, hk⟩ := h s (by simp)
      exact nslots_lo (fun x hx => kl_lt_le hk ((hf.1.2.mem x hx).1 l e)) t ht
    · exact slots_lo hf.2 (fun t ht => h t (List.mem_cons_of_mem _ ht)) t ht
  | [], _ :: _, hf, _, _, _ => hf.elim
  | _ :: _, [], hf, _, _, _ => hf.elim
/-- The key stays located on the way down. -/
theorem Loc.step {key : ByteArray} {c : Ctx} {f : Fr} (h : Loc key c) (hf : FrOk key c f) : Loc key (c.step f) := by
  have hs := hf.ok.srt
  rw [hf.its] at hs
  refine ⟨fun t ht => ?_, fun x hx => ?_, fun t ht => ?_⟩
  · rcases List.mem_append.1 ht with ht | ht
    · exact slots_hi hf.fa h.a t ht
    · rcases hf.ahead with e | e
      · rw [e] at ht
        simp [nslots] at ht
      · refine nslots_hi (fun x hx => ?_) (fun h' e' => ?_) (by simp) t ht
        · have := (List.pairwise_append.1 hs).2.2 x hx f.it (by simp)
          exact kl_asymm (kl_lt_le this e)
        · obtain rfl := Option.some.inj e'
          exact e
  · show kl key x = true
    have hx' : hiOf f.Y c.s.2.hi = some x := hx
    match hY : f.Y with
    | [] =>
      rw [hY] at hx'
      exact h.hi x hx'
    | y :: r =>
      rw [hY] at hx'
      obtain rfl := Option.some.inj hx'
      exact hf.after y (by rw [hY]; simp)
  · rcases List.mem_append.1 ht with ht | ht
    · exact nslots_lo hf.after t ht
    · exact slots_lo hf.fc h.c t ht
/-- The frames of a way, the lowest first. -/
def ctxR (r : Slot) : List Fr → Ctx
  | [] => ⟨[], r, []⟩
  | f :: fs => (ctxR r fs).step f
def Frs (key : ByteArray) (r : Slot) : List Fr → Prop
  | [] => True
  | f :: fs => Frs key r fs ∧ FrOk key (ctxR r fs) f
theorem Frs.loc {key : ByteArray} {r : Slot} (hr : r.2.hi = none) : ∀ {fs : List Fr}, Frs key r fs → Loc key (ctxR r fs)
  | [], _ => ⟨fun t ht => by simp [ctxR] at ht, fun h e => by simp [ctxR, hr] at e, fun t ht => by simp [ctxR] at ht⟩
  | _ :: _, h => (Frs.loc hr h.1).step h.2
def lvls (fs : List Fr) : List (List Nd) := fs.reverse.map Fr.lvl
theorem lvls_cons (f : Fr) (fs : List Fr) : lvls (f :: fs) = lvls fs ++ [f.lvl] := by simp [lvls]
theorem FrOk.fits {key : ByteArray} {c : Ctx} {f : Fr} (h : FrOk key c f) : Fits c.all f.lvl := (fits_append h.fa.length).2 ⟨h.fa, ⟨⟨h.nb, h.ok⟩, h.fc⟩⟩
/-- A way and what lies below it, together. -/
theorem Frs.glue {key : ByteArray} {r : Slot} : ∀ {fs : List Fr} {low : List (List Nd)}, Frs key r fs → low ≠ [] → Good (ctxR r fs).all low → Good (ctxR r []).all (lvls fs ++ low)
  | [], low, _, _, h => h
  | f :: fs, low, hf, hne, h => by
    rw [lvls_cons, List.append_assoc]
    refine Frs.glue hf.1 (by simp) ?_
    match low, hne with
    | M :: rest, _ =>
      show Good _ (f.lvl :: M :: rest)
      rw [good_mid]
      refine ⟨hf.2.fits, hf.2.mid, ?_⟩
      rw [Ctx.step_all _ f hf.2.fa.length hf.2.its]
      exact h
end Go.Proofs.Ytlpannicklkghaa
