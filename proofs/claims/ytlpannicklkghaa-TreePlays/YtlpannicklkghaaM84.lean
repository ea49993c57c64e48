/- Plain mathematics of layer 7: what grow keeps, from the leaf up. -/
import Derived.Test.YtlpannicklkghaaM82
namespace Go.Proofs.Ytlpannicklkghaa

/-! ### a bound that is lowered -/
def lowK (key k : ByteArray) : ByteArray := if kl key k then key else k
def lowIt (key : ByteArray) (i : It) : It := ⟨lowK key i.key, i.val, i.kid⟩
def Ctx.lower (key : ByteArray) (c : Ctx) : Ctx := ⟨c.SA, (c.s.1, ⟨c.s.2.lo.map (lowK key), c.s.2.hi⟩), c.SC⟩
theorem lowK_le (key k : ByteArray) : kl k (lowK key k) = false := by
  unfold lowK
  split
  · rename_i h; exact kl_asymm h
  · exact kl_irrefl _
theorem lowK_le' (key k : ByteArray) : kl key (lowK key k) = false := by
  unfold lowK
  split
  · exact kl_irrefl _
  · rename_i h; simpa using h
theorem lowK_id {key k : ByteArray} (h : kl key k = false) : lowK key k = k := by unfold lowK; simp [h]
theorem inLo_lower {key k : ByteArray} {lo : Option ByteArray} (h : inLo lo k) : inLo (lo.map (lowK key)) k := fun l e => by
  cases lo with
  | none => cases e
  | some l0 =>
    obtain rfl := Option.some.inj e
    exact kl_le_trans (lowK_le key l0) (h l0 rfl)
theorem inLo_lower_key (key : ByteArray) (lo : Option ByteArray) : inLo (lo.map (lowK key)) key := fun l e => by
  cases lo with
  | none => cases e
  | some l0 =>
    obtain rfl := Option.some.inj e
    exact lowK_le' key l0
theorem inLo_lowK {key k : ByteArray} {lo : Option ByteArray} (h : inLo lo k) : inLo (lo.map (lowK key)) (lowK key k) := by
  unfold lowK
  split
  · exact inLo_lower_key key lo
  · exact inLo_lower h
theorem Ctx.lower_wide (key : ByteArray) (c : Ctx) : WideS c.all (c.lower key).all := WideS.append (WideS.refl _) ⟨⟨rfl, fun _ h => inLo_lower h, fun _ h => h⟩, WideS.refl _⟩

/-! ### widths -/
def lowB (m : Nat) (top last : Bool) : Nat := if top then (if last then 0 else 2) else m / 2
def WLv (m : Nat) (top : Bool) : List (List Nd) → Prop
  | [] => True
  | L :: r => (∀ n ∈ L, lowB m top r.isEmpty ≤ n.its.length ∧ n.its.length ≤ m) ∧ WLv m false r
def WF (m : Nat) : List Fr → Prop
  | [] => True
  | f :: fs => (∀ n ∈ f.lvl, lowB m fs.isEmpty false ≤ n.its.length ∧ n.its.length ≤ m) ∧ WF m fs
/-- The items of the leaves. -/
def items (ls : List (List Nd)) : List It := (ls.getLast?.getD []).flatMap (·.its)
theorem items_cons (L M : List Nd) (r : List (List Nd)) : items (L :: M :: r) = items (M :: r) := by simp [items]
theorem items_one (L : List Nd) : items [L] = L.flatMap (·.its) := by simp [items]
theorem items_append (a : List (List Nd)) {b : List (List Nd)} (hb : b ≠ []) : items (a ++ b) = items b := by
  unfold items
  rw [List.getLast?_append]
  obtain ⟨x, hx⟩ := Option.ne_none_iff_exists'.1 (fun e => hb (List.getLast?_eq_none_iff.1 e))
  rw [hx]
  rfl
theorem items_split (A C : List Nd) (n n1 n2 : Nd) (low : List (List Nd)) (h : n.its = n1.its ++ n2.its) : items ((A ++ n1 :: n2 :: C) :: low) = items ((A ++ n :: C) :: low) := by
  cases low with
  | nil => simp [items_one, h]
  | cons M r => rw [items_cons, items_cons]

/-! ### what grow keeps -/
structure GI (key : ByteArray) (m : Nat) (c : Ctx) (top : Bool) (A : List Nd) (n : Nd) (C : List Nd) (low : List (List Nd)) : Prop where
  good : Good (c.lower key).all ((A ++ n :: C) :: low)
  pos : c.SA.length = A.length
  wid : ∀ x ∈ A ++ C, lowB m top low.isEmpty ≤ x.its.length ∧ x.its.length ≤ m
  wn : lowB m top low.isEmpty ≤ n.its.length ∧ n.its.length ≤ m + 1
  wlow : WLv m false low
theorem good_fits {S : List Slot} {L : List Nd} {low : List (List Nd)} (h : Good S (L :: low)) : Fits S L := by
  cases low with
  | nil => exact (good_leaf.1 h).1
  | cons M r => exact (good_mid.1 h).1
theorem GI.node {key : ByteArray} {m : Nat} {c : Ctx} {top : Bool} {A C : List Nd} {n : Nd} {low : List (List Nd)} (h : GI key m c top A n C low) : n.b = c.s.1 ∧ NodeOk n (c.lower key).s.2 := ((fits_append h.pos).1 (good_fits h.good)).2.1
/-- A node of a level parts. -/
theorem split_good {SA SC : List Slot} {s : Slot} {A C : List Nd} {n n1 n2 : Nd} {low : List (List Nd)} {x : It} {r : List It} (h : Good (SA ++ s :: SC) ((A ++ n :: C) :: low)) (hl : SA.length = A.length) (hn : n.its = n1.its ++ n2.its) (h1 : n1.its ≠ []) (h2 : n2.its = x :: r) (hb : n1.b = n.b) :
    Good (SA ++ (s.1, ⟨s.2.lo, some x.key⟩) :: (n2.b, ⟨some x.key, s.2.hi⟩) :: SC) ((A ++ n1 :: n2 :: C) :: low) := by
  obtain ⟨hfa, ⟨hnb, hok⟩, hfc⟩ := (fits_append hl).1 (good_fits h)
  have hs := hok.srt
  rw [hn] at hs
  obtain ⟨hs1, hs2, hs12⟩ := List.pairwise_append.1 hs
  have hk1 : NodeOk n1 ⟨s.2.lo, some x.key⟩ := ⟨hs1, fun y hy => ⟨(hok.mem y (by rw [hn]; exact List.mem_append_left _ hy)).1, fun q e => by
    obtain rfl := Option.some.inj e
    exact hs12 y hy x (by rw [h2]; simp)⟩⟩
  have hk2 : NodeOk n2 ⟨some x.key, s.2.hi⟩ := ⟨hs2, fun y hy => ⟨fun q e => by
    obtain rfl := Option.some.inj e
    rw [h2] at hs2 hy
    rcases List.mem_cons.1 hy with rfl | hy
    · exact kl_irrefl _
    · exact kl_asymm ((List.pairwise_cons.1 hs2).1 y hy), (hok.mem y (by rw [hn]; exact List.mem_append_right _ hy)).2⟩⟩
  have hf : Fits (SA ++ (s.1, ⟨s.2.lo, some x.key⟩) :: (n2.b, ⟨some x.key, s.2.hi⟩) :: SC) (A ++ n1 :: n2 :: C) := (fits_append hl).2 ⟨hfa, ⟨hb.trans hnb, hk1⟩, ⟨rfl, hk2⟩, hfc⟩
  cases low with
  | nil =>
    have hlf := (good_leaf.1 h).2
    refine good_leaf.2 ⟨hf, fun y hy => ?_⟩
    have hn0 := hlf n (by simp)
    rcases List.mem_append.1 hy with hy | hy
    · exact hlf y (List.mem_append_left _ hy)
    · rcases List.mem_cons.1 hy with rfl | hy
      · exact fun z hz => hn0 z (by rw [hn]; exact List.mem_append_left _ hz)
      · rcases List.mem_cons.1 hy with rfl | hy
        · exact fun z hz => hn0 z (by rw [hn]; exact List.mem_append_right _ hz)
        · exact hlf y (List.mem_append_right _ (List.mem_cons_of_mem _ hy))
  | cons M q =>
    obtain ⟨_, hmid, hg⟩ := good_mid.1 h
    have hn0 := hmid n (by simp)
    refine good_mid.2 ⟨hf, fun y hy => ?_, ?_⟩
    · rcases List.mem_append.1 hy with hy | hy
      · exact hmid y (List.mem_append_left _ hy)
      · rcases List.mem_cons.1 hy with rfl | hy
        · exact ⟨h1, fun z hz => hn0.kid z (by rw [hn]; exact List.mem_append_left _ hz)⟩
        · rcases List.mem_cons.1 hy with rfl | hy
          · exact ⟨by rw [h2]; simp, fun z hz => hn0.kid z (by rw [hn]; exact List.mem_append_right _ hz)⟩
          · exact hmid y (List.mem_append_right _ (List.mem_cons_of_mem _ hy))
    · have e : slots (SA ++ (s.1, (⟨s.2.lo, some x.key⟩ : Iv)) :: (n2.b, (⟨some x.key, s.2.hi⟩ : Iv)) :: SC) (A ++ n1 :: n2 :: C) = slots (SA ++ s :: SC) (A ++ n :: C) := by
        rw [slots_append hl, slots_append hl]
        show slots SA A ++ (nslots n1.its (some x.key) ++ (nslots n2.its s.2.hi ++ slots SC C)) = slots SA A ++ (nslots n.its s.2.hi ++ slots SC C)
        rw [hn, nslots_append, h2, List.append_assoc]
        rfl
      rw [e]
      exact hg
/-- Where a step of the way has its bound lowered. -/
theorem low_same {key : ByteArray} {c : Ctx} {f : Fr} (hf : FrOk key c f) : f.X = [] ∨ lowK key f.it.key = f.it.key := hf.ahead.imp id lowK_id
theorem low_sorted {key : ByteArray} {c : Ctx} {f : Fr} (hf : FrOk key c f) : Srt (f.X ++ lowIt key f.it :: f.Y) := by
  have hs := hf.ok.srt
  rw [hf.its] at hs
  obtain ⟨h1, h2, h3⟩ := List.pairwise_append.1 hs
  obtain ⟨h4, h5⟩ := List.pairwise_cons.1 h2
  refine List.pairwise_append.2 ⟨h1, List.pairwise_cons.2 ⟨fun y hy => ?_, h5⟩, fun a ha b hb => ?_⟩
  · exact kl_le_lt (lowK_le key f.it.key) (h4 y hy)
  · rcases low_same hf with e | e
    · rw [e] at ha; simp at ha
    · rcases List.mem_cons.1 hb with rfl | hb
      · show kl a.key (lowK key f.it.key) = true
        rw [e]
        exact h3 a ha _ (by simp)
      · exact h3 a ha _ (by simp [hb])
theorem low_mem {key : ByteArray} {c : Ctx} {f : Fr} (hf : FrOk key c f) (_hl : Loc key c) : ∀ x ∈ f.X ++ lowIt key f.it :: f.Y, inIv (c.lower key).s.2 x.key := by
  have hm := hf.ok.mem
  rw [hf.its] at hm
  intro x hx
  rcases List.mem_append.1 hx with hx | hx
  · exact ⟨inLo_lower (hm x (by simp [hx])).1, (hm x (by simp [hx])).2⟩
  · rcases List.mem_cons.1 hx with rfl | hx
    · refine ⟨inLo_lowK (hm f.it (by simp)).1, fun h e => ?_⟩
      show kl (lowK key f.it.key) h = true
      exact kl_le_lt (lowK_le key f.it.key) ((hm f.it (by simp)).2 h e)
    · exact ⟨inLo_lower (hm x (by simp [hx])).1, (hm x (by simp [hx])).2⟩
/-- The slots below a step whose bound was lowered. -/
theorem lower_step {key : ByteArray} {c : Ctx} {f : Fr} (hf : FrOk key c f) : (c.step f).lower key = (c.lower key).step ⟨f.A, f.n, f.C, f.X, lowIt key f.it, f.Y⟩ := by
  unfold Ctx.lower Ctx.step
  have e : nslots f.X (some f.it.key) = nslots f.X (some (lowK key f.it.key)) := by
    rcases low_same hf with e | e
    · rw [e]; rfl
    · rw [e]
  simp only [e]
  rfl
theorem mid_of {key : ByteArray} {c : Ctx} {f : Fr} (hf : FrOk key c f) {p : Nd} (hk : ∀ x ∈ p.its, (∃ y ∈ f.n.its, x.kid = y.kid) ∨ ∃ b, x.kid = some b) (hne : p.its ≠ []) : ∀ x ∈ f.A ++ p :: f.C, MidN x := fun x hx => by
  rcases List.mem_append.1 hx with hx | hx
  · exact hf.mid x (List.mem_append_left _ hx)
  · rcases List.mem_cons.1 hx with rfl | hx
    · refine ⟨hne, fun y hy => ?_⟩
      rcases hk y hy with ⟨z, hz, e⟩ | h
      · rw [e]; exact (hf.mid f.n (by simp [Fr.lvl])).kid z hz
      · exact h
    · exact hf.mid x (List.mem_append_right _ (List.mem_cons_of_mem _ hx))
/-- A step up where nothing parts. -/
theorem GI.keep {key : ByteArray} {m : Nat} {c : Ctx} {f : Fr} {top : Bool} {A C : List Nd} {n p : Nd} {low : List (List Nd)} (hf : FrOk key c f) (hl : Loc key c) (hw : ∀ x ∈ f.lvl, lowB m top false ≤ x.its.length ∧ x.its.length ≤ m) (h : GI key m (c.step f) false A n C low) (hn : n.its.length ≤ m) (hp : p.b = f.n.b) (hi : p.its = f.X ++ lowIt key f.it :: f.Y) :
    GI key m c top f.A p f.C ((A ++ n :: C) :: low) := by
  have hlen : p.its.length = f.n.its.length := by rw [hi, hf.its]; simp
  have hwn := hw f.n (by simp [Fr.lvl])
  refine ⟨good_mid.2 ⟨(fits_append hf.fa.length).2 ⟨hf.fa, ⟨hp.trans hf.nb, ⟨?_, ?_⟩⟩, hf.fc⟩, mid_of hf (fun x hx => Or.inl ?_) (by rw [hi]; simp), ?_⟩, hf.fa.length, fun x hx => ?_, ⟨by rw [hlen]; exact hwn.1, by omega⟩, ⟨fun x hx => ?_, h.wlow⟩⟩
  · rw [hi]; exact low_sorted hf
  · rw [hi]; exact low_mem hf hl
  · rw [hi] at hx
    rw [hf.its]
    rcases List.mem_append.1 hx with hx | hx
    · exact ⟨x, by simp [hx], rfl⟩
    · rcases List.mem_cons.1 hx with rfl | hx
      · exact ⟨f.it, by simp, rfl⟩
      · exact ⟨x, by simp [hx], rfl⟩
  · have hg := h.good
    rw [lower_step hf] at hg
    have := Ctx.step_all (c.lower key) ⟨f.A, p, f.C, f.X, lowIt key f.it, f.Y⟩ hf.fa.length hi
    show Good (slots (c.lower key).all (f.A ++ p :: f.C)) _
    rw [show f.A ++ p :: f.C = Fr.lvl ⟨f.A, p, f.C, f.X, lowIt key f.it, f.Y⟩ from rfl, this]
    exact hg
  · refine hw x ?_
    rcases List.mem_append.1 hx with hx | hx
    · exact List.mem_append_left _ hx
    · exact List.mem_append_right _ (List.mem_cons_of_mem _ hx)
  · rcases List.mem_append.1 hx with hx | hx
    · exact h.wid x (List.mem_append_left _ hx)
    · rcases List.mem_cons.1 hx with rfl | hx
      · exact ⟨h.wn.1, hn⟩
      · exact h.wid x (List.mem_append_right _ hx)
/-- A step up where the kid parts. -/
theorem GI.split {key : ByteArray} {m : Nat} {c : Ctx} {f : Fr} {top : Bool} {A C : List Nd} {n n1 n2 p : Nd} {low : List (List Nd)} {x : It} {r : List It} {vl : ByteArray} (hf : FrOk key c f) (hl : Loc key c) (hw : ∀ y ∈ f.A ++ f.C, lowB m top false ≤ y.its.length ∧ y.its.length ≤ m) (hwn : lowB m top false ≤ f.n.its.length + 1 ∧ f.n.its.length ≤ m) (h : GI key m (c.step f) false A n C low) (hm : 1 ≤ m) (hn : m < n.its.length) (hn1 : n1.its = n.its.take (n.its.length / 2)) (hn2 : n.its.drop (n.its.length / 2) = x :: r) (hn3 : n2.its = x :: r) (hb : n1.b = n.b) (hp : p.b = f.n.b) (hi : p.its = f.X ++ lowIt key f.it :: ⟨x.key, vl, some n2.b⟩ :: f.Y) :
    GI key m c top f.A p f.C ((A ++ n1 :: n2 :: C) :: low) := by
  have hlen : p.its.length = f.n.its.length + 1 := by rw [hi, hf.its]; simp; omega
  have hnn : n.its = n1.its ++ n2.its := by rw [hn1, hn3, ← hn2, List.take_append_drop]
  have hl1 : n1.its.length = n.its.length / 2 := by rw [hn1, List.length_take]; omega
  have hl2 : n2.its.length = n.its.length - n.its.length / 2 := by rw [hn3, ← hn2, List.length_drop]
  have hne1 : n1.its ≠ [] := fun e => by rw [e] at hl1; simp at hl1; omega
  have hwn' := h.wn
  obtain ⟨_, hok⟩ := h.node
  have hokm : inIv ((c.step f).lower key).s.2 x.key := hok.mem x (by rw [hnn, hn3]; simp)
  have hxlo : kl (lowK key f.it.key) x.key = true := by
    obtain ⟨t, T, e⟩ := List.exists_cons_of_ne_nil hne1
    have h1 : kl t.key (lowK key f.it.key) = false := (hok.mem t (by rw [hnn, e]; simp)).1 _ rfl
    have hs := hok.srt
    rw [hnn] at hs
    exact kl_le_lt h1 ((List.pairwise_append.1 hs).2.2 t (by rw [e]; simp) x (by rw [hn3]; simp))
  have hxhi : inHi (hiOf f.Y c.s.2.hi) x.key := hokm.2
  have hsl := low_sorted hf
  obtain ⟨h1, h2, h3⟩ := List.pairwise_append.1 hsl
  obtain ⟨h4, h5⟩ := List.pairwise_cons.1 h2
  have hxY : ∀ y ∈ f.Y, kl x.key y.key = true := by
    cases hY : f.Y with
    | nil => intro y hy; simp at hy
    | cons y0 Y =>
      intro y hy
      rw [hY] at hxhi h5
      have h6 := hxhi y0.key rfl
      rcases List.mem_cons.1 hy with rfl | hy
      · exact h6
      · exact kl_trans h6 ((List.pairwise_cons.1 h5).1 y hy)
  refine ⟨good_mid.2 ⟨(fits_append hf.fa.length).2 ⟨hf.fa, ⟨hp.trans hf.nb, ⟨?_, ?_⟩⟩, hf.fc⟩, mid_of hf (fun y hy => ?_) (by rw [hi]; simp), ?_⟩, hf.fa.length, hw, ⟨by rw [hlen]; exact hwn.1, by omega⟩, ⟨fun y hy => ?_, h.wlow⟩⟩
  · rw [hi]
    refine List.pairwise_append.2 ⟨h1, List.pairwise_cons.2 ⟨fun y hy => ?_, List.pairwise_cons.2 ⟨hxY, h5⟩⟩, fun a ha b hb => ?_⟩
    · rcases List.mem_cons.1 hy with rfl | hy
      · exact hxlo
      · exact h4 y hy
    · have hab := h3 a ha (lowIt key f.it) (by simp)
      rcases List.mem_cons.1 hb with rfl | hb
      · exact hab
      · rcases List.mem_cons.1 hb with rfl | hb
        · exact kl_trans hab hxlo
        · exact h3 a ha b (by simp [hb])
  · have hm := low_mem hf hl
    rw [hi]
    intro y hy
    rcases List.mem_append.1 hy with hy | hy
    · exact hm y (by simp [hy])
    · rcases List.mem_cons.1 hy with rfl | hy
      · exact hm _ (by simp)
      · rcases List.mem_cons.1 hy with rfl | hy
        · refine ⟨fun l e => ?_, fun q e => ?_⟩
          · exact kl_le_trans ((hm (lowIt key f.it) (by simp)).1 l e) (kl_asymm hxlo)
          · cases hY : f.Y with
            | nil => rw [hY] at hxhi; exact hxhi q e
            | cons y0 Y => exact kl_trans (hxY y0 (by rw [hY]; simp)) ((hm y0 (by rw [hY]; simp)).2 q e)
        · exact hm y (by simp [hy])
  · rw [hi] at hy
    rw [hf.its]
    rcases List.mem_append.1 hy with hy | hy
    · exact Or.inl ⟨y, by simp [hy], rfl⟩
    · rcases List.mem_cons.1 hy with rfl | hy
      · exact Or.inl ⟨f.it, by simp, rfl⟩
      · rcases List.mem_cons.1 hy with rfl | hy
        · exact Or.inr ⟨_, rfl⟩
        · exact Or.inl ⟨y, by simp [hy], rfl⟩
  · have hg := h.good
    rw [lower_step hf] at hg
    have e : slots (c.lower key).all (f.A ++ p :: f.C) = (slots c.SA f.A ++ nslots f.X (some (lowK key f.it.key))) ++ ((f.it.kid.getD 0, (⟨some (lowK key f.it.key), some x.key⟩ : Iv)) :: (n2.b, (⟨some x.key, hiOf f.Y c.s.2.hi⟩ : Iv)) :: (nslots f.Y c.s.2.hi ++ slots c.SC f.C)) := by
      unfold Ctx.all Ctx.lower
      rw [slots_append hf.fa.length]
      show slots c.SA f.A ++ (nslots p.its c.s.2.hi ++ slots c.SC f.C) = _
      rw [hi, nslots_append]
      simp [nslots, hiOf, lowIt]
    rw [e]
    exact split_good (s := (f.it.kid.getD 0, ⟨some (lowK key f.it.key), hiOf f.Y c.s.2.hi⟩)) hg (by have := h.pos; unfold Ctx.step at this; simpa [nslots_length] using this) hnn hne1 hn3 hb
  · rcases List.mem_append.1 hy with hy | hy
    · exact h.wid y (List.mem_append_left _ hy)
    · have hlb : lowB m false low.isEmpty = m / 2 := rfl
      rcases List.mem_cons.1 hy with rfl | hy
      · rw [hlb, hl1]; omega
      · rcases List.mem_cons.1 hy with rfl | hy
        · rw [hlb, hl2]; omega
        · exact h.wid y (List.mem_append_right _ hy)
end Go.Proofs.Ytlpannicklkghaa
