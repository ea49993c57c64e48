/- Walks of layer 7: a round of grow, in memory. -/
import Derived.Test.YtlpannicklkghaaB11
namespace Go.Proofs.Ytlpannicklkghaa
open Go.RowKit

/-- What grow keeps between two rounds. -/
structure GM (w : World) (Z : Nat → Prop) (t m cnt rb : Nat) (key : ByteArray) (rs0 : List Fr) (its0 : List It) (W : World) (pre : List Fr) (rest : List Fr) (A : List Nd) (n : Nd) (C : List Nd) (low : List (List Nd)) : Prop where
  rs : rs0 = pre ++ rest
  frs : Frs key (rb, ⟨none, none⟩) rest
  wf : WF m rest
  gi : GI key m (ctxR (rb, ⟨none, none⟩) rest) rest.isEmpty A n C low
  hp : Hp W Z (allX (lvls rest ++ (A ++ n :: C) :: low))
  its : items ((A ++ n :: C) :: low) = its0
  only : Only Z w W
  tr : TrAt W t m cnt rb
/-- A step's node, its bound lowered. -/
def lowN (key : ByteArray) (f : Fr) : Nd := ⟨f.n.b, f.n.v, f.X ++ lowIt key f.it :: f.Y⟩
theorem lowN_same {key : ByteArray} {c : Ctx} {f : Fr} {k0 : It} {r : List It} (hf : FrOk key c f) (h0 : f.n.its = k0 :: r) (hk : kl key k0.key = false) : lowN key f = f.n := by
  have e : f.X ++ lowIt key f.it :: f.Y = f.n.its := by
    rw [hf.its]
    have e2 : lowIt key f.it = f.it := by
      unfold lowIt
      have hik : kl key f.it.key = false := by
        rcases hf.ahead with e | e
        · have h1 := hf.its
          rw [e, List.nil_append, h0] at h1
          obtain ⟨rfl, _⟩ := List.cons.inj h1
          exact hk
        · exact e
      rw [lowK_id hik]
    rw [e2]
  unfold lowN
  rw [e]
theorem lowN_less {key : ByteArray} {c : Ctx} {f : Fr} {k0 : It} {r : List It} (hf : FrOk key c f) (h0 : f.n.its = k0 :: r) (hk : kl key k0.key = true) : (lowN key f).its = ⟨key, k0.val, k0.kid⟩ :: r := by
  have hX : f.X = [] := by
    rcases hf.ahead with e | e
    · exact e
    · match hx : f.X with
      | [] => rfl
      | y :: X =>
        have h1 := hf.its
        have hs := hf.ok.srt
        rw [h1] at hs
        rw [hx, h0] at h1
        obtain ⟨rfl, _⟩ := List.cons.inj h1
        have := (List.pairwise_append.1 hs).2.2 k0 (by rw [hx]; simp) f.it (by simp)
        have := kl_trans hk this
        rw [e] at this
        cases this
  have h1 := hf.its
  rw [hX, List.nil_append, h0] at h1
  obtain ⟨e1, e2⟩ := List.cons.inj h1
  show f.X ++ lowIt key f.it :: f.Y = _
  rw [hX, ← e1, ← e2]
  show lowIt key k0 :: r = _
  unfold lowIt lowK
  rw [if_pos hk]
theorem ic_first (x : It) (r : List It) (key : ByteArray) : (ic (x :: r)).set 0 (.string key) = ic (⟨key, x.val, x.kid⟩ :: r) := rfl
section
variable {w : World} {Z : Nat → Prop} {t m cnt rb : Nat} {key : ByteArray} {rs0 : List Fr} {its0 : List It} {W : World} {pre : List Fr} {f : Fr} {rest : List Fr} {A : List Nd} {n : Nd} {C : List Nd} {low : List (List Nd)}
def GM.R (f : Fr) (rest : List Fr) (A : List Nd) (n : Nd) (C : List Nd) (low : List (List Nd)) : List NX := restTwo (lvls rest) low f.A f.C A C f.n.b n.b
theorem GM.two (h : GM w Z t m cnt rb key rs0 its0 W pre (f :: rest) A n C low) : Hp W Z ((f.n, hd f.C none) :: (n, hd C none) :: GM.R f rest A n C low) := by
  have := h.hp
  rw [lvls_cons, List.append_assoc] at this
  exact this.perm (perm_two (lvls rest) low f.A f.C A C f.n n)
theorem GM.kid (h : GM w Z t m cnt rb key rs0 its0 W pre (f :: rest) A n C low) : f.it.kid = some n.b := by
  have h1 := h.gi.node.1
  obtain ⟨b, hb⟩ := (h.frs.2.mid f.n (by simp [Fr.lvl])).kid f.it (by rw [h.frs.2.its]; simp)
  rw [hb]
  have : n.b = f.it.kid.getD 0 := h1
  rw [this, hb]
  rfl
theorem GM.plen (h : GM w Z t m cnt rb key rs0 its0 W pre (f :: rest) A n C low) : 0 < f.n.its.length ∧ f.n.its.length ≤ m ∧ f.X.length < f.n.its.length := by
  refine ⟨?_, (h.wf.1 f.n (by simp [Fr.lvl])).2, ?_⟩
  · rw [h.frs.2.its, List.length_append, List.length_cons]; omega
  · rw [h.frs.2.its, List.length_append, List.length_cons]; omega
/-- Nothing is lowered. -/
theorem GM.same (h : GM w Z t m cnt rb key rs0 its0 W pre (f :: rest) A n C low) {k0 : It} {r : List It} (h0 : f.n.its = k0 :: r) (hk : kl key k0.key = false) : Hp W (zd W ((f.n, hd f.C none) :: (n, hd C none) :: GM.R f rest A n C low)) ((lowN key f, hd f.C none) :: (n, hd C none) :: GM.R f rest A n C low) := by
  rw [lowN_same h.frs.2 h0 hk]
  exact h.two.tight
/-- The first bound is lowered. -/
theorem GM.less (h : GM w Z t m cnt rb key rs0 its0 W pre (f :: rest) A n C low) {k0 : It} {r : List It} (h0 : f.n.its = k0 :: r) (hk : kl key k0.key = true) {g cap : Nat} (hv : f.n.v = .slice (some ⟨g, 0, none⟩) f.n.its.length cap) :
    Hp (W.setCell ⟨g, 0, none⟩ (.string key)) (zd W ((f.n, hd f.C none) :: (n, hd C none) :: GM.R f rest A n C low)) ((lowN key f, hd f.C none) :: (n, hd C none) :: GM.R f rest A n C low) ∧ Only (zd W ((f.n, hd f.C none) :: (n, hd C none) :: GM.R f rest A n C low)) W (W.setCell ⟨g, 0, none⟩ (.string key)) := by
  have e := lowN_less h.frs.2 h0 hk
  exact h.two.tight.setItem (its' := (lowN key f).its) (zd_new _ _) hv (by rw [e, h0]; simp) (by rw [h0, e]; exact ic_first k0 r key)
/-- Behind fit: the next round's. -/
theorem GM.next (h : GM w Z t m cnt rb key rs0 its0 W pre (f :: rest) A n C low) (hZ : ∀ k, w.heap.size ≤ k → Z k) (hm : 1 ≤ m) {W1 W2 : World} {D : List NX} (hD : D = (f.n, hd f.C none) :: (n, hd C none) :: GM.R f rest A n C low) (ho1 : Only (zd W D) W W1) (ht : ¬ zd W D t) {e : Ending} (hfit : FitP W1 (zd W D) (lowN key f) n (hd f.C none) (hd C none) (GM.R f rest A n C low) f.X.length m e W2) :
    e = .returned (.tuple #[]) ∧ Only (zd W D) W W2 ∧ ∃ A' n' C' low', GM w Z t m cnt rb key rs0 its0 W2 (pre ++ [f]) rest A' n' C' low' := by
  have hfo := h.frs.2
  have hloc := Frs.loc (r := (rb, ⟨none, none⟩)) rfl h.frs.1
  obtain ⟨he, ho2, hcase⟩ := hfit
  have ho := ho1.trans ho2
  have hzz : ∀ k, k < W2.heap.size → zd W D k → Z k := fun k _ hk => by
    subst hD
    rcases h.two.zone hk with h1 | h1
    · exact h1
    · exact hZ k (Nat.le_trans h.only.size h1)
  have hwz : ∀ k, zd W D k → Z k := fun k hk => by
    subst hD
    rcases h.two.zone hk with h1 | h1
    · exact h1
    · exact hZ k (Nat.le_trans h.only.size h1)
  have honly : Only Z w W2 := h.only.trans (ho.mono hwz)
  have htr : TrAt W2 t m cnt rb := h.tr.kept (ho.block t h.tr.lt ht)
  have hrs : rs0 = (pre ++ [f]) ++ rest := by rw [h.rs]; simp
  have hgi : GI key m ((ctxR (rb, ⟨none, none⟩) rest).step f) false A n C low := h.gi
  refine ⟨he, ho, ?_⟩
  rcases hcase with ⟨hle, hhp⟩ | ⟨hlt, v1, v2, v3, nb, x, r, hdr, _, hhp⟩
  · refine ⟨f.A, lowN key f, f.C, (A ++ n :: C) :: low, hrs, h.frs.1, h.wf.2, hgi.keep hfo hloc h.wf.1 hle rfl rfl, ?_, ?_, honly, htr⟩
    · exact (hhp.perm (perm_two (lvls rest) low f.A f.C A C (lowN key f) n).symm).mono hzz
    · rw [items_cons]; exact h.its
  · have hX : (lowN key f).its.take (f.X.length + 1) ++ ⟨x.key, ⟨#[]⟩, some nb⟩ :: (lowN key f).its.drop (f.X.length + 1) = f.X ++ lowIt key f.it :: ⟨x.key, ⟨#[]⟩, some nb⟩ :: f.Y := by
      show (f.X ++ lowIt key f.it :: f.Y).take (f.X.length + 1) ++ _ :: (f.X ++ lowIt key f.it :: f.Y).drop (f.X.length + 1) = _
      rw [show f.X ++ lowIt key f.it :: f.Y = (f.X ++ [lowIt key f.it]) ++ f.Y by simp, List.take_left' (by simp), List.drop_left' (by simp)]
      simp
    rw [hX] at hhp
    refine ⟨f.A, ⟨f.n.b, v1, f.X ++ lowIt key f.it :: ⟨x.key, ⟨#[]⟩, some nb⟩ :: f.Y⟩, f.C, (A ++ ⟨n.b, v2, n.its.take (n.its.length / 2)⟩ :: ⟨nb, v3, x :: r⟩ :: C) :: low, hrs, h.frs.1, h.wf.2, ?_, ?_, ?_, honly, htr⟩
    · have hwA : ∀ y ∈ f.A ++ f.C, lowB m rest.isEmpty false ≤ y.its.length ∧ y.its.length ≤ m := fun y hy => h.wf.1 y (by
        rcases List.mem_append.1 hy with hy | hy
        · exact List.mem_append_left _ hy
        · exact List.mem_append_right _ (List.mem_cons_of_mem _ hy))
      have hwn := h.wf.1 f.n (by simp [Fr.lvl])
      exact hgi.split hfo hloc hwA ⟨by omega, hwn.2⟩ hm hlt rfl hdr rfl rfl rfl rfl
    · exact (hhp.perm (perm_three (lvls rest) low f.A f.C A C ⟨f.n.b, v1, f.X ++ lowIt key f.it :: ⟨x.key, ⟨#[]⟩, some nb⟩ :: f.Y⟩ ⟨n.b, v2, n.its.take (n.its.length / 2)⟩ ⟨nb, v3, x :: r⟩).symm).mono hzz
    · rw [items_cons, items_split A C n _ _ low (by show n.its = n.its.take (n.its.length / 2) ++ (x :: r); rw [← hdr, List.take_append_drop])]
      exact h.its
end
end Go.Proofs.Ytlpannicklkghaa
