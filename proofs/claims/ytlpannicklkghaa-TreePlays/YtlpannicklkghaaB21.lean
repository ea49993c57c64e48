/- Walks of layer 7: a round of shrink, in memory. -/
import Derived.Test.YtlpannicklkghaaB12
import Derived.Test.YtlpannicklkghaaB8
import Derived.Test.YtlpannicklkghaaM90
namespace Go.Proofs.Ytlpannicklkghaa
open Go.RowKit

/-- What shrink keeps between two rounds. -/
structure SM (w : World) (Z : Nat → Prop) (t m cnt rb : Nat) (key : ByteArray) (rs0 : List Fr) (its0 : List It) (W : World) (pre : List Fr) (rest : List Fr) (A : List Nd) (n : Nd) (C : List Nd) (low : List (List Nd)) : Prop where
  rs : rs0 = pre ++ rest
  frs : Frs key (rb, ⟨none, none⟩) rest
  wf : WF m rest
  si : SI m (ctxR (rb, ⟨none, none⟩) rest) rest.isEmpty A n C low
  hp : Hp W Z (allX (lvls rest ++ (A ++ n :: C) :: low))
  its : items ((A ++ n :: C) :: low) = its0
  only : Only Z w W
  tr : TrAt W t m cnt rb
section
variable {w : World} {Z : Nat → Prop} {t m cnt rb : Nat} {key : ByteArray} {rs0 : List Fr} {its0 : List It} {W : World} {pre : List Fr} {f : Fr} {rest : List Fr} {A : List Nd} {n : Nd} {C : List Nd} {low : List (List Nd)} {U V : List It} {u1 u2 : It} {A' C' : List Nd} {n1 n2 : Nd}
theorem SM.kid (h : SM w Z t m cnt rb key rs0 its0 W pre (f :: rest) A n C low) : f.it.kid = some n.b := by
  have h1 : n.b = f.it.kid.getD 0 := ((fits_append h.si.pos).1 (good_fits h.si.good)).2.1.1
  obtain ⟨b, hb⟩ := (h.frs.2.mid f.n (by simp [Fr.lvl])).kid f.it (by rw [h.frs.2.its]; simp)
  rw [hb, h1, hb]
  rfl
/-- The parent and the two that are to be joined, ahead of all others. -/
def SM.R (f : Fr) (rest : List Fr) (A' C' : List Nd) (n1 : Nd) (low : List (List Nd)) : List NX := restTwo (lvls rest) low f.A f.C A' C' f.n.b n1.b
theorem SM.three (h : SM w Z t m cnt rb key rs0 its0 W pre (f :: rest) A n C low) (hp : Pick m (ctxR (rb, ⟨none, none⟩) rest) f (A ++ n :: C) U u1 u2 V A' n1 n2 C') : Hp W Z ((f.n, hd f.C none) :: (n1, some n2.b) :: (n2, hd C' none) :: SM.R f rest A' C' n1 low) := by
  have := h.hp
  rw [lvls_cons, List.append_assoc, hp.lvl] at this
  exact this.perm (perm_three (lvls rest) low f.A f.C A' C' f.n n1 n2)
theorem pick_take (hp : Pick m (ctxR (rb, ⟨none, none⟩) rest) f (A ++ n :: C) U u1 u2 V A' n1 n2 C') : f.n.its.take (U.length + 1) ++ f.n.its.drop (U.length + 2) = U ++ u1 :: V := by
  rw [hp.its, show U ++ u1 :: u2 :: V = (U ++ [u1]) ++ u2 :: V by simp, List.take_left' (by simp), show (U ++ [u1]) ++ u2 :: V = (U ++ [u1, u2]) ++ V by simp, List.drop_left' (by simp)]
  simp
/-- Behind join and fit: the next round's. -/
theorem SM.next (h : SM w Z t m cnt rb key rs0 its0 W pre (f :: rest) A n C low) (hp : Pick m (ctxR (rb, ⟨none, none⟩) rest) f (A ++ n :: C) U u1 u2 V A' n1 n2 C') (hZ : ∀ k, w.heap.size ≤ k → Z k) (hm : 4 ≤ m) {W1 W2 : World} {D : List NX} (hD : D = (f.n, hd f.C none) :: (n1, some n2.b) :: (n2, hd C' none) :: SM.R f rest A' C' n1 low) (ho1 : Only (zd W D) W W1) (ht : ¬ zd W D t) {e : Ending} {v1 v2 : Value}
    (hfit : FitP W1 (zd W D) ⟨f.n.b, v1, U ++ u1 :: V⟩ ⟨n1.b, v2, n1.its ++ n2.its⟩ (hd f.C none) (hd C' none) (SM.R f rest A' C' n1 low) U.length m e W2) :
    e = .returned (.tuple #[]) ∧ Only (zd W D) W W2 ∧ ∃ A'' n'' C'' low'', SM w Z t m cnt rb key rs0 its0 W2 (pre ++ [f]) rest A'' n'' C'' low'' := by
  obtain ⟨he, ho2, hcase⟩ := hfit
  have ho := ho1.trans ho2
  have hwz : ∀ k, zd W D k → Z k := fun k hk => by
    subst hD
    rcases (h.three hp).zone hk with h1 | h1
    · exact h1
    · exact hZ k (Nat.le_trans h.only.size h1)
  have honly : Only Z w W2 := h.only.trans (ho.mono hwz)
  have htr : TrAt W2 t m cnt rb := h.tr.kept (ho.block t h.tr.lt ht)
  have hrs : rs0 = (pre ++ [f]) ++ rest := by rw [h.rs]; simp
  have hsi : SI m ((ctxR (rb, ⟨none, none⟩) rest).step f) false A n C low := h.si
  have hits := h.its
  rw [hp.lvl] at hits
  refine ⟨he, ho, ?_⟩
  rcases hcase with ⟨hle, hhp⟩ | ⟨hlt, w1, w2, w3, nb, x, r, hdr, _, hhp⟩
  · refine ⟨f.A, ⟨f.n.b, v1, U ++ u1 :: V⟩, f.C, (A' ++ ⟨n1.b, v2, n1.its ++ n2.its⟩ :: C') :: low, hrs, h.frs.1, h.wf.2, hp.join hm h.frs.2 h.wf.1 hsi rfl rfl rfl rfl hle, ?_, ?_, honly, htr⟩
    · exact (hhp.perm (perm_two (lvls rest) low f.A f.C A' C' ⟨f.n.b, v1, U ++ u1 :: V⟩ ⟨n1.b, v2, n1.its ++ n2.its⟩).symm).mono fun k _ hk => hwz k hk
    · rw [items_cons, ← items_split A' C' ⟨n1.b, v2, n1.its ++ n2.its⟩ n1 n2 low rfl]
      exact hits
  · have hX : (U ++ u1 :: V).take (U.length + 1) ++ ⟨x.key, ⟨#[]⟩, some nb⟩ :: (U ++ u1 :: V).drop (U.length + 1) = U ++ u1 :: ⟨x.key, ⟨#[]⟩, some nb⟩ :: V := by
      rw [show U ++ u1 :: V = (U ++ [u1]) ++ V by simp, List.take_left' (by simp), List.drop_left' (by simp)]
      simp
    simp only at hhp hdr hlt
    rw [hX] at hhp
    refine ⟨f.A, ⟨f.n.b, w1, U ++ u1 :: ⟨x.key, ⟨#[]⟩, some nb⟩ :: V⟩, f.C, (A' ++ ⟨n1.b, w2, (n1.its ++ n2.its).take ((n1.its ++ n2.its).length / 2)⟩ :: ⟨nb, w3, x :: r⟩ :: C') :: low, hrs, h.frs.1, h.wf.2, ?_, ?_, ?_, honly, htr⟩
    · exact hp.part (n := ⟨n1.b, v2, n1.its ++ n2.its⟩) hm h.frs.2 h.wf.1 hsi rfl hlt rfl hdr rfl rfl rfl rfl
    · exact (hhp.perm (perm_three (lvls rest) low f.A f.C A' C' ⟨f.n.b, w1, U ++ u1 :: ⟨x.key, ⟨#[]⟩, some nb⟩ :: V⟩ ⟨n1.b, w2, (n1.its ++ n2.its).take ((n1.its ++ n2.its).length / 2)⟩ ⟨nb, w3, x :: r⟩).symm).mono fun k _ hk => hwz k hk
    · rw [items_cons, items_split A' C' ⟨n1.b, v2, n1.its ++ n2.its⟩ _ _ low (by show n1.its ++ n2.its = (n1.its ++ n2.its).take ((n1.its ++ n2.its).length / 2) ++ (x :: r); rw [← hdr, List.take_append_drop]), ← items_split A' C' ⟨n1.b, v2, n1.its ++ n2.its⟩ n1 n2 low rfl]
      exact hits
end
end Go.Proofs.Ytlpannicklkghaa
