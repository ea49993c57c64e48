/- Plain mathematics of layer 7: what shrink keeps, from the leaf up. -/
import Derived.Test.YtlpannicklkghaaM86
import Derived.Test.YtlpannicklkghaaM89
namespace Go.Proofs.Ytlpannicklkghaa

/-- All is right but for one node, which may lack one item. -/
structure SI (m : Nat) (c : Ctx) (top : Bool) (A : List Nd) (n : Nd) (C : List Nd) (low : List (List Nd)) : Prop where
  good : Good c.all ((A ++ n :: C) :: low)
  pos : c.SA.length = A.length
  wid : ∀ x ∈ A ++ C, lowB m top low.isEmpty ≤ x.its.length ∧ x.its.length ≤ m
  wn : lowB m top low.isEmpty ≤ n.its.length + 1 ∧ n.its.length ≤ m
  wlow : WLv m false low
/-- Where the node is wide enough the tree is right. -/
theorem SI.fine {m : Nat} {key : ByteArray} {r : Slot} {rs : List Fr} {A C : List Nd} {n : Nd} {low : List (List Nd)} (hf : Frs key r rs) (hw : WF m rs) (h : SI m (ctxR r rs) rs.isEmpty A n C low) (hn : lowB m rs.isEmpty low.isEmpty ≤ n.its.length) : Good [r] (lvls rs ++ (A ++ n :: C) :: low) ∧ WLv m true (lvls rs ++ (A ++ n :: C) :: low) := by
  refine ⟨hf.glue (by simp) h.good, wlv_glue hw (fun x hx => ?_) h.wlow⟩
  rcases List.mem_append.1 hx with hx | hx
  · exact h.wid x (List.mem_append_left _ hx)
  · rcases List.mem_cons.1 hx with rfl | hx
    · exact ⟨hn, h.wn.2⟩
    · exact h.wid x (List.mem_append_right _ hx)
/-- Two neighbours of which one is too narrow, and their parent's items. -/
structure Pick (m : Nat) (c : Ctx) (f : Fr) (L : List Nd) (U : List It) (u1 u2 : It) (V : List It) (A : List Nd) (n1 n2 : Nd) (C : List Nd) : Prop where
  its : f.n.its = U ++ u1 :: u2 :: V
  lvl : L = A ++ n1 :: n2 :: C
  pos : A.length = (slots c.SA f.A).length + U.length
  at_ : U.length = f.X.length - 1
  k1 : u1.kid = some n1.b
  k2 : u2.kid = some n2.b
  wid : ∀ x ∈ A ++ C, m / 2 ≤ x.its.length ∧ x.its.length ≤ m
  w1 : n1.its.length ≤ m
  w2 : n2.its.length ≤ m
  sum : m / 2 + m / 2 ≤ n1.its.length + n2.its.length + 1 ∧ n1.its.length + n2.its.length + 1 ≤ m + m / 2
  pos2 : 0 < n2.its.length
theorem SI.pick {m : Nat} {key : ByteArray} {c : Ctx} {f : Fr} {A C : List Nd} {n : Nd} {low : List (List Nd)} (hm : 4 ≤ m) (hf : FrOk key c f) (h : SI m (c.step f) false A n C low) (hn : n.its.length < m / 2) (h2 : 2 ≤ f.n.its.length) : ∃ U u1 u2 V A' n1 n2 C', Pick m c f (A ++ n :: C) U u1 u2 V A' n1 n2 C' := by
  have hlb : lowB m false low.isEmpty = m / 2 := rfl
  have hwn := h.wn
  have hwid := h.wid
  rw [hlb] at hwn hwid
  have hkid : ∀ x ∈ f.n.its, ∀ b, b = x.kid.getD 0 → x.kid = some b := fun x hx b hb => by
    obtain ⟨b', e⟩ := (hf.mid f.n (by simp [Fr.lvl])).kid x hx
    rw [e] at hb ⊢
    rw [hb]
    rfl
  obtain ⟨hfa, ⟨hnb, hok⟩, hfc⟩ := (fits_append h.pos).1 (good_fits h.good)
  have hnk : f.it.kid = some n.b := hkid f.it (by rw [hf.its]; simp) n.b hnb
  have hpos := h.pos
  rcases List.eq_nil_or_concat f.X with hX | ⟨X', x0, hX⟩
  · cases hY : f.Y with
    | nil => have := hf.its; rw [hX, hY] at this; rw [this] at h2; simp at h2
    | cons y0 Y' =>
      have hSC : (c.step f).SC = (y0.kid.getD 0, ⟨some y0.key, hiOf Y' c.s.2.hi⟩) :: (nslots Y' c.s.2.hi ++ slots c.SC f.C) := by
        show nslots f.Y c.s.2.hi ++ slots c.SC f.C = _
        rw [hY]
        rfl
      rw [hSC] at hfc
      match C, hfc, hwid with
      | c0 :: C', hfc, hwid =>
        have hc0 := hwid c0 (by simp)
        have hits : f.n.its = [] ++ f.it :: y0 :: Y' := by rw [hf.its, hX, hY]
        refine ⟨[], f.it, y0, Y', A, n, c0, C', hits, rfl, ?_, by rw [hX]; rfl, hnk, hkid y0 (by rw [hits]; simp) c0.b hfc.1.1, fun x hx => hwid x ?_, hwn.2, hc0.2, by omega, by omega⟩
        · rw [← hpos]
          show (slots c.SA f.A ++ nslots f.X (some f.it.key)).length = _
          rw [hX]
          simp [nslots]
        · rcases List.mem_append.1 hx with hx | hx
          · exact List.mem_append_left _ hx
          · exact List.mem_append_right _ (List.mem_cons_of_mem _ hx)
  · rw [List.concat_eq_append] at hX
    have hSA : (c.step f).SA = (slots c.SA f.A ++ nslots X' (some x0.key)) ++ [(x0.kid.getD 0, ⟨some x0.key, some f.it.key⟩)] := by
      show slots c.SA f.A ++ nslots f.X (some f.it.key) = _
      rw [hX, nslots_append]
      simp [nslots, hiOf]
    rw [hSA] at hfa hpos
    rcases List.eq_nil_or_concat A with hA | ⟨A', a, hA⟩
    · rw [hA] at hpos; simp at hpos
    · rw [List.concat_eq_append] at hA
      subst hA
      have hl : (slots c.SA f.A ++ nslots X' (some x0.key)).length = A'.length := by simp at hpos ⊢; omega
      obtain ⟨_, ⟨hab, _⟩, _⟩ := (fits_append hl).1 hfa
      have ha := hwid a (by simp)
      have hits : f.n.its = X' ++ x0 :: f.it :: f.Y := by rw [hf.its, hX]; simp
      refine ⟨X', x0, f.it, f.Y, A', a, n, C, hits, by simp, ?_, by rw [hX]; simp, hkid x0 (by rw [hits]; simp) a.b hab, hnk, fun x hx => hwid x ?_, ha.2, hwn.2, by omega, by omega⟩
      · rw [← hl, List.length_append, nslots_length]
      · rcases List.mem_append.1 hx with hx | hx
        · simp [hx]
        · simp [hx]
/-- The step up: the two have become one. -/
theorem Pick.join {m : Nat} {key : ByteArray} {c : Ctx} {f : Fr} {top : Bool} {A0 C0 A C : List Nd} {n0 n1 n2 n p : Nd} {low : List (List Nd)} {U V : List It} {u1 u2 : It} (_hm : 4 ≤ m) (hf : FrOk key c f) (hw : ∀ x ∈ f.lvl, lowB m top false ≤ x.its.length ∧ x.its.length ≤ m) (h : SI m (c.step f) false A0 n0 C0 low) (hp : Pick m c f (A0 ++ n0 :: C0) U u1 u2 V A n1 n2 C) (hn : n.its = n1.its ++ n2.its) (hnb : n.b = n1.b) (hpi : p.its = U ++ u1 :: V) (hpb : p.b = f.n.b) (hle : n.its.length ≤ m) : SI m c top f.A p f.C ((A ++ n :: C) :: low) := by
  have hg := h.good
  have hgu : Good c.all (f.lvl :: (A0 ++ n0 :: C0) :: low) := good_mid.2 ⟨hf.fits, hf.mid, by rw [Ctx.step_all _ f hf.fa.length hf.its]; exact hg⟩
  rw [hp.lvl] at hgu
  have hwp := hw f.n (by simp [Fr.lvl])
  have hpl : f.n.its.length = p.its.length + 1 := by rw [hp.its, hpi]; simp; omega
  have hnl : n.its.length = n1.its.length + n2.its.length := by rw [hn, List.length_append]
  have hs := hp.sum
  refine ⟨join_two hgu hf.fa.length hp.its hpi hpb hp.pos hn hnb, hf.fa.length, fun x hx => hw x ?_, ⟨?_, by omega⟩, ⟨fun x hx => ?_, h.wlow⟩⟩
  · rcases List.mem_append.1 hx with hx | hx
    · exact List.mem_append_left _ hx
    · exact List.mem_append_right _ (List.mem_cons_of_mem _ hx)
  · rw [← hpl]; exact hwp.1
  · show m / 2 ≤ _ ∧ _
    rcases List.mem_append.1 hx with hx | hx
    · exact hp.wid x (List.mem_append_left _ hx)
    · rcases List.mem_cons.1 hx with rfl | hx
      · omega
      · exact hp.wid x (List.mem_append_right _ hx)
/-- The step up: the two have become one, which parts again. -/
theorem Pick.part {m : Nat} {key : ByteArray} {c : Ctx} {f : Fr} {top : Bool} {A0 C0 A C : List Nd} {n0 n1 n2 n a1 a2 p : Nd} {low : List (List Nd)} {U V : List It} {u1 u2 x : It} {r : List It} {vl : ByteArray} (hm : 4 ≤ m) (hf : FrOk key c f) (hw : ∀ x ∈ f.lvl, lowB m top false ≤ x.its.length ∧ x.its.length ≤ m) (h : SI m (c.step f) false A0 n0 C0 low) (hp : Pick m c f (A0 ++ n0 :: C0) U u1 u2 V A n1 n2 C) (hn : n.its = n1.its ++ n2.its) (hlt : m < n.its.length) (h1 : a1.its = n.its.take (n.its.length / 2)) (hdr : n.its.drop (n.its.length / 2) = x :: r) (h2 : a2.its = x :: r) (hb : a1.b = n1.b) (hpi : p.its = U ++ u1 :: ⟨x.key, vl, some a2.b⟩ :: V) (hpb : p.b = f.n.b) : SI m c top f.A p f.C ((A ++ a1 :: a2 :: C) :: low) := by
  have hg := h.good
  have hgu : Good c.all (f.lvl :: (A0 ++ n0 :: C0) :: low) := good_mid.2 ⟨hf.fits, hf.mid, by rw [Ctx.step_all _ f hf.fa.length hf.its]; exact hg⟩
  rw [hp.lvl] at hgu
  have hwp := hw f.n (by simp [Fr.lvl])
  have hpl : f.n.its.length = p.its.length := by rw [hp.its, hpi]; simp
  have hnl : n.its.length = n1.its.length + n2.its.length := by rw [hn, List.length_append]
  have hs := hp.sum
  have hl1 : a1.its.length = n.its.length / 2 := by rw [h1, List.length_take]; omega
  have hl2 : a2.its.length = n.its.length - n.its.length / 2 := by rw [h2, ← hdr, List.length_drop]
  have hne1 : a1.its ≠ [] := fun e => by rw [e, List.length_nil] at hl1; omega
  have hnn : n.its = a1.its ++ a2.its := by rw [h1, h2, ← hdr, List.take_append_drop]
  -- first joined, then parted
  have hj := join_two (p' := ⟨f.n.b, f.n.v, U ++ u1 :: V⟩) (n := ⟨n1.b, n.v, n.its⟩) hgu hf.fa.length hp.its rfl rfl hp.pos hn rfl
  obtain ⟨hfj, hmj, hgj⟩ := good_mid.1 hj
  obtain ⟨hfa, ⟨hjb, hjok⟩, hfc⟩ := (fits_append hf.fa.length).1 hfj
  have ej : slots c.all (f.A ++ ⟨f.n.b, f.n.v, U ++ u1 :: V⟩ :: f.C) = (slots c.SA f.A ++ nslots U (some u1.key)) ++ ((u1.kid.getD 0, (⟨some u1.key, hiOf V c.s.2.hi⟩ : Iv)) :: (nslots V c.s.2.hi ++ slots c.SC f.C)) := by
    unfold Ctx.all
    rw [slots_append hf.fa.length]
    show slots c.SA f.A ++ (nslots (U ++ u1 :: V) c.s.2.hi ++ slots c.SC f.C) = _
    rw [nslots_append]
    simp [nslots, hiOf]
  have hgj' : Good ((slots c.SA f.A ++ nslots U (some u1.key)) ++ ((u1.kid.getD 0, (⟨some u1.key, hiOf V c.s.2.hi⟩ : Iv)) :: (nslots V c.s.2.hi ++ slots c.SC f.C))) ((A ++ ⟨n1.b, n.v, n.its⟩ :: C) :: low) := by
    rw [← ej]
    exact hgj
  have hlA : (slots c.SA f.A ++ nslots U (some u1.key)).length = A.length := by rw [List.length_append, nslots_length, hp.pos]
  obtain ⟨_, ⟨_, hnok⟩, _⟩ := (fits_append hlA).1 (good_fits hgj')
  have hsp := split_good (n1 := a1) (n2 := a2) (x := x) (r := r) hgj' hlA hnn hne1 h2 hb
  have hsj := hjok.srt
  obtain ⟨q1, q2, q3⟩ := List.pairwise_append.1 hsj
  obtain ⟨q4, q5⟩ := List.pairwise_cons.1 q2
  have hxlo : kl u1.key x.key = true := by
    obtain ⟨t, T, e⟩ := List.exists_cons_of_ne_nil hne1
    have h1' : kl t.key u1.key = false := (hnok.mem t (by show t ∈ n.its; rw [hnn, e]; simp)).1 _ rfl
    have hs' := hnok.srt
    have hs'' : Srt (a1.its ++ a2.its) := by rw [← hnn]; exact hs'
    exact kl_le_lt h1' ((List.pairwise_append.1 hs'').2.2 t (by rw [e]; simp) x (by rw [h2]; simp))
  have hxhi : inHi (hiOf V c.s.2.hi) x.key := (hnok.mem x (by show x ∈ n.its; rw [hnn, h2]; simp)).2
  have hxV : ∀ y ∈ V, kl x.key y.key = true := by
    cases V with
    | nil => intro y hy; simp at hy
    | cons y0 V =>
      intro y hy
      have h6 := hxhi y0.key rfl
      rcases List.mem_cons.1 hy with rfl | hy
      · exact h6
      · exact kl_trans h6 ((List.pairwise_cons.1 q5).1 y hy)
  refine ⟨good_mid.2 ⟨(fits_append hf.fa.length).2 ⟨hf.fa, ⟨hpb.trans hf.nb, ?_, fun y hy => ?_⟩, hf.fc⟩, mid_of hf (fun y hy => ?_) (by rw [hpi]; simp), ?_⟩, hf.fa.length, fun y hy => hw y ?_, ⟨by rw [← hpl]; exact Nat.le_succ_of_le hwp.1, by omega⟩, ⟨fun y hy => ?_, h.wlow⟩⟩
  · rw [hpi]
    refine List.pairwise_append.2 ⟨q1, List.pairwise_cons.2 ⟨fun y hy => ?_, List.pairwise_cons.2 ⟨hxV, q5⟩⟩, fun a ha b hb => ?_⟩
    · rcases List.mem_cons.1 hy with rfl | hy
      · exact hxlo
      · exact q4 y hy
    · have hab := q3 a ha u1 (by simp)
      rcases List.mem_cons.1 hb with rfl | hb
      · exact hab
      · rcases List.mem_cons.1 hb with rfl | hb
        · exact kl_trans hab hxlo
        · exact q3 a ha b (by simp [hb])
  · rw [hpi] at hy
    rcases List.mem_append.1 hy with hy | hy
    · exact hjok.mem y (by simp [hy])
    · rcases List.mem_cons.1 hy with rfl | hy
      · exact hjok.mem y (by simp)
      · rcases List.mem_cons.1 hy with rfl | hy
        · refine ⟨fun l e => kl_le_trans ((hjok.mem u1 (by simp)).1 l e) (kl_asymm hxlo), fun q e => ?_⟩
          cases V with
          | nil => exact hxhi q e
          | cons y0 V => exact kl_trans (hxV y0 (by simp)) ((hjok.mem y0 (by simp)).2 q e)
        · exact hjok.mem y (by simp [hy])
  · rw [hpi] at hy
    rw [hp.its]
    rcases List.mem_append.1 hy with hy | hy
    · exact Or.inl ⟨y, by simp [hy], rfl⟩
    · rcases List.mem_cons.1 hy with rfl | hy
      · exact Or.inl ⟨y, by simp, rfl⟩
      · rcases List.mem_cons.1 hy with rfl | hy
        · exact Or.inr ⟨_, rfl⟩
        · exact Or.inl ⟨y, by simp [hy], rfl⟩
  · have e : slots c.all (f.A ++ p :: f.C) = (slots c.SA f.A ++ nslots U (some u1.key)) ++ ((u1.kid.getD 0, (⟨some u1.key, some x.key⟩ : Iv)) :: (a2.b, (⟨some x.key, hiOf V c.s.2.hi⟩ : Iv)) :: (nslots V c.s.2.hi ++ slots c.SC f.C)) := by
      unfold Ctx.all
      rw [slots_append hf.fa.length]
      show slots c.SA f.A ++ (nslots p.its c.s.2.hi ++ slots c.SC f.C) = _
      rw [hpi, nslots_append]
      simp [nslots, hiOf]
    rw [e]
    exact hsp
  · rcases List.mem_append.1 hy with hy | hy
    · exact List.mem_append_left _ hy
    · exact List.mem_append_right _ (List.mem_cons_of_mem _ hy)
  · show m / 2 ≤ _ ∧ _
    rcases List.mem_append.1 hy with hy | hy
    · exact hp.wid y (List.mem_append_left _ hy)
    · rcases List.mem_cons.1 hy with rfl | hy
      · rw [hl1]; omega
      · rcases List.mem_cons.1 hy with rfl | hy
        · rw [hl2]; omega
        · exact hp.wid y (List.mem_append_right _ hy)
end Go.Proofs.Ytlpannicklkghaa
