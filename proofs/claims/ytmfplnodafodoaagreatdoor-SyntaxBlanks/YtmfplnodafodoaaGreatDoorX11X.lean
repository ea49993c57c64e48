/- Plain mathematics of layer 11: a semicolon behind a statement. -/
import Derived.Test.YtmfplnodafodoaaGreatDoorX11T
import Derived.Test.YtmfplnodafodoaaGreatDoorX11O
import Derived.Test.YtmfplnodafodoaaGreatDoorX11U
namespace Go.Proofs.YtmfplnodafodoaaGreatDoor
open Go Go.RowKit
theorem dpr_z : ∀ (n : Nat) (e : Ex), dpr n e.z = dpr n e
  | 0, .mk _ _ _ _ _ _ _ => rfl
  | n + 1, .mk k o v t m ks p => by
    rw [z_mk]
    show (ks.map Ex.z).any (dpr n) = ks.any (dpr n)
    rw [List.any_map]
    congr 1
    funext e
    exact dpr_z n e
theorem deepL_z (l : List Ex) : deepL (l.map Ex.z) = deepL l := by
  unfold deepL
  rw [List.any_map]
  congr 1
  funext e
  exact dpr_z 16 e
theorem deepS_z (t : St) : deepS t.z = deepS t := by
  show ((deepL (t.on.map Ex.z) || deepL (t.whr.map Ex.z) || deepL (t.items.map Ex.z) || deepL (t.groups.map Ex.z)) || (t.sets.map Se.z).any fun x => dpr 16 x.2.1) = _
  rw [deepL_z, deepL_z, deepL_z, deepL_z, List.any_map]
  unfold deepS
  congr 2
  funext x
  exact dpr_z 16 x.2.1
theorem map_at {α β : Type} {f : α → β} {l m : List α} (h : l.map f = m.map f) : l.length = m.length ∧ ∀ i (h : i < l.length) (h' : i < m.length), f l[i] = f m[i] := by
  refine ⟨by simpa using congrArg List.length h, fun i h1 h2 => ?_⟩
  have := congrArg (fun q => q[i]?) h
  simpa [h1, h2] using this
theorem smx_z (a : Ex) : ∀ b : Ex, a.z = b.z → SmX a b := by
  induction a using Ex.rec (motive_2 := fun l => ∀ i (h : i < l.length) (b : Ex), l[i].z = b.z → SmX l[i] b) with
  | mk k o v t n ks p ih =>
    rintro ⟨k', o', v', t', n', ls, q⟩ h
    rw [z_mk, z_mk] at h
    injection h with h1 h2 h3 h4 h5 h6 _
    obtain ⟨e1, e2⟩ := map_at h6
    exact SmX.iff.2 ⟨h1, h2, h3, h4, h5, e1, fun i g g' => ih i g _ (e2 i g g')⟩
  | nil => rename_i i h _ _; exact absurd h (Nat.not_lt_zero _)
  | cons e l h1 h2 =>
    rename_i i h b k
    cases i with
    | zero => exact h1 b k
    | succ i => exact h2 i (by simpa using h) b k
theorem smxs_z {a b : List Ex} (h : a.map Ex.z = b.map Ex.z) : SmXs a b := ⟨(map_at h).1, fun i g g' => smx_z _ _ ((map_at h).2 i g g')⟩
theorem smst_z {a b : St} (h : a.z = b.z) : SmSt a b := by
  injection h with h1 h2 h3 h4 h5 h6 h7 h8 h9 h10 h11 _ _
  refine ⟨h1, h2, h3, h7, smxs_z h4, smxs_z h5, smxs_z h6, smxs_z h9, ⟨(map_at h8).1, fun i g g' => ?_⟩, ⟨(map_at h10).1, fun i g g' => ?_⟩, h11⟩
  · have := (map_at h8).2 i g g'
    injection this with e1 e2
    injection e2 with e2 _
    exact ⟨e1, smx_z _ _ e2⟩
  · have := (map_at h10).2 i g g'
    injection this with e1 e2
    injection e2 with e2 _
    exact ⟨e1, e2⟩
theorem semi_z (s : PS) : semi s.z = (semi s).z := by
  unfold semi
  rw [z_sees]
  split
  · exact (z_next s).symm
  · rfl
/-- The same, places aside. -/
def OutA : Out → Out → Prop
  | .fault c _, .fault d _ => c = d
  | .st t, .st u => t.z = u.z
  | _, _ => False
theorem out_alike {r r' : Res St} (h : r.z St.z = r'.z St.z) : OutA (outOf r) (outOf r') := by
  cases r with
  | bad p =>
    cases r' with
    | bad q => rfl
    | ok t s => cases h
  | ok t s =>
    cases r' with
    | bad q => cases h
    | ok u v =>
      injection h with h1 h2
      have e1 : (semi s).hd.1 = (semi v).hd.1 := by rw [← z_hd1, ← z_hd1 (semi v), ← semi_z, ← semi_z, h2]
      have e2 : (semi s).code = (semi v).code := by rw [semi_code, semi_code]; exact (congrArg PS.code h2 : s.z.code = v.z.code)
      have e3 : deepS t = deepS u := by rw [← deepS_z, h1, deepS_z]
      rw [outOf, outOf, e1, e2, e3]
      split
      · split
        · split
          · rfl
          · exact h1
        · rfl
      · rfl
/-- A semicolon ahead of the end. -/
def semT (p : Nat) : T := ((7, 0, ⟨#[59]⟩), p)
def adL : List T → List T
  | [] => []
  | [t] => [semT t.2, t]
  | t :: u :: l => t :: adL (u :: l)
def PS.ad (s : PS) : PS := { s with rest := adL s.rest }
theorem adL_map : ∀ {l : List T}, Wf l → (adL l).map Prod.fst = l.dropLast.map Prod.fst ++ [(7, 0, ⟨#[59]⟩)] ++ (l.drop (l.length - 1)).map Prod.fst
  | [], h => h.elim
  | [t], _ => rfl
  | t :: u :: l, h => by
    rw [adL]
    simp only [List.map_cons, List.dropLast_cons_cons, List.cons_append, List.length_cons, Nat.add_sub_cancel]
    have := adL_map (l := u :: l) h.2
    rw [this]
    simp
theorem ad_ways {s : PS} (h : Wf s.rest) : (s.hd.1.1 = 1 ∧ s.ad.hd = semT s.hd.2 ∧ s.rest.length = 1) ∨ (s.hd.1.1 ≠ 1 ∧ s.ad.hd = s.hd ∧ s.ad.next = s.next.ad ∧ Wf s.next.rest) := by
  obtain ⟨r, c, p⟩ := s
  cases r with
  | nil => exact h.elim
  | cons t l =>
    cases l with
    | nil => exact Or.inl ⟨h, rfl, rfl⟩
    | cons u l => exact Or.inr ⟨h.1, rfl, rfl, h.2⟩
theorem ad_hd2 {s : PS} (h : Wf s.rest) : s.ad.hd.2 = s.hd.2 := by
  rcases ad_ways h with ⟨_, h, _⟩ | ⟨_, h, _⟩ <;> rw [h]
  rfl
theorem ad_sees {s : PS} (h : Wf s.rest) {x : List UInt8} (hx : x ≠ [59]) : s.ad.sees x = s.sees x := by
  rcases ad_ways h with ⟨h1, h, _⟩ | ⟨_, h, _⟩
  · unfold PS.sees
    rw [h, h1]
    simp only [semT]
    have : (([59] : List UInt8) == x) = false := by rw [beq_eq_false_iff_ne]; exact fun e => hx e.symm
    simp [this]
  · unfold PS.sees
    rw [h]
theorem ad_kind {s : PS} (h : Wf s.rest) {k : Int} (h1 : k ≠ 1) (h7 : k ≠ 7) : s.ad.hd.1.1 = k ↔ s.hd.1.1 = k := by
  rcases ad_ways h with ⟨e, h, _⟩ | ⟨_, h, _⟩
  · rw [h, e]
    exact ⟨fun q => absurd q.symm h7, fun q => absurd q.symm h1⟩
  · rw [h]
theorem ad_cnt {s : PS} (h : Wf s.rest) (n m : Nat) : (s.cnt n m).ad = s.ad.cnt n m ∧ Wf (s.cnt n m).rest := by
  unfold PS.cnt
  by_cases c : n = m ∧ s.code = 0
  · rw [if_pos c, if_pos (show n = m ∧ s.ad.code = 0 from c)]
    refine ⟨?_, h⟩
    show (⟨adL s.rest, 112, (s.hd.2 : Int)⟩ : PS) = ⟨adL s.rest, 112, (s.ad.hd.2 : Int)⟩
    rw [ad_hd2 h]
  · rw [if_neg c, if_neg (show ¬ (n = m ∧ s.ad.code = 0) from c)]
    exact ⟨rfl, h⟩
theorem ad_op {s : PS} (h : Wf s.rest) : ∀ l : List (List UInt8 × Int), (∀ x ∈ l, x.1 ≠ [59]) → opOf s.ad l = opOf s l
  | [], _ => rfl
  | x :: l, hx => by
    show (if _ then _ else opOf s.ad l) = (if _ then _ else opOf s l)
    rw [ad_op h l fun y hy => hx y (by simp [hy]), ad_sees h (hx x (by simp))]
theorem op_kind {s : PS} : ∀ {l : List (List UInt8 × Int)}, opOf s l ≠ 0 → s.hd.1.1 ≠ 1
  | [], h => absurd rfl h
  | x :: l, h => by
    by_cases c : s.sees x.1 = true
    · exact seen_kind c
    · refine op_kind (l := l) ?_
      rw [opOf, if_neg c] at h
      exact h
/-- What was read, and what is left. -/
structure Adv (s s1 : PS) : Prop where
  wf : Wf s1.rest
  suf : s1.rest <:+ s.rest
theorem Adv.refl {s : PS} (h : Wf s.rest) : Adv s s := ⟨h, List.suffix_refl _⟩
theorem Adv.trans {a b c : PS} (h : Adv a b) (k : Adv b c) : Adv a c := ⟨k.wf, k.suf.trans h.suf⟩
theorem Adv.next {s : PS} (h : Wf s.rest) (k : s.hd.1.1 ≠ 1) : Adv s s.next ∧ s.ad.next = s.next.ad ∧ s.ad.hd = s.hd := by
  rcases ad_ways h with ⟨e, _⟩ | ⟨_, h1, h2, h3⟩
  · exact absurd e k
  · exact ⟨⟨h3, List.tail_suffix _⟩, h2, h1⟩
theorem Adv.cnt {s : PS} (h : Wf s.rest) (n m : Nat) : Adv s (s.cnt n m) := ⟨(ad_cnt h n m).2, by unfold PS.cnt; split <;> exact List.suffix_refl _⟩
/-- What reads the same with a semicolon ahead of the end. -/
def Ad {α : Type} (f : Rd_ α) : Prop := ∀ s a s1, Wf s.rest → f s (.ok a s1) → Adv s s1 ∧ f s.ad (.ok a s1.ad)
theorem Ad.ret {α : Type} (a : α) : Ad (retR a) := by
  intro s b s1 hw h
  injection h with h1 h2
  subst h1 h2
  exact ⟨Adv.refl hw, rfl⟩
theorem Ad.none {α : Type} : Ad (badR (α := α)) := fun _ _ _ _ h => by cases h
theorem Ad.bind {α β : Type} {f : Rd_ α} {g : α → Rd_ β} (hf : Ad f) (hg : ∀ a, Ad (g a)) : Ad (thenR f g) := by
  rintro s b s2 hw (⟨p, _, h⟩ | ⟨a, s1, h1, h2⟩)
  · cases h
  · obtain ⟨k1, k2⟩ := hf _ _ _ hw h1
    obtain ⟨l1, l2⟩ := hg a _ _ _ k1.wf h2
    exact ⟨k1.trans l1, thenR_ok k2 l2⟩
theorem Ad.if {α : Type} {x : List UInt8} {f g : Rd_ α} (hx : x ≠ [59]) (hf : Ad f) (hg : Ad g) : Ad (ifR x f g) := by
  intro s a s1 hw h
  unfold ifR at h ⊢
  rw [ad_sees hw hx]
  by_cases c : s.sees x = true
  · rw [if_pos c] at h ⊢
    obtain ⟨k1, k2, _⟩ := Adv.next hw (seen_kind c)
    rw [k2]
    obtain ⟨l1, l2⟩ := hf _ _ _ k1.wf h
    exact ⟨k1.trans l1, l2⟩
  · rw [if_neg c] at h ⊢
    exact hg _ _ _ hw h
theorem Ad.of {α : Type} {f g : Rd_ α} (h : Ad f) (e : ∀ s r, f s r ↔ g s r) : Ad g := fun s a s1 hw k => by
  obtain ⟨k1, k2⟩ := h s a s1 hw ((e _ _).2 k)
  exact ⟨k1, (e _ _).1 k2⟩
theorem Ad.want : ∀ l : List (List UInt8), (∀ x ∈ l, x ≠ [59]) → Ad (wantR l)
  | [], _ => (Ad.ret ()).of fun _ _ => Iff.rfl
  | x :: l, h => (Ad.if (h x (by simp)) (Ad.want l fun y hy => h y (by simp [hy])) Ad.none).of fun s r => by
    unfold ifR wantR badR
    rw [needsR]
    split <;> exact Iff.rfl
theorem Ad.nam : Ad namR := by
  intro s a s1 hw h
  unfold namR nameR at h ⊢
  simp only [ad_kind hw (k := 3) (by decide) (by decide)]
  by_cases c : s.hd.1.1 = 3
  · rw [if_pos c] at h ⊢
    obtain ⟨k1, k2, k3⟩ := Adv.next hw (by omega)
    injection h with h1 h2
    subst h1 h2
    rw [k2, k3]
    exact ⟨k1, rfl⟩
  · rw [if_neg c] at h
    cases h
theorem Ad.num : Ad numR := by
  intro s a s1 hw h
  unfold numR at h ⊢
  simp only [ad_kind hw (k := 2) (by decide) (by decide)]
  by_cases c : s.hd.1.1 = 2
  · rw [if_pos c] at h ⊢
    obtain ⟨k1, k2, k3⟩ := Adv.next hw (by omega)
    injection h with h1 h2
    subst h1 h2
    rw [k2, k3]
    exact ⟨k1, rfl⟩
  · rw [if_neg c] at h
    cases h
theorem Ad.place : Ad placeR := by
  intro s a s1 hw h
  injection h with h1 h2
  subst h1 h2
  refine ⟨Adv.refl hw, ?_⟩
  show Res.ok _ _ = Res.ok s1.ad.hd.2 s1.ad
  rw [ad_hd2 hw]
theorem Ad.list {α : Type} {f : Rd_ α} (hf : Ad f) (most : Nat) : Ad (listR f most) := by
  have key : ∀ acc s r, LsR f most acc s r → Wf s.rest → ∀ l s1, r = .ok l s1 → Adv s s1 ∧ LsR f most acc s.ad (.ok l s1.ad) := by
    intro acc s r h
    induction h with
    | bad h => intro _ l s1 e; cases e
    | @last acc s s1 a h hs =>
      intro hw l s2 e
      injection e with e1 e2
      subst e1 e2
      obtain ⟨c1, c2⟩ := ad_cnt hw acc.length most
      obtain ⟨k1, k2⟩ := hf _ _ _ c2 h
      rw [c1] at k2
      exact ⟨(Adv.cnt hw _ _).trans k1, LsR.last k2 (by rw [ad_sees k1.wf (by decide)]; exact hs)⟩
    | @more acc s s1 a r h hs _ ih =>
      intro hw l s2 e
      obtain ⟨c1, c2⟩ := ad_cnt hw acc.length most
      obtain ⟨k1, k2⟩ := hf _ _ _ c2 h
      rw [c1] at k2
      obtain ⟨n1, n2, _⟩ := Adv.next k1.wf (seen_kind hs)
      obtain ⟨l1, l2⟩ := ih n1.wf l s2 e
      rw [← n2] at l2
      exact ⟨(((Adv.cnt hw _ _).trans k1).trans n1).trans l1, LsR.more k2 (by rw [ad_sees k1.wf (by decide)]; exact hs) l2⟩
  exact fun s a s1 hw h => key [] s _ h hw a s1 rfl
theorem bindR_yes {α β : Type} {x : Option (Res α)} {f : α → PS → Option (Res β)} {b : β} {s2 : PS} (h : bindR x f = some (.ok b s2)) : ∃ a s, x = some (.ok a s) ∧ f a s = some (.ok b s2) := by
  rcases bindR_some h with ⟨p, _, e⟩ | h
  · cases e
  · exact h
theorem Ad.colm : Ad colmR := by
  intro s e s1 hw h
  unfold colmR colR at h ⊢
  cases hn : nameR s with
  | bad p => rw [hn] at h; cases h
  | ok a s2 =>
    rw [hn] at h
    simp only at h
    obtain ⟨k1, k2⟩ := Ad.nam s a s2 hw hn.symm
    rw [show nameR s.ad = _ from k2.symm]
    simp only
    rw [ad_sees k1.wf (by decide), ad_hd2 hw]
    by_cases c : s2.sees [46] = true
    · simp only [if_pos c] at h ⊢
      obtain ⟨n1, n2, _⟩ := Adv.next k1.wf (seen_kind c)
      cases hm : nameR s2.next with
      | bad p => rw [hm] at h; cases h
      | ok b s3 =>
        rw [hm] at h
        injection h with h1 h2
        subst h1 h2
        obtain ⟨l1, l2⟩ := Ad.nam s2.next b s1 n1.wf hm.symm
        rw [n2, show nameR s2.next.ad = _ from l2.symm]
        exact ⟨(k1.trans n1).trans l1, rfl⟩
    · simp only [if_neg c] at h ⊢
      injection h with h1 h2
      subst h1 h2
      exact ⟨k1, rfl⟩
theorem Ad.lit : Ad (fun s r => r = litR s) := by
  intro s v s1 hw h
  have hn : s.hd.1.1 ≠ 1 := by
    intro e
    have f : ∀ x, s.sees x = false := fun x => by
      cases hx : s.sees x with
      | false => rfl
      | true => exact absurd e (seen_kind hx)
    unfold litR at h
    rw [f, f, f, e] at h
    simp at h
  obtain ⟨k1, k2, k3⟩ := Adv.next hw hn
  have : litR s.ad = match litR s with
    | .ok v _ => .ok v s.next.ad
    | .bad p => .bad p := by
    unfold litR PS.sees
    rw [k3, k2]
    repeat' split
    all_goals simp_all
  have e : s1 = s.next := by
    unfold litR at h
    repeat' split at h
    all_goals (cases h <;> rfl)
  subst e
  refine ⟨k1, ?_⟩
  show Res.ok v s.next.ad = litR s.ad
  rw [this, ← show _ = litR s from h]
theorem pX_ad : ∀ (n : Nat) (g : Gl) (s : PS) (e : Ex) (s1 : PS), Wf s.rest → pX n g s = some (.ok e s1) → Adv s s1 ∧ pX n g s.ad = some (.ok e s1.ad) := by
  intro n
  induction n with
  | zero => intro g s e s1 _ h; simp [pX] at h
  | succ n ih =>
    intro g s e s1 hw h
    have rowStep : ∀ (g0 : Gl) (w : List UInt8) (b : Bool), w ≠ [59] → bindR (pX n g0 s) (fun e s1 => if s1.sees w = true then pX n (.rowL b s1.hd.2 [e]) s1 else some (.ok e s1)) = some (.ok e s1) → Adv s s1 ∧ bindR (pX n g0 s.ad) (fun e s1 => if s1.sees w = true then pX n (.rowL b s1.hd.2 [e]) s1 else some (.ok e s1)) = some (.ok e s1.ad) := by
      intro g0 w b hw9 h
      obtain ⟨x, s2, h1, h2⟩ := bindR_yes h
      obtain ⟨k1, k2⟩ := ih _ _ _ _ hw h1
      rw [bindR_ok k2]
      rw [ad_sees k1.wf hw9, ad_hd2 k1.wf]
      by_cases c : s2.sees w = true
      · rw [if_pos c] at h2 ⊢
        obtain ⟨l1, l2⟩ := ih _ _ _ _ k1.wf h2
        exact ⟨k1.trans l1, l2⟩
      · rw [if_neg c] at h2 ⊢
        injection h2 with h2
        injection h2 with h3 h4
        subst h3 h4
        exact ⟨k1, rfl⟩
    cases g with
    | or => rw [pX] at h ⊢; exact rowStep .and wOr true (by decide) h
    | and => rw [pX] at h ⊢; exact rowStep .not wAnd false (by decide) h
    | rowL b a acc =>
      rw [pX] at h ⊢
      rw [ad_sees hw (by cases b <;> decide)]
      by_cases c : s.sees (if b = true then wOr else wAnd) = true
      · rw [if_pos c] at h ⊢
        obtain ⟨n1, n2, _⟩ := Adv.next hw (seen_kind c)
        obtain ⟨c1, c2⟩ := ad_cnt n1.wf acc.length 8
        obtain ⟨x, s2, h1, h2⟩ := bindR_yes h
        obtain ⟨k1, k2⟩ := ih _ _ _ _ c2 h1
        rw [n2, ← c1, bindR_ok k2]
        obtain ⟨l1, l2⟩ := ih _ _ _ _ k1.wf h2
        exact ⟨((n1.trans (Adv.cnt n1.wf _ _)).trans k1).trans l1, l2⟩
      · rw [if_neg c] at h ⊢
        injection h with h
        injection h with h3 h4
        subst h3 h4
        exact ⟨Adv.refl hw, rfl⟩
    | not =>
      rw [pX] at h ⊢
      rw [ad_sees hw (by decide)]
      by_cases c : s.sees wNot = true
      · rw [if_pos c] at h ⊢
        obtain ⟨n1, n2, _⟩ := Adv.next hw (seen_kind c)
        obtain ⟨x, s2, h1, h2⟩ := bindR_yes h
        obtain ⟨k1, k2⟩ := ih _ _ _ _ n1.wf h1
        rw [n2, ad_hd2 hw, bindR_ok k2]
        injection h2 with h2
        injection h2 with h3 h4
        subst h3 h4
        exact ⟨n1.trans k1, rfl⟩
      · rw [if_neg c] at h ⊢
        exact ih _ _ _ _ hw h
    | test =>
      rw [pX] at h ⊢
      obtain ⟨x, s2, h1, h2⟩ := bindR_yes h
      obtain ⟨k1, k2⟩ := ih _ _ _ _ hw h1
      rw [bindR_ok k2]
      simp only at h2 ⊢
      rw [ad_sees k1.wf (by decide), ad_op k1.wf _ (by decide), ad_hd2 k1.wf]
      by_cases c : s2.sees wIs = true
      · rw [if_pos c] at h2 ⊢
        obtain ⟨n1, n2, _⟩ := Adv.next k1.wf (seen_kind c)
        rw [n2, ad_sees n1.wf (by decide)]
        have h3 : ∃ s3, (if s2.next.sees wNot = true then s2.next.next else s2.next) = s3 ∧ (if s2.next.sees wNot = true then s2.next.ad.next else s2.next.ad) = s3.ad ∧ Adv s2.next s3 := by
          by_cases c3 : s2.next.sees wNot = true
          · obtain ⟨m1, m2, _⟩ := Adv.next n1.wf (seen_kind c3)
            exact ⟨s2.next.next, by rw [if_pos c3], by rw [if_pos c3, m2], m1⟩
          · exact ⟨s2.next, by rw [if_neg c3], by rw [if_neg c3], Adv.refl n1.wf⟩
        obtain ⟨s3, e1, e2, e3⟩ := h3
        rw [e1] at h2
        rw [e2, ad_sees e3.wf (by decide)]
        by_cases c4 : s3.sees wNull = true
        · rw [if_pos c4] at h2 ⊢
          obtain ⟨m1, m2, _⟩ := Adv.next e3.wf (seen_kind c4)
          injection h2 with h2
          injection h2 with h5 h6
          subst h5 h6
          rw [m2]
          exact ⟨((k1.trans n1).trans e3).trans m1, rfl⟩
        · rw [if_neg c4] at h2
          cases h2
      · rw [if_neg c] at h2 ⊢
        by_cases ho : opOf s2 cmpO = 0
        · rw [if_pos ho] at h2 ⊢
          injection h2 with h2
          injection h2 with h5 h6
          subst h5 h6
          exact ⟨k1, rfl⟩
        · rw [if_neg ho] at h2 ⊢
          obtain ⟨n1, n2, _⟩ := Adv.next k1.wf (op_kind ho)
          obtain ⟨y, s3, h3, h4⟩ := bindR_yes h2
          obtain ⟨l1, l2⟩ := ih _ _ _ _ n1.wf h3
          rw [n2, bindR_ok l2]
          injection h4 with h4
          injection h4 with h5 h6
          subst h5 h6
          exact ⟨(k1.trans n1).trans l1, rfl⟩
    | sum =>
      rw [pX] at h ⊢
      obtain ⟨x, s2, h1, h2⟩ := bindR_yes h
      obtain ⟨k1, k2⟩ := ih _ _ _ _ hw h1
      rw [bindR_ok k2]
      obtain ⟨l1, l2⟩ := ih _ _ _ _ k1.wf h2
      exact ⟨k1.trans l1, l2⟩
    | prod =>
      rw [pX] at h ⊢
      obtain ⟨x, s2, h1, h2⟩ := bindR_yes h
      obtain ⟨k1, k2⟩ := ih _ _ _ _ hw h1
      rw [bindR_ok k2]
      obtain ⟨l1, l2⟩ := ih _ _ _ _ k1.wf h2
      exact ⟨k1.trans l1, l2⟩
    | sumL l =>
      rw [pX] at h ⊢
      rw [ad_op hw _ (by decide), ad_hd2 hw]
      by_cases ho : opOf s sumO = 0
      · rw [if_pos ho] at h ⊢
        injection h with h2
        injection h2 with h5 h6
        subst h5 h6
        exact ⟨Adv.refl hw, rfl⟩
      · rw [if_neg ho] at h ⊢
        obtain ⟨n1, n2, _⟩ := Adv.next hw (op_kind ho)
        obtain ⟨y, s3, h3, h4⟩ := bindR_yes h
        obtain ⟨l1, l2⟩ := ih _ _ _ _ n1.wf h3
        rw [n2, bindR_ok l2]
        obtain ⟨m1, m2⟩ := ih _ _ _ _ l1.wf h4
        exact ⟨(n1.trans l1).trans m1, m2⟩
    | prodL l =>
      rw [pX] at h ⊢
      rw [ad_op hw _ (by decide), ad_hd2 hw]
      by_cases ho : opOf s prodO = 0
      · rw [if_pos ho] at h ⊢
        injection h with h2
        injection h2 with h5 h6
        subst h5 h6
        exact ⟨Adv.refl hw, rfl⟩
      · rw [if_neg ho] at h ⊢
        obtain ⟨n1, n2, _⟩ := Adv.next hw (op_kind ho)
        obtain ⟨y, s3, h3, h4⟩ := bindR_yes h
        obtain ⟨l1, l2⟩ := ih _ _ _ _ n1.wf h3
        rw [n2, bindR_ok l2]
        obtain ⟨m1, m2⟩ := ih _ _ _ _ l1.wf h4
        exact ⟨(n1.trans l1).trans m1, m2⟩
    | fact =>
      rw [pX] at h ⊢
      rw [ad_sees hw (by decide), ad_sees hw (by decide), ad_hd2 hw]
      by_cases h1 : s.sees [45] = true
      · rw [if_pos h1] at h ⊢
        obtain ⟨n1, n2, _⟩ := Adv.next hw (seen_kind h1)
        obtain ⟨y, s3, h3, h4⟩ := bindR_yes h
        obtain ⟨l1, l2⟩ := ih _ _ _ _ n1.wf h3
        rw [n2, bindR_ok l2]
        injection h4 with h4
        injection h4 with h5 h6
        subst h5 h6
        exact ⟨n1.trans l1, rfl⟩
      · rw [if_neg h1] at h ⊢
        by_cases h2 : s.sees [40] = true
        · rw [if_pos h2] at h ⊢
          obtain ⟨n1, n2, _⟩ := Adv.next hw (seen_kind h2)
          obtain ⟨y, s3, h3, h4⟩ := bindR_yes h
          obtain ⟨l1, l2⟩ := ih _ _ _ _ n1.wf h3
          rw [n2, bindR_ok l2, ad_sees l1.wf (by decide)]
          by_cases c : s3.sees [41] = true
          · rw [if_pos c] at h4 ⊢
            obtain ⟨m1, m2, _⟩ := Adv.next l1.wf (seen_kind c)
            injection h4 with h4
            injection h4 with h5 h6
            subst h5 h6
            rw [m2]
            exact ⟨(n1.trans l1).trans m1, rfl⟩
          · rw [if_neg c] at h4
            cases h4
        · rw [if_neg h2] at h ⊢
          simp only [ad_kind hw (k := 3) (by decide) (by decide), ad_kind hw (k := 6) (by decide) (by decide)]
          by_cases h3 : s.hd.1.1 = 3
          · rw [if_pos h3] at h ⊢
            obtain ⟨k1, k2⟩ := Ad.colm s e s1 hw (Option.some.inj h).symm
            rw [show colR s.ad = _ from k2.symm]
            exact ⟨k1, rfl⟩
          · rw [if_neg h3] at h ⊢
            by_cases h4 : s.hd.1.1 = 6
            · rw [if_pos h4] at h ⊢
              obtain ⟨n1, n2, n3⟩ := Adv.next hw (by omega)
              injection h with h5
              injection h5 with h5 h6
              subst h5 h6
              rw [n2, n3]
              exact ⟨n1, rfl⟩
            · rw [if_neg h4] at h ⊢
              cases hl : litR s with
              | bad p => rw [hl] at h; cases h
              | ok v s2 =>
                rw [hl] at h
                obtain ⟨k1, k2⟩ := Ad.lit s v s2 hw hl.symm
                rw [show litR s.ad = _ from k2.symm]
                injection h with h5
                injection h5 with h5 h6
                subst h5 h6
                exact ⟨k1, rfl⟩
theorem Ad.expr : Ad exprR := by
  rintro s e s1 hw ⟨n, h⟩
  obtain ⟨k1, k2⟩ := pX_ad n .or s e s1 hw h
  exact ⟨k1, n, k2⟩
theorem Ad.look {α : Type} {F : Nat → Rd_ α} (h : ∀ p, Ad (F p)) : Ad (fun s => F s.hd.2 s) := by
  intro s a s1 hw k
  obtain ⟨k1, k2⟩ := h _ _ _ _ hw k
  refine ⟨k1, ?_⟩
  show F s.ad.hd.2 s.ad _
  rw [ad_hd2 hw]
  exact k2
theorem Ad.over (k : Int) (p : Nat) : Ad (overR k p) := (Ad.want _ (by decide)).bind fun _ => Ad.expr.bind fun _ => (Ad.want _ (by decide)).bind fun _ => Ad.ret _
theorem Ad.item : Ad itemR := Ad.look (F := fun (p : Nat) => ifR wCOUNT (thenR (wantR [[40], [42], [41]]) fun _ => retR (Ex.mk 11 0 v0 ⟨#[]⟩ ⟨#[]⟩ [] (p : Int))) (ifR wSUM (overR 12 p) (ifR wMIN (overR 13 p) (ifR wMAX (overR 14 p) exprR)))) fun _ => Ad.if (by decide) ((Ad.want _ (by decide)).bind fun _ => Ad.ret _) (Ad.if (by decide) (Ad.over _ _) (Ad.if (by decide) (Ad.over _ _) (Ad.if (by decide) (Ad.over _ _) Ad.expr)))
theorem Ad.set : Ad setR := Ad.look (F := fun p => thenR namR fun n => thenR (wantR [[61]]) fun _ => thenR exprR fun e => retR (n, e, (p : Int))) fun _ => Ad.nam.bind fun _ => (Ad.want _ (by decide)).bind fun _ => Ad.expr.bind fun _ => Ad.ret _
theorem Ad.sort : Ad sortR := Ad.num.bind fun _ => Ad.if (by decide) (Ad.ret _) (Ad.ret _)
theorem Ad.whr : Ad whereR := Ad.if (by decide) (Ad.expr.bind fun _ => Ad.ret _) (Ad.ret _)
theorem Ad.ins : Ad insR := (Ad.want _ (by decide)).bind fun _ => Ad.nam.bind fun _ => (Ad.want _ (by decide)).bind fun _ => (Ad.expr.list _).bind fun _ => (Ad.want _ (by decide)).bind fun _ => Ad.ret _
theorem Ad.upd : Ad updR := Ad.nam.bind fun _ => (Ad.want _ (by decide)).bind fun _ => (Ad.set.list _).bind fun _ => Ad.whr.bind fun _ => Ad.ret _
theorem Ad.del : Ad delR := (Ad.want _ (by decide)).bind fun _ => Ad.nam.bind fun _ => Ad.whr.bind fun _ => Ad.ret _
theorem Ad.star : Ad starR := Ad.if (by decide) (Ad.ret _) ((Ad.item.list _).bind fun _ => Ad.ret _)
theorem Ad.join : Ad joinR := Ad.if (by decide) (Ad.place.bind fun _ => Ad.nam.bind fun _ => (Ad.want _ (by decide)).bind fun _ => Ad.expr.bind fun _ => Ad.ret _) (Ad.ret _)
theorem Ad.group : Ad groupR := Ad.if (by decide) ((Ad.want _ (by decide)).bind fun _ => Ad.colm.list _) (Ad.ret _)
theorem Ad.order : Ad orderR := Ad.if (by decide) ((Ad.want _ (by decide)).bind fun _ => Ad.sort.list _) (Ad.ret _)
theorem Ad.limit : Ad limitR := Ad.if (by decide) (Ad.num.bind fun _ => Ad.ret _) (Ad.ret _)
theorem Ad.sel : Ad selR := Ad.star.bind fun _ => (Ad.want _ (by decide)).bind fun _ => Ad.nam.bind fun _ => Ad.join.bind fun _ => Ad.whr.bind fun _ => Ad.group.bind fun _ => Ad.order.bind fun _ => Ad.limit.bind fun _ => Ad.ret _
def stAt (p : Nat) : Rd_ St := thenR (ifR wINSERT insR (ifR wUPDATE updR (ifR wDELETE delR (ifR wSELECT selR badR)))) fun t => retR { t with place := p }
theorem Ad.st : Ad stR := Ad.look (F := stAt) fun _ => (Ad.if (by decide) Ad.ins (Ad.if (by decide) Ad.upd (Ad.if (by decide) Ad.del (Ad.if (by decide) Ad.sel Ad.none)))).bind fun _ => Ad.ret _
theorem wf_one {l : List T} (h : Wf l) (k : (PS.hd ⟨l, 0, 0⟩).1.1 = 1) : l.length = 1 := by
  rcases ad_ways (s := ⟨l, 0, 0⟩) h with ⟨_, _, e⟩ | ⟨e, _⟩
  · exact e
  · exact absurd k e
/-- With a semicolon ahead of the end a source is read as the same, if it has none there. -/
theorem semi_more {l : List T} {r : Res St} {t : St} (hw : Wf l) (h : stR ⟨l, 0, 0⟩ r) (e : outOf r = .st t) (hl : ∀ hl : 1 < l.length, l[l.length - 2].1.2.2 ≠ ⟨#[59]⟩) : ∃ r', stR ⟨adL l, 0, 0⟩ r' ∧ outOf r' = .st t := by
  cases r with
  | bad p => cases e
  | ok u s1 =>
    obtain ⟨k1, k2⟩ := Ad.st _ _ _ hw h
    refine ⟨_, k2, ?_⟩
    have hsuf : s1.rest <:+ l := k1.suf
    have hns : s1.sees [59] = false := by
      cases hs : s1.sees [59] with
      | false => rfl
      | true =>
        exfalso
        obtain ⟨n1, _, _⟩ := Adv.next k1.wf (seen_kind hs)
        have hse : semi s1 = s1.next := by unfold semi; rw [if_pos hs]
        have h1 : (semi s1).hd.1.1 = 1 := by
          rw [outOf] at e
          by_cases c : (semi s1).hd.1.1 = 1
          · exact c
          · rw [if_neg c] at e; cases e
        rw [hse] at h1
        have hlen : s1.next.rest.length = 1 := wf_one n1.wf h1
        obtain ⟨q, hq⟩ := hsuf
        cases hr : s1.rest with
        | nil => have := k1.wf; rw [hr] at this; exact this
        | cons x m =>
          have hm : m.length = 1 := by
            have : s1.next.rest = m := by show s1.rest.tail = m; rw [hr]; rfl
            rw [← this]
            exact hlen
          rw [hr] at hq
          have hll : l.length = q.length + 2 := by rw [← hq]; simp [hm]
          have hx : l[l.length - 2]'(by omega) = x := by
            have : l.length - 2 = q.length := by omega
            simp only [this]
            simp only [← hq]
            simp
          have h2 := hl (by omega)
          rw [hx] at h2
          unfold PS.sees PS.hd at hs
          rw [hr] at hs
          simp only [List.headD_cons, Bool.and_eq_true, beq_iff_eq] at hs
          apply h2
          have h3 := hs.2
          rw [← ofL_list x.1.2.2, h3]
          rfl
    have hse : semi s1 = s1 := by unfold semi; rw [if_neg (by rw [hns]; simp)]
    rw [outOf, hse] at e
    by_cases c1 : s1.hd.1.1 = 1
    · rw [if_pos c1] at e
      rcases ad_ways k1.wf with ⟨_, a2, a3⟩ | ⟨a1, _⟩
      · have hs2 : s1.ad.sees [59] = true := by
          unfold PS.sees
          rw [a2]
          rfl
        obtain ⟨x, hx⟩ : ∃ x, s1.rest = [x] := List.length_eq_one_iff.1 a3
        have hx1 : x.1.1 = 1 := by have := c1; unfold PS.hd at this; rw [hx] at this; exact this
        have hsm : semi s1.ad = s1 := by
          unfold semi
          rw [if_pos hs2]
          obtain ⟨r, c, p⟩ := s1
          simp only at hx
          subst hx
          rfl
        rw [outOf, hsm, if_pos c1]
        exact e
      · exact absurd c1 a1
    · rw [if_neg c1] at e
      cases e
end Go.Proofs.YtmfplnodafodoaaGreatDoor
/- Plain mathematics of layer 11: blanks between tokens, and a semicolon at the end. -/
namespace Go.Proofs.YtmfplnodafodoaaGreatDoor
open Go Go.RowKit
theorem list_sizeC (s : ByteArray) : s.data.toList.length = s.size := by simp
theorem outL_end {S : List UInt8} (p : List UInt8) : ∀ (l : List T) (f : Nat) (cs : List (List UInt8)), cs.length + 1 = l.length → (∀ h : 0 < l.length, l[l.length - 1].2 = S.length) → outL S f l (cs ++ [p]) = outL S f l (cs ++ [[]]) ++ p
  | [], _, _, h, _ => by simp at h
  | [t], f, cs, h, hl => by
    have : cs = [] := by simpa using h
    subst this
    have e : t.2 = S.length := hl (by simp)
    simp only [List.nil_append, outL, e, List.drop_length, List.append_nil]
  | t :: u :: l, f, [], h, _ => by simp at h
  | t :: u :: l, f, c :: cs, h, hl => by
    simp only [List.cons_append, outL]
    rw [outL_end p (u :: l) t.2 cs (by simpa using h) (fun h0 => by have := hl (by simp); simpa using this)]
    simp only [List.append_assoc]
theorem toks_one32 (a : Nat) : ∃ p, Toks [32] a [((1, 0, ⟨#[]⟩), p)] := ⟨_, Toks.fin rfl⟩
theorem toks_semi (a : Nat) : ∃ p q, Toks [32, 59] a [((7, 0, ⟨#[59]⟩), p), ((1, 0, ⟨#[]⟩), q)] := by
  have hs : skipL [32, 59] = [59] := rfl
  refine ⟨_, _, Toks.more (t := (7, 0, ⟨#[59]⟩)) (by rw [hs]; simp) (by rw [pce, hs]; exact tokR_sign (c := 59) (l := []) (by decide)) (Toks.fin ?_)⟩
  rw [rst, hs]
  rfl
theorem map_drop_last {l m : List T} (h : l.map Prod.fst = m.map Prod.fst) : l.dropLast.map Prod.fst = m.dropLast.map Prod.fst := by rw [List.map_dropLast, List.map_dropLast, h]
theorem last_end {S : List UInt8} {l : List T} (h : Pl S l) : l.map Prod.fst = l.dropLast.map Prod.fst ++ [(1, 0, ⟨#[]⟩)] ∧ (l.drop (l.length - 1)).map Prod.fst = [(1, 0, ⟨#[]⟩)] := by
  obtain ⟨h0, hl⟩ := h.last
  have hne : l ≠ [] := List.length_pos_iff.1 h0
  have e : l.getLast hne = ((1, 0, ⟨#[]⟩), S.length) := by rw [List.getLast_eq_getElem]; exact hl
  refine ⟨?_, ?_⟩
  · have := congrArg (List.map Prod.fst) (List.dropLast_concat_getLast hne)
    rw [List.map_append, e] at this
    exact this.symm
  · rw [List.drop_eq_getElem_cons (by omega), hl, List.drop_eq_nil_of_le (by omega)]
    rfl
theorem blanks {S O : List UInt8} {l : List T} (h : Toks S 0 l) (hO : O = outL S 0 l (List.replicate l.length [10, 32])) : (∃ us, Toks O 0 us ∧ us.map Prod.fst = l.map Prod.fst) ∧ ∃ us, Toks (O ++ [59]) 0 us ∧ us.map Prod.fst = (adL l).map Prod.fst := by
  have hP := h.places (S := S) rfl (Nat.zero_le _)
  obtain ⟨h0, hl⟩ := hP.last
  obtain ⟨n, hn⟩ : ∃ n, l.length = n + 1 := ⟨l.length - 1, by omega⟩
  obtain ⟨us, u1, u2, _⟩ := h.puts (S := S) rfl (Nat.zero_le _) (List.replicate n [10, 32] ++ [[]]) (by simp [hn]) (fun p hp => by
    rcases List.mem_append.1 hp with hp | hp
    · rw [(List.mem_replicate.1 hp).2]; decide
    · rw [List.mem_singleton.1 hp]; decide) 0
  have u2' : us.map Prod.fst = l.map Prod.fst := u2
  have hO2 : O = outL S 0 l (List.replicate n [10, 32] ++ [[]]) ++ 10 :: [32] := by
    rw [hO, hn, List.replicate_succ', outL_end [10, 32] l 0 _ (by simp [hn]) (fun _ => by rw [hl])]
  obtain ⟨e1, e2⟩ := last_end hP
  constructor
  · obtain ⟨p, hp⟩ := toks_one32 (0 + (outL S 0 l (List.replicate n [10, 32] ++ [[]])).length + 1)
    refine ⟨_, by rw [hO2]; exact u1.join hp, ?_⟩
    rw [List.map_append, map_drop_last u2', e1]
    rfl
  · obtain ⟨p, q, hp⟩ := toks_semi (0 + (outL S 0 l (List.replicate n [10, 32] ++ [[]])).length + 1)
    refine ⟨_, by rw [hO2, List.append_assoc]; exact u1.join hp, ?_⟩
    rw [List.map_append, map_drop_last u2', adL_map (toks_wf h), e2, List.append_assoc]
    rfl
/-- Ahead of a round: what is out so far, and where the source goes on. -/
structure Bk (s : ByteArray) (l : List T) (i F : Nat) (O : ByteArray) : Prop where
  le : F ≤ s.size
  few : O.size = F + 2 * i
  next : ∀ h : i < l.length, F ≤ l[i].2
  fin : i = l.length → F = s.size
  all : ∀ ps, O.data.toList ++ outL s.data.toList F (l.drop i) ps = outL s.data.toList 0 l (List.replicate i [10, 32] ++ ps)
theorem Bk.start {s : ByteArray} {l : List T} (h : l ≠ []) : Bk s l 0 0 ⟨#[]⟩ := ⟨Nat.zero_le _, rfl, fun _ => Nat.zero_le _, fun e => absurd (List.length_eq_zero_iff.1 e.symm) h, fun ps => by simp⟩
theorem Bk.step {s : ByteArray} {l : List T} {i F : Nat} {O : ByteArray} (h : Bk s l i F O) (hp : Pl s.data.toList l) (hi : i < l.length) : Bk s l (i + 1) l[i].2 (O ++ s.extract F l[i].2 ++ ⟨#[10, 32]⟩) ∧ l[i].2 ≤ s.size := by
  have hA : l[i].2 ≤ s.size := by
    rw [← list_sizeC]
    by_cases hj : i + 1 < l.length
    · obtain ⟨a1, a2, _⟩ := hp.at i hj
      omega
    · obtain ⟨a1, a2⟩ := hp.last
      have : l.length - 1 = i := by omega
      simp only [this] at a2
      rw [a2]
      exact Nat.le_refl _
  have hF := h.next hi
  refine ⟨⟨hA, ?_, fun hj => Nat.le_of_lt (hp.at i hj).1, fun e => ?_, fun ps => ?_⟩, hA⟩
  · have := h.few
    rw [ByteArray.size_append, ByteArray.size_append, ByteArray.size_extract]
    show O.size + (min l[i].2 s.size - F) + 2 = _
    omega
  · obtain ⟨a1, a2⟩ := hp.last
    have : l.length - 1 = i := by omega
    simp only [this] at a2
    rw [a2]
    exact list_sizeC s
  · have := h.all ([10, 32] :: ps)
    rw [List.replicate_succ', List.append_assoc]
    simp only [List.cons_append, List.nil_append]
    rw [← this, List.drop_eq_getElem_cons hi]
    simp only [outL]
    have e : (s.extract F l[i].2).data.toList = (s.data.toList.drop F).take (l[i].2 - F) := by
      rw [ByteArray.data_extract]
      simp [List.extract_eq_take_drop]
    rw [ByteArray.data_append, ByteArray.data_append, Array.toList_append, Array.toList_append, e]
    simp only [List.append_assoc]
theorem Bk.done {s : ByteArray} {l : List T} {F : Nat} {O : ByteArray} (h : Bk s l l.length F O) : O.data.toList = outL s.data.toList 0 l (List.replicate l.length [10, 32]) := by
  have := h.all []
  rw [List.append_nil, List.drop_length, h.fin rfl] at this
  rw [← this]
  simp only [outL]
  rw [List.drop_eq_nil_of_le (by simp), List.append_nil]
theorem scan_toksC {s : ByteArray} {l : List T} {p : Nat} (h : ScanIs s l p 0) : Toks s.data.toList 0 l ∧ s.size ≤ 1000 := by
  rcases h with ⟨_, _, _, h⟩ | ⟨h0, ⟨_, _, h⟩ | ⟨_, h⟩⟩
  · exact absurd h (by decide)
  · exact ⟨h, h0⟩
  · exact absurd rfl h.ne
/-- What becomes of a source with blanks put in; and with a semicolon besides. -/
theorem blanks_parse {s O : ByteArray} {l : List T} {p : Nat} {o o1 o2 : Out} (hs : ScanIs s l p 0) (hO : Bk s l l.length s.size O) (hsz : O.size + 1 ≤ 1000) (h : ParseIs s o) (h1 : ParseIs O o1) (h2 : ParseIs (O ++ ⟨#[59]⟩) o2) : OutA o o1 ∧ ∀ t, o = .st t → (∃ u, o2 = .st u ∧ t.z = u.z) ∨ ∃ hl : 1 < l.length, l[l.length - 2].1.2.2 = ⟨#[59]⟩ := by
  obtain ⟨ht, hss⟩ := scan_toksC hs
  obtain ⟨⟨us, a1, a2⟩, ⟨vs, b1, b2⟩⟩ := blanks ht hO.done
  have hb1 : Toks (O ++ ⟨#[59]⟩).data.toList 0 vs := by rw [ByteArray.data_append, Array.toList_append]; exact b1
  have r0 : ∃ r, stR ⟨l, 0, 0⟩ r ∧ o = outOf r := by
    obtain ⟨l', p', c', e1, e2⟩ := h
    obtain ⟨rfl, rfl, rfl⟩ := e1.one hs
    rcases e2 with ⟨e, _⟩ | ⟨_, e⟩
    · exact absurd rfl e
    · exact e
  have r1 : ∃ r, stR ⟨us, 0, 0⟩ r ∧ o1 = outOf r := by
    obtain ⟨l', p', c', e1, e2⟩ := h1
    obtain ⟨rfl, rfl, rfl⟩ := e1.one (show ScanIs O us 0 0 from Or.inr ⟨by omega, Or.inl ⟨rfl, rfl, a1⟩⟩)
    rcases e2 with ⟨e, _⟩ | ⟨_, e⟩
    · exact absurd rfl e
    · exact e
  have r2 : ∃ r, stR ⟨vs, 0, 0⟩ r ∧ o2 = outOf r := by
    obtain ⟨l', p', c', e1, e2⟩ := h2
    obtain ⟨rfl, rfl, rfl⟩ := e1.one (show ScanIs (O ++ ⟨#[59]⟩) vs 0 0 from Or.inr ⟨by rw [ByteArray.size_append]; exact hsz, Or.inl ⟨rfl, rfl, hb1⟩⟩)
    rcases e2 with ⟨e, _⟩ | ⟨_, e⟩
    · exact absurd rfl e
    · exact e
  obtain ⟨r0, k0, rfl⟩ := r0
  obtain ⟨r1, k1, rfl⟩ := r1
  obtain ⟨r2, k2, rfl⟩ := r2
  refine ⟨out_alike (st_alike a2.symm k0 k1), fun t e => ?_⟩
  by_cases hl : ∃ hl : 1 < l.length, l[l.length - 2].1.2.2 = ⟨#[59]⟩
  · exact Or.inr hl
  · left
    obtain ⟨r', m1, m2⟩ := semi_more (toks_wf ht) k0 e (fun h1 h2 => hl ⟨h1, h2⟩)
    have := out_alike (st_alike b2.symm m1 k2)
    rw [m2] at this
    cases hq : outOf r2 with
    | fault c p => rw [hq] at this; exact this.elim
    | st u => rw [hq] at this; exact ⟨u, rfl, this⟩
end Go.Proofs.YtmfplnodafodoaaGreatDoor
/- Walks of layer 11: SyntaxBlanks. -/
namespace Go.Proofs.YtmfplnodafodoaaGreatDoor
open Go.RowKit
set_option maxHeartbeats 32000000 in
set_option maxRecDepth 100000 in
theorem syntaxBlanks_law (s : ByteArray) (w : World) (hv : SV w) : Calls Tryz.prog 6 #[.string s] w fun e w' => e = .returned (.bool true) ∧ Below w.heap.size w w' := by
  have HV := Lib.hid hv
  clear hv
  go_enter Tryz.func6, Tryz.ntmps6
  go_wp2_with fail
  refine (synAwake_any w HV.out).mono ?_
  rintro e w1 ⟨rfl, hb⟩
  have HB := Lib.hid hb
  clear hb
  go_wp2_with fail
  refine (scan_any s _ (HV.out.later HB.out)).mono ?_
  rintro e w2 ⟨la, lc, l, p0, c, rfl, hsc, hown, hlen, hb2⟩
  have HSC := Lib.hid hsc
  have HOW := Lib.hid hown
  have HB2 := Lib.hid (HB.out.trans (hb2.mono HB.out.size))
  clear hsc hown hb2 HB
  by_cases hc : c = 0
  rotate_left
  · have hce : (c != 0) = true := by simpa using hc
    clear hc
    go_wp2
    exact bodyPost_ret (v := .bool true) (by simp [results, Tryz.results6, go_sem]) rfl ⟨rfl, HB2.out⟩
  subst hc
  obtain ⟨ht, hsz⟩ := scan_toksC HSC.out
  obtain ⟨g, c9, e9, hBg, hgl, hnc, htr⟩ := tr_own HOW.out (toks_wf ht).ne
  injection e9 with e1 _ e3
  subst e1 e3
  have HTR := Lib.hid htr
  have HT := Lib.hid ht
  have HP := Lib.hid (ht.places (S := s.data.toList) rfl (Nat.zero_le _))
  clear htr ht HOW hBg
  obtain ⟨n, hn⟩ : ∃ n, l.length = n := ⟨_, rfl⟩
  have HN := Lib.hid hn
  have v1 : IntKind.i64.wrap (2 * (n : Int)) = 2 * (n : Int) := by rw [IntKind.wrap_i64]; omega
  have v2 : IntKind.i64.wrap ((s.size : Int) + 2 * (n : Int)) = (s.size : Int) + 2 * (n : Int) := by rw [IntKind.wrap_i64]; omega
  have v3 : IntKind.i64.wrap ((s.size : Int) + 2 * (n : Int) + 2) = (s.size : Int) + 2 * (n : Int) + 2 := by rw [IntKind.wrap_i64]; omega
  rw [hn] at hlen hnc ⊢
  clear hn
  by_cases hlong : 1000 < s.size + 2 * n + 2
  · have i1 : (1000 : Int) < (s.size : Int) + 2 * (n : Int) + 2 := by omega
    go_wp2
    exact bodyPost_ret (v := .bool true) (by simp [results, Tryz.results6, go_sem]) rfl ⟨rfl, HB2.out⟩
  have i1 : ¬ (1000 : Int) < (s.size : Int) + 2 * (n : Int) + 2 := by omega
  go_wp2
  clear v1 v2 v3 i1
  go_loopw [7, 8, 9] (fun o f i wr => ∃ (i' F : Nat) (O : ByteArray), o = .string O ∧ f = .int .i64 (F : Int) ∧ i = .int .i64 (i' : Int) ∧ i' ≤ n ∧ Bk s l i' F O ∧ Below w2.heap.size w2 wr) (fun _ _ i _ => n - (intOf i).toNat)
  case atStart => exact ⟨0, 0, ⟨#[]⟩, rfl, rfl, rfl, Nat.zero_le _, Bk.start (toks_wf HT.out).ne, by (repeat (first | exact Below.refl _ _ | assumption | refine Below.drew ?_ | refine below_drewN ?_ _ | refine Below.alloc ?_ (by first | omega | (simp; done) | (simp; omega)) _ | refine Below.setCell ?_ (by first | omega | (simp; done) | (simp; omega)) _ | refine Below.trans ?_ (Below.mono (by assumption) (by first | omega | (simp; done) | (simp; omega)))))⟩
  case round =>
    obtain ⟨i, F, O, rfl, rfl, rfl, hin, hbl, hb⟩ := hrel
    have HBl := Lib.hid hbl
    have HBL := Lib.hid hb
    clear hbl hb
    by_cases hlt : i < n
    · have hlti : (i : Int) < (n : Int) := by omega
      have hil : i < l.length := by have := HN.out; omega
      obtain ⟨b, off, e1, -, -, -, t3⟩ := HTR.out i hil
      injection e1 with e1
      injection e1 with e1 e11 _
      subst e1 e11
      have a3 := (HBL.out.cell (World.block_lt_of_cell? _ _ t3)).trans t3
      clear t3
      have hA1 := (HBl.out.step HP.out hil).2
      have hA2 := HBl.out.next hil
      have hF := HBl.out.le
      have hO := HBl.out.few
      obtain ⟨A, hA⟩ : ∃ A, l[i].2 = A := ⟨_, rfl⟩
      obtain ⟨X, hX⟩ : ∃ X, s.extract F A = X := ⟨_, rfl⟩
      have hXs : X.size ≤ 1000 := by rw [← hX, ByteArray.size_extract]; omega
      have HST : Hid (Bk s l (i + 1) A (O ++ X ++ ⟨#[10, 32]⟩)) := by
        have := (HBl.out.step HP.out hil).1
        simp only [hA, hX] at this
        exact this
      rw [hA] at a3 hA1 hA2
      simp only [Nat.zero_add] at a3
      clear hA
      have r0 : ¬ (A : Int) < (F : Int) := by omega
      have r1 : (F : Int) ≤ (A : Int) := by omega
      have r2 : (A : Int) ≤ (s.size : Int) := by omega
      have r4 : ¬ (s.size : Int) < (A : Int) := by omega
      have r3 : (0 : Int) ≤ (F : Int) := by omega
      have g1 : ¬ 9223372036854775807 < O.size + X.size := by omega
      have g2 : ¬ 9223372036854775807 < O.size + X.size + 2 := by omega
      go_wp2
      go_roundw
      case rel => exact ⟨i + 1, A, O ++ X ++ ⟨#[10, 32]⟩, rfl, rfl, by go_num, by omega, HST.out, by have h0 := HBL.out; have hz := h0.size; (repeat (first | exact Below.refl _ _ | assumption | refine Below.drew ?_ | refine below_drewN ?_ _ | refine Below.alloc ?_ (by first | omega | (simp; done) | (simp; omega)) _ | refine Below.setCell ?_ (by first | omega | (simp; done) | (simp; omega)) _ | refine Below.trans ?_ (Below.mono (by assumption) (by first | omega | (simp; done) | (simp; omega)))))⟩
      case measure => simp [intOf]; omega
    · have hlti : ¬ (i : Int) < (n : Int) := by omega
      obtain rfl : i = n := by omega
      have HBk : Hid (Bk s l l.length s.size O) := by
        have h := HBl.out
        have e := HN.out
        have hF := h.fin e.symm
        rw [hF, ← e] at h
        exact h
      have hO : O.size + 1 ≤ 1000 := by have := HBk.out.few; have := HN.out; omega
      have i2 : ¬ (1000 : Int) < (O.size : Int) + 1 := by omega
      have HOS := Lib.hid hO
      have HB3 := Lib.hid (HB2.out.trans (HBL.out.mono HB2.out.size))
      have HL3 := HBL
      clear HBl HBL
      go_wp2_with fail
      refine (synParse_any s _ (HV.out.later HB3.out)).mono ?_
      intro e u1 hpp
      obtain ⟨fc1, fp1, x, v, o1, rfl, ⟨a0, a1, a2, a3, a4, a5, a6, c0, c1, c2, c3, c4, c5, c6, rfl, hx⟩, hb3, hpi, hor⟩ := parse_all hpp
      have HPI1 := Lib.hid hpi
      have HOR1 := Lib.hid hor
      have hbx := hx.ra
      clear hpp hx hpi hor
      simp only [stC]
      go_upto_region 17 with fail
      obtain ⟨W1, hW1⟩ : ∃ W, (u1.alloc (.cells #[.int .i64 x.kind, .string x.table, .string x.join, .slice a0 x.on.length c0, .slice a1 x.whr.length c1, .slice a2 x.items.length c2, .bool x.star, .slice a3 x.sets.length c3, .slice a4 x.groups.length c4, .slice a5 x.sorts.length c5, .slice a6 x.limit.length c6, .int .i64 x.place, .int .i64 x.joinAt] 27)).alloc (.cells #[.int .i64 fc1, .int .i64 fp1] 30) = W := ⟨_, rfl⟩
      rw [hW1]
      obtain ⟨r3, r4, k4⟩ := hW1 ▸ two_new (w := u1) (o := .cells #[.int .i64 x.kind, .string x.table, .string x.join, .slice a0 x.on.length c0, .slice a1 x.whr.length c1, .slice a2 x.items.length c2, .bool x.star, .slice a3 x.sets.length c3, .slice a4 x.groups.length c4, .slice a5 x.sorts.length c5, .slice a6 x.limit.length c6, .int .i64 x.place, .int .i64 x.joinAt] 27) (p := .cells #[.int .i64 fc1, .int .i64 fp1] 30)
      clear hW1
      have hstep := hb3.trans (k4.mono hb3.size)
      have RS1 := Lib.hid r3
      have RF1 := Lib.hid r4
      have RX1 := Lib.hid (hbx.later k4)
      have HB3 := Lib.hid (HB3.out.trans (hstep.mono HB3.out.size))
      have HL3 := Lib.hid (HL3.out.trans (hstep.mono HL3.out.size))
      clear r3 r4 k4 hb3 hbx hstep
      go_wp2_with fail
      refine (synParse_any O _ (HV.out.later HB3.out)).mono ?_
      intro e u2 hpp
      obtain ⟨fc2, fp2, y, v, o2, rfl, ⟨b0, b1, b2, b3, b4, b5, b6, d0, d1, d2, d3, d4, d5, d6, rfl, hx⟩, hb3, hpi, hor⟩ := parse_all hpp
      have HPI2 := Lib.hid hpi
      have HOR2 := Lib.hid hor
      have hbx := hx.ra
      clear hpp hx hpi hor
      simp only [stC]
      go_upto_region 18 with fail
      obtain ⟨W2, hW2⟩ : ∃ W, (u2.alloc (.cells #[.int .i64 y.kind, .string y.table, .string y.join, .slice b0 y.on.length d0, .slice b1 y.whr.length d1, .slice b2 y.items.length d2, .bool y.star, .slice b3 y.sets.length d3, .slice b4 y.groups.length d4, .slice b5 y.sorts.length d5, .slice b6 y.limit.length d6, .int .i64 y.place, .int .i64 y.joinAt] 27)).alloc (.cells #[.int .i64 fc2, .int .i64 fp2] 30) = W := ⟨_, rfl⟩
      rw [hW2]
      obtain ⟨r3, r4, k4⟩ := hW2 ▸ two_new (w := u2) (o := .cells #[.int .i64 y.kind, .string y.table, .string y.join, .slice b0 y.on.length d0, .slice b1 y.whr.length d1, .slice b2 y.items.length d2, .bool y.star, .slice b3 y.sets.length d3, .slice b4 y.groups.length d4, .slice b5 y.sorts.length d5, .slice b6 y.limit.length d6, .int .i64 y.place, .int .i64 y.joinAt] 27) (p := .cells #[.int .i64 fc2, .int .i64 fp2] 30)
      clear hW2
      have hstep := hb3.trans (k4.mono hb3.size)
      have RS1 := Lib.hid ((hstep.block _ (Array.getElem?_eq_some_iff.1 RS1.out).1).trans RS1.out)
      have RF1 := Lib.hid ((hstep.block _ (Array.getElem?_eq_some_iff.1 RF1.out).1).trans RF1.out)
      have RX1 := Lib.hid (RX1.out.later hstep)
      have RS2 := Lib.hid r3
      have RF2 := Lib.hid r4
      have RX2 := Lib.hid (hbx.later k4)
      have HB3 := Lib.hid (HB3.out.trans (hstep.mono HB3.out.size))
      have HL3 := Lib.hid (HL3.out.trans (hstep.mono HL3.out.size))
      clear r3 r4 k4 hb3 hbx hstep
      have g3 : ¬ 9223372036854775807 < O.size + 1 := by omega
      go_wp2_with fail
      obtain ⟨U, hU⟩ : ∃ U, O ++ (⟨#[59]⟩ : ByteArray) = U := ⟨_, rfl⟩
      rw [hU]
      have HU : Hid (O ++ (⟨#[59]⟩ : ByteArray) = U) := hU
      clear hU g3
      refine (synParse_any U _ (HV.out.later HB3.out)).mono ?_
      intro e u3 hpp
      obtain ⟨fc3, fp3, z, v, o3, rfl, ⟨e0, e1, e2, e3, e4, e5, e6, f0, f1, f2, f3, f4, f5, f6, rfl, hx⟩, hb3, hpi, hor⟩ := parse_all hpp
      have HPI3 := Lib.hid hpi
      have HOR3 := Lib.hid hor
      have hbx := hx.ra
      clear hpp hx hpi hor
      simp only [stC]
      go_upto_region 19 with fail
      obtain ⟨W3, hW3⟩ : ∃ W, (u3.alloc (.cells #[.int .i64 z.kind, .string z.table, .string z.join, .slice e0 z.on.length f0, .slice e1 z.whr.length f1, .slice e2 z.items.length f2, .bool z.star, .slice e3 z.sets.length f3, .slice e4 z.groups.length f4, .slice e5 z.sorts.length f5, .slice e6 z.limit.length f6, .int .i64 z.place, .int .i64 z.joinAt] 27)).alloc (.cells #[.int .i64 fc3, .int .i64 fp3] 30) = W := ⟨_, rfl⟩
      rw [hW3]
      obtain ⟨r3, r4, k4⟩ := hW3 ▸ two_new (w := u3) (o := .cells #[.int .i64 z.kind, .string z.table, .string z.join, .slice e0 z.on.length f0, .slice e1 z.whr.length f1, .slice e2 z.items.length f2, .bool z.star, .slice e3 z.sets.length f3, .slice e4 z.groups.length f4, .slice e5 z.sorts.length f5, .slice e6 z.limit.length f6, .int .i64 z.place, .int .i64 z.joinAt] 27) (p := .cells #[.int .i64 fc3, .int .i64 fp3] 30)
      clear hW3
      have hstep := hb3.trans (k4.mono hb3.size)
      have RS1 := Lib.hid ((hstep.block _ (Array.getElem?_eq_some_iff.1 RS1.out).1).trans RS1.out)
      have RF1 := Lib.hid ((hstep.block _ (Array.getElem?_eq_some_iff.1 RF1.out).1).trans RF1.out)
      have RX1 := Lib.hid (RX1.out.later hstep)
      have RS2 := Lib.hid ((hstep.block _ (Array.getElem?_eq_some_iff.1 RS2.out).1).trans RS2.out)
      have RF2 := Lib.hid ((hstep.block _ (Array.getElem?_eq_some_iff.1 RF2.out).1).trans RF2.out)
      have RX2 := Lib.hid (RX2.out.later hstep)
      have RS3 := Lib.hid r3
      have RF3 := Lib.hid r4
      have RX3 := Lib.hid (hbx.later k4)
      have HB3 := Lib.hid (HB3.out.trans (hstep.mono HB3.out.size))
      have HL3 := Lib.hid (HL3.out.trans (hstep.mono HL3.out.size))
      clear r3 r4 k4 hb3 hbx hstep
      have HBP := Lib.hid (blanks_parse HSC.out HBk.out HOS.out HPI1.out HPI2.out (HU.out ▸ HPI3.out))
      clear HPI1 HPI2 HPI3
      obtain ⟨⟨s0, s1, s2, s3, s4, s5, s6, s7, s8, s9, s10, s11, s12⟩, -⟩ := thirt_of RS1.out
      obtain ⟨⟨t0, t1, t2, t3, t4, t5, t6, t7, t8, t9, t10, t11, t12⟩, -⟩ := thirt_of RS2.out
      go_wp2_with fail
      refine (same_st x y a0 a1 a2 a3 a4 a5 a6 b0 b1 b2 b3 b4 b5 b6 c0 c1 c2 c3 c4 c5 c6 d0 d1 d2 d3 d4 d5 d6 _ RX1.out RX2.out).mono ?_
      rintro e w6 ⟨⟨q, rfl, hq⟩, hl⟩
      have HQ1 := Lib.hid hq
      clear hq
      have RS1 := Lib.hid ((hl.block _ (Array.getElem?_eq_some_iff.1 RS1.out).1).trans RS1.out)
      have RF1 := Lib.hid ((hl.block _ (Array.getElem?_eq_some_iff.1 RF1.out).1).trans RF1.out)
      have RX1 := Lib.hid (RX1.out.later hl)
      have RS2 := Lib.hid ((hl.block _ (Array.getElem?_eq_some_iff.1 RS2.out).1).trans RS2.out)
      have RF2 := Lib.hid ((hl.block _ (Array.getElem?_eq_some_iff.1 RF2.out).1).trans RF2.out)
      have RX2 := Lib.hid (RX2.out.later hl)
      have RS3 := Lib.hid ((hl.block _ (Array.getElem?_eq_some_iff.1 RS3.out).1).trans RS3.out)
      have RF3 := Lib.hid ((hl.block _ (Array.getElem?_eq_some_iff.1 RF3.out).1).trans RF3.out)
      have RX3 := Lib.hid (RX3.out.later hl)
      have HB3 := Lib.hid (HB3.out.trans (hl.mono HB3.out.size))
      have HL3 := Lib.hid (HL3.out.trans (hl.mono HL3.out.size))
      clear hl s0 s1 s2 s3 s4 s5 s6 s7 s8 s9 s10 s11 s12 t0 t1 t2 t3 t4 t5 t6 t7 t8 t9 t10 t11 t12
      obtain ⟨⟨s0, s1, s2, s3, s4, s5, s6, s7, s8, s9, s10, s11, s12⟩, -⟩ := thirt_of RS1.out
      obtain ⟨⟨t0, t1, t2, t3, t4, t5, t6, t7, t8, t9, t10, t11, t12⟩, -⟩ := thirt_of RS3.out
      go_wp2_with fail
      refine (same_st x z a0 a1 a2 a3 a4 a5 a6 e0 e1 e2 e3 e4 e5 e6 c0 c1 c2 c3 c4 c5 c6 f0 f1 f2 f3 f4 f5 f6 _ RX1.out RX3.out).mono ?_
      rintro e w7 ⟨⟨q2, rfl, hq⟩, hl⟩
      have HQ2 := Lib.hid hq
      clear hq
      have RS1 := Lib.hid ((hl.block _ (Array.getElem?_eq_some_iff.1 RS1.out).1).trans RS1.out)
      have RF1 := Lib.hid ((hl.block _ (Array.getElem?_eq_some_iff.1 RF1.out).1).trans RF1.out)
      have RX1 := Lib.hid (RX1.out.later hl)
      have RS2 := Lib.hid ((hl.block _ (Array.getElem?_eq_some_iff.1 RS2.out).1).trans RS2.out)
      have RF2 := Lib.hid ((hl.block _ (Array.getElem?_eq_some_iff.1 RF2.out).1).trans RF2.out)
      have RX2 := Lib.hid (RX2.out.later hl)
      have RS3 := Lib.hid ((hl.block _ (Array.getElem?_eq_some_iff.1 RS3.out).1).trans RS3.out)
      have RF3 := Lib.hid ((hl.block _ (Array.getElem?_eq_some_iff.1 RF3.out).1).trans RF3.out)
      have RX3 := Lib.hid (RX3.out.later hl)
      have HB3 := Lib.hid (HB3.out.trans (hl.mono HB3.out.size))
      have HL3 := Lib.hid (HL3.out.trans (hl.mono HL3.out.size))
      clear hl s0 s1 s2 s3 s4 s5 s6 s7 s8 s9 s10 s11 s12 t0 t1 t2 t3 t4 t5 t6 t7 t8 t9 t10 t11 t12
      have j1 : w7.cell? ⟨u1.heap.size + 1, 0, none⟩ = some (.int .i64 fc1) := by simp [World.cell?, RF1.out]
      have j2 : w7.cell? ⟨u2.heap.size + 1, 0, none⟩ = some (.int .i64 fc2) := by simp [World.cell?, RF2.out]
      have j3 : w7.cell? ⟨u3.heap.size + 1, 0, none⟩ = some (.int .i64 fc3) := by simp [World.cell?, RF3.out]
      clear RS1 RS2 RS3 RF1 RF2 RF3 RX1 RX2 RX3 hO i2
      rcases HOR1.out with ⟨h1, hx1, ho1⟩ | ⟨h1, -, ho1⟩
      · have hne : (fc1 != 0) = true := by simpa using h1
        have hA := HBP.out.1
        rw [ho1] at hA
        rcases HOR2.out with ⟨h2, hx2, ho2⟩ | ⟨h2, -, ho2⟩
        · rw [ho2] at hA
          have hcc : fc1 = fc2 := hA
          have hqt : q = true := HQ1.out.2 (by rw [hx1, hx2]; exact SmSt.refl _)
          subst hqt hcc
          clear hA h1 h2 hx1 hx2 ho1 ho2
          go_wp2
          exact bodyPost_ret (v := .bool true) (by simp [results, Tryz.results6, go_sem]) rfl ⟨rfl, HB3.out⟩
        · rw [ho2] at hA
          exact hA.elim
      · subst h1
        obtain ⟨hA, hR⟩ := HBP.out
        rw [ho1] at hA
        rcases HOR2.out with ⟨h2, -, ho2⟩ | ⟨h2, -, ho2⟩
        · rw [ho2] at hA
          exact hA.elim
        · subst h2
          rw [ho2] at hA
          have hqt : q = true := HQ1.out.2 (smst_z hA)
          subst hqt
          rcases hR x ho1 with ⟨u, hu, hz⟩ | ⟨hl1, hl2⟩
          · rcases HOR3.out with ⟨h3, -, ho3⟩ | ⟨h3, -, ho3⟩
            · rw [ho3] at hu; cases hu
            · subst h3
              rw [ho3] at hu
              injection hu with hu
              subst hu
              have hqt : q2 = true := HQ2.out.2 (smst_z hz)
              subst hqt
              clear hA hR ho1 ho2 ho3 hz
              go_wp2
              exact bodyPost_ret (v := .bool true) (by simp [results, Tryz.results6, go_sem]) rfl ⟨rfl, HB3.out⟩
          · obtain ⟨b, off, e1, -, -, t2, -⟩ := HTR.out (l.length - 2) (by omega)
            injection e1 with e1
            injection e1 with e1 e11 _
            subst e1 e11
            rw [hl2] at t2
            have a2 := (HL3.out.cell (World.block_lt_of_cell? _ _ t2)).trans t2
            have en := HN.out
            rw [en] at a2 hl1
            simp only [Nat.zero_add] at a2
            have k1 : (1 : Int) < (i : Int) := by omega
            have k2 : IntKind.i64.wrap ((i : Int) - 2) = ((i - 2 : Nat) : Int) := by rw [IntKind.wrap_i64]; omega
            have k3 : (i - 2 : Nat) < i := by omega
            have k4 : ((i - 2 : Nat) : Int) < (i : Int) := by omega
            clear hA hR ho1 ho2 t2 hl2 en
            cases q2 with
            | false =>
              go_wp2
              exact bodyPost_ret (v := .bool true) (by simp [results, Tryz.results6, go_sem]) rfl ⟨rfl, HB3.out⟩
            | true =>
              by_cases hf3 : fc3 = 0
              · subst hf3
                go_wp2
                exact bodyPost_ret (v := .bool true) (by simp [results, Tryz.results6, go_sem]) rfl ⟨rfl, HB3.out⟩
              · have hf4 : (fc3 == 0) = false := by simpa using hf3
                clear hf3
                go_wp2
                exact bodyPost_ret (v := .bool true) (by simp [results, Tryz.results6, go_sem]) rfl ⟨rfl, HB3.out⟩
end Go.Proofs.YtmfplnodafodoaaGreatDoor
