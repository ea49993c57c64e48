/- Plain mathematics of layer 7: two neighbours become one. -/
import Derived.Test.YtlpannicklkghaaM84
namespace Go.Proofs.Ytlpannicklkghaa

/-- Two neighbours of a level become one; k: the bound between them. -/
theorem join_good {SA SC : List Slot} {s1 s2 : Slot} {A C : List Nd} {n1 n2 n : Nd} {low : List (List Nd)} {k : ByteArray} (h : Good (SA ++ s1 :: s2 :: SC) ((A ++ n1 :: n2 :: C) :: low)) (hl : SA.length = A.length) (h1 : s1.2.hi = some k) (h2 : s2.2.lo = some k) (hlo : ∀ l, s1.2.lo = some l → kl k l = false) (hhi : ∀ q, s2.2.hi = some q → kl k q = true) (hn : n.its = n1.its ++ n2.its) (hb : n.b = n1.b) :
    Good (SA ++ (s1.1, ⟨s1.2.lo, s2.2.hi⟩) :: SC) ((A ++ n :: C) :: low) := by
  obtain ⟨hfa, ⟨hb1, ho1⟩, ⟨hb2, ho2⟩, hfc⟩ := (fits_append hl).1 (good_fits h)
  have hok : NodeOk n ⟨s1.2.lo, s2.2.hi⟩ := by
    refine ⟨?_, fun x hx => ?_⟩
    · rw [hn]
      refine List.pairwise_append.2 ⟨ho1.srt, ho2.srt, fun a ha b hb => ?_⟩
      exact kl_lt_le ((ho1.mem a ha).2 k h1) ((ho2.mem b hb).1 k h2)
    · rw [hn] at hx
      rcases List.mem_append.1 hx with hx | hx
      · exact ⟨(ho1.mem x hx).1, fun q e => kl_trans ((ho1.mem x hx).2 k h1) (hhi q e)⟩
      · exact ⟨fun l e => kl_le_trans (hlo l e) ((ho2.mem x hx).1 k h2), (ho2.mem x hx).2⟩
  have hf : Fits (SA ++ (s1.1, ⟨s1.2.lo, s2.2.hi⟩) :: SC) (A ++ n :: C) := (fits_append hl).2 ⟨hfa, ⟨hb.trans hb1, hok⟩, hfc⟩
  cases low with
  | nil =>
    have hlf := (good_leaf.1 h).2
    refine good_leaf.2 ⟨hf, fun y hy => ?_⟩
    rcases List.mem_append.1 hy with hy | hy
    · exact hlf y (List.mem_append_left _ hy)
    · rcases List.mem_cons.1 hy with rfl | hy
      · intro z hz
        rw [hn] at hz
        rcases List.mem_append.1 hz with hz | hz
        · exact hlf n1 (by simp) z hz
        · exact hlf n2 (by simp) z hz
      · exact hlf y (by simp [hy])
  | cons M q =>
    obtain ⟨_, hmid, hg⟩ := good_mid.1 h
    have hm1 := hmid n1 (by simp)
    have hm2 := hmid n2 (by simp)
    refine good_mid.2 ⟨hf, fun y hy => ?_, ?_⟩
    · rcases List.mem_append.1 hy with hy | hy
      · exact hmid y (List.mem_append_left _ hy)
      · rcases List.mem_cons.1 hy with rfl | hy
        · refine ⟨by rw [hn]; simp [hm1.ne], fun z hz => ?_⟩
          rw [hn] at hz
          rcases List.mem_append.1 hz with hz | hz
          · exact hm1.kid z hz
          · exact hm2.kid z hz
        · exact hmid y (by simp [hy])
    · refine hg.wide ?_
      rw [slots_append hl, slots_append hl]
      show WideS (slots SA A ++ (nslots n1.its s1.2.hi ++ (nslots n2.its s2.2.hi ++ slots SC C))) (slots SA A ++ (nslots n.its s2.2.hi ++ slots SC C))
      rw [hn, nslots_append, List.append_assoc]
      refine (WideS.refl _).append ((nslots_wide n1.its fun z hz => ?_).append (WideS.refl _))
      intro q' e
      obtain ⟨y, r, hy⟩ := List.exists_cons_of_ne_nil hm2.ne
      rw [hy] at e
      obtain rfl := Option.some.inj e
      exact kl_lt_le (hz k h1) ((ho2.mem y (by rw [hy]; simp)).1 k h2)
/-- .. and their parent has one item less. -/
theorem join_two {SA SC : List Slot} {s : Slot} {PA PC A C : List Nd} {p p' n1 n2 n : Nd} {low : List (List Nd)} {U V : List It} {u1 u2 : It} (h : Good (SA ++ s :: SC) ((PA ++ p :: PC) :: (A ++ n1 :: n2 :: C) :: low)) (hl : SA.length = PA.length) (hp : p.its = U ++ u1 :: u2 :: V) (hp' : p'.its = U ++ u1 :: V) (hb : p'.b = p.b) (hA : A.length = (slots SA PA).length + U.length) (hn : n.its = n1.its ++ n2.its) (hnb : n.b = n1.b) :
    Good (SA ++ s :: SC) ((PA ++ p' :: PC) :: (A ++ n :: C) :: low) := by
  obtain ⟨hf, hmid, hg⟩ := good_mid.1 h
  obtain ⟨hfa, ⟨hpb, hok⟩, hfc⟩ := (fits_append hl).1 hf
  have hs := hok.srt
  rw [hp] at hs
  obtain ⟨h1, h2, h3⟩ := List.pairwise_append.1 hs
  obtain ⟨h4, h5⟩ := List.pairwise_cons.1 h2
  obtain ⟨h6, h7⟩ := List.pairwise_cons.1 h5
  have hsub : ∀ x ∈ p'.its, x ∈ p.its := fun x hx => by
    rw [hp'] at hx
    rw [hp]
    rcases List.mem_append.1 hx with hx | hx
    · simp [hx]
    · rcases List.mem_cons.1 hx with rfl | hx
      · simp
      · simp [hx]
  refine good_mid.2 ⟨(fits_append hl).2 ⟨hfa, ⟨hb.trans hpb, ?_, fun x hx => hok.mem x (hsub x hx)⟩, hfc⟩, fun y hy => ?_, ?_⟩
  · rw [hp']
    refine List.pairwise_append.2 ⟨h1, List.pairwise_cons.2 ⟨fun y hy => h4 y (List.mem_cons_of_mem _ hy), h7⟩, fun a ha b hb => h3 a ha b ?_⟩
    rcases List.mem_cons.1 hb with rfl | hb
    · simp
    · simp [hb]
  · rcases List.mem_append.1 hy with hy | hy
    · exact hmid y (List.mem_append_left _ hy)
    · rcases List.mem_cons.1 hy with rfl | hy
      · exact ⟨by rw [hp']; simp, fun z hz => (hmid p (by simp)).kid z (hsub z hz)⟩
      · exact hmid y (by simp [hy])
  · have e1 : slots (SA ++ s :: SC) (PA ++ p :: PC) = (slots SA PA ++ nslots U (some u1.key)) ++ ((u1.kid.getD 0, (⟨some u1.key, some u2.key⟩ : Iv)) :: (u2.kid.getD 0, (⟨some u2.key, hiOf V s.2.hi⟩ : Iv)) :: (nslots V s.2.hi ++ slots SC PC)) := by
      rw [slots_append hl]
      show slots SA PA ++ (nslots p.its s.2.hi ++ slots SC PC) = _
      rw [hp, nslots_append]
      simp [nslots, hiOf]
    have e2 : slots (SA ++ s :: SC) (PA ++ p' :: PC) = (slots SA PA ++ nslots U (some u1.key)) ++ ((u1.kid.getD 0, (⟨some u1.key, hiOf V s.2.hi⟩ : Iv)) :: (nslots V s.2.hi ++ slots SC PC)) := by
      rw [slots_append hl]
      show slots SA PA ++ (nslots p'.its s.2.hi ++ slots SC PC) = _
      rw [hp', nslots_append]
      simp [nslots, hiOf]
    rw [e1] at hg
    rw [e2]
    refine join_good (s1 := (u1.kid.getD 0, ⟨some u1.key, some u2.key⟩)) (s2 := (u2.kid.getD 0, ⟨some u2.key, hiOf V s.2.hi⟩)) (k := u2.key) hg (by rw [List.length_append, nslots_length]; omega) rfl rfl (fun l e => ?_) (fun q e => ?_) hn hnb
    · obtain rfl := Option.some.inj e
      exact kl_asymm (h4 u2 (by simp))
    · cases V with
      | nil => exact (hok.mem u2 (by rw [hp]; simp)).2 q e
      | cons y V =>
        obtain rfl := Option.some.inj e
        exact h6 y (by simp)
end Go.Proofs.Ytlpannicklkghaa
