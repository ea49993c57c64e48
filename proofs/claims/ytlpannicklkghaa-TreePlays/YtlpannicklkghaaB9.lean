/- Walks of layer 7: the descent to a leaf (written by mkdesc.py). -/
import Derived.Test.YtlpannicklkghaaB6
import Derived.Test.YtlpannicklkghaaM82
import Derived.ScopeJumps
import Derived.WalkMore
namespace Go.Proofs.Ytlpannicklkghaa
open Go.RowKit

theorem toward_ok {key : ByteArray} {l : List It} (hs : Srt l) (hne : l ≠ []) : ∃ it, l[towardL key l]? = some it ∧ (∀ y ∈ l.drop (towardL key l + 1), kl key y.key = true) ∧ (l.take (towardL key l) = [] ∨ kl key it.key = false) := by
  have hlen : 0 < l.length := List.length_pos_iff.2 hne
  have hcl := cntL_le key l
  have hpw := List.pairwise_iff_getElem.1 hs
  by_cases hf : foundL key l = true
  · have hc : cntL key l < l.length := by
      rcases Nat.eq_or_lt_of_le hcl with e | e
      · rw [foundL_no e] at hf; cases hf
      · exact e
    have hk : (l[cntL key l]).key = key := by
      rw [foundL_at hc] at hf
      exact of_decide_eq_true hf
    have e : towardL key l = cntL key l := by unfold towardL; rw [if_pos hf]
    rw [e]
    refine ⟨l[cntL key l], List.getElem?_eq_getElem hc, fun y hy => ?_, Or.inr (by rw [hk]; exact kl_irrefl _)⟩
    obtain ⟨i, hi, rfl⟩ := List.getElem_of_mem hy
    rw [List.length_drop] at hi
    rw [List.getElem_drop]
    have := hpw (cntL key l) (cntL key l + 1 + i) hc (by omega) (by omega)
    rw [hk] at this
    exact this
  · have hf' : foundL key l = false := by simpa using hf
    have e : towardL key l = cntL key l - 1 := by unfold towardL; rw [hf']; rfl
    have hgt : ∀ i (hi : i < l.length), cntL key l ≤ i → kl key (l[i]).key = true := fun i hi hci => by
      have h0 := cntL_at key l (by omega)
      have hne0 : (l[cntL key l]'(by omega)).key ≠ key := fun e' => by
        rw [foundL_at (by omega), e'] at hf'
        simp at hf'
      have hlt := kl_total h0 hne0
      rcases Nat.eq_or_lt_of_le hci with e' | e'
      · simp only [← e']; exact hlt
      · exact kl_trans hlt (hpw _ _ (by omega) hi e')
    rw [e]
    rcases Nat.eq_zero_or_pos (cntL key l) with h0 | h0
    · refine ⟨l[0], by rw [h0]; exact List.getElem?_eq_getElem hlen, fun y hy => ?_, Or.inl (by rw [h0]; rfl)⟩
      obtain ⟨i, hi, rfl⟩ := List.getElem_of_mem hy
      rw [List.length_drop] at hi
      rw [List.getElem_drop]
      exact hgt _ (by omega) (by omega)
    · refine ⟨l[cntL key l - 1]'(by omega), List.getElem?_eq_getElem (by omega), fun y hy => ?_, Or.inr (kl_asymm (cntL_lt key l _ (by omega) (by omega)))⟩
      obtain ⟨i, hi, rfl⟩ := List.getElem_of_mem hy
      rw [List.length_drop] at hi
      rw [List.getElem_drop]
      exact hgt _ (by omega) (by omega)
theorem fits_find {SA SC : List Slot} {s : Slot} {M : List Nd} (h : Fits (SA ++ s :: SC) M) : ∃ A n C, M = A ++ n :: C ∧ SA.length = A.length ∧ n.b = s.1 := by
  have hl := h.length
  rw [List.length_append, List.length_cons] at hl
  have e : M = M.take SA.length ++ M.drop SA.length := (List.take_append_drop _ _).symm
  have h1 : SA.length = (M.take SA.length).length := by rw [List.length_take]; omega
  rw [e, fits_append h1] at h
  match hd : M.drop SA.length, h.2 with
  | n :: C, h2 =>
    rw [hd] at e
    exact ⟨_, n, C, e, h1, h2.1.1⟩
  | [], h2 => exact h2.elim

/-- The steps of a way, as cells. -/
def wc : List Fr → List Value
  | [] => []
  | f :: r => .pointer (some ⟨f.n.b, 0, none⟩) :: .int .i64 (f.X.length : Int) :: wc r
theorem wc_append : ∀ a b : List Fr, wc (a ++ b) = wc a ++ wc b
  | [], _ => rfl
  | f :: r, b => by simp [wc, wc_append r b]
theorem wc_length : ∀ a : List Fr, (wc a).length = a.length * 2
  | [] => rfl
  | f :: r => by simp [wc, wc_length r]; omega
theorem wrow_form {w : World} {B : Nat} {v : Value} {n : Nat} {xs : List Value} (h : w.ownsRow B 101 2 v n xs) : ∃ p cap, v = .slice p n cap ∧ n ≤ cap := by
  obtain ⟨_, ⟨rfl, h2⟩ | ⟨g, cap, cur, rfl, _, _, h3, _⟩⟩ := h
  · exact ⟨none, 0, by rw [h2], by omega⟩
  · exact ⟨_, cap, rfl, h3⟩
theorem step_cells (w : World) (b a : Nat) : ∀ j u, ([.pointer (some ⟨b, 0, none⟩), .int .i64 (a : Int)] : List Value)[j]? = some u → (w.alloc (.cells #[.pointer (some ⟨b, 0, none⟩), .int .i64 (a : Int)] 101)).cell? ((⟨w.heap.size, 0, none⟩ : Addr).add j) = some u := by
  intro j u hj
  match j, hj with
  | 0, hj => simp at hj; subst hj; simp [Addr.add]
  | 1, hj => simp at hj; subst hj; simp [Addr.add]
theorem Try.infoStep : (Try.prog.info? 101).map (fun i => (i.zero, i.size, i.bytes)) = some (some (.agg #[.pointer none, .int .i64 0]), 2, 16) := by kernel_rfl
/-- Where the descent stands: the frames of the way so far (the lowest first), the node n of the level A, n, C, what lies below. -/
structure DInv (w : World) (t : Nat) (key : ByteArray) (ls : List (List Nd)) (rb : Nat) (W : World) (v : Value) (rs : List Fr) (A : List Nd) (n : Nd) (C : List Nd) (rest : List (List Nd)) : Prop where
  all : ls = lvls rs ++ (A ++ n :: C) :: rest
  frs : Frs key (rb, ⟨none, none⟩) rs
  good : Good (ctxR (rb, ⟨none, none⟩) rs).all ((A ++ n :: C) :: rest)
  pos : (ctxR (rb, ⟨none, none⟩) rs).SA.length = A.length
  row : W.ownsRow w.heap.size 101 2 v rs.length (wc rs.reverse)
  below : Below w.heap.size w W
theorem DInv.fits {w : World} {t : Nat} {key : ByteArray} {ls : List (List Nd)} {rb : Nat} {W : World} {v : Value} {rs : List Fr} {A : List Nd} {n : Nd} {C : List Nd} {rest : List (List Nd)} (h : DInv w t key ls rb W v rs A n C rest) : Fits (ctxR (rb, ⟨none, none⟩) rs).SA A ∧ (n.b = (ctxR (rb, ⟨none, none⟩) rs).s.1 ∧ NodeOk n (ctxR (rb, ⟨none, none⟩) rs).s.2) ∧ Fits (ctxR (rb, ⟨none, none⟩) rs).SC C := by
  have hg := h.good
  have hf : Fits (ctxR (rb, ⟨none, none⟩) rs).all (A ++ n :: C) := by
    cases rest with
    | nil => exact (good_leaf.1 hg).1
    | cons M r => exact (good_mid.1 hg).1
  have := (fits_append h.pos).1 hf
  exact ⟨this.1, this.2.1, this.2.2⟩
theorem DInv.srt {w : World} {t : Nat} {key : ByteArray} {ls : List (List Nd)} {rb : Nat} {W : World} {v : Value} {rs : List Fr} {A : List Nd} {n : Nd} {C : List Nd} {rest : List (List Nd)} (h : DInv w t key ls rb W v rs A n C rest) : Srt n.its := h.fits.2.1.2.srt
theorem DInv.len {w : World} {t : Nat} {key : ByteArray} {ls : List (List Nd)} {rb : Nat} {W : World} {v : Value} {rs : List Fr} {A : List Nd} {n : Nd} {C : List Nd} {rest : List (List Nd)} (h : DInv w t key ls rb W v rs A n C rest) : rs.length + 1 + rest.length = ls.length := by
  rw [h.all, List.length_append, List.length_cons, lvls, List.length_map, List.length_reverse]
  omega
theorem DInv.mem {w : World} {t : Nat} {key : ByteArray} {ls : List (List Nd)} {rb : Nat} {W : World} {v : Value} {rs : List Fr} {A : List Nd} {n : Nd} {C : List Nd} {rest : List (List Nd)} (h : DInv w t key ls rb W v rs A n C rest) : ∃ nx, (n, nx) ∈ allX ls := by
  obtain ⟨y, hy⟩ := linkN_mem (nx := none) (L := A ++ n :: C) (n := n) (by simp)
  refine ⟨y, ?_⟩
  rw [h.all, allX_append, allX_cons]
  exact List.mem_append_right _ (List.mem_append_left _ hy)
theorem DInv.kid {w : World} {t : Nat} {key : ByteArray} {ls : List (List Nd)} {rb : Nat} {W : World} {v : Value} {rs : List Fr} {A : List Nd} {n : Nd} {C : List Nd} {rest : List (List Nd)} (h : DInv w t key ls rb W v rs A n C rest) : kid0 n.its = none ↔ rest = [] := by
  have hg := h.good
  cases rest with
  | nil =>
    have hl := (good_leaf.1 hg).2 n (by simp)
    refine ⟨fun _ => rfl, fun _ => ?_⟩
    unfold kid0
    match hi : n.its with
    | [] => rfl
    | x :: r => exact hl x (by rw [hi]; simp)
  | cons M r =>
    have hm := (good_mid.1 hg).2.1 n (by simp)
    refine ⟨fun e => ?_, fun e => by cases e⟩
    unfold kid0 at e
    match hi : n.its with
    | [] => exact absurd hi hm.ne
    | x :: r =>
      obtain ⟨b, hb⟩ := hm.kid x (by rw [hi]; simp)
      rw [hi] at e
      simp [hb] at e
theorem DInv.down {w : World} {t : Nat} {key : ByteArray} {ls : List (List Nd)} {rb : Nat} {W : World} {v : Value} {rs : List Fr} {A : List Nd} {n : Nd} {C : List Nd} {rest : List (List Nd)} (h : DInv w t key ls rb W v rs A n C rest) (hne : rest ≠ []) :
    ∃ it, n.its[towardL key n.its]? = some it ∧ ∃ kb, it.kid = some kb ∧ ∃ A' n' C' rest', n'.b = kb ∧ ∀ W' v', Below w.heap.size w W' → W'.ownsRow w.heap.size 101 2 v' (rs.length + 1) (wc rs.reverse ++ [.pointer (some ⟨n.b, 0, none⟩), .int .i64 (towardL key n.its : Int)]) → ∃ f : Fr, DInv w t key ls rb W' v' (f :: rs) A' n' C' rest' := by
  obtain ⟨hfa, ⟨hnb, hok⟩, hfc⟩ := h.fits
  obtain ⟨M, r, rfl⟩ := List.exists_cons_of_ne_nil hne
  obtain ⟨hf, hmid, hg⟩ := good_mid.1 h.good
  have hm := hmid n (by simp)
  obtain ⟨it, hit, hY, hX⟩ := toward_ok (key := key) hok.srt hm.ne
  have hlt := (List.getElem?_eq_some_iff.1 hit).1
  obtain ⟨kb, hkb⟩ := hm.kid it (List.mem_of_getElem? hit)
  have hits : n.its = n.its.take (towardL key n.its) ++ it :: n.its.drop (towardL key n.its + 1) := by
    conv => lhs; rw [← List.take_append_drop (towardL key n.its) n.its, List.drop_eq_getElem_cons hlt]
    rw [(List.getElem?_eq_some_iff.1 hit).2]
  obtain ⟨f, hfd⟩ : ∃ f : Fr, f = ⟨A, n, C, n.its.take (towardL key n.its), it, n.its.drop (towardL key n.its + 1)⟩ := ⟨_, rfl⟩
  have hfo : FrOk key (ctxR (rb, ⟨none, none⟩) rs) f := by
    subst hfd
    exact ⟨hfa, hnb, hok, hfc, hmid, hits, hY, hX⟩
  have hg2 : Good (ctxR (rb, ⟨none, none⟩) (f :: rs)).all (M :: r) := by
    have := Ctx.step_all (ctxR (rb, ⟨none, none⟩) rs) f hfo.fa.length hfo.its
    show Good ((ctxR (rb, ⟨none, none⟩) rs).step f).all (M :: r)
    rw [← this, hfd]
    exact hg
  have hfM : Fits (ctxR (rb, ⟨none, none⟩) (f :: rs)).all M := by
    cases r with
    | nil => exact (good_leaf.1 hg2).1
    | cons M2 r2 => exact (good_mid.1 hg2).1
  obtain ⟨A', n', C', hM, hp', hb'⟩ := fits_find hfM
  refine ⟨it, hit, kb, hkb, A', n', C', r, ?_, fun W' v' hb hrow => ⟨f, ?_, ⟨h.frs, hfo⟩, ?_, hp', ?_, hb⟩⟩
  · rw [hb']
    show f.it.kid.getD 0 = kb
    rw [hfd]
    show it.kid.getD 0 = kb
    rw [hkb]
    rfl
  · rw [h.all, lvls_cons, hM, hfd]
    simp [Fr.lvl]
  · rw [← hM]; exact hg2
  · rw [List.length_cons, List.reverse_cons, wc_append]
    have e : wc [f] = [.pointer (some ⟨n.b, 0, none⟩), .int .i64 (towardL key n.its : Int)] := by
      rw [hfd]
      simp [wc]
      omega
    rw [e]
    exact hrow
def wayLen : Value → Nat
  | .slice _ n _ => n
  | _ => 0

/-- What the descent leaves. -/
def DescP (w : World) (t : Nat) (key : ByteArray) (ls : List (List Nd)) (rb : Nat) (e : Ending) (w' : World) : Prop :=
  ∃ v rs A n C, e = .returned (.tuple #[.pointer (some ⟨n.b, 0, none⟩), v]) ∧ DInv w t key ls rb w' v rs A n C []

set_option maxHeartbeats 8000000 in
set_option maxRecDepth 1000000 in
theorem descend_any (w : World) (Z : Nat → Prop) (t rb : Nat) (key : ByteArray) (ls : List (List Nd)) (hp : Hp w Z (allX ls)) (ct : w.cell? ⟨t, 2, none⟩ = some (.pointer (some ⟨rb, 0, none⟩))) (hg : Good [(rb, ⟨none, none⟩)] ls) (hlen : ls.length ≤ 1000000) (hn : ∀ x ∈ allX ls, x.1.its.length ≤ 100000) :
    Calls Try.prog 32 #[.pointer (some ⟨t, 0, none⟩), .string key] w (DescP w t key ls rb) := by
  obtain ⟨i0, hif, hz0, hz1, hz2⟩ := info_parts Try.infoStep
  have HW : Hid (Hp w Z (allX ls) ∧ ∀ x ∈ allX ls, x.1.its.length ≤ 100000 ∧ True) := ⟨hp, fun x hx => ⟨hn x hx, trivial⟩⟩
  obtain ⟨A, n, C, rest, hnb, hinv0⟩ : ∃ A n C rest, n.b = rb ∧ ∀ W v, Below w.heap.size w W → W.ownsRow w.heap.size 101 2 v 0 [] → DInv w t key ls rb W v [] A n C rest := by
    match ls, hg with
    | L :: r, hg =>
      have hf : Fits ([] ++ (rb, (⟨none, none⟩ : Iv)) :: []) L := by
        cases r with
        | nil => exact (good_leaf.1 hg).1
        | cons M r => exact (good_mid.1 hg).1
      obtain ⟨A, n, C, e, hl, hb⟩ := fits_find hf
      exact ⟨A, n, C, r, hb, fun W v hb hr => ⟨by rw [e]; rfl, trivial, by rw [← e]; exact hg, hl, hr, hb⟩⟩
  have HI0 : Hid (∀ W v, Below w.heap.size w W → W.ownsRow w.heap.size 101 2 v 0 [] → DInv w t key ls rb W v [] A n C rest) := hinv0
  clear hp hg hn hinv0
  go_enter Try.func32, Try.ntmps32
  go_wp2
  refine wp_scope_jumps 0 (fun a' W => ∃ (v : Value) (rs : List Fr) (A : List Nd) (n : Nd) (C : List Nd) (rest : List (List Nd)) (u8 u13 u14 u15 u16 u17 u18 u19 u20 u21 u22 u23 u24 u25 u26 u27 u28 u29 u30 u31 u32 u33 : Value), DInv w t key ls rb W v rs A n C rest ∧ a' = { tmps := #[.pointer (some ⟨t, 0, none⟩), .string key, undef, undef, .pointer none, .slice none 0 0, .pointer (some ⟨n.b, 0, none⟩), v, u8, .pointer (some ⟨t, 0, none⟩), .pointer (some ⟨t, 0, none⟩), .pointer (some ⟨t, 2, none⟩), .pointer (some ⟨rb, 0, none⟩), u13, u14, u15, u16, u17, u18, u19, u20, u21, u22, u23, u24, u25, u26, u27, u28, u29, u30, u31, u32, u33], defers := [] }) (fun a' _ => ls.length - wayLen (a'.tmps.getD 7 undef)) rfl ?_ ?_
  · go_wp2
    go_step3
    have hinv := HI0.out w (.slice none 0 0) (Below.refl _ _) (World.ownsRow_nil _ _ _ _)
    have HI : Hid (DInv w t key ls rb w (.slice none 0 0) [] A n C rest) := hinv
    obtain ⟨nx, hmem⟩ := hinv.mem
    have hnl : n.its.length ≤ 100000 := (HW.out.2 _ hmem).1
    have HND : Hid (∀ w', Below w.heap.size w w' → NdAt w' n nx) := fun w' hb' => (HW.out.1.at_ _ hmem).later hb'
    have HBL : Hid (Below w.heap.size w w) := hinv.below
    have HK : Hid (kid0 n.its = none ↔ rest = []) := hinv.kid
    have HLF := leaf_any w n nx (HND.out w HBL.out) (by omega)
    obtain ⟨k0, hk0⟩ : ∃ k0, kid0 n.its = k0 := ⟨_, rfl⟩
    rw [hk0] at HLF HK
    obtain ⟨b, hb⟩ : ∃ b, n.b = b := ⟨_, rfl⟩
    have HNB : Hid (n.b = b) := hb
    obtain rfl : b = rb := hb.symm.trans hnb
    rw [hb] at HLF
    cases k0 with
    | none =>
      have HL2 : Hid (Calls Try.prog 44 #[.pointer (some ⟨b, 0, none⟩)] w fun e w' => e = .returned (.bool true) ∧ w' = w) := HLF
      have HR0 : Hid (rest = []) := HK.out.1 rfl
      clear HLF hinv hb hk0 HK
      go_wp2_with (go_at_call 44; refine HL2.out.mono ?_; rintro e w' ⟨rfl, rfl⟩)
      simp only [Exit.jump]
      refine bodyPost_ret (v := .tuple #[.pointer (some ⟨b, 0, none⟩), .slice none 0 0]) (by simp [results, Try.results32, go_sem]) rfl ?_
      exact ⟨_, [], A, n, C, by rw [HNB.out], by have := HI.out; rw [HR0.out] at this; exact this⟩
    | some k0 =>
      have HL2 : Hid (Calls Try.prog 44 #[.pointer (some ⟨b, 0, none⟩)] w fun e w' => e = .returned (.bool false) ∧ w' = w) := HLF
      have hrne : rest ≠ [] := fun e => by have := HK.out.2 e; cases this
      obtain ⟨it, hit, kb, hkb, A', n', C', rest', hn', hdown⟩ := HI.out.down hrne
      have HTW := toward_any w n nx key (HND.out w HBL.out) HI.out.srt (by omega)
      obtain ⟨at_, hat⟩ : ∃ at_, towardL key n.its = at_ := ⟨_, rfl⟩
      rw [hat, hb] at HTW
      rw [hat] at hit hdown
      have HT2 : Hid (Calls Try.prog 45 #[.pointer (some ⟨b, 0, none⟩), .string key] w fun e w' => e = .returned (.int .i64 (at_ : Int)) ∧ Below w.heap.size w w') := HTW
      have hatl : at_ < n.its.length := (List.getElem?_eq_some_iff.1 hit).1
      have HIT : Hid (n.its[at_]? = some it ∧ it.kid = some kb ∧ n'.b = kb) := ⟨hit, hkb, hn'⟩
      have HDN : Hid (∀ w' v', Below w.heap.size w w' → w'.ownsRow w.heap.size 101 2 v' (0 + 1) (wc ([] : List Fr) ++ [.pointer (some ⟨n.b, 0, none⟩), .int .i64 (at_ : Int)]) → ∃ f : Fr, DInv w t key ls b w' v' ([f]) A' n' C' rest') := hdown
      have hrl := HI.out.len
      clear HLF hb hk0 HTW hat hit hkb hn' hdown
      have HRW : Hid (w.ownsRow w.heap.size 101 2 (.slice none 0 0) 0 (wc ([] : List Fr))) := hinv.row
      have HBW : Hid (w.heap.size ≤ w.heap.size) := hinv.below.size
      clear hinv
      go_wp2_with (first
        | (go_at_call 44; refine HL2.out.mono ?_; rintro e w' ⟨rfl, hwe⟩; (have hwe2 := hwe.symm); clear hwe; subst hwe2)
        | (go_at_call 45; refine HT2.out.mono ?_; rintro e w4 ⟨rfl, hb4⟩)
        | (at_builtin; go_must (refine wpList_append_lies _ rfl _ _ 80 rfl w.heap.size 101 i0 _ 2 16 Try.underlying80 hif hz0 hz1 hz2 rfl (by decide) _ _ _ rfl ((own_kept HRW.out fun j hj => hb4.block j (HRW.out.lt j hj).2).alloc _) ⟨w4.heap.size, 0, none⟩ 1 1 [.pointer (some ⟨b, 0, none⟩), .int .i64 (at_ : Int)] rfl rfl (step_cells w4 b at_) (by intro u hu; simp at hu; rcases hu with rfl | rfl <;> rfl) Nat.one_pos (by unfold maxLen; omega) (by omega) (by simp; have := HBW.out; have := hb4.size; omega) _ rfl ?_); intro g5 cap5 w5 hown5 hgrow5 hor5 hlt5; (have hb5 : Below w.heap.size w w5 := ((HBL.out.trans (hb4.mono HBW.out)).alloc (Nat.le_trans HBW.out hb4.size) _).grown hgrow5 (by simp; have := HBW.out; have := hb4.size; omega) (fun j hj => (HRW.out.lt j hj).1)); (have hnd := HND.out w5 hb5); (have c0 := hnd.nc.c0); (obtain ⟨g6, cap6, e6, _, _, _, hc6, _⟩ := irow_at hnd.row (by omega)); (have c2 := (hc6 at_ hatl).2.2); rw [(List.getElem?_eq_some_iff.1 HIT.out.1).2, HIT.out.2.1] at c2; rw [e6, HNB.out] at c0; simp only [Option.map_some] at c2; (have hai : (at_ : Int) < (n.its.length : Int) := by omega); clear hc6 e6 hnd))
      go_step3
      obtain ⟨f, hdf⟩ := HDN.out w5 (.slice (some ⟨g5, 0, none⟩) (0 + 1) cap5) hb5 (by rw [HNB.out]; exact hown5)
      have e6 := HIT.out.2.2
      exact ⟨rfl, _, [f], A', n', C', rest', _, _, _, _, _, _, _, _, _, _, _, _, _, _, _, _, _, _, _, _, _, _, hdf, by rw [e6]⟩

  · rintro a' W ⟨v, rs, A, n, C, rest, u8, u13, u14, u15, u16, u17, u18, u19, u20, u21, u22, u23, u24, u25, u26, u27, u28, u29, u30, u31, u32, u33, hinv, rfl⟩
    have HI : Hid (DInv w t key ls rb W v rs A n C rest) := hinv
    obtain ⟨nx, hmem⟩ := hinv.mem
    have hnl : n.its.length ≤ 100000 := (HW.out.2 _ hmem).1
    have HND : Hid (∀ W', Below w.heap.size w W' → NdAt W' n nx) := fun W' hb' => (HW.out.1.at_ _ hmem).later hb'
    have HBL : Hid (Below w.heap.size w W) := hinv.below
    obtain ⟨p, cap, e, _⟩ := wrow_form hinv.row
    subst e
    have HK : Hid (kid0 n.its = none ↔ rest = []) := hinv.kid
    have HLF := leaf_any W n nx (HND.out W HBL.out) (by omega)
    obtain ⟨k0, hk0⟩ : ∃ k0, kid0 n.its = k0 := ⟨_, rfl⟩
    rw [hk0] at HLF HK
    obtain ⟨b, hb⟩ : ∃ b, n.b = b := ⟨_, rfl⟩
    have HNB : Hid (n.b = b) := hb
    rw [hb] at HLF ⊢
    cases k0 with
    | none =>
      have HL2 : Hid (Calls Try.prog 44 #[.pointer (some ⟨b, 0, none⟩)] W fun e w' => e = .returned (.bool true) ∧ w' = W) := HLF
      have HR0 : Hid (rest = []) := HK.out.1 rfl
      clear HLF hinv hb hk0 HK
      go_wp2_with (go_at_call 44; refine HL2.out.mono ?_; rintro e w' ⟨rfl, rfl⟩)
      simp only [Exit.jump]
      refine bodyPost_ret (v := .tuple #[.pointer (some ⟨b, 0, none⟩), .slice p rs.length cap]) (by simp [results, Try.results32, go_sem]) rfl ?_
      exact ⟨_, rs, A, n, C, by rw [HNB.out], by have := HI.out; rw [HR0.out] at this; exact this⟩
    | some k0 =>
      have HL2 : Hid (Calls Try.prog 44 #[.pointer (some ⟨b, 0, none⟩)] W fun e w' => e = .returned (.bool false) ∧ w' = W) := HLF
      have hrne : rest ≠ [] := fun e => by have := HK.out.2 e; cases this
      obtain ⟨it, hit, kb, hkb, A', n', C', rest', hn', hdown⟩ := HI.out.down hrne
      have HTW := toward_any W n nx key (HND.out W HBL.out) HI.out.srt (by omega)
      obtain ⟨at_, hat⟩ : ∃ at_, towardL key n.its = at_ := ⟨_, rfl⟩
      rw [hat, hb] at HTW
      rw [hat] at hit hdown
      have HT2 : Hid (Calls Try.prog 45 #[.pointer (some ⟨b, 0, none⟩), .string key] W fun e w' => e = .returned (.int .i64 (at_ : Int)) ∧ Below W.heap.size W w') := HTW
      have hatl : at_ < n.its.length := (List.getElem?_eq_some_iff.1 hit).1
      have HIT : Hid (n.its[at_]? = some it ∧ it.kid = some kb ∧ n'.b = kb) := ⟨hit, hkb, hn'⟩
      have HDN : Hid (∀ W' v', Below w.heap.size w W' → W'.ownsRow w.heap.size 101 2 v' (rs.length + 1) (wc rs.reverse ++ [.pointer (some ⟨n.b, 0, none⟩), .int .i64 (at_ : Int)]) → ∃ f : Fr, DInv w t key ls rb W' v' (f :: rs) A' n' C' rest') := hdown
      have hrl := HI.out.len
      clear HLF hb hk0 HTW hat hit hkb hn' hdown
      have HRW : Hid (W.ownsRow w.heap.size 101 2 (.slice p rs.length cap) rs.length (wc rs.reverse)) := hinv.row
      have HBW : Hid (w.heap.size ≤ W.heap.size) := hinv.below.size
      clear hinv
      go_wp2_with (first
        | (go_at_call 44; refine HL2.out.mono ?_; rintro e w' ⟨rfl, hwe⟩; (have hwe2 := hwe.symm); clear hwe; subst hwe2)
        | (go_at_call 45; refine HT2.out.mono ?_; rintro e w4 ⟨rfl, hb4⟩)
        | (at_builtin; go_must (refine wpList_append_lies _ rfl _ _ 80 rfl w.heap.size 101 i0 _ 2 16 Try.underlying80 hif hz0 hz1 hz2 rfl (by decide) _ _ _ rfl ((own_kept HRW.out fun j hj => hb4.block j (HRW.out.lt j hj).2).alloc _) ⟨w4.heap.size, 0, none⟩ 1 1 [.pointer (some ⟨b, 0, none⟩), .int .i64 (at_ : Int)] rfl rfl (step_cells w4 b at_) (by intro u hu; simp at hu; rcases hu with rfl | rfl <;> rfl) Nat.one_pos (by unfold maxLen; omega) (by omega) (by simp; have := HBW.out; have := hb4.size; omega) _ rfl ?_); intro g5 cap5 w5 hown5 hgrow5 hor5 hlt5; (have hb5 : Below w.heap.size w w5 := ((HBL.out.trans (hb4.mono HBW.out)).alloc (Nat.le_trans HBW.out hb4.size) _).grown hgrow5 (by simp; have := HBW.out; have := hb4.size; omega) (fun j hj => (HRW.out.lt j hj).1)); (have hnd := HND.out w5 hb5); (have c0 := hnd.nc.c0); (obtain ⟨g6, cap6, e6, _, _, _, hc6, _⟩ := irow_at hnd.row (by omega)); (have c2 := (hc6 at_ hatl).2.2); rw [(List.getElem?_eq_some_iff.1 HIT.out.1).2, HIT.out.2.1] at c2; rw [e6, HNB.out] at c0; simp only [Option.map_some] at c2; (have hai : (at_ : Int) < (n.its.length : Int) := by omega); clear hc6 e6 hnd))
      go_step3
      obtain ⟨f, hdf⟩ := HDN.out w5 (.slice (some ⟨g5, 0, none⟩) (rs.length + 1) cap5) hb5 (by rw [HNB.out]; exact hown5)
      have e6 := HIT.out.2.2
      refine ⟨rfl, ⟨_, f :: rs, A', n', C', rest', _, _, _, _, _, _, _, _, _, _, _, _, _, _, _, _, _, _, _, _, _, _, hdf, by rw [e6]⟩, ?_⟩
      have h1 := HI.out.len
      have h2 : 0 < rest.length := List.length_pos_iff.2 hrne
      simp only [wayLen]
      simp
      omega

end Go.Proofs.Ytlpannicklkghaa
