/- Walks of layer 7: Put and Get of a tree. -/
import Derived.Test.YtlpannicklkghaaB18
namespace Go.Proofs.Ytlpannicklkghaa
open Go.RowKit

theorem setV_zero (val : ByteArray) (x : It) (r : List It) : setV 0 val (x :: r) = ⟨x.key, val, x.kid⟩ :: r := rfl
theorem setV_succ (val : ByteArray) (i : Nat) (x : It) (r : List It) : setV (i + 1) val (x :: r) = x :: setV i val r := rfl
theorem setV_keys (val : ByteArray) : ∀ (i : Nat) (l : List It), (setV i val l).map It.key = l.map It.key
  | _, [] => by simp [setV]
  | 0, x :: r => rfl
  | i + 1, x :: r => by rw [setV_succ, List.map_cons, List.map_cons, setV_keys val i r]
theorem setV_srt (val : ByteArray) (i : Nat) {l : List It} (h : Srt l) : Srt (setV i val l) := by
  have h1 : (l.map It.key).Pairwise fun a b => kl a b = true := List.pairwise_map.2 h
  rw [← setV_keys val i l] at h1
  exact List.pairwise_map.1 h1
theorem setV_mem (val : ByteArray) : ∀ (i : Nat) (l : List It), ∀ x ∈ setV i val l, ∃ y ∈ l, x.key = y.key ∧ x.kid = y.kid
  | _, [], x, hx => by simp [setV] at hx
  | 0, y :: r, x, hx => by
    rw [setV_zero] at hx
    rcases List.mem_cons.1 hx with rfl | hx
    · exact ⟨y, by simp, rfl, rfl⟩
    · exact ⟨x, List.mem_cons_of_mem _ hx, rfl, rfl⟩
  | i + 1, y :: r, x, hx => by
    rw [setV_succ] at hx
    rcases List.mem_cons.1 hx with rfl | hx
    · exact ⟨x, by simp, rfl, rfl⟩
    · obtain ⟨z, hz, e⟩ := setV_mem val i r x hx
      exact ⟨z, List.mem_cons_of_mem _ hz, e⟩
theorem setV_front (val : ByteArray) (i : Nat) (l : List It) : ∀ P : List It, setV (P.length + i) val (P ++ l) = P ++ setV i val l
  | [] => by simp
  | x :: P => by
    have e : (x :: P).length + i = (P.length + i) + 1 := by rw [List.length_cons]; omega
    rw [e, List.cons_append, setV_succ, setV_front val i l P]
    rfl
theorem setV_back (val : ByteArray) (S : List It) : ∀ (i : Nat) (l : List It), i < l.length → setV i val (l ++ S) = setV i val l ++ S
  | 0, x :: r, _ => rfl
  | i + 1, x :: r, h => by
    rw [List.cons_append, setV_succ, setV_succ, setV_back val S i r (by simpa using h)]
    rfl
theorem found_lt {key : ByteArray} {l : List It} (h : foundL key l = true) : cntL key l < l.length := by
  rcases Nat.eq_or_lt_of_le (cntL_le key l) with e | e
  · rw [foundL_no e] at h; cases h
  · exact e
theorem DPure.set {key : ByteArray} (val : ByteArray) {ls : List (List Nd)} {rb : Nat} {rs : List Fr} {A : List Nd} {n : Nd} {C : List Nd} (h : DPure key ls rb rs A n C) (hf : foundL key n.its = true) : Go.Proofs.Ytlpannicklkghaa.items [A ++ ⟨n.b, n.v, setV (cntL key n.its) val n.its⟩ :: C] = setV (cntL key (Go.Proofs.Ytlpannicklkghaa.items ls)) val (Go.Proofs.Ytlpannicklkghaa.items ls) := by
  rw [h.items, cntL_append h.mid.1, cntL_behind h.mid.2.1, setV_front, setV_back _ _ _ _ (found_lt hf), items_mid]
theorem DPure.val {key : ByteArray} {ls : List (List Nd)} {rb : Nat} {rs : List Fr} {A : List Nd} {n : Nd} {C : List Nd} (h : DPure key ls rb rs A n C) : valL key (Go.Proofs.Ytlpannicklkghaa.items ls) = valL key n.its := by
  unfold valL
  rw [h.found]
  split
  · rename_i hf
    rw [h.items, cntL_append h.mid.1, cntL_behind h.mid.2.1, List.getElem?_append_right (by omega), Nat.add_sub_cancel_left, List.getElem?_append_left (found_lt hf)]
  · rfl
/-- A leaf whose keys have not turned. -/
theorem DPure.same {key : ByteArray} {ls : List (List Nd)} {rb : Nat} {rs : List Fr} {A : List Nd} {n n' : Nd} {C : List Nd} (h : DPure key ls rb rs A n C) (hb : n'.b = n.b) (hs : Srt n'.its) (hm : ∀ x ∈ n'.its, ∃ y ∈ n.its, x.key = y.key ∧ x.kid = y.kid) : Good [(rb, ⟨none, none⟩)] (lvls rs ++ [A ++ n' :: C]) := by
  obtain ⟨hfit, hlf⟩ := good_leaf.1 h.good
  obtain ⟨hfa, ⟨hnb, hok⟩, hfc⟩ := (fits_append h.pos).1 hfit
  refine h.frs.glue (by simp) (good_leaf.2 ⟨(fits_append h.pos).2 ⟨hfa, ⟨hb.trans hnb, hs, fun x hx => ?_⟩, hfc⟩, fun x hx => ?_⟩)
  · obtain ⟨y, hy, e, _⟩ := hm x hx
    rw [e]
    exact hok.mem y hy
  · rcases List.mem_append.1 hx with hx | hx
    · exact hlf x (List.mem_append_left _ hx)
    · rcases List.mem_cons.1 hx with rfl | hx
      · intro z hz
        obtain ⟨y, hy, _, e⟩ := hm z hz
        rw [e]
        exact hlf n (by simp) y hy
      · exact hlf x (List.mem_append_right _ (List.mem_cons_of_mem _ hx))
theorem DPure.widths {m : Nat} {key : ByteArray} {ls : List (List Nd)} {rb : Nat} {rs : List Fr} {A : List Nd} {n n' : Nd} {C : List Nd} (h : DPure key ls rb rs A n C) (hw : WLv m true ls) (hl : n'.its.length = n.its.length) : WLv m true (lvls rs ++ [A ++ n' :: C]) := by
  rw [h.all] at hw
  obtain ⟨h1, h2, h3⟩ := wlv_part hw
  refine wlv_glue h1 (fun x hx => ?_) h3
  rcases List.mem_append.1 hx with hx | hx
  · exact h2 x (List.mem_append_left _ hx)
  · rcases List.mem_cons.1 hx with rfl | hx
    · rw [hl]; exact h2 n (by simp)
    · exact h2 x (List.mem_append_right _ (List.mem_cons_of_mem _ hx))
/-- Put of a key that is there. -/
theorem tree_put_old (w : World) (Z : Nat → Prop) (t m : Nat) (key val : ByteArray) (ls : List (List Nd)) (l : List It) (h : TreeIs w Z t m ls l) (hZ : ∀ k, w.heap.size ≤ k → Z k) (hlen : ls.length ≤ 1000000) (hm2 : m ≤ 64) (hvs : val.size ≤ 281474976710656) (hf : foundL key l = true) :
    Calls Try.prog 18 #[.pointer (some ⟨t, 0, none⟩), .string key, .string val] w fun e w' => e = .returned (.tuple #[.string (valL key l), .bool true]) ∧ Only (fun k => Z k ∨ k = t) w w' ∧ ∃ ls', TreeIs w' Z t m ls' (setV (cntL key l) val l) := by
  obtain ⟨rb, ht, hg⟩ := h.some_
  refine (put_old w Z t m l.length rb key val ls ht h.hp hZ hg h.wid hlen hm2 hvs (fun rs A n C hd => by rw [← hd.found, h.its]; exact hf)).mono ?_
  rintro e w' ⟨rs, A, n, C, hd, rfl, ho, ht', hp'⟩
  have hfn : foundL key n.its = true := by rw [← hd.found, h.its]; exact hf
  refine ⟨by rw [← hd.val, h.its], ho.mono fun _ hk => Or.inl hk, lvls rs ++ [A ++ ⟨n.b, n.v, setV (cntL key n.its) val n.its⟩ :: C], ⟨⟨rb, by rw [setV_length]; exact ht', hd.same (n' := ⟨n.b, n.v, setV (cntL key n.its) val n.its⟩) rfl (setV_srt val _ hd.mid.2.2) (setV_mem val _ _)⟩, hp', hd.widths (n' := ⟨n.b, n.v, setV (cntL key n.its) val n.its⟩) h.wid (setV_length _ _ _), ?_, setV_srt val _ h.srt⟩⟩
  rw [items_append _ (by simp), hd.set val hfn, h.its]
/-- Put. -/
theorem tree_put (w : World) (Z : Nat → Prop) (t m : Nat) (key val : ByteArray) (ls : List (List Nd)) (l : List It) (h : TreeIs w Z t m ls l) (hZ : ∀ k, w.heap.size ≤ k → Z k) (hlen : ls.length ≤ 1000000) (hm : 4 ≤ m) (hm2 : m ≤ 64) (hcnt : l.length ≤ 4000000000) (hks : key.size ≤ 281474976710656) (hvs : val.size ≤ 281474976710656) :
    Calls Try.prog 18 #[.pointer (some ⟨t, 0, none⟩), .string key, .string val] w fun e w' => e = .returned (.tuple #[.string (valL key l), .bool (foundL key l)]) ∧ Only (fun k => Z k ∨ k = t) w w' ∧ ∃ ls', TreeIs w' Z t m ls' (putL key val l) := by
  cases hf : foundL key l with
  | true =>
    have := tree_put_old w Z t m key val ls l h hZ hlen hm2 hvs hf
    unfold putL
    rw [hf]
    exact this
  | false =>
    have := tree_put_new w Z t m key val ls l h hZ hlen hm hm2 hcnt hks hvs hf
    unfold putL valL
    rw [hf]
    exact this
/-- Get. -/
theorem tree_get (w : World) (Z : Nat → Prop) (t m : Nat) (key : ByteArray) (ls : List (List Nd)) (l : List It) (h : TreeIs w Z t m ls l) (hlen : ls.length ≤ 1000000) (hm2 : m ≤ 64) (hv : ∀ y ∈ l, y.val.size ≤ 281474976710656) :
    Calls Try.prog 22 #[.pointer (some ⟨t, 0, none⟩), .string key] w fun e w' => Below w.heap.size w w' ∧ e = .returned (.tuple #[.string (valL key l), .bool (foundL key l)]) := by
  obtain ⟨rb, ht, hg⟩ := h.some_
  refine (get_any w Z t m l.length rb key ls ht h.hp hg hlen (fun x hx => by have := wlv_le h.wid x hx; omega) (fun rs A n C hd y hy => hv y (by rw [← h.its, hd.items]; exact List.mem_append_right _ (List.mem_append_left _ hy)))).mono ?_
  rintro e w' ⟨hb, rs, A, n, C, hd, rfl⟩
  exact ⟨hb, by rw [← hd.val, ← hd.found, h.its]⟩
/-- Len. -/
theorem tree_len (w : World) (Z : Nat → Prop) (t m : Nat) (ls : List (List Nd)) (l : List It) (h : TreeIs w Z t m ls l) : Calls Try.prog 20 #[.pointer (some ⟨t, 0, none⟩)] w fun e w' => e = .returned (.int .i64 (l.length : Int)) ∧ w' = w := by
  obtain ⟨rb, ht, _⟩ := h.some_
  exact len_any w t m l.length rb ht
end Go.Proofs.Ytlpannicklkghaa
