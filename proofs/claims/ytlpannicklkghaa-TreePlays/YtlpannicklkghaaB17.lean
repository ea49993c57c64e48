/- Walks of layer 7: Put of a key that is there. -/
import Derived.Test.YtlpannicklkghaaB16
namespace Go.Proofs.Ytlpannicklkghaa
open Go.RowKit

def setV (i : Nat) (val : ByteArray) (l : List It) : List It := l.modify i fun x => ⟨x.key, val, x.kid⟩
theorem setV_length (i : Nat) (val : ByteArray) (l : List It) : (setV i val l).length = l.length := by simp [setV]
theorem ic_setV (val : ByteArray) : ∀ (l : List It) (i : Nat), i < l.length → (ic l).set (i * 3 + 1) (.string val) = ic (setV i val l)
  | x :: r, 0, _ => rfl
  | x :: r, i + 1, h => by
    have e : (i + 1) * 3 + 1 = (i * 3 + 1) + 1 + 1 + 1 := by omega
    rw [e]
    have ih := ic_setV val r i (by simpa using h)
    show _ :: _ :: _ :: (ic r).set (i * 3 + 1) (.string val) = _
    rw [ih]
    rfl
/-- The text under a key has turned. -/
theorem old_mem {w3 : World} {Z : Nat → Prop} {t m cnt rb g cap : Nat} {key val : ByteArray} {ls : List (List Nd)} {rs : List Fr} {A C : List Nd} {n : Nd} {c : Nat} (hd0 : DPure key ls rb rs A n C) (hp : Hp w3 Z (allX ls)) (hZ : ∀ k, w3.heap.size ≤ k → Z k) (ht : TrAt w3 t m cnt rb) (hv : n.v = .slice (some ⟨g, 0, none⟩) n.its.length cap) (hc : c < n.its.length) :
    Hp (w3.setCell ⟨g, c * 3 + 1, none⟩ (.string val)) Z (allX (lvls rs ++ [A ++ ⟨n.b, n.v, setV c val n.its⟩ :: C])) ∧ Only Z w3 (w3.setCell ⟨g, c * 3 + 1, none⟩ (.string val)) ∧ TrAt (w3.setCell ⟨g, c * 3 + 1, none⟩ (.string val)) t m cnt rb := by
  have hls := hd0.all
  subst hls
  have hout := ht.out hp
  have htg : t ≠ g := fun e => hout (Or.inl ⟨(n, hd C none), hd0.at_, Or.inr (by rw [hv, e]; rfl)⟩)
  obtain ⟨h1, h2⟩ := (hp.perm (perm_one (lvls rs) [] A C n)).setItem hZ hv (setV_length c val n.its) (ic_setV val n.its c hc)
  exact ⟨h1.perm (perm_one (lvls rs) [] A C ⟨n.b, n.v, setV c val n.its⟩).symm, h2, ht.kept (Below.heap_setCell _ _ _ _ (fun e => htg (by simpa using e)))⟩

set_option maxHeartbeats 8000000 in
set_option maxRecDepth 100000 in
theorem put_old (w : World) (Z : Nat → Prop) (t m cnt rb : Nat) (key val : ByteArray) (ls : List (List Nd)) (ht : TrAt w t m cnt rb) (hp : Hp w Z (allX ls)) (hZ : ∀ k, w.heap.size ≤ k → Z k) (hg : Good [(rb, ⟨none, none⟩)] ls) (hw : WLv m true ls) (hlen : ls.length ≤ 1000000) (hm2 : m ≤ 64) (hvs : val.size ≤ 281474976710656) (hnf : ∀ rs A n C, DPure key ls rb rs A n C → foundL key n.its = true) :
    Calls Try.prog 18 #[.pointer (some ⟨t, 0, none⟩), .string key, .string val] w fun e w' => ∃ rs A n C, DPure key ls rb rs A n C ∧ e = .returned (.tuple #[.string (valL key n.its), .bool true]) ∧ Only Z w w' ∧ TrAt w' t m cnt rb ∧ Hp w' Z (allX (lvls rs ++ [A ++ ⟨n.b, n.v, setV (cntL key n.its) val n.its⟩ :: C])) := by
  have HW : Hid (TrAt w t m cnt rb ∧ Hp w Z (allX ls) ∧ (∀ k, w.heap.size ≤ k → Z k) ∧ Good [(rb, ⟨none, none⟩)] ls ∧ WLv m true ls ∧ ∀ rs A n C, DPure key ls rb rs A n C → foundL key n.its = true) := ⟨ht, hp, hZ, hg, hw, hnf⟩
  have HC1 := clone_any val w hvs
  clear ht hp hZ hg hw hnf
  go_enter Try.func18, Try.ntmps18
  go_wp2_with fail
  refine HC1.mono ?_
  rintro e w1 ⟨rfl, hb1⟩
  have HD : Hid (Calls Try.prog 32 #[.pointer (some ⟨t, 0, none⟩), .string key] w1 (DescP w1 t key ls rb)) := descend_any w1 Z t rb key ls (HW.out.2.1.later hb1) (HW.out.1.kept (hb1.block _ HW.out.1.lt)).c2 HW.out.2.2.2.1 hlen (fun x hx => by have := wlv_le HW.out.2.2.2.2.1 x hx; omega)
  have HB1 : Hid (Below w.heap.size w w1) := hb1
  clear hb1 HC1
  go_wp2_with fail
  refine HD.out.mono ?_
  rintro e w2 ⟨v, rs, A, n, C, rfl, hinv⟩
  have hpu := hinv.pure
  have hmem := hpu.at_
  have hnl : n.its.length ≤ 64 := Nat.le_trans (wlv_le HW.out.2.2.2.2.1 _ hmem) hm2
  have hb2 : Below w.heap.size w w2 := below_two HB1.out hinv.below
  have hnd : NdAt w2 n (hd C none) := (HW.out.2.1.at_ _ hmem).later hb2
  have hff := HW.out.2.2.2.2.2 _ _ _ _ hpu
  have HF : Hid (Calls Try.prog 33 #[.pointer (some ⟨n.b, 0, none⟩), .string key] w2 fun e w' => e = .returned (.tuple #[.int .i64 (cntL key n.its : Int), .bool true]) ∧ Below w2.heap.size w2 w') := by
    have := find_any w2 n (hd C none) key hnd hinv.srt (by omega)
    rw [hff] at this
    exact this
  have HP : Hid (DPure key ls rb rs A n C ∧ Below w.heap.size w w2 ∧ foundL key n.its = true) := ⟨hpu, hb2, hff⟩
  clear hinv hpu hmem hnd hff hb2 HD
  obtain ⟨c, hc⟩ : ∃ c, cntL key n.its = c := ⟨_, rfl⟩
  obtain ⟨nb, hnb⟩ : ∃ nb, n.b = nb := ⟨_, rfl⟩
  have HC : Hid (cntL key n.its = c ∧ n.b = nb) := ⟨hc, hnb⟩
  rw [hc, hnb] at HF
  rw [hnb]
  clear hc hnb
  go_wp2_with fail
  refine HF.out.mono ?_
  rintro e w3 ⟨rfl, hb3⟩
  have HB3 : Hid (Below w.heap.size w w3) := below_two HP.out.2.1 hb3
  have hcl : c < n.its.length := by
    have h1 := HP.out.2.2
    have h2 := cntL_le key n.its
    rw [HC.out.1] at h2
    rcases Nat.eq_or_lt_of_le h2 with e | e
    · rw [foundL_no (by rw [HC.out.1]; exact e)] at h1; cases h1
    · exact e
  have hnd : NdAt w3 n (hd C none) := (HW.out.2.1.at_ _ HP.out.1.at_).later HB3.out
  obtain ⟨g, cap, ev, _, _, _, hcc, hfz⟩ := irow_at hnd.row (by omega)
  have c0 := hnd.nc.c0
  rw [ev, HC.out.2] at c0
  have cv := (hcc c hcl).2.1
  have cf := hfz (c * 3 + 1)
  obtain ⟨x, hx⟩ : ∃ x, (n.its[c]).val = x := ⟨_, rfl⟩
  rw [hx] at cv
  have HX : Hid (valL key n.its = x) := by
    show valL key n.its = x
    unfold valL
    rw [HP.out.2.2, HC.out.1, List.getElem?_eq_getElem hcl]
    exact hx
  have HM : Hid (Hp (w3.setCell ⟨g, c * 3 + 1, none⟩ (.string val)) Z (allX (lvls rs ++ [A ++ ⟨n.b, n.v, setV c val n.its⟩ :: C])) ∧ Only Z w3 (w3.setCell ⟨g, c * 3 + 1, none⟩ (.string val)) ∧ TrAt (w3.setCell ⟨g, c * 3 + 1, none⟩ (.string val)) t m cnt rb) := old_mem HP.out.1 (HW.out.2.1.later HB3.out) (fun k hk => HW.out.2.2.1 k (Nat.le_trans HB3.out.size hk)) (HW.out.1.kept (HB3.out.block _ HW.out.1.lt)) ev hcl
  obtain ⟨nl, hnl2⟩ : ∃ nl, n.its.length = nl := ⟨_, rfl⟩
  rw [hnl2] at c0 hcl
  have hci : (c : Int) < (nl : Int) := by omega
  clear hnd ev hcc hfz hx hnl2 hnl hb3 HF
  go_wp2
  go_region
  all_goals go_wp2
  all_goals refine bodyPost_ret (v := .tuple #[.string x, .bool true]) (by simp [results, Try.results18, go_sem]) rfl ?_
  all_goals (refine ⟨rs, A, n, C, HP.out.1, by rw [HX.out], ?_, ?_, ?_⟩)
  all_goals first
    | exact ((Only.of HB3.out).trans HM.out.2.1).drew
    | exact HM.out.2.2.kept rfl
    | (rw [HC.out.1]; exact HM.out.1.later (Below.refl _ _).drew)
end Go.Proofs.Ytlpannicklkghaa
