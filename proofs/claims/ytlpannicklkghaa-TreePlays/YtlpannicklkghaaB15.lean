/- Walks of layer 7: Len, first, Get. -/
import Derived.Test.YtlpannicklkghaaB11
namespace Go.Proofs.Ytlpannicklkghaa
open Go.RowKit

set_option maxHeartbeats 2000000 in
set_option maxRecDepth 100000 in
theorem len_any (w : World) (t m cnt rb : Nat) (h : TrAt w t m cnt rb) : Calls Try.prog 20 #[.pointer (some ⟨t, 0, none⟩)] w fun e w' => e = .returned (.int .i64 (cnt : Int)) ∧ w' = w := by
  have c1 := h.c1
  clear h
  go_enter Try.func20, Try.ntmps20
  go_wp2
  go_ret
  exact ⟨rfl, rfl⟩
/-- Where a key's leaf is. -/
structure DPure (key : ByteArray) (ls : List (List Nd)) (rb : Nat) (rs : List Fr) (A : List Nd) (n : Nd) (C : List Nd) : Prop where
  all : ls = lvls rs ++ [A ++ n :: C]
  frs : Frs key (rb, ⟨none, none⟩) rs
  good : Good (ctxR (rb, ⟨none, none⟩) rs).all [A ++ n :: C]
  pos : (ctxR (rb, ⟨none, none⟩) rs).SA.length = A.length
theorem DInv.pure {w : World} {t : Nat} {key : ByteArray} {ls : List (List Nd)} {rb : Nat} {W : World} {v : Value} {rs : List Fr} {A : List Nd} {n : Nd} {C : List Nd} (h : DInv w t key ls rb W v rs A n C []) : DPure key ls rb rs A n C := ⟨h.all, h.frs, h.good, h.pos⟩
def valL (key : ByteArray) (l : List It) : ByteArray := if foundL key l then ((l[cntL key l]?).map It.val).getD ⟨#[]⟩ else ⟨#[]⟩
theorem link_at (_ls : List (List Nd)) (A C : List Nd) (n : Nd) (nx : Option Nat) : (n, hd C nx) ∈ linkN nx (A ++ n :: C) := by
  rw [linkN_append]
  exact List.mem_append_right _ (List.mem_cons_self ..)
theorem DPure.at_ {key : ByteArray} {ls : List (List Nd)} {rb : Nat} {rs : List Fr} {A : List Nd} {n : Nd} {C : List Nd} (h : DPure key ls rb rs A n C) : (n, hd C none) ∈ allX ls := by
  rw [h.all, allX_append, allX_cons]
  exact List.mem_append_right _ (List.mem_append_left _ (link_at ls A C n none))

set_option maxHeartbeats 4000000 in
set_option maxRecDepth 100000 in
theorem get_any (w : World) (Z : Nat → Prop) (t m cnt rb : Nat) (key : ByteArray) (ls : List (List Nd)) (ht : TrAt w t m cnt rb) (hp : Hp w Z (allX ls)) (hg : Good [(rb, ⟨none, none⟩)] ls) (hlen : ls.length ≤ 1000000) (hn : ∀ x ∈ allX ls, x.1.its.length ≤ 100000) (hv : ∀ rs A n C, DPure key ls rb rs A n C → ∀ y ∈ n.its, y.val.size ≤ 281474976710656) :
    Calls Try.prog 22 #[.pointer (some ⟨t, 0, none⟩), .string key] w fun e w' => Below w.heap.size w w' ∧ ∃ rs A n C, DPure key ls rb rs A n C ∧ e = .returned (.tuple #[.string (valL key n.its), .bool (foundL key n.its)]) := by
  have HD : Hid (Calls Try.prog 32 #[.pointer (some ⟨t, 0, none⟩), .string key] w (DescP w t key ls rb)) := descend_any w Z t rb key ls hp ht.c2 hg hlen hn
  have HW : Hid (Hp w Z (allX ls) ∧ (∀ x ∈ allX ls, x.1.its.length ≤ 100000) ∧ ∀ rs A n C, DPure key ls rb rs A n C → ∀ y ∈ n.its, y.val.size ≤ 281474976710656) := ⟨hp, hn, hv⟩
  clear ht hp hg hn hv
  go_enter Try.func22, Try.ntmps22
  go_wp2_with fail
  refine HD.out.mono ?_
  rintro e w1 ⟨v, rs, A, n, C, rfl, hinv⟩
  have hpu := hinv.pure
  have hmem := hpu.at_
  have hnl := HW.out.2.1 _ hmem
  have hnd : NdAt w1 n (hd C none) := (HW.out.1.at_ _ hmem).later hinv.below
  have HF : Hid (Calls Try.prog 33 #[.pointer (some ⟨n.b, 0, none⟩), .string key] w1 fun e w' => e = .returned (.tuple #[.int .i64 (cntL key n.its : Int), .bool (foundL key n.its)]) ∧ Below w1.heap.size w1 w') := find_any w1 n (hd C none) key hnd hinv.srt (by simp only at hnl; omega)
  have HP : Hid (DPure key ls rb rs A n C ∧ Below w.heap.size w w1 ∧ NdAt w1 n (hd C none) ∧ n.its.length ≤ 100000 ∧ (n, hd C none) ∈ allX ls) := ⟨hpu, hinv.below, hnd, hnl, hmem⟩
  clear hinv hpu hmem hnl hnd
  obtain ⟨c, hc⟩ : ∃ c, cntL key n.its = c := ⟨_, rfl⟩
  obtain ⟨f, hf⟩ : ∃ f, foundL key n.its = f := ⟨_, rfl⟩
  have HC : Hid (cntL key n.its = c ∧ foundL key n.its = f) := ⟨hc, hf⟩
  rw [hc, hf] at HF
  clear hc hf
  go_wp2_with fail
  refine HF.out.mono ?_
  rintro e w2 ⟨rfl, hb2⟩
  cases f with
  | false =>
    go_wp2
    refine bodyPost_ret (v := .tuple #[.string ⟨#[]⟩, .bool false]) (by simp [results, Try.results22, go_sem]) rfl ?_
    refine ⟨below_two HP.out.2.1 hb2, rs, A, n, C, HP.out.1, ?_⟩
    unfold valL
    rw [HC.out.2]
    rfl
  | true =>
    have hcl : c < n.its.length := by
      have h1 := HC.out.2
      have h2 := cntL_le key n.its
      rw [HC.out.1] at h2
      rcases Nat.eq_or_lt_of_le h2 with e | e
      · rw [foundL_no (by rw [HC.out.1]; exact e)] at h1; cases h1
      · exact e
    have hnd := HP.out.2.2.1.later hb2
    obtain ⟨g, cap, ev, _, _, _, hcc, _⟩ := irow_at hnd.row (by omega)
    have c0 := hnd.nc.c0
    rw [ev] at c0
    have cv := (hcc c hcl).2.1
    have hvs : (n.its[c]).val.size ≤ 281474976710656 := HW.out.2.2 _ _ _ _ HP.out.1 _ (List.getElem_mem hcl)
    obtain ⟨x, hx⟩ : ∃ x, (n.its[c]).val = x := ⟨_, rfl⟩
    rw [hx] at cv hvs
    have HX : Hid (n.its[c]? = some n.its[c] ∧ (n.its[c]).val = x) := ⟨List.getElem?_eq_getElem hcl, hx⟩
    obtain ⟨nl, hnl⟩ : ∃ nl, n.its.length = nl := ⟨_, rfl⟩
    rw [hnl] at c0 hcl
    have hci : (c : Int) < (nl : Int) := by omega
    have HCL := clone_any x w2 hvs
    have HB2 : Hid (Below w.heap.size w w2) := below_two HP.out.2.1 hb2
    clear hb2 hnd hcc ev hx hnl hvs
    go_wp2_with fail
    refine HCL.mono ?_
    rintro e w3 ⟨rfl, hb3⟩
    go_wp2
    refine bodyPost_ret (v := .tuple #[.string x, .bool true]) (by simp [results, Try.results22, go_sem]) rfl ?_
    refine ⟨below_two HB2.out hb3, rs, A, n, C, HP.out.1, ?_⟩
    unfold valL
    rw [HC.out.2, HC.out.1, HX.out.1]
    simp [HX.out.2]
set_option maxHeartbeats 4000000 in
set_option maxRecDepth 100000 in
theorem first_any (w : World) (Z : Nat → Prop) (t m cnt rb : Nat) (key : ByteArray) (ls : List (List Nd)) (ht : TrAt w t m cnt rb) (hp : Hp w Z (allX ls)) (hg : Good [(rb, ⟨none, none⟩)] ls) (hlen : ls.length ≤ 1000000) (hn : ∀ x ∈ allX ls, x.1.its.length ≤ 100000) :
    Calls Try.prog 40 #[.pointer (some ⟨t, 0, none⟩), .string key] w fun e w' => Below w.heap.size w w' ∧ ∃ rs A n C, DPure key ls rb rs A n C ∧ e = .returned (.tuple #[.pointer (if cntL key n.its < n.its.length then some ⟨n.b, 0, none⟩ else pOf (hd C none)), .int .i64 (if cntL key n.its < n.its.length then (cntL key n.its : Int) else 0)]) := by
  have HD : Hid (Calls Try.prog 32 #[.pointer (some ⟨t, 0, none⟩), .string key] w (DescP w t key ls rb)) := descend_any w Z t rb key ls hp ht.c2 hg hlen hn
  have HW : Hid (Hp w Z (allX ls) ∧ (∀ x ∈ allX ls, x.1.its.length ≤ 100000)) := ⟨hp, hn⟩
  clear ht hp hg hn
  go_enter Try.func40, Try.ntmps40
  go_wp2_with fail
  refine HD.out.mono ?_
  rintro e w1 ⟨v, rs, A, n, C, rfl, hinv⟩
  have hpu := hinv.pure
  have hmem := hpu.at_
  have hnl : n.its.length ≤ 100000 := HW.out.2 _ hmem
  have hnd : NdAt w1 n (hd C none) := (HW.out.1.at_ _ hmem).later hinv.below
  have HF : Hid (Calls Try.prog 33 #[.pointer (some ⟨n.b, 0, none⟩), .string key] w1 fun e w' => e = .returned (.tuple #[.int .i64 (cntL key n.its : Int), .bool (foundL key n.its)]) ∧ Below w1.heap.size w1 w') := find_any w1 n (hd C none) key hnd hinv.srt (by omega)
  have hcl := cntL_le key n.its
  have HP : Hid (DPure key ls rb rs A n C ∧ Below w.heap.size w w1 ∧ ∀ w2, Below w1.heap.size w1 w2 → Calls Try.prog 42 #[.pointer (some ⟨n.b, 0, none⟩), .int .i64 (cntL key n.its : Int)] w2 fun e w' => e = .returned (.tuple #[.pointer (if cntL key n.its < n.its.length then some ⟨n.b, 0, none⟩ else pOf (hd C none)), .int .i64 (if cntL key n.its < n.its.length then (cntL key n.its : Int) else 0)]) ∧ w' = w2) := ⟨hpu, hinv.below, fun w2 hb => spot_any w2 n (hd C none) (cntL key n.its) (hnd.later hb) (by omega) (by omega)⟩
  clear hinv hpu hmem hnl hnd hcl
  obtain ⟨q, hq⟩ : ∃ q : Option Addr, (if cntL key n.its < n.its.length then some ⟨n.b, 0, none⟩ else pOf (hd C none)) = q := ⟨_, rfl⟩
  obtain ⟨j, hj⟩ : ∃ j : Int, (if cntL key n.its < n.its.length then (cntL key n.its : Int) else 0) = j := ⟨_, rfl⟩
  have HQ : Hid ((if cntL key n.its < n.its.length then some ⟨n.b, 0, none⟩ else pOf (hd C none)) = q ∧ (if cntL key n.its < n.its.length then (cntL key n.its : Int) else 0) = j) := ⟨hq, hj⟩
  rw [hq, hj] at HP
  clear hq hj
  obtain ⟨c, hc⟩ : ∃ c, cntL key n.its = c := ⟨_, rfl⟩
  rw [hc] at HF HP
  clear hc
  go_wp2_with fail
  refine HF.out.mono ?_
  rintro e w2 ⟨rfl, hb2⟩
  have HB2 : Hid (Below w1.heap.size w1 w2) := hb2
  clear hb2
  go_wp2_with fail
  refine (HP.out.2.2 w2 HB2.out).mono ?_
  rintro e w3 ⟨rfl, hw3⟩
  subst hw3
  go_wp2
  refine bodyPost_ret (v := .tuple #[.pointer q, .int .i64 j]) (by simp [results, Try.results40, go_sem]) rfl ?_
  refine ⟨below_two HP.out.2.1 HB2.out, rs, A, n, C, HP.out.1, ?_⟩
  rw [HQ.out.1, HQ.out.2]
end Go.Proofs.Ytlpannicklkghaa
