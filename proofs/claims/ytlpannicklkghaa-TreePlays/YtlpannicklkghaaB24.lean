/- Walks of layer 7: List. -/
import Derived.Test.YtlpannicklkghaaB23
import Derived.Test.YtlpannicklkghaaB18
namespace Go.Proofs.Ytlpannicklkghaa
open Go.RowKit

theorem TreeIs.filled {w : World} {Z : Nat → Prop} {t m : Nat} {ls : List (List Nd)} {l : List It} (h : TreeIs w Z t m ls l) (hm : 4 ≤ m) : Filled ls := by
  obtain ⟨rb, _, hg⟩ := h.some_
  exact filled_of hm hg h.wid
theorem TreeIs.low {w : World} {Z : Nat → Prop} {t m : Nat} {ls : List (List Nd)} {l : List It} (h : TreeIs w Z t m ls l) (hm : 4 ≤ m) (hl : l.length ≤ 1000000000000) : ls.length ≤ 64 := by
  obtain ⟨rb, _, hg⟩ := h.some_
  exact high_64 hm hg h.wid (by rw [h.its]; exact hl)
/-- The first spot from a key on. -/
theorem tree_first (w : World) (Z : Nat → Prop) (t m : Nat) (key : ByteArray) (ls : List (List Nd)) (l : List It) (h : TreeIs w Z t m ls l) (hm : 4 ≤ m) (hm2 : m ≤ 64) (hl : l.length ≤ 1000000000000) :
    Calls Try.prog 40 #[.pointer (some ⟨t, 0, none⟩), .string key] w fun e w' => Below w.heap.size w w' ∧ ∃ q i, Spot ls q i (l.drop (cntL key l)) ∧ i ≤ 64 ∧ e = .returned (.tuple #[.pointer q, .int .i64 (i : Int)]) := by
  obtain ⟨rb, ht, hg⟩ := h.some_
  refine (first_any w Z t m l.length rb key ls ht h.hp hg (by have := h.low hm hl; omega) (fun x hx => by have := wlv_le h.wid x hx; omega)).mono ?_
  rintro e w' ⟨hb, rs, A, n, C, hd, rfl⟩
  have hlast : ls.getLast? = some (A ++ n :: C) := by rw [hd.all]; simp
  have hsp := Spot.next (i := cntL key n.its) (h.filled hm) hlast
  have hn : n.its.length ≤ m := wlv_le h.wid _ (last_mem hlast)
  have hc := cntL_le key n.its
  have e1 : l.drop (cntL key l) = n.its.drop (cntL key n.its) ++ C.flatMap (·.its) := by
    rw [← h.its, hd.items, cntL_append hd.mid.1, cntL_behind hd.mid.2.1, List.drop_append, List.drop_append]
    have h0 : (A.flatMap (·.its)).length + cntL key n.its - (A.flatMap (·.its)).length = cntL key n.its := by omega
    rw [h0, List.drop_eq_nil_of_le (by omega), show cntL key n.its - n.its.length = 0 by omega]
    simp
  refine ⟨hb, _, _, by rw [e1]; exact hsp, by split <;> omega, ?_⟩
  congr 3
  split <;> rfl
def vLen : Value → Nat
  | .slice _ n _ => n
  | _ => 0
theorem pair_cells (w : World) (a b : ByteArray) : ∀ j u, ([.string a, .string b] : List Value)[j]? = some u → (w.alloc (.cells #[.string a, .string b] 27)).cell? ((⟨w.heap.size, 0, none⟩ : Addr).add j) = some u := by
  intro j u hj
  match j, hj with
  | 0, hj => simp at hj; subst hj; simp [Addr.add]
  | 1, hj => simp at hj; subst hj; simp [Addr.add]
theorem Try.infoPair : (Try.prog.info? 27).map (fun i => (i.zero, i.size, i.bytes)) = some (some (.agg #[.string ⟨#[]⟩, .string ⟨#[]⟩]), 2, 32) := by kernel_rfl
theorem prow_form {w : World} {B : Nat} {v : Value} {n : Nat} {xs : List Value} (h : w.ownsRow B 27 2 v n xs) : ∃ p cap, v = .slice p n cap ∧ n ≤ cap ∧ cap ≤ maxLen := by
  obtain ⟨_, ⟨rfl, h2⟩ | ⟨g, cap, cur, rfl, _, _, h3, h4, _⟩⟩ := h
  · exact ⟨none, 0, by rw [h2], by omega, Nat.zero_le _⟩
  · exact ⟨_, cap, rfl, h3, h4⟩

theorem prow_at {w : World} {B : Nat} {v : Value} {l : List It} (h : w.ownsRow B 27 2 v l.length (pc l)) (hl : 0 < l.length) : ∃ g cap, v = .slice (some ⟨g, 0, none⟩) l.length cap ∧ l.length ≤ cap ∧ cap ≤ maxLen ∧ (B ≤ g ∧ g < w.heap.size) ∧ (∀ i (hi : i < l.length), w.cell? ⟨g, i * 2, none⟩ = some (.string (l[i]).key) ∧ w.cell? ⟨g, i * 2 + 1, none⟩ = some (.string (l[i]).val)) ∧ ∀ o, w.frozen? ⟨g, o, none⟩ = false := by
  have hr := h
  obtain ⟨_, ⟨rfl, h2⟩ | ⟨g, cap, cur, rfl, _, _, h3, h4, _⟩⟩ := h
  · omega
  · refine ⟨g, cap, rfl, h3, h4, hr.lt g rfl, fun i hi => ?_, fun o => hr.frozenAt o⟩
    obtain ⟨e0, e1⟩ := pc_at l i hi
    exact ⟨(hr.cellAt (i * 2) (by omega)).trans e0, (hr.cellAt (i * 2 + 1) (by omega)).trans e1⟩
/-- What was told, as pairs in memory. -/
theorem prow_row {w : World} {B : Nat} {v : Value} {l : List It} (h : w.ownsRow B 27 2 v l.length (pc l)) : ∃ p cap, v = .slice p (l.map pr).length cap ∧ l.length ≤ cap ∧ PRow w p (l.map pr) := by
  rcases Nat.eq_zero_or_pos l.length with h0 | h0
  · obtain ⟨p, cap, e, hc, _⟩ := prow_form h
    exact ⟨p, cap, by rw [List.length_map]; exact e, hc, fun i hi => absurd hi (by rw [List.length_map]; omega)⟩
  · obtain ⟨g, cap, e, hc, _, _, hcc, _⟩ := prow_at h h0
    refine ⟨_, cap, by rw [List.length_map]; exact e, hc, fun i hi => ?_⟩
    rw [List.length_map] at hi
    obtain ⟨h1, h2⟩ := hcc i hi
    refine ⟨g, 0, rfl, ?_, ?_⟩
    · rw [Nat.zero_add, List.getElem_map]; exact h1
    · rw [Nat.zero_add, List.getElem_map]; exact h2

set_option maxHeartbeats 8000000 in
set_option maxRecDepth 100000 in
theorem tree_list (w : World) (Z : Nat → Prop) (t m : Nat) (frm to : ByteArray) (most : Int) (ls : List (List Nd)) (l : List It) (h : TreeIs w Z t m ls l) (hm : 4 ≤ m) (hm2 : m ≤ 64) (hl : l.length ≤ 4000000000) (hs : ∀ y ∈ l, y.key.size ≤ 281474976710656 ∧ y.val.size ≤ 281474976710656) :
    Calls Try.prog 23 #[.pointer (some ⟨t, 0, none⟩), .string frm, .string to, .int .i64 most] w fun e w' => Below w.heap.size w w' ∧ ∃ v, e = .returned v ∧ w'.ownsRow w.heap.size 27 2 v (listL frm to most l).length (pc (listL frm to most l)) := by
  obtain ⟨i0, hif, hz0, hz1, hz2⟩ := info_parts Try.infoPair
  have HF : Hid (Calls Try.prog 40 #[.pointer (some ⟨t, 0, none⟩), .string frm] w fun e w' => Below w.heap.size w w' ∧ ∃ q i, Spot ls q i (l.drop (cntL frm l)) ∧ i ≤ 64 ∧ e = .returned (.tuple #[.pointer q, .int .i64 (i : Int)])) := tree_first w Z t m frm ls l h hm hm2 (by omega)
  have HT : Hid (Filled ls ∧ Hp w Z (allX ls) ∧ (∀ x ∈ allX ls, x.1.its.length ≤ 64) ∧ ∀ y ∈ l, y.key.size ≤ 281474976710656 ∧ y.val.size ≤ 281474976710656) := ⟨h.filled hm, h.hp, fun x hx => by have := wlv_le h.wid x hx; omega, hs⟩
  clear h hs
  go_enter Try.func23, Try.ntmps23
  go_wp2_with fail
  refine HF.out.mono ?_
  rintro e w1 ⟨hb1, q0, i0', hsp, hi0, rfl⟩
  go_wp2_with fail
  go_loopw [9, 10, 11] (fun v q i wr => ∃ (done r : List It) (k : Nat) (qa : Option Addr), listL frm to most l = done ++ tellL to (most - done.length) r ∧ (∃ k0, r = l.drop k0 ∧ done.length + r.length ≤ l.length) ∧ i = .int .i64 (k : Int) ∧ q = .pointer qa ∧ Spot ls qa k r ∧ k ≤ 64 ∧ Below w.heap.size w wr ∧ wr.ownsRow w.heap.size 27 2 v done.length (pc done)) (fun v _ _ _ => l.length - vLen v)
  case atStart => exact ⟨[], _, _, _, by simp [listL], ⟨_, rfl, by simp⟩, rfl, rfl, hsp, hi0, hb1, World.ownsRow_nil _ _ _ _⟩
  case round =>
    obtain ⟨done, r, k, qa, hlist, ⟨k0, hr0, hlen⟩, rfl, rfl, hsp, hk, hb, hrow⟩ := hrel
    obtain ⟨pv, cap, rfl, hcap, hcap2⟩ := prow_form hrow
    have HB : Hid (Below w.heap.size w wr) := hb
    have HRW : Hid (wr.ownsRow w.heap.size 27 2 (.slice pv done.length cap) done.length (pc done)) := hrow
    have HL : Hid (listL frm to most l = done ++ tellL to (most - done.length) r ∧ r = l.drop k0 ∧ done.length + r.length ≤ l.length) := ⟨hlist, hr0, hlen⟩
    have hbs := hb.size
    clear hb hrow hlist hr0 hlen
    rcases hsp with ⟨rfl, rfl⟩ | ⟨A, n, C, hlast, hkn, rfl, hr⟩
    · go_wp2
      go_ret
      refine ⟨HB.out, _, rfl, ?_⟩
      have e := HL.out.1
      rw [tellL_nil, List.append_nil] at e
      rw [e]
      exact HRW.out
    · have hnd : NdAt wr n (hd C none) := (HT.out.2.1.at_ _ (last_mem hlast)).later HB.out
      have hn64 : n.its.length ≤ 64 := HT.out.2.2.1 _ (last_mem hlast)
      have HN : Hid (ls.getLast? = some (A ++ n :: C)) := hlast
      have c0 := hnd.nc.c0
      obtain ⟨g, gc, ev, _, _, _, hcc, _⟩ := irow_at hnd.row (by omega)
      rw [ev] at c0
      obtain ⟨ck, cv, cp⟩ := hcc k hkn
      obtain ⟨x, hx⟩ : ∃ x, n.its[k] = x := ⟨_, rfl⟩
      rw [hx] at ck cv cp
      have hrx : r = x :: (n.its.drop (k + 1) ++ C.flatMap (·.its)) := by rw [hr, List.drop_eq_getElem_cons hkn, hx]; rfl
      have hxm : x ∈ l := by
        have h1 : x ∈ r := by rw [hrx]; simp
        rw [HL.out.2.1] at h1
        exact List.mem_of_mem_drop h1
      obtain ⟨hks, hvs⟩ := HT.out.2.2.2 x hxm
      have HRX : Hid (r = x :: (n.its.drop (k + 1) ++ C.flatMap (·.its))) := hrx
      have HND : Hid (∀ w', Below w.heap.size w w' → NdAt w' n (hd C none)) := fun w' hb' => (HT.out.2.1.at_ _ (last_mem hlast)).later hb'
      obtain ⟨b, hb⟩ : ∃ b, n.b = b := ⟨_, rfl⟩
      have HNB : Hid (n.b = b) := hb
      obtain ⟨nl, hnl⟩ : ∃ nl, n.its.length = nl := ⟨_, rfl⟩
      have HNL : Hid (n.its.length = nl) := hnl
      rw [hb, hnl] at c0
      rw [hnl] at hkn hn64
      rw [hb]
      have hkni : (k : Int) < (nl : Int) := by omega
      clear hlast hcc ev hx hr hrx hxm hnd hb hnl
      by_cases hmo : (done.length : Int) < most
      · have hcs : (to.toList.isEmpty = false ∧ ¬ to.toList = [] ∧ Op.bytesLess x.key.toList to.toList = false) ∨ (to.toList.isEmpty = true ∧ to.toList = []) ∨ (to.toList.isEmpty = false ∧ ¬ to.toList = [] ∧ Op.bytesLess x.key.toList to.toList = true) := by
          cases to.toList with
          | nil => exact Or.inr (Or.inl ⟨rfl, rfl⟩)
          | cons a rr =>
            cases Op.bytesLess x.key.toList (a :: rr) with
            | true => exact Or.inr (Or.inr ⟨rfl, by simp, rfl⟩)
            | false => exact Or.inl ⟨rfl, by simp, rfl⟩
        have HUN : Hid (untilB to x.key = (to.toList.isEmpty || Op.bytesLess x.key.toList to.toList)) := rfl
        rcases hcs with ⟨h1, h2, h3⟩ | hcs
        · go_wp2
          go_ret
          refine ⟨HB.out, _, rfl, ?_⟩
          have e := HL.out.1
          have hu := HUN.out
          rw [h1, h3] at hu
          rw [HRX.out, tellL_stop hu, List.append_nil] at e
          rw [e]
          exact HRW.out
        · have hut : untilB to x.key = true := by
            rw [HUN.out]
            rcases hcs with ⟨h1, h2⟩ | ⟨h1, h2, h3⟩
            · rw [h1]; rfl
            · rw [h3, Bool.or_true]
          have HNX : Hid (listL frm to most l = (done ++ [x]) ++ tellL to (most - ((done ++ [x]).length : Int)) (n.its.drop (k + 1) ++ C.flatMap (·.its)) ∧ (n.its.drop (k + 1) ++ C.flatMap (·.its)) = l.drop (k0 + 1) ∧ (done ++ [x]).length + (n.its.drop (k + 1) ++ C.flatMap (·.its)).length ≤ l.length) := by
            have hh := HL.out
            rw [HRX.out] at hh
            refine ⟨?_, ?_, ?_⟩
            · rw [hh.1, tellL_cons hut (by omega), List.append_assoc]
              congr 2
              rw [List.length_append, List.length_singleton]
              have : most - (done.length : Int) - 1 = most - ((done.length + 1 : Nat) : Int) := by omega
              rw [this]
              rfl
            · have e := congrArg List.tail hh.2.1
              rw [List.tail_drop] at e
              exact e
            · have := hh.2.2
              simp only [List.length_append, List.length_cons, List.length_nil] at this ⊢
              omega
          have HPR := pair_any x.key x.val (Option.map (fun b => { block := b, off := 0 }) x.kid) wr hks hvs
          have HDL : Hid (done.length < l.length ∧ done.length ≤ 4000000000) := by
            have := HNX.out.2.2
            simp only [List.length_append, List.length_cons, List.length_nil] at this
            exact ⟨by omega, by omega⟩
          have HK : Hid (k < n.its.length ∧ n.its.length ≤ 64) := by rw [HNL.out]; exact ⟨hkn, hn64⟩
          clear hut
          rcases hcs with ⟨h1, h2⟩ | ⟨h1, h2, h3⟩
          all_goals
            go_wp2_with fail
            refine HPR.mono ?_
            rintro e w4 ⟨rfl, hb4⟩
            have hdl := HDL.out
            go_wp2_with (at_builtin; go_must (refine wpList_append_lies _ rfl _ _ 22 rfl w.heap.size 27 i0 _ 2 32 Try.underlying22 hif hz0 hz1 hz2 rfl (by decide) _ _ _ rfl ((own_kept HRW.out fun j hj => hb4.block j (HRW.out.lt j hj).2).alloc _) ⟨w4.heap.size, 0, none⟩ 1 1 [.string x.key, .string x.val] rfl rfl (pair_cells w4 x.key x.val) (by intro u hu; simp at hu; rcases hu with rfl | rfl <;> rfl) Nat.one_pos (by unfold maxLen; omega) (by omega) (by simp; have := hb4.size; omega) _ rfl ?_); intro g5 cap5 w5 hown5 hgrow5 hor5 hlt5)
            have hb5 : Below w.heap.size w w5 := ((HB.out.trans (hb4.mono hbs)).alloc (Nat.le_trans hbs hb4.size) _).grown hgrow5 (by simp; have := hb4.size; omega) (fun j hj => (HRW.out.lt j hj).1)
            have HSP := spot_any w5 n (hd C none) (k + 1) (HND.out w5 hb5) (by have := HK.out; omega) (by have := HK.out; omega)
            rw [HNB.out] at HSP
            have HSQ := Spot.next (i := k + 1) HT.out.1 HN.out
            have HQI : Hid (∃ (q : Option Addr) (j : Nat), (if k + 1 < n.its.length then some ⟨b, 0, none⟩ else pOf (hd C none)) = q ∧ (if k + 1 < n.its.length then ((k + 1 : Nat) : Int) else 0) = (j : Int) ∧ j ≤ 64 ∧ Spot ls q j (n.its.drop (k + 1) ++ C.flatMap (·.its))) := by
              rw [HNB.out] at HSQ
              refine ⟨_, (if k + 1 < n.its.length then k + 1 else 0), rfl, by split <;> rfl, by have := HK.out; split <;> omega, HSQ⟩
            obtain ⟨q, j, hq, hj, hj64, hsq⟩ := HQI.out
            rw [hq, hj] at HSP
            have HS2 : Hid (Calls Try.prog 42 #[.pointer (some ⟨b, 0, none⟩), .int .i64 ((k : Int) + 1)] w5 fun e w' => e = .returned (.tuple #[.pointer q, .int .i64 (j : Int)]) ∧ w' = w5) := HSP
            have HSJ : Hid (j ≤ 64 ∧ Spot ls q j (n.its.drop (k + 1) ++ C.flatMap (·.its))) := ⟨hj64, hsq⟩
            clear HSP HSQ HQI hq hj hsq
            go_wp2_with fail
            refine HS2.out.mono ?_
            rintro e w6 ⟨rfl, hw6⟩
            subst hw6
            go_wp2
            refine ⟨⟨done ++ [x], _, j, q, HNX.out.1, ⟨_, HNX.out.2.1, HNX.out.2.2⟩, rfl, rfl, HSJ.out.2, HSJ.out.1, hb5, ?_⟩, ?_⟩
            · rw [List.length_append, List.length_singleton, pc_append]
              exact hown5
            · simp only [vLen]
              omega
      · go_wp2
        go_ret
        refine ⟨HB.out, _, rfl, ?_⟩
        have e := HL.out.1
        rw [tellL_zero _ (by omega), List.append_nil] at e
        rw [e]
        exact HRW.out
end Go.Proofs.Ytlpannicklkghaa
