/- Walks of layer 7: Levels. -/
import Derived.Test.YtlpannicklkghaaB43
namespace Go.Proofs.Ytlpannicklkghaa
open Go.RowKit

def iv (l : List Nat) : List Value := l.map fun (n : Nat) => Value.int .i64 (n : Int)
theorem iv_length (l : List Nat) : (iv l).length = l.length := List.length_map _
theorem iv_append (a b : List Nat) : iv (a ++ b) = iv a ++ iv b := List.map_append
def wid (L : List Nd) : List Nat := L.map fun n => n.its.length
/-- Levels in memory: a row of rows. -/
structure LV (w wr : World) (v : Value) (vs : List Value) (ws : List (List Nat)) : Prop where
  outer : wr.ownsRow w.heap.size 49 1 v vs.length vs
  len : vs.length = ws.length
  inner : ∀ i (h : i < vs.length) (h' : i < ws.length), wr.ownsRow w.heap.size 3 1 vs[i] (ws[i]).length (iv ws[i])
  one : ∀ u ∈ vs, ∃ p n c, u = .slice p n c
  bel : Below w.heap.size w wr
  dis : vs.Pairwise fun a b => ∀ k, a.ownBlock = some k → b.ownBlock ≠ some k
theorem LV.later {w wr w' : World} {v : Value} {vs : List Value} {ws : List (List Nat)} (h : LV w wr v vs ws) (hb : Below wr.heap.size wr w') : LV w w' v vs ws :=
  ⟨own_kept h.outer fun k e => hb.block k (h.outer.lt k e).2, h.len, fun i hi hi' => own_kept (h.inner i hi hi') fun k e => hb.block k ((h.inner i hi hi').lt k e).2, h.one, below_two h.bel hb, h.dis⟩
theorem Try.infoInt : (Try.prog.info? 3).map (fun i => (i.zero, i.size, i.bytes)) = some (some (.int .i64 0), 1, 8) := by kernel_rfl
theorem Try.infoInts : (Try.prog.info? 49).map (fun i => (i.zero, i.size, i.bytes)) = some (some (.slice none 0 0), 1, 24) := by kernel_rfl
theorem srow_form {w : World} {B : Nat} {e : TypeId} {v : Value} {n : Nat} {xs : List Value} (h : w.ownsRow B e 1 v n xs) : ∃ p cap, v = .slice p n cap ∧ n ≤ cap ∧ cap ≤ maxLen := by
  obtain ⟨_, ⟨rfl, h2⟩ | ⟨g, cap, cur, rfl, _, _, h3, h4, _⟩⟩ := h
  · exact ⟨none, 0, by rw [h2], by omega, Nat.zero_le _⟩
  · exact ⟨_, cap, rfl, h3, h4⟩
/-- One level more. -/
theorem LV.push {w w1 w2 : World} {v v2 u : Value} {vs : List Value} {ws : List (List Nat)} {l : List Nat} (h : LV w w1 v vs ws) (hu : w1.ownsRow w.heap.size 3 1 u l.length (iv l)) (hg : w1.grownBy w2 v.ownBlock) (ho : w2.ownsRow w.heap.size 49 1 v2 (vs.length + 1) (vs ++ [u])) (hd : ∀ x ∈ vs, ∀ k, x.ownBlock = some k → u.ownBlock ≠ some k) : LV w w2 v2 (vs ++ [u]) (ws ++ [l]) := by
  have hk : ∀ (x : Value) (q : List Nat), w1.ownsRow w.heap.size 3 1 x q.length (iv q) → w2.ownsRow w.heap.size 3 1 x q.length (iv q) := fun x q hx => own_kept hx fun k e => hg.block k (hx.lt k e).2 fun e2 => by
    obtain ⟨_, ⟨e1, _⟩ | ⟨g, cap, cur, e1, _, hh, _⟩⟩ := hx
    · rw [e1] at e; cases e
    · rw [e1] at e
      obtain rfl : g = k := by simpa [Value.ownBlock] using e
      exact own_ne h.outer hh (by decide) e2.symm
  refine ⟨by rw [List.length_append, List.length_singleton]; exact ho, by rw [List.length_append, List.length_append, h.len]; rfl, fun i hi hi' => ?_, fun x hx => ?_, h.bel.grown hg h.bel.size fun k e => (h.outer.lt k e).1, List.pairwise_append.2 ⟨h.dis, List.pairwise_singleton _ _, fun x hx y hy => List.mem_singleton.1 hy ▸ hd x hx⟩⟩
  · by_cases hl : i < vs.length
    · have hl' : i < ws.length := by rw [← h.len]; exact hl
      rw [List.getElem_append_left hl, List.getElem_append_left hl']
      exact hk _ _ (h.inner i hl hl')
    · have e : i = vs.length := by rw [List.length_append, List.length_singleton] at hi; omega
      subst e
      have e2 : (ws ++ [l])[vs.length]'hi' = l := by simp [h.len]
      have e3 : (vs ++ [u])[vs.length]'hi = u := by simp
      rw [e2, e3]
      exact hk _ _ hu
  · rcases List.mem_append.1 hx with hx | hx
    · exact h.one x hx
    · obtain rfl : x = u := by simpa using hx
      obtain ⟨p, c, e, _⟩ := srow_form hu
      exact ⟨p, _, c, e⟩
theorem chain_drop : ∀ (i : Nat) {ls : List (List Nd)}, Chain ls → Chain (ls.drop i)
  | 0, _, h => h
  | _ + 1, [], _ => trivial
  | i + 1, _ :: r, h => chain_drop i (ls := r) h.2
theorem own_base {w : World} {B B' : Nat} {e : TypeId} {size : Nat} {v : Value} {n : Nat} {xs : List Value} (h : w.ownsRow B e size v n xs) (hb : B' ≤ B) : w.ownsRow B' e size v n xs := by
  obtain ⟨h1, h2 | ⟨g, cap, cur, rfl, a, b⟩⟩ := h
  · exact ⟨h1, Or.inl h2⟩
  · exact ⟨h1, Or.inr ⟨g, cap, cur, rfl, Nat.le_trans hb a, b⟩⟩
theorem cell_one (w : World) (u : Value) (ty : TypeId) : ∀ j x, ([u] : List Value)[j]? = some x → (w.alloc (.cells #[u] ty)).cell? ((⟨w.heap.size, 0, none⟩ : Addr).add j) = some x := by
  intro j x hj
  match j, hj with
  | 0, hj => simp at hj; subst hj; simp [Addr.add]

set_option maxHeartbeats 8000000 in
set_option maxRecDepth 100000 in
theorem tree_levels (w : World) (Z : Nat → Prop) (t m : Nat) (ls : List (List Nd)) (l : List It) (h : TreeIs w Z t m ls l) (hm : 4 ≤ m) (hm2 : m ≤ 64) (hl : l.length ≤ 4000000000) :
    Calls Try.prog 19 #[.pointer (some ⟨t, 0, none⟩)] w fun e w' => ∃ v vs, e = .returned v ∧ LV w w' v vs (ls.map wid) := by
  obtain ⟨i1, hi1, hz0, hz1, hz2⟩ := info_parts Try.infoInt
  obtain ⟨i2, hi2, hy0, hy1, hy2⟩ := info_parts Try.infoInts
  obtain ⟨rb, ht, hg⟩ := h.some_
  have HCH : Hid (Chain ls) := good_chain hg (by simp)
  have hlv := level_le hm hg h.wid
  rw [h.its] at hlv
  have hl64 := h.low hm (by omega)
  have HT : Hid (Hp w Z (allX ls) ∧ (∀ x ∈ allX ls, x.1.its.length ≤ 64) ∧ ∀ L ∈ ls, L.length ≤ 4000000001) := ⟨h.hp, fun x hx => by have := wlv_le h.wid x hx; omega, fun L hL => by have := hlv L hL; omega⟩
  have HRB : Hid (headB ls = some rb) := by
    obtain ⟨L, r, rfl⟩ : ∃ L r, ls = L :: r := List.exists_cons_of_ne_nil fun e => by rw [e] at hg; exact hg.elim
    obtain ⟨⟨n, C, rfl, _⟩, _⟩ := HCH.out
    have := (good_fits hg).1.1
    show some n.b = some rb
    rw [this]
  have ct2 := ht.c2
  clear h ht hg hlv
  go_enter Try.func19, Try.ntmps19
  go_wp2
  go_loopw [3, 4] (fun v q wr => ∃ (i : Nat) (vs : List Value) (qb : Option Nat), i ≤ ls.length ∧ headB (ls.drop i) = qb ∧ q = .pointer (pOf qb) ∧ LV w wr v vs ((ls.take i).map wid)) (fun v _ _ => ls.length - vLen v)
  case atStart => exact ⟨0, [], some rb, Nat.zero_le _, HRB.out, rfl, ⟨World.ownsRow_nil _ _ _ _, rfl, fun i hi => absurd hi (by simp), fun u hu => by simp at hu, Below.refl _ _, List.Pairwise.nil⟩⟩
  case round =>
    obtain ⟨i, vs, qb, hi, hqb, rfl, hlv⟩ := hrel
    obtain ⟨pv, cv, rfl, _⟩ := srow_form hlv.outer
    have HVL : Hid (vs.length = i) := by rw [hlv.len, List.length_map, List.length_take]; exact Nat.min_eq_left hi
    obtain ⟨W, hW⟩ : ∃ W, W = wr := ⟨_, rfl⟩
    rw [← hW] at hlv
    rw [← hW]
    have HLV : Hid (LV w W (.slice pv vs.length cv) vs ((ls.take i).map wid)) := hlv
    clear hlv hW
    by_cases hlt : i < ls.length
    · obtain ⟨L, rest, hd0⟩ : ∃ L rest, ls.drop i = L :: rest := ⟨_, _, List.drop_eq_getElem_cons hlt⟩
      have hch := chain_drop i HCH.out
      rw [hd0] at hch hqb
      obtain ⟨⟨n, C, rfl, hkid⟩, _⟩ := hch
      obtain rfl : qb = some n.b := hqb.symm
      have hsplit : ls = ls.take i ++ (n :: C) :: rest := by rw [← hd0, List.take_append_drop]
      have hdr1 : ls.drop (i + 1) = rest := by
        have := congrArg List.tail hd0
        rw [List.tail_drop] at this
        exact this
      have htk1 : ls.take (i + 1) = ls.take i ++ [n :: C] := by
        rw [List.take_add_one, ← List.head?_drop, hd0]
        rfl
      have HX : Hid (∀ dn x rem, n :: C = dn ++ x :: rem → (x, hd rem none) ∈ allX ls) := fun dn x rem e => by
        rw [hsplit, allX_append, allX_cons, e]
        exact List.mem_append_right _ (List.mem_append_left _ (link_at [] dn rem x none))
      have HLN : Hid ((n :: C).length ≤ 4000000001) := HT.out.2.2 _ (by rw [hsplit]; simp)
      have HK : Hid (kid0 n.its = headB rest ∧ ls.drop (i + 1) = rest ∧ ls.take (i + 1) = ls.take i ++ [n :: C] ∧ vs.length = i ∧ i < ls.length) := ⟨hkid, hdr1, htk1, HVL.out, hlt⟩
      have HWS : Hid (w.heap.size ≤ W.heap.size) := HLV.out.bel.size
      clear hkid hdr1 htk1 hsplit hd0 hqb
      obtain ⟨nb, hnb⟩ : ∃ nb, n.b = nb := ⟨_, rfl⟩
      have HNB : Hid (n.b = nb) := hnb
      rw [hnb]
      simp only [pOf, Option.map_some]
      clear hnb
      go_wp2
      go_loopw [5, 6] (fun wv q w2 => ∃ (dn rem : List Nd), n :: C = dn ++ rem ∧ q = .pointer (pOf (hd rem none)) ∧ w2.ownsRow W.heap.size 3 1 wv dn.length (iv (wid dn)) ∧ Below W.heap.size W w2) (fun wv _ _ => (n :: C).length - vLen wv)
      case atStart => exact ⟨[], n :: C, rfl, by show _ = Value.pointer (pOf (some n.b)); rw [HNB.out]; rfl, World.ownsRow_nil _ _ _ _, Below.refl _ _⟩
      case round =>
        obtain ⟨dn, rem, hsp, rfl, hrow, hb2⟩ := hrel
        obtain ⟨pw, cw, rfl, _⟩ := srow_form hrow
        have HRW : Hid (wr.ownsRow W.heap.size 3 1 (.slice pw dn.length cw) dn.length (iv (wid dn))) := hrow
        have HB2 : Hid (Below W.heap.size W wr) := hb2
        have hbs := hb2.size
        clear hrow hb2
        cases rem with
        | nil =>
          obtain rfl : n :: C = dn := by rw [hsp, List.append_nil]
          have HFK : Hid (∀ w', Below w.heap.size w w' → Calls Try.prog 39 #[.pointer (some ⟨nb, 0, none⟩)] w' fun e w'' => e = .returned (.pointer (pOf (headB rest))) ∧ w'' = w') := fun w' hb => by
            have h1 : (n, hd C none) ∈ allX ls := HX.out [] n C rfl
            have h2 := firstKid_any w' n (hd C none) ((HT.out.1.at_ _ h1).later hb) (by have := HT.out.2.1 _ h1; simp only at this; omega)
            rw [HNB.out, HK.out.1] at h2
            exact h2
          have HLW : Hid (LV w (wr.alloc (Obj.cells #[.slice pw (n :: C).length cw] 49)) (.slice pv vs.length cv) vs ((ls.take i).map wid)) := (HLV.out.later HB2.out).later ((Below.refl _ _).alloc (Nat.le_refl _) _)
          have HU : Hid ((wr.alloc (Obj.cells #[.slice pw (n :: C).length cw] 49)).ownsRow w.heap.size 3 1 (.slice pw (n :: C).length cw) (n :: C).length (iv (wid (n :: C)))) := own_base (HRW.out.alloc _) HWS.out
          have HDS : Hid (∀ x ∈ vs, ∀ k, x.ownBlock = some k → (Value.slice pw (n :: C).length cw).ownBlock ≠ some k) := fun x hx k hk e => by
            obtain ⟨j, hj, rfl⟩ := List.getElem_of_mem hx
            have h1 := ((HLV.out.inner j hj (by rw [← HLV.out.len]; exact hj)).lt k hk).2
            have h2 := (HRW.out.lt k e).1
            omega
          have hws := HWS.out
          have hvs64 : vs.length ≤ 64 := by rw [HVL.out]; omega
          have HLO : Hid ((wr.alloc (Obj.cells #[.slice pw (n :: C).length cw] 49)).ownsRow w.heap.size 49 1 (.slice pv vs.length cv) vs.length vs) := HLW.out.outer
          have ehd : pOf (hd ([] : List Nd) none) = none := rfl
          rw [ehd]
          clear hsp ehd
          obtain ⟨LL, hLL⟩ : ∃ LL, (n :: C).length = LL := ⟨_, rfl⟩
          rw [hLL] at HLO HU HLW HDS
          rw [hLL]
          go_wp2_with (first | (at_builtin; go_must (refine wpList_append_lies _ rfl _ _ 55 rfl w.heap.size 49 i2 _ 1 24 Try.underlying55 hi2 hy0 hy1 hy2 rfl (by decide) _ _ _ rfl HLO.out ⟨wr.heap.size, 0, none⟩ 1 1 [.slice pw LL cw] rfl rfl (cell_one wr _ _) (by intro u hu; simp at hu; subst hu; rfl) Nat.one_pos (by unfold maxLen; omega) (by omega) (by simp; omega) _ rfl ?_); intro g5 cap5 w5 hown5 hgrow5 hor5 hlt5))
          have HL5 : Hid (LV w w5 (.slice (some ⟨g5, 0, none⟩) (vs.length + 1) cap5) (vs ++ [.slice pw LL cw]) ((ls.take (i + 1)).map wid)) := by
            have h1 := HLW.out.push (l := wid (n :: C)) (by have := HU.out; rw [← hLL] at this ⊢; rw [show (wid (n :: C)).length = (n :: C).length from List.length_map _]; exact this) hgrow5 hown5 HDS.out
            rw [HK.out.2.2.1, List.map_append]
            exact h1
          refine (HFK.out w5 HL5.out.bel).mono ?_
          rintro e w6 ⟨rfl, hw6⟩
          subst hw6
          dsimp only
          go_wp2
          refine ⟨⟨i + 1, _, _, HK.out.2.2.2.2, rfl, by rw [HK.out.2.1]; rfl, HL5.out⟩, ?_⟩
          have := HK.out
          simp only [vLen]
          omega
        | cons x rem' =>
          have hxm := HX.out dn x rem' hsp
          have hx64 : x.its.length ≤ 64 := HT.out.2.1 _ hxm
          have HND : Hid (∀ w', Below W.heap.size W w' → NdAt w' x (hd rem' none)) := fun w' hb => (HT.out.1.at_ _ hxm).later (below_two HLV.out.bel hb)
          have hnd := HND.out wr HB2.out
          have c0 := hnd.nc.c0
          obtain ⟨px, cx, ex, _⟩ := irow_form hnd.row
          rw [ex] at c0
          have hdl : dn.length < (n :: C).length := by rw [hsp]; simp
          have hdl2 : dn.length ≤ 4000000001 := by have := HLN.out; omega
          have HSP : Hid (n :: C = (dn ++ [x]) ++ rem' ∧ dn.length < (n :: C).length) := ⟨by rw [hsp]; simp, hdl⟩
          obtain ⟨xb, hxb⟩ : ∃ xb, x.b = xb := ⟨_, rfl⟩
          obtain ⟨xl, hxl⟩ : ∃ xl, x.its.length = xl := ⟨_, rfl⟩
          have HXB : Hid (x.b = xb ∧ x.its.length = xl) := ⟨hxb, hxl⟩
          have ehd : pOf (hd (x :: rem') none) = some ⟨xb, 0, none⟩ := by rw [← hxb]; rfl
          rw [ehd]
          rw [hxb, hxl] at c0
          rw [hxl] at hx64
          clear hnd ex hxm hsp hdl hxb hxl ehd
          go_wp2_with (at_builtin; go_must (refine wpList_append_lies _ rfl _ _ 49 rfl W.heap.size 3 i1 _ 1 8 Try.underlying49 hi1 hz0 hz1 hz2 rfl (by decide) _ _ _ rfl (HRW.out.alloc _) ⟨wr.heap.size, 0, none⟩ 1 1 [.int .i64 (xl : Int)] rfl rfl (cell_one wr _ _) (by intro u hu; simp at hu; subst hu; rfl) Nat.one_pos (by unfold maxLen; omega) (by omega) (by simp; omega) _ rfl ?_); intro g5 cap5 w5 hown5 hgrow5 hor5 hlt5; (have hb5 : Below W.heap.size W w5 := (HB2.out.alloc hbs _).grown hgrow5 (by simp; omega) (fun j hj => (HRW.out.lt j hj).1)); (have c1 := (HND.out w5 hb5).nc.c1); rw [HXB.out.1] at c1)
          go_wp2
          go_roundw
          case rel =>
            refine ⟨dn ++ [x], rem', HSP.out.1, rfl, ?_, hb5⟩
            have e1 : iv (wid (dn ++ [x])) = iv (wid dn) ++ [.int .i64 (xl : Int)] := by simp [wid, iv, HXB.out.2]
            rw [e1, List.length_append, List.length_singleton]
            exact hown5
          case measure =>
            have := HSP.out.2
            simp only [vLen]
            omega
    · have hdn : ls.drop i = [] := List.drop_eq_nil_of_le (by omega)
      rw [hdn] at hqb
      obtain rfl : qb = none := hqb.symm
      simp only [pOf, Option.map_none]
      go_wp2
      go_ret
      refine ⟨_, vs, rfl, ?_⟩
      have := HLV.out
      rw [List.take_of_length_le (by omega)] at this
      exact this
end Go.Proofs.Ytlpannicklkghaa
