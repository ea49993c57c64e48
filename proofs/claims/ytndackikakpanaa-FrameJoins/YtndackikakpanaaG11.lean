/- Walks of layer 5, eleventh part: FrameTorn. -/
import Derived.Test.YtndackikakpanaaG8
namespace Go.Proofs.Ytndackikakpanaa
open Go.RowKit

theorem wpList_appB (w : World) {ops : Array Oper} {rest : List Oper} {o : Oper} {a : Act} {Q : Exit → Act → World → Prop} (hgd : o.guard = none) (sl x : Operand)
    (ho : o.op = .call { callee := .builtin .append, args := #[sl, x], argTypes := #[36, 9] })
    (v : Value) (bs : List UInt8) (hs : a.eval sl = v) (hown : ownB w v bs) (s : ByteArray) (hx : a.eval x = .string s) (hlen : bs.length + s.size ≤ 1099511627776)
    (h : ∀ p cap w', ownB w' (.slice p (bs.length + s.size) cap) (bs ++ s.data.toList) → w.grownBy w' v.ownBlock → (∀ g, (Value.slice p (bs.length + s.size) cap).ownBlock = some g → v.ownBlock = some g ∨ w.heap.size ≤ g) → wpList Try.prog ops Q rest (a.put o.dst (.slice p (bs.length + s.size) cap)) w') : wpList Try.prog ops Q (o :: rest) a w := by
  refine wpList_plain hgd fun K hK => ?_
  obtain ⟨v', w', hr, h2, h3, h4, _⟩ := hown.app s hlen o.type
  obtain ⟨p, cap, e, _⟩ := h2.form
  have e' : v' = .slice p (bs.length + s.size) cap := by rw [e]; simp
  subst e'
  unfold Oper.wp execOp
  simp only [ho, resolve, invoke, builtin, Sem.run_bind, Sem.run_pure, Result.andThen_ok, List.map_toArray, List.map_cons, List.map_nil, hs, hx, hr]
  exact hK _ _ (h p cap w' h2 h3 h4)

/-- How many bytes some texts are with six more each. -/
def ws : List ByteArray → Nat
  | [] => 0
  | s :: l => s.size + 6 + ws l
theorem ws_append : ∀ l m : List ByteArray, ws (l ++ m) = ws l + ws m
  | [], m => by simp [ws]
  | s :: l, m => by rw [List.cons_append, ws, ws, ws_append l m]; omega
theorem ws_take {ls : List ByteArray} {k : Nat} (h : k < ls.length) : ws (ls.take (k + 1)) = ws (ls.take k) + ls[k].size + 6 := by
  rw [List.take_succ_eq_append_getElem h, ws_append]
  simp [ws]
  omega
theorem ws_le (ls : List ByteArray) (k : Nat) : ws (ls.take k) ≤ ws ls := by
  have := ws_append (ls.take k) (ls.drop k)
  rw [List.take_append_drop] at this
  omega
def bl (ls : List ByteArray) : List (List UInt8) := ls.map fun s => s.data.toList
theorem bl_length (ls : List ByteArray) : (bl ls).length = ls.length := List.length_map _
theorem bl_ba (ls : List ByteArray) : (bl ls).map ba = ls := by
  unfold bl
  rw [List.map_map]
  exact List.map_id _
theorem cat_ws : ∀ ls : List ByteArray, (cat (bl ls)).length = ws ls
  | [] => rfl
  | s :: l => by
    have := cat_ws l
    simp only [bl, List.map_cons, cat, List.length_append, frm_length, ws] at this ⊢
    rw [this]
    simp
    omega
theorem cat_take {ls : List ByteArray} {k : Nat} (h : k < ls.length) : cat (bl (ls.take (k + 1))) = cat (bl (ls.take k)) ++ frm ls[k].data.toList := by
  rw [List.take_succ_eq_append_getElem h]
  simp only [bl, List.map_append, List.map_cons, List.map_nil, cat_append, cat_one]
theorem upto1 {n k : Nat} {p : (j : Nat) → j < n → Prop} (h : ∀ j (g : j < n), j < k → p j g) {hlt : k < n} (e : p k hlt) : ∀ j (g : j < n), j < k + 1 → p j g := by
  intro j g hj
  by_cases hjk : j = k
  · subst hjk; exact e
  · exact h j g (by omega)
theorem bl_small {ls : List ByteArray} (h : ∀ j (g : j < ls.length), j < ls.length → ls[j].size ≤ 4096) : ∀ d ∈ bl ls, d.length ≤ 4096 := by
  intro d hd
  obtain ⟨s, hs, rfl⟩ := List.mem_map.1 hd
  obtain ⟨j, hj, rfl⟩ := List.getElem_of_mem hs
  have := h j hj hj
  simpa using this
theorem wr_facts {d : ByteArray} (h : d.size ≤ 4096) : (wrS d).data.toList = frm d.data.toList ∧ (wrS d).size = 6 + d.size := by
  have e : wrS d = ⟨(frm d.data.toList).toArray⟩ := if_pos h
  have e1 : (wrS d).data.toList = frm d.data.toList := by rw [e]
  have := congrArg List.length e1
  rw [frm_length] at this
  exact ⟨e1, by simpa using this⟩
theorem size_list (s : ByteArray) : s.size = s.data.toList.length := by simp
theorem str_some {s : ByteArray} (h : 0 < s.size) : (s.toList == []) = false := by
  rw [beq_eq_false_iff_ne, ByteArray.toList_eq]
  intro e
  rw [size_list, e] at h
  exact absurd h (by decide)

set_option maxHeartbeats 8000000 in
set_option maxRecDepth 100000 in
theorem torn_law (a : Option Addr) (cp : Nat) (ls : List ByteArray) (last : ByteArray) (x : Int) (w : World) (hst : Strs w a ls) (hcl : ls.length ≤ cp) (hcm : cp ≤ maxLen) :
    Calls Try.prog 5 #[.slice a ls.length cp, .string last, .int .i64 x] w fun e w' => e = .returned (.bool true) ∧ Below w.heap.size w w' := by
  have HST : Hid (Strs w a ls) := hst
  have hll : ls.length ≤ 9223372036854775807 := Nat.le_trans hcl hcm
  clear hst hcl hcm
  go_enter Try.func5, Try.ntmps5
  go_wp2
  go_loopw [7, 8] (fun n i wr => ∃ (k N : Nat), k ≤ ls.length ∧ i = .int .i64 (k : Int) ∧ n = .int .i64 (N : Int) ∧ N = ls.length + ws (ls.take k) ∧ N ≤ 9223372036854775807 ∧ w = wr) (fun _ i _ => ls.length - (intOf i).toNat)
  case atStart => exact ⟨0, ls.length, Nat.zero_le _, rfl, rfl, by simp [ws], by omega, rfl⟩
  case round =>
    obtain ⟨k, N, hk, rfl, rfl, hN, hNb, rfl⟩ := hrel
    have HN : Hid (N = ls.length + ws (ls.take k)) := hN
    clear hN
    by_cases hNl : N ≤ 2147483647
    · have hNi : (N : Int) ≤ 2147483647 := by omega
      by_cases hlt : k < ls.length
      · have hlti : (k : Int) < (ls.length : Int) := by omega
        obtain ⟨b, off, rfl, c0⟩ := HST.out k hlt
        obtain ⟨s, hs⟩ : ∃ s, ls[k] = s := ⟨_, rfl⟩
        rw [hs] at c0
        have HS : Hid (ls[k] = s) := hs
        clear hs
        by_cases hsb : 2147483647 < s.size
        · have hsi : (2147483647 : Int) < (s.size : Int) := by omega
          go_wp2
          go_ret
          exact ⟨rfl, Below.refl _ _⟩
        · have hsi : ¬ (2147483647 : Int) < (s.size : Int) := by omega
          go_wp2
          go_roundw
          case rel => exact ⟨k + 1, N + s.size + 6, by omega, by go_num, by go_num, by rw [ws_take hlt, HS.out, HN.out]; omega, by omega, by first | rfl | trivial⟩
          case measure => simp [intOf]; omega
      · obtain rfl : k = ls.length := by omega
        have hws : ls.length + ws ls ≤ 2147483647 := by
          have := HN.out
          rw [List.take_length] at this
          omega
        by_cases hlb : 2147483647 < last.size
        · have hli : (2147483647 : Int) < (last.size : Int) := by omega
          go_wp2
          go_ret
          exact ⟨rfl, Below.refl _ _⟩
        · have hli : ¬ (2147483647 : Int) < (last.size : Int) := by omega
          have HW : Hid (ls.length + ws ls ≤ 2147483647) := hws
          clear HN hws
          go_wp2_with fail
          refine (awake_any w).mono ?_
          rintro e w1 ⟨rfl, hb1⟩
          have HST1 : Hid (Strs w1 a ls) := HST.out.later hb1
          have HB1 : Hid (Below w.heap.size w w1) := hb1
          clear hb1 HST
          go_wp2
          go_loopw [10, 11] (fun v i wr => ∃ k : Nat, k ≤ ls.length ∧ i = .int .i64 (k : Int) ∧ ownB wr v (cat (bl (ls.take k))) ∧ (∀ g, v.ownBlock = some g → w1.heap.size ≤ g) ∧ (∀ j (h : j < ls.length), j < k → ls[j].size ≤ 4096) ∧ Below w1.heap.size w1 wr) (fun _ i _ => ls.length - (intOf i).toNat)
          case atStart => exact ⟨0, Nat.zero_le _, rfl, ownB.nil _, fun g h => (by cases h), fun j _ h => absurd h (Nat.not_lt_zero _), Below.refl _ _⟩
          case round =>
            obtain ⟨k, hk, rfl, hown, hbase, hsm, hb⟩ := hrel
            have HSM : Hid (∀ j (h : j < ls.length), j < k → ls[j].size ≤ 4096) := hsm
            have HBA : Hid (∀ g, u10.ownBlock = some g → w1.heap.size ≤ g) := hbase
            have HB : Hid (Below w1.heap.size w1 wr) := hb
            have HOW : Hid (ownB wr u10 (cat (bl (ls.take k)))) := hown
            have hcl : (cat (bl (ls.take k))).length ≤ 2147483647 := by
              rw [cat_ws]
              have := ws_le ls k
              have := HW.out
              omega
            have hsz := hb.size
            by_cases hlt : k < ls.length
            · have hlti : (k : Int) < (ls.length : Int) := by omega
              obtain ⟨b, off, rfl, c0⟩ := HST1.out k hlt
              obtain ⟨s, hs⟩ : ∃ s, ls[k] = s := ⟨_, rfl⟩
              rw [hs] at c0
              have d0 : wr.cell? ⟨b, off + k, none⟩ = some (.string s) := cell_later hb c0
              have hss : s.size ≤ 2147483647 := by
                have h1 := ws_take hlt
                have h2 := ws_le ls (k + 1)
                have := HW.out
                rw [hs] at h1
                omega
              have HS : Hid (ls[k] = s) := hs
              clear hs c0 hown hbase hsm hb
              go_wp2_with fail
              refine (wrap_any s wr (by omega)).mono ?_
              rintro e w2 ⟨rfl, hb2⟩
              have e0 := cell_later hb2 d0
              have HB2 : Hid (Below w1.heap.size w1 w2) := HB.out.trans (hb2.mono hsz)
              have HOW2 : Hid (ownB w2 u10 (cat (bl (ls.take k)))) := HOW.out.kept fun g hg => hb2.block g (by obtain ⟨c, fr, e'⟩ := HOW.out.lt hg; exact (Array.getElem?_eq_some_iff.1 e').1)
              clear hb2 d0
              by_cases h4 : s.size ≤ 4096
              · have h4i : ¬ (4096 : Int) < (s.size : Int) := by omega
                obtain ⟨hw1, hw2⟩ := wr_facts h4
                rw [show wrE s = 0 from if_pos h4]
                obtain ⟨t, ht⟩ : ∃ t, wrS s = t := ⟨_, rfl⟩
                rw [ht] at hw1 hw2 ⊢
                have HT : Hid (t.data.toList = frm s.data.toList) := hw1
                have htz : t.size ≤ 4102 := by omega
                clear hw1 hw2 ht
                have hsz2 := HB2.out.size
                go_wp2_with (first | (at_builtin; refine wpList_appB _ rfl _ _ rfl _ (cat (bl (ls.take k))) rfl HOW2.out t rfl (by omega) ?_))
                intro p cap w3 hown3 hgrow3 hnew3
                have HB3 : Hid (Below w1.heap.size w1 w3) := HB2.out.grown hgrow3 hsz2 HBA.out
                rw [HT.out, ← HS.out, ← cat_take hlt] at hown3
                have HO3 : Hid (ownB w3 (.slice p ((cat (bl (ls.take k))).length + t.size) cap) (cat (bl (ls.take (k + 1))))) := hown3
                have HN3 : Hid (∀ g, (Value.slice p ((cat (bl (ls.take k))).length + t.size) cap).ownBlock = some g → w1.heap.size ≤ g) := fun g hg => by
                  rcases hnew3 g hg with h | h
                  · exact HBA.out g h
                  · omega
                clear hown3 hgrow3 hnew3
                go_wp2
                go_roundw
                case rel => exact ⟨k + 1, by omega, by go_num, HO3.out, HN3.out, upto1 HSM.out (hlt := hlt) (by rw [HS.out]; exact h4), HB3.out⟩
                case measure => simp [intOf]; omega
              · have h4i : (4096 : Int) < (s.size : Int) := by omega
                rw [show wrS s = ⟨#[]⟩ from if_neg h4, show wrE s = 2 from if_neg h4]
                go_wp2
                go_ret
                exact ⟨by simp, HB1.out.trans (HB2.out.mono HB1.out.size)⟩
            · obtain rfl : k = ls.length := by omega
              clear hown hbase hsm hb
              have HALLS : Hid (∀ d ∈ bl ls, d.length ≤ 4096) := bl_small HSM.out
              rw [List.take_length] at HOW hcl
              obtain ⟨C, hC⟩ : ∃ C, cat (bl ls) = C := ⟨_, rfl⟩
              rw [hC] at HOW hcl
              have HC : Hid (cat (bl ls) = C) := hC
              clear hC HSM
              obtain ⟨p, cap, rfl, _⟩ := HOW.out.form
              go_wp2_with fail
              refine (wrap_any last wr (by omega)).mono ?_
              rintro e w2 ⟨rfl, hb2⟩
              have HB2 : Hid (Below w1.heap.size w1 w2) := HB.out.trans (hb2.mono hsz)
              have HOW2 : Hid (ownB w2 (.slice p C.length cap) C) := HOW.out.kept fun g hg => hb2.block g (by obtain ⟨c, fr, e'⟩ := HOW.out.lt hg; exact (Array.getElem?_eq_some_iff.1 e').1)
              clear hb2
              by_cases h4 : last.size ≤ 4096
              · obtain ⟨hw1, hw2⟩ := wr_facts h4
                rw [show wrE last = 0 from if_pos h4]
                obtain ⟨t, ht⟩ : ∃ t, wrS last = t := ⟨_, rfl⟩
                rw [ht] at hw1 hw2 ⊢
                have HT : Hid (t.data.toList = frm last.data.toList) := hw1
                have HZ : Hid (t.size = 6 + last.size) := hw2
                have htz : t.size ≤ 4102 := by omega
                have htp : 0 < t.size := by omega
                have hne := str_some htp
                clear hw1 hw2 ht
                have htpi : (0 : Int) < (t.size : Int) := by omega
                have htn : ¬ ((t.size : Int) = 0) := by omega
                obtain ⟨r, hr⟩ : ∃ r, x.tmod (t.size : Int) = r := ⟨_, rfl⟩
                have hrb : -(t.size : Int) < r ∧ r < (t.size : Int) := by
                  rw [← hr]
                  have h1 := Int.tmod_lt_of_pos x htpi
                  have h2 := Int.lt_tmod_of_pos x htpi
                  omega
                obtain ⟨K, hK1, hK2, hK3⟩ : ∃ K : Nat, (r < 0 → r + (t.size : Int) = (K : Int)) ∧ (0 ≤ r → r = (K : Int)) ∧ K < t.size := by
                  by_cases h : r < 0
                  · exact ⟨(r + (t.size : Int)).toNat, by omega, by omega, by omega⟩
                  · exact ⟨r.toNat, by omega, by omega, by omega⟩
                have hKi : (K : Int) ≤ (t.size : Int) := by omega
                obtain ⟨u, hu⟩ : ∃ u, t.extract 0 K = u := ⟨_, rfl⟩
                have hul : u.data.toList = (frm last.data.toList).take K := by
                  rw [← hu, extract_list, List.drop_zero, Nat.sub_zero, HT.out]
                have huz : u.size ≤ 4102 := by rw [← hu]; simp; omega
                have HU : Hid (u.data.toList = (frm last.data.toList).take K) := hul
                have HTORN : Hid (AllIs (C ++ (frm last.data.toList).take K) (bl ls) C.length) := by
                  have hh := AllIs.torn HALLS.out (d := last.data.toList) (by simpa using h4) (k := K) (by have := HZ.out; simp; omega)
                  rw [HC.out] at hh
                  exact hh
                clear hul
                have hsz2 := HB2.out.size
                by_cases hneg : r < 0
                · have hKe := hK1 hneg
                  clear hK1 hK2
                  go_wp2_with (first | (at_builtin; refine wpList_appB _ rfl _ _ rfl _ C rfl HOW2.out u rfl (by omega) ?_))
                  intro p3 cap3 w3 hown3 hgrow3 _
                  have HB3 : Hid (Below w1.heap.size w1 w3) := HB2.out.grown hgrow3 hsz2 HBA.out
                  rw [HU.out] at hown3
                  obtain ⟨T, hT⟩ : ∃ T : ByteArray, T = ⟨(C ++ (frm last.data.toList).take K).toArray⟩ := ⟨_, rfl⟩
                  have hcs := hown3.str
                  rw [← hT] at hcs
                  have HTL : Hid (AllIs T.data.toList (bl ls) C.length) := by
                    rw [hT]
                    exact HTORN.out
                  have hTz : T.size ≤ 2147491849 := by
                    have h1 : T.data.toList.length = (C ++ (frm last.data.toList).take K).length := by rw [hT]
                    rw [← size_list, List.length_append, ← HU.out, ← size_list] at h1
                    omega
                  clear hT hown3 hgrow3
                  go_wp2_with fail
                  refine (all_any T w3 (by omega)).mono ?_
                  rintro e w7 ⟨v, ds, n, rfl, hall, hown7, hb7⟩
                  obtain ⟨rfl, rfl⟩ := hall.unique' HTL.out
                  obtain ⟨q, cq, rfl, hst7⟩ := own_strs hown7
                  have HB7 : Hid (Below w1.heap.size w1 w7) := HB3.out.trans (hb7.mono HB3.out.size)
                  have HST7 : Hid (Strs w7 a ls) := fun i hi => by
                    obtain ⟨b, off, e, hc⟩ := HST1.out i hi
                    exact ⟨b, off, e, cell_later HB7.out hc⟩
                  rw [bl_ba] at hst7
                  have HS7 : Hid (Strs w7 q ls) := hst7
                  rw [bl_length]
                  clear hall hown7 hb7 hst7
                  go_wp2_with fail
                  have hsame := same_any q a cq cp ls ls w7 (by have := HW.out; omega) HS7.out HST7.out
                  rw [show eqS ls ls = true from eqS_iff.2 rfl] at hsame
                  refine hsame.mono ?_
                  clear hsame
                  rintro e w8 ⟨rfl, hb8⟩
                  have HB8 : Hid (Below w.heap.size w w8) := below_two (HB1.out.trans (HB7.out.mono HB1.out.size)) hb8
                  clear hb8
                  go_wp2
                  go_ret
                  exact ⟨rfl, HB8.out⟩
                · have hKe := hK2 (by omega)
                  clear hK1 hK2
                  subst hKe
                  go_wp2_with (first | (at_builtin; refine wpList_appB _ rfl _ _ rfl _ C rfl HOW2.out u rfl (by omega) ?_))
                  intro p3 cap3 w3 hown3 hgrow3 _
                  have HB3 : Hid (Below w1.heap.size w1 w3) := HB2.out.grown hgrow3 hsz2 HBA.out
                  rw [HU.out] at hown3
                  obtain ⟨T, hT⟩ : ∃ T : ByteArray, T = ⟨(C ++ (frm last.data.toList).take K).toArray⟩ := ⟨_, rfl⟩
                  have hcs := hown3.str
                  rw [← hT] at hcs
                  have HTL : Hid (AllIs T.data.toList (bl ls) C.length) := by
                    rw [hT]
                    exact HTORN.out
                  have hTz : T.size ≤ 2147491849 := by
                    have h1 : T.data.toList.length = (C ++ (frm last.data.toList).take K).length := by rw [hT]
                    rw [← size_list, List.length_append, ← HU.out, ← size_list] at h1
                    omega
                  clear hT hown3 hgrow3
                  go_wp2_with fail
                  refine (all_any T w3 (by omega)).mono ?_
                  rintro e w7 ⟨v, ds, n, rfl, hall, hown7, hb7⟩
                  obtain ⟨rfl, rfl⟩ := hall.unique' HTL.out
                  obtain ⟨q, cq, rfl, hst7⟩ := own_strs hown7
                  have HB7 : Hid (Below w1.heap.size w1 w7) := HB3.out.trans (hb7.mono HB3.out.size)
                  have HST7 : Hid (Strs w7 a ls) := fun i hi => by
                    obtain ⟨b, off, e, hc⟩ := HST1.out i hi
                    exact ⟨b, off, e, cell_later HB7.out hc⟩
                  rw [bl_ba] at hst7
                  have HS7 : Hid (Strs w7 q ls) := hst7
                  rw [bl_length]
                  clear hall hown7 hb7 hst7
                  go_wp2_with fail
                  have hsame := same_any q a cq cp ls ls w7 (by have := HW.out; omega) HS7.out HST7.out
                  rw [show eqS ls ls = true from eqS_iff.2 rfl] at hsame
                  refine hsame.mono ?_
                  clear hsame
                  rintro e w8 ⟨rfl, hb8⟩
                  have HB8 : Hid (Below w.heap.size w w8) := below_two (HB1.out.trans (HB7.out.mono HB1.out.size)) hb8
                  clear hb8
                  go_wp2
                  go_ret
                  exact ⟨rfl, HB8.out⟩
              · have h4i : (4096 : Int) < (last.size : Int) := by omega
                rw [show wrS last = ⟨#[]⟩ from if_neg h4, show wrE last = 2 from if_neg h4]
                obtain ⟨T, hT⟩ : ∃ T : ByteArray, T = ⟨C.toArray⟩ := ⟨_, rfl⟩
                have hcs := HOW2.out.str
                rw [← hT] at hcs
                have HTL : Hid (AllIs T.data.toList (bl ls) C.length) := by
                  have hh := AllIs.whole HALLS.out
                  rw [HC.out] at hh
                  rw [hT]
                  exact hh
                have hTz : T.size ≤ 2147483647 := by
                  have : T.data.toList.length = C.length := by rw [hT]
                  rw [← size_list] at this
                  omega
                clear hT
                go_wp2_with fail
                refine (all_any T w2 (by omega)).mono ?_
                rintro e w7 ⟨v, ds, n, rfl, hall, hown7, hb7⟩
                obtain ⟨rfl, rfl⟩ := hall.unique' HTL.out
                obtain ⟨q, cq, rfl, hst7⟩ := own_strs hown7
                have HB7 : Hid (Below w1.heap.size w1 w7) := HB2.out.trans (hb7.mono HB2.out.size)
                have HST7 : Hid (Strs w7 a ls) := fun i hi => by
                  obtain ⟨b, off, e, hc⟩ := HST1.out i hi
                  exact ⟨b, off, e, cell_later HB7.out hc⟩
                rw [bl_ba] at hst7
                have HS7 : Hid (Strs w7 q ls) := hst7
                rw [bl_length]
                clear hall hown7 hb7 hst7
                go_wp2_with fail
                have hsame := same_any q a cq cp ls ls w7 (by have := HW.out; omega) HS7.out HST7.out
                rw [show eqS ls ls = true from eqS_iff.2 rfl] at hsame
                refine hsame.mono ?_
                clear hsame
                rintro e w8 ⟨rfl, hb8⟩
                have HB8 : Hid (Below w.heap.size w w8) := below_two (HB1.out.trans (HB7.out.mono HB1.out.size)) hb8
                clear hb8
                go_wp2
                go_ret
                exact ⟨rfl, HB8.out⟩
    · have hNi : ¬ (N : Int) ≤ 2147483647 := by omega
      by_cases hlt : k < ls.length
      · have hlti : (k : Int) < (ls.length : Int) := by omega
        go_wp2
        go_ret
        exact ⟨rfl, Below.refl _ _⟩
      · have hlti : ¬ (k : Int) < (ls.length : Int) := by omega
        go_wp2
        go_ret
        exact ⟨rfl, Below.refl _ _⟩
end Go.Proofs.Ytndackikakpanaa
