/- Walks of layer 5, twelfth part: FrameJoins. -/
import Derived.Test.YtndackikakpanaaG11
namespace Go.Proofs.Ytndackikakpanaa
open Go Go.RowKit

theorem run_append_zero {P : Program} (w : World) (t ty e : TypeId) (i : TypeInfo) (ht : P.underlying t = some (.slice e)) (hi : P.info? e = some i) (base : Option Addr) (sLen sCap : Nat) (hle : sLen ≤ sCap) (a : Option Addr) (c : Nat) :
    (Builtin.append_ #[t, t] ty #[.slice base sLen sCap, .slice a 0 c]).run P w = .ok (.slice base sLen sCap) w := by
  have hl : ∀ (x : Addr), (loadCells x 0).run P w = .ok #[] w := fun x => by simpa using run_loadCells_list (P := P) w x [] (by simp)
  cases a <;> cases base <;> simp [Builtin.append_, run_underlying ht, sizeOf, typeInfo, hi, Builtin.lenOf, Builtin.firstCells, hle, storeCells, hl]

theorem wpList_append_whole {P : Program} (w : World) {ops : Array Oper} {rest : List Oper} {o : Oper} {a : Act} {Q : Exit → Act → World → Prop} (hgd : o.guard = none) (s x : Operand) (t : TypeId)
    (ho : o.op = .call { callee := .builtin .append, args := #[s, x], argTypes := #[t, t] })
    (base : Nat) (e : TypeId) (i : TypeInfo) (z : Value) (size bytes : Nat) (ht : P.underlying t = some (.slice e)) (hi : P.info? e = some i) (hz : i.zero = some z)
    (hsize : i.size = size) (hby : i.bytes = bytes) (hzs : z.cells.size = size) (hsz : 0 < size)
    (v : Value) (n : Nat) (xs : List Value) (hs : a.eval s = v) (hown : w.ownsRow base e size v n xs)
    (sp : Option Addr) (m c : Nat) (news : List Value) (hx : a.eval x = .slice sp m c) (hl : news.length = m * size) (hnews : 0 < news.length → ∃ ad, sp = some ad ∧ ∀ j u, news[j]? = some u → w.cell? (ad.add j) = some u) (h1 : ∀ u ∈ news, u.oneCell' = true)
    (h63 : n + m ≤ maxLen) (hbytes : (n + m) * bytes ≤ 140737488355328) (hbase : base ≤ w.heap.size)
    (h : ∀ v' w', w'.ownsRow base e size v' (n + m) (xs ++ news) → w.grownBy w' v.ownBlock → wpList P ops Q rest (a.put o.dst v') w') : wpList P ops Q (o :: rest) a w := by
  by_cases h0 : m = 0
  · subst h0
    have hn0 : news = [] := List.eq_nil_of_length_eq_zero (by simpa using hl)
    subst hn0
    have hsl : ∃ b l k, v = .slice b l k ∧ l ≤ k := by
      obtain ⟨_, ⟨rfl, _⟩ | ⟨g, cap, _, rfl, _, _, hle, _⟩⟩ := hown
      · exact ⟨none, 0, 0, rfl, Nat.le_refl _⟩
      · exact ⟨_, _, _, rfl, hle⟩
    obtain ⟨b, l, k, rfl, hlk⟩ := hsl
    refine wpList_plain hgd fun K hK => ?_
    have hrun := run_append_zero (P := P) w t o.type e i ht hi b l k hlk sp c
    unfold Oper.wp
    simp [execOp, ho, resolve, invoke, builtin, hs, hx, hrun, Result.andThen]
    exact hK _ _ (h _ w (by simpa using hown) (World.grownBy.refl _ _))
  · obtain ⟨ad, rfl, hc⟩ := hnews (by rw [hl]; exact Nat.mul_pos (by omega) hsz)
    exact wpList_append_own w hgd s x t ho base e i z size bytes ht hi hz hsize hby hzs hsz v n xs hs hown ad m c news hx hl hc h1 h63 hbytes hbase fun v' w' g1 g2 _ => h v' w' g1 g2

theorem all_bounds {s : ByteArray} {ds : List (List UInt8)} {n : Nat} (h : AllIs s.data.toList ds n) : n ≤ s.size ∧ 6 * ds.length ≤ s.size := by
  have h1 := cat_six ds
  obtain ⟨_, h2, r, hr, _⟩ := h
  have h3 := congrArg List.length hr
  rw [List.length_append, ← size_list] at h3
  omega
theorem own_cells {w : World} {B n : Nat} {p : Option Addr} {m cap : Nat} {ds : List (List UInt8)} (h : w.ownsRow B 9 1 (.slice p m cap) n (sv ds)) : 0 < (sv ds).length → ∃ ad, p = some ad ∧ ∀ j u, (sv ds)[j]? = some u → w.cell? (ad.add j) = some u := by
  intro h0
  have hc := fun g => h.cells (g := g)
  obtain ⟨h1, ⟨_, h2⟩ | ⟨g, cap, cur, e, _⟩⟩ := h
  · rw [h1] at h0
    omega
  · simp only [Value.slice.injEq] at e
    obtain ⟨rfl, _, _⟩ := e
    exact ⟨_, rfl, hc g rfl⟩
theorem own_at {w : World} {B : Nat} {p : Option Addr} {m cap n : Nat} {ds : List (List UInt8)} (h : w.ownsRow B 9 1 (.slice p m cap) n (sv ds)) : ∀ g, (Value.slice p m cap).ownBlock = some g → g < w.heap.size := fun g hg => (h.lt g hg).2

set_option maxHeartbeats 8000000 in
set_option maxRecDepth 100000 in
theorem joins_law (a : Option Addr) (cp : Nat) (ls : List ByteArray) (rest : ByteArray) (w : World) (hst : Strs w a ls) (hcl : ls.length ≤ cp) (hcm : cp ≤ maxLen) :
    Calls Try.prog 7 #[.slice a ls.length cp, .string rest] w fun e w' => e = .returned (.bool true) ∧ Below w.heap.size w w' := by
  obtain ⟨i0, hi, hz0, hz1, hz2⟩ := info_parts Try.info9
  have HST : Hid (Strs w a ls) := hst
  have hll : ls.length ≤ 9223372036854775807 := Nat.le_trans hcl hcm
  clear hst hcl hcm
  go_enter Try.func7, Try.ntmps7
  go_wp2
  go_loopw [5, 6] (fun n i wr => ∃ (k N : Nat), k ≤ ls.length ∧ i = .int .i64 (k : Int) ∧ n = .int .i64 (N : Int) ∧ N = ls.length + ws (ls.take k) ∧ N ≤ 9223372036854775807 ∧ (∀ j (h : j < ls.length), j < k → ls[j].size ≤ 4096) ∧ w = wr) (fun _ i _ => ls.length - (intOf i).toNat)
  case atStart => exact ⟨0, ls.length, Nat.zero_le _, rfl, rfl, by simp [ws], by omega, fun j _ h => absurd h (Nat.not_lt_zero _), rfl⟩
  case round =>
    obtain ⟨k, N, hk, rfl, rfl, hN, hNb, hsm, rfl⟩ := hrel
    have HSM : Hid (∀ j (h : j < ls.length), j < k → ls[j].size ≤ 4096) := hsm
    have HN : Hid (N = ls.length + ws (ls.take k)) := hN
    clear hN hsm
    by_cases hlt : k < ls.length
    · have hlti : (k : Int) < (ls.length : Int) := by omega
      by_cases hNl : N ≤ 2147483647
      · have hNi : (N : Int) ≤ 2147483647 := by omega
        obtain ⟨b, off, rfl, c0⟩ := HST.out k hlt
        obtain ⟨s, hs⟩ : ∃ s, ls[k] = s := ⟨_, rfl⟩
        rw [hs] at c0
        have HS : Hid (ls[k] = s) := hs
        clear hs
        by_cases hsb : 4096 < s.size
        · have hsi : (4096 : Int) < (s.size : Int) := by omega
          go_wp2
          go_ret
          exact ⟨rfl, Below.refl _ _⟩
        · have hsi : ¬ (4096 : Int) < (s.size : Int) := by omega
          go_wp2
          go_roundw
          case rel => exact ⟨k + 1, N + s.size + 6, by omega, by go_num, by go_num, by rw [ws_take hlt, HS.out, HN.out]; omega, by omega, upto1 HSM.out (hlt := hlt) (by rw [HS.out]; omega), by first | rfl | trivial⟩
          case measure => simp [intOf]; omega
      · have hNi : ¬ (N : Int) ≤ 2147483647 := by omega
        have hNj : (1073741823 : Int) < (N : Int) := by omega
        go_wp2
        go_ret
        exact ⟨rfl, Below.refl _ _⟩
    · have hlti : ¬ (k : Int) < (ls.length : Int) := by omega
      by_cases hNl : 1073741823 < N
      · have hNj : (1073741823 : Int) < (N : Int) := by omega
        go_wp2
        go_ret
        exact ⟨rfl, Below.refl _ _⟩
      · have hNj : ¬ (1073741823 : Int) < (N : Int) := by omega
        obtain rfl : k = ls.length := by omega
        have hws : ls.length + ws ls ≤ 1073741823 := by
          have := HN.out
          rw [List.take_length] at this
          omega
        by_cases hlb : 1073741823 < rest.size
        · have hli : (1073741823 : Int) < (rest.size : Int) := by omega
          go_wp2
          go_ret
          exact ⟨rfl, Below.refl _ _⟩
        · have hli : ¬ (1073741823 : Int) < (rest.size : Int) := by omega
          have HW : Hid (ls.length + ws ls ≤ 1073741823) := hws
          have HALLS : Hid (∀ d ∈ bl ls, d.length ≤ 4096) := bl_small HSM.out
          clear HN hws
          go_wp2_with fail
          refine (awake_any w).mono ?_
          rintro e w1 ⟨rfl, hb1⟩
          have HST1 : Hid (Strs w1 a ls) := HST.out.later hb1
          have HB1 : Hid (Below w.heap.size w w1) := hb1
          clear hb1 HST
          go_wp2
          go_loopw [8, 9] (fun v i wr => ∃ k : Nat, k ≤ ls.length ∧ i = .int .i64 (k : Int) ∧ ownB wr v (cat (bl (ls.take k))) ∧ (∀ g, v.ownBlock = some g → w1.heap.size ≤ g) ∧ Below w1.heap.size w1 wr) (fun _ i _ => ls.length - (intOf i).toNat)
          case atStart => exact ⟨0, Nat.zero_le _, rfl, ownB.nil _, fun g h => (by cases h), Below.refl _ _⟩
          case round =>
            obtain ⟨k, hk, rfl, hown, hbase, hb⟩ := hrel
            have HBA : Hid (∀ g, u8.ownBlock = some g → w1.heap.size ≤ g) := hbase
            have HB : Hid (Below w1.heap.size w1 wr) := hb
            have HOW : Hid (ownB wr u8 (cat (bl (ls.take k)))) := hown
            have hcl : (cat (bl (ls.take k))).length ≤ 1073741823 := by
              rw [cat_ws]
              have := ws_le ls k
              have := HW.out
              omega
            have hsz := hb.size
            by_cases hlt : k < ls.length
            · have hlti : (k : Int) < (ls.length : Int) := by omega
              obtain ⟨b, off, rfl, c0⟩ := HST1.out k hlt
              obtain ⟨s, hs⟩ : ∃ s, ls[k] = s := ⟨_, rfl⟩
              rw [hs] at c0
              have d0 : wr.cell? ⟨b, off + k, none⟩ = some (.string s) := cell_later hb c0
              have h4 : s.size ≤ 4096 := by rw [← hs]; exact HSM.out k hlt hlt
              have HS : Hid (ls[k] = s) := hs
              clear hs c0 hown hbase hb
              go_wp2_with fail
              refine (wrap_any s wr (by omega)).mono ?_
              rintro e w2 ⟨rfl, hb2⟩
              have HB2 : Hid (Below w1.heap.size w1 w2) := HB.out.trans (hb2.mono hsz)
              have HOW2 : Hid (ownB w2 u8 (cat (bl (ls.take k)))) := HOW.out.kept fun g hg => hb2.block g (by obtain ⟨c, fr, e'⟩ := HOW.out.lt hg; exact (Array.getElem?_eq_some_iff.1 e').1)
              clear hb2 d0
              obtain ⟨hw1, hw2⟩ := wr_facts h4
              rw [show wrE s = 0 from if_pos h4]
              obtain ⟨t, ht⟩ : ∃ t, wrS s = t := ⟨_, rfl⟩
              rw [ht] at hw1 hw2 ⊢
              have HT : Hid (t.data.toList = frm s.data.toList) := hw1
              have htz : t.size ≤ 4102 := by omega
              clear hw1 hw2 ht
              have hsz2 := HB2.out.size
              go_wp2_with (first | (at_builtin; refine wpList_appB _ rfl _ _ rfl _ (cat (bl (ls.take k))) rfl HOW2.out t rfl (by omega) ?_))
              intro p cap w3 hown3 hgrow3 hnew3
              have HB3 : Hid (Below w1.heap.size w1 w3) := HB2.out.grown hgrow3 hsz2 HBA.out
              rw [HT.out, ← HS.out, ← cat_take hlt] at hown3
              have HO3 : Hid (ownB w3 (.slice p ((cat (bl (ls.take k))).length + t.size) cap) (cat (bl (ls.take (k + 1))))) := hown3
              have HN3 : Hid (∀ g, (Value.slice p ((cat (bl (ls.take k))).length + t.size) cap).ownBlock = some g → w1.heap.size ≤ g) := fun g hg => by
                rcases hnew3 g hg with h | h
                · exact HBA.out g h
                · omega
              clear hown3 hgrow3 hnew3
              go_wp2
              go_roundw
              case rel => exact ⟨k + 1, by omega, by go_num, HO3.out, HN3.out, HB3.out⟩
              case measure => simp [intOf]; omega
            · obtain rfl : k = ls.length := by omega
              clear hown hbase hb
              rw [List.take_length] at HOW hcl
              obtain ⟨T, hT⟩ : ∃ T : ByteArray, T = ⟨(cat (bl ls)).toArray⟩ := ⟨_, rfl⟩
              have hcs := HOW.out.str
              rw [← hT] at hcs
              have hTl : T.data.toList = cat (bl ls) := by rw [hT]
              have hTz : T.size = (cat (bl ls)).length := by rw [size_list, hTl]
              have HAF : Hid (AllIs T.data.toList (bl ls) T.size) := by
                rw [hTl, hTz]
                exact AllIs.whole HALLS.out
              have hTb : T.size ≤ 1073741823 := by omega
              obtain ⟨p, cap, rfl, _⟩ := HOW.out.form
              clear hT hTl hTz hcl
              go_wp2_with fail
              refine (all_any T wr (by omega)).mono ?_
              rintro e w2 ⟨v1, ds, n, rfl, hall, hown1, hb2⟩
              obtain ⟨rfl, rfl⟩ := hall.unique' HAF.out
              have HO1 : Hid (w2.ownsRow wr.heap.size 9 1 v1 (bl ls).length (sv (bl ls))) := hown1
              have HB2 : Hid (Below w1.heap.size w1 w2) := HB.out.trans (hb2.mono hsz)
              have hz2' := hb2.size
              clear hall hown1 hb2 hcs
              go_wp2_with fail
              refine (all_any rest w2 (by omega)).mono ?_
              rintro e w3 ⟨v2, es, m, rfl, hall3, hown3, hb3⟩
              have hbd := all_bounds hall3
              have HJ : Hid (AllIs (T ++ rest).data.toList (bl ls ++ es) (T.size + m)) := by
                have := HAF.out.join (by rw [size_list]) hall3
                have e : (T ++ rest).data.toList = T.data.toList ++ rest.data.toList := by simp
                rw [e]
                exact this
              have HO3 : Hid (w3.ownsRow w2.heap.size 9 1 v2 es.length (sv es)) := hown3
              have HO13 : Hid (w3.ownsRow wr.heap.size 9 1 v1 (bl ls).length (sv (bl ls))) := own_kept HO1.out fun k _ hk => hb3.block k hk
              have HB3 : Hid (Below w1.heap.size w1 w3) := HB2.out.trans (hb3.mono HB2.out.size)
              have hz3 := hb3.size
              clear hall3 hown3 hb3
              have hTR : (T ++ rest).size = T.size + rest.size := ByteArray.size_append
              obtain ⟨U, hU⟩ : ∃ U, T ++ rest = U := ⟨_, rfl⟩
              rw [hU] at hTR HJ
              have hUb : U.size ≤ 2147483646 := by omega
              clear hTR
              go_wp2_with fail
              refine (all_any U w3 (by omega)).mono ?_
              rintro e w4 ⟨v3, fs, q, rfl, hall4, hown4, hb4⟩
              obtain ⟨rfl, rfl⟩ := hall4.unique' HJ.out
              have HO4 : Hid (w4.ownsRow w3.heap.size 9 1 v3 (bl ls ++ es).length (sv (bl ls ++ es))) := hown4
              have HO14 : Hid (w4.ownsRow wr.heap.size 9 1 v1 (bl ls).length (sv (bl ls))) := own_kept HO13.out fun k _ hk => hb4.block k hk
              have HO34 : Hid (w4.ownsRow w2.heap.size 9 1 v2 es.length (sv es)) := own_kept HO3.out fun k _ hk => hb4.block k hk
              have HB4 : Hid (Below w1.heap.size w1 w4) := HB3.out.trans (hb4.mono HB3.out.size)
              have hz4 := hb4.size
              have hv1 : ∀ g, v1.ownBlock = some g → wr.heap.size ≤ g ∧ g < w3.heap.size := fun g hg => ⟨(HO13.out.lt g hg).1, (HO13.out.lt g hg).2⟩
              clear hall4 hown4 hb4
              have hels : es.length ≤ 1073741823 := by omega
              have hlsl : ls.length ≤ 1073741823 := by have := HW.out; omega
              obtain ⟨p2, c2, hv2, _⟩ := own_strs HO34.out
              subst hv2
              have HC2 : Hid (0 < (sv es).length → ∃ ad, p2 = some ad ∧ ∀ j u, (sv es)[j]? = some u → w4.cell? (ad.add j) = some u) := own_cells HO34.out
              have HV1 : Hid (∀ g, v1.ownBlock = some g → wr.heap.size ≤ g ∧ g < w3.heap.size) := hv1
              have hwr4 : wr.heap.size ≤ w4.heap.size := by omega
              have hbll := bl_length ls
              clear hv1 HO3 HO34 HO1 HO13 HAF
              go_wp2_with (first | (at_builtin; refine wpList_append_whole _ rfl _ _ 31 rfl wr.heap.size 9 i0 (.string ⟨#[]⟩) 1 16 Try.underlying31 hi hz0 hz1 hz2 rfl (by decide) _ _ _ rfl HO14.out p2 es.length c2 (sv es) rfl (by rw [sv_length]; omega) HC2.out (sv_one _) (by unfold maxLen; omega) (by omega) hwr4 ?_))
              intro v5 w5 hown5 hgrow5
              rw [← sv_append] at hown5
              have HB5 : Hid (Below w1.heap.size w1 w5) := HB4.out.grown hgrow5 HB4.out.size fun k hk => by have := (HV1.out k hk).1; omega
              have HO5 : Hid (w5.ownsRow w3.heap.size 9 1 v3 (bl ls ++ es).length (sv (bl ls ++ es))) := own_kept HO4.out fun k h1 h2 => hgrow5.block k h2 fun e => by have := (HV1.out k e.symm).2; omega
              obtain ⟨p3, c3, hv3, hs3⟩ := own_strs HO5.out
              obtain ⟨p5, c5, hv5, hs5⟩ := own_strs hown5
              subst hv3
              subst hv5
              have HS3 : Hid (Strs w5 p3 ((bl ls ++ es).map ba)) := hs3
              have HS5 : Hid (Strs w5 p5 ((bl ls ++ es).map ba)) := hs5
              clear hgrow5 hown5 hs3 hs5 HO4 HO14 HO5 HC2
              have hlm : (bl ls ++ es).length = ls.length + es.length := by rw [List.length_append, bl_length]
              obtain ⟨M, hM⟩ : ∃ M, (bl ls ++ es).length = M := ⟨_, rfl⟩
              rw [hM]
              rw [hM] at hlm
              have hMi : (ls.length : Int) + (es.length : Int) = (M : Int) := by omega
              have hMb : M ≤ 2147483648 := by omega
              have HM : Hid ((bl ls ++ es).length = M) := hM
              clear hlm hM
              go_wp2_with fail
              have hsame := same_any p3 p5 c3 c5 ((bl ls ++ es).map ba) ((bl ls ++ es).map ba) w5 (by rw [List.length_map, HM.out]; exact hMb) HS3.out HS5.out
              rw [List.length_map, HM.out, show eqS ((bl ls ++ es).map ba) ((bl ls ++ es).map ba) = true from eqS_iff.2 rfl] at hsame
              refine hsame.mono ?_
              clear hsame
              rintro e w6 ⟨rfl, hb6⟩
              have HB6 : Hid (Below w.heap.size w w6) := below_two (HB1.out.trans (HB5.out.mono HB1.out.size)) hb6
              clear hb6
              go_wp2
              go_ret
              exact ⟨rfl, HB6.out⟩
end Go.Proofs.Ytndackikakpanaa
