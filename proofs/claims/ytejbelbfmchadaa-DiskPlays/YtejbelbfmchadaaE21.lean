/- The law DiskPlays. -/
import Derived.Test.YtejbelbfmchadaaE19
import Derived.Test.YtejbelbfmchadaaE15
import Derived.Test.YtejbelbfmchadaaE17
namespace Go.Proofs.Ytejbelbfmchadaa
open Go.RowKit

theorem made_at {n j : Nat} (h : j < n) (z : Array Value) : (madeCells z n).toList[j]? = some (z[j % z.size]!) := by
  simp [madeCells, h]
theorem copied_next {w3 w4 : World} {g B M : Nat} {l : List FV} {zs : List Value} (hw : w4 = w3.setCells g 0 (vf l)) (ho : w3.ownsRow B 27 3 (.slice (some ⟨g, 0, none⟩) M M) M zs) (hz : ∀ j, j < M * 3 → zs[j]? = some ((#[.string ⟨#[]⟩, .string ⟨#[]⟩, .int .i64 0] : Array Value)[j % 3]!)) (hm : l.length + 2 ≤ M) :
    w4.cell? ⟨g, l.length * 3, none⟩ = some (.string ⟨#[]⟩) ∧ w4.frozen? ⟨g, l.length * 3, none⟩ = false := by
  subst hw
  refine ⟨?_, ?_⟩
  · rw [World.cell?_setCells_out _ _ _ _ _ (fun _ _ => Or.inr (by rw [vf_length]; simp only; omega)), ho.cellAt _ (by omega), hz _ (by omega), show l.length * 3 % 3 = 0 by omega]
    rfl
  · rw [World.frozen?_setCells]
    exact ho.frozenAt _
theorem both_wrote {B g : Nat} {N : Nat → Prop} {w : World} {a c : Nat} {sd sr : St} (h : Both B N w a c sd sr) (hg : g < B) (o o' o'' : Nat) (u u' u'' : Value) : Both B N (((w.setCell ⟨g, o, none⟩ u).setCell ⟨g, o', none⟩ u').setCell ⟨g, o'', none⟩ u'') a c sd sr := by
  refine h.kept (by simp [World.setCell]) fun k hk _ => ?_
  rw [Below.heap_setCell _ _ _ _ (by show k ≠ g; omega), Below.heap_setCell _ _ _ _ (by show k ≠ g; omega), Below.heap_setCell _ _ _ _ (by show k ≠ g; omega)]
theorem both_new {w5 w6 w7 : World} {a c : Nat} {st : St} {v : Value} (hb6 : Below w5.heap.size w5 w6) (hb7 : Below w6.heap.size w6 w7) (hd : IsDisk w6 (fun k => w5.heap.size ≤ k) a st) (hr : RefAt w7 (fun k => w6.heap.size ≤ k) c st v) :
    Both w5.heap.size (fun _ => False) w7 a c st st := by
  have h6 := hb6.size
  have h7 := hb7.size
  refine ⟨by omega, fun k => w5.heap.size ≤ k ∧ k < w6.heap.size, fun k => w6.heap.size ≤ k ∧ k < w7.heap.size, v, (hd.mono fun k hk hz => ⟨hz, hk⟩).later hb7, hr.mono fun k hk hz => ⟨hz, hk⟩, fun k h1 h2 => by omega, fun k hk => by omega, fun k hk => by omega, fun k hk => hk.elim⟩

set_option maxHeartbeats 8000000 in
set_option maxRecDepth 100000 in
theorem diskplays_law (size : Int) (p : Option Addr) (cap : Nat) (l : List FV) (q : Option Addr) (cap' : Nat) (s : List OpV) (W : World) (hp : FRow W p l) (hq : ORow W q s) (hls : l.length + s.length ≤ 9223372036854775807) :
    Calls Try.prog 3 #[.int .i64 size, .slice p l.length cap, .slice q s.length cap'] W fun e w' => e = .returned (.bool true) ∧ Below W.heap.size W w' := by
  obtain ⟨i0, hi, hz0, hz1, hz2⟩ := info_parts Try.infoFile
  have HP : Hid (FRow W p l) := hp
  have HQ : Hid (ORow W q s) := hq
  clear hp hq
  go_enter Try.func3, Try.ntmps3
  go_wp2_with fail
  refine (weighs2_any W p cap l q cap' s hls HP.out HQ.out).mono ?_
  rintro e w1 ⟨m, rfl, hm, hb1⟩
  by_cases hbig : 2147483647 < m
  · have hbi : (2147483647 : Int) < (m : Int) := by omega
    clear hm
    go_wp2
    go_ret
    exact ⟨rfl, hb1⟩
  have hbi : ¬ (2147483647 : Int) < (m : Int) := by omega
  obtain ⟨hlen, hfs, hos⟩ := hm (by omega)
  have HFS : Hid (∀ f ∈ l, FSmall f) := hfs
  have HOS : Hid (∀ x ∈ s, OSmall x) := hos
  clear hm hfs hos
  go_wp2_with fail
  refine (awake_any w1).mono ?_
  rintro e w2 ⟨rfl, hb2⟩
  have HB2 : Hid (Below W.heap.size W w2) := below_two hb1 hb2
  have HP2 : Hid (FRow w2 p l) := HP.out.later HB2.out
  have hWs := HB2.out.size
  clear hb1 hb2
  obtain ⟨M, hM⟩ : ∃ M, l.length + 2 = M := ⟨_, rfl⟩
  have hMi : (l.length : Int) + 2 = (M : Int) := by omega
  have hlM : l.length + 2 ≤ M := by omega
  have hMl : M ≤ 2147483649 := by omega
  clear hM
  go_wp2_with (first | (at_make; refine wpList_make_full _ rfl _ _ 22 rfl w2.heap.size 27 i0 _ 3 Try.underlying22 hi hz0 hz1 .i64 .i64 _ _ M rfl rfl ?h1 ?h2 ?h3 ?h4 ?h5 ?_))
  case h1 => omega
  case h2 => omega
  case h3 => first | omega | (rw [hz2]; omega)
  case h4 => unfold maxLen; omega
  try case h5 => exact Nat.le_refl _
  intro w3 hown3 hgrow3
  have hb3 : Below w2.heap.size w2 w3 := (Below.refl _ _).grown hgrow3 (Nat.le_refl _) (fun k h => by cases h)
  obtain ⟨zs, hzs, hz⟩ : ∃ zs, w3.ownsRow w2.heap.size 27 3 (.slice (some ⟨w2.heap.size, 0, none⟩) M M) M zs ∧ ∀ j, j < M * 3 → zs[j]? = some ((#[.string ⟨#[]⟩, .string ⟨#[]⟩, .int .i64 0] : Array Value)[j % 3]!) := ⟨_, hown3, fun j hj => made_at hj _⟩
  have HO3 : Hid (w3.ownsRow w2.heap.size 27 3 (.slice (some ⟨w2.heap.size, 0, none⟩) M M) M zs) := hzs
  have HZS : Hid (∀ j, j < M * 3 → zs[j]? = some ((#[.string ⟨#[]⟩, .string ⟨#[]⟩, .int .i64 0] : Array Value)[j % 3]!)) := hz
  have HB3 : Hid (Below w2.heap.size w2 w3) := hb3
  have HP3 : Hid (FRow w3 p l) := HP2.out.later hb3
  have hsz3 := hb3.size
  clear hown3 hgrow3 hzs hz hb3
  have HK1 : Hid (∀ j, j < (vf l).length → (w3.cell? ⟨w2.heap.size, 0 + j, none⟩).isSome = true) := fun j hj => by
    rw [vf_length] at hj
    rw [Nat.zero_add, HO3.out.cellAt j (by omega), HZS.out j (by omega)]
    rfl
  have HK2 : Hid (∀ j, j < (vf l).length → w3.frozen? ⟨w2.heap.size, 0 + j, none⟩ = false) := fun j _ => HO3.out.frozenAt _
  go_wp2_with (first | (refine wpList_copy_wide rfl (.tmp 30) (.tmp 31) 22 22 rfl 27 3 Try.underlying22 (by rw [hi]; simp [hz1]) w2.heap.size 0 M M p l.length cap rfl rfl (vf l) (by omega) (vf_length l) HP3.out.cells HK1.out HK2.out (vf_one l) ?_; intro w4 hw4; (obtain ⟨hc4, hf4⟩ := copied_next hw4 HO3.out HZS.out hlM); (have HW4 : Hid (w4 = w3.setCells w2.heap.size 0 (vf l)) := hw4); clear hw4))
  have hw4 := HW4.out
  obtain ⟨ys, hy1, hy2, hy3⟩ := own_cells_set (vf l) 0 w3 zs HO3.out (by rw [vf_length]; omega)
  rw [← hw4] at hy1
  have HB4 : Hid (Below w2.heap.size w2 w4) := by rw [hw4]; exact HB3.out.grown (setCells_grown _ _ _ _) hsz3 (fun k e => by cases e; exact Nat.le_refl _)
  have hy0 : ys[l.length * 3]? = some (.string ⟨#[]⟩) ∧ ys[l.length * 3 + 1]? = some (.string ⟨#[]⟩) ∧ ys[l.length * 3 + 2]? = some (.int .i64 0) := by
    refine ⟨?_, ?_, ?_⟩
    · rw [hy3 _ (Or.inr (by rw [vf_length]; omega)), HZS.out _ (by omega), show l.length * 3 % 3 = 0 by omega]; rfl
    · rw [hy3 _ (Or.inr (by rw [vf_length]; omega)), HZS.out _ (by omega), show (l.length * 3 + 1) % 3 = 1 by omega]; rfl
    · rw [hy3 _ (Or.inr (by rw [vf_length]; omega)), HZS.out _ (by omega), show (l.length * 3 + 2) % 3 = 2 by omega]; rfl
  have hg4 : w2.heap.size < w4.heap.size := (hy1.lt _ rfl).2
  obtain ⟨w5, hw5⟩ : ∃ w5, w4.setCell ⟨w2.heap.size, l.length * 3, none⟩ (.string ⟨#[109, 97, 114, 107]⟩) = w5 := ⟨_, rfl⟩
  have hown5 := (hy1.stored (l.length * 3) (.string ⟨#[109, 97, 114, 107]⟩)).1
  rw [hw5] at hown5
  have hyl : ys.length = M * 3 := hy1.1
  have HFR5 : Hid (FRow w5 (some ⟨w2.heap.size, 0, none⟩) l) := FRow.of_cells fun j u hj => by
    have hj' : j < (vf l).length := (List.getElem?_eq_some_iff.1 hj).1
    rw [vf_length] at hj'
    rw [Nat.zero_add, hown5.cellAt j (by omega), List.getElem?_set_ne (by omega)]
    have := hy2 j (by rw [vf_length]; omega)
    rw [Nat.zero_add] at this
    rw [this, hj]
  have HM5 : Hid (w5.cell? ⟨w2.heap.size, l.length * 3, none⟩ = some (.string ⟨#[109, 97, 114, 107]⟩) ∧ w5.cell? ⟨w2.heap.size, l.length * 3 + 1, none⟩ = some (.string ⟨#[]⟩) ∧ w5.cell? ⟨w2.heap.size, l.length * 3 + 2, none⟩ = some (.int .i64 0)) := by
    refine ⟨?_, ?_, ?_⟩
    · rw [hown5.cellAt _ (by omega), List.getElem?_set_self (by omega)]
    · rw [hown5.cellAt _ (by omega), List.getElem?_set_ne (by omega)]; exact hy0.2.1
    · rw [hown5.cellAt _ (by omega), List.getElem?_set_ne (by omega)]; exact hy0.2.2
  have HO5 : Hid (∃ xs, w5.ownsRow w2.heap.size 27 3 (.slice (some ⟨w2.heap.size, 0, none⟩) M M) M xs) := ⟨_, hown5⟩
  have HB5 : Hid (Below w2.heap.size w2 w5) := by rw [← hw5]; exact HB4.out.setCell (p := ⟨w2.heap.size, l.length * 3, none⟩) (Nat.le_refl _) _
  have hg5 : w2.heap.size < w5.heap.size := (hown5.lt _ rfl).2
  have HP5 : Hid (FRow w5 p l) := HP2.out.later HB5.out
  have HWB5 : Hid (Below W.heap.size W w5) := below_two HB2.out HB5.out
  have hlMi : (l.length : Int) < (M : Int) := by omega
  have hlMi' : (l.length : Int) ≤ (M : Int) := by omega
  clear hw4 hy1 hy2 hy3 hy0 hyl hown5 HO3 HZS HB3 HP3
  try rw [hw5]
  refine (new_any size (some ⟨w2.heap.size, 0, none⟩) M l w5 (by omega) (fun f hf => by have := (HFS.out f hf).1; omega) HFR5.out).mono ?_
  rintro e w6 ⟨hb6, hcase⟩
  have HB6 : Hid (Below w5.heap.size w5 w6) := hb6
  have HP6 : Hid (FRow w6 p l) := HP5.out.later hb6
  have HFR6 : Hid (FRow w6 (some ⟨w2.heap.size, 0, none⟩) l) := HFR5.out.later hb6
  clear hb6 hw5 hc4 hf4
  rcases hcase with ⟨hne, rfl⟩ | ⟨he0, a, rfl, hd6⟩
  · obtain ⟨E, hE⟩ : ∃ E, newE size l = E := ⟨_, rfl⟩
    rw [hE]
    have HE : Hid (newE size l = E) := hE
    rw [hE] at hne
    clear hE
    go_wp2_with fail
    refine (rnew_any size p cap l w6 (by omega) (fun f hf => by have := HFS.out f hf; unfold FSmall at this; omega) HP6.out).mono ?_
    rintro e w7 ⟨hb7, hcase⟩
    rcases hcase with ⟨_, rfl⟩ | ⟨h0, _⟩
    · rw [HE.out]
      have HP7 : Hid (FRow w7 p l) := HP6.out.later hb7
      have HFR7 : Hid (FRow w7 (some ⟨w2.heap.size, 0, none⟩) l) := HFR6.out.later hb7
      have HB7 : Hid (Below w5.heap.size w5 w7) := below_two HB6.out hb7
      clear hb7
      go_wp2_with fail
      refine (fsame_yes (some ⟨w2.heap.size, 0, none⟩) p M cap l w7 (by omega) HFR7.out HP7.out).mono ?_
      rintro e w8 ⟨rfl, hb8⟩
      have HB8 : Hid (Below w5.heap.size w5 w8) := below_two HB7.out hb8
      have n0 := cell_later HB8.out HM5.out.1
      have n1 := cell_later HB8.out HM5.out.2.1
      have n2 := cell_later HB8.out HM5.out.2.2
      clear hb8
      go_wp2
      go_ret
      exact ⟨rfl, below_two HWB5.out HB8.out⟩
    · exact absurd (HE.out.symm.trans h0) hne
  · go_wp2_with fail
    refine (rnew_any size p cap l w6 (by omega) (fun f hf => by have := HFS.out f hf; unfold FSmall at this; omega) HP6.out).mono ?_
    rintro e w7 ⟨hb7, hcase⟩
    rcases hcase with ⟨hn0, _⟩ | ⟨_, c, v, rfl, hr7⟩
    · exact absurd he0 hn0
    · have HBT : Hid (Both w5.heap.size (fun _ => False) w7 a c (newSt size l) (newSt size l)) := both_new HB6.out hb7 hd6 hr7
      have HP7 : Hid (FRow w7 p l) := HP6.out.later hb7
      have HFR7 : Hid (FRow w7 (some ⟨w2.heap.size, 0, none⟩) l) := HFR6.out.later hb7
      have HB7 : Hid (Below w5.heap.size w5 w7) := below_two HB6.out hb7
      clear hb7 hd6 hr7 he0
      go_wp2_with fail
      refine (fsame_yes (some ⟨w2.heap.size, 0, none⟩) p M cap l w7 (by omega) HFR7.out HP7.out).mono ?_
      rintro e w8 ⟨rfl, hb8⟩
      have HB8 : Hid (Below w5.heap.size w5 w8) := below_two HB7.out hb8
      have HT8 : Hid (Both w5.heap.size (fun _ => False) w8 a c (newSt size l) (newSt size l)) := HBT.out.later hb8
      have HO8 : Hid (∃ xs, w8.ownsRow w2.heap.size 27 3 (.slice (some ⟨w2.heap.size, 0, none⟩) M M) M xs) := by
        obtain ⟨xs, h⟩ := HO5.out
        exact ⟨xs, own_keep h HB8.out⟩
      have n0 := cell_later HB8.out HM5.out.1
      have n1 := cell_later HB8.out HM5.out.2.1
      have n2 := cell_later HB8.out HM5.out.2.2
      have HWB8 : Hid (Below W.heap.size W w8) := below_two HWB5.out HB8.out
      have HBW : Hid (W.heap.size ≤ w5.heap.size) := HWB5.out.size
      clear hb8 HBT HP7 HFR7 HB7 HB6 HP6 HFR6
      go_wp2
      go_loopw [15] (fun i wr => ∃ (k : Nat) (xs : List Value), k ≤ l.length ∧ i = .int .i64 (k : Int) ∧ wr.ownsRow w2.heap.size 27 3 (.slice (some ⟨w2.heap.size, 0, none⟩) M M) M xs ∧ Both w5.heap.size (fun _ => False) wr a c (newSt size l) (newSt size l) ∧ Below W.heap.size W wr) (fun i _ => l.length - (intOf i).toNat)
      case atStart =>
        obtain ⟨xs, h⟩ := HO8.out
        exact ⟨0, xs, Nat.zero_le _, rfl, h, HT8.out, HWB8.out⟩
      case round =>
        clear n0 n1 n2
        obtain ⟨k, xs, hk, rfl, hown, hbt, hb⟩ := hrel
        have HBT : Hid (Both w5.heap.size (fun _ => False) wr a c (newSt size l) (newSt size l)) := hbt
        have HB : Hid (Below W.heap.size W wr) := hb
        clear hbt hb
        by_cases hlt : k < l.length
        · have hlti : (k : Int) < (l.length : Int) := by omega
          have hkM : (k : Int) < (M : Int) := by omega
          have hxl : xs.length = M * 3 := hown.1
          have t0 := hown.cellAt (k * 3) (by omega)
          have t1 := hown.cellAt (k * 3 + 1) (by omega)
          have t2 := hown.cellAt (k * 3 + 2) (by omega)
          obtain ⟨y0, hy0⟩ : ∃ y, xs[k * 3]? = some y := ⟨_, List.getElem?_eq_getElem (by omega)⟩
          obtain ⟨y1, hy1⟩ : ∃ y, xs[k * 3 + 1]? = some y := ⟨_, List.getElem?_eq_getElem (by omega)⟩
          obtain ⟨y2, hy2⟩ : ∃ y, xs[k * 3 + 2]? = some y := ⟨_, List.getElem?_eq_getElem (by omega)⟩
          rw [hy0] at t0
          rw [hy1] at t1
          rw [hy2] at t2
          have f0 := hown.frozenAt (k * 3)
          have f1 := hown.frozenAt (k * 3 + 1)
          have f2 := hown.frozenAt (k * 3 + 2)
          have hgl : w2.heap.size < wr.heap.size := (hown.lt _ rfl).2
          have HOW : Hid (wr.ownsRow w2.heap.size 27 3 (.slice (some ⟨w2.heap.size, 0, none⟩) M M) M xs) := hown
          clear hy0 hy1 hy2 hxl hown
          go_wp2
          go_roundw
          case rel => exact ⟨k + 1, _, by omega, by go_num, (((HOW.out.stored (k * 3) _).1.stored (k * 3 + 1) _).1.stored (k * 3 + 2) _).1, both_wrote HBT.out hg5 _ _ _ _ _ _, ((HB.out.setCell (p := ⟨w2.heap.size, k * 3, none⟩) hWs _).setCell (p := ⟨w2.heap.size, k * 3 + 1, none⟩) hWs _).setCell (p := ⟨w2.heap.size, k * 3 + 2, none⟩) hWs _⟩
          case measure => simp [intOf]; omega
        · have hlti : ¬ (k : Int) < (l.length : Int) := by omega
          clear hown
          go_wp2
          go_loopw [16] (fun i wr => ∃ (k : Nat) (st : St), k ≤ s.length ∧ i = .int .i64 (k : Int) ∧ st.steps ≤ k ∧ Both w5.heap.size (fun _ => False) wr a c st st ∧ Below W.heap.size W wr) (fun i _ => s.length - (intOf i).toNat)
          case atStart => exact ⟨0, newSt size l, Nat.zero_le _, rfl, Nat.le_of_eq rfl, HBT.out, HB.out⟩
          case round =>
            clear HBT HB
            obtain ⟨j, st, hj, rfl, hst, hbt, hb⟩ := hrel
            have HBT : Hid (Both w5.heap.size (fun _ => False) wr a c st st) := hbt
            have HB : Hid (Below W.heap.size W wr) := hb
            have HST : Hid (st.steps ≤ j) := hst
            clear hbt hb hst
            by_cases hjs : j < s.length
            · have hjsi : (j : Int) < (s.length : Int) := by omega
              obtain ⟨x, hx⟩ : ∃ x, s[j] = x := ⟨_, rfl⟩
              obtain ⟨bb, off, rfl, d0, d1, d2, d3, d4, d5, hks, hkc, hkn⟩ := (HQ.out.later HB.out).at hjs hx
              have HOK : Hid (OpOk w5.heap.size wr x) := by
                refine ⟨HOS.out x (by rw [← hx]; exact List.getElem_mem hjs), hks, hkc, hkn, fun h0 b off e => ?_⟩
                obtain ⟨_, _, _, _, _, _, _, _, _, hks0, _⟩ := HQ.out.at hjs hx
                obtain ⟨b', off', e', hc⟩ := hks0 0 h0
                rw [e] at e'
                obtain ⟨rfl, rfl⟩ : b = b' ∧ off = off' := by simpa using e'
                exact Nat.lt_of_lt_of_le (World.block_lt_of_cell? _ _ hc) HBW.out
              clear hks hkc hkn hx
              go_wp2_with fail
              refine (plays_any w5.heap.size _ wr a c st x HBT.out HOK.out (by have := HST.out; omega)).mono ?_
              rintro e w9 ⟨rfl, ⟨st', hbt', hst'⟩, hb9⟩
              have HBT' : Hid (Both w5.heap.size (fun _ => False) w9 a c st' st') := hbt'
              have HB9 : Hid (Below W.heap.size W w9) := HB.out.trans (hb9.mono HBW.out)
              have HS9 : Hid (st'.steps ≤ j + 1) := by have := HST.out; exact Nat.le_trans hst' (by omega)
              clear hbt' hb9 hst' d0 d1 d2 d3 d4 d5
              go_wp2
              go_roundw
              case rel => exact ⟨j + 1, st', by omega, by go_num, HS9.out, HBT'.out, HB9.out⟩
              case measure => simp [intOf]; omega
            · have hjsi : ¬ (j : Int) < (s.length : Int) := by omega
              go_wp2_with fail
              refine (looks_any w5.heap.size wr a c st _ HBT.out).mono ?_
              rintro e wa ⟨rfl, hba⟩
              have HBTa : Hid (Both w5.heap.size (fun _ => False) wa a c st st) := HBT.out.later hba
              have HBa : Hid (Below W.heap.size W wa) := below_two HB.out hba
              clear hba
              go_wp2_with fail
              refine (looks_any w5.heap.size wa a c st _ HBTa.out).mono ?_
              rintro e wb ⟨rfl, hbb⟩
              have HBb : Hid (Below W.heap.size W wb) := below_two HBa.out hbb
              clear hbb
              go_wp2
              go_ret
              exact ⟨rfl, HBb.out⟩
end Go.Proofs.Ytejbelbfmchadaa
