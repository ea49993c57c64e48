/- Walks of layer 8: the document's Turned. -/
import Derived.Test.YtkgkkcefnonejaaGreatX8W
import Derived.Test.YtkgkkcefnonejaaGreatT41
import Derived.Test.YtkgkkcefnonejaaGreatT37
namespace Go.Proofs.YtkgkkcefnonejaaGreat
open Go.RowKit

/-- A cell that was written over: a text by a text, a number by a number, a bool by a bool. -/
inductive Sim : Value → Value → Prop
  | same (v : Value) : Sim v v
  | str (s t : ByteArray) : Sim (.string s) (.string t)
  | int (i j : Int) : Sim (.int .i64 i) (.int .i64 j)
  | bool (x y : Bool) : Sim (.bool x) (.bool y)
theorem Sim.ofStr {s : ByteArray} {v : Value} (h : Sim (.string s) v) : ∃ t, v = .string t := by cases h <;> exact ⟨_, rfl⟩
theorem Sim.ofInt {i : Int} {v : Value} (h : Sim (.int .i64 i) v) : ∃ j, v = .int .i64 j := by cases h <;> exact ⟨_, rfl⟩
theorem Sim.ofBool {i : Bool} {v : Value} (h : Sim (.bool i) v) : ∃ j, v = .bool j := by cases h <;> exact ⟨_, rfl⟩
theorem Sim.ofSlice {p : Option Addr} {n c : Nat} {v : Value} (h : Sim (.slice p n c) v) : v = .slice p n c := by cases h; rfl
/-- Of what was there cells of the zone alone were written over. -/
structure Tw (Z : Nat → Prop) (w W : World) : Prop where
  only : Only Z w W
  cell : ∀ b o v, b < w.heap.size → w.cell? ⟨b, o, none⟩ = some v → ∃ v', W.cell? ⟨b, o, none⟩ = some v' ∧ Sim v v'
  free : ∀ b o, b < w.heap.size → W.frozen? ⟨b, o, none⟩ = w.frozen? ⟨b, o, none⟩
theorem Tw.refl (Z : Nat → Prop) (w : World) : Tw Z w w := ⟨Only.refl _ _, fun _ _ v _ h => ⟨v, h, .same v⟩, fun _ _ _ => rfl⟩
theorem Tw.later {Z : Nat → Prop} {w W W' : World} (h : Tw Z w W) (hb : Below W.heap.size W W') : Tw Z w W' := by
  obtain ⟨hc, hf⟩ := bcell hb
  have hs := h.only.size
  refine ⟨h.only.later hb, fun b o v hl hv => ?_, fun b o hl => (hf b o (by omega)).trans (h.free b o hl)⟩
  obtain ⟨v', e, s⟩ := h.cell b o v hl hv
  exact ⟨v', (hc b o (by omega)).trans e, s⟩
theorem Tw.set {Z : Nat → Prop} {w W : World} (h : Tw Z w W) {b o : Nat} {v u : Value} (hZ : Z b) (hl : b < w.heap.size) (hc : w.cell? ⟨b, o, none⟩ = some v) (hs : Sim v u) : Tw Z w (W.setCell ⟨b, o, none⟩ u) := by
  refine ⟨h.only.setCell (p := ⟨b, o, none⟩) hZ u, fun b' o' v' hl' hv' => ?_, fun b' o' hl' => by rw [World.frozen?_setCell]; exact h.free b' o' hl'⟩
  by_cases e : b' = b ∧ o' = o
  · obtain ⟨rfl, rfl⟩ := e
    obtain ⟨x, ex, _⟩ := h.cell b' o' v hl hc
    rw [hc] at hv'
    cases hv'
    exact ⟨u, World.cell?_setCell_same _ _ _ ex, hs⟩
  · obtain ⟨x, ex, sx⟩ := h.cell b' o' v' hl' hv'
    refine ⟨x, (World.cell?_setCell_other _ _ _ _ (fun e' => e ?_)).trans ex, sx⟩
    injection e' with e1 e2
    exact ⟨e1.symm, e2.symm⟩
theorem set_heap {W : World} {g x o : Nat} {u : Value} {ob : Obj} (h : W.heap[x]? = some ob) (hne : x ≠ g) : (W.setCell ⟨g, o, none⟩ u).heap[x]? = some ob := (Below.heap_setCell _ _ _ _ hne).trans h
/-- A thing of a row of one's own, where it lies. -/
theorem OwnR.zone {α : Type} {n : Nat} {T : TypeId} {R : α → List Value → Prop} {w : World} {B m cap : Nat} {p : Option Addr} {l : List α} (h : OwnR n T R w B (.slice p m cap) l) {i : Nat} (hi : i < l.length) : ∃ g vs, p = some ⟨g, 0, none⟩ ∧ B ≤ g ∧ g < w.heap.size ∧ (∀ o, w.frozen? ⟨g, o, none⟩ = false) ∧ R l[i] vs ∧ vs.length = n ∧ ∀ j (hj : j < vs.length), w.cell? ⟨g, i * n + j, none⟩ = some vs[j] := by
  obtain ⟨b, off, vs, e, h1, h2, h3⟩ := h.row (fun _ _ h => h) i hi
  obtain ⟨ps, q1, q2, q3⟩ := h
  have q30 := q3
  obtain ⟨_, ⟨e', h0⟩ | ⟨g, cap', cur, e', hB, hg, _⟩⟩ := q3
  · omega
  · simp only [Value.slice.injEq] at e'
    obtain ⟨rfl, rfl, rfl⟩ := e'
    simp only [Option.some.injEq, Addr.mk.injEq, and_true] at e
    obtain ⟨rfl, rfl⟩ := e
    exact ⟨g, vs, rfl, hB, (Array.getElem?_eq_some_iff.1 hg).1, fun o => q30.frozenAt o, h1, h2, fun j hj => by have := h3 j hj; rwa [Nat.zero_add] at this⟩

set_option maxHeartbeats 64000000 in
set_option maxRecDepth 100000 in
theorem turned_any (c : Ct) (vs : List Value) (w8 w : World) (B : Nat) (hO : CtO w8 B c vs) (hk : ∀ k, B ≤ k → k < w8.heap.size → w.heap[k]? = w8.heap[k]?) (hsz : w8.heap.size ≤ w.heap.size) (hZ : CtZ 2147483647 c) :
    Calls Tryz.prog 19 #[.agg vs.toArray] w fun e w' => e = .returned (.tuple #[]) ∧ Only (fun k => B ≤ k ∧ k < w8.heap.size) w w' := by
  obtain ⟨vt, vp, rfl, oT, oP⟩ := hO
  obtain ⟨pt, ct, rfl, -⟩ := oT.form
  obtain ⟨pp, cp, rfl, -⟩ := oP.form
  have HT := Lib.hid oT
  have HP := Lib.hid oP
  have HZ := Lib.hid hZ
  have l1 := hZ.tbs
  have l2 := hZ.prs
  have HC : Hid (∀ b o v, B ≤ b → b < w8.heap.size → w8.cell? ⟨b, o, none⟩ = some v → w.cell? ⟨b, o, none⟩ = some v) := fun b o v hB hl hv => cell_at (hk b hB hl) hv
  have HF : Hid (∀ b o, B ≤ b → b < w8.heap.size → w8.frozen? ⟨b, o, none⟩ = false → w.frozen? ⟨b, o, none⟩ = false) := fun b o hB hl hv => by
    unfold World.frozen? at hv ⊢
    rw [hk b hB hl]
    exact hv
  clear oT oP hZ hk
  obtain ⟨Z, hZ0⟩ : ∃ Z : Nat → Prop, Z = fun k => B ≤ k ∧ k < w8.heap.size := ⟨_, rfl⟩
  have HZZ : Hid (∀ k, B ≤ k → k < w8.heap.size → Z k) := fun k h1 h2 => by rw [hZ0]; exact ⟨h1, h2⟩
  rw [← hZ0]
  clear hZ0
  have hX0 : (w.alloc (.cells #[.slice pt c.tbs.length ct, .slice pp c.prs.length cp] 25)).heap[w.heap.size]? = some (.cells #[.slice pt c.tbs.length ct, .slice pp c.prs.length cp] 25 (0, 0)) := heap_alloc_new w _
  have HX0 := Lib.hid hX0
  have HT0 : Hid (Tw Z w (w.alloc (.cells #[.slice pt c.tbs.length ct, .slice pp c.prs.length cp] 25))) := (Tw.refl _ _).later ((Below.refl _ _).alloc (Nat.le_refl _) _)
  clear hX0
  obtain ⟨c0, c1⟩ := two_cells HX0.out
  go_enter Tryz.func19, Tryz.ntmps19
  go_wp2
  clear c0 c1
  go_loopw [2] (fun i wz => ∃ k : Nat, k ≤ c.tbs.length ∧ i = .int .i64 k ∧ Tw Z w wz ∧ wz.heap[w.heap.size]? = some (.cells #[.slice pt c.tbs.length ct, .slice pp c.prs.length cp] 25 (0, 0))) (fun i _ => c.tbs.length - (intOf i).toNat)
  case atStart => exact ⟨0, Nat.zero_le _, rfl, HT0.out, HX0.out⟩
  case round =>
    rename World => R1
    obtain ⟨k, hk, rfl, htw, hcx⟩ := hrel
    have TW1 := Lib.hid htw
    have HX1 := Lib.hid hcx
    have zz1 := (Array.getElem?_eq_some_iff.1 hcx).1
    clear htw hcx
    obtain ⟨c0, c1⟩ := two_cells HX1.out
    by_cases hltk : k < c.tbs.length
    · have hltik : (k : Int) < (c.tbs.length : Int) := by omega
      obtain ⟨g2, us2, hp2, hB2, hE2, hf2, hR2, hn2, hc2⟩ := HT.out.zone hltk
      subst hp2
      obtain ⟨vc, vk, vx, rfl, oc, ok, ox⟩ := hR2
      obtain ⟨pc, cc, rfl, -⟩ := oc.form
      obtain ⟨pk, ck, rfl, -⟩ := ok.form
      obtain ⟨px, cx, rfl, -⟩ := ox.form
      have HOC := Lib.hid oc
      have HOK := Lib.hid ok
      have HOX := Lib.hid ox
      clear oc ok ox
      have HQ := Lib.hid (HZ.out.tb _ (List.getElem_mem hltk))
      obtain ⟨x, hx⟩ : ∃ x, c.tbs[k] = x := ⟨_, rfl⟩
      simp only [hx] at hc2 hn2 HOC HOK HOX HQ
      have bw0 : w.cell? ⟨g2, k * 5, none⟩ = some (.string x.nm) := HC.out _ _ _ hB2 hE2 (hc2 0 (by rw [hn2]; omega))
      obtain ⟨bx0, bd0, bs0⟩ := TW1.out.cell _ _ _ (by omega) bw0
      obtain ⟨bv0, rfl⟩ := bs0.ofStr
      have bw1 : w.cell? ⟨g2, k * 5 + 1, none⟩ = some (.slice pc x.cols.length cc) := HC.out _ _ _ hB2 hE2 (hc2 1 (by rw [hn2]; omega))
      obtain ⟨bx1, bd1, bs1⟩ := TW1.out.cell _ _ _ (by omega) bw1
      obtain rfl := bs1.ofSlice
      have bw2 : w.cell? ⟨g2, k * 5 + 2, none⟩ = some (.slice pk x.key.length ck) := HC.out _ _ _ hB2 hE2 (hc2 2 (by rw [hn2]; omega))
      obtain ⟨bx2, bd2, bs2⟩ := TW1.out.cell _ _ _ (by omega) bw2
      obtain rfl := bs2.ofSlice
      have bw3 : w.cell? ⟨g2, k * 5 + 3, none⟩ = some (.int .i64 x.part) := HC.out _ _ _ hB2 hE2 (hc2 3 (by rw [hn2]; omega))
      obtain ⟨bx3, bd3, bs3⟩ := TW1.out.cell _ _ _ (by omega) bw3
      obtain ⟨bv3, rfl⟩ := bs3.ofInt
      have bw4 : w.cell? ⟨g2, k * 5 + 4, none⟩ = some (.slice px x.ixs.length cx) := HC.out _ _ _ hB2 hE2 (hc2 4 (by rw [hn2]; omega))
      obtain ⟨bx4, bd4, bs4⟩ := TW1.out.cell _ _ _ (by omega) bw4
      obtain rfl := bs4.ofSlice
      have bf : ∀ o, R1.frozen? ⟨g2, o, none⟩ = false := fun o => (TW1.out.free _ o (by omega)).trans (HF.out _ _ hB2 hE2 (hf2 o))
      obtain ⟨WX, hWX⟩ : ∃ WX, R1.alloc (.cells #[.string bv0, .slice pc x.cols.length cc, .slice pk x.key.length ck, .int .i64 bv3, .slice px x.ixs.length cx] 46) = WX := ⟨_, rfl⟩
      have hbx : Below R1.heap.size R1 WX := by rw [← hWX]; exact (Below.refl _ _).alloc (Nat.le_refl _) _
      have HBx : Hid (WX.heap[R1.heap.size]? = some (.cells #[.string bv0, .slice pc x.cols.length cc, .slice pk x.key.length ck, .int .i64 bv3, .slice px x.ixs.length cx] 46 (0, 0))) := by show WX.heap[R1.heap.size]? = _; rw [← hWX]; exact heap_alloc_new _ _
      have HXx := Lib.hid (heap_of HX1.out hbx)
      have TWx := Lib.hid (TW1.out.later hbx)
      have hws := TW1.out.only.size
      clear hbx
      go_wp2
      clear hWX bd0 bd1 bd2 bd3 bd4
      obtain ⟨t0, t1, t2, t3, t4⟩ := five_of HBx.out
      have bd3 := HQ.out.cols
      clear c0 c1 t0 t1 t2 t3 t4
      go_loopw [4] (fun i wz => ∃ j : Nat, j ≤ x.cols.length ∧ i = .int .i64 j ∧ Tw Z w wz ∧ wz.heap[w.heap.size]? = some (.cells #[.slice (some ⟨g2, 0, none⟩) c.tbs.length ct, .slice pp c.prs.length cp] 25 (0, 0)) ∧ wz.heap[R1.heap.size]? = some (.cells #[.string bv0, .slice pc x.cols.length cc, .slice pk x.key.length ck, .int .i64 bv3, .slice px x.ixs.length cx] 46 (0, 0))) (fun i _ => x.cols.length - (intOf i).toNat)
      case atStart => exact ⟨0, Nat.zero_le _, rfl, TWx.out, HXx.out, HBx.out⟩
      case round =>
        rename World => R4
        obtain ⟨j, hj, rfl, htw, hcx, hbx⟩ := hrel
        have TW4 := Lib.hid htw
        have HX4 := Lib.hid hcx
        have zz4 := (Array.getElem?_eq_some_iff.1 hcx).1
        have HB4 := Lib.hid hbx
        clear htw hcx hbx
        obtain ⟨c0, c1⟩ := two_cells HX4.out
        obtain ⟨t0, t1, t2, t3, t4⟩ := five_of HB4.out
        by_cases hltj : j < x.cols.length
        · have hlti : (j : Int) < ((x.cols.length : Nat) : Int) := by omega
          obtain ⟨g5, us5, hp5, hB5, hE5, hf5, hR5, hn5, hc5⟩ := HOC.out.zone hltj
          subst hp5
          simp only [ColR] at hR5
          subst hR5
          have aw0 : w.cell? ⟨g5, j * 3, none⟩ = some (.string x.cols[j].nm) := HC.out _ _ _ hB5 hE5 (hc5 0 (by rw [hn5]; omega))
          obtain ⟨ax0, ad0, as0⟩ := TW4.out.cell _ _ _ (by omega) aw0
          obtain ⟨av0, rfl⟩ := as0.ofStr
          have aw1 : w.cell? ⟨g5, j * 3 + 1, none⟩ = some (.int .i64 x.cols[j].ty) := HC.out _ _ _ hB5 hE5 (hc5 1 (by rw [hn5]; omega))
          obtain ⟨ax1, ad1, as1⟩ := TW4.out.cell _ _ _ (by omega) aw1
          obtain ⟨av1, rfl⟩ := as1.ofInt
          have aw2 : w.cell? ⟨g5, j * 3 + 2, none⟩ = some (.bool x.cols[j].nn) := HC.out _ _ _ hB5 hE5 (hc5 2 (by rw [hn5]; omega))
          obtain ⟨ax2, ad2, as2⟩ := TW4.out.cell _ _ _ (by omega) aw2
          obtain ⟨av2, rfl⟩ := as2.ofBool
          have af : ∀ o, R4.frozen? ⟨g5, o, none⟩ = false := fun o => (TW4.out.free _ o (by omega)).trans (HF.out _ _ hB5 hE5 (hf5 o))
          have hT := Lib.hid (((TW4.out.set (u := (.string ⟨#[]⟩)) (HZZ.out _ hB5 hE5) (by omega) aw0 (Sim.str _ _)).set (u := (.int .i64 (-7))) (HZZ.out _ hB5 hE5) (by omega) aw1 (Sim.int _ _)).set (u := (.bool false)) (HZZ.out _ hB5 hE5) (by omega) aw2 (Sim.bool _ _))
          have hXn := Lib.hid (set_heap (g := g5) (o := j * 3 + 2) (u := (.bool false)) (set_heap (g := g5) (o := j * 3 + 1) (u := (.int .i64 (-7))) (set_heap (g := g5) (o := j * 3) (u := (.string ⟨#[]⟩)) HX4.out (by omega)) (by omega)) (by omega))
          have hBn := Lib.hid (set_heap (g := g5) (o := j * 3 + 2) (u := (.bool false)) (set_heap (g := g5) (o := j * 3 + 1) (u := (.int .i64 (-7))) (set_heap (g := g5) (o := j * 3) (u := (.string ⟨#[]⟩)) HB4.out (by omega)) (by omega)) (by omega))
          go_wp2
          go_roundw
          case rel => exact ⟨j + 1, by omega, by go_num, hT.out, hXn.out, hBn.out⟩
          case measure => simp [intOf]; omega
        · have hlti : ¬ (j : Int) < ((x.cols.length : Nat) : Int) := by omega
          go_wp2
          have bd6 := HQ.out.key
          clear c0 c1 t0 t1 t2 t3 t4
          go_loopw [5] (fun i wz => ∃ m : Nat, m ≤ x.key.length ∧ i = .int .i64 m ∧ Tw Z w wz ∧ wz.heap[w.heap.size]? = some (.cells #[.slice (some ⟨g2, 0, none⟩) c.tbs.length ct, .slice pp c.prs.length cp] 25 (0, 0)) ∧ wz.heap[R1.heap.size]? = some (.cells #[.string bv0, .slice pc x.cols.length cc, .slice pk x.key.length ck, .int .i64 bv3, .slice px x.ixs.length cx] 46 (0, 0))) (fun i _ => x.key.length - (intOf i).toNat)
          case atStart => exact ⟨0, Nat.zero_le _, rfl, TW4.out, HX4.out, HB4.out⟩
          case round =>
            rename World => R7
            obtain ⟨m, hm, rfl, htw, hcx, hbx⟩ := hrel
            have TW7 := Lib.hid htw
            have HX7 := Lib.hid hcx
            have zz7 := (Array.getElem?_eq_some_iff.1 hcx).1
            have HB7 := Lib.hid hbx
            clear htw hcx hbx
            obtain ⟨c0, c1⟩ := two_cells HX7.out
            obtain ⟨t0, t1, t2, t3, t4⟩ := five_of HB7.out
            by_cases hltm : m < x.key.length
            · have hlti : (m : Int) < ((x.key.length : Nat) : Int) := by omega
              obtain ⟨g8, us8, hp8, hB8, hE8, hf8, hR8, hn8, hc8⟩ := HOK.out.zone hltm
              subst hp8
              simp only [IntR] at hR8
              subst hR8
              have aw0 : w.cell? ⟨g8, m * 1, none⟩ = some (.int .i64 x.key[m]) := HC.out _ _ _ hB8 hE8 (hc8 0 (by rw [hn8]; omega))
              obtain ⟨ax0, ad0, as0⟩ := TW7.out.cell _ _ _ (by omega) aw0
              obtain ⟨av0, rfl⟩ := as0.ofInt
              have af : ∀ o, R7.frozen? ⟨g8, o, none⟩ = false := fun o => (TW7.out.free _ o (by omega)).trans (HF.out _ _ hB8 hE8 (hf8 o))
              simp only [Nat.mul_one] at aw0 ad0
              have hT := Lib.hid (TW7.out.set (u := (.int .i64 (-7))) (HZZ.out _ hB8 hE8) (by omega) aw0 (Sim.int _ _))
              have hXn := Lib.hid (set_heap (g := g8) (o := m) (u := (.int .i64 (-7))) HX7.out (by omega))
              have hBn := Lib.hid (set_heap (g := g8) (o := m) (u := (.int .i64 (-7))) HB7.out (by omega))
              go_wp2
              go_roundw
              case rel => exact ⟨m + 1, by omega, by go_num, hT.out, hXn.out, hBn.out⟩
              case measure => simp [intOf]; omega
            · have hlti : ¬ (m : Int) < ((x.key.length : Nat) : Int) := by omega
              go_wp2
              have bdx := HQ.out.ixs
              clear c0 c1 t0 t1 t2 t3 t4
              go_loopw [6] (fun i wz => ∃ m2 : Nat, m2 ≤ x.ixs.length ∧ i = .int .i64 m2 ∧ Tw Z w wz ∧ wz.heap[w.heap.size]? = some (.cells #[.slice (some ⟨g2, 0, none⟩) c.tbs.length ct, .slice pp c.prs.length cp] 25 (0, 0)) ∧ wz.heap[R1.heap.size]? = some (.cells #[.string bv0, .slice pc x.cols.length cc, .slice pk x.key.length ck, .int .i64 bv3, .slice px x.ixs.length cx] 46 (0, 0))) (fun i _ => x.ixs.length - (intOf i).toNat)
              case atStart => exact ⟨0, Nat.zero_le _, rfl, TW7.out, HX7.out, HB7.out⟩
              case round =>
                rename World => R9
                obtain ⟨m2, hm2, rfl, htw, hcx, hbx⟩ := hrel
                have TW9 := Lib.hid htw
                have HX9 := Lib.hid hcx
                have zz9 := (Array.getElem?_eq_some_iff.1 hcx).1
                have HB9 := Lib.hid hbx
                clear htw hcx hbx
                obtain ⟨c0, c1⟩ := two_cells HX9.out
                obtain ⟨t0, t1, t2, t3, t4⟩ := five_of HB9.out
                by_cases hltm2 : m2 < x.ixs.length
                · have hltim2 : (m2 : Int) < (x.ixs.length : Int) := by omega
                  obtain ⟨g10, us10, hp10, hB10, hE10, hf10, hR10, hn10, hc10⟩ := HOX.out.zone hltm2
                  subst hp10
                  obtain ⟨vi, rfl, oi⟩ := hR10
                  obtain ⟨pi, ci, rfl, -⟩ := oi.form
                  have HOI := Lib.hid oi
                  clear oi
                  have HQX := HQ.out.ix _ (List.getElem_mem hltm2)
                  have HQI := HQX.2
                  clear HQX
                  obtain ⟨y, hy⟩ : ∃ y, x.ixs[m2] = y := ⟨_, rfl⟩
                  simp only [hy] at hc10 hn10 HOI HQI
                  go_wp2
                  clear c0 c1 t0 t1 t2 t3 t4
                  go_loopw [7] (fun i wz => ∃ j : Nat, j ≤ y.cols.length ∧ i = .int .i64 j ∧ Tw Z w wz ∧ wz.heap[w.heap.size]? = some (.cells #[.slice (some ⟨g2, 0, none⟩) c.tbs.length ct, .slice pp c.prs.length cp] 25 (0, 0)) ∧ wz.heap[R1.heap.size]? = some (.cells #[.string bv0, .slice pc x.cols.length cc, .slice pk x.key.length ck, .int .i64 bv3, .slice (some ⟨g10, 0, none⟩) x.ixs.length cx] 46 (0, 0))) (fun i _ => y.cols.length - (intOf i).toNat)
                  case atStart => exact ⟨0, Nat.zero_le _, rfl, TW9.out, HX9.out, HB9.out⟩
                  case round =>
                    rename World => R11
                    obtain ⟨j, hj, rfl, htw, hcx, hbx⟩ := hrel
                    have TW11 := Lib.hid htw
                    have HX11 := Lib.hid hcx
                    have HB11 := Lib.hid hbx
                    have zz11 := (Array.getElem?_eq_some_iff.1 hcx).1
                    clear htw hcx hbx
                    obtain ⟨c0, c1⟩ := two_cells HX11.out
                    obtain ⟨t0, t1, t2, t3, t4⟩ := five_of HB11.out
                    have qw0 : w.cell? ⟨g10, m2 * 3, none⟩ = some (.string y.nm) := HC.out _ _ _ hB10 hE10 (hc10 0 (by rw [hn10]; omega))
                    obtain ⟨qx0, qd0, qs0⟩ := TW11.out.cell _ _ _ (by omega) qw0
                    obtain ⟨qv0, rfl⟩ := qs0.ofStr
                    have qw1 : w.cell? ⟨g10, m2 * 3 + 1, none⟩ = some (.slice pi y.cols.length ci) := HC.out _ _ _ hB10 hE10 (hc10 1 (by rw [hn10]; omega))
                    obtain ⟨qx1, qd1, qs1⟩ := TW11.out.cell _ _ _ (by omega) qw1
                    obtain rfl := qs1.ofSlice
                    have qw2 : w.cell? ⟨g10, m2 * 3 + 2, none⟩ = some (.bool y.un) := HC.out _ _ _ hB10 hE10 (hc10 2 (by rw [hn10]; omega))
                    obtain ⟨qx2, qd2, qs2⟩ := TW11.out.cell _ _ _ (by omega) qw2
                    obtain ⟨qv2, rfl⟩ := qs2.ofBool
                    have qf : ∀ o, R11.frozen? ⟨g10, o, none⟩ = false := fun o => (TW11.out.free _ o (by omega)).trans (HF.out _ _ hB10 hE10 (hf10 o))
                    by_cases hltj : j < y.cols.length
                    · have hltij : (j : Int) < (y.cols.length : Int) := by omega
                      obtain ⟨g12, us12, hp12, hB12, hE12, hf12, hR12, hn12, hc12⟩ := HOI.out.zone hltj
                      subst hp12
                      simp only [IntR] at hR12
                      subst hR12
                      have aw0 : w.cell? ⟨g12, j * 1, none⟩ = some (.int .i64 y.cols[j]) := HC.out _ _ _ hB12 hE12 (hc12 0 (by rw [hn12]; omega))
                      obtain ⟨ax0, ad0, as0⟩ := TW11.out.cell _ _ _ (by omega) aw0
                      obtain ⟨av0, rfl⟩ := as0.ofInt
                      have af : ∀ o, R11.frozen? ⟨g12, o, none⟩ = false := fun o => (TW11.out.free _ o (by omega)).trans (HF.out _ _ hB12 hE12 (hf12 o))
                      simp only [Nat.mul_one] at aw0 ad0
                      have hT := Lib.hid (TW11.out.set (u := (.int .i64 (-7))) (HZZ.out _ hB12 hE12) (by omega) aw0 (Sim.int _ _))
                      have hXn := Lib.hid (set_heap (g := g12) (o := j) (u := (.int .i64 (-7))) HX11.out (by omega))
                      have hBn := Lib.hid (set_heap (g := g12) (o := j) (u := (.int .i64 (-7))) HB11.out (by omega))
                      go_wp2
                      go_roundw
                      case rel => exact ⟨j + 1, by omega, by go_num, hT.out, hXn.out, hBn.out⟩
                      case measure => simp [intOf]; omega
                    · have hltij : ¬ (j : Int) < (y.cols.length : Int) := by omega
                      have hT := Lib.hid (TW11.out.set (u := (.string ⟨#[109, 97, 114, 107]⟩)) (HZZ.out _ hB10 hE10) (by omega) qw0 (Sim.str _ _))
                      have hXn := Lib.hid (set_heap (g := g10) (o := m2 * 3) (u := (.string ⟨#[109, 97, 114, 107]⟩)) HX11.out (by omega))
                      have hBn := Lib.hid (set_heap (g := g10) (o := m2 * 3) (u := (.string ⟨#[109, 97, 114, 107]⟩)) HB11.out (by omega))
                      go_wp2
                      go_roundw
                      case rel => exact ⟨m2 + 1, by omega, by go_num, hT.out, hXn.out, hBn.out⟩
                      case measure => simp [intOf]; omega
                · have hltim2 : ¬ (m2 : Int) < (x.ixs.length : Int) := by omega
                  have zw0 : w.cell? ⟨g2, k * 5, none⟩ = some (.string x.nm) := HC.out _ _ _ hB2 hE2 (hc2 0 (by rw [hn2]; omega))
                  obtain ⟨zx0, zd0, zs0⟩ := TW9.out.cell _ _ _ (by omega) zw0
                  obtain ⟨zv0, rfl⟩ := zs0.ofStr
                  have zf : ∀ o, R9.frozen? ⟨g2, o, none⟩ = false := fun o => (TW9.out.free _ o (by omega)).trans (HF.out _ _ hB2 hE2 (hf2 o))
                  have hT := Lib.hid (TW9.out.set (u := (.string ⟨#[109, 97, 114, 107]⟩)) (HZZ.out _ hB2 hE2) (by omega) bw0 (Sim.str _ _))
                  have hXn := Lib.hid (set_heap (g := g2) (o := k * 5) (u := (.string ⟨#[109, 97, 114, 107]⟩)) HX9.out (by omega))
                  go_wp2
                  go_roundw
                  case rel => exact ⟨k + 1, by omega, by go_num, hT.out, hXn.out⟩
                  case measure => simp [intOf]; omega
    · have hltik : ¬ (k : Int) < (c.tbs.length : Int) := by omega
      go_wp2
      clear c0 c1
      go_loopw [8] (fun i wz => ∃ k : Nat, k ≤ c.prs.length ∧ i = .int .i64 k ∧ Tw Z w wz ∧ wz.heap[w.heap.size]? = some (.cells #[.slice pt c.tbs.length ct, .slice pp c.prs.length cp] 25 (0, 0))) (fun i _ => c.prs.length - (intOf i).toNat)
      case atStart => exact ⟨0, Nat.zero_le _, rfl, TW1.out, HX1.out⟩
      case round =>
        rename World => R13
        obtain ⟨k, hk, rfl, htw, hcx⟩ := hrel
        have TW13 := Lib.hid htw
        have HX13 := Lib.hid hcx
        have zz13 := (Array.getElem?_eq_some_iff.1 hcx).1
        clear htw hcx
        obtain ⟨c0, c1⟩ := two_cells HX13.out
        by_cases hltk : k < c.prs.length
        · have hltik : (k : Int) < (c.prs.length : Int) := by omega
          obtain ⟨g14, us14, hp14, hB14, hE14, hf14, hR14, hn14, hc14⟩ := HP.out.zone hltk
          subst hp14
          obtain ⟨vm, vb, rfl, oc, ok⟩ := hR14
          obtain ⟨pc, cc, rfl, -⟩ := oc.form
          obtain ⟨pk, ck, rfl, -⟩ := ok.form
          have HOC := Lib.hid oc
          have HOK := Lib.hid ok
          clear oc ok
          have HQ := Lib.hid (HZ.out.pc _ (List.getElem_mem hltk))
          obtain ⟨x, hx⟩ : ∃ x, c.prs[k] = x := ⟨_, rfl⟩
          simp only [hx] at hc14 hn14 HOC HOK HQ
          have bw0 : w.cell? ⟨g14, k * 5, none⟩ = some (.string x.nm) := HC.out _ _ _ hB14 hE14 (hc14 0 (by rw [hn14]; omega))
          obtain ⟨bx0, bd0, bs0⟩ := TW13.out.cell _ _ _ (by omega) bw0
          obtain ⟨bv0, rfl⟩ := bs0.ofStr
          have bw1 : w.cell? ⟨g14, k * 5 + 1, none⟩ = some (.slice pc x.prms.length cc) := HC.out _ _ _ hB14 hE14 (hc14 1 (by rw [hn14]; omega))
          obtain ⟨bx1, bd1, bs1⟩ := TW13.out.cell _ _ _ (by omega) bw1
          obtain rfl := bs1.ofSlice
          have bw2 : w.cell? ⟨g14, k * 5 + 2, none⟩ = some (.slice pk x.body.length ck) := HC.out _ _ _ hB14 hE14 (hc14 2 (by rw [hn14]; omega))
          obtain ⟨bx2, bd2, bs2⟩ := TW13.out.cell _ _ _ (by omega) bw2
          obtain rfl := bs2.ofSlice
          have bw3 : w.cell? ⟨g14, k * 5 + 3, none⟩ = some (.int .i64 x.rows) := HC.out _ _ _ hB14 hE14 (hc14 3 (by rw [hn14]; omega))
          obtain ⟨bx3, bd3, bs3⟩ := TW13.out.cell _ _ _ (by omega) bw3
          obtain ⟨bv3, rfl⟩ := bs3.ofInt
          have bw4 : w.cell? ⟨g14, k * 5 + 4, none⟩ = some (.int .i64 x.bytes) := HC.out _ _ _ hB14 hE14 (hc14 4 (by rw [hn14]; omega))
          obtain ⟨bx4, bd4, bs4⟩ := TW13.out.cell _ _ _ (by omega) bw4
          obtain ⟨bv4, rfl⟩ := bs4.ofInt
          have bf : ∀ o, R13.frozen? ⟨g14, o, none⟩ = false := fun o => (TW13.out.free _ o (by omega)).trans (HF.out _ _ hB14 hE14 (hf14 o))
          obtain ⟨WX, hWX⟩ : ∃ WX, R13.alloc (.cells #[.string bv0, .slice pc x.prms.length cc, .slice pk x.body.length ck, .int .i64 bv3, .int .i64 bv4] 52) = WX := ⟨_, rfl⟩
          have hbx : Below R13.heap.size R13 WX := by rw [← hWX]; exact (Below.refl _ _).alloc (Nat.le_refl _) _
          have HBx : Hid (WX.heap[R13.heap.size]? = some (.cells #[.string bv0, .slice pc x.prms.length cc, .slice pk x.body.length ck, .int .i64 bv3, .int .i64 bv4] 52 (0, 0))) := by show WX.heap[R13.heap.size]? = _; rw [← hWX]; exact heap_alloc_new _ _
          have HXx := Lib.hid (heap_of HX13.out hbx)
          have TWx := Lib.hid (TW13.out.later hbx)
          have hws := TW13.out.only.size
          clear hbx
          go_wp2
          clear hWX bd0 bd1 bd2 bd3 bd4
          obtain ⟨t0, t1, t2, t3, t4⟩ := five_of HBx.out
          have bd15 := HQ.out.prms
          clear c0 c1 t0 t1 t2 t3 t4
          go_loopw [10] (fun i wz => ∃ j : Nat, j ≤ x.prms.length ∧ i = .int .i64 j ∧ Tw Z w wz ∧ wz.heap[w.heap.size]? = some (.cells #[.slice pt c.tbs.length ct, .slice (some ⟨g14, 0, none⟩) c.prs.length cp] 25 (0, 0)) ∧ wz.heap[R13.heap.size]? = some (.cells #[.string bv0, .slice pc x.prms.length cc, .slice pk x.body.length ck, .int .i64 bv3, .int .i64 bv4] 52 (0, 0))) (fun i _ => x.prms.length - (intOf i).toNat)
          case atStart => exact ⟨0, Nat.zero_le _, rfl, TWx.out, HXx.out, HBx.out⟩
          case round =>
            rename World => R16
            obtain ⟨j, hj, rfl, htw, hcx, hbx⟩ := hrel
            have TW16 := Lib.hid htw
            have HX16 := Lib.hid hcx
            have zz16 := (Array.getElem?_eq_some_iff.1 hcx).1
            have HB16 := Lib.hid hbx
            clear htw hcx hbx
            obtain ⟨c0, c1⟩ := two_cells HX16.out
            obtain ⟨t0, t1, t2, t3, t4⟩ := five_of HB16.out
            by_cases hltj : j < x.prms.length
            · have hlti : (j : Int) < ((x.prms.length : Nat) : Int) := by omega
              obtain ⟨g17, us17, hp17, hB17, hE17, hf17, hR17, hn17, hc17⟩ := HOC.out.zone hltj
              subst hp17
              simp only [PmR] at hR17
              subst hR17
              have aw0 : w.cell? ⟨g17, j * 2, none⟩ = some (.string x.prms[j].nm) := HC.out _ _ _ hB17 hE17 (hc17 0 (by rw [hn17]; omega))
              obtain ⟨ax0, ad0, as0⟩ := TW16.out.cell _ _ _ (by omega) aw0
              obtain ⟨av0, rfl⟩ := as0.ofStr
              have aw1 : w.cell? ⟨g17, j * 2 + 1, none⟩ = some (.int .i64 x.prms[j].ty) := HC.out _ _ _ hB17 hE17 (hc17 1 (by rw [hn17]; omega))
              obtain ⟨ax1, ad1, as1⟩ := TW16.out.cell _ _ _ (by omega) aw1
              obtain ⟨av1, rfl⟩ := as1.ofInt
              have af : ∀ o, R16.frozen? ⟨g17, o, none⟩ = false := fun o => (TW16.out.free _ o (by omega)).trans (HF.out _ _ hB17 hE17 (hf17 o))
              have hT := Lib.hid ((TW16.out.set (u := (.string ⟨#[]⟩)) (HZZ.out _ hB17 hE17) (by omega) aw0 (Sim.str _ _)).set (u := (.int .i64 (-7))) (HZZ.out _ hB17 hE17) (by omega) aw1 (Sim.int _ _))
              have hXn := Lib.hid (set_heap (g := g17) (o := j * 2 + 1) (u := (.int .i64 (-7))) (set_heap (g := g17) (o := j * 2) (u := (.string ⟨#[]⟩)) HX16.out (by omega)) (by omega))
              have hBn := Lib.hid (set_heap (g := g17) (o := j * 2 + 1) (u := (.int .i64 (-7))) (set_heap (g := g17) (o := j * 2) (u := (.string ⟨#[]⟩)) HB16.out (by omega)) (by omega))
              go_wp2
              go_roundw
              case rel => exact ⟨j + 1, by omega, by go_num, hT.out, hXn.out, hBn.out⟩
              case measure => simp [intOf]; omega
            · have hlti : ¬ (j : Int) < ((x.prms.length : Nat) : Int) := by omega
              go_wp2
              have bd18 := HQ.out.body
              clear c0 c1 t0 t1 t2 t3 t4
              go_loopw [11] (fun i wz => ∃ m : Nat, m ≤ x.body.length ∧ i = .int .i64 m ∧ Tw Z w wz ∧ wz.heap[w.heap.size]? = some (.cells #[.slice pt c.tbs.length ct, .slice (some ⟨g14, 0, none⟩) c.prs.length cp] 25 (0, 0)) ∧ wz.heap[R13.heap.size]? = some (.cells #[.string bv0, .slice pc x.prms.length cc, .slice pk x.body.length ck, .int .i64 bv3, .int .i64 bv4] 52 (0, 0))) (fun i _ => x.body.length - (intOf i).toNat)
              case atStart => exact ⟨0, Nat.zero_le _, rfl, TW16.out, HX16.out, HB16.out⟩
              case round =>
                rename World => R19
                obtain ⟨m, hm, rfl, htw, hcx, hbx⟩ := hrel
                have TW19 := Lib.hid htw
                have HX19 := Lib.hid hcx
                have zz19 := (Array.getElem?_eq_some_iff.1 hcx).1
                have HB19 := Lib.hid hbx
                clear htw hcx hbx
                obtain ⟨c0, c1⟩ := two_cells HX19.out
                obtain ⟨t0, t1, t2, t3, t4⟩ := five_of HB19.out
                by_cases hltm : m < x.body.length
                · have hlti : (m : Int) < ((x.body.length : Nat) : Int) := by omega
                  obtain ⟨g20, us20, hp20, hB20, hE20, hf20, hR20, hn20, hc20⟩ := HOK.out.zone hltm
                  subst hp20
                  simp only [StrR] at hR20
                  subst hR20
                  have aw0 : w.cell? ⟨g20, m * 1, none⟩ = some (.string x.body[m]) := HC.out _ _ _ hB20 hE20 (hc20 0 (by rw [hn20]; omega))
                  obtain ⟨ax0, ad0, as0⟩ := TW19.out.cell _ _ _ (by omega) aw0
                  obtain ⟨av0, rfl⟩ := as0.ofStr
                  have af : ∀ o, R19.frozen? ⟨g20, o, none⟩ = false := fun o => (TW19.out.free _ o (by omega)).trans (HF.out _ _ hB20 hE20 (hf20 o))
                  simp only [Nat.mul_one] at aw0 ad0
                  have hT := Lib.hid (TW19.out.set (u := (.string ⟨#[109, 97, 114, 107]⟩)) (HZZ.out _ hB20 hE20) (by omega) aw0 (Sim.str _ _))
                  have hXn := Lib.hid (set_heap (g := g20) (o := m) (u := (.string ⟨#[109, 97, 114, 107]⟩)) HX19.out (by omega))
                  have hBn := Lib.hid (set_heap (g := g20) (o := m) (u := (.string ⟨#[109, 97, 114, 107]⟩)) HB19.out (by omega))
                  go_wp2
                  go_roundw
                  case rel => exact ⟨m + 1, by omega, by go_num, hT.out, hXn.out, hBn.out⟩
                  case measure => simp [intOf]; omega
                · have hlti : ¬ (m : Int) < ((x.body.length : Nat) : Int) := by omega
                  have zw0 : w.cell? ⟨g14, k * 5, none⟩ = some (.string x.nm) := HC.out _ _ _ hB14 hE14 (hc14 0 (by rw [hn14]; omega))
                  obtain ⟨zx0, zd0, zs0⟩ := TW19.out.cell _ _ _ (by omega) zw0
                  obtain ⟨zv0, rfl⟩ := zs0.ofStr
                  have zf : ∀ o, R19.frozen? ⟨g14, o, none⟩ = false := fun o => (TW19.out.free _ o (by omega)).trans (HF.out _ _ hB14 hE14 (hf14 o))
                  have hT := Lib.hid (TW19.out.set (u := (.string ⟨#[109, 97, 114, 107]⟩)) (HZZ.out _ hB14 hE14) (by omega) bw0 (Sim.str _ _))
                  have hXn := Lib.hid (set_heap (g := g14) (o := k * 5) (u := (.string ⟨#[109, 97, 114, 107]⟩)) HX19.out (by omega))
                  go_wp2
                  go_roundw
                  case rel => exact ⟨k + 1, by omega, by go_num, hT.out, hXn.out⟩
                  case measure => simp [intOf]; omega
        · have hltik : ¬ (k : Int) < (c.prs.length : Int) := by omega
          go_wp2
          exact bodyPost_end (v := .tuple #[]) (by simp [results, Tryz.results19, go_sem]) rfl ⟨rfl, TW13.out.only⟩
end Go.Proofs.YtkgkkcefnonejaaGreat
/- Walks of layer 8: the document's AddTable. -/
namespace Go.Proofs.YtkgkkcefnonejaaGreat
open Go.RowKit

theorem may_tbZ {t : Tb} (h : mayTb t = true) : TbZ 2147483647 t := by
  have f := TbF.of h
  obtain ⟨h1, h2, h3, h4⟩ := mayTb_parts h
  obtain ⟨c1, c2⟩ := mayCols_nm h2
  obtain ⟨x1, x2⟩ := mayIxs_nm h4
  have k1 := f.key
  exact ⟨by have := nm_le h1; omega, by omega, by omega, by omega, fun x hx => by have := (c2 x hx).1; omega, fun x hx => ⟨by have := (x2 x hx).1; omega, by have := mayPl_size (x2 x hx).2; omega⟩⟩
theorem may_pcZ {p : Pc} (h : mayPc p = true) : PcZ 2147483647 p := by
  obtain ⟨h1, h2, h3, _⟩ := mayPc_parts h
  obtain ⟨c1, c2⟩ := mayPms_nm h2
  obtain ⟨b1, b2⟩ := mayBody_src h3
  exact ⟨by have := nm_le h1; omega, by omega, by omega, fun x hx => by have := (c2 x hx).1; omega, fun s hs => by have := b2 s hs; omega⟩
theorem right_Z {c : Ct} (h : rightC c = true) : CtZ 2147483647 c := by
  obtain ⟨g1, g2, g3, g4⟩ := rightC_parts h
  exact ⟨by omega, by omega, fun t ht => may_tbZ (g3 t ht), fun p hp => may_pcZ (g4 p hp)⟩

set_option maxHeartbeats 32000000 in
set_option maxRecDepth 100000 in
theorem dAddTb_any (c : Ct) (t : Tb) (vs us : List Value) (w : World) (hC : CtR w c vs) (hT : TbR w t us) :
    Calls Tryz.prog 30 #[.agg vs.toArray, .agg us.toArray] w fun e w' => ∃ rs, e = .returned (.tuple #[.agg rs.toArray, .int .i64 (addTE c t)]) ∧ CtO w' w.heap.size (addTC c t) rs ∧ Below w.heap.size w w' := by
  obtain ⟨i0, hi, hz0, hz1, hz2⟩ := info_parts Tryz.infoTb
  have HC : Hid (∀ W, Below w.heap.size w W → CtR W c vs) := fun W h => CtR.later h c vs hC
  have HT : Hid (∀ W, Below w.heap.size w W → TbR W t us) := fun W h => TbR.later h t us hT
  obtain ⟨pt, ct, pp, cp, rfl, -, -⟩ := hC
  obtain ⟨pc, cc, pk, ck, px, cx, rfl, -, -, -⟩ := hT
  obtain ⟨Z, hZ⟩ : ∃ Z, ((w.alloc (.cells #[.slice pt c.tbs.length ct, .slice pp c.prs.length cp] 25)).alloc (.cells #[.string t.nm, .slice pc t.cols.length cc, .slice pk t.key.length ck, .int .i64 t.part, .slice px t.ixs.length cx] 46)).alloc (.cells #[.slice none 0 0, .slice none 0 0] 25) = Z := ⟨_, rfl⟩
  have hZs : Z.heap.size = w.heap.size + 1 + 1 + 1 := by rw [← hZ]; simp
  have HBX : Hid (∀ W, Below Z.heap.size Z W → W.heap[w.heap.size]? = some (.cells #[.slice pt c.tbs.length ct, .slice pp c.prs.length cp] 25 (0, 0)) ∧ W.heap[w.heap.size + 1]? = some (.cells #[.string t.nm, .slice pc t.cols.length cc, .slice pk t.key.length ck, .int .i64 t.part, .slice px t.ixs.length cx] 46 (0, 0)) ∧ W.heap[w.heap.size + 1 + 1]? = some (.cells #[.slice none 0 0, .slice none 0 0] 25 (0, 0)) ∧ Below w.heap.size w W) := by
    intro W h
    rw [hZs] at h
    rw [← hZ] at h
    refine ⟨?_, ?_, ?_, ?_⟩
    · rw [h.block _ (by omega), Below.heap_alloc _ _ _ (by simp; omega), Below.heap_alloc _ _ _ (by simp)]
      exact heap_alloc_new w _
    · rw [h.block _ (by omega), Below.heap_alloc _ _ _ (by simp)]
      simpa using heap_alloc_new (w.alloc (.cells #[.slice pt c.tbs.length ct, .slice pp c.prs.length cp] 25)) (.cells #[.string t.nm, .slice pc t.cols.length cc, .slice pk t.key.length ck, .int .i64 t.part, .slice px t.ixs.length cx] 46 (0, 0))
    · rw [h.block _ (by omega)]
      simpa using heap_alloc_new ((w.alloc (.cells #[.slice pt c.tbs.length ct, .slice pp c.prs.length cp] 25)).alloc (.cells #[.string t.nm, .slice pc t.cols.length cc, .slice pk t.key.length ck, .int .i64 t.part, .slice px t.ixs.length cx] 46)) (.cells #[.slice none 0 0, .slice none 0 0] 25 (0, 0))
    · exact ((((Below.refl _ _).alloc (Nat.le_refl _) _).alloc (by simp) _).alloc (by simp; omega) _).trans (h.mono (by omega))
  have HNo : Hid (∀ W : World, CtO W w.heap.size ⟨[], []⟩ [.slice none 0 0, .slice none 0 0]) := fun W => CtO.none W _
  have B0 : Hid (Below Z.heap.size Z Z) := Below.refl _ _
  obtain ⟨e0, e1, e2, e3⟩ := HBX.out Z B0.out
  have W0 := Lib.hid e3
  obtain ⟨c0, c1⟩ := two_cells e0
  obtain ⟨t0, t1, t2, t3, t4⟩ := five_of e1
  obtain ⟨r0, r1, rf0, rf1⟩ := two_of e2
  clear e0 e1 e2 e3
  go_enter Tryz.func30, Tryz.ntmps30
  go_wp2_with fail
  refine (dRight_any c _ Z (HC.out _ W0.out)).mono ?_
  rintro e w1 ⟨rfl, hb⟩
  have B1 := Lib.hid (B0.out.trans (hb.mono B0.out.size))
  clear hb c0 c1 t0 t1 t2 t3 t4 r0 r1 rf0 rf1
  obtain ⟨e0, e1, e2, e3⟩ := HBX.out w1 B1.out
  have W1 := Lib.hid e3
  obtain ⟨c0, c1⟩ := two_cells e0
  obtain ⟨t0, t1, t2, t3, t4⟩ := five_of e1
  obtain ⟨r0, r1, rf0, rf1⟩ := two_of e2
  clear e0 e1 e2 e3
  go_wp2_with fail
  refine (dMayTb_any t _ _ (HT.out _ W1.out)).mono ?_
  rintro e w2 ⟨rfl, hb⟩
  have B2 := Lib.hid (B1.out.trans (hb.mono B1.out.size))
  clear hb c0 c1 t0 t1 t2 t3 t4 r0 r1 rf0 rf1
  obtain ⟨e0, e1, e2, e3⟩ := HBX.out w2 B2.out
  have W2 := Lib.hid e3
  obtain ⟨c0, c1⟩ := two_cells e0
  obtain ⟨t0, t1, t2, t3, t4⟩ := five_of e1
  obtain ⟨r0, r1, rf0, rf1⟩ := two_of e2
  clear e0 e1 e2 e3
  clear hZ
  cases h1 : rightC c with
  | false =>
    have HE : Hid (addTE c t = 80) := by
      show addTE c t = 80
      simp [addTE, h1]
    have HE2 : Hid (addTC c t = ⟨[], []⟩) := by
      show addTC c t = _
      simp [addTC, HE.out]
    go_wp2
    refine bodyPost_ret (v := .tuple #[.agg #[.slice none 0 0, .slice none 0 0], .int .i64 80]) (by simp [results, Tryz.results30, go_sem, *]) rfl ?_
    refine ⟨[.slice none 0 0, .slice none 0 0], by rw [HE.out], by rw [HE2.out]; exact HNo.out _, by have h0 := W2.out; (repeat (first | exact Below.refl _ _ | assumption | refine Below.drew ?_ | refine below_drewN ?_ _ | refine Below.alloc ?_ (by first | omega | (simp; done) | (simp; omega)) _ | refine Below.setCell ?_ (by first | omega | (simp; done) | (simp; omega)) _ | refine Below.trans ?_ (Below.mono (by assumption) (by first | omega | (simp; done) | (simp; omega)))))⟩
  | true =>
    cases h2 : mayTb t with
    | false =>
      have HE : Hid (addTE c t = 80) := by
        show addTE c t = 80
        simp [addTE, h2]
      have HE2 : Hid (addTC c t = ⟨[], []⟩) := by
        show addTC c t = _
        simp [addTC, HE.out]
      go_wp2
      refine bodyPost_ret (v := .tuple #[.agg #[.slice none 0 0, .slice none 0 0], .int .i64 80]) (by simp [results, Tryz.results30, go_sem, *]) rfl ?_
      refine ⟨[.slice none 0 0, .slice none 0 0], by rw [HE.out], by rw [HE2.out]; exact HNo.out _, by have h0 := W2.out; (repeat (first | exact Below.refl _ _ | assumption | refine Below.drew ?_ | refine below_drewN ?_ _ | refine Below.alloc ?_ (by first | omega | (simp; done) | (simp; omega)) _ | refine Below.setCell ?_ (by first | omega | (simp; done) | (simp; omega)) _ | refine Below.trans ?_ (Below.mono (by assumption) (by first | omega | (simp; done) | (simp; omega)))))⟩
    | true =>
      obtain ⟨g1, g2, -, -⟩ := rightC_parts h1
      have HF := Lib.hid (CtF.of h1)
      have HRT := Lib.hid h1
      have HMY := Lib.hid h2
      obtain ⟨X, hX⟩ : ∃ X, fndI (c.tbs.map fun x => bs x.nm) (bs t.nm) = X := ⟨_, rfl⟩
      go_wp2_with fail
      refine (ratTb_any c _ t.nm _ (HC.out _ W2.out) (by omega)).mono ?_
      rintro e w3 ⟨rfl, hb⟩
      have B3 := Lib.hid (B2.out.trans (hb.mono B2.out.size))
      clear hb c0 c1 t0 t1 t2 t3 t4 r0 r1 rf0 rf1
      obtain ⟨e0, e1, e2, e3⟩ := HBX.out w3 B3.out
      have W3 := Lib.hid e3
      obtain ⟨c0, c1⟩ := two_cells e0
      obtain ⟨t0, t1, t2, t3, t4⟩ := five_of e1
      obtain ⟨r0, r1, rf0, rf1⟩ := two_of e2
      clear e0 e1 e2 e3
      rw [hX]
      have HX := Lib.hid hX
      clear hX h1 h2
      by_cases hX0 : 0 ≤ X
      · skip
        have HE : Hid (addTE c t = 81) := by
          show addTE c t = 81
          simp [addTE, HRT.out, HMY.out, HX.out, hX0]
        have HE2 : Hid (addTC c t = ⟨[], []⟩) := by
          show addTC c t = _
          simp [addTC, HE.out]
        go_wp2
        refine bodyPost_ret (v := .tuple #[.agg #[.slice none 0 0, .slice none 0 0], .int .i64 81]) (by simp [results, Tryz.results30, go_sem, *]) rfl ?_
        refine ⟨[.slice none 0 0, .slice none 0 0], by rw [HE.out], by rw [HE2.out]; exact HNo.out _, by have h0 := W3.out; (repeat (first | exact Below.refl _ _ | assumption | refine Below.drew ?_ | refine below_drewN ?_ _ | refine Below.alloc ?_ (by first | omega | (simp; done) | (simp; omega)) _ | refine Below.setCell ?_ (by first | omega | (simp; done) | (simp; omega)) _ | refine Below.trans ?_ (Below.mono (by assumption) (by first | omega | (simp; done) | (simp; omega)))))⟩
      · by_cases hl8 : c.tbs.length = 8
        · have hl8i : (8 : Int) ≤ (c.tbs.length : Int) := by omega
          have HE : Hid (addTE c t = 2) := by
            show addTE c t = 2
            simp [addTE, HRT.out, HMY.out, HX.out, hX0, hl8]
          have HE2 : Hid (addTC c t = ⟨[], []⟩) := by
            show addTC c t = _
            simp [addTC, HE.out]
          go_wp2
          refine bodyPost_ret (v := .tuple #[.agg #[.slice none 0 0, .slice none 0 0], .int .i64 2]) (by simp [results, Tryz.results30, go_sem, *]) rfl ?_
          refine ⟨[.slice none 0 0, .slice none 0 0], by rw [HE.out], by rw [HE2.out]; exact HNo.out _, by have h0 := W3.out; (repeat (first | exact Below.refl _ _ | assumption | refine Below.drew ?_ | refine below_drewN ?_ _ | refine Below.alloc ?_ (by first | omega | (simp; done) | (simp; omega)) _ | refine Below.setCell ?_ (by first | omega | (simp; done) | (simp; omega)) _ | refine Below.trans ?_ (Below.mono (by assumption) (by first | omega | (simp; done) | (simp; omega)))))⟩
        · have hl8i : ¬ (8 : Int) ≤ (c.tbs.length : Int) := by omega
          have HE : Hid (addTE c t = 0) := by
            show addTE c t = 0
            simp [addTE, HRT.out, HMY.out, HX.out, hX0, hl8]
          have HE2 : Hid (addTC c t = ⟨c.tbs ++ [t], c.prs⟩) := by
            show addTC c t = _
            simp [addTC, HE.out]
          go_wp2_with fail
          refine (of_any c _ _ (HC.out _ W3.out) (right_Z HRT.out)).mono ?_
          rintro e w4 ⟨os, rfl, hO4, hb4⟩
          have z3 := B3.out.size
          have B4 := Lib.hid (B3.out.trans (hb4.mono B3.out.size))
          have z4 := B4.out.size
          have hO4 := CtO.mono (B' := w.heap.size + 3) (by omega) _ _ hO4
          have O4 := Lib.hid hO4
          obtain ⟨vt, vp, rfl, q1, q2⟩ := hO4
          obtain ⟨pa, ca, rfl, -⟩ := q1.form
          obtain ⟨pb, cb, rfl, -⟩ := q2.form
          clear hb4 q1 q2 c0 c1 t0 t1 t2 t3 t4 r0 r1 rf0 rf1
          obtain ⟨e0, e1, e2, e3⟩ := HBX.out w4 B4.out
          have W4 := Lib.hid e3
          obtain ⟨c0, c1⟩ := two_cells e0
          obtain ⟨t0, t1, t2, t3, t4⟩ := five_of e1
          obtain ⟨r0, r1, rf0, rf1⟩ := two_of e2
          clear e0 e1 e2 e3
          have y0 : w.heap.size < w4.heap.size := by omega
          have y1 : w.heap.size + 1 < w4.heap.size := by omega
          have y2 : w.heap.size + 1 + 1 < w4.heap.size := by omega
          go_wp2_with fail
          generalize hV5 : w4.alloc (.cells #[.slice pa c.tbs.length ca, .slice pb c.prs.length cb] 25) = V5
          have hb5 : Below w4.heap.size w4 V5 := by rw [← hV5]; exact (Below.refl _ _).alloc (Nat.le_refl _) _
          have HO5 : Hid (V5.heap[w4.heap.size]? = some (.cells #[.slice pa c.tbs.length ca, .slice pb c.prs.length cb] 25 (0, 0))) := by
            show V5.heap[w4.heap.size]? = _
            rw [← hV5]
            exact heap_alloc_new w4 _
          have B5 := Lib.hid (B4.out.trans (hb5.mono B4.out.size))
          have HQ5 := Lib.hid hb5
          have z5 : V5.heap.size = w4.heap.size + 1 := by rw [← hV5]; simp
          clear hb5 hV5 c0 c1 t0 t1 t2 t3 t4 r0 r1 rf0 rf1
          obtain ⟨e0, e1, e2, e3⟩ := HBX.out V5 B5.out
          have W5 := Lib.hid e3
          obtain ⟨c0, c1⟩ := two_cells e0
          obtain ⟨t0, t1, t2, t3, t4⟩ := five_of e1
          obtain ⟨r0, r1, rf0, rf1⟩ := two_of e2
          clear e0 e1 e2 e3
          refine (tableOf_any t _ V5 (HT.out _ W5.out) (may_tbZ HMY.out)).mono ?_
          rintro e V6 ⟨us, rfl, hO6, hb6⟩
          have z6 := hb6.size
          have B6 := Lib.hid (B5.out.trans (hb6.mono B5.out.size))
          have HO6 := Lib.hid (heap_of HO5.out hb6)
          have O6 := Lib.hid (O4.out.later (below_two HQ5.out hb6))
          have hO6 := TbO.mono (B' := w.heap.size + 3) (by omega) _ _ hO6
          have OT := Lib.hid hO6
          obtain ⟨u1, u2, u3, rfl, q1, q2, q3⟩ := hO6
          obtain ⟨p1, m1, rfl, -⟩ := q1.form
          obtain ⟨p2, m2, rfl, -⟩ := q2.form
          obtain ⟨p3, m3, rfl, -⟩ := q3.form
          clear q1 q2 q3
          clear hb6 c0 c1 t0 t1 t2 t3 t4 r0 r1 rf0 rf1
          obtain ⟨e0, e1, e2, e3⟩ := HBX.out V6 B6.out
          have W6 := Lib.hid e3
          obtain ⟨c0, c1⟩ := two_cells e0
          obtain ⟨t0, t1, t2, t3, t4⟩ := five_of e1
          obtain ⟨r0, r1, rf0, rf1⟩ := two_of e2
          clear e0 e1 e2 e3
          obtain ⟨x0, x1, xf0, xf1⟩ := two_of HO6.out
          obtain ⟨ut, up, hsp, OT6, OP6⟩ := O6.out
          simp only [List.cons.injEq, and_true] at hsp
          obtain ⟨rfl, rfl⟩ := hsp
          have HOT := Lib.hid OT6
          have HOP := Lib.hid OP6
          obtain ⟨ps, e1, e2, e3⟩ := HOT.out
          have P1 := Lib.hid e1
          have P2 := Lib.hid e2
          have hown2 := e3
          have HOW := Lib.hid e3
          have HGE := Lib.hid (own_ge e3)
          have n1 : w4.heap.size < V6.heap.size := by omega
          have n2 : w.heap.size + 1 + 1 < V6.heap.size := by omega
          have n3 : ¬ w4.heap.size = w.heap.size + 1 + 1 := by omega
          have n4 : ¬ w.heap.size + 1 + 1 = w4.heap.size := by omega
          clear e1 e2 e3 OT6 OP6
          go_wp2_with (first | (at_builtin; refine wpList_append_own _ rfl _ _ 22 rfl (w.heap.size + 3) 46 i0 (.agg #[.string ⟨#[]⟩, .slice none 0 0, .slice none 0 0, .int .i64 0, .slice none 0 0]) 5 96 Tryz.underlying22 hi hz0 hz1 hz2 rfl (by decide) _ c.tbs.length (ps.flatMap (·.2)) rfl ((hown2.alloc _).alloc _) ⟨V6.heap.size + 1, 0, none⟩ 1 1 [.string t.nm, .slice p1 t.cols.length m1, .slice p2 t.key.length m2, .int .i64 t.part, .slice p3 t.ixs.length m3] rfl rfl (cells_alloc2 _ _ _ _) (by intro u hu; simp only [List.mem_cons, List.not_mem_nil, or_false] at hu; rcases hu with rfl | rfl | rfl | rfl | rfl <;> rfl) (by unfold maxLen; omega) (by omega) (by simp; omega) ?_; intro v' w7 hown3 hgrow3 _; obtain ⟨pn, cn, rfl⟩ := own_form hown3; (have HG := Lib.hid hgrow3); (have HO3 := Lib.hid hown3); (have hal : Below V6.heap.size V6 ((V6.alloc (.cells ([.string t.nm, .slice p1 t.cols.length m1, .slice p2 t.key.length m2, .int .i64 t.part, .slice p3 t.ixs.length m3]).toArray 46)).alloc (.cells ([.string t.nm, .slice p1 t.cols.length m1, .slice p2 t.key.length m2, .int .i64 t.part, .slice p3 t.ixs.length m3]).toArray 46)) := ((Below.refl _ _).alloc (Nat.le_refl _) _).alloc (by simp) _); (have HAL := Lib.hid hal); (have HO7 := Lib.hid (grown_other ((HOW.out.alloc _).alloc _) hgrow3 (heap_of HO6.out hal) (by decide))); (have B7 := Lib.hid ((B6.out.trans (hal.mono B6.out.size)).grown hgrow3 (by rw [hZs]; simp; omega) (fun k h => by have := HGE.out k h; omega))); clear hown3 hgrow3 hal hown2 x0 x1 xf0 xf1 c0 c1 t0 t1 t2 t3 t4 r0 r1 rf0 rf1; obtain ⟨e0, e1, e2, e3⟩ := HBX.out w7 B7.out; (have W7 := Lib.hid e3); obtain ⟨c0, c1⟩ := two_cells e0; obtain ⟨t0, t1, t2, t3, t4⟩ := five_of e1; obtain ⟨r0, r1, rf0, rf1⟩ := two_of e2; obtain ⟨x0, x1, xf0, xf1⟩ := two_of HO7.out; clear e0 e1 e2 e3))
          refine bodyPost_ret (v := .tuple #[.agg #[(.slice pn (c.tbs.length + 1) cn), (.slice pb c.prs.length cb)], .int .i64 0]) (by simp [results, Tryz.results30, go_sem, *]) rfl ?_
          have hks : ∀ S, 25 ∉ S → Keeps S (w.heap.size + 3) w7 (((w7.setCell ⟨w4.heap.size, 0, none⟩ (.slice pn (c.tbs.length + 1) cn)).setCell ⟨w.heap.size + 1 + 1, 0, none⟩ (.slice pn (c.tbs.length + 1) cn)).setCell ⟨w.heap.size + 1 + 1, 1, none⟩ (.slice pb c.prs.length cb)) := fun S hS => Keeps.low (Keeps.low (Keeps.typed (Keeps.of (Below.refl _ _)) HO7.out hS _ _) (by omega) _ _) (by omega) _ _
          have hkg : ∀ S, 46 ∉ S → Keeps S (w.heap.size + 3) V6 w7 := fun S hS => (Keeps.of HAL.out).trans (Keeps.grown ((HOW.out.alloc _).alloc _) HG.out hS)
          have hrow := ownsRow_setCell_below (ownsRow_setCell_below (own_kept (w' := w7.setCell ⟨w4.heap.size, 0, none⟩ (.slice pn (c.tbs.length + 1) cn)) HO3.out (fun g hg => by
            obtain ⟨cur, hh⟩ := own_block HO3.out hg
            exact Below.heap_setCell _ _ _ _ (fun e => by
              have e : g = w4.heap.size := e
              have h7 := HO7.out
              rw [← e, hh] at h7
              simp only [Option.some.injEq, Obj.cells.injEq] at h7
              exact absurd h7.2.1 (by decide)))) (a := ⟨w.heap.size + 1 + 1, 0, none⟩) (by show w.heap.size + 1 + 1 < w.heap.size + 3; omega) (.slice pn (c.tbs.length + 1) cn)) (a := ⟨w.heap.size + 1 + 1, 1, none⟩) (by show w.heap.size + 1 + 1 < w.heap.size + 3; omega) (.slice pb c.prs.length cb)
          refine ⟨[(.slice pn (c.tbs.length + 1) cn), (.slice pb c.prs.length cb)], by rw [HE.out], ?_, ?_⟩
          · rw [HE2.out]
            refine ⟨_, _, rfl, ?_, ?_⟩
            · exact (OwnR.push (n := 5) P1.out P2.out (TbO.keeps ((hkg inTb (by decide)).trans (hks _ (by decide)))) ((TbO.keeps ((hkg inTb (by decide)).trans (hks _ (by decide)))) _ _ OT.out) rfl hrow).mono (by omega) (TbO.mono (by omega))
            · exact (HOP.out.keeps (S := [52]) ((hkg _ (by decide)).trans (hks _ (by decide))) (by simp) (PcO.keeps ((hkg inPc (by decide)).trans (hks _ (by decide))))).mono (by omega) (PcO.mono (by omega))
          · have h0 := W7.out
            (repeat (first | exact Below.refl _ _ | assumption | refine Below.drew ?_ | refine below_drewN ?_ _ | refine Below.alloc ?_ (by first | omega | (simp; done) | (simp; omega)) _ | refine Below.setCell ?_ (by first | omega | (simp; done) | (simp; omega)) _ | refine Below.trans ?_ (Below.mono (by assumption) (by first | omega | (simp; done) | (simp; omega)))))
end Go.Proofs.YtkgkkcefnonejaaGreat
/- Walks of layer 8: the document's reader: numbers, texts. -/
namespace Go.Proofs.YtkgkkcefnonejaaGreat
open Go.RowKit

/-- The document's reader, and the place of its next byte. -/
def RdD (w : World) (r : Nat) (s : ByteArray) (a : Nat) : Prop := w.heap[r]? = some (.cells #[.string s, .int .i64 (a : Int)] 93 (0, 0))
theorem RdD.later {w w' : World} {r : Nat} {s : ByteArray} {a : Nat} (h : RdD w r s a) (hb : Below w.heap.size w w') : RdD w' r s a := heap_of h hb
theorem RdD.lt {w : World} {r : Nat} {s : ByteArray} {a : Nat} (h : RdD w r s a) : r < w.heap.size := (Array.getElem?_eq_some_iff.1 h).1
theorem RdD.set {w : World} {r : Nat} {s : ByteArray} {a : Nat} (h : RdD w r s a) {x : Int} {b : Nat} (hx : x = (b : Int)) : RdD (w.setCell ⟨r, 1, none⟩ (.int .i64 x)) r s b := by
  subst hx
  have := heap_setCell_at (i := 1) h (.int .i64 (b : Int))
  show _ = _
  simpa using this
theorem RdD.cells {w : World} {r : Nat} {s : ByteArray} {a : Nat} (h : RdD w r s a) : w.cell? ⟨r, 0, none⟩ = some (.string s) ∧ w.cell? ⟨r, 1, none⟩ = some (.int .i64 (a : Int)) ∧ w.frozen? ⟨r, 0, none⟩ = false ∧ w.frozen? ⟨r, 1, none⟩ = false := two_of h
/-- What is left to it. -/
def rest (s : ByteArray) (a : Nat) : List UInt8 := (bs s).drop a
theorem rest_at {s : ByteArray} {a k : Nat} (h : a + k < s.size) : (rest s a)[k]? = some s[a + k] := by
  rw [rest, List.getElem?_drop, List.getElem?_eq_getElem (by rw [bs_len]; exact h)]
  rfl
theorem rest_take {s : ByteArray} {a k : Nat} (h : a + k < s.size) : (rest s a).take (k + 1) = (rest s a).take k ++ [s[a + k]] := by
  have := rest_at h
  rw [List.take_add_one, this]
  rfl
theorem rest_len (s : ByteArray) (a : Nat) : (rest s a).length = s.size - a := by rw [rest, List.length_drop, bs_len]
theorem rest_drop (s : ByteArray) (a k : Nat) : (rest s a).drop k = rest s (a + k) := by rw [rest, rest, List.drop_drop]
theorem rest_split {s : ByteArray} {a k : Nat} (h : a + k < s.size) : rest s a = (rest s a).take k ++ s[a + k] :: rest s (a + (k + 1)) := by
  have h1 := rest_take h
  have h2 := List.take_append_drop (k + 1) (rest s a)
  rw [h1, rest_drop] at h2
  exact h2.symm.trans (by rw [List.append_assoc]; rfl)
theorem lo_more (l : List UInt8) (k : Nat) (c : UInt8) (h : l.length = k) : lo (l ++ [c]) = lo l + 128 ^ k * (c.toNat % 128) := by rw [lo_snoc, h]
/-- What is told of a number. -/
def NuP (r : Nat) (s : ByteArray) (a : Nat) (w : World) (e : Ending) (w' : World) : Prop := ∃ (n a' : Nat), e = .returned (.int .i64 (n : Int)) ∧ n < 268435456 ∧ RdD w' r s a' ∧ a' ≤ a + 4 ∧ Rd num (fun m => m < 2097152) (rest s a) n (rest s a') ∧ Only (fun k => k = r) w w'

set_option maxHeartbeats 8000000 in
set_option maxRecDepth 100000 in
theorem dnum_any (r : Nat) (s : ByteArray) (a : Nat) (w : World) (h : RdD w r s a) (hs : s.size ≤ 2147483647) (ha : a ≤ 4294967296) :
    Calls Tryz.prog 104 #[.pointer (some ⟨r, 0, none⟩)] w (NuP r s a w) := by
  have HH := Lib.hid h
  clear h
  go_enter Tryz.func104, Tryz.ntmps104
  go_wp2
  go_loopw [3, 4, 5] (fun nv pv i wr => ∃ k x q : Nat, k ≤ 4 ∧ i = .int .i64 (k : Int) ∧ nv = .int .i64 (x : Int) ∧ pv = .int .i64 (q : Int) ∧ q = 128 ^ k ∧ ((rest s a).take k).length = k ∧ x = lo ((rest s a).take k) ∧ (∀ b ∈ (rest s a).take k, 128 ≤ b.toNat) ∧ RdD wr r s (a + k) ∧ Only (fun k => k = r) w wr) (fun _ _ i _ => 4 - (intOf i).toNat)
  case atStart => exact ⟨0, 0, 1, by omega, rfl, rfl, rfl, rfl, by simp, by simp [lo], by simp, HH.out, Only.refl _ _⟩
  case round =>
    obtain ⟨k, x, q, hk, rfl, rfl, rfl, hq, htl, hx, hall, hrd, hon⟩ := hrel
    have HRD := Lib.hid hrd
    have HON := Lib.hid hon
    have HA := Lib.hid hall
    have HTL := Lib.hid htl
    have HX := Lib.hid hx
    have hxl : x < q := by
      have := lo_lt ((rest s a).take k)
      rw [htl] at this
      omega
    obtain ⟨c0, c1, f0, f1⟩ := hrd.cells
    have c1' : wr.cell? ⟨r, 1, none⟩ = some (.int .i64 ((a + k : Nat) : Int)) := c1
    obtain ⟨T, hT⟩ : ∃ T, a + k = T := ⟨_, rfl⟩
    rw [hT] at c1'
    have hTb : T ≤ 4294967300 := by omega
    clear hrd hon hall htl hx c1
    by_cases hk4 : k < 4
    · have hki : (k : Int) < 4 := by omega
      have hq4 : q ≤ 2097152 ∧ 1 ≤ q ∧ 128 ^ (k + 1) = q * 128 := by
        rw [Nat.pow_succ, ← hq]
        have hk5 : k = 0 ∨ k = 1 ∨ k = 2 ∨ k = 3 := by omega
        refine ⟨?_, ?_, rfl⟩ <;> rcases hk5 with rfl | rfl | rfl | rfl <;> simp at hq <;> omega
      obtain ⟨hq1, hq2, hq3⟩ := hq4
      have HQ3 := Lib.hid hq3
      have HQ := Lib.hid hq
      clear hq3 hq
      have w1 : IntKind.i64.wrap ((T : Int) + 1) = ((T + 1 : Nat) : Int) := by rw [IntKind.wrap_i64]; omega
      by_cases hin : T < s.size
      · have hini : (T : Int) < (s.size : Int) := by omega
        have hcb := UInt8.toNat_lt s[T]
        obtain ⟨B, hB⟩ : ∃ B, s[T].toNat = B := ⟨_, rfl⟩
        obtain ⟨C, hC⟩ : ∃ C, B % 128 = C := ⟨_, rfl⟩
        have e0 : (B : Int).tmod 128 = (C : Int) := by rw [Int.tmod_eq_emod_of_nonneg (by omega)]; omega
        have e1 : (B : Int) % 128 = (C : Int) := by omega
        have hqc : q * C ≤ q * 127 := Nat.mul_le_mul_left q (by omega)
        obtain ⟨Y, hY⟩ : ∃ Y, q * C = Y := ⟨_, rfl⟩
        have e2 : (q : Int) * (C : Int) = (Y : Int) := by rw [← hY]; simp
        have e3 : IntKind.i64.wrap (Y : Int) = (Y : Int) := by rw [IntKind.wrap_i64]; omega
        have e4 : IntKind.i64.wrap ((x : Int) + (Y : Int)) = ((x + Y : Nat) : Int) := by rw [IntKind.wrap_i64]; omega
        have e5 : IntKind.i64.wrap ((q : Int) * 128) = ((q * 128 : Nat) : Int) := by rw [IntKind.wrap_i64]; omega
        have e6 : IntKind.i64.wrap (B : Int) = (B : Int) := by rw [IntKind.wrap_i64]; omega
        have e7 : IntKind.i64.wrap (C : Int) = (C : Int) := by rw [IntKind.wrap_i64]; omega
        have hin2 : a + k < s.size := by omega
        have hbyte : s[a + k].toNat = B := by simp only [hT]; exact hB
        have HLO : Hid (x + Y = lo ((rest s a).take (k + 1))) := by
          show x + Y = _
          rw [rest_take hin2, lo_more _ k _ HTL.out, ← HX.out, hbyte, hC, ← HQ.out, hY]
        have HL1 : Hid (((rest s a).take (k + 1)).length = k + 1) := by
          show _ = _
          rw [List.length_take, rest_len]
          omega
        have hYq : x + Y < q * 128 := by omega
        by_cases hb : B < 128
        · have hbi : (B : Int) < 128 := by omega
          have HV : Hid (Rd num (fun m => m < 2097152) (rest s a) (x + Y) (rest s (a + (k + 1)))) := by
            intro m y hm e
            obtain ⟨q1, q2⟩ := num_front s[a + k] (rest s (a + (k + 1))) y (by rw [hbyte]; exact hb) ((rest s a).take k) m hm HA.out (by rw [← e]; exact rest_split hin2)
            refine ⟨?_, q2.symm⟩
            rw [HLO.out, rest_take hin2, ← q1]
            exact lo_num hm
          rw [hB] at hcb
          clear hC hY hbyte
          go_wp2
          go_quiet (fail)
          go_wp2
          go_quiet (fail)
          go_wp2
          go_ret
          refine ⟨x + Y, a + (k + 1), rfl, by omega, HRD.out.set (by simp; omega), by omega, HV.out, ?_⟩
          exact Only.setCell (Z := fun k => k = r) (HON.out.trans (Only.of (quiet_below ⟨_, rfl⟩))) (p := ⟨r, 1, none⟩) rfl _
        · have hbi : ¬ (B : Int) < 128 := by omega
          have HA1 : Hid (∀ b ∈ (rest s a).take (k + 1), 128 ≤ b.toNat) := by
            show ∀ b ∈ (rest s a).take (k + 1), 128 ≤ b.toNat
            rw [rest_take hin2]
            intro b hb'
            rcases List.mem_append.1 hb' with hb' | hb'
            · exact HA.out b hb'
            · rw [List.mem_singleton.1 hb', hbyte]
              omega
          rw [hB] at hcb
          clear hC hY hbyte
          go_wp2
          go_quiet (fail)
          go_wp2
          go_quiet (fail)
          go_wp2
          go_roundw
          case rel =>
            refine ⟨k + 1, x + Y, q * 128, by omega, by go_num, by simp, by simp, HQ3.out.symm, HL1.out, HLO.out, HA1.out, HRD.out.set (by simp; omega), ?_⟩
            exact Only.setCell (Z := fun k => k = r) (HON.out.trans (Only.of (quiet_below ⟨_, rfl⟩))) (p := ⟨r, 1, none⟩) rfl _
          case measure => simp [intOf]; omega
      · have hini : ¬ (T : Int) < (s.size : Int) := by omega
        have e4 : IntKind.i64.wrap (x : Int) = (x : Int) := by rw [IntKind.wrap_i64]; omega
        have HV : Hid (Rd num (fun m => m < 2097152) (rest s a) x (rest s (a + (k + 1)))) := by
          intro m y hm e
          exfalso
          obtain ⟨b, hb, hb2⟩ := num_has hm
          have h1 := HA.out b (by rw [List.take_of_length_le (by rw [rest_len]; omega), e]; exact List.mem_append_left _ hb)
          omega
        go_wp2
        go_quiet (fail)
        go_wp2
        go_ret
        refine ⟨x, a + (k + 1), rfl, by omega, HRD.out.set (by simp; omega), by omega, HV.out, ?_⟩
        exact Only.setCell (Z := fun k => k = r) (HON.out.trans (Only.of (quiet_below ⟨_, rfl⟩))) (p := ⟨r, 1, none⟩) rfl _
    · have hk' : k = 4 := by omega
      subst hk'
      have hki : ¬ ((4 : Nat) : Int) < 4 := by omega
      have HV : Hid (Rd num (fun m => m < 2097152) (rest s a) x (rest s (a + 4))) := by
        intro m y hm e
        exfalso
        obtain ⟨b, hb, hb2⟩ := num_has hm
        have h1 := HA.out b (by
          have hl := num_len m
          rw [e, List.take_append]
          rw [List.take_of_length_le (by omega)]
          exact List.mem_append_left _ hb)
        omega
      go_wp2
      go_ret
      exact ⟨x, a + 4, rfl, by omega, HRD.out, by omega, HV.out, HON.out⟩
end Go.Proofs.YtkgkkcefnonejaaGreat
/- Walks of layer 8: the document's reader: texts, how many, lists of numbers. -/
namespace Go.Proofs.YtkgkkcefnonejaaGreat
open Go.RowKit

/-- What is told of a text. -/
def TeP (r : Nat) (s : ByteArray) (a : Nat) (w : World) (e : Ending) (w' : World) : Prop := ∃ (x : ByteArray) (a' : Nat), e = .returned (.string x) ∧ RdD w' r s a' ∧ a' ≤ max a s.size + 4 ∧ Rd txt (fun x => x.size < 2097152) (rest s a) x (rest s a') ∧ Only (fun k => k = r) w w'
theorem rest_end {s : ByteArray} {a : Nat} (h : s.size ≤ a) : rest s a = [] := List.eq_nil_of_length_eq_zero (by rw [rest_len]; omega)
theorem empty_of {x : ByteArray} (h : x.size = 0) : (⟨#[]⟩ : ByteArray) = x := bs_inj (by
  have : (bs x).length = 0 := by rw [bs_len]; exact h
  rw [List.eq_nil_of_length_eq_zero this]
  rfl)
theorem rest_cut {s : ByteArray} {a n : Nat} : bs (s.extract a (a + n)) = (rest s a).take n := by
  simp [bs, rest]
set_option maxHeartbeats 8000000 in
set_option maxRecDepth 100000 in
theorem dtext_any (r : Nat) (s : ByteArray) (a : Nat) (w : World) (h : RdD w r s a) (hs : s.size ≤ 2147483647) (ha : a ≤ 4294967296) :
    Calls Tryz.prog 105 #[.pointer (some ⟨r, 0, none⟩)] w (TeP r s a w) := by
  have HU := Lib.hid (dnum_any r s a w h hs ha)
  clear h
  go_enter Tryz.func105, Tryz.ntmps105
  go_wp2_with fail
  refine HU.out.mono ?_
  rintro e w1 ⟨n, a1, rfl, hn, hr1, ha1, hrd, ho1⟩
  have HR1 := Lib.hid hr1
  have HO1 := Lib.hid ho1
  have HD1 := Lib.hid hrd
  obtain ⟨c0, c1, f0, f1⟩ := hr1.cells
  clear hr1 ho1 hrd HU
  have w0 : IntKind.i64.wrap ((s.size : Int) + 1) = ((s.size + 1 : Nat) : Int) := by rw [IntKind.wrap_i64]; omega
  by_cases g1 : s.size < a1
  · have g1i : (s.size : Int) < (a1 : Int) := by omega
    have HV : Hid (Rd txt (fun x => x.size < 2097152) (rest s a) (⟨#[]⟩ : ByteArray) (rest s (s.size + 1))) := by
      intro x y hx e
      rw [txt, List.append_assoc] at e
      obtain ⟨_, e2⟩ := HD1.out x.size (bs x ++ y) hx e
      rw [rest_end (by omega)] at e2
      have e3 := congrArg List.length e2
      rw [List.length_nil, List.length_append, bs_len] at e3
      exact ⟨empty_of (by omega), by rw [rest_end (by omega)]; exact (List.eq_nil_of_length_eq_zero (by omega)).symm⟩
    go_wp2
    go_quiet (fail)
    go_wp2
    go_ret
    refine ⟨_, s.size + 1, rfl, HR1.out.set (by simp), by omega, HV.out, ?_⟩
    exact Only.setCell (Z := fun k => k = r) (HO1.out.trans (Only.of (quiet_below ⟨_, rfl⟩))) (p := ⟨r, 1, none⟩) rfl _
  · have g1i : ¬ (s.size : Int) < (a1 : Int) := by omega
    have g1d : decide ((s.size : Int) < (a1 : Int)) = false := decide_eq_false g1i
    have w1' : IntKind.i64.wrap ((s.size : Int) - (a1 : Int)) = (s.size : Int) - (a1 : Int) := by rw [IntKind.wrap_i64]; omega
    by_cases g2 : s.size - a1 < n
    · have g2i : (s.size : Int) - (a1 : Int) < (n : Int) := by omega
      have HV : Hid (Rd txt (fun x => x.size < 2097152) (rest s a) (⟨#[]⟩ : ByteArray) (rest s (s.size + 1))) := by
        intro x y hx e
        rw [txt, List.append_assoc] at e
        obtain ⟨e1, e2⟩ := HD1.out x.size (bs x ++ y) hx e
        have e3 := congrArg List.length e2
        rw [rest_len, List.length_append, bs_len] at e3
        omega
      go_wp2
      go_quiet (fail)
      go_wp2
      go_ret
      refine ⟨_, s.size + 1, rfl, HR1.out.set (by simp), by omega, HV.out, ?_⟩
      exact Only.setCell (Z := fun k => k = r) (HO1.out.trans (Only.of (quiet_below ⟨_, rfl⟩))) (p := ⟨r, 1, none⟩) rfl _
    · have g2i : ¬ (s.size : Int) - (a1 : Int) < (n : Int) := by omega
      obtain ⟨T, hT⟩ : ∃ T, a1 + n = T := ⟨_, rfl⟩
      have w2 : IntKind.i64.wrap ((a1 : Int) + (n : Int)) = (T : Int) := by rw [IntKind.wrap_i64]; omega
      have hTs : T ≤ s.size := by omega
      have hTi : (T : Int) ≤ (s.size : Int) := by omega
      have hT0 : (0 : Int) ≤ (T : Int) := by omega
      have haT : a1 ≤ T := by omega
      have haTi : (a1 : Int) ≤ (T : Int) := by omega
      have ha0 : (0 : Int) ≤ (a1 : Int) := by omega
      have HV : Hid (Rd txt (fun x => x.size < 2097152) (rest s a) (s.extract a1 T) (rest s T)) := by
        intro x y hx e
        rw [txt, List.append_assoc] at e
        obtain ⟨e1, e2⟩ := HD1.out x.size (bs x ++ y) hx e
        rw [← hT, e1]
        refine ⟨bs_inj ?_, ?_⟩
        · rw [rest_cut, e2, ← bs_len x, List.take_left]
        · rw [← rest_drop, e2, ← bs_len x, List.drop_left]
      clear hT
      go_wp2
      go_quiet (fail)
      go_wp2
      go_quiet (fail)
      go_wp2
      go_ret
      refine ⟨_, T, rfl, HR1.out.set (by first | rfl | simp), by omega, HV.out, ?_⟩
      exact Only.setCell (Z := fun k => k = r) (HO1.out.trans (Only.of (quiet_below ⟨_, rfl⟩))) (p := ⟨r, 1, none⟩) rfl _
/-- What is told of how many there are. -/
def MaP (r : Nat) (s : ByteArray) (a M : Nat) (w : World) (e : Ending) (w' : World) : Prop := ∃ (n a' : Nat), e = .returned (.int .i64 (n : Int)) ∧ n ≤ M ∧ RdD w' r s a' ∧ a' ≤ a + 4 ∧ Rd num (fun m => m ≤ M ∧ m < 2097152) (rest s a) n (rest s a') ∧ Only (fun k => k = r) w w'
set_option maxHeartbeats 2000000 in
theorem many_any (r : Nat) (s : ByteArray) (a M : Nat) (w : World) (h : RdD w r s a) (hs : s.size ≤ 2147483647) (ha : a ≤ 4294967296) :
    Calls Tryz.prog 57 #[.pointer (some ⟨r, 0, none⟩), .int .i64 (M : Int)] w (MaP r s a M w) := by
  have HU := Lib.hid (dnum_any r s a w h hs ha)
  clear h
  go_enter Tryz.func57, Tryz.ntmps57
  go_wp2_with fail
  refine HU.out.mono ?_
  rintro e w1 ⟨n, a1, rfl, hn, hr1, ha1, hrd, ho1⟩
  have HR1 := Lib.hid hr1
  have HO1 := Lib.hid ho1
  have HD1 := Lib.hid hrd
  clear hr1 ho1 hrd HU
  by_cases g : M < n
  · have gi : (M : Int) < (n : Int) := by omega
    go_wp2
    go_ret
    refine ⟨M, a1, rfl, Nat.le_refl _, HR1.out, ha1, fun m y hm e => ?_, HO1.out⟩
    obtain ⟨e1, _⟩ := HD1.out m y hm.2 e
    omega
  · have gi : ¬ (M : Int) < (n : Int) := by omega
    go_wp2
    go_ret
    exact ⟨n, a1, rfl, by omega, HR1.out, ha1, fun m y hm e => HD1.out m y hm.2 e, HO1.out⟩
theorem rdI_of {s : ByteArray} {a n a' : Nat} (h : Rd num (fun m => m < 2097152) (rest s a) n (rest s a')) : Rd numI (fun x => 0 ≤ x ∧ x < 2097152) (rest s a) ((n : Nat) : Int) (rest s a') := by
  intro x y hx e
  obtain ⟨e1, e2⟩ := h x.toNat y (by omega) e
  exact ⟨by omega, e2⟩

/-- What is told of numbers. -/
def NsP (r : Nat) (s : ByteArray) (a : Nat) (w : World) (e : Ending) (w' : World) : Prop := ∃ (v : Value) (l : List Int) (a' : Nat), e = .returned v ∧ OwnR 1 3 IntR w' w.heap.size v l ∧ RdD w' r s a' ∧ a' ≤ a + 36 ∧ Rd (lst numI) (fun L => L.length ≤ 8 ∧ ∀ x ∈ L, 0 ≤ x ∧ x < 2097152) (rest s a) l (rest s a') ∧ Only (fun k => k = r) w w'
set_option maxHeartbeats 8000000 in
set_option maxRecDepth 100000 in
theorem dnums_any (r : Nat) (s : ByteArray) (a : Nat) (w : World) (h : RdD w r s a) (hs : s.size ≤ 2147483647) (ha : a ≤ 4294960000) :
    Calls Tryz.prog 106 #[.pointer (some ⟨r, 0, none⟩)] w (NsP r s a w) := by
  obtain ⟨i0, hi, hz0, hz1, hz2⟩ := info_parts Tryz.infoInt
  have HU := Lib.hid (many_any r s a 8 w h hs (by omega))
  clear h
  go_enter Tryz.func106, Tryz.ntmps106
  go_wp2_with fail
  refine HU.out.mono ?_
  rintro e w1 ⟨n, a1, rfl, hn, hr1, ha1, hrd, ho1⟩
  have HR1 := Lib.hid hr1
  have HO1 := Lib.hid ho1
  have HD1 := Lib.hid hrd
  clear hr1 ho1 hrd HU
  go_wp2
  go_loopw [3, 5] (fun v i wr => ∃ (k : Nat) (l : List Int) (a2 : Nat), k ≤ n ∧ i = .int .i64 k ∧ l.length = k ∧ OwnR 1 3 IntR wr w.heap.size v l ∧ RdD wr r s a2 ∧ a2 ≤ a + 4 + 4 * k ∧ (∀ L y, (L.length ≤ 8 ∧ ∀ x ∈ L, 0 ≤ x ∧ x < 2097152) → rest s a = lst numI L ++ y → n = L.length ∧ l = L.take k ∧ rest s a2 = (L.drop k).flatMap numI ++ y) ∧ Only (fun k => k = r) w wr) (fun _ i _ => n - (intOf i).toNat)
  case atStart => exact ⟨0, [], a1, Nat.zero_le _, rfl, rfl, OwnR.nil _ _ _ _ _, HR1.out, by omega, rd_start (by omega) HD1.out, HO1.out⟩
  case round =>
    clear HR1 HD1 HO1
    obtain ⟨k, l, a2, hk, rfl, hlen, hown, hr2, ha2, hspec, ho⟩ := hrel
    have HR2 := Lib.hid hr2
    have HSP := Lib.hid hspec
    have HOn := Lib.hid ho
    have hsz := ho.size
    obtain ⟨pv, cv, rfl, -⟩ := hown.form
    rw [hlen] at hown
    obtain ⟨ps, p1, p2, p3⟩ := hown
    rw [hlen] at p3
    have P1 := Lib.hid p1
    have P2 := Lib.hid p2
    have P3 := Lib.hid p3
    have HLN := Lib.hid hlen
    rw [hlen]
    clear hr2 hspec ho p1 p2 p3 hlen
    by_cases hlt : k < n
    · have hlti : (k : Int) < (n : Int) := by omega
      go_wp2_with fail
      refine (dnum_any r s a2 wr HR2.out hs (by omega)).mono ?_
      rintro e w2 ⟨m, a3, rfl, hm, hr3, ha3, hrd3, ho3⟩
      have hz3 := ho3.size
      have HSP2 := Lib.hid (rd_step hlt HSP.out (rdI_of hrd3))
      have hown2 := own_only P3.out HR2.out ho3 (by decide)
      have HO3 := Lib.hid ho3
      have HR3 := Lib.hid hr3
      clear hr3 hrd3 ho3 HSP
      go_wp2_with (first | (at_builtin; refine wpList_append_own _ rfl _ _ 43 rfl w.heap.size 3 i0 (.int .i64 0) 1 8 Tryz.underlying43 hi hz0 hz1 hz2 rfl (by decide) _ k (ps.flatMap (·.2)) rfl (hown2.alloc _) ⟨w2.heap.size, 0, none⟩ 1 1 [.int .i64 (m : Int)] rfl rfl (cells_alloc _ _ _) (by intro u hu; simp only [List.mem_cons, List.not_mem_nil, or_false] at hu; rcases hu with rfl <;> rfl) (by unfold maxLen; omega) (by omega) (by simp; omega) ?_; intro v' w3 hown3 hgrow3 _))
      have HG := Lib.hid hgrow3
      have HO4 := Lib.hid hown3
      have HOW := Lib.hid hown2
      have HR4 : Hid (RdD w3 r s a3) := grown_other (HOW.out.alloc _) HG.out (heap_of HR3.out ((Below.refl _ _).alloc (Nat.le_refl _) _)) (by decide)
      clear hown3 hgrow3 hown2
      go_wp2
      go_roundw
      case rel =>
        refine ⟨k + 1, l ++ [(m : Int)], a3, by omega, by go_num, by rw [List.length_append, HLN.out]; rfl, ?_, HR4.out, by omega, HSP2.out, ?_⟩
        · refine OwnR.push (n := 1) P1.out P2.out (fun _ _ h => h) (us := [.int .i64 (m : Int)]) rfl rfl ?_
          rw [HLN.out]
          exact HO4.out
        · exact only_base ((((HOn.out.mono (fun k h => Or.inl h)).trans (HO3.out.mono (fun k h => Or.inl h))).alloc _).grown HG.out (fun k hk => Or.inr (own_ge HOW.out k hk)))
      case measure => simp [intOf]; omega
    · have hlti : ¬ (k : Int) < (n : Int) := by omega
      have hk' : k = n := by omega
      subst hk'
      have HE := Lib.hid (rd_end HSP.out)
      go_wp2
      go_ret
      refine ⟨_, l, a2, rfl, ⟨ps, P1.out, P2.out, by rw [HLN.out]; exact P3.out⟩, HR2.out, by omega, HE.out, HOn.out⟩
end Go.Proofs.YtkgkkcefnonejaaGreat
/- Walks of layer 8: the document's reader: tables. -/
namespace Go.Proofs.YtkgkkcefnonejaaGreat
open Go.RowKit

/-- What is made of what is read, in its box; what is handed back; the reader. -/
structure Tq (T : TypeId) (w W : World) (r : Nat) (s : ByteArray) (a : Nat) (z0 z1 z2 z3 z4 a0 a1 a2 a3 a4 : Value) : Prop where
  ret : W.heap[w.heap.size]? = some (.cells #[z0, z1, z2, z3, z4] T (0, 0))
  bx : W.heap[w.heap.size + 1]? = some (.cells #[a0, a1, a2, a3, a4] T (0, 0))
  rd : RdD W r s a
  only : Only (fun k => k = r) w W
  ne : r < w.heap.size
section
variable {T : TypeId} {w W W' : World} {r : Nat} {s : ByteArray} {a a' : Nat} {z0 z1 z2 z3 z4 a0 a1 a2 a3 a4 : Value}
theorem Tq.lt (h : Tq T w W r s a z0 z1 z2 z3 z4 a0 a1 a2 a3 a4) : w.heap.size + 1 < W.heap.size := (Array.getElem?_eq_some_iff.1 h.bx).1
theorem Tq.read (h : Tq T w W r s a z0 z1 z2 z3 z4 a0 a1 a2 a3 a4) (hr : RdD W' r s a') (ho : Only (fun k => k = r) W W') : Tq T w W' r s a' z0 z1 z2 z3 z4 a0 a1 a2 a3 a4 := by
  have hl := h.lt
  have hn := h.ne
  exact ⟨(ho.block _ (by omega) (by omega)).trans h.ret, (ho.block _ (by omega) (by omega)).trans h.bx, hr, h.only.trans ho, hn⟩
theorem Tq.set (h : Tq T w W r s a z0 z1 z2 z3 z4 a0 a1 a2 a3 a4) (i : Nat) (u : Value) {b0 b1 b2 b3 b4 : Value} (e : (#[a0, a1, a2, a3, a4] : Array Value).setIfInBounds i u = #[b0, b1, b2, b3, b4]) : Tq T w (W.setCell ⟨w.heap.size + 1, i, none⟩ u) r s a z0 z1 z2 z3 z4 b0 b1 b2 b3 b4 := by
  have hn := h.ne
  refine ⟨set_heap h.ret (by omega), ?_, set_heap h.rd (by omega), ?_, hn⟩
  · have := heap_setCell_at (i := i) h.bx u
    rw [e] at this
    exact this
  · exact only_base ((h.only.mono fun _ h => Or.inl h).setCell (p := ⟨w.heap.size + 1, i, none⟩) (Or.inr (by show w.heap.size ≤ w.heap.size + 1; omega)) u)
theorem Tq.later (h : Tq T w W r s a z0 z1 z2 z3 z4 a0 a1 a2 a3 a4) (hb : Below W.heap.size W W') : Tq T w W' r s a z0 z1 z2 z3 z4 a0 a1 a2 a3 a4 :=
  ⟨heap_of h.ret hb, heap_of h.bx hb, h.rd.later hb, h.only.later hb, h.ne⟩
theorem Tq.grown (h : Tq T w W r s a z0 z1 z2 z3 z4 a0 a1 a2 a3 a4) {row : Option Nat} (hg : W.grownBy W' row) (hr : ∀ k, row = some k → w.heap.size + 2 ≤ k) : Tq T w W' r s a z0 z1 z2 z3 z4 a0 a1 a2 a3 a4 := by
  have hl := h.lt
  have hn := h.ne
  refine ⟨(hg.block _ (by omega) (fun e => by have := hr _ e.symm; omega)).trans h.ret, (hg.block _ (by omega) (fun e => by have := hr _ e.symm; omega)).trans h.bx, (hg.block _ (by omega) (fun e => by have := hr _ e.symm; omega)).trans h.rd, ?_, hn⟩
  exact only_base ((h.only.mono fun _ h => Or.inl h).grown hg (fun k hk => Or.inr (by have := hr k hk; omega)))
theorem Tq.begin (T : TypeId) (w : World) (r : Nat) (s : ByteArray) (a : Nat) (h : RdD w r s a) (z0 z1 z2 z3 z4 : Value) : Tq T w ((w.alloc (.cells #[z0, z1, z2, z3, z4] T)).alloc (.cells #[z0, z1, z2, z3, z4] T)) r s a z0 z1 z2 z3 z4 z0 z1 z2 z3 z4 := by
  have h1 : Below w.heap.size w (w.alloc (.cells #[z0, z1, z2, z3, z4] T)) := (Below.refl _ _).alloc (Nat.le_refl _) _
  have h2 : Below (w.heap.size + 1) (w.alloc (.cells #[z0, z1, z2, z3, z4] T)) ((w.alloc (.cells #[z0, z1, z2, z3, z4] T)).alloc (.cells #[z0, z1, z2, z3, z4] T)) := (Below.refl _ _).alloc (by simp) _
  have hb : Below w.heap.size w ((w.alloc (.cells #[z0, z1, z2, z3, z4] T)).alloc (.cells #[z0, z1, z2, z3, z4] T)) := h1.trans (h2.mono (by omega))
  refine ⟨(h2.block _ (by omega)).trans (heap_alloc_new w _), ?_, h.later hb, Only.of hb, h.lt⟩
  have := heap_alloc_new (w.alloc (.cells #[z0, z1, z2, z3, z4] T)) (.cells #[z0, z1, z2, z3, z4] T (0, 0))
  simpa using this
end
theorem tri_of {w : World} {x : Nat} {a b c : Value} {t : TypeId} (h : w.heap[x]? = some (.cells #[a, b, c] t (0, 0))) : (w.cell? ⟨x, 0, none⟩ = some a ∧ w.cell? ⟨x, 1, none⟩ = some b ∧ w.cell? ⟨x, 2, none⟩ = some c) ∧ ∀ o, w.frozen? ⟨x, o, none⟩ = false :=
  ⟨⟨by simp [World.cell?, h], by simp [World.cell?, h], by simp [World.cell?, h]⟩, fun o => by simp [World.frozen?, h]⟩
theorem pair_of {w : World} {x : Nat} {a b : Value} {t : TypeId} (h : w.heap[x]? = some (.cells #[a, b] t (0, 0))) : (w.cell? ⟨x, 0, none⟩ = some a ∧ w.cell? ⟨x, 1, none⟩ = some b) ∧ ∀ o, w.frozen? ⟨x, o, none⟩ = false :=
  ⟨⟨by simp [World.cell?, h], by simp [World.cell?, h]⟩, fun o => by simp [World.frozen?, h]⟩
theorem only_new {w W : World} {r X : Nat} (h : Only (fun k => k = r) w W) (hX : w.heap.size ≤ X) (o : Nat) (u : Value) : Only (fun k => k = r) w (W.setCell ⟨X, o, none⟩ u) := only_base ((h.mono fun _ h => Or.inl h).setCell (p := ⟨X, o, none⟩) (Or.inr hX) u)
def okC (c : Col) : Prop := c.nm.size < 2097152 ∧ 0 ≤ c.ty ∧ c.ty < 2097152
def okX (x : Ix) : Prop := x.nm.size < 2097152 ∧ x.cols.length ≤ 8 ∧ ∀ p ∈ x.cols, 0 ≤ p ∧ p < 2097152
def okM (c : Pm) : Prop := c.nm.size < 2097152 ∧ 0 ≤ c.ty ∧ c.ty < 2097152
theorem rd_flag {s s' : List UInt8} {n : Nat} (h : Rd num (fun m => m < 2097152) s n s') {b : Bool} (hb : ((n : Int) == 1) = b) : Rd flag (fun _ => True) s b s' := by
  intro x y _ e
  rw [flag_num] at e
  obtain ⟨e1, e2⟩ := h _ y (by split <;> omega) e
  refine ⟨?_, e2⟩
  rw [← hb, e1]
  cases x <;> rfl
theorem rd_col {s0 s1 s2 s3 : List UInt8} {nm : ByteArray} {ty : Int} {b : Bool} (h1 : Rd txt (fun x => x.size < 2097152) s0 nm s1) (h2 : Rd numI (fun x => 0 ≤ x ∧ x < 2097152) s1 ty s2) (h3 : Rd flag (fun _ => True) s2 b s3) : Rd encCol okC s0 ⟨nm, ty, b⟩ s3 := by
  intro c y hc e
  simp only [encCol, List.append_assoc] at e
  obtain ⟨e1, e2⟩ := h1 _ _ hc.1 e
  obtain ⟨e3, e4⟩ := h2 _ _ hc.2 e2
  obtain ⟨e5, e6⟩ := h3 _ _ trivial e4
  exact ⟨by rw [e1, e3, e5], e6⟩
theorem rd_pm {s0 s1 s2 : List UInt8} {nm : ByteArray} {ty : Int} (h1 : Rd txt (fun x => x.size < 2097152) s0 nm s1) (h2 : Rd numI (fun x => 0 ≤ x ∧ x < 2097152) s1 ty s2) : Rd encPm okM s0 ⟨nm, ty⟩ s2 := by
  intro c y hc e
  simp only [encPm, List.append_assoc] at e
  obtain ⟨e1, e2⟩ := h1 _ _ hc.1 e
  obtain ⟨e3, e4⟩ := h2 _ _ hc.2 e2
  exact ⟨by rw [e1, e3], e4⟩
theorem rd_ix {s0 s1 s2 s3 : List UInt8} {nm : ByteArray} {l : List Int} {b : Bool} (h1 : Rd txt (fun x => x.size < 2097152) s0 nm s1) (h2 : Rd flag (fun _ => True) s1 b s2) (h3 : Rd (lst numI) (fun L => L.length ≤ 8 ∧ ∀ x ∈ L, 0 ≤ x ∧ x < 2097152) s2 l s3) : Rd encIx okX s0 ⟨nm, l, b⟩ s3 := by
  intro c y hc e
  simp only [encIx, List.append_assoc] at e
  obtain ⟨e1, e2⟩ := h1 _ _ hc.1 e
  obtain ⟨e3, e4⟩ := h2 _ _ trivial e2
  obtain ⟨e5, e6⟩ := h3 _ _ hc.2 e4
  exact ⟨by rw [e1, e3, e5], e6⟩
theorem rd_tb {s0 s1 s2 s3 s4 s5 : List UInt8} {nm : ByteArray} {cols : List Col} {key : List Int} {part : Int} {ixs : List Ix} (h1 : Rd txt (fun x => x.size < 2097152) s0 nm s1) (h2 : Rd (lst encCol) (fun L => L.length ≤ 16 ∧ ∀ c ∈ L, okC c) s1 cols s2) (h3 : Rd (lst numI) (fun L => L.length ≤ 8 ∧ ∀ x ∈ L, 0 ≤ x ∧ x < 2097152) s2 key s3) (h4 : Rd numI (fun x => 0 ≤ x ∧ x < 2097152) s3 part s4) (h5 : Rd (lst encIx) (fun L => L.length ≤ 4 ∧ ∀ x ∈ L, okX x) s4 ixs s5) : Rd encTb (fun t => mayTb t = true) s0 ⟨nm, cols, key, part, ixs⟩ s5 := by
  intro t y ht e
  have N := TbN.of ht
  obtain ⟨q1, q2, q3, q4⟩ := mayTb_parts ht
  obtain ⟨k1, _⟩ := mayKey_parts q3
  simp only [encTb, List.append_assoc] at e
  obtain ⟨e1, e2⟩ := h1 _ _ N.nm e
  obtain ⟨e3, e4⟩ := h2 _ _ ⟨(mayCols_nm q2).1.2, N.col⟩ e2
  obtain ⟨e5, e6⟩ := h3 _ _ ⟨(mayPl_size k1).2, N.keys⟩ e4
  obtain ⟨e7, e8⟩ := h4 _ _ N.part e6
  obtain ⟨e9, e10⟩ := h5 _ _ ⟨(mayIxs_nm q4).1, fun x hx => ⟨(N.ix x hx).1, (mayPl_size ((mayIxs_nm q4).2 x hx).2).2, (N.ix x hx).2.2⟩⟩ e8
  exact ⟨by rw [e1, e3, e5, e7, e9], e10⟩
theorem rd_pc {s0 s1 s2 s3 s4 s5 : List UInt8} {nm : ByteArray} {prms : List Pm} {body : List ByteArray} {rows bytes : Int} (h1 : Rd txt (fun x => x.size < 2097152) s0 nm s1) (h2 : Rd (lst encPm) (fun L => L.length ≤ 8 ∧ ∀ c ∈ L, okM c) s1 prms s2) (h3 : Rd (lst txt) (fun L => L.length ≤ 8 ∧ ∀ x ∈ L, x.size < 2097152) s2 body s3) (h4 : Rd numI (fun x => 0 ≤ x ∧ x < 2097152) s3 rows s4) (h5 : Rd numI (fun x => 0 ≤ x ∧ x < 2097152) s4 bytes s5) : Rd encPc (fun t => mayPc t = true) s0 ⟨nm, prms, body, rows, bytes⟩ s5 := by
  intro t y ht e
  have N := PcN.of ht
  obtain ⟨q1, q2, q3, _⟩ := mayPc_parts ht
  simp only [encPc, List.append_assoc] at e
  obtain ⟨e1, e2⟩ := h1 _ _ N.nm e
  obtain ⟨e3, e4⟩ := h2 _ _ ⟨(mayPms_nm q2).1, N.prm⟩ e2
  obtain ⟨e5, e6⟩ := h3 _ _ ⟨(mayBody_src q3).1.2, N.src⟩ e4
  obtain ⟨e7, e8⟩ := h4 _ _ N.rows e6
  obtain ⟨e9, e10⟩ := h5 _ _ N.bytes e8
  exact ⟨by rw [e1, e3, e5, e7, e9], e10⟩
/-- What is told of a table. -/
def TbP (r : Nat) (s : ByteArray) (a : Nat) (w : World) (e : Ending) (w' : World) : Prop := ∃ (t : Tb) (us : List Value) (a' : Nat), e = .returned (.agg us.toArray) ∧ TbO w' w.heap.size t us ∧ RdD w' r s a' ∧ a' ≤ max a s.size + 600 ∧ Rd encTb (fun t => mayTb t = true) (rest s a) t (rest s a') ∧ Only (fun k => k = r) w w'
set_option maxHeartbeats 64000000 in
set_option maxRecDepth 100000 in
theorem dtable_any (r : Nat) (s : ByteArray) (a : Nat) (w : World) (h : RdD w r s a) (hs : s.size ≤ 2147483647) (ha : a ≤ 4294950000) :
    Calls Tryz.prog 58 #[.pointer (some ⟨r, 0, none⟩)] w (TbP r s a w) := by
  obtain ⟨i0, hi, hz0, hz1, hz2⟩ := info_parts Tryz.infoCol
  obtain ⟨j0, hj, hy0, hy1, hy2⟩ := info_parts Tryz.infoIx
  have Q0 := Lib.hid (Tq.begin 46 w r s a h (.string ⟨#[]⟩) (.slice none 0 0) (.slice none 0 0) (.int .i64 0) (.slice none 0 0))
  obtain ⟨D, hD⟩ : ∃ D, max a s.size = D := ⟨_, rfl⟩
  clear h
  obtain ⟨⟨r0, r1, r2, r3, r4⟩, rf⟩ := ten_of Q0.out.ret
  obtain ⟨⟨t0, t1, t2, t3, t4⟩, tf⟩ := ten_of Q0.out.bx
  go_enter Tryz.func58, Tryz.ntmps58
  go_wp2_with fail
  refine (dtext_any r s a _ Q0.out.rd hs (by omega)).mono ?_
  rintro e w1 ⟨x1, a1, rfl, hr, hl, hrd, ho⟩
  have HD1 := Lib.hid hrd
  have QP1 := Lib.hid (Q0.out.read hr ho)
  have gs1 := ho.size
  clear hr ho hrd r0 r1 r2 r3 r4 rf t0 t1 t2 t3 t4 tf
  obtain ⟨⟨r0, r1, r2, r3, r4⟩, rf⟩ := ten_of QP1.out.ret
  obtain ⟨⟨t0, t1, t2, t3, t4⟩, tf⟩ := ten_of QP1.out.bx
  obtain ⟨S1, hS1⟩ : ∃ S, w1.setCell ⟨w.heap.size + 1, 0, none⟩ (.string x1) = S := ⟨_, rfl⟩
  have QS1 : Hid (Tq 46 w S1 r s a1 (.string ⟨#[]⟩) (.slice none 0 0) (.slice none 0 0) (.int .i64 0) (.slice none 0 0) (.string x1) (.slice none 0 0) (.slice none 0 0) (.int .i64 0) (.slice none 0 0)) := by
    show Tq _ _ _ _ _ _ _ _ _ _ _ _ _ _ _ _
    rw [← hS1]
    exact QP1.out.set 0 _ rfl
  go_wp2_with fail
  refine (many_any r s a1 16 _ QS1.out.rd hs (by omega)).mono ?_
  rintro e w2 ⟨x2, a2, rfl, hxb, hr, hl, hrd, ho⟩
  have HD2 := Lib.hid hrd
  have QP2 := Lib.hid (QS1.out.read hr ho)
  have gs2 := ho.size
  clear hr ho hrd r0 r1 r2 r3 r4 rf t0 t1 t2 t3 t4 tf
  obtain ⟨⟨r0, r1, r2, r3, r4⟩, rf⟩ := ten_of QP2.out.ret
  obtain ⟨⟨t0, t1, t2, t3, t4⟩, tf⟩ := ten_of QP2.out.bx
  go_wp2
  clear r0 r1 r2 r3 r4 rf t0 t1 t2 t3 t4 tf
  go_loopw [5] (fun i wz => ∃ (k : Nat) (l : List Col) (v : Value) (b : Nat), k ≤ x2 ∧ i = .int .i64 k ∧ l.length = k ∧ Tq 46 w wz r s b (.string ⟨#[]⟩) (.slice none 0 0) (.slice none 0 0) (.int .i64 0) (.slice none 0 0) (.string x1) v (.slice none 0 0) (.int .i64 0) (.slice none 0 0) ∧ OwnR 3 62 (ColR) wz (w.heap.size + 2) v l ∧ b ≤ D + 8 + 12 * k ∧ (∀ L y, (L.length ≤ 16 ∧ ∀ x ∈ L, okC x) → rest s a1 = lst encCol L ++ y → x2 = L.length ∧ l = L.take k ∧ rest s b = (L.drop k).flatMap encCol ++ y)) (fun i _ => x2 - (intOf i).toNat)
  case atStart => exact ⟨0, [], _, a2, Nat.zero_le _, rfl, rfl, QP2.out, OwnR.nil _ _ _ _ _, by omega, rd_start (by omega) HD2.out⟩
  case round =>
    rename World => R3
    obtain ⟨k, l3, v, b3, hk, rfl, hlen, hq, hown, hbb3, hspec⟩ := hrel
    have QR3 := Lib.hid hq
    have SP3 := Lib.hid hspec
    have HLN3 := Lib.hid hlen
    have hltq3 := hq.lt
    have hne3 := hq.ne
    obtain ⟨pv3, cv3, rfl, -⟩ := hown.form
    have OR3 := Lib.hid hown
    clear hq hspec hlen hown
    obtain ⟨⟨r0, r1, r2, r3, r4⟩, rf⟩ := ten_of QR3.out.ret
    obtain ⟨⟨t0, t1, t2, t3, t4⟩, tf⟩ := ten_of QR3.out.bx
    by_cases hlt3 : k < x2
    · have hlti3 : (k : Int) < (x2 : Int) := by omega
      go_wp2_with fail
      generalize hY0 : R3.alloc (.cells #[.string ⟨#[]⟩, .int .i64 0, .bool false] 62) = Y0
      have hb0 : Below R3.heap.size R3 Y0 := by rw [← hY0]; exact (Below.refl _ _).alloc (Nat.le_refl _) _
      have HX0 : Hid (Y0.heap[R3.heap.size]? = some (.cells #[.string ⟨#[]⟩, .int .i64 0, .bool false] 62 (0, 0))) := by show Y0.heap[R3.heap.size]? = _; rw [← hY0]; exact heap_alloc_new _ _
      have HO0 : Hid (Only (fun k => k = r) R3 Y0) := Only.of hb0
      have HR0 := Lib.hid (QR3.out.rd.later hb0)
      have gz0 : R3.heap.size < Y0.heap.size := by rw [← hY0]; simp
      clear hb0
      refine (dtext_any r s b3 Y0 HR0.out hs (by omega)).mono ?_
      rintro e w4 ⟨x4, a4, rfl, hr, hl4, hrd, ho⟩
      have HD4 := Lib.hid hrd
      have gs4 := ho.size
      have HO4 := Lib.hid (HO0.out.trans ho)
      have HX4 := Lib.hid ((ho.block _ (by omega) (by omega)).trans HX0.out)
      obtain ⟨⟨y0, y1, y2⟩, yf⟩ := tri_of HX4.out
      obtain ⟨Y4, hY4⟩ : ∃ Y, w4.setCell ⟨R3.heap.size, 0, none⟩ (.string x4) = Y := ⟨_, rfl⟩
      have HRs4 : Hid (RdD Y4 r s a4) := by show RdD _ _ _ _; rw [← hY4]; exact set_heap hr (by omega)
      have HOs4 : Hid (Only (fun k => k = r) R3 Y4) := by show Only _ _ _; rw [← hY4]; exact only_new HO4.out (Nat.le_refl _) _ _
      have HXs4 : Hid (Y4.heap[R3.heap.size]? = some (.cells #[.string x4, .int .i64 0, .bool false] 62 (0, 0))) := by show Y4.heap[R3.heap.size]? = _; rw [← hY4]; simpa using heap_setCell_at (i := 0) HX4.out (.string x4)
      have gz4 : w4.heap.size ≤ Y4.heap.size := by rw [← hY4]; simp
      clear hrd ho hr r0 r1 r2 r3 r4 rf t0 t1 t2 t3 t4 tf
      go_wp2_with fail
      refine (dnum_any r s a4 Y4 HRs4.out hs (by omega)).mono ?_
      rintro e w5 ⟨x5, a5, rfl, hxb5, hr, hl5, hrd, ho⟩
      have HD5 := Lib.hid hrd
      have gs5 := ho.size
      have HO5 := Lib.hid (HOs4.out.trans ho)
      have HX5 := Lib.hid ((ho.block _ (by omega) (by omega)).trans HXs4.out)
      obtain ⟨⟨y0, y1, y2⟩, yf⟩ := tri_of HX5.out
      obtain ⟨Y5, hY5⟩ : ∃ Y, w5.setCell ⟨R3.heap.size, 1, none⟩ (.int .i64 (x5 : Int)) = Y := ⟨_, rfl⟩
      have HRs5 : Hid (RdD Y5 r s a5) := by show RdD _ _ _ _; rw [← hY5]; exact set_heap hr (by omega)
      have HOs5 : Hid (Only (fun k => k = r) R3 Y5) := by show Only _ _ _; rw [← hY5]; exact only_new HO5.out (Nat.le_refl _) _ _
      have HXs5 : Hid (Y5.heap[R3.heap.size]? = some (.cells #[.string x4, .int .i64 (x5 : Int), .bool false] 62 (0, 0))) := by show Y5.heap[R3.heap.size]? = _; rw [← hY5]; simpa using heap_setCell_at (i := 1) HX5.out (.int .i64 (x5 : Int))
      have gz5 : w5.heap.size ≤ Y5.heap.size := by rw [← hY5]; simp
      clear hrd ho hr 
      go_wp2_with fail
      refine (dnum_any r s a5 Y5 HRs5.out hs (by omega)).mono ?_
      rintro e w6 ⟨x6, a6, rfl, hxb6, hr, hl6, hrd, ho⟩
      have HD6 := Lib.hid hrd
      have gs6 := ho.size
      have HO6 := Lib.hid (HOs5.out.trans ho)
      obtain ⟨bb6, hbe6⟩ : ∃ bb : Bool, ((x6 : Int) == 1) = bb := ⟨_, rfl⟩
      have HX6 := Lib.hid ((ho.block _ (by omega) (by omega)).trans HXs5.out)
      obtain ⟨⟨y0, y1, y2⟩, yf⟩ := tri_of HX6.out
      obtain ⟨Y6, hY6⟩ : ∃ Y, w6.setCell ⟨R3.heap.size, 2, none⟩ (.bool bb6) = Y := ⟨_, rfl⟩
      have HRs6 : Hid (RdD Y6 r s a6) := by show RdD _ _ _ _; rw [← hY6]; exact set_heap hr (by omega)
      have HOs6 : Hid (Only (fun k => k = r) R3 Y6) := by show Only _ _ _; rw [← hY6]; exact only_new HO6.out (Nat.le_refl _) _ _
      have HXs6 : Hid (Y6.heap[R3.heap.size]? = some (.cells #[.string x4, .int .i64 (x5 : Int), .bool bb6] 62 (0, 0))) := by show Y6.heap[R3.heap.size]? = _; rw [← hY6]; simpa using heap_setCell_at (i := 2) HX6.out (.bool bb6)
      have gz6 : w6.heap.size ≤ Y6.heap.size := by rw [← hY6]; simp
      clear hrd ho hr 
      have hQK := QR3.out.read HRs6.out HOs6.out
      rw [HLN3.out] at hQK
      have QK3 := Lib.hid hQK
      clear hQK
      obtain ⟨ps, p1, p2, p3⟩ := OR3.out
      rw [HLN3.out] at p3
      have P1 := Lib.hid p1
      have P2 := Lib.hid p2
      have hown2 := own_only p3 QR3.out.rd HOs6.out (by decide)
      have HOW := Lib.hid hown2
      have HGE := Lib.hid (own_ge hown2)
      have gzl : w.heap.size + 1 < Y6.heap.size := QK3.out.lt
      clear p1 p2 p3
      obtain ⟨⟨t0, t1, t2, t3, t4⟩, tf⟩ := ten_of QK3.out.bx
      obtain ⟨⟨hx0, hx1, hx2⟩, hxf⟩ := tri_of HXs6.out
      go_wp2_with (first | (at_builtin; refine wpList_append_own _ rfl _ _ 42 rfl (w.heap.size + 2) 62 i0 (.agg #[.string ⟨#[]⟩, .int .i64 0, .bool false]) 3 32 Tryz.underlying42 hi hz0 hz1 hz2 rfl (by decide) _ k (ps.flatMap (·.2)) rfl (hown2.alloc _) ⟨Y6.heap.size, 0, none⟩ 1 1 [.string x4, .int .i64 (x5 : Int), .bool bb6] rfl rfl (cells_alloc _ _ _) (by intro u hu; simp only [List.mem_cons, List.not_mem_nil, or_false] at hu; rcases hu with rfl | rfl | rfl <;> rfl) (by unfold maxLen; omega) (by omega) (by simp; omega) ?_; intro v' w9 hown3 hgrow3 _; obtain ⟨pn, cn, rfl⟩ := own_form hown3; (have HG := Lib.hid hgrow3); (have HO3 := Lib.hid hown3); (have Q9 := Lib.hid ((QK3.out.later ((Below.refl _ _).alloc (Nat.le_refl _) _)).grown hgrow3 HGE.out)); clear hown3 hgrow3 hown2 t0 t1 t2 t3 t4 tf; obtain ⟨⟨t0, t1, t2, t3, t4⟩, tf⟩ := ten_of Q9.out.bx))
      go_roundw
      case rel =>
        refine ⟨k + 1, l3 ++ [⟨x4, (x5 : Int), bb6⟩], (.slice pn (k + 1) cn), a6, by omega, by go_num, by rw [List.length_append, HLN3.out]; rfl, Q9.out.set 1 _ rfl, ?_, by omega, rd_step hlt3 SP3.out (rd_col HD4.out (rdI_of HD5.out) (rd_flag HD6.out hbe6))⟩
        · refine OwnR.push (n := 3) P1.out P2.out (fun _ _ h => h) (us := [.string x4, .int .i64 (x5 : Int), .bool bb6]) rfl rfl ?_
          rw [HLN3.out]
          exact ownsRow_setCell_below HO3.out (a := ⟨w.heap.size + 1, 1, none⟩) (by show w.heap.size + 1 < w.heap.size + 2; omega) _
      case measure => simp [intOf]; omega
    · have hlti3 : ¬ (k : Int) < (x2 : Int) := by omega
      have HE3 := Lib.hid (rd_end (n := x2) (l := l3) (by have := SP3.out; rwa [show k = x2 by omega] at this))
      go_wp2_with fail
      refine (dnums_any r s b3 _ QR3.out.rd hs (by omega)).mono ?_
      rintro e w7 ⟨v, x7, a7, rfl, hO, hr, hl, hrd, ho⟩
      have HD7 := Lib.hid hrd
      have QP7 := Lib.hid (QR3.out.read hr ho)
      have gs7 := ho.size
      have OC7 := Lib.hid (OR3.out.keeps (S := [62]) (R' := ColR) (Keeps.only QR3.out.rd ho (by decide)) (by simp) (fun _ _ h => h))
      have NB7 := Lib.hid (hO.mono (B' := w.heap.size + 2) (R' := IntR) (by have := QR3.out.lt; omega) (fun _ _ h => h))
      obtain ⟨pv7, cv7, rfl, -⟩ := hO.form
      clear hO
      clear hr ho hrd r0 r1 r2 r3 r4 rf t0 t1 t2 t3 t4 tf
      obtain ⟨⟨r0, r1, r2, r3, r4⟩, rf⟩ := ten_of QP7.out.ret
      obtain ⟨⟨t0, t1, t2, t3, t4⟩, tf⟩ := ten_of QP7.out.bx
      obtain ⟨S7, hS7⟩ : ∃ S, w7.setCell ⟨w.heap.size + 1, 2, none⟩ (.slice pv7 x7.length cv7) = S := ⟨_, rfl⟩
      have QS7 : Hid (Tq 46 w S7 r s a7 (.string ⟨#[]⟩) (.slice none 0 0) (.slice none 0 0) (.int .i64 0) (.slice none 0 0) (.string x1) (.slice pv3 l3.length cv3) (.slice pv7 x7.length cv7) (.int .i64 0) (.slice none 0 0)) := by
        show Tq _ _ _ _ _ _ _ _ _ _ _ _ _ _ _ _
        rw [← hS7]
        exact QP7.out.set 2 _ rfl
      have OCs7 : Hid (OwnR 3 62 (ColR) S7 (w.heap.size + 2) (.slice pv3 l3.length cv3) l3) := by
        show OwnR _ _ _ _ _ _ _
        rw [← hS7]
        exact OC7.out.keeps (S := [62]) (Keeps.low (Keeps.of (Below.refl _ _)) (by omega) _ _) (by simp) (fun _ _ h => h)
      have NS7 : Hid (OwnR 1 3 IntR S7 (w.heap.size + 2) (.slice pv7 x7.length cv7) x7) := by
        show OwnR _ _ _ _ _ _ _
        rw [← hS7]
        exact NB7.out.keeps (S := [3]) (Keeps.low (Keeps.of (Below.refl _ _)) (by omega) _ _) (by simp) (fun _ _ h => h)
      go_wp2_with fail
      refine (dnum_any r s a7 _ QS7.out.rd hs (by omega)).mono ?_
      rintro e w8 ⟨x8, a8, rfl, hxb, hr, hl, hrd, ho⟩
      have HD8 := Lib.hid hrd
      have QP8 := Lib.hid (QS7.out.read hr ho)
      have gs8 := ho.size
      have OC8 := Lib.hid (OCs7.out.keeps (S := [62]) (R' := ColR) (Keeps.only QS7.out.rd ho (by decide)) (by simp) (fun _ _ h => h))
      have OK8 := Lib.hid (NS7.out.keeps (S := [3]) (R' := IntR) (Keeps.only QS7.out.rd ho (by decide)) (by simp) (fun _ _ h => h))
      clear hr ho hrd r0 r1 r2 r3 r4 rf t0 t1 t2 t3 t4 tf
      obtain ⟨⟨r0, r1, r2, r3, r4⟩, rf⟩ := ten_of QP8.out.ret
      obtain ⟨⟨t0, t1, t2, t3, t4⟩, tf⟩ := ten_of QP8.out.bx
      obtain ⟨S8, hS8⟩ : ∃ S, w8.setCell ⟨w.heap.size + 1, 3, none⟩ (.int .i64 (x8 : Int)) = S := ⟨_, rfl⟩
      have QS8 : Hid (Tq 46 w S8 r s a8 (.string ⟨#[]⟩) (.slice none 0 0) (.slice none 0 0) (.int .i64 0) (.slice none 0 0) (.string x1) (.slice pv3 l3.length cv3) (.slice pv7 x7.length cv7) (.int .i64 (x8 : Int)) (.slice none 0 0)) := by
        show Tq _ _ _ _ _ _ _ _ _ _ _ _ _ _ _ _
        rw [← hS8]
        exact QP8.out.set 3 _ rfl
      have OCs8 : Hid (OwnR 3 62 (ColR) S8 (w.heap.size + 2) (.slice pv3 l3.length cv3) l3) := by
        show OwnR _ _ _ _ _ _ _
        rw [← hS8]
        exact OC8.out.keeps (S := [62]) (Keeps.low (Keeps.of (Below.refl _ _)) (by omega) _ _) (by simp) (fun _ _ h => h)
      have OKs8 : Hid (OwnR 1 3 (IntR) S8 (w.heap.size + 2) (.slice pv7 x7.length cv7) x7) := by
        show OwnR _ _ _ _ _ _ _
        rw [← hS8]
        exact OK8.out.keeps (S := [3]) (Keeps.low (Keeps.of (Below.refl _ _)) (by omega) _ _) (by simp) (fun _ _ h => h)
      go_wp2_with fail
      refine (many_any r s a8 4 _ QS8.out.rd hs (by omega)).mono ?_
      rintro e w9 ⟨x9, a9, rfl, hxb, hr, hl, hrd, ho⟩
      have HD9 := Lib.hid hrd
      have QP9 := Lib.hid (QS8.out.read hr ho)
      have gs9 := ho.size
      have OC9 := Lib.hid (OCs8.out.keeps (S := [62]) (R' := ColR) (Keeps.only QS8.out.rd ho (by decide)) (by simp) (fun _ _ h => h))
      have OK9 := Lib.hid (OKs8.out.keeps (S := [3]) (R' := IntR) (Keeps.only QS8.out.rd ho (by decide)) (by simp) (fun _ _ h => h))
      clear hr ho hrd r0 r1 r2 r3 r4 rf t0 t1 t2 t3 t4 tf
      obtain ⟨⟨r0, r1, r2, r3, r4⟩, rf⟩ := ten_of QP9.out.ret
      obtain ⟨⟨t0, t1, t2, t3, t4⟩, tf⟩ := ten_of QP9.out.bx
      go_wp2
      clear r0 r1 r2 r3 r4 rf t0 t1 t2 t3 t4 tf
      go_loopw [8] (fun i wz => ∃ (k : Nat) (l : List Ix) (v : Value) (b : Nat), k ≤ x9 ∧ i = .int .i64 k ∧ l.length = k ∧ Tq 46 w wz r s b (.string ⟨#[]⟩) (.slice none 0 0) (.slice none 0 0) (.int .i64 0) (.slice none 0 0) (.string x1) (.slice pv3 l3.length cv3) (.slice pv7 x7.length cv7) (.int .i64 (x8 : Int)) v ∧ OwnR 3 64 (IxO wz (w.heap.size + 2)) wz (w.heap.size + 2) v l ∧ OwnR 3 62 (ColR) wz (w.heap.size + 2) (.slice pv3 l3.length cv3) l3 ∧ OwnR 1 3 (IntR) wz (w.heap.size + 2) (.slice pv7 x7.length cv7) x7 ∧ b ≤ D + 300 + 44 * k ∧ (∀ L y, (L.length ≤ 4 ∧ ∀ x ∈ L, okX x) → rest s a8 = lst encIx L ++ y → x9 = L.length ∧ l = L.take k ∧ rest s b = (L.drop k).flatMap encIx ++ y)) (fun i _ => x9 - (intOf i).toNat)
      case atStart => exact ⟨0, [], _, a9, Nat.zero_le _, rfl, rfl, QP9.out, OwnR.nil _ _ _ _ _, OC9.out, OK9.out, by omega, rd_start (by omega) HD9.out⟩
      case round =>
        rename World => R10
        obtain ⟨k, l10, v, b10, hk, rfl, hlen, hq, hown, hwOC, hwOK, hbb10, hspec⟩ := hrel
        have QR10 := Lib.hid hq
        have SP10 := Lib.hid hspec
        have HLN10 := Lib.hid hlen
        have hltq10 := hq.lt
        have hne10 := hq.ne
        have OCr10 := Lib.hid hwOC
        have OKr10 := Lib.hid hwOK
        obtain ⟨pv10, cv10, rfl, -⟩ := hown.form
        have OR10 := Lib.hid hown
        clear hq hspec hlen hown hwOC hwOK
        obtain ⟨⟨r0, r1, r2, r3, r4⟩, rf⟩ := ten_of QR10.out.ret
        obtain ⟨⟨t0, t1, t2, t3, t4⟩, tf⟩ := ten_of QR10.out.bx
        by_cases hlt10 : k < x9
        · have hlti10 : (k : Int) < (x9 : Int) := by omega
          go_wp2_with fail
          generalize hY0 : R10.alloc (.cells #[.string ⟨#[]⟩, .slice none 0 0, .bool false] 64) = Y0
          have hb0 : Below R10.heap.size R10 Y0 := by rw [← hY0]; exact (Below.refl _ _).alloc (Nat.le_refl _) _
          have HX0 : Hid (Y0.heap[R10.heap.size]? = some (.cells #[.string ⟨#[]⟩, .slice none 0 0, .bool false] 64 (0, 0))) := by show Y0.heap[R10.heap.size]? = _; rw [← hY0]; exact heap_alloc_new _ _
          have HO0 : Hid (Only (fun k => k = r) R10 Y0) := Only.of hb0
          have HR0 := Lib.hid (QR10.out.rd.later hb0)
          have gz0 : R10.heap.size < Y0.heap.size := by rw [← hY0]; simp
          clear hb0
          refine (dtext_any r s b10 Y0 HR0.out hs (by omega)).mono ?_
          rintro e w11 ⟨x11, a11, rfl, hr, hl11, hrd, ho⟩
          have HD11 := Lib.hid hrd
          have gs11 := ho.size
          have HO11 := Lib.hid (HO0.out.trans ho)
          have HX11 := Lib.hid ((ho.block _ (by omega) (by omega)).trans HX0.out)
          obtain ⟨⟨y0, y1, y2⟩, yf⟩ := tri_of HX11.out
          obtain ⟨Y11, hY11⟩ : ∃ Y, w11.setCell ⟨R10.heap.size, 0, none⟩ (.string x11) = Y := ⟨_, rfl⟩
          have HRs11 : Hid (RdD Y11 r s a11) := by show RdD _ _ _ _; rw [← hY11]; exact set_heap hr (by omega)
          have HOs11 : Hid (Only (fun k => k = r) R10 Y11) := by show Only _ _ _; rw [← hY11]; exact only_new HO11.out (Nat.le_refl _) _ _
          have HXs11 : Hid (Y11.heap[R10.heap.size]? = some (.cells #[.string x11, .slice none 0 0, .bool false] 64 (0, 0))) := by show Y11.heap[R10.heap.size]? = _; rw [← hY11]; simpa using heap_setCell_at (i := 0) HX11.out (.string x11)
          have gz11 : w11.heap.size ≤ Y11.heap.size := by rw [← hY11]; simp
          clear hrd ho hr r0 r1 r2 r3 r4 rf t0 t1 t2 t3 t4 tf
          go_wp2_with fail
          refine (dnum_any r s a11 Y11 HRs11.out hs (by omega)).mono ?_
          rintro e w12 ⟨x12, a12, rfl, hxb12, hr, hl12, hrd, ho⟩
          have HD12 := Lib.hid hrd
          have gs12 := ho.size
          have HO12 := Lib.hid (HOs11.out.trans ho)
          obtain ⟨bb12, hbe12⟩ : ∃ bb : Bool, ((x12 : Int) == 1) = bb := ⟨_, rfl⟩
          have HX12 := Lib.hid ((ho.block _ (by omega) (by omega)).trans HXs11.out)
          obtain ⟨⟨y0, y1, y2⟩, yf⟩ := tri_of HX12.out
          obtain ⟨Y12, hY12⟩ : ∃ Y, w12.setCell ⟨R10.heap.size, 2, none⟩ (.bool bb12) = Y := ⟨_, rfl⟩
          have HRs12 : Hid (RdD Y12 r s a12) := by show RdD _ _ _ _; rw [← hY12]; exact set_heap hr (by omega)
          have HOs12 : Hid (Only (fun k => k = r) R10 Y12) := by show Only _ _ _; rw [← hY12]; exact only_new HO12.out (Nat.le_refl _) _ _
          have HXs12 : Hid (Y12.heap[R10.heap.size]? = some (.cells #[.string x11, .slice none 0 0, .bool bb12] 64 (0, 0))) := by show Y12.heap[R10.heap.size]? = _; rw [← hY12]; simpa using heap_setCell_at (i := 2) HX12.out (.bool bb12)
          have gz12 : w12.heap.size ≤ Y12.heap.size := by rw [← hY12]; simp
          clear hrd ho hr 
          go_wp2_with fail
          refine (dnums_any r s a12 Y12 HRs12.out hs (by omega)).mono ?_
          rintro e w13 ⟨vv, x13, a13, rfl, hO, hr, hl13, hrd, ho⟩
          have HD13 := Lib.hid hrd
          have gs13 := ho.size
          have NB13 := Lib.hid (hO.mono (B' := w.heap.size + 2) (R' := IntR) (by omega) (fun _ _ h => h))
          obtain ⟨pq13, cq13, rfl, -⟩ := hO.form
          clear hO
          have HO13 := Lib.hid (HOs12.out.trans ho)
          have HX13 := Lib.hid ((ho.block _ (by omega) (by omega)).trans HXs12.out)
          obtain ⟨⟨y0, y1, y2⟩, yf⟩ := tri_of HX13.out
          obtain ⟨Y13, hY13⟩ : ∃ Y, w13.setCell ⟨R10.heap.size, 1, none⟩ (.slice pq13 x13.length cq13) = Y := ⟨_, rfl⟩
          have HRs13 : Hid (RdD Y13 r s a13) := by show RdD _ _ _ _; rw [← hY13]; exact set_heap hr (by omega)
          have HOs13 : Hid (Only (fun k => k = r) R10 Y13) := by show Only _ _ _; rw [← hY13]; exact only_new HO13.out (Nat.le_refl _) _ _
          have HXs13 : Hid (Y13.heap[R10.heap.size]? = some (.cells #[.string x11, .slice pq13 x13.length cq13, .bool bb12] 64 (0, 0))) := by show Y13.heap[R10.heap.size]? = _; rw [← hY13]; simpa using heap_setCell_at (i := 1) HX13.out (.slice pq13 x13.length cq13)
          have gz13 : w13.heap.size ≤ Y13.heap.size := by rw [← hY13]; simp
          have NM13_13 : Hid (OwnR 1 3 IntR Y13 (w.heap.size + 2) (.slice pq13 x13.length cq13) x13) := by show OwnR _ _ _ _ _ _ _; rw [← hY13]; exact NB13.out.keeps (S := [3]) (Keeps.typed (Keeps.of (Below.refl _ _)) HX13.out (by decide) _ _) (by simp) (fun _ _ h => h)
          clear hrd ho hr 
          have hQK := QR10.out.read HRs13.out HOs13.out
          rw [HLN10.out] at hQK
          have QK10 := Lib.hid hQK
          clear hQK
          obtain ⟨ps, p1, p2, p3⟩ := OR10.out
          rw [HLN10.out] at p3
          have P1 := Lib.hid p1
          have P2 := Lib.hid p2
          have hown2 := own_only p3 QR10.out.rd HOs13.out (by decide)
          have HOW := Lib.hid hown2
          have HGE := Lib.hid (own_ge hown2)
          have gzl : w.heap.size + 1 < Y13.heap.size := QK10.out.lt
          clear p1 p2 p3
          obtain ⟨⟨t0, t1, t2, t3, t4⟩, tf⟩ := ten_of QK10.out.bx
          obtain ⟨⟨hx0, hx1, hx2⟩, hxf⟩ := tri_of HXs13.out
          go_wp2_with (first | (at_builtin; refine wpList_append_own _ rfl _ _ 44 rfl (w.heap.size + 2) 64 j0 (.agg #[.string ⟨#[]⟩, .slice none 0 0, .bool false]) 3 48 Tryz.underlying44 hj hy0 hy1 hy2 rfl (by decide) _ k (ps.flatMap (·.2)) rfl (hown2.alloc _) ⟨Y13.heap.size, 0, none⟩ 1 1 [.string x11, .slice pq13 x13.length cq13, .bool bb12] rfl rfl (cells_alloc _ _ _) (by intro u hu; simp only [List.mem_cons, List.not_mem_nil, or_false] at hu; rcases hu with rfl | rfl | rfl <;> rfl) (by unfold maxLen; omega) (by omega) (by simp; omega) ?_; intro v' w9 hown3 hgrow3 _; obtain ⟨pn, cn, rfl⟩ := own_form hown3; (have HG := Lib.hid hgrow3); (have HO3 := Lib.hid hown3); (have Q9 := Lib.hid ((QK10.out.later ((Below.refl _ _).alloc (Nat.le_refl _) _)).grown hgrow3 HGE.out)); clear hown3 hgrow3 hown2 t0 t1 t2 t3 t4 tf; obtain ⟨⟨t0, t1, t2, t3, t4⟩, tf⟩ := ten_of Q9.out.bx))
          go_roundw
          case rel =>
            refine ⟨k + 1, l10 ++ [⟨x11, x13, bb12⟩], (.slice pn (k + 1) cn), a13, by omega, by go_num, by rw [List.length_append, HLN10.out]; rfl, Q9.out.set 4 _ rfl, ?_, ?_, ?_, by omega, rd_step hlt10 SP10.out (rd_ix HD11.out (rd_flag HD12.out hbe12) HD13.out)⟩
            · refine OwnR.push (n := 3) P1.out P2.out (IxO.keeps (((Keeps.only QR10.out.rd HOs13.out (by decide)).trans ((Keeps.of ((Below.refl _ _).alloc (Nat.le_refl _) _)).trans (Keeps.grown (HOW.out.alloc _) HG.out (by decide)))).trans (Keeps.low (Keeps.of (Below.refl _ _)) (by omega) 4 (.slice pn (k + 1) cn)))) (us := [.string x11, .slice pq13 x13.length cq13, .bool bb12]) ⟨_, rfl, NM13_13.out.keeps (S := [3]) (((Keeps.of ((Below.refl _ _).alloc (Nat.le_refl _) _)).trans (Keeps.grown (HOW.out.alloc _) HG.out (by decide))).trans (Keeps.low (Keeps.of (Below.refl _ _)) (by omega) 4 (.slice pn (k + 1) cn))) (by simp) (fun _ _ h => h)⟩ rfl ?_
              rw [HLN10.out]
              exact ownsRow_setCell_below HO3.out (a := ⟨w.heap.size + 1, 4, none⟩) (by show w.heap.size + 1 < w.heap.size + 2; omega) _
            · exact OCr10.out.keeps (S := [62]) (((Keeps.only QR10.out.rd HOs13.out (by decide)).trans ((Keeps.of ((Below.refl _ _).alloc (Nat.le_refl _) _)).trans (Keeps.grown (HOW.out.alloc _) HG.out (by decide)))).trans (Keeps.low (Keeps.of (Below.refl _ _)) (by omega) 4 (.slice pn (k + 1) cn))) (by simp) (fun _ _ h => h)
            · exact OKr10.out.keeps (S := [3]) (((Keeps.only QR10.out.rd HOs13.out (by decide)).trans ((Keeps.of ((Below.refl _ _).alloc (Nat.le_refl _) _)).trans (Keeps.grown (HOW.out.alloc _) HG.out (by decide)))).trans (Keeps.low (Keeps.of (Below.refl _ _)) (by omega) 4 (.slice pn (k + 1) cn))) (by simp) (fun _ _ h => h)
          case measure => simp [intOf]; omega
        · have hlti10 : ¬ (k : Int) < (x9 : Int) := by omega
          have HE10 := Lib.hid (rd_end (n := x9) (l := l10) (by have := SP10.out; rwa [show k = x9 by omega] at this))
          go_wp2
          refine bodyPost_ret (v := .agg #[(.string x1), (.slice pv3 l3.length cv3), (.slice pv7 x7.length cv7), (.int .i64 (x8 : Int)), (.slice pv10 l10.length cv10)]) (by simp [results, Tryz.results58, go_sem, *]) rfl ?_
          have hkf : ∀ S u0 u1 u2 u3 u4, Keeps S (w.heap.size + 2) R10 (((((R10.setCell ⟨w.heap.size, 0, none⟩ u0).setCell ⟨w.heap.size, 1, none⟩ u1).setCell ⟨w.heap.size, 2, none⟩ u2).setCell ⟨w.heap.size, 3, none⟩ u3).setCell ⟨w.heap.size, 4, none⟩ u4) := fun S u0 u1 u2 u3 u4 => Keeps.low (Keeps.low (Keeps.low (Keeps.low (Keeps.low (Keeps.of (Below.refl _ _)) (by omega) _ _) (by omega) _ _) (by omega) _ _) (by omega) _ _) (by omega) _ _
          refine ⟨⟨x1, l3, x7, (x8 : Int), l10⟩, [(.string x1), (.slice pv3 l3.length cv3), (.slice pv7 x7.length cv7), (.int .i64 (x8 : Int)), (.slice pv10 l10.length cv10)], b10, rfl, ⟨_, _, _, rfl, ?_, ?_, ?_⟩, ?_, by omega, rd_tb HD1.out HE3.out HD7.out (rdI_of HD8.out) HE10.out, ?_⟩
          · exact (OCr10.out.keeps (hkf [62] _ _ _ _ _) (by simp) (fun _ _ h => h)).mono (by omega) (fun _ _ h => h)
          · exact (OKr10.out.keeps (hkf [3] _ _ _ _ _) (by simp) (fun _ _ h => h)).mono (by omega) (fun _ _ h => h)
          · exact (OR10.out.keeps (hkf [64, 3] _ _ _ _ _) (by simp) (IxO.keeps (hkf inIx _ _ _ _ _))).mono (by omega) (IxO.mono (by omega))
          · exact set_heap (set_heap (set_heap (set_heap (set_heap QR10.out.rd (by omega)) (by omega)) (by omega)) (by omega)) (by omega)
          · exact only_new (only_new (only_new (only_new (only_new QR10.out.only (Nat.le_refl _) _ _) (Nat.le_refl _) _ _) (Nat.le_refl _) _ _) (Nat.le_refl _) _ _) (Nat.le_refl _) _ _
end Go.Proofs.YtkgkkcefnonejaaGreat
/- Walks of layer 8: the document's reader: procedures. -/
namespace Go.Proofs.YtkgkkcefnonejaaGreat
open Go.RowKit

/-- What is told of a procedure. -/
def PcP (r : Nat) (s : ByteArray) (a : Nat) (w : World) (e : Ending) (w' : World) : Prop := ∃ (t : Pc) (us : List Value) (a' : Nat), e = .returned (.agg us.toArray) ∧ PcO w' w.heap.size t us ∧ RdD w' r s a' ∧ a' ≤ max a s.size + 600 ∧ Rd encPc (fun t => mayPc t = true) (rest s a) t (rest s a') ∧ Only (fun k => k = r) w w'
set_option maxHeartbeats 64000000 in
set_option maxRecDepth 100000 in
theorem dproc_any (r : Nat) (s : ByteArray) (a : Nat) (w : World) (h : RdD w r s a) (hs : s.size ≤ 2147483647) (ha : a ≤ 4294950000) :
    Calls Tryz.prog 59 #[.pointer (some ⟨r, 0, none⟩)] w (PcP r s a w) := by
  obtain ⟨i0, hi, hz0, hz1, hz2⟩ := info_parts Tryz.infoPm
  obtain ⟨j0, hj, hy0, hy1, hy2⟩ := info_parts Tryz.infoStr
  have Q0 := Lib.hid (Tq.begin 52 w r s a h (.string ⟨#[]⟩) (.slice none 0 0) (.slice none 0 0) (.int .i64 0) (.int .i64 0))
  obtain ⟨D, hD⟩ : ∃ D, max a s.size = D := ⟨_, rfl⟩
  clear h
  obtain ⟨⟨r0, r1, r2, r3, r4⟩, rf⟩ := ten_of Q0.out.ret
  obtain ⟨⟨t0, t1, t2, t3, t4⟩, tf⟩ := ten_of Q0.out.bx
  go_enter Tryz.func59, Tryz.ntmps59
  go_wp2_with fail
  refine (dtext_any r s a _ Q0.out.rd hs (by omega)).mono ?_
  rintro e w1 ⟨x1, a1, rfl, hr, hl, hrd, ho⟩
  have HD1 := Lib.hid hrd
  have QP1 := Lib.hid (Q0.out.read hr ho)
  have gs1 := ho.size
  clear hr ho hrd r0 r1 r2 r3 r4 rf t0 t1 t2 t3 t4 tf
  obtain ⟨⟨r0, r1, r2, r3, r4⟩, rf⟩ := ten_of QP1.out.ret
  obtain ⟨⟨t0, t1, t2, t3, t4⟩, tf⟩ := ten_of QP1.out.bx
  obtain ⟨S1, hS1⟩ : ∃ S, w1.setCell ⟨w.heap.size + 1, 0, none⟩ (.string x1) = S := ⟨_, rfl⟩
  have QS1 : Hid (Tq 52 w S1 r s a1 (.string ⟨#[]⟩) (.slice none 0 0) (.slice none 0 0) (.int .i64 0) (.int .i64 0) (.string x1) (.slice none 0 0) (.slice none 0 0) (.int .i64 0) (.int .i64 0)) := by
    show Tq _ _ _ _ _ _ _ _ _ _ _ _ _ _ _ _
    rw [← hS1]
    exact QP1.out.set 0 _ rfl
  go_wp2_with fail
  refine (many_any r s a1 8 _ QS1.out.rd hs (by omega)).mono ?_
  rintro e w2 ⟨x2, a2, rfl, hxb, hr, hl, hrd, ho⟩
  have HD2 := Lib.hid hrd
  have QP2 := Lib.hid (QS1.out.read hr ho)
  have gs2 := ho.size
  clear hr ho hrd r0 r1 r2 r3 r4 rf t0 t1 t2 t3 t4 tf
  obtain ⟨⟨r0, r1, r2, r3, r4⟩, rf⟩ := ten_of QP2.out.ret
  obtain ⟨⟨t0, t1, t2, t3, t4⟩, tf⟩ := ten_of QP2.out.bx
  go_wp2
  clear r0 r1 r2 r3 r4 rf t0 t1 t2 t3 t4 tf
  go_loopw [5] (fun i wz => ∃ (k : Nat) (l : List Pm) (v : Value) (b : Nat), k ≤ x2 ∧ i = .int .i64 k ∧ l.length = k ∧ Tq 52 w wz r s b (.string ⟨#[]⟩) (.slice none 0 0) (.slice none 0 0) (.int .i64 0) (.int .i64 0) (.string x1) v (.slice none 0 0) (.int .i64 0) (.int .i64 0) ∧ OwnR 2 66 (PmR) wz (w.heap.size + 2) v l ∧ b ≤ D + 8 + 8 * k ∧ (∀ L y, (L.length ≤ 8 ∧ ∀ x ∈ L, okM x) → rest s a1 = lst encPm L ++ y → x2 = L.length ∧ l = L.take k ∧ rest s b = (L.drop k).flatMap encPm ++ y)) (fun i _ => x2 - (intOf i).toNat)
  case atStart => exact ⟨0, [], _, a2, Nat.zero_le _, rfl, rfl, QP2.out, OwnR.nil _ _ _ _ _, by omega, rd_start (by omega) HD2.out⟩
  case round =>
    rename World => R3
    obtain ⟨k, l3, v, b3, hk, rfl, hlen, hq, hown, hbb3, hspec⟩ := hrel
    have QR3 := Lib.hid hq
    have SP3 := Lib.hid hspec
    have HLN3 := Lib.hid hlen
    have hltq3 := hq.lt
    have hne3 := hq.ne
    obtain ⟨pv3, cv3, rfl, -⟩ := hown.form
    have OR3 := Lib.hid hown
    clear hq hspec hlen hown
    obtain ⟨⟨r0, r1, r2, r3, r4⟩, rf⟩ := ten_of QR3.out.ret
    obtain ⟨⟨t0, t1, t2, t3, t4⟩, tf⟩ := ten_of QR3.out.bx
    by_cases hlt3 : k < x2
    · have hlti3 : (k : Int) < (x2 : Int) := by omega
      go_wp2_with fail
      generalize hY0 : R3.alloc (.cells #[.string ⟨#[]⟩, .int .i64 0] 66) = Y0
      have hb0 : Below R3.heap.size R3 Y0 := by rw [← hY0]; exact (Below.refl _ _).alloc (Nat.le_refl _) _
      have HX0 : Hid (Y0.heap[R3.heap.size]? = some (.cells #[.string ⟨#[]⟩, .int .i64 0] 66 (0, 0))) := by show Y0.heap[R3.heap.size]? = _; rw [← hY0]; exact heap_alloc_new _ _
      have HO0 : Hid (Only (fun k => k = r) R3 Y0) := Only.of hb0
      have HR0 := Lib.hid (QR3.out.rd.later hb0)
      have gz0 : R3.heap.size < Y0.heap.size := by rw [← hY0]; simp
      clear hb0
      refine (dtext_any r s b3 Y0 HR0.out hs (by omega)).mono ?_
      rintro e w4 ⟨x4, a4, rfl, hr, hl4, hrd, ho⟩
      have HD4 := Lib.hid hrd
      have gs4 := ho.size
      have HO4 := Lib.hid (HO0.out.trans ho)
      have HX4 := Lib.hid ((ho.block _ (by omega) (by omega)).trans HX0.out)
      obtain ⟨⟨y0, y1⟩, yf⟩ := pair_of HX4.out
      obtain ⟨Y4, hY4⟩ : ∃ Y, w4.setCell ⟨R3.heap.size, 0, none⟩ (.string x4) = Y := ⟨_, rfl⟩
      have HRs4 : Hid (RdD Y4 r s a4) := by show RdD _ _ _ _; rw [← hY4]; exact set_heap hr (by omega)
      have HOs4 : Hid (Only (fun k => k = r) R3 Y4) := by show Only _ _ _; rw [← hY4]; exact only_new HO4.out (Nat.le_refl _) _ _
      have HXs4 : Hid (Y4.heap[R3.heap.size]? = some (.cells #[.string x4, .int .i64 0] 66 (0, 0))) := by show Y4.heap[R3.heap.size]? = _; rw [← hY4]; simpa using heap_setCell_at (i := 0) HX4.out (.string x4)
      have gz4 : w4.heap.size ≤ Y4.heap.size := by rw [← hY4]; simp
      clear hrd ho hr r0 r1 r2 r3 r4 rf t0 t1 t2 t3 t4 tf
      go_wp2_with fail
      refine (dnum_any r s a4 Y4 HRs4.out hs (by omega)).mono ?_
      rintro e w5 ⟨x5, a5, rfl, hxb5, hr, hl5, hrd, ho⟩
      have HD5 := Lib.hid hrd
      have gs5 := ho.size
      have HO5 := Lib.hid (HOs4.out.trans ho)
      have HX5 := Lib.hid ((ho.block _ (by omega) (by omega)).trans HXs4.out)
      obtain ⟨⟨y0, y1⟩, yf⟩ := pair_of HX5.out
      obtain ⟨Y5, hY5⟩ : ∃ Y, w5.setCell ⟨R3.heap.size, 1, none⟩ (.int .i64 (x5 : Int)) = Y := ⟨_, rfl⟩
      have HRs5 : Hid (RdD Y5 r s a5) := by show RdD _ _ _ _; rw [← hY5]; exact set_heap hr (by omega)
      have HOs5 : Hid (Only (fun k => k = r) R3 Y5) := by show Only _ _ _; rw [← hY5]; exact only_new HO5.out (Nat.le_refl _) _ _
      have HXs5 : Hid (Y5.heap[R3.heap.size]? = some (.cells #[.string x4, .int .i64 (x5 : Int)] 66 (0, 0))) := by show Y5.heap[R3.heap.size]? = _; rw [← hY5]; simpa using heap_setCell_at (i := 1) HX5.out (.int .i64 (x5 : Int))
      have gz5 : w5.heap.size ≤ Y5.heap.size := by rw [← hY5]; simp
      clear hrd ho hr 
      have hQK := QR3.out.read HRs5.out HOs5.out
      rw [HLN3.out] at hQK
      have QK3 := Lib.hid hQK
      clear hQK
      obtain ⟨ps, p1, p2, p3⟩ := OR3.out
      rw [HLN3.out] at p3
      have P1 := Lib.hid p1
      have P2 := Lib.hid p2
      have hown2 := own_only p3 QR3.out.rd HOs5.out (by decide)
      have HOW := Lib.hid hown2
      have HGE := Lib.hid (own_ge hown2)
      have gzl : w.heap.size + 1 < Y5.heap.size := QK3.out.lt
      clear p1 p2 p3
      obtain ⟨⟨t0, t1, t2, t3, t4⟩, tf⟩ := ten_of QK3.out.bx
      obtain ⟨⟨hx0, hx1⟩, hxf⟩ := pair_of HXs5.out
      go_wp2_with (first | (at_builtin; refine wpList_append_own _ rfl _ _ 49 rfl (w.heap.size + 2) 66 i0 (.agg #[.string ⟨#[]⟩, .int .i64 0]) 2 24 Tryz.underlying49 hi hz0 hz1 hz2 rfl (by decide) _ k (ps.flatMap (·.2)) rfl (hown2.alloc _) ⟨Y5.heap.size, 0, none⟩ 1 1 [.string x4, .int .i64 (x5 : Int)] rfl rfl (cells_alloc _ _ _) (by intro u hu; simp only [List.mem_cons, List.not_mem_nil, or_false] at hu; rcases hu with rfl | rfl <;> rfl) (by unfold maxLen; omega) (by omega) (by simp; omega) ?_; intro v' w9 hown3 hgrow3 _; obtain ⟨pn, cn, rfl⟩ := own_form hown3; (have HG := Lib.hid hgrow3); (have HO3 := Lib.hid hown3); (have Q9 := Lib.hid ((QK3.out.later ((Below.refl _ _).alloc (Nat.le_refl _) _)).grown hgrow3 HGE.out)); clear hown3 hgrow3 hown2 t0 t1 t2 t3 t4 tf; obtain ⟨⟨t0, t1, t2, t3, t4⟩, tf⟩ := ten_of Q9.out.bx))
      go_roundw
      case rel =>
        refine ⟨k + 1, l3 ++ [⟨x4, (x5 : Int)⟩], (.slice pn (k + 1) cn), a5, by omega, by go_num, by rw [List.length_append, HLN3.out]; rfl, Q9.out.set 1 _ rfl, ?_, by omega, rd_step hlt3 SP3.out (rd_pm HD4.out (rdI_of HD5.out))⟩
        · refine OwnR.push (n := 2) P1.out P2.out (fun _ _ h => h) (us := [.string x4, .int .i64 (x5 : Int)]) rfl rfl ?_
          rw [HLN3.out]
          exact ownsRow_setCell_below HO3.out (a := ⟨w.heap.size + 1, 1, none⟩) (by show w.heap.size + 1 < w.heap.size + 2; omega) _
      case measure => simp [intOf]; omega
    · have hlti3 : ¬ (k : Int) < (x2 : Int) := by omega
      have HE3 := Lib.hid (rd_end (n := x2) (l := l3) (by have := SP3.out; rwa [show k = x2 by omega] at this))
      go_wp2_with fail
      refine (many_any r s b3 8 _ QR3.out.rd hs (by omega)).mono ?_
      rintro e w6 ⟨x6, a6, rfl, hxb, hr, hl, hrd, ho⟩
      have HD6 := Lib.hid hrd
      have QP6 := Lib.hid (QR3.out.read hr ho)
      have gs6 := ho.size
      have OM6 := Lib.hid (OR3.out.keeps (S := [66]) (R' := PmR) (Keeps.only QR3.out.rd ho (by decide)) (by simp) (fun _ _ h => h))
      clear hr ho hrd r0 r1 r2 r3 r4 rf t0 t1 t2 t3 t4 tf
      obtain ⟨⟨r0, r1, r2, r3, r4⟩, rf⟩ := ten_of QP6.out.ret
      obtain ⟨⟨t0, t1, t2, t3, t4⟩, tf⟩ := ten_of QP6.out.bx
      go_wp2
      clear r0 r1 r2 r3 r4 rf t0 t1 t2 t3 t4 tf
      go_loopw [7] (fun i wz => ∃ (k : Nat) (l : List ByteArray) (v : Value) (b : Nat), k ≤ x6 ∧ i = .int .i64 k ∧ l.length = k ∧ Tq 52 w wz r s b (.string ⟨#[]⟩) (.slice none 0 0) (.slice none 0 0) (.int .i64 0) (.int .i64 0) (.string x1) (.slice pv3 l3.length cv3) v (.int .i64 0) (.int .i64 0) ∧ OwnR 1 9 (StrR) wz (w.heap.size + 2) v l ∧ OwnR 2 66 (PmR) wz (w.heap.size + 2) (.slice pv3 l3.length cv3) l3 ∧ b ≤ D + 100 + 4 * k ∧ (∀ L y, (L.length ≤ 8 ∧ ∀ x ∈ L, x.size < 2097152) → rest s b3 = lst txt L ++ y → x6 = L.length ∧ l = L.take k ∧ rest s b = (L.drop k).flatMap txt ++ y)) (fun i _ => x6 - (intOf i).toNat)
      case atStart => exact ⟨0, [], _, a6, Nat.zero_le _, rfl, rfl, QP6.out, OwnR.nil _ _ _ _ _, OM6.out, by omega, rd_start (by omega) HD6.out⟩
      case round =>
        rename World => R7
        obtain ⟨k, l7, v, b7, hk, rfl, hlen, hq, hown, hwOM, hbb7, hspec⟩ := hrel
        have QR7 := Lib.hid hq
        have SP7 := Lib.hid hspec
        have HLN7 := Lib.hid hlen
        have hltq7 := hq.lt
        have hne7 := hq.ne
        have OMr7 := Lib.hid hwOM
        obtain ⟨pv7, cv7, rfl, -⟩ := hown.form
        have OR7 := Lib.hid hown
        clear hq hspec hlen hown hwOM
        obtain ⟨⟨r0, r1, r2, r3, r4⟩, rf⟩ := ten_of QR7.out.ret
        obtain ⟨⟨t0, t1, t2, t3, t4⟩, tf⟩ := ten_of QR7.out.bx
        by_cases hlt7 : k < x6
        · have hlti7 : (k : Int) < (x6 : Int) := by omega
          have HO0 : Hid (Only (fun k => k = r) R7 R7) := Only.refl _ _
          have HR0 := Lib.hid QR7.out.rd
          go_wp2_with fail
          refine (dtext_any r s b7 R7 HR0.out hs (by omega)).mono ?_
          rintro e w8 ⟨x8, a8, rfl, hr, hl8, hrd, ho⟩
          have HD8 := Lib.hid hrd
          have gs8 := ho.size
          have HO8 := Lib.hid (HO0.out.trans ho)
          have HRs8 := Lib.hid hr
          clear hrd ho hr r0 r1 r2 r3 r4 rf t0 t1 t2 t3 t4 tf
          have hQK := QR7.out.read HRs8.out HO8.out
          rw [HLN7.out] at hQK
          have QK7 := Lib.hid hQK
          clear hQK
          obtain ⟨ps, p1, p2, p3⟩ := OR7.out
          rw [HLN7.out] at p3
          have P1 := Lib.hid p1
          have P2 := Lib.hid p2
          have hown2 := own_only p3 QR7.out.rd HO8.out (by decide)
          have HOW := Lib.hid hown2
          have HGE := Lib.hid (own_ge hown2)
          have gzl : w.heap.size + 1 < w8.heap.size := QK7.out.lt
          clear p1 p2 p3
          obtain ⟨⟨t0, t1, t2, t3, t4⟩, tf⟩ := ten_of QK7.out.bx
          go_wp2_with (first | (at_builtin; refine wpList_append_own _ rfl _ _ 50 rfl (w.heap.size + 2) 9 j0 (.string ⟨#[]⟩) 1 16 Tryz.underlying50 hj hy0 hy1 hy2 rfl (by decide) _ k (ps.flatMap (·.2)) rfl (hown2.alloc _) ⟨w8.heap.size, 0, none⟩ 1 1 [.string x8] rfl rfl (cells_alloc _ _ _) (by intro u hu; simp only [List.mem_cons, List.not_mem_nil, or_false] at hu; rcases hu with rfl <;> rfl) (by unfold maxLen; omega) (by omega) (by simp; omega) ?_; intro v' w9 hown3 hgrow3 _; obtain ⟨pn, cn, rfl⟩ := own_form hown3; (have HG := Lib.hid hgrow3); (have HO3 := Lib.hid hown3); (have Q9 := Lib.hid ((QK7.out.later ((Below.refl _ _).alloc (Nat.le_refl _) _)).grown hgrow3 HGE.out)); clear hown3 hgrow3 hown2 t0 t1 t2 t3 t4 tf; obtain ⟨⟨t0, t1, t2, t3, t4⟩, tf⟩ := ten_of Q9.out.bx))
          go_roundw
          case rel =>
            refine ⟨k + 1, l7 ++ [x8], (.slice pn (k + 1) cn), a8, by omega, by go_num, by rw [List.length_append, HLN7.out]; rfl, Q9.out.set 2 _ rfl, ?_, ?_, by omega, rd_step hlt7 SP7.out (HD8.out)⟩
            · refine OwnR.push (n := 1) P1.out P2.out (fun _ _ h => h) (us := [.string x8]) rfl rfl ?_
              rw [HLN7.out]
              exact ownsRow_setCell_below HO3.out (a := ⟨w.heap.size + 1, 2, none⟩) (by show w.heap.size + 1 < w.heap.size + 2; omega) _
            · exact OMr7.out.keeps (S := [66]) (((Keeps.only QR7.out.rd HO8.out (by decide)).trans ((Keeps.of ((Below.refl _ _).alloc (Nat.le_refl _) _)).trans (Keeps.grown (HOW.out.alloc _) HG.out (by decide)))).trans (Keeps.low (Keeps.of (Below.refl _ _)) (by omega) 2 (.slice pn (k + 1) cn))) (by simp) (fun _ _ h => h)
          case measure => simp [intOf]; omega
        · have hlti7 : ¬ (k : Int) < (x6 : Int) := by omega
          have HE7 := Lib.hid (rd_end (n := x6) (l := l7) (by have := SP7.out; rwa [show k = x6 by omega] at this))
          go_wp2_with fail
          refine (dnum_any r s b7 _ QR7.out.rd hs (by omega)).mono ?_
          rintro e w9 ⟨x9, a9, rfl, hxb, hr, hl, hrd, ho⟩
          have HD9 := Lib.hid hrd
          have QP9 := Lib.hid (QR7.out.read hr ho)
          have gs9 := ho.size
          have OM9 := Lib.hid (OMr7.out.keeps (S := [66]) (R' := PmR) (Keeps.only QR7.out.rd ho (by decide)) (by simp) (fun _ _ h => h))
          have OB9 := Lib.hid (OR7.out.keeps (S := [9]) (R' := StrR) (Keeps.only QR7.out.rd ho (by decide)) (by simp) (fun _ _ h => h))
          clear hr ho hrd r0 r1 r2 r3 r4 rf t0 t1 t2 t3 t4 tf
          obtain ⟨⟨r0, r1, r2, r3, r4⟩, rf⟩ := ten_of QP9.out.ret
          obtain ⟨⟨t0, t1, t2, t3, t4⟩, tf⟩ := ten_of QP9.out.bx
          obtain ⟨S9, hS9⟩ : ∃ S, w9.setCell ⟨w.heap.size + 1, 3, none⟩ (.int .i64 (x9 : Int)) = S := ⟨_, rfl⟩
          have QS9 : Hid (Tq 52 w S9 r s a9 (.string ⟨#[]⟩) (.slice none 0 0) (.slice none 0 0) (.int .i64 0) (.int .i64 0) (.string x1) (.slice pv3 l3.length cv3) (.slice pv7 l7.length cv7) (.int .i64 (x9 : Int)) (.int .i64 0)) := by
            show Tq _ _ _ _ _ _ _ _ _ _ _ _ _ _ _ _
            rw [← hS9]
            exact QP9.out.set 3 _ rfl
          have OMs9 : Hid (OwnR 2 66 (PmR) S9 (w.heap.size + 2) (.slice pv3 l3.length cv3) l3) := by
            show OwnR _ _ _ _ _ _ _
            rw [← hS9]
            exact OM9.out.keeps (S := [66]) (Keeps.low (Keeps.of (Below.refl _ _)) (by omega) _ _) (by simp) (fun _ _ h => h)
          have OBs9 : Hid (OwnR 1 9 (StrR) S9 (w.heap.size + 2) (.slice pv7 l7.length cv7) l7) := by
            show OwnR _ _ _ _ _ _ _
            rw [← hS9]
            exact OB9.out.keeps (S := [9]) (Keeps.low (Keeps.of (Below.refl _ _)) (by omega) _ _) (by simp) (fun _ _ h => h)
          go_wp2_with fail
          refine (dnum_any r s a9 _ QS9.out.rd hs (by omega)).mono ?_
          rintro e w10 ⟨x10, a10, rfl, hxb, hr, hl, hrd, ho⟩
          have HD10 := Lib.hid hrd
          have QP10 := Lib.hid (QS9.out.read hr ho)
          have gs10 := ho.size
          have OM10 := Lib.hid (OMs9.out.keeps (S := [66]) (R' := PmR) (Keeps.only QS9.out.rd ho (by decide)) (by simp) (fun _ _ h => h))
          have OB10 := Lib.hid (OBs9.out.keeps (S := [9]) (R' := StrR) (Keeps.only QS9.out.rd ho (by decide)) (by simp) (fun _ _ h => h))
          clear hr ho hrd r0 r1 r2 r3 r4 rf t0 t1 t2 t3 t4 tf
          obtain ⟨⟨r0, r1, r2, r3, r4⟩, rf⟩ := ten_of QP10.out.ret
          obtain ⟨⟨t0, t1, t2, t3, t4⟩, tf⟩ := ten_of QP10.out.bx
          obtain ⟨S10, hS10⟩ : ∃ S, w10.setCell ⟨w.heap.size + 1, 4, none⟩ (.int .i64 (x10 : Int)) = S := ⟨_, rfl⟩
          have QS10 : Hid (Tq 52 w S10 r s a10 (.string ⟨#[]⟩) (.slice none 0 0) (.slice none 0 0) (.int .i64 0) (.int .i64 0) (.string x1) (.slice pv3 l3.length cv3) (.slice pv7 l7.length cv7) (.int .i64 (x9 : Int)) (.int .i64 (x10 : Int))) := by
            show Tq _ _ _ _ _ _ _ _ _ _ _ _ _ _ _ _
            rw [← hS10]
            exact QP10.out.set 4 _ rfl
          have OMs10 : Hid (OwnR 2 66 (PmR) S10 (w.heap.size + 2) (.slice pv3 l3.length cv3) l3) := by
            show OwnR _ _ _ _ _ _ _
            rw [← hS10]
            exact OM10.out.keeps (S := [66]) (Keeps.low (Keeps.of (Below.refl _ _)) (by omega) _ _) (by simp) (fun _ _ h => h)
          have OBs10 : Hid (OwnR 1 9 (StrR) S10 (w.heap.size + 2) (.slice pv7 l7.length cv7) l7) := by
            show OwnR _ _ _ _ _ _ _
            rw [← hS10]
            exact OB10.out.keeps (S := [9]) (Keeps.low (Keeps.of (Below.refl _ _)) (by omega) _ _) (by simp) (fun _ _ h => h)
          clear r0 r1 r2 r3 r4 rf t0 t1 t2 t3 t4 tf
          obtain ⟨⟨o0, o1, o2, o3, o4⟩, -⟩ := ten_of QS10.out.bx
          obtain ⟨⟨r0, r1, r2, r3, r4⟩, rf⟩ := ten_of QS10.out.ret
          obtain ⟨⟨t0, t1, t2, t3, t4⟩, tf⟩ := ten_of QP10.out.bx
          go_wp2
          refine bodyPost_ret (v := .agg #[(.string x1), (.slice pv3 l3.length cv3), (.slice pv7 l7.length cv7), (.int .i64 (x9 : Int)), (.int .i64 (x10 : Int))]) (by simp [results, Tryz.results59, go_sem, *]) rfl ?_
          have hkf : ∀ S u0 u1 u2 u3 u4, Keeps S (w.heap.size + 2) S10 (((((S10.setCell ⟨w.heap.size, 0, none⟩ u0).setCell ⟨w.heap.size, 1, none⟩ u1).setCell ⟨w.heap.size, 2, none⟩ u2).setCell ⟨w.heap.size, 3, none⟩ u3).setCell ⟨w.heap.size, 4, none⟩ u4) := fun S u0 u1 u2 u3 u4 => Keeps.low (Keeps.low (Keeps.low (Keeps.low (Keeps.low (Keeps.of (Below.refl _ _)) (by omega) _ _) (by omega) _ _) (by omega) _ _) (by omega) _ _) (by omega) _ _
          have hneF := QS10.out.ne
          refine ⟨⟨x1, l3, l7, (x9 : Int), (x10 : Int)⟩, [(.string x1), (.slice pv3 l3.length cv3), (.slice pv7 l7.length cv7), (.int .i64 (x9 : Int)), (.int .i64 (x10 : Int))], a10, rfl, ⟨_, _, rfl, ?_, ?_⟩, ?_, by omega, rd_pc HD1.out HE3.out HE7.out (rdI_of HD9.out) (rdI_of HD10.out), ?_⟩
          · exact (OMs10.out.keeps (hkf [66] _ _ _ _ _) (by simp) (fun _ _ h => h)).mono (by omega) (fun _ _ h => h)
          · exact (OBs10.out.keeps (hkf [9] _ _ _ _ _) (by simp) (fun _ _ h => h)).mono (by omega) (fun _ _ h => h)
          · exact set_heap (set_heap (set_heap (set_heap (set_heap QS10.out.rd (by omega)) (by omega)) (by omega)) (by omega)) (by omega)
          · exact only_new (only_new (only_new (only_new (only_new QS10.out.only (Nat.le_refl _) _ _) (Nat.le_refl _) _ _) (Nat.le_refl _) _ _) (Nat.le_refl _) _ _) (Nat.le_refl _) _ _
end Go.Proofs.YtkgkkcefnonejaaGreat
/- Walks of layer 8: the document's Decode. -/
namespace Go.Proofs.YtkgkkcefnonejaaGreat
open Go.RowKit

/-- What is handed back, the reader, what is made of it. -/
structure Dq (w W : World) (s : ByteArray) (a : Nat) (v0 v1 : Value) : Prop where
  ret : W.heap[w.heap.size]? = some (.cells #[.slice none 0 0, .slice none 0 0] 25 (0, 0))
  rd : RdD W (w.heap.size + 1) s a
  bx : W.heap[w.heap.size + 1 + 1]? = some (.cells #[v0, v1] 25 (0, 0))
  low : Below w.heap.size w W
section
variable {w W W' : World} {s : ByteArray} {a a' : Nat} {v0 v1 : Value}
theorem Dq.lt (h : Dq w W s a v0 v1) : w.heap.size + 1 + 1 < W.heap.size := (Array.getElem?_eq_some_iff.1 h.bx).1
theorem Dq.read (h : Dq w W s a v0 v1) (hr : RdD W' (w.heap.size + 1) s a') (ho : Only (fun k => k = w.heap.size + 1) W W') : Dq w W' s a' v0 v1 := by
  have hl := h.lt
  exact ⟨(ho.block _ (by omega) (by omega)).trans h.ret, hr, (ho.block _ (by omega) (by omega)).trans h.bx, h.low.trans (ho.below h.low.size (fun k hk e => by have e : k = w.heap.size + 1 := e; omega))⟩
theorem Dq.later (h : Dq w W s a v0 v1) (hb : Below W.heap.size W W') : Dq w W' s a v0 v1 := ⟨heap_of h.ret hb, h.rd.later hb, heap_of h.bx hb, h.low.trans (hb.mono h.low.size)⟩
theorem Dq.grown (h : Dq w W s a v0 v1) {row : Option Nat} (hg : W.grownBy W' row) (hr : ∀ k, row = some k → w.heap.size + 3 ≤ k) : Dq w W' s a v0 v1 := by
  have hl := h.lt
  exact ⟨(hg.block _ (by omega) (fun e => by have := hr _ e.symm; omega)).trans h.ret, (hg.block _ (by omega) (fun e => by have := hr _ e.symm; omega)).trans h.rd, (hg.block _ (by omega) (fun e => by have := hr _ e.symm; omega)).trans h.bx, h.low.grown hg (by have := h.low.size; omega) (fun k e => by have := hr _ e; omega)⟩
theorem Dq.set0 (h : Dq w W s a v0 v1) (u : Value) : Dq w (W.setCell ⟨w.heap.size + 1 + 1, 0, none⟩ u) s a u v1 :=
  ⟨set_heap h.ret (by omega), set_heap h.rd (by omega), by simpa using heap_setCell_at (i := 0) h.bx u, h.low.setCell (p := ⟨w.heap.size + 1 + 1, 0, none⟩) (by show w.heap.size ≤ w.heap.size + 1 + 1; omega) u⟩
theorem Dq.set1 (h : Dq w W s a v0 v1) (u : Value) : Dq w (W.setCell ⟨w.heap.size + 1 + 1, 1, none⟩ u) s a v0 u :=
  ⟨set_heap h.ret (by omega), set_heap h.rd (by omega), by simpa using heap_setCell_at (i := 1) h.bx u, h.low.setCell (p := ⟨w.heap.size + 1 + 1, 1, none⟩) (by show w.heap.size ≤ w.heap.size + 1 + 1; omega) u⟩
theorem Dq.begin (w : World) (s : ByteArray) : Dq w (((w.alloc (.cells #[.slice none 0 0, .slice none 0 0] 25)).alloc (.cells #[.string s, .int .i64 0] 93)).alloc (.cells #[.slice none 0 0, .slice none 0 0] 25)) s 0 (.slice none 0 0) (.slice none 0 0) := by
  have h1 : Below w.heap.size w (w.alloc (.cells #[.slice none 0 0, .slice none 0 0] 25)) := (Below.refl _ _).alloc (Nat.le_refl _) _
  have h2 : Below (w.heap.size + 1) (w.alloc (.cells #[.slice none 0 0, .slice none 0 0] 25)) ((w.alloc (.cells #[.slice none 0 0, .slice none 0 0] 25)).alloc (.cells #[.string s, .int .i64 0] 93)) := (Below.refl _ _).alloc (by simp) _
  have h3 : Below (w.heap.size + 2) ((w.alloc (.cells #[.slice none 0 0, .slice none 0 0] 25)).alloc (.cells #[.string s, .int .i64 0] 93)) (((w.alloc (.cells #[.slice none 0 0, .slice none 0 0] 25)).alloc (.cells #[.string s, .int .i64 0] 93)).alloc (.cells #[.slice none 0 0, .slice none 0 0] 25)) := (Below.refl _ _).alloc (by simp) _
  refine ⟨(h3.block _ (by omega)).trans ((h2.block _ (by omega)).trans (heap_alloc_new w _)), (h3.block _ (by omega)).trans ?_, ?_, h1.trans ((h2.trans (h3.mono (by omega))).mono (by omega))⟩
  · have := heap_alloc_new (w.alloc (.cells #[.slice none 0 0, .slice none 0 0] 25)) (.cells #[.string s, .int .i64 0] 93 (0, 0))
    simpa using this
  · have := heap_alloc_new ((w.alloc (.cells #[.slice none 0 0, .slice none 0 0] 25)).alloc (.cells #[.string s, .int .i64 0] 93)) (.cells #[.slice none 0 0, .slice none 0 0] 25 (0, 0))
    simpa using this
end
theorem rest_all (s : ByteArray) : rest s 0 = bs s := List.drop_zero
theorem dec_one_of {s : ByteArray} {b1 b2 : Nat} {l : List Tb} {m : List Pc} (h1 : Rd (lst encTb) (fun L => L.length ≤ 8 ∧ ∀ t ∈ L, mayTb t = true) (rest s 0) l (rest s b1)) (h2 : Rd (lst encPc) (fun L => L.length ≤ 16 ∧ ∀ t ∈ L, mayPc t = true) (rest s b1) m (rest s b2)) (c : Ct) (hc : rightC c = true) (e : encC c = bs s) : c = ⟨l, m⟩ := by
  obtain ⟨q1, q2, q3, q4⟩ := rightC_parts hc
  have e0 : rest s 0 = lst encTb c.tbs ++ (lst encPc c.prs ++ []) := by rw [rest_all, ← e, List.append_nil]; rfl
  obtain ⟨e1, e2⟩ := h1 _ _ ⟨q1, q3⟩ e0
  obtain ⟨e3, _⟩ := h2 _ _ ⟨q2, q4⟩ e2
  cases c
  rw [e1, e3]
/-- What is told of a catalog's bytes. -/
def DcP (s : ByteArray) (w : World) (e : Ending) (w' : World) : Prop := ∃ (c : Ct) (rs : List Value) (k : Int), e = .returned (.tuple #[.agg rs.toArray, .int .i64 k]) ∧ CtO w' w.heap.size c rs ∧ DecIs s c k ∧ Below w.heap.size w w'

set_option maxHeartbeats 64000000 in
set_option maxRecDepth 100000 in
theorem dDecode_any (s : ByteArray) (w : World) (hs : s.size ≤ 2147483647) : Calls Tryz.prog 18 #[.string s] w (DcP s w) := by
  obtain ⟨i0, hi, hz0, hz1, hz2⟩ := info_parts Tryz.infoTb
  obtain ⟨j0, hj, hy0, hy1, hy2⟩ := info_parts Tryz.infoPc
  have X0 := Lib.hid (Dq.begin w s)
  go_enter Tryz.func18, Tryz.ntmps18
  obtain ⟨r0, r1, rf0, rf1⟩ := two_of X0.out.ret
  obtain ⟨o0, o1, of0, of1⟩ := two_of X0.out.bx
  go_wp2_with fail
  refine (many_any (w.heap.size + 1) s 0 8 _ X0.out.rd hs (by omega)).mono ?_
  rintro e wm1 ⟨n1, am1, rfl, hn1, hr, hl1, hrd, ho⟩
  have HDm1 := Lib.hid hrd
  have XM1 := Lib.hid (X0.out.read hr ho)
  clear hr ho hrd r0 r1 rf0 rf1 o0 o1 of0 of1
  obtain ⟨r0, r1, rf0, rf1⟩ := two_of XM1.out.ret
  obtain ⟨o0, o1, of0, of1⟩ := two_of XM1.out.bx
  go_wp2
  clear r0 r1 rf0 rf1 o0 o1 of0 of1
  go_loopw [7] (fun i wz => ∃ (k : Nat) (l : List Tb) (v : Value) (b : Nat), k ≤ n1 ∧ i = .int .i64 k ∧ l.length = k ∧ Dq w wz s b v (.slice none 0 0) ∧ OwnR 5 46 (TbO wz (w.heap.size + 3)) wz (w.heap.size + 3) v l ∧ b ≤ s.size + 8 + 600 * k ∧ (∀ L y, (L.length ≤ 8 ∧ ∀ t ∈ L, mayTb t = true) → rest s 0 = lst encTb L ++ y → n1 = L.length ∧ l = L.take k ∧ rest s b = (L.drop k).flatMap encTb ++ y)) (fun i _ => n1 - (intOf i).toNat)
  case atStart => exact ⟨0, [], _, am1, Nat.zero_le _, rfl, rfl, XM1.out, OwnR.nil _ _ _ _ _, by omega, rd_start (by omega) HDm1.out⟩
  case round =>
    rename World => R1
    obtain ⟨k, l1, v, b1, hk, rfl, hlen, hx, ho, hbb1, hspec⟩ := hrel
    have XR1 := Lib.hid hx
    have OR1 := Lib.hid ho
    have SP1 := Lib.hid hspec
    have HLN1 := Lib.hid hlen
    have hltr1 := hx.lt
    obtain ⟨pv1, cv1, rfl, -⟩ := ho.form
    clear hx ho hspec hlen
    obtain ⟨r0, r1, rf0, rf1⟩ := two_of XR1.out.ret
    obtain ⟨o0, o1, of0, of1⟩ := two_of XR1.out.bx
    by_cases hlt : k < n1
    · have hlti : (k : Int) < (n1 : Int) := by omega
      go_wp2_with fail
      refine (dtable_any (w.heap.size + 1) s b1 R1 XR1.out.rd hs (by omega)).mono ?_
      rintro e V2 ⟨x, us, a2, rfl, hO, hr, hl, hrd, ho⟩
      have hbz := ho.size
      have hX2 := XR1.out.read hr ho
      rw [HLN1.out] at hX2
      have X2 := Lib.hid hX2
      have HD2 := Lib.hid hrd
      have HO2 := Lib.hid ho
      have hO := TbO.mono (B' := w.heap.size + 3) (by omega) _ _ hO
      have HOx := Lib.hid hO
      obtain ⟨u1, u2, u3, rfl, q1, q2, q3⟩ := hO
      obtain ⟨p1, m1, rfl, -⟩ := q1.form
      obtain ⟨p2, m2, rfl, -⟩ := q2.form
      obtain ⟨p3, m3, rfl, -⟩ := q3.form
      clear q1 q2 q3
      obtain ⟨ps, e1, e2, e3⟩ := OR1.out
      rw [HLN1.out] at e3
      have P1 := Lib.hid e1
      have P2 := Lib.hid e2
      have hown2 := own_only e3 XR1.out.rd ho (by decide)
      have HOW := Lib.hid hown2
      have HGE := Lib.hid (own_ge hown2)
      have n1 : w.heap.size + 1 + 1 < V2.heap.size := by omega
      clear e1 e2 e3 ho hr hrd hX2 r0 r1 rf0 rf1 o0 o1 of0 of1
      obtain ⟨r0, r1, rf0, rf1⟩ := two_of X2.out.ret
      obtain ⟨o0, o1, of0, of1⟩ := two_of X2.out.bx
      go_wp2_with (first | (at_builtin; refine wpList_append_own _ rfl _ _ 22 rfl (w.heap.size + 3) 46 i0 (.agg #[.string ⟨#[]⟩, .slice none 0 0, .slice none 0 0, .int .i64 0, .slice none 0 0]) 5 96 Tryz.underlying22 hi hz0 hz1 hz2 rfl (by decide) _ k (ps.flatMap (·.2)) rfl ((hown2.alloc _).alloc _) ⟨V2.heap.size + 1, 0, none⟩ 1 1 [.string x.nm, .slice p1 x.cols.length m1, .slice p2 x.key.length m2, .int .i64 x.part, .slice p3 x.ixs.length m3] rfl rfl (cells_alloc2 _ _ _ _) (by intro u hu; simp only [List.mem_cons, List.not_mem_nil, or_false] at hu; rcases hu with rfl | rfl | rfl | rfl | rfl <;> rfl) (by unfold maxLen; omega) (by omega) (by simp; omega) ?_; intro v' w3 hown3 hgrow3 _; obtain ⟨pn, cn, rfl⟩ := own_form hown3; (have HG := Lib.hid hgrow3); (have HO3 := Lib.hid hown3); (have X3 := Lib.hid ((X2.out.later (((Below.refl _ _).alloc (Nat.le_refl _) _).alloc (by simp) _)).grown hgrow3 HGE.out)); clear hown3 hgrow3 hown2 r0 r1 rf0 rf1 o0 o1 of0 of1; obtain ⟨r0, r1, rf0, rf1⟩ := two_of X3.out.ret; obtain ⟨o0, o1, of0, of1⟩ := two_of X3.out.bx))
      go_roundw
      case rel =>
        have hal : Below V2.heap.size V2 ((V2.alloc (.cells ([.string x.nm, .slice p1 x.cols.length m1, .slice p2 x.key.length m2, .int .i64 x.part, .slice p3 x.ixs.length m3]).toArray 46)).alloc (.cells ([.string x.nm, .slice p1 x.cols.length m1, .slice p2 x.key.length m2, .int .i64 x.part, .slice p3 x.ixs.length m3]).toArray 46)) := ((Below.refl _ _).alloc (Nat.le_refl _) _).alloc (by simp) _
        have hkp : ∀ S, 46 ∉ S → Keeps S (w.heap.size + 3) V2 (w3.setCell ⟨w.heap.size + 1 + 1, 0, none⟩ (.slice pn (k + 1) cn)) := fun S hS => ((Keeps.of hal).trans (Keeps.grown ((HOW.out.alloc _).alloc _) HG.out hS)).trans (Keeps.low (Keeps.of (Below.refl _ _)) (by omega) 0 (.slice pn (k + 1) cn))
        have hkw : ∀ S, 46 ∉ S → 93 ∉ S → Keeps S (w.heap.size + 3) R1 (w3.setCell ⟨w.heap.size + 1 + 1, 0, none⟩ (.slice pn (k + 1) cn)) := fun S hS hR => (Keeps.only XR1.out.rd HO2.out hR).trans (hkp S hS)
        refine ⟨k + 1, l1 ++ [x], (.slice pn (k + 1) cn), a2, by omega, by go_num, by rw [List.length_append, HLN1.out]; rfl, X3.out.set0 (.slice pn (k + 1) cn), ?_, by omega, rd_step hlt SP1.out HD2.out⟩
        · refine OwnR.push (n := 5) P1.out P2.out (TbO.keeps (hkw inTb (by decide) (by decide))) ((TbO.keeps (hkp inTb (by decide))) _ _ HOx.out) rfl ?_
          rw [HLN1.out]
          exact ownsRow_setCell_below HO3.out (a := ⟨w.heap.size + 1 + 1, 0, none⟩) (by show w.heap.size + 1 + 1 < w.heap.size + 3; omega) (.slice pn (k + 1) cn)
      case measure => simp [intOf]; omega
    · have hlti : ¬ (k : Int) < (n1 : Int) := by omega
      have HE1 := Lib.hid (rd_end (n := n1) (l := l1) (by have := SP1.out; rwa [show k = n1 by omega] at this))
      obtain ⟨VT, hVT⟩ : ∃ VT, (Value.slice pv1 l1.length cv1) = VT := ⟨_, rfl⟩
      have OT : Hid (OwnR 5 46 (TbO R1 (w.heap.size + 3)) R1 (w.heap.size + 3) VT l1) := by rw [← hVT]; exact OR1.out
      rw [hVT] at XR1
      clear hVT r0 r1 rf0 rf1 o0 o1 of0 of1
      obtain ⟨r0, r1, rf0, rf1⟩ := two_of XR1.out.ret
      obtain ⟨o0, o1, of0, of1⟩ := two_of XR1.out.bx
      go_wp2_with fail
      refine (many_any (w.heap.size + 1) s b1 16 _ XR1.out.rd hs (by omega)).mono ?_
      rintro e wm2 ⟨n2, am2, rfl, hn2, hr, hl2, hrd, ho⟩
      have HDm2 := Lib.hid hrd
      have XM2 := Lib.hid (XR1.out.read hr ho)
      have OTm := Lib.hid (OT.out.keeps (S := [46, 62, 3, 64]) (R' := TbO wm2 (w.heap.size + 3)) (Keeps.only XR1.out.rd ho (by decide)) (by simp) (TbO.keeps ((Keeps.only XR1.out.rd ho (by decide)))))
      clear hr ho hrd r0 r1 rf0 rf1 o0 o1 of0 of1
      obtain ⟨r0, r1, rf0, rf1⟩ := two_of XM2.out.ret
      obtain ⟨o0, o1, of0, of1⟩ := two_of XM2.out.bx
      go_wp2
      clear r0 r1 rf0 rf1 o0 o1 of0 of1
      go_loopw [9] (fun i wz => ∃ (k : Nat) (l : List Pc) (v : Value) (b : Nat), k ≤ n2 ∧ i = .int .i64 k ∧ l.length = k ∧ Dq w wz s b VT v ∧ OwnR 5 52 (PcO wz (w.heap.size + 3)) wz (w.heap.size + 3) v l ∧ OwnR 5 46 (TbO wz (w.heap.size + 3)) wz (w.heap.size + 3) VT l1 ∧ b ≤ s.size + 6000 + 600 * k ∧ (∀ L y, (L.length ≤ 16 ∧ ∀ t ∈ L, mayPc t = true) → rest s b1 = lst encPc L ++ y → n2 = L.length ∧ l = L.take k ∧ rest s b = (L.drop k).flatMap encPc ++ y)) (fun i _ => n2 - (intOf i).toNat)
      case atStart => exact ⟨0, [], _, am2, Nat.zero_le _, rfl, rfl, XM2.out, OwnR.nil _ _ _ _ _, OTm.out, by omega, rd_start (by omega) HDm2.out⟩
      case round =>
        rename World => R2
        obtain ⟨k, l2, v, b2, hk, rfl, hlen, hx, ho, hot, hbb2, hspec⟩ := hrel
        have XR2 := Lib.hid hx
        have OR2 := Lib.hid ho
        have SP2 := Lib.hid hspec
        have HLN2 := Lib.hid hlen
        have hltr2 := hx.lt
        obtain ⟨pv2, cv2, rfl, -⟩ := ho.form
        clear hx ho hspec hlen
        have OT2 := Lib.hid hot
        clear hot
        obtain ⟨r0, r1, rf0, rf1⟩ := two_of XR2.out.ret
        obtain ⟨o0, o1, of0, of1⟩ := two_of XR2.out.bx
        by_cases hlt : k < n2
        · have hlti : (k : Int) < (n2 : Int) := by omega
          go_wp2_with fail
          refine (dproc_any (w.heap.size + 1) s b2 R2 XR2.out.rd hs (by omega)).mono ?_
          rintro e V2 ⟨x, us, a2, rfl, hO, hr, hl, hrd, ho⟩
          have hbz := ho.size
          have hX2 := XR2.out.read hr ho
          rw [HLN2.out] at hX2
          have X2 := Lib.hid hX2
          have HD2 := Lib.hid hrd
          have HO2 := Lib.hid ho
          have hO := PcO.mono (B' := w.heap.size + 3) (by omega) _ _ hO
          have HOx := Lib.hid hO
          obtain ⟨u1, u2, rfl, q1, q2⟩ := hO
          obtain ⟨p1, m1, rfl, -⟩ := q1.form
          obtain ⟨p2, m2, rfl, -⟩ := q2.form
          clear q1 q2
          obtain ⟨ps, e1, e2, e3⟩ := OR2.out
          rw [HLN2.out] at e3
          have P1 := Lib.hid e1
          have P2 := Lib.hid e2
          have hown2 := own_only e3 XR2.out.rd ho (by decide)
          have HOW := Lib.hid hown2
          have HGE := Lib.hid (own_ge hown2)
          have n1 : w.heap.size + 1 + 1 < V2.heap.size := by omega
          clear e1 e2 e3 ho hr hrd hX2 r0 r1 rf0 rf1 o0 o1 of0 of1
          obtain ⟨r0, r1, rf0, rf1⟩ := two_of X2.out.ret
          obtain ⟨o0, o1, of0, of1⟩ := two_of X2.out.bx
          go_wp2_with (first | (at_builtin; refine wpList_append_own _ rfl _ _ 23 rfl (w.heap.size + 3) 52 j0 (.agg #[.string ⟨#[]⟩, .slice none 0 0, .slice none 0 0, .int .i64 0, .int .i64 0]) 5 80 Tryz.underlying23 hj hy0 hy1 hy2 rfl (by decide) _ k (ps.flatMap (·.2)) rfl ((hown2.alloc _).alloc _) ⟨V2.heap.size + 1, 0, none⟩ 1 1 [.string x.nm, .slice p1 x.prms.length m1, .slice p2 x.body.length m2, .int .i64 x.rows, .int .i64 x.bytes] rfl rfl (cells_alloc2 _ _ _ _) (by intro u hu; simp only [List.mem_cons, List.not_mem_nil, or_false] at hu; rcases hu with rfl | rfl | rfl | rfl | rfl <;> rfl) (by unfold maxLen; omega) (by omega) (by simp; omega) ?_; intro v' w3 hown3 hgrow3 _; obtain ⟨pn, cn, rfl⟩ := own_form hown3; (have HG := Lib.hid hgrow3); (have HO3 := Lib.hid hown3); (have X3 := Lib.hid ((X2.out.later (((Below.refl _ _).alloc (Nat.le_refl _) _).alloc (by simp) _)).grown hgrow3 HGE.out)); clear hown3 hgrow3 hown2 r0 r1 rf0 rf1 o0 o1 of0 of1; obtain ⟨r0, r1, rf0, rf1⟩ := two_of X3.out.ret; obtain ⟨o0, o1, of0, of1⟩ := two_of X3.out.bx))
          go_roundw
          case rel =>
            have hal : Below V2.heap.size V2 ((V2.alloc (.cells ([.string x.nm, .slice p1 x.prms.length m1, .slice p2 x.body.length m2, .int .i64 x.rows, .int .i64 x.bytes]).toArray 52)).alloc (.cells ([.string x.nm, .slice p1 x.prms.length m1, .slice p2 x.body.length m2, .int .i64 x.rows, .int .i64 x.bytes]).toArray 52)) := ((Below.refl _ _).alloc (Nat.le_refl _) _).alloc (by simp) _
            have hkp : ∀ S, 52 ∉ S → Keeps S (w.heap.size + 3) V2 (w3.setCell ⟨w.heap.size + 1 + 1, 1, none⟩ (.slice pn (k + 1) cn)) := fun S hS => ((Keeps.of hal).trans (Keeps.grown ((HOW.out.alloc _).alloc _) HG.out hS)).trans (Keeps.low (Keeps.of (Below.refl _ _)) (by omega) 1 (.slice pn (k + 1) cn))
            have hkw : ∀ S, 52 ∉ S → 93 ∉ S → Keeps S (w.heap.size + 3) R2 (w3.setCell ⟨w.heap.size + 1 + 1, 1, none⟩ (.slice pn (k + 1) cn)) := fun S hS hR => (Keeps.only XR2.out.rd HO2.out hR).trans (hkp S hS)
            refine ⟨k + 1, l2 ++ [x], (.slice pn (k + 1) cn), a2, by omega, by go_num, by rw [List.length_append, HLN2.out]; rfl, X3.out.set1 (.slice pn (k + 1) cn), ?_, ?_, by omega, rd_step hlt SP2.out HD2.out⟩
            · refine OwnR.push (n := 5) P1.out P2.out (PcO.keeps (hkw inPc (by decide) (by decide))) ((PcO.keeps (hkp inPc (by decide))) _ _ HOx.out) rfl ?_
              rw [HLN2.out]
              exact ownsRow_setCell_below HO3.out (a := ⟨w.heap.size + 1 + 1, 1, none⟩) (by show w.heap.size + 1 + 1 < w.heap.size + 3; omega) (.slice pn (k + 1) cn)
            · exact OT2.out.keeps (hkw [46] (by decide) (by decide)) (by simp) (TbO.keeps (hkw inTb (by decide) (by decide)))
          case measure => simp [intOf]; omega
        · have hlti : ¬ (k : Int) < (n2 : Int) := by omega
          have HE2 := Lib.hid (rd_end (n := n2) (l := l2) (by have := SP2.out; rwa [show k = n2 by omega] at this))
          obtain ⟨pT, cT, rfl, -⟩ := OT2.out.form
          have hrs : CtR R2 ⟨l1, l2⟩ [.slice pT l1.length cT, .slice pv2 l2.length cv2] := CtO.reads (B := w.heap.size + 3) _ _ ⟨_, _, rfl, OT2.out, OR2.out⟩
          have HRS := Lib.hid hrs
          clear hrs
          go_wp2_with fail
          refine (dEncode_any ⟨l1, l2⟩ _ R2 HRS.out).mono ?_
          rintro e w9 ⟨rfl, hb⟩
          have X9 := Lib.hid (XR2.out.later hb)
          have OT9 := Lib.hid (OT2.out.keeps (S := [46]) (R' := TbO w9 (w.heap.size + 3)) (Keeps.of hb) (by simp) (TbO.keeps (Keeps.of hb)))
          have OP9 := Lib.hid (OR2.out.keeps (S := [52]) (R' := PcO w9 (w.heap.size + 3)) (Keeps.of hb) (by simp) (PcO.keeps (Keeps.of hb)))
          have hlt9 := X9.out.lt
          clear hb r0 r1 rf0 rf1 o0 o1 of0 of1
          obtain ⟨r0, r1, rf0, rf1⟩ := two_of X9.out.ret
          obtain ⟨o0, o1, of0, of1⟩ := two_of X9.out.bx
          have HUN := Lib.hid (dec_one_of HE1.out HE2.out)
          have hse := str_eq (encS ⟨l1, l2⟩) s
          cases hr : rightC (⟨l1, l2⟩ : Ct) with
          | false =>
            rw [encE_no hr]
            have HDC : Hid (DecIs s ⟨[], []⟩ 80) := Or.inr ⟨rfl, rfl, fun c hc e => by
              obtain rfl := HUN.out c hc e
              rw [hr] at hc
              cases hc⟩
            go_wp2
            refine bodyPost_ret (v := .tuple #[.agg #[.slice none 0 0, .slice none 0 0], .int .i64 80]) (by simp [results, Tryz.results18, go_sem, *]) rfl ?_
            exact ⟨⟨[], []⟩, [.slice none 0 0, .slice none 0 0], 80, rfl, CtO.none _ _, HDC.out, by have h0 := X9.out.low; (repeat (first | exact Below.refl _ _ | assumption | refine Below.drew ?_ | refine below_drewN ?_ _ | refine Below.alloc ?_ (by first | omega | (simp; done) | (simp; omega)) _ | refine Below.setCell ?_ (by first | omega | (simp; done) | (simp; omega)) _ | refine Below.trans ?_ (Below.mono (by assumption) (by first | omega | (simp; done) | (simp; omega)))))⟩
          | true =>
            rw [encE_yes hr]
            by_cases he : bs (encS ⟨l1, l2⟩) = bs s
            · rw [decide_eq_true he] at hse
              have HDC : Hid (DecIs s ⟨l1, l2⟩ 0) := Or.inl ⟨rfl, hr, by rw [← he, encS_yes hr, bs_mk], HUN.out⟩
              clear he
              go_wp2
              refine bodyPost_ret (v := .tuple #[.agg #[.slice pT l1.length cT, .slice pv2 l2.length cv2], .int .i64 0]) (by simp [results, Tryz.results18, go_sem, *]) rfl ?_
              have hkf : ∀ S u0 u1, Keeps S (w.heap.size + 3) w9 ((w9.setCell ⟨w.heap.size, 0, none⟩ u0).setCell ⟨w.heap.size, 1, none⟩ u1) := fun S u0 u1 => Keeps.low (Keeps.low (Keeps.of (Below.refl _ _)) (by omega) _ _) (by omega) _ _
              refine ⟨⟨l1, l2⟩, [.slice pT l1.length cT, .slice pv2 l2.length cv2], 0, rfl, ⟨_, _, rfl, ?_, ?_⟩, HDC.out, by have h0 := X9.out.low; (repeat (first | exact Below.refl _ _ | assumption | refine Below.drew ?_ | refine below_drewN ?_ _ | refine Below.alloc ?_ (by first | omega | (simp; done) | (simp; omega)) _ | refine Below.setCell ?_ (by first | omega | (simp; done) | (simp; omega)) _ | refine Below.trans ?_ (Below.mono (by assumption) (by first | omega | (simp; done) | (simp; omega)))))⟩
              · exact (OT9.out.keeps (hkf [46] _ _) (by simp) (TbO.keeps (hkf inTb _ _))).mono (by omega) (TbO.mono (by omega))
              · exact (OP9.out.keeps (hkf [52] _ _) (by simp) (PcO.keeps (hkf inPc _ _))).mono (by omega) (PcO.mono (by omega))
            · rw [decide_eq_false he] at hse
              have HE0 := Lib.hid he
              have HRR := Lib.hid hr
              clear he
              have HDC : Hid (DecIs s ⟨[], []⟩ 80) := Or.inr ⟨rfl, rfl, fun c hc e => by
                obtain rfl := HUN.out c hc e
                exact absurd (by rw [encS_yes HRR.out, bs_mk]; exact e) HE0.out⟩
              go_wp2
              refine bodyPost_ret (v := .tuple #[.agg #[.slice none 0 0, .slice none 0 0], .int .i64 80]) (by simp [results, Tryz.results18, go_sem, *]) rfl ?_
              exact ⟨⟨[], []⟩, [.slice none 0 0, .slice none 0 0], 80, rfl, CtO.none _ _, HDC.out, by have h0 := X9.out.low; (repeat (first | exact Below.refl _ _ | assumption | refine Below.drew ?_ | refine below_drewN ?_ _ | refine Below.alloc ?_ (by first | omega | (simp; done) | (simp; omega)) _ | refine Below.setCell ?_ (by first | omega | (simp; done) | (simp; omega)) _ | refine Below.trans ?_ (Below.mono (by assumption) (by first | omega | (simp; done) | (simp; omega)))))⟩
end Go.Proofs.YtkgkkcefnonejaaGreat
/- Walks of layer 8: CatalogReads. -/
namespace Go.Proofs.YtkgkkcefnonejaaGreat
open Go.RowKit

theorem dec_same {s : ByteArray} {c d : Ct} {k l : Int} (h1 : DecIs s c k) (h2 : DecIs s d l) : d = c ∧ l = k := by
  rcases h1 with ⟨a1, a2, a3, a4⟩ | ⟨a1, a2, a3⟩ <;> rcases h2 with ⟨b1, b2, b3, b4⟩ | ⟨b1, b2, b3⟩
  · exact ⟨a4 d b2 b3, by rw [a1, b1]⟩
  · exact absurd a3 (b3 c a2)
  · exact absurd b3 (a3 d b2)
  · exact ⟨by rw [a2, b2], by rw [a1, b1]⟩
theorem dec_Z {s : ByteArray} {c : Ct} {k : Int} (h : DecIs s c k) : CtZ 2147483647 c := by
  rcases h with ⟨_, a2, _⟩ | ⟨_, a2, _⟩
  · exact right_Z a2
  · rw [a2]
    exact ⟨Nat.zero_le _, Nat.zero_le _, fun _ h => absurd h List.not_mem_nil, fun _ h => absurd h List.not_mem_nil⟩

set_option maxHeartbeats 32000000 in
set_option maxRecDepth 100000 in
theorem catalogReads_law (s : ByteArray) (w : World) (_ : s.size ≤ 140737488355328) :
    Calls Tryz.prog 4 #[.string s] w fun e w' => e = .returned (.bool true) ∧ Below w.heap.size w w' := by
  by_cases hs : s.size ≤ 2147483647
  · have hsi : ¬ (2147483647 : Int) < (s.size : Int) := by omega
    go_enter Tryz.func4, Tryz.ntmps4
    go_wp2_with fail
    refine (awake8_any rtext_any _).mono ?_
    rintro e w1 ⟨rfl, hb1⟩
    have W1 := Lib.hid hb1
    clear hb1
    go_wp2_with fail
    refine (decode_any rtext_any s w1 hs).mono ?_
    rintro e w2 ⟨c, rs, k, rfl, hO2, hd2, hb2⟩
    have O2 := Lib.hid hO2
    have D2 := Lib.hid hd2
    have H2 := Lib.hid hb2
    obtain ⟨f1, f2, rfl, q1, q2⟩ := hO2
    obtain ⟨p1, m1, rfl, -⟩ := q1.form
    obtain ⟨p2, m2, rfl, -⟩ := q2.form
    clear q1 q2 hd2 hb2
    go_wp2_with fail
    generalize hV2 : w2.alloc (.cells #[.slice p1 c.tbs.length m1, .slice p2 c.prs.length m2] 25) = V2
    have hbv2 : Below w2.heap.size w2 V2 := by rw [← hV2]; exact (Below.refl _ _).alloc (Nat.le_refl _) _
    have X2 : Hid (V2.heap[w2.heap.size]? = some (.cells #[.slice p1 c.tbs.length m1, .slice p2 c.prs.length m2] 25 (0, 0))) := by
      show V2.heap[w2.heap.size]? = _
      rw [← hV2]
      exact heap_alloc_new w2 _
    have HV2 := Lib.hid hbv2
    have z2 : w2.heap.size < V2.heap.size := by rw [← hV2]; simp
    clear hbv2 hV2
    refine (dDecode_any s V2 hs).mono ?_
    rintro e w3 ⟨c3, rs3, k3, rfl, hO3, hd3, hb3⟩
    obtain ⟨rfl, rfl⟩ := dec_same D2.out hd3
    have O3 := Lib.hid hO3
    have H3 := Lib.hid hb3
    have X3 := Lib.hid (heap_of X2.out hb3)
    have z3 := hb3.size
    obtain ⟨f1, f2, rfl, q1, q2⟩ := hO3
    obtain ⟨p3, m3, rfl, -⟩ := q1.form
    obtain ⟨p4, m4, rfl, -⟩ := q2.form
    obtain ⟨x0, x1⟩ := two_cells X3.out
    have y0 : w2.heap.size < w3.heap.size := by omega
    clear q1 q2 hd3 hb3
    go_wp2_with fail
    generalize hV3 : w3.alloc (.cells #[.slice p3 c3.tbs.length m3, .slice p4 c3.prs.length m4] 25) = V3
    have hbv3 : Below w3.heap.size w3 V3 := by rw [← hV3]; exact (Below.refl _ _).alloc (Nat.le_refl _) _
    have Y3 : Hid (V3.heap[w3.heap.size]? = some (.cells #[.slice p3 c3.tbs.length m3, .slice p4 c3.prs.length m4] 25 (0, 0))) := by
      show V3.heap[w3.heap.size]? = _
      rw [← hV3]
      exact heap_alloc_new w3 _
    have HV3 := Lib.hid hbv3
    have X3' := Lib.hid (heap_of X3.out hbv3)
    have zv3 : w3.heap.size < V3.heap.size := by rw [← hV3]; simp
    clear hbv3 hV3 x0 x1
    have HZ := Lib.hid (dec_Z D2.out)
    refine (same_any c3 c3 _ _ V3 (CtR.later (below_two HV2.out (below_two H3.out HV3.out)) _ _ (CtO.reads _ _ O2.out)) (CtR.later HV3.out _ _ (CtO.reads _ _ O3.out)) (HZ.out.mono (by omega))).mono ?_
    rintro e w4 ⟨b, rfl, hiff, hb4⟩
    obtain rfl : b = true := hiff.2 rfl
    have z4 := hb4.size
    have H34 := Lib.hid (below_two HV3.out hb4)
    have X4 := Lib.hid (heap_of X3'.out hb4)
    have Y4 := Lib.hid (heap_of Y3.out hb4)
    have H24 := Lib.hid (below_two HV2.out (below_two H3.out (below_two HV3.out hb4)))
    obtain ⟨x0, x1⟩ := two_cells X4.out
    obtain ⟨y1, y2⟩ := two_cells Y4.out
    clear hb4 hiff
    have zz1 := W1.out.size
    have zz2 := H2.out.size
    go_wp2_with fail
    refine (turned_any c3 _ w2 w4 w1.heap.size O2.out (fun k _ h => H24.out.block k h) H24.out.size HZ.out).mono ?_
    rintro e w5 ⟨rfl, ho⟩
    have z5 := ho.size
    have L5 : Hid (Below w.heap.size w w5) := (below_two W1.out (below_two H2.out H24.out)).trans (ho.below (by omega) (fun k hk h => by omega))
    have Y5 := Lib.hid ((ho.block _ (by omega) (fun h => by omega)).trans Y4.out)
    have R5 : Hid (CtO w5 V2.heap.size c3 [.slice p3 c3.tbs.length m3, .slice p4 c3.prs.length m4]) := CtO.keeps (fun g cur t _ hB hg => (ho.block g (Array.getElem?_eq_some_iff.1 hg).1 (fun h => by omega)).trans hg) _ _ (O3.out.later H34.out)
    clear ho x0 x1 y1 y2
    obtain ⟨y1, y2⟩ := two_cells Y5.out
    go_wp2_with fail
    refine (decode_any rtext_any s w5 hs).mono ?_
    rintro e w6 ⟨c6, rs6, k6, rfl, hO6, hd6, hb6⟩
    obtain ⟨rfl, rfl⟩ := dec_same D2.out hd6
    have O6 := Lib.hid hO6
    have Y6 := Lib.hid (heap_of Y5.out hb6)
    have z6 := hb6.size
    have R6 := Lib.hid (R5.out.later hb6)
    have L6 := Lib.hid (below_two L5.out hb6)
    obtain ⟨f1, f2, rfl, q1, q2⟩ := hO6
    obtain ⟨p5, m5, rfl, -⟩ := q1.form
    obtain ⟨p6, m6, rfl, -⟩ := q2.form
    clear q1 q2 hd6 hb6 y1 y2
    obtain ⟨y1, y2⟩ := two_cells Y6.out
    have y3 : w3.heap.size < w6.heap.size := by omega
    go_wp2_with fail
    generalize hV6 : w6.alloc (.cells #[.slice p5 c6.tbs.length m5, .slice p6 c6.prs.length m6] 25) = V6
    have hbv6 : Below w6.heap.size w6 V6 := by rw [← hV6]; exact (Below.refl _ _).alloc (Nat.le_refl _) _
    have HV6 := Lib.hid hbv6
    clear hbv6 hV6 y1 y2
    refine (same_any c6 c6 _ _ V6 (CtR.later HV6.out _ _ (CtO.reads _ _ O6.out)) (CtR.later HV6.out _ _ (CtO.reads _ _ R6.out)) (HZ.out.mono (by omega))).mono ?_
    rintro e w7 ⟨b, rfl, hiff, hb7⟩
    obtain rfl : b = true := hiff.2 rfl
    have L7 := Lib.hid (below_two L6.out (below_two HV6.out hb7))
    clear hb7 hiff
    go_wp2
    go_ret
    exact ⟨ret_bool (by simp), L7.out⟩
  · have hsi : (2147483647 : Int) < (s.size : Int) := by omega
    go_enter Tryz.func4, Tryz.ntmps4
    go_wp2
    go_ret
    exact ⟨rfl, Below.refl _ _⟩
end Go.Proofs.YtkgkkcefnonejaaGreat
