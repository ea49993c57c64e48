/- Walks of layer 8: the document's Turned. -/
import Derived.Test.YtkgkkcefnonejaaGreatX8W
import Derived.Test.YtkgkkcefnonejaaGreatT41
namespace Go.Proofs.YtkgkkcefnonejaaGreat
open Go.RowKit

/-- A cell that was written over: a text by a text, a number by a number, a bool by a bool. -/
inductive Sim : Value → Value → Prop
  | same (v : Value) : Sim v v
  | str (s t : ByteArray) : Sim (.string s) (.string t)
  | int (i j : Int) : Sim (.int .i64 i) (.int .i64 j)
  | bool (x y : Bool) : Sim (.bool x) (.bool y)
theorem Sim.ofStr {s : ByteArray} {v : Value} (h : Sim (.string s) v) : ∃ t, v = .string t := by cases h <;> exact ⟨_, rfl⟩
theorem Sim.ofInt {i : Int} {v : Value} (h : Sim (.int .i64 i) v) : ∃ j, v = .int .i64 j := by cases h <;> exact ⟨_, rfl⟩
theorem Sim.ofBool {i : Bool} {v : Value} (h : Sim (.bool i) v) : ∃ j, v = .bool j := by cases h <;> exact ⟨_, rfl⟩
theorem Sim.ofSlice {p : Option Addr} {n c : Nat} {v : Value} (h : Sim (.slice p n c) v) : v = .slice p n c := by cases h; rfl
/-- Of what was there cells of the zone alone were written over. -/
structure Tw (Z : Nat → Prop) (w W : World) : Prop where
  only : Only Z w W
  cell : ∀ b o v, b < w.heap.size → w.cell? ⟨b, o, none⟩ = some v → ∃ v', W.cell? ⟨b, o, none⟩ = some v' ∧ Sim v v'
  free : ∀ b o, b < w.heap.size → W.frozen? ⟨b, o, none⟩ = w.frozen? ⟨b, o, none⟩
theorem Tw.refl (Z : Nat → Prop) (w : World) : Tw Z w w := ⟨Only.refl _ _, fun _ _ v _ h => ⟨v, h, .same v⟩, fun _ _ _ => rfl⟩
theorem Tw.later {Z : Nat → Prop} {w W W' : World} (h : Tw Z w W) (hb : Below W.heap.size W W') : Tw Z w W' := by
  obtain ⟨hc, hf⟩ := bcell hb
  have hs := h.only.size
  refine ⟨h.only.later hb, fun b o v hl hv => ?_, fun b o hl => (hf b o (by omega)).trans (h.free b o hl)⟩
  obtain ⟨v', e, s⟩ := h.cell b o v hl hv
  exact ⟨v', (hc b o (by omega)).trans e, s⟩
theorem Tw.set {Z : Nat → Prop} {w W : World} (h : Tw Z w W) {b o : Nat} {v u : Value} (hZ : Z b) (hl : b < w.heap.size) (hc : w.cell? ⟨b, o, none⟩ = some v) (hs : Sim v u) : Tw Z w (W.setCell ⟨b, o, none⟩ u) := by
  refine ⟨h.only.setCell (p := ⟨b, o, none⟩) hZ u, fun b' o' v' hl' hv' => ?_, fun b' o' hl' => by rw [World.frozen?_setCell]; exact h.free b' o' hl'⟩
  by_cases e : b' = b ∧ o' = o
  · obtain ⟨rfl, rfl⟩ := e
    obtain ⟨x, ex, _⟩ := h.cell b' o' v hl hc
    rw [hc] at hv'
    cases hv'
    exact ⟨u, World.cell?_setCell_same _ _ _ ex, hs⟩
  · obtain ⟨x, ex, sx⟩ := h.cell b' o' v' hl' hv'
    refine ⟨x, (World.cell?_setCell_other _ _ _ _ (fun e' => e ?_)).trans ex, sx⟩
    injection e' with e1 e2
    exact ⟨e1.symm, e2.symm⟩
theorem set_heap {W : World} {g x o : Nat} {u : Value} {ob : Obj} (h : W.heap[x]? = some ob) (hne : x ≠ g) : (W.setCell ⟨g, o, none⟩ u).heap[x]? = some ob := (Below.heap_setCell _ _ _ _ hne).trans h
/-- A thing of a row of one's own, where it lies. -/
theorem OwnR.zone {α : Type} {n : Nat} {T : TypeId} {R : α → List Value → Prop} {w : World} {B m cap : Nat} {p : Option Addr} {l : List α} (h : OwnR n T R w B (.slice p m cap) l) {i : Nat} (hi : i < l.length) : ∃ g vs, p = some ⟨g, 0, none⟩ ∧ B ≤ g ∧ g < w.heap.size ∧ (∀ o, w.frozen? ⟨g, o, none⟩ = false) ∧ R l[i] vs ∧ vs.length = n ∧ ∀ j (hj : j < vs.length), w.cell? ⟨g, i * n + j, none⟩ = some vs[j] := by
  obtain ⟨b, off, vs, e, h1, h2, h3⟩ := h.row (fun _ _ h => h) i hi
  obtain ⟨ps, q1, q2, q3⟩ := h
  have q30 := q3
  obtain ⟨_, ⟨e', h0⟩ | ⟨g, cap', cur, e', hB, hg, _⟩⟩ := q3
  · omega
  · simp only [Value.slice.injEq] at e'
    obtain ⟨rfl, rfl, rfl⟩ := e'
    simp only [Option.some.injEq, Addr.mk.injEq, and_true] at e
    obtain ⟨rfl, rfl⟩ := e
    exact ⟨g, vs, rfl, hB, (Array.getElem?_eq_some_iff.1 hg).1, fun o => q30.frozenAt o, h1, h2, fun j hj => by have := h3 j hj; rwa [Nat.zero_add] at this⟩

set_option maxHeartbeats 64000000 in
set_option maxRecDepth 100000 in
theorem turned_any (c : Ct) (vs : List Value) (w8 w : World) (B : Nat) (hO : CtO w8 B c vs) (hk : ∀ k, B ≤ k → k < w8.heap.size → w.heap[k]? = w8.heap[k]?) (hsz : w8.heap.size ≤ w.heap.size) (hZ : CtZ 2147483647 c) :
    Calls Tryz.prog 19 #[.agg vs.toArray] w fun e w' => e = .returned (.tuple #[]) ∧ Only (fun k => B ≤ k ∧ k < w8.heap.size) w w' := by
  obtain ⟨vt, vp, rfl, oT, oP⟩ := hO
  obtain ⟨pt, ct, rfl, -⟩ := oT.form
  obtain ⟨pp, cp, rfl, -⟩ := oP.form
  have HT := Lib.hid oT
  have HP := Lib.hid oP
  have HZ := Lib.hid hZ
  have l1 := hZ.tbs
  have l2 := hZ.prs
  have HC : Hid (∀ b o v, B ≤ b → b < w8.heap.size → w8.cell? ⟨b, o, none⟩ = some v → w.cell? ⟨b, o, none⟩ = some v) := fun b o v hB hl hv => cell_at (hk b hB hl) hv
  have HF : Hid (∀ b o, B ≤ b → b < w8.heap.size → w8.frozen? ⟨b, o, none⟩ = false → w.frozen? ⟨b, o, none⟩ = false) := fun b o hB hl hv => by
    unfold World.frozen? at hv ⊢
    rw [hk b hB hl]
    exact hv
  clear oT oP hZ hk
  obtain ⟨Z, hZ0⟩ : ∃ Z : Nat → Prop, Z = fun k => B ≤ k ∧ k < w8.heap.size := ⟨_, rfl⟩
  have HZZ : Hid (∀ k, B ≤ k → k < w8.heap.size → Z k) := fun k h1 h2 => by rw [hZ0]; exact ⟨h1, h2⟩
  rw [← hZ0]
  clear hZ0
  have hX0 : (w.alloc (.cells #[.slice pt c.tbs.length ct, .slice pp c.prs.length cp] 25)).heap[w.heap.size]? = some (.cells #[.slice pt c.tbs.length ct, .slice pp c.prs.length cp] 25 (0, 0)) := heap_alloc_new w _
  have HX0 := Lib.hid hX0
  have HT0 : Hid (Tw Z w (w.alloc (.cells #[.slice pt c.tbs.length ct, .slice pp c.prs.length cp] 25))) := (Tw.refl _ _).later ((Below.refl _ _).alloc (Nat.le_refl _) _)
  clear hX0
  obtain ⟨c0, c1⟩ := two_cells HX0.out
  go_enter Tryz.func19, Tryz.ntmps19
  go_wp2
  clear c0 c1
  go_loopw [2] (fun i wz => ∃ k : Nat, k ≤ c.tbs.length ∧ i = .int .i64 k ∧ Tw Z w wz ∧ wz.heap[w.heap.size]? = some (.cells #[.slice pt c.tbs.length ct, .slice pp c.prs.length cp] 25 (0, 0))) (fun i _ => c.tbs.length - (intOf i).toNat)
  case atStart => exact ⟨0, Nat.zero_le _, rfl, HT0.out, HX0.out⟩
  case round =>
    rename World => R1
    obtain ⟨k, hk, rfl, htw, hcx⟩ := hrel
    have TW1 := Lib.hid htw
    have HX1 := Lib.hid hcx
    have zz1 := (Array.getElem?_eq_some_iff.1 hcx).1
    clear htw hcx
    obtain ⟨c0, c1⟩ := two_cells HX1.out
    by_cases hltk : k < c.tbs.length
    · have hltik : (k : Int) < (c.tbs.length : Int) := by omega
      obtain ⟨g2, us2, hp2, hB2, hE2, hf2, hR2, hn2, hc2⟩ := HT.out.zone hltk
      subst hp2
      obtain ⟨vc, vk, vx, rfl, oc, ok, ox⟩ := hR2
      obtain ⟨pc, cc, rfl, -⟩ := oc.form
      obtain ⟨pk, ck, rfl, -⟩ := ok.form
      obtain ⟨px, cx, rfl, -⟩ := ox.form
      have HOC := Lib.hid oc
      have HOK := Lib.hid ok
      have HOX := Lib.hid ox
      clear oc ok ox
      have HQ := Lib.hid (HZ.out.tb _ (List.getElem_mem hltk))
      obtain ⟨x, hx⟩ : ∃ x, c.tbs[k] = x := ⟨_, rfl⟩
      simp only [hx] at hc2 hn2 HOC HOK HOX HQ
      have bw0 : w.cell? ⟨g2, k * 5, none⟩ = some (.string x.nm) := HC.out _ _ _ hB2 hE2 (hc2 0 (by rw [hn2]; omega))
      obtain ⟨bx0, bd0, bs0⟩ := TW1.out.cell _ _ _ (by omega) bw0
      obtain ⟨bv0, rfl⟩ := bs0.ofStr
      have bw1 : w.cell? ⟨g2, k * 5 + 1, none⟩ = some (.slice pc x.cols.length cc) := HC.out _ _ _ hB2 hE2 (hc2 1 (by rw [hn2]; omega))
      obtain ⟨bx1, bd1, bs1⟩ := TW1.out.cell _ _ _ (by omega) bw1
      obtain rfl := bs1.ofSlice
      have bw2 : w.cell? ⟨g2, k * 5 + 2, none⟩ = some (.slice pk x.key.length ck) := HC.out _ _ _ hB2 hE2 (hc2 2 (by rw [hn2]; omega))
      obtain ⟨bx2, bd2, bs2⟩ := TW1.out.cell _ _ _ (by omega) bw2
      obtain rfl := bs2.ofSlice
      have bw3 : w.cell? ⟨g2, k * 5 + 3, none⟩ = some (.int .i64 x.part) := HC.out _ _ _ hB2 hE2 (hc2 3 (by rw [hn2]; omega))
      obtain ⟨bx3, bd3, bs3⟩ := TW1.out.cell _ _ _ (by omega) bw3
      obtain ⟨bv3, rfl⟩ := bs3.ofInt
      have bw4 : w.cell? ⟨g2, k * 5 + 4, none⟩ = some (.slice px x.ixs.length cx) := HC.out _ _ _ hB2 hE2 (hc2 4 (by rw [hn2]; omega))
      obtain ⟨bx4, bd4, bs4⟩ := TW1.out.cell _ _ _ (by omega) bw4
      obtain rfl := bs4.ofSlice
      have bf : ∀ o, R1.frozen? ⟨g2, o, none⟩ = false := fun o => (TW1.out.free _ o (by omega)).trans (HF.out _ _ hB2 hE2 (hf2 o))
      obtain ⟨WX, hWX⟩ : ∃ WX, R1.alloc (.cells #[.string bv0, .slice pc x.cols.length cc, .slice pk x.key.length ck, .int .i64 bv3, .slice px x.ixs.length cx] 46) = WX := ⟨_, rfl⟩
      have hbx : Below R1.heap.size R1 WX := by rw [← hWX]; exact (Below.refl _ _).alloc (Nat.le_refl _) _
      have HBx : Hid (WX.heap[R1.heap.size]? = some (.cells #[.string bv0, .slice pc x.cols.length cc, .slice pk x.key.length ck, .int .i64 bv3, .slice px x.ixs.length cx] 46 (0, 0))) := by show WX.heap[R1.heap.size]? = _; rw [← hWX]; exact heap_alloc_new _ _
      have HXx := Lib.hid (heap_of HX1.out hbx)
      have TWx := Lib.hid (TW1.out.later hbx)
      have hws := TW1.out.only.size
      clear hbx
      go_wp2
      clear hWX bd0 bd1 bd2 bd3 bd4
      obtain ⟨t0, t1, t2, t3, t4⟩ := five_of HBx.out
      have bd3 := HQ.out.cols
      clear c0 c1 t0 t1 t2 t3 t4
      go_loopw [4] (fun i wz => ∃ j : Nat, j ≤ x.cols.length ∧ i = .int .i64 j ∧ Tw Z w wz ∧ wz.heap[w.heap.size]? = some (.cells #[.slice (some ⟨g2, 0, none⟩) c.tbs.length ct, .slice pp c.prs.length cp] 25 (0, 0)) ∧ wz.heap[R1.heap.size]? = some (.cells #[.string bv0, .slice pc x.cols.length cc, .slice pk x.key.length ck, .int .i64 bv3, .slice px x.ixs.length cx] 46 (0, 0))) (fun i _ => x.cols.length - (intOf i).toNat)
      case atStart => exact ⟨0, Nat.zero_le _, rfl, TWx.out, HXx.out, HBx.out⟩
      case round =>
        rename World => R4
        obtain ⟨j, hj, rfl, htw, hcx, hbx⟩ := hrel
        have TW4 := Lib.hid htw
        have HX4 := Lib.hid hcx
        have zz4 := (Array.getElem?_eq_some_iff.1 hcx).1
        have HB4 := Lib.hid hbx
        clear htw hcx hbx
        obtain ⟨c0, c1⟩ := two_cells HX4.out
        obtain ⟨t0, t1, t2, t3, t4⟩ := five_of HB4.out
        by_cases hltj : j < x.cols.length
        · have hlti : (j : Int) < ((x.cols.length : Nat) : Int) := by omega
          obtain ⟨g5, us5, hp5, hB5, hE5, hf5, hR5, hn5, hc5⟩ := HOC.out.zone hltj
          subst hp5
          simp only [ColR] at hR5
          subst hR5
          have aw0 : w.cell? ⟨g5, j * 3, none⟩ = some (.string x.cols[j].nm) := HC.out _ _ _ hB5 hE5 (hc5 0 (by rw [hn5]; omega))
          obtain ⟨ax0, ad0, as0⟩ := TW4.out.cell _ _ _ (by omega) aw0
          obtain ⟨av0, rfl⟩ := as0.ofStr
          have aw1 : w.cell? ⟨g5, j * 3 + 1, none⟩ = some (.int .i64 x.cols[j].ty) := HC.out _ _ _ hB5 hE5 (hc5 1 (by rw [hn5]; omega))
          obtain ⟨ax1, ad1, as1⟩ := TW4.out.cell _ _ _ (by omega) aw1
          obtain ⟨av1, rfl⟩ := as1.ofInt
          have aw2 : w.cell? ⟨g5, j * 3 + 2, none⟩ = some (.bool x.cols[j].nn) := HC.out _ _ _ hB5 hE5 (hc5 2 (by rw [hn5]; omega))
          obtain ⟨ax2, ad2, as2⟩ := TW4.out.cell _ _ _ (by omega) aw2
          obtain ⟨av2, rfl⟩ := as2.ofBool
          have af : ∀ o, R4.frozen? ⟨g5, o, none⟩ = false := fun o => (TW4.out.free _ o (by omega)).trans (HF.out _ _ hB5 hE5 (hf5 o))
          have hT := Lib.hid (((TW4.out.set (u := (.string ⟨#[]⟩)) (HZZ.out _ hB5 hE5) (by omega) aw0 (Sim.str _ _)).set (u := (.int .i64 (-7))) (HZZ.out _ hB5 hE5) (by omega) aw1 (Sim.int _ _)).set (u := (.bool false)) (HZZ.out _ hB5 hE5) (by omega) aw2 (Sim.bool _ _))
          have hXn := Lib.hid (set_heap (g := g5) (o := j * 3 + 2) (u := (.bool false)) (set_heap (g := g5) (o := j * 3 + 1) (u := (.int .i64 (-7))) (set_heap (g := g5) (o := j * 3) (u := (.string ⟨#[]⟩)) HX4.out (by omega)) (by omega)) (by omega))
          have hBn := Lib.hid (set_heap (g := g5) (o := j * 3 + 2) (u := (.bool false)) (set_heap (g := g5) (o := j * 3 + 1) (u := (.int .i64 (-7))) (set_heap (g := g5) (o := j * 3) (u := (.string ⟨#[]⟩)) HB4.out (by omega)) (by omega)) (by omega))
          go_wp2
          go_roundw
          case rel => exact ⟨j + 1, by omega, by go_num, hT.out, hXn.out, hBn.out⟩
          case measure => simp [intOf]; omega
        · have hlti : ¬ (j : Int) < ((x.cols.length : Nat) : Int) := by omega
          go_wp2
          have bd6 := HQ.out.key
          clear c0 c1 t0 t1 t2 t3 t4
          go_loopw [5] (fun i wz => ∃ m : Nat, m ≤ x.key.length ∧ i = .int .i64 m ∧ Tw Z w wz ∧ wz.heap[w.heap.size]? = some (.cells #[.slice (some ⟨g2, 0, none⟩) c.tbs.length ct, .slice pp c.prs.length cp] 25 (0, 0)) ∧ wz.heap[R1.heap.size]? = some (.cells #[.string bv0, .slice pc x.cols.length cc, .slice pk x.key.length ck, .int .i64 bv3, .slice px x.ixs.length cx] 46 (0, 0))) (fun i _ => x.key.length - (intOf i).toNat)
          case atStart => exact ⟨0, Nat.zero_le _, rfl, TW4.out, HX4.out, HB4.out⟩
          case round =>
            rename World => R7
            obtain ⟨m, hm, rfl, htw, hcx, hbx⟩ := hrel
            have TW7 := Lib.hid htw
            have HX7 := Lib.hid hcx
            have zz7 := (Array.getElem?_eq_some_iff.1 hcx).1
            have HB7 := Lib.hid hbx
            clear htw hcx hbx
            obtain ⟨c0, c1⟩ := two_cells HX7.out
            obtain ⟨t0, t1, t2, t3, t4⟩ := five_of HB7.out
            by_cases hltm : m < x.key.length
            · have hlti : (m : Int) < ((x.key.length : Nat) : Int) := by omega
              obtain ⟨g8, us8, hp8, hB8, hE8, hf8, hR8, hn8, hc8⟩ := HOK.out.zone hltm
              subst hp8
              simp only [IntR] at hR8
              subst hR8
              have aw0 : w.cell? ⟨g8, m * 1, none⟩ = some (.int .i64 x.key[m]) := HC.out _ _ _ hB8 hE8 (hc8 0 (by rw [hn8]; omega))
              obtain ⟨ax0, ad0, as0⟩ := TW7.out.cell _ _ _ (by omega) aw0
              obtain ⟨av0, rfl⟩ := as0.ofInt
              have af : ∀ o, R7.frozen? ⟨g8, o, none⟩ = false := fun o => (TW7.out.free _ o (by omega)).trans (HF.out _ _ hB8 hE8 (hf8 o))
              simp only [Nat.mul_one] at aw0 ad0
              have hT := Lib.hid (TW7.out.set (u := (.int .i64 (-7))) (HZZ.out _ hB8 hE8) (by omega) aw0 (Sim.int _ _))
              have hXn := Lib.hid (set_heap (g := g8) (o := m) (u := (.int .i64 (-7))) HX7.out (by omega))
              have hBn := Lib.hid (set_heap (g := g8) (o := m) (u := (.int .i64 (-7))) HB7.out (by omega))
              go_wp2
              go_roundw
              case rel => exact ⟨m + 1, by omega, by go_num, hT.out, hXn.out, hBn.out⟩
              case measure => simp [intOf]; omega
            · have hlti : ¬ (m : Int) < ((x.key.length : Nat) : Int) := by omega
              go_wp2
              have bdx := HQ.out.ixs
              clear c0 c1 t0 t1 t2 t3 t4
              go_loopw [6] (fun i wz => ∃ m2 : Nat, m2 ≤ x.ixs.length ∧ i = .int .i64 m2 ∧ Tw Z w wz ∧ wz.heap[w.heap.size]? = some (.cells #[.slice (some ⟨g2, 0, none⟩) c.tbs.length ct, .slice pp c.prs.length cp] 25 (0, 0)) ∧ wz.heap[R1.heap.size]? = some (.cells #[.string bv0, .slice pc x.cols.length cc, .slice pk x.key.length ck, .int .i64 bv3, .slice px x.ixs.length cx] 46 (0, 0))) (fun i _ => x.ixs.length - (intOf i).toNat)
              case atStart => exact ⟨0, Nat.zero_le _, rfl, TW7.out, HX7.out, HB7.out⟩
              case round =>
                rename World => R9
                obtain ⟨m2, hm2, rfl, htw, hcx, hbx⟩ := hrel
                have TW9 := Lib.hid htw
                have HX9 := Lib.hid hcx
                have zz9 := (Array.getElem?_eq_some_iff.1 hcx).1
                have HB9 := Lib.hid hbx
                clear htw hcx hbx
                obtain ⟨c0, c1⟩ := two_cells HX9.out
                obtain ⟨t0, t1, t2, t3, t4⟩ := five_of HB9.out
                by_cases hltm2 : m2 < x.ixs.length
                · have hltim2 : (m2 : Int) < (x.ixs.length : Int) := by omega
                  obtain ⟨g10, us10, hp10, hB10, hE10, hf10, hR10, hn10, hc10⟩ := HOX.out.zone hltm2
                  subst hp10
                  obtain ⟨vi, rfl, oi⟩ := hR10
                  obtain ⟨pi, ci, rfl, -⟩ := oi.form
                  have HOI := Lib.hid oi
                  clear oi
                  have HQX := HQ.out.ix _ (List.getElem_mem hltm2)
                  have HQI := HQX.2
                  clear HQX
                  obtain ⟨y, hy⟩ : ∃ y, x.ixs[m2] = y := ⟨_, rfl⟩
                  simp only [hy] at hc10 hn10 HOI HQI
                  go_wp2
                  clear c0 c1 t0 t1 t2 t3 t4
                  go_loopw [7] (fun i wz => ∃ j : Nat, j ≤ y.cols.length ∧ i = .int .i64 j ∧ Tw Z w wz ∧ wz.heap[w.heap.size]? = some (.cells #[.slice (some ⟨g2, 0, none⟩) c.tbs.length ct, .slice pp c.prs.length cp] 25 (0, 0)) ∧ wz.heap[R1.heap.size]? = some (.cells #[.string bv0, .slice pc x.cols.length cc, .slice pk x.key.length ck, .int .i64 bv3, .slice (some ⟨g10, 0, none⟩) x.ixs.length cx] 46 (0, 0))) (fun i _ => y.cols.length - (intOf i).toNat)
                  case atStart => exact ⟨0, Nat.zero_le _, rfl, TW9.out, HX9.out, HB9.out⟩
                  case round =>
                    rename World => R11
                    obtain ⟨j, hj, rfl, htw, hcx, hbx⟩ := hrel
                    have TW11 := Lib.hid htw
                    have HX11 := Lib.hid hcx
                    have HB11 := Lib.hid hbx
                    have zz11 := (Array.getElem?_eq_some_iff.1 hcx).1
                    clear htw hcx hbx
                    obtain ⟨c0, c1⟩ := two_cells HX11.out
                    obtain ⟨t0, t1, t2, t3, t4⟩ := five_of HB11.out
                    have qw0 : w.cell? ⟨g10, m2 * 3, none⟩ = some (.string y.nm) := HC.out _ _ _ hB10 hE10 (hc10 0 (by rw [hn10]; omega))
                    obtain ⟨qx0, qd0, qs0⟩ := TW11.out.cell _ _ _ (by omega) qw0
                    obtain ⟨qv0, rfl⟩ := qs0.ofStr
                    have qw1 : w.cell? ⟨g10, m2 * 3 + 1, none⟩ = some (.slice pi y.cols.length ci) := HC.out _ _ _ hB10 hE10 (hc10 1 (by rw [hn10]; omega))
                    obtain ⟨qx1, qd1, qs1⟩ := TW11.out.cell _ _ _ (by omega) qw1
                    obtain rfl := qs1.ofSlice
                    have qw2 : w.cell? ⟨g10, m2 * 3 + 2, none⟩ = some (.bool y.un) := HC.out _ _ _ hB10 hE10 (hc10 2 (by rw [hn10]; omega))
                    obtain ⟨qx2, qd2, qs2⟩ := TW11.out.cell _ _ _ (by omega) qw2
                    obtain ⟨qv2, rfl⟩ := qs2.ofBool
                    have qf : ∀ o, R11.frozen? ⟨g10, o, none⟩ = false := fun o => (TW11.out.free _ o (by omega)).trans (HF.out _ _ hB10 hE10 (hf10 o))
                    by_cases hltj : j < y.cols.length
                    · have hltij : (j : Int) < (y.cols.length : Int) := by omega
                      obtain ⟨g12, us12, hp12, hB12, hE12, hf12, hR12, hn12, hc12⟩ := HOI.out.zone hltj
                      subst hp12
                      simp only [IntR] at hR12
                      subst hR12
                      have aw0 : w.cell? ⟨g12, j * 1, none⟩ = some (.int .i64 y.cols[j]) := HC.out _ _ _ hB12 hE12 (hc12 0 (by rw [hn12]; omega))
                      obtain ⟨ax0, ad0, as0⟩ := TW11.out.cell _ _ _ (by omega) aw0
                      obtain ⟨av0, rfl⟩ := as0.ofInt
                      have af : ∀ o, R11.frozen? ⟨g12, o, none⟩ = false := fun o => (TW11.out.free _ o (by omega)).trans (HF.out _ _ hB12 hE12 (hf12 o))
                      simp only [Nat.mul_one] at aw0 ad0
                      have hT := Lib.hid (TW11.out.set (u := (.int .i64 (-7))) (HZZ.out _ hB12 hE12) (by omega) aw0 (Sim.int _ _))
                      have hXn := Lib.hid (set_heap (g := g12) (o := j) (u := (.int .i64 (-7))) HX11.out (by omega))
                      have hBn := Lib.hid (set_heap (g := g12) (o := j) (u := (.int .i64 (-7))) HB11.out (by omega))
                      go_wp2
                      go_roundw
                      case rel => exact ⟨j + 1, by omega, by go_num, hT.out, hXn.out, hBn.out⟩
                      case measure => simp [intOf]; omega
                    · have hltij : ¬ (j : Int) < (y.cols.length : Int) := by omega
                      have hT := Lib.hid (TW11.out.set (u := (.string ⟨#[109, 97, 114, 107]⟩)) (HZZ.out _ hB10 hE10) (by omega) qw0 (Sim.str _ _))
                      have hXn := Lib.hid (set_heap (g := g10) (o := m2 * 3) (u := (.string ⟨#[109, 97, 114, 107]⟩)) HX11.out (by omega))
                      have hBn := Lib.hid (set_heap (g := g10) (o := m2 * 3) (u := (.string ⟨#[109, 97, 114, 107]⟩)) HB11.out (by omega))
                      go_wp2
                      go_roundw
                      case rel => exact ⟨m2 + 1, by omega, by go_num, hT.out, hXn.out, hBn.out⟩
                      case measure => simp [intOf]; omega
                · have hltim2 : ¬ (m2 : Int) < (x.ixs.length : Int) := by omega
                  have zw0 : w.cell? ⟨g2, k * 5, none⟩ = some (.string x.nm) := HC.out _ _ _ hB2 hE2 (hc2 0 (by rw [hn2]; omega))
                  obtain ⟨zx0, zd0, zs0⟩ := TW9.out.cell _ _ _ (by omega) zw0
                  obtain ⟨zv0, rfl⟩ := zs0.ofStr
                  have zf : ∀ o, R9.frozen? ⟨g2, o, none⟩ = false := fun o => (TW9.out.free _ o (by omega)).trans (HF.out _ _ hB2 hE2 (hf2 o))
                  have hT := Lib.hid (TW9.out.set (u := (.string ⟨#[109, 97, 114, 107]⟩)) (HZZ.out _ hB2 hE2) (by omega) bw0 (Sim.str _ _))
                  have hXn := Lib.hid (set_heap (g := g2) (o := k * 5) (u := (.string ⟨#[109, 97, 114, 107]⟩)) HX9.out (by omega))
                  go_wp2
                  go_roundw
                  case rel => exact ⟨k + 1, by omega, by go_num, hT.out, hXn.out⟩
                  case measure => simp [intOf]; omega
    · have hltik : ¬ (k : Int) < (c.tbs.length : Int) := by omega
      go_wp2
      clear c0 c1
      go_loopw [8] (fun i wz => ∃ k : Nat, k ≤ c.prs.length ∧ i = .int .i64 k ∧ Tw Z w wz ∧ wz.heap[w.heap.size]? = some (.cells #[.slice pt c.tbs.length ct, .slice pp c.prs.length cp] 25 (0, 0))) (fun i _ => c.prs.length - (intOf i).toNat)
      case atStart => exact ⟨0, Nat.zero_le _, rfl, TW1.out, HX1.out⟩
      case round =>
        rename World => R13
        obtain ⟨k, hk, rfl, htw, hcx⟩ := hrel
        have TW13 := Lib.hid htw
        have HX13 := Lib.hid hcx
        have zz13 := (Array.getElem?_eq_some_iff.1 hcx).1
        clear htw hcx
        obtain ⟨c0, c1⟩ := two_cells HX13.out
        by_cases hltk : k < c.prs.length
        · have hltik : (k : Int) < (c.prs.length : Int) := by omega
          obtain ⟨g14, us14, hp14, hB14, hE14, hf14, hR14, hn14, hc14⟩ := HP.out.zone hltk
          subst hp14
          obtain ⟨vm, vb, rfl, oc, ok⟩ := hR14
          obtain ⟨pc, cc, rfl, -⟩ := oc.form
          obtain ⟨pk, ck, rfl, -⟩ := ok.form
          have HOC := Lib.hid oc
          have HOK := Lib.hid ok
          clear oc ok
          have HQ := Lib.hid (HZ.out.pc _ (List.getElem_mem hltk))
          obtain ⟨x, hx⟩ : ∃ x, c.prs[k] = x := ⟨_, rfl⟩
          simp only [hx] at hc14 hn14 HOC HOK HQ
          have bw0 : w.cell? ⟨g14, k * 5, none⟩ = some (.string x.nm) := HC.out _ _ _ hB14 hE14 (hc14 0 (by rw [hn14]; omega))
          obtain ⟨bx0, bd0, bs0⟩ := TW13.out.cell _ _ _ (by omega) bw0
          obtain ⟨bv0, rfl⟩ := bs0.ofStr
          have bw1 : w.cell? ⟨g14, k * 5 + 1, none⟩ = some (.slice pc x.prms.length cc) := HC.out _ _ _ hB14 hE14 (hc14 1 (by rw [hn14]; omega))
          obtain ⟨bx1, bd1, bs1⟩ := TW13.out.cell _ _ _ (by omega) bw1
          obtain rfl := bs1.ofSlice
          have bw2 : w.cell? ⟨g14, k * 5 + 2, none⟩ = some (.slice pk x.body.length ck) := HC.out _ _ _ hB14 hE14 (hc14 2 (by rw [hn14]; omega))
          obtain ⟨bx2, bd2, bs2⟩ := TW13.out.cell _ _ _ (by omega) bw2
          obtain rfl := bs2.ofSlice
          have bw3 : w.cell? ⟨g14, k * 5 + 3, none⟩ = some (.int .i64 x.rows) := HC.out _ _ _ hB14 hE14 (hc14 3 (by rw [hn14]; omega))
          obtain ⟨bx3, bd3, bs3⟩ := TW13.out.cell _ _ _ (by omega) bw3
          obtain ⟨bv3, rfl⟩ := bs3.ofInt
          have bw4 : w.cell? ⟨g14, k * 5 + 4, none⟩ = some (.int .i64 x.bytes) := HC.out _ _ _ hB14 hE14 (hc14 4 (by rw [hn14]; omega))
          obtain ⟨bx4, bd4, bs4⟩ := TW13.out.cell _ _ _ (by omega) bw4
          obtain ⟨bv4, rfl⟩ := bs4.ofInt
          have bf : ∀ o, R13.frozen? ⟨g14, o, none⟩ = false := fun o => (TW13.out.free _ o (by omega)).trans (HF.out _ _ hB14 hE14 (hf14 o))
          obtain ⟨WX, hWX⟩ : ∃ WX, R13.alloc (.cells #[.string bv0, .slice pc x.prms.length cc, .slice pk x.body.length ck, .int .i64 bv3, .int .i64 bv4] 52) = WX := ⟨_, rfl⟩
          have hbx : Below R13.heap.size R13 WX := by rw [← hWX]; exact (Below.refl _ _).alloc (Nat.le_refl _) _
          have HBx : Hid (WX.heap[R13.heap.size]? = some (.cells #[.string bv0, .slice pc x.prms.length cc, .slice pk x.body.length ck, .int .i64 bv3, .int .i64 bv4] 52 (0, 0))) := by show WX.heap[R13.heap.size]? = _; rw [← hWX]; exact heap_alloc_new _ _
          have HXx := Lib.hid (heap_of HX13.out hbx)
          have TWx := Lib.hid (TW13.out.later hbx)
          have hws := TW13.out.only.size
          clear hbx
          go_wp2
          clear hWX bd0 bd1 bd2 bd3 bd4
          obtain ⟨t0, t1, t2, t3, t4⟩ := five_of HBx.out
          have bd15 := HQ.out.prms
          clear c0 c1 t0 t1 t2 t3 t4
          go_loopw [10] (fun i wz => ∃ j : Nat, j ≤ x.prms.length ∧ i = .int .i64 j ∧ Tw Z w wz ∧ wz.heap[w.heap.size]? = some (.cells #[.slice pt c.tbs.length ct, .slice (some ⟨g14, 0, none⟩) c.prs.length cp] 25 (0, 0)) ∧ wz.heap[R13.heap.size]? = some (.cells #[.string bv0, .slice pc x.prms.length cc, .slice pk x.body.length ck, .int .i64 bv3, .int .i64 bv4] 52 (0, 0))) (fun i _ => x.prms.length - (intOf i).toNat)
          case atStart => exact ⟨0, Nat.zero_le _, rfl, TWx.out, HXx.out, HBx.out⟩
          case round =>
            rename World => R16
            obtain ⟨j, hj, rfl, htw, hcx, hbx⟩ := hrel
            have TW16 := Lib.hid htw
            have HX16 := Lib.hid hcx
            have zz16 := (Array.getElem?_eq_some_iff.1 hcx).1
            have HB16 := Lib.hid hbx
            clear htw hcx hbx
            obtain ⟨c0, c1⟩ := two_cells HX16.out
            obtain ⟨t0, t1, t2, t3, t4⟩ := five_of HB16.out
            by_cases hltj : j < x.prms.length
            · have hlti : (j : Int) < ((x.prms.length : Nat) : Int) := by omega
              obtain ⟨g17, us17, hp17, hB17, hE17, hf17, hR17, hn17, hc17⟩ := HOC.out.zone hltj
              subst hp17
              simp only [PmR] at hR17
              subst hR17
              have aw0 : w.cell? ⟨g17, j * 2, none⟩ = some (.string x.prms[j].nm) := HC.out _ _ _ hB17 hE17 (hc17 0 (by rw [hn17]; omega))
              obtain ⟨ax0, ad0, as0⟩ := TW16.out.cell _ _ _ (by omega) aw0
              obtain ⟨av0, rfl⟩ := as0.ofStr
              have aw1 : w.cell? ⟨g17, j * 2 + 1, none⟩ = some (.int .i64 x.prms[j].ty) := HC.out _ _ _ hB17 hE17 (hc17 1 (by rw [hn17]; omega))
              obtain ⟨ax1, ad1, as1⟩ := TW16.out.cell _ _ _ (by omega) aw1
              obtain ⟨av1, rfl⟩ := as1.ofInt
              have af : ∀ o, R16.frozen? ⟨g17, o, none⟩ = false := fun o => (TW16.out.free _ o (by omega)).trans (HF.out _ _ hB17 hE17 (hf17 o))
              have hT := Lib.hid ((TW16.out.set (u := (.string ⟨#[]⟩)) (HZZ.out _ hB17 hE17) (by omega) aw0 (Sim.str _ _)).set (u := (.int .i64 (-7))) (HZZ.out _ hB17 hE17) (by omega) aw1 (Sim.int _ _))
              have hXn := Lib.hid (set_heap (g := g17) (o := j * 2 + 1) (u := (.int .i64 (-7))) (set_heap (g := g17) (o := j * 2) (u := (.string ⟨#[]⟩)) HX16.out (by omega)) (by omega))
              have hBn := Lib.hid (set_heap (g := g17) (o := j * 2 + 1) (u := (.int .i64 (-7))) (set_heap (g := g17) (o := j * 2) (u := (.string ⟨#[]⟩)) HB16.out (by omega)) (by omega))
              go_wp2
              go_roundw
              case rel => exact ⟨j + 1, by omega, by go_num, hT.out, hXn.out, hBn.out⟩
              case measure => simp [intOf]; omega
            · have hlti : ¬ (j : Int) < ((x.prms.length : Nat) : Int) := by omega
              go_wp2
              have bd18 := HQ.out.body
              clear c0 c1 t0 t1 t2 t3 t4
              go_loopw [11] (fun i wz => ∃ m : Nat, m ≤ x.body.length ∧ i = .int .i64 m ∧ Tw Z w wz ∧ wz.heap[w.heap.size]? = some (.cells #[.slice pt c.tbs.length ct, .slice (some ⟨g14, 0, none⟩) c.prs.length cp] 25 (0, 0)) ∧ wz.heap[R13.heap.size]? = some (.cells #[.string bv0, .slice pc x.prms.length cc, .slice pk x.body.length ck, .int .i64 bv3, .int .i64 bv4] 52 (0, 0))) (fun i _ => x.body.length - (intOf i).toNat)
              case atStart => exact ⟨0, Nat.zero_le _, rfl, TW16.out, HX16.out, HB16.out⟩
              case round =>
                rename World => R19
                obtain ⟨m, hm, rfl, htw, hcx, hbx⟩ := hrel
                have TW19 := Lib.hid htw
                have HX19 := Lib.hid hcx
                have zz19 := (Array.getElem?_eq_some_iff.1 hcx).1
                have HB19 := Lib.hid hbx
                clear htw hcx hbx
                obtain ⟨c0, c1⟩ := two_cells HX19.out
                obtain ⟨t0, t1, t2, t3, t4⟩ := five_of HB19.out
                by_cases hltm : m < x.body.length
                · have hlti : (m : Int) < ((x.body.length : Nat) : Int) := by omega
                  obtain ⟨g20, us20, hp20, hB20, hE20, hf20, hR20, hn20, hc20⟩ := HOK.out.zone hltm
                  subst hp20
                  simp only [StrR] at hR20
                  subst hR20
                  have aw0 : w.cell? ⟨g20, m * 1, none⟩ = some (.string x.body[m]) := HC.out _ _ _ hB20 hE20 (hc20 0 (by rw [hn20]; omega))
                  obtain ⟨ax0, ad0, as0⟩ := TW19.out.cell _ _ _ (by omega) aw0
                  obtain ⟨av0, rfl⟩ := as0.ofStr
                  have af : ∀ o, R19.frozen? ⟨g20, o, none⟩ = false := fun o => (TW19.out.free _ o (by omega)).trans (HF.out _ _ hB20 hE20 (hf20 o))
                  simp only [Nat.mul_one] at aw0 ad0
                  have hT := Lib.hid (TW19.out.set (u := (.string ⟨#[109, 97, 114, 107]⟩)) (HZZ.out _ hB20 hE20) (by omega) aw0 (Sim.str _ _))
                  have hXn := Lib.hid (set_heap (g := g20) (o := m) (u := (.string ⟨#[109, 97, 114, 107]⟩)) HX19.out (by omega))
                  have hBn := Lib.hid (set_heap (g := g20) (o := m) (u := (.string ⟨#[109, 97, 114, 107]⟩)) HB19.out (by omega))
                  go_wp2
                  go_roundw
                  case rel => exact ⟨m + 1, by omega, by go_num, hT.out, hXn.out, hBn.out⟩
                  case measure => simp [intOf]; omega
                · have hlti : ¬ (m : Int) < ((x.body.length : Nat) : Int) := by omega
                  have zw0 : w.cell? ⟨g14, k * 5, none⟩ = some (.string x.nm) := HC.out _ _ _ hB14 hE14 (hc14 0 (by rw [hn14]; omega))
                  obtain ⟨zx0, zd0, zs0⟩ := TW19.out.cell _ _ _ (by omega) zw0
                  obtain ⟨zv0, rfl⟩ := zs0.ofStr
                  have zf : ∀ o, R19.frozen? ⟨g14, o, none⟩ = false := fun o => (TW19.out.free _ o (by omega)).trans (HF.out _ _ hB14 hE14 (hf14 o))
                  have hT := Lib.hid (TW19.out.set (u := (.string ⟨#[109, 97, 114, 107]⟩)) (HZZ.out _ hB14 hE14) (by omega) bw0 (Sim.str _ _))
                  have hXn := Lib.hid (set_heap (g := g14) (o := k * 5) (u := (.string ⟨#[109, 97, 114, 107]⟩)) HX19.out (by omega))
                  go_wp2
                  go_roundw
                  case rel => exact ⟨k + 1, by omega, by go_num, hT.out, hXn.out⟩
                  case measure => simp [intOf]; omega
        · have hltik : ¬ (k : Int) < (c.prs.length : Int) := by omega
          go_wp2
          exact bodyPost_end (v := .tuple #[]) (by simp [results, Tryz.results19, go_sem]) rfl ⟨rfl, TW13.out.only⟩
end Go.Proofs.YtkgkkcefnonejaaGreat
/- Walks of layer 8: the document's AddTable. -/
namespace Go.Proofs.YtkgkkcefnonejaaGreat
open Go.RowKit

theorem may_tbZ {t : Tb} (h : mayTb t = true) : TbZ 2147483647 t := by
  have f := TbF.of h
  obtain ⟨h1, h2, h3, h4⟩ := mayTb_parts h
  obtain ⟨c1, c2⟩ := mayCols_nm h2
  obtain ⟨x1, x2⟩ := mayIxs_nm h4
  have k1 := f.key
  exact ⟨by have := nm_le h1; omega, by omega, by omega, by omega, fun x hx => by have := (c2 x hx).1; omega, fun x hx => ⟨by have := (x2 x hx).1; omega, by have := mayPl_size (x2 x hx).2; omega⟩⟩
theorem may_pcZ {p : Pc} (h : mayPc p = true) : PcZ 2147483647 p := by
  obtain ⟨h1, h2, h3, _⟩ := mayPc_parts h
  obtain ⟨c1, c2⟩ := mayPms_nm h2
  obtain ⟨b1, b2⟩ := mayBody_src h3
  exact ⟨by have := nm_le h1; omega, by omega, by omega, fun x hx => by have := (c2 x hx).1; omega, fun s hs => by have := b2 s hs; omega⟩
theorem right_Z {c : Ct} (h : rightC c = true) : CtZ 2147483647 c := by
  obtain ⟨g1, g2, g3, g4⟩ := rightC_parts h
  exact ⟨by omega, by omega, fun t ht => may_tbZ (g3 t ht), fun p hp => may_pcZ (g4 p hp)⟩

set_option maxHeartbeats 32000000 in
set_option maxRecDepth 100000 in
theorem dAddTb_any (c : Ct) (t : Tb) (vs us : List Value) (w : World) (hC : CtR w c vs) (hT : TbR w t us) :
    Calls Tryz.prog 30 #[.agg vs.toArray, .agg us.toArray] w fun e w' => ∃ rs, e = .returned (.tuple #[.agg rs.toArray, .int .i64 (addTE c t)]) ∧ CtO w' w.heap.size (addTC c t) rs ∧ Below w.heap.size w w' := by
  obtain ⟨i0, hi, hz0, hz1, hz2⟩ := info_parts Tryz.infoTb
  have HC : Hid (∀ W, Below w.heap.size w W → CtR W c vs) := fun W h => CtR.later h c vs hC
  have HT : Hid (∀ W, Below w.heap.size w W → TbR W t us) := fun W h => TbR.later h t us hT
  obtain ⟨pt, ct, pp, cp, rfl, -, -⟩ := hC
  obtain ⟨pc, cc, pk, ck, px, cx, rfl, -, -, -⟩ := hT
  obtain ⟨Z, hZ⟩ : ∃ Z, ((w.alloc (.cells #[.slice pt c.tbs.length ct, .slice pp c.prs.length cp] 25)).alloc (.cells #[.string t.nm, .slice pc t.cols.length cc, .slice pk t.key.length ck, .int .i64 t.part, .slice px t.ixs.length cx] 46)).alloc (.cells #[.slice none 0 0, .slice none 0 0] 25) = Z := ⟨_, rfl⟩
  have hZs : Z.heap.size = w.heap.size + 1 + 1 + 1 := by rw [← hZ]; simp
  have HBX : Hid (∀ W, Below Z.heap.size Z W → W.heap[w.heap.size]? = some (.cells #[.slice pt c.tbs.length ct, .slice pp c.prs.length cp] 25 (0, 0)) ∧ W.heap[w.heap.size + 1]? = some (.cells #[.string t.nm, .slice pc t.cols.length cc, .slice pk t.key.length ck, .int .i64 t.part, .slice px t.ixs.length cx] 46 (0, 0)) ∧ W.heap[w.heap.size + 1 + 1]? = some (.cells #[.slice none 0 0, .slice none 0 0] 25 (0, 0)) ∧ Below w.heap.size w W) := by
    intro W h
    rw [hZs] at h
    rw [← hZ] at h
    refine ⟨?_, ?_, ?_, ?_⟩
    · rw [h.block _ (by omega), Below.heap_alloc _ _ _ (by simp; omega), Below.heap_alloc _ _ _ (by simp)]
      exact heap_alloc_new w _
    · rw [h.block _ (by omega), Below.heap_alloc _ _ _ (by simp)]
      simpa using heap_alloc_new (w.alloc (.cells #[.slice pt c.tbs.length ct, .slice pp c.prs.length cp] 25)) (.cells #[.string t.nm, .slice pc t.cols.length cc, .slice pk t.key.length ck, .int .i64 t.part, .slice px t.ixs.length cx] 46 (0, 0))
    · rw [h.block _ (by omega)]
      simpa using heap_alloc_new ((w.alloc (.cells #[.slice pt c.tbs.length ct, .slice pp c.prs.length cp] 25)).alloc (.cells #[.string t.nm, .slice pc t.cols.length cc, .slice pk t.key.length ck, .int .i64 t.part, .slice px t.ixs.length cx] 46)) (.cells #[.slice none 0 0, .slice none 0 0] 25 (0, 0))
    · exact ((((Below.refl _ _).alloc (Nat.le_refl _) _).alloc (by simp) _).alloc (by simp; omega) _).trans (h.mono (by omega))
  have HNo : Hid (∀ W : World, CtO W w.heap.size ⟨[], []⟩ [.slice none 0 0, .slice none 0 0]) := fun W => CtO.none W _
  have B0 : Hid (Below Z.heap.size Z Z) := Below.refl _ _
  obtain ⟨e0, e1, e2, e3⟩ := HBX.out Z B0.out
  have W0 := Lib.hid e3
  obtain ⟨c0, c1⟩ := two_cells e0
  obtain ⟨t0, t1, t2, t3, t4⟩ := five_of e1
  obtain ⟨r0, r1, rf0, rf1⟩ := two_of e2
  clear e0 e1 e2 e3
  go_enter Tryz.func30, Tryz.ntmps30
  go_wp2_with fail
  refine (dRight_any c _ Z (HC.out _ W0.out)).mono ?_
  rintro e w1 ⟨rfl, hb⟩
  have B1 := Lib.hid (B0.out.trans (hb.mono B0.out.size))
  clear hb c0 c1 t0 t1 t2 t3 t4 r0 r1 rf0 rf1
  obtain ⟨e0, e1, e2, e3⟩ := HBX.out w1 B1.out
  have W1 := Lib.hid e3
  obtain ⟨c0, c1⟩ := two_cells e0
  obtain ⟨t0, t1, t2, t3, t4⟩ := five_of e1
  obtain ⟨r0, r1, rf0, rf1⟩ := two_of e2
  clear e0 e1 e2 e3
  go_wp2_with fail
  refine (dMayTb_any t _ _ (HT.out _ W1.out)).mono ?_
  rintro e w2 ⟨rfl, hb⟩
  have B2 := Lib.hid (B1.out.trans (hb.mono B1.out.size))
  clear hb c0 c1 t0 t1 t2 t3 t4 r0 r1 rf0 rf1
  obtain ⟨e0, e1, e2, e3⟩ := HBX.out w2 B2.out
  have W2 := Lib.hid e3
  obtain ⟨c0, c1⟩ := two_cells e0
  obtain ⟨t0, t1, t2, t3, t4⟩ := five_of e1
  obtain ⟨r0, r1, rf0, rf1⟩ := two_of e2
  clear e0 e1 e2 e3
  clear hZ
  cases h1 : rightC c with
  | false =>
    have HE : Hid (addTE c t = 80) := by
      show addTE c t = 80
      simp [addTE, h1]
    have HE2 : Hid (addTC c t = ⟨[], []⟩) := by
      show addTC c t = _
      simp [addTC, HE.out]
    go_wp2
    refine bodyPost_ret (v := .tuple #[.agg #[.slice none 0 0, .slice none 0 0], .int .i64 80]) (by simp [results, Tryz.results30, go_sem, *]) rfl ?_
    refine ⟨[.slice none 0 0, .slice none 0 0], by rw [HE.out], by rw [HE2.out]; exact HNo.out _, by have h0 := W2.out; (repeat (first | exact Below.refl _ _ | assumption | refine Below.drew ?_ | refine below_drewN ?_ _ | refine Below.alloc ?_ (by first | omega | (simp; done) | (simp; omega)) _ | refine Below.setCell ?_ (by first | omega | (simp; done) | (simp; omega)) _ | refine Below.trans ?_ (Below.mono (by assumption) (by first | omega | (simp; done) | (simp; omega)))))⟩
  | true =>
    cases h2 : mayTb t with
    | false =>
      have HE : Hid (addTE c t = 80) := by
        show addTE c t = 80
        simp [addTE, h2]
      have HE2 : Hid (addTC c t = ⟨[], []⟩) := by
        show addTC c t = _
        simp [addTC, HE.out]
      go_wp2
      refine bodyPost_ret (v := .tuple #[.agg #[.slice none 0 0, .slice none 0 0], .int .i64 80]) (by simp [results, Tryz.results30, go_sem, *]) rfl ?_
      refine ⟨[.slice none 0 0, .slice none 0 0], by rw [HE.out], by rw [HE2.out]; exact HNo.out _, by have h0 := W2.out; (repeat (first | exact Below.refl _ _ | assumption | refine Below.drew ?_ | refine below_drewN ?_ _ | refine Below.alloc ?_ (by first | omega | (simp; done) | (simp; omega)) _ | refine Below.setCell ?_ (by first | omega | (simp; done) | (simp; omega)) _ | refine Below.trans ?_ (Below.mono (by assumption) (by first | omega | (simp; done) | (simp; omega)))))⟩
    | true =>
      obtain ⟨g1, g2, -, -⟩ := rightC_parts h1
      have HF := Lib.hid (CtF.of h1)
      have HRT := Lib.hid h1
      have HMY := Lib.hid h2
      obtain ⟨X, hX⟩ : ∃ X, fndI (c.tbs.map fun x => bs x.nm) (bs t.nm) = X := ⟨_, rfl⟩
      go_wp2_with fail
      refine (ratTb_any c _ t.nm _ (HC.out _ W2.out) (by omega)).mono ?_
      rintro e w3 ⟨rfl, hb⟩
      have B3 := Lib.hid (B2.out.trans (hb.mono B2.out.size))
      clear hb c0 c1 t0 t1 t2 t3 t4 r0 r1 rf0 rf1
      obtain ⟨e0, e1, e2, e3⟩ := HBX.out w3 B3.out
      have W3 := Lib.hid e3
      obtain ⟨c0, c1⟩ := two_cells e0
      obtain ⟨t0, t1, t2, t3, t4⟩ := five_of e1
      obtain ⟨r0, r1, rf0, rf1⟩ := two_of e2
      clear e0 e1 e2 e3
      rw [hX]
      have HX := Lib.hid hX
      clear hX h1 h2
      by_cases hX0 : 0 ≤ X
      · skip
        have HE : Hid (addTE c t = 81) := by
          show addTE c t = 81
          simp [addTE, HRT.out, HMY.out, HX.out, hX0]
        have HE2 : Hid (addTC c t = ⟨[], []⟩) := by
          show addTC c t = _
          simp [addTC, HE.out]
        go_wp2
        refine bodyPost_ret (v := .tuple #[.agg #[.slice none 0 0, .slice none 0 0], .int .i64 81]) (by simp [results, Tryz.results30, go_sem, *]) rfl ?_
        refine ⟨[.slice none 0 0, .slice none 0 0], by rw [HE.out], by rw [HE2.out]; exact HNo.out _, by have h0 := W3.out; (repeat (first | exact Below.refl _ _ | assumption | refine Below.drew ?_ | refine below_drewN ?_ _ | refine Below.alloc ?_ (by first | omega | (simp; done) | (simp; omega)) _ | refine Below.setCell ?_ (by first | omega | (simp; done) | (simp; omega)) _ | refine Below.trans ?_ (Below.mono (by assumption) (by first | omega | (simp; done) | (simp; omega)))))⟩
      · by_cases hl8 : c.tbs.length = 8
        · have hl8i : (8 : Int) ≤ (c.tbs.length : Int) := by omega
          have HE : Hid (addTE c t = 2) := by
            show addTE c t = 2
            simp [addTE, HRT.out, HMY.out, HX.out, hX0, hl8]
          have HE2 : Hid (addTC c t = ⟨[], []⟩) := by
            show addTC c t = _
            simp [addTC, HE.out]
          go_wp2
          refine bodyPost_ret (v := .tuple #[.agg #[.slice none 0 0, .slice none 0 0], .int .i64 2]) (by simp [results, Tryz.results30, go_sem, *]) rfl ?_
          refine ⟨[.slice none 0 0, .slice none 0 0], by rw [HE.out], by rw [HE2.out]; exact HNo.out _, by have h0 := W3.out; (repeat (first | exact Below.refl _ _ | assumption | refine Below.drew ?_ | refine below_drewN ?_ _ | refine Below.alloc ?_ (by first | omega | (simp; done) | (simp; omega)) _ | refine Below.setCell ?_ (by first | omega | (simp; done) | (simp; omega)) _ | refine Below.trans ?_ (Below.mono (by assumption) (by first | omega | (simp; done) | (simp; omega)))))⟩
        · have hl8i : ¬ (8 : Int) ≤ (c.tbs.length : Int) := by omega
          have HE : Hid (addTE c t = 0) := by
            show addTE c t = 0
            simp [addTE, HRT.out, HMY.out, HX.out, hX0, hl8]
          have HE2 : Hid (addTC c t = ⟨c.tbs ++ [t], c.prs⟩) := by
            show addTC c t = _
            simp [addTC, HE.out]
          go_wp2_with fail
          refine (of_any c _ _ (HC.out _ W3.out) (right_Z HRT.out)).mono ?_
          rintro e w4 ⟨os, rfl, hO4, hb4⟩
          have z3 := B3.out.size
          have B4 := Lib.hid (B3.out.trans (hb4.mono B3.out.size))
          have z4 := B4.out.size
          have hO4 := CtO.mono (B' := w.heap.size + 3) (by omega) _ _ hO4
          have O4 := Lib.hid hO4
          obtain ⟨vt, vp, rfl, q1, q2⟩ := hO4
          obtain ⟨pa, ca, rfl, -⟩ := q1.form
          obtain ⟨pb, cb, rfl, -⟩ := q2.form
          clear hb4 q1 q2 c0 c1 t0 t1 t2 t3 t4 r0 r1 rf0 rf1
          obtain ⟨e0, e1, e2, e3⟩ := HBX.out w4 B4.out
          have W4 := Lib.hid e3
          obtain ⟨c0, c1⟩ := two_cells e0
          obtain ⟨t0, t1, t2, t3, t4⟩ := five_of e1
          obtain ⟨r0, r1, rf0, rf1⟩ := two_of e2
          clear e0 e1 e2 e3
          have y0 : w.heap.size < w4.heap.size := by omega
          have y1 : w.heap.size + 1 < w4.heap.size := by omega
          have y2 : w.heap.size + 1 + 1 < w4.heap.size := by omega
          go_wp2_with fail
          generalize hV5 : w4.alloc (.cells #[.slice pa c.tbs.length ca, .slice pb c.prs.length cb] 25) = V5
          have hb5 : Below w4.heap.size w4 V5 := by rw [← hV5]; exact (Below.refl _ _).alloc (Nat.le_refl _) _
          have HO5 : Hid (V5.heap[w4.heap.size]? = some (.cells #[.slice pa c.tbs.length ca, .slice pb c.prs.length cb] 25 (0, 0))) := by
            show V5.heap[w4.heap.size]? = _
            rw [← hV5]
            exact heap_alloc_new w4 _
          have B5 := Lib.hid (B4.out.trans (hb5.mono B4.out.size))
          have HQ5 := Lib.hid hb5
          have z5 : V5.heap.size = w4.heap.size + 1 := by rw [← hV5]; simp
          clear hb5 hV5 c0 c1 t0 t1 t2 t3 t4 r0 r1 rf0 rf1
          obtain ⟨e0, e1, e2, e3⟩ := HBX.out V5 B5.out
          have W5 := Lib.hid e3
          obtain ⟨c0, c1⟩ := two_cells e0
          obtain ⟨t0, t1, t2, t3, t4⟩ := five_of e1
          obtain ⟨r0, r1, rf0, rf1⟩ := two_of e2
          clear e0 e1 e2 e3
          refine (tableOf_any t _ V5 (HT.out _ W5.out) (may_tbZ HMY.out)).mono ?_
          rintro e V6 ⟨us, rfl, hO6, hb6⟩
          have z6 := hb6.size
          have B6 := Lib.hid (B5.out.trans (hb6.mono B5.out.size))
          have HO6 := Lib.hid (heap_of HO5.out hb6)
          have O6 := Lib.hid (O4.out.later (below_two HQ5.out hb6))
          have hO6 := TbO.mono (B' := w.heap.size + 3) (by omega) _ _ hO6
          have OT := Lib.hid hO6
          obtain ⟨u1, u2, u3, rfl, q1, q2, q3⟩ := hO6
          obtain ⟨p1, m1, rfl, -⟩ := q1.form
          obtain ⟨p2, m2, rfl, -⟩ := q2.form
          obtain ⟨p3, m3, rfl, -⟩ := q3.form
          clear q1 q2 q3
          clear hb6 c0 c1 t0 t1 t2 t3 t4 r0 r1 rf0 rf1
          obtain ⟨e0, e1, e2, e3⟩ := HBX.out V6 B6.out
          have W6 := Lib.hid e3
          obtain ⟨c0, c1⟩ := two_cells e0
          obtain ⟨t0, t1, t2, t3, t4⟩ := five_of e1
          obtain ⟨r0, r1, rf0, rf1⟩ := two_of e2
          clear e0 e1 e2 e3
          obtain ⟨x0, x1, xf0, xf1⟩ := two_of HO6.out
          obtain ⟨ut, up, hsp, OT6, OP6⟩ := O6.out
          simp only [List.cons.injEq, and_true] at hsp
          obtain ⟨rfl, rfl⟩ := hsp
          have HOT := Lib.hid OT6
          have HOP := Lib.hid OP6
          obtain ⟨ps, e1, e2, e3⟩ := HOT.out
          have P1 := Lib.hid e1
          have P2 := Lib.hid e2
          have hown2 := e3
          have HOW := Lib.hid e3
          have HGE := Lib.hid (own_ge e3)
          have n1 : w4.heap.size < V6.heap.size := by omega
          have n2 : w.heap.size + 1 + 1 < V6.heap.size := by omega
          have n3 : ¬ w4.heap.size = w.heap.size + 1 + 1 := by omega
          have n4 : ¬ w.heap.size + 1 + 1 = w4.heap.size := by omega
          clear e1 e2 e3 OT6 OP6
          go_wp2_with (first | (at_builtin; refine wpList_append_own _ rfl _ _ 22 rfl (w.heap.size + 3) 46 i0 (.agg #[.string ⟨#[]⟩, .slice none 0 0, .slice none 0 0, .int .i64 0, .slice none 0 0]) 5 96 Tryz.underlying22 hi hz0 hz1 hz2 rfl (by decide) _ c.tbs.length (ps.flatMap (·.2)) rfl ((hown2.alloc _).alloc _) ⟨V6.heap.size + 1, 0, none⟩ 1 1 [.string t.nm, .slice p1 t.cols.length m1, .slice p2 t.key.length m2, .int .i64 t.part, .slice p3 t.ixs.length m3] rfl rfl (cells_alloc2 _ _ _ _) (by intro u hu; simp only [List.mem_cons, List.not_mem_nil, or_false] at hu; rcases hu with rfl | rfl | rfl | rfl | rfl <;> rfl) (by unfold maxLen; omega) (by omega) (by simp; omega) ?_; intro v' w7 hown3 hgrow3 _; obtain ⟨pn, cn, rfl⟩ := own_form hown3; (have HG := Lib.hid hgrow3); (have HO3 := Lib.hid hown3); (have hal : Below V6.heap.size V6 ((V6.alloc (.cells ([.string t.nm, .slice p1 t.cols.length m1, .slice p2 t.key.length m2, .int .i64 t.part, .slice p3 t.ixs.length m3]).toArray 46)).alloc (.cells ([.string t.nm, .slice p1 t.cols.length m1, .slice p2 t.key.length m2, .int .i64 t.part, .slice p3 t.ixs.length m3]).toArray 46)) := ((Below.refl _ _).alloc (Nat.le_refl _) _).alloc (by simp) _); (have HAL := Lib.hid hal); (have HO7 := Lib.hid (grown_other ((HOW.out.alloc _).alloc _) hgrow3 (heap_of HO6.out hal) (by decide))); (have B7 := Lib.hid ((B6.out.trans (hal.mono B6.out.size)).grown hgrow3 (by rw [hZs]; simp; omega) (fun k h => by have := HGE.out k h; omega))); clear hown3 hgrow3 hal hown2 x0 x1 xf0 xf1 c0 c1 t0 t1 t2 t3 t4 r0 r1 rf0 rf1; obtain ⟨e0, e1, e2, e3⟩ := HBX.out w7 B7.out; (have W7 := Lib.hid e3); obtain ⟨c0, c1⟩ := two_cells e0; obtain ⟨t0, t1, t2, t3, t4⟩ := five_of e1; obtain ⟨r0, r1, rf0, rf1⟩ := two_of e2; obtain ⟨x0, x1, xf0, xf1⟩ := two_of HO7.out; clear e0 e1 e2 e3))
          refine bodyPost_ret (v := .tuple #[.agg #[(.slice pn (c.tbs.length + 1) cn), (.slice pb c.prs.length cb)], .int .i64 0]) (by simp [results, Tryz.results30, go_sem, *]) rfl ?_
          have hks : ∀ S, 25 ∉ S → Keeps S (w.heap.size + 3) w7 (((w7.setCell ⟨w4.heap.size, 0, none⟩ (.slice pn (c.tbs.length + 1) cn)).setCell ⟨w.heap.size + 1 + 1, 0, none⟩ (.slice pn (c.tbs.length + 1) cn)).setCell ⟨w.heap.size + 1 + 1, 1, none⟩ (.slice pb c.prs.length cb)) := fun S hS => Keeps.low (Keeps.low (Keeps.typed (Keeps.of (Below.refl _ _)) HO7.out hS _ _) (by omega) _ _) (by omega) _ _
          have hkg : ∀ S, 46 ∉ S → Keeps S (w.heap.size + 3) V6 w7 := fun S hS => (Keeps.of HAL.out).trans (Keeps.grown ((HOW.out.alloc _).alloc _) HG.out hS)
          have hrow := ownsRow_setCell_below (ownsRow_setCell_below (own_kept (w' := w7.setCell ⟨w4.heap.size, 0, none⟩ (.slice pn (c.tbs.length + 1) cn)) HO3.out (fun g hg => by
            obtain ⟨cur, hh⟩ := own_block HO3.out hg
            exact Below.heap_setCell _ _ _ _ (fun e => by
              have e : g = w4.heap.size := e
              have h7 := HO7.out
              rw [← e, hh] at h7
              simp only [Option.some.injEq, Obj.cells.injEq] at h7
              exact absurd h7.2.1 (by decide)))) (a := ⟨w.heap.size + 1 + 1, 0, none⟩) (by show w.heap.size + 1 + 1 < w.heap.size + 3; omega) (.slice pn (c.tbs.length + 1) cn)) (a := ⟨w.heap.size + 1 + 1, 1, none⟩) (by show w.heap.size + 1 + 1 < w.heap.size + 3; omega) (.slice pb c.prs.length cb)
          refine ⟨[(.slice pn (c.tbs.length + 1) cn), (.slice pb c.prs.length cb)], by rw [HE.out], ?_, ?_⟩
          · rw [HE2.out]
            refine ⟨_, _, rfl, ?_, ?_⟩
            · exact (OwnR.push (n := 5) P1.out P2.out (TbO.keeps ((hkg inTb (by decide)).trans (hks _ (by decide)))) ((TbO.keeps ((hkg inTb (by decide)).trans (hks _ (by decide)))) _ _ OT.out) rfl hrow).mono (by omega) (TbO.mono (by omega))
            · exact (HOP.out.keeps (S := [52]) ((hkg _ (by decide)).trans (hks _ (by decide))) (by simp) (PcO.keeps ((hkg inPc (by decide)).trans (hks _ (by decide))))).mono (by omega) (PcO.mono (by omega))
          · have h0 := W7.out
            (repeat (first | exact Below.refl _ _ | assumption | refine Below.drew ?_ | refine below_drewN ?_ _ | refine Below.alloc ?_ (by first | omega | (simp; done) | (simp; omega)) _ | refine Below.setCell ?_ (by first | omega | (simp; done) | (simp; omega)) _ | refine Below.trans ?_ (Below.mono (by assumption) (by first | omega | (simp; done) | (simp; omega)))))
end Go.Proofs.YtkgkkcefnonejaaGreat
/- Walks of layer 8: the document's AddProc. -/
namespace Go.Proofs.YtkgkkcefnonejaaGreat
open Go.RowKit

set_option maxHeartbeats 32000000 in
set_option maxRecDepth 100000 in
theorem dAddPc_any (c : Ct) (t : Pc) (vs us : List Value) (w : World) (hC : CtR w c vs) (hT : PcR w t us) :
    Calls Tryz.prog 31 #[.agg vs.toArray, .agg us.toArray] w fun e w' => ∃ rs, e = .returned (.tuple #[.agg rs.toArray, .int .i64 (addPE c t)]) ∧ CtO w' w.heap.size (addPC c t) rs ∧ Below w.heap.size w w' := by
  obtain ⟨i0, hi, hz0, hz1, hz2⟩ := info_parts Tryz.infoPc
  have HC : Hid (∀ W, Below w.heap.size w W → CtR W c vs) := fun W h => CtR.later h c vs hC
  have HT : Hid (∀ W, Below w.heap.size w W → PcR W t us) := fun W h => PcR.later h t us hT
  obtain ⟨pt, ct, pp, cp, rfl, -, -⟩ := hC
  obtain ⟨pc, cc, pk, ck, rfl, -, -⟩ := hT
  obtain ⟨Z, hZ⟩ : ∃ Z, ((w.alloc (.cells #[.slice pt c.tbs.length ct, .slice pp c.prs.length cp] 25)).alloc (.cells #[.string t.nm, .slice pc t.prms.length cc, .slice pk t.body.length ck, .int .i64 t.rows, .int .i64 t.bytes] 52)).alloc (.cells #[.slice none 0 0, .slice none 0 0] 25) = Z := ⟨_, rfl⟩
  have hZs : Z.heap.size = w.heap.size + 1 + 1 + 1 := by rw [← hZ]; simp
  have HBX : Hid (∀ W, Below Z.heap.size Z W → W.heap[w.heap.size]? = some (.cells #[.slice pt c.tbs.length ct, .slice pp c.prs.length cp] 25 (0, 0)) ∧ W.heap[w.heap.size + 1]? = some (.cells #[.string t.nm, .slice pc t.prms.length cc, .slice pk t.body.length ck, .int .i64 t.rows, .int .i64 t.bytes] 52 (0, 0)) ∧ W.heap[w.heap.size + 1 + 1]? = some (.cells #[.slice none 0 0, .slice none 0 0] 25 (0, 0)) ∧ Below w.heap.size w W) := by
    intro W h
    rw [hZs] at h
    rw [← hZ] at h
    refine ⟨?_, ?_, ?_, ?_⟩
    · rw [h.block _ (by omega), Below.heap_alloc _ _ _ (by simp; omega), Below.heap_alloc _ _ _ (by simp)]
      exact heap_alloc_new w _
    · rw [h.block _ (by omega), Below.heap_alloc _ _ _ (by simp)]
      simpa using heap_alloc_new (w.alloc (.cells #[.slice pt c.tbs.length ct, .slice pp c.prs.length cp] 25)) (.cells #[.string t.nm, .slice pc t.prms.length cc, .slice pk t.body.length ck, .int .i64 t.rows, .int .i64 t.bytes] 52 (0, 0))
    · rw [h.block _ (by omega)]
      simpa using heap_alloc_new ((w.alloc (.cells #[.slice pt c.tbs.length ct, .slice pp c.prs.length cp] 25)).alloc (.cells #[.string t.nm, .slice pc t.prms.length cc, .slice pk t.body.length ck, .int .i64 t.rows, .int .i64 t.bytes] 52)) (.cells #[.slice none 0 0, .slice none 0 0] 25 (0, 0))
    · exact ((((Below.refl _ _).alloc (Nat.le_refl _) _).alloc (by simp) _).alloc (by simp; omega) _).trans (h.mono (by omega))
  have HNo : Hid (∀ W : World, CtO W w.heap.size ⟨[], []⟩ [.slice none 0 0, .slice none 0 0]) := fun W => CtO.none W _
  have B0 : Hid (Below Z.heap.size Z Z) := Below.refl _ _
  obtain ⟨e0, e1, e2, e3⟩ := HBX.out Z B0.out
  have W0 := Lib.hid e3
  obtain ⟨c0, c1⟩ := two_cells e0
  obtain ⟨t0, t1, t2, t3, t4⟩ := five_of e1
  obtain ⟨r0, r1, rf0, rf1⟩ := two_of e2
  clear e0 e1 e2 e3
  go_enter Tryz.func31, Tryz.ntmps31
  go_wp2_with fail
  refine (dRight_any c _ Z (HC.out _ W0.out)).mono ?_
  rintro e w1 ⟨rfl, hb⟩
  have B1 := Lib.hid (B0.out.trans (hb.mono B0.out.size))
  clear hb c0 c1 t0 t1 t2 t3 t4 r0 r1 rf0 rf1
  obtain ⟨e0, e1, e2, e3⟩ := HBX.out w1 B1.out
  have W1 := Lib.hid e3
  obtain ⟨c0, c1⟩ := two_cells e0
  obtain ⟨t0, t1, t2, t3, t4⟩ := five_of e1
  obtain ⟨r0, r1, rf0, rf1⟩ := two_of e2
  clear e0 e1 e2 e3
  go_wp2_with fail
  refine (dMayPc_any t _ _ (HT.out _ W1.out)).mono ?_
  rintro e w2 ⟨rfl, hb⟩
  have B2 := Lib.hid (B1.out.trans (hb.mono B1.out.size))
  clear hb c0 c1 t0 t1 t2 t3 t4 r0 r1 rf0 rf1
  obtain ⟨e0, e1, e2, e3⟩ := HBX.out w2 B2.out
  have W2 := Lib.hid e3
  obtain ⟨c0, c1⟩ := two_cells e0
  obtain ⟨t0, t1, t2, t3, t4⟩ := five_of e1
  obtain ⟨r0, r1, rf0, rf1⟩ := two_of e2
  clear e0 e1 e2 e3
  clear hZ
  cases h1 : rightC c with
  | false =>
    have HE : Hid (addPE c t = 80) := by
      show addPE c t = 80
      simp [addPE, h1]
    have HE2 : Hid (addPC c t = ⟨[], []⟩) := by
      show addPC c t = _
      simp [addPC, HE.out]
    go_wp2
    refine bodyPost_ret (v := .tuple #[.agg #[.slice none 0 0, .slice none 0 0], .int .i64 80]) (by simp [results, Tryz.results31, go_sem, *]) rfl ?_
    refine ⟨[.slice none 0 0, .slice none 0 0], by rw [HE.out], by rw [HE2.out]; exact HNo.out _, by have h0 := W2.out; (repeat (first | exact Below.refl _ _ | assumption | refine Below.drew ?_ | refine below_drewN ?_ _ | refine Below.alloc ?_ (by first | omega | (simp; done) | (simp; omega)) _ | refine Below.setCell ?_ (by first | omega | (simp; done) | (simp; omega)) _ | refine Below.trans ?_ (Below.mono (by assumption) (by first | omega | (simp; done) | (simp; omega)))))⟩
  | true =>
    cases h2 : mayPc t with
    | false =>
      have HE : Hid (addPE c t = 80) := by
        show addPE c t = 80
        simp [addPE, h2]
      have HE2 : Hid (addPC c t = ⟨[], []⟩) := by
        show addPC c t = _
        simp [addPC, HE.out]
      go_wp2
      refine bodyPost_ret (v := .tuple #[.agg #[.slice none 0 0, .slice none 0 0], .int .i64 80]) (by simp [results, Tryz.results31, go_sem, *]) rfl ?_
      refine ⟨[.slice none 0 0, .slice none 0 0], by rw [HE.out], by rw [HE2.out]; exact HNo.out _, by have h0 := W2.out; (repeat (first | exact Below.refl _ _ | assumption | refine Below.drew ?_ | refine below_drewN ?_ _ | refine Below.alloc ?_ (by first | omega | (simp; done) | (simp; omega)) _ | refine Below.setCell ?_ (by first | omega | (simp; done) | (simp; omega)) _ | refine Below.trans ?_ (Below.mono (by assumption) (by first | omega | (simp; done) | (simp; omega)))))⟩
    | true =>
      obtain ⟨g1, g2, -, -⟩ := rightC_parts h1
      have HF := Lib.hid (CtF.of h1)
      have HRT := Lib.hid h1
      have HMY := Lib.hid h2
      obtain ⟨X, hX⟩ : ∃ X, fndI (c.prs.map fun x => bs x.nm) (bs t.nm) = X := ⟨_, rfl⟩
      go_wp2_with fail
      refine (ratPc_any c _ t.nm _ (HC.out _ W2.out) (by omega)).mono ?_
      rintro e w3 ⟨rfl, hb⟩
      have B3 := Lib.hid (B2.out.trans (hb.mono B2.out.size))
      clear hb c0 c1 t0 t1 t2 t3 t4 r0 r1 rf0 rf1
      obtain ⟨e0, e1, e2, e3⟩ := HBX.out w3 B3.out
      have W3 := Lib.hid e3
      obtain ⟨c0, c1⟩ := two_cells e0
      obtain ⟨t0, t1, t2, t3, t4⟩ := five_of e1
      obtain ⟨r0, r1, rf0, rf1⟩ := two_of e2
      clear e0 e1 e2 e3
      rw [hX]
      have HX := Lib.hid hX
      clear hX h1 h2
      by_cases hX0 : 0 ≤ X
      · skip
        have HE : Hid (addPE c t = 81) := by
          show addPE c t = 81
          simp [addPE, HRT.out, HMY.out, HX.out, hX0]
        have HE2 : Hid (addPC c t = ⟨[], []⟩) := by
          show addPC c t = _
          simp [addPC, HE.out]
        go_wp2
        refine bodyPost_ret (v := .tuple #[.agg #[.slice none 0 0, .slice none 0 0], .int .i64 81]) (by simp [results, Tryz.results31, go_sem, *]) rfl ?_
        refine ⟨[.slice none 0 0, .slice none 0 0], by rw [HE.out], by rw [HE2.out]; exact HNo.out _, by have h0 := W3.out; (repeat (first | exact Below.refl _ _ | assumption | refine Below.drew ?_ | refine below_drewN ?_ _ | refine Below.alloc ?_ (by first | omega | (simp; done) | (simp; omega)) _ | refine Below.setCell ?_ (by first | omega | (simp; done) | (simp; omega)) _ | refine Below.trans ?_ (Below.mono (by assumption) (by first | omega | (simp; done) | (simp; omega)))))⟩
      · by_cases hl8 : c.prs.length = 16
        · have hl8i : (16 : Int) ≤ (c.prs.length : Int) := by omega
          have HE : Hid (addPE c t = 2) := by
            show addPE c t = 2
            simp [addPE, HRT.out, HMY.out, HX.out, hX0, hl8]
          have HE2 : Hid (addPC c t = ⟨[], []⟩) := by
            show addPC c t = _
            simp [addPC, HE.out]
          go_wp2
          refine bodyPost_ret (v := .tuple #[.agg #[.slice none 0 0, .slice none 0 0], .int .i64 2]) (by simp [results, Tryz.results31, go_sem, *]) rfl ?_
          refine ⟨[.slice none 0 0, .slice none 0 0], by rw [HE.out], by rw [HE2.out]; exact HNo.out _, by have h0 := W3.out; (repeat (first | exact Below.refl _ _ | assumption | refine Below.drew ?_ | refine below_drewN ?_ _ | refine Below.alloc ?_ (by first | omega | (simp; done) | (simp; omega)) _ | refine Below.setCell ?_ (by first | omega | (simp; done) | (simp; omega)) _ | refine Below.trans ?_ (Below.mono (by assumption) (by first | omega | (simp; done) | (simp; omega)))))⟩
        · have hl8i : ¬ (16 : Int) ≤ (c.prs.length : Int) := by omega
          have HE : Hid (addPE c t = 0) := by
            show addPE c t = 0
            simp [addPE, HRT.out, HMY.out, HX.out, hX0, hl8]
          have HE2 : Hid (addPC c t = ⟨c.tbs, c.prs ++ [t]⟩) := by
            show addPC c t = _
            simp [addPC, HE.out]
          go_wp2_with fail
          refine (of_any c _ _ (HC.out _ W3.out) (right_Z HRT.out)).mono ?_
          rintro e w4 ⟨os, rfl, hO4, hb4⟩
          have z3 := B3.out.size
          have B4 := Lib.hid (B3.out.trans (hb4.mono B3.out.size))
          have z4 := B4.out.size
          have hO4 := CtO.mono (B' := w.heap.size + 3) (by omega) _ _ hO4
          have O4 := Lib.hid hO4
          obtain ⟨vt, vp, rfl, q1, q2⟩ := hO4
          obtain ⟨pa, ca, rfl, -⟩ := q1.form
          obtain ⟨pb, cb, rfl, -⟩ := q2.form
          clear hb4 q1 q2 c0 c1 t0 t1 t2 t3 t4 r0 r1 rf0 rf1
          obtain ⟨e0, e1, e2, e3⟩ := HBX.out w4 B4.out
          have W4 := Lib.hid e3
          obtain ⟨c0, c1⟩ := two_cells e0
          obtain ⟨t0, t1, t2, t3, t4⟩ := five_of e1
          obtain ⟨r0, r1, rf0, rf1⟩ := two_of e2
          clear e0 e1 e2 e3
          have y0 : w.heap.size < w4.heap.size := by omega
          have y1 : w.heap.size + 1 < w4.heap.size := by omega
          have y2 : w.heap.size + 1 + 1 < w4.heap.size := by omega
          go_wp2_with fail
          generalize hV5 : w4.alloc (.cells #[.slice pa c.tbs.length ca, .slice pb c.prs.length cb] 25) = V5
          have hb5 : Below w4.heap.size w4 V5 := by rw [← hV5]; exact (Below.refl _ _).alloc (Nat.le_refl _) _
          have HO5 : Hid (V5.heap[w4.heap.size]? = some (.cells #[.slice pa c.tbs.length ca, .slice pb c.prs.length cb] 25 (0, 0))) := by
            show V5.heap[w4.heap.size]? = _
            rw [← hV5]
            exact heap_alloc_new w4 _
          have B5 := Lib.hid (B4.out.trans (hb5.mono B4.out.size))
          have HQ5 := Lib.hid hb5
          have z5 : V5.heap.size = w4.heap.size + 1 := by rw [← hV5]; simp
          clear hb5 hV5 c0 c1 t0 t1 t2 t3 t4 r0 r1 rf0 rf1
          obtain ⟨e0, e1, e2, e3⟩ := HBX.out V5 B5.out
          have W5 := Lib.hid e3
          obtain ⟨c0, c1⟩ := two_cells e0
          obtain ⟨t0, t1, t2, t3, t4⟩ := five_of e1
          obtain ⟨r0, r1, rf0, rf1⟩ := two_of e2
          clear e0 e1 e2 e3
          refine (procOf_any t _ V5 (HT.out _ W5.out) (may_pcZ HMY.out)).mono ?_
          rintro e V6 ⟨us, rfl, hO6, hb6⟩
          have z6 := hb6.size
          have B6 := Lib.hid (B5.out.trans (hb6.mono B5.out.size))
          have HO6 := Lib.hid (heap_of HO5.out hb6)
          have O6 := Lib.hid (O4.out.later (below_two HQ5.out hb6))
          have hO6 := PcO.mono (B' := w.heap.size + 3) (by omega) _ _ hO6
          have OT := Lib.hid hO6
          obtain ⟨u1, u2, rfl, q1, q2⟩ := hO6
          obtain ⟨p1, m1, rfl, -⟩ := q1.form
          obtain ⟨p2, m2, rfl, -⟩ := q2.form
          clear q1 q2
          clear hb6 c0 c1 t0 t1 t2 t3 t4 r0 r1 rf0 rf1
          obtain ⟨e0, e1, e2, e3⟩ := HBX.out V6 B6.out
          have W6 := Lib.hid e3
          obtain ⟨c0, c1⟩ := two_cells e0
          obtain ⟨t0, t1, t2, t3, t4⟩ := five_of e1
          obtain ⟨r0, r1, rf0, rf1⟩ := two_of e2
          clear e0 e1 e2 e3
          obtain ⟨x0, x1, xf0, xf1⟩ := two_of HO6.out
          obtain ⟨ut, up, hsp, OT6, OP6⟩ := O6.out
          simp only [List.cons.injEq, and_true] at hsp
          obtain ⟨rfl, rfl⟩ := hsp
          have HOT := Lib.hid OT6
          have HOP := Lib.hid OP6
          obtain ⟨ps, e1, e2, e3⟩ := HOP.out
          have P1 := Lib.hid e1
          have P2 := Lib.hid e2
          have hown2 := e3
          have HOW := Lib.hid e3
          have HGE := Lib.hid (own_ge e3)
          have n1 : w4.heap.size < V6.heap.size := by omega
          have n2 : w.heap.size + 1 + 1 < V6.heap.size := by omega
          have n3 : ¬ w4.heap.size = w.heap.size + 1 + 1 := by omega
          have n4 : ¬ w.heap.size + 1 + 1 = w4.heap.size := by omega
          clear e1 e2 e3 OT6 OP6
          go_wp2_with (first | (at_builtin; refine wpList_append_own _ rfl _ _ 23 rfl (w.heap.size + 3) 52 i0 (.agg #[.string ⟨#[]⟩, .slice none 0 0, .slice none 0 0, .int .i64 0, .int .i64 0]) 5 80 Tryz.underlying23 hi hz0 hz1 hz2 rfl (by decide) _ c.prs.length (ps.flatMap (·.2)) rfl ((hown2.alloc _).alloc _) ⟨V6.heap.size + 1, 0, none⟩ 1 1 [.string t.nm, .slice p1 t.prms.length m1, .slice p2 t.body.length m2, .int .i64 t.rows, .int .i64 t.bytes] rfl rfl (cells_alloc2 _ _ _ _) (by intro u hu; simp only [List.mem_cons, List.not_mem_nil, or_false] at hu; rcases hu with rfl | rfl | rfl | rfl | rfl <;> rfl) (by unfold maxLen; omega) (by omega) (by simp; omega) ?_; intro v' w7 hown3 hgrow3 _; obtain ⟨pn, cn, rfl⟩ := own_form hown3; (have HG := Lib.hid hgrow3); (have HO3 := Lib.hid hown3); (have hal : Below V6.heap.size V6 ((V6.alloc (.cells ([.string t.nm, .slice p1 t.prms.length m1, .slice p2 t.body.length m2, .int .i64 t.rows, .int .i64 t.bytes]).toArray 52)).alloc (.cells ([.string t.nm, .slice p1 t.prms.length m1, .slice p2 t.body.length m2, .int .i64 t.rows, .int .i64 t.bytes]).toArray 52)) := ((Below.refl _ _).alloc (Nat.le_refl _) _).alloc (by simp) _); (have HAL := Lib.hid hal); (have HO7 := Lib.hid (grown_other ((HOW.out.alloc _).alloc _) hgrow3 (heap_of HO6.out hal) (by decide))); (have B7 := Lib.hid ((B6.out.trans (hal.mono B6.out.size)).grown hgrow3 (by rw [hZs]; simp; omega) (fun k h => by have := HGE.out k h; omega))); clear hown3 hgrow3 hal hown2 x0 x1 xf0 xf1 c0 c1 t0 t1 t2 t3 t4 r0 r1 rf0 rf1; obtain ⟨e0, e1, e2, e3⟩ := HBX.out w7 B7.out; (have W7 := Lib.hid e3); obtain ⟨c0, c1⟩ := two_cells e0; obtain ⟨t0, t1, t2, t3, t4⟩ := five_of e1; obtain ⟨r0, r1, rf0, rf1⟩ := two_of e2; obtain ⟨x0, x1, xf0, xf1⟩ := two_of HO7.out; clear e0 e1 e2 e3))
          refine bodyPost_ret (v := .tuple #[.agg #[(.slice pa c.tbs.length ca), (.slice pn (c.prs.length + 1) cn)], .int .i64 0]) (by simp [results, Tryz.results31, go_sem, *]) rfl ?_
          have hks : ∀ S, 25 ∉ S → Keeps S (w.heap.size + 3) w7 (((w7.setCell ⟨w4.heap.size, 1, none⟩ (.slice pn (c.prs.length + 1) cn)).setCell ⟨w.heap.size + 1 + 1, 0, none⟩ (.slice pa c.tbs.length ca)).setCell ⟨w.heap.size + 1 + 1, 1, none⟩ (.slice pn (c.prs.length + 1) cn)) := fun S hS => Keeps.low (Keeps.low (Keeps.typed (Keeps.of (Below.refl _ _)) HO7.out hS _ _) (by omega) _ _) (by omega) _ _
          have hkg : ∀ S, 52 ∉ S → Keeps S (w.heap.size + 3) V6 w7 := fun S hS => (Keeps.of HAL.out).trans (Keeps.grown ((HOW.out.alloc _).alloc _) HG.out hS)
          have hrow := ownsRow_setCell_below (ownsRow_setCell_below (own_kept (w' := w7.setCell ⟨w4.heap.size, 1, none⟩ (.slice pn (c.prs.length + 1) cn)) HO3.out (fun g hg => by
            obtain ⟨cur, hh⟩ := own_block HO3.out hg
            exact Below.heap_setCell _ _ _ _ (fun e => by
              have e : g = w4.heap.size := e
              have h7 := HO7.out
              rw [← e, hh] at h7
              simp only [Option.some.injEq, Obj.cells.injEq] at h7
              exact absurd h7.2.1 (by decide)))) (a := ⟨w.heap.size + 1 + 1, 0, none⟩) (by show w.heap.size + 1 + 1 < w.heap.size + 3; omega) (.slice pa c.tbs.length ca)) (a := ⟨w.heap.size + 1 + 1, 1, none⟩) (by show w.heap.size + 1 + 1 < w.heap.size + 3; omega) (.slice pn (c.prs.length + 1) cn)
          refine ⟨[(.slice pa c.tbs.length ca), (.slice pn (c.prs.length + 1) cn)], by rw [HE.out], ?_, ?_⟩
          · rw [HE2.out]
            refine ⟨_, _, rfl, ?_, ?_⟩
            · exact (HOT.out.keeps (S := [46]) ((hkg _ (by decide)).trans (hks _ (by decide))) (by simp) (TbO.keeps ((hkg inTb (by decide)).trans (hks _ (by decide))))).mono (by omega) (TbO.mono (by omega))
            · exact (OwnR.push (n := 5) P1.out P2.out (PcO.keeps ((hkg inPc (by decide)).trans (hks _ (by decide)))) ((PcO.keeps ((hkg inPc (by decide)).trans (hks _ (by decide)))) _ _ OT.out) rfl hrow).mono (by omega) (PcO.mono (by omega))
          · have h0 := W7.out
            (repeat (first | exact Below.refl _ _ | assumption | refine Below.drew ?_ | refine below_drewN ?_ _ | refine Below.alloc ?_ (by first | omega | (simp; done) | (simp; omega)) _ | refine Below.setCell ?_ (by first | omega | (simp; done) | (simp; omega)) _ | refine Below.trans ?_ (Below.mono (by assumption) (by first | omega | (simp; done) | (simp; omega)))))
end Go.Proofs.YtkgkkcefnonejaaGreat
/- Walks of layer 8: CatalogAdds. -/
namespace Go.Proofs.YtkgkkcefnonejaaGreat
open Go.RowKit

theorem row_single {α : Type} {n : Nat} {R : α → List Value → Prop} {W w1 : World} {x : α} {us : List Value} {T : TypeId} (hb : Below (w1.heap.size + 1) (w1.alloc (.cells us.toArray T)) W) (hR : R x us) (hn : us.length = n) : RowR n R W (some ⟨w1.heap.size, 0, none⟩) [x] := by
  intro i hi
  obtain rfl : i = 0 := by simpa using hi
  refine ⟨w1.heap.size, 0, us, rfl, hR, hn, fun j hj => ?_⟩
  have h := cells_alloc w1 us T j us[j] (List.getElem?_eq_getElem hj)
  rw [Addr.add_lit] at h
  rw [Nat.zero_mul]
  exact cell_at (hb.block _ (by omega)) h
theorem ct_none (K : Nat) : CtZ K ⟨[], []⟩ := ⟨Nat.zero_le _, Nat.zero_le _, fun _ h => absurd h List.not_mem_nil, fun _ h => absurd h List.not_mem_nil⟩
theorem addTC_Z (c : Ct) (t : Tb) : CtZ 2147483647 (addTC c t) := by
  by_cases h : rightC c = true
  · rcases addT_cases c t h with ⟨_, e⟩ | ⟨_, e, r, _⟩
    · rw [e]; exact ct_none _
    · rw [e]; exact right_Z r
  · have : addTE c t = 80 := by simp [addTE, h]
    have : addTC c t = ⟨[], []⟩ := by simp [addTC, this]
    rw [this]; exact ct_none _
theorem addPC_Z (c : Ct) (t : Pc) : CtZ 2147483647 (addPC c t) := by
  by_cases h : rightC c = true
  · rcases addP_cases c t h with ⟨_, e⟩ | ⟨_, e, r, _⟩
    · rw [e]; exact ct_none _
    · rw [e]; exact right_Z r
  · have : addPE c t = 80 := by simp [addPE, h]
    have : addPC c t = ⟨[], []⟩ := by simp [addPC, this]
    rw [this]; exact ct_none _

set_option maxHeartbeats 64000000 in
set_option maxRecDepth 100000 in
theorem catalogAdds_law (c : Ct) (us : List Value) (t : Tb) (vs : List Value) (p : Pc) (ys : List Value) (w : World) (hR1 : CtR w c us) (hZ1 : CtZ 140737488355328 c) (hR2 : TbR w t vs) (hZ2 : TbZ 140737488355328 t) (hR3 : PcR w p ys) (hZ3 : PcZ 140737488355328 p) :
    Calls Tryz.prog 6 #[.agg us.toArray, .agg vs.toArray, .agg ys.toArray] w fun e w' => e = .returned (.bool true) ∧ Below w.heap.size w w' := by
  have HC : Hid (∀ W, Below w.heap.size w W → CtR W c us) := fun W h => CtR.later h c us hR1
  have HT : Hid (∀ W, Below w.heap.size w W → TbR W t vs) := fun W h => TbR.later h t vs hR2
  have HP : Hid (∀ W, Below w.heap.size w W → PcR W p ys) := fun W h => PcR.later h p ys hR3
  obtain ⟨pa, ca, pb, cb, rfl, -, -⟩ := hR1
  obtain ⟨pc, cc, pk, ck, px, cx, rfl, -, -, -⟩ := hR2
  obtain ⟨pm, cm, po, co, rfl, -, -⟩ := hR3
  have HY1 := Lib.hid hZ1
  have HYS : Hid (CtZ 140737488355328 ⟨[t], [p]⟩) := ⟨by simp, by simp, fun x hx => by obtain rfl := List.mem_singleton.1 hx; exact hZ2, fun x hx => by obtain rfl := List.mem_singleton.1 hx; exact hZ3⟩
  clear hZ1 hZ2 hZ3
  obtain ⟨Z, hZ⟩ : ∃ Z, ((w.alloc (.cells #[.slice pa c.tbs.length ca, .slice pb c.prs.length cb] 25)).alloc (.cells #[.string t.nm, .slice pc t.cols.length cc, .slice pk t.key.length ck, .int .i64 t.part, .slice px t.ixs.length cx] 46)).alloc (.cells #[.string p.nm, .slice pm p.prms.length cm, .slice po p.body.length co, .int .i64 p.rows, .int .i64 p.bytes] 52) = Z := ⟨_, rfl⟩
  have hZs : Z.heap.size = w.heap.size + 1 + 1 + 1 := by rw [← hZ]; simp
  have HBX : Hid (∀ W, Below Z.heap.size Z W → W.heap[w.heap.size]? = some (.cells #[.slice pa c.tbs.length ca, .slice pb c.prs.length cb] 25 (0, 0)) ∧ W.heap[w.heap.size + 1]? = some (.cells #[.string t.nm, .slice pc t.cols.length cc, .slice pk t.key.length ck, .int .i64 t.part, .slice px t.ixs.length cx] 46 (0, 0)) ∧ W.heap[w.heap.size + 1 + 1]? = some (.cells #[.string p.nm, .slice pm p.prms.length cm, .slice po p.body.length co, .int .i64 p.rows, .int .i64 p.bytes] 52 (0, 0)) ∧ Below w.heap.size w W) := by
    intro W h
    rw [hZs] at h
    rw [← hZ] at h
    refine ⟨?_, ?_, ?_, ?_⟩
    · rw [h.block _ (by omega), Below.heap_alloc _ _ _ (by simp; omega), Below.heap_alloc _ _ _ (by simp)]
      exact heap_alloc_new w _
    · rw [h.block _ (by omega), Below.heap_alloc _ _ _ (by simp)]
      simpa using heap_alloc_new (w.alloc (.cells #[.slice pa c.tbs.length ca, .slice pb c.prs.length cb] 25)) (.cells #[.string t.nm, .slice pc t.cols.length cc, .slice pk t.key.length ck, .int .i64 t.part, .slice px t.ixs.length cx] 46 (0, 0))
    · rw [h.block _ (by omega)]
      simpa using heap_alloc_new ((w.alloc (.cells #[.slice pa c.tbs.length ca, .slice pb c.prs.length cb] 25)).alloc (.cells #[.string t.nm, .slice pc t.cols.length cc, .slice pk t.key.length ck, .int .i64 t.part, .slice px t.ixs.length cx] 46)) (.cells #[.string p.nm, .slice pm p.prms.length cm, .slice po p.body.length co, .int .i64 p.rows, .int .i64 p.bytes] 52 (0, 0))
    · exact ((((Below.refl _ _).alloc (Nat.le_refl _) _).alloc (by simp) _).alloc (by simp; omega) _).trans (h.mono (by omega))
  have B0 : Hid (Below Z.heap.size Z Z) := Below.refl _ _
  obtain ⟨e0, e1, e2, e3⟩ := HBX.out Z B0.out
  have W0 := Lib.hid e3
  obtain ⟨c0, c1⟩ := two_cells e0
  obtain ⟨t0, t1, t2, t3, t4⟩ := five_of e1
  obtain ⟨p0, p1, p2, p3, p4⟩ := five_of e2
  have z0 := B0.out.size
  clear e0 e1 e2 e3
  go_enter Tryz.func6, Tryz.ntmps6
  go_wp2_with fail
  refine (weighs_any c _ Z (HC.out _ W0.out) HY1.out).mono ?_
  rintro e w1 ⟨N, rfl, hN, hb⟩
  have HN := Lib.hid hN
  have B1 := Lib.hid (B0.out.trans hb)
  clear hb hN hZ c0 c1 t0 t1 t2 t3 t4 p0 p1 p2 p3 p4
  obtain ⟨e0, e1, e2, e3⟩ := HBX.out w1 B1.out
  have W1 := Lib.hid e3
  obtain ⟨c0, c1⟩ := two_cells e0
  obtain ⟨t0, t1, t2, t3, t4⟩ := five_of e1
  obtain ⟨p0, p1, p2, p3, p4⟩ := five_of e2
  have z1 := B1.out.size
  clear e0 e1 e2 e3
  have y10 : w.heap.size < w1.heap.size := by omega
  have y11 : w.heap.size + 1 < w1.heap.size := by omega
  have y12 : w.heap.size + 1 + 1 < w1.heap.size := by omega
  have y13 : w.heap.size + 1 + 1 < w1.heap.size + 1 := by omega
  go_wp2_with fail
  have hbs : Below w1.heap.size w1 ((w1.alloc (.cells #[.string t.nm, .slice pc t.cols.length cc, .slice pk t.key.length ck, .int .i64 t.part, .slice px t.ixs.length cx] 46)).alloc (.cells #[.string p.nm, .slice pm p.prms.length cm, .slice po p.body.length co, .int .i64 p.rows, .int .i64 p.bytes] 52)) := ((Below.refl _ _).alloc (Nat.le_refl _) _).alloc (by simp) _
  have hls : Below w.heap.size w ((w1.alloc (.cells #[.string t.nm, .slice pc t.cols.length cc, .slice pk t.key.length ck, .int .i64 t.part, .slice px t.ixs.length cx] 46)).alloc (.cells #[.string p.nm, .slice pm p.prms.length cm, .slice po p.body.length co, .int .i64 p.rows, .int .i64 p.bytes] 52)) := below_two W1.out hbs
  have hrs : CtR ((w1.alloc (.cells #[.string t.nm, .slice pc t.cols.length cc, .slice pk t.key.length ck, .int .i64 t.part, .slice px t.ixs.length cx] 46)).alloc (.cells #[.string p.nm, .slice pm p.prms.length cm, .slice po p.body.length co, .int .i64 p.rows, .int .i64 p.bytes] 52)) ⟨[t], [p]⟩ [.slice (some ⟨w1.heap.size, 0, none⟩) 1 1, .slice (some ⟨w1.heap.size + 1, 0, none⟩) 1 1] := by
    refine ⟨_, _, _, _, rfl, row_single (w1 := w1) (us := [.string t.nm, .slice pc t.cols.length cc, .slice pk t.key.length ck, .int .i64 t.part, .slice px t.ixs.length cx]) (T := 46) ((Below.refl _ _).alloc (by simp) _) (HT.out _ hls) rfl, ?_⟩
    have := row_single (w1 := w1.alloc (.cells #[.string t.nm, .slice pc t.cols.length cc, .slice pk t.key.length ck, .int .i64 t.part, .slice px t.ixs.length cx] 46)) (us := [.string p.nm, .slice pm p.prms.length cm, .slice po p.body.length co, .int .i64 p.rows, .int .i64 p.bytes]) (T := 52) (n := 5) (R := PcR ((w1.alloc (.cells #[.string t.nm, .slice pc t.cols.length cc, .slice pk t.key.length ck, .int .i64 t.part, .slice px t.ixs.length cx] 46)).alloc (.cells #[.string p.nm, .slice pm p.prms.length cm, .slice po p.body.length co, .int .i64 p.rows, .int .i64 p.bytes] 52))) (x := p) (Below.refl _ _) (HP.out _ hls) rfl
    rw [World.size_alloc] at this
    exact this
  refine (weighs_any ⟨[t], [p]⟩ _ _ hrs HYS.out).mono ?_
  rintro e w2 ⟨M, rfl, hM, hb⟩
  have hb2 : Below w1.heap.size w1 w2 := below_two hbs hb
  have HM := Lib.hid hM
  have B2 := Lib.hid (B1.out.trans (hb2.mono B1.out.size))
  clear hb hb2 hM hbs hls hrs y10 y11 y12 y13 c0 c1 t0 t1 t2 t3 t4 p0 p1 p2 p3 p4
  obtain ⟨e0, e1, e2, e3⟩ := HBX.out w2 B2.out
  have W2 := Lib.hid e3
  obtain ⟨c0, c1⟩ := two_cells e0
  obtain ⟨t0, t1, t2, t3, t4⟩ := five_of e1
  obtain ⟨p0, p1, p2, p3, p4⟩ := five_of e2
  have z2 := B2.out.size
  clear e0 e1 e2 e3
  by_cases hNb : N ≤ 2147483647
  · have hNi : ¬ (2147483647 : Int) < (N : Int) := by omega
    by_cases hMb : M ≤ 2147483647
    · have hMi : ¬ (2147483647 : Int) < (M : Int) := by omega
      have HS1 := Lib.hid (HN.out hNb)
      have HSM := Lib.hid (HM.out hMb)
      have HS2 : Hid (TbZ 2147483647 t) := HSM.out.tb t (List.mem_singleton.2 rfl)
      have HS3 : Hid (PcZ 2147483647 p) := HSM.out.pc p (List.mem_singleton.2 rfl)
      go_wp2_with fail
      refine (awake8_any rtext_any _).mono ?_
      rintro e w3 ⟨rfl, hb⟩
      have B3 := Lib.hid (B2.out.trans (hb.mono B2.out.size))
      clear hb c0 c1 t0 t1 t2 t3 t4 p0 p1 p2 p3 p4
      obtain ⟨e0, e1, e2, e3⟩ := HBX.out w3 B3.out
      have W3 := Lib.hid e3
      obtain ⟨c0, c1⟩ := two_cells e0
      obtain ⟨t0, t1, t2, t3, t4⟩ := five_of e1
      obtain ⟨p0, p1, p2, p3, p4⟩ := five_of e2
      have z3 := B3.out.size
      clear e0 e1 e2 e3
      go_wp2_with fail
      refine (of_any c _ _ (HC.out _ W3.out) HS1.out).mono ?_
      rintro e w4 ⟨os, rfl, hO, hb⟩
      have hbk := hb
      have B4 := Lib.hid (B3.out.trans (hb.mono B3.out.size))
      have OO4 := Lib.hid hO
      obtain ⟨v1, v2, rfl, f1, f2⟩ := hO
      obtain ⟨q1, m1, rfl, -⟩ := f1.form
      obtain ⟨q2, m2, rfl, -⟩ := f2.form
      clear f1 f2 hbk
      have RO : Hid (∀ W, Below w4.heap.size w4 W → CtR W c [.slice q1 c.tbs.length m1, .slice q2 c.prs.length m2]) := fun W h => CtR.later h _ _ (CtO.reads _ _ OO4.out)
      clear hb c0 c1 t0 t1 t2 t3 t4 p0 p1 p2 p3 p4
      obtain ⟨e0, e1, e2, e3⟩ := HBX.out w4 B4.out
      have W4 := Lib.hid e3
      obtain ⟨c0, c1⟩ := two_cells e0
      obtain ⟨t0, t1, t2, t3, t4⟩ := five_of e1
      obtain ⟨p0, p1, p2, p3, p4⟩ := five_of e2
      have z4 := B4.out.size
      clear e0 e1 e2 e3
      have y0 : w.heap.size < w4.heap.size := by omega
      have y1 : w.heap.size + 1 < w4.heap.size := by omega
      have y2 : w.heap.size + 1 + 1 < w4.heap.size := by omega
      go_wp2_with fail
      generalize hV : w4.alloc (.cells #[.slice q1 c.tbs.length m1, .slice q2 c.prs.length m2] 25) = V4
      have hbv : Below w4.heap.size w4 V4 := by rw [← hV]; exact (Below.refl _ _).alloc (Nat.le_refl _) _
      have HO4 : Hid (V4.heap[w4.heap.size]? = some (.cells #[.slice q1 c.tbs.length m1, .slice q2 c.prs.length m2] 25 (0, 0))) := by
        show V4.heap[w4.heap.size]? = _
        rw [← hV]
        exact heap_alloc_new w4 _
      have B5 := Lib.hid (B4.out.trans (hbv.mono B4.out.size))
      have Q4 := Lib.hid hbv
      have s4 : V4.heap.size = w4.heap.size + 1 := by rw [← hV]; simp
      clear hbv hV y0 y1 y2 c0 c1 t0 t1 t2 t3 t4 p0 p1 p2 p3 p4
      obtain ⟨e0, e1, e2, e3⟩ := HBX.out V4 B5.out
      have W5 := Lib.hid e3
      obtain ⟨c0, c1⟩ := two_cells e0
      obtain ⟨t0, t1, t2, t3, t4⟩ := five_of e1
      obtain ⟨p0, p1, p2, p3, p4⟩ := five_of e2
      have z5 := B5.out.size
      clear e0 e1 e2 e3
      refine (tableOf_any t _ V4 (HT.out _ W5.out) HS2.out).mono ?_
      rintro e w6 ⟨os, rfl, hO, hb⟩
      have hbk := hb
      have B6 := Lib.hid (B5.out.trans (hb.mono B5.out.size))
      have OO6 := Lib.hid hO
      obtain ⟨v1, v2, v3, rfl, f1, f2, f3⟩ := hO
      obtain ⟨q3, m3, rfl, -⟩ := f1.form
      obtain ⟨q4, m4, rfl, -⟩ := f2.form
      obtain ⟨q5, m5, rfl, -⟩ := f3.form
      clear f1 f2 f3
      have HO46 := Lib.hid (heap_of HO4.out hbk)
      have A46 := Lib.hid (below_two Q4.out hbk)
      clear hbk
      have RT : Hid (∀ W, Below w6.heap.size w6 W → TbR W t [.string t.nm, .slice q3 t.cols.length m3, .slice q4 t.key.length m4, .int .i64 t.part, .slice q5 t.ixs.length m5]) := fun W h => TbR.later h _ _ (TbO.reads _ _ OO6.out)
      clear hb c0 c1 t0 t1 t2 t3 t4 p0 p1 p2 p3 p4
      obtain ⟨e0, e1, e2, e3⟩ := HBX.out w6 B6.out
      have W6 := Lib.hid e3
      obtain ⟨c0, c1⟩ := two_cells e0
      obtain ⟨t0, t1, t2, t3, t4⟩ := five_of e1
      obtain ⟨p0, p1, p2, p3, p4⟩ := five_of e2
      have z6 := B6.out.size
      clear e0 e1 e2 e3
      have y0 : w.heap.size < w6.heap.size := by omega
      have y1 : w.heap.size + 1 < w6.heap.size := by omega
      have y2 : w.heap.size + 1 + 1 < w6.heap.size := by omega
      go_wp2_with fail
      generalize hV : w6.alloc (.cells #[.string t.nm, .slice q3 t.cols.length m3, .slice q4 t.key.length m4, .int .i64 t.part, .slice q5 t.ixs.length m5] 46) = V6
      have hbv : Below w6.heap.size w6 V6 := by rw [← hV]; exact (Below.refl _ _).alloc (Nat.le_refl _) _
      have HO6 : Hid (V6.heap[w6.heap.size]? = some (.cells #[.string t.nm, .slice q3 t.cols.length m3, .slice q4 t.key.length m4, .int .i64 t.part, .slice q5 t.ixs.length m5] 46 (0, 0))) := by
        show V6.heap[w6.heap.size]? = _
        rw [← hV]
        exact heap_alloc_new w6 _
      have B7 := Lib.hid (B6.out.trans (hbv.mono B6.out.size))
      have Q6 := Lib.hid hbv
      have s6 : V6.heap.size = w6.heap.size + 1 := by rw [← hV]; simp
      clear hbv hV y0 y1 y2 c0 c1 t0 t1 t2 t3 t4 p0 p1 p2 p3 p4
      obtain ⟨e0, e1, e2, e3⟩ := HBX.out V6 B7.out
      have W7 := Lib.hid e3
      obtain ⟨c0, c1⟩ := two_cells e0
      obtain ⟨t0, t1, t2, t3, t4⟩ := five_of e1
      obtain ⟨p0, p1, p2, p3, p4⟩ := five_of e2
      have z7 := B7.out.size
      clear e0 e1 e2 e3
      refine (procOf_any p _ V6 (HP.out _ W7.out) HS3.out).mono ?_
      rintro e w8 ⟨os, rfl, hO, hb⟩
      have hbk := hb
      have B8 := Lib.hid (B7.out.trans (hb.mono B7.out.size))
      have OO8 := Lib.hid hO
      obtain ⟨v1, v2, rfl, f1, f2⟩ := hO
      obtain ⟨q6, m6, rfl, -⟩ := f1.form
      obtain ⟨q7, m7, rfl, -⟩ := f2.form
      clear f1 f2
      have HO48 := Lib.hid (heap_of HO46.out (below_two Q6.out hbk))
      have HO68 := Lib.hid (heap_of HO6.out hbk)
      have A48 := Lib.hid (below_two A46.out (below_two Q6.out hbk))
      have A68 := Lib.hid (below_two Q6.out hbk)
      clear hbk
      have RP : Hid (∀ W, Below w8.heap.size w8 W → PcR W p [.string p.nm, .slice q6 p.prms.length m6, .slice q7 p.body.length m7, .int .i64 p.rows, .int .i64 p.bytes]) := fun W h => PcR.later h _ _ (PcO.reads _ _ OO8.out)
      clear hb c0 c1 t0 t1 t2 t3 t4 p0 p1 p2 p3 p4
      obtain ⟨e0, e1, e2, e3⟩ := HBX.out w8 B8.out
      have W8 := Lib.hid e3
      obtain ⟨c0, c1⟩ := two_cells e0
      obtain ⟨t0, t1, t2, t3, t4⟩ := five_of e1
      obtain ⟨p0, p1, p2, p3, p4⟩ := five_of e2
      have z8 := B8.out.size
      clear e0 e1 e2 e3
      have y0 : w.heap.size < w8.heap.size := by omega
      have y1 : w.heap.size + 1 < w8.heap.size := by omega
      have y2 : w.heap.size + 1 + 1 < w8.heap.size := by omega
      have y3 : w4.heap.size < w8.heap.size := (Array.getElem?_eq_some_iff.1 HO48.out).1
      have y4 : w6.heap.size < w8.heap.size := (Array.getElem?_eq_some_iff.1 HO68.out).1
      obtain ⟨x0, x1⟩ := two_cells HO48.out
      obtain ⟨u0, u1, u2, u3, u4⟩ := five_of HO68.out
      go_wp2_with fail
      generalize hV : w8.alloc (.cells #[.string p.nm, .slice q6 p.prms.length m6, .slice q7 p.body.length m7, .int .i64 p.rows, .int .i64 p.bytes] 52) = S
      have hbv : Below w8.heap.size w8 S := by rw [← hV]; exact (Below.refl _ _).alloc (Nat.le_refl _) _
      have HO8 : Hid (S.heap[w8.heap.size]? = some (.cells #[.string p.nm, .slice q6 p.prms.length m6, .slice q7 p.body.length m7, .int .i64 p.rows, .int .i64 p.bytes] 52 (0, 0))) := by
        show S.heap[w8.heap.size]? = _
        rw [← hV]
        exact heap_alloc_new w8 _
      have B9 := Lib.hid (B8.out.trans (hbv.mono B8.out.size))
      have Q8 := Lib.hid hbv
      have s8 : S.heap.size = w8.heap.size + 1 := by rw [← hV]; simp
      clear hbv hV y0 y1 y2 c0 c1 t0 t1 t2 t3 t4 p0 p1 p2 p3 p4
      obtain ⟨e0, e1, e2, e3⟩ := HBX.out S B9.out
      have W9 := Lib.hid e3
      obtain ⟨c0, c1⟩ := two_cells e0
      obtain ⟨t0, t1, t2, t3, t4⟩ := five_of e1
      obtain ⟨p0, p1, p2, p3, p4⟩ := five_of e2
      have z9 := B9.out.size
      clear e0 e1 e2 e3
      clear x0 x1 u0 u1 u2 u3 u4
      have HS : Hid (∀ W, Below S.heap.size S W → (W.heap[w.heap.size]? = some (.cells #[.slice pa c.tbs.length ca, .slice pb c.prs.length cb] 25 (0, 0)) ∧ W.heap[w.heap.size + 1]? = some (.cells #[.string t.nm, .slice pc t.cols.length cc, .slice pk t.key.length ck, .int .i64 t.part, .slice px t.ixs.length cx] 46 (0, 0)) ∧ W.heap[w.heap.size + 1 + 1]? = some (.cells #[.string p.nm, .slice pm p.prms.length cm, .slice po p.body.length co, .int .i64 p.rows, .int .i64 p.bytes] 52 (0, 0))) ∧ (W.heap[w4.heap.size]? = some (.cells #[.slice q1 c.tbs.length m1, .slice q2 c.prs.length m2] 25 (0, 0)) ∧ W.heap[w6.heap.size]? = some (.cells #[.string t.nm, .slice q3 t.cols.length m3, .slice q4 t.key.length m4, .int .i64 t.part, .slice q5 t.ixs.length m5] 46 (0, 0)) ∧ W.heap[w8.heap.size]? = some (.cells #[.string p.nm, .slice q6 p.prms.length m6, .slice q7 p.body.length m7, .int .i64 p.rows, .int .i64 p.bytes] 52 (0, 0))) ∧ Below w.heap.size w W ∧ CtR W c [.slice q1 c.tbs.length m1, .slice q2 c.prs.length m2] ∧ TbR W t [.string t.nm, .slice q3 t.cols.length m3, .slice q4 t.key.length m4, .int .i64 t.part, .slice q5 t.ixs.length m5] ∧ PcR W p [.string p.nm, .slice q6 p.prms.length m6, .slice q7 p.body.length m7, .int .i64 p.rows, .int .i64 p.bytes]) := by
        intro W h
        obtain ⟨e0, e1, e2, e3⟩ := HBX.out W (B9.out.trans (h.mono B9.out.size))
        have h8 := below_two Q8.out h
        exact ⟨⟨e0, e1, e2⟩, ⟨heap_of HO48.out h8, heap_of HO68.out h8, heap_of HO8.out h⟩, e3, RO.out W (below_two A48.out h8), RT.out W (below_two A68.out h8), RP.out W h8⟩
      have K0 : Hid (Below S.heap.size S S) := Below.refl _ _
      have hSz : w8.heap.size < S.heap.size := by omega
      clear c0 c1 t0 t1 t2 t3 t4 p0 p1 p2 p3 p4
      obtain ⟨⟨e0, e1, e2⟩, ⟨e3, e4, e5⟩, e6, e7, e8, e9⟩ := HS.out S K0.out
      have L0 := Lib.hid e6
      have RC0 := Lib.hid e7
      have RT0 := Lib.hid e8
      have RP0 := Lib.hid e9
      obtain ⟨c0, c1⟩ := two_cells e0
      obtain ⟨t0, t1, t2, t3, t4⟩ := five_of e1
      obtain ⟨p0, p1, p2, p3, p4⟩ := five_of e2
      obtain ⟨x0, x1⟩ := two_cells e3
      obtain ⟨u0, u1, u2, u3, u4⟩ := five_of e4
      obtain ⟨v0, v1, v2, v3, v4⟩ := five_of e5
      clear e0 e1 e2 e3 e4 e5 e6 e7 e8 e9
      refine (addTb_any c t [.slice q1 c.tbs.length m1, .slice q2 c.prs.length m2] [.string t.nm, .slice q3 t.cols.length m3, .slice q4 t.key.length m4, .int .i64 t.part, .slice q5 t.ixs.length m5] S RC0.out RT0.out (HS1.out.fits (by omega)) (by have := HS2.out.cols; omega)).mono ?_
      rintro e aW ⟨os, rfl, hO, hb⟩
      have aO := Lib.hid hO
      obtain ⟨f1, f2, rfl, f3, f4⟩ := hO
      obtain ⟨aa, ab, rfl, -⟩ := f3.form
      obtain ⟨ac, ad, rfl, -⟩ := f4.form
      have aH := Lib.hid hb
      have hbz := hb.size
      have K1p := Lib.hid (K0.out.trans (hb.mono K0.out.size))
      have gz := K1p.out.size
      clear hb f3 f4 c0 c1 t0 t1 t2 t3 t4 p0 p1 p2 p3 p4 x0 x1 u0 u1 u2 u3 u4 v0 v1 v2 v3 v4
      obtain ⟨⟨e0, e1, e2⟩, ⟨e3, e4, e5⟩, -⟩ := HS.out _ K1p.out
      obtain ⟨c0, c1⟩ := two_cells e0
      obtain ⟨t0, t1, t2, t3, t4⟩ := five_of e1
      obtain ⟨p0, p1, p2, p3, p4⟩ := five_of e2
      obtain ⟨x0, x1⟩ := two_cells e3
      obtain ⟨u0, u1, u2, u3, u4⟩ := five_of e4
      obtain ⟨v0, v1, v2, v3, v4⟩ := five_of e5
      clear e0 e1 e2 e3 e4 e5
      have l0 : w.heap.size < aW.heap.size := by omega
      have l1 : w.heap.size + 1 < aW.heap.size := by omega
      have l2 : w.heap.size + 1 + 1 < aW.heap.size := by omega
      have l3 : w4.heap.size < aW.heap.size := by omega
      have l4 : w6.heap.size < aW.heap.size := by omega
      have l5 : w8.heap.size < aW.heap.size := by omega
      go_wp2_with fail
      generalize hV : aW.alloc (.cells #[.slice aa (addTC c t).tbs.length ab, .slice ac (addTC c t).prs.length ad] 25) = aV
      have hbv : Below aW.heap.size aW aV := by rw [← hV]; exact (Below.refl _ _).alloc (Nat.le_refl _) _
      have aB : Hid (aV.heap[aW.heap.size]? = some (.cells #[.slice aa (addTC c t).tbs.length ab, .slice ac (addTC c t).prs.length ad] 25 (0, 0))) := by
        show aV.heap[aW.heap.size]? = _
        rw [← hV]
        exact heap_alloc_new aW _
      have aQ := Lib.hid hbv
      have sza : aV.heap.size = aW.heap.size + 1 := by rw [← hV]; simp
      have K1 := Lib.hid (K1p.out.trans (hbv.mono K1p.out.size))
      clear hbv hV l0 l1 l2 l3 l4 l5 c0 c1 t0 t1 t2 t3 t4 p0 p1 p2 p3 p4 x0 x1 u0 u1 u2 u3 u4 v0 v1 v2 v3 v4
      obtain ⟨⟨e0, e1, e2⟩, ⟨e3, e4, e5⟩, e6, e7, e8, e9⟩ := HS.out aV K1.out
      have L1 := Lib.hid e6
      have RC1 := Lib.hid e7
      have RT1 := Lib.hid e8
      have RP1 := Lib.hid e9
      obtain ⟨c0, c1⟩ := two_cells e0
      obtain ⟨t0, t1, t2, t3, t4⟩ := five_of e1
      obtain ⟨p0, p1, p2, p3, p4⟩ := five_of e2
      obtain ⟨x0, x1⟩ := two_cells e3
      obtain ⟨u0, u1, u2, u3, u4⟩ := five_of e4
      obtain ⟨v0, v1, v2, v3, v4⟩ := five_of e5
      clear e0 e1 e2 e3 e4 e5 e6 e7 e8 e9
      obtain ⟨bx0, by0⟩ := two_cells aB.out
      refine (addPc_any c p [.slice q1 c.tbs.length m1, .slice q2 c.prs.length m2] [.string p.nm, .slice q6 p.prms.length m6, .slice q7 p.body.length m7, .int .i64 p.rows, .int .i64 p.bytes] aV RC1.out RP1.out (HS1.out.fits (by omega))).mono ?_
      rintro e bW ⟨os, rfl, hO, hb⟩
      have bO := Lib.hid hO
      obtain ⟨f1, f2, rfl, f3, f4⟩ := hO
      obtain ⟨ba, bb, rfl, -⟩ := f3.form
      obtain ⟨bc, bd, rfl, -⟩ := f4.form
      have bH := Lib.hid hb
      have hbz := hb.size
      have aBb := Lib.hid (heap_of aB.out hb)
      have K2p := Lib.hid (K1.out.trans (hb.mono K1.out.size))
      have gz := K2p.out.size
      clear hb f3 f4 c0 c1 t0 t1 t2 t3 t4 p0 p1 p2 p3 p4 x0 x1 u0 u1 u2 u3 u4 v0 v1 v2 v3 v4 bx0 by0
      obtain ⟨⟨e0, e1, e2⟩, ⟨e3, e4, e5⟩, -⟩ := HS.out _ K2p.out
      obtain ⟨c0, c1⟩ := two_cells e0
      obtain ⟨t0, t1, t2, t3, t4⟩ := five_of e1
      obtain ⟨p0, p1, p2, p3, p4⟩ := five_of e2
      obtain ⟨x0, x1⟩ := two_cells e3
      obtain ⟨u0, u1, u2, u3, u4⟩ := five_of e4
      obtain ⟨v0, v1, v2, v3, v4⟩ := five_of e5
      clear e0 e1 e2 e3 e4 e5
      obtain ⟨bx0, by0⟩ := two_cells aBb.out
      have l0 : w.heap.size < bW.heap.size := by omega
      have l1 : w.heap.size + 1 < bW.heap.size := by omega
      have l2 : w.heap.size + 1 + 1 < bW.heap.size := by omega
      have l3 : w4.heap.size < bW.heap.size := by omega
      have l4 : w6.heap.size < bW.heap.size := by omega
      have l5 : w8.heap.size < bW.heap.size := by omega
      have l6 : aW.heap.size < bW.heap.size := by omega
      go_wp2_with fail
      generalize hV : bW.alloc (.cells #[.slice ba (addPC c p).tbs.length bb, .slice bc (addPC c p).prs.length bd] 25) = bV
      have hbv : Below bW.heap.size bW bV := by rw [← hV]; exact (Below.refl _ _).alloc (Nat.le_refl _) _
      have bB : Hid (bV.heap[bW.heap.size]? = some (.cells #[.slice ba (addPC c p).tbs.length bb, .slice bc (addPC c p).prs.length bd] 25 (0, 0))) := by
        show bV.heap[bW.heap.size]? = _
        rw [← hV]
        exact heap_alloc_new bW _
      have bQ := Lib.hid hbv
      have szb : bV.heap.size = bW.heap.size + 1 := by rw [← hV]; simp
      have aBbv := Lib.hid (heap_of aBb.out hbv)
      have K2 := Lib.hid (K2p.out.trans (hbv.mono K2p.out.size))
      clear hbv hV l0 l1 l2 l3 l4 l5 l6 c0 c1 t0 t1 t2 t3 t4 p0 p1 p2 p3 p4 x0 x1 u0 u1 u2 u3 u4 v0 v1 v2 v3 v4 bx0 by0
      obtain ⟨⟨e0, e1, e2⟩, ⟨e3, e4, e5⟩, e6, e7, e8, e9⟩ := HS.out bV K2.out
      have L2 := Lib.hid e6
      have RC2 := Lib.hid e7
      have RT2 := Lib.hid e8
      have RP2 := Lib.hid e9
      obtain ⟨c0, c1⟩ := two_cells e0
      obtain ⟨t0, t1, t2, t3, t4⟩ := five_of e1
      obtain ⟨p0, p1, p2, p3, p4⟩ := five_of e2
      obtain ⟨x0, x1⟩ := two_cells e3
      obtain ⟨u0, u1, u2, u3, u4⟩ := five_of e4
      obtain ⟨v0, v1, v2, v3, v4⟩ := five_of e5
      clear e0 e1 e2 e3 e4 e5 e6 e7 e8 e9
      obtain ⟨bx0, by0⟩ := two_cells aBbv.out
      obtain ⟨bx1, by1⟩ := two_cells bB.out
      refine (dAddTb_any c t _ _ bV (HC.out _ L2.out) (HT.out _ L2.out)).mono ?_
      rintro e fW ⟨os, rfl, hO, hb⟩
      have fO := Lib.hid hO
      obtain ⟨f1, f2, rfl, f3, f4⟩ := hO
      obtain ⟨fa, fb, rfl, -⟩ := f3.form
      obtain ⟨fc, fd, rfl, -⟩ := f4.form
      have fH := Lib.hid hb
      have hbz := hb.size
      have aBf := Lib.hid (heap_of aBbv.out hb)
      have bBf := Lib.hid (heap_of bB.out hb)
      have K3p := Lib.hid (K2.out.trans (hb.mono K2.out.size))
      have gz := K3p.out.size
      clear hb f3 f4 c0 c1 t0 t1 t2 t3 t4 p0 p1 p2 p3 p4 x0 x1 u0 u1 u2 u3 u4 v0 v1 v2 v3 v4 bx0 by0 bx1 by1
      obtain ⟨⟨e0, e1, e2⟩, ⟨e3, e4, e5⟩, -⟩ := HS.out _ K3p.out
      obtain ⟨c0, c1⟩ := two_cells e0
      obtain ⟨t0, t1, t2, t3, t4⟩ := five_of e1
      obtain ⟨p0, p1, p2, p3, p4⟩ := five_of e2
      obtain ⟨x0, x1⟩ := two_cells e3
      obtain ⟨u0, u1, u2, u3, u4⟩ := five_of e4
      obtain ⟨v0, v1, v2, v3, v4⟩ := five_of e5
      clear e0 e1 e2 e3 e4 e5
      obtain ⟨bx0, by0⟩ := two_cells aBf.out
      obtain ⟨bx1, by1⟩ := two_cells bBf.out
      have l0 : w.heap.size < fW.heap.size := by omega
      have l1 : w.heap.size + 1 < fW.heap.size := by omega
      have l2 : w.heap.size + 1 + 1 < fW.heap.size := by omega
      have l3 : w4.heap.size < fW.heap.size := by omega
      have l4 : w6.heap.size < fW.heap.size := by omega
      have l5 : w8.heap.size < fW.heap.size := by omega
      have l6 : aW.heap.size < fW.heap.size := by omega
      have l7 : bW.heap.size < fW.heap.size := by omega
      go_wp2_with fail
      generalize hV : fW.alloc (.cells #[.slice fa (addTC c t).tbs.length fb, .slice fc (addTC c t).prs.length fd] 25) = fV
      have hbv : Below fW.heap.size fW fV := by rw [← hV]; exact (Below.refl _ _).alloc (Nat.le_refl _) _
      have fB : Hid (fV.heap[fW.heap.size]? = some (.cells #[.slice fa (addTC c t).tbs.length fb, .slice fc (addTC c t).prs.length fd] 25 (0, 0))) := by
        show fV.heap[fW.heap.size]? = _
        rw [← hV]
        exact heap_alloc_new fW _
      have fQ := Lib.hid hbv
      have szf : fV.heap.size = fW.heap.size + 1 := by rw [← hV]; simp
      have aBfv := Lib.hid (heap_of aBf.out hbv)
      have bBfv := Lib.hid (heap_of bBf.out hbv)
      have K3 := Lib.hid (K3p.out.trans (hbv.mono K3p.out.size))
      clear hbv hV l0 l1 l2 l3 l4 l5 l6 l7 c0 c1 t0 t1 t2 t3 t4 p0 p1 p2 p3 p4 x0 x1 u0 u1 u2 u3 u4 v0 v1 v2 v3 v4 bx0 by0 bx1 by1
      obtain ⟨⟨e0, e1, e2⟩, ⟨e3, e4, e5⟩, e6, e7, e8, e9⟩ := HS.out fV K3.out
      have L3 := Lib.hid e6
      have RC3 := Lib.hid e7
      have RT3 := Lib.hid e8
      have RP3 := Lib.hid e9
      obtain ⟨c0, c1⟩ := two_cells e0
      obtain ⟨t0, t1, t2, t3, t4⟩ := five_of e1
      obtain ⟨p0, p1, p2, p3, p4⟩ := five_of e2
      obtain ⟨x0, x1⟩ := two_cells e3
      obtain ⟨u0, u1, u2, u3, u4⟩ := five_of e4
      obtain ⟨v0, v1, v2, v3, v4⟩ := five_of e5
      clear e0 e1 e2 e3 e4 e5 e6 e7 e8 e9
      obtain ⟨bx0, by0⟩ := two_cells aBfv.out
      obtain ⟨bx1, by1⟩ := two_cells bBfv.out
      obtain ⟨bx2, by2⟩ := two_cells fB.out
      refine (dAddPc_any c p _ _ fV (HC.out _ L3.out) (HP.out _ L3.out)).mono ?_
      rintro e gW ⟨os, rfl, hO, hb⟩
      have gO := Lib.hid hO
      obtain ⟨f1, f2, rfl, f3, f4⟩ := hO
      obtain ⟨ga, gb, rfl, -⟩ := f3.form
      obtain ⟨gc, gd, rfl, -⟩ := f4.form
      have gH := Lib.hid hb
      have hbz := hb.size
      have aBg := Lib.hid (heap_of aBfv.out hb)
      have bBg := Lib.hid (heap_of bBfv.out hb)
      have fBg := Lib.hid (heap_of fB.out hb)
      have K4p := Lib.hid (K3.out.trans (hb.mono K3.out.size))
      have gz := K4p.out.size
      clear hb f3 f4 c0 c1 t0 t1 t2 t3 t4 p0 p1 p2 p3 p4 x0 x1 u0 u1 u2 u3 u4 v0 v1 v2 v3 v4 bx0 by0 bx1 by1 bx2 by2
      obtain ⟨⟨e0, e1, e2⟩, ⟨e3, e4, e5⟩, -⟩ := HS.out _ K4p.out
      obtain ⟨c0, c1⟩ := two_cells e0
      obtain ⟨t0, t1, t2, t3, t4⟩ := five_of e1
      obtain ⟨p0, p1, p2, p3, p4⟩ := five_of e2
      obtain ⟨x0, x1⟩ := two_cells e3
      obtain ⟨u0, u1, u2, u3, u4⟩ := five_of e4
      obtain ⟨v0, v1, v2, v3, v4⟩ := five_of e5
      clear e0 e1 e2 e3 e4 e5
      obtain ⟨bx0, by0⟩ := two_cells aBg.out
      obtain ⟨bx1, by1⟩ := two_cells bBg.out
      obtain ⟨bx2, by2⟩ := two_cells fBg.out
      have l0 : w.heap.size < gW.heap.size := by omega
      have l1 : w.heap.size + 1 < gW.heap.size := by omega
      have l2 : w.heap.size + 1 + 1 < gW.heap.size := by omega
      have l3 : w4.heap.size < gW.heap.size := by omega
      have l4 : w6.heap.size < gW.heap.size := by omega
      have l5 : w8.heap.size < gW.heap.size := by omega
      have l6 : aW.heap.size < gW.heap.size := by omega
      have l7 : bW.heap.size < gW.heap.size := by omega
      have l8 : fW.heap.size < gW.heap.size := by omega
      go_wp2_with fail
      generalize hV : gW.alloc (.cells #[.slice ga (addPC c p).tbs.length gb, .slice gc (addPC c p).prs.length gd] 25) = gV
      have hbv : Below gW.heap.size gW gV := by rw [← hV]; exact (Below.refl _ _).alloc (Nat.le_refl _) _
      have gB : Hid (gV.heap[gW.heap.size]? = some (.cells #[.slice ga (addPC c p).tbs.length gb, .slice gc (addPC c p).prs.length gd] 25 (0, 0))) := by
        show gV.heap[gW.heap.size]? = _
        rw [← hV]
        exact heap_alloc_new gW _
      have gQ := Lib.hid hbv
      have szg : gV.heap.size = gW.heap.size + 1 := by rw [← hV]; simp
      have aBgv := Lib.hid (heap_of aBg.out hbv)
      have bBgv := Lib.hid (heap_of bBg.out hbv)
      have fBgv := Lib.hid (heap_of fBg.out hbv)
      have K4 := Lib.hid (K4p.out.trans (hbv.mono K4p.out.size))
      clear hbv hV l0 l1 l2 l3 l4 l5 l6 l7 l8 c0 c1 t0 t1 t2 t3 t4 p0 p1 p2 p3 p4 x0 x1 u0 u1 u2 u3 u4 v0 v1 v2 v3 v4 bx0 by0 bx1 by1 bx2 by2
      obtain ⟨⟨e0, e1, e2⟩, ⟨e3, e4, e5⟩, e6, e7, e8, e9⟩ := HS.out gV K4.out
      have L4 := Lib.hid e6
      have RC4 := Lib.hid e7
      have RT4 := Lib.hid e8
      have RP4 := Lib.hid e9
      obtain ⟨c0, c1⟩ := two_cells e0
      obtain ⟨t0, t1, t2, t3, t4⟩ := five_of e1
      obtain ⟨p0, p1, p2, p3, p4⟩ := five_of e2
      obtain ⟨x0, x1⟩ := two_cells e3
      obtain ⟨u0, u1, u2, u3, u4⟩ := five_of e4
      obtain ⟨v0, v1, v2, v3, v4⟩ := five_of e5
      clear e0 e1 e2 e3 e4 e5 e6 e7 e8 e9
      obtain ⟨bx0, by0⟩ := two_cells aBgv.out
      obtain ⟨bx1, by1⟩ := two_cells bBgv.out
      obtain ⟨bx2, by2⟩ := two_cells fBgv.out
      obtain ⟨bx3, by3⟩ := two_cells gB.out
      have HA4 : Hid (∀ W, Below gV.heap.size gV W → CtR W (addTC c t) [.slice aa (addTC c t).tbs.length ab, .slice ac (addTC c t).prs.length ad] ∧ CtR W (addPC c p) [.slice ba (addPC c p).tbs.length bb, .slice bc (addPC c p).prs.length bd] ∧ CtR W (addTC c t) [.slice fa (addTC c t).tbs.length fb, .slice fc (addTC c t).prs.length fd] ∧ CtR W (addPC c p) [.slice ga (addPC c p).tbs.length gb, .slice gc (addPC c p).prs.length gd]) := by
        intro W h
        have h4 := below_two gQ.out h
        have h3 := below_two fQ.out (below_two gH.out h4)
        have h2 := below_two bQ.out (below_two fH.out h3)
        have h1 := below_two aQ.out (below_two bH.out h2)
        exact ⟨CtR.later h1 _ _ (CtO.reads _ _ aO.out), CtR.later h2 _ _ (CtO.reads _ _ bO.out), CtR.later h3 _ _ (CtO.reads _ _ fO.out), CtR.later h4 _ _ (CtO.reads _ _ gO.out)⟩
      refine (same_any (addTC c t) (addTC c t) _ _ gV (HA4.out _ (Below.refl _ _)).1 (HA4.out _ (Below.refl _ _)).2.2.1 ((addTC_Z c t).mono (by omega))).mono ?_
      rintro e w15 ⟨b, rfl, hiff, hb⟩
      obtain rfl : b = true := hiff.2 rfl
      have K5 := Lib.hid (K4.out.trans (hb.mono K4.out.size))
      have aBk5 := Lib.hid (heap_of aBgv.out hb)
      have bBk5 := Lib.hid (heap_of bBgv.out hb)
      have fBk5 := Lib.hid (heap_of fBgv.out hb)
      have gBk5 := Lib.hid (heap_of gB.out hb)
      have J5 := Lib.hid (hb)
      clear hb hiff c0 c1 t0 t1 t2 t3 t4 p0 p1 p2 p3 p4 x0 x1 u0 u1 u2 u3 u4 v0 v1 v2 v3 v4 bx0 by0 bx1 by1 bx2 by2 bx3 by3
      obtain ⟨⟨e0, e1, e2⟩, ⟨e3, e4, e5⟩, e6, e7, e8, e9⟩ := HS.out w15 K5.out
      have L5 := Lib.hid e6
      have RC5 := Lib.hid e7
      have RT5 := Lib.hid e8
      have RP5 := Lib.hid e9
      obtain ⟨c0, c1⟩ := two_cells e0
      obtain ⟨t0, t1, t2, t3, t4⟩ := five_of e1
      obtain ⟨p0, p1, p2, p3, p4⟩ := five_of e2
      obtain ⟨x0, x1⟩ := two_cells e3
      obtain ⟨u0, u1, u2, u3, u4⟩ := five_of e4
      obtain ⟨v0, v1, v2, v3, v4⟩ := five_of e5
      clear e0 e1 e2 e3 e4 e5 e6 e7 e8 e9
      obtain ⟨bx0, by0⟩ := two_cells aBk5.out
      obtain ⟨bx1, by1⟩ := two_cells bBk5.out
      obtain ⟨bx2, by2⟩ := two_cells fBk5.out
      obtain ⟨bx3, by3⟩ := two_cells gBk5.out
      go_wp2_with fail
      refine (same_any (addPC c p) (addPC c p) _ _ w15 (HA4.out _ J5.out).2.1 (HA4.out _ J5.out).2.2.2 ((addPC_Z c p).mono (by omega))).mono ?_
      rintro e w16 ⟨b, rfl, hiff, hb⟩
      obtain rfl : b = true := hiff.2 rfl
      have K6 := Lib.hid (K5.out.trans (hb.mono K5.out.size))
      have aBk6 := Lib.hid (heap_of aBk5.out hb)
      have bBk6 := Lib.hid (heap_of bBk5.out hb)
      have fBk6 := Lib.hid (heap_of fBk5.out hb)
      have gBk6 := Lib.hid (heap_of gBk5.out hb)
      have J6 := Lib.hid (below_two J5.out hb)
      clear hb hiff c0 c1 t0 t1 t2 t3 t4 p0 p1 p2 p3 p4 x0 x1 u0 u1 u2 u3 u4 v0 v1 v2 v3 v4 bx0 by0 bx1 by1 bx2 by2 bx3 by3
      obtain ⟨⟨e0, e1, e2⟩, ⟨e3, e4, e5⟩, e6, e7, e8, e9⟩ := HS.out w16 K6.out
      have L6 := Lib.hid e6
      have RC6 := Lib.hid e7
      have RT6 := Lib.hid e8
      have RP6 := Lib.hid e9
      obtain ⟨c0, c1⟩ := two_cells e0
      obtain ⟨t0, t1, t2, t3, t4⟩ := five_of e1
      obtain ⟨p0, p1, p2, p3, p4⟩ := five_of e2
      obtain ⟨x0, x1⟩ := two_cells e3
      obtain ⟨u0, u1, u2, u3, u4⟩ := five_of e4
      obtain ⟨v0, v1, v2, v3, v4⟩ := five_of e5
      clear e0 e1 e2 e3 e4 e5 e6 e7 e8 e9
      obtain ⟨bx0, by0⟩ := two_cells aBk6.out
      obtain ⟨bx1, by1⟩ := two_cells bBk6.out
      obtain ⟨bx2, by2⟩ := two_cells fBk6.out
      obtain ⟨bx3, by3⟩ := two_cells gBk6.out
      go_wp2_with fail
      have h16 : Below aW.heap.size aW w16 := below_two aQ.out (below_two bH.out (below_two bQ.out (below_two fH.out (below_two fQ.out (below_two gH.out (below_two gQ.out J6.out))))))
      have h26 : Below bW.heap.size bW w16 := below_two bQ.out (below_two fH.out (below_two fQ.out (below_two gH.out (below_two gQ.out J6.out))))
      have H26 := Lib.hid h26
      have za := aH.out.size
      have zb := bH.out.size
      have zc := h26.size
      refine (turned_any (addTC c t) _ aW w16 S.heap.size aO.out (fun k _ h => h16.block k h) h16.size (addTC_Z c t)).mono ?_
      rintro e w17 ⟨rfl, ho⟩
      have K7 : Hid (Below S.heap.size S w17) := K6.out.trans (ho.below K6.out.size (fun k hk h => by omega))
      have bB7 := Lib.hid ((ho.block _ (Array.getElem?_eq_some_iff.1 bBk6.out).1 (fun h => by omega)).trans bBk6.out)
      have HK7 : Hid (∀ k, aV.heap.size ≤ k → k < bW.heap.size → w17.heap[k]? = bW.heap[k]?) := fun k h1 h2 => (ho.block k (by omega) (fun h => by omega)).trans (H26.out.block k h2)
      have hs7 := ho.size
      clear ho h16 h26 c0 c1 t0 t1 t2 t3 t4 p0 p1 p2 p3 p4 x0 x1 u0 u1 u2 u3 u4 v0 v1 v2 v3 v4 bx0 by0 bx1 by1 bx2 by2 bx3 by3
      obtain ⟨⟨e0, e1, e2⟩, ⟨e3, e4, e5⟩, e6, e7, e8, e9⟩ := HS.out w17 K7.out
      have L7 := Lib.hid e6
      have RC7 := Lib.hid e7
      have RT7 := Lib.hid e8
      have RP7 := Lib.hid e9
      obtain ⟨c0, c1⟩ := two_cells e0
      obtain ⟨t0, t1, t2, t3, t4⟩ := five_of e1
      obtain ⟨p0, p1, p2, p3, p4⟩ := five_of e2
      obtain ⟨x0, x1⟩ := two_cells e3
      obtain ⟨u0, u1, u2, u3, u4⟩ := five_of e4
      obtain ⟨v0, v1, v2, v3, v4⟩ := five_of e5
      clear e0 e1 e2 e3 e4 e5 e6 e7 e8 e9
      obtain ⟨bx1, by1⟩ := two_cells bB7.out
      go_wp2_with fail
      refine (turned_any (addPC c p) _ bW w17 aV.heap.size bO.out HK7.out (by omega) (addPC_Z c p)).mono ?_
      rintro e w18 ⟨rfl, ho⟩
      have K8 : Hid (Below S.heap.size S w18) := K7.out.trans (ho.below K7.out.size (fun k hk h => by omega))
      clear ho bx1 by1 c0 c1 t0 t1 t2 t3 t4 p0 p1 p2 p3 p4 x0 x1 u0 u1 u2 u3 u4 v0 v1 v2 v3 v4
      obtain ⟨⟨e0, e1, e2⟩, ⟨e3, e4, e5⟩, e6, e7, e8, e9⟩ := HS.out w18 K8.out
      have L8 := Lib.hid e6
      have RC8 := Lib.hid e7
      have RT8 := Lib.hid e8
      have RP8 := Lib.hid e9
      obtain ⟨c0, c1⟩ := two_cells e0
      obtain ⟨t0, t1, t2, t3, t4⟩ := five_of e1
      obtain ⟨p0, p1, p2, p3, p4⟩ := five_of e2
      obtain ⟨x0, x1⟩ := two_cells e3
      obtain ⟨u0, u1, u2, u3, u4⟩ := five_of e4
      obtain ⟨v0, v1, v2, v3, v4⟩ := five_of e5
      clear e0 e1 e2 e3 e4 e5 e6 e7 e8 e9
      go_wp2_with fail
      refine (same_any c c [.slice q1 c.tbs.length m1, .slice q2 c.prs.length m2] _ w18 RC8.out (HC.out _ L8.out) (HS1.out.mono (by omega))).mono ?_
      rintro e w19 ⟨b, rfl, hiff, hb⟩
      obtain rfl : b = true := hiff.2 rfl
      have K9 := Lib.hid (K8.out.trans (hb.mono K8.out.size))
      clear hb hiff c0 c1 t0 t1 t2 t3 t4 p0 p1 p2 p3 p4 x0 x1 u0 u1 u2 u3 u4 v0 v1 v2 v3 v4
      obtain ⟨⟨e0, e1, e2⟩, ⟨e3, e4, e5⟩, e6, e7, e8, e9⟩ := HS.out w19 K9.out
      have L9 := Lib.hid e6
      have RC9 := Lib.hid e7
      have RT9 := Lib.hid e8
      have RP9 := Lib.hid e9
      obtain ⟨c0, c1⟩ := two_cells e0
      obtain ⟨t0, t1, t2, t3, t4⟩ := five_of e1
      obtain ⟨p0, p1, p2, p3, p4⟩ := five_of e2
      obtain ⟨x0, x1⟩ := two_cells e3
      obtain ⟨u0, u1, u2, u3, u4⟩ := five_of e4
      obtain ⟨v0, v1, v2, v3, v4⟩ := five_of e5
      clear e0 e1 e2 e3 e4 e5 e6 e7 e8 e9
      go_wp2_with fail
      refine (sameTable_any t t [.string t.nm, .slice q3 t.cols.length m3, .slice q4 t.key.length m4, .int .i64 t.part, .slice q5 t.ixs.length m5] _ w19 RT9.out (HT.out _ L9.out) (by have := HS2.out.cols; omega) (by have := HS2.out.key; omega) (by have := HS2.out.ixs; omega) (fun x hx => by have := (HS2.out.ix x hx).2; omega)).mono ?_
      rintro e w20 ⟨b, rfl, hiff, hb⟩
      obtain rfl : b = true := hiff.2 rfl
      have K10 := Lib.hid (K9.out.trans (hb.mono K9.out.size))
      clear hb hiff c0 c1 t0 t1 t2 t3 t4 p0 p1 p2 p3 p4 x0 x1 u0 u1 u2 u3 u4 v0 v1 v2 v3 v4
      obtain ⟨⟨e0, e1, e2⟩, ⟨e3, e4, e5⟩, e6, e7, e8, e9⟩ := HS.out w20 K10.out
      have L10 := Lib.hid e6
      have RC10 := Lib.hid e7
      have RT10 := Lib.hid e8
      have RP10 := Lib.hid e9
      obtain ⟨c0, c1⟩ := two_cells e0
      obtain ⟨t0, t1, t2, t3, t4⟩ := five_of e1
      obtain ⟨p0, p1, p2, p3, p4⟩ := five_of e2
      obtain ⟨x0, x1⟩ := two_cells e3
      obtain ⟨u0, u1, u2, u3, u4⟩ := five_of e4
      obtain ⟨v0, v1, v2, v3, v4⟩ := five_of e5
      clear e0 e1 e2 e3 e4 e5 e6 e7 e8 e9
      go_wp2_with fail
      refine (sameProc_any p p [.string p.nm, .slice q6 p.prms.length m6, .slice q7 p.body.length m7, .int .i64 p.rows, .int .i64 p.bytes] _ w20 RP10.out (HP.out _ L10.out) (by have := HS3.out.prms; omega) (by have := HS3.out.body; omega)).mono ?_
      rintro e w21 ⟨b, rfl, hiff, hb⟩
      obtain rfl : b = true := hiff.2 rfl
      have LX := Lib.hid (below_two L10.out hb)
      clear hb hiff c0 c1 t0 t1 t2 t3 t4 p0 p1 p2 p3 p4 x0 x1 u0 u1 u2 u3 u4 v0 v1 v2 v3 v4
      go_wp2
      go_ret
      exact ⟨ret_bool (by simp), LX.out⟩
    · have hMi : (2147483647 : Int) < (M : Int) := by omega
      go_wp2
      go_ret
      exact ⟨rfl, W2.out⟩
  · have hNi : (2147483647 : Int) < (N : Int) := by omega
    go_wp2
    go_ret
    exact ⟨rfl, W2.out⟩
end Go.Proofs.YtkgkkcefnonejaaGreat
