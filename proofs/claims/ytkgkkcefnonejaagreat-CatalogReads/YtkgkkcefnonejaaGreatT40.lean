/- Walks of layer 8: how many parts and bytes a catalog has. -/
import Derived.Test.YtkgkkcefnonejaaGreatT10
namespace Go.Proofs.YtkgkkcefnonejaaGreat
open Go.RowKit

/-- No part of a table, of a procedure, of a catalog has more than K. -/
structure TbZ (K : Nat) (t : Tb) : Prop where
  nm : t.nm.size ≤ K
  cols : t.cols.length ≤ K
  key : t.key.length ≤ K
  ixs : t.ixs.length ≤ K
  col : ∀ c ∈ t.cols, c.nm.size ≤ K
  ix : ∀ x ∈ t.ixs, x.nm.size ≤ K ∧ x.cols.length ≤ K
structure PcZ (K : Nat) (p : Pc) : Prop where
  nm : p.nm.size ≤ K
  prms : p.prms.length ≤ K
  body : p.body.length ≤ K
  prm : ∀ c ∈ p.prms, c.nm.size ≤ K
  src : ∀ s ∈ p.body, s.size ≤ K
structure CtZ (K : Nat) (c : Ct) : Prop where
  tbs : c.tbs.length ≤ K
  prs : c.prs.length ≤ K
  tb : ∀ t ∈ c.tbs, TbZ K t
  pc : ∀ p ∈ c.prs, PcZ K p
theorem upto_mem {α : Type} {l : List α} {P : α → Prop} (h : ∀ j (g : j < l.length), P l[j]) : ∀ x ∈ l, P x := fun x hx => by
  obtain ⟨j, hj, rfl⟩ := List.getElem_of_mem hx
  exact h j hj
theorem upto_more {α : Type} {l : List α} {P : α → Prop} {k : Nat} (h : ∀ j (g : j < l.length), j < k → P l[j]) (hk : k < l.length) (e : P l[k]) : ∀ j (g : j < l.length), j < k + 1 → P l[j] := fun j g hj => by
  by_cases h' : j = k
  · subst h'; exact e
  · exact h j g (by omega)

set_option maxHeartbeats 32000000 in
set_option maxRecDepth 100000 in
theorem weighs_any (c : Ct) (vs : List Value) (w : World) (hR : CtR w c vs) (hZ : CtZ 140737488355328 c) :
    Calls Tryz.prog 9 #[.agg vs.toArray] w fun e w' => ∃ N : Nat, e = .returned (.int .i64 (N : Int)) ∧ (N ≤ 2147483647 → CtZ 2147483647 c) ∧ Below w.heap.size w w' := by
  obtain ⟨pt, ct, pp, cp, rfl, r1, r2⟩ := hR
  have HR1 := Lib.hid r1
  have HR2 := Lib.hid r2
  have z1 := hZ.tbs
  have z2 := hZ.prs
  have HZ := Lib.hid hZ
  clear r1 r2 hZ
  obtain ⟨n0, hn0⟩ : ∃ n0, c.tbs.length + c.prs.length = n0 := ⟨_, rfl⟩
  have hn0i : (c.tbs.length : Int) + (c.prs.length : Int) = (n0 : Int) := by omega
  have HN0 := Lib.hid hn0
  have hn0b : n0 ≤ 1000000000000000 := by omega
  clear hn0
  go_enter Tryz.func9, Tryz.ntmps9
  go_wp2
  go_loopw [3, 4] (fun v i wr => ∃ k N : Nat, k ≤ c.tbs.length ∧ i = .int .i64 (k : Int) ∧ v = .int .i64 (N : Int) ∧ N ≤ 1000000000000000 ∧ (N ≤ 2147483647 → (c.tbs.length ≤ 2147483647 ∧ c.prs.length ≤ 2147483647) ∧ ∀ j (g : j < c.tbs.length), j < k → TbZ 2147483647 c.tbs[j]) ∧ Below (w.alloc (.cells #[.slice pt c.tbs.length ct, .slice pp c.prs.length cp] 25)).heap.size (w.alloc (.cells #[.slice pt c.tbs.length ct, .slice pp c.prs.length cp] 25)) wr) (fun _ i _ => c.tbs.length - (intOf i).toNat)
  case atStart => exact ⟨0, _, Nat.zero_le _, rfl, rfl, by omega, fun h => ⟨by have := HN0.out; omega, fun j _ g => absurd g (Nat.not_lt_zero _)⟩, Below.refl _ _⟩
  case round =>
    obtain ⟨iA, MA, hiA, rfl, rfl, hMbA, hpreA, hbwA⟩ := hrel
    obtain ⟨VA, hV⟩ : ∃ V, V = wr := ⟨_, rfl⟩
    subst hV
    have HPRA := Lib.hid hpreA
    have HBWA := Lib.hid hbwA
    have hswA := hbwA.size
    simp at hswA
    have y0 := cell_later hbwA (show (w.alloc (.cells #[.slice pt c.tbs.length ct, .slice pp c.prs.length cp] 25)).cell? ⟨w.heap.size, 0, none⟩ = some (.slice pt c.tbs.length ct) by simp)
    have y1 := cell_later hbwA (show (w.alloc (.cells #[.slice pt c.tbs.length ct, .slice pp c.prs.length cp] 25)).cell? ⟨w.heap.size, 1, none⟩ = some (.slice pp c.prs.length cp) by simp)
    clear hpreA hbwA
    by_cases hloA : iA < c.tbs.length
    · have hloiA : (iA : Int) < (c.tbs.length : Int) := by omega
      by_cases hMA : MA ≤ 2147483647
      · have hMiA : (MA : Int) ≤ 2147483647 := by omega
        have HBVA : Hid (Below w.heap.size w VA) := (((Below.refl _ _).alloc (Nat.le_refl _) _)).trans (HBWA.out.mono (by simp))
        obtain ⟨bA, offA, u0, u1, u2, u3, u4, rfl, hR, e0, e1, e2, e3, e4⟩ := HR1.out.at5 hloA
        obtain ⟨pc, cc, pk, ck, px, cx, hR, r0, r1, r2⟩ := hR
        simp only [List.cons.injEq, and_true] at hR
        obtain ⟨rfl, rfl, rfl, rfl, rfl⟩ := hR
        have HRr0 := Lib.hid r0
        have HRr1 := Lib.hid r1
        have HRr2 := Lib.hid r2
        have g0 := cell_later HBVA.out e0
        have g1 := cell_later HBVA.out e1
        have g2 := cell_later HBVA.out e2
        have g3 := cell_later HBVA.out e3
        have g4 := cell_later HBVA.out e4
        have hsz := HZ.out.tb _ (List.getElem_mem hloA)
        have HTZ := Lib.hid hsz
        have y2 := hsz.nm
        have y3 := hsz.cols
        have y4 := hsz.key
        have y5 := hsz.ixs
        clear e0 e1 e2 e3 e4 r0 r1 r2
        obtain ⟨n1, hn1⟩ : ∃ n1, MA + c.tbs[iA].nm.size + c.tbs[iA].cols.length + c.tbs[iA].key.length + c.tbs[iA].ixs.length = n1 := ⟨_, rfl⟩
        have hn1i : (MA : Int) + (c.tbs[iA].nm.size : Int) + (c.tbs[iA].cols.length : Int) + (c.tbs[iA].key.length : Int) + (c.tbs[iA].ixs.length : Int) = (n1 : Int) := by omega
        have HN1 := Lib.hid hn1
        have hn1b : n1 ≤ 1000000000000000 := by omega
        clear hn1
        go_wp2
        go_loopw [3, 6] (fun v i wr => ∃ k N : Nat, k ≤ c.tbs[iA].cols.length ∧ i = .int .i64 (k : Int) ∧ v = .int .i64 (N : Int) ∧ N ≤ 1000000000000000 ∧ n1 ≤ N ∧ (N ≤ 2147483647 → ∀ j (g : j < c.tbs[iA].cols.length), j < k → c.tbs[iA].cols[j].nm.size ≤ 2147483647) ∧ Below (VA.alloc (.cells #[.string c.tbs[iA].nm, .slice pc c.tbs[iA].cols.length cc, .slice pk c.tbs[iA].key.length ck, .int .i64 c.tbs[iA].part, .slice px c.tbs[iA].ixs.length cx] 46)).heap.size (VA.alloc (.cells #[.string c.tbs[iA].nm, .slice pc c.tbs[iA].cols.length cc, .slice pk c.tbs[iA].key.length ck, .int .i64 c.tbs[iA].part, .slice px c.tbs[iA].ixs.length cx] 46)) wr) (fun _ i _ => c.tbs[iA].cols.length - (intOf i).toNat)
        case atStart => exact ⟨0, n1, Nat.zero_le _, rfl, rfl, hn1b, Nat.le_refl _, fun _ j _ g => absurd g (Nat.not_lt_zero _), Below.refl _ _⟩
        case round =>
          obtain ⟨ka, Na, hka, rfl, rfl, hNba, hNpa, halla, hwa⟩ := hrel
          obtain ⟨Ua, hU⟩ : ∃ U, U = wr := ⟨_, rfl⟩
          subst hU
          have HWa := Lib.hid hwa
          have hwsa := hwa.size
          simp at hwsa
          have ta0 := cell_later hwa (show (VA.alloc (.cells #[.string c.tbs[iA].nm, .slice pc c.tbs[iA].cols.length cc, .slice pk c.tbs[iA].key.length ck, .int .i64 c.tbs[iA].part, .slice px c.tbs[iA].ixs.length cx] 46)).cell? ⟨VA.heap.size, 0, none⟩ = some (.string c.tbs[iA].nm) by simp)
          have ta1 := cell_later hwa (show (VA.alloc (.cells #[.string c.tbs[iA].nm, .slice pc c.tbs[iA].cols.length cc, .slice pk c.tbs[iA].key.length ck, .int .i64 c.tbs[iA].part, .slice px c.tbs[iA].ixs.length cx] 46)).cell? ⟨VA.heap.size, 1, none⟩ = some (.slice pc c.tbs[iA].cols.length cc) by simp)
          have ta2 := cell_later hwa (show (VA.alloc (.cells #[.string c.tbs[iA].nm, .slice pc c.tbs[iA].cols.length cc, .slice pk c.tbs[iA].key.length ck, .int .i64 c.tbs[iA].part, .slice px c.tbs[iA].ixs.length cx] 46)).cell? ⟨VA.heap.size, 2, none⟩ = some (.slice pk c.tbs[iA].key.length ck) by simp)
          have ta3 := cell_later hwa (show (VA.alloc (.cells #[.string c.tbs[iA].nm, .slice pc c.tbs[iA].cols.length cc, .slice pk c.tbs[iA].key.length ck, .int .i64 c.tbs[iA].part, .slice px c.tbs[iA].ixs.length cx] 46)).cell? ⟨VA.heap.size, 3, none⟩ = some (.int .i64 c.tbs[iA].part) by simp)
          have ta4 := cell_later hwa (show (VA.alloc (.cells #[.string c.tbs[iA].nm, .slice pc c.tbs[iA].cols.length cc, .slice pk c.tbs[iA].key.length ck, .int .i64 c.tbs[iA].part, .slice px c.tbs[iA].ixs.length cx] 46)).cell? ⟨VA.heap.size, 4, none⟩ = some (.slice px c.tbs[iA].ixs.length cx) by simp)
          clear hwa
          have HAa := Lib.hid halla
          clear halla
          by_cases hlta : ka < c.tbs[iA].cols.length
          · have hltia : (ka : Int) < (c.tbs[iA].cols.length : Int) := by omega
            by_cases hNa : Na ≤ 2147483647
            · have hNia : (Na : Int) ≤ 2147483647 := by omega
              obtain ⟨ba, offa, u0, u1, u2, rfl, hR, e0, e1, e2⟩ := HRr0.out.at3 hlta
              simp only [ColR] at hR
              simp only [List.cons.injEq, and_true] at hR
              obtain ⟨rfl, rfl, rfl⟩ := hR
              have g0 := cell_later HWa.out (cell_later ((Below.refl _ _).alloc (Nat.le_refl _) _) (cell_later HBVA.out e0))
              have g1 := cell_later HWa.out (cell_later ((Below.refl _ _).alloc (Nat.le_refl _) _) (cell_later HBVA.out e1))
              have g2 := cell_later HWa.out (cell_later ((Below.refl _ _).alloc (Nat.le_refl _) _) (cell_later HBVA.out e2))
              have hbla := cell_lt g0
              clear e0 e1 e2
              have hsza := HTZ.out.col _ (List.getElem_mem hlta)
              have HA2 : Hid (Na + c.tbs[iA].cols[ka].nm.size ≤ 2147483647 → ∀ j (g : j < c.tbs[iA].cols.length), j < ka + 1 → c.tbs[iA].cols[j].nm.size ≤ 2147483647) := fun h => upto_more (P := fun y => y.nm.size ≤ 2147483647) (HAa.out (by omega)) hlta (by show c.tbs[iA].cols[ka].nm.size ≤ 2147483647; omega)
              go_wp2
              go_roundw
              case rel => exact ⟨ka + 1, Na + c.tbs[iA].cols[ka].nm.size, by omega, by go_num, by go_num, by omega, by omega, HA2.out, by have hx := HWa.out; (repeat (first | exact Below.refl _ _ | assumption | refine Below.drew ?_ | refine below_drewN ?_ _ | refine Below.alloc ?_ (by first | omega | (simp; done) | (simp; omega)) _ | refine Below.setCell ?_ (by first | omega | (simp; done) | (simp; omega)) _ | refine Below.trans ?_ (Below.mono (by assumption) (by first | omega | (simp; done) | (simp; omega)))))⟩
              case measure => simp [intOf]; omega
            · have hNia : ¬ (Na : Int) ≤ 2147483647 := by omega
              have HPa : Hid (Na ≤ 2147483647 → ∀ x ∈ c.tbs[iA].cols, x.nm.size ≤ 2147483647) := fun h => absurd h hNa
              clear HAa
              go_wp2
              go_loopw [3, 7] (fun v i wr => ∃ k N : Nat, k ≤ c.tbs[iA].ixs.length ∧ i = .int .i64 (k : Int) ∧ v = .int .i64 (N : Int) ∧ N ≤ 1000000000000000 ∧ Na ≤ N ∧ (N ≤ 2147483647 → ∀ j (g : j < c.tbs[iA].ixs.length), j < k → c.tbs[iA].ixs[j].nm.size ≤ 2147483647 ∧ c.tbs[iA].ixs[j].cols.length ≤ 2147483647) ∧ Below (VA.alloc (.cells #[.string c.tbs[iA].nm, .slice pc c.tbs[iA].cols.length cc, .slice pk c.tbs[iA].key.length ck, .int .i64 c.tbs[iA].part, .slice px c.tbs[iA].ixs.length cx] 46)).heap.size (VA.alloc (.cells #[.string c.tbs[iA].nm, .slice pc c.tbs[iA].cols.length cc, .slice pk c.tbs[iA].key.length ck, .int .i64 c.tbs[iA].part, .slice px c.tbs[iA].ixs.length cx] 46)) wr) (fun _ i _ => c.tbs[iA].ixs.length - (intOf i).toNat)
              case atStart => exact ⟨0, Na, Nat.zero_le _, rfl, rfl, hNba, Nat.le_refl _, fun _ j _ g => absurd g (Nat.not_lt_zero _), HWa.out⟩
              case round =>
                obtain ⟨kb, Nb, hkb, rfl, rfl, hNbb, hNpb, hallb, hwb⟩ := hrel
                obtain ⟨Ub, hU⟩ : ∃ U, U = wr := ⟨_, rfl⟩
                subst hU
                have HWb := Lib.hid hwb
                have hwsb := hwb.size
                simp at hwsb
                have tb0 := cell_later hwb (show (VA.alloc (.cells #[.string c.tbs[iA].nm, .slice pc c.tbs[iA].cols.length cc, .slice pk c.tbs[iA].key.length ck, .int .i64 c.tbs[iA].part, .slice px c.tbs[iA].ixs.length cx] 46)).cell? ⟨VA.heap.size, 0, none⟩ = some (.string c.tbs[iA].nm) by simp)
                have tb1 := cell_later hwb (show (VA.alloc (.cells #[.string c.tbs[iA].nm, .slice pc c.tbs[iA].cols.length cc, .slice pk c.tbs[iA].key.length ck, .int .i64 c.tbs[iA].part, .slice px c.tbs[iA].ixs.length cx] 46)).cell? ⟨VA.heap.size, 1, none⟩ = some (.slice pc c.tbs[iA].cols.length cc) by simp)
                have tb2 := cell_later hwb (show (VA.alloc (.cells #[.string c.tbs[iA].nm, .slice pc c.tbs[iA].cols.length cc, .slice pk c.tbs[iA].key.length ck, .int .i64 c.tbs[iA].part, .slice px c.tbs[iA].ixs.length cx] 46)).cell? ⟨VA.heap.size, 2, none⟩ = some (.slice pk c.tbs[iA].key.length ck) by simp)
                have tb3 := cell_later hwb (show (VA.alloc (.cells #[.string c.tbs[iA].nm, .slice pc c.tbs[iA].cols.length cc, .slice pk c.tbs[iA].key.length ck, .int .i64 c.tbs[iA].part, .slice px c.tbs[iA].ixs.length cx] 46)).cell? ⟨VA.heap.size, 3, none⟩ = some (.int .i64 c.tbs[iA].part) by simp)
                have tb4 := cell_later hwb (show (VA.alloc (.cells #[.string c.tbs[iA].nm, .slice pc c.tbs[iA].cols.length cc, .slice pk c.tbs[iA].key.length ck, .int .i64 c.tbs[iA].part, .slice px c.tbs[iA].ixs.length cx] 46)).cell? ⟨VA.heap.size, 4, none⟩ = some (.slice px c.tbs[iA].ixs.length cx) by simp)
                clear hwb
                have HAb := Lib.hid hallb
                clear hallb
                by_cases hltb : kb < c.tbs[iA].ixs.length
                · have hltib : (kb : Int) < (c.tbs[iA].ixs.length : Int) := by omega
                  by_cases hNb : Nb ≤ 2147483647
                  · have hNib : (Nb : Int) ≤ 2147483647 := by omega
                    exfalso
                    omega
                  · have hNib : ¬ (Nb : Int) ≤ 2147483647 := by omega
                    have HPb : Hid (Nb ≤ 2147483647 → ∀ x ∈ c.tbs[iA].ixs, x.nm.size ≤ 2147483647 ∧ x.cols.length ≤ 2147483647) := fun h => absurd h hNb
                    clear HAb
                    go_wp2
                    go_roundw
                    case rel => exact ⟨iA + 1, Nb, by omega, by go_num, rfl, by omega, fun h => ⟨(HPRA.out (by have := HN1.out; omega)).1, upto_more (P := TbZ 2147483647) (HPRA.out (by have := HN1.out; omega)).2 hloA (by have := HN1.out; exact ⟨by omega, by omega, by omega, by omega, HPa.out (by omega), HPb.out h⟩)⟩, (HBWA.out.alloc HBWA.out.size _).trans (HWb.out.mono (by simp; omega))⟩
                    case measure => simp [intOf]; omega
                · have hltib : ¬ (kb : Int) < (c.tbs[iA].ixs.length : Int) := by omega
                  have HPb : Hid (Nb ≤ 2147483647 → ∀ x ∈ c.tbs[iA].ixs, x.nm.size ≤ 2147483647 ∧ x.cols.length ≤ 2147483647) := fun h => upto_mem (P := fun x => x.nm.size ≤ 2147483647 ∧ x.cols.length ≤ 2147483647) (fun j g => HAb.out h j g (by omega))
                  clear HAb
                  go_wp2
                  go_roundw
                  case rel => exact ⟨iA + 1, Nb, by omega, by go_num, rfl, by omega, fun h => ⟨(HPRA.out (by have := HN1.out; omega)).1, upto_more (P := TbZ 2147483647) (HPRA.out (by have := HN1.out; omega)).2 hloA (by have := HN1.out; exact ⟨by omega, by omega, by omega, by omega, HPa.out (by omega), HPb.out h⟩)⟩, (HBWA.out.alloc HBWA.out.size _).trans (HWb.out.mono (by simp; omega))⟩
                  case measure => simp [intOf]; omega
          · have hltia : ¬ (ka : Int) < (c.tbs[iA].cols.length : Int) := by omega
            have HPa : Hid (Na ≤ 2147483647 → ∀ x ∈ c.tbs[iA].cols, x.nm.size ≤ 2147483647) := fun h => upto_mem (P := fun x => x.nm.size ≤ 2147483647) (fun j g => HAa.out h j g (by omega))
            clear HAa
            go_wp2
            go_loopw [3, 7] (fun v i wr => ∃ k N : Nat, k ≤ c.tbs[iA].ixs.length ∧ i = .int .i64 (k : Int) ∧ v = .int .i64 (N : Int) ∧ N ≤ 1000000000000000 ∧ Na ≤ N ∧ (N ≤ 2147483647 → ∀ j (g : j < c.tbs[iA].ixs.length), j < k → c.tbs[iA].ixs[j].nm.size ≤ 2147483647 ∧ c.tbs[iA].ixs[j].cols.length ≤ 2147483647) ∧ Below (VA.alloc (.cells #[.string c.tbs[iA].nm, .slice pc c.tbs[iA].cols.length cc, .slice pk c.tbs[iA].key.length ck, .int .i64 c.tbs[iA].part, .slice px c.tbs[iA].ixs.length cx] 46)).heap.size (VA.alloc (.cells #[.string c.tbs[iA].nm, .slice pc c.tbs[iA].cols.length cc, .slice pk c.tbs[iA].key.length ck, .int .i64 c.tbs[iA].part, .slice px c.tbs[iA].ixs.length cx] 46)) wr) (fun _ i _ => c.tbs[iA].ixs.length - (intOf i).toNat)
            case atStart => exact ⟨0, Na, Nat.zero_le _, rfl, rfl, hNba, Nat.le_refl _, fun _ j _ g => absurd g (Nat.not_lt_zero _), HWa.out⟩
            case round =>
              obtain ⟨kb, Nb, hkb, rfl, rfl, hNbb, hNpb, hallb, hwb⟩ := hrel
              obtain ⟨Ub, hU⟩ : ∃ U, U = wr := ⟨_, rfl⟩
              subst hU
              have HWb := Lib.hid hwb
              have hwsb := hwb.size
              simp at hwsb
              have tb0 := cell_later hwb (show (VA.alloc (.cells #[.string c.tbs[iA].nm, .slice pc c.tbs[iA].cols.length cc, .slice pk c.tbs[iA].key.length ck, .int .i64 c.tbs[iA].part, .slice px c.tbs[iA].ixs.length cx] 46)).cell? ⟨VA.heap.size, 0, none⟩ = some (.string c.tbs[iA].nm) by simp)
              have tb1 := cell_later hwb (show (VA.alloc (.cells #[.string c.tbs[iA].nm, .slice pc c.tbs[iA].cols.length cc, .slice pk c.tbs[iA].key.length ck, .int .i64 c.tbs[iA].part, .slice px c.tbs[iA].ixs.length cx] 46)).cell? ⟨VA.heap.size, 1, none⟩ = some (.slice pc c.tbs[iA].cols.length cc) by simp)
              have tb2 := cell_later hwb (show (VA.alloc (.cells #[.string c.tbs[iA].nm, .slice pc c.tbs[iA].cols.length cc, .slice pk c.tbs[iA].key.length ck, .int .i64 c.tbs[iA].part, .slice px c.tbs[iA].ixs.length cx] 46)).cell? ⟨VA.heap.size, 2, none⟩ = some (.slice pk c.tbs[iA].key.length ck) by simp)
              have tb3 := cell_later hwb (show (VA.alloc (.cells #[.string c.tbs[iA].nm, .slice pc c.tbs[iA].cols.length cc, .slice pk c.tbs[iA].key.length ck, .int .i64 c.tbs[iA].part, .slice px c.tbs[iA].ixs.length cx] 46)).cell? ⟨VA.heap.size, 3, none⟩ = some (.int .i64 c.tbs[iA].part) by simp)
              have tb4 := cell_later hwb (show (VA.alloc (.cells #[.string c.tbs[iA].nm, .slice pc c.tbs[iA].cols.length cc, .slice pk c.tbs[iA].key.length ck, .int .i64 c.tbs[iA].part, .slice px c.tbs[iA].ixs.length cx] 46)).cell? ⟨VA.heap.size, 4, none⟩ = some (.slice px c.tbs[iA].ixs.length cx) by simp)
              clear hwb
              have HAb := Lib.hid hallb
              clear hallb
              by_cases hltb : kb < c.tbs[iA].ixs.length
              · have hltib : (kb : Int) < (c.tbs[iA].ixs.length : Int) := by omega
                by_cases hNb : Nb ≤ 2147483647
                · have hNib : (Nb : Int) ≤ 2147483647 := by omega
                  obtain ⟨bb, offb, u0, u1, u2, rfl, hR, e0, e1, e2⟩ := HRr2.out.at3 hltb
                  obtain ⟨p3, c3, hR, _⟩ := hR
                  simp only [List.cons.injEq, and_true] at hR
                  obtain ⟨rfl, rfl, rfl⟩ := hR
                  have g0 := cell_later HWb.out (cell_later ((Below.refl _ _).alloc (Nat.le_refl _) _) (cell_later HBVA.out e0))
                  have g1 := cell_later HWb.out (cell_later ((Below.refl _ _).alloc (Nat.le_refl _) _) (cell_later HBVA.out e1))
                  have g2 := cell_later HWb.out (cell_later ((Below.refl _ _).alloc (Nat.le_refl _) _) (cell_later HBVA.out e2))
                  have hblb := cell_lt g0
                  clear e0 e1 e2
                  have hszb := HTZ.out.ix _ (List.getElem_mem hltb)
                  have HA2 : Hid (Nb + c.tbs[iA].ixs[kb].nm.size + c.tbs[iA].ixs[kb].cols.length ≤ 2147483647 → ∀ j (g : j < c.tbs[iA].ixs.length), j < kb + 1 → c.tbs[iA].ixs[j].nm.size ≤ 2147483647 ∧ c.tbs[iA].ixs[j].cols.length ≤ 2147483647) := fun h => upto_more (P := fun y => y.nm.size ≤ 2147483647 ∧ y.cols.length ≤ 2147483647) (HAb.out (by omega)) hltb (by show c.tbs[iA].ixs[kb].nm.size ≤ 2147483647 ∧ c.tbs[iA].ixs[kb].cols.length ≤ 2147483647; omega)
                  go_wp2
                  go_quiet (fail)
                  go_wp2
                  go_roundw
                  case rel => exact ⟨kb + 1, Nb + c.tbs[iA].ixs[kb].nm.size + c.tbs[iA].ixs[kb].cols.length, by omega, by go_num, by go_num, by omega, by omega, HA2.out, by have hx := HWb.out; (repeat (first | exact Below.refl _ _ | assumption | refine Below.drew ?_ | refine below_drewN ?_ _ | refine Below.alloc ?_ (by first | omega | (simp; done) | (simp; omega)) _ | refine Below.setCell ?_ (by first | omega | (simp; done) | (simp; omega)) _ | refine Below.trans ?_ (Below.mono (by assumption) (by first | omega | (simp; done) | (simp; omega)))))⟩
                  case measure => simp [intOf]; omega
                · have hNib : ¬ (Nb : Int) ≤ 2147483647 := by omega
                  have HPb : Hid (Nb ≤ 2147483647 → ∀ x ∈ c.tbs[iA].ixs, x.nm.size ≤ 2147483647 ∧ x.cols.length ≤ 2147483647) := fun h => absurd h hNb
                  clear HAb
                  go_wp2
                  go_roundw
                  case rel => exact ⟨iA + 1, Nb, by omega, by go_num, rfl, by omega, fun h => ⟨(HPRA.out (by have := HN1.out; omega)).1, upto_more (P := TbZ 2147483647) (HPRA.out (by have := HN1.out; omega)).2 hloA (by have := HN1.out; exact ⟨by omega, by omega, by omega, by omega, HPa.out (by omega), HPb.out h⟩)⟩, (HBWA.out.alloc HBWA.out.size _).trans (HWb.out.mono (by simp; omega))⟩
                  case measure => simp [intOf]; omega
              · have hltib : ¬ (kb : Int) < (c.tbs[iA].ixs.length : Int) := by omega
                have HPb : Hid (Nb ≤ 2147483647 → ∀ x ∈ c.tbs[iA].ixs, x.nm.size ≤ 2147483647 ∧ x.cols.length ≤ 2147483647) := fun h => upto_mem (P := fun x => x.nm.size ≤ 2147483647 ∧ x.cols.length ≤ 2147483647) (fun j g => HAb.out h j g (by omega))
                clear HAb
                go_wp2
                go_roundw
                case rel => exact ⟨iA + 1, Nb, by omega, by go_num, rfl, by omega, fun h => ⟨(HPRA.out (by have := HN1.out; omega)).1, upto_more (P := TbZ 2147483647) (HPRA.out (by have := HN1.out; omega)).2 hloA (by have := HN1.out; exact ⟨by omega, by omega, by omega, by omega, HPa.out (by omega), HPb.out h⟩)⟩, (HBWA.out.alloc HBWA.out.size _).trans (HWb.out.mono (by simp; omega))⟩
                case measure => simp [intOf]; omega
      · have hMiA : ¬ (MA : Int) ≤ 2147483647 := by omega
        have HFA : Hid (MA ≤ 2147483647 → (c.tbs.length ≤ 2147483647 ∧ c.prs.length ≤ 2147483647) ∧ ∀ x ∈ c.tbs, TbZ 2147483647 x) := fun h => absurd h hMA
        clear HPRA
        go_wp2
        go_loopw [3, 8] (fun v i wr => ∃ k N : Nat, k ≤ c.prs.length ∧ i = .int .i64 (k : Int) ∧ v = .int .i64 (N : Int) ∧ N ≤ 1000000000000000 ∧ (N ≤ 2147483647 → ((c.tbs.length ≤ 2147483647 ∧ c.prs.length ≤ 2147483647) ∧ ∀ t ∈ c.tbs, TbZ 2147483647 t) ∧ ∀ j (g : j < c.prs.length), j < k → PcZ 2147483647 c.prs[j]) ∧ Below (w.alloc (.cells #[.slice pt c.tbs.length ct, .slice pp c.prs.length cp] 25)).heap.size (w.alloc (.cells #[.slice pt c.tbs.length ct, .slice pp c.prs.length cp] 25)) wr) (fun _ i _ => c.prs.length - (intOf i).toNat)
        case atStart => exact ⟨0, _, Nat.zero_le _, rfl, rfl, by omega, fun h => ⟨⟨(HFA.out h).1, (HFA.out h).2⟩, fun j _ g => absurd g (Nat.not_lt_zero _)⟩, HBWA.out⟩
        case round =>
          obtain ⟨iB, MB, hiB, rfl, rfl, hMbB, hpreB, hbwB⟩ := hrel
          obtain ⟨VB, hV⟩ : ∃ V, V = wr := ⟨_, rfl⟩
          subst hV
          have HPRB := Lib.hid hpreB
          have HBWB := Lib.hid hbwB
          have hswB := hbwB.size
          simp at hswB
          have y0 := cell_later hbwB (show (w.alloc (.cells #[.slice pt c.tbs.length ct, .slice pp c.prs.length cp] 25)).cell? ⟨w.heap.size, 0, none⟩ = some (.slice pt c.tbs.length ct) by simp)
          have y1 := cell_later hbwB (show (w.alloc (.cells #[.slice pt c.tbs.length ct, .slice pp c.prs.length cp] 25)).cell? ⟨w.heap.size, 1, none⟩ = some (.slice pp c.prs.length cp) by simp)
          clear hpreB hbwB
          by_cases hloB : iB < c.prs.length
          · have hloiB : (iB : Int) < (c.prs.length : Int) := by omega
            by_cases hMB : MB ≤ 2147483647
            · have hMiB : (MB : Int) ≤ 2147483647 := by omega
              have HBVB : Hid (Below w.heap.size w VB) := (((Below.refl _ _).alloc (Nat.le_refl _) _)).trans (HBWB.out.mono (by simp))
              obtain ⟨bB, offB, u0, u1, u2, u3, u4, rfl, hR, e0, e1, e2, e3, e4⟩ := HR2.out.at5 hloB
              obtain ⟨p5, c5, p6, c6, hR, r0, r1⟩ := hR
              simp only [List.cons.injEq, and_true] at hR
              obtain ⟨rfl, rfl, rfl, rfl, rfl⟩ := hR
              have HRr0 := Lib.hid r0
              have HRr1 := Lib.hid r1
              have g0 := cell_later HBVB.out e0
              have g1 := cell_later HBVB.out e1
              have g2 := cell_later HBVB.out e2
              have g3 := cell_later HBVB.out e3
              have g4 := cell_later HBVB.out e4
              have hsz := HZ.out.pc _ (List.getElem_mem hloB)
              have HPZ := Lib.hid hsz
              have y2 := hsz.nm
              have y3 := hsz.prms
              have y4 := hsz.body
              clear e0 e1 e2 e3 e4 r0 r1
              obtain ⟨n1, hn1⟩ : ∃ n1, MB + c.prs[iB].nm.size + c.prs[iB].prms.length + c.prs[iB].body.length = n1 := ⟨_, rfl⟩
              have hn1i : (MB : Int) + (c.prs[iB].nm.size : Int) + (c.prs[iB].prms.length : Int) + (c.prs[iB].body.length : Int) = (n1 : Int) := by omega
              have HN1 := Lib.hid hn1
              have hn1b : n1 ≤ 1000000000000000 := by omega
              clear hn1
              go_wp2
              go_loopw [3, 10] (fun v i wr => ∃ k N : Nat, k ≤ c.prs[iB].prms.length ∧ i = .int .i64 (k : Int) ∧ v = .int .i64 (N : Int) ∧ N ≤ 1000000000000000 ∧ n1 ≤ N ∧ (N ≤ 2147483647 → ∀ j (g : j < c.prs[iB].prms.length), j < k → c.prs[iB].prms[j].nm.size ≤ 2147483647) ∧ Below (VB.alloc (.cells #[.string c.prs[iB].nm, .slice p5 c.prs[iB].prms.length c5, .slice p6 c.prs[iB].body.length c6, .int .i64 c.prs[iB].rows, .int .i64 c.prs[iB].bytes] 52)).heap.size (VB.alloc (.cells #[.string c.prs[iB].nm, .slice p5 c.prs[iB].prms.length c5, .slice p6 c.prs[iB].body.length c6, .int .i64 c.prs[iB].rows, .int .i64 c.prs[iB].bytes] 52)) wr) (fun _ i _ => c.prs[iB].prms.length - (intOf i).toNat)
              case atStart => exact ⟨0, n1, Nat.zero_le _, rfl, rfl, hn1b, Nat.le_refl _, fun _ j _ g => absurd g (Nat.not_lt_zero _), Below.refl _ _⟩
              case round =>
                obtain ⟨kc, Nc, hkc, rfl, rfl, hNbc, hNpc, hallc, hwc⟩ := hrel
                obtain ⟨Uc, hU⟩ : ∃ U, U = wr := ⟨_, rfl⟩
                subst hU
                have HWc := Lib.hid hwc
                have hwsc := hwc.size
                simp at hwsc
                have tc0 := cell_later hwc (show (VB.alloc (.cells #[.string c.prs[iB].nm, .slice p5 c.prs[iB].prms.length c5, .slice p6 c.prs[iB].body.length c6, .int .i64 c.prs[iB].rows, .int .i64 c.prs[iB].bytes] 52)).cell? ⟨VB.heap.size, 0, none⟩ = some (.string c.prs[iB].nm) by simp)
                have tc1 := cell_later hwc (show (VB.alloc (.cells #[.string c.prs[iB].nm, .slice p5 c.prs[iB].prms.length c5, .slice p6 c.prs[iB].body.length c6, .int .i64 c.prs[iB].rows, .int .i64 c.prs[iB].bytes] 52)).cell? ⟨VB.heap.size, 1, none⟩ = some (.slice p5 c.prs[iB].prms.length c5) by simp)
                have tc2 := cell_later hwc (show (VB.alloc (.cells #[.string c.prs[iB].nm, .slice p5 c.prs[iB].prms.length c5, .slice p6 c.prs[iB].body.length c6, .int .i64 c.prs[iB].rows, .int .i64 c.prs[iB].bytes] 52)).cell? ⟨VB.heap.size, 2, none⟩ = some (.slice p6 c.prs[iB].body.length c6) by simp)
                have tc3 := cell_later hwc (show (VB.alloc (.cells #[.string c.prs[iB].nm, .slice p5 c.prs[iB].prms.length c5, .slice p6 c.prs[iB].body.length c6, .int .i64 c.prs[iB].rows, .int .i64 c.prs[iB].bytes] 52)).cell? ⟨VB.heap.size, 3, none⟩ = some (.int .i64 c.prs[iB].rows) by simp)
                have tc4 := cell_later hwc (show (VB.alloc (.cells #[.string c.prs[iB].nm, .slice p5 c.prs[iB].prms.length c5, .slice p6 c.prs[iB].body.length c6, .int .i64 c.prs[iB].rows, .int .i64 c.prs[iB].bytes] 52)).cell? ⟨VB.heap.size, 4, none⟩ = some (.int .i64 c.prs[iB].bytes) by simp)
                clear hwc
                have HAc := Lib.hid hallc
                clear hallc
                by_cases hltc : kc < c.prs[iB].prms.length
                · have hltic : (kc : Int) < (c.prs[iB].prms.length : Int) := by omega
                  by_cases hNc : Nc ≤ 2147483647
                  · have hNic : (Nc : Int) ≤ 2147483647 := by omega
                    obtain ⟨bc, offc, u0, u1, rfl, hR, e0, e1⟩ := HRr0.out.at2 hltc
                    simp only [PmR] at hR
                    simp only [List.cons.injEq, and_true] at hR
                    obtain ⟨rfl, rfl⟩ := hR
                    have g0 := cell_later HWc.out (cell_later ((Below.refl _ _).alloc (Nat.le_refl _) _) (cell_later HBVB.out e0))
                    have g1 := cell_later HWc.out (cell_later ((Below.refl _ _).alloc (Nat.le_refl _) _) (cell_later HBVB.out e1))
                    have hblc := cell_lt g0
                    clear e0 e1
                    have hszc := HPZ.out.prm _ (List.getElem_mem hltc)
                    have HA2 : Hid (Nc + c.prs[iB].prms[kc].nm.size ≤ 2147483647 → ∀ j (g : j < c.prs[iB].prms.length), j < kc + 1 → c.prs[iB].prms[j].nm.size ≤ 2147483647) := fun h => upto_more (P := fun y => y.nm.size ≤ 2147483647) (HAc.out (by omega)) hltc (by show c.prs[iB].prms[kc].nm.size ≤ 2147483647; omega)
                    go_wp2
                    go_roundw
                    case rel => exact ⟨kc + 1, Nc + c.prs[iB].prms[kc].nm.size, by omega, by go_num, by go_num, by omega, by omega, HA2.out, by have hx := HWc.out; (repeat (first | exact Below.refl _ _ | assumption | refine Below.drew ?_ | refine below_drewN ?_ _ | refine Below.alloc ?_ (by first | omega | (simp; done) | (simp; omega)) _ | refine Below.setCell ?_ (by first | omega | (simp; done) | (simp; omega)) _ | refine Below.trans ?_ (Below.mono (by assumption) (by first | omega | (simp; done) | (simp; omega)))))⟩
                    case measure => simp [intOf]; omega
                  · have hNic : ¬ (Nc : Int) ≤ 2147483647 := by omega
                    have HPc : Hid (Nc ≤ 2147483647 → ∀ x ∈ c.prs[iB].prms, x.nm.size ≤ 2147483647) := fun h => absurd h hNc
                    clear HAc
                    go_wp2
                    go_loopw [3, 11] (fun v i wr => ∃ k N : Nat, k ≤ c.prs[iB].body.length ∧ i = .int .i64 (k : Int) ∧ v = .int .i64 (N : Int) ∧ N ≤ 1000000000000000 ∧ Nc ≤ N ∧ (N ≤ 2147483647 → ∀ j (g : j < c.prs[iB].body.length), j < k → c.prs[iB].body[j].size ≤ 2147483647) ∧ Below (VB.alloc (.cells #[.string c.prs[iB].nm, .slice p5 c.prs[iB].prms.length c5, .slice p6 c.prs[iB].body.length c6, .int .i64 c.prs[iB].rows, .int .i64 c.prs[iB].bytes] 52)).heap.size (VB.alloc (.cells #[.string c.prs[iB].nm, .slice p5 c.prs[iB].prms.length c5, .slice p6 c.prs[iB].body.length c6, .int .i64 c.prs[iB].rows, .int .i64 c.prs[iB].bytes] 52)) wr) (fun _ i _ => c.prs[iB].body.length - (intOf i).toNat)
                    case atStart => exact ⟨0, Nc, Nat.zero_le _, rfl, rfl, hNbc, Nat.le_refl _, fun _ j _ g => absurd g (Nat.not_lt_zero _), HWc.out⟩
                    case round =>
                      obtain ⟨kd, Nd, hkd, rfl, rfl, hNbd, hNpd, halld, hwd⟩ := hrel
                      obtain ⟨Ud, hU⟩ : ∃ U, U = wr := ⟨_, rfl⟩
                      subst hU
                      have HWd := Lib.hid hwd
                      have hwsd := hwd.size
                      simp at hwsd
                      have td0 := cell_later hwd (show (VB.alloc (.cells #[.string c.prs[iB].nm, .slice p5 c.prs[iB].prms.length c5, .slice p6 c.prs[iB].body.length c6, .int .i64 c.prs[iB].rows, .int .i64 c.prs[iB].bytes] 52)).cell? ⟨VB.heap.size, 0, none⟩ = some (.string c.prs[iB].nm) by simp)
                      have td1 := cell_later hwd (show (VB.alloc (.cells #[.string c.prs[iB].nm, .slice p5 c.prs[iB].prms.length c5, .slice p6 c.prs[iB].body.length c6, .int .i64 c.prs[iB].rows, .int .i64 c.prs[iB].bytes] 52)).cell? ⟨VB.heap.size, 1, none⟩ = some (.slice p5 c.prs[iB].prms.length c5) by simp)
                      have td2 := cell_later hwd (show (VB.alloc (.cells #[.string c.prs[iB].nm, .slice p5 c.prs[iB].prms.length c5, .slice p6 c.prs[iB].body.length c6, .int .i64 c.prs[iB].rows, .int .i64 c.prs[iB].bytes] 52)).cell? ⟨VB.heap.size, 2, none⟩ = some (.slice p6 c.prs[iB].body.length c6) by simp)
                      have td3 := cell_later hwd (show (VB.alloc (.cells #[.string c.prs[iB].nm, .slice p5 c.prs[iB].prms.length c5, .slice p6 c.prs[iB].body.length c6, .int .i64 c.prs[iB].rows, .int .i64 c.prs[iB].bytes] 52)).cell? ⟨VB.heap.size, 3, none⟩ = some (.int .i64 c.prs[iB].rows) by simp)
                      have td4 := cell_later hwd (show (VB.alloc (.cells #[.string c.prs[iB].nm, .slice p5 c.prs[iB].prms.length c5, .slice p6 c.prs[iB].body.length c6, .int .i64 c.prs[iB].rows, .int .i64 c.prs[iB].bytes] 52)).cell? ⟨VB.heap.size, 4, none⟩ = some (.int .i64 c.prs[iB].bytes) by simp)
                      clear hwd
                      have HAd := Lib.hid halld
                      clear halld
                      by_cases hltd : kd < c.prs[iB].body.length
                      · have hltid : (kd : Int) < (c.prs[iB].body.length : Int) := by omega
                        by_cases hNd : Nd ≤ 2147483647
                        · have hNid : (Nd : Int) ≤ 2147483647 := by omega
                          exfalso
                          omega
                        · have hNid : ¬ (Nd : Int) ≤ 2147483647 := by omega
                          have HPd : Hid (Nd ≤ 2147483647 → ∀ x ∈ c.prs[iB].body, x.size ≤ 2147483647) := fun h => absurd h hNd
                          clear HAd
                          go_wp2
                          go_roundw
                          case rel => exact ⟨iB + 1, Nd, by omega, by go_num, rfl, by omega, fun h => ⟨(HPRB.out (by have := HN1.out; omega)).1, upto_more (P := PcZ 2147483647) (HPRB.out (by have := HN1.out; omega)).2 hloB (by have := HN1.out; exact ⟨by omega, by omega, by omega, HPc.out (by omega), HPd.out h⟩)⟩, (HBWB.out.alloc HBWB.out.size _).trans (HWd.out.mono (by simp; omega))⟩
                          case measure => simp [intOf]; omega
                      · have hltid : ¬ (kd : Int) < (c.prs[iB].body.length : Int) := by omega
                        have HPd : Hid (Nd ≤ 2147483647 → ∀ x ∈ c.prs[iB].body, x.size ≤ 2147483647) := fun h => upto_mem (P := fun x => x.size ≤ 2147483647) (fun j g => HAd.out h j g (by omega))
                        clear HAd
                        go_wp2
                        go_roundw
                        case rel => exact ⟨iB + 1, Nd, by omega, by go_num, rfl, by omega, fun h => ⟨(HPRB.out (by have := HN1.out; omega)).1, upto_more (P := PcZ 2147483647) (HPRB.out (by have := HN1.out; omega)).2 hloB (by have := HN1.out; exact ⟨by omega, by omega, by omega, HPc.out (by omega), HPd.out h⟩)⟩, (HBWB.out.alloc HBWB.out.size _).trans (HWd.out.mono (by simp; omega))⟩
                        case measure => simp [intOf]; omega
                · have hltic : ¬ (kc : Int) < (c.prs[iB].prms.length : Int) := by omega
                  have HPc : Hid (Nc ≤ 2147483647 → ∀ x ∈ c.prs[iB].prms, x.nm.size ≤ 2147483647) := fun h => upto_mem (P := fun x => x.nm.size ≤ 2147483647) (fun j g => HAc.out h j g (by omega))
                  clear HAc
                  go_wp2
                  go_loopw [3, 11] (fun v i wr => ∃ k N : Nat, k ≤ c.prs[iB].body.length ∧ i = .int .i64 (k : Int) ∧ v = .int .i64 (N : Int) ∧ N ≤ 1000000000000000 ∧ Nc ≤ N ∧ (N ≤ 2147483647 → ∀ j (g : j < c.prs[iB].body.length), j < k → c.prs[iB].body[j].size ≤ 2147483647) ∧ Below (VB.alloc (.cells #[.string c.prs[iB].nm, .slice p5 c.prs[iB].prms.length c5, .slice p6 c.prs[iB].body.length c6, .int .i64 c.prs[iB].rows, .int .i64 c.prs[iB].bytes] 52)).heap.size (VB.alloc (.cells #[.string c.prs[iB].nm, .slice p5 c.prs[iB].prms.length c5, .slice p6 c.prs[iB].body.length c6, .int .i64 c.prs[iB].rows, .int .i64 c.prs[iB].bytes] 52)) wr) (fun _ i _ => c.prs[iB].body.length - (intOf i).toNat)
                  case atStart => exact ⟨0, Nc, Nat.zero_le _, rfl, rfl, hNbc, Nat.le_refl _, fun _ j _ g => absurd g (Nat.not_lt_zero _), HWc.out⟩
                  case round =>
                    obtain ⟨kd, Nd, hkd, rfl, rfl, hNbd, hNpd, halld, hwd⟩ := hrel
                    obtain ⟨Ud, hU⟩ : ∃ U, U = wr := ⟨_, rfl⟩
                    subst hU
                    have HWd := Lib.hid hwd
                    have hwsd := hwd.size
                    simp at hwsd
                    have td0 := cell_later hwd (show (VB.alloc (.cells #[.string c.prs[iB].nm, .slice p5 c.prs[iB].prms.length c5, .slice p6 c.prs[iB].body.length c6, .int .i64 c.prs[iB].rows, .int .i64 c.prs[iB].bytes] 52)).cell? ⟨VB.heap.size, 0, none⟩ = some (.string c.prs[iB].nm) by simp)
                    have td1 := cell_later hwd (show (VB.alloc (.cells #[.string c.prs[iB].nm, .slice p5 c.prs[iB].prms.length c5, .slice p6 c.prs[iB].body.length c6, .int .i64 c.prs[iB].rows, .int .i64 c.prs[iB].bytes] 52)).cell? ⟨VB.heap.size, 1, none⟩ = some (.slice p5 c.prs[iB].prms.length c5) by simp)
                    have td2 := cell_later hwd (show (VB.alloc (.cells #[.string c.prs[iB].nm, .slice p5 c.prs[iB].prms.length c5, .slice p6 c.prs[iB].body.length c6, .int .i64 c.prs[iB].rows, .int .i64 c.prs[iB].bytes] 52)).cell? ⟨VB.heap.size, 2, none⟩ = some (.slice p6 c.prs[iB].body.length c6) by simp)
                    have td3 := cell_later hwd (show (VB.alloc (.cells #[.string c.prs[iB].nm, .slice p5 c.prs[iB].prms.length c5, .slice p6 c.prs[iB].body.length c6, .int .i64 c.prs[iB].rows, .int .i64 c.prs[iB].bytes] 52)).cell? ⟨VB.heap.size, 3, none⟩ = some (.int .i64 c.prs[iB].rows) by simp)
                    have td4 := cell_later hwd (show (VB.alloc (.cells #[.string c.prs[iB].nm, .slice p5 c.prs[iB].prms.length c5, .slice p6 c.prs[iB].body.length c6, .int .i64 c.prs[iB].rows, .int .i64 c.prs[iB].bytes] 52)).cell? ⟨VB.heap.size, 4, none⟩ = some (.int .i64 c.prs[iB].bytes) by simp)
                    clear hwd
                    have HAd := Lib.hid halld
                    clear halld
                    by_cases hltd : kd < c.prs[iB].body.length
                    · have hltid : (kd : Int) < (c.prs[iB].body.length : Int) := by omega
                      by_cases hNd : Nd ≤ 2147483647
                      · have hNid : (Nd : Int) ≤ 2147483647 := by omega
                        obtain ⟨bd, offd, u0, rfl, hR, e0⟩ := HRr1.out.at1 hltd
                        simp only [StrR] at hR
                        simp only [List.cons.injEq, and_true] at hR
                        obtain rfl := hR
                        have g0 := cell_later HWd.out (cell_later ((Below.refl _ _).alloc (Nat.le_refl _) _) (cell_later HBVB.out e0))
                        have hbld := cell_lt g0
                        clear e0
                        have hszd := HPZ.out.src _ (List.getElem_mem hltd)
                        have HA2 : Hid (Nd + c.prs[iB].body[kd].size ≤ 2147483647 → ∀ j (g : j < c.prs[iB].body.length), j < kd + 1 → c.prs[iB].body[j].size ≤ 2147483647) := fun h => upto_more (P := fun y => y.size ≤ 2147483647) (HAd.out (by omega)) hltd (by show c.prs[iB].body[kd].size ≤ 2147483647; omega)
                        go_wp2
                        go_roundw
                        case rel => exact ⟨kd + 1, Nd + c.prs[iB].body[kd].size, by omega, by go_num, by go_num, by omega, by omega, HA2.out, by have hx := HWd.out; (repeat (first | exact Below.refl _ _ | assumption | refine Below.drew ?_ | refine below_drewN ?_ _ | refine Below.alloc ?_ (by first | omega | (simp; done) | (simp; omega)) _ | refine Below.setCell ?_ (by first | omega | (simp; done) | (simp; omega)) _ | refine Below.trans ?_ (Below.mono (by assumption) (by first | omega | (simp; done) | (simp; omega)))))⟩
                        case measure => simp [intOf]; omega
                      · have hNid : ¬ (Nd : Int) ≤ 2147483647 := by omega
                        have HPd : Hid (Nd ≤ 2147483647 → ∀ x ∈ c.prs[iB].body, x.size ≤ 2147483647) := fun h => absurd h hNd
                        clear HAd
                        go_wp2
                        go_roundw
                        case rel => exact ⟨iB + 1, Nd, by omega, by go_num, rfl, by omega, fun h => ⟨(HPRB.out (by have := HN1.out; omega)).1, upto_more (P := PcZ 2147483647) (HPRB.out (by have := HN1.out; omega)).2 hloB (by have := HN1.out; exact ⟨by omega, by omega, by omega, HPc.out (by omega), HPd.out h⟩)⟩, (HBWB.out.alloc HBWB.out.size _).trans (HWd.out.mono (by simp; omega))⟩
                        case measure => simp [intOf]; omega
                    · have hltid : ¬ (kd : Int) < (c.prs[iB].body.length : Int) := by omega
                      have HPd : Hid (Nd ≤ 2147483647 → ∀ x ∈ c.prs[iB].body, x.size ≤ 2147483647) := fun h => upto_mem (P := fun x => x.size ≤ 2147483647) (fun j g => HAd.out h j g (by omega))
                      clear HAd
                      go_wp2
                      go_roundw
                      case rel => exact ⟨iB + 1, Nd, by omega, by go_num, rfl, by omega, fun h => ⟨(HPRB.out (by have := HN1.out; omega)).1, upto_more (P := PcZ 2147483647) (HPRB.out (by have := HN1.out; omega)).2 hloB (by have := HN1.out; exact ⟨by omega, by omega, by omega, HPc.out (by omega), HPd.out h⟩)⟩, (HBWB.out.alloc HBWB.out.size _).trans (HWd.out.mono (by simp; omega))⟩
                      case measure => simp [intOf]; omega
            · have hMiB : ¬ (MB : Int) ≤ 2147483647 := by omega
              have HFB : Hid (MB ≤ 2147483647 → ((c.tbs.length ≤ 2147483647 ∧ c.prs.length ≤ 2147483647) ∧ ∀ t ∈ c.tbs, TbZ 2147483647 t) ∧ ∀ x ∈ c.prs, PcZ 2147483647 x) := fun h => absurd h hMB
              clear HPRB
              go_wp2
              go_ret
              exact ⟨MB, rfl, fun h => ⟨(HFB.out h).1.1.1, (HFB.out h).1.1.2, (HFB.out h).1.2, (HFB.out h).2⟩, (((Below.refl _ _).alloc (Nat.le_refl _) _)).trans (HBWB.out.mono (by simp))⟩
          · have hloiB : ¬ (iB : Int) < (c.prs.length : Int) := by omega
            have HFB : Hid (MB ≤ 2147483647 → ((c.tbs.length ≤ 2147483647 ∧ c.prs.length ≤ 2147483647) ∧ ∀ t ∈ c.tbs, TbZ 2147483647 t) ∧ ∀ x ∈ c.prs, PcZ 2147483647 x) := fun h => ⟨(HPRB.out h).1, upto_mem (fun j g => (HPRB.out h).2 j g (by omega))⟩
            clear HPRB
            go_wp2
            go_ret
            exact ⟨MB, rfl, fun h => ⟨(HFB.out h).1.1.1, (HFB.out h).1.1.2, (HFB.out h).1.2, (HFB.out h).2⟩, (((Below.refl _ _).alloc (Nat.le_refl _) _)).trans (HBWB.out.mono (by simp))⟩
    · have hloiA : ¬ (iA : Int) < (c.tbs.length : Int) := by omega
      have HFA : Hid (MA ≤ 2147483647 → (c.tbs.length ≤ 2147483647 ∧ c.prs.length ≤ 2147483647) ∧ ∀ x ∈ c.tbs, TbZ 2147483647 x) := fun h => ⟨(HPRA.out h).1, upto_mem (fun j g => (HPRA.out h).2 j g (by omega))⟩
      clear HPRA
      go_wp2
      go_loopw [3, 8] (fun v i wr => ∃ k N : Nat, k ≤ c.prs.length ∧ i = .int .i64 (k : Int) ∧ v = .int .i64 (N : Int) ∧ N ≤ 1000000000000000 ∧ (N ≤ 2147483647 → ((c.tbs.length ≤ 2147483647 ∧ c.prs.length ≤ 2147483647) ∧ ∀ t ∈ c.tbs, TbZ 2147483647 t) ∧ ∀ j (g : j < c.prs.length), j < k → PcZ 2147483647 c.prs[j]) ∧ Below (w.alloc (.cells #[.slice pt c.tbs.length ct, .slice pp c.prs.length cp] 25)).heap.size (w.alloc (.cells #[.slice pt c.tbs.length ct, .slice pp c.prs.length cp] 25)) wr) (fun _ i _ => c.prs.length - (intOf i).toNat)
      case atStart => exact ⟨0, _, Nat.zero_le _, rfl, rfl, by omega, fun h => ⟨⟨(HFA.out h).1, (HFA.out h).2⟩, fun j _ g => absurd g (Nat.not_lt_zero _)⟩, HBWA.out⟩
      case round =>
        obtain ⟨iB, MB, hiB, rfl, rfl, hMbB, hpreB, hbwB⟩ := hrel
        obtain ⟨VB, hV⟩ : ∃ V, V = wr := ⟨_, rfl⟩
        subst hV
        have HPRB := Lib.hid hpreB
        have HBWB := Lib.hid hbwB
        have hswB := hbwB.size
        simp at hswB
        have y0 := cell_later hbwB (show (w.alloc (.cells #[.slice pt c.tbs.length ct, .slice pp c.prs.length cp] 25)).cell? ⟨w.heap.size, 0, none⟩ = some (.slice pt c.tbs.length ct) by simp)
        have y1 := cell_later hbwB (show (w.alloc (.cells #[.slice pt c.tbs.length ct, .slice pp c.prs.length cp] 25)).cell? ⟨w.heap.size, 1, none⟩ = some (.slice pp c.prs.length cp) by simp)
        clear hpreB hbwB
        by_cases hloB : iB < c.prs.length
        · have hloiB : (iB : Int) < (c.prs.length : Int) := by omega
          by_cases hMB : MB ≤ 2147483647
          · have hMiB : (MB : Int) ≤ 2147483647 := by omega
            have HBVB : Hid (Below w.heap.size w VB) := (((Below.refl _ _).alloc (Nat.le_refl _) _)).trans (HBWB.out.mono (by simp))
            obtain ⟨bB, offB, u0, u1, u2, u3, u4, rfl, hR, e0, e1, e2, e3, e4⟩ := HR2.out.at5 hloB
            obtain ⟨p5, c5, p6, c6, hR, r0, r1⟩ := hR
            simp only [List.cons.injEq, and_true] at hR
            obtain ⟨rfl, rfl, rfl, rfl, rfl⟩ := hR
            have HRr0 := Lib.hid r0
            have HRr1 := Lib.hid r1
            have g0 := cell_later HBVB.out e0
            have g1 := cell_later HBVB.out e1
            have g2 := cell_later HBVB.out e2
            have g3 := cell_later HBVB.out e3
            have g4 := cell_later HBVB.out e4
            have hsz := HZ.out.pc _ (List.getElem_mem hloB)
            have HPZ := Lib.hid hsz
            have y2 := hsz.nm
            have y3 := hsz.prms
            have y4 := hsz.body
            clear e0 e1 e2 e3 e4 r0 r1
            obtain ⟨n1, hn1⟩ : ∃ n1, MB + c.prs[iB].nm.size + c.prs[iB].prms.length + c.prs[iB].body.length = n1 := ⟨_, rfl⟩
            have hn1i : (MB : Int) + (c.prs[iB].nm.size : Int) + (c.prs[iB].prms.length : Int) + (c.prs[iB].body.length : Int) = (n1 : Int) := by omega
            have HN1 := Lib.hid hn1
            have hn1b : n1 ≤ 1000000000000000 := by omega
            clear hn1
            go_wp2
            go_loopw [3, 10] (fun v i wr => ∃ k N : Nat, k ≤ c.prs[iB].prms.length ∧ i = .int .i64 (k : Int) ∧ v = .int .i64 (N : Int) ∧ N ≤ 1000000000000000 ∧ n1 ≤ N ∧ (N ≤ 2147483647 → ∀ j (g : j < c.prs[iB].prms.length), j < k → c.prs[iB].prms[j].nm.size ≤ 2147483647) ∧ Below (VB.alloc (.cells #[.string c.prs[iB].nm, .slice p5 c.prs[iB].prms.length c5, .slice p6 c.prs[iB].body.length c6, .int .i64 c.prs[iB].rows, .int .i64 c.prs[iB].bytes] 52)).heap.size (VB.alloc (.cells #[.string c.prs[iB].nm, .slice p5 c.prs[iB].prms.length c5, .slice p6 c.prs[iB].body.length c6, .int .i64 c.prs[iB].rows, .int .i64 c.prs[iB].bytes] 52)) wr) (fun _ i _ => c.prs[iB].prms.length - (intOf i).toNat)
            case atStart => exact ⟨0, n1, Nat.zero_le _, rfl, rfl, hn1b, Nat.le_refl _, fun _ j _ g => absurd g (Nat.not_lt_zero _), Below.refl _ _⟩
            case round =>
              obtain ⟨kc, Nc, hkc, rfl, rfl, hNbc, hNpc, hallc, hwc⟩ := hrel
              obtain ⟨Uc, hU⟩ : ∃ U, U = wr := ⟨_, rfl⟩
              subst hU
              have HWc := Lib.hid hwc
              have hwsc := hwc.size
              simp at hwsc
              have tc0 := cell_later hwc (show (VB.alloc (.cells #[.string c.prs[iB].nm, .slice p5 c.prs[iB].prms.length c5, .slice p6 c.prs[iB].body.length c6, .int .i64 c.prs[iB].rows, .int .i64 c.prs[iB].bytes] 52)).cell? ⟨VB.heap.size, 0, none⟩ = some (.string c.prs[iB].nm) by simp)
              have tc1 := cell_later hwc (show (VB.alloc (.cells #[.string c.prs[iB].nm, .slice p5 c.prs[iB].prms.length c5, .slice p6 c.prs[iB].body.length c6, .int .i64 c.prs[iB].rows, .int .i64 c.prs[iB].bytes] 52)).cell? ⟨VB.heap.size, 1, none⟩ = some (.slice p5 c.prs[iB].prms.length c5) by simp)
              have tc2 := cell_later hwc (show (VB.alloc (.cells #[.string c.prs[iB].nm, .slice p5 c.prs[iB].prms.length c5, .slice p6 c.prs[iB].body.length c6, .int .i64 c.prs[iB].rows, .int .i64 c.prs[iB].bytes] 52)).cell? ⟨VB.heap.size, 2, none⟩ = some (.slice p6 c.prs[iB].body.length c6) by simp)
              have tc3 := cell_later hwc (show (VB.alloc (.cells #[.string c.prs[iB].nm, .slice p5 c.prs[iB].prms.length c5, .slice p6 c.prs[iB].body.length c6, .int .i64 c.prs[iB].rows, .int .i64 c.prs[iB].bytes] 52)).cell? ⟨VB.heap.size, 3, none⟩ = some (.int .i64 c.prs[iB].rows) by simp)
              have tc4 := cell_later hwc (show (VB.alloc (.cells #[.string c.prs[iB].nm, .slice p5 c.prs[iB].prms.length c5, .slice p6 c.prs[iB].body.length c6, .int .i64 c.prs[iB].rows, .int .i64 c.prs[iB].bytes] 52)).cell? ⟨VB.heap.size, 4, none⟩ = some (.int .i64 c.prs[iB].bytes) by simp)
              clear hwc
              have HAc := Lib.hid hallc
              clear hallc
              by_cases hltc : kc < c.prs[iB].prms.length
              · have hltic : (kc : Int) < (c.prs[iB].prms.length : Int) := by omega
                by_cases hNc : Nc ≤ 2147483647
                · have hNic : (Nc : Int) ≤ 2147483647 := by omega
                  obtain ⟨bc, offc, u0, u1, rfl, hR, e0, e1⟩ := HRr0.out.at2 hltc
                  simp only [PmR] at hR
                  simp only [List.cons.injEq, and_true] at hR
                  obtain ⟨rfl, rfl⟩ := hR
                  have g0 := cell_later HWc.out (cell_later ((Below.refl _ _).alloc (Nat.le_refl _) _) (cell_later HBVB.out e0))
                  have g1 := cell_later HWc.out (cell_later ((Below.refl _ _).alloc (Nat.le_refl _) _) (cell_later HBVB.out e1))
                  have hblc := cell_lt g0
                  clear e0 e1
                  have hszc := HPZ.out.prm _ (List.getElem_mem hltc)
                  have HA2 : Hid (Nc + c.prs[iB].prms[kc].nm.size ≤ 2147483647 → ∀ j (g : j < c.prs[iB].prms.length), j < kc + 1 → c.prs[iB].prms[j].nm.size ≤ 2147483647) := fun h => upto_more (P := fun y => y.nm.size ≤ 2147483647) (HAc.out (by omega)) hltc (by show c.prs[iB].prms[kc].nm.size ≤ 2147483647; omega)
                  go_wp2
                  go_roundw
                  case rel => exact ⟨kc + 1, Nc + c.prs[iB].prms[kc].nm.size, by omega, by go_num, by go_num, by omega, by omega, HA2.out, by have hx := HWc.out; (repeat (first | exact Below.refl _ _ | assumption | refine Below.drew ?_ | refine below_drewN ?_ _ | refine Below.alloc ?_ (by first | omega | (simp; done) | (simp; omega)) _ | refine Below.setCell ?_ (by first | omega | (simp; done) | (simp; omega)) _ | refine Below.trans ?_ (Below.mono (by assumption) (by first | omega | (simp; done) | (simp; omega)))))⟩
                  case measure => simp [intOf]; omega
                · have hNic : ¬ (Nc : Int) ≤ 2147483647 := by omega
                  have HPc : Hid (Nc ≤ 2147483647 → ∀ x ∈ c.prs[iB].prms, x.nm.size ≤ 2147483647) := fun h => absurd h hNc
                  clear HAc
                  go_wp2
                  go_loopw [3, 11] (fun v i wr => ∃ k N : Nat, k ≤ c.prs[iB].body.length ∧ i = .int .i64 (k : Int) ∧ v = .int .i64 (N : Int) ∧ N ≤ 1000000000000000 ∧ Nc ≤ N ∧ (N ≤ 2147483647 → ∀ j (g : j < c.prs[iB].body.length), j < k → c.prs[iB].body[j].size ≤ 2147483647) ∧ Below (VB.alloc (.cells #[.string c.prs[iB].nm, .slice p5 c.prs[iB].prms.length c5, .slice p6 c.prs[iB].body.length c6, .int .i64 c.prs[iB].rows, .int .i64 c.prs[iB].bytes] 52)).heap.size (VB.alloc (.cells #[.string c.prs[iB].nm, .slice p5 c.prs[iB].prms.length c5, .slice p6 c.prs[iB].body.length c6, .int .i64 c.prs[iB].rows, .int .i64 c.prs[iB].bytes] 52)) wr) (fun _ i _ => c.prs[iB].body.length - (intOf i).toNat)
                  case atStart => exact ⟨0, Nc, Nat.zero_le _, rfl, rfl, hNbc, Nat.le_refl _, fun _ j _ g => absurd g (Nat.not_lt_zero _), HWc.out⟩
                  case round =>
                    obtain ⟨kd, Nd, hkd, rfl, rfl, hNbd, hNpd, halld, hwd⟩ := hrel
                    obtain ⟨Ud, hU⟩ : ∃ U, U = wr := ⟨_, rfl⟩
                    subst hU
                    have HWd := Lib.hid hwd
                    have hwsd := hwd.size
                    simp at hwsd
                    have td0 := cell_later hwd (show (VB.alloc (.cells #[.string c.prs[iB].nm, .slice p5 c.prs[iB].prms.length c5, .slice p6 c.prs[iB].body.length c6, .int .i64 c.prs[iB].rows, .int .i64 c.prs[iB].bytes] 52)).cell? ⟨VB.heap.size, 0, none⟩ = some (.string c.prs[iB].nm) by simp)
                    have td1 := cell_later hwd (show (VB.alloc (.cells #[.string c.prs[iB].nm, .slice p5 c.prs[iB].prms.length c5, .slice p6 c.prs[iB].body.length c6, .int .i64 c.prs[iB].rows, .int .i64 c.prs[iB].bytes] 52)).cell? ⟨VB.heap.size, 1, none⟩ = some (.slice p5 c.prs[iB].prms.length c5) by simp)
                    have td2 := cell_later hwd (show (VB.alloc (.cells #[.string c.prs[iB].nm, .slice p5 c.prs[iB].prms.length c5, .slice p6 c.prs[iB].body.length c6, .int .i64 c.prs[iB].rows, .int .i64 c.prs[iB].bytes] 52)).cell? ⟨VB.heap.size, 2, none⟩ = some (.slice p6 c.prs[iB].body.length c6) by simp)
                    have td3 := cell_later hwd (show (VB.alloc (.cells #[.string c.prs[iB].nm, .slice p5 c.prs[iB].prms.length c5, .slice p6 c.prs[iB].body.length c6, .int .i64 c.prs[iB].rows, .int .i64 c.prs[iB].bytes] 52)).cell? ⟨VB.heap.size, 3, none⟩ = some (.int .i64 c.prs[iB].rows) by simp)
                    have td4 := cell_later hwd (show (VB.alloc (.cells #[.string c.prs[iB].nm, .slice p5 c.prs[iB].prms.length c5, .slice p6 c.prs[iB].body.length c6, .int .i64 c.prs[iB].rows, .int .i64 c.prs[iB].bytes] 52)).cell? ⟨VB.heap.size, 4, none⟩ = some (.int .i64 c.prs[iB].bytes) by simp)
                    clear hwd
                    have HAd := Lib.hid halld
                    clear halld
                    by_cases hltd : kd < c.prs[iB].body.length
                    · have hltid : (kd : Int) < (c.prs[iB].body.length : Int) := by omega
                      by_cases hNd : Nd ≤ 2147483647
                      · have hNid : (Nd : Int) ≤ 2147483647 := by omega
                        exfalso
                        omega
                      · have hNid : ¬ (Nd : Int) ≤ 2147483647 := by omega
                        have HPd : Hid (Nd ≤ 2147483647 → ∀ x ∈ c.prs[iB].body, x.size ≤ 2147483647) := fun h => absurd h hNd
                        clear HAd
                        go_wp2
                        go_roundw
                        case rel => exact ⟨iB + 1, Nd, by omega, by go_num, rfl, by omega, fun h => ⟨(HPRB.out (by have := HN1.out; omega)).1, upto_more (P := PcZ 2147483647) (HPRB.out (by have := HN1.out; omega)).2 hloB (by have := HN1.out; exact ⟨by omega, by omega, by omega, HPc.out (by omega), HPd.out h⟩)⟩, (HBWB.out.alloc HBWB.out.size _).trans (HWd.out.mono (by simp; omega))⟩
                        case measure => simp [intOf]; omega
                    · have hltid : ¬ (kd : Int) < (c.prs[iB].body.length : Int) := by omega
                      have HPd : Hid (Nd ≤ 2147483647 → ∀ x ∈ c.prs[iB].body, x.size ≤ 2147483647) := fun h => upto_mem (P := fun x => x.size ≤ 2147483647) (fun j g => HAd.out h j g (by omega))
                      clear HAd
                      go_wp2
                      go_roundw
                      case rel => exact ⟨iB + 1, Nd, by omega, by go_num, rfl, by omega, fun h => ⟨(HPRB.out (by have := HN1.out; omega)).1, upto_more (P := PcZ 2147483647) (HPRB.out (by have := HN1.out; omega)).2 hloB (by have := HN1.out; exact ⟨by omega, by omega, by omega, HPc.out (by omega), HPd.out h⟩)⟩, (HBWB.out.alloc HBWB.out.size _).trans (HWd.out.mono (by simp; omega))⟩
                      case measure => simp [intOf]; omega
              · have hltic : ¬ (kc : Int) < (c.prs[iB].prms.length : Int) := by omega
                have HPc : Hid (Nc ≤ 2147483647 → ∀ x ∈ c.prs[iB].prms, x.nm.size ≤ 2147483647) := fun h => upto_mem (P := fun x => x.nm.size ≤ 2147483647) (fun j g => HAc.out h j g (by omega))
                clear HAc
                go_wp2
                go_loopw [3, 11] (fun v i wr => ∃ k N : Nat, k ≤ c.prs[iB].body.length ∧ i = .int .i64 (k : Int) ∧ v = .int .i64 (N : Int) ∧ N ≤ 1000000000000000 ∧ Nc ≤ N ∧ (N ≤ 2147483647 → ∀ j (g : j < c.prs[iB].body.length), j < k → c.prs[iB].body[j].size ≤ 2147483647) ∧ Below (VB.alloc (.cells #[.string c.prs[iB].nm, .slice p5 c.prs[iB].prms.length c5, .slice p6 c.prs[iB].body.length c6, .int .i64 c.prs[iB].rows, .int .i64 c.prs[iB].bytes] 52)).heap.size (VB.alloc (.cells #[.string c.prs[iB].nm, .slice p5 c.prs[iB].prms.length c5, .slice p6 c.prs[iB].body.length c6, .int .i64 c.prs[iB].rows, .int .i64 c.prs[iB].bytes] 52)) wr) (fun _ i _ => c.prs[iB].body.length - (intOf i).toNat)
                case atStart => exact ⟨0, Nc, Nat.zero_le _, rfl, rfl, hNbc, Nat.le_refl _, fun _ j _ g => absurd g (Nat.not_lt_zero _), HWc.out⟩
                case round =>
                  obtain ⟨kd, Nd, hkd, rfl, rfl, hNbd, hNpd, halld, hwd⟩ := hrel
                  obtain ⟨Ud, hU⟩ : ∃ U, U = wr := ⟨_, rfl⟩
                  subst hU
                  have HWd := Lib.hid hwd
                  have hwsd := hwd.size
                  simp at hwsd
                  have td0 := cell_later hwd (show (VB.alloc (.cells #[.string c.prs[iB].nm, .slice p5 c.prs[iB].prms.length c5, .slice p6 c.prs[iB].body.length c6, .int .i64 c.prs[iB].rows, .int .i64 c.prs[iB].bytes] 52)).cell? ⟨VB.heap.size, 0, none⟩ = some (.string c.prs[iB].nm) by simp)
                  have td1 := cell_later hwd (show (VB.alloc (.cells #[.string c.prs[iB].nm, .slice p5 c.prs[iB].prms.length c5, .slice p6 c.prs[iB].body.length c6, .int .i64 c.prs[iB].rows, .int .i64 c.prs[iB].bytes] 52)).cell? ⟨VB.heap.size, 1, none⟩ = some (.slice p5 c.prs[iB].prms.length c5) by simp)
                  have td2 := cell_later hwd (show (VB.alloc (.cells #[.string c.prs[iB].nm, .slice p5 c.prs[iB].prms.length c5, .slice p6 c.prs[iB].body.length c6, .int .i64 c.prs[iB].rows, .int .i64 c.prs[iB].bytes] 52)).cell? ⟨VB.heap.size, 2, none⟩ = some (.slice p6 c.prs[iB].body.length c6) by simp)
                  have td3 := cell_later hwd (show (VB.alloc (.cells #[.string c.prs[iB].nm, .slice p5 c.prs[iB].prms.length c5, .slice p6 c.prs[iB].body.length c6, .int .i64 c.prs[iB].rows, .int .i64 c.prs[iB].bytes] 52)).cell? ⟨VB.heap.size, 3, none⟩ = some (.int .i64 c.prs[iB].rows) by simp)
                  have td4 := cell_later hwd (show (VB.alloc (.cells #[.string c.prs[iB].nm, .slice p5 c.prs[iB].prms.length c5, .slice p6 c.prs[iB].body.length c6, .int .i64 c.prs[iB].rows, .int .i64 c.prs[iB].bytes] 52)).cell? ⟨VB.heap.size, 4, none⟩ = some (.int .i64 c.prs[iB].bytes) by simp)
                  clear hwd
                  have HAd := Lib.hid halld
                  clear halld
                  by_cases hltd : kd < c.prs[iB].body.length
                  · have hltid : (kd : Int) < (c.prs[iB].body.length : Int) := by omega
                    by_cases hNd : Nd ≤ 2147483647
                    · have hNid : (Nd : Int) ≤ 2147483647 := by omega
                      obtain ⟨bd, offd, u0, rfl, hR, e0⟩ := HRr1.out.at1 hltd
                      simp only [StrR] at hR
                      simp only [List.cons.injEq, and_true] at hR
                      obtain rfl := hR
                      have g0 := cell_later HWd.out (cell_later ((Below.refl _ _).alloc (Nat.le_refl _) _) (cell_later HBVB.out e0))
                      have hbld := cell_lt g0
                      clear e0
                      have hszd := HPZ.out.src _ (List.getElem_mem hltd)
                      have HA2 : Hid (Nd + c.prs[iB].body[kd].size ≤ 2147483647 → ∀ j (g : j < c.prs[iB].body.length), j < kd + 1 → c.prs[iB].body[j].size ≤ 2147483647) := fun h => upto_more (P := fun y => y.size ≤ 2147483647) (HAd.out (by omega)) hltd (by show c.prs[iB].body[kd].size ≤ 2147483647; omega)
                      go_wp2
                      go_roundw
                      case rel => exact ⟨kd + 1, Nd + c.prs[iB].body[kd].size, by omega, by go_num, by go_num, by omega, by omega, HA2.out, by have hx := HWd.out; (repeat (first | exact Below.refl _ _ | assumption | refine Below.drew ?_ | refine below_drewN ?_ _ | refine Below.alloc ?_ (by first | omega | (simp; done) | (simp; omega)) _ | refine Below.setCell ?_ (by first | omega | (simp; done) | (simp; omega)) _ | refine Below.trans ?_ (Below.mono (by assumption) (by first | omega | (simp; done) | (simp; omega)))))⟩
                      case measure => simp [intOf]; omega
                    · have hNid : ¬ (Nd : Int) ≤ 2147483647 := by omega
                      have HPd : Hid (Nd ≤ 2147483647 → ∀ x ∈ c.prs[iB].body, x.size ≤ 2147483647) := fun h => absurd h hNd
                      clear HAd
                      go_wp2
                      go_roundw
                      case rel => exact ⟨iB + 1, Nd, by omega, by go_num, rfl, by omega, fun h => ⟨(HPRB.out (by have := HN1.out; omega)).1, upto_more (P := PcZ 2147483647) (HPRB.out (by have := HN1.out; omega)).2 hloB (by have := HN1.out; exact ⟨by omega, by omega, by omega, HPc.out (by omega), HPd.out h⟩)⟩, (HBWB.out.alloc HBWB.out.size _).trans (HWd.out.mono (by simp; omega))⟩
                      case measure => simp [intOf]; omega
                  · have hltid : ¬ (kd : Int) < (c.prs[iB].body.length : Int) := by omega
                    have HPd : Hid (Nd ≤ 2147483647 → ∀ x ∈ c.prs[iB].body, x.size ≤ 2147483647) := fun h => upto_mem (P := fun x => x.size ≤ 2147483647) (fun j g => HAd.out h j g (by omega))
                    clear HAd
                    go_wp2
                    go_roundw
                    case rel => exact ⟨iB + 1, Nd, by omega, by go_num, rfl, by omega, fun h => ⟨(HPRB.out (by have := HN1.out; omega)).1, upto_more (P := PcZ 2147483647) (HPRB.out (by have := HN1.out; omega)).2 hloB (by have := HN1.out; exact ⟨by omega, by omega, by omega, HPc.out (by omega), HPd.out h⟩)⟩, (HBWB.out.alloc HBWB.out.size _).trans (HWd.out.mono (by simp; omega))⟩
                    case measure => simp [intOf]; omega
          · have hMiB : ¬ (MB : Int) ≤ 2147483647 := by omega
            have HFB : Hid (MB ≤ 2147483647 → ((c.tbs.length ≤ 2147483647 ∧ c.prs.length ≤ 2147483647) ∧ ∀ t ∈ c.tbs, TbZ 2147483647 t) ∧ ∀ x ∈ c.prs, PcZ 2147483647 x) := fun h => absurd h hMB
            clear HPRB
            go_wp2
            go_ret
            exact ⟨MB, rfl, fun h => ⟨(HFB.out h).1.1.1, (HFB.out h).1.1.2, (HFB.out h).1.2, (HFB.out h).2⟩, (((Below.refl _ _).alloc (Nat.le_refl _) _)).trans (HBWB.out.mono (by simp))⟩
        · have hloiB : ¬ (iB : Int) < (c.prs.length : Int) := by omega
          have HFB : Hid (MB ≤ 2147483647 → ((c.tbs.length ≤ 2147483647 ∧ c.prs.length ≤ 2147483647) ∧ ∀ t ∈ c.tbs, TbZ 2147483647 t) ∧ ∀ x ∈ c.prs, PcZ 2147483647 x) := fun h => ⟨(HPRB.out h).1, upto_mem (fun j g => (HPRB.out h).2 j g (by omega))⟩
          clear HPRB
          go_wp2
          go_ret
          exact ⟨MB, rfl, fun h => ⟨(HFB.out h).1.1.1, (HFB.out h).1.1.2, (HFB.out h).1.2, (HFB.out h).2⟩, (((Below.refl _ _).alloc (Nat.le_refl _) _)).trans (HBWB.out.mono (by simp))⟩
end Go.Proofs.YtkgkkcefnonejaaGreat
