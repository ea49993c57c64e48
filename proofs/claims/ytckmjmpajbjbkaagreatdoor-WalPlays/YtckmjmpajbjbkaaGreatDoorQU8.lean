/- Walks of the document's log, eighth part: Truncate. -/
import Derived.Test.YtckmjmpajbjbkaaGreatDoorY5
import Derived.Test.YtckmjmpajbjbkaaGreatDoorY4
import Derived.BigRegion
namespace Go.Proofs.YtckmjmpajbjbkaaGreatDoor
open Go.RowKit

def lenG (l : Nat) (w : World) : Nat := match w.cell? ⟨l, 2, none⟩ with
  | some (.slice _ n _) => n
  | _ => 0
theorem GAt.len {w : World} {Y : Nat → Prop} {l c : Nat} {g : Lg} {v2 v4 : Value} (h : GAt w Y l c g v2 v4) : lenG l w = g.segs.length := by
  have e := h.gc.c2
  obtain ⟨p, cap, rfl, _⟩ := h.starts.form
  unfold lenG
  rw [e]
  exact stV_length _
/-- The rows from a segment on. -/
theorem GAt.cut {w : World} {Y : Nat → Prop} {l c : Nat} {g : Lg} {b off n cap : Nat} {p4 : Option Addr} {m cap4 : Nat} {s : Sg} {r : List Sg} (h : GAt w Y l c { g with segs := s :: r } (.slice (some ⟨b, off, none⟩) n cap) (.slice p4 m cap4)) {v4' : Value} (hv : Rw w v4' (reV (recsL r))) (ho : ∀ k, v4'.ownBlock = some k → (Value.slice p4 m cap4).ownBlock = some k) :
    GAt ((w.setCell ⟨l, 4, none⟩ v4').setCell ⟨l, 2, none⟩ (.slice (some ⟨b, off + 1, none⟩) (n - 1) (cap - 1))) Y l c { g with segs := r } (.slice (some ⟨b, off + 1, none⟩) (n - 1) (cap - 1)) v4' ∧ Only Y w ((w.setCell ⟨l, 4, none⟩ v4').setCell ⟨l, 2, none⟩ (.slice (some ⟨b, off + 1, none⟩) (n - 1) (cap - 1))) := by
  have hk : ∀ k, k ≠ l → ((w.setCell ⟨l, 4, none⟩ v4').setCell ⟨l, 2, none⟩ (.slice (some ⟨b, off + 1, none⟩) (n - 1) (cap - 1))).heap[k]? = w.heap[k]? := fun k hk => (set_far hk).trans (set_far hk)
  have hs2 : Rw w (.slice (some ⟨b, off + 1, none⟩) (n - 1) (cap - 1)) (stV r) := by
    have := h.starts.cut (k := 1) (by simp [stV])
    simpa [stV] using this
  have e2 : ∀ k, (Value.slice (some ⟨b, off + 1, none⟩) (n - 1) (cap - 1)).ownBlock = some k → (Value.slice (some ⟨b, off, none⟩) n cap).ownBlock = some k := fun k e => e
  refine ⟨⟨?_, h.zl, hs2.kept fun k e => hk k (h.z2 k (e2 k e)).2.2, hv.kept fun k e => hk k (h.z4 k (ho k e)).2.2, fun k e => ?_, fun k e => ?_, fun k e e' => h.apart k (e2 k e) (ho k e')⟩, ((Only.refl Y w).setCell (p := ⟨l, 4, none⟩) h.zl _).setCell (p := ⟨l, 2, none⟩) h.zl _⟩
  · rw [heap_setCell_at (heap_setCell_at h.cells v4')]
    simp [gcells]
  · rw [set_size, set_size]
    exact h.z2 k (e2 k e)
  · rw [set_size, set_size]
    exact h.z4 k (ho k e)
theorem truncG_steps : ∀ (P : Int) (l : List Sg) (st : St), (truncG P st l).2.1.steps ≤ st.steps + l.length
  | P, [], st => by simp [truncG]
  | P, [s], st => by simp [truncG]
  | P, s :: t :: r, st => by
    rw [truncG]
    have h1 := remR_stp st (nameN s.1)
    split
    · split
      · simp only [List.length_cons]
        omega
      · have := truncG_steps P (t :: r) (remR st (nameN s.1)).2
        simp only [List.length_cons] at this ⊢
        omega
    · simp

set_option maxHeartbeats 8000000 in
set_option maxRecDepth 100000 in
theorem gtrunc_any (w : World) (X : Nat → Prop) (l c : Nat) (st : St) (g : Lg) (h : IsG w X l c st g) (hX : ∀ k, w.heap.size ≤ k → X k) (hst : st.steps < 4611680000000000000) (P : Int) :
    Calls Tryz.prog 40 #[.pointer (some ⟨l, 0, none⟩), .int .i64 P] w fun e w' => e = .returned (.int .i64 (truncL st g P).1) ∧ IsG w' X l c (truncL st g P).2.1 (truncL st g P).2.2 ∧ Only X w w' := by
  obtain ⟨v, v2, v4, h⟩ := h
  have HI : Hid (IsGE w X l c st g v v2 v4) := h
  have HX : Hid (∀ k, w.heap.size ≤ k → X k) := hX
  obtain ⟨Y, hL⟩ := h.at
  have c5 := hL.gc.c5
  have HLN : Hid (g.segs.length ≤ 2000000000064) := h.ok.segs_le
  clear h hX hL
  by_cases h1 : P < 0
  · have HE : Hid (truncL st g P = (1, st, g)) := truncL_bad (Or.inl h1)
    go_enter Tryz.func40, Tryz.ntmps40
    go_wp2
    go_ret
    rw [HE.out]
    exact ⟨rfl, HI.out.is, Only.refl _ _⟩
  by_cases h2 : (g.safe : Int) < P
  · have HE : Hid (truncL st g P = (1, st, g)) := truncL_bad (Or.inr h2)
    go_enter Tryz.func40, Tryz.ntmps40
    go_wp2
    go_ret
    rw [HE.out]
    exact ⟨rfl, HI.out.is, Only.refl _ _⟩
  have HE : Hid (truncL st g P = ((truncG P st g.segs).1, (truncG P st g.segs).2.1, { g with segs := (truncG P st g.segs).2.2 })) := truncL_go (fun e => e.elim h1 h2)
  obtain ⟨T, hT⟩ : ∃ T, truncG P st g.segs = T := ⟨_, rfl⟩
  have HT : Hid (truncG P st g.segs = T) := hT
  rw [HE.out, hT]
  clear hT
  go_enter Tryz.func40, Tryz.ntmps40
  go_wp2
  go_loopw [5] (fun _ wr => ∃ (stk : St) (v v2 v4 : Value) (es : List Sg), IsGE wr X l c stk { g with segs := es } v v2 v4 ∧ Only X w wr ∧ truncG P stk es = T ∧ stk.steps + es.length ≤ st.steps + g.segs.length) (fun _ wr => lenG l wr)
  case atStart => exact ⟨st, v, v2, v4, g.segs, HI.out, Only.refl _ _, HT.out, Nat.le_refl _⟩
  case round =>
    obtain ⟨stk, v, v2, v4, es, hi1, ho1, htr, hsp⟩ := hrel
    have HI1 : Hid (IsGE wr X l c stk { g with segs := es } v v2 v4) := hi1
    have HO1 : Hid (Only X w wr) := ho1
    have HTR : Hid (truncG P stk es = T) := htr
    obtain ⟨Y1, hL1⟩ := hi1.at
    have HLEN : Hid (lenG l wr = es.length) := hL1.len
    have hm : es.length ≤ 2000000000064 := hi1.ok.segs_le
    have hrl : (recsL es).length ≤ 2000000000000 := by
      have k1 := hi1.ok.len
      have k2 := hi1.ok.next_le
      simp only at k1
      omega
    have z1 := ho1.size
    have hsteps : stk.steps < 4611686018427387904 := by have := HLN.out; omega
    have HSP : Hid (stk.steps + es.length ≤ st.steps + g.segs.length) := hsp
    clear hi1 ho1 htr hsp
    match es, HI1, HTR, hL1, HLEN, hm, HSP, hrl with
    | [], HI1, HTR, hL1, _, _, _, _ =>
      have c2 := hL1.gc.c2
      obtain ⟨p, cap, rfl, _⟩ := hL1.starts.form
      simp only [stV, List.map_nil, List.length_nil] at c2
      clear hL1
      go_wp2
      go_ret
      rw [← HTR.out]
      exact ⟨rfl, HI1.out.is, HO1.out⟩
    | [x], HI1, HTR, hL1, _, _, _, _ =>
      have c2 := hL1.gc.c2
      obtain ⟨p, cap, rfl, _⟩ := hL1.starts.form
      simp only [stV, List.map_cons, List.map_nil, List.length_singleton] at c2
      clear hL1
      go_wp2
      go_ret
      rw [← HTR.out]
      exact ⟨rfl, HI1.out.is, HO1.out⟩
    | s :: t :: r, HI1, HTR, hL1, HLEN, hm, HSP, hrl =>
      have c2 := hL1.gc.c2
      have c0 := hL1.gc.c0
      obtain ⟨b, off, cap, rfl, hcp, _, _, hcell⟩ := hL1.starts.at (by simp [stV])
      have d0 := hcell 0 (by simp [stV])
      have d1 := hcell 1 (by simp [stV])
      simp only [stV, List.map_cons, List.getElem_cons_zero, List.getElem_cons_succ, Nat.add_zero, List.length_cons, List.length_map] at c2 d0 d1 hm hcp
      have hs1 : s.1 < 1000000000000 := HI1.out.ok.low s (by simp)
      have ht1 : t.1 < 1000000000000 := HI1.out.ok.low t (by simp)
      have hrow : t.1 = s.1 + s.2.length := HI1.out.ok.row.1
      have g1 : (1 : Int) < ((r.length : Int) + 1) + 1 := by omega
      have g2 : decide ((1 : Int) < ((r.length : Int) + 1) + 1) = true := decide_eq_true g1
      have g3 : (0 : Int) < (r.length : Int) + 1 + 1 := by omega
      clear hcell
      by_cases hle : (t.1 : Int) ≤ P
      · obtain ⟨p4, cap4, rfl, hc4, _⟩ := hL1.recs.form
        simp only [stV, List.map_cons, List.length_cons, List.length_map, reV_length] at hL1
        have HL1 : Hid (GAt wr Y1 l c { g with segs := s :: t :: r } (.slice (some ⟨b, off, none⟩) (r.length + 1 + 1) cap) (.slice p4 (recsL (s :: t :: r)).length cap4)) := hL1
        have HIa : Hid (IsGE wr X l c stk { g with segs := s :: t :: r } v (.slice (some ⟨b, off, none⟩) (r.length + 1 + 1) cap) (.slice p4 (recsL (s :: t :: r)).length cap4)) := by
          have := HI1.out
          simp only [stV, List.map_cons, List.length_cons, List.length_map, reV_length] at this
          exact this
        clear hL1 HI1
        go_wp2
        go_region_held3 (fun w' => w'.cell? ⟨l, 0, none⟩ = some (.pointer (some ⟨c, 0, none⟩)) ∧ w'.cell? ⟨l, 2, none⟩ = some (.slice (some ⟨b, off, none⟩) (r.length + 1 + 1) cap) ∧ w'.cell? ⟨b, off, none⟩ = some (.int .i64 (s.1 : Int))) (go_simp) (first
          | (go_at_call 65; refine (gname_any s.1 _ (by omega)).mono ?_; rintro e w3 ⟨rfl, rfl⟩)
          | (go_at_call 73; refine (gdremove_any (HIa.out.later ((Below.refl _ _).drew)) (fun k hk => HX.out k (Nat.le_trans z1 hk)) hsteps ⟨(nameN s.1).toArray⟩ (gnm_size _)).mono ?_; rintro e w2 ⟨rfl, ⟨v', hi2⟩, ho2⟩; simp only at hi2 ⊢; (have HI2 : Hid (IsGE w2 X l c (remR stk (nameN s.1)).2 { g with segs := s :: t :: r } v' (.slice (some ⟨b, off, none⟩) (r.length + 1 + 1) cap) (.slice p4 (recsL (s :: t :: r)).length cap4)) := hi2); (obtain ⟨Y2, hL2⟩ := hi2.at); (have q0 := hL2.gc.c0); (have q2 := hL2.gc.c2); (have q5 : w2.cell? ⟨b, off, none⟩ = some (.int .i64 (s.1 : Int)) := by (obtain ⟨b', off', cap', eb, _, _, _, hcl⟩ := hL2.starts.at (by simp [stV])); simp only [Value.slice.injEq, Option.some.injEq, Addr.mk.injEq, and_true] at eb; (obtain ⟨⟨rfl, rfl⟩, _⟩ := eb); simpa [stV] using hcl 0 (by simp [stV])); clear hi2 hL2))
        all_goals
          have HO2 : Hid (Only X w w2) := HO1.out.trans ((Only.of ((Below.refl _ _).drew)).trans ho2)
          have z2 := HO2.out.size
          clear ho2 q0 q2 q5 c0 c2 d0 d1
          by_cases he : (remR stk (nameN s.1)).1 = 0
          · have HR : Hid (truncG P (remR stk (nameN s.1)).2 (t :: r) = T) := by
              rw [← HTR.out]
              exact (truncG_on hle he).symm
            have HS2 := remR_stp stk (nameN s.1)
            have HSS : Hid ((remR stk (nameN s.1)).2.steps + (t :: r).length ≤ st.steps + g.segs.length) := by
              have := HSP.out
              simp only [List.length_cons] at this ⊢
              have h3 : (remR stk (nameN s.1)).2.steps + (r.length + 1) ≤ st.steps + g.segs.length := by omega
              exact h3
            rw [he]
            obtain ⟨Y3, hL3, hY3, hcl⟩ := HI2.out.own (fun k hk => HX.out k (Nat.le_trans z2 hk))
            have HCL : Hid (∀ w1 g' v2' v4', GAt w1 Y3 l c g' v2' v4' → LgW g' → Only Y3 w2 w1 → IsGE w1 X l c (remR stk (nameN s.1)).2 g' v' v2' v4' ∧ Only X w2 w1) := hcl
            have e2 := hL3.gc.c2
            have e4 := hL3.gc.c4
            have ef := hL3.gc.fz
            obtain ⟨b', off', cap', eb, _, _, _, hcl2⟩ := hL3.starts.at (by simp [stV])
            simp only [Value.slice.injEq, Option.some.injEq, Addr.mk.injEq, and_true] at eb
            obtain ⟨⟨rfl, rfl⟩, hxx⟩ := eb
            clear hxx
            have e5 : w2.cell? ⟨b, off, none⟩ = some (.int .i64 (s.1 : Int)) := by simpa [stV] using hcl2 0 (by simp [stV])
            have e6 : w2.cell? ⟨b, off + 1, none⟩ = some (.int .i64 (t.1 : Int)) := by simpa [stV] using hcl2 1 (by simp [stV])
            have hml : s.2.length + (recsL (t :: r)).length = (recsL (s :: t :: r)).length := by simp [recsL]
            have hdr : (reV (recsL (s :: t :: r))).drop s.2.length = reV (recsL (t :: r)) := by simp [reV, recsL]
            have hLm := hL3.recs
            obtain ⟨m, hmm⟩ : ∃ m, (recsL (s :: t :: r)).length = m := ⟨_, rfl⟩
            rw [hmm] at hml e4 hL3 hLm
            have HLL : Hid ((reV (recsL (s :: t :: r))).length = m) := (reV_length _).trans hmm
            have HL3 : Hid (GAt w2 Y3 l c { g with segs := s :: t :: r } (.slice (some ⟨b, off, none⟩) (r.length + 1 + 1) cap) (.slice p4 m cap4)) := hL3
            have HDR : Hid ((reV (recsL (s :: t :: r))).drop s.2.length = reV (recsL (t :: r))) := hdr
            have hkm : s.2.length ≤ m := by omega
            have f1 : (t.1 : Int) - (s.1 : Int) = (s.2.length : Int) := by omega
            have f2 : (0 : Int) ≤ (s.2.length : Int) := by omega
            have f3 : (s.2.length : Int) ≤ (m : Int) := by omega
            have fw : IntKind.i64.wrap ((t.1 : Int) - (s.1 : Int)) = (s.2.length : Int) := by rw [IntKind.wrap_i64]; omega
            have f4 : (1 : Int) ≤ (r.length : Int) + 1 + 1 := by omega
            have hmc : m ≤ cap4 := by
              obtain ⟨_, _, e, h1, _⟩ := hL3.recs.form
              simp only [Value.slice.injEq] at e
              obtain ⟨_, h2, h3⟩ := e
              omega
            have HW : Hid (LgW { { g with segs := s :: t :: r } with segs := t :: r }) := HI2.out.ok.tail rfl
            rcases hL3.recs.base with ⟨rfl, rfl, rfl, _⟩ | ⟨b4, o4, rfl⟩
            · have hs0 : s.2.length = 0 := by omega
              have HVN : Hid (Rw w2 (.slice none 0 0) (reV (recsL (t :: r)))) := by
                have e : reV (recsL (t :: r)) = [] := List.eq_nil_of_length_eq_zero (by rw [reV_length]; omega)
                rw [e]
                exact Rw.nil _
              clear hL3 hY3 hcl he HS2 hcl2 hmm hml hdr hLm hL1 HI1
              go_wp2
              go_region
              all_goals
                go_wp2
                go_roundw
                case rel =>
                  obtain ⟨t1, t2⟩ := HL3.out.cut HVN.out (fun k e => e)
                  obtain ⟨t3, t4⟩ := HCL.out _ _ _ _ t1 HW.out t2
                  exact ⟨_, _, _, _, t :: r, t3.later ((Below.refl _ _).drew), (HO2.out.trans t4).drew, HR.out, HSS.out⟩
                case measure =>
                  obtain ⟨t1, t2⟩ := HL3.out.cut HVN.out (fun k e => e)
                  have e1 := t1.len
                  have e2 := HLEN.out
                  rw [e2]
                  exact Nat.lt_of_le_of_lt (Nat.le_of_eq e1) (by simp)
            · have HV4 : Hid (Rw w2 (.slice (if cap4 = s.2.length then some ⟨b4, o4, none⟩ else some ⟨b4, o4 + s.2.length, none⟩) (m - s.2.length) (cap4 - s.2.length)) (reV (recsL (t :: r)))) := by
                have := hLm.cutI (k := s.2.length) (by rw [HLL.out]; exact hkm)
                rw [HDR.out] at this
                exact this
              have HOB : Hid (∀ k, (Value.slice (if cap4 = s.2.length then some ⟨b4, o4, none⟩ else some ⟨b4, o4 + s.2.length, none⟩) (m - s.2.length) (cap4 - s.2.length)).ownBlock = some k → (Value.slice (some ⟨b4, o4, none⟩) m cap4).ownBlock = some k) := fun k e => by
                by_cases hc : cap4 = s.2.length
                · rw [if_pos hc] at e
                  exact e
                · rw [if_neg hc] at e
                  exact e
              clear hL3 hY3 hcl he HS2 hcl2 hmm hml hdr hLm hL1 HI1
              go_wp2
              go_region
              all_goals
                go_wp2
                go_roundw
                case rel =>
                  obtain ⟨t1, t2⟩ := HL3.out.cut HV4.out HOB.out
                  obtain ⟨t3, t4⟩ := HCL.out _ _ _ _ t1 HW.out t2
                  exact ⟨_, _, _, _, t :: r, t3.later ((Below.refl _ _).drew), (HO2.out.trans t4).drew, HR.out, HSS.out⟩
                case measure =>
                  obtain ⟨t1, t2⟩ := HL3.out.cut HV4.out HOB.out
                  have e1 := t1.len
                  have e2 := HLEN.out
                  rw [e2]
                  exact Nat.lt_of_le_of_lt (Nat.le_of_eq e1) (by simp)
          · have HR : Hid (T = ((remR stk (nameN s.1)).1, (remR stk (nameN s.1)).2, s :: t :: r)) := by
              rw [← HTR.out]
              exact truncG_err hle he
            go_wp2
            go_ret
            rw [HR.out]
            exact ⟨rfl, HI2.out.is, HO2.out⟩
      · have HR : Hid (T = (0, stk, s :: t :: r)) := by
          rw [← HTR.out]
          exact truncG_stop hle
        clear hL1
        go_wp2
        go_ret
        rw [HR.out]
        exact ⟨rfl, HI1.out.is, HO1.out⟩
end Go.Proofs.YtckmjmpajbjbkaaGreatDoor
