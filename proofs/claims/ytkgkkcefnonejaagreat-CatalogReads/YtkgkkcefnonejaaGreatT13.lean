/- Walks of layer 8: copies. -/
import Derived.Test.YtkgkkcefnonejaaGreatT12
namespace Go.Proofs.YtkgkkcefnonejaaGreat
open Go.RowKit

theorem Tryz.infoInt : (Tryz.prog.info? 3).map (fun i => (i.zero, i.size, i.bytes)) = some (some (.int .i64 0), 1, 8) := by kernel_rfl
theorem Tryz.infoStr : (Tryz.prog.info? 9).map (fun i => (i.zero, i.size, i.bytes)) = some (some (.string ⟨#[]⟩), 1, 16) := by kernel_rfl
theorem Tryz.infoCol : (Tryz.prog.info? 62).map (fun i => (i.zero, i.size, i.bytes)) = some (some (.agg #[.string ⟨#[]⟩, .int .i64 0, .bool false]), 3, 32) := by kernel_rfl
theorem Tryz.infoIx : (Tryz.prog.info? 64).map (fun i => (i.zero, i.size, i.bytes)) = some (some (.agg #[.string ⟨#[]⟩, .slice none 0 0, .bool false]), 3, 48) := by kernel_rfl
theorem Tryz.infoPm : (Tryz.prog.info? 66).map (fun i => (i.zero, i.size, i.bytes)) = some (some (.agg #[.string ⟨#[]⟩, .int .i64 0]), 2, 24) := by kernel_rfl
theorem Tryz.infoTb : (Tryz.prog.info? 46).map (fun i => (i.zero, i.size, i.bytes)) = some (some (.agg #[.string ⟨#[]⟩, .slice none 0 0, .slice none 0 0, .int .i64 0, .slice none 0 0]), 5, 96) := by kernel_rfl
theorem Tryz.infoPc : (Tryz.prog.info? 52).map (fun i => (i.zero, i.size, i.bytes)) = some (some (.agg #[.string ⟨#[]⟩, .slice none 0 0, .slice none 0 0, .int .i64 0, .int .i64 0]), 5, 80) := by kernel_rfl

theorem clone_any (s : ByteArray) (w : World) (hs : s.size ≤ 1099511627776) : Calls Tryz.prog 112 #[.string s] w fun e w' => e = .returned (.string s) ∧ Below w.heap.size w w' := by
  go_enter Tryz.func112, Tryz.ntmps112
  go_wp2_with fail
  refine (Tryz.stringslite_Clone s w (by omega)).mono ?_
  rintro e w1 ⟨rfl, hb⟩
  go_wp2
  go_ret
  exact ⟨rfl, hb⟩

set_option maxHeartbeats 2000000 in
theorem cpCol_any (c : Col) (vs : List Value) (w : World) (hR : ColR c vs) (hs : c.nm.size ≤ 1099511627776) :
    Calls Tryz.prog 114 #[.agg vs.toArray] w fun e w' => ∃ us, e = .returned (.agg us.toArray) ∧ ColR c us ∧ Below w.heap.size w w' := by
  obtain rfl := hR
  go_enter Tryz.func114, Tryz.ntmps114
  go_wp2_with (first | (go_at_call 112; refine (clone_any _ _ hs).mono ?_; rintro e w1 ⟨rfl, hb⟩; obtain ⟨hc, hf⟩ := bcell hb; (have ka0 : w1.cell? ⟨w.heap.size, 0, none⟩ = some (.string c.nm) := (hc _ _ (by simp <;> omega)).trans (by simp)); (have fa0 : w1.frozen? ⟨w.heap.size, 0, none⟩ = false := (hf _ _ (by simp <;> omega)).trans (by simp)); (have ka1 : w1.cell? ⟨w.heap.size, 1, none⟩ = some (.int .i64 c.ty) := (hc _ _ (by simp <;> omega)).trans (by simp)); (have fa1 : w1.frozen? ⟨w.heap.size, 1, none⟩ = false := (hf _ _ (by simp <;> omega)).trans (by simp)); (have ka2 : w1.cell? ⟨w.heap.size, 2, none⟩ = some (.bool c.nn) := (hc _ _ (by simp <;> omega)).trans (by simp)); (have fa2 : w1.frozen? ⟨w.heap.size, 2, none⟩ = false := (hf _ _ (by simp <;> omega)).trans (by simp)); (have kb0 : w1.cell? ⟨w.heap.size + 1, 0, none⟩ = some (.string ⟨#[]⟩) := (hc _ _ (by simp <;> omega)).trans (by simp)); (have fb0 : w1.frozen? ⟨w.heap.size + 1, 0, none⟩ = false := (hf _ _ (by simp <;> omega)).trans (by simp)); (have kb1 : w1.cell? ⟨w.heap.size + 1, 1, none⟩ = some (.int .i64 0) := (hc _ _ (by simp <;> omega)).trans (by simp)); (have fb1 : w1.frozen? ⟨w.heap.size + 1, 1, none⟩ = false := (hf _ _ (by simp <;> omega)).trans (by simp)); (have kb2 : w1.cell? ⟨w.heap.size + 1, 2, none⟩ = some (.bool false) := (hc _ _ (by simp <;> omega)).trans (by simp)); (have fb2 : w1.frozen? ⟨w.heap.size + 1, 2, none⟩ = false := (hf _ _ (by simp <;> omega)).trans (by simp)); clear hc hf))
  have hz := hb.size
  simp at hz
  refine bodyPost_ret (v := .agg #[.string c.nm, .int .i64 c.ty, .bool c.nn]) (by simp [results, Tryz.results114, go_sem, *]) rfl ?_
  exact ⟨[.string c.nm, .int .i64 c.ty, .bool c.nn], rfl, rfl, by (repeat (first | exact Below.refl _ _ | assumption | refine Below.drew ?_ | refine below_drewN ?_ _ | refine Below.alloc ?_ (by first | omega | (simp; done) | (simp; omega)) _ | refine Below.setCell ?_ (by first | omega | (simp; done) | (simp; omega)) _ | refine Below.trans ?_ (Below.mono (by assumption) (by first | omega | (simp; done) | (simp; omega)))))⟩

set_option maxHeartbeats 2000000 in
theorem cpPm_any (c : Pm) (vs : List Value) (w : World) (hR : PmR c vs) (hs : c.nm.size ≤ 1099511627776) :
    Calls Tryz.prog 119 #[.agg vs.toArray] w fun e w' => ∃ us, e = .returned (.agg us.toArray) ∧ PmR c us ∧ Below w.heap.size w w' := by
  obtain rfl := hR
  go_enter Tryz.func119, Tryz.ntmps119
  go_wp2_with (first | (go_at_call 112; refine (clone_any _ _ hs).mono ?_; rintro e w1 ⟨rfl, hb⟩; obtain ⟨hc, hf⟩ := bcell hb; (have ka0 : w1.cell? ⟨w.heap.size, 0, none⟩ = some (.string c.nm) := (hc _ _ (by simp <;> omega)).trans (by simp)); (have fa0 : w1.frozen? ⟨w.heap.size, 0, none⟩ = false := (hf _ _ (by simp <;> omega)).trans (by simp)); (have ka1 : w1.cell? ⟨w.heap.size, 1, none⟩ = some (.int .i64 c.ty) := (hc _ _ (by simp <;> omega)).trans (by simp)); (have fa1 : w1.frozen? ⟨w.heap.size, 1, none⟩ = false := (hf _ _ (by simp <;> omega)).trans (by simp)); (have kb0 : w1.cell? ⟨w.heap.size + 1, 0, none⟩ = some (.string ⟨#[]⟩) := (hc _ _ (by simp <;> omega)).trans (by simp)); (have fb0 : w1.frozen? ⟨w.heap.size + 1, 0, none⟩ = false := (hf _ _ (by simp <;> omega)).trans (by simp)); (have kb1 : w1.cell? ⟨w.heap.size + 1, 1, none⟩ = some (.int .i64 0) := (hc _ _ (by simp <;> omega)).trans (by simp)); (have fb1 : w1.frozen? ⟨w.heap.size + 1, 1, none⟩ = false := (hf _ _ (by simp <;> omega)).trans (by simp)); clear hc hf))
  have hz := hb.size
  simp at hz
  refine bodyPost_ret (v := .agg #[.string c.nm, .int .i64 c.ty]) (by simp [results, Tryz.results119, go_sem, *]) rfl ?_
  exact ⟨[.string c.nm, .int .i64 c.ty], rfl, rfl, by (repeat (first | exact Below.refl _ _ | assumption | refine Below.drew ?_ | refine below_drewN ?_ _ | refine Below.alloc ?_ (by first | omega | (simp; done) | (simp; omega)) _ | refine Below.setCell ?_ (by first | omega | (simp; done) | (simp; omega)) _ | refine Below.trans ?_ (Below.mono (by assumption) (by first | omega | (simp; done) | (simp; omega)))))⟩

set_option maxHeartbeats 4000000 in
set_option maxRecDepth 100000 in
theorem cloneI_any (a : Option Addr) (cap : Nat) (l : List Int) (w : World) (h0 : 0 < l.length) (hl : l.length ≤ 1000000) (hr : RowR 1 IntR w a l) :
    Calls Tryz.prog 115 #[.slice a l.length cap] w fun e w' => ∃ v, e = .returned v ∧ OwnR 1 3 IntR w' w.heap.size v l ∧ Below w.heap.size w w' := by
  obtain ⟨i0, hi, hz0, hz1, hz2⟩ := info_parts Tryz.infoInt
  have HR := Lib.hid hr
  obtain ⟨b, off, v0, rfl, -, -⟩ := hr.at1 h0
  clear hr
  have HN : Hid (∀ j u, (l.map (Value.int .i64))[j]? = some u → w.cell? ((⟨b, off, none⟩ : Addr).add j) = some u) := by
    intro j u hj
    rw [List.getElem?_map] at hj
    obtain ⟨x, hx, rfl⟩ := Option.map_eq_some_iff.1 hj
    obtain ⟨hlt, rfl⟩ := List.getElem?_eq_some_iff.1 hx
    obtain ⟨b', off', v0, e, hR, c0⟩ := HR.out.at1 hlt
    simp only [Option.some.injEq, Addr.mk.injEq, and_true] at e
    obtain ⟨rfl, rfl⟩ := e
    simp only [IntR, List.cons.injEq, and_true] at hR
    rw [Addr.add_lit, ← hR]
    exact c0
  have q43 : ∀ (w : World) (a : Option Addr) (n c n' c' : Nat), (binOp .eql 43 (.slice a n c) (.slice none n' c')).run Tryz.prog w = .ok (.bool a.isNone) w := fun w a n c n' c' => Lib.run_eql_slice_nil w _ _ a n c n' c' Tryz.underlying43
  have hown := World.ownsRow_made (base := w.heap.size) (e := 3) (size := 1) w #[] 0 (Nat.le_refl _) (by unfold maxLen; omega) rfl
  have hflat : (l.map fun x => (x, [Value.int .i64 x])).flatMap (·.2) = l.map (Value.int .i64) := by
    rw [List.flatMap_map]
    exact (List.map_eq_flatMap ..).symm
  have HF := Lib.hid hflat
  clear hflat
  go_enter Tryz.func115, Tryz.ntmps115
  go_wp2_with (first | (at_builtin; refine wpList_append_own _ rfl _ _ 43 rfl w.heap.size 3 i0 (.int .i64 0) 1 8 Tryz.underlying43 hi hz0 hz1 hz2 rfl (by decide) _ 0 [] rfl hown ⟨b, off, none⟩ l.length cap (l.map (Value.int .i64)) rfl (by simp) (fun j u hj => cell_later ((Below.refl _ _).alloc (Nat.le_refl _) _) (HN.out j u hj)) (ints_oneCell .i64 l) (by unfold maxLen; omega) (by omega) (by simp) ?_; intro v' w1 hown' hgrow _))
  go_ret
  refine ⟨v', rfl, ⟨l.map fun x => (x, [Value.int .i64 x]), by rw [List.map_map]; exact List.map_id' _, fun p hp => ?_, ?_⟩, ?_⟩
  · obtain ⟨x, _, rfl⟩ := List.mem_map.1 hp
    exact ⟨rfl, rfl⟩
  · rw [HF.out]
    simpa using hown'
  · exact ((Below.refl _ _).alloc (Nat.le_refl _) _).grown hgrow (by simp) (fun k hk => by cases hk; exact Nat.le_refl _)

set_option maxHeartbeats 8000000 in
set_option maxRecDepth 100000 in
theorem ceCol_any (a : Option Addr) (cap : Nat) (l : List Col) (w : World) (hl : l.length ≤ 1000000) (hr : RowR 3 ColR w a l) (hs : ∀ c ∈ l, c.nm.size ≤ 1099511627776) :
    Calls Tryz.prog 113 #[.slice a l.length cap, .func (.func 114) #[] #[]] w fun e w' => ∃ v, e = .returned v ∧ OwnR 3 62 ColR w' w.heap.size v l ∧ Below w.heap.size w w' := by
  obtain ⟨i0, hi, hz0, hz1, hz2⟩ := info_parts Tryz.infoCol
  have HR := Lib.hid hr
  have HS := Lib.hid hs
  clear hr hs
  go_enter Tryz.func113, Tryz.ntmps113
  go_wp2
  go_loopw [5, 10] (fun v i wr => ∃ k : Nat, k ≤ l.length ∧ i = .int .i64 k ∧ OwnR 3 62 ColR wr w.heap.size v (l.take k) ∧ Below w.heap.size w wr) (fun _ i _ => l.length - (intOf i).toNat)
  case atStart => exact ⟨0, Nat.zero_le _, rfl, OwnR.nil _ _ _ _ _, Below.refl _ _⟩
  case round =>
    obtain ⟨k, hk, rfl, hown, hb⟩ := hrel
    have HO := Lib.hid hown
    have HB := Lib.hid hb
    have hsz := hb.size
    clear hown hb
    by_cases hlt : k < l.length
    · have hlti : (k : Int) < (l.length : Int) := by omega
      obtain ⟨b, off, v0, v1, v2, rfl, hR, c0, c1, c2⟩ := HR.out.at3 hlt
      have HRk := Lib.hid hR
      simp only [ColR] at hR
      simp only [List.cons.injEq, and_true] at hR
      obtain ⟨rfl, rfl, rfl⟩ := hR
      have d0 := cell_later HB.out c0
      have d1 := cell_later HB.out c1
      have d2 := cell_later HB.out c2
      clear c0 c1 c2
      go_wp2_with fail
      refine (cpCol_any l[k] _ _ HRk.out (HS.out _ (List.getElem_mem hlt))).mono ?_
      rintro e w2 ⟨us, rfl, hO, hb2⟩
      have HBw : Hid (Below wr.heap.size wr w2) := by
        show Below wr.heap.size wr w2
        (repeat (first | exact Below.refl _ _ | assumption | refine Below.drew ?_ | refine below_drewN ?_ _ | refine Below.alloc ?_ (by first | omega | (simp; done) | (simp; omega)) _ | refine Below.setCell ?_ (by first | omega | (simp; done) | (simp; omega)) _ | refine Below.trans ?_ (Below.mono (by assumption) (by first | omega | (simp; done) | (simp; omega)))))
      have HOx := Lib.hid hO
      obtain rfl := hO
      have hs2 := HBw.out.size
      obtain ⟨ps, p1, p2, p3⟩ := HO.out
      have hps : (l.take k).length = k := by rw [List.length_take]; omega
      rw [hps] at p3
      have P1 := Lib.hid p1
      have P2 := Lib.hid p2
      have hown2 := own_later p3 HBw.out
      have HOW := Lib.hid hown2
      have hbl := own_ge hown2
      have HBL := Lib.hid hbl
      clear hb2 p1 p2 p3 hps hbl d0 d1 d2 HO HRk
      go_wp2_with (first | (at_builtin; refine wpList_append_own _ rfl _ _ 42 rfl w.heap.size 62 i0 (.agg #[.string ⟨#[]⟩, .int .i64 0, .bool false]) 3 32 Tryz.underlying42 hi hz0 hz1 hz2 rfl (by decide) _ k (ps.flatMap (·.2)) rfl (hown2.alloc _) ⟨w2.heap.size, 0, none⟩ 1 1 [.string l[k].nm, .int .i64 l[k].ty, .bool l[k].nn] rfl rfl (cells_alloc _ _ _) (by intro u hu; simp only [List.mem_cons, List.not_mem_nil, or_false] at hu; rcases hu with rfl | rfl | rfl <;> rfl) (by unfold maxLen; omega) (by omega) (by simp; omega) ?_; intro v' w3 hown3 hgrow3 _))
      have HG := Lib.hid hgrow3
      have HO3 := Lib.hid hown3
      have hs3 := hgrow3.size
      simp at hs3
      clear hown3 hgrow3 hown2
      go_wp2
      go_roundw
      case rel =>
        have hkp : Keeps ([] : List TypeId) w.heap.size w2 w3 := (Keeps.of ((Below.refl _ _).alloc (Nat.le_refl _) _)).trans (Keeps.grown (HOW.out.alloc _) HG.out (by decide))
        have hkw : Keeps ([] : List TypeId) w.heap.size wr w3 := (Keeps.of HBw.out).trans hkp
        refine ⟨k + 1, by omega, by go_num, ?_, ?_⟩
        · rw [← take_snoc l k hlt]
          refine OwnR.push (n := 3) P1.out P2.out (fun _ _ h => h) HOx.out rfl ?_
          rw [List.length_take, Nat.min_eq_left (by omega)]
          exact HO3.out
        · exact (((below_two HB.out HBw.out).alloc (by omega) _).grown HG.out (by simp; omega) HBL.out)
      case measure => simp [intOf]; omega
    · have hk' : k = l.length := by omega
      subst hk'
      have HO2 := HO.out
      rw [List.take_length] at HO2
      have HO3 := Lib.hid HO2
      clear HO2 HO
      go_wp2
      go_ret
      exact ⟨_, rfl, HO3.out, HB.out⟩

set_option maxHeartbeats 8000000 in
set_option maxRecDepth 100000 in
theorem cePm_any (a : Option Addr) (cap : Nat) (l : List Pm) (w : World) (hl : l.length ≤ 1000000) (hr : RowR 2 PmR w a l) (hs : ∀ c ∈ l, c.nm.size ≤ 1099511627776) :
    Calls Tryz.prog 118 #[.slice a l.length cap, .func (.func 119) #[] #[]] w fun e w' => ∃ v, e = .returned v ∧ OwnR 2 66 PmR w' w.heap.size v l ∧ Below w.heap.size w w' := by
  obtain ⟨i0, hi, hz0, hz1, hz2⟩ := info_parts Tryz.infoPm
  have HR := Lib.hid hr
  have HS := Lib.hid hs
  clear hr hs
  go_enter Tryz.func118, Tryz.ntmps118
  go_wp2
  go_loopw [5, 10] (fun v i wr => ∃ k : Nat, k ≤ l.length ∧ i = .int .i64 k ∧ OwnR 2 66 PmR wr w.heap.size v (l.take k) ∧ Below w.heap.size w wr) (fun _ i _ => l.length - (intOf i).toNat)
  case atStart => exact ⟨0, Nat.zero_le _, rfl, OwnR.nil _ _ _ _ _, Below.refl _ _⟩
  case round =>
    obtain ⟨k, hk, rfl, hown, hb⟩ := hrel
    have HO := Lib.hid hown
    have HB := Lib.hid hb
    have hsz := hb.size
    clear hown hb
    by_cases hlt : k < l.length
    · have hlti : (k : Int) < (l.length : Int) := by omega
      obtain ⟨b, off, v0, v1, rfl, hR, c0, c1⟩ := HR.out.at2 hlt
      have HRk := Lib.hid hR
      simp only [PmR] at hR
      simp only [List.cons.injEq, and_true] at hR
      obtain ⟨rfl, rfl⟩ := hR
      have d0 := cell_later HB.out c0
      have d1 := cell_later HB.out c1
      clear c0 c1
      go_wp2_with fail
      refine (cpPm_any l[k] _ _ HRk.out (HS.out _ (List.getElem_mem hlt))).mono ?_
      rintro e w2 ⟨us, rfl, hO, hb2⟩
      have HBw : Hid (Below wr.heap.size wr w2) := by
        show Below wr.heap.size wr w2
        (repeat (first | exact Below.refl _ _ | assumption | refine Below.drew ?_ | refine below_drewN ?_ _ | refine Below.alloc ?_ (by first | omega | (simp; done) | (simp; omega)) _ | refine Below.setCell ?_ (by first | omega | (simp; done) | (simp; omega)) _ | refine Below.trans ?_ (Below.mono (by assumption) (by first | omega | (simp; done) | (simp; omega)))))
      have HOx := Lib.hid hO
      obtain rfl := hO
      have hs2 := HBw.out.size
      obtain ⟨ps, p1, p2, p3⟩ := HO.out
      have hps : (l.take k).length = k := by rw [List.length_take]; omega
      rw [hps] at p3
      have P1 := Lib.hid p1
      have P2 := Lib.hid p2
      have hown2 := own_later p3 HBw.out
      have HOW := Lib.hid hown2
      have hbl := own_ge hown2
      have HBL := Lib.hid hbl
      clear hb2 p1 p2 p3 hps hbl d0 d1 HO HRk
      go_wp2_with (first | (at_builtin; refine wpList_append_own _ rfl _ _ 49 rfl w.heap.size 66 i0 (.agg #[.string ⟨#[]⟩, .int .i64 0]) 2 24 Tryz.underlying49 hi hz0 hz1 hz2 rfl (by decide) _ k (ps.flatMap (·.2)) rfl (hown2.alloc _) ⟨w2.heap.size, 0, none⟩ 1 1 [.string l[k].nm, .int .i64 l[k].ty] rfl rfl (cells_alloc _ _ _) (by intro u hu; simp only [List.mem_cons, List.not_mem_nil, or_false] at hu; rcases hu with rfl | rfl <;> rfl) (by unfold maxLen; omega) (by omega) (by simp; omega) ?_; intro v' w3 hown3 hgrow3 _))
      have HG := Lib.hid hgrow3
      have HO3 := Lib.hid hown3
      have hs3 := hgrow3.size
      simp at hs3
      clear hown3 hgrow3 hown2
      go_wp2
      go_roundw
      case rel =>
        have hkp : Keeps ([] : List TypeId) w.heap.size w2 w3 := (Keeps.of ((Below.refl _ _).alloc (Nat.le_refl _) _)).trans (Keeps.grown (HOW.out.alloc _) HG.out (by decide))
        have hkw : Keeps ([] : List TypeId) w.heap.size wr w3 := (Keeps.of HBw.out).trans hkp
        refine ⟨k + 1, by omega, by go_num, ?_, ?_⟩
        · rw [← take_snoc l k hlt]
          refine OwnR.push (n := 2) P1.out P2.out (fun _ _ h => h) HOx.out rfl ?_
          rw [List.length_take, Nat.min_eq_left (by omega)]
          exact HO3.out
        · exact (((below_two HB.out HBw.out).alloc (by omega) _).grown HG.out (by simp; omega) HBL.out)
      case measure => simp [intOf]; omega
    · have hk' : k = l.length := by omega
      subst hk'
      have HO2 := HO.out
      rw [List.take_length] at HO2
      have HO3 := Lib.hid HO2
      clear HO2 HO
      go_wp2
      go_ret
      exact ⟨_, rfl, HO3.out, HB.out⟩

set_option maxHeartbeats 8000000 in
set_option maxRecDepth 100000 in
theorem ceStr_any (a : Option Addr) (cap : Nat) (l : List ByteArray) (w : World) (hl : l.length ≤ 1000000) (hr : RowR 1 StrR w a l) (hs : ∀ c ∈ l, c.size ≤ 1099511627776) :
    Calls Tryz.prog 120 #[.slice a l.length cap, .func (.func 112) #[] #[]] w fun e w' => ∃ v, e = .returned v ∧ OwnR 1 9 StrR w' w.heap.size v l ∧ Below w.heap.size w w' := by
  obtain ⟨i0, hi, hz0, hz1, hz2⟩ := info_parts Tryz.infoStr
  have HR := Lib.hid hr
  have HS := Lib.hid hs
  clear hr hs
  go_enter Tryz.func120, Tryz.ntmps120
  go_wp2
  go_loopw [5, 10] (fun v i wr => ∃ k : Nat, k ≤ l.length ∧ i = .int .i64 k ∧ OwnR 1 9 StrR wr w.heap.size v (l.take k) ∧ Below w.heap.size w wr) (fun _ i _ => l.length - (intOf i).toNat)
  case atStart => exact ⟨0, Nat.zero_le _, rfl, OwnR.nil _ _ _ _ _, Below.refl _ _⟩
  case round =>
    obtain ⟨k, hk, rfl, hown, hb⟩ := hrel
    have HO := Lib.hid hown
    have HB := Lib.hid hb
    have hsz := hb.size
    clear hown hb
    by_cases hlt : k < l.length
    · have hlti : (k : Int) < (l.length : Int) := by omega
      obtain ⟨b, off, v0, rfl, hR, c0⟩ := HR.out.at1 hlt
      have HRk := Lib.hid hR
      simp only [StrR] at hR
      simp only [List.cons.injEq, and_true] at hR
      obtain rfl := hR
      have d0 := cell_later HB.out c0
      clear c0
      go_wp2_with fail
      refine (clone_any l[k] _ (HS.out _ (List.getElem_mem hlt))).mono ?_
      rintro e w2 ⟨rfl, hb2⟩
      have hO : StrR l[k] [.string l[k]] := rfl
      have HBw : Hid (Below wr.heap.size wr w2) := hb2
      have HOx := Lib.hid hO
      have hs2 := HBw.out.size
      obtain ⟨ps, p1, p2, p3⟩ := HO.out
      have hps : (l.take k).length = k := by rw [List.length_take]; omega
      rw [hps] at p3
      have P1 := Lib.hid p1
      have P2 := Lib.hid p2
      have hown2 := own_later p3 HBw.out
      have HOW := Lib.hid hown2
      have hbl := own_ge hown2
      have HBL := Lib.hid hbl
      clear hb2 p1 p2 p3 hps hbl d0 HO HRk
      go_wp2_with (first | (at_builtin; refine wpList_append_own _ rfl _ _ 50 rfl w.heap.size 9 i0 (.string ⟨#[]⟩) 1 16 Tryz.underlying50 hi hz0 hz1 hz2 rfl (by decide) _ k (ps.flatMap (·.2)) rfl (hown2.alloc _) ⟨w2.heap.size, 0, none⟩ 1 1 [.string l[k]] rfl rfl (cells_alloc _ _ _) (by intro u hu; simp only [List.mem_cons, List.not_mem_nil, or_false] at hu; rcases hu with rfl <;> rfl) (by unfold maxLen; omega) (by omega) (by simp; omega) ?_; intro v' w3 hown3 hgrow3 _))
      have HG := Lib.hid hgrow3
      have HO3 := Lib.hid hown3
      have hs3 := hgrow3.size
      simp at hs3
      clear hown3 hgrow3 hown2
      go_wp2
      go_roundw
      case rel =>
        have hkp : Keeps ([] : List TypeId) w.heap.size w2 w3 := (Keeps.of ((Below.refl _ _).alloc (Nat.le_refl _) _)).trans (Keeps.grown (HOW.out.alloc _) HG.out (by decide))
        have hkw : Keeps ([] : List TypeId) w.heap.size wr w3 := (Keeps.of HBw.out).trans hkp
        refine ⟨k + 1, by omega, by go_num, ?_, ?_⟩
        · rw [← take_snoc l k hlt]
          refine OwnR.push (n := 1) P1.out P2.out (fun _ _ h => h) HOx.out rfl ?_
          rw [List.length_take, Nat.min_eq_left (by omega)]
          exact HO3.out
        · exact (((below_two HB.out HBw.out).alloc (by omega) _).grown HG.out (by simp; omega) HBL.out)
      case measure => simp [intOf]; omega
    · have hk' : k = l.length := by omega
      subst hk'
      have HO2 := HO.out
      rw [List.take_length] at HO2
      have HO3 := Lib.hid HO2
      clear HO2 HO
      go_wp2
      go_ret
      exact ⟨_, rfl, HO3.out, HB.out⟩

end Go.Proofs.YtkgkkcefnonejaaGreat
