/- The document's functions of layer 4, eleventh part: Crash. -/
import Derived.Test.YtejbelbfmchadaaE12
import Derived.Test.YtejbelbfmchadaaE5
namespace Go.Proofs.Ytejbelbfmchadaa
open Go.RowKit

theorem crash_at {ks : List Int} {q : Nat} {nm : Nm} {dt : List UInt8} {sf : Nat} {x : Int} {M : Nat} (hh : (ks.drop q).headD 0 = x) (hlt : sf < dt.length) (hM : min x.toNat (dt.length - sf) = M) : crashOne (ks.drop q) (nm, (dt, sf)) = (nm, (dt.take (sf + M), sf + M)) ∧ restOne (ks.drop q) (nm, (dt, sf)) = ks.drop (q + 1) := by
  have h := crashOne_tail (ks := ks.drop q) (p := (nm, (dt, sf))) (by simp only; omega)
  simp only [hh, keeps, hM] at h
  exact ⟨h.1, h.2.trans List.tail_drop⟩

set_option maxHeartbeats 8000000 in
set_option maxRecDepth 100000 in
theorem rcrash_any (w : World) (Z : Nat → Prop) (a : Nat) (st : St) (v : Value) (kp : Option Addr) (kcap : Nat) (ks : List Int) (h : RefAt w Z a st v) (hok : OKf st.size st.fs) (hk : Ints w kp ks) (hkl : ks.length ≤ 2147483648) (hkz : 0 < ks.length → ∀ b off, kp = some ⟨b, off, none⟩ → ¬ Z b) (hZ : ∀ k, w.heap.size ≤ k → Z k) :
    Calls Try.prog 40 #[.pointer (some ⟨a, 0, none⟩), .slice kp ks.length kcap] w fun e w' => e = .returned (.tuple #[]) ∧ (∃ v', RefAt w' Z a (crashR st ks) v') ∧ Only Z w w' := by
  obtain ⟨p, cap, rfl⟩ := own_form h.row
  have HD : Hid (RefAt w Z a st (.slice p st.fs.length cap)) := h
  have HZ : Hid (∀ k, w.heap.size ≤ k → Z k) := hZ
  have HOK : Hid (OKf st.size st.fs) := hok
  have HKZ : Hid (0 < ks.length → ∀ b off, kp = some ⟨b, off, none⟩ → ¬ Z b) := hkz
  have HK : Hid (Ints w kp ks) := hk
  have hfew := hok.few
  have hsm := hok.small
  obtain ⟨fs, hfs⟩ : ∃ fs, st.fs = fs := ⟨_, rfl⟩
  have HFS : Hid (st.fs = fs) := hfs
  have HROW : Hid (w.ownsRow 0 27 3 (.slice p fs.length cap) fs.length (fc (mid ks fs 0))) := by
    have := HD.out.row
    rw [hfs] at this
    rw [mid_zero]
    exact this
  have HCE : Hid (w.heap[a]? = some (.cells (rcells (.slice p fs.length cap) st) 70 (0, 0))) := by
    have := HD.out.cells
    rw [hfs] at this
    exact this
  rw [hfs] at hfew
  clear h hok hk hkz hZ hfs
  go_enter Try.func40, Try.ntmps40
  go_wp2
  go_loopw [4, 5] (fun c i wr => ∃ (i' q : Nat), i' ≤ fs.length ∧ q ≤ i' ∧ i = .int .i64 (i' : Int) ∧ c = .int .i64 (q : Int) ∧ restK ks (fs.take i') = ks.drop q ∧ wr.ownsRow 0 27 3 (.slice p fs.length cap) fs.length (fc (mid ks fs i')) ∧ wr.heap[a]? = some (.cells (rcells (.slice p fs.length cap) st) 70 (0, 0)) ∧ Only Z w wr) (fun _ i _ => fs.length - (intOf i).toNat)
  case atStart => exact ⟨0, 0, Nat.zero_le _, Nat.le_refl _, rfl, rfl, by simp [restK], HROW.out, HCE.out, Only.refl _ _⟩
  case round =>
    obtain ⟨i, q, hi, hq, rfl, rfl, hrest, hrow, hce, ho⟩ := hrel
    have HRS : Hid (restK ks (fs.take i) = ks.drop q) := hrest
    have HRW : Hid (wr.ownsRow 0 27 3 (.slice p fs.length cap) fs.length (fc (mid ks fs i))) := hrow
    have HC : Hid (wr.heap[a]? = some (.cells (rcells (.slice p fs.length cap) st) 70 (0, 0))) := hce
    have HO : Hid (Only Z w wr) := ho
    obtain ⟨c0, c1, c2, c3, c4, cf⟩ := rcell5 hce
    by_cases hlt : i < fs.length
    · have hlti : (i : Int) < (fs.length : Int) := by omega
      have hml : (mid ks fs i).length = fs.length := mid_length ks fs i
      have hil : i < (mid ks fs i).length := by omega
      have hmi : (mid ks fs i)[i] = fs[i] := by
        have := mid_at (ks := ks) hlt
        rw [List.getElem?_eq_getElem hil] at this
        simpa using this
      have hrow' : wr.ownsRow 0 27 3 (.slice p (mid ks fs i).length cap) (mid ks fs i).length (fc (mid ks fs i)) := by rw [hml]; exact hrow
      obtain ⟨g, rfl, d0, d1, d2⟩ := row_at hrow' hil
      obtain ⟨nm, dt, sf, hx⟩ : ∃ nm dt sf, fs[i] = (nm, (dt, sf)) := ⟨_, _, _, rfl⟩
      have hsf : sf ≤ dt.length := by
        have := HOK.out.safe fs[i] (by rw [HFS.out]; exact List.getElem_mem hlt)
        rw [hx] at this
        exact this
      have hdl : dt.length ≤ 1048576 := by
        have := HOK.out.len (p := fs[i]) (by rw [HFS.out]; exact List.getElem_mem hlt)
        rw [hx] at this
        simp only at this
        omega
      rw [hmi, hx] at d0 d1 d2
      simp only at d0 d1 d2
      have HST : Hid (∀ y, restOne (ks.drop q) fs[i] = y → restK ks (fs.take (i + 1)) = y) := fun y e => by rw [restK_succ hlt, HRS.out, e]
      have HMS : Hid ((mid ks fs i).set i (crashOne (ks.drop q) fs[i]) = mid ks fs (i + 1)) := by
        have := mid_set (ks := ks) hlt
        rw [HRS.out] at this
        exact this
      rw [hx] at HST HMS
      have df : ∀ o, wr.frozen? ⟨g, o, none⟩ = false := fun o => HRW.out.frozenAt o
      have hga : g ≠ a := fun e => by
        have := HD.out.ne
        rw [HFS.out] at this
        exact this (by rw [e]; rfl)
      have HZG : Hid (Z g) := HD.out.zone g (by rw [HFS.out]; rfl)
      have lg : g < wr.heap.size := World.block_lt_of_cell? _ _ d0
      have la : a < wr.heap.size := World.block_lt_of_cell? _ _ c1
      have hds : (⟨dt.toArray⟩ : ByteArray).size = dt.length := by simp [ByteArray.size]
      obtain ⟨D, hD⟩ : ∃ D : ByteArray, (⟨dt.toArray⟩ : ByteArray) = D := ⟨_, rfl⟩
      have HDD : Hid ((⟨dt.toArray⟩ : ByteArray) = D) := hD
      rw [hD] at d1 hds
      have HDS : Hid (D.size = dt.length) := hds
      have HIL : Hid (i < (mid ks fs i).length) := hil
      have HML : Hid ((mid ks fs i).length = fs.length) := hml
      have HLT : Hid (i < fs.length) := hlt
      have hsD : sf ≤ D.size := by omega
      have hDs : D.size ≤ 1048576 := by omega
      have HRX : Hid (wr.ownsRow 0 27 3 (.slice (some ⟨g, 0, none⟩) fs.length cap) fs.length (fc (mid ks fs i))) := HRW.out
      clear hmi hrow' hx hD hml hil hrow hce ho hrest hsf hdl c0 c2 c3 c4
      by_cases ht : sf < D.size
      · obtain ⟨T, hT⟩ : ∃ T, D.size - sf = T := ⟨_, rfl⟩
        have hTi : (D.size : Int) - (sf : Int) = (T : Int) := by omega
        have hT0 : (0 : Int) < (T : Int) := by omega
        have HT : Hid (D.size = sf + T) := by show _ = _; omega
        have hTl : T ≤ 1048576 := by omega
        clear hT
        by_cases hqk : q < ks.length
        · have hqi : (q : Int) < (ks.length : Int) := by omega
          obtain ⟨kb, koff, ekp, kc⟩ := HK.out q hqk
          have kc' : wr.cell? ⟨kb, koff + q, none⟩ = some (.int .i64 ks[q]) := by
            have hlb : kb < w.heap.size := World.block_lt_of_cell? _ _ kc
            have := HO.out.block kb hlb (HKZ.out (by omega) kb koff ekp)
            simp only [World.cell?] at kc ⊢
            rw [this]
            exact kc
          obtain ⟨x, hxk⟩ : ∃ x, ks[q] = x := ⟨_, rfl⟩
          rw [hxk] at kc'
          subst ekp
          clear kc hds
          have HHD : Hid ((ks.drop q).headD 0 = x) := by show _ = _; rw [List.drop_eq_getElem_cons hqk, ← hxk]; rfl
          clear hxk
          have lkb : kb < wr.heap.size := World.block_lt_of_cell? _ _ kc'
          by_cases hx0 : x < 0
          · have HX : Hid (crashOne (ks.drop q) (nm, (dt, sf)) = (nm, (dt.take (sf), sf)) ∧ restOne (ks.drop q) (nm, (dt, sf)) = ks.drop (q + 1)) := crash_at (x := x) (M := 0) HHD.out (by have := HDS.out; omega) (by have := HDS.out; omega)
            go_wp2
            go_region
            all_goals
              have hfr : (⟨(dt.take (sf)).toArray⟩ : ByteArray) = D.extract 0 (sf) := by rw [front, ← HDD.out]
              have hr := row_store HRX.out HIL.out (nm, (dt.take (sf), sf))
              simp only [hfr] at hr
              rw [← HX.out.1, HMS.out] at hr
              obtain ⟨W3, hW3⟩ : ∃ W3, W3 = ((wr.setCell ⟨g, i * 3, none⟩ (.string ⟨nm.toArray⟩)).setCell ⟨g, i * 3 + 1, none⟩ (.string (D.extract 0 (sf)))).setCell ⟨g, i * 3 + 2, none⟩ (.int .i64 ((sf : Nat) : Int)) := ⟨_, rfl⟩
              have hb3 : ∀ o, Below W3.heap.size W3 (W3.alloc o).drew := fun o => ((Below.refl _ _).alloc (Nat.le_refl _) _).drew
              have HNW : Hid (∀ o, (W3.alloc o).drew.ownsRow 0 27 3 (.slice (some ⟨g, 0, none⟩) fs.length cap) fs.length (fc (mid ks fs (i + 1)))) := fun o => own_later (by rw [hW3]; exact hr) (hb3 o)
              have HCN : Hid (∀ o, (W3.alloc o).drew.heap[a]? = some (.cells (rcells (.slice (some ⟨g, 0, none⟩) fs.length cap) st) 70 (0, 0))) := fun o => by
                have e : W3.heap[a]? = wr.heap[a]? := by rw [hW3, Below.heap_setCell _ _ _ _ (Ne.symm hga), Below.heap_setCell _ _ _ _ (Ne.symm hga), Below.heap_setCell _ _ _ _ (Ne.symm hga)]
                exact ((hb3 o).block a (Array.getElem?_eq_some_iff.1 (e.trans HC.out)).1).trans (e.trans HC.out)
              have HON : Hid (∀ o, Only Z w (W3.alloc o).drew) := fun o => Only.later (by rw [hW3]; exact ((HO.out.setCell (p := ⟨g, i * 3, none⟩) HZG.out _).setCell (p := ⟨g, i * 3 + 1, none⟩) HZG.out _).setCell (p := ⟨g, i * 3 + 2, none⟩) HZG.out _) (hb3 o)
              rw [← hW3]
              clear hr hW3 hb3 hfr
              go_wp2
              go_roundw
              case rel => exact ⟨i + 1, q + 1, HLT.out, by omega, by go_num, by first | rfl | go_num, HST.out _ HX.out.2, HNW.out _, HCN.out _, HON.out _⟩
              case measure => have := HLT.out; simp [intOf]; omega
          · obtain ⟨m, hm⟩ : ∃ m : Nat, x = (m : Int) := ⟨x.toNat, by omega⟩
            subst hm
            by_cases hxT : T < m
            · have hxTi : (T : Int) < (m : Int) := by omega
              have HX : Hid (crashOne (ks.drop q) (nm, (dt, sf)) = (nm, (dt.take (sf + T), sf + T)) ∧ restOne (ks.drop q) (nm, (dt, sf)) = ks.drop (q + 1)) := crash_at (x := (m : Int)) (M := T) HHD.out (by have := HDS.out; omega) (by have := HDS.out; have := HT.out; omega)
              go_wp2
              go_region
              all_goals
                have hmn : min (sf + T) D.size = sf + T := by have := HT.out; omega
                rw [hmn]
                have hfr : (⟨(dt.take (sf + T)).toArray⟩ : ByteArray) = D.extract 0 (sf + T) := by rw [front, ← HDD.out]
                have hr := row_store HRX.out HIL.out (nm, (dt.take (sf + T), sf + T))
                simp only [hfr] at hr
                rw [← HX.out.1, HMS.out] at hr
                obtain ⟨W3, hW3⟩ : ∃ W3, W3 = ((wr.setCell ⟨g, i * 3, none⟩ (.string ⟨nm.toArray⟩)).setCell ⟨g, i * 3 + 1, none⟩ (.string (D.extract 0 (sf + T)))).setCell ⟨g, i * 3 + 2, none⟩ (.int .i64 ((sf + T : Nat) : Int)) := ⟨_, rfl⟩
                have hb3 : ∀ o, Below W3.heap.size W3 (W3.alloc o).drew := fun o => ((Below.refl _ _).alloc (Nat.le_refl _) _).drew
                have HNW : Hid (∀ o, (W3.alloc o).drew.ownsRow 0 27 3 (.slice (some ⟨g, 0, none⟩) fs.length cap) fs.length (fc (mid ks fs (i + 1)))) := fun o => own_later (by rw [hW3]; exact hr) (hb3 o)
                have HCN : Hid (∀ o, (W3.alloc o).drew.heap[a]? = some (.cells (rcells (.slice (some ⟨g, 0, none⟩) fs.length cap) st) 70 (0, 0))) := fun o => by
                  have e : W3.heap[a]? = wr.heap[a]? := by rw [hW3, Below.heap_setCell _ _ _ _ (Ne.symm hga), Below.heap_setCell _ _ _ _ (Ne.symm hga), Below.heap_setCell _ _ _ _ (Ne.symm hga)]
                  exact ((hb3 o).block a (Array.getElem?_eq_some_iff.1 (e.trans HC.out)).1).trans (e.trans HC.out)
                have HON : Hid (∀ o, Only Z w (W3.alloc o).drew) := fun o => Only.later (by rw [hW3]; exact ((HO.out.setCell (p := ⟨g, i * 3, none⟩) HZG.out _).setCell (p := ⟨g, i * 3 + 1, none⟩) HZG.out _).setCell (p := ⟨g, i * 3 + 2, none⟩) HZG.out _) (hb3 o)
                rw [← hW3]
                clear hr hW3 hb3 hfr
                go_wp2
                go_roundw
                case rel => exact ⟨i + 1, q + 1, HLT.out, by omega, by go_num, by first | rfl | go_num, HST.out _ HX.out.2, HNW.out _, HCN.out _, HON.out _⟩
                case measure => have := HLT.out; simp [intOf]; omega
            · have hxTi : ¬ (T : Int) < (m : Int) := by omega
              have HX : Hid (crashOne (ks.drop q) (nm, (dt, sf)) = (nm, (dt.take (sf + m), sf + m)) ∧ restOne (ks.drop q) (nm, (dt, sf)) = ks.drop (q + 1)) := crash_at (x := (m : Int)) (M := m) HHD.out (by have := HDS.out; omega) (by have := HDS.out; have := HT.out; omega)
              go_wp2
              go_region
              all_goals
                have hmn : min (sf + m) D.size = sf + m := by have := HT.out; omega
                rw [hmn]
                have hfr : (⟨(dt.take (sf + m)).toArray⟩ : ByteArray) = D.extract 0 (sf + m) := by rw [front, ← HDD.out]
                have hr := row_store HRX.out HIL.out (nm, (dt.take (sf + m), sf + m))
                simp only [hfr] at hr
                rw [← HX.out.1, HMS.out] at hr
                obtain ⟨W3, hW3⟩ : ∃ W3, W3 = ((wr.setCell ⟨g, i * 3, none⟩ (.string ⟨nm.toArray⟩)).setCell ⟨g, i * 3 + 1, none⟩ (.string (D.extract 0 (sf + m)))).setCell ⟨g, i * 3 + 2, none⟩ (.int .i64 ((sf + m : Nat) : Int)) := ⟨_, rfl⟩
                have hb3 : ∀ o, Below W3.heap.size W3 (W3.alloc o).drew := fun o => ((Below.refl _ _).alloc (Nat.le_refl _) _).drew
                have HNW : Hid (∀ o, (W3.alloc o).drew.ownsRow 0 27 3 (.slice (some ⟨g, 0, none⟩) fs.length cap) fs.length (fc (mid ks fs (i + 1)))) := fun o => own_later (by rw [hW3]; exact hr) (hb3 o)
                have HCN : Hid (∀ o, (W3.alloc o).drew.heap[a]? = some (.cells (rcells (.slice (some ⟨g, 0, none⟩) fs.length cap) st) 70 (0, 0))) := fun o => by
                  have e : W3.heap[a]? = wr.heap[a]? := by rw [hW3, Below.heap_setCell _ _ _ _ (Ne.symm hga), Below.heap_setCell _ _ _ _ (Ne.symm hga), Below.heap_setCell _ _ _ _ (Ne.symm hga)]
                  exact ((hb3 o).block a (Array.getElem?_eq_some_iff.1 (e.trans HC.out)).1).trans (e.trans HC.out)
                have HON : Hid (∀ o, Only Z w (W3.alloc o).drew) := fun o => Only.later (by rw [hW3]; exact ((HO.out.setCell (p := ⟨g, i * 3, none⟩) HZG.out _).setCell (p := ⟨g, i * 3 + 1, none⟩) HZG.out _).setCell (p := ⟨g, i * 3 + 2, none⟩) HZG.out _) (hb3 o)
                rw [← hW3]
                clear hr hW3 hb3 hfr
                go_wp2
                go_roundw
                case rel => exact ⟨i + 1, q + 1, HLT.out, by omega, by go_num, by first | rfl | go_num, HST.out _ HX.out.2, HNW.out _, HCN.out _, HON.out _⟩
                case measure => have := HLT.out; simp [intOf]; omega
        · have hqi : ¬ (q : Int) < (ks.length : Int) := by omega
          clear hds
          have HX : Hid (crashOne (ks.drop q) (nm, (dt, sf)) = (nm, (dt.take (sf), sf)) ∧ restOne (ks.drop q) (nm, (dt, sf)) = ks.drop (q + 1)) := crash_at (x := 0) (M := 0) (by rw [List.drop_eq_nil_of_le (by omega)]; rfl) (by have := HDS.out; omega) (by have := HDS.out; simp)
          go_wp2
          go_region
          all_goals
            have hfr : (⟨(dt.take (sf)).toArray⟩ : ByteArray) = D.extract 0 (sf) := by rw [front, ← HDD.out]
            have hr := row_store HRX.out HIL.out (nm, (dt.take (sf), sf))
            simp only [hfr] at hr
            rw [← HX.out.1, HMS.out] at hr
            obtain ⟨W3, hW3⟩ : ∃ W3, W3 = ((wr.setCell ⟨g, i * 3, none⟩ (.string ⟨nm.toArray⟩)).setCell ⟨g, i * 3 + 1, none⟩ (.string (D.extract 0 (sf)))).setCell ⟨g, i * 3 + 2, none⟩ (.int .i64 ((sf : Nat) : Int)) := ⟨_, rfl⟩
            have hb3 : ∀ o, Below W3.heap.size W3 (W3.alloc o).drew := fun o => ((Below.refl _ _).alloc (Nat.le_refl _) _).drew
            have HNW : Hid (∀ o, (W3.alloc o).drew.ownsRow 0 27 3 (.slice (some ⟨g, 0, none⟩) fs.length cap) fs.length (fc (mid ks fs (i + 1)))) := fun o => own_later (by rw [hW3]; exact hr) (hb3 o)
            have HCN : Hid (∀ o, (W3.alloc o).drew.heap[a]? = some (.cells (rcells (.slice (some ⟨g, 0, none⟩) fs.length cap) st) 70 (0, 0))) := fun o => by
              have e : W3.heap[a]? = wr.heap[a]? := by rw [hW3, Below.heap_setCell _ _ _ _ (Ne.symm hga), Below.heap_setCell _ _ _ _ (Ne.symm hga), Below.heap_setCell _ _ _ _ (Ne.symm hga)]
              exact ((hb3 o).block a (Array.getElem?_eq_some_iff.1 (e.trans HC.out)).1).trans (e.trans HC.out)
            have HON : Hid (∀ o, Only Z w (W3.alloc o).drew) := fun o => Only.later (by rw [hW3]; exact ((HO.out.setCell (p := ⟨g, i * 3, none⟩) HZG.out _).setCell (p := ⟨g, i * 3 + 1, none⟩) HZG.out _).setCell (p := ⟨g, i * 3 + 2, none⟩) HZG.out _) (hb3 o)
            rw [← hW3]
            clear hr hW3 hb3 hfr
            go_wp2
            go_roundw
            case rel => exact ⟨i + 1, q + 1, HLT.out, by omega, by go_num, by first | rfl | go_num, HST.out _ HX.out.2, HNW.out _, HCN.out _, HON.out _⟩
            case measure => have := HLT.out; simp [intOf]; omega
      · have hT0 : ¬ (0 : Int) < (D.size : Int) - (sf : Int) := by omega
        have hsi : sf = D.size := by omega
        have HX : Hid (crashOne (ks.drop q) (nm, (dt, sf)) = (nm, (dt, dt.length)) ∧ restOne (ks.drop q) (nm, (dt, sf)) = ks.drop q) := crashOne_none (by simp only; omega)
        go_wp2
        go_region
        all_goals
          have hr := row_store HRX.out HIL.out (nm, (dt, dt.length))
          simp only [HDD.out] at hr
          rw [← HX.out.1, HMS.out] at hr
          obtain ⟨W3, hW3⟩ : ∃ W3, W3 = ((wr.setCell ⟨g, i * 3, none⟩ (.string ⟨nm.toArray⟩)).setCell ⟨g, i * 3 + 1, none⟩ (.string D)).setCell ⟨g, i * 3 + 2, none⟩ (.int .i64 (dt.length : Int)) := ⟨_, rfl⟩
          have hb3 : ∀ o, Below W3.heap.size W3 (W3.alloc o).drew := fun o => ((Below.refl _ _).alloc (Nat.le_refl _) _).drew
          have HNW : Hid (∀ o, (W3.alloc o).drew.ownsRow 0 27 3 (.slice (some ⟨g, 0, none⟩) fs.length cap) fs.length (fc (mid ks fs (i + 1)))) := fun o => own_later (by rw [hW3]; exact hr) (hb3 o)
          have HCN : Hid (∀ o, (W3.alloc o).drew.heap[a]? = some (.cells (rcells (.slice (some ⟨g, 0, none⟩) fs.length cap) st) 70 (0, 0))) := fun o => by
            have e : W3.heap[a]? = wr.heap[a]? := by rw [hW3, Below.heap_setCell _ _ _ _ (Ne.symm hga), Below.heap_setCell _ _ _ _ (Ne.symm hga), Below.heap_setCell _ _ _ _ (Ne.symm hga)]
            exact ((hb3 o).block a (Array.getElem?_eq_some_iff.1 (e.trans HC.out)).1).trans (e.trans HC.out)
          have HON : Hid (∀ o, Only Z w (W3.alloc o).drew) := fun o => Only.later (by rw [hW3]; exact ((HO.out.setCell (p := ⟨g, i * 3, none⟩) HZG.out _).setCell (p := ⟨g, i * 3 + 1, none⟩) HZG.out _).setCell (p := ⟨g, i * 3 + 2, none⟩) HZG.out _) (hb3 o)
          rw [← hW3]
          clear hr hW3 hb3
          go_wp2
          go_roundw
          case rel => exact ⟨i + 1, q, HLT.out, by omega, by go_num, by first | rfl | go_num, HST.out _ HX.out.2, HNW.out _, HCN.out _, HON.out _⟩
          case measure => have := HLT.out; simp [intOf]; omega
    · have hi' : i = fs.length := by omega
      subst hi'
      rw [mid_end] at hrow
      have HRW2 : Hid (wr.ownsRow 0 27 3 (.slice p fs.length cap) fs.length (fc (crashL ks fs))) := hrow
      clear hrow hce ho hrest HRW
      go_wp2
      go_end0
      have hne : ∀ g, (Value.slice p fs.length cap).ownBlock = some g → g ≠ a := fun g e e' => by
        have := HD.out.ne
        rw [HFS.out] at this
        exact this (by rw [← e']; exact e)
      have hL : (crashL ks fs).length = fs.length := crashL_length ks fs
      refine ⟨rfl, ⟨.slice p fs.length cap, ?_, HD.out.za, ?_, fun g e => HD.out.zone g (by rw [HFS.out]; exact e), ?_, ?_⟩, (HO.out.setCell HD.out.za _).setCell HD.out.za _⟩
      · rw [heap_setCell_same _ a 2 _ _ _ (heap_setCell_same wr a 3 _ _ _ HC.out)]
        rfl
      · show World.ownsRow _ 0 27 3 _ (crashL ks st.fs).length (fc (crashL ks st.fs))
        rw [HFS.out, hL]
        exact own_kept HRW2.out (fun g e => (Below.heap_setCell _ _ _ _ (hne g e)).trans (Below.heap_setCell _ _ _ _ (hne g e)))
      · have := (HOK.out.crash ks).sorted
        exact this
      · show (crashL ks st.fs).length ≤ 1000
        rw [HFS.out, hL]
        omega
end Go.Proofs.Ytejbelbfmchadaa
