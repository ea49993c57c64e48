/- Walks of layer 4, twelfth part: rightNumbers, rightNames, haveRoom. -/
import Derived.Test.YtckmjmpajbjbkaaGreatDoorD10
import Derived.Test.YtckmjmpajbjbkaaGreatDoorM43
namespace Go.Proofs.YtckmjmpajbjbkaaGreatDoor
open Go.RowKit

/-- The cells of files that are handed in. -/
def FRow (w : World) (p : Option Addr) (l : List FV) : Prop := ∀ i (h : i < l.length), ∃ b off, p = some ⟨b, off, none⟩ ∧ w.cell? ⟨b, off + i * 3, none⟩ = some (.string (l[i]).1) ∧ w.cell? ⟨b, off + i * 3 + 1, none⟩ = some (.string (l[i]).2.1) ∧ w.cell? ⟨b, off + i * 3 + 2, none⟩ = some (.int .i64 (l[i]).2.2)
theorem FRow.nil (w : World) (p : Option Addr) : FRow w p [] := fun i h => absurd h (by simp)
theorem all_upto {α : Type} {q : α → Bool} {l : List α} {k : Nat} (hk : k < l.length) (h : (l.take k).all q = true) (h' : q l[k] = true) : (l.take (k + 1)).all q = true := by
  rw [List.take_succ_eq_append_getElem hk, List.all_append, h]
  simp [h']
theorem all_not {α : Type} {q : α → Bool} {l : List α} {k : Nat} (hk : k < l.length) (h' : q l[k] = false) : l.all q = false := by
  rw [List.all_eq_false]
  exact ⟨l[k], List.getElem_mem hk, by simp [h']⟩

set_option maxHeartbeats 4000000 in
set_option maxRecDepth 100000 in
theorem rnum_any (size : Int) (p : Option Addr) (cap : Nat) (l : List FV) (w : World) (hl : l.length ≤ 2147483648) (hr : FRow w p l) :
    Calls Tryz.prog 26 #[.int .i64 size, .slice p l.length cap] w fun e w' => e = .returned (.bool (rNum size l)) ∧ Below w.heap.size w w' := by
  have HR : Hid (FRow w p l) := hr
  clear hr
  by_cases h1 : size < 0
  · have HE : Hid (rNum size l = false) := by
      have : ¬ 0 ≤ size := by omega
      show rNum size l = false
      simp [rNum, this]
    go_enter Tryz.func26, Tryz.ntmps26
    go_wp2
    all_goals go_ret
    all_goals exact ⟨ret_bool HE.out.symm, Below.refl _ _⟩
  · by_cases h2 : 1048576 < size
    · have HE : Hid (rNum size l = false) := by
        have : ¬ size ≤ 1048576 := by omega
        show rNum size l = false
        simp [rNum, this]
      go_enter Tryz.func26, Tryz.ntmps26
      go_wp2
      all_goals go_ret
      all_goals exact ⟨ret_bool HE.out.symm, Below.refl _ _⟩
    · have HE : Hid (rNum size l = l.all okNum) := by
        have a1 : 0 ≤ size := by omega
        have a2 : size ≤ 1048576 := by omega
        show rNum size l = l.all okNum
        simp [rNum, a1, a2]
      go_enter Tryz.func26, Tryz.ntmps26
      go_wp2
      go_loopw [15] (fun i wr => ∃ k : Nat, k ≤ l.length ∧ i = .int .i64 k ∧ (l.take k).all okNum = true ∧ Below w.heap.size w wr) (fun i _ => l.length - (intOf i).toNat)
      case atStart => exact ⟨0, Nat.zero_le _, rfl, by simp, Below.refl _ _⟩
      case round =>
        obtain ⟨k, hk, rfl, hall, hb⟩ := hrel
        have HA : Hid ((l.take k).all okNum = true) := hall
        clear hall
        have hsz := hb.size
        by_cases hlt : k < l.length
        · have hlti : (k : Int) < (l.length : Int) := by omega
          obtain ⟨b, off, rfl, c0, c1, c2⟩ := HR.out k hlt
          have d0 := cell_later hb c0
          have d1 := cell_later hb c1
          have d2 := cell_later hb c2
          obtain ⟨nm, dt, sf, hf⟩ : ∃ nm dt sf, l[k] = (nm, dt, sf) := ⟨_, _, _, rfl⟩
          have HF : Hid (l[k] = (nm, dt, sf)) := hf
          rw [hf] at d0 d1 d2
          simp only at d0 d1 d2
          clear c0 c1 c2 hf
          by_cases g1 : sf < 0
          · have HN : Hid (l.all okNum = false) := all_not hlt (by
              have : ¬ 0 ≤ sf := by omega
              rw [HF.out]
              simp [okNum, this])
            go_wp2
            all_goals go_ret
            all_goals exact ⟨ret_bool (by rw [HE.out, HN.out]), by (repeat (first | exact Below.refl _ _ | assumption | refine Below.drew ?_ | refine below_drewN ?_ _ | refine Below.alloc ?_ (by first | omega | (simp; done) | (simp; omega)) _ | refine Below.setCell ?_ (by first | omega | (simp; done) | (simp; omega)) _ | refine Below.trans ?_ (Below.mono (by assumption) (by first | omega | (simp; done) | (simp; omega)))))⟩
          · by_cases g2 : (dt.size : Int) < sf
            · have HN : Hid (l.all okNum = false) := all_not hlt (by
                have : ¬ sf ≤ (dt.size : Int) := by omega
                rw [HF.out]
                simp [okNum, this])
              go_wp2
              all_goals go_ret
              all_goals exact ⟨ret_bool (by rw [HE.out, HN.out]), by (repeat (first | exact Below.refl _ _ | assumption | refine Below.drew ?_ | refine below_drewN ?_ _ | refine Below.alloc ?_ (by first | omega | (simp; done) | (simp; omega)) _ | refine Below.setCell ?_ (by first | omega | (simp; done) | (simp; omega)) _ | refine Below.trans ?_ (Below.mono (by assumption) (by first | omega | (simp; done) | (simp; omega)))))⟩
            · have HN : Hid ((l.take (k + 1)).all okNum = true) := all_upto hlt HA.out (by
                have a1 : 0 ≤ sf := by omega
                have a2 : sf ≤ (dt.size : Int) := by omega
                rw [HF.out]
                simp [okNum, a1, a2])
              go_wp2
              go_roundw
              case rel => exact ⟨k + 1, by omega, by go_num, HN.out, by (repeat (first | exact Below.refl _ _ | assumption | refine Below.drew ?_ | refine below_drewN ?_ _ | refine Below.alloc ?_ (by first | omega | (simp; done) | (simp; omega)) _ | refine Below.setCell ?_ (by first | omega | (simp; done) | (simp; omega)) _ | refine Below.trans ?_ (Below.mono (by assumption) (by first | omega | (simp; done) | (simp; omega)))))⟩
              case measure => simp [intOf]; omega
        · have hk' : k = l.length := by omega
          subst hk'
          go_wp2
          go_ret
          refine ⟨ret_bool ?_, hb⟩
          have := HA.out
          rw [List.take_length] at this
          rw [HE.out, this]

def rawI (v : Value) : Option (DataW Value × List MemPlace) := some (.held v, [])
theorem size_put {l : List (Nm × Value)} (h : srt l) (k : Nm) (v : Value) : Maps.size ((mapD l).put (.string k) (.held v)) = (putL l k v).length := by rw [mapD_put h, mapD_size]

set_option maxHeartbeats 4000000 in
set_option maxRecDepth 100000 in
theorem rnam_any (p : Option Addr) (cap : Nat) (l : List FV) (w : World) (hl : l.length ≤ 2147483648) (hr : FRow w p l) :
    Calls Tryz.prog 27 #[.slice p l.length cap] w fun e w' => e = .returned (.bool (rNam l)) ∧ Below w.heap.size w w' := by
  have HR : Hid (FRow w p l) := hr
  have hmm := @run_makeMap Tryz.prog
  clear hr
  go_enter Tryz.func27, Tryz.ntmps27
  go_wp2
  go_loopw [9] (fun i wr => ∃ (k : Nat) (m : List (Nm × Value)), k ≤ l.length ∧ i = .int .i64 k ∧ (l.take k).all (fun f => nmOk f.nm) = true ∧ wr.ownsMap Tryz.prog 9 rawI w.heap.size k (mapD m) ∧ mapL (fun _ => ()) m = metL (l.take k) ∧ Below w.heap.size w wr ∧ w.heap.size < wr.heap.size) (fun i _ => l.length - (intOf i).toNat)
  case atStart => exact ⟨0, [], Nat.zero_le _, rfl, by simp, World.ownsMap_made _ _ _ _, rfl, (Below.refl _ _).alloc (Nat.le_refl _) _, by simp⟩
  case round =>
    clear hmm
    obtain ⟨k, m, hk, rfl, hall, hown, hmet, hb, hwr⟩ := hrel
    have HA : Hid ((l.take k).all (fun f => nmOk f.nm) = true) := hall
    have HM : Hid (mapL (fun _ => ()) m = metL (l.take k)) := hmet
    clear hall hmet
    have hsz := hb.size
    by_cases hlt : k < l.length
    · have hlti : (k : Int) < (l.length : Int) := by omega
      obtain ⟨b, off, rfl, c0, c1, c2⟩ := HR.out k hlt
      have d0 := cell_later hb c0
      have d1 := cell_later hb c1
      have d2 := cell_later hb c2
      obtain ⟨nm, dt, sf, hf⟩ : ∃ nm dt sf, l[k] = (nm, dt, sf) := ⟨_, _, _, rfl⟩
      have HF : Hid (l[k] = (nm, dt, sf)) := hf
      rw [hf] at d0 d1 d2
      simp only at d0 d1 d2
      clear c0 c1 c2 hf
      cases hn : nmOk nm.data.toList with
      | false =>
        have HN : Hid (rNam l = false) := by
          have := all_not (q := fun f : FV => nmOk f.nm) hlt (by rw [HF.out]; exact hn)
          show rNam l = false
          simp [rNam, this]
        go_wp2_with (first | (go_at_call 62; refine (rname_any nm _).mono ?_; rintro e w1 ⟨rfl, rfl⟩; rw [hn]))
        go_ret
        exact ⟨ret_bool HN.out.symm, by (repeat (first | exact Below.refl _ _ | assumption | refine Below.drew ?_ | refine below_drewN ?_ _ | refine Below.alloc ?_ (by first | omega | (simp; done) | (simp; omega)) _ | refine Below.setCell ?_ (by first | omega | (simp; done) | (simp; omega)) _ | refine Below.trans ?_ (Below.mono (by assumption) (by first | omega | (simp; done) | (simp; omega)))))⟩
      | true =>
        have hns := nm_size hn
        have HN : Hid ((l.take (k + 1)).all (fun f => nmOk f.nm) = true) := all_upto (q := fun f : FV => nmOk f.nm) hlt HA.out (by rw [HF.out]; exact hn)
        have hs := (srt_mapL (fun _ => ()) (l := m)).1 (by rw [HM.out]; exact (metL_facts l k hk).1)
        have HM2 : Hid (∀ v, mapL (fun _ => ()) (putL m nm.data.toList v) = metL (l.take (k + 1))) := by
          intro v
          rw [mapL_putL, HM.out, metL_succ hlt, HF.out]
          rfl
        go_wp2_with (first
          | (go_at_call 62; refine (rname_any nm _).mono ?_; rintro e w1 ⟨rfl, he⟩; rw [hn, he])
          | (at_mapUpdate; refine wpList_mapUpdate_own _ rfl _ _ _ 110 rfl 9 3 keyed9 Tryz.underlying110 rawI w.heap.size k (mapD m) rfl (hown.alloc _) (by unfold maxLen; omega) _ _ _ rfl rfl (key_str (by unfold maxLen; omega)) (.held (.int .i64 (k : Int))) [] rfl ?_; intro w2 hown2 hgrow2))
        rw [mapD_put hs] at hown2
        have HO : Hid (w2.ownsMap Tryz.prog 9 rawI w.heap.size (k + 1) (mapD (putL m nm.data.toList (.int .i64 (k : Int))))) := hown2
        have HB : Hid (Below w.heap.size w w2) := (hb.alloc (by omega) _).grown hgrow2 (by simp; omega) (fun j hj => by cases hj; exact Nat.le_refl _)
        have hz2 : w.heap.size < w2.heap.size := by have := hgrow2.size; simp at this; omega
        clear hown2 hgrow2 hs
        go_wp2
        go_roundw
        case rel => exact ⟨k + 1, _, by omega, by go_num, HN.out, HO.out, HM2.out _, HB.out, hz2⟩
        case measure => simp [intOf]; omega
    · have hk' : k = l.length := by omega
      subst hk'
      have hlen := hown.len Tryz.underlying110 3
      rw [mapD_size] at hlen
      have HL : Hid (rNam l = decide (m.length = l.length)) := by
        have h1 := HA.out
        have h2 := HM.out
        rw [List.take_length] at h1 h2
        have h3 := (metL_facts l l.length (Nat.le_refl _))
        rw [List.take_length] at h3
        have h4 := congrArg List.length h2
        rw [mapL_length] at h4
        show rNam l = _
        simp only [rNam, h1, Bool.true_and]
        rw [h4]
        exact decide_eq_decide.2 h3.2.2.2.symm
      obtain ⟨M, hM⟩ : ∃ M, m.length = M := ⟨_, rfl⟩
      rw [hM] at hlen HL
      clear hM hown
      go_wp2
      go_ret
      refine ⟨ret_bool ?_, hb⟩
      rw [HL.out]
      rw [Bool.eq_iff_iff]
      simp
      omega

set_option maxHeartbeats 4000000 in
set_option maxRecDepth 100000 in
theorem room_any (size : Int) (p : Option Addr) (cap : Nat) (l : List FV) (w : World) (h0 : 0 ≤ size) (h1 : size ≤ 1048576) (hl : l.length ≤ 2147483648) (hd : ∀ f ∈ l, f.2.1.size ≤ 1099511627776) (hr : FRow w p l) :
    Calls Tryz.prog 28 #[.int .i64 size, .slice p l.length cap] w fun e w' => e = .returned (.bool (rRoom size l)) ∧ Below w.heap.size w w' := by
  have HR : Hid (FRow w p l) := hr
  clear hr
  by_cases h2 : 64 < l.length
  · have h2i : (64 : Int) < (l.length : Int) := by omega
    have HE : Hid (rRoom size l = false) := by
      have : ¬ l.length ≤ 64 := by omega
      show rRoom size l = false
      simp [rRoom, this]
    go_enter Tryz.func28, Tryz.ntmps28
    go_wp2
    all_goals go_ret
    all_goals exact ⟨ret_bool HE.out.symm, Below.refl _ _⟩
  · have h2i : ¬ (64 : Int) < (l.length : Int) := by omega
    have HE : Hid (rRoom size l = decide ((sumF l : Int) ≤ size)) := by
      have : l.length ≤ 64 := by omega
      show rRoom size l = _
      simp [rRoom, this]
    have HS : Hid (∀ k, k ≤ l.length → sumF (l.take k) ≤ k * 1099511627776) := by
      intro k
      induction k with
      | zero => exact fun _ => Nat.zero_le _
      | succ k ih =>
        intro hk
        have := ih (by omega)
        have := hd _ (List.getElem_mem (show k < l.length by omega))
        rw [sumF_succ (by omega)]
        omega
    have HDD : Hid (∀ f ∈ l, f.2.1.size ≤ 1099511627776) := hd
    clear hd
    go_enter Tryz.func28, Tryz.ntmps28
    go_wp2
    go_loopw [0, 12] (fun z i wr => ∃ k : Nat, k ≤ l.length ∧ i = .int .i64 k ∧ z = .int .i64 (size - (sumF (l.take k) : Int)) ∧ Below w.heap.size w wr) (fun _ i _ => l.length - (intOf i).toNat)
    case atStart => exact ⟨0, Nat.zero_le _, rfl, by simp [sumF], Below.refl _ _⟩
    case round =>
      obtain ⟨k, hk, rfl, rfl, hb⟩ := hrel
      have hsz := hb.size
      have hS := HS.out k hk
      obtain ⟨F, hF⟩ : ∃ F : Int, size - (sumF (l.take k) : Int) = F := ⟨_, rfl⟩
      have HF0 : Hid (size - (sumF (l.take k) : Int) = F) := hF
      have hF1 : -70368744177664 ≤ F := by omega
      have hF2 : F ≤ 1048576 := by omega
      rw [hF]
      clear hF hS
      by_cases hlt : k < l.length
      · have hlti : (k : Int) < (l.length : Int) := by omega
        obtain ⟨b, off, rfl, c0, c1, c2⟩ := HR.out k hlt
        have d0 := cell_later hb c0
        have d1 := cell_later hb c1
        have d2 := cell_later hb c2
        have hfd := HDD.out _ (List.getElem_mem hlt)
        have hss := sumF_succ hlt
        obtain ⟨nm, dt, sf, hf⟩ : ∃ nm dt sf, l[k] = (nm, dt, sf) := ⟨_, _, _, rfl⟩
        rw [hf] at d0 d1 d2 hfd hss
        simp only at d0 d1 d2 hfd hss
        have HN : Hid (size - (sumF (l.take (k + 1)) : Int) = F - (dt.size : Int)) := by
          have := HF0.out
          show size - (sumF (l.take (k + 1)) : Int) = F - (dt.size : Int)
          omega
        clear c0 c1 c2 hf hss
        go_wp2
        go_roundw
        case rel => exact ⟨k + 1, by omega, by go_num, by rw [HN.out], by (repeat (first | exact Below.refl _ _ | assumption | refine Below.drew ?_ | refine below_drewN ?_ _ | refine Below.alloc ?_ (by first | omega | (simp; done) | (simp; omega)) _ | refine Below.setCell ?_ (by first | omega | (simp; done) | (simp; omega)) _ | refine Below.trans ?_ (Below.mono (by assumption) (by first | omega | (simp; done) | (simp; omega)))))⟩
        case measure => simp [intOf]; omega
      · have hk' : k = l.length := by omega
        subst hk'
        have HF3 : Hid (decide ((sumF l : Int) ≤ size) = decide (0 ≤ F)) := by
          have := HF0.out
          rw [List.take_length] at this
          exact decide_eq_decide.2 (by omega)
        go_wp2
        go_ret
        refine ⟨ret_bool ?_, hb⟩
        rw [HE.out, HF3.out]
end Go.Proofs.YtckmjmpajbjbkaaGreatDoor
