/- Walks of layer 4, thirteenth part: New. -/
import Derived.Test.YtckmjmpajbjbkaaGreatDoorD12
namespace Go.Proofs.YtckmjmpajbjbkaaGreatDoor
open Go.RowKit

/-- What New answers and leaves. -/
def NewP (size : Int) (l : List FV) (w : World) (e : Ending) (w' : World) : Prop :=
  Below w.heap.size w w' ∧ ((newE size l ≠ 0 ∧ e = .returned (.tuple #[.pointer none, .int .i64 (newE size l)])) ∨ (newE size l = 0 ∧ ∃ a, e = .returned (.tuple #[.pointer (some ⟨a, 0, none⟩), .int .i64 0]) ∧ IsDisk w' (fun k => w.heap.size ≤ k) a (newSt size l)))
theorem newE_1 {size : Int} {l : List FV} (h : rNum size l = false) : newE size l = 1 := by simp [newE, h]
theorem newE_40 {size : Int} {l : List FV} (h : rNum size l = true) (h' : rNam l = false) : newE size l = 40 := by simp [newE, h, h']
theorem newE_42 {size : Int} {l : List FV} (h : rNum size l = true) (h' : rNam l = true) (h'' : rRoom size l = false) : newE size l = 42 := by simp [newE, h, h', h'']
theorem newE_0 {size : Int} {l : List FV} (h : rNum size l = true) (h' : rNam l = true) (h'' : rRoom size l = true) : newE size l = 0 := by simp [newE, h, h', h'']
theorem FRow.later {w w' : World} {p : Option Addr} {l : List FV} (h : FRow w p l) (hb : Below w.heap.size w w') : FRow w' p l := fun i hi => by
  obtain ⟨b, off, e, c0, c1, c2⟩ := h i hi
  exact ⟨b, off, e, cell_later hb c0, cell_later hb c1, cell_later hb c2⟩
theorem held_new (w : World) (Z : Nat → Prop) (hz : Z w.heap.size) : Held (w.alloc (.map #[] 0)) Z w.heap.size [] :=
  ⟨World.ownsMap_made _ _ _ _, hz, fun p hp => by simp at hp, fun p hp => by simp at hp, fun p hp => by simp at hp, List.Pairwise.nil⟩

set_option maxHeartbeats 8000000 in
set_option maxRecDepth 100000 in
theorem new_any (size : Int) (p : Option Addr) (cap : Nat) (l : List FV) (w : World) (hl : l.length ≤ 2147483648) (hd : ∀ f ∈ l, f.2.1.size ≤ 1099511627776) (hr : FRow w p l) :
    Calls Tryz.prog 9 #[.int .i64 size, .slice p l.length cap] w (NewP size l w) := by
  have HR : Hid (FRow w p l) := hr
  have HDD : Hid (∀ f ∈ l, f.2.1.size ≤ 1099511627776) := hd
  have hmm := @run_makeMap Tryz.prog
  clear hr hd
  cases e1 : rNum size l with
  | false =>
    have HE : Hid (newE size l = 1) := newE_1 e1
    go_enter Tryz.func9, Tryz.ntmps9
    go_wp2_with (first | (go_at_call 26; refine (rnum_any size p cap l _ hl HR.out).mono ?_; rintro e w1 ⟨rfl, hb1⟩; rw [e1]))
    exact bodyPost_ret (v := .tuple #[.pointer none, .int .i64 1]) (by simp [results, Tryz.results9, go_sem]) rfl ⟨hb1, Or.inl ⟨by rw [HE.out]; decide, by rw [HE.out]⟩⟩
  | true =>
    have h01 := rNum_of e1
    cases e2 : rNam l with
    | false =>
      have HE : Hid (newE size l = 40) := newE_40 e1 e2
      go_enter Tryz.func9, Tryz.ntmps9
      go_wp2_with (first
        | (go_at_call 26; refine (rnum_any size p cap l _ hl HR.out).mono ?_; rintro e w1 ⟨rfl, hb1⟩; rw [e1])
        | (go_at_call 27; refine (rnam_any p cap l _ hl (HR.out.later hb1)).mono ?_; rintro e w2 ⟨rfl, hb2⟩; rw [e2]))
      exact bodyPost_ret (v := .tuple #[.pointer none, .int .i64 40]) (by simp [results, Tryz.results9, go_sem]) rfl ⟨hb1.trans (hb2.mono hb1.size), Or.inl ⟨by rw [HE.out]; decide, by rw [HE.out]⟩⟩
    | true =>
      cases e3 : rRoom size l with
      | false =>
        have HE : Hid (newE size l = 42) := newE_42 e1 e2 e3
        go_enter Tryz.func9, Tryz.ntmps9
        go_wp2_with (first
          | (go_at_call 26; refine (rnum_any size p cap l _ hl HR.out).mono ?_; rintro e w1 ⟨rfl, hb1⟩; rw [e1])
          | (go_at_call 27; refine (rnam_any p cap l _ hl (HR.out.later hb1)).mono ?_; rintro e w2 ⟨rfl, hb2⟩; rw [e2])
          | (go_at_call 28; refine (room_any size p cap l _ h01.1 h01.2.1 hl HDD.out (HR.out.later (hb1.trans (hb2.mono hb1.size)))).mono ?_; rintro e w3 ⟨rfl, hb3⟩; rw [e3]))
        exact bodyPost_ret (v := .tuple #[.pointer none, .int .i64 42]) (by simp [results, Tryz.results9, go_sem]) rfl ⟨(hb1.trans (hb2.mono hb1.size)).trans (hb3.mono (Nat.le_trans hb1.size hb2.size)), Or.inl ⟨by rw [HE.out]; decide, by rw [HE.out]⟩⟩
      | true =>
        have HE : Hid (newE size l = 0) := newE_0 e1 e2 e3
        have H01 : Hid (0 ≤ size ∧ size ≤ 1048576 ∧ ∀ f ∈ l, 0 ≤ f.2.2 ∧ f.2.2 ≤ (f.2.1.size : Int)) := h01
        have hl64 := (rRoom_of e3).1
        have HNM : Hid (∀ f ∈ l, nmOk f.nm = true) := (rNam_of e2).1
        have hs0 := h01.1
        have hs1 := h01.2.1
        clear h01
        go_enter Tryz.func9, Tryz.ntmps9
        go_wp2_with (first
          | (go_at_call 26; refine (rnum_any size p cap l _ hl HR.out).mono ?_; rintro e w1 ⟨rfl, hb1⟩; rw [e1])
          | (go_at_call 27; refine (rnam_any p cap l _ hl (HR.out.later hb1)).mono ?_; rintro e w2 ⟨rfl, hb2⟩; rw [e2])
          | (go_at_call 28; refine (room_any size p cap l _ H01.out.1 H01.out.2.1 hl HDD.out (HR.out.later (hb1.trans (hb2.mono hb1.size)))).mono ?_; rintro e w3 ⟨rfl, hb3⟩; rw [e3]; (have HB3 : Hid (Below w.heap.size w w3) := (hb1.trans (hb2.mono hb1.size)).trans (hb3.mono (Nat.le_trans hb1.size hb2.size))); clear hb1 hb2 hb3))
        have hsz3 := HB3.out.size
        go_loopw [29] (fun i wr => ∃ (k : Nat) (es : List (Nm × Fil)), k ≤ l.length ∧ i = .int .i64 k ∧ Held wr (fun k => w.heap.size ≤ k) w3.heap.size es ∧ mapL Fil.fl es = newFs (l.take k) ∧ wr.heap[w3.heap.size + 1]? = some (.cells (dcells w3.heap.size ⟨size.toNat, [], 0, -1, false⟩) 73 (0, 0)) ∧ Below w.heap.size w wr) (fun i _ => l.length - (intOf i).toNat)
        case atStart =>
          refine ⟨0, [], Nat.zero_le _, rfl, (held_new w3 _ hsz3).later ((Below.refl _ _).alloc (Nat.le_refl _) _), rfl, ?_, (HB3.out.alloc hsz3 _).alloc (by simp; omega) _⟩
          have := heap_alloc_new (w3.alloc (.map #[] 0)) (.cells (dcells w3.heap.size ⟨size.toNat, [], 0, -1, false⟩) 73)
          simpa [dcells, Int.toNat_of_nonneg hs0] using this
        case round =>
          clear hmm
          obtain ⟨k, es, hk, rfl, hh, hm, ha, hb⟩ := hrel
          have c0 := (cell5 ha).1
          have hsz := hb.size
          have HH : Hid (Held wr (fun k => w.heap.size ≤ k) w3.heap.size es) := hh
          have HA : Hid (wr.heap[w3.heap.size + 1]? = some (.cells (dcells w3.heap.size ⟨size.toNat, [], 0, -1, false⟩) 73 (0, 0))) := ha
          have HM : Hid (mapL Fil.fl es = newFs (l.take k)) := hm
          have lb := hh.map.lt
          have la : w3.heap.size + 1 < wr.heap.size := (Array.getElem?_eq_some_iff.1 ha).1
          clear hh ha hm
          by_cases hlt : k < l.length
          · have hlti : (k : Int) < (l.length : Int) := by omega
            obtain ⟨b, off, rfl, d0, d1, d2⟩ := (HR.out.later hb) k hlt
            obtain ⟨nm, dt, sf, hf⟩ : ∃ nm dt sf, l[k] = (nm, dt, sf) := ⟨_, _, _, rfl⟩
            have hm := List.getElem_mem hlt
            have hdd := HDD.out _ hm
            have h01 := H01.out.2.2 _ hm
            have hnm := HNM.out _ hm
            rw [hf] at d0 d1 d2 hdd h01 hnm
            simp only [FV.nm] at d0 d1 d2 hdd h01 hnm
            have hns := nm_size hnm
            obtain ⟨sn, rfl⟩ : ∃ sn : Nat, sf = (sn : Int) := ⟨sf.toNat, by omega⟩
            have HP : Hid (∀ v, mapL Fil.fl (putL es nm.data.toList ⟨dt.data.toList, sn, v⟩) = newFs (l.take (k + 1))) := by
              intro v
              rw [mapL_putL, HM.out, newFs_succ hlt, hf]
              rfl
            have hes : es.length ≤ k := by
              have := (newFs_ok HE.out k hk).2.2
              rw [← HM.out, mapL_length] at this
              exact this
            obtain ⟨v, w4, hcv, hob, hvb, hb4, hz4⟩ := ownB.made (wr.alloc (.cells #[.string nm, .string dt, .int .i64 (sn : Int)] 65)) dt hdd
            obtain ⟨pv, capv, ev, _⟩ := hob.form
            have ev' : v = .slice pv dt.size capv := by rw [ev]; simp
            subst ev'
            have t2 : w4.cell? ⟨wr.heap.size, 2, none⟩ = some (.int .i64 (sn : Int)) := cell_later hb4 (by simp)
            have hb5 : Below wr.heap.size wr w4 := ((Below.refl _ _).alloc (Nat.le_refl _) _).trans (hb4.mono (by simp))
            have c04 := cell_later hb5 c0
            have HOB : Hid (ownB w4 (.slice pv dt.size capv) dt.data.toList) := hob
            have HVB : Hid (∀ g, (Value.slice pv dt.size capv).ownBlock = some g → g = wr.heap.size + 1) := fun g e => by
              rw [hvb] at e
              simp at e
              omega
            have HB5 : Hid (Below wr.heap.size wr w4) := hb5
            have hz5 : wr.heap.size + 2 = w4.heap.size := by rw [hz4]; simp
            clear hob hvb hb4 hb5 ev hf hm h01 hz4
            go_wp2_with (first
              | (go_at_call 29; refine (put_any _ (fun k => w.heap.size ≤ k) (w3.heap.size + 1) w3.heap.size es nm dt.data.toList sn pv dt.size capv c04 (HH.out.later HB5.out) (by omega) (by omega) HOB.out (fun g e => by have := HVB.out g e; omega) (fun g e q hq e' => by have := HVB.out g e; have := HH.out.lt (Or.inr ⟨q, hq, e'⟩); omega)).mono ?_; rintro e w5 ⟨rfl, hh5, ho5⟩))
            have HO : Hid (Below w.heap.size w w5) := (hb.trans (HB5.out.mono hsz)).trans (ho5.below (by omega) (fun j hj e => by omega))
            have HA5 : Hid (w5.heap[w3.heap.size + 1]? = some (.cells (dcells w3.heap.size ⟨size.toNat, [], 0, -1, false⟩) 73 (0, 0))) := (ho5.block _ (by omega) (by omega)).trans ((HB5.out.block _ la).trans HA.out)
            have HH5 : Hid (Held w5 (fun k => w.heap.size ≤ k) w3.heap.size (putL es nm.data.toList ⟨dt.data.toList, sn, .slice pv dt.size capv⟩)) := hh5
            clear hh5 ho5
            go_roundw
            case rel => exact ⟨k + 1, _, by omega, by go_num, HH5.out, HP.out _, HA5.out, HO.out⟩
            case measure => simp [intOf]; omega
          · have hk' : k = l.length := by omega
            subst hk'
            go_wp2
            refine bodyPost_ret (v := .tuple #[.pointer (some ⟨w3.heap.size + 1, 0, none⟩), .int .i64 0]) (by simp [results, Tryz.results9, go_sem]) rfl ⟨hb, Or.inr ⟨HE.out, w3.heap.size + 1, rfl, w3.heap.size, es, HA.out, by show w.heap.size ≤ w3.heap.size + 1; omega, HH.out, ?_, newSt_ok HE.out⟩⟩
            show newFs l = _
            rw [HM.out, List.take_length]
end Go.Proofs.YtckmjmpajbjbkaaGreatDoor
