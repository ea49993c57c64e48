/- The document's functions of layer 4, fourth part: New. -/
import Derived.Test.YtejbelbfmchadaaE3
namespace Go.Proofs.Ytejbelbfmchadaa
open Go.RowKit

/-- What the document's New answers and leaves. -/
def RNewP (size : Int) (l : List FV) (w : World) (e : Ending) (w' : World) : Prop :=
  Below w.heap.size w w' ∧ ((newE size l ≠ 0 ∧ e = .returned (.tuple #[.pointer none, .int .i64 (newE size l)])) ∨ (newE size l = 0 ∧ ∃ a v, e = .returned (.tuple #[.pointer (some ⟨a, 0, none⟩), .int .i64 0]) ∧ RefAt w' (fun k => w.heap.size ≤ k) a (newSt size l) v))

theorem rNum_no {size : Int} {l : List FV} (h : ¬ (0 ≤ size ∧ size ≤ 1048576) ∨ l.all okNum = false) : newE size l = 1 := by
  refine newE_1 ?_
  rcases h with h | h
  · unfold rNum
    by_cases h1 : 0 ≤ size
    · have h2 : ¬ size ≤ 1048576 := fun g => h ⟨h1, g⟩
      simp [h2]
    · simp [h1]
  · simp [rNum, h]
theorem rNum_yes {size : Int} {l : List FV} (h0 : 0 ≤ size) (h1 : size ≤ 1048576) (h : l.all okNum = true) : rNum size l = true := by
  simp [rNum, h0, h1, h]
/-- Names that are right and apart, up to a place. -/
structure NamTo (l : List FV) (k : Nat) : Prop where
  right : (l.take k).all (fun f => nmOk f.nm) = true
  apart : ((l.take k).map FV.nm).Nodup
theorem NamTo.zero (l : List FV) : NamTo l 0 := ⟨by simp, by simp⟩
theorem NamTo.succ {l : List FV} {k : Nat} (h : NamTo l k) (hk : k < l.length) (h1 : nmOk (l[k]).nm = true) (h2 : ∀ j (hj : j < l.length), j < k → (l[j]).nm ≠ (l[k]).nm) : NamTo l (k + 1) := by
  refine ⟨all_upto (q := fun f : FV => nmOk f.nm) hk h.right h1, ?_⟩
  rw [List.take_succ_eq_append_getElem hk, List.map_append, List.nodup_append]
  refine ⟨h.apart, by simp, fun a ha b hb e => ?_⟩
  simp only [List.map_cons, List.map_nil, List.mem_singleton] at hb
  obtain ⟨f, hf, rfl⟩ := List.mem_map.1 ha
  obtain ⟨j, hj, rfl⟩ := List.getElem_of_mem hf
  rw [List.length_take] at hj
  rw [List.getElem_take] at e
  exact h2 j (by omega) (by omega) (by rw [e, hb])
theorem NamTo.all {l : List FV} (h : NamTo l l.length) : rNam l = true := by
  have h1 := h.right
  have h2 := h.apart
  rw [List.take_length] at h1 h2
  simp only [rNam, h1, Bool.true_and, decide_eq_true_eq]
  exact h2
theorem rNam_no1 {l : List FV} {k : Nat} (hk : k < l.length) (h : nmOk (l[k]).nm = false) : rNam l = false := by
  have := all_not (q := fun f : FV => nmOk f.nm) hk h
  simp only [rNam, this, Bool.false_and]
theorem rNam_no2 {l : List FV} {j k : Nat} (hk : k < l.length) (hj : j < k) (h : (l[j]'(by omega)).nm = (l[k]).nm) : rNam l = false := by
  cases hr : rNam l with
  | false => rfl
  | true =>
    exfalso
    have hp := (rNam_of hr).2
    rw [List.nodup_iff_pairwise_ne, List.pairwise_iff_getElem] at hp
    exact hp j k (by simp; omega) (by simp; omega) hj (by simpa using h)
theorem room_no1 {size : Int} {l : List FV} {k : Nat} (hk : k < l.length) (h : 64 ≤ k) : rRoom size l = false := by
  have : ¬ l.length ≤ 64 := by omega
  simp [rRoom, this]
theorem room_no2 {size : Int} {l : List FV} {k : Nat} (hk : k < l.length) (h : size < (sumF (l.take k) : Int) + ((l[k]).2.1.size : Int)) : rRoom size l = false := by
  have h1 := sumF_take_le l (k + 1)
  rw [sumF_succ hk] at h1
  have : ¬ (sumF l : Int) ≤ size := by omega
  simp [rRoom, this]
theorem room_yes {size : Int} {l : List FV} (h : l.length ≤ 64) (h2 : (sumF l : Int) ≤ size) : rRoom size l = true := by
  simp [rRoom, h, h2]

set_option maxHeartbeats 8000000 in
set_option maxRecDepth 100000 in
theorem rnew_any (size : Int) (p : Option Addr) (cap : Nat) (l : List FV) (w : World) (hl : l.length ≤ 2147483648) (hd : ∀ f ∈ l, f.1.size ≤ 9223372036854775807 ∧ f.2.1.size ≤ 1099511627776) (hr : FRow w p l) :
    Calls Try.prog 11 #[.int .i64 size, .slice p l.length cap] w (RNewP size l w) := by
  have HR : Hid (FRow w p l) := hr
  have HDD : Hid (∀ f ∈ l, f.1.size ≤ 9223372036854775807 ∧ f.2.1.size ≤ 1099511627776) := hd
  clear hr hd
  have HP1 : Hid (∀ w', newE size l = 1 → Below w.heap.size w w' → RNewP size l w (.returned (.tuple #[.pointer none, .int .i64 1])) w') := fun w' h hb => ⟨hb, Or.inl ⟨by rw [h]; decide, by rw [h]⟩⟩
  have HP40 : Hid (∀ w', newE size l = 40 → Below w.heap.size w w' → RNewP size l w (.returned (.tuple #[.pointer none, .int .i64 40])) w') := fun w' h hb => ⟨hb, Or.inl ⟨by rw [h]; decide, by rw [h]⟩⟩
  have HP42 : Hid (∀ w', newE size l = 42 → Below w.heap.size w w' → RNewP size l w (.returned (.tuple #[.pointer none, .int .i64 42])) w') := fun w' h hb => ⟨hb, Or.inl ⟨by rw [h]; decide, by rw [h]⟩⟩
  by_cases h1 : size < 0
  · have HE : Hid (newE size l = 1) := rNum_no (Or.inl (by omega))
    go_enter Try.func11, Try.ntmps11
    go_wp2
    all_goals exact bodyPost_ret (v := .tuple #[.pointer none, .int .i64 1]) (by simp [results, Try.results11, go_sem]) rfl (HP1.out _ HE.out (Below.refl _ _))
  · by_cases h2 : 1048576 < size
    · have HE : Hid (newE size l = 1) := rNum_no (Or.inl (by omega))
      go_enter Try.func11, Try.ntmps11
      go_wp2
      all_goals exact bodyPost_ret (v := .tuple #[.pointer none, .int .i64 1]) (by simp [results, Try.results11, go_sem]) rfl (HP1.out _ HE.out (Below.refl _ _))
    · go_enter Try.func11, Try.ntmps11
      go_wp2
      go_loopw [6] (fun i wr => ∃ k : Nat, k ≤ l.length ∧ i = .int .i64 k ∧ (l.take k).all okNum = true ∧ Below w.heap.size w wr) (fun i _ => l.length - (intOf i).toNat)
      case atStart => exact ⟨0, Nat.zero_le _, rfl, by simp, Below.refl _ _⟩
      case round =>
        obtain ⟨k, hk, rfl, hall, hb⟩ := hrel
        have HA : Hid ((l.take k).all okNum = true) := hall
        have HB : Hid (Below w.heap.size w wr) := hb
        clear hall
        have hsz := hb.size
        by_cases hlt : k < l.length
        · have hlti : (k : Int) < (l.length : Int) := by omega
          obtain ⟨b, off, rfl, c0, c1, c2⟩ := HR.out k hlt
          have d1 := cell_later hb c1
          have d2 := cell_later hb c2
          obtain ⟨nm, dt, sf, hf⟩ : ∃ nm dt sf, l[k] = (nm, dt, sf) := ⟨_, _, _, rfl⟩
          have HF : Hid (l[k] = (nm, dt, sf)) := hf
          rw [hf] at d1 d2
          simp only at d1 d2
          clear c0 c1 c2 hf hb
          by_cases g1 : sf < 0
          · have HE : Hid (newE size l = 1) := rNum_no (Or.inr (all_not hlt (by
              have : ¬ 0 ≤ sf := by omega
              rw [HF.out]
              simp [okNum, this])))
            have hd1 : decide (sf < 0) = true := by simp; omega
            go_wp2
            go_quiet (fail)
            go_wp2
            exact bodyPost_ret (v := .tuple #[.pointer none, .int .i64 1]) (by simp [results, Try.results11, go_sem]) rfl (HP1.out _ HE.out (below_drewN HB.out _))
          · have hd1 : decide (sf < 0) = false := by simp; omega
            by_cases g2 : (dt.size : Int) < sf
            · have HE : Hid (newE size l = 1) := rNum_no (Or.inr (all_not hlt (by
                have : ¬ sf ≤ (dt.size : Int) := by omega
                rw [HF.out]
                simp [okNum, this])))
              have hd2 : decide ((dt.size : Int) < sf) = true := by simp; omega
              go_wp2
              go_quiet (fail)
              go_wp2
              exact bodyPost_ret (v := .tuple #[.pointer none, .int .i64 1]) (by simp [results, Try.results11, go_sem]) rfl (HP1.out _ HE.out (below_drewN HB.out _))
            · have HN : Hid ((l.take (k + 1)).all okNum = true) := all_upto hlt HA.out (by
                have a1 : 0 ≤ sf := by omega
                have a2 : sf ≤ (dt.size : Int) := by omega
                rw [HF.out]
                simp [okNum, a1, a2])
              have hd2 : decide ((dt.size : Int) < sf) = false := by simp; omega
              go_wp2
              go_quiet (fail)
              go_wp2
              go_roundw
              case rel => exact ⟨k + 1, by omega, by go_num, HN.out, below_drewN HB.out _⟩
              case measure => simp [intOf]; omega
        · have hk' : k = l.length := by omega
          subst hk'
          have HNUM : Hid (rNum size l = true) := rNum_yes (by omega) (by omega) (by
            have := HA.out
            rwa [List.take_length] at this)
          obtain ⟨w1, hw1⟩ : ∃ w1, w1 = wr := ⟨_, rfl⟩
          subst hw1
          clear HA hb
          obtain ⟨N, hN⟩ : ∃ N : Nat, size = (N : Int) := ⟨size.toNat, by omega⟩
          subst hN
          go_wp2
          go_loopw [9] (fun i wx => ∃ k : Nat, k ≤ l.length ∧ i = .int .i64 k ∧ NamTo l k ∧ wx.heap[w1.heap.size]? = some (.cells (rcells (.slice none 0 0) ⟨N, [], 0, -1, false⟩) 70 (0, 0)) ∧ Below w.heap.size w wx) (fun i _ => l.length - (intOf i).toNat)
          case atStart => exact ⟨0, Nat.zero_le _, rfl, NamTo.zero l, heap_alloc_new w1 _, HB.out.alloc hsz _⟩
          case round =>
            clear HB
            obtain ⟨k, hk, rfl, hnam, hcells, hb⟩ := hrel
            have HNT : Hid (NamTo l k) := hnam
            have HC : Hid (wr.heap[w1.heap.size]? = some (.cells (rcells (.slice none 0 0) ⟨N, [], 0, -1, false⟩) 70 (0, 0))) := hcells
            have HB : Hid (Below w.heap.size w wr) := hb
            clear hnam hcells
            have hszr := hb.size
            obtain ⟨w2, hw2⟩ : ∃ w2, w2 = wr := ⟨_, rfl⟩
            subst hw2
            by_cases hlt : k < l.length
            · have hlti : (k : Int) < (l.length : Int) := by omega
              obtain ⟨b, off, rfl, c0, c1, c2⟩ := HR.out k hlt
              have d0 := cell_later hb c0
              obtain ⟨nm, dt, sf, hf⟩ : ∃ nm dt sf, l[k] = (nm, dt, sf) := ⟨_, _, _, rfl⟩
              have HF : Hid (l[k] = (nm, dt, sf)) := hf
              have hns : nm.size ≤ 9223372036854775807 := by
                have := (HDD.out _ (List.getElem_mem hlt)).1
                rw [hf] at this
                exact this
              rw [hf] at d0
              simp only at d0
              clear c0 c1 c2 hf hb
              have HLT : Hid (k < l.length) := hlt
              have HCX : Hid (w2.cell? ⟨b, off + k * 3, none⟩ = some (.string nm)) := d0
              go_wp2_with fail
              refine (name_any nm w2 hns).mono ?_
              rintro e w3 ⟨rfl, he⟩
              have he' := he.symm
              subst he'
              go_wp2
              go_loopw [10, 11] (fun o j wx => ∃ (i : Nat) (q : Bool), i ≤ k ∧ j = .int .i64 i ∧ o = .bool q ∧ (q = true → nmOk nm.data.toList = true ∧ ∀ j (hj : j < l.length), j < i → (l[j]).nm ≠ nm.data.toList) ∧ (q = false → rNam l = false) ∧ Below w2.heap.size w2 wx) (fun _ j _ => k - (intOf j).toNat)
              case atStart =>
                refine ⟨0, nmOk nm.data.toList, Nat.zero_le _, rfl, rfl, fun h => ⟨h, fun j _ h => absurd h (Nat.not_lt_zero _)⟩, fun h => rNam_no1 HLT.out (by rw [HF.out]; exact h), Below.refl _ _⟩
              case round =>
                obtain ⟨i, q, hi, rfl, rfl, hq1, hq0, hb3⟩ := hrel
                have HQ1 : Hid (q = true → nmOk nm.data.toList = true ∧ ∀ j (hj : j < l.length), j < i → (l[j]).nm ≠ nm.data.toList) := hq1
                have HQ0 : Hid (q = false → rNam l = false) := hq0
                have HB3 : Hid (Below w2.heap.size w2 wr) := hb3
                have e0 := cell_later hb3 d0
                clear hq1 hq0
                by_cases hik : i < k
                · have hiki : (i : Int) < (k : Int) := by omega
                  have hil : i < l.length := by omega
                  obtain ⟨b', off', e', c0, _, _⟩ := HR.out i hil
                  simp only [Option.some.injEq, Addr.mk.injEq] at e'
                  obtain ⟨rfl, rfl, _⟩ := e'
                  have e1 := cell_later hb3 (cell_later HB.out c0)
                  obtain ⟨nn, hnn⟩ : ∃ nn, (l[i]).1 = nn := ⟨_, rfl⟩
                  rw [hnn] at e1
                  have HNN : Hid ((l[i]).1 = nn) := hnn
                  have hili : (i : Int) < (l.length : Int) := by omega
                  clear c0 hnn hb3 d0
                  by_cases heq : nn.toList = nm.toList
                  · have hb1 : (nn.toList == nm.toList) = true := by simp [heq]
                    have HX : Hid (rNam l = false) := rNam_no2 HLT.out hik (by
                      rw [HF.out]
                      show (l[i]).1.data.toList = nm.data.toList
                      rw [HNN.out, ← ByteArray.toList_eq, ← ByteArray.toList_eq, heq])
                    go_wp2
                    go_quiet (fail)
                    go_wp2
                    go_roundw
                    case rel => exact ⟨i + 1, false, by omega, by go_num, rfl, (fun h => by cases h), fun _ => HX.out, below_drewN HB3.out _⟩
                    case measure => simp [intOf]; omega
                  · have hb1 : (nn.toList == nm.toList) = false := by simpa using heq
                    have HX : Hid (q = true → nmOk nm.data.toList = true ∧ ∀ j (hj : j < l.length), j < i + 1 → (l[j]).nm ≠ nm.data.toList) := fun h => ⟨(HQ1.out h).1, fun j hj hji => by
                      by_cases e : j = i
                      · subst e
                        show (l[j]).1.data.toList ≠ nm.data.toList
                        rw [HNN.out, ← ByteArray.toList_eq, ← ByteArray.toList_eq]
                        exact heq
                      · exact (HQ1.out h).2 j hj (by omega)⟩
                    go_wp2
                    go_quiet (fail)
                    go_wp2
                    go_roundw
                    case rel => exact ⟨i + 1, q, by omega, by go_num, rfl, HX.out, HQ0.out, below_drewN HB3.out _⟩
                    case measure => simp [intOf]; omega
                · have hik' : i = k := by omega
                  subst hik'
                  cases q with
                  | false =>
                    have HE : Hid (newE (N : Int) l = 40) := newE_40 HNUM.out (HQ0.out rfl)
                    go_wp2
                    exact bodyPost_ret (v := .tuple #[.pointer none, .int .i64 40]) (by simp [results, Try.results11, go_sem]) rfl (HP40.out _ HE.out (HB.out.trans (HB3.out.mono hszr)))
                  | true =>
                    have HX : Hid (NamTo l (i + 1)) := HNT.out.succ HLT.out (by rw [HF.out]; exact (HQ1.out rfl).1) (fun j hj hji => by rw [HF.out]; exact (HQ1.out rfl).2 j hj hji)
                    go_wp2
                    go_roundw
                    case rel => exact ⟨i + 1, by omega, by go_num, HX.out, (HB3.out.block _ (Array.getElem?_eq_some_iff.1 HC.out).1).trans HC.out, HB.out.trans (HB3.out.mono hszr)⟩
                    case measure => simp [intOf]; omega
            · have hk' : k = l.length := by omega
              subst hk'
              have HNM : Hid (rNam l = true) := HNT.out.all
              have HREF : Hid (RefAt w2 (fun k => w.heap.size ≤ k) w1.heap.size ⟨N, newFs (l.take 0), 0, -1, false⟩ (.slice none 0 0)) := ⟨HC.out, hsz, ⟨rfl, Or.inl ⟨rfl, rfl⟩⟩, fun g e => (by cases e), List.Pairwise.nil, Nat.zero_le _⟩
              clear HNT HC hb
              go_wp2
              go_loopw [8, 12] (fun z i wx => ∃ (k : Nat) (v : Value), k ≤ l.length ∧ k ≤ 64 ∧ i = .int .i64 k ∧ z = .int .i64 (sumF (l.take k) : Int) ∧ (sumF (l.take k) : Int) ≤ (N : Int) ∧ RefAt wx (fun k => w.heap.size ≤ k) w1.heap.size ⟨N, newFs (l.take k), 0, -1, false⟩ v ∧ (newFs (l.take k)).length ≤ k ∧ Below w.heap.size w wx) (fun _ i _ => l.length - (intOf i).toNat)
              case atStart => exact ⟨0, _, Nat.zero_le _, Nat.zero_le _, rfl, rfl, by simp [sumF], HREF.out, Nat.zero_le _, HB.out⟩
              case round =>
                clear HREF HB
                obtain ⟨k, v, hk, hk64, rfl, rfl, hsum, href, hfew, hb⟩ := hrel
                have HREF : Hid (RefAt wr (fun k => w.heap.size ≤ k) w1.heap.size ⟨N, newFs (l.take k), 0, -1, false⟩ v) := href
                have HB : Hid (Below w.heap.size w wr) := hb
                have hszw := hb.size
                obtain ⟨S, hS⟩ : ∃ S, sumF (l.take k) = S := ⟨_, rfl⟩
                have HS : Hid (sumF (l.take k) = S) := hS
                rw [hS] at hsum ⊢
                clear href hS
                by_cases hlt : k < l.length
                · have hlti : (k : Int) < (l.length : Int) := by omega
                  obtain ⟨b, off, rfl, c0, c1, c2⟩ := HR.out k hlt
                  have d0 := cell_later hb c0
                  have d1 := cell_later hb c1
                  have d2 := cell_later hb c2
                  obtain ⟨nm, dt, sf, hf⟩ : ∃ nm dt sf, l[k] = (nm, dt, sf) := ⟨_, _, _, rfl⟩
                  have HF : Hid (l[k] = (nm, dt, sf)) := hf
                  have hds : dt.size ≤ 1099511627776 := by
                    have := (HDD.out _ (List.getElem_mem hlt)).2
                    rw [hf] at this
                    exact this
                  have hsf : 0 ≤ sf := by
                    have := ((rNum_of HNUM.out).2.2 _ (List.getElem_mem hlt)).1
                    rw [hf] at this
                    exact this
                  obtain ⟨n, hn⟩ : ∃ n : Nat, sf = (n : Int) := ⟨sf.toNat, by omega⟩
                  subst hn
                  rw [hf] at d0 d1 d2
                  simp only at d0 d1 d2
                  clear c0 c1 c2 hf hb hsf
                  have HLT : Hid (k < l.length) := hlt
                  by_cases h64 : 64 ≤ k
                  · have HE : Hid (newE (N : Int) l = 42) := newE_42 HNUM.out HNM.out (room_no1 HLT.out h64)
                    have hd1 : decide ((64 : Int) ≤ (k : Int)) = true := by simp; omega
                    have h64i : (64 : Int) ≤ (k : Int) := by omega
                    go_wp2
                    all_goals exact bodyPost_ret (v := .tuple #[.pointer none, .int .i64 42]) (by simp [results, Try.results11, go_sem]) rfl (HP42.out _ HE.out HB.out)
                  · have hd1 : decide ((64 : Int) ≤ (k : Int)) = false := by simp; omega
                    have h64i : ¬ (64 : Int) ≤ (k : Int) := by omega
                    obtain ⟨D, hD⟩ : ∃ D : Nat, N - S = D := ⟨_, rfl⟩
                    have hDi : (N : Int) - (S : Int) = (D : Int) := by omega
                    have HDS : Hid (N = S + D) := by show N = S + D; omega
                    have hDl : D ≤ 1048576 := by omega
                    clear hD
                    by_cases hfit : D < dt.size
                    · have HE : Hid (newE (N : Int) l = 42) := newE_42 HNUM.out HNM.out (room_no2 HLT.out (by
                        have := HDS.out
                        rw [HF.out, HS.out]
                        simp only
                        omega))
                      have hd2 : decide ((D : Int) < (dt.size : Int)) = true := by simp; omega
                      have hd2i : (D : Int) < (dt.size : Int) := by omega
                      go_wp2
                      all_goals exact bodyPost_ret (v := .tuple #[.pointer none, .int .i64 42]) (by simp [results, Try.results11, go_sem]) rfl (HP42.out _ HE.out HB.out)
                    · have hd2 : decide ((D : Int) < (dt.size : Int)) = false := by simp; omega
                      have hd2i : ¬ (D : Int) < (dt.size : Int) := by omega
                      have HSUM : Hid (sumF (l.take (k + 1)) = S + dt.size) := by
                        show _ = _
                        rw [sumF_succ HLT.out, HF.out, HS.out]
                      have HFS : Hid (newFs (l.take (k + 1)) = putL (newFs (l.take k)) nm.data.toList (dt.data.toList, n)) := by
                        show _ = _
                        rw [newFs_succ HLT.out, HF.out]
                        rfl
                      have HLEN : Hid ((newFs (l.take (k + 1))).length ≤ k + 1) := by
                        have hsrt : srt (newFs (l.take k)) := HREF.out.sorted
                        show _ ≤ _
                        rw [HFS.out, length_putL _ _ _ hsrt]
                        split <;> omega
                      have hfit2 : S + dt.size ≤ N := by have := HDS.out; omega
                      have hfl : (newFs (l.take k)).length < 1000 := by omega
                      have HFL : Hid ((newFs (l.take k)).length < 1000) := hfl
                      clear hfl hfew
                      go_wp2_with (first | (go_at_call 32; refine (puts_any wr (fun k => w.heap.size ≤ k) w1.heap.size ⟨N, newFs (l.take k), 0, -1, false⟩ v nm dt n HREF.out (zone_new HB.out.size) HFL.out).mono ?_; rintro e w5 ⟨rfl, ⟨v', hr5⟩, ho5⟩))
                      simp only [← HFS.out] at hr5
                      have HR5 : Hid (RefAt w5 (fun k => w.heap.size ≤ k) w1.heap.size ⟨N, newFs (l.take (k + 1)), 0, -1, false⟩ v') := hr5
                      have HB5 : Hid (Below w.heap.size w w5) := ho5.zone HB.out
                      clear hr5 ho5
                      go_wp2
                      go_roundw
                      case rel => exact ⟨k + 1, v', by omega, by omega, by go_num, by rw [HSUM.out]; first | rfl | go_num, by rw [HSUM.out]; omega, HR5.out, HLEN.out, HB5.out⟩
                      case measure => simp [intOf]; omega
                · have hk' : k = l.length := by omega
                  subst hk'
                  have HE : Hid (newE (N : Int) l = 0) := newE_0 HNUM.out HNM.out (room_yes hk64 (by
                    have := HS.out
                    rw [List.take_length] at this
                    rw [this]
                    exact hsum))
                  have HR5 : Hid (RefAt wr (fun k => w.heap.size ≤ k) w1.heap.size (newSt (N : Int) l) v) := by
                    have := HREF.out
                    rw [List.take_length] at this
                    exact this
                  clear hb
                  go_wp2
                  exact bodyPost_ret (v := .tuple #[.pointer (some ⟨w1.heap.size, 0, none⟩), .int .i64 0]) (by simp [results, Try.results11, go_sem]) rfl ⟨HB.out, Or.inr ⟨HE.out, _, v, rfl, HR5.out⟩⟩
end Go.Proofs.Ytejbelbfmchadaa
