/- The document's functions of layer 4, first part: Name, place, there. -/
import Derived.Test.YtejbelbfmchadaaD17
namespace Go.Proofs.Ytejbelbfmchadaa
open Go.RowKit

/-- The five cells of the document's disk. -/
def rcells (v : Value) (st : St) : Array Value := #[.int .i64 (st.size : Int), v, .int .i64 st.armed, .bool st.down, .int .i64 (st.steps : Int)]
/-- The document's disk in memory: its cells, the row of its files by rising names. -/
structure RefAt (w : World) (Z : Nat → Prop) (a : Nat) (st : St) (v : Value) : Prop where
  cells : w.heap[a]? = some (.cells (rcells v st) 70 (0, 0))
  za : Z a
  row : w.ownsRow 0 27 3 v st.fs.length (fc st.fs)
  zone : ∀ g, v.ownBlock = some g → Z g
  sorted : srt st.fs
  few : st.fs.length ≤ 1000
theorem rcell5 {w : World} {a : Nat} {v : Value} {st : St} (h : w.heap[a]? = some (.cells (rcells v st) 70 (0, 0))) :
    w.cell? ⟨a, 0, none⟩ = some (.int .i64 (st.size : Int)) ∧ w.cell? ⟨a, 1, none⟩ = some v ∧ w.cell? ⟨a, 2, none⟩ = some (.int .i64 st.armed) ∧ w.cell? ⟨a, 3, none⟩ = some (.bool st.down) ∧ w.cell? ⟨a, 4, none⟩ = some (.int .i64 (st.steps : Int)) ∧ (∀ o, w.frozen? ⟨a, o, none⟩ = false) := by
  simp [World.cell?, World.frozen?, h, rcells]
theorem RefAt.lt {w : World} {Z : Nat → Prop} {a : Nat} {st : St} {v : Value} (h : RefAt w Z a st v) : a < w.heap.size := (Array.getElem?_eq_some_iff.1 h.cells).1
theorem RefAt.ne {w : World} {Z : Nat → Prop} {a : Nat} {st : St} {v : Value} (h : RefAt w Z a st v) : v.ownBlock ≠ some a := fun e => by
  obtain ⟨_, ⟨rfl, _⟩ | ⟨g, cap, cur, rfl, _, hg, _⟩⟩ := h.row
  · cases e
  · have e' : g = a := by simpa [Value.ownBlock] using e
    rw [e', h.cells] at hg
    simp only [Option.some.injEq, Obj.cells.injEq] at hg
    exact absurd hg.2.1 (by decide)
theorem RefAt.later {w w' : World} {Z : Nat → Prop} {a : Nat} {st : St} {v : Value} (h : RefAt w Z a st v) (hb : Below w.heap.size w w') : RefAt w' Z a st v :=
  ⟨(hb.block a h.lt).trans h.cells, h.za, own_later h.row hb, h.zone, h.sorted, h.few⟩
/-- The cells of a file in the row. -/
theorem fc_at : ∀ (l : Fs) (i : Nat) (h : i < l.length), (fc l)[i * 3]? = some (.string ⟨(l[i]).1.toArray⟩) ∧ (fc l)[i * 3 + 1]? = some (.string ⟨(l[i]).2.1.toArray⟩) ∧ (fc l)[i * 3 + 2]? = some (.int .i64 ((l[i]).2.2 : Int))
  | p :: r, 0, _ => ⟨rfl, rfl, rfl⟩
  | p :: r, i + 1, h => by
    have := fc_at r i (by simpa using h)
    have e0 : (i + 1) * 3 = i * 3 + 1 + 1 + 1 := by omega
    have e1 : (i + 1) * 3 + 1 = (i * 3 + 1) + 1 + 1 + 1 := by omega
    have e2 : (i + 1) * 3 + 2 = (i * 3 + 2) + 1 + 1 + 1 := by omega
    rw [e1, e2, e0]
    simpa only [fc, List.getElem?_cons_succ, List.getElem_cons_succ] using this
theorem row_at {w : World} {B : Nat} {p : Option Addr} {cap : Nat} {l : Fs} (h : w.ownsRow B 27 3 (.slice p l.length cap) l.length (fc l)) {i : Nat} (hi : i < l.length) :
    ∃ g, p = some ⟨g, 0, none⟩ ∧ w.cell? ⟨g, i * 3, none⟩ = some (.string ⟨(l[i]).1.toArray⟩) ∧ w.cell? ⟨g, i * 3 + 1, none⟩ = some (.string ⟨(l[i]).2.1.toArray⟩) ∧ w.cell? ⟨g, i * 3 + 2, none⟩ = some (.int .i64 ((l[i]).2.2 : Int)) := by
  have hc := fun g => h.cells (g := g)
  obtain ⟨_, ⟨_, e⟩ | ⟨g, cap', cur, e1, _⟩⟩ := h
  · omega
  · simp only [Value.slice.injEq] at e1
    obtain ⟨rfl, _, rfl⟩ := e1
    obtain ⟨f0, f1, f2⟩ := fc_at l i hi
    have k0 := hc g rfl _ _ f0
    have k1 := hc g rfl _ _ f1
    have k2 := hc g rfl _ _ f2
    simp only [Addr.add_lit, Nat.zero_add] at k0 k1 k2
    exact ⟨g, rfl, k0, k1, k2⟩

set_option maxHeartbeats 8000000 in
set_option maxRecDepth 100000 in
theorem name_any (s : ByteArray) (w : World) (hs : s.size ≤ 9223372036854775807) : Calls Try.prog 31 #[.string s] w fun e w' => e = .returned (.bool (nmOk s.data.toList)) ∧ w' = w := by
  have hsl : s.data.toList.length = s.size := by simp
  have HR : Hid (s.data.toList.all nmb = true → nmOk s.data.toList = (decide (1 ≤ s.size) && decide (s.size ≤ 16))) := fun h => by simp only [nmOk, h, Bool.and_true, hsl]
  have HF : Hid (s.data.toList.all nmb = false → nmOk s.data.toList = false) := fun h => by simp only [nmOk, h, Bool.and_false]
  clear hsl
  go_enter Try.func31, Try.ntmps31
  go_wp2
  go_loopw [3] (fun i wr => ∃ k : Nat, k ≤ s.size ∧ i = .int .i64 k ∧ (s.data.toList.take k).all nmb = true ∧ wr = w) (fun i _ => s.size - (intOf i).toNat)
  case atStart => exact ⟨0, Nat.zero_le _, rfl, by simp, rfl⟩
  case round =>
    obtain ⟨k, hk, rfl, hall, rfl⟩ := hrel
    have HA : Hid ((s.data.toList.take k).all nmb = true) := hall
    clear hall
    by_cases hlt : k < s.size
    · have hlti : (k : Int) < (s.size : Int) := by omega
      have HT : Hid (nmb s[k] = true → (s.data.toList.take (k + 1)).all nmb = true) := fun h => by rw [all_take hlt, HA.out, h]; rfl
      have HN : Hid (nmb s[k] = false → s.data.toList.all nmb = false) := fun h => by
        rw [List.all_eq_false]
        exact ⟨s[k], by simp [ByteArray.getElem_eq_getElem_data], by simp [h]⟩
      have HB : Hid (nmb s[k] = true ↔ ((97 ≤ s[k].toNat ∧ s[k].toNat ≤ 122) ∨ (48 ≤ s[k].toNat ∧ s[k].toNat ≤ 57) ∨ s[k].toNat = 45 ∨ s[k].toNat = 46)) := by simp [Hid, nmb, or_assoc]
      have HBF : Hid (¬ ((97 ≤ s[k].toNat ∧ s[k].toNat ≤ 122) ∨ (48 ≤ s[k].toNat ∧ s[k].toNat ≤ 57) ∨ s[k].toNat = 45 ∨ s[k].toNat = 46) → nmb s[k] = false) := fun h => by
        cases hb : nmb s[k] with
        | false => rfl
        | true => exact absurd (HB.out.1 hb) h
      obtain ⟨n, hn⟩ : ∃ n, s[k].toNat = n := ⟨_, rfl⟩
      rw [hn] at HB HBF
      have HLT : Hid (k < s.size) := hlt
      have hcase : n < 45 ∨ n = 45 ∨ n = 46 ∨ n = 47 ∨ (48 ≤ n ∧ n ≤ 57) ∨ (58 ≤ n ∧ n ≤ 96) ∨ (97 ≤ n ∧ n ≤ 122) ∨ 123 ≤ n := by omega
      rcases hcase with q | q | q | q | ⟨q, q'⟩ | ⟨q, q'⟩ | ⟨q, q'⟩ | q
      · have e45 : ((n : Int) != 45) = true := by simp; try omega
        have e46 : ((n : Int) != 46) = true := by simp; try omega
        have f48 : (n : Int) < 48 := by omega
        have f57 : ¬ (57 : Int) < (n : Int) := by omega
        have f97 : (n : Int) < 97 := by omega
        have f122 : ¬ (122 : Int) < (n : Int) := by omega
        have HX : Hid (nmOk s.data.toList = false) := HF.out (HN.out (HBF.out (by omega)))
        clear HB HBF q
        go_wp2
        go_ret
        exact ⟨ret_bool HX.out.symm, rfl⟩
      · have e45 : ((n : Int) != 45) = false := by simp; try omega
        have e46 : ((n : Int) != 46) = true := by simp; try omega
        have f48 : (n : Int) < 48 := by omega
        have f57 : ¬ (57 : Int) < (n : Int) := by omega
        have f97 : (n : Int) < 97 := by omega
        have f122 : ¬ (122 : Int) < (n : Int) := by omega
        have HX : Hid ((s.data.toList.take (k + 1)).all nmb = true) := HT.out (HB.out.2 (by omega))
        clear HB HBF q
        go_wp2
        go_roundw
        case rel => exact ⟨k + 1, HLT.out, by go_num, HX.out, trivial⟩
        case measure => have := HLT.out; simp [intOf]; omega
      · have e45 : ((n : Int) != 45) = true := by simp; try omega
        have e46 : ((n : Int) != 46) = false := by simp; try omega
        have f48 : (n : Int) < 48 := by omega
        have f57 : ¬ (57 : Int) < (n : Int) := by omega
        have f97 : (n : Int) < 97 := by omega
        have f122 : ¬ (122 : Int) < (n : Int) := by omega
        have HX : Hid ((s.data.toList.take (k + 1)).all nmb = true) := HT.out (HB.out.2 (by omega))
        clear HB HBF q
        go_wp2
        go_roundw
        case rel => exact ⟨k + 1, HLT.out, by go_num, HX.out, trivial⟩
        case measure => have := HLT.out; simp [intOf]; omega
      · have e45 : ((n : Int) != 45) = true := by simp; try omega
        have e46 : ((n : Int) != 46) = true := by simp; try omega
        have f48 : (n : Int) < 48 := by omega
        have f57 : ¬ (57 : Int) < (n : Int) := by omega
        have f97 : (n : Int) < 97 := by omega
        have f122 : ¬ (122 : Int) < (n : Int) := by omega
        have HX : Hid (nmOk s.data.toList = false) := HF.out (HN.out (HBF.out (by omega)))
        clear HB HBF q
        go_wp2
        go_ret
        exact ⟨ret_bool HX.out.symm, rfl⟩
      · have e45 : ((n : Int) != 45) = true := by simp; try omega
        have e46 : ((n : Int) != 46) = true := by simp; try omega
        have f48 : ¬ (n : Int) < 48 := by omega
        have f57 : ¬ (57 : Int) < (n : Int) := by omega
        have f97 : (n : Int) < 97 := by omega
        have f122 : ¬ (122 : Int) < (n : Int) := by omega
        have HX : Hid ((s.data.toList.take (k + 1)).all nmb = true) := HT.out (HB.out.2 (by omega))
        clear HB HBF q q'
        go_wp2
        go_roundw
        case rel => exact ⟨k + 1, HLT.out, by go_num, HX.out, trivial⟩
        case measure => have := HLT.out; simp [intOf]; omega
      · have e45 : ((n : Int) != 45) = true := by simp; try omega
        have e46 : ((n : Int) != 46) = true := by simp; try omega
        have f48 : ¬ (n : Int) < 48 := by omega
        have f57 : (57 : Int) < (n : Int) := by omega
        have f97 : (n : Int) < 97 := by omega
        have f122 : ¬ (122 : Int) < (n : Int) := by omega
        have HX : Hid (nmOk s.data.toList = false) := HF.out (HN.out (HBF.out (by omega)))
        clear HB HBF q q'
        go_wp2
        go_ret
        exact ⟨ret_bool HX.out.symm, rfl⟩
      · have e45 : ((n : Int) != 45) = true := by simp; try omega
        have e46 : ((n : Int) != 46) = true := by simp; try omega
        have f48 : ¬ (n : Int) < 48 := by omega
        have f57 : (57 : Int) < (n : Int) := by omega
        have f97 : ¬ (n : Int) < 97 := by omega
        have f122 : ¬ (122 : Int) < (n : Int) := by omega
        have HX : Hid ((s.data.toList.take (k + 1)).all nmb = true) := HT.out (HB.out.2 (by omega))
        clear HB HBF q q'
        go_wp2
        go_roundw
        case rel => exact ⟨k + 1, HLT.out, by go_num, HX.out, trivial⟩
        case measure => have := HLT.out; simp [intOf]; omega
      · have e45 : ((n : Int) != 45) = true := by simp; try omega
        have e46 : ((n : Int) != 46) = true := by simp; try omega
        have f48 : ¬ (n : Int) < 48 := by omega
        have f57 : (57 : Int) < (n : Int) := by omega
        have f97 : ¬ (n : Int) < 97 := by omega
        have f122 : (122 : Int) < (n : Int) := by omega
        have HX : Hid (nmOk s.data.toList = false) := HF.out (HN.out (HBF.out (by omega)))
        clear HB HBF q
        go_wp2
        go_ret
        exact ⟨ret_bool HX.out.symm, rfl⟩
    · have hk' : k = s.size := by omega
      subst hk'
      have HE : Hid (nmOk s.data.toList = (decide (1 ≤ s.size) && decide (s.size ≤ 16))) := HR.out (by
        have := HA.out
        rwa [List.take_of_length_le (by simp)] at this)
      by_cases h1 : 1 ≤ s.size
      · have h1i : (1 : Int) ≤ (s.size : Int) := by omega
        by_cases h2 : s.size ≤ 16
        · have h2i : (s.size : Int) ≤ 16 := by omega
          go_wp2
          go_ret
          exact ⟨ret_bool (by rw [HE.out, decide_eq_true h1, decide_eq_true h2]; rfl), rfl⟩
        · have h2i : ¬ (s.size : Int) ≤ 16 := by omega
          go_wp2
          go_ret
          exact ⟨ret_bool (by rw [HE.out, decide_eq_false h2, Bool.and_false]), rfl⟩
      · have h1i : ¬ (1 : Int) ≤ (s.size : Int) := by omega
        go_wp2
        go_ret
        exact ⟨ret_bool (by rw [HE.out, decide_eq_false h1, Bool.false_and]), rfl⟩

/-- Where a name stands, or would stand. -/
structure PlaceAt (fs : Fs) (k : Nm) (j : Nat) : Prop where
  le : j ≤ fs.length
  less : ∀ i (h : i < fs.length), i < j → Op.bytesLess (fs[i]).1 k = true
  not : ∀ h : j < fs.length, Op.bytesLess (fs[j]).1 k = false

set_option maxHeartbeats 4000000 in
set_option maxRecDepth 100000 in
theorem place_any (w : World) (Z : Nat → Prop) (a : Nat) (st : St) (v : Value) (s : ByteArray) (h : RefAt w Z a st v) : Calls Try.prog 53 #[.pointer (some ⟨a, 0, none⟩), .string s] w fun e w' => ∃ j : Nat, e = .returned (.int .i64 (j : Int)) ∧ PlaceAt st.fs s.data.toList j ∧ w' = w := by
  obtain ⟨p, cap, rfl⟩ := own_form h.row
  obtain ⟨c0, c1, c2, c3, c4, cf⟩ := rcell5 h.cells
  have HD : Hid (RefAt w Z a st (.slice p st.fs.length cap)) := h
  have hfew := h.few
  clear h
  obtain ⟨fs, hfs⟩ : ∃ fs, st.fs = fs := ⟨_, rfl⟩
  have HROW : Hid (w.ownsRow 0 27 3 (.slice p fs.length cap) fs.length (fc fs)) := by
    have := HD.out.row
    rw [hfs] at this
    exact this
  rw [hfs] at c1 hfew
  simp only [hfs]
  clear hfs HD
  go_enter Try.func53, Try.ntmps53
  go_wp2
  go_loopw [5] (fun i wr => ∃ k : Nat, k ≤ fs.length ∧ i = .int .i64 k ∧ (∀ j (h : j < fs.length), j < k → Op.bytesLess (fs[j]).1 s.data.toList = true) ∧ wr = w) (fun i _ => fs.length - (intOf i).toNat)
  case atStart => exact ⟨0, Nat.zero_le _, rfl, fun j _ h => absurd h (Nat.not_lt_zero _), rfl⟩
  case round =>
    obtain ⟨k, hk, rfl, hall, rfl⟩ := hrel
    have HA : Hid (∀ j (h : j < fs.length), j < k → Op.bytesLess (fs[j]).1 s.data.toList = true) := hall
    clear hall
    by_cases hlt : k < fs.length
    · have hlti : (k : Int) < (fs.length : Int) := by omega
      obtain ⟨g, rfl, d0, d1, d2⟩ := row_at HROW.out hlt
      obtain ⟨nm, hnm⟩ : ∃ nm, (fs[k]).1 = nm := ⟨_, rfl⟩
      rw [hnm] at d0
      have HN : Hid ((fs[k]).1 = nm) := hnm
      have HLT : Hid (k < fs.length) := hlt
      have e2 : s.toList = s.data.toList := ByteArray.toList_eq _
      clear hnm
      cases hb : Op.bytesLess nm s.data.toList with
      | true =>
        have HX : Hid (∀ j (h : j < fs.length), j < k + 1 → Op.bytesLess (fs[j]).1 s.data.toList = true) := by
          intro j h hj
          by_cases e : j = k
          · subst e
            rw [HN.out]
            exact hb
          · exact HA.out j h (by omega)
        have hb' : Op.bytesLess nm s.toList = true := by rw [e2]; exact hb
        clear hb e2
        go_wp2
        go_roundw
        case rel => exact ⟨k + 1, HLT.out, by go_num, HX.out, trivial⟩
        case measure => have := HLT.out; simp [intOf]; omega
      | false =>
        have HX : Hid (PlaceAt fs s.data.toList k) := ⟨hk, fun i h g => HA.out i h g, fun _ => by rw [HN.out]; exact hb⟩
        have hb' : Op.bytesLess nm s.toList = false := by rw [e2]; exact hb
        clear hb e2
        go_wp2
        go_ret
        exact ⟨k, rfl, HX.out, rfl⟩
    · have hk' : k = fs.length := by omega
      subst hk'
      go_wp2
      go_ret
      exact ⟨_, rfl, ⟨Nat.le_refl _, fun i h g => HA.out i h g, fun h => absurd h (Nat.lt_irrefl _)⟩, rfl⟩
end Go.Proofs.Ytejbelbfmchadaa
