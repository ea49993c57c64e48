/- Walks of layer 2, third part: what is next behind a text. -/
import Derived.Test.YtbmgcibclmbelabDoorC4
import Derived.Lib.Hide
namespace Go.Proofs.YtbmgcibclmbelabDoor
open Go.RowKit

theorem take_snoc {s : ByteArray} {k : Nat} (h : k + 1 ≤ s.size) : s.data.toList = s.data.toList.take k ++ s[k] :: s.data.toList.drop (k + 1) := by
  have hk : k < s.data.toList.length := by simp; omega
  have e : s.data.toList.drop k = s[k] :: s.data.toList.drop (k + 1) := by rw [List.drop_eq_getElem_cons hk]; rfl
  rw [← e, List.take_append_drop]
theorem drop_all {s : ByteArray} {k : Nat} (h : k + 1 ≤ s.size) (hc : s[k] = 255) (g : ∀ c ∈ s.data.toList.drop (k + 1), c = 255) : ∀ c ∈ s.data.toList.drop k, c = 255 := by
  have hk : k < s.data.toList.length := by simp; omega
  have e : s.data.toList.drop k = s[k] :: s.data.toList.drop (k + 1) := by rw [List.drop_eq_getElem_cons hk]; rfl
  rw [e]
  intro c hm
  rcases List.mem_cons.1 hm with rfl | hm
  · exact hc
  · exact g c hm
theorem ext_at {s : ByteArray} {n j : Nat} (h : j < (s.extract 0 n).size) (h' : j < s.size) : (s.extract 0 n)[j] = s[j] := by
  first | (rw [ByteArray.getElem_extract]; simp; done) | (show (s.extract 0 n).data[j] = s.data[j]; simp [ByteArray.data_extract])
theorem ext_snoc (s : ByteArray) (k : Nat) (c : UInt8) : s.extract 0 k ++ ⟨#[c]⟩ = ⟨(s.data.toList.take k ++ [c]).toArray⟩ := by
  apply ba_ext
  simp
/-- The answer of Next. -/
def nxtV (s : ByteArray) : Value := .tuple #[.string ⟨(nxt s.data.toList).1.toArray⟩, .bool (nxt s.data.toList).2]

set_option maxHeartbeats 2000000 in
set_option maxRecDepth 100000 in
theorem knext_any (s : ByteArray) (w : World) (hs : s.size ≤ 2147483648) :
    Calls Tryd.prog 10 #[.string s] w fun e w' => e = .returned (nxtV s) ∧ Below w.heap.size w w' := by
  go_enter Tryd.func10, Tryd.ntmps10
  go_wp2
  go_loopw [4] (fun i wr => ∃ k : Nat, k ≤ s.size ∧ i = .int .i64 k ∧ (∀ c ∈ s.data.toList.drop k, c = 255) ∧ Below w.heap.size w wr) (fun i _ => (intOf i).toNat)
  case atStart => exact ⟨s.size, Nat.le_refl _, rfl, by rw [List.drop_of_length_le (by simp)]; simp, Below.refl _ _⟩
  case round =>
    obtain ⟨k, hk, rfl, hall, hb⟩ := hrel
    have HA : Hid (∀ c ∈ s.data.toList.drop k, c = 255) := hall
    clear hall
    match k, hk, HA with
    | 0, hk, HA =>
      have HE : Hid (nxt s.data.toList = ([], false)) := nxt_all (by simpa using HA.out)
      go_wp2
      exact bodyPost_ret (v := .tuple #[.string ⟨#[]⟩, .bool false]) (by simp [results, Tryd.results10, go_sem, *]) rfl ⟨by rw [nxtV, HE.out], hb⟩
    | k + 1, hk, HA =>
      have e1 : (((k + 1 : Nat) : Int) - 1) = (k : Int) := by omega
      have e2 : IntKind.i64.wrap (((k + 1 : Nat) : Int) - 1) = (k : Int) := by rw [IntKind.wrap_i64]; omega
      have hk2 : k < s.size := by omega
      by_cases hc : s[k] = 255
      · have hc' : s[k].toNat = 255 := by rw [hc]; rfl
        have HA2 : Hid (∀ c ∈ s.data.toList.drop k, c = 255) := drop_all hk hc HA.out
        clear hc
        go_wp2
        go_roundw
        case rel => exact ⟨k, by omega, by go_num, HA2.out, hb⟩
        case measure => simp [intOf]
      · have hc' : ((s[k].toNat : Int) == 255) = false := by
          rw [beq_eq_false_iff_ne]
          intro h
          exact hc (UInt8.toNat_inj.1 (by show s[k].toNat = 255; omega))
        have HE : Hid (nxt s.data.toList = (s.data.toList.take k ++ [s[k] + 1], true)) := by
          have := nxt_some (p := s.data.toList.take k) hc HA.out
          rw [← take_snoc hk] at this
          exact this
        have hsz : (s.extract 0 (k + 1)).size = k + 1 := by simp; omega
        have hel : ∀ j (hj : j < (s.extract 0 (k + 1)).size), (s.extract 0 (k + 1))[j] = s[j]'(by omega) := fun j hj => ext_at hj (by omega)
        have hplus : (s[k] + 1).toNat = s[k].toNat + 1 := by
          have h1 := UInt8.toNat_lt s[k]
          have : s[k].toNat ≠ 255 := fun g => hc (UInt8.toNat_inj.1 g)
          rw [UInt8.toNat_add]
          show (s[k].toNat + 1) % 256 = s[k].toNat + 1
          omega
        clear hc
        go_wp2_with (first | (refine wpList_bytes_new _ rfl (.tmp 23) 9 39 5 rfl Tryd.underlying9 Tryd.underlying39 Tryd.underlying5 (s.extract 0 (k + 1)) rfl ?_; intro cap w1 hc1 hf1 hb1 hlt1; refine Hid.out ?_))
        have ck : w1.cell? ⟨wr.heap.size, k, none⟩ = some (.int .u8 (s[k].toNat : Int)) := by rw [hc1 k (by omega), hel k (by omega)]
        have fk : w1.frozen? ⟨wr.heap.size, k, none⟩ = false := hf1 k (by omega)
        have HV : Hid (((s[k].toNat : Int) + 1) % 256 = ((s[k] + 1).toNat : Int)) := by
          have h1 := UInt8.toNat_lt (s[k] + 1)
          show ((s[k].toNat : Int) + 1) % 256 = ((s[k] + 1).toNat : Int)
          omega
        have hcv : (convert 39 9 (.slice (some ⟨wr.heap.size, 0, none⟩) (k + 1) cap)).run Tryd.prog (w1.setCell ⟨wr.heap.size, k, none⟩ (.int .u8 (((s[k].toNat : Int) + 1) % 256))) = .ok (.string ⟨(s.data.toList.take k ++ [s[k] + 1]).toArray⟩) (w1.setCell ⟨wr.heap.size, k, none⟩ (.int .u8 (((s[k].toNat : Int) + 1) % 256))) := by
          have hl : (s.data.toList.take k ++ [s[k] + 1]).length = k + 1 := by simp; omega
          have := run_convert_bytes_back (P := Tryd.prog) (w1.setCell ⟨wr.heap.size, k, none⟩ (.int .u8 (((s[k].toNat : Int) + 1) % 256))) 39 9 5 ⟨wr.heap.size, 0, none⟩ cap (s.data.toList.take k ++ [s[k] + 1]) Tryd.underlying39 Tryd.underlying5 Tryd.underlying9 ?_
          · rw [hl] at this; exact this
          · intro j hj
            rw [hl] at hj
            have hadd : (⟨wr.heap.size, 0, none⟩ : Addr).add j = ⟨wr.heap.size, j, none⟩ := by unfold Addr.add; split <;> simp_all
            rw [hadd]
            by_cases hjk : j = k
            · subst hjk
              rw [World.cell?_setCell_same _ _ _ ck, HV.out]
              have hmin : min j s.size = j := by omega
              rw [List.getElem_append_right (by simp; omega)]
              simp [hmin]
            · rw [World.cell?_setCell_other _ _ _ _ (by simp), hc1 j (by omega), hel j (by omega)]
              have hlt : j < k := by omega
              rw [List.getElem_append_left (by simp; omega)]
              simp
              rfl
        have hbb : Below w.heap.size w (w1.setCell ⟨wr.heap.size, k, none⟩ (.int .u8 (((s[k].toNat : Int) + 1) % 256))) := by
          have hz := hb.size
          exact (hb.trans (hb1.mono hz)).setCell hz _
        have HB : Hid (Below w.heap.size w (w1.setCell ⟨wr.heap.size, k, none⟩ (.int .u8 (((s[k].toNat : Int) + 1) % 256)))) := hbb
        clear hc1 hf1 hel hplus hbb
        refine Lib.hid ?_
        go_wp2
        exact bodyPost_ret (v := .tuple #[.string ⟨(s.data.toList.take k ++ [s[k] + 1]).toArray⟩, .bool true]) (by simp [results, Tryd.results10, go_sem, *]) rfl ⟨by rw [nxtV, HE.out], HB.out⟩

end Go.Proofs.YtbmgcibclmbelabDoor
