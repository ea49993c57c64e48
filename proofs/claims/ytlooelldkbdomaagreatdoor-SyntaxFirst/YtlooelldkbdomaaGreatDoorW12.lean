/- Walks of layer 1, twelfth part: a text as a literal. -/
import Derived.Test.YtlooelldkbdomaaGreatDoorW11
import Derived.Laws.IdiomStrings
namespace Go.Proofs.YtlooelldkbdomaaGreatDoor
open Go.RowKit

/-- What is owned, as a slice of bytes; 'string(b)' of it. -/
theorem own_string {w : World} {B n : Nat} {v : Value} {xs : List UInt8} (h : w.ownsRow B 5 1 v n (bv xs)) (hn : 0 < n) :
    ∃ g cap, v = .slice (some ⟨g, 0, none⟩) n cap ∧ (convert 150 9 (.slice (some ⟨g, 0, none⟩) n cap)).run Tryz.prog w = .ok (.string ⟨xs.toArray⟩) w := by
  have hc := fun g => h.cells (g := g)
  obtain ⟨hl, ⟨_, h0⟩ | ⟨g, cap, cur, rfl, _, _, _, _, _, _⟩⟩ := h
  · omega
  · rw [bv_length] at hl
    refine ⟨g, cap, rfl, ?_⟩
    have hn' : n = xs.length := by omega
    subst hn'
    refine run_convert_bytes_back w 150 9 5 ⟨g, 0, none⟩ cap xs Tryz.underlying150 Tryz.underlying5 Tryz.underlying9 ?_
    intro j hj
    exact hc g rfl j _ (by simp [bv, hj])

set_option maxHeartbeats 1000000 in
set_option maxRecDepth 100000 in
theorem quote_any (s : ByteArray) (w : World) (hs : s.size ≤ 100000000000) :
    Calls Tryz.prog 170 #[.string s] w fun e w' => e = .returned (.string ⟨(quo s).toArray⟩) ∧ Below w.heap.size w w' := by
  obtain ⟨i0, hi, hz0, hz1, hz2⟩ := info_parts Tryz.info5
  go_enter Tryz.func170, Tryz.ntmps170
  go_wp2
  go_loopw [3, 8] (fun v i wr => ∃ k : Nat, k ≤ s.size ∧ i = .int .i64 k ∧ wr.ownsRow w.heap.size 5 1 v (39 :: qbs (s.data.toList.take k)).length (bv (39 :: qbs (s.data.toList.take k))) ∧ Below w.heap.size w wr) (fun _ i _ => s.size - (intOf i).toNat)
  case atStart =>
    refine ⟨0, Nat.zero_le _, rfl, ⟨by simp [bv, qbs], Or.inr ⟨w.heap.size, 1, #[.int .u8 39], rfl, Nat.le_refl _, ?_, by simp [qbs], by decide, by simp, by simp [bv, qbs]⟩⟩, (Below.refl _ _).alloc (Nat.le_refl _) _⟩
    exact heap_alloc_new w _
  case round =>
    obtain ⟨k, hk, rfl, hown, hb⟩ := hrel
    have hsz := hb.size
    have hql := qbs_len (s.data.toList.take k)
    have htl : (s.data.toList.take k).length ≤ k := List.length_take_le _ _
    by_cases hlt : k < s.size
    · have HQ : Hid (qbs (s.data.toList.take (k + 1)) = qbs (s.data.toList.take k) ++ qb s[k]) := qbs_take s k hlt
      go_wp2_with (first | (go_at_call 180; refine (aq_any w.heap.size _ _ _ s[k] _ hown (by simp only [List.length_cons]; omega) (by omega)).mono ?_; rintro e w' ⟨v', rfl, hown', hb'⟩))
      go_roundw
      case rel => exact ⟨k + 1, by omega, by go_num, by rw [HQ.out]; simpa [Nat.add_assoc, Nat.add_comm] using hown', hb.trans hb'⟩
      case measure => simp [intOf]; omega
    · have hk' : k = s.size := by omega
      subst hk'
      have htk : s.data.toList.take s.size = s.data.toList := List.take_of_length_le (by simp)
      rw [htk] at hown hql htl
      clear htk
      have hlt := hown.lt
      have hl2 : s.data.toList.length = s.size := by simp
      go_wp2_with (first | (at_builtin; refine wpList_append_own _ rfl _ _ 150 rfl w.heap.size 5 i0 (.int .u8 0) 1 1 Tryz.underlying150 hi hz0 hz1 hz2 rfl (by decide) _ _ _ rfl (hown.alloc _) ⟨wr.heap.size, 0, none⟩ 1 1 (bv [39]) rfl rfl ?c1 ?c2 ?c3 ?c4 ?c5 ?_))
      case c1 =>
        intro j u hj
        match j, hj with
        | 0, hj => simp [bv] at hj; subst hj; first | (simp [Addr.add]; done) | (go_simp; done)
      case c2 => exact bv_one _
      case c3 => simp only [List.length_cons]; unfold maxLen; omega
      case c4 => simp only [List.length_cons]; omega
      case c5 => simp; omega
      · intro v' w1 hown' hgrow _
        rw [← bv_append] at hown'
        obtain ⟨g, cap, rfl, hcv⟩ := own_string hown' (by simp)
        have hbb : Below w.heap.size w w1 := (hb.alloc (by omega) _).grown hgrow (by simp; omega) fun k hk => (hlt k hk).1
        clear hown' hgrow hown hlt
        go_wp2
        go_ret
        exact ⟨rfl, hbb⟩
end Go.Proofs.YtlooelldkbdomaaGreatDoor
