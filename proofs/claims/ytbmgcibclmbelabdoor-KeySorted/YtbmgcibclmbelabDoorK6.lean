/- Walks of layer 2, sixth part: the key of some values. -/
import Derived.Test.YtbmgcibclmbelabDoorK5
namespace Go.Proofs.YtbmgcibclmbelabDoor
open Go.RowKit

theorem kbs_take {vs : List V3} {k : Nat} (h : k < vs.length) : kbs (vs.take (k + 1)) = kbs (vs.take k) ++ kb vs[k] := by
  rw [List.take_succ_eq_append_getElem h, kbs_append, kbs_one]
theorem kbs_bound : ∀ {vs : List V3}, (∀ v ∈ vs, V3.right v = true) → (kbs vs).length ≤ 150 * vs.length
  | [], _ => by simp [kbs_nil]
  | v :: vs, h => by
    have ih := kbs_bound (vs := vs) (fun x hx => h x (by simp [hx]))
    have hl := kb_len v
    have hv := h v (by simp)
    have hs : v.2.2.size ≤ 64 := by
      rcases right_kind hv with k | k | k | k
      · rw [(right_null hv k).2]; decide
      · rw [(right_num hv k).2.2]; decide
      · rw [(right_bool hv k).2]; decide
      · exact (right_text hv k).2
    rw [kbs_cons, List.length_append, List.length_cons]
    omega
theorem upto_right {vs : List V3} {k : Nat} (h : ∀ j (g : j < vs.length), j < k → V3.right vs[j] = true) : ∀ v ∈ vs.take k, V3.right v = true := by
  intro v hv
  obtain ⟨j, hj, rfl⟩ := List.getElem_of_mem hv
  rw [List.getElem_take]
  have hj' : j < k ∧ j < vs.length := Nat.lt_min.1 (by simpa using hj)
  exact h j hj'.2 hj'.1
/-- 'string(b)' of what is owned, be it nothing. -/
theorem own_str {w : World} {B n : Nat} {v : Value} {xs : List UInt8} (h : w.ownsRow B 5 1 v n (bv xs)) : ∃ a cap, v = .slice a n cap ∧ (convert 39 9 (.slice a n cap)).run Tryd.prog w = .ok (.string ⟨xs.toArray⟩) w := by
  by_cases h0 : 0 < n
  · obtain ⟨g, cap, e, r⟩ := own_string h h0
    exact ⟨_, _, e, r⟩
  · have hn : n = 0 := by omega
    subst hn
    have hx : xs = [] := by
      have := h.1
      rw [bv_length] at this
      exact List.eq_nil_of_length_eq_zero (by omega)
    subst hx
    obtain ⟨_, ⟨rfl, _⟩ | ⟨g, cap, cur, rfl, _⟩⟩ := h
    · refine ⟨none, 0, rfl, ?_⟩
      rw [run_convert_bytes_string w 39 9 5 none 0 0 Tryd.underlying39 Tryd.underlying5 Tryd.underlying9]
      rfl
    · exact ⟨_, cap, rfl, run_convert_bytes_back w 39 9 5 ⟨g, 0, none⟩ cap [] Tryd.underlying39 Tryd.underlying5 Tryd.underlying9 (by intro j hj; simp at hj)⟩

/-- The answer of Encode. -/
def encV (vs : List V3) : Value := .tuple #[.string ⟨(encR vs).1.toArray⟩, .int .i64 (encR vs).2]

set_option maxHeartbeats 2000000 in
set_option maxRecDepth 100000 in
theorem enc_any (a : Option Addr) (cap : Nat) (vs : List V3) (w : World) (hlen : vs.length ≤ 2147483648) (hrow : Row w a vs) (h0 : 0 < w.heap.size) (hm : ML w) :
    Calls Tryd.prog 5 #[.slice a vs.length cap] w fun e w' => e = .returned (encV vs) ∧ Below w.heap.size w w' := by
  have HR : Hid (Row w a vs) := hrow
  clear hrow
  by_cases h8 : 8 < vs.length
  · have HE : Hid (encR vs = ([], 2)) := encR_long h8
    have h8' : (8 : Int) < (vs.length : Int) := by omega
    go_enter Tryd.func5, Tryd.ntmps5
    go_wp2
    exact bodyPost_ret (v := .tuple #[.string ⟨#[]⟩, .int .i64 2]) (by simp [results, Tryd.results5, go_sem]) rfl ⟨by rw [encV, HE.out], by (repeat (first | exact Below.refl _ _ | assumption | refine Below.drew ?_ | refine below_drewN ?_ _ | refine Below.alloc ?_ (by first | omega | (simp; done) | (simp; omega)) _ | refine Below.setCell ?_ (by first | omega | (simp; done) | (simp; omega)) _ | refine Below.trans ?_ (Below.mono (by assumption) (by first | omega | (simp; done) | (simp; omega)))))⟩
  · have h8' : ¬ (8 : Int) < (vs.length : Int) := by omega
    have h8n : vs.length ≤ 8 := by omega
    have H8 : Hid (¬ 8 < vs.length) := h8
    clear h8
    go_enter Tryd.func5, Tryd.ntmps5
    go_wp2
    go_loopw [4, 12] (fun v i wr => ∃ k : Nat, k ≤ vs.length ∧ i = .int .i64 k ∧ (∀ j (g : j < vs.length), j < k → V3.right vs[j] = true) ∧ wr.ownsRow w.heap.size 5 1 v (kbs (vs.take k)).length (bv (kbs (vs.take k))) ∧ Below w.heap.size w wr) (fun _ i _ => vs.length - (intOf i).toNat)
    case atStart => exact ⟨0, Nat.zero_le _, rfl, fun j _ g => absurd g (Nat.not_lt_zero _), by simpa [kbs, bv] using World.ownsRow_nil w w.heap.size 5 1, Below.refl _ _⟩
    case round =>
      obtain ⟨k, hk, rfl, hall, hown, hb⟩ := hrel
      have HA : Hid (∀ j (g : j < vs.length), j < k → V3.right vs[j] = true) := hall
      clear hall
      have hsz := hb.size
      have hm1 := hm.later hb h0
      have hbd := kbs_bound (upto_right HA.out)
      have htl : (vs.take k).length ≤ k := List.length_take_le _ _
      by_cases hlt : k < vs.length
      · obtain ⟨b, off, rfl, c0, c1, c2⟩ := HR.out k hlt
        have d0 := cell_later hb c0
        have d1 := cell_later hb c1
        have d2 := cell_later hb c2
        clear c0 c1 c2
        cases hrt : V3.right vs[k] with
        | true =>
          have hrg : rgt (vs[k]).1 (vs[k]).2.1 (vs[k]).2.2 = true := hrt
          have HT : Hid (V3.right vs[k] = true) := hrt
          clear hrt
          go_wp2_with (first | (go_at_call 11; refine (right_any _ _ _ _).mono ?_; rintro e w' ⟨rfl, hb'⟩; rw [hrg]; obtain ⟨hc, hf⟩ := bcell hb'; have hz := hb'.size; (try simp at hz); (have hz0 : wr.heap.size < w'.heap.size := by omega)) | (go_at_call 12; refine (av_any w.heap.size _ _ _ vs[k] _ HT.out (own_later (hown.alloc _) hb') (by omega) (by omega) h0 ((hm1.later ((Below.refl wr.heap.size _).alloc (Nat.le_refl _) _) (by omega)).later hb' (by simp))).mono ?_; rintro e w2 ⟨v2, rfl, hown2, hb2⟩))
          go_roundw
          case rel =>
            refine ⟨k + 1, by omega, by go_num, upto_succ HA.out HT.out, ?_, by (repeat (first | exact Below.refl _ _ | assumption | refine Below.drew ?_ | refine below_drewN ?_ _ | refine Below.alloc ?_ (by first | omega | (simp; done) | (simp; omega)) _ | refine Below.setCell ?_ (by first | omega | (simp; done) | (simp; omega)) _ | refine Below.trans ?_ (Below.mono (by assumption) (by first | omega | (simp; done) | (simp; omega)))))⟩
            rw [kbs_take hlt, List.length_append]
            exact hown2
          case measure => simp [intOf]; omega
        | false =>
          have hrg : rgt (vs[k]).1 (vs[k]).2.1 (vs[k]).2.2 = false := hrt
          have HE : Hid (encR vs = ([], 10)) := encR_wrong H8.out k hlt hrt
          clear hrt
          go_wp2_with (first | (go_at_call 11; refine (right_any _ _ _ _).mono ?_; rintro e w' ⟨rfl, hb'⟩; rw [hrg]; obtain ⟨hc, hf⟩ := bcell hb'; have hz := hb'.size; (try simp at hz); (have hz0 : wr.heap.size < w'.heap.size := by omega)))
          exact bodyPost_ret (v := .tuple #[.string ⟨#[]⟩, .int .i64 10]) (by simp [results, Tryd.results5, go_sem]) rfl ⟨by rw [encV, HE.out], by (repeat (first | exact Below.refl _ _ | assumption | refine Below.drew ?_ | refine below_drewN ?_ _ | refine Below.alloc ?_ (by first | omega | (simp; done) | (simp; omega)) _ | refine Below.setCell ?_ (by first | omega | (simp; done) | (simp; omega)) _ | refine Below.trans ?_ (Below.mono (by assumption) (by first | omega | (simp; done) | (simp; omega)))))⟩
      · have hk' : k = vs.length := by omega
        subst hk'
        rw [List.take_length] at hown
        have HE : Hid (encR vs = (kbs vs, 0)) := encR_ok H8.out fun j g => HA.out j g g
        obtain ⟨ar, cp, rfl, hcv⟩ := own_str hown
        clear hown
        go_wp2
        exact bodyPost_ret (v := .tuple #[.string ⟨(kbs vs).toArray⟩, .int .i64 0]) (by simp [results, Tryd.results5, go_sem]) rfl ⟨by rw [encV, HE.out], by (repeat (first | exact Below.refl _ _ | assumption | refine Below.drew ?_ | refine below_drewN ?_ _ | refine Below.alloc ?_ (by first | omega | (simp; done) | (simp; omega)) _ | refine Below.setCell ?_ (by first | omega | (simp; done) | (simp; omega)) _ | refine Below.trans ?_ (Below.mono (by assumption) (by first | omega | (simp; done) | (simp; omega)))))⟩
end Go.Proofs.YtbmgcibclmbelabDoor
