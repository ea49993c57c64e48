/- Walks of layer 2, eighth part: the document's own key of some values. -/
import Derived.Test.YtbmgcibclmbelabDoorK7
namespace Go.Proofs.YtbmgcibclmbelabDoor
open Go.RowKit

theorem own_cells {w : World} {B n : Nat} {v : Value} {xs : List UInt8} (h : w.ownsRow B 5 1 v n (bv xs)) (hn : 0 < n) :
    ∃ g cap, v = .slice (some ⟨g, 0, none⟩) n cap ∧ ∀ j u, (bv xs)[j]? = some u → w.cell? ((⟨g, 0, none⟩ : Addr).add j) = some u := by
  have hc := fun g => h.cells (g := g)
  obtain ⟨_, ⟨_, h0⟩ | ⟨g, cap, cur, rfl, _⟩⟩ := h
  · omega
  · exact ⟨g, cap, rfl, hc g rfl⟩

set_option maxHeartbeats 2000000 in
set_option maxRecDepth 100000 in
theorem renc_any (a : Option Addr) (cap : Nat) (vs : List V3) (w : World) (hlen : vs.length ≤ 2147483648) (hrow : Row w a vs) :
    Calls Tryd.prog 6 #[.slice a vs.length cap] w fun e w' => e = .returned (encV vs) ∧ Below w.heap.size w w' := by
  obtain ⟨i0, hi, hz0, hz1, hz2⟩ := info_parts Tryd.info5
  have HR : Hid (Row w a vs) := hrow
  clear hrow
  by_cases h8 : 8 < vs.length
  · have HE : Hid (encR vs = ([], 2)) := encR_long h8
    have h8' : (8 : Int) < (vs.length : Int) := by omega
    go_enter Tryd.func6, Tryd.ntmps6
    go_wp2
    exact bodyPost_ret (v := .tuple #[.string ⟨#[]⟩, .int .i64 2]) (by simp [results, Tryd.results6, go_sem]) rfl ⟨by rw [encV, HE.out], by (repeat (first | exact Below.refl _ _ | assumption | refine Below.drew ?_ | refine below_drewN ?_ _ | refine Below.alloc ?_ (by first | omega | (simp; done) | (simp; omega)) _ | refine Below.setCell ?_ (by first | omega | (simp; done) | (simp; omega)) _ | refine Below.trans ?_ (Below.mono (by assumption) (by first | omega | (simp; done) | (simp; omega)))))⟩
  · have h8' : ¬ (8 : Int) < (vs.length : Int) := by omega
    have h8n : vs.length ≤ 8 := by omega
    have H8 : Hid (¬ 8 < vs.length) := h8
    clear h8
    go_enter Tryd.func6, Tryd.ntmps6
    go_wp2
    go_loopw [4, 5] (fun v i wr => ∃ k : Nat, k ≤ vs.length ∧ i = .int .i64 k ∧ (∀ j (g : j < vs.length), j < k → V3.right vs[j] = true) ∧ wr.ownsRow w.heap.size 5 1 v (kbs (vs.take k)).length (bv (kbs (vs.take k))) ∧ Below w.heap.size w wr) (fun _ i _ => vs.length - (intOf i).toNat)
    case atStart => exact ⟨0, Nat.zero_le _, rfl, fun j _ g => absurd g (Nat.not_lt_zero _), by simpa [kbs, bv] using World.ownsRow_nil w w.heap.size 5 1, Below.refl _ _⟩
    case round =>
      obtain ⟨k, hk, rfl, hall, hown, hb⟩ := hrel
      have HA : Hid (∀ j (g : j < vs.length), j < k → V3.right vs[j] = true) := hall
      clear hall
      have hsz := hb.size
      have hbd := kbs_bound (upto_right HA.out)
      have htl : (vs.take k).length ≤ k := List.length_take_le _ _
      by_cases hlt : k < vs.length
      · obtain ⟨b, off, rfl, c0, c1, c2⟩ := HR.out k hlt
        have hbz := cell_lt c0
        have d0 := cell_later hb c0
        have d1 := cell_later hb c1
        have d2 := cell_later hb c2
        clear c0 c1 c2
        have hbz' : b < wr.heap.size := by omega
        cases hrt : V3.right vs[k] with
        | true =>
          have hrg : rgt (vs[k]).1 (vs[k]).2.1 (vs[k]).2.2 = true := hrt
          have HT : Hid (V3.right vs[k] = true) := hrt
          clear hrt
          go_wp2_with fail
          refine (rright_any _ _ _ _).mono ?_
          rintro e w1 ⟨rfl, hb1⟩
          rw [hrg]
          have e0 := cell_later hb1 d0
          have e1 := cell_later hb1 d1
          have e2 := cell_later hb1 d2
          have hown1 := own_later hown hb1
          have hz1' := hb1.size
          have hbw1 : Below w.heap.size w w1 := hb.trans (hb1.mono hsz)
          clear d0 d1 d2 hown hb1
          go_wp2_with fail
          refine (one_any vs[k] _ HT.out).mono ?_
          rintro e w2 ⟨v2, rfl, hown2, hb2⟩
          have hown3 := own_later hown1 hb2
          have hz2' := hb2.size
          have hbw2 : Below w.heap.size w w2 := hbw1.trans (hb2.mono (by omega))
          have hlt3 := hown3.lt
          clear e0 e1 e2 hown1 hb2
          have hkl := kb_pos vs[k]
          have hkb := kb_len vs[k]
          have hkb2 : (kb vs[k]).length ≤ 1000 := by
            have := kbs_bound (vs := [vs[k]]) (by intro v hv; rw [List.mem_singleton.1 hv]; exact HT.out)
            rw [kbs_one] at this
            simp only [List.length_singleton] at this
            omega
          obtain ⟨g, gc, rfl, hcc⟩ := own_cells hown2 hkl
          have HCC : Hid (∀ j u, (bv (kb vs[k]))[j]? = some u → w2.cell? ((⟨g, 0, none⟩ : Addr).add j) = some u) := hcc
          clear hown2 hcc hkb
          go_wp2_with (first | (at_builtin; refine wpList_append_own _ rfl _ _ 39 rfl w.heap.size 5 i0 (.int .u8 0) 1 1 Tryd.underlying39 hi hz0 hz1 hz2 rfl (by decide) _ _ _ rfl hown3 ⟨g, 0, none⟩ (kb vs[k]).length gc (bv (kb vs[k])) rfl ?c0 ?c1 ?c2 ?c3 ?c4 ?c5 ?_))
          case c0 => rw [bv_length]; omega
          case c1 => exact HCC.out
          case c2 => exact bv_one _
          case c3 => unfold maxLen; omega
          case c4 => omega
          case c5 => omega
          · intro v' w3 hown4 hgrow _
            rw [← bv_append] at hown4
            have hbb : Below w.heap.size w w3 := hbw2.grown hgrow (by omega) fun k hk => (hlt3 k hk).1
            have ho4 : w3.ownsRow w.heap.size 5 1 v' (kbs (vs.take (k + 1))).length (bv (kbs (vs.take (k + 1)))) := by
              rw [kbs_take hlt, List.length_append]
              exact hown4
            clear hown4 hgrow hown3 hlt3
            go_wp2
            go_roundw
            case rel => exact ⟨k + 1, by omega, by go_num, upto_succ HA.out HT.out, ho4, hbb⟩
            case measure => simp [intOf]; omega
        | false =>
          have hrg : rgt (vs[k]).1 (vs[k]).2.1 (vs[k]).2.2 = false := hrt
          have HE : Hid (encR vs = ([], 10)) := encR_wrong H8.out k hlt hrt
          clear hrt
          go_wp2_with fail
          refine (rright_any _ _ _ _).mono ?_
          rintro e w1 ⟨rfl, hb1⟩
          rw [hrg]
          go_wp2
          exact bodyPost_ret (v := .tuple #[.string ⟨#[]⟩, .int .i64 10]) (by simp [results, Tryd.results6, go_sem]) rfl ⟨by rw [encV, HE.out], by (repeat (first | exact Below.refl _ _ | assumption | refine Below.drew ?_ | refine below_drewN ?_ _ | refine Below.alloc ?_ (by first | omega | (simp; done) | (simp; omega)) _ | refine Below.setCell ?_ (by first | omega | (simp; done) | (simp; omega)) _ | refine Below.trans ?_ (Below.mono (by assumption) (by first | omega | (simp; done) | (simp; omega)))))⟩
      · have hk' : k = vs.length := by omega
        subst hk'
        rw [List.take_length] at hown
        have HE : Hid (encR vs = (kbs vs, 0)) := encR_ok H8.out fun j g => HA.out j g g
        obtain ⟨ar, cp, rfl, hcv⟩ := own_str hown
        clear hown
        go_wp2
        exact bodyPost_ret (v := .tuple #[.string ⟨(kbs vs).toArray⟩, .int .i64 0]) (by simp [results, Tryd.results6, go_sem]) rfl ⟨by rw [encV, HE.out], by (repeat (first | exact Below.refl _ _ | assumption | refine Below.drew ?_ | refine below_drewN ?_ _ | refine Below.alloc ?_ (by first | omega | (simp; done) | (simp; omega)) _ | refine Below.setCell ?_ (by first | omega | (simp; done) | (simp; omega)) _ | refine Below.trans ?_ (Below.mono (by assumption) (by first | omega | (simp; done) | (simp; omega)))))⟩
end Go.Proofs.YtbmgcibclmbelabDoor
