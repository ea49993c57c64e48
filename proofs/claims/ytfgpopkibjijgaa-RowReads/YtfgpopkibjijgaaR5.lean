/- Walks of layer 3, fifth part: a row's bytes, and how many. -/
import Derived.Test.YtfgpopkibjijgaaR4
namespace Go.Proofs.Ytfgpopkibjijgaa
open Go.RowKit

/-- The answer of Encode. -/
def wrV (vs : List V3) : Value := .tuple #[.string ⟨(wrR vs).1.toArray⟩, .int .i64 (wrR vs).2]
/-- The answer of Size. -/
def szV (vs : List V3) : Value := .tuple #[.int .i64 ((wrR vs).1.length : Int), .int .i64 (wrR vs).2]
theorem own_hnews {w : World} {B n : Nat} {v : Value} {xs : List UInt8} (h : w.ownsRow B 5 1 v n (bv xs)) : ∃ sp cap, v = .slice sp n cap ∧ (0 < (bv xs).length → ∃ ad, sp = some ad ∧ ∀ j u, (bv xs)[j]? = some u → w.cell? (ad.add j) = some u) := by
  have hl := h.1
  by_cases hn : 0 < n
  · obtain ⟨g, cap, e, hc⟩ := own_cells h hn
    exact ⟨_, cap, e, fun _ => ⟨_, rfl, hc⟩⟩
  · obtain rfl : n = 0 := by omega
    obtain ⟨_, ⟨h0, _⟩ | ⟨g, cap, cur, h0, _⟩⟩ := h
    · exact ⟨none, 0, h0, fun h => by omega⟩
    · exact ⟨_, cap, h0, fun h => by omega⟩

set_option maxHeartbeats 4000000 in
set_option maxRecDepth 100000 in
theorem enc_any (a : Option Addr) (cap : Nat) (vs : List V3) (w : World) (hlen : vs.length ≤ 2147483648) (hrow : Row w a vs) :
    Calls Try.prog 8 #[.slice a vs.length cap] w fun e w' => e = .returned (wrV vs) ∧ Below w.heap.size w w' := by
  obtain ⟨i0, hi, hz0, hz1, hz2⟩ := info_parts Try.info5
  have HR : Hid (Row w a vs) := hrow
  clear hrow
  by_cases h8 : 16 < vs.length
  · have HE : Hid (wrR vs = ([], 2)) := wrR_long h8
    have h8' : (16 : Int) < (vs.length : Int) := by omega
    go_enter Try.func8, Try.ntmps8
    go_wp2
    exact bodyPost_ret (v := .tuple #[.string ⟨#[]⟩, .int .i64 2]) (by simp [results, Try.results8, go_sem]) rfl ⟨by rw [wrV, HE.out], by (repeat (first | exact Below.refl _ _ | assumption | refine Below.drew ?_ | refine below_drewN ?_ _ | refine Below.alloc ?_ (by first | omega | (simp; done) | (simp; omega)) _ | refine Below.setCell ?_ (by first | omega | (simp; done) | (simp; omega)) _ | refine Below.trans ?_ (Below.mono (by assumption) (by first | omega | (simp; done) | (simp; omega)))))⟩
  · have h8' : ¬ (16 : Int) < (vs.length : Int) := by omega
    have h8n : vs.length ≤ 16 := by omega
    have H8 : Hid (¬ 16 < vs.length) := h8
    clear h8
    go_enter Try.func8, Try.ntmps8
    go_wp2
    go_loopw [14] (fun i wr => ∃ k : Nat, k ≤ vs.length ∧ i = .int .i64 k ∧ (∀ j (g : j < vs.length), j < k → V3.right vs[j] = true) ∧ Below w.heap.size w wr) (fun i _ => vs.length - (intOf i).toNat)
    case atStart => exact ⟨0, Nat.zero_le _, rfl, fun j _ g => absurd g (Nat.not_lt_zero _), Below.refl _ _⟩
    case round =>
      obtain ⟨k, hk, rfl, hall, hb⟩ := hrel
      have HA : Hid (∀ j (g : j < vs.length), j < k → V3.right vs[j] = true) := hall
      clear hall
      have hsz := hb.size
      by_cases hlt : k < vs.length
      · obtain ⟨b, off, rfl, c0, c1, c2⟩ := HR.out k hlt
        have hbz := cell_lt c0
        have d0 := cell_later hb c0
        have d1 := cell_later hb c1
        have d2 := cell_later hb c2
        clear c0 c1 c2
        cases hrt : V3.right vs[k] with
        | true =>
          have hrg : rgt (vs[k]).1 (vs[k]).2.1 (vs[k]).2.2 = true := hrt
          have HT : Hid (V3.right vs[k] = true) := hrt
          clear hrt
          go_wp2_with fail
          refine (right_any _ _ _ _).mono ?_
          rintro e w1 ⟨rfl, hb1⟩
          rw [hrg]
          have hbw1 : Below w.heap.size w w1 := by (repeat (first | exact Below.refl _ _ | assumption | refine Below.drew ?_ | refine below_drewN ?_ _ | refine Below.alloc ?_ (by first | omega | (simp; done) | (simp; omega)) _ | refine Below.setCell ?_ (by first | omega | (simp; done) | (simp; omega)) _ | refine Below.trans ?_ (Below.mono (by assumption) (by first | omega | (simp; done) | (simp; omega)))))
          clear hb1
          go_wp2
          go_roundw
          case rel => exact ⟨k + 1, by omega, by go_num, upto_succ HA.out HT.out, hbw1⟩
          case measure => simp [intOf]; omega
        | false =>
          have hrg : rgt (vs[k]).1 (vs[k]).2.1 (vs[k]).2.2 = false := hrt
          have HE : Hid (wrR vs = ([], 10)) := wrR_wrong H8.out k hlt hrt
          clear hrt
          go_wp2_with fail
          refine (right_any _ _ _ _).mono ?_
          rintro e w1 ⟨rfl, hb1⟩
          rw [hrg]
          go_wp2
          exact bodyPost_ret (v := .tuple #[.string ⟨#[]⟩, .int .i64 10]) (by simp [results, Try.results8, go_sem]) rfl ⟨by rw [wrV, HE.out], by (repeat (first | exact Below.refl _ _ | assumption | refine Below.drew ?_ | refine below_drewN ?_ _ | refine Below.alloc ?_ (by first | omega | (simp; done) | (simp; omega)) _ | refine Below.setCell ?_ (by first | omega | (simp; done) | (simp; omega)) _ | refine Below.trans ?_ (Below.mono (by assumption) (by first | omega | (simp; done) | (simp; omega)))))⟩
      · have hk' : k = vs.length := by omega
        subst hk'
        have HE : Hid (wrR vs = (rowB vs, 0)) := wrR_ok H8.out fun j g => HA.out j g g
        have HT : Hid (∀ v ∈ vs, V3.right v = true) := by
          have := upto_right HA.out
          rw [List.take_length] at this
          exact this
        clear HA hlt
        obtain ⟨N, hN⟩ : ∃ N, (vs.length + 3) / 4 = N := ⟨_, rfl⟩
        have HN : Hid ((vs.length + 3) / 4 = N) := hN
        have hN4 : N ≤ 4 := by omega
        have hwl : IntKind.u8.wrap (vs.length : Int) = (vs.length : Int) := by rw [IntKind.wrap_u8]; omega
        have hto : ((UInt8.ofNat vs.length).toNat : Int) = (vs.length : Int) := by rw [UInt8.toNat_ofNat']; omega
        have hown0 := own_first wr w.heap.size (UInt8.ofNat vs.length) hsz
        rw [hto] at hown0
        clear hN hto
        go_wp2_with fail
        refine (pack_any a cap vs _ h8n HT.out ((HR.out.later hb).alloc _)).mono ?_
        rintro e w1 ⟨v1, rfl, hown1, hb1⟩
        rw [HN.out] at hown1
        obtain ⟨sp, spc, rfl, hnews⟩ := own_hnews hown1
        have hown2 := own_later hown0 hb1
        have hz1' := hb1.size
        simp at hz1'
        have hbw1 : Below w.heap.size w w1 := by (repeat (first | exact Below.refl _ _ | assumption | refine Below.drew ?_ | refine below_drewN ?_ _ | refine Below.alloc ?_ (by first | omega | (simp; done) | (simp; omega)) _ | refine Below.setCell ?_ (by first | omega | (simp; done) | (simp; omega)) _ | refine Below.trans ?_ (Below.mono (by assumption) (by first | omega | (simp; done) | (simp; omega)))))
        have hlt1 := hown2.lt
        have HNW : Hid (0 < (bv (pk N vs)).length → ∃ ad, sp = some ad ∧ ∀ j u, (bv (pk N vs))[j]? = some u → w1.cell? (ad.add j) = some u) := hnews
        clear hown0 hown1 hb1 hnews
        go_wp2_with (first | (at_builtin; refine wpList_append_whole _ rfl _ _ 40 rfl w.heap.size 5 i0 (.int .u8 0) 1 1 Try.underlying40 hi hz0 hz1 hz2 rfl (by decide) _ _ _ rfl hown2 sp N spc (bv (pk N vs)) rfl ?c0 HNW.out ?c2 ?c3 ?c4 ?c5 ?_))
        case c0 => rw [bv_length, pk_length]; omega
        case c2 => exact bv_one _
        case c3 => unfold maxLen; omega
        case c4 => omega
        case c5 => omega
        intro v2 w2 hown3 hgrow
        rw [← bv_append] at hown3
        have hb2 : Below w.heap.size w w2 := hbw1.grown hgrow (by omega) fun k hk => (hlt1 k hk).1
        clear hgrow hown2 hlt1 HNW hbw1 hb
        go_wp2
        go_loopw [6, 31] (fun v i wr => ∃ k : Nat, k ≤ vs.length ∧ i = .int .i64 k ∧ wr.ownsRow w.heap.size 5 1 v (1 + N + (rbs (vs.take k)).length) (bv ([UInt8.ofNat vs.length] ++ pk N vs ++ rbs (vs.take k))) ∧ Below w.heap.size w wr) (fun _ i _ => vs.length - (intOf i).toNat)
        case atStart => exact ⟨0, Nat.zero_le _, rfl, by simpa [rbs] using hown3, hb2⟩
        case round =>
          clear hown3 hb2
          obtain ⟨k, hk, rfl, hown, hb⟩ := hrel
          have hsz2 := hb.size
          have hbd := rbs_bound (vs := vs.take k) fun v hv => HT.out v (List.mem_of_mem_take hv)
          have htl : (vs.take k).length ≤ k := List.length_take_le _ _
          by_cases hlt : k < vs.length
          · obtain ⟨b, off, rfl, c0, c1, c2⟩ := HR.out k hlt
            have hbz := cell_lt c0
            have d0 := cell_later hb c0
            have d1 := cell_later hb c1
            have d2 := cell_later hb c2
            clear c0 c1 c2
            go_wp2_with fail
            refine (av_any w.heap.size _ _ _ vs[k] _ (HT.out _ (List.getElem_mem hlt)) (hown.alloc _) (by omega) (by simp; omega)).mono ?_
            rintro e w3 ⟨v3, rfl, hown3, hb3⟩
            have hbb : Below w.heap.size w w3 := (hb.alloc (by omega) _).trans hb3
            have ho4 : w3.ownsRow w.heap.size 5 1 v3 (1 + N + (rbs (vs.take (k + 1))).length) (bv ([UInt8.ofNat vs.length] ++ pk N vs ++ rbs (vs.take (k + 1)))) := by
              rw [rbs_take hlt, List.length_append, ← Nat.add_assoc, ← List.append_assoc]
              exact hown3
            clear hown3 hb3 hown
            go_wp2
            go_roundw
            case rel => exact ⟨k + 1, by omega, by go_num, ho4, hbb⟩
            case measure => simp [intOf]; omega
          · have hk' : k = vs.length := by omega
            subst hk'
            rw [List.take_length] at hown
            have hrb : [UInt8.ofNat vs.length] ++ pk N vs ++ rbs vs = rowB vs := by unfold rowB; rw [HN.out]; simp
            rw [hrb] at hown
            obtain ⟨ar, cp, rfl, hcv⟩ := own_str hown
            clear hown hrb
            go_wp2
            exact bodyPost_ret (v := .tuple #[.string ⟨(rowB vs).toArray⟩, .int .i64 0]) (by simp [results, Try.results8, go_sem]) rfl ⟨by rw [wrV, HE.out], by (repeat (first | exact Below.refl _ _ | assumption | refine Below.drew ?_ | refine below_drewN ?_ _ | refine Below.alloc ?_ (by first | omega | (simp; done) | (simp; omega)) _ | refine Below.setCell ?_ (by first | omega | (simp; done) | (simp; omega)) _ | refine Below.trans ?_ (Below.mono (by assumption) (by first | omega | (simp; done) | (simp; omega)))))⟩

set_option maxHeartbeats 1000000 in
theorem size_any (a : Option Addr) (cap : Nat) (vs : List V3) (w : World) (hlen : vs.length ≤ 2147483648) (hrow : Row w a vs) :
    Calls Try.prog 10 #[.slice a vs.length cap] w fun e w' => e = .returned (szV vs) ∧ Below w.heap.size w w' := by
  go_enter Try.func10, Try.ntmps10
  go_wp2_with fail
  refine (enc_any a cap vs _ hlen hrow).mono ?_
  rintro e w1 ⟨rfl, hb1⟩
  unfold wrV
  go_wp2
  exact bodyPost_ret (v := szV vs) (by simp [results, Try.results10, go_sem, szV]) rfl ⟨rfl, hb1⟩
end Go.Proofs.Ytfgpopkibjijgaa
