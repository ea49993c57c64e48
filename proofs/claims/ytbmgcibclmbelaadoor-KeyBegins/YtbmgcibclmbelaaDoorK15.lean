/- Walks of layer 2, fifteenth part: the document's own reading of a key. -/
import Derived.Test.YtbmgcibclmbelaaDoorK14
import Derived.Test.YtbmgcibclmbelaaDoorM24
namespace Go.Proofs.YtbmgcibclmbelaaDoor
open Go.RowKit

set_option maxHeartbeats 4000000 in
set_option maxRecDepth 100000 in
theorem rdec_any (s : ByteArray) (w : World) (hs : s.size ≤ 2147483648) : Calls Tryd.prog 15 #[.string s] w (DV s w) := by
  obtain ⟨i0, hi, hz0, hz1, hz2⟩ := info_parts Tryd.info23
  have hsl : s.data.toList.length = s.size := by simp
  go_enter Tryd.func15, Tryd.ntmps15
  go_wp2
  go_loopw [4, 5] (fun l i wr => ∃ (k : Nat) (vs : List V3), i = .int .i64 k ∧ k ≤ s.size + 2 ∧ vs.length ≤ 9 ∧ RD s.data.toList vs k ∧ wr.ownsRow w.heap.size 25 3 l vs.length (vc vs) ∧ Below w.heap.size w wr) (fun _ i _ => s.size - (intOf i).toNat)
  case atStart => exact ⟨0, [], rfl, by omega, by simp, rd_start _, World.ownsRow_nil _ _ _ _, Below.refl _ _⟩
  case round =>
    obtain ⟨k, vs, rfl, hk, h9, hrd, hown, hb⟩ := hrel
    have HD : Hid (RD s.data.toList vs k) := hrd
    clear hrd
    have hsz := hb.size
    by_cases hgo : k < s.size ∧ vs.length ≤ 8
    · obtain ⟨hlt, h8⟩ := hgo
      have hlti : (k : Int) < (s.size : Int) := by omega
      have h8i : (vs.length : Int) ≤ 8 := by omega
      obtain ⟨la, lc, rfl, _⟩ := Row.of_own hown
      have hes : (s.extract k s.size).size = s.size - k := by simp
      go_wp2_with fail
      refine (read_any (s.extract k s.size) _ (by omega) (by omega)).mono ?_
      rintro e w1 ⟨v, n, rfl, hrr, hb1⟩
      rw [ext_drop] at hrr
      have hn1 := hrr.1
      have hn2 := hrr.2.1
      rw [List.length_drop, hsl] at hn2
      have HD2 : Hid (RD s.data.toList (vs ++ [v]) (k + n)) := rd_step HD.out (by omega) hrr
      have hown1 := own_later hown hb1
      have hz1' := hb1.size
      have hbw1 : Below w.heap.size w w1 := hb.trans (hb1.mono hsz)
      have hlt1 := hown1.lt
      clear hown hb1 hb hrr
      go_wp2_with (first | (at_builtin; refine wpList_append_own _ rfl _ _ 22 rfl w.heap.size 25 i0 _ 3 32 Tryd.underlying22 hi hz0 hz1 hz2 rfl (by decide) _ _ _ rfl ((hown1.alloc _).alloc _) ⟨w1.heap.size + 1, 0, none⟩ 1 1 (vc [v]) rfl rfl ?c1 ?c2 ?c3 ?c4 ?c5 ?_))
      case c1 =>
        have := cells_new (w1.alloc (.cells #[.int .i64 v.1, .int .i64 v.2.1, .string v.2.2] 25)) v 25
        simpa using this
      case c2 => exact vc_one _
      case c3 => unfold maxLen; omega
      case c4 => omega
      case c5 => simp; omega
      · intro v' w3 hown3 hgrow _
        have hbb : Below w.heap.size w w3 := ((hbw1.alloc (by omega) _).alloc (by simp; omega) _).grown hgrow (by simp; omega) fun k hk => (hlt1 k hk).1
        rw [← vc_append] at hown3
        clear hgrow hown1 hlt1
        go_wp2
        go_roundw
        case rel => exact ⟨k + n, vs ++ [v], by go_num, by omega, by simp; omega, HD2.out, by simpa using hown3, hbb⟩
        case measure => simp [intOf]; omega
    · have hcs : ¬ (k : Int) < (s.size : Int) ∨ ((k : Int) < (s.size : Int) ∧ ¬ (vs.length : Int) ≤ 8) := by omega
      have hend : s.data.toList.length ≤ k ∨ 8 < vs.length := by omega
      obtain ⟨la, lc, rfl, hrow⟩ := Row.of_own hown
      have HR : Hid (Row wr la vs) := hrow
      clear hgo hrow
      by_cases hyes : (encR vs).2 = 0 ∧ (encR vs).1 = s.data.toList
      · have HK : Hid (KeyOf s.data.toList vs) := rd_yes hyes.1 hyes.2
        have he : encV vs = .tuple #[.string s, .int .i64 0] := by
          unfold encV
          rw [hyes.1, hyes.2]
        have HE : Hid (encV vs = .tuple #[.string s, .int .i64 0]) := he
        clear hyes he hend
        rcases hcs with a | ⟨a, b⟩
        all_goals
          go_wp2_with fail
          refine (renc_any la lc vs _ (by omega) HR.out).mono ?_
          rintro e w1 ⟨rfl, hb1⟩
          rw [HE.out]
          have hown1 := own_later hown hb1
          go_wp2
          exact bodyPost_ret (by simp [results, Tryd.results15, go_sem]) rfl (dv_ok HK.out hown1 (by (repeat (first | exact Below.refl _ _ | assumption | refine Below.drew ?_ | refine below_drewN ?_ _ | refine Below.alloc ?_ (by first | omega | (simp; done) | (simp; omega)) _ | refine Below.setCell ?_ (by first | omega | (simp; done) | (simp; omega)) _ | refine Below.trans ?_ (Below.mono (by assumption) (by first | omega | (simp; done) | (simp; omega)))))))
      · have HN : Hid (∀ us, ¬ KeyOf s.data.toList us) := rd_no HD.out hend hyes
        obtain ⟨p, hp⟩ : ∃ p, (encR vs).1 = p := ⟨_, rfl⟩
        obtain ⟨q, hq⟩ : ∃ q, (encR vs).2 = q := ⟨_, rfl⟩
        have HE : Hid (encV vs = .tuple #[.string ⟨p.toArray⟩, .int .i64 q]) := by
          have : encV vs = .tuple #[.string ⟨p.toArray⟩, .int .i64 q] := by unfold encV; rw [hp, hq]
          exact this
        rw [hp, hq] at hyes
        have hd : ((q != 0) = true) ∨ ((q != 0) = false ∧ (p == s.toList) = false) := by
          by_cases a : q = 0
          · right
            refine ⟨by simp [a], ?_⟩
            rw [beq_eq_false_iff_ne, ByteArray.toList_eq]
            exact fun h => hyes ⟨a, h⟩
          · left; simpa using a
        have hown' := hown
        clear hyes hp hq hend hown
        rcases hd with d1 | ⟨d1, d2⟩
        all_goals
          rcases hcs with a | ⟨a, b⟩
          all_goals
            go_wp2_with fail
            refine (renc_any la lc vs _ (by omega) HR.out).mono ?_
            rintro e w1 ⟨rfl, hb1⟩
            rw [HE.out]
            go_wp2
            exact bodyPost_ret (by simp [results, Tryd.results15, go_sem]) rfl (dv_no HN.out (by (repeat (first | exact Below.refl _ _ | assumption | refine Below.drew ?_ | refine below_drewN ?_ _ | refine Below.alloc ?_ (by first | omega | (simp; done) | (simp; omega)) _ | refine Below.setCell ?_ (by first | omega | (simp; done) | (simp; omega)) _ | refine Below.trans ?_ (Below.mono (by assumption) (by first | omega | (simp; done) | (simp; omega)))))))
end Go.Proofs.YtbmgcibclmbelaaDoor
