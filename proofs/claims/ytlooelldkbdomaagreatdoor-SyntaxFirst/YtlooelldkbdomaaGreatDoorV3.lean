/- Walks of layer 1: what stands between two marks. -/
import Derived.Test.YtlooelldkbdomaaGreatDoorV2
namespace Go.Proofs.YtlooelldkbdomaaGreatDoor
open Go.RowKit

theorem qb_head39 {d : UInt8} {t r : List UInt8} (h : qb d ++ t = 39 :: r) : d = 39 ∧ (qb d).length = 2 ∧ ∃ r', r = 39 :: r' := by
  by_cases d1 : d.toNat = 39
  · rw [qb_mark d1] at h ⊢
    simp at h
    exact ⟨UInt8.toNat_inj.1 d1, rfl, t, h.symm⟩
  · exfalso
    by_cases d2 : d.toNat = 92 ∨ d.toNat < 32 ∨ 126 < d.toNat
    · rw [qb_hex d1 d2] at h; simp at h
    · rw [qb_plain d1 d2] at h; simp at h; exact d1 (by rw [h.1]; rfl)
theorem qb_head92 {d : UInt8} {t r : List UInt8} (h : qb d ++ t = 92 :: r) : (qb d).length = 3 ∧ [hexd (d.toNat / 16), hexd (d.toNat % 16)] <+: r := by
  by_cases d1 : d.toNat = 39
  · rw [qb_mark d1] at h; simp at h
  · by_cases d2 : d.toNat = 92 ∨ d.toNat < 32 ∨ 126 < d.toNat
    · rw [qb_hex d1 d2] at h ⊢
      exact ⟨rfl, t, (List.cons.inj h).2⟩
    · exfalso
      rw [qb_plain d1 d2] at h; simp at h; exact d2 (Or.inl (by rw [h.1]; rfl))
theorem qb_headp {c d : UInt8} {t r : List UInt8} (h1 : c ≠ 39) (h2 : c ≠ 92) (h : qb d ++ t = c :: r) : d = c ∧ 1 = (qb d).length := by
  by_cases d1 : d.toNat = 39
  · rw [qb_mark d1] at h; simp at h; exact absurd h.1.symm h1
  · by_cases d2 : d.toNat = 92 ∨ d.toNat < 32 ∨ 126 < d.toNat
    · rw [qb_hex d1 d2] at h; simp at h; exact absurd h.1.symm h2
    · rw [qb_plain d1 d2] at h ⊢; simp at h; exact ⟨h.1, rfl⟩
theorem drop_one {s : ByteArray} {k : Nat} (h : k < s.size) : s.data.toList.drop k = s[k] :: s.data.toList.drop (k + 1) := by
  rw [List.drop_eq_getElem_cons (by simpa using h)]
  rfl
theorem ext_rest {t : ByteArray} {n : Nat} : (t.extract n t.size).data.toList = t.data.toList.drop n := by
  simp
  exact List.take_of_length_le (by simp)
theorem cellb (w : World) (x : Int) (c : UInt8) (t : TypeId) (h : x = (c.toNat : Int)) : ∀ j u, (bv [c])[j]? = some u → (w.alloc (.cells #[.int .u8 x] t)).cell? ((⟨w.heap.size, 0, none⟩ : Addr).add j) = some u := by
  subst h
  intro j u hj
  match j, hj with
  | 0, hj => simp [bv] at hj; subst hj; simp [Addr.add]
theorem own_on {w w' : World} {B : Nat} {e : TypeId} {size : Nat} {v : Value} {n : Nat} {xs : List Value} (h : w.ownsRow B e size v n xs) (hb : Below w.heap.size w w') : w'.ownsRow B e size v n xs := by
  have hl := h.lt
  obtain ⟨h1, h2 | ⟨g, cap, cur, rfl, a, b, c⟩⟩ := h
  · exact ⟨h1, Or.inl h2⟩
  · exact ⟨h1, Or.inr ⟨g, cap, cur, rfl, a, (hb.block g (hl g rfl).2).trans b, c⟩⟩
theorem own_text {w : World} {B n : Nat} {v : Value} {xs : List UInt8} (h : w.ownsRow B 5 1 v n (bv xs)) : ∃ a cap, v = .slice a n cap ∧ (convert 150 9 (.slice a n cap)).run Tryz.prog w = .ok (.string ⟨xs.toArray⟩) w := by
  by_cases h0 : 0 < n
  · obtain ⟨g, cap, e, r⟩ := own_string h h0
    exact ⟨_, _, e, r⟩
  · have hn : n = 0 := by omega
    subst hn
    have hx : xs = [] := by
      have := h.1
      rw [bv_length] at this
      exact List.eq_nil_of_length_eq_zero (by omega)
    subst hx
    obtain ⟨_, ⟨rfl, _⟩ | ⟨g, cap, cur, rfl, _⟩⟩ := h
    · refine ⟨none, 0, rfl, ?_⟩
      rw [run_convert_bytes_string w 150 9 5 none 0 0 Tryz.underlying150 Tryz.underlying5 Tryz.underlying9]
      rfl
    · exact ⟨_, cap, rfl, run_convert_bytes_back w 150 9 5 ⟨g, 0, none⟩ cap [] Tryz.underlying150 Tryz.underlying5 Tryz.underlying9 (by intro j hj; simp at hj)⟩

/-- What unquote answers. -/
def UnqP (body : ByteArray) (w : World) (e : Ending) (w' : World) : Prop := ∃ (t : List UInt8) (ok : Bool), e = .returned (.tuple #[.string ⟨t.toArray⟩, .bool ok]) ∧ (∀ l, qbs l = body.data.toList → ok = true ∧ t = l) ∧ Below w.heap.size w w'
theorem unq_no {body : ByteArray} {w w' : World} (h : ∀ l, ¬ qbs l = body.data.toList) (hb : Below w.heap.size w w') : UnqP body w (.returned (.tuple #[.string ⟨#[]⟩, .bool false])) w' := ⟨[], false, rfl, fun l hl => absurd hl (h l), hb⟩

set_option maxHeartbeats 4000000 in
set_option maxRecDepth 100000 in
theorem unq_any (s : ByteArray) (w : World) (hs : s.size ≤ 2147483648) : Calls Tryz.prog 165 #[.string s] w (UnqP s w) := by
  obtain ⟨i0, hi, hz0, hz1, hz2⟩ := info_parts Tryz.info5
  have hsl : s.data.toList.length = s.size := by simp
  go_enter Tryz.func165, Tryz.ntmps165
  go_wp2
  go_loopw [4, 5] (fun v i wr => ∃ (k : Nat) (xs : List UInt8), k ≤ s.size ∧ i = .int .i64 k ∧ xs.length ≤ k ∧ UQ s.data.toList xs k ∧ wr.ownsRow w.heap.size 5 1 v xs.length (bv xs) ∧ Below w.heap.size w wr) (fun _ i _ => s.size - (intOf i).toNat)
  case atStart => exact ⟨0, [], Nat.zero_le _, rfl, Nat.le_refl _, uq_start _, World.ownsRow_nil _ _ _ _, Below.refl _ _⟩
  case round =>
    obtain ⟨k, xs, hk, rfl, hxl, huq, hown, hb⟩ := hrel
    have HU : Hid (UQ s.data.toList xs k) := huq
    clear huq
    have hsz := hb.size
    have hlt := hown.lt
    by_cases hlt2 : k < s.size
    · have HDR : Hid (s.data.toList.drop k = s[k] :: s.data.toList.drop (k + 1)) := drop_one hlt2
      have k1 : (k : Int) + 1 ≤ (s.size : Int) := by omega
      have k2 : (0 : Int) ≤ (k : Int) + 1 := by omega
      have k3 : ((k : Int) + 1).toNat = k + 1 := by omega
      by_cases c39 : s[k].toNat = 39
      · have e39 : s[k] = 39 := UInt8.toNat_inj.1 c39
        cases hp : Lib.hasPrefix (s.extract (k + 1) s.size).data.toList (⟨#[39]⟩ : ByteArray).data.toList with
        | true =>
          have HPP := Lib.hid hp
          have hp2 : ∃ r', s.data.toList.drop (k + 1) = 39 :: r' := by
            rw [ext_rest] at hp
            unfold Lib.hasPrefix at hp
            cases e : s.data.toList.drop (k + 1) with
            | nil => rw [e] at hp; exact absurd hp (by decide)
            | cons a r => rw [e] at hp; simp [List.isPrefixOf] at hp; exact ⟨r, by rw [hp]⟩
          have hk2 : k + 2 ≤ s.size := by
            obtain ⟨r', e⟩ := hp2
            have := congrArg List.length e
            rw [List.length_drop, hsl] at this
            simp at this
            omega
          have HU2 : Hid (UQ s.data.toList (xs ++ [39]) (k + 2)) := uq_step HU.out (by omega) (fun d t e => by
            rw [HDR.out, e39] at e
            obtain ⟨a, b, _⟩ := qb_head39 e
            exact ⟨a, b.symm⟩)
          clear hp hp2 e39
          go_wp2_with (first | (go_at_call 175; refine (Tryz.strings_HasPrefix _ _ _).mono ?_; rintro e w' ⟨rfl, hw'⟩; rw [HPP.out, hw']; clear hw'; refine Hid.out ?_))
          refine Lib.hid ?_
          go_wp2_with (first | (at_builtin; refine wpList_append_own _ rfl _ _ 150 rfl w.heap.size 5 i0 (.int .u8 0) 1 1 Tryz.underlying150 hi hz0 hz1 hz2 rfl (by decide) _ _ _ rfl (hown.alloc _) ⟨wr.heap.size, 0, none⟩ 1 1 (bv [39]) rfl rfl ?c1 ?c2 ?c3 ?c4 ?c5 ?_))
          case c1 => exact cellb wr _ _ _ (by first | rfl | (rw [c39]; rfl))
          case c2 => exact bv_one _
          case c3 => unfold maxLen; omega
          case c4 => omega
          case c5 => simp; omega
          · intro v1 w1 hown1 hgrow1 _
            rw [← bv_append] at hown1
            have hb1 : Below w.heap.size w w1 := (hb.alloc (by omega) _).grown hgrow1 (by simp; omega) fun k hk => (hlt k hk).1
            clear hgrow1 hown
            go_wp2
            go_roundw
            case rel => exact ⟨k + 2, xs ++ [39], by omega, by go_num, by simp; omega, HU2.out, by simpa using hown1, hb1⟩
            case measure => simp [intOf]; omega
        | false =>
          have HPP := Lib.hid hp
          have HN : Hid (∀ l, ¬ qbs l = s.data.toList) := uq_stuck HU.out (by omega) (fun d t e => by
            rw [HDR.out, e39] at e
            obtain ⟨_, _, r', q⟩ := qb_head39 e
            rw [ext_rest, q] at hp
            exact absurd hp (by unfold Lib.hasPrefix; simp [List.isPrefixOf]))
          clear hp e39 hown hlt
          go_wp2_with (first | (go_at_call 175; refine (Tryz.strings_HasPrefix _ _ _).mono ?_; rintro e w' ⟨rfl, rfl⟩; rw [HPP.out]))
          exact bodyPost_ret (by simp [results, Tryz.results165, go_sem]) rfl (unq_no HN.out (by (repeat (first | exact Below.refl _ _ | assumption | refine Below.drew ?_ | refine below_drewN ?_ _ | refine Below.alloc ?_ (by first | omega | (simp; done) | (simp; omega)) _ | refine Below.setCell ?_ (by first | omega | (simp; done) | (simp; omega)) _ | refine Below.trans ?_ (Below.mono (by assumption) (by first | omega | (simp; done) | (simp; omega)))))))
      · have c39' : ((s[k].toNat : Int) == 39) = false := by rw [beq_eq_false_iff_ne]; omega
        by_cases c92 : s[k].toNat = 92
        · have e92 : s[k] = 92 := UInt8.toNat_inj.1 c92
          go_wp2_with fail
          refine (hex_any (s.extract (k + 1) s.size) _).mono ?_
          rintro e w1 ⟨b, ok, rfl, hx, hx2, hb1⟩
          have hown1 := own_on hown hb1
          have hz1' := hb1.size
          have hbw1 : Below w.heap.size w w1 := hb.trans (hb1.mono hsz)
          have hlt1 := hown1.lt
          have hes : (s.extract (k + 1) s.size).size = s.size - (k + 1) := by simp
          rw [ext_rest] at hx
          clear hown hb1 hb
          cases ok with
          | false =>
            have HN : Hid (∀ l, ¬ qbs l = s.data.toList) := uq_stuck HU.out (by omega) (fun d t e => by
              rw [HDR.out, e92] at e
              have := hx d (qb_head92 e).2
              exact absurd this.1 (by decide))
            clear hx hx2 hown1 e92
            go_wp2
            exact bodyPost_ret (by simp [results, Tryz.results165, go_sem]) rfl (unq_no HN.out (by (repeat (first | exact Below.refl _ _ | assumption | refine Below.drew ?_ | refine below_drewN ?_ _ | refine Below.alloc ?_ (by first | omega | (simp; done) | (simp; omega)) _ | refine Below.setCell ?_ (by first | omega | (simp; done) | (simp; omega)) _ | refine Below.trans ?_ (Below.mono (by assumption) (by first | omega | (simp; done) | (simp; omega)))))))
          | true =>
            have h2 := hx2 rfl
            have HU2 : Hid (UQ s.data.toList (xs ++ [b]) (k + 3)) := uq_step HU.out (by omega) (fun d t e => by
              rw [HDR.out, e92] at e
              obtain ⟨p, q⟩ := qb_head92 e
              exact ⟨(hx d q).2.symm, p.symm⟩)
            clear hx hx2 e92
            go_wp2_with (first | (at_builtin; refine wpList_append_own _ rfl _ _ 150 rfl w.heap.size 5 i0 (.int .u8 0) 1 1 Tryz.underlying150 hi hz0 hz1 hz2 rfl (by decide) _ _ _ rfl (hown1.alloc _) ⟨w1.heap.size, 0, none⟩ 1 1 (bv [b]) rfl rfl ?c1 ?c2 ?c3 ?c4 ?c5 ?_))
            case c1 => exact cellb w1 _ _ _ rfl
            case c2 => exact bv_one _
            case c3 => unfold maxLen; omega
            case c4 => omega
            case c5 => simp; omega
            · intro v2 w2 hown2 hgrow2 _
              rw [← bv_append] at hown2
              have hb2 : Below w.heap.size w w2 := (hbw1.alloc (by omega) _).grown hgrow2 (by simp; omega) fun k hk => (hlt1 k hk).1
              clear hgrow2 hown1
              go_wp2
              go_roundw
              case rel => exact ⟨k + 3, xs ++ [b], by omega, by go_num, by simp; omega, HU2.out, by simpa using hown2, hb2⟩
              case measure => simp [intOf]; omega
        · have c92' : ((s[k].toNat : Int) == 92) = false := by rw [beq_eq_false_iff_ne]; omega
          have HU2 : Hid (UQ s.data.toList (xs ++ [s[k]]) (k + 1)) := uq_step HU.out (by omega) (fun d t e => by
            rw [HDR.out] at e
            exact qb_headp (fun h => c39 (by rw [h]; rfl)) (fun h => c92 (by rw [h]; rfl)) e)
          clear c39 c92
          go_wp2_with (first | (at_builtin; refine wpList_append_own _ rfl _ _ 150 rfl w.heap.size 5 i0 (.int .u8 0) 1 1 Tryz.underlying150 hi hz0 hz1 hz2 rfl (by decide) _ _ _ rfl (hown.alloc _) ⟨wr.heap.size, 0, none⟩ 1 1 (bv [s[k]]) rfl rfl ?c1 ?c2 ?c3 ?c4 ?c5 ?_))
          case c1 => exact cellb wr _ _ _ rfl
          case c2 => exact bv_one _
          case c3 => unfold maxLen; omega
          case c4 => omega
          case c5 => simp; omega
          · intro v1 w1 hown1 hgrow1 _
            rw [← bv_append] at hown1
            have hb1 : Below w.heap.size w w1 := (hb.alloc (by omega) _).grown hgrow1 (by simp; omega) fun k hk => (hlt k hk).1
            clear hgrow1 hown
            go_wp2
            go_roundw
            case rel => exact ⟨k + 1, xs ++ [s[k]], by omega, by go_num, by simp; omega, HU2.out, by simpa using hown1, hb1⟩
            case measure => simp [intOf]; omega
    · have hk' : k = s.size := by omega
      have HE : Hid (∀ l, qbs l = s.data.toList → xs = l) := fun l hl => (uq_end HU.out (by omega) hl).symm
      obtain ⟨ar, cp, rfl, hcv⟩ := own_text hown
      clear hown hlt
      subst hk'
      go_wp2
      exact bodyPost_ret (by simp [results, Tryz.results165, go_sem]) rfl ⟨xs, true, rfl, fun l hl => ⟨rfl, HE.out l hl⟩, hb⟩
end Go.Proofs.YtlooelldkbdomaaGreatDoor
