/- The laws' function looks of layer 4. -/
import Derived.Test.YtejbelbfmchadaaE14
namespace Go.Proofs.Ytejbelbfmchadaa
open Go.RowKit

theorem own_keep {w w' : World} {B : Nat} {e : TypeId} {size : Nat} {v : Value} {n : Nat} {xs : List Value} (h : w.ownsRow B e size v n xs) (hb : Below w.heap.size w w') : w'.ownsRow B e size v n xs := by
  have hl := h.lt
  obtain ⟨h1, h2 | ⟨g, cap, cur, rfl, a, b, c⟩⟩ := h
  · exact ⟨h1, Or.inl h2⟩
  · exact ⟨h1, Or.inr ⟨g, cap, cur, rfl, a, (hb.block g (hl g rfl).2).trans b, c⟩⟩
theorem own_spot {w : World} {B : Nat} {e : TypeId} {size : Nat} {p : Option Addr} {m cap n : Nat} {xs : List Value} (h : w.ownsRow B e size (.slice p m cap) n xs) (hn : 0 < n) : ∃ g, p = some ⟨g, 0, none⟩ ∧ B ≤ g := by
  obtain ⟨h1, ⟨e, h2⟩ | ⟨g, cap', cur, e, hB, _⟩⟩ := h
  · omega
  · simp only [Value.slice.injEq] at e
    exact ⟨g, e.1, hB⟩
theorem file1 (w : World) (x y : ByteArray) (k : Int) (t : TypeId) : ∀ j u, [Value.string x, .string y, .int .i64 k][j]? = some u → (w.alloc (.cells #[.string x, .string y, .int .i64 k] t)).cell? ((⟨w.heap.size, 0, none⟩ : Addr).add j) = some u := by
  intro j u hj
  match j, hj with
  | 0, hj => simp at hj; subst hj; simp [Addr.add]
  | 1, hj => simp at hj; subst hj; simp [Addr.add]
  | 2, hj => simp at hj; subst hj; simp [Addr.add]
theorem below_two {a b c : World} (h : Below a.heap.size a b) (k : Below b.heap.size b c) : Below a.heap.size a c := h.trans (k.mono h.size)

set_option maxHeartbeats 8000000 in
set_option maxRecDepth 100000 in
theorem looks_any (B : Nat) (w : World) (a c : Nat) (st : St) (N : Nat → Prop) (h : Both B N w a c st st) :
    Calls Try.prog 14 #[.pointer (some ⟨a, 0, none⟩), .pointer (some ⟨c, 0, none⟩)] w fun e w' => e = .returned (.bool true) ∧ Below w.heap.size w w' := by
  obtain ⟨i0, hi, hz0, hz1, hz2⟩ := info_parts Try.infoFile
  have hok := h.ok
  have hfew := hok.files.few
  obtain ⟨_, Zd, Zr, v0, hd, hr, _⟩ := h
  have HD : Hid (IsDisk w Zd a st) := hd
  have HR : Hid (RefAt w Zr c st v0) := hr
  clear hd hr
  go_enter Try.func14, Try.ntmps14
  go_wp2_with fail
  refine (files_any w Zd a st HD.out).mono ?_
  rintro e w1 ⟨v, rfl, hown1, hb1⟩
  go_wp2_with fail
  refine (rfiles_any w1 Zr c st v0 (HR.out.later hb1)).mono ?_
  rintro e w2 ⟨v', rfl, hown2, hb2⟩
  have HO2 : Hid (w2.ownsRow w1.heap.size 27 3 v' st.fs.length (fc st.fs)) := hown2
  have HO1 : Hid (w2.ownsRow w.heap.size 27 3 v st.fs.length (fc st.fs)) := own_keep hown1 hb2
  have HB2 : Hid (Below w.heap.size w w2) := below_two hb1 hb2
  clear hown1 hown2 hb1 hb2
  go_wp2_with fail
  refine (same_eq v v' st.fs _ _ w2 (by omega) HO1.out HO2.out).mono ?_
  rintro e w3 ⟨rfl, hb3⟩
  have HO3 : Hid (w3.ownsRow w.heap.size 27 3 v st.fs.length (fc st.fs)) := own_keep HO1.out hb3
  have HB3 : Hid (Below w.heap.size w w3) := below_two HB2.out hb3
  clear HO1 HO2 hb3
  obtain ⟨p, cap, rfl⟩ := own_form HO3.out
  obtain ⟨n, hn⟩ : ∃ n, st.fs.length = n := ⟨_, rfl⟩
  rw [hn] at HO3 hfew ⊢
  clear hn
  go_wp2
  go_loopw [8] (fun i wr => ∃ (k : Nat) (xs : List Value), k ≤ n ∧ i = .int .i64 (k : Int) ∧ wr.ownsRow w.heap.size 27 3 (.slice p n cap) n xs ∧ Below w.heap.size w wr) (fun i _ => n - (intOf i).toNat)
  case atStart => exact ⟨0, _, Nat.zero_le _, rfl, HO3.out, HB3.out⟩
  case round =>
    obtain ⟨k, xs, hk, rfl, hown, hb⟩ := hrel
    have hsz := hb.size
    by_cases hlt : k < n
    · have hlti : (k : Int) < (n : Int) := by omega
      obtain ⟨g, rfl, hg⟩ := own_spot hown (by omega)
      have hxl : xs.length = n * 3 := hown.1
      have hcell := hown.cellAt (k * 3 + 1) (by omega)
      obtain ⟨u, hu⟩ : ∃ u, xs[k * 3 + 1]? = some u := ⟨_, List.getElem?_eq_getElem (by omega)⟩
      rw [hu] at hcell
      have hfr := hown.frozenAt (k * 3 + 1)
      have hgl : g < wr.heap.size := (hown.lt _ rfl).2
      clear hu hxl
      go_wp2
      go_roundw
      case rel => exact ⟨k + 1, _, by omega, by go_num, (hown.stored (k * 3 + 1) _).1, hb.setCell (p := ⟨g, k * 3 + 1, none⟩) hg _⟩
      case measure => simp [intOf]; omega
    · obtain rfl : k = n := by omega
      have hlt' := hown.lt
      go_wp2_with (first | (at_builtin; refine wpList_append_own _ rfl _ _ 22 rfl w.heap.size 27 i0 _ 3 40 Try.underlying22 hi hz0 hz1 hz2 rfl (by decide) _ _ _ rfl (hown.alloc _) ⟨wr.heap.size, 0, none⟩ 1 1 [.string ⟨#[109, 111, 114, 101]⟩, .string ⟨#[]⟩, .int .i64 0] rfl rfl ?c1 ?c2 ?c3 ?c4 ?c5 ?_))
      case c1 => exact file1 wr _ _ _ _
      case c2 => simp [Value.oneCell']
      case c3 => unfold maxLen; omega
      case c4 => omega
      case c5 => first | omega | (simp; omega)
      · intro v5 w5 hown5 hgrow _
        have HB5 : Hid (Below w.heap.size w w5) := (hb.alloc (by omega) _).grown hgrow (by simp; omega) fun k hk => (hlt' k hk).1
        clear hgrow hown5 hlt' hown hb
        have HR5 : Hid (RefAt w5 Zr c st v0) := HR.out.later HB5.out
        go_wp2_with fail
        refine (free_any w5 Zd a st (HD.out.later HB5.out)).mono ?_
        rintro e w6 ⟨rfl, hb6⟩
        have HB6 : Hid (Below w.heap.size w w6) := below_two HB5.out hb6
        clear hb6
        go_wp2_with fail
        refine (rfree_any w6 Zr c st v0 (HR.out.later HB6.out) hok.files).mono ?_
        rintro e w7 ⟨rfl, hw7⟩
        have hw7' := hw7.symm
        subst hw7'
        clear hw7
        go_wp2_with fail
        refine (steps_any w6 Zd a st (HD.out.later HB6.out)).mono ?_
        rintro e w8 ⟨rfl, hw8⟩
        have hw8' := hw8.symm
        subst hw8'
        clear hw8
        go_wp2_with fail
        refine (down_any w6 Zd a st (HD.out.later HB6.out)).mono ?_
        rintro e w9 ⟨rfl, hw9⟩
        have hw9' := hw9.symm
        subst hw9'
        clear hw9
        obtain ⟨_, _, _, r3, r4, _⟩ := rcell5 (HR.out.later HB6.out).cells
        obtain ⟨F, hF⟩ : ∃ F, freeR st = F := ⟨_, rfl⟩
        rw [hF]
        clear hF
        go_wp2
        go_ret
        exact ⟨rfl, HB6.out⟩
end Go.Proofs.Ytejbelbfmchadaa
