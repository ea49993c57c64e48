/- Walks of layer 11: select. -/
import Derived.Test.YtmfplnodafodoaaGreatDoorX11I
import Derived.Test.YtmfplnodafodoaaGreatDoorX11M
import Derived.Deep.CutRange
namespace Go.Proofs.YtmfplnodafodoaaGreatDoor
open Go.RowKit

set_option maxHeartbeats 8000000 in
set_option maxRecDepth 100000 in
theorem sel_pp (P : Nat) (s : PS) (w : World) (h : PA w P s) : Calls Tryz.prog 93 #[.pointer (some ⟨P, 0, none⟩)] w (PP selR StV P s w) := by
  have HA := Lib.hid (Au.start h)
  have hPw := h.lt
  have HLN : Hid (s.rest.length ≤ s.rest.length) := Nat.le_refl _
  have HG : Hid (∀ r, (thenR starR fun l => selF l) s r → selR s r) := fun r k => k
  clear h
  go_enter Tryz.func93, Tryz.ntmps93
  have HB := Lib.hid (HA.out.push #[.int .i64 0, .string ⟨#[]⟩, .string ⟨#[]⟩, .slice none 0 0, .slice none 0 0, .slice none 0 0, .bool false, .slice none 0 0, .slice none 0 0, .slice none 0 0, .slice none 0 0, .int .i64 0, .int .i64 0] 27)
  obtain ⟨W1, hW1⟩ : ∃ W, w.alloc (.cells #[.int .i64 0, .string ⟨#[]⟩, .string ⟨#[]⟩, .slice none 0 0, .slice none 0 0, .slice none 0 0, .bool false, .slice none 0 0, .slice none 0 0, .slice none 0 0, .slice none 0 0, .int .i64 0, .int .i64 0] 27) = W := ⟨_, rfl⟩
  rw [hW1] at HB
  clear HA
  have HA := HB
  clear HB
  have HB := Lib.hid (HA.out.push #[.int .i64 4, .string ⟨#[]⟩, .string ⟨#[]⟩, .slice none 0 0, .slice none 0 0, .slice none 0 0, .bool false, .slice none 0 0, .slice none 0 0, .slice none 0 0, .slice none 0 0, .int .i64 0, .int .i64 0] 27)
  obtain ⟨W2, hW2⟩ : ∃ W, W1.alloc (.cells #[.int .i64 4, .string ⟨#[]⟩, .string ⟨#[]⟩, .slice none 0 0, .slice none 0 0, .slice none 0 0, .bool false, .slice none 0 0, .slice none 0 0, .slice none 0 0, .slice none 0 0, .int .i64 0, .int .i64 0] 27) = W := ⟨_, rfl⟩
  rw [hW2] at HB
  clear HA
  have HA := HB
  clear HB

  have HhW2 := Lib.hid hW2
  clear hW2
  go_wp2_with fail
  have hsz : W1.heap.size + 1 = W2.heap.size := by rw [← HhW2.out]; simp
  try rw [hsz]
  clear hsz
  rw [HhW2.out]
  clear HhW2
  clear hW1
  refine (skip_any P (s) ⟨#[42]⟩ _ HA.out.pa).mono ?_
  rintro e w3 ⟨rfl, hp, ho⟩
  obtain ⟨b3, hb3⟩ : ∃ b, (s).sees [42] = b := ⟨_, rfl⟩
  rw [show (s).sees (⟨#[42]⟩ : ByteArray).data.toList = b3 from hb3] at hp ⊢
  have HB := Lib.hid (HA.out.call ho hp)
  clear ho hp HA
  have HA := HB
  have HBB := Lib.hid hb3
  clear HB hb3
  obtain ⟨⟨a0, a1, a2, a3, a4, a5, a6, a7, a8, a9, a10, a11, a12⟩, af0, af1, af2, af3, af4, af5, af6, af7, af8, af9, af10, af11, af12⟩ := thirt_of (HA.out.at 0 rfl)
  have HB := Lib.hid (Au.puts 0 [.bool b3] 6 HA.out rfl)
  simp only [putsA, List.setIfInBounds_toArray, List.set_cons_zero, List.set_cons_succ] at HB
  obtain ⟨W4, hW4⟩ : ∃ W, setsL w3 (W1.heap.size) 6 [.bool b3] = W := ⟨_, rfl⟩
  rw [hW4] at HB
  simp only [setsL] at hW4
  clear HA
  have HA := HB
  clear HB
  obtain ⟨⟨e0, e1, e2, e3, e4, e5, e6, e7, e8, e9, e10, e11, e12⟩, ef0, ef1, ef2, ef3, ef4, ef5, ef6, ef7, ef8, ef9, ef10, ef11, ef12⟩ := thirt_of (HA.out.at 0 rfl)
  go_upto_if 12 with fail
  clear hW4
  go_cut [] from 4 to 87 (fun wx => ∃ (l : Bool × List Ex) (a5 : Option Addr) (c5 : Nat) (sN : PS), Au w P sN [(W1.heap.size, .cells #[.int .i64 4, .string ⟨#[]⟩, .string ⟨#[]⟩, .slice none 0 0, .slice none 0 0, .slice a5 l.2.length c5, .bool l.1, .slice none 0 0, .slice none 0 0, .slice none 0 0, .slice none 0 0, .int .i64 0, .int .i64 0] 27 (0, 0)), (w.heap.size, .cells #[.int .i64 0, .string ⟨#[]⟩, .string ⟨#[]⟩, .slice none 0 0, .slice none 0 0, .slice none 0 0, .bool false, .slice none 0 0, .slice none 0 0, .slice none 0 0, .slice none 0 0, .int .i64 0, .int .i64 0] 27 (0, 0))] (fun W => True ∧ XL W w.heap.size l.2 (.slice a5 l.2.length c5)) wx ∧ (∀ r, selF l sN r → selR s r) ∧ sN.rest.length ≤ s.rest.length)
  case first =>
    cases b3 with
    | true =>
      rw [if_pos rfl] at HA
      have hS := HBB.out
      have HL2 : Hid (((s).next).rest.length ≤ s.rest.length) := Nat.le_trans (tail_le _) HLN.out
      clear HLN
      have HLN := HL2
      clear HL2
      go_wp2
      go_meet
      case rel => exact ⟨(true, []), none, 0, (s).next, HA.out.imp fun W h => ⟨trivial, XL.nil _ _⟩, fun r k => HG.out r (thenR_ok (ifR_yes hS rfl) k), HLN.out⟩
    | false =>
      rw [if_neg (by decide)] at HA
      have hS := HBB.out
      have HL2 : Hid ((s).rest.length ≤ s.rest.length) := Nat.le_trans (Nat.le_refl _) HLN.out
      clear HLN
      have HLN := HL2
      clear HL2
      have HG2 := Lib.hid (then_then (then_not hS HG.out))
      clear HG
      have HG := HG2
      clear HG2
      go_wp2_with fail
      refine (list_item itemR P 8 (s) _ HA.out.pa (fun s w h => item_pe P s w h)).mono ?_
      rintro e w5 ⟨r, hr, ho, hm⟩
      cases r with
      | bad p =>
        have HV := Lib.hid (HG.out _ (thenR_bad hr))
        have HO := Lib.hid (HA.out.only.trans ho)
        rw [hm]
        clear hm hr ho
        go_wp2
        exact ⟨rfl, pp_bad HV.out HO.out⟩
      | ok x5 s5 =>
        obtain ⟨v, rfl, ⟨a5, c5, rfl, hx⟩, hp, hl⟩ := hm
        have HB := Lib.hid (HA.out.gain ho hp (fun W => XL W w.heap.size _ _) fun _ hW => (hx.keep hW).mono HA.out.only.size)
        have HG2 := Lib.hid (fun r k => HG.out r (thenR_ok hr k))
        have HL2 : Hid (s5.rest.length ≤ s.rest.length) := Nat.le_trans hl HLN.out
        clear ho hp hl hr HA HG HLN hx
        have HA := HB
        have HG := HG2
        have HLN := HL2
        clear HB HG2 HL2
        obtain ⟨⟨g0, g1, g2, g3, g4, g5, g6, g7, g8, g9, g10, g11, g12⟩, gf0, gf1, gf2, gf3, gf4, gf5, gf6, gf7, gf8, gf9, gf10, gf11, gf12⟩ := thirt_of (HA.out.at 0 rfl)
        have HB := Lib.hid (Au.puts 0 [.slice a5 x5.length c5] 5 HA.out rfl)
        simp only [putsA, List.setIfInBounds_toArray, List.set_cons_zero, List.set_cons_succ] at HB
        obtain ⟨W6, hW6⟩ : ∃ W, setsL w5 (W1.heap.size) 5 [.slice a5 x5.length c5] = W := ⟨_, rfl⟩
        rw [hW6] at HB
        simp only [setsL] at hW6
        clear HA
        have HA := HB
        clear HB
        go_wp2
        clear hW6
        go_meet
        case rel => exact ⟨(false, x5), a5, c5, s5, HA.out.imp fun W h => ⟨trivial, h.2⟩, fun r k => HG.out r (thenR_ok rfl k), HLN.out⟩
  case rest =>
    clear HA HG HLN HBB
    obtain ⟨l, a5, c5, s90, hA, hG, hL⟩ := hcut
    have HA := Lib.hid hA
    have HG := Lib.hid hG
    have HLN := Lib.hid hL
    clear hA hG hL
    obtain ⟨W90, hW90⟩ : ∃ W, wc = W := ⟨_, rfl⟩
    rw [hW90] at HA ⊢
    clear hW90
    have HB := Lib.hid (HA.out.push #[.string ⟨#[70, 82, 79, 77]⟩] 9)
    obtain ⟨W7, hW7⟩ : ∃ W, W90.alloc (.cells #[.string ⟨#[70, 82, 79, 77]⟩] 9) = W := ⟨_, rfl⟩
    rw [hW7] at HB
    clear HA
    have HA := HB
    clear HB
    have hlb : P < W90.heap.size := Nat.lt_of_lt_of_le hPw (HA.out.has _ (List.mem_cons_self)).1
    go_wp2_with fail
    clear hW7
    refine (need_pp P (s90) (some ⟨W90.heap.size, 0, none⟩) [⟨#[70, 82, 79, 77]⟩] 1 W7 HA.out.pa (StrsP.one (HA.out.at 0 rfl) hlb) (by decide)).mono ?_
    rintro e w8 ⟨r, hr, ho, hm⟩
    cases r with
    | bad p =>
      have HV := Lib.hid (HG.out _ (thenR_bad hr))
      have HO := Lib.hid (HA.out.only.trans ho)
      rw [hm]
      clear hm hr ho
      go_wp2
      exact ⟨rfl, pp_bad HV.out HO.out⟩
    | ok x8 s8 =>
      obtain ⟨v, rfl, rfl, hp, hl⟩ := hm
      have HB := Lib.hid (HA.out.call ho hp)
      have HB := Lib.hid HB.out.drop
      have HG2 := Lib.hid (fun r k => HG.out r (thenR_ok hr k))
      have HL2 : Hid (s8.rest.length ≤ s.rest.length) := Nat.le_trans hl HLN.out
      clear ho hp hl hr HA HG HLN hlb
      have HA := HB
      have HG := HG2
      have HLN := HL2
      clear HB HG2 HL2
      go_wp2_with fail
      refine (name_pp P (s8) _ HA.out.pa).mono ?_
      rintro e w9 ⟨r, hr, ho, hm⟩
      cases r with
      | bad p =>
        have HV := Lib.hid (HG.out _ (thenR_bad hr))
        have HO := Lib.hid (HA.out.only.trans ho)
        rw [hm]
        clear hm hr ho
        go_wp2
        exact ⟨rfl, pp_bad HV.out HO.out⟩
      | ok x9 s9 =>
        obtain ⟨v, rfl, rfl, hp, hl⟩ := hm
        have HB := Lib.hid (HA.out.call ho hp)
        have HG2 := Lib.hid (fun r k => HG.out r (thenR_ok hr k))
        have HL2 : Hid (s9.rest.length ≤ s.rest.length) := Nat.le_trans hl HLN.out
        clear ho hp hl hr HA HG HLN
        have HA := HB
        have HG := HG2
        have HLN := HL2
        clear HB HG2 HL2
        obtain ⟨⟨j0, j1, j2, j3, j4, j5, j6, j7, j8, j9, j10, j11, j12⟩, jf0, jf1, jf2, jf3, jf4, jf5, jf6, jf7, jf8, jf9, jf10, jf11, jf12⟩ := thirt_of (HA.out.at 0 rfl)
        have HB := Lib.hid (Au.puts 0 [.string x9] 1 HA.out rfl)
        simp only [putsA, List.setIfInBounds_toArray, List.set_cons_zero, List.set_cons_succ] at HB
        obtain ⟨W10, hW10⟩ : ∃ W, setsL w9 (W1.heap.size) 1 [.string x9] = W := ⟨_, rfl⟩
        rw [hW10] at HB
        simp only [setsL] at hW10
        clear HA
        have HA := HB
        clear HB
        go_wp2_with fail
        clear hW10
        refine (skip_any P (s9) ⟨#[74, 79, 73, 78]⟩ _ HA.out.pa).mono ?_
        rintro e w11 ⟨rfl, hp, ho⟩
        obtain ⟨b11, hb11⟩ : ∃ b, (s9).sees wJOIN = b := ⟨_, rfl⟩
        rw [show (s9).sees (⟨#[74, 79, 73, 78]⟩ : ByteArray).data.toList = b11 from hb11] at hp ⊢
        have HB := Lib.hid (HA.out.call ho hp)
        clear ho hp HA
        have HA := HB
        have HBB := Lib.hid hb11
        clear HB hb11
        go_upto_if 29 with fail
        go_cut [] from 4 to 87 (fun wx => ∃ (j : Int × ByteArray × List Ex) (a3 : Option Addr) (c3 : Nat) (sN : PS), Au w P sN [(W1.heap.size, .cells #[.int .i64 4, .string x9, .string j.2.1, .slice a3 j.2.2.length c3, .slice none 0 0, .slice a5 l.2.length c5, .bool l.1, .slice none 0 0, .slice none 0 0, .slice none 0 0, .slice none 0 0, .int .i64 0, .int .i64 j.1] 27 (0, 0)), (w.heap.size, .cells #[.int .i64 0, .string ⟨#[]⟩, .string ⟨#[]⟩, .slice none 0 0, .slice none 0 0, .slice none 0 0, .bool false, .slice none 0 0, .slice none 0 0, .slice none 0 0, .slice none 0 0, .int .i64 0, .int .i64 0] 27 (0, 0))] (fun W => (True ∧ XL W w.heap.size l.2 (.slice a5 l.2.length c5)) ∧ XL W w.heap.size j.2.2 (.slice a3 j.2.2.length c3)) wx ∧ (∀ r, selW l x9 j sN r → selR s r) ∧ sN.rest.length ≤ s.rest.length)
        case first =>
          cases b11 with
          | false =>
            rw [if_neg (by decide)] at HA
            have hS := HBB.out
            have HL2 : Hid ((s9).rest.length ≤ s.rest.length) := Nat.le_trans (Nat.le_refl _) HLN.out
            clear HLN
            have HLN := HL2
            clear HL2
            have HG2 := Lib.hid (then_not hS HG.out)
            clear HG
            have HG := HG2
            clear HG2
            go_wp2
            go_meet
            case rel => exact ⟨((0 : Int), ⟨#[]⟩, []), none, 0, s9, HA.out.imp fun W h => ⟨h, XL.nil _ _⟩, fun r k => HG.out r (thenR_ok rfl k), HLN.out⟩
          | true =>
            rw [if_pos rfl] at HA
            have hS := HBB.out
            have HL2 : Hid (((s9).next).rest.length ≤ s.rest.length) := Nat.le_trans (tail_le _) HLN.out
            clear HLN
            have HLN := HL2
            clear HL2
            have HG2 := Lib.hid (then_yes hS HG.out)
            clear HG
            have HG := HG2
            clear HG2
            have HG2 := Lib.hid (then_then HG.out)
            clear HG
            have HG := HG2
            clear HG2
            obtain ⟨p0, hp0⟩ : ∃ p0, (s9).next.hd.2 = p0 := ⟨_, rfl⟩
            have HAT : Hid (∀ W, PA W P (s9).next → Calls Tryz.prog 89 #[.pointer (some ⟨P, 0, none⟩)] W fun e w' => e = .returned (.int .i64 (p0 : Int)) ∧ w' = W) := fun W hW => by have := at_any P (s9).next W hW; rw [hp0] at this; exact this
            have HP0 := Lib.hid hp0
            clear hp0
            go_wp2_with fail
            refine (HAT.out _ HA.out.pa).mono ?_
            rintro e w' ⟨rfl, hw⟩
            replace hw := hw.symm
            subst hw
            clear HAT
            have HG2 := Lib.hid (fun r k => HG.out r (thenR_ok (show placeR _ _ from rfl) k))
            clear HG
            have HG := HG2
            clear HG2
            rw [HP0.out] at HG
            have HG2 := Lib.hid (then_then HG.out)
            clear HG
            have HG := HG2
            clear HG2
            obtain ⟨⟨ja0, ja1, ja2, ja3, ja4, ja5, ja6, ja7, ja8, ja9, ja10, ja11, ja12⟩, jaf0, jaf1, jaf2, jaf3, jaf4, jaf5, jaf6, jaf7, jaf8, jaf9, jaf10, jaf11, jaf12⟩ := thirt_of (HA.out.at 0 rfl)
            have HB := Lib.hid (Au.puts 0 [.int .i64 (p0 : Int)] 12 HA.out rfl)
            simp only [putsA, List.setIfInBounds_toArray, List.set_cons_zero, List.set_cons_succ] at HB
            obtain ⟨W12, hW12⟩ : ∃ W, setsL w11 (W1.heap.size) 12 [.int .i64 (p0 : Int)] = W := ⟨_, rfl⟩
            rw [hW12] at HB
            simp only [setsL] at hW12
            clear HA
            have HA := HB
            clear HB
            go_wp2_with fail
            clear hW12
            refine (name_pp P ((s9).next) _ HA.out.pa).mono ?_
            rintro e w13 ⟨r, hr, ho, hm⟩
            cases r with
            | bad p =>
              have HV := Lib.hid (HG.out _ (thenR_bad hr))
              have HO := Lib.hid (HA.out.only.trans ho)
              rw [hm]
              clear hm hr ho
              go_wp2
              exact ⟨rfl, pp_bad HV.out HO.out⟩
            | ok x13 s13 =>
              obtain ⟨v, rfl, rfl, hp, hl⟩ := hm
              have HB := Lib.hid (HA.out.call ho hp)
              have HG2 := Lib.hid (fun r k => HG.out r (thenR_ok hr k))
              have HL2 : Hid (s13.rest.length ≤ s.rest.length) := Nat.le_trans hl HLN.out
              clear ho hp hl hr HA HG HLN
              have HA := HB
              have HG := HG2
              have HLN := HL2
              clear HB HG2 HL2
              obtain ⟨⟨jb0, jb1, jb2, jb3, jb4, jb5, jb6, jb7, jb8, jb9, jb10, jb11, jb12⟩, jbf0, jbf1, jbf2, jbf3, jbf4, jbf5, jbf6, jbf7, jbf8, jbf9, jbf10, jbf11, jbf12⟩ := thirt_of (HA.out.at 0 rfl)
              have HB := Lib.hid (Au.puts 0 [.string x13] 2 HA.out rfl)
              simp only [putsA, List.setIfInBounds_toArray, List.set_cons_zero, List.set_cons_succ] at HB
              obtain ⟨W14, hW14⟩ : ∃ W, setsL w13 (W1.heap.size) 2 [.string x13] = W := ⟨_, rfl⟩
              rw [hW14] at HB
              simp only [setsL] at hW14
              clear HA
              have HA := HB
              clear HB
              have HG2 := Lib.hid (then_then HG.out)
              clear HG
              have HG := HG2
              clear HG2
              have HB := Lib.hid (HA.out.push #[.string ⟨#[79, 78]⟩] 9)
              obtain ⟨W15, hW15⟩ : ∃ W, W14.alloc (.cells #[.string ⟨#[79, 78]⟩] 9) = W := ⟨_, rfl⟩
              rw [hW15] at HB
              clear HA
              have HA := HB
              clear HB
              have hlb : P < W14.heap.size := Nat.lt_of_lt_of_le hPw (HA.out.has _ (List.mem_cons_self)).1
              go_wp2_with fail
              clear hW14 hW15
              refine (need_pp P (s13) (some ⟨W14.heap.size, 0, none⟩) [⟨#[79, 78]⟩] 1 W15 HA.out.pa (StrsP.one (HA.out.at 0 rfl) hlb) (by decide)).mono ?_
              rintro e w16 ⟨r, hr, ho, hm⟩
              cases r with
              | bad p =>
                have HV := Lib.hid (HG.out _ (thenR_bad hr))
                have HO := Lib.hid (HA.out.only.trans ho)
                rw [hm]
                clear hm hr ho
                go_wp2
                exact ⟨rfl, pp_bad HV.out HO.out⟩
              | ok x16 s16 =>
                obtain ⟨v, rfl, rfl, hp, hl⟩ := hm
                have HB := Lib.hid (HA.out.call ho hp)
                have HB := Lib.hid HB.out.drop
                have HG2 := Lib.hid (fun r k => HG.out r (thenR_ok hr k))
                have HL2 : Hid (s16.rest.length ≤ s.rest.length) := Nat.le_trans hl HLN.out
                clear ho hp hl hr HA HG HLN hlb
                have HA := HB
                have HG := HG2
                have HLN := HL2
                clear HB HG2 HL2
                have HG2 := Lib.hid (then_then HG.out)
                clear HG
                have HG := HG2
                clear HG2
                go_wp2_with fail
                refine (expr_pe P (s16) _ HA.out.pa).mono ?_
                rintro e w17 ⟨r, hr, ho, hm⟩
                cases r with
                | bad p =>
                  have HV := Lib.hid (HG.out _ (thenR_bad hr))
                  have HO := Lib.hid (HA.out.only.trans ho)
                  rw [hm]
                  clear hm hr ho
                  go_wp2
                  exact ⟨rfl, pp_bad HV.out HO.out⟩
                | ok x17 s17 =>
                  obtain ⟨v, rfl, ⟨a, m, c, rfl, hx⟩, hp, hl⟩ := hm
                  have HB := Lib.hid (HA.out.gainX ho hp hx)
                  have HG2 := Lib.hid (fun r k => HG.out r (thenR_ok hr k))
                  have HL2 : Hid (s17.rest.length ≤ s.rest.length) := Nat.le_trans (Nat.le_of_lt hl) HLN.out
                  have HS2 : Hid (s17.rest.length < s.rest.length) := Nat.lt_of_lt_of_le hl HLN.out
                  clear ho hp hl hr HA HG HLN hx
                  have HA := HB
                  have HG := HG2
                  have HLN := HL2
                  clear HB HG2 HL2
                  have HLS := HS2
                  clear HS2
                  obtain ⟨kk, oo, ⟨v1, v2, v3⟩, tt, nn, ks, pp⟩ := x17
                  simp only [exV, exC]
                  have HB := Lib.hid (HA.out.push #[.int .i64 kk, .int .i64 oo, .int .i64 v1, .int .i64 v2, .string v3, .string tt, .string nn, .slice a m c, .int .i64 pp] 48)
                  obtain ⟨W18, hW18⟩ : ∃ W, w17.alloc (.cells #[.int .i64 kk, .int .i64 oo, .int .i64 v1, .int .i64 v2, .string v3, .string tt, .string nn, .slice a m c, .int .i64 pp] 48) = W := ⟨_, rfl⟩
                  rw [hW18] at HB
                  clear HA
                  have HA := HB
                  clear HB
                  have hlb : w.heap.size ≤ w17.heap.size := (HA.out.has _ (List.mem_cons_self)).1
                  have HB := Lib.hid (HA.out.own (J := fun W => (True ∧ XL W w.heap.size l.2 (.slice a5 l.2.length c5)) ∧ XL W w.heap.size [(Ex.mk kk oo (v1, v2, v3) tt nn ks pp)] (.slice (some ⟨w17.heap.size, 0, none⟩) 1 1)) fun W h hb => ⟨h.1, XL.one h.2 hb hlb⟩)
                  clear HA hlb
                  have HA := HB
                  clear HB
                  obtain ⟨⟨jc0, jc1, jc2, jc3, jc4, jc5, jc6, jc7, jc8, jc9, jc10, jc11, jc12⟩, jcf0, jcf1, jcf2, jcf3, jcf4, jcf5, jcf6, jcf7, jcf8, jcf9, jcf10, jcf11, jcf12⟩ := thirt_of (HA.out.at 0 rfl)
                  have HB := Lib.hid (Au.puts 0 [.slice (some ⟨w17.heap.size, 0, none⟩) 1 1] 3 HA.out rfl)
                  simp only [putsA, List.setIfInBounds_toArray, List.set_cons_zero, List.set_cons_succ] at HB
                  obtain ⟨W19, hW19⟩ : ∃ W, setsL W18 (W1.heap.size) 3 [.slice (some ⟨w17.heap.size, 0, none⟩) 1 1] = W := ⟨_, rfl⟩
                  rw [hW19] at HB
                  simp only [setsL] at hW19
                  clear HA
                  have HA := HB
                  clear HB
                  go_wp2
                  clear hW18 hW19
                  go_meet
                  case rel => exact ⟨((p0 : Int), x13, [(Ex.mk kk oo (v1, v2, v3) tt nn ks pp)]), (some ⟨w17.heap.size, 0, none⟩), 1, s17, HA.out.imp fun W h => h, fun r k => HG.out r (thenR_ok rfl k), HLN.out⟩
        case rest =>
          clear HA HG HLN HBB
          obtain ⟨j, a3, c3, s9, hA, hG, hL⟩ := hcut
          have HA := Lib.hid hA
          have HG := Lib.hid hG
          have HLN := Lib.hid hL
          clear hA hG hL
          obtain ⟨s20, hs9⟩ : ∃ x, s9 = x := ⟨_, rfl⟩
          rw [hs9] at HA HG HLN
          clear hs9
          obtain ⟨W20, hwc⟩ : ∃ W, wc = W := ⟨_, rfl⟩
          rw [hwc] at HA ⊢
          clear hwc
          go_wp2_with fail
          refine (where_pp P (s20) _ HA.out.pa).mono ?_
          rintro e w21 ⟨r, hr, ho, hm⟩
          cases r with
          | bad p =>
            have HV := Lib.hid (HG.out _ (thenR_bad hr))
            have HO := Lib.hid (HA.out.only.trans ho)
            rw [hm]
            clear hm hr ho
            go_wp2
            exact ⟨rfl, pp_bad HV.out HO.out⟩
          | ok x21 s21 =>
            obtain ⟨v, rfl, ⟨a4, c4, rfl, hx⟩, hp, hl⟩ := hm
            have HB := Lib.hid (HA.out.gain ho hp (fun W => XL W w.heap.size _ _) fun _ hW => (hx.keep hW).mono HA.out.only.size)
            have HG2 := Lib.hid (fun r k => HG.out r (thenR_ok hr k))
            have HL2 : Hid (s21.rest.length ≤ s.rest.length) := Nat.le_trans hl HLN.out
            clear ho hp hl hr HA HG HLN hx
            have HA := HB
            have HG := HG2
            have HLN := HL2
            clear HB HG2 HL2
            obtain ⟨⟨wa0, wa1, wa2, wa3, wa4, wa5, wa6, wa7, wa8, wa9, wa10, wa11, wa12⟩, waf0, waf1, waf2, waf3, waf4, waf5, waf6, waf7, waf8, waf9, waf10, waf11, waf12⟩ := thirt_of (HA.out.at 0 rfl)
            have HB := Lib.hid (Au.puts 0 [.slice a4 x21.length c4] 4 HA.out rfl)
            simp only [putsA, List.setIfInBounds_toArray, List.set_cons_zero, List.set_cons_succ] at HB
            obtain ⟨W22, hW22⟩ : ∃ W, setsL w21 (W1.heap.size) 4 [.slice a4 x21.length c4] = W := ⟨_, rfl⟩
            rw [hW22] at HB
            simp only [setsL] at hW22
            clear HA
            have HA := HB
            clear HB
            go_wp2_with fail
            clear hW22
            refine (skip_any P (s21) ⟨#[71, 82, 79, 85, 80]⟩ _ HA.out.pa).mono ?_
            rintro e w23 ⟨rfl, hp, ho⟩
            obtain ⟨b23, hb23⟩ : ∃ b, (s21).sees wGROUP = b := ⟨_, rfl⟩
            rw [show (s21).sees (⟨#[71, 82, 79, 85, 80]⟩ : ByteArray).data.toList = b23 from hb23] at hp ⊢
            have HB := Lib.hid (HA.out.call ho hp)
            clear ho hp HA
            have HA := HB
            have HBB := Lib.hid hb23
            clear HB hb23
            go_upto_if 55 with fail
            go_cut [] from 4 to 87 (fun wx => ∃ (g : List Ex) (a8 : Option Addr) (c8 : Nat) (sN : PS), Au w P sN [(W1.heap.size, .cells #[.int .i64 4, .string x9, .string j.2.1, .slice a3 j.2.2.length c3, .slice a4 x21.length c4, .slice a5 l.2.length c5, .bool l.1, .slice none 0 0, .slice a8 g.length c8, .slice none 0 0, .slice none 0 0, .int .i64 0, .int .i64 j.1] 27 (0, 0)), (w.heap.size, .cells #[.int .i64 0, .string ⟨#[]⟩, .string ⟨#[]⟩, .slice none 0 0, .slice none 0 0, .slice none 0 0, .bool false, .slice none 0 0, .slice none 0 0, .slice none 0 0, .slice none 0 0, .int .i64 0, .int .i64 0] 27 (0, 0))] (fun W => (((True ∧ XL W w.heap.size l.2 (.slice a5 l.2.length c5)) ∧ XL W w.heap.size j.2.2 (.slice a3 j.2.2.length c3)) ∧ XL W w.heap.size x21 (.slice a4 x21.length c4)) ∧ XL W w.heap.size g (.slice a8 g.length c8)) wx ∧ (∀ r, selO l x9 j x21 g sN r → selR s r) ∧ sN.rest.length ≤ s.rest.length)
            case first =>
              cases b23 with
              | false =>
                rw [if_neg (by decide)] at HA
                have hS := HBB.out
                have HL2 : Hid ((s21).rest.length ≤ s.rest.length) := Nat.le_trans (Nat.le_refl _) HLN.out
                clear HLN
                have HLN := HL2
                clear HL2
                have HG2 := Lib.hid (then_not hS HG.out)
                clear HG
                have HG := HG2
                clear HG2
                go_wp2
                go_meet
                case rel => exact ⟨[], none, 0, s21, HA.out.imp fun W h => ⟨h, XL.nil _ _⟩, fun r k => HG.out r (thenR_ok rfl k), HLN.out⟩
              | true =>
                rw [if_pos rfl] at HA
                have hS := HBB.out
                have HL2 : Hid (((s21).next).rest.length ≤ s.rest.length) := Nat.le_trans (tail_le _) HLN.out
                clear HLN
                have HLN := HL2
                clear HL2
                have HG2 := Lib.hid (then_yes hS HG.out)
                clear HG
                have HG := HG2
                clear HG2
                have HG2 := Lib.hid (then_then HG.out)
                clear HG
                have HG := HG2
                clear HG2
                have HB := Lib.hid (HA.out.push #[.string ⟨#[66, 89]⟩] 9)
                obtain ⟨W24, hW24⟩ : ∃ W, w23.alloc (.cells #[.string ⟨#[66, 89]⟩] 9) = W := ⟨_, rfl⟩
                rw [hW24] at HB
                clear HA
                have HA := HB
                clear HB
                have hlb : P < w23.heap.size := Nat.lt_of_lt_of_le hPw (HA.out.has _ (List.mem_cons_self)).1
                go_wp2_with fail
                clear hW24
                refine (need_pp P ((s21).next) (some ⟨w23.heap.size, 0, none⟩) [⟨#[66, 89]⟩] 1 W24 HA.out.pa (StrsP.one (HA.out.at 0 rfl) hlb) (by decide)).mono ?_
                rintro e w25 ⟨r, hr, ho, hm⟩
                cases r with
                | bad p =>
                  have HV := Lib.hid (HG.out _ (thenR_bad hr))
                  have HO := Lib.hid (HA.out.only.trans ho)
                  rw [hm]
                  clear hm hr ho
                  go_wp2
                  exact ⟨rfl, pp_bad HV.out HO.out⟩
                | ok x25 s25 =>
                  obtain ⟨v, rfl, rfl, hp, hl⟩ := hm
                  have HB := Lib.hid (HA.out.call ho hp)
                  have HB := Lib.hid HB.out.drop
                  have HG2 := Lib.hid (fun r k => HG.out r (thenR_ok hr k))
                  have HL2 : Hid (s25.rest.length ≤ s.rest.length) := Nat.le_trans hl HLN.out
                  clear ho hp hl hr HA HG HLN hlb
                  have HA := HB
                  have HG := HG2
                  have HLN := HL2
                  clear HB HG2 HL2
                  go_wp2_with fail
                  refine (list_col colmR P 8 (s25) _ HA.out.pa (fun s w h => column_pe P s w h)).mono ?_
                  rintro e w26 ⟨r, hr, ho, hm⟩
                  cases r with
                  | bad p =>
                    have HV := Lib.hid (HG.out _ (thenR_bad hr))
                    have HO := Lib.hid (HA.out.only.trans ho)
                    rw [hm]
                    clear hm hr ho
                    go_wp2
                    exact ⟨rfl, pp_bad HV.out HO.out⟩
                  | ok x26 s26 =>
                    obtain ⟨v, rfl, ⟨a8, c8, rfl, hx⟩, hp, hl⟩ := hm
                    have HB := Lib.hid (HA.out.gain ho hp (fun W => XL W w.heap.size _ _) fun _ hW => (hx.keep hW).mono HA.out.only.size)
                    have HG2 := Lib.hid (fun r k => HG.out r (thenR_ok hr k))
                    have HL2 : Hid (s26.rest.length ≤ s.rest.length) := Nat.le_trans hl HLN.out
                    clear ho hp hl hr HA HG HLN hx
                    have HA := HB
                    have HG := HG2
                    have HLN := HL2
                    clear HB HG2 HL2
                    obtain ⟨⟨q80, q81, q82, q83, q84, q85, q86, q87, q88, q89, q810, q811, q812⟩, q8f0, q8f1, q8f2, q8f3, q8f4, q8f5, q8f6, q8f7, q8f8, q8f9, q8f10, q8f11, q8f12⟩ := thirt_of (HA.out.at 0 rfl)
                    have HB := Lib.hid (Au.puts 0 [.slice a8 x26.length c8] 8 HA.out rfl)
                    simp only [putsA, List.setIfInBounds_toArray, List.set_cons_zero, List.set_cons_succ] at HB
                    obtain ⟨W27, hW27⟩ : ∃ W, setsL w26 (W1.heap.size) 8 [.slice a8 x26.length c8] = W := ⟨_, rfl⟩
                    rw [hW27] at HB
                    simp only [setsL] at hW27
                    clear HA
                    have HA := HB
                    clear HB
                    go_wp2
                    clear hW27
                    go_meet
                    case rel => exact ⟨x26, a8, c8, s26, HA.out.imp fun W h => h, HG.out, HLN.out⟩
            case rest =>
              clear HA HG HLN HBB
              obtain ⟨g, a8, c8, s9, hA, hG, hL⟩ := hcut
              have HA := Lib.hid hA
              have HG := Lib.hid hG
              have HLN := Lib.hid hL
              clear hA hG hL
              obtain ⟨s28, hs9⟩ : ∃ x, s9 = x := ⟨_, rfl⟩
              rw [hs9] at HA HG HLN
              clear hs9
              obtain ⟨W28, hwc⟩ : ∃ W, wc = W := ⟨_, rfl⟩
              rw [hwc] at HA ⊢
              clear hwc
              go_wp2_with fail
              refine (skip_any P (s28) ⟨#[79, 82, 68, 69, 82]⟩ _ HA.out.pa).mono ?_
              rintro e w29 ⟨rfl, hp, ho⟩
              obtain ⟨b29, hb29⟩ : ∃ b, (s28).sees wORDER = b := ⟨_, rfl⟩
              rw [show (s28).sees (⟨#[79, 82, 68, 69, 82]⟩ : ByteArray).data.toList = b29 from hb29] at hp ⊢
              have HB := Lib.hid (HA.out.call ho hp)
              clear ho hp HA
              have HA := HB
              have HBB := Lib.hid hb29
              clear HB hb29
              go_upto_if 67 with fail
              go_cut [] from 4 to 87 (fun wx => ∃ (o : List So) (a9 : Option Addr) (c9 : Nat) (sN : PS), Au w P sN [(W1.heap.size, .cells #[.int .i64 4, .string x9, .string j.2.1, .slice a3 j.2.2.length c3, .slice a4 x21.length c4, .slice a5 l.2.length c5, .bool l.1, .slice none 0 0, .slice a8 g.length c8, .slice a9 o.length c9, .slice none 0 0, .int .i64 0, .int .i64 j.1] 27 (0, 0)), (w.heap.size, .cells #[.int .i64 0, .string ⟨#[]⟩, .string ⟨#[]⟩, .slice none 0 0, .slice none 0 0, .slice none 0 0, .bool false, .slice none 0 0, .slice none 0 0, .slice none 0 0, .slice none 0 0, .int .i64 0, .int .i64 0] 27 (0, 0))] (fun W => ((((True ∧ XL W w.heap.size l.2 (.slice a5 l.2.length c5)) ∧ XL W w.heap.size j.2.2 (.slice a3 j.2.2.length c3)) ∧ XL W w.heap.size x21 (.slice a4 x21.length c4)) ∧ XL W w.heap.size g (.slice a8 g.length c8)) ∧ SoL W w.heap.size o (.slice a9 o.length c9)) wx ∧ (∀ r, selL l x9 j x21 g o sN r → selR s r) ∧ sN.rest.length ≤ s.rest.length)
              case first =>
                cases b29 with
                | false =>
                  rw [if_neg (by decide)] at HA
                  have hS := HBB.out
                  have HL2 : Hid ((s28).rest.length ≤ s.rest.length) := Nat.le_trans (Nat.le_refl _) HLN.out
                  clear HLN
                  have HLN := HL2
                  clear HL2
                  have HG2 := Lib.hid (then_not hS HG.out)
                  clear HG
                  have HG := HG2
                  clear HG2
                  go_wp2
                  go_meet
                  case rel => exact ⟨[], none, 0, s28, HA.out.imp fun W h => ⟨h, SoL.nil _ _⟩, fun r k => HG.out r (thenR_ok rfl k), HLN.out⟩
                | true =>
                  rw [if_pos rfl] at HA
                  have hS := HBB.out
                  have HL2 : Hid (((s28).next).rest.length ≤ s.rest.length) := Nat.le_trans (tail_le _) HLN.out
                  clear HLN
                  have HLN := HL2
                  clear HL2
                  have HG2 := Lib.hid (then_yes hS HG.out)
                  clear HG
                  have HG := HG2
                  clear HG2
                  have HG2 := Lib.hid (then_then HG.out)
                  clear HG
                  have HG := HG2
                  clear HG2
                  have HB := Lib.hid (HA.out.push #[.string ⟨#[66, 89]⟩] 9)
                  obtain ⟨W30, hW30⟩ : ∃ W, w29.alloc (.cells #[.string ⟨#[66, 89]⟩] 9) = W := ⟨_, rfl⟩
                  rw [hW30] at HB
                  clear HA
                  have HA := HB
                  clear HB
                  have hlb : P < w29.heap.size := Nat.lt_of_lt_of_le hPw (HA.out.has _ (List.mem_cons_self)).1
                  go_wp2_with fail
                  clear hW30
                  refine (need_pp P ((s28).next) (some ⟨w29.heap.size, 0, none⟩) [⟨#[66, 89]⟩] 1 W30 HA.out.pa (StrsP.one (HA.out.at 0 rfl) hlb) (by decide)).mono ?_
                  rintro e w31 ⟨r, hr, ho, hm⟩
                  cases r with
                  | bad p =>
                    have HV := Lib.hid (HG.out _ (thenR_bad hr))
                    have HO := Lib.hid (HA.out.only.trans ho)
                    rw [hm]
                    clear hm hr ho
                    go_wp2
                    exact ⟨rfl, pp_bad HV.out HO.out⟩
                  | ok x31 s31 =>
                    obtain ⟨v, rfl, rfl, hp, hl⟩ := hm
                    have HB := Lib.hid (HA.out.call ho hp)
                    have HB := Lib.hid HB.out.drop
                    have HG2 := Lib.hid (fun r k => HG.out r (thenR_ok hr k))
                    have HL2 : Hid (s31.rest.length ≤ s.rest.length) := Nat.le_trans hl HLN.out
                    clear ho hp hl hr HA HG HLN hlb
                    have HA := HB
                    have HG := HG2
                    have HLN := HL2
                    clear HB HG2 HL2
                    go_wp2_with fail
                    refine (list_sort sortR P 8 (s31) _ HA.out.pa (fun s w h => sort_pe P s w h)).mono ?_
                    rintro e w32 ⟨r, hr, ho, hm⟩
                    cases r with
                    | bad p =>
                      have HV := Lib.hid (HG.out _ (thenR_bad hr))
                      have HO := Lib.hid (HA.out.only.trans ho)
                      rw [hm]
                      clear hm hr ho
                      go_wp2
                      exact ⟨rfl, pp_bad HV.out HO.out⟩
                    | ok x32 s32 =>
                      obtain ⟨v, rfl, ⟨a9, c9, rfl, hx⟩, hp, hl⟩ := hm
                      have HB := Lib.hid (HA.out.gain ho hp (fun W => SoL W w.heap.size _ _) fun _ hW => (hx.keep hW).mono HA.out.only.size)
                      have HG2 := Lib.hid (fun r k => HG.out r (thenR_ok hr k))
                      have HL2 : Hid (s32.rest.length ≤ s.rest.length) := Nat.le_trans hl HLN.out
                      clear ho hp hl hr HA HG HLN hx
                      have HA := HB
                      have HG := HG2
                      have HLN := HL2
                      clear HB HG2 HL2
                      obtain ⟨⟨q90, q91, q92, q93, q94, q95, q96, q97, q98, q99, q910, q911, q912⟩, q9f0, q9f1, q9f2, q9f3, q9f4, q9f5, q9f6, q9f7, q9f8, q9f9, q9f10, q9f11, q9f12⟩ := thirt_of (HA.out.at 0 rfl)
                      have HB := Lib.hid (Au.puts 0 [.slice a9 x32.length c9] 9 HA.out rfl)
                      simp only [putsA, List.setIfInBounds_toArray, List.set_cons_zero, List.set_cons_succ] at HB
                      obtain ⟨W33, hW33⟩ : ∃ W, setsL w32 (W1.heap.size) 9 [.slice a9 x32.length c9] = W := ⟨_, rfl⟩
                      rw [hW33] at HB
                      simp only [setsL] at hW33
                      clear HA
                      have HA := HB
                      clear HB
                      go_wp2
                      clear hW33
                      go_meet
                      case rel => exact ⟨x32, a9, c9, s32, HA.out.imp fun W h => h, HG.out, HLN.out⟩
              case rest =>
                clear HA HG HLN HBB
                obtain ⟨o, a9, c9, s9, hA, hG, hL⟩ := hcut
                have HA := Lib.hid hA
                have HG := Lib.hid hG
                have HLN := Lib.hid hL
                clear hA hG hL
                obtain ⟨s34, hs9⟩ : ∃ x, s9 = x := ⟨_, rfl⟩
                rw [hs9] at HA HG HLN
                clear hs9
                obtain ⟨W34, hwc⟩ : ∃ W, wc = W := ⟨_, rfl⟩
                rw [hwc] at HA ⊢
                clear hwc
                go_wp2_with fail
                refine (skip_any P (s34) ⟨#[76, 73, 77, 73, 84]⟩ _ HA.out.pa).mono ?_
                rintro e w35 ⟨rfl, hp, ho⟩
                obtain ⟨b35, hb35⟩ : ∃ b, (s34).sees wLIMIT = b := ⟨_, rfl⟩
                rw [show (s34).sees (⟨#[76, 73, 77, 73, 84]⟩ : ByteArray).data.toList = b35 from hb35] at hp ⊢
                have HB := Lib.hid (HA.out.call ho hp)
                clear ho hp HA
                have HA := HB
                have HBB := Lib.hid hb35
                clear HB hb35
                go_upto_if 79 with fail
                go_cut [] from 4 to 87 (fun wx => ∃ (m : List Int) (a10 : Option Addr) (c10 : Nat) (sN : PS), Au w P sN [(W1.heap.size, .cells #[.int .i64 4, .string x9, .string j.2.1, .slice a3 j.2.2.length c3, .slice a4 x21.length c4, .slice a5 l.2.length c5, .bool l.1, .slice none 0 0, .slice a8 g.length c8, .slice a9 o.length c9, .slice a10 m.length c10, .int .i64 0, .int .i64 j.1] 27 (0, 0)), (w.heap.size, .cells #[.int .i64 0, .string ⟨#[]⟩, .string ⟨#[]⟩, .slice none 0 0, .slice none 0 0, .slice none 0 0, .bool false, .slice none 0 0, .slice none 0 0, .slice none 0 0, .slice none 0 0, .int .i64 0, .int .i64 0] 27 (0, 0))] (fun W => (((((True ∧ XL W w.heap.size l.2 (.slice a5 l.2.length c5)) ∧ XL W w.heap.size j.2.2 (.slice a3 j.2.2.length c3)) ∧ XL W w.heap.size x21 (.slice a4 x21.length c4)) ∧ XL W w.heap.size g (.slice a8 g.length c8)) ∧ SoL W w.heap.size o (.slice a9 o.length c9)) ∧ IL W w.heap.size m (.slice a10 m.length c10)) wx ∧ (∀ r, retR ⟨4, x9, j.2.1, j.2.2, x21, l.2, l.1, [], g, o, m, 0, j.1⟩ sN r → selR s r) ∧ sN.rest.length ≤ s.rest.length)
                case first =>
                  cases b35 with
                  | false =>
                    rw [if_neg (by decide)] at HA
                    have hS := HBB.out
                    have HL2 : Hid ((s34).rest.length ≤ s.rest.length) := Nat.le_trans (Nat.le_refl _) HLN.out
                    clear HLN
                    have HLN := HL2
                    clear HL2
                    have HG2 := Lib.hid (then_not hS HG.out)
                    clear HG
                    have HG := HG2
                    clear HG2
                    go_wp2
                    go_meet
                    case rel => exact ⟨[], none, 0, s34, HA.out.imp fun W h => ⟨h, IL.nil _ _⟩, fun r k => HG.out r (thenR_ok rfl k), HLN.out⟩
                  | true =>
                    rw [if_pos rfl] at HA
                    have hS := HBB.out
                    have HL2 : Hid (((s34).next).rest.length ≤ s.rest.length) := Nat.le_trans (tail_le _) HLN.out
                    clear HLN
                    have HLN := HL2
                    clear HL2
                    have HG2 := Lib.hid (then_yes hS HG.out)
                    clear HG
                    have HG := HG2
                    clear HG2
                    have HG2 := Lib.hid (then_then HG.out)
                    clear HG
                    have HG := HG2
                    clear HG2
                    go_wp2_with fail
                    refine (number_pp P ((s34).next) _ HA.out.pa).mono ?_
                    rintro e w36 ⟨r, hr, ho, hm⟩
                    cases r with
                    | bad p =>
                      have HV := Lib.hid (HG.out _ (thenR_bad hr))
                      have HO := Lib.hid (HA.out.only.trans ho)
                      rw [hm]
                      clear hm hr ho
                      go_wp2
                      exact ⟨rfl, pp_bad HV.out HO.out⟩
                    | ok x36 s36 =>
                      obtain ⟨v, rfl, hx, hp, hl⟩ := hm
                      have HB := Lib.hid (HA.out.call ho hp)
                      have HG2 := Lib.hid (fun r k => HG.out r (thenR_ok hr k))
                      have HL2 : Hid (s36.rest.length ≤ s.rest.length) := Nat.le_trans hl HLN.out
                      clear ho hp hl hr HA HG HLN
                      have HA := HB
                      have HG := HG2
                      have HLN := HL2
                      clear HB HG2 HL2
                      obtain ⟨⟨tk, tn, tt⟩, ta⟩ := x36
                      rw [show v = .agg #[.int .i64 tk, .int .i64 tn, .string tt, .int .i64 (ta : Int)] from hx]
                      clear hx
                      have hfd := fieldT1
                      have HB := Lib.hid (HA.out.push #[.int .i64 tn] 3)
                      obtain ⟨W37, hW37⟩ : ∃ W, w36.alloc (.cells #[.int .i64 tn] 3) = W := ⟨_, rfl⟩
                      rw [hW37] at HB
                      clear HA
                      have HA := HB
                      clear HB
                      have hlb : w.heap.size ≤ w36.heap.size := (HA.out.has _ (List.mem_cons_self)).1
                      have HB := Lib.hid (HA.out.own (J := fun W => (((((True ∧ XL W w.heap.size l.2 (.slice a5 l.2.length c5)) ∧ XL W w.heap.size j.2.2 (.slice a3 j.2.2.length c3)) ∧ XL W w.heap.size x21 (.slice a4 x21.length c4)) ∧ XL W w.heap.size g (.slice a8 g.length c8)) ∧ SoL W w.heap.size o (.slice a9 o.length c9)) ∧ IL W w.heap.size [tn] (.slice (some ⟨w36.heap.size, 0, none⟩) 1 1)) fun W h hb => ⟨h, IL.one hb hlb⟩)
                      clear HA hlb
                      have HA := HB
                      clear HB
                      obtain ⟨⟨la0, la1, la2, la3, la4, la5, la6, la7, la8, la9, la10, la11, la12⟩, laf0, laf1, laf2, laf3, laf4, laf5, laf6, laf7, laf8, laf9, laf10, laf11, laf12⟩ := thirt_of (HA.out.at 0 rfl)
                      have HB := Lib.hid (Au.puts 0 [.slice (some ⟨w36.heap.size, 0, none⟩) 1 1] 10 HA.out rfl)
                      simp only [putsA, List.setIfInBounds_toArray, List.set_cons_zero, List.set_cons_succ] at HB
                      obtain ⟨W38, hW38⟩ : ∃ W, setsL W37 (W1.heap.size) 10 [.slice (some ⟨w36.heap.size, 0, none⟩) 1 1] = W := ⟨_, rfl⟩
                      rw [hW38] at HB
                      simp only [setsL] at hW38
                      clear HA
                      have HA := HB
                      clear HB
                      go_wp2
                      clear hW37 hW38
                      go_meet
                      case rel => exact ⟨[tn], (some ⟨w36.heap.size, 0, none⟩), 1, s36, HA.out.imp fun W h => h, fun r k => HG.out r (thenR_ok rfl k), HLN.out⟩
                case rest =>
                  clear HA HG HLN HBB
                  obtain ⟨m, a10, c10, s9, hA, hG, hL⟩ := hcut
                  have HA := Lib.hid hA
                  have HG := Lib.hid hG
                  have HLN := Lib.hid hL
                  clear hA hG hL
                  obtain ⟨s39, hs9⟩ : ∃ x, s9 = x := ⟨_, rfl⟩
                  rw [hs9] at HA HG HLN
                  clear hs9
                  obtain ⟨W39, hwc⟩ : ∃ W, wc = W := ⟨_, rfl⟩
                  rw [hwc] at HA ⊢
                  clear hwc
                  obtain ⟨⟨d0, d1, d2, d3, d4, d5, d6, d7, d8, d9, d10, d11, d12⟩, df0, df1, df2, df3, df4, df5, df6, df7, df8, df9, df10, df11, df12⟩ := thirt_of (HA.out.at 0 rfl)
                  obtain ⟨⟨r0, r1, r2, r3, r4, r5, r6, r7, r8, r9, r10, r11, r12⟩, rf0, rf1, rf2, rf3, rf4, rf5, rf6, rf7, rf8, rf9, rf10, rf11, rf12⟩ := thirt_of (HA.out.at 1 rfl)
                  have HV := Lib.hid (HG.out _ rfl)
                  go_wp2
                  have HD := Lib.hid (HA.out.fill 1 rfl [.int .i64 4, .string x9, .string j.2.1, .slice a3 j.2.2.length c3, .slice a4 x21.length c4, .slice a5 l.2.length c5, .bool l.1, .slice none 0 0, .slice a8 g.length c8, .slice a9 o.length c9, .slice a10 m.length c10, .int .i64 0, .int .i64 j.1] rfl)
                  obtain ⟨W99, hW99⟩ : ∃ W, setsL W39 w.heap.size 0 [.int .i64 4, .string x9, .string j.2.1, .slice a3 j.2.2.length c3, .slice a4 x21.length c4, .slice a5 l.2.length c5, .bool l.1, .slice none 0 0, .slice a8 g.length c8, .slice a9 o.length c9, .slice a10 m.length c10, .int .i64 0, .int .i64 j.1] = W := ⟨_, rfl⟩
                  rw [hW99] at HD
                  simp only [setsL, Nat.reduceAdd] at hW99
                  rw [hW99]
                  obtain ⟨⟨y0, y1, y2, y3, y4, y5, y6, y7, y8, y9, y10, y11, y12⟩, -⟩ := thirt_of (HD.out.at 1 rfl)
                  clear hW99
                  exact bodyPost_ret (v := .agg #[.int .i64 4, .string x9, .string j.2.1, .slice a3 j.2.2.length c3, .slice a4 x21.length c4, .slice a5 l.2.length c5, .bool l.1, .slice none 0 0, .slice a8 g.length c8, .slice a9 o.length c9, .slice a10 m.length c10, .int .i64 0, .int .i64 j.1]) (by simp [results, Tryz.results93, go_sem, y0, y1, y2, y3, y4, y5, y6, y7, y8, y9, y10, y11, y12]) rfl (pp_ok HV.out HD.out.only (show StV _ _ (⟨4, x9, j.2.1, j.2.2, x21, l.2, l.1, [], g, o, m, 0, j.1⟩ : St) _ from ⟨a3, a4, a5, none, a8, a9, a10, c3, c4, c5, 0, c8, c9, c10, rfl, ⟨HD.out.inv.out.1.1.1.1.2, HD.out.inv.out.1.1.1.2, HD.out.inv.out.1.1.1.1.1.2, SeL.nil _ _, HD.out.inv.out.1.1.2, HD.out.inv.out.1.2, HD.out.inv.out.2⟩⟩) HD.out.pa HLN.out)
end Go.Proofs.YtmfplnodafodoaaGreatDoor
/- Walks of layer 11: a statement. -/
namespace Go.Proofs.YtmfplnodafodoaaGreatDoor
open Go.RowKit

set_option maxHeartbeats 8000000 in
set_option maxRecDepth 100000 in
theorem statement_pp (P : Nat) (s : PS) (w : World) (h : PA w P s) : Calls Tryz.prog 49 #[.pointer (some ⟨P, 0, none⟩)] w (PP stR StV P s w) := by
  have HA := Lib.hid (Au.start h)
  have hPw := h.lt
  have HLN : Hid (s.rest.length ≤ s.rest.length) := Nat.le_refl _
  have HG : Hid (∀ r, stR s r → stR s r) := fun r k => k
  clear h
  go_enter Tryz.func49, Tryz.ntmps49
  have HB := Lib.hid (HA.out.push #[.int .i64 0, .string ⟨#[]⟩, .string ⟨#[]⟩, .slice none 0 0, .slice none 0 0, .slice none 0 0, .bool false, .slice none 0 0, .slice none 0 0, .slice none 0 0, .slice none 0 0, .int .i64 0, .int .i64 0] 27)
  obtain ⟨W1, hW1⟩ : ∃ W, w.alloc (.cells #[.int .i64 0, .string ⟨#[]⟩, .string ⟨#[]⟩, .slice none 0 0, .slice none 0 0, .slice none 0 0, .bool false, .slice none 0 0, .slice none 0 0, .slice none 0 0, .slice none 0 0, .int .i64 0, .int .i64 0] 27) = W := ⟨_, rfl⟩
  rw [hW1] at HB
  clear HA
  have HA := HB
  clear HB
  obtain ⟨p0, hp0⟩ : ∃ p0, s.hd.2 = p0 := ⟨_, rfl⟩
  have HAT : Hid (∀ W, PA W P s → Calls Tryz.prog 89 #[.pointer (some ⟨P, 0, none⟩)] W fun e w' => e = .returned (.int .i64 (p0 : Int)) ∧ w' = W) := fun W hW => by have := at_any P s W hW; rw [hp0] at this; exact this
  have HP0 := Lib.hid hp0
  clear hp0
  go_wp2_with fail
  clear hW1
  refine (HAT.out _ HA.out.pa).mono ?_
  rintro e w' ⟨rfl, hw⟩
  replace hw := hw.symm
  subst hw
  clear HAT
  have HG1 : Hid (∀ r, (thenR (ifR wINSERT insR (ifR wUPDATE updR (ifR wDELETE delR (ifR wSELECT selR badR)))) fun t => retR { t with place := (p0 : Int) }) s r → stR s r) := HP0.out ▸ HG.out
  clear HG
  have HG := HG1
  clear HG1
  have HB := Lib.hid (HA.out.push #[.int .i64 0, .string ⟨#[]⟩, .string ⟨#[]⟩, .slice none 0 0, .slice none 0 0, .slice none 0 0, .bool false, .slice none 0 0, .slice none 0 0, .slice none 0 0, .slice none 0 0, .int .i64 0, .int .i64 0] 27)
  obtain ⟨W2, hW2⟩ : ∃ W, W1.alloc (.cells #[.int .i64 0, .string ⟨#[]⟩, .string ⟨#[]⟩, .slice none 0 0, .slice none 0 0, .slice none 0 0, .bool false, .slice none 0 0, .slice none 0 0, .slice none 0 0, .slice none 0 0, .int .i64 0, .int .i64 0] 27) = W := ⟨_, rfl⟩
  rw [hW2] at HB
  clear HA
  have HA := HB
  clear HB
  go_wp2_with fail
  clear hW2
  refine (skip_any P (s) ⟨#[73, 78, 83, 69, 82, 84]⟩ _ HA.out.pa).mono ?_
  rintro e w3 ⟨rfl, hp, ho⟩
  cases hS : (s).sees wINSERT with
  | true =>
    rw [show (s).sees (⟨#[73, 78, 83, 69, 82, 84]⟩ : ByteArray).data.toList = true from hS] at hp ⊢
    rw [if_pos rfl] at hp
    have HB := Lib.hid (HA.out.call ho hp)
    have HG2 := Lib.hid (then_yes hS HG.out)
    have HL2 : Hid ((s.next).rest.length ≤ s.rest.length) := Nat.le_trans (tail_le _) HLN.out
    have HS2 : Hid ((s.next).rest.length < s.rest.length) := Nat.lt_of_lt_of_le HA.out.pa.shorter HLN.out
    clear hp ho HA HLN HG
    have HA := HB
    have HG := HG2
    clear HG2
    have HLN := HL2
    clear HB HL2 hS
    have HLS := HS2
    clear HS2
    go_wp2_with fail
    refine (ins_pp P (s.next) _ HA.out.pa).mono ?_
    rintro e w4 ⟨r, hr, ho, hm⟩
    cases r with
    | bad p =>
      have HV := Lib.hid (HG.out _ (thenR_bad hr))
      have HO := Lib.hid (HA.out.only.trans ho)
      rw [hm]
      clear hm hr ho
      go_wp2
      exact ⟨rfl, pp_bad HV.out HO.out⟩
    | ok x4 s4 =>
      obtain ⟨v, rfl, ⟨a0, a1, a2, a3, a4, a5, a6, c0, c1, c2, c3, c4, c5, c6, rfl, hx⟩, hp, hl⟩ := hm
      have HB := Lib.hid (HA.out.gain ho hp (fun W => StO W w.heap.size _ (.slice a0 x4.on.length c0) (.slice a1 x4.whr.length c1) (.slice a2 x4.items.length c2) (.slice a3 x4.sets.length c3) (.slice a4 x4.groups.length c4) (.slice a5 x4.sorts.length c5) (.slice a6 x4.limit.length c6)) fun _ hW => (hx.keep hW).mono HA.out.only.size)
      have HG2 := Lib.hid (fun r k => HG.out r (thenR_ok hr k))
      have HL2 : Hid (s4.rest.length ≤ s.rest.length) := Nat.le_trans hl HLN.out
      have HS2 : Hid (s4.rest.length < s.rest.length) := Nat.lt_of_le_of_lt hl HLS.out
      clear ho hp hl hr HA HG HLN hx HLS
      have HA := HB
      have HG := HG2
      have HLN := HL2
      clear HB HG2 HL2
      have HLS := HS2
      clear HS2
      simp only [stC]
      obtain ⟨⟨v0, v1, v2, v3, v4, v5, v6, v7, v8, v9, v10, v11, v12⟩, vf0, vf1, vf2, vf3, vf4, vf5, vf6, vf7, vf8, vf9, vf10, vf11, vf12⟩ := thirt_of (HA.out.at 0 rfl)
      have HB := Lib.hid (Au.puts 0 [.int .i64 x4.kind, .string x4.table, .string x4.join, .slice a0 x4.on.length c0, .slice a1 x4.whr.length c1, .slice a2 x4.items.length c2, .bool x4.star, .slice a3 x4.sets.length c3, .slice a4 x4.groups.length c4, .slice a5 x4.sorts.length c5, .slice a6 x4.limit.length c6, .int .i64 x4.place, .int .i64 x4.joinAt] 0 HA.out rfl)
      simp only [putsA, Nat.reduceAdd, List.setIfInBounds_toArray, List.set_cons_zero, List.set_cons_succ] at HB
      obtain ⟨W5, hW5⟩ : ∃ W, setsL w4 (W1.heap.size) 0 [.int .i64 x4.kind, .string x4.table, .string x4.join, .slice a0 x4.on.length c0, .slice a1 x4.whr.length c1, .slice a2 x4.items.length c2, .bool x4.star, .slice a3 x4.sets.length c3, .slice a4 x4.groups.length c4, .slice a5 x4.sorts.length c5, .slice a6 x4.limit.length c6, .int .i64 x4.place, .int .i64 x4.joinAt] = W := ⟨_, rfl⟩
      rw [hW5] at HB
      simp only [setsL, Nat.reduceAdd] at hW5
      clear HA
      have HA := HB
      clear HB
      obtain ⟨⟨u0, u1, u2, u3, u4, u5, u6, u7, u8, u9, u10, u11, u12⟩, uf0, uf1, uf2, uf3, uf4, uf5, uf6, uf7, uf8, uf9, uf10, uf11, uf12⟩ := thirt_of (HA.out.at 0 rfl)
      have HB := Lib.hid (Au.puts 0 [.int .i64 (p0 : Int)] 11 HA.out rfl)
      simp only [putsA, List.setIfInBounds_toArray, List.set_cons_zero, List.set_cons_succ] at HB
      obtain ⟨W6, hW6⟩ : ∃ W, setsL W5 (W1.heap.size) 11 [.int .i64 (p0 : Int)] = W := ⟨_, rfl⟩
      rw [hW6] at HB
      simp only [setsL] at hW6
      clear HA
      have HA := HB
      clear HB
      obtain ⟨⟨d0, d1, d2, d3, d4, d5, d6, d7, d8, d9, d10, d11, d12⟩, df0, df1, df2, df3, df4, df5, df6, df7, df8, df9, df10, df11, df12⟩ := thirt_of (HA.out.at 0 rfl)
      obtain ⟨⟨r0, r1, r2, r3, r4, r5, r6, r7, r8, r9, r10, r11, r12⟩, rf0, rf1, rf2, rf3, rf4, rf5, rf6, rf7, rf8, rf9, rf10, rf11, rf12⟩ := thirt_of (HA.out.at 1 rfl)
      have HST := Lib.hid HA.out.inv
      clear HST
      have HV := Lib.hid (HG.out _ rfl)
      go_wp2
      clear hW5 hW6
      have HD := Lib.hid (HA.out.fill 1 rfl [.int .i64 x4.kind, .string x4.table, .string x4.join, .slice a0 x4.on.length c0, .slice a1 x4.whr.length c1, .slice a2 x4.items.length c2, .bool x4.star, .slice a3 x4.sets.length c3, .slice a4 x4.groups.length c4, .slice a5 x4.sorts.length c5, .slice a6 x4.limit.length c6, .int .i64 (p0 : Int), .int .i64 x4.joinAt] rfl)
      obtain ⟨W99, hW99⟩ : ∃ W, setsL W6 w.heap.size 0 [.int .i64 x4.kind, .string x4.table, .string x4.join, .slice a0 x4.on.length c0, .slice a1 x4.whr.length c1, .slice a2 x4.items.length c2, .bool x4.star, .slice a3 x4.sets.length c3, .slice a4 x4.groups.length c4, .slice a5 x4.sorts.length c5, .slice a6 x4.limit.length c6, .int .i64 (p0 : Int), .int .i64 x4.joinAt] = W := ⟨_, rfl⟩
      rw [hW99] at HD
      simp only [setsL, Nat.reduceAdd] at hW99
      rw [hW99]
      obtain ⟨⟨y0, y1, y2, y3, y4, y5, y6, y7, y8, y9, y10, y11, y12⟩, -⟩ := thirt_of (HD.out.at 1 rfl)
      clear hW99
      exact bodyPost_ret (v := .agg #[.int .i64 x4.kind, .string x4.table, .string x4.join, .slice a0 x4.on.length c0, .slice a1 x4.whr.length c1, .slice a2 x4.items.length c2, .bool x4.star, .slice a3 x4.sets.length c3, .slice a4 x4.groups.length c4, .slice a5 x4.sorts.length c5, .slice a6 x4.limit.length c6, .int .i64 (p0 : Int), .int .i64 x4.joinAt]) (by simp [results, Tryz.results49, go_sem, y0, y1, y2, y3, y4, y5, y6, y7, y8, y9, y10, y11, y12]) rfl (pp_ok HV.out HD.out.only (show StV _ _ ({ x4 with place := (p0 : Int) } : St) _ from ⟨a0, a1, a2, a3, a4, a5, a6, c0, c1, c2, c3, c4, c5, c6, rfl, ⟨HD.out.inv.out.2.on, HD.out.inv.out.2.whr, HD.out.inv.out.2.items, HD.out.inv.out.2.sets, HD.out.inv.out.2.groups, HD.out.inv.out.2.sorts, HD.out.inv.out.2.limit⟩⟩) HD.out.pa HLN.out)
  | false =>
    rw [show (s).sees (⟨#[73, 78, 83, 69, 82, 84]⟩ : ByteArray).data.toList = false from hS] at hp ⊢
    rw [if_neg (by decide)] at hp
    have HB := Lib.hid (HA.out.call ho hp)
    have HG2 := Lib.hid (then_not hS HG.out)
    have HL2 : Hid ((s).rest.length ≤ s.rest.length) := Nat.le_trans (Nat.le_refl _) HLN.out
    clear hp ho HA HLN HG
    have HA := HB
    have HG := HG2
    clear HG2
    have HLN := HL2
    clear HB HL2 hS
    go_wp2_with fail
    refine (skip_any P (s) ⟨#[85, 80, 68, 65, 84, 69]⟩ _ HA.out.pa).mono ?_
    rintro e w7 ⟨rfl, hp, ho⟩
    cases hS : (s).sees wUPDATE with
    | true =>
      rw [show (s).sees (⟨#[85, 80, 68, 65, 84, 69]⟩ : ByteArray).data.toList = true from hS] at hp ⊢
      rw [if_pos rfl] at hp
      have HB := Lib.hid (HA.out.call ho hp)
      have HG2 := Lib.hid (then_yes hS HG.out)
      have HL2 : Hid ((s.next).rest.length ≤ s.rest.length) := Nat.le_trans (tail_le _) HLN.out
      have HS2 : Hid ((s.next).rest.length < s.rest.length) := Nat.lt_of_lt_of_le HA.out.pa.shorter HLN.out
      clear hp ho HA HLN HG
      have HA := HB
      have HG := HG2
      clear HG2
      have HLN := HL2
      clear HB HL2 hS
      have HLS := HS2
      clear HS2
      go_wp2_with fail
      refine (upd_pp P (s.next) _ HA.out.pa).mono ?_
      rintro e w8 ⟨r, hr, ho, hm⟩
      cases r with
      | bad p =>
        have HV := Lib.hid (HG.out _ (thenR_bad hr))
        have HO := Lib.hid (HA.out.only.trans ho)
        rw [hm]
        clear hm hr ho
        go_wp2
        exact ⟨rfl, pp_bad HV.out HO.out⟩
      | ok x8 s8 =>
        obtain ⟨v, rfl, ⟨a0, a1, a2, a3, a4, a5, a6, c0, c1, c2, c3, c4, c5, c6, rfl, hx⟩, hp, hl⟩ := hm
        have HB := Lib.hid (HA.out.gain ho hp (fun W => StO W w.heap.size _ (.slice a0 x8.on.length c0) (.slice a1 x8.whr.length c1) (.slice a2 x8.items.length c2) (.slice a3 x8.sets.length c3) (.slice a4 x8.groups.length c4) (.slice a5 x8.sorts.length c5) (.slice a6 x8.limit.length c6)) fun _ hW => (hx.keep hW).mono HA.out.only.size)
        have HG2 := Lib.hid (fun r k => HG.out r (thenR_ok hr k))
        have HL2 : Hid (s8.rest.length ≤ s.rest.length) := Nat.le_trans hl HLN.out
        have HS2 : Hid (s8.rest.length < s.rest.length) := Nat.lt_of_le_of_lt hl HLS.out
        clear ho hp hl hr HA HG HLN hx HLS
        have HA := HB
        have HG := HG2
        have HLN := HL2
        clear HB HG2 HL2
        have HLS := HS2
        clear HS2
        simp only [stC]
        obtain ⟨⟨v0, v1, v2, v3, v4, v5, v6, v7, v8, v9, v10, v11, v12⟩, vf0, vf1, vf2, vf3, vf4, vf5, vf6, vf7, vf8, vf9, vf10, vf11, vf12⟩ := thirt_of (HA.out.at 0 rfl)
        have HB := Lib.hid (Au.puts 0 [.int .i64 x8.kind, .string x8.table, .string x8.join, .slice a0 x8.on.length c0, .slice a1 x8.whr.length c1, .slice a2 x8.items.length c2, .bool x8.star, .slice a3 x8.sets.length c3, .slice a4 x8.groups.length c4, .slice a5 x8.sorts.length c5, .slice a6 x8.limit.length c6, .int .i64 x8.place, .int .i64 x8.joinAt] 0 HA.out rfl)
        simp only [putsA, Nat.reduceAdd, List.setIfInBounds_toArray, List.set_cons_zero, List.set_cons_succ] at HB
        obtain ⟨W9, hW9⟩ : ∃ W, setsL w8 (W1.heap.size) 0 [.int .i64 x8.kind, .string x8.table, .string x8.join, .slice a0 x8.on.length c0, .slice a1 x8.whr.length c1, .slice a2 x8.items.length c2, .bool x8.star, .slice a3 x8.sets.length c3, .slice a4 x8.groups.length c4, .slice a5 x8.sorts.length c5, .slice a6 x8.limit.length c6, .int .i64 x8.place, .int .i64 x8.joinAt] = W := ⟨_, rfl⟩
        rw [hW9] at HB
        simp only [setsL, Nat.reduceAdd] at hW9
        clear HA
        have HA := HB
        clear HB
        obtain ⟨⟨u0, u1, u2, u3, u4, u5, u6, u7, u8, u9, u10, u11, u12⟩, uf0, uf1, uf2, uf3, uf4, uf5, uf6, uf7, uf8, uf9, uf10, uf11, uf12⟩ := thirt_of (HA.out.at 0 rfl)
        have HB := Lib.hid (Au.puts 0 [.int .i64 (p0 : Int)] 11 HA.out rfl)
        simp only [putsA, List.setIfInBounds_toArray, List.set_cons_zero, List.set_cons_succ] at HB
        obtain ⟨W10, hW10⟩ : ∃ W, setsL W9 (W1.heap.size) 11 [.int .i64 (p0 : Int)] = W := ⟨_, rfl⟩
        rw [hW10] at HB
        simp only [setsL] at hW10
        clear HA
        have HA := HB
        clear HB
        obtain ⟨⟨d0, d1, d2, d3, d4, d5, d6, d7, d8, d9, d10, d11, d12⟩, df0, df1, df2, df3, df4, df5, df6, df7, df8, df9, df10, df11, df12⟩ := thirt_of (HA.out.at 0 rfl)
        obtain ⟨⟨r0, r1, r2, r3, r4, r5, r6, r7, r8, r9, r10, r11, r12⟩, rf0, rf1, rf2, rf3, rf4, rf5, rf6, rf7, rf8, rf9, rf10, rf11, rf12⟩ := thirt_of (HA.out.at 1 rfl)
        have HST := Lib.hid HA.out.inv
        clear HST
        have HV := Lib.hid (HG.out _ rfl)
        go_wp2
        clear hW9 hW10
        have HD := Lib.hid (HA.out.fill 1 rfl [.int .i64 x8.kind, .string x8.table, .string x8.join, .slice a0 x8.on.length c0, .slice a1 x8.whr.length c1, .slice a2 x8.items.length c2, .bool x8.star, .slice a3 x8.sets.length c3, .slice a4 x8.groups.length c4, .slice a5 x8.sorts.length c5, .slice a6 x8.limit.length c6, .int .i64 (p0 : Int), .int .i64 x8.joinAt] rfl)
        obtain ⟨W99, hW99⟩ : ∃ W, setsL W10 w.heap.size 0 [.int .i64 x8.kind, .string x8.table, .string x8.join, .slice a0 x8.on.length c0, .slice a1 x8.whr.length c1, .slice a2 x8.items.length c2, .bool x8.star, .slice a3 x8.sets.length c3, .slice a4 x8.groups.length c4, .slice a5 x8.sorts.length c5, .slice a6 x8.limit.length c6, .int .i64 (p0 : Int), .int .i64 x8.joinAt] = W := ⟨_, rfl⟩
        rw [hW99] at HD
        simp only [setsL, Nat.reduceAdd] at hW99
        rw [hW99]
        obtain ⟨⟨y0, y1, y2, y3, y4, y5, y6, y7, y8, y9, y10, y11, y12⟩, -⟩ := thirt_of (HD.out.at 1 rfl)
        clear hW99
        exact bodyPost_ret (v := .agg #[.int .i64 x8.kind, .string x8.table, .string x8.join, .slice a0 x8.on.length c0, .slice a1 x8.whr.length c1, .slice a2 x8.items.length c2, .bool x8.star, .slice a3 x8.sets.length c3, .slice a4 x8.groups.length c4, .slice a5 x8.sorts.length c5, .slice a6 x8.limit.length c6, .int .i64 (p0 : Int), .int .i64 x8.joinAt]) (by simp [results, Tryz.results49, go_sem, y0, y1, y2, y3, y4, y5, y6, y7, y8, y9, y10, y11, y12]) rfl (pp_ok HV.out HD.out.only (show StV _ _ ({ x8 with place := (p0 : Int) } : St) _ from ⟨a0, a1, a2, a3, a4, a5, a6, c0, c1, c2, c3, c4, c5, c6, rfl, ⟨HD.out.inv.out.2.on, HD.out.inv.out.2.whr, HD.out.inv.out.2.items, HD.out.inv.out.2.sets, HD.out.inv.out.2.groups, HD.out.inv.out.2.sorts, HD.out.inv.out.2.limit⟩⟩) HD.out.pa HLN.out)
    | false =>
      rw [show (s).sees (⟨#[85, 80, 68, 65, 84, 69]⟩ : ByteArray).data.toList = false from hS] at hp ⊢
      rw [if_neg (by decide)] at hp
      have HB := Lib.hid (HA.out.call ho hp)
      have HG2 := Lib.hid (then_not hS HG.out)
      have HL2 : Hid ((s).rest.length ≤ s.rest.length) := Nat.le_trans (Nat.le_refl _) HLN.out
      clear hp ho HA HLN HG
      have HA := HB
      have HG := HG2
      clear HG2
      have HLN := HL2
      clear HB HL2 hS
      go_wp2_with fail
      refine (skip_any P (s) ⟨#[68, 69, 76, 69, 84, 69]⟩ _ HA.out.pa).mono ?_
      rintro e w11 ⟨rfl, hp, ho⟩
      cases hS : (s).sees wDELETE with
      | true =>
        rw [show (s).sees (⟨#[68, 69, 76, 69, 84, 69]⟩ : ByteArray).data.toList = true from hS] at hp ⊢
        rw [if_pos rfl] at hp
        have HB := Lib.hid (HA.out.call ho hp)
        have HG2 := Lib.hid (then_yes hS HG.out)
        have HL2 : Hid ((s.next).rest.length ≤ s.rest.length) := Nat.le_trans (tail_le _) HLN.out
        have HS2 : Hid ((s.next).rest.length < s.rest.length) := Nat.lt_of_lt_of_le HA.out.pa.shorter HLN.out
        clear hp ho HA HLN HG
        have HA := HB
        have HG := HG2
        clear HG2
        have HLN := HL2
        clear HB HL2 hS
        have HLS := HS2
        clear HS2
        go_wp2_with fail
        refine (del_pp P (s.next) _ HA.out.pa).mono ?_
        rintro e w12 ⟨r, hr, ho, hm⟩
        cases r with
        | bad p =>
          have HV := Lib.hid (HG.out _ (thenR_bad hr))
          have HO := Lib.hid (HA.out.only.trans ho)
          rw [hm]
          clear hm hr ho
          go_wp2
          exact ⟨rfl, pp_bad HV.out HO.out⟩
        | ok x12 s12 =>
          obtain ⟨v, rfl, ⟨a0, a1, a2, a3, a4, a5, a6, c0, c1, c2, c3, c4, c5, c6, rfl, hx⟩, hp, hl⟩ := hm
          have HB := Lib.hid (HA.out.gain ho hp (fun W => StO W w.heap.size _ (.slice a0 x12.on.length c0) (.slice a1 x12.whr.length c1) (.slice a2 x12.items.length c2) (.slice a3 x12.sets.length c3) (.slice a4 x12.groups.length c4) (.slice a5 x12.sorts.length c5) (.slice a6 x12.limit.length c6)) fun _ hW => (hx.keep hW).mono HA.out.only.size)
          have HG2 := Lib.hid (fun r k => HG.out r (thenR_ok hr k))
          have HL2 : Hid (s12.rest.length ≤ s.rest.length) := Nat.le_trans hl HLN.out
          have HS2 : Hid (s12.rest.length < s.rest.length) := Nat.lt_of_le_of_lt hl HLS.out
          clear ho hp hl hr HA HG HLN hx HLS
          have HA := HB
          have HG := HG2
          have HLN := HL2
          clear HB HG2 HL2
          have HLS := HS2
          clear HS2
          simp only [stC]
          obtain ⟨⟨v0, v1, v2, v3, v4, v5, v6, v7, v8, v9, v10, v11, v12⟩, vf0, vf1, vf2, vf3, vf4, vf5, vf6, vf7, vf8, vf9, vf10, vf11, vf12⟩ := thirt_of (HA.out.at 0 rfl)
          have HB := Lib.hid (Au.puts 0 [.int .i64 x12.kind, .string x12.table, .string x12.join, .slice a0 x12.on.length c0, .slice a1 x12.whr.length c1, .slice a2 x12.items.length c2, .bool x12.star, .slice a3 x12.sets.length c3, .slice a4 x12.groups.length c4, .slice a5 x12.sorts.length c5, .slice a6 x12.limit.length c6, .int .i64 x12.place, .int .i64 x12.joinAt] 0 HA.out rfl)
          simp only [putsA, Nat.reduceAdd, List.setIfInBounds_toArray, List.set_cons_zero, List.set_cons_succ] at HB
          obtain ⟨W13, hW13⟩ : ∃ W, setsL w12 (W1.heap.size) 0 [.int .i64 x12.kind, .string x12.table, .string x12.join, .slice a0 x12.on.length c0, .slice a1 x12.whr.length c1, .slice a2 x12.items.length c2, .bool x12.star, .slice a3 x12.sets.length c3, .slice a4 x12.groups.length c4, .slice a5 x12.sorts.length c5, .slice a6 x12.limit.length c6, .int .i64 x12.place, .int .i64 x12.joinAt] = W := ⟨_, rfl⟩
          rw [hW13] at HB
          simp only [setsL, Nat.reduceAdd] at hW13
          clear HA
          have HA := HB
          clear HB
          obtain ⟨⟨u0, u1, u2, u3, u4, u5, u6, u7, u8, u9, u10, u11, u12⟩, uf0, uf1, uf2, uf3, uf4, uf5, uf6, uf7, uf8, uf9, uf10, uf11, uf12⟩ := thirt_of (HA.out.at 0 rfl)
          have HB := Lib.hid (Au.puts 0 [.int .i64 (p0 : Int)] 11 HA.out rfl)
          simp only [putsA, List.setIfInBounds_toArray, List.set_cons_zero, List.set_cons_succ] at HB
          obtain ⟨W14, hW14⟩ : ∃ W, setsL W13 (W1.heap.size) 11 [.int .i64 (p0 : Int)] = W := ⟨_, rfl⟩
          rw [hW14] at HB
          simp only [setsL] at hW14
          clear HA
          have HA := HB
          clear HB
          obtain ⟨⟨d0, d1, d2, d3, d4, d5, d6, d7, d8, d9, d10, d11, d12⟩, df0, df1, df2, df3, df4, df5, df6, df7, df8, df9, df10, df11, df12⟩ := thirt_of (HA.out.at 0 rfl)
          obtain ⟨⟨r0, r1, r2, r3, r4, r5, r6, r7, r8, r9, r10, r11, r12⟩, rf0, rf1, rf2, rf3, rf4, rf5, rf6, rf7, rf8, rf9, rf10, rf11, rf12⟩ := thirt_of (HA.out.at 1 rfl)
          have HST := Lib.hid HA.out.inv
          clear HST
          have HV := Lib.hid (HG.out _ rfl)
          go_wp2
          clear hW13 hW14
          have HD := Lib.hid (HA.out.fill 1 rfl [.int .i64 x12.kind, .string x12.table, .string x12.join, .slice a0 x12.on.length c0, .slice a1 x12.whr.length c1, .slice a2 x12.items.length c2, .bool x12.star, .slice a3 x12.sets.length c3, .slice a4 x12.groups.length c4, .slice a5 x12.sorts.length c5, .slice a6 x12.limit.length c6, .int .i64 (p0 : Int), .int .i64 x12.joinAt] rfl)
          obtain ⟨W99, hW99⟩ : ∃ W, setsL W14 w.heap.size 0 [.int .i64 x12.kind, .string x12.table, .string x12.join, .slice a0 x12.on.length c0, .slice a1 x12.whr.length c1, .slice a2 x12.items.length c2, .bool x12.star, .slice a3 x12.sets.length c3, .slice a4 x12.groups.length c4, .slice a5 x12.sorts.length c5, .slice a6 x12.limit.length c6, .int .i64 (p0 : Int), .int .i64 x12.joinAt] = W := ⟨_, rfl⟩
          rw [hW99] at HD
          simp only [setsL, Nat.reduceAdd] at hW99
          rw [hW99]
          obtain ⟨⟨y0, y1, y2, y3, y4, y5, y6, y7, y8, y9, y10, y11, y12⟩, -⟩ := thirt_of (HD.out.at 1 rfl)
          clear hW99
          exact bodyPost_ret (v := .agg #[.int .i64 x12.kind, .string x12.table, .string x12.join, .slice a0 x12.on.length c0, .slice a1 x12.whr.length c1, .slice a2 x12.items.length c2, .bool x12.star, .slice a3 x12.sets.length c3, .slice a4 x12.groups.length c4, .slice a5 x12.sorts.length c5, .slice a6 x12.limit.length c6, .int .i64 (p0 : Int), .int .i64 x12.joinAt]) (by simp [results, Tryz.results49, go_sem, y0, y1, y2, y3, y4, y5, y6, y7, y8, y9, y10, y11, y12]) rfl (pp_ok HV.out HD.out.only (show StV _ _ ({ x12 with place := (p0 : Int) } : St) _ from ⟨a0, a1, a2, a3, a4, a5, a6, c0, c1, c2, c3, c4, c5, c6, rfl, ⟨HD.out.inv.out.2.on, HD.out.inv.out.2.whr, HD.out.inv.out.2.items, HD.out.inv.out.2.sets, HD.out.inv.out.2.groups, HD.out.inv.out.2.sorts, HD.out.inv.out.2.limit⟩⟩) HD.out.pa HLN.out)
      | false =>
        rw [show (s).sees (⟨#[68, 69, 76, 69, 84, 69]⟩ : ByteArray).data.toList = false from hS] at hp ⊢
        rw [if_neg (by decide)] at hp
        have HB := Lib.hid (HA.out.call ho hp)
        have HG2 := Lib.hid (then_not hS HG.out)
        have HL2 : Hid ((s).rest.length ≤ s.rest.length) := Nat.le_trans (Nat.le_refl _) HLN.out
        clear hp ho HA HLN HG
        have HA := HB
        have HG := HG2
        clear HG2
        have HLN := HL2
        clear HB HL2 hS
        go_wp2_with fail
        refine (skip_any P (s) ⟨#[83, 69, 76, 69, 67, 84]⟩ _ HA.out.pa).mono ?_
        rintro e w15 ⟨rfl, hp, ho⟩
        cases hS : (s).sees wSELECT with
        | true =>
          rw [show (s).sees (⟨#[83, 69, 76, 69, 67, 84]⟩ : ByteArray).data.toList = true from hS] at hp ⊢
          rw [if_pos rfl] at hp
          have HB := Lib.hid (HA.out.call ho hp)
          have HG2 := Lib.hid (then_yes hS HG.out)
          have HL2 : Hid ((s.next).rest.length ≤ s.rest.length) := Nat.le_trans (tail_le _) HLN.out
          have HS2 : Hid ((s.next).rest.length < s.rest.length) := Nat.lt_of_lt_of_le HA.out.pa.shorter HLN.out
          clear hp ho HA HLN HG
          have HA := HB
          have HG := HG2
          clear HG2
          have HLN := HL2
          clear HB HL2 hS
          have HLS := HS2
          clear HS2
          go_wp2_with fail
          refine (sel_pp P (s.next) _ HA.out.pa).mono ?_
          rintro e w16 ⟨r, hr, ho, hm⟩
          cases r with
          | bad p =>
            have HV := Lib.hid (HG.out _ (thenR_bad hr))
            have HO := Lib.hid (HA.out.only.trans ho)
            rw [hm]
            clear hm hr ho
            go_wp2
            exact ⟨rfl, pp_bad HV.out HO.out⟩
          | ok x16 s16 =>
            obtain ⟨v, rfl, ⟨a0, a1, a2, a3, a4, a5, a6, c0, c1, c2, c3, c4, c5, c6, rfl, hx⟩, hp, hl⟩ := hm
            have HB := Lib.hid (HA.out.gain ho hp (fun W => StO W w.heap.size _ (.slice a0 x16.on.length c0) (.slice a1 x16.whr.length c1) (.slice a2 x16.items.length c2) (.slice a3 x16.sets.length c3) (.slice a4 x16.groups.length c4) (.slice a5 x16.sorts.length c5) (.slice a6 x16.limit.length c6)) fun _ hW => (hx.keep hW).mono HA.out.only.size)
            have HG2 := Lib.hid (fun r k => HG.out r (thenR_ok hr k))
            have HL2 : Hid (s16.rest.length ≤ s.rest.length) := Nat.le_trans hl HLN.out
            have HS2 : Hid (s16.rest.length < s.rest.length) := Nat.lt_of_le_of_lt hl HLS.out
            clear ho hp hl hr HA HG HLN hx HLS
            have HA := HB
            have HG := HG2
            have HLN := HL2
            clear HB HG2 HL2
            have HLS := HS2
            clear HS2
            simp only [stC]
            obtain ⟨⟨v0, v1, v2, v3, v4, v5, v6, v7, v8, v9, v10, v11, v12⟩, vf0, vf1, vf2, vf3, vf4, vf5, vf6, vf7, vf8, vf9, vf10, vf11, vf12⟩ := thirt_of (HA.out.at 0 rfl)
            have HB := Lib.hid (Au.puts 0 [.int .i64 x16.kind, .string x16.table, .string x16.join, .slice a0 x16.on.length c0, .slice a1 x16.whr.length c1, .slice a2 x16.items.length c2, .bool x16.star, .slice a3 x16.sets.length c3, .slice a4 x16.groups.length c4, .slice a5 x16.sorts.length c5, .slice a6 x16.limit.length c6, .int .i64 x16.place, .int .i64 x16.joinAt] 0 HA.out rfl)
            simp only [putsA, Nat.reduceAdd, List.setIfInBounds_toArray, List.set_cons_zero, List.set_cons_succ] at HB
            obtain ⟨W17, hW17⟩ : ∃ W, setsL w16 (W1.heap.size) 0 [.int .i64 x16.kind, .string x16.table, .string x16.join, .slice a0 x16.on.length c0, .slice a1 x16.whr.length c1, .slice a2 x16.items.length c2, .bool x16.star, .slice a3 x16.sets.length c3, .slice a4 x16.groups.length c4, .slice a5 x16.sorts.length c5, .slice a6 x16.limit.length c6, .int .i64 x16.place, .int .i64 x16.joinAt] = W := ⟨_, rfl⟩
            rw [hW17] at HB
            simp only [setsL, Nat.reduceAdd] at hW17
            clear HA
            have HA := HB
            clear HB
            obtain ⟨⟨u0, u1, u2, u3, u4, u5, u6, u7, u8, u9, u10, u11, u12⟩, uf0, uf1, uf2, uf3, uf4, uf5, uf6, uf7, uf8, uf9, uf10, uf11, uf12⟩ := thirt_of (HA.out.at 0 rfl)
            have HB := Lib.hid (Au.puts 0 [.int .i64 (p0 : Int)] 11 HA.out rfl)
            simp only [putsA, List.setIfInBounds_toArray, List.set_cons_zero, List.set_cons_succ] at HB
            obtain ⟨W18, hW18⟩ : ∃ W, setsL W17 (W1.heap.size) 11 [.int .i64 (p0 : Int)] = W := ⟨_, rfl⟩
            rw [hW18] at HB
            simp only [setsL] at hW18
            clear HA
            have HA := HB
            clear HB
            obtain ⟨⟨d0, d1, d2, d3, d4, d5, d6, d7, d8, d9, d10, d11, d12⟩, df0, df1, df2, df3, df4, df5, df6, df7, df8, df9, df10, df11, df12⟩ := thirt_of (HA.out.at 0 rfl)
            obtain ⟨⟨r0, r1, r2, r3, r4, r5, r6, r7, r8, r9, r10, r11, r12⟩, rf0, rf1, rf2, rf3, rf4, rf5, rf6, rf7, rf8, rf9, rf10, rf11, rf12⟩ := thirt_of (HA.out.at 1 rfl)
            have HST := Lib.hid HA.out.inv
            clear HST
            have HV := Lib.hid (HG.out _ rfl)
            go_wp2
            clear hW17 hW18
            have HD := Lib.hid (HA.out.fill 1 rfl [.int .i64 x16.kind, .string x16.table, .string x16.join, .slice a0 x16.on.length c0, .slice a1 x16.whr.length c1, .slice a2 x16.items.length c2, .bool x16.star, .slice a3 x16.sets.length c3, .slice a4 x16.groups.length c4, .slice a5 x16.sorts.length c5, .slice a6 x16.limit.length c6, .int .i64 (p0 : Int), .int .i64 x16.joinAt] rfl)
            obtain ⟨W99, hW99⟩ : ∃ W, setsL W18 w.heap.size 0 [.int .i64 x16.kind, .string x16.table, .string x16.join, .slice a0 x16.on.length c0, .slice a1 x16.whr.length c1, .slice a2 x16.items.length c2, .bool x16.star, .slice a3 x16.sets.length c3, .slice a4 x16.groups.length c4, .slice a5 x16.sorts.length c5, .slice a6 x16.limit.length c6, .int .i64 (p0 : Int), .int .i64 x16.joinAt] = W := ⟨_, rfl⟩
            rw [hW99] at HD
            simp only [setsL, Nat.reduceAdd] at hW99
            rw [hW99]
            obtain ⟨⟨y0, y1, y2, y3, y4, y5, y6, y7, y8, y9, y10, y11, y12⟩, -⟩ := thirt_of (HD.out.at 1 rfl)
            clear hW99
            exact bodyPost_ret (v := .agg #[.int .i64 x16.kind, .string x16.table, .string x16.join, .slice a0 x16.on.length c0, .slice a1 x16.whr.length c1, .slice a2 x16.items.length c2, .bool x16.star, .slice a3 x16.sets.length c3, .slice a4 x16.groups.length c4, .slice a5 x16.sorts.length c5, .slice a6 x16.limit.length c6, .int .i64 (p0 : Int), .int .i64 x16.joinAt]) (by simp [results, Tryz.results49, go_sem, y0, y1, y2, y3, y4, y5, y6, y7, y8, y9, y10, y11, y12]) rfl (pp_ok HV.out HD.out.only (show StV _ _ ({ x16 with place := (p0 : Int) } : St) _ from ⟨a0, a1, a2, a3, a4, a5, a6, c0, c1, c2, c3, c4, c5, c6, rfl, ⟨HD.out.inv.out.2.on, HD.out.inv.out.2.whr, HD.out.inv.out.2.items, HD.out.inv.out.2.sets, HD.out.inv.out.2.groups, HD.out.inv.out.2.sorts, HD.out.inv.out.2.limit⟩⟩) HD.out.pa HLN.out)
        | false =>
          rw [show (s).sees (⟨#[83, 69, 76, 69, 67, 84]⟩ : ByteArray).data.toList = false from hS] at hp ⊢
          rw [if_neg (by decide)] at hp
          have HB := Lib.hid (HA.out.call ho hp)
          have HG2 := Lib.hid (then_not hS HG.out)
          have HL2 : Hid ((s).rest.length ≤ s.rest.length) := Nat.le_trans (Nat.le_refl _) HLN.out
          clear hp ho HA HLN HG
          have HA := HB
          have HG := HG2
          clear HG2
          have HLN := HL2
          clear HB HL2 hS
          go_wp2_with fail
          refine (giveUp_any P (s) _ HA.out.pa).mono ?_
          rintro e w' ⟨rfl, hw⟩
          replace hw := hw.symm
          subst hw
          have HV := Lib.hid (HG.out _ (thenR_bad rfl))
          go_wp2
          exact ⟨rfl, pp_bad HV.out HA.out.only⟩
end Go.Proofs.YtmfplnodafodoaaGreatDoor
