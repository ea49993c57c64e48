/- TreeParts, walked. -/
import Derived.Test.YtlpannicklkghaaB35
import Derived.Test.YtlpannicklkghaaB28
import Derived.Test.YtlpannicklkghaaB30
import Derived.Test.YtlpannicklkghaaM93
import Derived.Test.YtlpannicklkghaaC6
namespace Go.Proofs.Ytlpannicklkghaa
open Go.RowKit

theorem prow_own {w : World} {B : Nat} {v : Value} {l : List It} (h : w.ownsRow B 27 2 v l.length (pc l)) : ∃ p cap, v = .slice p (l.map pr).length cap ∧ PRow w p (l.map pr) ∧ l.length ≤ cap ∧ cap ≤ maxLen := by
  obtain ⟨p, cap, e, hc, hm⟩ := prow_form h
  obtain ⟨p', cap', e', _, hr⟩ := prow_row h
  rw [e] at e'
  simp only [Value.slice.injEq] at e'
  obtain ⟨rfl, _, rfl⟩ := e'
  exact ⟨p, cap, by rw [List.length_map]; exact e, hr, hc, hm⟩
theorem srt_of {l : List Pr} (h : risB l = true) : Srt (l.map itOf) := List.pairwise_map.2 (risB_srt h)
theorem small_of {l : List Pr} (h : ∀ x ∈ l, Sm7 x) : ∀ y ∈ l.map itOf, y.key.size ≤ 281474976710656 ∧ y.val.size ≤ 281474976710656 := fun y hy => by
  obtain ⟨x, hx, rfl⟩ := List.mem_map.1 hy
  have := h x hx
  exact ⟨Nat.le_trans this.1 (by decide), Nat.le_trans this.2 (by decide)⟩
/-- Where the cursor stands behind k of the told. -/
structure PL (w wr : World) (B : Nat) (Z : Nat → Prop) (t c : Nat) (L r0 all : List It) (v : Value) (B5 k : Nat) : Prop where
  cur : ∃ frm, CurAt wr c t frm ∧ L.drop (cntL frm L) = r0.drop k
  tz : TreeZ wr B Z t 4 L
  row : wr.ownsRow B5 27 2 v all.length (pc all)
  bel : Below w.heap.size w wr
theorem nextV_at {l r : List It} {x : It} (h : l = x :: r) : nextV l = .tuple #[.string x.key, .string x.val, .bool true] := by rw [h]; rfl

set_option maxHeartbeats 40000000 in
set_option maxRecDepth 100000 in
theorem parts_law (p : Option Addr) (cap : Nat) (l : List Pr) (frm mid to : ByteArray) (w : World) (row : PRow w p l) (le : l.length ≤ cap) (ml : cap ≤ maxLen) :
    Calls Try.prog 6 #[.agg #[.slice p l.length cap, .string frm, .string mid, .string to]] w fun e w' => e = .returned (.bool true) ∧ Below w.heap.size w w' := by
  obtain ⟨w0, hw0⟩ : ∃ w0, w.alloc (Obj.cells #[.slice p l.length cap, .string frm, .string mid, .string to] 63) = w0 := ⟨_, rfl⟩
  have HB0 : Hid (Below w.heap.size w w0) := by rw [← hw0]; exact (Below.refl _ _).alloc (Nat.le_refl _) _
  have d0 : w0.cell? ⟨w.heap.size, 0, none⟩ = some (.slice p l.length cap) := by rw [← hw0]; simp
  have d1 : w0.cell? ⟨w.heap.size, 1, none⟩ = some (.string frm) := by rw [← hw0]; simp
  have d2 : w0.cell? ⟨w.heap.size, 2, none⟩ = some (.string mid) := by rw [← hw0]; simp
  have d3 : w0.cell? ⟨w.heap.size, 3, none⟩ = some (.string to) := by rw [← hw0]; simp
  have HW := weighs7_any w0 p none cap 0 l [] (by simp; unfold maxLen at ml; omega) (row.later HB0.out) (fun i hi => absurd hi (by simp))
  have HR : Hid (PRow w p l) := row
  clear row le ml
  go_enter Try.func6, Try.ntmps6
  go_wp2_with fail
  clear hw0 d0 d1 d2 d3
  refine HW.mono ?_
  rintro e w1 ⟨m, rfl, hm, hb1⟩
  have HB1 : Hid (Below w.heap.size w w1) := below_two HB0.out hb1
  clear hb1 HW
  by_cases hbig : ¬ m ≤ 536870911
  · have hbi : (536870911 : Int) < (m : Int) := by omega
    go_wp2
    go_ret
    exact ⟨rfl, HB1.out⟩
  have hbi : ¬ (536870911 : Int) < (m : Int) := by omega
  obtain ⟨hlen, hsm, _⟩ := hm (by omega)
  have hll : l.length ≤ 536870911 := by simp at hlen; omega
  have HS : Hid (∀ x ∈ l, Sm7 x) := fun x hx => hsm x hx
  clear hlen hsm hm
  by_cases hf1 : (2147483647 : Int) < (frm.size : Int)
  · go_wp2
    go_ret
    exact ⟨rfl, HB1.out⟩
  by_cases hf2 : (2147483647 : Int) < (mid.size : Int)
  · go_wp2
    go_ret
    exact ⟨rfl, HB1.out⟩
  by_cases hf3 : (2147483647 : Int) < (to.size : Int)
  · go_wp2
    go_ret
    exact ⟨rfl, HB1.out⟩
  go_wp2_with fail
  refine (awake7_any w1).mono ?_
  rintro e w2 ⟨rfl, hb2⟩
  have HB2 : Hid (Below w.heap.size w w2) := below_two HB1.out hb2
  clear hb2
  cases hris : risB l with
  | false =>
    have HN : Calls Try.prog 11 #[.int .i64 4, .slice p l.length cap] w2 fun e w' => e = .returned (.tuple #[.pointer none, .int .i64 71]) ∧ Below w2.heap.size w2 w' := new_flat w2 4 p cap l (by omega) (by omega) (HR.out.later HB2.out) (by omega) hris
    go_wp2_with fail
    refine HN.mono ?_
    rintro e w3 ⟨rfl, hb3⟩
    have HB3 : Hid (Below w.heap.size w w3) := below_two HB2.out hb3
    have HRN : Calls Try.prog 12 #[.int .i64 4, .slice p l.length cap] w3 (RNewP w3 4 l) := rnew_any w3 4 p cap l (by omega) (by omega) (HR.out.later HB3.out) (by omega)
    clear hb3
    go_wp2_with fail
    refine HRN.mono ?_
    rintro e w4 ⟨hb4, he, _⟩
    obtain rfl := he hris
    go_wp2
    go_ret
    exact ⟨rfl, below_two HB3.out hb4⟩
  | true =>
    have HN : Calls Try.prog 11 #[.int .i64 4, .slice p l.length cap] w2 fun e w' => Below w2.heap.size w2 w' ∧ ∃ t, e = .returned (.tuple #[.pointer (some ⟨t, 0, none⟩), .int .i64 0]) ∧ w2.heap.size ≤ t ∧ TreeZ w' w2.heap.size (fun k => w2.heap.size ≤ k ∧ k < w'.heap.size) t 4 (l.map itOf) := new_z w2 4 p cap l (by omega) (by omega) (HR.out.later HB2.out) (by omega) (fun x hx => by have := HS.out x hx; exact ⟨Nat.le_trans this.1 (by decide), Nat.le_trans this.2 (by decide)⟩) hris
    obtain ⟨L, hL⟩ : ∃ L, l.map itOf = L := ⟨_, rfl⟩
    have HSL : Hid (Srt L) := by rw [← hL]; exact srt_of hris
    have HSZ : Hid (∀ y ∈ L, y.key.size ≤ 281474976710656 ∧ y.val.size ≤ 281474976710656) := by rw [← hL]; exact small_of HS.out
    have HLL : Hid (L.length = l.length) := by rw [← hL]; exact List.length_map _
    rw [hL] at HN
    clear hL
    go_wp2_with fail
    refine HN.mono ?_
    rintro e w3 ⟨hb3, t, rfl, ht, htz⟩
    have HB3 : Hid (Below w.heap.size w w3) := below_two HB2.out hb3
    have HRN : Calls Try.prog 12 #[.int .i64 4, .slice p l.length cap] w3 (RNewP w3 4 l) := rnew_any w3 4 p cap l (by omega) (by omega) (HR.out.later HB3.out) (by omega)
    obtain ⟨Z, hZ⟩ : ∃ Z, (fun k => w2.heap.size ≤ k ∧ k < w3.heap.size) = Z := ⟨_, rfl⟩
    rw [hZ] at htz
    have HT3 : Hid (TreeZ w3 w2.heap.size Z t 4 L) := htz
    clear hb3 htz hZ ht HN
    go_wp2_with fail
    refine HRN.mono ?_
    rintro e w4 ⟨hb4, _, he⟩
    obtain ⟨r, vr, rfl, _⟩ := he hris
    have HB4 : Hid (Below w.heap.size w w4) := below_two HB3.out hb4
    have HT4 : Hid (TreeZ w4 w2.heap.size Z t 4 L) := HT3.out.later hb4
    clear hb4 he HRN
    obtain ⟨all, hall⟩ : ∃ all, listL frm to (l.length : Int) L = all := ⟨_, rfl⟩
    obtain ⟨r0, hr0⟩ : ∃ r0, L.drop (cntL frm L) = r0 := ⟨_, rfl⟩
    have HLA := list_z w4 _ Z t 4 frm to (l.length : Int) L HT4.out (by omega) (by omega) (by rw [HLL.out]; omega) HSZ.out
    rw [hall] at HLA
    have HAL : Hid (all = r0.takeWhile fun y => untilB to y.key) := by
      rw [← hall, ← hr0]
      unfold listL tellL
      exact take_enough (by rw [List.length_drop]; have := HLL.out; omega)
    have HALL : Hid (listL frm to (l.length : Int) L = all) := hall
    have HR0 : Hid (L.drop (cntL frm L) = r0) := hr0
    have hal : all.length ≤ 536870911 := by rw [← hall]; have := listL_length (frm := frm) (to := to) (m := (l.length : Int)) (L := L); have := HLL.out; omega
    clear hall hr0 hris
    go_wp2_with fail
    refine HLA.mono ?_
    rintro e w5 ⟨hb5, v5, rfl, hrow5⟩
    have HB5 : Hid (Below w.heap.size w w5) := below_two HB4.out hb5
    have HT5 : Hid (TreeZ w5 w2.heap.size Z t 4 L) := HT4.out.later hb5
    have HW5 : Hid (w5.ownsRow w4.heap.size 27 2 v5 all.length (pc all)) := hrow5
    clear hb5 hrow5 HLA
    go_wp2_with fail
    refine (seek_any w5 t frm (by omega)).mono ?_
    rintro e w6 ⟨hb6, c, rfl, hc, hcur⟩
    have HCZ : Hid (w5.heap.size ≤ c ∧ (∀ k, Z k → k ≠ c) ∧ (∀ k, v5.ownBlock = some k → k ≠ c) ∧ w.heap.size ≤ c) := ⟨hc, fun k hk => by have := (HT5.out.lo k hk).2; omega, fun k hk => by have := (HW5.out.lt k hk).2; omega, by have := HB5.out.size; omega⟩
    have HP6 : Hid (PL w w6 w2.heap.size Z t c L r0 all v5 w4.heap.size 0) := ⟨⟨frm, hcur, by rw [List.drop_zero]; exact HR0.out⟩, HT5.out.later hb6, own_kept HW5.out fun k hk => hb6.block k (HW5.out.lt k hk).2, below_two HB5.out hb6⟩
    obtain ⟨p5, c5, e5, hcap5, _⟩ := prow_form HW5.out
    subst e5
    clear hb6 hcur hc
    go_wp2_with fail
    go_loopw [15] (fun i wr => ∃ k : Nat, k ≤ all.length ∧ i = .int .i64 (k : Int) ∧ PL w wr w2.heap.size Z t c L r0 all (.slice p5 all.length c5) w4.heap.size k) (fun i _ => all.length - (intOf i).toNat)
    case atStart => exact ⟨0, Nat.zero_le _, rfl, HP6.out⟩
    case round =>
      obtain ⟨k, hk, rfl, hpl⟩ := hrel
      have HPL : Hid (PL w wr w2.heap.size Z t c L r0 all (.slice p5 all.length c5) w4.heap.size k) := hpl
      clear hpl HP6
      obtain ⟨fk, hck, hdk⟩ := HPL.out.cur
      have HCK : Hid (CurAt wr c t fk ∧ L.drop (cntL fk L) = r0.drop k) := ⟨hck, hdk⟩
      have HNX := next_z wr _ Z c t 4 fk L hck HPL.out.tz (by omega) (by omega) (by rw [HLL.out]; omega) HSZ.out
      rw [hdk] at HNX
      clear hck hdk
      have HKP : Hid (∀ w', Only (fun k => k = c) wr w' → TreeZ w' w2.heap.size Z t 4 L ∧ w'.ownsRow w4.heap.size 27 2 (.slice p5 all.length c5) all.length (pc all) ∧ Below w.heap.size w w') := fun w' ho => ⟨HPL.out.tz.kept ho fun k hk e => HCZ.out.2.1 k hk e, own_kept HPL.out.row fun k hk => ho.block k (HPL.out.row.lt k hk).2 fun e => HCZ.out.2.2.1 k hk e, HPL.out.bel.trans (ho.below HPL.out.bel.size fun k hk e => by have := HCZ.out.2.2.2; omega)⟩
      by_cases hlt : k < all.length
      · have hlti : (k : Int) < (all.length : Int) := by omega
        obtain ⟨x, hx⟩ : ∃ x, all[k] = x := ⟨_, rfl⟩
        obtain ⟨r', hr'⟩ : ∃ r', r0.drop k = x :: r' := by
          have h1 := HAL.out
          obtain ⟨r', e⟩ := tell_at (to := to) (r := r0) (k := k) (by rw [← h1]; exact hlt)
          refine ⟨r', ?_⟩
          rw [e, ← hx]
          congr 1
          simp only [h1]
        have HRX : Hid (r0.drop k = x :: r') := hr'
        rw [hr'] at HNX
        have HN2 : Hid (Calls Try.prog 25 #[.pointer (some ⟨c, 0, none⟩)] wr fun e w' => Only (fun k => k = c) wr w' ∧ e = .returned (.tuple #[.string x.key, .string x.val, .bool true]) ∧ CurAt w' c t (nextK x.key)) := HNX
        have HX : Hid (∀ h : k < all.length, all[k]'h = x) := fun _ => hx
        clear HNX hr' hx
        go_wp2_with fail
        refine HN2.out.mono ?_
        rintro e w7 ⟨ho7, rfl, hcur7⟩
        obtain ⟨htz7, hrow7, hbel7⟩ := HKP.out w7 ho7
        have HP7 : Hid (PL w w7 w2.heap.size Z t c L r0 all (.slice p5 all.length c5) w4.heap.size (k + 1)) := by
          refine ⟨⟨_, hcur7, ?_⟩, htz7, hrow7, hbel7⟩
          have h1 := HCK.out.2
          rw [HRX.out] at h1
          rw [next_drop HSL.out h1]
          have h2 := congrArg List.tail HRX.out
          rw [List.tail_drop] at h2
          exact h2.symm
        obtain ⟨g, gc, eg, _, _, _, hcc, _⟩ := prow_at hrow7 (by omega)
        simp only [Value.slice.injEq] at eg
        obtain ⟨rfl, _, rfl⟩ := eg
        obtain ⟨d0, d1⟩ := hcc k hlt
        rw [HX.out hlt] at d0 d1
        clear hcc htz7 hrow7 hbel7 ho7 hcur7
        go_wp2
        exact ⟨⟨k + 1, hlt, by go_num, HP7.out⟩, by simp only [intOf]; omega⟩
      · have hlti : ¬ (k : Int) < (all.length : Int) := by omega
        obtain rfl : k = all.length := by omega
        have HN2 : Hid (Calls Try.prog 25 #[.pointer (some ⟨c, 0, none⟩)] wr fun e w' => Only (fun k => k = c) wr w' ∧ e = .returned (nextV (r0.drop all.length)) ∧ CurAt w' c t (nextF fk (r0.drop all.length))) := HNX
        clear HNX
        go_wp2_with fail
        refine HN2.out.mono ?_
        rintro e w7 ⟨ho7, rfl, _⟩
        obtain ⟨htz7, hrow7, hbel7⟩ := HKP.out w7 ho7
        have HT7 : Hid (TreeZ w7 w2.heap.size Z t 4 L) := htz7
        have HW7 : Hid (w7.ownsRow w4.heap.size 27 2 (.slice p5 all.length c5) all.length (pc all)) := hrow7
        have HB7 : Hid (Below w.heap.size w w7) := hbel7
        clear htz7 hrow7 hbel7 ho7 HN2
        obtain ⟨xk, xv, xb, hxx, hxn⟩ : ∃ (xk xv : ByteArray) (xb : Bool), nextV (r0.drop all.length) = .tuple #[.string xk, .string xv, .bool xb] ∧ (xb = false ∨ (xb = true ∧ to.toList.isEmpty = false ∧ Op.bytesLess xk.toList to.toList = false)) := by
          cases hrd : r0.drop all.length with
          | nil => exact ⟨_, _, false, rfl, Or.inl rfl⟩
          | cons x r' =>
            refine ⟨x.key, x.val, true, rfl, Or.inr ⟨rfl, ?_⟩⟩
            have h1 := tell_end (to := to) x r' (by rw [← HAL.out]; exact hrd)
            unfold untilB at h1
            rw [Bool.or_eq_false_iff] at h1
            exact h1
        rw [hxx]
        clear hxx
        have HFIN : Hid (kl mid frm = false → mid.toList.isEmpty = false → (to.toList.isEmpty = true ∨ kl to mid = false) → listL frm mid (l.length : Int) L ++ listL mid to (l.length : Int) L = all) := fun h1 h2 h3 => by
          rw [list_parts HSL.out (by have := HLL.out; omega) h1 h2 h3]
          exact HALL.out
        have hcs : (Op.bytesLess mid.toList frm.toList = true) ∨ (mid.toList = [] ∧ Op.bytesLess [] frm.toList = false) ∨ (Op.bytesLess mid.toList frm.toList = false ∧ mid.toList.isEmpty = false ∧ ¬ mid.toList = [] ∧ to.toList.isEmpty = false ∧ ¬ to.toList = [] ∧ Op.bytesLess mid.toList to.toList = false ∧ (mid.toList == to.toList) = false) ∨ (Op.bytesLess mid.toList frm.toList = false ∧ mid.toList.isEmpty = false ∧ ¬ mid.toList = [] ∧ to.toList.isEmpty = true ∧ to.toList = []) ∨ (Op.bytesLess mid.toList frm.toList = false ∧ mid.toList.isEmpty = false ∧ ¬ mid.toList = [] ∧ to.toList.isEmpty = false ∧ ¬ to.toList = [] ∧ Op.bytesLess mid.toList to.toList = true) ∨ (Op.bytesLess mid.toList frm.toList = false ∧ mid.toList.isEmpty = false ∧ ¬ mid.toList = [] ∧ to.toList.isEmpty = false ∧ ¬ to.toList = [] ∧ Op.bytesLess mid.toList to.toList = false ∧ (mid.toList == to.toList) = true) := by
          cases h0 : Op.bytesLess mid.toList frm.toList with
          | true => exact Or.inl rfl
          | false =>
            cases h1 : mid.toList with
            | nil => rw [h1] at h0; exact Or.inr (Or.inl ⟨rfl, h0⟩)
            | cons a1 rr1 =>
              cases to.toList with
              | nil => exact Or.inr (Or.inr (Or.inr (Or.inl ⟨rfl, rfl, by simp, rfl, rfl⟩)))
              | cons a2 rr2 =>
                cases Op.bytesLess (a1 :: rr1) (a2 :: rr2) with
                | true => exact Or.inr (Or.inr (Or.inr (Or.inr (Or.inl ⟨rfl, rfl, by simp, rfl, by simp, rfl⟩))))
                | false =>
                  cases (a1 :: rr1) == (a2 :: rr2) with
                  | true => exact Or.inr (Or.inr (Or.inr (Or.inr (Or.inr ⟨rfl, rfl, by simp, rfl, by simp, rfl, rfl⟩))))
                  | false => exact Or.inr (Or.inr (Or.inl ⟨rfl, rfl, by simp, rfl, by simp, rfl, rfl⟩))
        have HXN : Hid (xb = false ∨ (xb = true ∧ to.toList.isEmpty = false ∧ Op.bytesLess xk.toList to.toList = false)) := hxn
        clear hxn
        rcases hcs with hmf | ⟨hme2, hmf⟩ | ⟨hmf, hme, hme2, hte, hte2, htm, htm2⟩ | hcs
        · rcases HXN.out with rfl | ⟨rfl, h1, h2⟩
          · go_wp2
            go_ret
            exact ⟨rfl, HB7.out⟩
          · have h3 : ¬ to.toList = [] := fun e => by rw [e] at h1; cases h1
            go_wp2
            go_ret
            exact ⟨rfl, HB7.out⟩
        · rcases HXN.out with rfl | ⟨rfl, h1, h2⟩
          · go_wp2
            go_ret
            exact ⟨rfl, HB7.out⟩
          · have h3 : ¬ to.toList = [] := fun e => by rw [e] at h1; cases h1
            go_wp2
            go_ret
            exact ⟨rfl, HB7.out⟩
        · rcases HXN.out with rfl | ⟨rfl, h1, h2⟩
          · go_wp2
            go_ret
            exact ⟨rfl, HB7.out⟩
          · go_wp2
            go_ret
            exact ⟨rfl, HB7.out⟩
        · have HAB : Hid (listL frm mid (l.length : Int) L ++ listL mid to (l.length : Int) L = all) := by
            rcases hcs with ⟨h1, h2, _, h4, _⟩ | ⟨h1, h2, _, _, _, h6⟩ | ⟨h1, h2, _, _, _, _, h7⟩
            · exact HFIN.out h1 h2 (Or.inl h4)
            · exact HFIN.out h1 h2 (Or.inr (kl_asymm h6))
            · refine HFIN.out h1 h2 (Or.inr ?_)
              rw [beq_iff_eq] at h7
              unfold kl
              rw [h7]
              exact kl_irrefl to
          obtain ⟨la, hla⟩ : ∃ la, listL frm mid (l.length : Int) L = la := ⟨_, rfl⟩
          obtain ⟨lb, hlb⟩ : ∃ lb, listL mid to (l.length : Int) L = lb := ⟨_, rfl⟩
          have hlal : la.length + lb.length = all.length := by have := congrArg List.length HAB.out; rw [hla, hlb, List.length_append] at this; exact this
          have HL1 := list_z w7 _ Z t 4 frm mid (l.length : Int) L HT7.out (by omega) (by omega) (by rw [HLL.out]; omega) HSZ.out
          rw [hla] at HL1
          have HL2 : Hid (∀ w8, Below w7.heap.size w7 w8 → Calls Try.prog 23 #[.pointer (some ⟨t, 0, none⟩), .string mid, .string to, .int .i64 (l.length : Int)] w8 fun e w' => Below w8.heap.size w8 w' ∧ ∃ v, e = .returned v ∧ w'.ownsRow w8.heap.size 27 2 v lb.length (pc lb)) := fun w8 hb => by
            have := list_z w8 _ Z t 4 mid to (l.length : Int) L (HT7.out.later hb) (by omega) (by omega) (by rw [HLL.out]; omega) HSZ.out
            rw [hlb] at this
            exact this
          have HAB2 : Hid (la ++ lb = all) := by rw [← hla, ← hlb]; exact HAB.out
          obtain ⟨i0, hif, hz0, hz1, hz2⟩ := info_parts Try.infoPair
          clear hla hlb HAB HFIN HAL HALL HR0 HPL HCK HKP HCZ
          rcases hcs with ⟨hmf, hme, hme2, hte, hte2⟩ | ⟨hmf, hme, hme2, hte, hte2, htm⟩ | ⟨hmf, hme, hme2, hte, hte2, htm, htm2⟩
          all_goals
            rcases HXN.out with rfl | ⟨rfl, h1, h2⟩
            all_goals try (exfalso; rw [hte] at h1; cases h1; done)
            all_goals
              go_wp2_with fail
              refine HL1.mono ?_
              rintro e w8 ⟨hb8, v8, rfl, hrow8⟩
              have HB8 : Hid (Below w.heap.size w w8) := below_two HB7.out hb8
              have HW8 : Hid (w8.ownsRow w7.heap.size 27 2 v8 la.length (pc la)) := hrow8
              have HA8 : Hid (w8.ownsRow w4.heap.size 27 2 (.slice p5 all.length c5) all.length (pc all) ∧ ∀ k, (Value.slice p5 all.length c5).ownBlock = some k → k < w7.heap.size) := ⟨own_kept HW7.out fun k hk => hb8.block k (HW7.out.lt k hk).2, fun k hk => (HW7.out.lt k hk).2⟩
              have HLB := HL2.out w8 hb8
              have HS78 : Hid (w7.heap.size ≤ w8.heap.size) := hb8.size
              clear hb8 hrow8 HL1
              go_wp2_with fail
              refine HLB.mono ?_
              rintro e w9 ⟨hb9, v9, rfl, hrow9⟩
              have HB9 : Hid (Below w.heap.size w w9) := below_two HB8.out hb9
              have HW9 : Hid (w9.ownsRow w7.heap.size 27 2 v8 la.length (pc la)) := own_kept HW8.out fun k hk => hb9.block k (HW8.out.lt k hk).2
              have HA9 : Hid (w9.ownsRow w4.heap.size 27 2 (.slice p5 all.length c5) all.length (pc all)) := own_kept HA8.out.1 fun k hk => hb9.block k (HA8.out.1.lt k hk).2
              obtain ⟨p9, c9, e9, hr9, _, _⟩ := prow_own hrow9
              rw [List.length_map] at e9
              subst e9
              have HN9 : Hid (0 < (pc lb).length → ∃ ad, p9 = some ad ∧ ∀ j u, (pc lb)[j]? = some u → w9.cell? (ad.add j) = some u) := by
                intro h0
                rw [pc_length] at h0
                obtain ⟨g, gc, eg, _, _, _, _, _⟩ := prow_at hrow9 (by omega)
                simp only [Value.slice.injEq] at eg
                obtain ⟨rfl, _, _⟩ := eg
                refine ⟨_, rfl, fun j u hj => ?_⟩
                exact hrow9.cells (g := g) rfl j u hj
              have HS9 : Hid (w7.heap.size ≤ w9.heap.size) := Nat.le_trans HS78.out hb9.size
              have hs9 := HS9.out
              have hlbl : lb.length ≤ 536870911 := by omega
              have hlla : la.length ≤ 536870911 := by omega
              clear hb9 hrow9 hr9 HLB
              go_wp2_with (first | (at_builtin; refine wpList_append_whole _ rfl _ _ 22 rfl w7.heap.size 27 i0 _ 2 32 Try.underlying22 hif hz0 hz1 hz2 rfl (by decide) _ _ _ rfl HW9.out p9 lb.length c9 (pc lb) rfl (pc_length lb) HN9.out (pc_one lb) (by unfold maxLen; omega) (by omega) hs9 ?_; intro va wa howna hgrowa))
              have HBa : Hid (Below w.heap.size w wa) := HB9.out.grown hgrowa HB9.out.size fun k hk => by have := (HW9.out.lt k hk).1; have := HB7.out.size; omega
              have hrowa : wa.ownsRow w7.heap.size 27 2 va all.length (pc all) := by
                rw [← HAB2.out, List.length_append, pc_append]
                exact howna
              have HAa : wa.ownsRow w4.heap.size 27 2 (.slice p5 all.length c5) all.length (pc all) := own_kept HA9.out fun k hk => hgrowa.block k (HA9.out.lt k hk).2 fun e => by
                have h1 := (HW9.out.lt k e.symm).1
                have h2 := HA8.out.2 k hk
                omega
              obtain ⟨pa, ca, ea, hra, _, _⟩ := prow_own hrowa
              obtain ⟨pb, cb, eb, hrb, _, _⟩ := prow_own HAa
              simp only [Value.slice.injEq] at eb
              obtain ⟨rfl, hlb2, rfl⟩ := eb
              subst ea
              rw [hlb2]
              have HX := same7_any wa pa p5 ca c5 (all.map pr) (all.map pr) (by rw [List.length_map]; omega) (by rw [List.length_map]; omega) hra hrb
              rw [(sameB_iff _ _).2 rfl] at HX
              have HX2 : Hid (Calls Try.prog 13 #[.slice pa (all.map pr).length ca, .slice p5 (all.map pr).length c5] wa fun e w' => e = .returned (.bool true) ∧ Below wa.heap.size wa w') := HX
              clear HX hra hrb hrowa HAa howna hgrowa
              refine HX2.out.mono ?_
              rintro e wb ⟨rfl, hbb⟩
              dsimp only
              go_wp2
              go_ret
              exact ⟨rfl, below_two HBa.out hbb⟩
end Go.Proofs.Ytlpannicklkghaa
