/- TreeShapes, walked. -/
import Derived.Test.YtlpannicklkghaaB47
import Derived.Test.YtlpannicklkghaaB28
namespace Go.Proofs.Ytlpannicklkghaa
open Go.RowKit

set_option maxHeartbeats 40000000 in
set_option maxRecDepth 100000 in
theorem shapes_law (o : Int) (p : Option Addr) (cap : Nat) (l : List Int) (w : World) (row : IRow w p l) (le : l.length ≤ cap) (ml : cap ≤ maxLen) :
    Calls Try.prog 4 #[.int .i64 o, .slice p l.length cap] w fun e w' => e = .returned (.bool true) ∧ Below w.heap.size w w' := by
  have HR : Hid (IRow w p l) := row
  have hl63 : l.length ≤ 9223372036854775807 := by unfold maxLen at ml; omega
  clear row le ml
  go_enter Try.func4, Try.ntmps4
  by_cases hbig : (268435455 : Int) < (l.length : Int)
  · go_wp2
    go_ret
    exact ⟨rfl, Below.refl _ _⟩
  have hll : l.length ≤ 268435455 := by omega
  go_wp2_with fail
  refine (awake7_any w).mono ?_
  rintro e w1 ⟨rfl, hb1⟩
  have HB1 : Hid (Below w.heap.size w w1) := hb1
  clear hb1
  by_cases ho1 : o < 4
  · go_wp2_with fail
    refine (new_bad w1 o _ (Or.inl ho1)).mono ?_
    rintro e w2 ⟨rfl, hw2⟩
    subst hw2
    go_wp2
    go_ret
    exact ⟨rfl, HB1.out⟩
  by_cases ho2 : 64 < o
  · go_wp2_with fail
    refine (new_bad w1 o _ (Or.inr ho2)).mono ?_
    rintro e w2 ⟨rfl, hw2⟩
    subst hw2
    go_wp2
    go_ret
    exact ⟨rfl, HB1.out⟩
  obtain ⟨m, rfl⟩ : ∃ n : Nat, o = (n : Int) := ⟨o.toNat, by omega⟩
  go_wp2_with fail
  refine (newnil_z w1 m (by omega) (by omega)).mono ?_
  rintro e w2 ⟨hb2, t, rfl, ht, htz⟩
  have HB2 : Hid (Below w.heap.size w w2) := below_two HB1.out hb2
  have HS1 : Hid (w.heap.size ≤ w1.heap.size) := HB1.out.size
  have HTZ : Hid (∃ Z, TreeZ w2 w1.heap.size Z t m []) := ⟨_, htz⟩
  clear hb2 ht htz
  go_wp2_with fail
  go_loopw [8, 9] (fun z i wr => ∃ (k : Nat) (Z : Nat → Prop) (a : List It), k ≤ l.length ∧ i = .int .i64 (k : Int) ∧ z = .int .i64 (a.length : Int) ∧ a.length ≤ k ∧ TreeZ wr w1.heap.size Z t m a ∧ Below w.heap.size w wr) (fun _ i _ => l.length - (intOf i).toNat)
  case atStart =>
    obtain ⟨Z, hz⟩ := HTZ.out
    exact ⟨0, Z, [], Nat.zero_le _, rfl, rfl, Nat.le_refl _, hz, HB2.out⟩
  case round =>
    obtain ⟨k, Z, a, hk, rfl, rfl, hak, htz, hb⟩ := hrel
    have HB : Hid (Below w.heap.size w wr) := hb
    have HT : Hid (TreeZ wr w1.heap.size Z t m a) := htz
    clear hb htz HTZ HB2 HB1
    by_cases hlt : k < l.length
    · have hlti : (k : Int) < (l.length : Int) := by omega
      obtain ⟨b, off, rfl, c0⟩ := (HR.out.later HB.out) k hlt
      obtain ⟨x, hx⟩ : ∃ x, l[k] = x := ⟨_, rfl⟩
      rw [hx] at c0
      clear hx
      obtain ⟨s, hs2, hcv⟩ := two_bytes7 wr (x / 256 % 256) (x % 256) (by omega) (by omega)
      have HSS : Hid (s.size = 2) := hs2
      have HBA : Hid (Below wr.heap.size wr (wr.alloc (Obj.cells #[.int .u8 (x / 256 % 256), .int .u8 (x % 256)] 5))) := (Below.refl _ _).alloc (Nat.le_refl _) _
      clear hs2
      have hbs := HB.out.size
      have HTA : Hid (TreeZ (wr.alloc (Obj.cells #[.int .u8 (x / 256 % 256), .int .u8 (x % 256)] 5)) w1.heap.size Z t m a ∧ Below w.heap.size w (wr.alloc (Obj.cells #[.int .u8 (x / 256 % 256), .int .u8 (x % 256)] 5))) := ⟨HT.out.later HBA.out, below_two HB.out HBA.out⟩
      by_cases hneg : x < 0
      · go_wp2_with fail
        have HDE := del_z _ _ Z t m s a HTA.out.1 (by omega) (by omega) (by omega)
        have hdl := delL_length (key := s) (l := a)
        obtain ⟨a5, ha5q⟩ : ∃ a5, delL s a = a5 := ⟨_, rfl⟩
        obtain ⟨f, hf⟩ : ∃ f, foundL s a = f := ⟨_, rfl⟩
        rw [ha5q, hf] at HDE hdl
        refine HDE.mono ?_
        rintro e w5 ⟨rfl, ho5, Z5, htz5, hz5⟩
        have hb5 : Below w.heap.size w w5 := HTA.out.2.trans (HTA.out.1.below ho5 HS1.out)
        clear HDE ho5 hz5 ha5q hf HBA HTA hcv
        cases f with
        | true =>
          have hla : (a.length : Int) - 1 = (a5.length : Int) := by simp at hdl; omega
          have ha5 : a5.length ≤ k + 1 := by simp at hdl; omega
          clear hdl
          have HB5 : Hid (Below w.heap.size w w5) := hb5
          have HT5 : Hid (TreeZ w5 w1.heap.size Z5 t m a5 ∧ a5.length ≤ k + 1) := ⟨htz5, ha5⟩
          have ha5b : a5.length ≤ 268435455 := by omega
          clear hb5 htz5
          go_wp2_with fail
          refine (levels_z w5 _ Z5 t m a5 HT5.out.1 (by omega) (by omega) (by omega)).mono ?_
          rintro e w6 ⟨v6, vs6, ws6, rfl, hlv, hsh, _, hw64, hwl⟩
          have HB6 : Hid (Below w.heap.size w w6) := below_two HB5.out hlv.bel
          have HT6 : Hid (TreeZ w6 w1.heap.size Z5 t m a5) := HT5.out.1.later hlv.bel
          have HSH := shaped_true w6 v6 ws6 m a5.length (hlv.read hsh.ne) hsh (by omega) (by omega) hw64 hwl
          clear hlv hsh hw64 hwl
          go_wp2_with fail
          refine (len_z w6 _ Z5 t m a5 HT6.out).mono ?_
          rintro e w7 ⟨rfl, hw7⟩
          subst hw7
          go_wp2_with fail
          refine HSH.mono ?_
          rintro e w8 ⟨rfl, hw8⟩
          subst hw8
          go_wp2
          first | exact ⟨⟨k + 1, Z5, a5, hlt, by go_num, rfl, HT5.out.2, HT6.out, HB6.out⟩, by simp only [intOf]; omega⟩ | (go_roundw; all_goals first | exact ⟨k + 1, Z5, a5, hlt, by go_num, rfl, HT5.out.2, HT6.out, HB6.out⟩ | (simp [intOf]; omega))
        | false =>
          have hla : (a.length : Int) = (a5.length : Int) := by simp at hdl; omega
          have hla2 : a.length = a5.length := by omega
          have ha5 : a5.length ≤ k + 1 := by omega
          rw [hla]
          clear hdl hla hla2
          have HB5 : Hid (Below w.heap.size w w5) := hb5
          have HT5 : Hid (TreeZ w5 w1.heap.size Z5 t m a5 ∧ a5.length ≤ k + 1) := ⟨htz5, ha5⟩
          have ha5b : a5.length ≤ 268435455 := by omega
          clear hb5 htz5
          go_wp2_with fail
          refine (levels_z w5 _ Z5 t m a5 HT5.out.1 (by omega) (by omega) (by omega)).mono ?_
          rintro e w6 ⟨v6, vs6, ws6, rfl, hlv, hsh, _, hw64, hwl⟩
          have HB6 : Hid (Below w.heap.size w w6) := below_two HB5.out hlv.bel
          have HT6 : Hid (TreeZ w6 w1.heap.size Z5 t m a5) := HT5.out.1.later hlv.bel
          have HSH := shaped_true w6 v6 ws6 m a5.length (hlv.read hsh.ne) hsh (by omega) (by omega) hw64 hwl
          clear hlv hsh hw64 hwl
          go_wp2_with fail
          refine (len_z w6 _ Z5 t m a5 HT6.out).mono ?_
          rintro e w7 ⟨rfl, hw7⟩
          subst hw7
          go_wp2_with fail
          refine HSH.mono ?_
          rintro e w8 ⟨rfl, hw8⟩
          subst hw8
          go_wp2
          first | exact ⟨⟨k + 1, Z5, a5, hlt, by go_num, rfl, HT5.out.2, HT6.out, HB6.out⟩, by simp only [intOf]; omega⟩ | (go_roundw; all_goals first | exact ⟨k + 1, Z5, a5, hlt, by go_num, rfl, HT5.out.2, HT6.out, HB6.out⟩ | (simp [intOf]; omega))
      · go_wp2_with fail
        have HPU := put_z _ _ Z t m s ⟨#[]⟩ a HTA.out.1 (by omega) (by omega) (by omega) (by have := HSS.out; omega) (by decide)
        have hpl := putL_len (key := s) (val := ⟨#[]⟩) (l := a)
        obtain ⟨a5, ha5q⟩ : ∃ a5, putL s ⟨#[]⟩ a = a5 := ⟨_, rfl⟩
        obtain ⟨f, hf⟩ : ∃ f, foundL s a = f := ⟨_, rfl⟩
        rw [ha5q, hf] at HPU hpl
        refine HPU.mono ?_
        rintro e w5 ⟨rfl, ho5, Z5, htz5, hz5⟩
        have hb5 : Below w.heap.size w w5 := HTA.out.2.trans (HTA.out.1.below ho5 HS1.out)
        clear HPU ho5 hz5 ha5q hf HBA HTA hcv
        cases f with
        | false =>
          have hla : (a.length : Int) + 1 = (a5.length : Int) := by simp at hpl; omega
          have ha5 : a5.length ≤ k + 1 := by simp at hpl; omega
          clear hpl
          have HB5 : Hid (Below w.heap.size w w5) := hb5
          have HT5 : Hid (TreeZ w5 w1.heap.size Z5 t m a5 ∧ a5.length ≤ k + 1) := ⟨htz5, ha5⟩
          have ha5b : a5.length ≤ 268435455 := by omega
          clear hb5 htz5
          go_wp2_with fail
          refine (levels_z w5 _ Z5 t m a5 HT5.out.1 (by omega) (by omega) (by omega)).mono ?_
          rintro e w6 ⟨v6, vs6, ws6, rfl, hlv, hsh, _, hw64, hwl⟩
          have HB6 : Hid (Below w.heap.size w w6) := below_two HB5.out hlv.bel
          have HT6 : Hid (TreeZ w6 w1.heap.size Z5 t m a5) := HT5.out.1.later hlv.bel
          have HSH := shaped_true w6 v6 ws6 m a5.length (hlv.read hsh.ne) hsh (by omega) (by omega) hw64 hwl
          clear hlv hsh hw64 hwl
          go_wp2_with fail
          refine (len_z w6 _ Z5 t m a5 HT6.out).mono ?_
          rintro e w7 ⟨rfl, hw7⟩
          subst hw7
          go_wp2_with fail
          refine HSH.mono ?_
          rintro e w8 ⟨rfl, hw8⟩
          subst hw8
          go_wp2
          first | exact ⟨⟨k + 1, Z5, a5, hlt, by go_num, rfl, HT5.out.2, HT6.out, HB6.out⟩, by simp only [intOf]; omega⟩ | (go_roundw; all_goals first | exact ⟨k + 1, Z5, a5, hlt, by go_num, rfl, HT5.out.2, HT6.out, HB6.out⟩ | (simp [intOf]; omega))
        | true =>
          have hla : (a.length : Int) = (a5.length : Int) := by simp at hpl; omega
          have hla2 : a.length = a5.length := by omega
          have ha5 : a5.length ≤ k + 1 := by omega
          rw [hla]
          clear hpl hla hla2
          have HB5 : Hid (Below w.heap.size w w5) := hb5
          have HT5 : Hid (TreeZ w5 w1.heap.size Z5 t m a5 ∧ a5.length ≤ k + 1) := ⟨htz5, ha5⟩
          have ha5b : a5.length ≤ 268435455 := by omega
          clear hb5 htz5
          go_wp2_with fail
          refine (levels_z w5 _ Z5 t m a5 HT5.out.1 (by omega) (by omega) (by omega)).mono ?_
          rintro e w6 ⟨v6, vs6, ws6, rfl, hlv, hsh, _, hw64, hwl⟩
          have HB6 : Hid (Below w.heap.size w w6) := below_two HB5.out hlv.bel
          have HT6 : Hid (TreeZ w6 w1.heap.size Z5 t m a5) := HT5.out.1.later hlv.bel
          have HSH := shaped_true w6 v6 ws6 m a5.length (hlv.read hsh.ne) hsh (by omega) (by omega) hw64 hwl
          clear hlv hsh hw64 hwl
          go_wp2_with fail
          refine (len_z w6 _ Z5 t m a5 HT6.out).mono ?_
          rintro e w7 ⟨rfl, hw7⟩
          subst hw7
          go_wp2_with fail
          refine HSH.mono ?_
          rintro e w8 ⟨rfl, hw8⟩
          subst hw8
          go_wp2
          first | exact ⟨⟨k + 1, Z5, a5, hlt, by go_num, rfl, HT5.out.2, HT6.out, HB6.out⟩, by simp only [intOf]; omega⟩ | (go_roundw; all_goals first | exact ⟨k + 1, Z5, a5, hlt, by go_num, rfl, HT5.out.2, HT6.out, HB6.out⟩ | (simp [intOf]; omega))
    · have hlti : ¬ (k : Int) < (l.length : Int) := by omega
      go_wp2
      go_ret
      exact ⟨rfl, HB.out⟩
end Go.Proofs.Ytlpannicklkghaa
