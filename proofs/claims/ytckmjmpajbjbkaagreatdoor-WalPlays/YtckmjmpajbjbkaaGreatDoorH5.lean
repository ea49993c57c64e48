/- Walks of layer 5, fifth part: Read and All. -/
import Derived.Test.YtckmjmpajbjbkaaGreatDoorH4
namespace Go.Proofs.YtckmjmpajbjbkaaGreatDoor
open Go.RowKit

/-- What Read tells. -/
def rdT (s : ByteArray) (x : Int) : ByteArray × Int × Int :=
  if x < 0 ∨ (s.size : Int) < x then (⟨#[]⟩, 0, 1)
  else match rd (s.data.toList.drop x.toNat) with
    | some d => (⟨d.toArray⟩, x + (6 + d.length : Nat), 0)
    | none => (⟨#[]⟩, 0, 50)
theorem rdT_arg {s : ByteArray} {x : Int} (h : x < 0 ∨ (s.size : Int) < x) : rdT s x = (⟨#[]⟩, 0, 1) := if_pos h
theorem rdT_some {s : ByteArray} {a : Nat} {d : List UInt8} (h : a ≤ s.size) (hr : rd (s.data.toList.drop a) = some d) : rdT s a = ((⟨d.toArray⟩ : ByteArray), ((a + (6 + d.length) : Nat) : Int), (0 : Int)) := by
  unfold rdT
  rw [if_neg (by omega), Int.toNat_natCast, hr]
  simp
theorem rdT_none {s : ByteArray} {a : Nat} (h : a ≤ s.size) (hr : rd (s.data.toList.drop a) = none) : rdT s a = (⟨#[]⟩, 0, 50) := by
  unfold rdT
  rw [if_neg (by omega), Int.toNat_natCast, hr]
def RT (s : ByteArray) (x : Int) (w : World) (e : Ending) (w' : World) : Prop :=
  e = .returned (.tuple #[.string (rdT s x).1, .int .i64 (rdT s x).2.1, .int .i64 (rdT s x).2.2]) ∧ Below w.heap.size w w'

theorem only_below {w w1 w' : World} {g : Nat} (hb : Below g w w1) (ho : Only (only g) w1 w') (hg : g ≤ w1.heap.size) : Below g w w' :=
  hb.trans (ho.below hg fun k hk e => by have : k = g := e; omega)

theorem cur_new (w : World) (s : ByteArray) (a : Nat) (t : TypeId) : Cur (w.alloc (.cells #[.string s, .int .i64 (a : Int)] t)) w.heap.size s a := ⟨by simp, by simp, fun o => by simp⟩



theorem cnt_at {s : ByteArray} {a : Nat} (h : a + 1 < s.size) : cnt (s.data.toList.drop a) = s[a].toNat + 256 * s[a + 1].toNat := by
  have hl : s.data.toList.length = s.size := by simp
  rw [List.drop_eq_getElem_cons (by omega), List.drop_eq_getElem_cons (by omega)]
  rfl

set_option maxHeartbeats 4000000 in
set_option maxRecDepth 100000 in
theorem frread_any (s : ByteArray) (x : Int) (w : World) (hs : s.size ≤ 1099511627776) :
    Calls Tryz.prog 114 #[.string s, .int .i64 x] w (RT s x w) := by
  by_cases h0 : x < 0
  · have HR : Hid (rdT s x = (⟨#[]⟩, 0, 1)) := rdT_arg (Or.inl h0)
    go_enter Tryz.func114, Tryz.ntmps114
    go_wp2
    exact bodyPost_ret (v := .tuple #[.string ⟨#[]⟩, .int .i64 0, .int .i64 1]) (by simp [results, Tryz.results114, go_sem]) rfl ⟨by rw [HR.out], Below.refl _ _⟩
  · by_cases h1 : (s.size : Int) < x
    · have HR : Hid (rdT s x = (⟨#[]⟩, 0, 1)) := rdT_arg (Or.inr h1)
      go_enter Tryz.func114, Tryz.ntmps114
      go_wp2
      exact bodyPost_ret (v := .tuple #[.string ⟨#[]⟩, .int .i64 0, .int .i64 1]) (by simp [results, Tryz.results114, go_sem]) rfl ⟨by rw [HR.out], Below.refl _ _⟩
    · obtain ⟨a, rfl⟩ := Int.eq_ofNat_of_zero_le (by omega : 0 ≤ x)
      have ha : a ≤ s.size := by omega
      have hll : (s.data.toList.drop a).length = s.size - a := by simp
      by_cases h6 : s.size - a < 6
      · have HR : Hid (rdT s a = (⟨#[]⟩, 0, 50)) := rdT_none ha (rd_short (by omega))
        have h6i : (s.size : Int) - (a : Int) < 6 := by omega
        clear hll h6
        go_enter Tryz.func114, Tryz.ntmps114
        go_wp2
        exact bodyPost_ret (v := .tuple #[.string ⟨#[]⟩, .int .i64 0, .int .i64 50]) (by simp [results, Tryz.results114, go_sem]) rfl ⟨by rw [HR.out], Below.refl _ _⟩
      · have h6i : ¬ (s.size : Int) - (a : Int) < 6 := by omega
        have hcn := cnt_at (s := s) (a := a) (by omega)
        obtain ⟨A1, hA1⟩ : ∃ A, a + 1 = A := ⟨_, rfl⟩
        have hA1i : (a : Int) + 1 = (A1 : Int) := by omega
        have hA1s : A1 < s.size := by omega
        have has : a < s.size := by omega
        have hb0 := UInt8.toNat_lt (s[a]'has)
        have hb1 := UInt8.toNat_lt (s[A1]'hA1s)
        obtain ⟨l, hl⟩ : ∃ l, s.data.toList.drop a = l := ⟨_, rfl⟩
        obtain ⟨c, hc⟩ : ∃ c, cnt l = c := ⟨_, rfl⟩
        have hni : ((s[a]'has).toNat : Int) + 256 * ((s[A1]'hA1s).toNat : Int) = (c : Int) := by
          subst hA1
          rw [← hc, ← hl, hcn]
          omega
        have hcl : c < 65536 := by rw [← hc]; exact cnt_lt l
        have HL : Hid (s.data.toList.drop a = l) := hl
        have HX : Hid (cnt l = c) := hc
        rw [hl] at hll
        have HLL : Hid (l.length = s.size - a) := hll
        clear hcn hl hc hA1 h6 hll
        by_cases hn : s.size - a - 6 < c
        · have HR : Hid (rdT s a = (⟨#[]⟩, 0, 50)) := rdT_none ha (by rw [HL.out]; exact rd_short (by rw [HX.out, HLL.out]; omega))
          have hni' : (s.size : Int) - (a : Int) - 6 < (c : Int) := by omega
          clear hn
          go_enter Tryz.func114, Tryz.ntmps114
          go_wp2
          go_quiet (fail)
          go_wp2
          exact bodyPost_ret (v := .tuple #[.string ⟨#[]⟩, .int .i64 0, .int .i64 50]) (by simp [results, Tryz.results114, go_sem]) rfl ⟨by rw [HR.out], by (repeat (first | exact Below.refl _ _ | assumption | refine Below.drew ?_ | refine below_drewN ?_ _ | refine Below.alloc ?_ (by first | omega | (simp; done) | (simp; omega)) _ | refine Below.setCell ?_ (by first | omega | (simp; done) | (simp; omega)) _ | refine Below.trans ?_ (Below.mono (by assumption) (by first | omega | (simp; done) | (simp; omega)))))⟩
        · have hni' : ¬ (s.size : Int) - (a : Int) - 6 < (c : Int) := by omega
          obtain ⟨P, hP⟩ : ∃ P, a + 6 = P := ⟨_, rfl⟩
          obtain ⟨E, hE⟩ : ∃ E, P + c = E := ⟨_, rfl⟩
          have hPi : (a : Int) + 6 = (P : Int) := by omega
          have hEi : (P : Int) + (c : Int) = (E : Int) := by omega
          have hEs : (E : Int) ≤ (s.size : Int) := by omega
          have hPE : (P : Int) ≤ (E : Int) := by omega
          have haE : (a : Int) ≤ (E : Int) := by omega
          have hd := data_is s a c
          have hw := whole_is s a c
          rw [show a + min 6 (s.size - a) = P by omega, show a + min (6 + c) (s.size - a) = E by omega, HL.out] at hd
          rw [show a + min (6 + c) (s.size - a) = E by omega, HL.out] at hw
          obtain ⟨d, hdd⟩ : ∃ d, s.extract P E = d := ⟨_, rfl⟩
          obtain ⟨u, huu⟩ : ∃ u, s.extract a E = u := ⟨_, rfl⟩
          have hds : d.size = c := by rw [← hdd]; simp; omega
          rw [hdd] at hd
          rw [huu] at hw
          have HD : Hid (d.data.toList = (l.drop 6).take c) := hd
          have HW : Hid (u.data.toList = l.take (6 + c)) := hw
          clear hd hw hn hP hE
          have HDS : Hid (d.size = c) := hds
          have hdl : d.size ≤ 65536 := by omega
          clear hds
          go_enter Tryz.func114, Tryz.ntmps114
          go_wp2
          go_quiet (fail)
          go_wp2_with fail
          refine (rwrap_any d _ (by omega)).mono ?_
          rintro e w4 ⟨rfl, hb4⟩
          have HB : Hid (Below w.heap.size w w4) := Below.trans (by (repeat (first | exact Below.refl _ _ | assumption | refine Below.drew ?_ | refine below_drewN ?_ _ | refine Below.alloc ?_ (by first | omega | (simp; done) | (simp; omega)) _ | refine Below.setCell ?_ (by first | omega | (simp; done) | (simp; omega)) _ | refine Below.trans ?_ (Below.mono (by assumption) (by first | omega | (simp; done) | (simp; omega)))))) hb4
          clear hb4
          by_cases hl4 : d.size ≤ 4096
          · rw [show wrE d = 0 from if_pos hl4, show wrS d = ⟨(frm d.data.toList).toArray⟩ from if_pos hl4]
            obtain ⟨f, hf⟩ : ∃ f : ByteArray, f = ⟨(frm d.data.toList).toArray⟩ := ⟨_, rfl⟩
            rw [← hf]
            have HFD : Hid (f = ⟨(frm d.data.toList).toArray⟩) := hf
            clear hf
            have hlen : ((l.drop 6).take c).length = d.size := by rw [← HD.out]; simp
            by_cases he : f = u
            · have hq := str_same he
              have HR : Hid (rd l = some d.data.toList) := by
                rw [HD.out, ← HX.out]
                refine rd_is (by rw [HX.out, hlen]; exact hl4) ?_
                rw [HX.out, ← HD.out, ← HW.out, ← he, HFD.out]
              have HT : Hid (rdT s a = (d, (E : Int), 0)) := by
                rw [rdT_some ha (by rw [HL.out]; exact HR.out)]
                have : d.data.toList.length = c := by rw [← HDS.out]; simp
                rw [this]
                have : ((a + (6 + c) : Nat) : Int) = (E : Int) := by omega
                rw [this]
                exact rfl
              clear he hlen
              go_wp2
              exact bodyPost_ret (v := .tuple #[.string d, .int .i64 (E : Int), .int .i64 0]) (by simp [results, Tryz.results114, go_sem]) rfl ⟨by rw [HT.out], HB.out⟩
            · have hq := str_other he
              have HR : Hid (rd l = none) := by
                refine rd_other ?_
                rw [HX.out, ← HD.out, ← HW.out]
                intro e
                apply he
                apply ba_eq
                rw [HFD.out, ← e]
              have HT : Hid (rdT s a = (⟨#[]⟩, 0, 50)) := rdT_none ha (by rw [HL.out]; exact HR.out)
              clear he hlen
              go_wp2
              exact bodyPost_ret (v := .tuple #[.string ⟨#[]⟩, .int .i64 0, .int .i64 50]) (by simp [results, Tryz.results114, go_sem]) rfl ⟨by rw [HT.out], HB.out⟩
          · rw [show wrE d = 2 from if_neg hl4]
            have HT : Hid (rdT s a = (⟨#[]⟩, 0, 50)) := by
              refine rdT_none ha ?_
              rw [HL.out]
              refine rd_long ?_
              rw [HX.out, ← HD.out]
              simpa using hl4
            go_wp2
            exact bodyPost_ret (v := .tuple #[.string ⟨#[]⟩, .int .i64 0, .int .i64 50]) (by simp [results, Tryz.results114, go_sem]) rfl ⟨by rw [HT.out], HB.out⟩
end Go.Proofs.YtckmjmpajbjbkaaGreatDoor
