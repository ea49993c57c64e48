/- Walks of layer 6: WalSegments. -/
import Derived.Test.YteanhkdnakmggaaGreatDoorJ14
import Derived.Test.YteanhkdnakmggaaGreatDoorM65
namespace Go.Proofs.YteanhkdnakmggaaGreatDoor
open Go.RowKit

/-- Texts as bytes. -/
def bys (rs : List ByteArray) : List (List UInt8) := rs.map fun r => r.data.toList
theorem bys_length (rs : List ByteArray) : (bys rs).length = rs.length := List.length_map _
theorem bys_take (rs : List ByteArray) (k : Nat) : (bys rs).take k = bys (rs.take k) := by simp [bys]
theorem bys_next {rs : List ByteArray} {k : Nat} (h : k < rs.length) : (bys rs).take (k + 1) = (bys rs).take k ++ [(rs[k]).data.toList] := by
  have h' : k < (bys rs).length := by rw [bys_length]; exact h
  rw [List.take_succ_eq_append_getElem h']
  simp [bys]
theorem cat_next {rs : List ByteArray} {k : Nat} (h : k < rs.length) : (cat ((bys rs).take (k + 1))).length = (cat ((bys rs).take k)).length + ((rs[k]).size + 6) := by
  rw [bys_next h, cat_snoc, List.length_append, frm_length]
  have : (rs[k]).data.toList.length = (rs[k]).size := by simp
  omega
theorem open_first {S : Nat} (h1 : 1 ≤ S) (h2 : S ≤ 1024) : openR ⟨1048576, [], 0, -1, false⟩ 0 (S : Int) = (0, ⟨1048576, [], 0, -1, false⟩, some ⟨S, 0, 0, []⟩) := by
  have := openR_ok (st := ⟨1048576, [], 0, -1, false⟩) (f := 0) (size := (S : Int)) (L := []) (by unfold argBad; omega) rfl rfl (by simp [settleR_nil])
  rw [this, settleR_nil]
  rfl
theorem new_first : newE 1048576 [] = 0 ∧ newSt 1048576 [] = ⟨1048576, [], 0, -1, false⟩ := ⟨by decide, rfl⟩

set_option maxHeartbeats 16000000 in
set_option maxRecDepth 100000 in
theorem segments_law (B : Nat) (w : World) (hB : B ≤ w.heap.size) (hV : SV B w) (size : Int) (p : Option Addr) (cap : Nat) (rs : List ByteArray) (hr : Strs w p rs) (hcap : rs.length ≤ cap) (hml : cap ≤ maxLen) :
    Calls Tryz.prog 6 #[.int .i64 size, .slice p rs.length cap] w fun e w' => e = .returned (.bool true) ∧ Below w.heap.size w w' := by
  have HB : Hid (B ≤ w.heap.size) := hB
  have HV : Hid (SV B w) := hV
  have HR : Hid (Strs w p rs) := hr
  have HCP : Hid (rs.length ≤ 9223372036854775807) := by
    have : rs.length ≤ 9223372036854775807 := by unfold maxLen at hml; omega
    exact this
  clear hB hV hr hcap hml
  go_enter Tryz.func6, Tryz.ntmps6
  go_wp2
  go_loopw [5, 6] (fun m i wr => ∃ k : Nat, k ≤ rs.length ∧ i = .int .i64 k ∧ m = .int .i64 (((cat ((bys rs).take k)).length : Nat) : Int) ∧ (cat ((bys rs).take k)).length ≤ 104102 ∧ (∀ d ∈ (bys rs).take k, d.length ≤ 4096) ∧ wr = w) (fun _ i _ => rs.length - (intOf i).toNat)
  case atStart => exact ⟨0, Nat.zero_le _, rfl, by simp [cat], by simp [cat], by simp, rfl⟩
  case round =>
    obtain ⟨k, hk, rfl, rfl, hbig, hsm, hwr⟩ := hrel
    have hwr' := hwr.symm
    subst hwr'
    clear hwr
    obtain ⟨M, hM⟩ : ∃ M, (cat ((bys rs).take k)).length = M := ⟨_, rfl⟩
    have HM : Hid ((cat ((bys rs).take k)).length = M) := hM
    rw [hM] at hbig ⊢
    have HSM : Hid (∀ d ∈ (bys rs).take k, d.length ≤ 4096) := hsm
    clear hM hsm
    have hcp := HCP.out
    by_cases hm : M ≤ 100000
    · have hmi : (M : Int) ≤ 100000 := by omega
      have hmd : decide (M ≤ 100000) = true := decide_eq_true hm
      by_cases hlt : k < rs.length
      · have hlti : (k : Int) < (rs.length : Int) := by omega
        obtain ⟨b, off, rfl, hcell⟩ := HR.out k hlt
        obtain ⟨d, hd⟩ : ∃ d, rs[k] = d := ⟨_, rfl⟩
        rw [hd] at hcell
        have HD : Hid (rs[k] = d) := hd
        clear hd
        by_cases hbigd : 4096 < d.size
        · have hbi : (4096 : Int) < (d.size : Int) := by omega
          go_wp2
          go_ret
          exact ⟨rfl, Below.refl _ _⟩
        · have hbi : ¬ (4096 : Int) < (d.size : Int) := by omega
          have hbi2 : d.size ≤ 4096 := by omega
          go_wp2
          go_roundw
          case rel =>
            have hc := cat_next hlt
            rw [HM.out, HD.out] at hc
            refine ⟨k + 1, by omega, by go_num, ?_, by omega, fun x hx => ?_, trivial⟩
            · rw [hc]
              go_num
            · rw [bys_next hlt] at hx
              rcases List.mem_append.1 hx with hx | hx
              · exact HSM.out x hx
              · obtain rfl : x = (rs[k]).data.toList := by simpa using hx
                rw [HD.out]
                simpa using hbi2
          case measure => simp [intOf]; omega
      · have hk' : k = rs.length := by omega
        have HK : Hid (k = rs.length) := hk'
        have hlti : ¬ (k : Int) < (rs.length : Int) := by omega
        clear hk'
        have hmg : ¬ (100000 : Int) < (M : Int) := by omega
        have HT : Hid ((bys rs).take k = bys rs) := by
          have : (bys rs).take k = bys rs := by rw [HK.out, ← bys_length]; exact List.take_length
          exact this
        have HM2 : Hid ((cat (bys rs)).length ≤ 100000 ∧ ∀ d ∈ bys rs, d.length ≤ 4096) := by
          have h1 := HM.out
          have h2 := HSM.out
          rw [HT.out] at h1 h2
          exact ⟨by omega, h2⟩
        clear hmi hmd hm hbig
        go_wp2_with fail
        refine (awake_any B _ HB.out HV.out).mono ?_
        rintro e w1 ⟨rfl, hb1⟩
        have HB1 : Hid (Below w.heap.size w w1) := hb1
        clear hb1
        by_cases hs1 : size < 1
        · go_wp2
          go_ret
          exact ⟨rfl, HB1.out⟩
        by_cases hs2 : 1024 < size
        · go_wp2
          go_ret
          exact ⟨rfl, HB1.out⟩
        obtain ⟨S, rfl⟩ : ∃ S : Nat, size = (S : Int) := ⟨size.toNat, by omega⟩
        have HS : Hid (1 ≤ S ∧ S ≤ 1024) := by
          have : 1 ≤ S ∧ S ≤ 1024 := by omega
          exact this
        by_cases hs3 : 20 * S < rs.length
        · have hs3i : 20 * (S : Int) < (rs.length : Int) := by omega
          go_wp2
          go_ret
          exact ⟨rfl, HB1.out⟩
        have hs3i : ¬ 20 * (S : Int) < (rs.length : Int) := by omega
        have HS3 : Hid (rs.length ≤ 20 * S) := by
          have : rs.length ≤ 20 * S := by omega
          exact this
        go_wp2_with fail
        refine (new_any 1048576 none 0 [] w1 (by simp) (by simp) (FRow.nil _ _)).mono ?_
        rintro e w2 ⟨hb2, hN⟩
        rcases hN with ⟨hN, _⟩ | ⟨_, a, rfl, hi2⟩
        · exact absurd new_first.1 hN
        rw [new_first.2] at hi2
        have HB2 : Hid (Below w1.heap.size w1 w2) := hb2
        have HI2 : Hid (IsDisk w2 (fun k => w1.heap.size ≤ k) a ⟨1048576, [], 0, -1, false⟩) := hi2
        clear hb2 hi2
        have HBB : Hid (B ≤ w1.heap.size) := Nat.le_trans HB.out HB1.out.size
        have HV1 : Hid (SV B w1) := HV.out.later HB.out HB1.out
        go_wp2_with fail
        refine (open_any B w2 (fun k => w1.heap.size ≤ k) a ⟨1048576, [], 0, -1, false⟩ (Nat.le_trans HBB.out HB2.out.size) (HV1.out.later HBB.out HB2.out) (fun k hk => Nat.le_trans HBB.out hk) (zone_new HB2.out.size) HI2.out (by decide) 0 (S : Int)).mono ?_
        rw [open_first HS.out.1 HS.out.2]
        rintro e w3 ⟨ho3, hcase⟩
        rcases hcase with ⟨h0, _⟩ | ⟨l, g, hg, rfl, hi3⟩
        · cases h0
        obtain rfl : (⟨S, 0, 0, []⟩ : Lg) = g := by simpa using hg
        have HB3 : Hid (Below w1.heap.size w1 w3) := ho3.zone HB2.out
        have HI3 : Hid (IsLog B w3 (fun k => w1.heap.size ≤ k) l a ⟨1048576, [], 0, -1, false⟩ ⟨S, 0, 0, []⟩) := hi3
        clear ho3 hi3 hg
        go_wp2
        go_loopw [12] (fun i wr => ∃ (j : Nat) (st : St) (g : Lg), j ≤ rs.length ∧ i = .int .i64 j ∧ IsLog B wr (fun k => w1.heap.size ≤ k) l a st g ∧ Only1 S ((bys rs).take j) st g ∧ Below w1.heap.size w1 wr) (fun i _ => rs.length - (intOf i).toNat)
        case atStart => exact ⟨0, _, _, Nat.zero_le _, rfl, HI3.out, Only1.first HS.out.1 HS.out.2, HB3.out⟩
        case round =>
          obtain ⟨j, st, g, hj, rfl, hi4, hon, hb4⟩ := hrel
          have HI4 : Hid (IsLog B wr (fun k => w1.heap.size ≤ k) l a st g) := hi4
          have HON : Hid (Only1 S ((bys rs).take j) st g) := hon
          have HB4 : Hid (Below w1.heap.size w1 wr) := hb4
          clear hi4 hon hb4
          by_cases hlt : j < rs.length
          · have hltj : (j : Int) < (rs.length : Int) := by omega
            obtain ⟨b, off, rfl, hcell⟩ := HR.out j hlt
            have hcw := cell_later HB4.out (cell_later HB1.out hcell)
            obtain ⟨d, hd⟩ : ∃ d, rs[j] = d := ⟨_, rfl⟩
            rw [hd] at hcw
            have HDJ : Hid ((bys rs).take (j + 1) = (bys rs).take j ++ [d.data.toList]) := by
              have := bys_next hlt
              rw [hd] at this
              exact this
            have hdl : d.data.toList.length ≤ 4096 := HM2.out.2 _ (by rw [← hd]; exact List.mem_map_of_mem (List.getElem_mem hlt))
            have hds : d.size ≤ 4096 := by simpa using hdl
            have hmore := HON.out.more (d := d.data.toList) hdl (by
              rw [List.length_take, bys_length]
              have := HS3.out
              omega) (by
              have h1 := cat_next hlt
              rw [hd] at h1
              have h2 : (cat (bys rs)).length = (cat ((bys rs).take (j + 1))).length + (cat ((bys rs).drop (j + 1))).length := by rw [← List.length_append, ← cat_append, List.take_append_drop]
              have h3 := HM2.out.1
              have h4 : d.data.toList.length = d.size := by simp
              omega)
            rw [← HDJ.out] at hmore
            have hjl : ((bys rs).take j).length = j := by rw [List.length_take, bys_length]; omega
            rw [hjl] at hmore
            obtain ⟨hans, hon2⟩ := hmore
            have HON2 : Hid (Only1 S ((bys rs).take (j + 1)) (appendL st g d.data.toList).2.1 (appendL st g d.data.toList).2.2) := hon2
            have HANS : Hid ((appendL st g d.data.toList).1 = ((j : Int), 0)) := hans
            have HNE : Hid (g.segs = [] → g.safe = g.next) := fun e => (HON.out.ok.none e).trans (by rw [Lg.next, e]; rfl)
            have HST : Hid (st.steps < 4611686018427387000) := by
              have h1 := HON.out.steps
              rw [hjl] at h1
              have h2 := HS3.out
              have h3 := HS.out
              have : st.steps < 4611686018427387000 := by omega
              exact this
            have z4 := HB4.out.size
            clear hd hcell hdl hans hon2 hjl
            go_wp2_with fail
            refine (lappend_any B wr _ l a st g HI4.out HNE.out (fun k hk => Nat.le_trans z4 hk) HST.out d (by omega)).mono ?_
            rintro e w5 ⟨rfl, hi5, ho5⟩
            have HB5 : Hid (Below w1.heap.size w1 w5) := ho5.zone HB4.out
            have HI5 : Hid (IsLog B w5 (fun k => w1.heap.size ≤ k) l a (appendL st g d.data.toList).2.1 (appendL st g d.data.toList).2.2) := hi5
            simp only [appV, HANS.out]
            clear hi5 ho5
            go_wp2
            go_roundw
            case rel => exact ⟨j + 1, _, _, by omega, by go_num, HI5.out, HON2.out, HB5.out⟩
            case measure => simp [intOf]; omega
          · have hltj : ¬ (j : Int) < (rs.length : Int) := by omega
            have HON2 : Hid (Only1 S (bys rs) st g) := by
              have e : (bys rs).take j = bys rs := List.take_of_length_le (by rw [bys_length]; omega)
              have := HON.out
              rw [e] at this
              exact this
            have HM3 := HON2.out
            have hlen := HM3.len
            have hcount := HM3.count HS.out.1
            rw [bys_length] at hcount
            obtain ⟨fs, hfs⟩ : ∃ fs, st.fs = fs := ⟨_, rfl⟩
            have HFS : Hid (st.fs = fs) := hfs
            rw [hfs] at hlen
            have hqb : ((fs.length : Int) != ((rs.length : Int) + (S : Int) - 1) / (S : Int)) = false := by
              have e : (rs.length : Int) + (S : Int) - 1 = ((rs.length + S - 1 : Nat) : Int) := by have h1 := HS.out.1; omega
              rw [hlen, hcount, e, Int.natCast_ediv]
              simp
            obtain ⟨Y, Z, p5, cap5, es5, _, _, hD⟩ := HI4.out.all
            have HD : Hid (IsDisk wr Z a st) := hD
            have HOKF : Hid (OKf st.size fs) := by
              have := hD.ok.files
              rw [hfs] at this
              exact this
            have hS1 := HS.out.1
            clear HM3 hlen hcount hfs hD
            go_wp2_with fail
            refine (files_any wr Z a st HD.out).mono ?_
            rintro e w5 ⟨v, rfl, hrow, hb5⟩
            rw [HFS.out] at hrow
            obtain ⟨pf, capf, rfl⟩ := own_form hrow
            have HROW : Hid (w5.ownsRow 0 65 3 (.slice pf fs.length capf) fs.length (fc fs)) := own_mono hrow (Nat.zero_le _)
            have HB5 : Hid (Below w1.heap.size w1 w5) := HB4.out.trans (hb5.mono HB4.out.size)
            clear hrow hb5 HD HI4 HB4 HON
            go_wp2
            go_loopw [16, 17] (fun at' i wv => ∃ t : Nat, t ≤ fs.length ∧ i = .int .i64 t ∧ at' = .int .i64 ((segAt g t : Nat) : Int) ∧ Below w5.heap.size w5 wv) (fun _ i _ => fs.length - (intOf i).toNat)
            case atStart => exact ⟨0, Nat.zero_le _, rfl, by simp [segAt_zero], Below.refl _ _⟩
            case round =>
              obtain ⟨t, ht, rfl, rfl, hbv⟩ := hrel
              have HBV : Hid (Below w5.heap.size w5 wr) := hbv
              obtain ⟨AT, hAT⟩ : ∃ AT, segAt g t = AT := ⟨_, rfl⟩
              have HAT : Hid (segAt g t = AT) := hAT
              rw [hAT]
              clear hbv hAT
              have hfew := HOKF.out.few
              by_cases hlt : t < fs.length
              · have hlti : (t : Int) < (fs.length : Int) := by omega
                have ht0 : (0 : Int) ≤ (t : Int) := by omega
                obtain ⟨fb, rfl, _, _, d0, d1, d2⟩ := file_cells HROW.out rfl hlt
                have d1 := cell_later HBV.out d1
                have d2 := cell_later HBV.out d2
                obtain ⟨ds, g1, g2, g3, g4, g5, g6, g7, g8⟩ := HON2.out.file t (by rw [HFS.out]; exact hlt)
                simp only [HFS.out] at g1 g5
                obtain ⟨s, hs⟩ : ∃ s : ByteArray, s = ⟨(fs[t]).2.1.toArray⟩ := ⟨_, rfl⟩
                rw [← hs] at d1
                have hsl : s.data.toList = cat ds := by rw [hs, ← g1]
                have hsz : s.size = (cat ds).length := by rw [← hsl]; simp
                have HSL : Hid (s.data.toList = cat ds) := hsl
                have HSZ : Hid (s.size = (cat ds).length) := hsz
                have hs4 : s.size ≤ 1048576 := by
                  have h1 := HOKF.out.len (List.getElem_mem hlt)
                  have h2 := HOKF.out.small
                  rw [g1] at h1
                  omega
                have HG2 : Hid (∀ d ∈ ds, d.length ≤ 4096) := g2
                rw [HAT.out] at g6 g7 g8
                have HG7 : Hid (∀ k (hk : k < ds.length), (bys rs)[AT + k]? = some ds[k]) := g7
                have HG8 : Hid (segAt g (t + 1) = AT + ds.length) := g8
                rw [bys_length] at g6
                obtain ⟨sf, hsf⟩ : ∃ sf, (fs[t]).2.2 = sf := ⟨_, rfl⟩
                rw [hsf] at d2 g5
                clear g1 g2 g7 g8 hsl hsz hs d0 hsf
                rw [← HSZ.out] at g5
                go_wp2_with fail
                refine (all_any s _ (by omega)).mono ?_
                rintro e w6 ⟨v6, ds', n6, rfl, hall, hv6, hb6⟩
                obtain ⟨e1, e2⟩ := hall.fr
                rw [HSL.out, fr_cat HG2.out] at e1 e2
                rw [← HSZ.out] at e2
                have e1' := e1.symm
                subst e1'
                have e2' := e2.symm
                subst e2'
                obtain ⟨pr, cr, rfl, hstr⟩ := own_strs hv6
                have HSTR : Hid (Strs w6 pr (ds.map ba)) := hstr
                have f1 := cell_later hb6 d1
                have f2 := cell_later hb6 d2
                have HB6 : Hid (Below w5.heap.size w5 w6) := HBV.out.trans (hb6.mono HBV.out.size)
                obtain ⟨D, hD⟩ : ∃ D, ds.length = D := ⟨_, rfl⟩
                have HDD : Hid (ds.length = D) := hD
                have hdc : 6 * D ≤ s.size := by
                  have := cat6 ds
                  rw [← HSZ.out] at this
                  omega
                rw [hD] at g3 g4 g5 g6 ⊢
                clear hall hv6 hb6 hstr d1 d2 e1 e2 hD
                have c1 : ¬ (S : Int) < (D : Int) := by omega
                have c2 : ((D : Int) == 0) = false := beq_eq_false_iff_ne.2 (by omega)
                have c3 : ¬ (rs.length : Int) < (AT : Int) + (D : Int) := by omega
                have c4 : ¬ S < D := by omega
                have c5 : ¬ D = 0 := by omega
                by_cases hl : t + 1 = fs.length
                · have hl1 : ((t : Int) + 1 == (fs.length : Int)) = true := by rw [beq_iff_eq]; omega
                  clear g5 hl
                  clear HBV
                  go_wp2
                  go_loopw [21] (fun i wv => ∃ u : Nat, u ≤ D ∧ i = .int .i64 u ∧ Below w6.heap.size w6 wv) (fun i _ => D - (intOf i).toNat)
                  case atStart => exact ⟨0, Nat.zero_le _, rfl, Below.refl _ _⟩
                  case round =>
                    obtain ⟨u, hu, rfl, hbu⟩ := hrel
                    have HBU : Hid (Below w6.heap.size w6 wr) := hbu
                    clear hbu
                    by_cases hul : u < D
                    · have huli : (u : Int) < (D : Int) := by omega
                      have hu0 : (0 : Int) ≤ (u : Int) := by omega
                      have hud : u < ds.length := by rw [HDD.out]; exact hul
                      obtain ⟨b1, o1, rfl, k1⟩ := HSTR.out u (by rw [List.length_map]; exact hud)
                      rw [List.getElem_map] at k1
                      obtain ⟨y, hy⟩ : ∃ y : ByteArray, y = ba ds[u] := ⟨_, rfl⟩
                      rw [← hy] at k1
                      have hrl : AT + u < rs.length := by omega
                      obtain ⟨b2, o2, rfl, k2⟩ := HR.out (AT + u) hrl
                      have hre : rs[AT + u] = y := by
                        have h1 := HG7.out u hud
                        have h2 : (bys rs)[AT + u]? = some (rs[AT + u]).data.toList := by
                          rw [bys, List.getElem?_map, List.getElem?_eq_getElem hrl]
                          rfl
                        rw [h2] at h1
                        have h3 : (rs[AT + u]).data.toList = ds[u] := by simpa using h1
                        rw [hy, ← h3]
                        rfl
                      rw [hre] at k2
                      have k1 := cell_later HBU.out k1
                      have k2 := cell_later HBU.out (cell_later HB6.out (cell_later HB5.out (cell_later HB1.out k2)))
                      have x1 : (0 : Int) ≤ (AT : Int) + (u : Int) := by omega
                      have x2 : (AT : Int) + (u : Int) < (rs.length : Int) := by omega
                      have x3 : ((AT : Int) + (u : Int)).toNat = AT + u := by omega
                      have x4 : (y.toList == y.toList) = true := by simp
                      clear hy hre hud
                      go_wp2
                      go_quiet (fail)
                      go_wp2
                      go_roundw
                      case rel => exact ⟨u + 1, by omega, by go_num, HBU.out.trans (by (repeat (first | exact Below.refl _ _ | assumption | refine Below.drew ?_ | refine below_drewN ?_ _ | refine Below.alloc ?_ (by first | omega | (simp; done) | (simp; omega)) _ | refine Below.setCell ?_ (by first | omega | (simp; done) | (simp; omega)) _ | refine Below.trans ?_ (Below.mono (by assumption) (by first | omega | (simp; done) | (simp; omega))))))⟩
                      case measure => simp [intOf]; omega
                    · have huli : ¬ (u : Int) < (D : Int) := by omega
                      go_wp2
                      go_roundw
                      case rel => exact ⟨t + 1, by omega, by go_num, by rw [HG8.out, HDD.out]; go_num, HB6.out.trans (HBU.out.mono HB6.out.size)⟩
                      case measure => simp [intOf]; omega
                · have hl1 : ((t : Int) + 1 == (fs.length : Int)) = false := by rw [beq_eq_false_iff_ne]; omega
                  obtain ⟨g5a, g5b⟩ := g5 (by omega)
                  have c6 : ((D : Int) != (S : Int)) = false := by rw [g5a]; simp
                  have c7 : ((sf : Int) != (s.size : Int)) = false := by rw [g5b]; simp
                  clear g5 g5a g5b hl
                  clear HBV
                  go_wp2
                  go_loopw [21] (fun i wv => ∃ u : Nat, u ≤ D ∧ i = .int .i64 u ∧ Below w6.heap.size w6 wv) (fun i _ => D - (intOf i).toNat)
                  case atStart => exact ⟨0, Nat.zero_le _, rfl, Below.refl _ _⟩
                  case round =>
                    obtain ⟨u, hu, rfl, hbu⟩ := hrel
                    have HBU : Hid (Below w6.heap.size w6 wr) := hbu
                    clear hbu
                    by_cases hul : u < D
                    · have huli : (u : Int) < (D : Int) := by omega
                      have hu0 : (0 : Int) ≤ (u : Int) := by omega
                      have hud : u < ds.length := by rw [HDD.out]; exact hul
                      obtain ⟨b1, o1, rfl, k1⟩ := HSTR.out u (by rw [List.length_map]; exact hud)
                      rw [List.getElem_map] at k1
                      obtain ⟨y, hy⟩ : ∃ y : ByteArray, y = ba ds[u] := ⟨_, rfl⟩
                      rw [← hy] at k1
                      have hrl : AT + u < rs.length := by omega
                      obtain ⟨b2, o2, rfl, k2⟩ := HR.out (AT + u) hrl
                      have hre : rs[AT + u] = y := by
                        have h1 := HG7.out u hud
                        have h2 : (bys rs)[AT + u]? = some (rs[AT + u]).data.toList := by
                          rw [bys, List.getElem?_map, List.getElem?_eq_getElem hrl]
                          rfl
                        rw [h2] at h1
                        have h3 : (rs[AT + u]).data.toList = ds[u] := by simpa using h1
                        rw [hy, ← h3]
                        rfl
                      rw [hre] at k2
                      have k1 := cell_later HBU.out k1
                      have k2 := cell_later HBU.out (cell_later HB6.out (cell_later HB5.out (cell_later HB1.out k2)))
                      have x1 : (0 : Int) ≤ (AT : Int) + (u : Int) := by omega
                      have x2 : (AT : Int) + (u : Int) < (rs.length : Int) := by omega
                      have x3 : ((AT : Int) + (u : Int)).toNat = AT + u := by omega
                      have x4 : (y.toList == y.toList) = true := by simp
                      clear hy hre hud
                      go_wp2
                      go_quiet (fail)
                      go_wp2
                      go_roundw
                      case rel => exact ⟨u + 1, by omega, by go_num, HBU.out.trans (by (repeat (first | exact Below.refl _ _ | assumption | refine Below.drew ?_ | refine below_drewN ?_ _ | refine Below.alloc ?_ (by first | omega | (simp; done) | (simp; omega)) _ | refine Below.setCell ?_ (by first | omega | (simp; done) | (simp; omega)) _ | refine Below.trans ?_ (Below.mono (by assumption) (by first | omega | (simp; done) | (simp; omega))))))⟩
                      case measure => simp [intOf]; omega
                    · have huli : ¬ (u : Int) < (D : Int) := by omega
                      go_wp2
                      go_roundw
                      case rel => exact ⟨t + 1, by omega, by go_num, by rw [HG8.out, HDD.out]; go_num, HB6.out.trans (HBU.out.mono HB6.out.size)⟩
                      case measure => simp [intOf]; omega
              · have hlti : ¬ (t : Int) < (fs.length : Int) := by omega
                have hte : AT = rs.length := by
                  have h1 := HON2.out.segAt_all
                  rw [HFS.out, bys_length, show fs.length = t by omega, HAT.out] at h1
                  exact h1
                have hend : ((AT : Int) == (rs.length : Int)) = true := by rw [beq_iff_eq]; omega
                clear hte
                go_wp2
                go_ret
                exact ⟨by simp, HB1.out.trans ((HB5.out.trans (HBV.out.mono HB5.out.size)).mono HB1.out.size)⟩
    · have hmi : ¬ (M : Int) ≤ 100000 := by omega
      have hmg : (100000 : Int) < (M : Int) := by omega
      by_cases hlt : k < rs.length
      · have hlti : (k : Int) < (rs.length : Int) := by omega
        go_wp2_with (first | (go_at_call 8; refine (awake_any B _ HB.out HV.out).mono ?_; rintro e w1 ⟨rfl, hb1⟩))
        go_ret
        exact ⟨rfl, hb1⟩
      · have hlti : ¬ (k : Int) < (rs.length : Int) := by omega
        go_wp2_with (first | (go_at_call 8; refine (awake_any B _ HB.out HV.out).mono ?_; rintro e w1 ⟨rfl, hb1⟩))
        go_ret
        exact ⟨rfl, hb1⟩
end Go.Proofs.YteanhkdnakmggaaGreatDoor
