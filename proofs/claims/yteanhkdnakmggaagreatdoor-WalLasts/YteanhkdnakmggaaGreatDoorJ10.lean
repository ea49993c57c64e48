/- Walks of layer 6, tenth part: load, walked. -/
import Derived.Test.YteanhkdnakmggaaGreatDoorJ9
namespace Go.Proofs.YteanhkdnakmggaaGreatDoor
open Go.RowKit

theorem IsLogE.is_disk {B : Nat} {w : World} {X : Nat → Prop} {l a : Nat} {st : St} {g : Lg} {p : Option Addr} {cap : Nat} {es : List Ent} (h : IsLogE B w X l a st g p cap es) : ∃ Z, IsDisk w Z a st := by
  obtain ⟨_, _, _, _, Z, Y, k1, _⟩ := h
  exact ⟨Z, k1⟩
/-- The zone of a loop that begins at a later world. -/
def zoneL (X : Nat → Prop) (w W : World) : Nat → Prop := fun k => (X k ∧ k < w.heap.size) ∨ W.heap.size ≤ k
theorem IsLogE.toZone {B : Nat} {w W : World} {X : Nat → Prop} {l a : Nat} {st : St} {g : Lg} {p : Option Addr} {cap : Nat} {es : List Ent} (h : IsLogE B w X l a st g p cap es) (hb : Below w.heap.size w W) : IsLogE B W (zoneL X w W) l a st g p cap es := by
  have hz := h.zone
  have hsz := hb.size
  have h0 := h.base
  have h1 : IsLogE B w (zoneL X w W) l a st g p cap es := h.mono (fun k hk hx => Or.inl ⟨hx, hk⟩) fun k hk => by
    rcases hk with hk | hk
    · exact hz k hk.1
    · omega
  exact h1.later hb
theorem zoneL_sub {X : Nat → Prop} {w W : World} (hX : ∀ k, w.heap.size ≤ k → X k) (hb : w.heap.size ≤ W.heap.size) : ∀ k, zoneL X w W k → X k := fun k hk => by
  rcases hk with hk | hk
  · exact hk.1
  · exact hX k (by omega)
theorem zoneL_not {X : Nat → Prop} {w W : World} {k : Nat} (h1 : w.heap.size ≤ k) (h2 : k < W.heap.size) : ¬ zoneL X w W k := fun e => by
  rcases e with e | e <;> omega
theorem only_cell {Z : Nat → Prop} {w w' : World} (h : Only Z w w') {b o : Nat} {v : Value} (hz : ¬ Z b) (hc : w.cell? ⟨b, o, none⟩ = some v) : w'.cell? ⟨b, o, none⟩ = some v :=
  cell_at (h.block b (World.block_lt_of_cell? _ _ hc) hz) hc

theorem wpList_append_lies (w : World) {ops : Array Oper} {rest : List Oper} {o : Oper} {a : Act} {Q : Exit → Act → World → Prop} (hgd : o.guard = none) (s x : Operand) (t : TypeId)
    (ho : o.op = .call { callee := .builtin .append, args := #[s, x], argTypes := #[t, t] })
    (base : Nat) (e : TypeId) (i : TypeInfo) (z : Value) (size bytes : Nat) (ht : Tryz.prog.underlying t = some (.slice e)) (hi : Tryz.prog.info? e = some i) (hz : i.zero = some z)
    (hsize : i.size = size) (hby : i.bytes = bytes) (hzs : z.cells.size = size) (hsz : 0 < size)
    (v : Value) (n : Nat) (xs : List Value) (hs : a.eval s = v) (hown : w.ownsRow base e size v n xs)
    (ad : Addr) (m c : Nat) (news : List Value) (hx : a.eval x = .slice (some ad) m c) (hl : news.length = m * size) (hnews : ∀ j u, news[j]? = some u → w.cell? (ad.add j) = some u) (h1 : ∀ u ∈ news, u.oneCell' = true)
    (hm : 0 < m) (h63 : n + m ≤ maxLen) (hbytes : (n + m) * bytes ≤ 140737488355328) (hbase : base ≤ w.heap.size) (H : Nat) (hH : w.heap.size = H)
    (h : ∀ g cap w', w'.ownsRow base e size (.slice (some ⟨g, 0, none⟩) (n + m) cap) (n + m) (xs ++ news) → w.grownBy w' v.ownBlock → (v.ownBlock = some g ∨ g = H) → g < w'.heap.size → wpList Tryz.prog ops Q rest (a.put o.dst (.slice (some ⟨g, 0, none⟩) (n + m) cap)) w') : wpList Tryz.prog ops Q (o :: rest) a w :=
  wpList_plain hgd fun _ hK => wp_append_lies w s x t ho base e i z size bytes ht hi hz hsize hby hzs hsz v n xs hs hown ad m c news hx hl hnews h1 hm h63 hbytes hbase H hH fun g cap w' h2 h3 h4 h5 => hK _ _ (h g cap w' h2 h3 h4 h5)

set_option maxHeartbeats 8000000 in
set_option maxRecDepth 100000 in
theorem load_any (B : Nat) (w : World) (X : Nat → Prop) (l a : Nat) (st : St) (g : Lg) (p0 : Option Addr) (cap0 : Nat) (h : IsLogE B w X l a st g p0 cap0 []) (hX : ∀ k, w.heap.size ≤ k → X k) :
    Calls Tryz.prog 47 #[.pointer (some ⟨l, 0, none⟩)] w (LoadP B w X l a st g) := by
  obtain ⟨i0, hi, hz0, hz1, hz2⟩ := info_parts Tryz.infoSeg
  have HI : Hid (IsLogE B w X l a st g p0 cap0 []) := h
  have HX : Hid (∀ k, w.heap.size ≤ k → X k) := hX
  obtain ⟨Y, hL⟩ := h.at
  have c0 := hL.lc.c0
  obtain ⟨Z, hD⟩ := h.is_disk
  have HD : Hid (IsDisk w Z a st) := hD
  have hsegs : g.segs = [] := hL.segs
  have HSG : Hid (g.segs = []) := hsegs
  obtain ⟨fs, hfs⟩ : ∃ fs, st.fs = fs := ⟨_, rfl⟩
  have HFS : Hid (st.fs = fs) := hfs
  have hok := hD.ok.files
  rw [hfs] at hok
  have hfew := hok.few
  have HOK : Hid (OKf st.size fs) := hok
  clear h hX hL hD hsegs hfs hok
  go_enter Tryz.func47, Tryz.ntmps47
  go_wp2_with (first | (go_at_call 22; refine (files_any _ Z a st HD.out).mono ?_; rintro e W ⟨v0, rfl, hrow, hb0⟩; rw [HFS.out] at hrow; obtain ⟨pf, capf, rfl⟩ := own_form hrow; (have HROW : Hid (W.ownsRow w.heap.size 65 3 (.slice pf fs.length capf) fs.length (fc fs)) := hrow); (have HB0 : Hid (Below w.heap.size w W) := hb0); clear hrow hb0))
  go_loopw [15] (fun i wr => ∃ (k : Nat) (acc : List Sg) (p : Option Addr) (cap : Nat) (es : List Ent), k ≤ fs.length ∧ i = .int .i64 k ∧ acc.length ≤ k ∧ IsLogE B wr (zoneL X w W) l a st { g with segs := acc } p cap es ∧ Only (zoneL X w W) W wr ∧ loadR g.frm fs [] = loadR g.frm (fs.drop k) acc) (fun i _ => fs.length - (intOf i).toNat)
  case atStart =>
    refine ⟨0, [], p0, cap0, [], Nat.zero_le _, rfl, Nat.le_refl _, ?_, Only.refl _ _, rfl⟩
    have e : { g with segs := [] } = g := by rw [← HSG.out]
    rw [e]
    exact HI.out.toZone HB0.out
  case round =>
    obtain ⟨k, acc, p, cap, es, hk, rfl, hacc, hi1, ho1, hld⟩ := hrel
    have HI1 : Hid (IsLogE B wr (zoneL X w W) l a st { g with segs := acc } p cap es) := hi1
    have HO1 : Hid (Only (zoneL X w W) W wr) := ho1
    have HLD : Hid (loadR g.frm fs [] = loadR g.frm (fs.drop k) acc) := hld
    have HACC : Hid (acc.length ≤ k) := hacc
    by_cases hlt : k < fs.length
    · have hlti : (k : Int) < (fs.length : Int) := by omega
      have hk0 : (0 : Int) ≤ (k : Int) := by omega
      obtain ⟨fb, rfl, hf1, hf2, d0, d1, d2⟩ := file_cells HROW.out rfl hlt
      have hnz := zoneL_not (X := X) hf1 hf2
      have d0 := only_cell ho1 hnz d0
      have d1 := only_cell ho1 hnz d1
      have d2 := only_cell ho1 hnz d2
      obtain ⟨nm, dat, sf, hf⟩ : ∃ nm dat sf, fs[k] = (nm, (dat, sf)) := ⟨_, _, _, rfl⟩
      rw [hf] at d0 d1 d2
      simp only at d0 d1 d2
      have hmem : (nm, (dat, sf)) ∈ fs := by rw [← hf]; exact List.getElem_mem hlt
      have hnl := nmOk_len (HOK.out.names _ hmem)
      have hdl := HOK.out.len hmem
      have hsm := HOK.out.small
      simp only at hnl hdl
      have HDR : Hid (fs.drop k = (nm, (dat, sf)) :: fs.drop (k + 1)) := by
        have := List.drop_eq_getElem_cons hlt
        rw [hf] at this
        exact this
      have HDL : Hid (dat.length ≤ 1048576) := Nat.le_trans hdl hsm
      clear hi1 ho1 hld hacc hf hmem hdl hsm hf1 hf2 hnz
      cases hlog : isLog nm with
      | false =>
        have HN : Hid (loadR g.frm fs [] = loadR g.frm (fs.drop (k + 1)) acc) := by
          have : loadR g.frm fs [] = loadR g.frm (fs.drop (k + 1)) acc := by rw [HLD.out, HDR.out, loadR_skip hlog]
          exact this
        have HPF : Hid (Lib.hasPrefix nm pre4 = false) := by
          have : Lib.hasPrefix nm pre4 = false := by rw [hasPrefix_log, hlog]
          exact this
        clear hlog
        go_wp2_with fail
        refine (Tryz.strings_HasPrefix ⟨nm.toArray⟩ ⟨#[108, 111, 103, 46]⟩ _).mono ?_
        rintro e w1 ⟨rfl, hw1⟩
        rw [show (⟨#[108, 111, 103, 46]⟩ : ByteArray).data.toList = pre4 from rfl]
        simp only [HPF.out]
        have HB1 : Hid (Below wr.heap.size wr w1) := by
          rw [hw1]
          exact (Below.refl _ _).alloc (Nat.le_refl _) _
        clear hw1
        go_wp2
        go_roundw
        case rel => exact ⟨k + 1, acc, p, cap, es, by omega, by go_num, Nat.le_succ_of_le HACC.out, HI1.out.later HB1.out, HO1.out.later HB1.out, HN.out⟩
        case measure => simp [intOf]; omega
      | true =>
        obtain ⟨t, rfl, htl⟩ := isLog_split hlog
        have htl12 : t.length ≤ 12 := by omega
        have HLG : Hid (isLog (pre4 ++ t) = true) := hlog
        have HPF : Hid (Lib.hasPrefix (pre4 ++ t) pre4 = true) := by
          have : Lib.hasPrefix (pre4 ++ t) pre4 = true := by rw [hasPrefix_log, hlog]
          exact this
        obtain ⟨s, hs⟩ : ∃ s : ByteArray, s = ⟨(pre4 ++ t).toArray⟩ := ⟨_, rfl⟩
        have HSS : Hid (s = ⟨(pre4 ++ t).toArray⟩) := hs
        rw [← hs] at d0
        clear hlog hnl htl hs
        go_wp2_with fail
        refine (Tryz.strings_HasPrefix s ⟨#[108, 111, 103, 46]⟩ _).mono ?_
        rintro e w1 ⟨rfl, hw1⟩
        rw [show (⟨#[108, 111, 103, 46]⟩ : ByteArray).data.toList = pre4 from rfl, show s.data.toList = pre4 ++ t by rw [HSS.out]]
        simp only [HPF.out]
        have HB1 : Hid (Below wr.heap.size wr w1) := by
          rw [hw1]
          exact (Below.refl _ _).alloc (Nat.le_refl _) _
        have b0 : w1.cell? ⟨wr.heap.size, 0, none⟩ = some (.string s) := by rw [hw1]; simp
        have b1 : w1.cell? ⟨wr.heap.size, 1, none⟩ = some (.string ⟨dat.toArray⟩) := by rw [hw1]; simp
        have HLIB : Hid (∀ W', Below wr.heap.size wr W' → SV0 W') := fun W' hb => (HI1.out.lib.later HI1.out.base hb).here
        obtain ⟨Y1, hL1⟩ := HI1.out.at
        have HL1 : Hid (LogAt wr Y1 l a { g with segs := acc } p cap es) := hL1
        have HES : Hid (es.length ≤ 64) := by
          have e := hL1.segs
          have : es.length ≤ 64 := by
            have e2 := congrArg List.length e
            rw [List.length_map] at e2
            have := HACC.out
            simp only at e2
            omega
          exact this
        clear hw1 d0 d1 d2 hL1
        go_wp2_with fail
        rw [HSS.out]
        refine (placeOf_any t _ (HLIB.out _ HB1.out) htl12).mono ?_
        rintro e w2 ⟨⟨kk, ok, rfl, hcase⟩, hb2⟩
        have b1 := cell_later hb2 b1
        have HB2 : Hid (Below wr.heap.size wr w2) := HB1.out.trans (hb2.mono HB1.out.size)
        clear b0 hb2
        rcases hcase with ⟨q, hq, rfl, rfl⟩ | ⟨hq, rfl⟩
        · have HPL : Hid (placeN (pre4 ++ t) = some q) := hq
          clear hq
          have c4 := (HL1.out.later HB2.out).lc.c4
          by_cases hz : es = []
          · have hacc0 : acc = [] := by
              have e := HL1.out.segs
              rw [hz] at e
              exact e
            have hgt : decide ((0 : Int) < (es.length : Int)) = false := decide_eq_false (by rw [hz]; simp)
            have hgt2 : decide (0 < es.length) = false := decide_eq_false (by rw [hz]; simp)
            have hgt3 : ¬ (0 : Int) < (es.length : Int) := by rw [hz]; simp
            clear hz
            have HGP : Hid (¬ (acc ≠ [] ∧ q ≠ nextL g.frm acc)) := fun e => e.1 hacc0
            have HQN : Hid ({ g with segs := acc }.segs = [] ∨ q = { g with segs := acc }.next) := Or.inl hacc0
            clear hacc0
            have HBn : Hid (Below wr.heap.size wr w2) := HB2.out
            go_wp2_with (first
              | (go_at_call 23; refine (all_any ⟨dat.toArray⟩ _ (by have := HDL.out; simp [ByteArray.size]; omega)).mono ?_; rintro e w4 ⟨v4, ds, n4, rfl, hall, hv4, hb4⟩; obtain ⟨pr, cr, rfl⟩ := own_form hv4; (have HDS : Hid (ds = fr dat) := hall.fr.1); (have HV4 : Hid (w4.ownsRow w2.heap.size 9 1 (.slice pr ds.length cr) ds.length (sv ds)) := hv4); (have HB4 : Hid (Below wr.heap.size wr w4) := HBn.out.trans (hb4.mono HBn.out.size)); (have m4 := ((HL1.out.later HB4.out).lc).c4); clear hall hv4 hb4)
              | (at_builtin; refine wpList_append_lies _ rfl _ _ 89 rfl 0 100 i0 _ 2 32 Tryz.underlying89 hi hz0 hz1 hz2 rfl (by decide) (.slice p es.length cap) es.length (ec es) rfl ((own_later HL1.out.rows HB4.out).alloc _) ⟨w4.heap.size, 0, none⟩ 1 1 (ec [(q, ds, .slice pr ds.length cr)]) rfl rfl (seg_cells2 _ q ds _ _) (by simp [ec, Value.oneCell']) (by decide) (by have := HES.out; unfold maxLen; omega) (by have := HES.out; omega) (Nat.zero_le _) _ rfl ?_; intro g' cap' w5 hown' hgrow hor hlt5; (have s4 := (HL1.out.grown_lc (HB4.out.alloc HB4.out.size _) hgrow).c4); (have sf := (HL1.out.grown_lc (HB4.out.alloc HB4.out.size _) hgrow).fz)))
            go_roundw
            case rel =>
              obtain ⟨Y1, hL1, hY1, _, hcl⟩ := HI1.out.own (fun k hk => Or.inr (Nat.le_trans HO1.out.size hk))
              obtain ⟨r1, r2⟩ := hL1.more2 hY1 (HB4.out.alloc HB4.out.size _) ((own_mono HV4.out HBn.out.size).alloc _) hgrow hown' (fun j hj => by
                obtain rfl : g' = j := by simpa [Value.ownBlock] using hj
                rcases hor with hor | hor
                · exact Or.inl hor
                · right
                  rw [hor]
                  simp)
              have hw : LgW { { g with segs := acc } with segs := acc ++ [(q, ds)] } := by
                have hfc := fr_count dat
                have hdd := HDL.out
                have hac := HACC.out
                rw [← HDS.out] at hfc
                refine HI1.out.ok.more HQN.out (by rw [HDS.out]; exact fr_small dat) (by omega) (placeN_iff.1 HPL.out).1 ?_
                simp only
                omega
              obtain ⟨r3, r4⟩ := hcl _ _ _ _ _ r1 hw r2
              refine ⟨k + 1, acc ++ [(q, ds)], _, _, _, by omega, by go_num, ?_, r3, HO1.out.trans r4, ?_⟩
              · simp only [List.length_append, List.length_singleton]
                exact Nat.succ_le_succ HACC.out
              · rw [HLD.out, HDR.out, loadR_next HLG.out HPL.out HGP.out, HDS.out]
            case measure => simp [intOf]; omega
          · have hpos : 0 < es.length := List.length_pos_iff.2 hz
            have hgt : decide ((0 : Int) < (es.length : Int)) = true := decide_eq_true (by omega)
            have hgt2 : decide (0 < es.length) = true := decide_eq_true hpos
            have hgt3 : (0 : Int) < (es.length : Int) := by omega
            go_wp2_with fail
            refine (next_any _ Y1 l a _ _ cap _ (HL1.out.later HB2.out) HI1.out.ok).mono ?_
            rintro e w3 ⟨rfl, hb3⟩
            have b1 := cell_later hb3 b1
            have HB3 : Hid (Below wr.heap.size wr w3) := HB2.out.trans (hb3.mono HB2.out.size)
            have c4 := (HL1.out.later HB3.out).lc.c4
            obtain ⟨N, hN⟩ : ∃ N, Lg.next { g with segs := acc } = N := ⟨_, rfl⟩
            have HNN : Hid (Lg.next { g with segs := acc } = N) := hN
            rw [hN]
            have HNE : Hid (acc ≠ []) := by
              have : acc ≠ [] := fun e => by
                have e2 := congrArg List.length HL1.out.segs
                simp only [e] at e2
                rw [List.length_map, List.length_nil] at e2
                omega
              exact this
            clear hb3 hN hz
            by_cases hqn : q = N
            · have HGP : Hid (¬ (acc ≠ [] ∧ q ≠ nextL g.frm acc)) := fun e => e.2 (hqn.trans HNN.out.symm)
              have HQN : Hid ({ g with segs := acc }.segs = [] ∨ q = { g with segs := acc }.next) := Or.inr (hqn.trans HNN.out.symm)
              subst hqn
              have HBn : Hid (Below wr.heap.size wr w3) := HB3.out
              go_wp2_with (first
                | (go_at_call 23; refine (all_any ⟨dat.toArray⟩ _ (by have := HDL.out; simp [ByteArray.size]; omega)).mono ?_; rintro e w4 ⟨v4, ds, n4, rfl, hall, hv4, hb4⟩; obtain ⟨pr, cr, rfl⟩ := own_form hv4; (have HDS : Hid (ds = fr dat) := hall.fr.1); (have HV4 : Hid (w4.ownsRow w3.heap.size 9 1 (.slice pr ds.length cr) ds.length (sv ds)) := hv4); (have HB4 : Hid (Below wr.heap.size wr w4) := HBn.out.trans (hb4.mono HBn.out.size)); (have m4 := ((HL1.out.later HB4.out).lc).c4); clear hall hv4 hb4)
                | (at_builtin; refine wpList_append_lies _ rfl _ _ 89 rfl 0 100 i0 _ 2 32 Tryz.underlying89 hi hz0 hz1 hz2 rfl (by decide) (.slice p es.length cap) es.length (ec es) rfl ((own_later HL1.out.rows HB4.out).alloc _) ⟨w4.heap.size, 0, none⟩ 1 1 (ec [(q, ds, .slice pr ds.length cr)]) rfl rfl (seg_cells2 _ q ds _ _) (by simp [ec, Value.oneCell']) (by decide) (by have := HES.out; unfold maxLen; omega) (by have := HES.out; omega) (Nat.zero_le _) _ rfl ?_; intro g' cap' w5 hown' hgrow hor hlt5; (have s4 := (HL1.out.grown_lc (HB4.out.alloc HB4.out.size _) hgrow).c4); (have sf := (HL1.out.grown_lc (HB4.out.alloc HB4.out.size _) hgrow).fz)))
              go_roundw
              case rel =>
                obtain ⟨Y1, hL1, hY1, _, hcl⟩ := HI1.out.own (fun k hk => Or.inr (Nat.le_trans HO1.out.size hk))
                obtain ⟨r1, r2⟩ := hL1.more2 hY1 (HB4.out.alloc HB4.out.size _) ((own_mono HV4.out HBn.out.size).alloc _) hgrow hown' (fun j hj => by
                  obtain rfl : g' = j := by simpa [Value.ownBlock] using hj
                  rcases hor with hor | hor
                  · exact Or.inl hor
                  · right
                    rw [hor]
                    simp)
                have hw : LgW { { g with segs := acc } with segs := acc ++ [(q, ds)] } := by
                  have hfc := fr_count dat
                  have hdd := HDL.out
                  have hac := HACC.out
                  rw [← HDS.out] at hfc
                  refine HI1.out.ok.more HQN.out (by rw [HDS.out]; exact fr_small dat) (by omega) (placeN_iff.1 HPL.out).1 ?_
                  simp only
                  omega
                obtain ⟨r3, r4⟩ := hcl _ _ _ _ _ r1 hw r2
                refine ⟨k + 1, acc ++ [(q, ds)], _, _, _, by omega, by go_num, ?_, r3, HO1.out.trans r4, ?_⟩
                · simp only [List.length_append, List.length_singleton]
                  exact Nat.succ_le_succ HACC.out
                · rw [HLD.out, HDR.out, loadR_next HLG.out HPL.out HGP.out, HDS.out]
              case measure => simp [intOf]; omega
            · have HLN : Hid (loadR g.frm fs [] = none) := by
                have : loadR g.frm fs [] = none := by rw [HLD.out, HDR.out, loadR_gap HLG.out HPL.out ⟨HNE.out, fun e => hqn (e.trans HNN.out)⟩]
                exact this
              have hqi : ¬ (q : Int) = (N : Int) := by omega
              clear hqn
              go_wp2
              go_ret
              refine ⟨(Only.of HB0.out).trans ((HO1.out.later HB3.out).mono (zoneL_sub HX.out HB0.out.size)), Or.inl ⟨by rw [HFS.out]; exact HLN.out, rfl, { g with segs := acc }, ?_⟩⟩
              exact ((HI1.out.later HB3.out).mono (fun k _ hk => zoneL_sub HX.out HB0.out.size k hk) HI.out.zone).is
        · have HLN : Hid (loadR g.frm fs [] = none) := by
            have : loadR g.frm fs [] = none := by rw [HLD.out, HDR.out, loadR_bad HLG.out hq]
            exact this
          clear hq
          go_wp2
          go_ret
          refine ⟨(Only.of HB0.out).trans ((HO1.out.later HB2.out).mono (zoneL_sub HX.out HB0.out.size)), Or.inl ⟨by rw [HFS.out]; exact HLN.out, rfl, { g with segs := acc }, ?_⟩⟩
          exact ((HI1.out.later HB2.out).mono (fun k _ hk => zoneL_sub HX.out HB0.out.size k hk) HI.out.zone).is
    · have hk' : k = fs.length := by omega
      subst hk'
      go_wp2
      go_ret
      rw [List.drop_length] at hld
      refine ⟨(Only.of HB0.out).trans (HO1.out.mono (zoneL_sub HX.out HB0.out.size)), Or.inr ⟨acc, by rw [HFS.out, hld]; rfl, rfl, ?_⟩⟩
      exact (HI1.out.mono (fun k _ hk => zoneL_sub HX.out HB0.out.size k hk) HI.out.zone).is
end Go.Proofs.YteanhkdnakmggaaGreatDoor
