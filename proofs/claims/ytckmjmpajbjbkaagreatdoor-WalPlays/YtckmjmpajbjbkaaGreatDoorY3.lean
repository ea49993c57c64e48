/- Layer 6, without the program: the chapter's first example. -/
import Derived.Test.YtckmjmpajbjbkaaGreatDoorM61
import Derived.KernelRfl
import Derived.Test.YtckmjmpajbjbkaaGreatDoorJ8
import Derived.Test.YtckmjmpajbjbkaaGreatDoorJ7
namespace Go.Proofs.YtckmjmpajbjbkaaGreatDoor
open Go

def a0 : St := ⟨1000, [], 0, -1, false⟩
def l0 : Lg := ⟨2, 5, 5, []⟩
def q1 : (Int × Int) × St × Lg := appendL a0 l0 [97]
def q2 : (Int × Int) × St × Lg := appendL q1.2.1 q1.2.2 [98]
def q3 : (Int × Int) × St × Lg := appendL q2.2.1 q2.2.2 [99]
theorem aw_open : openR a0 5 2 = (0, a0, some l0) := by kernel_rfl
theorem aw_1 : q1.1 = (5, 0) ∧ q1.2.1.steps = 1 ∧ q1.2.2.segs.isEmpty = false := ⟨by kernel_rfl, by kernel_rfl, by kernel_rfl⟩
theorem aw_2 : q2.1 = (6, 0) ∧ q2.2.1.steps = 2 ∧ q2.2.2.segs.isEmpty = false := ⟨by kernel_rfl, by kernel_rfl, by kernel_rfl⟩
theorem aw_3 : q3.1 = (7, 0) ∧ q3.2.2.safe = 7 ∧ q3.2.2.next = 8 := ⟨by kernel_rfl, by kernel_rfl, by kernel_rfl⟩
theorem aw_r6 : readL q3.2.2 6 = ([98], 0) := by kernel_rfl
theorem aw_r8 : readL q3.2.2 8 = ([], 61) := by kernel_rfl
theorem aw_fs : q3.2.1.fs = [([108, 111, 103, 46, 48, 48, 48, 48, 48, 48, 48, 48, 48, 48, 48, 53], (cat [[97], [98]], 14)), ([108, 111, 103, 46, 48, 48, 48, 48, 48, 48, 48, 48, 48, 48, 48, 55], (cat [[99]], 0))] := by kernel_rfl
theorem ne_of_empty {l : List Sg} (h : l.isEmpty = false) {P : Prop} : l = [] → P := fun e => by
  rw [e] at h
  cases h
end Go.Proofs.YtckmjmpajbjbkaaGreatDoor
/- Walks of layer 6, ninth part: load. -/
namespace Go.Proofs.YtckmjmpajbjbkaaGreatDoor
open Go.RowKit

/-- A segment more, with its records. -/
theorem LogAt.more2 {W W1 W2 : World} {Y : Nat → Prop} {l a cap : Nat} {g : Lg} {p : Option Addr} {es : List Ent} (h : LogAt W Y l a g p cap es) (hY : ∀ k, W.heap.size ≤ k → Y k) (h1 : Below W.heap.size W W1) {v : Value} {ds : List (List UInt8)} (hv : W1.ownsRow W.heap.size 9 1 v ds.length (sv ds)) (hg : W1.grownBy W2 (Value.slice p es.length cap).ownBlock) {p' : Option Addr} {cap' q : Nat}
    (ho : W2.ownsRow 0 100 2 (.slice p' (es.length + 1) cap') (es.length + 1) (ec es ++ ec [(q, ds, v)])) (hb : ∀ k, (Value.slice p' (es.length + 1) cap').ownBlock = some k → (Value.slice p es.length cap).ownBlock = some k ∨ W1.heap.size ≤ k) :
    LogAt (W2.setCell ⟨l, 4, none⟩ (.slice p' (es.length + 1) cap')) Y l a { g with segs := g.segs ++ [(q, ds)] } p' cap' (es ++ [(q, ds, v)]) ∧ Only Y W (W2.setCell ⟨l, 4, none⟩ (.slice p' (es.length + 1) cap')) := by
  have hL := h.later h1
  have hs1 := h1.size
  have hrow := hL.rows
  have kl : W2.heap[l]? = W1.heap[l]? := hg.block l hL.lt (fun e => own_ne hrow hL.cells (by decide) e.symm)
  have hlen : (es ++ [(q, ds, v)]).length = es.length + 1 := by simp
  refine ⟨⟨?_, h.zl, ?_, ?_, ?_, fun e he => ?_, fun e he k hk => ?_, ?_⟩, ?_⟩
  · rw [hlen, heap_setCell_at (kl.trans hL.cells)]
    simp [lcells]
  · simp only [h.segs, List.map_append]
    rfl
  · rw [hlen, ec_append]
    exact ownsRow_setCell_other ho (own_ne ho (kl.trans hL.cells) (by decide)) _
  · intro k hk
    rw [hlen] at hk
    rcases hb k hk with hk | hk
    · exact h.zs k hk
    · exact hY k (by omega)
  · rcases List.mem_append.1 he with he | he
    · have hr := hL.recs e he
      have hr2 := own_grown hr hg fun k hk => own_apart hr hrow (by decide) hk
      exact ownsRow_setCell_other hr2 (own_ne hr2 (kl.trans hL.cells) (by decide)) _
    · obtain rfl : e = (q, ds, v) := by simpa using he
      have hv0 := own_mono hv (Nat.zero_le _)
      have hr2 := own_grown hv0 hg fun k hk => own_apart hv0 hrow (by decide) hk
      exact ownsRow_setCell_other hr2 (own_ne hr2 (kl.trans hL.cells) (by decide)) _
  · rcases List.mem_append.1 he with he | he
    · exact h.zr e he k hk
    · obtain rfl : e = (q, ds, v) := by simpa using he
      exact hY k (hv.lt k hk).1
  · refine pair_snoc.2 ⟨h.apart, fun e he k hk hk' => ?_⟩
    have a1 := ((h.recs e he).lt k hk).2
    have a2 := (hv.lt k hk').1
    omega
  · exact ((Only.of h1).grown hg fun k hk => h.zs k hk).setCell (p := ⟨l, 4, none⟩) h.zl _
theorem seg_cells2 (w : World) (q : Nat) (ds : List (List UInt8)) (v : Value) (t : TypeId) : ∀ j u, (ec [(q, ds, v)])[j]? = some u → (w.alloc (.cells #[.int .i64 (q : Int), v] t)).cell? ((⟨w.heap.size, 0, none⟩ : Addr).add j) = some u := by
  intro j u hj
  match j, hj with
  | 0, hj => simp [ec] at hj; subst hj; simp [Addr.add]
  | 1, hj => simp [ec] at hj; subst hj; simp [Addr.add]
theorem fc_at : ∀ (l : Fs) (i : Nat) (h : i < l.length), (fc l)[i * 3]? = some (.string ⟨(l[i]).1.toArray⟩) ∧ (fc l)[i * 3 + 1]? = some (.string ⟨(l[i]).2.1.toArray⟩) ∧ (fc l)[i * 3 + 2]? = some (.int .i64 ((l[i]).2.2 : Int))
  | p :: r, 0, _ => ⟨rfl, rfl, rfl⟩
  | p :: r, i + 1, h => by
    rw [Nat.add_mul, Nat.one_mul]
    exact fc_at r i (by simpa using h)
theorem file_cells {w : World} {B n cap : Nat} {p : Option Addr} {fs : Fs} (h : w.ownsRow B 65 3 (.slice p n cap) n (fc fs)) (hn : n = fs.length) {i : Nat} (hi : i < fs.length) : ∃ b, p = some ⟨b, 0, none⟩ ∧ B ≤ b ∧ b < w.heap.size ∧ w.cell? ⟨b, i * 3, none⟩ = some (.string ⟨(fs[i]).1.toArray⟩) ∧ w.cell? ⟨b, i * 3 + 1, none⟩ = some (.string ⟨(fs[i]).2.1.toArray⟩) ∧ w.cell? ⟨b, i * 3 + 2, none⟩ = some (.int .i64 ((fs[i]).2.2 : Int)) := by
  subst hn
  have hr := h
  obtain ⟨_, ⟨_, h0⟩ | ⟨b, cap', cur, e, hb, hg, h1, h2, _⟩⟩ := h
  · omega
  · simp only [Value.slice.injEq] at e
    obtain ⟨rfl, _, rfl⟩ := e
    obtain ⟨k1, k2, k3⟩ := fc_at fs i hi
    exact ⟨b, rfl, hb, (Array.getElem?_eq_some_iff.1 hg).1, (hr.cellAt (i * 3) (by omega)).trans k1, (hr.cellAt (i * 3 + 1) (by omega)).trans k2, (hr.cellAt (i * 3 + 2) (by omega)).trans k3⟩

theorem loadR_skip {f : Nat} {p : Nm × Fl} {r : Fs} {acc : List Sg} (h : isLog p.1 = false) : loadR f (p :: r) acc = loadR f r acc := by simp [loadR, h]
theorem loadR_bad {f : Nat} {p : Nm × Fl} {r : Fs} {acc : List Sg} (h : isLog p.1 = true) (h' : placeN p.1 = none) : loadR f (p :: r) acc = none := by simp [loadR, h, h']
theorem loadR_gap {f q : Nat} {p : Nm × Fl} {r : Fs} {acc : List Sg} (h : isLog p.1 = true) (h' : placeN p.1 = some q) (hg : acc ≠ [] ∧ q ≠ nextL f acc) : loadR f (p :: r) acc = none := by
  rw [loadR, if_pos h, h']
  simp only
  rw [if_pos hg]
theorem loadR_next {f q : Nat} {p : Nm × Fl} {r : Fs} {acc : List Sg} (h : isLog p.1 = true) (h' : placeN p.1 = some q) (hg : ¬ (acc ≠ [] ∧ q ≠ nextL f acc)) : loadR f (p :: r) acc = loadR f r (acc ++ [(q, fr p.2.1)]) := by
  rw [loadR, if_pos h, h']
  simp only
  rw [if_neg hg]

/-- What load leaves. -/
def LoadP (B : Nat) (w : World) (X : Nat → Prop) (l a : Nat) (st : St) (g : Lg) (e : Ending) (w' : World) : Prop :=
  Only X w w' ∧ ((loadR g.frm st.fs [] = none ∧ e = .returned (.int .i64 60) ∧ ∃ g', IsLog B w' X l a st g') ∨ ∃ L, loadR g.frm st.fs [] = some L ∧ e = .returned (.int .i64 0) ∧ IsLog B w' X l a st { g with segs := L })
end Go.Proofs.YtckmjmpajbjbkaaGreatDoor
/- Walks of layer 6, tenth part: load, walked. -/
namespace Go.Proofs.YtckmjmpajbjbkaaGreatDoor
open Go.RowKit

theorem IsLogE.is_disk {B : Nat} {w : World} {X : Nat → Prop} {l a : Nat} {st : St} {g : Lg} {p : Option Addr} {cap : Nat} {es : List Ent} (h : IsLogE B w X l a st g p cap es) : ∃ Z, IsDisk w Z a st := by
  obtain ⟨_, _, _, _, Z, Y, k1, _⟩ := h
  exact ⟨Z, k1⟩
/-- The zone of a loop that begins at a later world. -/
def zoneL (X : Nat → Prop) (w W : World) : Nat → Prop := fun k => (X k ∧ k < w.heap.size) ∨ W.heap.size ≤ k
theorem IsLogE.toZone {B : Nat} {w W : World} {X : Nat → Prop} {l a : Nat} {st : St} {g : Lg} {p : Option Addr} {cap : Nat} {es : List Ent} (h : IsLogE B w X l a st g p cap es) (hb : Below w.heap.size w W) : IsLogE B W (zoneL X w W) l a st g p cap es := by
  have hz := h.zone
  have hsz := hb.size
  have h0 := h.base
  have h1 : IsLogE B w (zoneL X w W) l a st g p cap es := h.mono (fun k hk hx => Or.inl ⟨hx, hk⟩) fun k hk => by
    rcases hk with hk | hk
    · exact hz k hk.1
    · omega
  exact h1.later hb
theorem zoneL_sub {X : Nat → Prop} {w W : World} (hX : ∀ k, w.heap.size ≤ k → X k) (hb : w.heap.size ≤ W.heap.size) : ∀ k, zoneL X w W k → X k := fun k hk => by
  rcases hk with hk | hk
  · exact hk.1
  · exact hX k (by omega)
theorem zoneL_not {X : Nat → Prop} {w W : World} {k : Nat} (h1 : w.heap.size ≤ k) (h2 : k < W.heap.size) : ¬ zoneL X w W k := fun e => by
  rcases e with e | e <;> omega
theorem only_cell {Z : Nat → Prop} {w w' : World} (h : Only Z w w') {b o : Nat} {v : Value} (hz : ¬ Z b) (hc : w.cell? ⟨b, o, none⟩ = some v) : w'.cell? ⟨b, o, none⟩ = some v :=
  cell_at (h.block b (World.block_lt_of_cell? _ _ hc) hz) hc

theorem wpList_append_lies (w : World) {ops : Array Oper} {rest : List Oper} {o : Oper} {a : Act} {Q : Exit → Act → World → Prop} (hgd : o.guard = none) (s x : Operand) (t : TypeId)
    (ho : o.op = .call { callee := .builtin .append, args := #[s, x], argTypes := #[t, t] })
    (base : Nat) (e : TypeId) (i : TypeInfo) (z : Value) (size bytes : Nat) (ht : Tryz.prog.underlying t = some (.slice e)) (hi : Tryz.prog.info? e = some i) (hz : i.zero = some z)
    (hsize : i.size = size) (hby : i.bytes = bytes) (hzs : z.cells.size = size) (hsz : 0 < size)
    (v : Value) (n : Nat) (xs : List Value) (hs : a.eval s = v) (hown : w.ownsRow base e size v n xs)
    (ad : Addr) (m c : Nat) (news : List Value) (hx : a.eval x = .slice (some ad) m c) (hl : news.length = m * size) (hnews : ∀ j u, news[j]? = some u → w.cell? (ad.add j) = some u) (h1 : ∀ u ∈ news, u.oneCell' = true)
    (hm : 0 < m) (h63 : n + m ≤ maxLen) (hbytes : (n + m) * bytes ≤ 140737488355328) (hbase : base ≤ w.heap.size) (H : Nat) (hH : w.heap.size = H)
    (h : ∀ g cap w', w'.ownsRow base e size (.slice (some ⟨g, 0, none⟩) (n + m) cap) (n + m) (xs ++ news) → w.grownBy w' v.ownBlock → (v.ownBlock = some g ∨ g = H) → g < w'.heap.size → wpList Tryz.prog ops Q rest (a.put o.dst (.slice (some ⟨g, 0, none⟩) (n + m) cap)) w') : wpList Tryz.prog ops Q (o :: rest) a w :=
  wpList_plain hgd fun _ hK => wp_append_lies w s x t ho base e i z size bytes ht hi hz hsize hby hzs hsz v n xs hs hown ad m c news hx hl hnews h1 hm h63 hbytes hbase H hH fun g cap w' h2 h3 h4 h5 => hK _ _ (h g cap w' h2 h3 h4 h5)

set_option maxHeartbeats 8000000 in
set_option maxRecDepth 100000 in
theorem load_any (B : Nat) (w : World) (X : Nat → Prop) (l a : Nat) (st : St) (g : Lg) (p0 : Option Addr) (cap0 : Nat) (h : IsLogE B w X l a st g p0 cap0 []) (hX : ∀ k, w.heap.size ≤ k → X k) :
    Calls Tryz.prog 47 #[.pointer (some ⟨l, 0, none⟩)] w (LoadP B w X l a st g) := by
  obtain ⟨i0, hi, hz0, hz1, hz2⟩ := info_parts Tryz.infoSeg
  have HI : Hid (IsLogE B w X l a st g p0 cap0 []) := h
  have HX : Hid (∀ k, w.heap.size ≤ k → X k) := hX
  obtain ⟨Y, hL⟩ := h.at
  have c0 := hL.lc.c0
  obtain ⟨Z, hD⟩ := h.is_disk
  have HD : Hid (IsDisk w Z a st) := hD
  have hsegs : g.segs = [] := hL.segs
  have HSG : Hid (g.segs = []) := hsegs
  obtain ⟨fs, hfs⟩ : ∃ fs, st.fs = fs := ⟨_, rfl⟩
  have HFS : Hid (st.fs = fs) := hfs
  have hok := hD.ok.files
  rw [hfs] at hok
  have hfew := hok.few
  have HOK : Hid (OKf st.size fs) := hok
  clear h hX hL hD hsegs hfs hok
  go_enter Tryz.func47, Tryz.ntmps47
  go_wp2_with (first | (go_at_call 22; refine (files_any _ Z a st HD.out).mono ?_; rintro e W ⟨v0, rfl, hrow, hb0⟩; rw [HFS.out] at hrow; obtain ⟨pf, capf, rfl⟩ := own_form hrow; (have HROW : Hid (W.ownsRow w.heap.size 65 3 (.slice pf fs.length capf) fs.length (fc fs)) := hrow); (have HB0 : Hid (Below w.heap.size w W) := hb0); clear hrow hb0))
  go_loopw [15] (fun i wr => ∃ (k : Nat) (acc : List Sg) (p : Option Addr) (cap : Nat) (es : List Ent), k ≤ fs.length ∧ i = .int .i64 k ∧ acc.length ≤ k ∧ IsLogE B wr (zoneL X w W) l a st { g with segs := acc } p cap es ∧ Only (zoneL X w W) W wr ∧ loadR g.frm fs [] = loadR g.frm (fs.drop k) acc) (fun i _ => fs.length - (intOf i).toNat)
  case atStart =>
    refine ⟨0, [], p0, cap0, [], Nat.zero_le _, rfl, Nat.le_refl _, ?_, Only.refl _ _, rfl⟩
    have e : { g with segs := [] } = g := by rw [← HSG.out]
    rw [e]
    exact HI.out.toZone HB0.out
  case round =>
    obtain ⟨k, acc, p, cap, es, hk, rfl, hacc, hi1, ho1, hld⟩ := hrel
    have HI1 : Hid (IsLogE B wr (zoneL X w W) l a st { g with segs := acc } p cap es) := hi1
    have HO1 : Hid (Only (zoneL X w W) W wr) := ho1
    have HLD : Hid (loadR g.frm fs [] = loadR g.frm (fs.drop k) acc) := hld
    have HACC : Hid (acc.length ≤ k) := hacc
    by_cases hlt : k < fs.length
    · have hlti : (k : Int) < (fs.length : Int) := by omega
      have hk0 : (0 : Int) ≤ (k : Int) := by omega
      obtain ⟨fb, rfl, hf1, hf2, d0, d1, d2⟩ := file_cells HROW.out rfl hlt
      have hnz := zoneL_not (X := X) hf1 hf2
      have d0 := only_cell ho1 hnz d0
      have d1 := only_cell ho1 hnz d1
      have d2 := only_cell ho1 hnz d2
      obtain ⟨nm, dat, sf, hf⟩ : ∃ nm dat sf, fs[k] = (nm, (dat, sf)) := ⟨_, _, _, rfl⟩
      rw [hf] at d0 d1 d2
      simp only at d0 d1 d2
      have hmem : (nm, (dat, sf)) ∈ fs := by rw [← hf]; exact List.getElem_mem hlt
      have hnl := nmOk_len (HOK.out.names _ hmem)
      have hdl := HOK.out.len hmem
      have hsm := HOK.out.small
      simp only at hnl hdl
      have HDR : Hid (fs.drop k = (nm, (dat, sf)) :: fs.drop (k + 1)) := by
        have := List.drop_eq_getElem_cons hlt
        rw [hf] at this
        exact this
      have HDL : Hid (dat.length ≤ 1048576) := Nat.le_trans hdl hsm
      clear hi1 ho1 hld hacc hf hmem hdl hsm hf1 hf2 hnz
      cases hlog : isLog nm with
      | false =>
        have HN : Hid (loadR g.frm fs [] = loadR g.frm (fs.drop (k + 1)) acc) := by
          have : loadR g.frm fs [] = loadR g.frm (fs.drop (k + 1)) acc := by rw [HLD.out, HDR.out, loadR_skip hlog]
          exact this
        have HPF : Hid (Lib.hasPrefix nm pre4 = false) := by
          have : Lib.hasPrefix nm pre4 = false := by rw [hasPrefix_log, hlog]
          exact this
        clear hlog
        go_wp2_with fail
        refine (Tryz.strings_HasPrefix ⟨nm.toArray⟩ ⟨#[108, 111, 103, 46]⟩ _).mono ?_
        rintro e w1 ⟨rfl, hw1⟩
        rw [show (⟨#[108, 111, 103, 46]⟩ : ByteArray).data.toList = pre4 from rfl]
        simp only [HPF.out]
        have HB1 : Hid (Below wr.heap.size wr w1) := by
          rw [hw1]
          exact (Below.refl _ _).alloc (Nat.le_refl _) _
        clear hw1
        go_wp2
        go_roundw
        case rel => exact ⟨k + 1, acc, p, cap, es, by omega, by go_num, Nat.le_succ_of_le HACC.out, HI1.out.later HB1.out, HO1.out.later HB1.out, HN.out⟩
        case measure => simp [intOf]; omega
      | true =>
        obtain ⟨t, rfl, htl⟩ := isLog_split hlog
        have htl12 : t.length ≤ 12 := by omega
        have HLG : Hid (isLog (pre4 ++ t) = true) := hlog
        have HPF : Hid (Lib.hasPrefix (pre4 ++ t) pre4 = true) := by
          have : Lib.hasPrefix (pre4 ++ t) pre4 = true := by rw [hasPrefix_log, hlog]
          exact this
        obtain ⟨s, hs⟩ : ∃ s : ByteArray, s = ⟨(pre4 ++ t).toArray⟩ := ⟨_, rfl⟩
        have HSS : Hid (s = ⟨(pre4 ++ t).toArray⟩) := hs
        rw [← hs] at d0
        clear hlog hnl htl hs
        go_wp2_with fail
        refine (Tryz.strings_HasPrefix s ⟨#[108, 111, 103, 46]⟩ _).mono ?_
        rintro e w1 ⟨rfl, hw1⟩
        rw [show (⟨#[108, 111, 103, 46]⟩ : ByteArray).data.toList = pre4 from rfl, show s.data.toList = pre4 ++ t by rw [HSS.out]]
        simp only [HPF.out]
        have HB1 : Hid (Below wr.heap.size wr w1) := by
          rw [hw1]
          exact (Below.refl _ _).alloc (Nat.le_refl _) _
        have b0 : w1.cell? ⟨wr.heap.size, 0, none⟩ = some (.string s) := by rw [hw1]; simp
        have b1 : w1.cell? ⟨wr.heap.size, 1, none⟩ = some (.string ⟨dat.toArray⟩) := by rw [hw1]; simp
        have HLIB : Hid (∀ W', Below wr.heap.size wr W' → SV0 W') := fun W' hb => (HI1.out.lib.later HI1.out.base hb).here
        obtain ⟨Y1, hL1⟩ := HI1.out.at
        have HL1 : Hid (LogAt wr Y1 l a { g with segs := acc } p cap es) := hL1
        have HES : Hid (es.length ≤ 64) := by
          have e := hL1.segs
          have : es.length ≤ 64 := by
            have e2 := congrArg List.length e
            rw [List.length_map] at e2
            have := HACC.out
            simp only at e2
            omega
          exact this
        clear hw1 d0 d1 d2 hL1
        go_wp2_with fail
        rw [HSS.out]
        refine (placeOf_any t _ (HLIB.out _ HB1.out) htl12).mono ?_
        rintro e w2 ⟨⟨kk, ok, rfl, hcase⟩, hb2⟩
        have b1 := cell_later hb2 b1
        have HB2 : Hid (Below wr.heap.size wr w2) := HB1.out.trans (hb2.mono HB1.out.size)
        clear b0 hb2
        rcases hcase with ⟨q, hq, rfl, rfl⟩ | ⟨hq, rfl⟩
        · have HPL : Hid (placeN (pre4 ++ t) = some q) := hq
          clear hq
          have c4 := (HL1.out.later HB2.out).lc.c4
          by_cases hz : es = []
          · have hacc0 : acc = [] := by
              have e := HL1.out.segs
              rw [hz] at e
              exact e
            have hgt : decide ((0 : Int) < (es.length : Int)) = false := decide_eq_false (by rw [hz]; simp)
            have hgt2 : decide (0 < es.length) = false := decide_eq_false (by rw [hz]; simp)
            have hgt3 : ¬ (0 : Int) < (es.length : Int) := by rw [hz]; simp
            clear hz
            have HGP : Hid (¬ (acc ≠ [] ∧ q ≠ nextL g.frm acc)) := fun e => e.1 hacc0
            have HQN : Hid ({ g with segs := acc }.segs = [] ∨ q = { g with segs := acc }.next) := Or.inl hacc0
            clear hacc0
            have HBn : Hid (Below wr.heap.size wr w2) := HB2.out
            go_wp2_with (first
              | (go_at_call 23; refine (all_any ⟨dat.toArray⟩ _ (by have := HDL.out; simp [ByteArray.size]; omega)).mono ?_; rintro e w4 ⟨v4, ds, n4, rfl, hall, hv4, hb4⟩; obtain ⟨pr, cr, rfl⟩ := own_form hv4; (have HDS : Hid (ds = fr dat) := hall.fr.1); (have HV4 : Hid (w4.ownsRow w2.heap.size 9 1 (.slice pr ds.length cr) ds.length (sv ds)) := hv4); (have HB4 : Hid (Below wr.heap.size wr w4) := HBn.out.trans (hb4.mono HBn.out.size)); (have m4 := ((HL1.out.later HB4.out).lc).c4); clear hall hv4 hb4)
              | (at_builtin; refine wpList_append_lies _ rfl _ _ 89 rfl 0 100 i0 _ 2 32 Tryz.underlying89 hi hz0 hz1 hz2 rfl (by decide) (.slice p es.length cap) es.length (ec es) rfl ((own_later HL1.out.rows HB4.out).alloc _) ⟨w4.heap.size, 0, none⟩ 1 1 (ec [(q, ds, .slice pr ds.length cr)]) rfl rfl (seg_cells2 _ q ds _ _) (by simp [ec, Value.oneCell']) (by decide) (by have := HES.out; unfold maxLen; omega) (by have := HES.out; omega) (Nat.zero_le _) _ rfl ?_; intro g' cap' w5 hown' hgrow hor hlt5; (have s4 := (HL1.out.grown_lc (HB4.out.alloc HB4.out.size _) hgrow).c4); (have sf := (HL1.out.grown_lc (HB4.out.alloc HB4.out.size _) hgrow).fz)))
            go_roundw
            case rel =>
              obtain ⟨Y1, hL1, hY1, _, hcl⟩ := HI1.out.own (fun k hk => Or.inr (Nat.le_trans HO1.out.size hk))
              obtain ⟨r1, r2⟩ := hL1.more2 hY1 (HB4.out.alloc HB4.out.size _) ((own_mono HV4.out HBn.out.size).alloc _) hgrow hown' (fun j hj => by
                obtain rfl : g' = j := by simpa [Value.ownBlock] using hj
                rcases hor with hor | hor
                · exact Or.inl hor
                · right
                  rw [hor]
                  simp)
              have hw : LgW { { g with segs := acc } with segs := acc ++ [(q, ds)] } := by
                have hfc := fr_count dat
                have hdd := HDL.out
                have hac := HACC.out
                rw [← HDS.out] at hfc
                refine HI1.out.ok.more HQN.out (by rw [HDS.out]; exact fr_small dat) (by omega) (placeN_iff.1 HPL.out).1 ?_
                simp only
                omega
              obtain ⟨r3, r4⟩ := hcl _ _ _ _ _ r1 hw r2
              refine ⟨k + 1, acc ++ [(q, ds)], _, _, _, by omega, by go_num, ?_, r3, HO1.out.trans r4, ?_⟩
              · simp only [List.length_append, List.length_singleton]
                exact Nat.succ_le_succ HACC.out
              · rw [HLD.out, HDR.out, loadR_next HLG.out HPL.out HGP.out, HDS.out]
            case measure => simp [intOf]; omega
          · have hpos : 0 < es.length := List.length_pos_iff.2 hz
            have hgt : decide ((0 : Int) < (es.length : Int)) = true := decide_eq_true (by omega)
            have hgt2 : decide (0 < es.length) = true := decide_eq_true hpos
            have hgt3 : (0 : Int) < (es.length : Int) := by omega
            go_wp2_with fail
            refine (next_any _ Y1 l a _ _ cap _ (HL1.out.later HB2.out) HI1.out.ok).mono ?_
            rintro e w3 ⟨rfl, hb3⟩
            have b1 := cell_later hb3 b1
            have HB3 : Hid (Below wr.heap.size wr w3) := HB2.out.trans (hb3.mono HB2.out.size)
            have c4 := (HL1.out.later HB3.out).lc.c4
            obtain ⟨N, hN⟩ : ∃ N, Lg.next { g with segs := acc } = N := ⟨_, rfl⟩
            have HNN : Hid (Lg.next { g with segs := acc } = N) := hN
            rw [hN]
            have HNE : Hid (acc ≠ []) := by
              have : acc ≠ [] := fun e => by
                have e2 := congrArg List.length HL1.out.segs
                simp only [e] at e2
                rw [List.length_map, List.length_nil] at e2
                omega
              exact this
            clear hb3 hN hz
            by_cases hqn : q = N
            · have HGP : Hid (¬ (acc ≠ [] ∧ q ≠ nextL g.frm acc)) := fun e => e.2 (hqn.trans HNN.out.symm)
              have HQN : Hid ({ g with segs := acc }.segs = [] ∨ q = { g with segs := acc }.next) := Or.inr (hqn.trans HNN.out.symm)
              subst hqn
              have HBn : Hid (Below wr.heap.size wr w3) := HB3.out
              go_wp2_with (first
                | (go_at_call 23; refine (all_any ⟨dat.toArray⟩ _ (by have := HDL.out; simp [ByteArray.size]; omega)).mono ?_; rintro e w4 ⟨v4, ds, n4, rfl, hall, hv4, hb4⟩; obtain ⟨pr, cr, rfl⟩ := own_form hv4; (have HDS : Hid (ds = fr dat) := hall.fr.1); (have HV4 : Hid (w4.ownsRow w3.heap.size 9 1 (.slice pr ds.length cr) ds.length (sv ds)) := hv4); (have HB4 : Hid (Below wr.heap.size wr w4) := HBn.out.trans (hb4.mono HBn.out.size)); (have m4 := ((HL1.out.later HB4.out).lc).c4); clear hall hv4 hb4)
                | (at_builtin; refine wpList_append_lies _ rfl _ _ 89 rfl 0 100 i0 _ 2 32 Tryz.underlying89 hi hz0 hz1 hz2 rfl (by decide) (.slice p es.length cap) es.length (ec es) rfl ((own_later HL1.out.rows HB4.out).alloc _) ⟨w4.heap.size, 0, none⟩ 1 1 (ec [(q, ds, .slice pr ds.length cr)]) rfl rfl (seg_cells2 _ q ds _ _) (by simp [ec, Value.oneCell']) (by decide) (by have := HES.out; unfold maxLen; omega) (by have := HES.out; omega) (Nat.zero_le _) _ rfl ?_; intro g' cap' w5 hown' hgrow hor hlt5; (have s4 := (HL1.out.grown_lc (HB4.out.alloc HB4.out.size _) hgrow).c4); (have sf := (HL1.out.grown_lc (HB4.out.alloc HB4.out.size _) hgrow).fz)))
              go_roundw
              case rel =>
                obtain ⟨Y1, hL1, hY1, _, hcl⟩ := HI1.out.own (fun k hk => Or.inr (Nat.le_trans HO1.out.size hk))
                obtain ⟨r1, r2⟩ := hL1.more2 hY1 (HB4.out.alloc HB4.out.size _) ((own_mono HV4.out HBn.out.size).alloc _) hgrow hown' (fun j hj => by
                  obtain rfl : g' = j := by simpa [Value.ownBlock] using hj
                  rcases hor with hor | hor
                  · exact Or.inl hor
                  · right
                    rw [hor]
                    simp)
                have hw : LgW { { g with segs := acc } with segs := acc ++ [(q, ds)] } := by
                  have hfc := fr_count dat
                  have hdd := HDL.out
                  have hac := HACC.out
                  rw [← HDS.out] at hfc
                  refine HI1.out.ok.more HQN.out (by rw [HDS.out]; exact fr_small dat) (by omega) (placeN_iff.1 HPL.out).1 ?_
                  simp only
                  omega
                obtain ⟨r3, r4⟩ := hcl _ _ _ _ _ r1 hw r2
                refine ⟨k + 1, acc ++ [(q, ds)], _, _, _, by omega, by go_num, ?_, r3, HO1.out.trans r4, ?_⟩
                · simp only [List.length_append, List.length_singleton]
                  exact Nat.succ_le_succ HACC.out
                · rw [HLD.out, HDR.out, loadR_next HLG.out HPL.out HGP.out, HDS.out]
              case measure => simp [intOf]; omega
            · have HLN : Hid (loadR g.frm fs [] = none) := by
                have : loadR g.frm fs [] = none := by rw [HLD.out, HDR.out, loadR_gap HLG.out HPL.out ⟨HNE.out, fun e => hqn (e.trans HNN.out)⟩]
                exact this
              have hqi : ¬ (q : Int) = (N : Int) := by omega
              clear hqn
              go_wp2
              go_ret
              refine ⟨(Only.of HB0.out).trans ((HO1.out.later HB3.out).mono (zoneL_sub HX.out HB0.out.size)), Or.inl ⟨by rw [HFS.out]; exact HLN.out, rfl, { g with segs := acc }, ?_⟩⟩
              exact ((HI1.out.later HB3.out).mono (fun k _ hk => zoneL_sub HX.out HB0.out.size k hk) HI.out.zone).is
        · have HLN : Hid (loadR g.frm fs [] = none) := by
            have : loadR g.frm fs [] = none := by rw [HLD.out, HDR.out, loadR_bad HLG.out hq]
            exact this
          clear hq
          go_wp2
          go_ret
          refine ⟨(Only.of HB0.out).trans ((HO1.out.later HB2.out).mono (zoneL_sub HX.out HB0.out.size)), Or.inl ⟨by rw [HFS.out]; exact HLN.out, rfl, { g with segs := acc }, ?_⟩⟩
          exact ((HI1.out.later HB2.out).mono (fun k _ hk => zoneL_sub HX.out HB0.out.size k hk) HI.out.zone).is
    · have hk' : k = fs.length := by omega
      subst hk'
      go_wp2
      go_ret
      rw [List.drop_length] at hld
      refine ⟨(Only.of HB0.out).trans (HO1.out.mono (zoneL_sub HX.out HB0.out.size)), Or.inr ⟨acc, by rw [HFS.out, hld]; rfl, rfl, ?_⟩⟩
      exact (HI1.out.mono (fun k _ hk => zoneL_sub HX.out HB0.out.size k hk) HI.out.zone).is
end Go.Proofs.YtckmjmpajbjbkaaGreatDoor
/- Walks of layer 6, eleventh part: mend, settle. -/
namespace Go.Proofs.YtckmjmpajbjbkaaGreatDoor
open Go.RowKit

theorem mendS : (⟨#[109, 101, 110, 100]⟩ : ByteArray).data.toList = mendN := rfl
theorem remR_steps (st : St) (s : Nm) : (remR st s).2.steps ≤ st.steps + 1 := stepR_steps _ _ _
theorem appR_steps (st : St) (s : Nm) (t : List UInt8) : (appR st s t).2.steps ≤ st.steps + 1 := stepR_steps _ _ _
theorem synR_steps (st : St) (s : Nm) : (synR st s).2.steps ≤ st.steps + 1 := stepR_steps _ _ _
theorem renR_steps (st : St) (s t : Nm) : (renR st s t).2.steps ≤ st.steps + 1 := stepR_steps _ _ _

set_option maxHeartbeats 8000000 in
set_option maxRecDepth 100000 in
theorem mend_any (B : Nat) (w : World) (X : Nat → Prop) (l a : Nat) (st : St) (g : Lg) (h : IsLog B w X l a st g) (hX : ∀ k, w.heap.size ≤ k → X k) (hst : st.steps < 4611686018427387000) (s t : ByteArray) :
    Calls Tryz.prog 77 #[.pointer (some ⟨l, 0, none⟩), .string s, .string t] w fun e w' => e = .returned (.int .i64 (mendR st s.data.toList t.data.toList).1) ∧ IsLog B w' X l a (mendR st s.data.toList t.data.toList).2 g ∧ Only X w w' := by
  obtain ⟨p, cap, es, h⟩ := h
  have HI : Hid (IsLogE B w X l a st g p cap es) := h
  have HX : Hid (∀ k, w.heap.size ≤ k → X k) := hX
  obtain ⟨Y, hL⟩ := h.at
  have c0 := hL.lc.c0
  obtain ⟨r1, hr1⟩ : ∃ r1, remR st mendN = r1 := ⟨_, rfl⟩
  have s1 := remR_steps st mendN
  rw [hr1] at s1
  obtain ⟨r2, hr2⟩ : ∃ r2, appR r1.2 mendN t.data.toList = r2 := ⟨_, rfl⟩
  have s2 := appR_steps r1.2 mendN t.data.toList
  rw [hr2] at s2
  obtain ⟨r3, hr3⟩ : ∃ r3, synR r2.2 mendN = r3 := ⟨_, rfl⟩
  have s3 := synR_steps r2.2 mendN
  rw [hr3] at s3
  obtain ⟨r4, hr4⟩ : ∃ r4, renR r3.2 mendN s.data.toList = r4 := ⟨_, rfl⟩
  have HM : Hid (mendR st s.data.toList t.data.toList = if r1.1 ≠ 0 ∧ r1.1 ≠ 41 then r1 else if r2.1 ≠ 0 then r2 else if r3.1 ≠ 0 then r3 else r4) := by
    have : mendR st s.data.toList t.data.toList = if r1.1 ≠ 0 ∧ r1.1 ≠ 41 then r1 else if r2.1 ≠ 0 then r2 else if r3.1 ≠ 0 then r3 else r4 := by
      simp only [mendR, thenR, hr1, hr2, hr3, hr4]
    exact this
  have HR1 : Hid (remR st mendN = r1) := hr1
  have HR2 : Hid (appR r1.2 mendN t.data.toList = r2) := hr2
  have HR3 : Hid (synR r2.2 mendN = r3) := hr3
  have HR4 : Hid (renR r3.2 mendN s.data.toList = r4) := hr4
  clear h hX hL hr1 hr2 hr3 hr4
  go_enter Tryz.func77, Tryz.ntmps77
  go_wp2_with fail
  refine (dremove_any HI.out HX.out (by omega) ⟨#[109, 101, 110, 100]⟩).mono ?_
  rintro e w1 ⟨rfl, hi1, ho1⟩
  rw [mendS, HR1.out] at hi1
  rw [mendS, HR1.out]
  have HI1 : Hid (IsLogE B w1 X l a r1.2 g p cap es) := hi1
  have HO1 : Hid (Only X w w1) := ho1
  obtain ⟨Y1, hL1⟩ := hi1.at
  have c1 := hL1.lc.c0
  have z1 := ho1.size
  clear hi1 ho1 hL1
  by_cases h1 : r1.1 ≠ 0 ∧ r1.1 ≠ 41
  · obtain ⟨h1a, h1b⟩ := h1
    have g1 : (r1.1 != 0) = true := bne_iff_ne.2 h1a
    have g2 : (r1.1 != 41) = true := bne_iff_ne.2 h1b
    have HG1 : Hid (r1.1 ≠ 0 ∧ r1.1 ≠ 41) := ⟨h1a, h1b⟩
    clear h1a h1b
    go_wp2
    go_ret
    rw [HM.out, if_pos HG1.out]
    exact ⟨rfl, HI1.out.is, HO1.out⟩
  · have h1c : r1.1 = 0 ∨ r1.1 = 41 := by omega
    have HM2 : Hid (mendR st s.data.toList t.data.toList = if r2.1 ≠ 0 then r2 else if r3.1 ≠ 0 then r3 else r4) := by
      have := HM.out
      rw [if_neg h1] at this
      exact this
    clear h1
    rcases h1c with he | he
    all_goals
      rw [he]
      clear he
      go_wp2_with fail
      refine (dappend_any HI1.out (fun k hk => HX.out k (by omega)) (by omega) ⟨#[109, 101, 110, 100]⟩ t).mono ?_
      rintro e w2 ⟨rfl, hi2, ho2⟩
      rw [mendS, HR2.out] at hi2
      rw [mendS, HR2.out]
      have HI2 : Hid (IsLogE B w2 X l a r2.2 g p cap es) := hi2
      have HO2 : Hid (Only X w w2) := HO1.out.trans ho2
      obtain ⟨Y2, hL2⟩ := hi2.at
      have c2 := hL2.lc.c0
      have z2 := ho2.size
      clear hi2 ho2 hL2
      by_cases h2 : r2.1 = 0
      · have HM3 : Hid (mendR st s.data.toList t.data.toList = if r3.1 ≠ 0 then r3 else r4) := by
          have := HM2.out
          rw [if_neg (by rw [h2]; simp)] at this
          exact this
        rw [h2]
        clear h2
        go_wp2_with fail
        refine (dsync_any HI2.out (fun k hk => HX.out k (by omega)) (by omega) ⟨#[109, 101, 110, 100]⟩).mono ?_
        rintro e w3 ⟨rfl, hi3, ho3⟩
        rw [mendS, HR3.out] at hi3
        rw [mendS, HR3.out]
        have HI3 : Hid (IsLogE B w3 X l a r3.2 g p cap es) := hi3
        have HO3 : Hid (Only X w w3) := HO2.out.trans ho3
        obtain ⟨Y3, hL3⟩ := hi3.at
        have c3 := hL3.lc.c0
        have z3 := ho3.size
        clear hi3 ho3 hL3
        by_cases h3 : r3.1 = 0
        · have HM4 : Hid (mendR st s.data.toList t.data.toList = r4) := by
            have := HM3.out
            rw [if_neg (by rw [h3]; simp)] at this
            exact this
          rw [h3]
          clear h3
          go_wp2_with fail
          refine (drename_any HI3.out (fun k hk => HX.out k (by omega)) (by omega) ⟨#[109, 101, 110, 100]⟩ s).mono ?_
          rintro e w4 ⟨rfl, hi4, ho4⟩
          rw [mendS, HR4.out] at hi4
          rw [mendS, HR4.out]
          go_wp2
          go_ret
          rw [HM4.out]
          exact ⟨rfl, hi4.is, HO3.out.trans ho4⟩
        · go_wp2
          go_ret
          rw [HM3.out, if_pos h3]
          exact ⟨rfl, HI3.out.is, HO3.out⟩
      · go_wp2
        go_ret
        rw [HM2.out, if_pos h2]
        exact ⟨rfl, HI2.out.is, HO2.out⟩
end Go.Proofs.YtckmjmpajbjbkaaGreatDoor
/- Walks of layer 6, twelfth part: settle. -/
namespace Go.Proofs.YtckmjmpajbjbkaaGreatDoor
open Go.RowKit

theorem readR_len {st : St} (h : OKs st) (s : Nm) : (readR st s).1.length ≤ 1048576 := by
  unfold readR
  split
  · simp
  · split
    · simp
    · simp only [fileOf]
      cases hg : getL st.fs s with
      | none => simp
      | some x =>
        have h1 := h.files.len (getL_mem hg)
        have h2 := h.files.small
        simp only [Option.getD_some] at h1 ⊢
        omega
theorem settleR_nil (st : St) : settleR st [] = (0, st) := by simp [settleR]
theorem settleR_err {st : St} {l : List Sg} {n : Nm} {r : List UInt8 × Int} (hl : l ≠ []) (hn : nameN (lastL l).1 = n) (hr : readR st n = r) (h : r.2 ≠ 0) : settleR st l = (r.2, st) := by
  rw [settleR, if_neg hl, hn, hr, if_pos h]
theorem settleR_torn {st : St} {l : List Sg} {n : Nm} {r : List UInt8 × Int} (hl : l ≠ []) (hn : nameN (lastL l).1 = n) (hr : readR st n = r) (h : r.2 = 0) (ht : (cat (fr r.1)).length < r.1.length) : settleR st l = mendR st n (cat (fr r.1)) := by
  rw [settleR, if_neg hl, hn, hr, if_neg (by rw [h]; simp), if_pos ht]
theorem settleR_whole {st : St} {l : List Sg} {n : Nm} {r : List UInt8 × Int} (hl : l ≠ []) (hn : nameN (lastL l).1 = n) (hr : readR st n = r) (h : r.2 = 0) (ht : ¬ (cat (fr r.1)).length < r.1.length) : settleR st l = synR st n := by
  rw [settleR, if_neg hl, hn, hr, if_neg (by rw [h]; simp), if_neg ht]

set_option maxHeartbeats 8000000 in
set_option maxRecDepth 100000 in
theorem settle_any (B : Nat) (w : World) (X : Nat → Prop) (l a : Nat) (st : St) (g : Lg) (h : IsLog B w X l a st g) (hX : ∀ k, w.heap.size ≤ k → X k) (hst : st.steps < 4611686018427387000) :
    Calls Tryz.prog 48 #[.pointer (some ⟨l, 0, none⟩)] w fun e w' => e = .returned (.int .i64 (settleR st g.segs).1) ∧ IsLog B w' X l a (settleR st g.segs).2 g ∧ Only X w w' := by
  obtain ⟨p, cap, es, h⟩ := h
  have HI : Hid (IsLogE B w X l a st g p cap es) := h
  have HX : Hid (∀ k, w.heap.size ≤ k → X k) := hX
  obtain ⟨Y, hL⟩ := h.at
  obtain ⟨Z, hD⟩ := h.is_disk
  rcases List.eq_nil_or_concat es with rfl | ⟨A, x, rfl⟩
  · have c4 := hL.lc.c4
    have hs : g.segs = [] := hL.segs
    have HE : Hid (settleR st g.segs = (0, st)) := by
      have : settleR st g.segs = (0, st) := by rw [hs, settleR_nil]
      exact this
    simp only [List.length_nil] at c4
    clear h hX hL hD hs
    go_enter Tryz.func48, Tryz.ntmps48
    go_wp2
    go_ret
    rw [HE.out]
    exact ⟨rfl, HI.out.is, Only.refl _ _⟩
  · rw [List.concat_eq_append] at *
    have hne : g.segs ≠ [] := by rw [hL.next.2.2]; simp
    obtain ⟨hx1, hx2, hA⟩ := hL.lastok h.ok
    obtain ⟨b, rfl, _, _, _, d0, d1, _, c4⟩ := hL.last
    obtain ⟨q, c, eq, _⟩ := own_slice (hL.recs x (by simp))
    rw [eq] at d1
    have c0 := hL.lc.c0
    have hn : nameN (lastL g.segs).1 = nameN x.1 := by rw [hL.next.2.1]
    obtain ⟨r, hr⟩ : ∃ r, readR st (nameN x.1) = r := ⟨_, rfl⟩
    have HRL : Hid (r.1.length ≤ 1048576) := by
      have := readR_len h.dok (nameN x.1)
      rw [hr] at this
      exact this
    have HN : Hid (∀ w', Below w.heap.size w w' → SV0 w') := fun w' hb => (h.lib.later h.base hb).here
    have HD : Hid (IsDisk w Z a st) := hD
    have HR : Hid (readR st (nameN x.1) = r) := hr
    have HNE : Hid (g.segs ≠ []) := hne
    have HNM : Hid (nameN (lastL g.segs).1 = nameN x.1) := hn
    have hl0 : ¬ ((A.length + 1 : Nat) : Int) = 0 := by omega
    have hl1 : ¬ ((A.length : Int) + 1) = 0 := by omega
    clear h hX hL hD eq hr hn hne
    go_enter Tryz.func48, Tryz.ntmps48
    go_wp2_with (first
      | (go_at_call 54; refine (last_any _ l b A.length cap c4 hA).mono ?_; rintro e w1 ⟨rfl, hb1⟩; (have k0 := cell_later hb1 c0); (have k5 := cell_later hb1 d0); (have k6 := cell_later hb1 d1); (have HB1 : Hid (Below w.heap.size w w1) := hb1); clear hb1)
      | (go_at_call 55; refine (name_any x.1 x.2.1.length c q _ (HN.out _ HB1.out) hx1).mono ?_; rintro e w2 ⟨rfl, hb2⟩; (have m0 := cell_later hb2 k0); (have HB2 : Hid (Below w.heap.size w w2) := HB1.out.trans (hb2.mono HB1.out.size)); clear hb2))
    refine (read_any _ Z a st ⟨(nameN x.1).toArray⟩ (HD.out.later HB2.out)).mono ?_
    rintro e w3 ⟨rfl, hb3⟩
    simp only [HR.out]
    have n0 := cell_later hb3 m0
    have HB3 : Hid (Below w.heap.size w w3) := HB2.out.trans (hb3.mono HB2.out.size)
    clear hb3
    by_cases he : r.2 = 0
    · have HE : Hid (r.2 = 0) := he
      obtain ⟨s, hs⟩ : ∃ s : ByteArray, s = ⟨r.1.toArray⟩ := ⟨_, rfl⟩
      have HS : Hid (s.data.toList = r.1) := by
        have : s.data.toList = r.1 := by rw [hs]
        exact this
      have hsz : s.size ≤ 1048576 := by
        have : s.size = r.1.length := by rw [hs]; simp [ByteArray.size]
        have := HRL.out
        omega
      have HSZ : Hid (s.size = r.1.length) := by
        have : s.size = r.1.length := by rw [hs]; simp [ByteArray.size]
        exact this
      rw [← hs, he]
      clear he hs
      go_wp2_with fail
      refine (all_any s _ (by omega)).mono ?_
      rintro e w4 ⟨v4, ds, n4, rfl, hall, hv4, hb4⟩
      have hall2 : AllIs r.1 ds n4 := by rw [← HS.out]; exact hall
      have HN4 : Hid (n4 = (cat (fr r.1)).length) := hall2.fr.2
      have q0 := cell_later hb4 n0
      have HB4 : Hid (Below w.heap.size w w4) := HB3.out.trans (hb4.mono HB3.out.size)
      have z4 := HB4.out.size
      clear hall hall2 hv4 hb4
      by_cases ht : n4 < s.size
      · have HST : Hid (settleR st g.segs = mendR st (nameN x.1) (cat (fr r.1))) := settleR_torn HNE.out HNM.out HR.out HE.out (by rw [← HN4.out, ← HSZ.out]; exact ht)
        have hti : (n4 : Int) < (s.size : Int) := by omega
        have hle : n4 ≤ s.size := by omega
        have HFR : Hid ((s.extract 0 n4).data.toList = cat (fr r.1)) := by
          have : (s.extract 0 n4).data.toList = cat (fr r.1) := by
            rw [extract_list, HS.out, List.drop_zero, Nat.sub_zero, HN4.out, fr_front]
          exact this
        go_wp2_with fail
        refine (mend_any B _ X l a st g (HI.out.later HB4.out).is (fun k hk => HX.out k (by omega)) hst ⟨(nameN x.1).toArray⟩ (s.extract 0 n4)).mono ?_
        rintro e w5 ⟨rfl, hi5, ho5⟩
        simp only [HFR.out] at hi5 ⊢
        go_wp2
        go_ret
        rw [HST.out]
        exact ⟨rfl, hi5, (Only.of HB4.out).trans ho5⟩
      · have HST : Hid (settleR st g.segs = synR st (nameN x.1)) := settleR_whole HNE.out HNM.out HR.out HE.out (by rw [← HN4.out, ← HSZ.out]; exact ht)
        have hti : ¬ (n4 : Int) < (s.size : Int) := by omega
        go_wp2_with fail
        refine (dsync_any (HI.out.later HB4.out) (fun k hk => HX.out k (by omega)) (by omega) ⟨(nameN x.1).toArray⟩).mono ?_
        rintro e w5 ⟨rfl, hi5, ho5⟩
        simp only at hi5 ⊢
        go_wp2
        go_ret
        rw [HST.out]
        exact ⟨rfl, hi5.is, (Only.of HB4.out).trans ho5⟩
    · have HST : Hid (settleR st g.segs = (r.2, st)) := settleR_err HNE.out HNM.out HR.out he
      go_wp2
      go_ret
      rw [HST.out]
      exact ⟨rfl, (HI.out.later HB3.out).is, Only.of HB3.out⟩
end Go.Proofs.YtckmjmpajbjbkaaGreatDoor
/- Walks of layer 6, thirteenth part: Open. -/
namespace Go.Proofs.YtckmjmpajbjbkaaGreatDoor
open Go.RowKit

def argBad (f size : Int) : Prop := f < 0 ∨ 1000000000000 ≤ f ∨ size < 1 ∨ 1024 < size
theorem openR_arg {st : St} {f size : Int} (h : argBad f size) : openR st f size = (1, st, none) := by unfold argBad at h; rw [openR, if_pos h]
theorem openR_down {st : St} {f size : Int} (h : ¬ argBad f size) (hd : st.down = true) : openR st f size = (3, st, none) := by unfold argBad at h; rw [openR, if_neg h, if_pos hd]
theorem openR_log {st : St} {f size : Int} (h : ¬ argBad f size) (hd : st.down = false) (hl : loadR f.toNat st.fs [] = none) : openR st f size = (60, st, none) := by unfold argBad at h; rw [openR, if_neg h, if_neg (by rw [hd]; simp), hl]
theorem openR_err {st : St} {f size : Int} {L : List Sg} (h : ¬ argBad f size) (hd : st.down = false) (hl : loadR f.toNat st.fs [] = some L) (hs : (settleR st L).1 ≠ 0) : openR st f size = ((settleR st L).1, (settleR st L).2, none) := by
  unfold argBad at h
  rw [openR, if_neg h, if_neg (by rw [hd]; simp), hl]
  simp only
  rw [if_pos hs]
theorem openR_ok {st : St} {f size : Int} {L : List Sg} (h : ¬ argBad f size) (hd : st.down = false) (hl : loadR f.toNat st.fs [] = some L) (hs : (settleR st L).1 = 0) : openR st f size = (0, (settleR st L).2, some { size := size.toNat, frm := f.toNat, safe := nextL f.toNat L, segs := L }) := by
  unfold argBad at h
  rw [openR, if_neg h, if_neg (by rw [hd]; simp), hl]
  simp only
  rw [if_neg (by rw [hs]; simp)]

/-- What Open leaves. -/
def OpenP (B : Nat) (w : World) (X : Nat → Prop) (a : Nat) (r : Int × St × Option Lg) (e : Ending) (w' : World) : Prop :=
  Only X w w' ∧ ((r.2.2 = none ∧ e = .returned (.tuple #[.pointer none, .int .i64 r.1]) ∧ IsDisk w' X a r.2.1) ∨ ∃ l g, r.2.2 = some g ∧ e = .returned (.tuple #[.pointer (some ⟨l, 0, none⟩), .int .i64 r.1]) ∧ IsLog B w' X l a r.2.1 g)
theorem IsLog.toDisk {B : Nat} {w : World} {X : Nat → Prop} {l a : Nat} {st : St} {g : Lg} (h : IsLog B w X l a st g) : IsDisk w X a st := by
  obtain ⟨p, cap, es, _, _, _, _, Z, Y, k1, _, _, k4, _⟩ := h
  exact k1.mono fun k _ hk => k4 k hk

/-- A log that has just been made. -/
theorem logMade {B : Nat} {w : World} {X : Nat → Prop} {a : Nat} {st : St} (hB : B ≤ w.heap.size) (hV : SV B w) (hz : ∀ k, X k → B ≤ k) (hX : ∀ k, w.heap.size ≤ k → X k) (hD : IsDisk w X a st) (g : Lg) (hg : LgW g) (hs : g.segs = []) :
    IsLogE B (w.alloc (.cells (lcells a g (.slice none 0 0)) 91)) X w.heap.size a st g none 0 [] := by
  have hb : Below w.heap.size w (w.alloc (.cells (lcells a g (.slice none 0 0)) 91)) := (Below.refl _ _).alloc (Nat.le_refl _) _
  have hD2 : IsDisk w (fun k => X k ∧ k < w.heap.size) a st := hD.mono fun k hk hx => ⟨hx, hk⟩
  refine ⟨Nat.le_trans hB hb.size, hV.later hB hb, hz, hg, fun k => X k ∧ k < w.heap.size, fun k => k = w.heap.size, hD2.later hb, ⟨?_, rfl, hs, World.ownsRow_nil _ _ _ _, fun b hb => (by cases hb), fun e he => (by cases he), fun e he => (by cases he), List.Pairwise.nil⟩, fun k h1 h2 => by omega, fun k hk => hk.1, fun k hk => hX k (by omega)⟩
  exact heap_alloc_new w _

set_option maxHeartbeats 8000000 in
set_option maxRecDepth 100000 in
theorem open_any (B : Nat) (w : World) (X : Nat → Prop) (a : Nat) (st : St) (hB : B ≤ w.heap.size) (hV : SV B w) (hz : ∀ k, X k → B ≤ k) (hX : ∀ k, w.heap.size ≤ k → X k) (hD : IsDisk w X a st) (hst : st.steps < 4611686018427387000) (f size : Int) :
    Calls Tryz.prog 13 #[.pointer (some ⟨a, 0, none⟩), .int .i64 f, .int .i64 size] w (OpenP B w X a (openR st f size)) := by
  have HB : Hid (B ≤ w.heap.size) := hB
  have HV : Hid (SV B w) := hV
  have HZ : Hid (∀ k, X k → B ≤ k) := hz
  have HX : Hid (∀ k, w.heap.size ≤ k → X k) := hX
  have HD : Hid (IsDisk w X a st) := hD
  clear hB hV hz hX hD
  by_cases h1 : f < 0
  · have HE : Hid (openR st f size = (1, st, none)) := openR_arg (Or.inl h1)
    have g1 : decide (f < 0) = true := decide_eq_true h1
    go_enter Tryz.func13, Tryz.ntmps13
    go_wp2
    refine bodyPost_ret (v := .tuple #[.pointer none, .int .i64 1]) (by simp [results, Tryz.results13, go_sem]) rfl ?_
    rw [HE.out]
    exact ⟨Only.refl _ _, Or.inl ⟨rfl, rfl, HD.out⟩⟩
  have g1 : decide (f < 0) = false := decide_eq_false h1
  by_cases h2 : 1000000000000 ≤ f
  · have HE : Hid (openR st f size = (1, st, none)) := openR_arg (Or.inr (Or.inl h2))
    have g2 : decide (1000000000000 ≤ f) = true := decide_eq_true h2
    clear h1 h2
    go_enter Tryz.func13, Tryz.ntmps13
    go_wp2
    refine bodyPost_ret (v := .tuple #[.pointer none, .int .i64 1]) (by simp [results, Tryz.results13, go_sem]) rfl ?_
    rw [HE.out]
    exact ⟨Only.refl _ _, Or.inl ⟨rfl, rfl, HD.out⟩⟩
  have g2 : decide (1000000000000 ≤ f) = false := decide_eq_false h2
  by_cases h3 : size < 1
  · have HE : Hid (openR st f size = (1, st, none)) := openR_arg (Or.inr (Or.inr (Or.inl h3)))
    have g3 : decide (size < 1) = true := decide_eq_true h3
    clear h1 h2 h3
    go_enter Tryz.func13, Tryz.ntmps13
    go_wp2
    refine bodyPost_ret (v := .tuple #[.pointer none, .int .i64 1]) (by simp [results, Tryz.results13, go_sem]) rfl ?_
    rw [HE.out]
    exact ⟨Only.refl _ _, Or.inl ⟨rfl, rfl, HD.out⟩⟩
  have g3 : decide (size < 1) = false := decide_eq_false h3
  by_cases h4 : 1024 < size
  · have HE : Hid (openR st f size = (1, st, none)) := openR_arg (Or.inr (Or.inr (Or.inr h4)))
    have g4 : decide (1024 < size) = true := decide_eq_true h4
    clear h1 h2 h3 h4
    go_enter Tryz.func13, Tryz.ntmps13
    go_wp2
    refine bodyPost_ret (v := .tuple #[.pointer none, .int .i64 1]) (by simp [results, Tryz.results13, go_sem]) rfl ?_
    rw [HE.out]
    exact ⟨Only.refl _ _, Or.inl ⟨rfl, rfl, HD.out⟩⟩
  have g4 : decide (1024 < size) = false := decide_eq_false h4
  have HBAD : Hid (¬ argBad f size) := fun e => by
    rcases e with e | e | e | e
    · exact h1 e
    · exact h2 e
    · exact h3 e
    · exact h4 e
  obtain ⟨F, rfl⟩ : ∃ F : Nat, f = (F : Int) := ⟨f.toNat, by omega⟩
  obtain ⟨S, rfl⟩ : ∃ S : Nat, size = (S : Int) := ⟨size.toNat, by omega⟩
  have HFS : Hid (F < 1000000000000 ∧ 1 ≤ S ∧ S ≤ 1024) := by
    have : F < 1000000000000 ∧ 1 ≤ S ∧ S ≤ 1024 := by omega
    exact this
  clear h1 h2 h3 h4
  cases hd : st.down with
  | true =>
    have HE : Hid (openR st (F : Int) (S : Int) = (3, st, none)) := openR_down HBAD.out hd
    have HDN : Hid (st.down = true) := hd
    clear hd
    go_enter Tryz.func13, Tryz.ntmps13
    go_wp2_with (first | (go_at_call 17; refine (down_any _ X a st HD.out).mono ?_; rintro e w1 ⟨rfl, hw1⟩; rw [HDN.out]; (have hw1' := hw1.symm); subst hw1'; clear hw1))
    refine bodyPost_ret (v := .tuple #[.pointer none, .int .i64 3]) (by simp [results, Tryz.results13, go_sem]) rfl ?_
    rw [HE.out]
    exact ⟨Only.refl _ _, Or.inl ⟨rfl, rfl, HD.out⟩⟩
  | false =>
    have HDN : Hid (st.down = false) := hd
    clear hd
    obtain ⟨g, hg⟩ : ∃ g : Lg, g = { size := S, frm := F, safe := 0, segs := [] } := ⟨_, rfl⟩
    have HG : Hid (g = { size := S, frm := F, safe := 0, segs := [] }) := hg
    have HM : Hid (IsLogE B (w.alloc (.cells (lcells a g (.slice none 0 0)) 91)) X w.heap.size a st g none 0 []) := logMade HB.out HV.out HZ.out HX.out HD.out g (by
      have := HFS.out
      rw [hg]
      exact ⟨⟨this.2.1, this.2.2⟩, this.1, trivial, by simp, by simp, by simp, by simp⟩) (by rw [hg])
    have HC : Hid (lcells a g (.slice none 0 0) = #[.pointer (some ⟨a, 0, none⟩), .int .i64 (S : Int), .int .i64 (F : Int), .int .i64 0, .slice none 0 0]) := by
      have : lcells a g (.slice none 0 0) = #[.pointer (some ⟨a, 0, none⟩), .int .i64 (S : Int), .int .i64 (F : Int), .int .i64 0, .slice none 0 0] := by rw [hg]; rfl
      exact this
    have HFR : Hid (g.frm = F) := by
      have : g.frm = F := by rw [hg]
      exact this
    clear hg
    go_enter Tryz.func13, Tryz.ntmps13
    go_wp2_with (first | (go_at_call 17; refine (down_any _ X a st HD.out).mono ?_; rintro e w1 ⟨rfl, hw1⟩; rw [HDN.out]; (have hw1' := hw1.symm); subst hw1'; clear hw1))
    obtain ⟨W, hW⟩ : ∃ W, W = w.alloc (.cells #[.pointer (some ⟨a, 0, none⟩), .int .i64 (S : Int), .int .i64 (F : Int), .int .i64 0, .slice none 0 0] 91) := ⟨_, rfl⟩
    have HMW : Hid (IsLogE B W X w.heap.size a st g none 0 []) := by
      have := HM.out
      rw [HC.out, ← hW] at this
      exact this
    have HBW : Hid (Below w.heap.size w W) := by
      rw [hW]
      exact (Below.refl _ _).alloc (Nat.le_refl _) _
    rw [← hW]
    obtain ⟨l, hl⟩ : ∃ l, l = w.heap.size := ⟨_, rfl⟩
    have HLL : Hid (l = w.heap.size) := hl
    rw [← hl] at HMW ⊢
    have zW := HBW.out.size
    clear hW hl
    refine (load_any B _ X l a st g none 0 HMW.out (fun k hk => HX.out k (by omega))).mono ?_
    rintro e w1 ⟨ho1, hcase⟩
    have HO1 : Hid (Only X w w1) := (Only.of HBW.out).trans ho1
    have z1 := ho1.size
    clear ho1
    rcases hcase with ⟨hl, rfl, g', hi1⟩ | ⟨L, hl, rfl, hi1⟩
    all_goals rw [HFR.out] at hl
    · have HE : Hid (openR st (F : Int) (S : Int) = (60, st, none)) := openR_log HBAD.out HDN.out (by rw [Int.toNat_natCast]; exact hl)
      have HI1 : Hid (IsLog B w1 X l a st g') := hi1
      clear hl hi1
      go_wp2
      refine bodyPost_ret (v := .tuple #[.pointer none, .int .i64 60]) (by simp [results, Tryz.results13, go_sem]) rfl ?_
      rw [HE.out]
      exact ⟨HO1.out, Or.inl ⟨rfl, rfl, HI1.out.toDisk⟩⟩
    · have HLD : Hid (loadR F st.fs [] = some L) := hl
      have HI1 : Hid (IsLog B w1 X l a st { g with segs := L }) := hi1
      clear hl hi1
      go_wp2_with fail
      refine (settle_any B _ X l a st { g with segs := L } HI1.out (fun k hk => HX.out k (by omega)) hst).mono ?_
      rintro e w2 ⟨rfl, hi2, ho2⟩
      simp only at hi2 ⊢
      have HO2 : Hid (Only X w w2) := HO1.out.trans ho2
      have z2 := ho2.size
      have HI2 : Hid (IsLog B w2 X l a (settleR st L).2 { g with segs := L }) := hi2
      clear hi2 ho2
      by_cases hs : (settleR st L).1 = 0
      · have HE : Hid (openR st (F : Int) (S : Int) = (0, (settleR st L).2, some { size := S, frm := F, safe := nextL F L, segs := L })) := by
          have := openR_ok (f := (F : Int)) (size := (S : Int)) HBAD.out HDN.out (by rw [Int.toNat_natCast]; exact HLD.out) hs
          rw [Int.toNat_natCast, Int.toNat_natCast] at this
          exact this
        rw [hs]
        clear hs
        obtain ⟨p2, cap2, es2, hE2⟩ := HI2.out
        obtain ⟨Y3, hL3, hY3, _, hcl⟩ := hE2.own (fun k hk => HX.out k (by omega))
        have HL3 : Hid (LogAt w2 Y3 l a { g with segs := L } p2 cap2 es2) := hL3
        have HW3 : Hid (LgW { g with segs := L }) := hE2.ok
        have HCL : Hid (∀ w1 g' p' cap' es', LogAt w1 Y3 l a g' p' cap' es' → LgW g' → Only Y3 w2 w1 → IsLogE B w1 X l a (settleR st L).2 g' p' cap' es' ∧ Only X w2 w1) := hcl
        clear hE2 hL3 hY3 hcl
        go_wp2_with (first | (go_at_call 20; refine (next_any _ Y3 l a _ p2 cap2 es2 HL3.out HW3.out).mono ?_; rintro e w3 ⟨rfl, hb3⟩; (have s3 := (HL3.out.later hb3).lc.c3); (have sf := (HL3.out.later hb3).lc.fz)))
        refine bodyPost_ret (v := .tuple #[.pointer (some ⟨l, 0, none⟩), .int .i64 0]) (by simp [results, Tryz.results13, go_sem]) rfl ?_
        have hnx : Lg.next { g with segs := L } = nextL F L := by unfold Lg.next; rw [HFR.out]
        have hlw := (HL3.out.later hb3).stored (i := 3) (v := .int .i64 ((Lg.next { g with segs := L } : Nat) : Int)) (g' := { { g with segs := L } with safe := Lg.next { g with segs := L } }) (by simp [lcells]) rfl
        obtain ⟨r1, r2⟩ := HCL.out _ _ _ _ _ hlw (HW3.out.synced _) ((Only.of hb3).setCell (p := ⟨l, 3, none⟩) HL3.out.zl _)
        rw [HE.out]
        refine ⟨HO2.out.trans r2, Or.inr ⟨l, _, rfl, rfl, ?_⟩⟩
        have eg : { { g with segs := L } with safe := Lg.next { g with segs := L } } = ({ size := S, frm := F, safe := nextL F L, segs := L } : Lg) := by rw [hnx, HG.out]
        rw [eg] at r1
        exact r1.is
      · have HE : Hid (openR st (F : Int) (S : Int) = ((settleR st L).1, (settleR st L).2, none)) := openR_err HBAD.out HDN.out (by rw [Int.toNat_natCast]; exact HLD.out) hs
        go_wp2
        refine bodyPost_ret (v := .tuple #[.pointer none, .int .i64 (settleR st L).1]) (by simp [results, Tryz.results13, go_sem]) rfl ?_
        rw [HE.out]
        exact ⟨HO2.out, Or.inl ⟨rfl, rfl, HI2.out.toDisk⟩⟩
end Go.Proofs.YtckmjmpajbjbkaaGreatDoor
/- Walks of layer 6, fourteenth part: the statements' first calls (awake). -/
namespace Go.Proofs.YtckmjmpajbjbkaaGreatDoor
open Go.RowKit

theorem zone_new {w w1 : World} (h : w.heap.size ≤ w1.heap.size) : ∀ k, w1.heap.size ≤ k → (fun k => w.heap.size ≤ k) k := fun _ hk => Nat.le_trans h hk
theorem Only.zone {w w1 w2 : World} (hb : Below w.heap.size w w1) (ho : Only (fun k => w.heap.size ≤ k) w1 w2) : Below w.heap.size w w2 := hb.trans (ho.below hb.size (fun _ hk h => by omega))
theorem new_a0 : newE 1000 [] = 0 ∧ newSt 1000 [] = a0 := ⟨by decide, rfl⟩
theorem IsLog.all {B : Nat} {w : World} {X : Nat → Prop} {l a : Nat} {st : St} {g : Lg} (h : IsLog B w X l a st g) : ∃ Y Z p cap es, LogAt w Y l a g p cap es ∧ LgW g ∧ IsDisk w Z a st := by
  obtain ⟨p, cap, es, _, _, _, hg, Z, Y, k1, k2, _⟩ := h
  exact ⟨Y, Z, p, cap, es, k2, hg, k1⟩

set_option maxHeartbeats 8000000 in
set_option maxRecDepth 100000 in
theorem awake_any (B : Nat) (w : World) (hB : B ≤ w.heap.size) (hV : SV B w) : Calls Tryz.prog 8 #[] w fun e w' => e = .returned (.bool true) ∧ Below w.heap.size w w' := by
  have HB : Hid (B ≤ w.heap.size) := hB
  have HV : Hid (SV B w) := hV
  clear hB hV
  obtain ⟨st1, hst1⟩ : ∃ st1, st1 = q1.2.1 := ⟨_, rfl⟩
  obtain ⟨g1, hg1⟩ : ∃ g1, g1 = q1.2.2 := ⟨_, rfl⟩
  obtain ⟨st2, hst2⟩ : ∃ st2, st2 = q2.2.1 := ⟨_, rfl⟩
  obtain ⟨g2, hg2⟩ : ∃ g2, g2 = q2.2.2 := ⟨_, rfl⟩
  obtain ⟨st3, hst3⟩ : ∃ st3, st3 = q3.2.1 := ⟨_, rfl⟩
  obtain ⟨g3, hg3⟩ : ∃ g3, g3 = q3.2.2 := ⟨_, rfl⟩
  have HQ1 : Hid (appendL a0 l0 [97] = ((5, 0), st1, g1)) := by
    have : appendL a0 l0 [97] = ((5, 0), st1, g1) := by rw [hst1, hg1, ← aw_1.1]; rfl
    exact this
  have HQ2 : Hid (appendL st1 g1 [98] = ((6, 0), st2, g2)) := by
    have : appendL st1 g1 [98] = ((6, 0), st2, g2) := by rw [hst1, hg1, hst2, hg2, ← aw_2.1]; rfl
    exact this
  have HQ3 : Hid (appendL st2 g2 [99] = ((7, 0), st3, g3)) := by
    have : appendL st2 g2 [99] = ((7, 0), st3, g3) := by rw [hst2, hg2, hst3, hg3, ← aw_3.1]; rfl
    exact this
  have HS1 : Hid (st1.steps = 1 ∧ g1.segs.isEmpty = false) := by rw [hst1, hg1]; exact aw_1.2
  have HS2 : Hid (st2.steps = 2 ∧ g2.segs.isEmpty = false) := by rw [hst2, hg2]; exact aw_2.2
  have HS3 : Hid (g3.safe = 7 ∧ g3.next = 8) := by rw [hg3]; exact aw_3.2
  have HR6 : Hid (readL g3 6 = ([98], 0)) := by rw [hg3]; exact aw_r6
  have HR8 : Hid (readL g3 8 = ([], 61)) := by rw [hg3]; exact aw_r8
  have HF3 : Hid (st3.fs = [([108, 111, 103, 46, 48, 48, 48, 48, 48, 48, 48, 48, 48, 48, 48, 53], (cat [[97], [98]], 14)), ([108, 111, 103, 46, 48, 48, 48, 48, 48, 48, 48, 48, 48, 48, 48, 55], (cat [[99]], 0))]) := by rw [hst3]; exact aw_fs
  clear hst1 hg1 hst2 hg2 hst3 hg3
  go_enter Tryz.func8, Tryz.ntmps8
  go_wp2_with fail
  refine (new_any 1000 none 0 [] w (by simp) (by simp) (FRow.nil _ _)).mono ?_
  rintro e w1 ⟨hb1, hN⟩
  rcases hN with ⟨hN, _⟩ | ⟨_, a, rfl, hi1⟩
  · exact absurd new_a0.1 hN
  rw [new_a0.2] at hi1
  have HB1 : Hid (Below w.heap.size w w1) := hb1
  have HI1 : Hid (IsDisk w1 (fun k => w.heap.size ≤ k) a a0) := hi1
  clear hb1 hi1
  go_wp2_with fail
  refine (open_any B w1 (fun k => w.heap.size ≤ k) a a0 (Nat.le_trans HB.out HB1.out.size) (HV.out.later HB.out HB1.out) (fun k hk => Nat.le_trans HB.out hk) (zone_new HB1.out.size) HI1.out (by decide) 5 2).mono ?_
  rw [aw_open]
  rintro e w2 ⟨ho2, hcase⟩
  rcases hcase with ⟨h0, _⟩ | ⟨l, g, hg, rfl, hi2⟩
  · cases h0
  obtain rfl : l0 = g := by simpa using hg
  have HB2 : Hid (Below w.heap.size w w2) := ho2.zone HB1.out
  have HI2 : Hid (IsLog B w2 (fun k => w.heap.size ≤ k) l a a0 l0) := hi2
  clear ho2 hi2 hg
  go_wp2_with fail
  refine (lappend_any B w2 _ l a a0 l0 HI2.out (fun _ => rfl) (zone_new HB2.out.size) (by decide) ⟨#[97]⟩ (by decide)).mono ?_
  rw [show (⟨#[97]⟩ : ByteArray).data.toList = [97] from rfl, HQ1.out]
  rintro e w3 ⟨rfl, hi3, ho3⟩
  simp only at hi3
  have HB3 : Hid (Below w.heap.size w w3) := ho3.zone HB2.out
  have HI3 : Hid (IsLog B w3 (fun k => w.heap.size ≤ k) l a st1 g1) := hi3
  simp only [appV]
  clear ho3 hi3
  go_wp2_with fail
  refine (lappend_any B w3 _ l a st1 g1 HI3.out (ne_of_empty HS1.out.2) (zone_new HB3.out.size) (by rw [HS1.out.1]; decide) ⟨#[98]⟩ (by decide)).mono ?_
  rw [show (⟨#[98]⟩ : ByteArray).data.toList = [98] from rfl, HQ2.out]
  rintro e w4 ⟨rfl, hi4, ho4⟩
  simp only at hi4
  have HB4 : Hid (Below w.heap.size w w4) := ho4.zone HB3.out
  have HI4 : Hid (IsLog B w4 (fun k => w.heap.size ≤ k) l a st2 g2) := hi4
  simp only [appV]
  clear ho4 hi4
  go_wp2_with fail
  refine (lappend_any B w4 _ l a st2 g2 HI4.out (ne_of_empty HS2.out.2) (zone_new HB4.out.size) (by rw [HS2.out.1]; decide) ⟨#[99]⟩ (by decide)).mono ?_
  rw [show (⟨#[99]⟩ : ByteArray).data.toList = [99] from rfl, HQ3.out]
  rintro e w5 ⟨rfl, hi5, ho5⟩
  simp only at hi5
  have HB5 : Hid (Below w.heap.size w w5) := ho5.zone HB4.out
  obtain ⟨Y, Z, p, cap, es, hL, hg, hD⟩ := hi5.all
  have HL : Hid (LogAt w5 Y l a g3 p cap es) := hL
  have HG : Hid (LgW g3) := hg
  have HD : Hid (IsDisk w5 Z a st3) := hD
  simp only [appV]
  clear ho5 hi5 hL hg hD
  go_wp2_with fail
  refine (safe_any _ Y l a g3 p cap es HL.out).mono ?_
  rintro e w6 ⟨rfl, hb6⟩
  rw [HS3.out.1]
  have HB6 : Hid (Below w5.heap.size w5 w6) := hb6
  clear hb6
  go_wp2_with fail
  refine (next_any _ Y l a g3 p cap es (HL.out.later HB6.out) HG.out).mono ?_
  rintro e w7 ⟨rfl, hb7⟩
  rw [HS3.out.2]
  have HB7 : Hid (Below w5.heap.size w5 w7) := HB6.out.trans (hb7.mono HB6.out.size)
  clear hb7
  go_wp2_with fail
  refine (lread_any _ Y l a g3 p cap es (HL.out.later HB7.out) HG.out 6).mono ?_
  rintro e w8 ⟨rfl, hb8⟩
  rw [HR6.out]
  have HB8 : Hid (Below w5.heap.size w5 w8) := HB7.out.trans (hb8.mono HB7.out.size)
  simp only [readV]
  clear hb8
  go_wp2_with fail
  refine (lread_any _ Y l a g3 p cap es (HL.out.later HB8.out) HG.out 8).mono ?_
  rintro e w9 ⟨rfl, hb9⟩
  rw [HR8.out]
  have HB9 : Hid (Below w5.heap.size w5 w9) := HB8.out.trans (hb9.mono HB8.out.size)
  simp only [readV]
  clear hb9
  go_wp2_with fail
  refine (files_any w9 Z a st3 (HD.out.later HB9.out)).mono ?_
  rintro e w10 ⟨v, rfl, hf, hb10⟩
  have HB10 : Hid (Below w5.heap.size w5 w10) := HB9.out.trans (hb10.mono HB9.out.size)
  rw [HF3.out] at hf
  obtain ⟨b, cp, rfl, _, _⟩ := hf.form (by decide)
  have hc := hf.cells (g := b) rfl
  have f0 := hc 0 _ rfl
  have f2 := hc 2 _ rfl
  have f5 := hc 5 _ rfl
  rw [Addr.add_lit, Nat.zero_add] at f0 f2 f5
  clear hf hc hb10
  go_wp2
  go_ret
  exact ⟨rfl, HB5.out.trans (HB10.out.mono HB5.out.size)⟩
end Go.Proofs.YtckmjmpajbjbkaaGreatDoor
