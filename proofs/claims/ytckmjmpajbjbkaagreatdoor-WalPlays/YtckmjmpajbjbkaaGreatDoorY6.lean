/- Walks of the document's log, ninth part: what read needs. -/
import Derived.Test.YtckmjmpajbjbkaaGreatDoorY5
import Derived.Test.YtckmjmpajbjbkaaGreatDoorY3
import Derived.Test.YtckmjmpajbjbkaaGreatDoorY2
namespace Go.Proofs.YtckmjmpajbjbkaaGreatDoor
open Go.RowKit

theorem src_row {w : World} {B n : Nat} {v : Value} {xs : List Value} (t te : TypeId) (hk : Tryz.prog.underlying t = some (.slice te)) (h : w.ownsRow B te 1 v n xs) (h1 : ∀ u ∈ xs, u.oneCell' = true) : Src Tryz.prog 1 t v xs.length xs w := by
  have hc := fun g => h.cells (g := g)
  obtain ⟨hl, ⟨rfl, h0⟩ | ⟨g, cap, cur, rfl, _⟩⟩ := h
  · obtain rfl : xs = [] := List.eq_nil_of_length_eq_zero (by omega)
    exact Src.ofNil w hk 0
  · rw [Nat.mul_one] at hl
    subst hl
    exact Src.ofSlice w hk ⟨g, 0, none⟩ xs.length cap xs (by omega) (hc g rfl) h1
theorem Rw.app2 {w : World} {v : Value} {xs : List Value} (h : Rw w v xs) {P : Program} (t ty e : TypeId) (z : Value) (bytes : Nat) (ht : P.underlying t = some (.slice e)) (hinfo : ∃ i, P.info? e = some i ∧ i.zero = some z ∧ i.size = 1 ∧ i.bytes = bytes) (hz : z.cells.size = 1) (hb : bytes ≤ 16)
    (x : Value) (news : List Value) (hs : Src P 1 t x news.length news w) (hlen : xs.length + news.length ≤ 4398046511104) :
    ∃ v' w', (Builtin.append_ #[t, t] ty #[v, x]).run P w = .ok v' w' ∧ Rw w' v' (xs ++ news) ∧ w.grownBy w' v.ownBlock ∧ (∀ g, v'.ownBlock = some g → v.ownBlock = some g ∨ (w.heap.size ≤ g ∧ g < w'.heap.size)) := by
  by_cases hn : news = []
  · subst hn
    obtain ⟨i, hi, _, his, _⟩ := hinfo
    obtain ⟨p, cap, rfl, hle, _⟩ := h.form
    exact ⟨_, _, run_append_nothing (P := P) w t t ty e i ht hi p xs.length cap hle x (by rw [his]; exact hs), by simpa using h, ⟨rfl, rfl, rfl, Nat.le_refl _, fun _ _ _ => rfl⟩, fun g hg => Or.inl hg⟩
  · obtain ⟨v', w', h1, h2, h3, h4⟩ := h.app t ty e z bytes ht hinfo hz hb x news hs hlen
    refine ⟨v', w', h1, h2, h3, fun g hg => (h4 g hg).imp id fun h5 => ⟨h5, ?_⟩⟩
    obtain ⟨b, e1, e2⟩ := h2.lt (by simp [hn])
    rw [e1] at hg
    obtain rfl : b = g := by simpa using hg
    exact e2
theorem wpList_rw2 (w : World) {ops : Array Oper} {rest : List Oper} {o : Oper} {a : Act} {Q : Exit → Act → World → Prop} (hgd : o.guard = none) (sl x : Operand) (t : TypeId)
    (ho : o.op = .call { callee := .builtin .append, args := #[sl, x], argTypes := #[t, t] }) (e : TypeId) (z : Value) (bytes : Nat) (ht : Tryz.prog.underlying t = some (.slice e)) (hinfo : ∃ i, Tryz.prog.info? e = some i ∧ i.zero = some z ∧ i.size = 1 ∧ i.bytes = bytes) (hz : z.cells.size = 1) (hb : bytes ≤ 16)
    (v : Value) (xs : List Value) (hs : a.eval sl = v) (hr : Rw w v xs) (xv : Value) (news : List Value) (hx : a.eval x = xv) (hsrc : Src Tryz.prog 1 t xv news.length news w) (hlen : xs.length + news.length ≤ 4398046511104)
    (h : ∀ p cap n w', xs.length + news.length = n → Rw w' (.slice p n cap) (xs ++ news) → w.grownBy w' v.ownBlock → (∀ g, (Value.slice p n cap).ownBlock = some g → v.ownBlock = some g ∨ (w.heap.size ≤ g ∧ g < w'.heap.size)) → wpList Tryz.prog ops Q rest (a.put o.dst (.slice p n cap)) w') : wpList Tryz.prog ops Q (o :: rest) a w := by
  refine wpList_plain hgd fun K hK => ?_
  obtain ⟨v', w', hrun, h2, h3, h4⟩ := hr.app2 t o.type e z bytes ht hinfo hz hb xv news hsrc hlen
  obtain ⟨p, cap, e', _⟩ := h2.form
  rw [List.length_append] at e'
  subst e'
  unfold Oper.wp execOp
  simp only [ho, resolve, invoke, builtin, Sem.run_bind, Sem.run_pure, Result.andThen_ok, List.map_toArray, List.map_cons, List.map_nil, hs, hx, hrun]
  exact hK _ _ (h p cap _ w' rfl h2 h3 h4)
theorem GR.put2 {w w' : World} {Y : Nat → Prop} {l c : Nat} {g : Lg} {S R : List Value} {v2 v4 v' : Value} {S' : List Value} (h : GR w Y l c g S R v2 v4) (hY : ∀ k, w.heap.size ≤ k → Y k) (hr : Rw w' v' S') (hg : w.grownBy w' v2.ownBlock) (hat : ∀ k, v'.ownBlock = some k → v2.ownBlock = some k ∨ (w.heap.size ≤ k ∧ k < w'.heap.size)) :
    GR (w'.setCell ⟨l, 2, none⟩ v') Y l c g S' R v' v4 ∧ Only Y w (w'.setCell ⟨l, 2, none⟩ v') := by
  have hl := h.lt
  have hs := hg.size
  have hne : ∀ k, v'.ownBlock = some k → Y k ∧ k < w'.heap.size ∧ k ≠ l ∧ v4.ownBlock ≠ some k := fun k e => by
    rcases hat k e with e2 | e2
    · exact ⟨(h.z2 k e2).1, by have := (h.z2 k e2).2.1; omega, (h.z2 k e2).2.2, fun e4 => h.apart k e2 e4⟩
    · exact ⟨hY k e2.1, e2.2, by omega, fun e4 => by have := (h.z4 k e4).2.1; omega⟩
  have h4 : ∀ k, v4.ownBlock = some k → (w'.setCell ⟨l, 2, none⟩ v').heap[k]? = w.heap[k]? := fun k e => (set_far (h.z4 k e).2.2).trans (hg.block k (h.z4 k e).2.1 fun e2 => h.apart k e2.symm e)
  refine ⟨⟨?_, h.zl, hr.kept fun k e => set_far (hne k e).2.2.1, h.recs.kept h4, fun k e => ?_, fun k e => ?_, fun k e e4 => (hne k e).2.2.2 e4⟩, ((Only.refl Y w).grown hg fun k e => (h.z2 k e).1).setCell (p := ⟨l, 2, none⟩) h.zl _⟩
  · rw [heap_setCell_at ((h.still hg h.ne2).trans h.cells) v']
    simp [gcells]
  · rw [set_size]
    exact ⟨(hne k e).1, (hne k e).2.1, (hne k e).2.2.1⟩
  · rw [set_size]
    exact ⟨(h.z4 k e).1, Nat.lt_of_lt_of_le (h.z4 k e).2.1 hs, (h.z4 k e).2.2⟩
theorem GR.put4 {w w' : World} {Y : Nat → Prop} {l c : Nat} {g : Lg} {S R : List Value} {v2 v4 v' : Value} {R' : List Value} (h : GR w Y l c g S R v2 v4) (hY : ∀ k, w.heap.size ≤ k → Y k) (hr : Rw w' v' R') (hg : w.grownBy w' v4.ownBlock) (hat : ∀ k, v'.ownBlock = some k → v4.ownBlock = some k ∨ (w.heap.size ≤ k ∧ k < w'.heap.size)) :
    GR (w'.setCell ⟨l, 4, none⟩ v') Y l c g S R' v2 v' ∧ Only Y w (w'.setCell ⟨l, 4, none⟩ v') := by
  have hl := h.lt
  have hs := hg.size
  have hne : ∀ k, v'.ownBlock = some k → Y k ∧ k < w'.heap.size ∧ k ≠ l ∧ v2.ownBlock ≠ some k := fun k e => by
    rcases hat k e with e2 | e2
    · exact ⟨(h.z4 k e2).1, by have := (h.z4 k e2).2.1; omega, (h.z4 k e2).2.2, fun e4 => h.apart k e4 e2⟩
    · exact ⟨hY k e2.1, e2.2, by omega, fun e4 => by have := (h.z2 k e4).2.1; omega⟩
  have h4 : ∀ k, v2.ownBlock = some k → (w'.setCell ⟨l, 4, none⟩ v').heap[k]? = w.heap[k]? := fun k e => (set_far (h.z2 k e).2.2).trans (hg.block k (h.z2 k e).2.1 fun e2 => h.apart k e e2.symm)
  refine ⟨⟨?_, h.zl, h.starts.kept h4, hr.kept fun k e => set_far (hne k e).2.2.1, fun k e => ?_, fun k e => ?_, fun k e e4 => (hne k e4).2.2.2 e⟩, ((Only.refl Y w).grown hg fun k e => (h.z4 k e).1).setCell (p := ⟨l, 4, none⟩) h.zl _⟩
  · rw [heap_setCell_at ((h.still hg h.ne4).trans h.cells) v']
    simp [gcells]
  · rw [set_size]
    exact ⟨(h.z2 k e).1, Nat.lt_of_lt_of_le (h.z2 k e).2.1 hs, (h.z2 k e).2.2⟩
  · rw [set_size]
    exact ⟨(hne k e).1, (hne k e).2.1, (hne k e).2.2.1⟩
theorem IsGE.mono {w : World} {X X' : Nat → Prop} {l c : Nat} {st : St} {g : Lg} {v v2 v4 : Value} (h : IsGE w X l c st g v v2 v4) (hx : ∀ k, k < w.heap.size → X k → X' k) : IsGE w X' l c st g v v2 v4 := by
  obtain ⟨h1, h2, Z, Y, k1, k2, k3, k4, k5⟩ := h
  exact ⟨h1, h2, fun k => Z k ∧ k < w.heap.size, fun k => Y k ∧ k < w.heap.size, k1.mono fun k hk hz => ⟨hz, hk⟩, k2.mono fun k hk hz => ⟨hz, hk⟩, fun k e e' => k3 k e.1 e'.1, fun k e => hx k e.2 (k4 k e.1), fun k e => hx k e.2 (k5 k e.1)⟩
theorem IsGE.toZone {w W : World} {X : Nat → Prop} {l c : Nat} {st : St} {g : Lg} {v v2 v4 : Value} (h : IsGE w X l c st g v v2 v4) (hb : Below w.heap.size w W) : IsGE W (zoneL X w W) l c st g v v2 v4 := (h.mono fun _ hk hx => Or.inl ⟨hx, hk⟩).later hb
/-- What is known of the last segment's file. -/
def Tail (fs : Fs) (acc : List Sg) (ws : List UInt8) (tb : Bool) : Prop :=
  (acc = [] ∧ ws = [] ∧ tb = false) ∨ (acc ≠ [] ∧ ∃ dat sf, (nameN (lastL acc).1, (dat, sf)) ∈ fs ∧ ws = cat (fr dat) ∧ tb = decide ((cat (fr dat)).length < dat.length))
theorem Tail.next {fs : Fs} {acc : List Sg} {q : Nat} {dat : List UInt8} {sf : Nat} (hm : (nameN q, (dat, sf)) ∈ fs) : Tail fs (acc ++ [(q, fr dat)]) (cat (fr dat)) (decide ((cat (fr dat)).length < dat.length)) :=
  Or.inr ⟨by simp, dat, sf, by rw [lastL_snoc]; exact hm, rfl, rfl⟩
/-- What read leaves. -/
def ReadP (w : World) (X : Nat → Prop) (l c : Nat) (st : St) (g : Lg) (e : Ending) (w' : World) : Prop :=
  Only X w w' ∧ ((loadR g.frm st.fs [] = none ∧ e = .returned (.tuple #[.string ⟨#[]⟩, .bool false, .bool false]) ∧ ∃ g', IsG w' X l c st g') ∨ ∃ L ws tb, loadR g.frm st.fs [] = some L ∧ e = .returned (.tuple #[.string ⟨ws.toArray⟩, .bool tb, .bool true]) ∧ IsG w' X l c st { g with segs := L } ∧ Tail st.fs L ws tb)
theorem placeI_some {n : Nm} {q : Nat} (h : placeN n = some q) : placeI n = (q : Int) := by simp [placeI, h]
theorem placeI_none {n : Nm} (h : placeN n = none) : placeI n = -1 := by simp [placeI, h]
end Go.Proofs.YtckmjmpajbjbkaaGreatDoor
/- Walks of the document's log, tenth part: read (written by mkread6.py). -/
namespace Go.Proofs.YtckmjmpajbjbkaaGreatDoor
open Go.RowKit

theorem stV_app (l : List Sg) (q : Nat) (ds : List (List UInt8)) : stV (l ++ [(q, ds)]) = stV l ++ [.int .i64 (q : Int)] := by simp [stV]
theorem reV_app (l : List Sg) (q : Nat) (ds : List (List UInt8)) : reV (recsL (l ++ [(q, ds)])) = reV (recsL l) ++ sv ds := by
  simp [reV, recsL, sv]
  intro a _
  rfl

set_option maxHeartbeats 8000000 in
set_option maxRecDepth 100000 in
theorem gread0_any (w : World) (X : Nat → Prop) (l c : Nat) (st : St) (g : Lg) (v0 v20 v40 : Value) (h : IsGE w X l c st g v0 v20 v40) (hsegs : g.segs = []) (hX : ∀ k, w.heap.size ≤ k → X k) :
    Calls Tryz.prog 64 #[.pointer (some ⟨l, 0, none⟩)] w (ReadP w X l c st g) := by
  obtain ⟨i0, hi, hz0, hz1, hz2⟩ := info_parts Tryz.infoStr
  obtain ⟨i1, hi1, hz10, hz11, hz12⟩ := info_parts Tryz.infoInt
  have HI : Hid (IsGE w X l c st g v0 v20 v40) := h
  have HX : Hid (∀ k, w.heap.size ≤ k → X k) := hX
  obtain ⟨Y, hL⟩ := h.at
  have c0 := hL.gc.c0
  obtain ⟨Z, hD⟩ := h.ref
  have HD : Hid (RefAt w Z c st v0) := hD
  have HSG : Hid (g.segs = []) := hsegs
  obtain ⟨fs, hfs⟩ : ∃ fs, st.fs = fs := ⟨_, rfl⟩
  have HFS : Hid (st.fs = fs) := hfs
  have hok := h.dok.files
  rw [hfs] at hok
  have hfew := hok.few
  have HOK : Hid (OKf st.size fs) := hok
  clear h hX hL hD hsegs hfs hok
  go_enter Tryz.func64, Tryz.ntmps64
  go_wp2_with fail
  refine (rfiles_any _ Z c st v0 HD.out).mono ?_
  rintro e W ⟨vf, rfl, hrow, hb0⟩
  rw [HFS.out] at hrow
  obtain ⟨pf, capf, rfl⟩ := own_form hrow
  have HROW : Hid (W.ownsRow w.heap.size 65 3 (.slice pf fs.length capf) fs.length (fc fs)) := hrow
  have HB0 : Hid (Below w.heap.size w W) := hb0
  clear hrow hb0
  go_wp2
  go_loopw [5, 6, 8] (fun wh tn i wr => ∃ (k : Nat) (acc : List Sg) (v v2 v4 : Value) (ws : List UInt8) (tb : Bool), k ≤ fs.length ∧ i = .int .i64 k ∧ acc.length ≤ k ∧ wh = .string ⟨ws.toArray⟩ ∧ tn = .bool tb ∧ IsGE wr (zoneL X w W) l c st { g with segs := acc } v v2 v4 ∧ Only (zoneL X w W) W wr ∧ loadR g.frm fs [] = loadR g.frm (fs.drop k) acc ∧ Tail fs acc ws tb) (fun _ _ i _ => fs.length - (intOf i).toNat)
  case atStart =>
    refine ⟨0, [], v0, v20, v40, [], false, Nat.zero_le _, rfl, Nat.le_refl _, rfl, rfl, ?_, Only.refl _ _, rfl, Or.inl ⟨rfl, rfl, rfl⟩⟩
    have e : { g with segs := [] } = g := by rw [← HSG.out]
    rw [e]
    exact HI.out.toZone HB0.out
  case round =>
    obtain ⟨k, acc, v, v2, v4, ws, tb, hk, rfl, hacc, rfl, rfl, hi1', ho1, hld, htl⟩ := hrel
    have HI1' : Hid (IsGE wr (zoneL X w W) l c st { g with segs := acc } v v2 v4) := hi1'
    have HO1 : Hid (Only (zoneL X w W) W wr) := ho1
    have HLD : Hid (loadR g.frm fs [] = loadR g.frm (fs.drop k) acc) := hld
    have HACC : Hid (acc.length ≤ k) := hacc
    have HTL : Hid (Tail fs acc ws tb) := htl
    by_cases hlt : k < fs.length
    · have hlti : (k : Int) < (fs.length : Int) := by omega
      have hk0 : (0 : Int) ≤ (k : Int) := by omega
      obtain ⟨fb, rfl, hf1, hf2, d0, d1, d2⟩ := file_cells HROW.out rfl hlt
      have hnz := zoneL_not (X := X) hf1 hf2
      have d0 := only_cell ho1 hnz d0
      have d1 := only_cell ho1 hnz d1
      have d2 := only_cell ho1 hnz d2
      obtain ⟨nm, dat, sf, hf⟩ : ∃ nm dat sf, fs[k] = (nm, (dat, sf)) := ⟨_, _, _, rfl⟩
      rw [hf] at d0 d1 d2
      simp only at d0 d1 d2
      have hmem : (nm, (dat, sf)) ∈ fs := by rw [← hf]; exact List.getElem_mem hlt
      have HMEM : Hid ((nm, (dat, sf)) ∈ fs) := hmem
      have hdl := HOK.out.len hmem
      have hsm := HOK.out.small
      simp only at hdl
      have HDR : Hid (fs.drop k = (nm, (dat, sf)) :: fs.drop (k + 1)) := by
        have := List.drop_eq_getElem_cons hlt
        rw [hf] at this
        exact this
      have HDL : Hid (dat.length ≤ 1048576) := Nat.le_trans hdl hsm
      have HB1 : Hid (∀ o, Below wr.heap.size wr (wr.alloc o)) := fun o => (Below.refl _ _).alloc (Nat.le_refl _) o
      obtain ⟨Y1, hL1⟩ := hi1'.at
      obtain ⟨p2, cap2, rfl, _⟩ := hL1.starts.form
      obtain ⟨p4, cap4, rfl, _⟩ := hL1.recs.form
      obtain ⟨n, hn⟩ : ∃ n, (stV acc).length = n := ⟨_, rfl⟩
      obtain ⟨m, hm⟩ : ∃ m, (reV (recsL acc)).length = m := ⟨_, rfl⟩
      simp only [hn, hm] at hL1 hi1'
      have HI1 : Hid (IsGE wr (zoneL X w W) l c st { g with segs := acc } v (.slice p2 n cap2) (.slice p4 m cap4)) := hi1'
      have HL1 : Hid (GAt wr Y1 l c { g with segs := acc } (.slice p2 n cap2) (.slice p4 m cap4)) := hL1
      have hlen := hi1'.ok.len
      have hnle := hi1'.ok.next_le
      rw [stV_length] at hn
      rw [reV_length] at hm
      simp only at hlen
      rw [hm] at hlen
      have HLS : Hid ((stV acc).length + [Value.int .i64 (0 : Int)].length ≤ 4398046511104) := by
        have : (stV acc).length + 1 ≤ 4398046511104 := by rw [stV_length]; omega
        exact this
      have HLR : Hid ((reV (recsL acc)).length ≤ 2000000000000) := by
        have : (reV (recsL acc)).length ≤ 2000000000000 := by rw [reV_length]; omega
        exact this
      have HNL : Hid (nm.length ≤ 16) := by
        have := nmOk_len (HOK.out.names _ hmem)
        have h2 : nm.length ≤ 16 := this.2
        exact h2
      obtain ⟨N, hN⟩ : ∃ N, Lg.next { g with segs := acc } = N := ⟨_, rfl⟩
      have HNN : Hid (Lg.next { g with segs := acc } = N) := hN
      rw [hN] at hlen hnle
      have HLEN : Hid (Lg.base { g with segs := acc } + m = N) := hlen
      have HNA : Hid (acc.length = n) := hn
      clear hi1' ho1 hld hacc htl hf hmem hdl hsm hf1 hf2 hnz hL1 hN HI1' hlen hn hm
      obtain ⟨s, hs⟩ : ∃ s : ByteArray, s = ⟨nm.toArray⟩ := ⟨_, rfl⟩
      have HSS : Hid (s.data.toList = nm) := by
        have : s.data.toList = nm := by rw [hs]
        exact this
      have hsz : s.size = nm.length := by rw [hs]; rfl
      have hex : (s.extract 0 4).toList = nm.take 4 := by rw [ByteArray.toList_eq, extract_list, HSS.out]; simp
      rw [← hs] at d0
      clear hs
      cases hlog : isLog nm with
      | false =>
        have HN : Hid (loadR g.frm fs [] = loadR g.frm (fs.drop (k + 1)) acc) := by
          have : loadR g.frm fs [] = loadR g.frm (fs.drop (k + 1)) acc := by rw [HLD.out, HDR.out, loadR_skip hlog]
          exact this
        by_cases h4 : nm.length < 4
        · have h4i : (s.size : Int) < 4 := by omega
          clear hlog hex hsz
          go_wp2
          go_roundw
          case rel => exact ⟨k + 1, acc, v, _, _, ws, tb, by omega, by go_num, Nat.le_succ_of_le HACC.out, rfl, rfl, HI1.out.later (HB1.out _), HO1.out.later (HB1.out _), HN.out, HTL.out⟩
          case measure => simp [intOf]; omega
        · have h4i : ¬ (s.size : Int) < 4 := by omega
          have h4j : (4 : Int) ≤ (s.size : Int) := by omega
          have hne : ((s.extract 0 4).toList == [108, 111, 103, 46]) = false := by
            rw [hex]
            refine beq_eq_false_iff_ne.2 fun e => ?_
            rw [isLog] at hlog
            exact absurd (show nm.take 4 = pre4 from e) (by simpa using hlog)
          clear hlog hex hsz
          go_wp2
          go_roundw
          case rel => exact ⟨k + 1, acc, v, _, _, ws, tb, by omega, by go_num, Nat.le_succ_of_le HACC.out, rfl, rfl, HI1.out.later (HB1.out _), HO1.out.later (HB1.out _), HN.out, HTL.out⟩
          case measure => simp [intOf]; omega
      | true =>
        have HLG : Hid (isLog nm = true) := hlog
        have htk : nm.take 4 = pre4 := by
          rw [isLog] at hlog
          simpa using hlog
        have h4 : 4 ≤ nm.length := by
          have := congrArg List.length htk
          rw [List.length_take] at this
          simp [pre4] at this
          omega
        have h4i : ¬ (s.size : Int) < 4 := by omega
        have h4j : (4 : Int) ≤ (s.size : Int) := by omega
        have hne : ((s.extract 0 4).toList == [108, 111, 103, 46]) = true := by rw [hex, htk]; rfl
        clear hlog hex htk hsz
        go_wp2_with fail
        refine (gplace_any s _).mono ?_
        rintro e w2 ⟨rfl, hw2⟩
        have HBq : Hid (Below wr.heap.size wr w2) := by
          rw [hw2]
          exact HB1.out _
        have b1 : w2.cell? ⟨wr.heap.size, 1, none⟩ = some (.string ⟨dat.toArray⟩) := by rw [hw2]; simp
        rw [HSS.out]
        clear hw2 d0 d1 d2 hne
        have c2 := (HL1.out.later HBq.out).gc.c2
        have c4 := (HL1.out.later HBq.out).gc.c4
        cases hq : placeN nm with
        | none =>
          have HLN : Hid (loadR g.frm fs [] = none) := by
            have : loadR g.frm fs [] = none := by rw [HLD.out, HDR.out, loadR_bad HLG.out hq]
            exact this
          rw [placeI_none hq]
          clear hq
          go_wp2
          go_quiet (fail)
          have HBq : Hid (Below wr.heap.size wr (w2.drewN nq)) := below_drewN HBq.out nq
          go_wp2
          refine bodyPost_ret (v := .tuple #[.string ⟨#[]⟩, .bool false, .bool false]) (by simp [results, Tryz.results64, go_sem]) rfl ?_
          refine ⟨(Only.of HB0.out).trans ((HO1.out.later HBq.out).mono (zoneL_sub HX.out HB0.out.size)), Or.inl ⟨by rw [HFS.out]; exact HLN.out, rfl, { g with segs := acc }, ?_⟩⟩
          exact ((HI1.out.later HBq.out).mono (fun k _ hk => zoneL_sub HX.out HB0.out.size k hk)).is
        | some q =>
          have HPL : Hid (placeN nm = some q) := hq
          have hq12 := (placeN_iff.1 hq).1
          rw [placeI_some hq]
          clear hq
          have hq0 : ¬ (q : Int) < 0 := by omega
          have hqd : decide ((q : Int) < 0) = false := decide_eq_false hq0
          by_cases hz : acc = []
          · have HGP : Hid (¬ (acc ≠ [] ∧ q ≠ nextL g.frm acc)) := fun e => e.1 hz
            have HQN : Hid ({ g with segs := acc }.segs = [] ∨ q = { g with segs := acc }.next) := Or.inl hz
            have hn0 : n = 0 := by rw [← HNA.out, hz]; rfl
            clear hz
            subst hn0
            go_wp2
            go_quiet (fail)
            obtain ⟨W2, hW2⟩ : ∃ W2, W2 = w2.drewN nq := ⟨_, rfl⟩
            rw [← hW2]
            have b1 : W2.cell? ⟨wr.heap.size, 1, none⟩ = some (.string ⟨dat.toArray⟩) := by rw [hW2]; simpa [World.cell?, World.drewN] using b1
            have HBq : Hid (Below wr.heap.size wr W2) := by rw [hW2]; exact below_drewN HBq.out nq
            clear c2 c4 hW2
            go_wp2_with fail
            refine (rall_any ⟨dat.toArray⟩ _ (by have := HDL.out; simp [ByteArray.size]; omega)).mono ?_
            rintro e w4 ⟨v5, ds, n4, rfl, hall, hv4, hb4⟩
            obtain ⟨pr, cr, rfl⟩ := own_form hv4
            obtain ⟨hds, hn4⟩ := hall.fr
            have HDS : Hid (ds = fr dat) := by
              have : ds = fr dat := hds
              exact this
            have HN4 : Hid (n4 = (cat (fr dat)).length) := by
              have : n4 = (cat (fr dat)).length := hn4
              exact this
            have HB4 : Hid (Below wr.heap.size wr w4) := HBq.out.trans (hb4.mono HBq.out.size)
            have HV4 : Hid (w4.ownsRow wr.heap.size 9 1 (.slice pr ds.length cr) ds.length (sv ds)) := own_mono hv4 HBq.out.size
            have hdc : ds.length ≤ 1048576 := by
              have h1 := fr_count dat
              have h2 := HDL.out
              rw [← hds] at h1
              omega
            have hnd : n4 ≤ dat.length := by rw [HN4.out]; exact fr_le dat
            have b1 := cell_later hb4 b1
            clear hall hv4 hb4 hds hn4
            obtain ⟨Y4, hL4, hY4, hown⟩ := HI1.out.own (fun k hk => Or.inr (Nat.le_trans HO1.out.size hk))
            have HR4 : Hid (GR wr Y4 l c { g with segs := acc } (stV acc) (reV (recsL acc)) (.slice p2 0 cap2) (.slice p4 m cap4)) := hL4.raw
            have HY4 : Hid (∀ k, wr.heap.size ≤ k → Y4 k) := hY4
            have HOW : Hid (∀ w1 g' v2' v4', GAt w1 Y4 l c g' v2' v4' → LgW g' → Only Y4 wr w1 → IsGE w1 (zoneL X w W) l c st g' v v2' v4' ∧ Only (zoneL X w W) wr w1) := hown
            have HG4 : Hid (GR w4 Y4 l c { g with segs := acc } (stV acc) (reV (recsL acc)) (.slice p2 0 cap2) (.slice p4 m cap4)) := HR4.out.later HB4.out
            have c2 := HG4.out.gc.c2
            have c4 := HG4.out.gc.c4
            have HA4 : Hid (GR (w4.alloc (.cells #[.int .i64 (q : Int)] 3)) Y4 l c { g with segs := acc } (stV acc) (reV (recsL acc)) (.slice p2 0 cap2) (.slice p4 m cap4)) := HG4.out.later ((Below.refl _ _).alloc (Nat.le_refl _) _)
            have bl4 := World.block_lt_of_cell? _ _ b1
            clear hL4 hY4 hown
            go_wp2_with (first | (at_builtin; refine wpList_rw2 _ rfl _ _ 39 rfl 3 (.int .i64 0) 8 Tryz.underlying39 ⟨i1, hi1, hz10, hz11, hz12⟩ rfl (by decide) (.slice p2 0 cap2) (stV acc) rfl HA4.out.starts (.slice (some ⟨w4.heap.size, 0, none⟩) 1 1) [.int .i64 (q : Int)] rfl (src_one w4 _ _ _ Tryz.underlying39 rfl) HLS.out ?_))
            intro p5 cap5 n5 w5 hn5 hr5 hg5 hat5
            have s2 := (HA4.out.stillc hg5 HA4.out.ne2).c2
            have s4 := (HA4.out.stillc hg5 HA4.out.ne2).c4
            have sf := (HA4.out.stillc hg5 HA4.out.ne2).fz
            have HK5 : Hid (∀ k, wr.heap.size ≤ k → k < w4.heap.size → (w5.setCell ⟨l, 2, none⟩ (.slice p5 n5 cap5)).heap[k]? = w4.heap[k]?) := fun k hk hk' => by
              have hne : k ≠ l := by have := HR4.out.lt; omega
              rw [set_far hne]
              refine (hg5.block k (by simp; omega) fun e => ?_).trans (Below.heap_alloc w4 _ k hk')
              have := (HR4.out.z2 k e.symm).2.1
              omega
            have HV5 : Hid ((w5.setCell ⟨l, 2, none⟩ (.slice p5 n5 cap5)).ownsRow wr.heap.size 9 1 (.slice pr ds.length cr) ds.length (sv ds)) := own_kept HV4.out fun k hk => HK5.out k (HV4.out.lt k hk).1 (HV4.out.lt k hk).2
            obtain ⟨hp5, ho5⟩ := HA4.out.put2 (fun k hk => HY4.out k (Nat.le_trans HB4.out.size (Nat.le_trans (by simp) hk))) hr5 hg5 (fun k e => (hat5 k e).imp id fun h => by first | exact h | simpa using h)
            have HP5 : Hid (GR (w5.setCell ⟨l, 2, none⟩ (.slice p5 n5 cap5)) Y4 l c { g with segs := acc } (stV acc ++ [.int .i64 (q : Int)]) (reV (recsL acc)) (.slice p5 n5 cap5) (.slice p4 m cap4)) := hp5
            have HO5 : Hid (Only Y4 wr (w5.setCell ⟨l, 2, none⟩ (.slice p5 n5 cap5))) := ((Only.of HB4.out).alloc _).trans ho5
            have b5 : w5.cell? ⟨wr.heap.size, 1, none⟩ = some (.string ⟨dat.toArray⟩) := by
              have hne : wr.heap.size ≠ l := by have := HR4.out.lt; omega
              have e1 := HK5.out wr.heap.size (Nat.le_refl _) bl4
              rw [set_far hne] at e1
              exact cell_at e1 b1
            clear hr5 hg5 hat5 hn5 hp5 ho5 c2 c4 b1
            go_wp2_with (first | (at_builtin; refine wpList_rw2 _ rfl _ _ 44 rfl 9 (.string ⟨#[]⟩) 16 Tryz.underlying44 ⟨i0, hi, hz0, hz1, hz2⟩ rfl (by decide) (.slice p4 m cap4) (reV (recsL acc)) rfl HP5.out.recs (.slice pr ds.length cr) (sv ds) rfl (src_row _ _ Tryz.underlying44 HV5.out (sv_one _)) (by rw [sv_length]; have := HLR.out; omega) ?_))
            intro p6 cap6 n6 w6 hn6 hr6 hg6 hat6
            have t4 := (HP5.out.stillc hg6 HP5.out.ne4).c4
            have tf := (HP5.out.stillc hg6 HP5.out.ne4).fz
            obtain ⟨hp6, ho6⟩ := HP5.out.put4 (fun k hk => HY4.out k (Nat.le_trans HO5.out.size hk)) hr6 hg6 (fun k e => (hat6 k e).imp id fun h => by first | exact h | simpa using h | (simp [World.setCell] at h ⊢; omega))
            have HP6 : Hid (GR (w6.setCell ⟨l, 4, none⟩ (.slice p6 n6 cap6)) Y4 l c { g with segs := acc } (stV acc ++ [.int .i64 (q : Int)]) (reV (recsL acc) ++ sv ds) (.slice p5 n5 cap5) (.slice p6 n6 cap6)) := hp6
            have HO6 : Hid (Only Y4 wr (w6.setCell ⟨l, 4, none⟩ (.slice p6 n6 cap6))) := HO5.out.trans ho6
            have b6 : w6.cell? ⟨wr.heap.size, 1, none⟩ = some (.string ⟨dat.toArray⟩) := by
              have hne : wr.heap.size ≠ l := by have := HR4.out.lt; omega
              have e1 := hg6.block wr.heap.size (Nat.lt_of_lt_of_le (World.block_lt_of_cell? _ _ b5) (by simp [World.setCell])) fun e => by
                have := (HR4.out.z4 wr.heap.size e.symm).2.1
                omega
              have e2 := e1.trans (set_far hne)
              exact cell_at e2 b5
            have hnl : ¬ wr.heap.size = l := by have := HR4.out.lt; omega
            have f1 : (0 : Int) ≤ (n4 : Int) := by omega
            have f2 : (n4 : Int) ≤ (dat.length : Int) := by omega
            clear hr6 hg6 hat6 hn6 hp6 ho6 b5
            go_wp2
            go_roundw
            case rel =>
              have hat := HP6.out.is (g' := { { g with segs := acc } with segs := acc ++ [(q, ds)] }) rfl rfl rfl (by rw [stV_app]) (by rw [reV_app])
              have hw : LgW { { g with segs := acc } with segs := acc ++ [(q, ds)] } := by
                have hac := HACC.out
                refine HI1.out.ok.more HQN.out (by rw [HDS.out]; exact fr_small dat) (by omega) (placeN_iff.1 HPL.out).1 ?_
                simp only
                omega
              obtain ⟨r1, r2⟩ := HOW.out _ _ _ _ hat hw HO6.out
              refine ⟨k + 1, acc ++ [(q, ds)], _, _, _, cat (fr dat), decide ((cat (fr dat)).length < dat.length), by omega, by go_num, ?_, ?_, ?_, r1, HO1.out.trans r2, ?_, ?_⟩
              · simp only [List.length_append, List.length_singleton]
                exact Nat.succ_le_succ HACC.out
              · refine congrArg Value.string (ba_eq ?_)
                rw [extract_list, HN4.out]
                exact fr_front dat
              · rw [HN4.out]
              · rw [HLD.out, HDR.out, loadR_next HLG.out HPL.out HGP.out, HDS.out]
              · rw [HDS.out]
                exact Tail.next ((placeN_iff.1 HPL.out).2 ▸ HMEM.out)
            case measure => simp [intOf]; omega
          · obtain ⟨x, r, hxr⟩ := List.exists_cons_of_ne_nil hz
            obtain ⟨b, off, cap', e2, _, _, _, hcell⟩ := HL1.out.starts.at (by simp [stV, hxr])
            simp only [Value.slice.injEq] at e2
            obtain ⟨rfl, hxx, rfl⟩ := e2
            clear hxx
            have e5 : wr.cell? ⟨b, off, none⟩ = some (.int .i64 (x.1 : Int)) := by simpa [stV, hxr] using hcell 0 (by simp [stV, hxr])
            have e5 := cell_later HBq.out e5
            have hbase : Lg.base { g with segs := acc } = x.1 := by rw [Lg.base, hxr]; rfl
            have hlen := HLEN.out
            rw [hbase] at hlen
            have HNE : Hid (acc ≠ []) := hz
            have hnp : 0 < n := by rw [← HNA.out, hxr]; simp
            have g1 : (0 : Int) < (n : Int) := by omega
            have hgt : decide ((0 : Int) < (n : Int)) = true := decide_eq_true g1
            have hgt2 : decide (0 < n) = true := decide_eq_true hnp
            have hwx : IntKind.i64.wrap ((x.1 : Int) + (m : Int)) = (x.1 : Int) + (m : Int) := by rw [IntKind.wrap_i64]; omega
            have hxm : x.1 + m ≤ 2000000000000 := by omega
            have hsx : (x.1 : Int) + (m : Int) = (N : Int) := by omega
            clear hz hcell hxr hbase hlen
            by_cases hqn : q = N
            · have HGP : Hid (¬ (acc ≠ [] ∧ q ≠ nextL g.frm acc)) := fun e => e.2 (hqn.trans HNN.out.symm)
              have HQN : Hid ({ g with segs := acc }.segs = [] ∨ q = { g with segs := acc }.next) := Or.inr (hqn.trans HNN.out.symm)
              have hsq : ((q : Int) == (x.1 : Int) + (m : Int)) = true := by rw [beq_iff_eq]; omega
              have hsr : ((q : Int) != (x.1 : Int) + (m : Int)) = false := by rw [bne_eq_false_iff_eq]; omega
              clear hqn hsx
              go_wp2
              go_quiet (fail)
              obtain ⟨W2, hW2⟩ : ∃ W2, W2 = w2.drewN nq := ⟨_, rfl⟩
              rw [← hW2]
              have b1 : W2.cell? ⟨wr.heap.size, 1, none⟩ = some (.string ⟨dat.toArray⟩) := by rw [hW2]; simpa [World.cell?, World.drewN] using b1
              have HBq : Hid (Below wr.heap.size wr W2) := by rw [hW2]; exact below_drewN HBq.out nq
              clear c2 c4 hW2 e5 hsq hsr hwx
              go_wp2_with fail
              refine (rall_any ⟨dat.toArray⟩ _ (by have := HDL.out; simp [ByteArray.size]; omega)).mono ?_
              rintro e w4 ⟨v5, ds, n4, rfl, hall, hv4, hb4⟩
              obtain ⟨pr, cr, rfl⟩ := own_form hv4
              obtain ⟨hds, hn4⟩ := hall.fr
              have HDS : Hid (ds = fr dat) := by
                have : ds = fr dat := hds
                exact this
              have HN4 : Hid (n4 = (cat (fr dat)).length) := by
                have : n4 = (cat (fr dat)).length := hn4
                exact this
              have HB4 : Hid (Below wr.heap.size wr w4) := HBq.out.trans (hb4.mono HBq.out.size)
              have HV4 : Hid (w4.ownsRow wr.heap.size 9 1 (.slice pr ds.length cr) ds.length (sv ds)) := own_mono hv4 HBq.out.size
              have hdc : ds.length ≤ 1048576 := by
                have h1 := fr_count dat
                have h2 := HDL.out
                rw [← hds] at h1
                omega
              have hnd : n4 ≤ dat.length := by rw [HN4.out]; exact fr_le dat
              have b1 := cell_later hb4 b1
              clear hall hv4 hb4 hds hn4
              obtain ⟨Y4, hL4, hY4, hown⟩ := HI1.out.own (fun k hk => Or.inr (Nat.le_trans HO1.out.size hk))
              have HR4 : Hid (GR wr Y4 l c { g with segs := acc } (stV acc) (reV (recsL acc)) (.slice (some ⟨b, off, none⟩) n cap2) (.slice p4 m cap4)) := hL4.raw
              have HY4 : Hid (∀ k, wr.heap.size ≤ k → Y4 k) := hY4
              have HOW : Hid (∀ w1 g' v2' v4', GAt w1 Y4 l c g' v2' v4' → LgW g' → Only Y4 wr w1 → IsGE w1 (zoneL X w W) l c st g' v v2' v4' ∧ Only (zoneL X w W) wr w1) := hown
              have HG4 : Hid (GR w4 Y4 l c { g with segs := acc } (stV acc) (reV (recsL acc)) (.slice (some ⟨b, off, none⟩) n cap2) (.slice p4 m cap4)) := HR4.out.later HB4.out
              have c2 := HG4.out.gc.c2
              have c4 := HG4.out.gc.c4
              have HA4 : Hid (GR (w4.alloc (.cells #[.int .i64 (q : Int)] 3)) Y4 l c { g with segs := acc } (stV acc) (reV (recsL acc)) (.slice (some ⟨b, off, none⟩) n cap2) (.slice p4 m cap4)) := HG4.out.later ((Below.refl _ _).alloc (Nat.le_refl _) _)
              have bl4 := World.block_lt_of_cell? _ _ b1
              clear hL4 hY4 hown
              go_wp2_with (first | (at_builtin; refine wpList_rw2 _ rfl _ _ 39 rfl 3 (.int .i64 0) 8 Tryz.underlying39 ⟨i1, hi1, hz10, hz11, hz12⟩ rfl (by decide) (.slice (some ⟨b, off, none⟩) n cap2) (stV acc) rfl HA4.out.starts (.slice (some ⟨w4.heap.size, 0, none⟩) 1 1) [.int .i64 (q : Int)] rfl (src_one w4 _ _ _ Tryz.underlying39 rfl) HLS.out ?_))
              intro p5 cap5 n5 w5 hn5 hr5 hg5 hat5
              have s2 := (HA4.out.stillc hg5 HA4.out.ne2).c2
              have s4 := (HA4.out.stillc hg5 HA4.out.ne2).c4
              have sf := (HA4.out.stillc hg5 HA4.out.ne2).fz
              have HK5 : Hid (∀ k, wr.heap.size ≤ k → k < w4.heap.size → (w5.setCell ⟨l, 2, none⟩ (.slice p5 n5 cap5)).heap[k]? = w4.heap[k]?) := fun k hk hk' => by
                have hne : k ≠ l := by have := HR4.out.lt; omega
                rw [set_far hne]
                refine (hg5.block k (by simp; omega) fun e => ?_).trans (Below.heap_alloc w4 _ k hk')
                have := (HR4.out.z2 k e.symm).2.1
                omega
              have HV5 : Hid ((w5.setCell ⟨l, 2, none⟩ (.slice p5 n5 cap5)).ownsRow wr.heap.size 9 1 (.slice pr ds.length cr) ds.length (sv ds)) := own_kept HV4.out fun k hk => HK5.out k (HV4.out.lt k hk).1 (HV4.out.lt k hk).2
              obtain ⟨hp5, ho5⟩ := HA4.out.put2 (fun k hk => HY4.out k (Nat.le_trans HB4.out.size (Nat.le_trans (by simp) hk))) hr5 hg5 (fun k e => (hat5 k e).imp id fun h => by first | exact h | simpa using h)
              have HP5 : Hid (GR (w5.setCell ⟨l, 2, none⟩ (.slice p5 n5 cap5)) Y4 l c { g with segs := acc } (stV acc ++ [.int .i64 (q : Int)]) (reV (recsL acc)) (.slice p5 n5 cap5) (.slice p4 m cap4)) := hp5
              have HO5 : Hid (Only Y4 wr (w5.setCell ⟨l, 2, none⟩ (.slice p5 n5 cap5))) := ((Only.of HB4.out).alloc _).trans ho5
              have b5 : w5.cell? ⟨wr.heap.size, 1, none⟩ = some (.string ⟨dat.toArray⟩) := by
                have hne : wr.heap.size ≠ l := by have := HR4.out.lt; omega
                have e1 := HK5.out wr.heap.size (Nat.le_refl _) bl4
                rw [set_far hne] at e1
                exact cell_at e1 b1
              clear hr5 hg5 hat5 hn5 hp5 ho5 c2 c4 b1
              go_wp2_with (first | (at_builtin; refine wpList_rw2 _ rfl _ _ 44 rfl 9 (.string ⟨#[]⟩) 16 Tryz.underlying44 ⟨i0, hi, hz0, hz1, hz2⟩ rfl (by decide) (.slice p4 m cap4) (reV (recsL acc)) rfl HP5.out.recs (.slice pr ds.length cr) (sv ds) rfl (src_row _ _ Tryz.underlying44 HV5.out (sv_one _)) (by rw [sv_length]; have := HLR.out; omega) ?_))
              intro p6 cap6 n6 w6 hn6 hr6 hg6 hat6
              have t4 := (HP5.out.stillc hg6 HP5.out.ne4).c4
              have tf := (HP5.out.stillc hg6 HP5.out.ne4).fz
              obtain ⟨hp6, ho6⟩ := HP5.out.put4 (fun k hk => HY4.out k (Nat.le_trans HO5.out.size hk)) hr6 hg6 (fun k e => (hat6 k e).imp id fun h => by first | exact h | simpa using h | (simp [World.setCell] at h ⊢; omega))
              have HP6 : Hid (GR (w6.setCell ⟨l, 4, none⟩ (.slice p6 n6 cap6)) Y4 l c { g with segs := acc } (stV acc ++ [.int .i64 (q : Int)]) (reV (recsL acc) ++ sv ds) (.slice p5 n5 cap5) (.slice p6 n6 cap6)) := hp6
              have HO6 : Hid (Only Y4 wr (w6.setCell ⟨l, 4, none⟩ (.slice p6 n6 cap6))) := HO5.out.trans ho6
              have b6 : w6.cell? ⟨wr.heap.size, 1, none⟩ = some (.string ⟨dat.toArray⟩) := by
                have hne : wr.heap.size ≠ l := by have := HR4.out.lt; omega
                have e1 := hg6.block wr.heap.size (Nat.lt_of_lt_of_le (World.block_lt_of_cell? _ _ b5) (by simp [World.setCell])) fun e => by
                  have := (HR4.out.z4 wr.heap.size e.symm).2.1
                  omega
                have e2 := e1.trans (set_far hne)
                exact cell_at e2 b5
              have hnl : ¬ wr.heap.size = l := by have := HR4.out.lt; omega
              have f1 : (0 : Int) ≤ (n4 : Int) := by omega
              have f2 : (n4 : Int) ≤ (dat.length : Int) := by omega
              clear hr6 hg6 hat6 hn6 hp6 ho6 b5
              go_wp2
              go_roundw
              case rel =>
                have hat := HP6.out.is (g' := { { g with segs := acc } with segs := acc ++ [(q, ds)] }) rfl rfl rfl (by rw [stV_app]) (by rw [reV_app])
                have hw : LgW { { g with segs := acc } with segs := acc ++ [(q, ds)] } := by
                  have hac := HACC.out
                  refine HI1.out.ok.more HQN.out (by rw [HDS.out]; exact fr_small dat) (by omega) (placeN_iff.1 HPL.out).1 ?_
                  simp only
                  omega
                obtain ⟨r1, r2⟩ := HOW.out _ _ _ _ hat hw HO6.out
                refine ⟨k + 1, acc ++ [(q, ds)], _, _, _, cat (fr dat), decide ((cat (fr dat)).length < dat.length), by omega, by go_num, ?_, ?_, ?_, r1, HO1.out.trans r2, ?_, ?_⟩
                · simp only [List.length_append, List.length_singleton]
                  exact Nat.succ_le_succ HACC.out
                · refine congrArg Value.string (ba_eq ?_)
                  rw [extract_list, HN4.out]
                  exact fr_front dat
                · rw [HN4.out]
                · rw [HLD.out, HDR.out, loadR_next HLG.out HPL.out HGP.out, HDS.out]
                · rw [HDS.out]
                  exact Tail.next ((placeN_iff.1 HPL.out).2 ▸ HMEM.out)
              case measure => simp [intOf]; omega
            · have HLN : Hid (loadR g.frm fs [] = none) := by
                have : loadR g.frm fs [] = none := by rw [HLD.out, HDR.out, loadR_gap HLG.out HPL.out ⟨HNE.out, fun e => hqn (e.trans HNN.out)⟩]
                exact this
              have hqs : ((q : Int) == (x.1 : Int) + (m : Int)) = false := by rw [beq_eq_false_iff_ne]; omega
              have hqr : ((q : Int) != (x.1 : Int) + (m : Int)) = true := by rw [bne_iff_ne]; omega
              clear hqn hsx
              go_wp2
              go_quiet (fail)
              have HBq : Hid (Below wr.heap.size wr (w2.drewN nq)) := below_drewN HBq.out nq
              go_wp2
              refine bodyPost_ret (v := .tuple #[.string ⟨#[]⟩, .bool false, .bool false]) (by simp [results, Tryz.results64, go_sem]) rfl ?_
              refine ⟨(Only.of HB0.out).trans ((HO1.out.later HBq.out).mono (zoneL_sub HX.out HB0.out.size)), Or.inl ⟨by rw [HFS.out]; exact HLN.out, rfl, { g with segs := acc }, ?_⟩⟩
              exact ((HI1.out.later HBq.out).mono (fun k _ hk => zoneL_sub HX.out HB0.out.size k hk)).is
    · have hk' : k = fs.length := by omega
      subst hk'
      have hnlt : ¬ (fs.length : Int) < (fs.length : Int) := by omega
      clear hi1' ho1 hacc htl hlt
      go_wp2
      refine bodyPost_ret (v := .tuple #[.string ⟨ws.toArray⟩, .bool tb, .bool true]) (by simp [results, Tryz.results64, go_sem]) rfl ?_
      rw [List.drop_length] at hld
      refine ⟨(Only.of HB0.out).trans (HO1.out.mono (zoneL_sub HX.out HB0.out.size)), Or.inr ⟨acc, ws, tb, by rw [HFS.out, hld]; rfl, rfl, ?_, by rw [HFS.out]; exact HTL.out⟩⟩
      exact (HI1'.out.mono (fun k _ hk => zoneL_sub HX.out HB0.out.size k hk)).is
end Go.Proofs.YtckmjmpajbjbkaaGreatDoor
/- Walks of the document's log, eleventh part: mends (written by mkmend6.py). -/
namespace Go.Proofs.YtckmjmpajbjbkaaGreatDoor
open Go.RowKit

theorem findE_mend (fs : Fs) : findE fs mendN = 0 ∨ findE fs mendN = 41 := by
  unfold findE
  rw [if_pos mendN_ok]
  split
  · exact Or.inl rfl
  · exact Or.inr rfl
theorem mends_no {st : St} {nm : Nm} {W : List UInt8} (h : (readR st mendN).2 ≠ 0) : mendR st nm W = thenR (appR st mendN W) fun s => thenR (synR s mendN) fun s => renR s mendN nm := by
  unfold readR at h
  by_cases hd : st.down
  · have e1 : remR st mendN = (3, st) := by simp [remR, stepR, hd]
    have e2 : appR st mendN W = (3, st) := by simp [appR, stepR, hd]
    simp [mendR, e1, e2, thenR]
  · rw [if_neg hd] at h
    have hf : findE st.fs mendN = 41 := by
      rcases findE_mend st.fs with e | e
      · rw [e] at h
        simp at h
      · exact e
    have e1 : remR st mendN = (41, st) := by simp [remR, stepR, hd, hf]
    simp [mendR, e1]
theorem mends_yes {st : St} {nm : Nm} {W : List UInt8} (h : (readR st mendN).2 = 0) : mendR st nm W = if (remR st mendN).1 ≠ 0 then remR st mendN else thenR (appR (remR st mendN).2 mendN W) fun s => thenR (synR s mendN) fun s => renR s mendN nm := by
  unfold readR at h
  by_cases hd : st.down
  · rw [if_pos hd] at h
    cases h
  · rw [if_neg hd] at h
    have hf : findE st.fs mendN = 0 := by
      rcases findE_mend st.fs with e | e
      · exact e
      · rw [e] at h
        simp at h
    have e1 : (remR st mendN).1 ≠ 41 := by
      simp only [remR, stepR, hd, hf]
      simp
      split <;> simp
    simp [mendR, e1]

set_option maxHeartbeats 8000000 in
set_option maxRecDepth 100000 in
theorem gmends_any (w : World) (X : Nat → Prop) (l c : Nat) (st : St) (g : Lg) (v a2 a4 : Value) (h : IsGE w X l c st g v a2 a4) (hX : ∀ k, w.heap.size ≤ k → X k) (hst : st.steps < 4611686018427387000) (s t : ByteArray) (hs : s.size ≤ 9223372036854775807) (ht : t.size ≤ 2147483647) :
    Calls Tryz.prog 66 #[.pointer (some ⟨l, 0, none⟩), .string s, .string t] w fun e w' => e = .returned (.int .i64 (mendR st s.data.toList t.data.toList).1) ∧ IsG w' X l c (mendR st s.data.toList t.data.toList).2 g ∧ Only X w w' := by
  have HI : Hid (IsGE w X l c st g v a2 a4) := h
  have HX : Hid (∀ k, w.heap.size ≤ k → X k) := hX
  obtain ⟨Y, hL⟩ := h.at
  have c0 := hL.gc.c0
  obtain ⟨Z, hZ⟩ := h.ref
  have HZ : Hid (RefAt w Z c st v) := hZ
  clear h hX hL hZ
  go_enter Tryz.func66, Tryz.ntmps66
  go_wp2_with fail
  refine (rread_any _ Z c st v ⟨#[109, 101, 110, 100]⟩ (by decide) HZ.out).mono ?_
  rintro e w0 ⟨rfl, hb0⟩
  rw [mendS]
  have HI0 : Hid (IsGE w0 X l c st g v a2 a4) := HI.out.later hb0
  have HO0 : Hid (Only X w w0) := Only.of hb0
  have k0 := cell_later hb0 c0
  clear hb0 c0
  by_cases h0 : (readR st mendN).2 = 0
  · have HME : Hid (mendR st s.data.toList t.data.toList = if (remR st mendN).1 ≠ 0 then remR st mendN else thenR (appR (remR st mendN).2 mendN t.data.toList) fun z => thenR (synR z mendN) fun z => renR z mendN s.data.toList) := mends_yes h0
    rw [h0]
    clear h0
    go_wp2_with fail
    refine (gdremove_any HI0.out (fun k hk => HX.out k (Nat.le_trans HO0.out.size hk)) (by omega) ⟨#[109, 101, 110, 100]⟩ (by decide)).mono ?_
    rintro e w1 ⟨rfl, ⟨v1, hi1⟩, ho1⟩
    rw [mendS] at hi1
    rw [mendS]
    have s1 := remR_steps st mendN
    obtain ⟨r1, hr1⟩ : ∃ r1, remR st mendN = r1 := ⟨_, rfl⟩
    rw [hr1] at hi1 s1 ⊢
    rw [hr1] at HME
    obtain ⟨st1, hst1⟩ : ∃ st1, r1.2 = st1 := ⟨_, rfl⟩
    rw [hst1] at hi1 s1
    have HI1 : Hid (IsGE w1 X l c st1 g v1 a2 a4) := hi1
    have HO1 : Hid (Only X w w1) := HO0.out.trans ho1
    obtain ⟨Y1, hL1⟩ := hi1.at
    have c1 := hL1.gc.c0
    clear hi1 ho1 hL1 k0
    by_cases h1 : r1.1 = 0
    · have HMM : Hid (mendR st s.data.toList t.data.toList = thenR (appR st1 mendN t.data.toList) fun z => thenR (synR z mendN) fun z => renR z mendN s.data.toList) := by
        have := HME.out
        rw [if_neg (fun e => e h1), hst1] at this
        exact this
      rw [h1]
      clear h1 hr1 hst1
      obtain ⟨r2, hr2⟩ : ∃ r2, appR st1 mendN t.data.toList = r2 := ⟨_, rfl⟩
      have s2 := appR_steps st1 mendN t.data.toList
      rw [hr2] at s2
      obtain ⟨r3, hr3⟩ : ∃ r3, synR r2.2 mendN = r3 := ⟨_, rfl⟩
      have s3 := synR_steps r2.2 mendN
      rw [hr3] at s3
      obtain ⟨r4, hr4⟩ : ∃ r4, renR r3.2 mendN s.data.toList = r4 := ⟨_, rfl⟩
      have HM : Hid (mendR st s.data.toList t.data.toList = if r2.1 ≠ 0 then r2 else if r3.1 ≠ 0 then r3 else r4) := by
        have : mendR st s.data.toList t.data.toList = if r2.1 ≠ 0 then r2 else if r3.1 ≠ 0 then r3 else r4 := by
          rw [HMM.out]
          simp only [thenR, hr2, hr3, hr4]
        exact this
      have HR2 : Hid (appR st1 mendN t.data.toList = r2) := hr2
      have HR3 : Hid (synR r2.2 mendN = r3) := hr3
      have HR4 : Hid (renR r3.2 mendN s.data.toList = r4) := hr4
      clear hr2 hr3 hr4
      go_wp2_with fail
      refine (gdappend_any HI1.out (fun k hk => HX.out k (Nat.le_trans HO1.out.size hk)) (by omega) ⟨#[109, 101, 110, 100]⟩ t (by decide) ht).mono ?_
      rintro e w2 ⟨rfl, ⟨v2', hi2⟩, ho2⟩
      rw [mendS, HR2.out] at hi2
      rw [mendS, HR2.out]
      have HI2 : Hid (IsGE w2 X l c r2.2 g v2' a2 a4) := hi2
      have HO2 : Hid (Only X w w2) := HO1.out.trans ho2
      obtain ⟨Y2, hL2⟩ := hi2.at
      have c2 := hL2.gc.c0
      clear hi2 ho2 hL2
      by_cases h2 : r2.1 = 0
      · have g2 : r2.1 = 0 := h2
        have HG2 : Hid (¬ r2.1 ≠ 0) := fun e => e h2
        rw [h2]
        clear h2 g2
        go_wp2_with fail
        refine (gdsync_any HI2.out (fun k hk => HX.out k (Nat.le_trans HO2.out.size hk)) (by omega) ⟨#[109, 101, 110, 100]⟩ (by decide)).mono ?_
        rintro e w3 ⟨rfl, ⟨v3', hi3⟩, ho3⟩
        rw [mendS, HR3.out] at hi3
        rw [mendS, HR3.out]
        have HI3 : Hid (IsGE w3 X l c r3.2 g v3' a2 a4) := hi3
        have HO3 : Hid (Only X w w3) := HO2.out.trans ho3
        obtain ⟨Y3, hL3⟩ := hi3.at
        have c3 := hL3.gc.c0
        clear hi3 ho3 hL3
        by_cases h3 : r3.1 = 0
        · have HG3 : Hid (¬ r3.1 ≠ 0) := fun e => e h3
          rw [h3]
          clear h3
          go_wp2_with fail
          refine (gdrename_any HI3.out (fun k hk => HX.out k (Nat.le_trans HO3.out.size hk)) (by omega) ⟨#[109, 101, 110, 100]⟩ s (by decide) hs).mono ?_
          rintro e w4 ⟨rfl, ⟨v4', hi4⟩, ho4⟩
          rw [mendS, HR4.out] at hi4
          rw [mendS, HR4.out]
          have HI4 : Hid (IsGE w4 X l c r4.2 g v4' a2 a4) := hi4
          have HO4 : Hid (Only X w w4) := HO3.out.trans ho4
          clear hi4 ho4
          go_wp2
          go_ret
          rw [HM.out, if_neg HG2.out, if_neg HG3.out]
          exact ⟨rfl, HI4.out.is, HO4.out⟩
        · have g3 : ¬ r3.1 = 0 := h3
          have HG3 : Hid (r3.1 ≠ 0) := h3
          clear h3
          go_wp2
          go_ret
          rw [HM.out, if_neg HG2.out, if_pos HG3.out]
          exact ⟨rfl, HI3.out.is, HO3.out⟩
      · have g2 : ¬ r2.1 = 0 := h2
        have HG2 : Hid (r2.1 ≠ 0) := h2
        clear h2
        go_wp2
        go_ret
        rw [HM.out, if_pos HG2.out]
        exact ⟨rfl, HI2.out.is, HO2.out⟩
    · have g1 : ¬ r1.1 = 0 := h1
      have HMM : Hid (mendR st s.data.toList t.data.toList = r1) := by
        have := HME.out
        rw [if_pos h1] at this
        exact this
      have HS1 : Hid (r1.2 = st1) := hst1
      clear h1 hr1 hst1
      go_wp2
      go_ret
      rw [HMM.out, HS1.out]
      exact ⟨rfl, HI1.out.is, HO1.out⟩
  · have HMM : Hid (mendR st s.data.toList t.data.toList = thenR (appR st mendN t.data.toList) fun z => thenR (synR z mendN) fun z => renR z mendN s.data.toList) := mends_no h0
    have g0 : ¬ (readR st mendN).2 = 0 := h0
    have HI1 : Hid (IsGE w0 X l c st g v a2 a4) := HI0.out
    have HO1 : Hid (Only X w w0) := HO0.out
    clear h0
    obtain ⟨r2, hr2⟩ : ∃ r2, appR st mendN t.data.toList = r2 := ⟨_, rfl⟩
    have s2 := appR_steps st mendN t.data.toList
    rw [hr2] at s2
    obtain ⟨r3, hr3⟩ : ∃ r3, synR r2.2 mendN = r3 := ⟨_, rfl⟩
    have s3 := synR_steps r2.2 mendN
    rw [hr3] at s3
    obtain ⟨r4, hr4⟩ : ∃ r4, renR r3.2 mendN s.data.toList = r4 := ⟨_, rfl⟩
    have HM : Hid (mendR st s.data.toList t.data.toList = if r2.1 ≠ 0 then r2 else if r3.1 ≠ 0 then r3 else r4) := by
      have : mendR st s.data.toList t.data.toList = if r2.1 ≠ 0 then r2 else if r3.1 ≠ 0 then r3 else r4 := by
        rw [HMM.out]
        simp only [thenR, hr2, hr3, hr4]
      exact this
    have HR2 : Hid (appR st mendN t.data.toList = r2) := hr2
    have HR3 : Hid (synR r2.2 mendN = r3) := hr3
    have HR4 : Hid (renR r3.2 mendN s.data.toList = r4) := hr4
    clear hr2 hr3 hr4
    go_wp2_with fail
    refine (gdappend_any HI1.out (fun k hk => HX.out k (Nat.le_trans HO1.out.size hk)) (by omega) ⟨#[109, 101, 110, 100]⟩ t (by decide) ht).mono ?_
    rintro e w2 ⟨rfl, ⟨v2', hi2⟩, ho2⟩
    rw [mendS, HR2.out] at hi2
    rw [mendS, HR2.out]
    have HI2 : Hid (IsGE w2 X l c r2.2 g v2' a2 a4) := hi2
    have HO2 : Hid (Only X w w2) := HO1.out.trans ho2
    obtain ⟨Y2, hL2⟩ := hi2.at
    have c2 := hL2.gc.c0
    clear hi2 ho2 hL2
    by_cases h2 : r2.1 = 0
    · have g2 : r2.1 = 0 := h2
      have HG2 : Hid (¬ r2.1 ≠ 0) := fun e => e h2
      rw [h2]
      clear h2 g2
      go_wp2_with fail
      refine (gdsync_any HI2.out (fun k hk => HX.out k (Nat.le_trans HO2.out.size hk)) (by omega) ⟨#[109, 101, 110, 100]⟩ (by decide)).mono ?_
      rintro e w3 ⟨rfl, ⟨v3', hi3⟩, ho3⟩
      rw [mendS, HR3.out] at hi3
      rw [mendS, HR3.out]
      have HI3 : Hid (IsGE w3 X l c r3.2 g v3' a2 a4) := hi3
      have HO3 : Hid (Only X w w3) := HO2.out.trans ho3
      obtain ⟨Y3, hL3⟩ := hi3.at
      have c3 := hL3.gc.c0
      clear hi3 ho3 hL3
      by_cases h3 : r3.1 = 0
      · have HG3 : Hid (¬ r3.1 ≠ 0) := fun e => e h3
        rw [h3]
        clear h3
        go_wp2_with fail
        refine (gdrename_any HI3.out (fun k hk => HX.out k (Nat.le_trans HO3.out.size hk)) (by omega) ⟨#[109, 101, 110, 100]⟩ s (by decide) hs).mono ?_
        rintro e w4 ⟨rfl, ⟨v4', hi4⟩, ho4⟩
        rw [mendS, HR4.out] at hi4
        rw [mendS, HR4.out]
        have HI4 : Hid (IsGE w4 X l c r4.2 g v4' a2 a4) := hi4
        have HO4 : Hid (Only X w w4) := HO3.out.trans ho4
        clear hi4 ho4
        go_wp2
        go_ret
        rw [HM.out, if_neg HG2.out, if_neg HG3.out]
        exact ⟨rfl, HI4.out.is, HO4.out⟩
      · have g3 : ¬ r3.1 = 0 := h3
        have HG3 : Hid (r3.1 ≠ 0) := h3
        clear h3
        go_wp2
        go_ret
        rw [HM.out, if_neg HG2.out, if_pos HG3.out]
        exact ⟨rfl, HI3.out.is, HO3.out⟩
    · have g2 : ¬ r2.1 = 0 := h2
      have HG2 : Hid (r2.1 ≠ 0) := h2
      clear h2
      go_wp2
      go_ret
      rw [HM.out, if_pos HG2.out]
      exact ⟨rfl, HI2.out.is, HO2.out⟩
end Go.Proofs.YtckmjmpajbjbkaaGreatDoor
/- Walks of the document's log, twelfth part: what Open leans on (written by mkopen6.py). -/
namespace Go.Proofs.YtckmjmpajbjbkaaGreatDoor
open Go.RowKit

/-- What Open leaves. -/
def GOpenP (w : World) (X : Nat → Prop) (c : Nat) (r : Int × St × Option Lg) (e : Ending) (w' : World) : Prop :=
  Only X w w' ∧ ((r.2.2 = none ∧ e = .returned (.tuple #[.pointer none, .int .i64 r.1]) ∧ ∃ v, RefAt w' X c r.2.1 v) ∨ ∃ l g, r.2.2 = some g ∧ e = .returned (.tuple #[.pointer (some ⟨l, 0, none⟩), .int .i64 r.1]) ∧ IsG w' X l c r.2.1 g)
theorem IsG.toRef {w : World} {X : Nat → Prop} {l c : Nat} {st : St} {g : Lg} (h : IsG w X l c st g) : ∃ v, RefAt w X c st v := by
  obtain ⟨v, v2, v4, _, _, Z, Y, k1, _, _, k4, _⟩ := h
  exact ⟨v, k1.mono fun k _ hk => k4 k hk⟩
/-- A log that has just been made. -/
theorem gMade {w : World} {X : Nat → Prop} {c : Nat} {st : St} {v : Value} (hX : ∀ k, w.heap.size ≤ k → X k) (hD : RefAt w X c st v) (hok : OKs st) (g : Lg) (hg : LgW g) (hs : g.segs = []) :
    IsGE (w.alloc (.cells (gcells c g (.slice none 0 0) (.slice none 0 0)) 88)) X w.heap.size c st g v (.slice none 0 0) (.slice none 0 0) := by
  have hb : Below w.heap.size w (w.alloc (.cells (gcells c g (.slice none 0 0) (.slice none 0 0)) 88)) := (Below.refl _ _).alloc (Nat.le_refl _) _
  have hD2 : RefAt w (fun k => X k ∧ k < w.heap.size) c st v := hD.mono fun k hk hx => ⟨hx, hk⟩
  refine ⟨hg, hok, fun k => X k ∧ k < w.heap.size, fun k => k = w.heap.size, hD2.later hb, ⟨heap_alloc_new w _, rfl, by rw [hs]; exact Rw.nil _, by rw [hs]; exact Rw.nil _, fun k e => (by cases e), fun k e => (by cases e), fun k e => (by cases e)⟩, fun k h1 h2 => by omega, fun k hk => hk.1, fun k hk => hX k (by omega)⟩
theorem settle_tail {st : St} {L : List Sg} {ws : List UInt8} {tb : Bool} (hok : OKs st) (hd : st.down = false) (ht : Tail st.fs L ws tb) (hne : L ≠ []) : settleR st L = if tb then mendR st (nameN (lastL L).1) ws else synR st (nameN (lastL L).1) := by
  rcases ht with ⟨e, _⟩ | ⟨_, dat, sf, hm, rfl, rfl⟩
  · exact absurd e hne
  · have hg := getL_of_mem hok.files.sorted hm
    have hf : findE st.fs (nameN (lastL L).1) = 0 := by simp [findE, nameN_ok, hg]
    have hr : readR st (nameN (lastL L).1) = (dat, 0) := by simp [readR, hd, hf, fileOf, hg]
    unfold settleR
    rw [if_neg hne, hr]
    simp
theorem tail_len {fs : Fs} {L : List Sg} {ws : List UInt8} {tb : Bool} {n : Nat} (hok : OKf n fs) (ht : Tail fs L ws tb) : ws.length ≤ 1048576 := by
  rcases ht with ⟨_, rfl, _⟩ | ⟨_, dat, sf, hm, rfl, _⟩
  · simp
  · have h1 := hok.len hm
    have h2 := hok.small
    have h3 := fr_le dat
    simp only at h1
    omega
end Go.Proofs.YtckmjmpajbjbkaaGreatDoor
/- Walks of the document's log, twelfth part: Open (written by mkopen6.py). -/
namespace Go.Proofs.YtckmjmpajbjbkaaGreatDoor
open Go.RowKit

set_option maxHeartbeats 8000000 in
set_option maxRecDepth 100000 in
theorem gopen_any (w : World) (X : Nat → Prop) (c : Nat) (st : St) (v : Value) (hX : ∀ k, w.heap.size ≤ k → X k) (hD : RefAt w X c st v) (hok : OKs st) (hst : st.steps < 4611686018427387000) (f size : Int) :
    Calls Tryz.prog 32 #[.pointer (some ⟨c, 0, none⟩), .int .i64 f, .int .i64 size] w (GOpenP w X c (openR st f size)) := by
  have HX : Hid (∀ k, w.heap.size ≤ k → X k) := hX
  have HD : Hid (RefAt w X c st v) := hD
  have HK : Hid (OKs st) := hok
  obtain ⟨_, _, _, c3, _⟩ := rcell5 hD.cells
  clear hX hD hok
  by_cases h1 : f < 0
  · have HE : Hid (openR st f size = (1, st, none)) := openR_arg (Or.inl h1)
    have g1 : decide (f < 0) = true := decide_eq_true h1
    go_enter Tryz.func32, Tryz.ntmps32
    go_wp2
    refine bodyPost_ret (v := .tuple #[.pointer none, .int .i64 1]) (by simp [results, Tryz.results32, go_sem]) rfl ?_
    rw [HE.out]
    exact ⟨Only.refl _ _, Or.inl ⟨rfl, rfl, v, HD.out⟩⟩
  have g1 : decide (f < 0) = false := decide_eq_false h1
  by_cases h2 : 1000000000000 ≤ f
  · have HE : Hid (openR st f size = (1, st, none)) := openR_arg (Or.inr (Or.inl h2))
    have g2 : decide (999999999999 < f) = true := decide_eq_true (by omega)
    clear h1 h2
    go_enter Tryz.func32, Tryz.ntmps32
    go_wp2
    refine bodyPost_ret (v := .tuple #[.pointer none, .int .i64 1]) (by simp [results, Tryz.results32, go_sem]) rfl ?_
    rw [HE.out]
    exact ⟨Only.refl _ _, Or.inl ⟨rfl, rfl, v, HD.out⟩⟩
  have g2 : decide (999999999999 < f) = false := decide_eq_false (by omega)
  by_cases h3 : size < 1
  · have HE : Hid (openR st f size = (1, st, none)) := openR_arg (Or.inr (Or.inr (Or.inl h3)))
    have g3 : decide (size < 1) = true := decide_eq_true h3
    clear h1 h2 h3
    go_enter Tryz.func32, Tryz.ntmps32
    go_wp2
    refine bodyPost_ret (v := .tuple #[.pointer none, .int .i64 1]) (by simp [results, Tryz.results32, go_sem]) rfl ?_
    rw [HE.out]
    exact ⟨Only.refl _ _, Or.inl ⟨rfl, rfl, v, HD.out⟩⟩
  have g3 : decide (size < 1) = false := decide_eq_false h3
  by_cases h4 : 1024 < size
  · have HE : Hid (openR st f size = (1, st, none)) := openR_arg (Or.inr (Or.inr (Or.inr h4)))
    have g4 : decide (1024 < size) = true := decide_eq_true h4
    clear h1 h2 h3 h4
    go_enter Tryz.func32, Tryz.ntmps32
    go_wp2
    refine bodyPost_ret (v := .tuple #[.pointer none, .int .i64 1]) (by simp [results, Tryz.results32, go_sem]) rfl ?_
    rw [HE.out]
    exact ⟨Only.refl _ _, Or.inl ⟨rfl, rfl, v, HD.out⟩⟩
  have g4 : decide (1024 < size) = false := decide_eq_false h4
  have HBAD : Hid (¬ argBad f size) := fun e => by
    rcases e with e | e | e | e
    · exact h1 e
    · exact h2 e
    · exact h3 e
    · exact h4 e
  obtain ⟨F, rfl⟩ : ∃ F : Nat, f = (F : Int) := ⟨f.toNat, by omega⟩
  obtain ⟨S, rfl⟩ : ∃ S : Nat, size = (S : Int) := ⟨size.toNat, by omega⟩
  have HFS : Hid (F < 1000000000000 ∧ 1 ≤ S ∧ S ≤ 1024) := by
    have : F < 1000000000000 ∧ 1 ≤ S ∧ S ≤ 1024 := by omega
    exact this
  clear h1 h2 h3 h4
  cases hd : st.down with
  | true =>
    have HE : Hid (openR st (F : Int) (S : Int) = (3, st, none)) := openR_down HBAD.out hd
    rw [hd] at c3
    clear hd
    go_enter Tryz.func32, Tryz.ntmps32
    go_wp2
    refine bodyPost_ret (v := .tuple #[.pointer none, .int .i64 3]) (by simp [results, Tryz.results32, go_sem]) rfl ?_
    rw [HE.out]
    exact ⟨Only.refl _ _, Or.inl ⟨rfl, rfl, v, HD.out⟩⟩
  | false =>
    have HDN : Hid (st.down = false) := hd
    rw [hd] at c3
    clear hd
    obtain ⟨g, hgg⟩ : ∃ g : Lg, g = { size := S, frm := F, safe := 0, segs := [] } := ⟨_, rfl⟩
    have HGG : Hid (g = { size := S, frm := F, safe := 0, segs := [] }) := hgg
    have HSG : Hid (g.segs = []) := by
      have : g.segs = [] := by rw [hgg]
      exact this
    have hFR : g.frm = F := by rw [hgg]
    have HGW : Hid (LgW g) := by
      rw [hgg]
      exact ⟨⟨HFS.out.2.1, HFS.out.2.2⟩, HFS.out.1, trivial, fun s h => (by cases h), fun s h => (by cases h), fun s h => (by cases h), by simp⟩
    have HMADE : Hid (IsGE (w.alloc (.cells #[.pointer (some ⟨c, 0, none⟩), .int .i64 (S : Int), .slice none 0 0, .int .i64 (F : Int), .slice none 0 0, .int .i64 0] 88)) X w.heap.size c st g v (.slice none 0 0) (.slice none 0 0)) := by
      have := gMade HX.out HD.out HK.out g HGW.out HSG.out
      rw [show gcells c g (.slice none 0 0) (.slice none 0 0) = #[.pointer (some ⟨c, 0, none⟩), .int .i64 (S : Int), .slice none 0 0, .int .i64 (F : Int), .slice none 0 0, .int .i64 0] by rw [hgg]; rfl] at this
      exact this
    have HBM : Hid (∀ o, Only X w (w.alloc o)) := fun o => (Only.refl _ _).alloc o
    have HFR : Hid (g.frm = F) := hFR
    clear hgg hFR
    go_enter Tryz.func32, Tryz.ntmps32
    go_wp2_with fail
    refine (gread0_any _ X w.heap.size c st g v _ _ HMADE.out HSG.out (fun k hk => HX.out k (Nat.le_trans (HBM.out _).size hk))).mono ?_
    rintro e w2 ⟨ho2, hcase⟩
    obtain ⟨l, hl⟩ : ∃ l, w.heap.size = l := ⟨_, rfl⟩
    rw [hl] at hcase ⊢
    clear hl
    have HO2 : Hid (Only X w w2) := (HBM.out _).trans ho2
    clear ho2
    rcases hcase with ⟨hld, rfl, g', hi2⟩ | ⟨L, ws, tb, hld, rfl, hi2, htl⟩
    · rw [HFR.out] at hld
      have HE : Hid (openR st (F : Int) (S : Int) = (60, st, none)) := openR_log HBAD.out HDN.out hld
      have HI2 : Hid (∃ v, RefAt w2 X c st v) := hi2.toRef
      clear hld hi2
      go_wp2
      refine bodyPost_ret (v := .tuple #[.pointer none, .int .i64 60]) (by simp [results, Tryz.results32, go_sem]) rfl ?_
      rw [HE.out]
      exact ⟨HO2.out, Or.inl ⟨rfl, rfl, HI2.out⟩⟩
    · rw [HFR.out] at hld
      have HLD : Hid (loadR ((F : Int).toNat) st.fs [] = some L) := hld
      have HTL : Hid (Tail st.fs L ws tb) := htl
      obtain ⟨v2', a2, a4, hi2⟩ := hi2
      have HI2 : Hid (IsGE w2 X l c st { g with segs := L } v2' a2 a4) := hi2
      obtain ⟨Y2, hL2⟩ := hi2.at
      have k2 := hL2.gc.c2
      have HL2 : Hid (GAt w2 Y2 l c { g with segs := L } a2 a4) := hL2
      have HWL : Hid ((⟨ws.toArray⟩ : ByteArray).size ≤ 2147483647) := by
        have h1 := tail_len HK.out.files htl
        have h2 : (⟨ws.toArray⟩ : ByteArray).size = ws.length := rfl
        have : (⟨ws.toArray⟩ : ByteArray).size ≤ 2147483647 := by omega
        exact this
      clear hld htl hi2 hL2
      by_cases hz : L = []
      · have HEND : Hid (openR st (F : Int) (S : Int) = (0, st, some { { g with segs := L } with safe := Lg.next { g with segs := L } })) := by
          have hs : settleR st L = (0, st) := by simp [settleR, hz]
          have := openR_ok HBAD.out HDN.out HLD.out (by rw [hs])
          rw [hs] at this
          rw [HGG.out]
          exact this
        obtain ⟨p, cap, rfl, _⟩ := HL2.out.starts.form
        rw [stV_length] at k2
        simp only [hz, List.length_nil] at k2
        have HL4 := HL2
        have HI4 := HI2
        have HO4 := HO2
        clear hz
        go_wp2_with fail
        refine (gnext_any _ Y2 l c _ _ _ HL4.out HI4.out.ok).mono ?_
        rintro e w5 ⟨rfl, hb5⟩
        have s5 := (HL4.out.later hb5).gc.c5
        have sf := (HL4.out.later hb5).gc.fz
        have HB5 : Hid (Below w2.heap.size w2 w5) := hb5
        clear hb5
        go_wp2
        refine bodyPost_ret (v := .tuple #[.pointer (some ⟨l, 0, none⟩), .int .i64 0]) (by simp [results, Tryz.results32, go_sem]) rfl ?_
        rw [HEND.out]
        obtain ⟨Y6, hL6, hY6, hown⟩ := HI4.out.own (fun k hk => HX.out k (Nat.le_trans HO4.out.size hk))
        have hl := (hL6.later HB5.out).stored (i := 5) (u := .int .i64 ((Lg.next { g with segs := L } : Nat) : Int)) (g' := { { g with segs := L } with safe := Lg.next { g with segs := L } }) (by simp [gcells]) rfl
        obtain ⟨r1, r2⟩ := hown _ _ _ _ hl (HI4.out.ok.synced _) ((Only.of HB5.out).setCell (p := ⟨l, 5, none⟩) hL6.zl _)
        exact ⟨HO4.out.trans r2, Or.inr ⟨l, _, rfl, rfl, r1.is⟩⟩
      · obtain ⟨A, s, hsg⟩ := snoc_of hz
        have hs12 := HI2.out.ok.lastok (g := { g with segs := L }) hsg
        obtain ⟨hs1, hA⟩ := hs12
        obtain ⟨b, off, cap, rfl, d0⟩ := HL2.out.last (g := { g with segs := L }) hsg
        have hlast : lastL L = s := by rw [hsg, lastL_snoc]
        have HST0 : Hid (settleR st L = if tb then mendR st (nameN s.1) ws else synR st (nameN s.1)) := by
          have := settle_tail HK.out HDN.out HTL.out hz
          rw [hlast] at this
          exact this
        have HPK : Hid (∀ n, Calls Tryz.prog 65 #[.int .i64 (s.1 : Int)] (w2.drewN n) fun e w' => e = .returned (.string ⟨(nameN s.1).toArray⟩) ∧ w' = w2.drewN n) := fun n => gname_any s.1 _ (by omega)
        have hj0 : (0 : Int) ≤ (A.length : Int) := by omega
        have hj1 : (A.length : Int) < (A.length : Int) + 1 := by omega
        have hj2 : (0 : Int) < (A.length : Int) + 1 := by omega
        have hjd : decide ((0 : Int) < (A.length : Int) + 1) = true := decide_eq_true hj2
        have hw1 : IntKind.i64.wrap (A.length : Int) = (A.length : Int) := by rw [IntKind.wrap_i64]; omega
        have hw2 : IntKind.i64.wrap ((A.length : Int) + 1 - 1) = (A.length : Int) := by rw [IntKind.wrap_i64]; omega
        clear hz hsg hlast
        go_wp2
        go_quiet ((go_at_call 65; exact Calls.quiet_of_same (HPK.out _)))
        obtain ⟨W, hW⟩ : ∃ W, W = w2.drewN nq := ⟨_, rfl⟩
        rw [← hW]
        have HBW : Hid (Below w2.heap.size w2 W) := by rw [hW]; exact ⟨rfl, rfl, rfl, by simp [World.drewN], fun k hk => rfl⟩
        have HI3 : Hid (IsGE W X l c st { g with segs := L } v2' (.slice (some ⟨b, off, none⟩) (A.length + 1) cap) a4) := HI2.out.later HBW.out
        have HO3 : Hid (Only X w W) := HO2.out.later HBW.out
        clear hW k2 d0
        cases tb with
        | true =>
          have HSET : Hid (settleR st L = mendR st (nameN s.1) ws) := by
            have := HST0.out
            simp only [if_true] at this
            exact this
          go_wp2_with fail
          refine (gmends_any _ X l c st _ _ _ _ HI3.out (fun k hk => HX.out k (Nat.le_trans HO3.out.size hk)) hst ⟨(nameN s.1).toArray⟩ ⟨ws.toArray⟩ (gnm_size _) HWL.out).mono ?_
          rintro e w4 ⟨rfl, hi4, ho4⟩
          obtain ⟨r4, hr4⟩ : ∃ r4, mendR st (nameN s.1) ws = r4 := ⟨_, rfl⟩
          simp only [hr4] at hi4 ⊢
          obtain ⟨v4', a24, a44, hi4⟩ := hi4
          have HI4 : Hid (IsGE w4 X l c r4.2 { g with segs := L } v4' a24 a44) := hi4
          clear hi4
          have HO4 : Hid (Only X w w4) := HO3.out.trans ho4
          clear ho4
          have HSE : Hid (settleR st L = r4) := by
            have : settleR st L = r4 := HSET.out.trans hr4
            exact this
          clear hr4
          by_cases h4 : r4.1 = 0
          · have HEND : Hid (openR st (F : Int) (S : Int) = (0, r4.2, some { { g with segs := L } with safe := Lg.next { g with segs := L } })) := by
              have := openR_ok HBAD.out HDN.out HLD.out (by rw [HSE.out]; exact h4)
              rw [HSE.out] at this
              rw [HGG.out]
              exact this
            obtain ⟨Y4, hL4⟩ := HI4.out.at
            have HL4 : Hid (GAt w4 Y4 l c { g with segs := L } a24 a44) := hL4
            rw [h4]
            clear hL4 h4
            go_wp2_with fail
            refine (gnext_any _ Y4 l c _ _ _ HL4.out HI4.out.ok).mono ?_
            rintro e w5 ⟨rfl, hb5⟩
            have s5 := (HL4.out.later hb5).gc.c5
            have sf := (HL4.out.later hb5).gc.fz
            have HB5 : Hid (Below w4.heap.size w4 w5) := hb5
            clear hb5
            go_wp2
            refine bodyPost_ret (v := .tuple #[.pointer (some ⟨l, 0, none⟩), .int .i64 0]) (by simp [results, Tryz.results32, go_sem]) rfl ?_
            rw [HEND.out]
            obtain ⟨Y6, hL6, hY6, hown⟩ := HI4.out.own (fun k hk => HX.out k (Nat.le_trans HO4.out.size hk))
            have hl := (hL6.later HB5.out).stored (i := 5) (u := .int .i64 ((Lg.next { g with segs := L } : Nat) : Int)) (g' := { { g with segs := L } with safe := Lg.next { g with segs := L } }) (by simp [gcells]) rfl
            obtain ⟨r1, r2⟩ := hown _ _ _ _ hl (HI4.out.ok.synced _) ((Only.of HB5.out).setCell (p := ⟨l, 5, none⟩) hL6.zl _)
            exact ⟨HO4.out.trans r2, Or.inr ⟨l, _, rfl, rfl, r1.is⟩⟩
          · have HEE : Hid (openR st (F : Int) (S : Int) = (r4.1, r4.2, none)) := by
              have := openR_err HBAD.out HDN.out HLD.out (by rw [HSE.out]; exact h4)
              rw [HSE.out] at this
              exact this
            have g4 : ¬ r4.1 = 0 := h4
            clear h4
            go_wp2
            refine bodyPost_ret (v := .tuple #[.pointer none, .int .i64 r4.1]) (by simp [results, Tryz.results32, go_sem]) rfl ?_
            rw [HEE.out]
            exact ⟨HO4.out, Or.inl ⟨rfl, rfl, HI4.out.is.toRef⟩⟩
        | false =>
          have HSET : Hid (settleR st L = synR st (nameN s.1)) := by
            have := HST0.out
            simp only [Bool.false_eq_true, if_false] at this
            exact this
          go_wp2_with fail
          refine (gdsync_any HI3.out (fun k hk => HX.out k (Nat.le_trans HO3.out.size hk)) (by omega) ⟨(nameN s.1).toArray⟩ (gnm_size _)).mono ?_
          rintro e w4 ⟨rfl, hi4, ho4⟩
          obtain ⟨r4, hr4⟩ : ∃ r4, synR st (nameN s.1) = r4 := ⟨_, rfl⟩
          simp only [hr4] at hi4 ⊢
          obtain ⟨v4', hi4⟩ := hi4
          have HI4 : Hid (IsGE w4 X l c r4.2 { g with segs := L } v4' (.slice (some ⟨b, off, none⟩) (A.length + 1) cap) a4) := hi4
          clear hi4
          have HO4 : Hid (Only X w w4) := HO3.out.trans ho4
          clear ho4
          have HSE : Hid (settleR st L = r4) := by
            have : settleR st L = r4 := HSET.out.trans hr4
            exact this
          clear hr4
          by_cases h4 : r4.1 = 0
          · have HEND : Hid (openR st (F : Int) (S : Int) = (0, r4.2, some { { g with segs := L } with safe := Lg.next { g with segs := L } })) := by
              have := openR_ok HBAD.out HDN.out HLD.out (by rw [HSE.out]; exact h4)
              rw [HSE.out] at this
              rw [HGG.out]
              exact this
            obtain ⟨Y4, hL4⟩ := HI4.out.at
            have HL4 : Hid (GAt w4 Y4 l c { g with segs := L } (.slice (some ⟨b, off, none⟩) (A.length + 1) cap) a4) := hL4
            rw [h4]
            clear hL4 h4
            go_wp2_with fail
            refine (gnext_any _ Y4 l c _ _ _ HL4.out HI4.out.ok).mono ?_
            rintro e w5 ⟨rfl, hb5⟩
            have s5 := (HL4.out.later hb5).gc.c5
            have sf := (HL4.out.later hb5).gc.fz
            have HB5 : Hid (Below w4.heap.size w4 w5) := hb5
            clear hb5
            go_wp2
            refine bodyPost_ret (v := .tuple #[.pointer (some ⟨l, 0, none⟩), .int .i64 0]) (by simp [results, Tryz.results32, go_sem]) rfl ?_
            rw [HEND.out]
            obtain ⟨Y6, hL6, hY6, hown⟩ := HI4.out.own (fun k hk => HX.out k (Nat.le_trans HO4.out.size hk))
            have hl := (hL6.later HB5.out).stored (i := 5) (u := .int .i64 ((Lg.next { g with segs := L } : Nat) : Int)) (g' := { { g with segs := L } with safe := Lg.next { g with segs := L } }) (by simp [gcells]) rfl
            obtain ⟨r1, r2⟩ := hown _ _ _ _ hl (HI4.out.ok.synced _) ((Only.of HB5.out).setCell (p := ⟨l, 5, none⟩) hL6.zl _)
            exact ⟨HO4.out.trans r2, Or.inr ⟨l, _, rfl, rfl, r1.is⟩⟩
          · have HEE : Hid (openR st (F : Int) (S : Int) = (r4.1, r4.2, none)) := by
              have := openR_err HBAD.out HDN.out HLD.out (by rw [HSE.out]; exact h4)
              rw [HSE.out] at this
              exact this
            have g4 : ¬ r4.1 = 0 := h4
            clear h4
            go_wp2
            refine bodyPost_ret (v := .tuple #[.pointer none, .int .i64 r4.1]) (by simp [results, Tryz.results32, go_sem]) rfl ?_
            rw [HEE.out]
            exact ⟨HO4.out, Or.inl ⟨rfl, rfl, HI4.out.is.toRef⟩⟩
end Go.Proofs.YtckmjmpajbjbkaaGreatDoor
