/- Walks of layer 4, third part: find, Free, findRoom, Arm, names. -/
import Derived.Test.YtckmjmpajbjbkaaGreatDoorD2
namespace Go.Proofs.YtckmjmpajbjbkaaGreatDoor
open Go.RowKit

theorem rawOf {w : World} {Z : Nat → Prop} {b : Nat} {es : List (Nm × Fil)} (h : Held w Z b es) {k : Nm} {f : Fil} (hg : getL es k = some f) : ∃ p cap, f.v = .slice p f.dat.length cap ∧ lookV es k = .agg #[.slice p f.dat.length cap, .int .i64 (f.safe : Int)] := by
  obtain ⟨p, cap, e, _⟩ := (h.rows _ (getL_mem hg)).form
  refine ⟨p, cap, e, ?_⟩
  simp only at e
  simp [lookV, hg, Fil.raw, e]
theorem rawNo {es : List (Nm × Fil)} {k : Nm} (hg : getL es k = none) : lookV es k = .agg #[.slice none 0 0, .int .i64 0] := by simp [lookV, hg, zf]
theorem find_is {fs : Fs} {s : Nm} : findE fs s = if nmOk s then (if (getL fs s).isSome then 0 else 41) else 40 := rfl
theorem DiskAt.has {w : World} {Z : Nat → Prop} {a : Nat} {st : St} {b : Nat} {es : List (Nm × Fil)} (h : DiskAt w Z a st b es) (k : Nm) : getL st.fs k = (getL es k).map Fil.fl := by rw [h.files, getL_mapL]
theorem DiskAt.count {w : World} {Z : Nat → Prop} {a : Nat} {st : St} {b : Nat} {es : List (Nm × Fil)} (h : DiskAt w Z a st b es) : st.fs.length = es.length := by rw [h.files, mapL_length]

set_option maxHeartbeats 2000000 in
set_option maxRecDepth 100000 in
theorem find_any (w : World) (Z : Nat → Prop) (a : Nat) (st : St) (s : ByteArray) (h : IsDisk w Z a st) : Calls Tryz.prog 101 #[.pointer (some ⟨a, 0, none⟩), .string s] w fun e w' => e = .returned (.int .i64 (findE st.fs s.data.toList)) ∧ Below w.heap.size w w' := by
  obtain ⟨b, es, h⟩ := h
  obtain ⟨c0, c1, c2, c3, c4, cf⟩ := cell5 h.cells
  cases hn : nmOk s.data.toList with
  | false =>
    have HR : Hid (findE st.fs s.data.toList = 40) := by
      show findE st.fs s.data.toList = 40
      rw [find_is, hn]
      rfl
    go_enter Tryz.func101, Tryz.ntmps101
    go_wp2_with (first | (go_at_call 62; refine (rname_any s _).mono ?_; rintro e w' ⟨rfl, rfl⟩; rw [hn]))
    go_ret
    exact ⟨ret_int HR.out.symm, Below.refl _ _⟩
  | true =>
    have hss : s.size ≤ maxLen := by
      have := (nmOk_len hn).2
      simp at this
      unfold maxLen
      omega
    have hl := h.held.lookOk hss
    have hh := h.has s.data.toList
    cases hg : getL es s.data.toList with
    | none =>
      rw [hg] at hl hh
      rw [rawNo hg] at hl
      have HR : Hid (findE st.fs s.data.toList = 41) := by
        show findE st.fs s.data.toList = 41
        rw [find_is, hn, hh]
        rfl
      simp only [Option.isSome_none] at hl
      clear hh hg
      go_enter Tryz.func101, Tryz.ntmps101
      go_wp2_with (first | (go_at_call 62; refine (rname_any s _).mono ?_; rintro e w' ⟨rfl, rfl⟩; rw [hn]))
      go_ret
      exact ⟨ret_int HR.out.symm, by (repeat (first | exact Below.refl _ _ | assumption | refine Below.drew ?_ | refine below_drewN ?_ _ | refine Below.alloc ?_ (by first | omega | (simp; done) | (simp; omega)) _ | refine Below.setCell ?_ (by first | omega | (simp; done) | (simp; omega)) _ | refine Below.trans ?_ (Below.mono (by assumption) (by first | omega | (simp; done) | (simp; omega)))))⟩
    | some f =>
      obtain ⟨p, cap, _, er⟩ := rawOf h.held hg
      rw [hg] at hl hh
      rw [er] at hl
      have HR : Hid (findE st.fs s.data.toList = 0) := by
        show findE st.fs s.data.toList = 0
        rw [find_is, hn, hh]
        rfl
      simp only [Option.isSome_some] at hl
      clear hh hg er
      go_enter Tryz.func101, Tryz.ntmps101
      go_wp2_with (first | (go_at_call 62; refine (rname_any s _).mono ?_; rintro e w' ⟨rfl, rfl⟩; rw [hn]))
      go_ret
      exact ⟨ret_int HR.out.symm, by (repeat (first | exact Below.refl _ _ | assumption | refine Below.drew ?_ | refine below_drewN ?_ _ | refine Below.alloc ?_ (by first | omega | (simp; done) | (simp; omega)) _ | refine Below.setCell ?_ (by first | omega | (simp; done) | (simp; omega)) _ | refine Below.trans ?_ (Below.mono (by assumption) (by first | omega | (simp; done) | (simp; omega)))))⟩

/-- How many bytes the files have that are still to come. -/
def lft (left : Lit → Bool) (es : List (Nm × Fil)) : Nat := tot (fun f => f.dat.length) (es.filter fun p => left (.string p.1))
theorem lft_all {left : Lit → Bool} : ∀ {es : List (Nm × Fil)}, (∀ p ∈ es, left (.string p.1) = true) → lft left es = tot (fun f => f.dat.length) es
  | es, h => by
    unfold lft
    rw [List.filter_eq_self.2 h]
theorem lft_none {left : Lit → Bool} (h : ∀ kl, left kl = false) (es : List (Nm × Fil)) : lft left es = 0 := by
  unfold lft
  rw [List.filter_eq_nil_iff.2 (fun p _ => by simp [h])]
  rfl
theorem lft_same {l l' : Lit → Bool} : ∀ {es : List (Nm × Fil)}, (∀ p ∈ es, l (.string p.1) = l' (.string p.1)) → lft l es = lft l' es
  | es, h => by
    unfold lft
    rw [List.filter_congr h]
theorem lft_step {left : Lit → Bool} : ∀ {es : List (Nm × Fil)}, srt es → ∀ {x : Nm} {f : Fil}, getL es x = some f → left (.string x) = true → lft (fun z => left z && !z.sameKey (.string x)) es + f.dat.length = lft left es
  | [], _, x, f, hg, _ => by cases hg
  | q :: r, hs, x, f, hg, hl => by
    have hsk : ∀ y : Nm, (Lit.string y).sameKey (.string x) = decide (y = x) := fun y => by
      show (y == x) = _
      rw [Bool.eq_iff_iff]
      simp
    unfold getL at hg
    by_cases e : q.1 = x
    · rw [if_pos e] at hg
      cases hg
      have h1 : lft (fun z => left z && !z.sameKey (.string x)) r = lft left r := lft_same fun p hp => by
        have : p.1 ≠ x := by rw [← e]; exact srt_ne hs p hp
        simp [hsk, this]
      have hl' : left (.string q.1) = true := by rw [e]; exact hl
      simp only [lft, List.filter_cons, hsk, e, decide_true, Bool.not_true, Bool.and_false, Bool.false_eq_true, if_false] at h1 ⊢
      rw [hl, if_pos rfl, tot_cons, h1]
      omega
    · rw [if_neg e] at hg
      have ih := lft_step (List.pairwise_cons.1 hs).2 hg hl
      simp only [lft, List.filter_cons, hsk, e, decide_false, Bool.not_false, Bool.and_true] at ih ⊢
      cases left (.string q.1) with
      | true => simp only [if_true, tot_cons]; omega
      | false => simp only [Bool.false_eq_true, if_false]; omega
theorem lft_le (left : Lit → Bool) : ∀ (es : List (Nm × Fil)), lft left es ≤ tot (fun f => f.dat.length) es
  | [] => Nat.le_refl _
  | q :: r => by
    have ih := lft_le left r
    simp only [lft, List.filter_cons] at ih ⊢
    split
    · simp only [tot_cons]; omega
    · simp only [tot_cons]; omega
theorem DiskAt.tot {w : World} {Z : Nat → Prop} {a : Nat} {st : St} {b : Nat} {es : List (Nm × Fil)} (h : DiskAt w Z a st b es) : tot szF st.fs = Proofs.YtckmjmpajbjbkaaGreatDoor.tot (fun f => f.dat.length) es := by
  rw [h.files, tot_mapL]
  rfl

/-- A file in a map, taken apart. -/
def mkV (c : Option Addr × Nat × Nat × Int) : Value := .agg #[.slice c.1 c.2.1 c.2.2.1, .int .i64 c.2.2.2]

set_option maxHeartbeats 4000000 in
set_option maxRecDepth 100000 in
theorem free_any (w : World) (Z : Nat → Prop) (a : Nat) (st : St) (h : IsDisk w Z a st) : Calls Tryz.prog 112 #[.pointer (some ⟨a, 0, none⟩)] w fun e w' => e = .returned (.int .i64 (freeR st)) ∧ Below w.heap.size w w' := by
  obtain ⟨b, es, h⟩ := h
  obtain ⟨c0, c1, c2, c3, c4, cf⟩ := cell5 h.cells
  have hown := h.held.map
  have hroom := h.ok.files.room
  have hsmall := h.ok.files.small
  rw [h.tot] at hroom
  have HF : Hid (freeR st = (st.size : Int) - (tot (fun f : Fil => f.dat.length) es : Int)) := by
    show freeR st = _
    unfold freeR
    rw [h.tot]
  obtain ⟨T, hT⟩ : ∃ T, tot (fun f : Fil => f.dat.length) es = T := ⟨_, rfl⟩
  rw [hT] at hroom HF
  have HS : Hid (srt es) := h.held.sorted
  have HT : Hid (tot (fun f : Fil => f.dat.length) es = T) := hT
  have HD : Hid (DiskAt w Z a st b es) := h
  clear hT h
  go_enter Tryz.func112, Tryz.ntmps112
  go_wp2_with (first | (at_range; refine wpList_range_own _ rfl _ 71 rfl 9 77 keyed9 Tryz.underlying71 rawE b es.length _ rfl hown ?_; intro w0 hrg0 hg0 hs0) | go_in)
  go_frame
  go_loopw [3] (fun f wr => ∃ left cnt, wr.ranges Tryz.prog 9 rawE b w.heap.size es.length (mapD (mapL Fil.raw es)) left cnt ∧ f = .int .i64 ((st.size : Int) - (T : Int) + (lft left es : Int)) ∧ Below w.heap.size w wr ∧ w.heap.size < wr.heap.size) (fun _ wr => wr.rangeLeft b w.heap.size)
  case atStart =>
    refine ⟨_, _, hrg0, ?_, ⟨hg0.os, hg0.tape, hg0.output, hg0.size, fun k hk => hg0.block k hk (by simp)⟩, by omega⟩
    rw [lft_all (fun p hp => by rw [mapD_has, getL_mapL, getL_of_mem HS.out hp]; rfl), HT.out]
    congr 1
    omega
  case round =>
    obtain ⟨left, cnt, hrg, rfl, hb, hsz⟩ := hrel
    have hL := lft_le left es
    rw [HT.out] at hL
    obtain ⟨F, hF⟩ : ∃ F : Int, (st.size : Int) - (T : Int) + (lft left es : Int) = F := ⟨_, rfl⟩
    have HFF : Hid ((st.size : Int) - (T : Int) + (lft left es : Int) = F) := hF
    have hF1 : 0 ≤ F := by omega
    have hF2 : F ≤ 1048576 := by omega
    rw [hF]
    clear hF hg0 hs0 hrg0
    go_wp2_with (first | (at_next; (refine wpList_next_ranges _ rfl _ rfl 9 keyed9 rawE encStr mkV (fun key kl hk => by obtain ⟨x, hx, _⟩ := Maps.keyOf_str Tryz.underlying9 hk; exact ⟨x, hx⟩) (fun v y hv => by obtain ⟨_, p, n, c, k, e⟩ := rawE_inv hv; exact ⟨(p, n, c, k), e⟩) b w.heap.size es.length _ left cnt rfl hrg ?_ ?_)))
    · intro hc0 hl0
      go_wp2
      go_ret
      refine ⟨ret_int ?_, hb⟩
      rw [HF.out, ← HFF.out, lft_none hl0]
      omega
    · intro x p n c k kl yd yp w2 cnt2 hkey hlk hv hat hrg2 hlt hg2 hs2 hen
      obtain ⟨x', ex, rfl, _⟩ := Maps.keyOf_str Tryz.underlying9 hkey
      obtain rfl : x = x' := encStr_inj ex
      have hy : yd = _ := (rawE_inv hv).1
      have hat' := hat (.held (.bool true))
      rw [mapD_at, getL_mapL, hy] at hat'
      simp only [DataW.held.injEq] at hat'
      cases hg : getL es x with
      | none => rw [hg] at hat'; cases hat'
      | some f =>
        rw [hg] at hat'
        obtain ⟨p', cap', e1, _⟩ := (HD.out.held.rows _ (getL_mem hg)).form
        simp only at e1
        simp only [Option.map_some, Option.getD_some, Fil.raw, mkV, e1, Value.agg.injEq] at hat'
        obtain rfl : n = f.dat.length := by
          have := congrArg (fun q : Array Value => q[0]?) hat'
          simp at this
          exact this.2.1.symm
        have hst := lft_step HS.out hg hlk
        have HN : Hid ((st.size : Int) - (T : Int) + (lft (fun z => left z && !z.sameKey (.string x)) es : Int) = F - (f.dat.length : Int)) := by
          show (st.size : Int) - (T : Int) + (lft (fun z => left z && !z.sameKey (.string x)) es : Int) = F - (f.dat.length : Int)
          have := HFF.out
          omega
        have hN1 : 0 ≤ F - (f.dat.length : Int) := by
          have := HN.out
          omega
        have HB : Hid (Below w.heap.size w w2) := hb.trans ⟨hg2.os, hg2.tape, hg2.output, hg2.size, fun j hj => hg2.block j (by omega) (fun e => by cases e; omega)⟩
        have hsz2 : w.heap.size < w2.heap.size := by omega
        have HL : Hid (wr.rangeLeft b w.heap.size = cnt) := hrg.left_eq
        have HR : Hid (w2.ranges Tryz.prog 9 rawE b w.heap.size es.length (mapD (mapL Fil.raw es)) (fun z => left z && !z.sameKey (.string x)) cnt2) := hrg2
        simp only [mkV] at hen ⊢
        clear hat' hat hy hv hkey hst hs2 hg2 hrg2 hrg hown
        go_wp2
        go_roundw
        case rel => exact ⟨_, _, HR.out.alloc _, by rw [HN.out], HB.out.alloc (by omega) _, by simp; omega⟩
        case measure =>
          rw [(HR.out.alloc _).left_eq, HL.out]
          exact hlt

theorem DiskAt.lenRun {w : World} {Z : Nat → Prop} {a : Nat} {st : St} {b : Nat} {es : List (Nm × Fil)} (h : DiskAt w Z a st b es) : (Builtin.len_ #[71] 3 #[.map (some b)]).run Tryz.prog w = .ok (.int .i64 (st.fs.length : Int)) w := by
  rw [h.held.map.len Tryz.underlying71, mapD_size, mapL_length, h.count]

set_option maxHeartbeats 4000000 in
set_option maxRecDepth 100000 in
theorem froom_any (w : World) (Z : Nat → Prop) (a : Nat) (st : St) (s : ByteArray) (n : Nat) (h : IsDisk w Z a st) : Calls Tryz.prog 83 #[.pointer (some ⟨a, 0, none⟩), .string s, .int .i64 (n : Int)] w fun e w' => e = .returned (.int .i64 (roomE st s.data.toList n)) ∧ Below w.heap.size w w' := by
  have HI : Hid (IsDisk w Z a st) := h
  obtain ⟨b, es, h⟩ := h
  have c0 := (cell5 h.cells).1
  have hroom := h.ok.files.room
  have HD : Hid (DiskAt w Z a st b es) := h
  clear h
  cases hn : nmOk s.data.toList with
  | false =>
    have HR : Hid (roomE st s.data.toList n = 40) := by show roomE st s.data.toList n = 40; simp [roomE, hn]
    have hE : findE st.fs s.data.toList = 40 := by simp [findE, hn]
    clear hn
    go_enter Tryz.func83, Tryz.ntmps83
    go_wp2_with (first | (go_at_call 101; refine (find_any _ Z a st s HI.out).mono ?_; rintro e w1 ⟨rfl, hb1⟩; rw [hE]))
    go_ret
    exact ⟨ret_int HR.out.symm, hb1⟩
  | true =>
    have hF : freeR st = ((st.size - tot szF st.fs : Nat) : Int) := by unfold freeR; omega
    obtain ⟨F, hFF⟩ : ∃ F, st.size - tot szF st.fs = F := ⟨_, rfl⟩
    rw [hFF] at hF
    by_cases hlt : F < n
    · have hlti : (F : Int) < (n : Int) := by omega
      have HR : Hid (roomE st s.data.toList n = 42) := by
        have : st.size < tot szF st.fs + n := by omega
        show roomE st s.data.toList n = 42
        simp [roomE, hn, this]
      cases hg : (getL st.fs s.data.toList).isSome with
      | true =>
        have hE : findE st.fs s.data.toList = 0 := by simp [findE, hn, hg]
        clear hn hg hFF
        go_enter Tryz.func83, Tryz.ntmps83
        go_wp2_with (first | (go_at_call 101; refine (find_any _ Z a st s HI.out).mono ?_; rintro e w1 ⟨rfl, hb1⟩; rw [hE]) | (go_at_call 112; refine (free_any _ Z a st (HI.out.later (by assumption))).mono ?_; rintro e w2 ⟨rfl, hb2⟩; rw [hF]))
        go_ret
        exact ⟨ret_int HR.out.symm, hb1.trans (hb2.mono hb1.size)⟩
      | false =>
        have hE : findE st.fs s.data.toList = 41 := by simp [findE, hn, hg]
        clear hn hg hFF
        go_enter Tryz.func83, Tryz.ntmps83
        go_wp2_with (first | (go_at_call 101; refine (find_any _ Z a st s HI.out).mono ?_; rintro e w1 ⟨rfl, hb1⟩; rw [hE]) | (go_at_call 112; refine (free_any _ Z a st (HI.out.later (by assumption))).mono ?_; rintro e w2 ⟨rfl, hb2⟩; rw [hF]))
        go_ret
        exact ⟨ret_int HR.out.symm, hb1.trans (hb2.mono hb1.size)⟩
    · have hlti : ¬ (F : Int) < (n : Int) := by omega
      have hnr : ¬ st.size < tot szF st.fs + n := by omega
      cases hg : (getL st.fs s.data.toList).isSome with
      | true =>
        have hE : findE st.fs s.data.toList = 0 := by simp [findE, hn, hg]
        have HR : Hid (roomE st s.data.toList n = 0) := by
          show roomE st s.data.toList n = 0
          simp [roomE, hn, hnr, hg]
        clear hn hg hFF
        go_enter Tryz.func83, Tryz.ntmps83
        go_wp2_with (first | (go_at_call 101; refine (find_any _ Z a st s HI.out).mono ?_; rintro e w1 ⟨rfl, hb1⟩; rw [hE]) | (go_at_call 112; refine (free_any _ Z a st (HI.out.later (by assumption))).mono ?_; rintro e w2 ⟨rfl, hb2⟩; rw [hF]))
        go_ret
        exact ⟨ret_int HR.out.symm, hb1.trans (hb2.mono hb1.size)⟩
      | false =>
        have hE : findE st.fs s.data.toList = 41 := by simp [findE, hn, hg]
        have HR : Hid (roomE st s.data.toList n = if 64 ≤ st.fs.length then 42 else 0) := by
          show roomE st s.data.toList n = _
          simp [roomE, hn, hnr, hg]
        clear hn hg hFF
        go_enter Tryz.func83, Tryz.ntmps83
        go_wp2_with (first | (go_at_call 101; refine (find_any _ Z a st s HI.out).mono ?_; rintro e w1 ⟨rfl, hb1⟩; rw [hE]) | (go_at_call 112; refine (free_any _ Z a st (HI.out.later (by assumption))).mono ?_; rintro e w2 ⟨rfl, hb2⟩; rw [hF]; (have hb3 : Below w.heap.size w w2 := hb1.trans (hb2.mono hb1.size)); (have c02 := cell_later hb3 c0); (have hgo := (HD.out.later hb3).lenRun)))
        all_goals go_ret
        all_goals refine ⟨ret_int ?_, hb3⟩
        all_goals rw [HR.out]
        all_goals go_light
        all_goals (split <;> first | rfl | omega)

set_option maxHeartbeats 1000000 in
theorem arm_any (w : World) (Z : Nat → Prop) (a : Nat) (st : St) (n : Int) (hn : n ≤ 9223372036854775807) (h : IsDisk w Z a st) : Calls Tryz.prog 14 #[.pointer (some ⟨a, 0, none⟩), .int .i64 n] w fun e w' => e = .returned (.int .i64 (armR st n).1) ∧ IsDisk w' Z a (armR st n).2 ∧ Only Z w w' := by
  have hok := armR_ok h.ok hn
  obtain ⟨b, es, h⟩ := h
  obtain ⟨c0, c1, c2, c3, c4, cf⟩ := cell5 h.cells
  by_cases h1 : n < -1
  · have HR : Hid (armR st n = (1, st)) := by show armR st n = (1, st); simp [armR, h1]
    go_enter Tryz.func14, Tryz.ntmps14
    go_wp2
    go_ret
    rw [HR.out]
    exact ⟨rfl, ⟨b, es, h⟩, Only.refl _ _⟩
  · cases hd : st.down with
    | true =>
      rw [hd] at c4
      have HR : Hid (armR st n = (3, st)) := by show armR st n = (3, st); simp [armR, h1, hd]
      go_enter Tryz.func14, Tryz.ntmps14
      go_wp2
      go_ret
      rw [HR.out]
      exact ⟨rfl, ⟨b, es, h⟩, Only.refl _ _⟩
    | false =>
      rw [hd] at c4
      have HR : Hid (armR st n = (0, { st with armed := n })) := by show armR st n = _; simp [armR, h1, hd]
      have HD : Hid (DiskAt w Z a st b es) := h
      rw [HR.out] at hok
      clear h hd
      go_enter Tryz.func14, Tryz.ntmps14
      go_wp2
      go_ret
      rw [HR.out]
      have h := HD.out
      refine ⟨rfl, ⟨b, es, ?_, h.za, h.held.kept fun k hk => Below.heap_setCell _ _ _ _ ?_, h.files, hok⟩, (Only.refl _ _).setCell h.za _⟩
      · rw [heap_setCell_same w a 3 _ _ _ h.cells]
        rfl
      · rcases hk with rfl | ⟨p, hp, e⟩
        · exact fun e => h.ne.1 e.symm
        · exact fun e' => h.ne.2 p hp (by rw [e, e'])
end Go.Proofs.YtckmjmpajbjbkaaGreatDoor
