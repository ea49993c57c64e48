/- Layer 6, without the program: a disk that does not fall takes all records; a log that is only appended to. -/
import Derived.Test.YtckmjmpajbjbkaaGreatDoorM61
namespace Go.Proofs.YtckmjmpajbjbkaaGreatDoor
open Go

/-- A disk that is not armed and not down. -/
structure Calm (st : St) : Prop where
  ok : OKs st
  armed : st.armed = -1
  up : st.down = false
theorem Lain.find {fs : Fs} {A : List Sg} {p k : Nat} {D : List UInt8} (h : Lain fs A p D k) (hs : srt fs) : getL fs (nameN p) = some (D, k) := by
  obtain ⟨M, _, rfl⟩ := h
  exact getL_mid hs
theorem findE_some {fs : Fs} {n : Nm} {f : Fl} (hn : nmOk n = true) (h : getL fs n = some f) : findE fs n = 0 := by simp [findE, hn, h]
theorem tot_syn {fs : Fs} (hs : srt fs) {n : Nm} {f : Fl} (h : getL fs n = some f) : tot szF (synF n fs) = tot szF fs ∧ (synF n fs).length = fs.length := by
  have h1 := tot_putL szF fs n (f.1, f.1.length) hs
  have h2 := length_putL fs n (f.1, f.1.length) hs
  rw [h] at h1 h2
  simp only [gets, szF, Option.isSome_some, if_true] at h1 h2
  simp only [synF, fileOf, h, Option.getD_some]
  exact ⟨by omega, h2⟩
theorem tot_app {fs : Fs} (hs : srt fs) (n : Nm) (t : List UInt8) : tot szF (appF n t fs) = tot szF fs + t.length ∧ (appF n t fs).length = if (getL fs n).isSome then fs.length else fs.length + 1 := by
  have h1 := tot_putL szF fs n ((fileOf fs n).1 ++ t, (fileOf fs n).2) hs
  have h2 := length_putL fs n ((fileOf fs n).1 ++ t, (fileOf fs n).2) hs
  rw [fileOf_gets] at h1
  simp only [szF, List.length_append] at h1
  simp only [appF]
  exact ⟨by omega, h2⟩
structure SyncC (st st' : St) : Prop where
  calm : Calm st'
  size : st'.size = st.size
  steps : st'.steps ≤ st.steps + 1
  tot : tot szF st'.fs = tot szF st.fs
  len : st'.fs.length = st.fs.length
theorem syncL_calm {st : St} {g : Lg} (h : Lies st g) (hc : Calm st) (hg : LgOK g) : (syncL st g).1 = 0 ∧ SyncC st (syncL st g).2.1 := by
  unfold syncL
  split
  · exact ⟨rfl, hc, rfl, Nat.le_succ _, rfl, rfl⟩
  · rename_i hne
    rcases h with ⟨h1, h2⟩ | ⟨A, s, k, h1, hl, h3, h4⟩
    · exact absurd ((hg.none h1).trans (by rw [Lg.next, h1, nextL_nil])) hne
    · have hsr := hc.ok.files.sorted
      rw [h1, lastL_snoc]
      have hf := hl.find hsr
      have hE := findE_some (nameN_ok s.1) hf
      obtain ⟨a1, a2, a3⟩ := stepR_calm (findE st.fs (nameN s.1)) (synF (nameN s.1)) hc.armed hc.up
      have b1 := stepR_size st (findE st.fs (nameN s.1)) (synF (nameN s.1))
      have b2 := stepR_steps st (findE st.fs (nameN s.1)) (synF (nameN s.1))
      have b3 := stepR_two st (findE st.fs (nameN s.1)) (synF (nameN s.1)) (findE_nn _ _)
      have e : synR st (nameN s.1) = stepR st (findE st.fs (nameN s.1)) (synF (nameN s.1)) := rfl
      have hok := synR_ok hc.ok (nameN s.1)
      rw [← e] at a1 a2 a3 b1 b2 b3
      rw [hE] at a1
      rw [if_neg (by omega)]
      obtain ⟨t1, t2⟩ := tot_syn hsr hf
      rcases b3 with b3 | ⟨_, _, _, b3, _⟩
      · omega
      · exact ⟨rfl, ⟨hok, a2, a3⟩, b1, b2, by simp only; rw [b3, t1], by simp only; rw [b3, t2]⟩
structure AppC (st st' : St) (n : Nat) : Prop where
  calm : Calm st'
  size : st'.size = st.size
  steps : st'.steps ≤ st.steps + 1
  tot : tot szF st'.fs = tot szF st.fs + n
theorem appR_calm {st : St} (hc : Calm st) {n : Nm} {t : List UInt8} (hn : nmOk n = true) (hr : tot szF st.fs + t.length ≤ st.size) (hf : st.fs.length < 64 ∨ (getL st.fs n).isSome = true) : (appR st n t).1 = 0 ∧ AppC st (appR st n t).2 t.length ∧ (appR st n t).2.fs.length = if (getL st.fs n).isSome then st.fs.length else st.fs.length + 1 := by
  have hE : roomE st n t.length = 0 := by
    unfold roomE
    rw [if_pos hn, if_neg]
    rintro (h | ⟨h1, h2⟩)
    · omega
    · rcases hf with q | q
      · omega
      · rw [q] at h1; cases h1
  obtain ⟨a1, a2, a3⟩ := stepR_calm (roomE st n t.length) (appF n t) hc.armed hc.up
  have b1 := stepR_size st (roomE st n t.length) (appF n t)
  have b2 := stepR_steps st (roomE st n t.length) (appF n t)
  have b3 := stepR_two st (roomE st n t.length) (appF n t) (roomE_nn _ _ _)
  have e : appR st n t = stepR st (roomE st n t.length) (appF n t) := rfl
  have hok := appR_ok hc.ok n t
  rw [← e] at a1 a2 a3 b1 b2 b3
  obtain ⟨t1, t2⟩ := tot_app hc.ok.files.sorted n t
  rcases b3 with b3 | ⟨_, _, _, b3, _⟩
  · omega
  · exact ⟨by omega, ⟨⟨hok, a2, a3⟩, b1, b2, by rw [b3, t1]⟩, by rw [b3, t2]⟩
/-- What a record more leaves, if there is room. -/
structure MoreC (st : St) (g : Lg) (d : List UInt8) (r : (Int × Int) × St × Lg) : Prop where
  ans : r.1 = ((g.next : Int), 0)
  calm : Calm r.2.1
  size : r.2.1.size = st.size
  steps : r.2.1.steps ≤ st.steps + 2
  tot : tot szF r.2.1.fs = tot szF st.fs + (6 + d.length)
  len : r.2.1.fs.length = if g.full then st.fs.length + 1 else st.fs.length
  segs : r.2.2.segs = if g.full then g.segs ++ [(g.next, [d])] else putS g.segs d
  same : r.2.2.size = g.size ∧ r.2.2.frm = g.frm
theorem Lies.new {st : St} {g : Lg} (h : Lies st g) (hok : OKs st) (hg : LgOK g) (hf : g.full = true) (hn : g.next < 1000000000000) : getL st.fs (nameN g.next) = none := by
  rcases h with ⟨b1, b2⟩ | ⟨A, s, k, b1, ⟨M, hM, hfs⟩, b3, b4⟩
  · exact getL_new (A := []) (by simp) (b2.less g.next)
  · have hx : g.next = s.end := by rw [Lg.next, b1, nextL_snoc]
    have hlen : 1 ≤ s.2.length := by
      simp only [Lg.full, b1, lastL_snoc, Bool.or_eq_true, List.isEmpty_iff, decide_eq_true_eq] at hf
      have := hg.size
      rcases hf with q | q
      · simp at q
      · omega
    have hsr := hok.files.sorted
    rw [hfs] at hsr ⊢
    obtain ⟨c1, c2⟩ := srt_mid hsr
    have hl : Op.bytesLess (nameN s.1) (nameN g.next) = true := nameN_less (by rw [hx, Sg.end]; omega) hn
    rw [show A.map sfile ++ (nameN s.1, (cat s.2, k)) :: M = (A.map sfile ++ [(nameN s.1, (cat s.2, k))]) ++ M by simp]
    refine getL_new (fun p hp => ?_) (hM.less _)
    rcases List.mem_append.1 hp with hp | hp
    · exact less_trans (c1 p hp) hl
    · obtain rfl : p = (nameN s.1, (cat s.2, k)) := by simpa using hp
      exact hl
theorem appendL_calm {st : St} {g : Lg} (h : Lies st g) (hc : Calm st) (hg : LgOK g) {d : List UInt8} (hd : d.length ≤ 4096) (hn : g.next < 1000000000000) (hr : tot szF st.fs + (6 + d.length) ≤ st.size) (hf : st.fs.length < 64) : MoreC st g d (appendL st g d) := by
  have hfl := frm_length d
  unfold appendL
  rw [if_neg (by omega)]
  cases hfull : g.full with
  | true =>
    rw [if_pos rfl]
    obtain ⟨s0, sc⟩ := syncL_calm h hc hg
    rw [if_neg (by omega)]
    have hseg := syncL_segs st g
    have hL := h.sync hc.ok hg
    have hnx : (syncL st g).2.2.next = g.next := by unfold Lg.next; rw [hseg.1, hseg.2.2]
    have hfu : (syncL st g).2.2.full = true := by unfold Lg.full; rw [hseg.1, hseg.2.1]; exact hfull
    have hnone := hL.new sc.calm.ok hg.sync hfu (by rw [hnx]; exact hn)
    rw [hnx] at hnone
    have e1 := sc.size
    have e2 := sc.tot
    have e3 := sc.len
    have e4 := sc.steps
    obtain ⟨a0, ac, al⟩ := appR_calm sc.calm (nameN_ok g.next) (t := frm d) (by omega) (Or.inl (by omega))
    have f1 := ac.size
    have f2 := ac.tot
    have f4 := ac.steps
    rw [if_neg (by omega)]
    refine ⟨rfl, ac.calm, by simp only; omega, by simp only; omega, by simp only; omega, ?_, ?_, ⟨hseg.2.1, hseg.2.2⟩⟩
    · simp only
      rw [al, hnone, hfull]
      simp only [Option.isSome_none, Bool.false_eq_true, if_false, if_true]
      omega
    · simp [hfull]
  | false =>
    rw [if_neg (by simp)]
    have hz : g.segs ≠ [] := fun e => by simp [Lg.full, e] at hfull
    rcases h with ⟨b1, b2⟩ | ⟨A, s, k, b1, hl, b3, b4⟩
    · exact absurd b1 hz
    · have hgf := hl.find hc.ok.files.sorted
      rw [show lastL g.segs = s by rw [b1, lastL_snoc]]
      obtain ⟨a0, ac, al⟩ := appR_calm hc (nameN_ok s.1) (t := frm d) (by omega) (Or.inl hf)
      have f1 := ac.size
      have f2 := ac.tot
      have f4 := ac.steps
      rw [if_neg (by omega)]
      refine ⟨rfl, ac.calm, f1, by simp only; omega, by simp only; omega, ?_, ?_, ⟨rfl, rfl⟩⟩
      · simp only
        rw [al, hgf, hfull]
        simp
      · simp [hfull]

/-! ### a log that is only appended to -/
theorem recsL_append (l m : List Sg) : recsL (l ++ m) = recsL l ++ recsL m := by simp [recsL]
theorem recsL_one (s : Sg) : recsL [s] = s.2 := by simp [recsL]
theorem Row.next_is : ∀ {l : List Sg} (f : Nat), Row l → l ≠ [] → nextL f l = baseL f l + (recsL l).length
  | [s], f, _, _ => by simp [nextL, baseL, recsL, Sg.end]
  | s :: t :: r, f, h, _ => by
    have := Row.next_is f h.2 (by simp)
    have e : nextL f (s :: t :: r) = nextL f (t :: r) := by simp [nextL]
    have e2 : recsL (s :: t :: r) = s.2 ++ recsL (t :: r) := by simp [recsL]
    rw [e, this, e2, baseL_cons, baseL_cons, h.1, Sg.end, List.length_append]
    omega
theorem LgOK.next_is {g : Lg} (h : LgOK g) : g.next = g.base + (recsL g.segs).length := by
  by_cases hz : g.segs = []
  · simp [Lg.next, Lg.base, hz, nextL, baseL, recsL]
  · exact h.row.next_is _ hz
structure Only1 (size : Nat) (rs : List (List UInt8)) (st : St) (g : Lg) : Prop where
  calm : Calm st
  ok : LgOK g
  lies : Lies st g
  room : st.size = 1048576
  gsize : g.size = size
  frm : g.frm = 0
  base : g.base = 0
  recs : recsL g.segs = rs
  full : ∀ A s, g.segs = A ++ [s] → (∀ a ∈ A, a.2.length = size) ∧ 1 ≤ s.2.length ∧ s.2.length ≤ size
  tot : tot szF st.fs = (cat rs).length
  len : st.fs.length = g.segs.length
  steps : st.steps ≤ 2 * rs.length
theorem recsL_full {size : Nat} : ∀ {A : List Sg}, (∀ a ∈ A, a.2.length = size) → (recsL A).length = A.length * size
  | [], _ => by simp [recsL]
  | a :: A, h => by
    have := recsL_full (A := A) (fun x hx => h x (List.mem_cons_of_mem _ hx))
    have e : recsL (a :: A) = a.2 ++ recsL A := by simp [recsL]
    rw [e, List.length_append, this, h a (by simp), List.length_cons, Nat.add_mul, Nat.one_mul, Nat.add_comm]
theorem Only1.next {size : Nat} {rs : List (List UInt8)} {st : St} {g : Lg} (h : Only1 size rs st g) : g.next = rs.length := by rw [h.ok.next_is, h.base, h.recs, Nat.zero_add]
theorem Only1.count {size : Nat} {rs : List (List UInt8)} {st : St} {g : Lg} (h : Only1 size rs st g) (hs : 1 ≤ size) : g.segs.length = (rs.length + size - 1) / size := by
  by_cases hz : g.segs = []
  · have := h.recs
    rw [hz] at this
    have e : rs = [] := by rw [← this]; rfl
    rw [hz, e]
    simp only [List.length_nil, Nat.zero_add]
    exact (Nat.div_eq_of_lt (by omega)).symm
  · obtain ⟨A, s, e⟩ := snoc_of hz
    obtain ⟨h1, h2, h3⟩ := h.full A s e
    have := h.recs
    rw [e, recsL_append, recsL_one] at this
    have hl := congrArg List.length this
    rw [List.length_append, recsL_full h1] at hl
    rw [e, List.length_append, List.length_singleton, ← hl]
    refine (Nat.div_eq_of_lt_le ?_ ?_).symm
    · rw [Nat.add_mul]; omega
    · rw [Nat.add_mul, Nat.add_mul]; omega
theorem Only1.more {size : Nat} {rs : List (List UInt8)} {st : St} {g : Lg} (h : Only1 size rs st g) {d : List UInt8} (hd : d.length ≤ 4096) (hl : rs.length < 20 * size) (hc : (cat rs).length + (6 + d.length) ≤ 1048576) : (appendL st g d).1 = ((rs.length : Int), 0) ∧ Only1 size (rs ++ [d]) (appendL st g d).2.1 (appendL st g d).2.2 := by
  have hsz := h.ok.size
  rw [h.gsize] at hsz
  have hcount := h.count hsz.1
  have h20 : g.segs.length ≤ 20 := by
    rw [hcount]
    exact Nat.lt_succ_iff.1 ((Nat.div_lt_iff_lt_mul (by omega)).2 (by rw [Nat.succ_mul]; omega))
  have hnx := h.next
  have m := appendL_calm h.lies h.calm h.ok hd (by have := h.ok.size; rw [h.gsize] at this; omega) (by rw [h.tot, h.room]; exact hc) (by rw [h.len]; omega)
  have e1 := h.ok.append (st := st) d
  have e2 := h.lies.append h.calm.ok h.ok d
  have hsegs := m.segs
  rw [hnx] at hsegs
  refine ⟨by rw [m.ans, hnx], m.calm, e1, e2, by rw [m.size, h.room], by rw [m.same.1, h.gsize], by rw [m.same.2, h.frm], ?_, ?_, ?_, ?_, ?_, ?_⟩
  · unfold Lg.base
    rw [m.same.2, hsegs]
    have hb := h.base
    unfold Lg.base at hb
    cases hfull : g.full with
    | true =>
      rw [if_pos rfl]
      by_cases hz : g.segs = []
      · have : rs = [] := by
          have := h.recs
          rw [hz] at this
          rw [← this]; rfl
        rw [hz, this]
        simp [baseL]
      · obtain ⟨x, r, e⟩ := List.exists_cons_of_ne_nil hz
        rw [e] at hb ⊢
        exact hb
    | false =>
      rw [if_neg (by simp)]
      have hz : g.segs ≠ [] := fun e => by simp [Lg.full, e] at hfull
      obtain ⟨A, s, e⟩ := snoc_of hz
      rw [e, putS_snoc]
      rw [e] at hb
      cases A with
      | nil => exact hb
      | cons x A => exact hb
  · rw [hsegs]
    cases hfull : g.full with
    | true => rw [if_pos rfl, recsL_append, recsL_one, h.recs]
    | false =>
      rw [if_neg (by simp)]
      have hz : g.segs ≠ [] := fun e => by simp [Lg.full, e] at hfull
      obtain ⟨A, s, e⟩ := snoc_of hz
      have hr := h.recs
      rw [e, recsL_append, recsL_one] at hr
      rw [e, putS_snoc, recsL_append, recsL_one, ← List.append_assoc, hr]
  · intro A s e
    rw [hsegs] at e
    cases hfull : g.full with
    | true =>
      rw [hfull, if_pos rfl] at e
      obtain ⟨rfl, e2⟩ := List.append_inj' e (by simp)
      obtain rfl : (rs.length, [d]) = s := by simpa using e2
      refine ⟨fun a ha => ?_, by simp, by simp; omega⟩
      have hz : g.segs ≠ [] := fun q => by rw [q] at ha; cases ha
      obtain ⟨B, t, eb⟩ := snoc_of hz
      obtain ⟨k1, k2, k3⟩ := h.full B t eb
      rw [eb] at ha
      rcases List.mem_append.1 ha with ha | ha
      · exact k1 a ha
      · obtain rfl : a = t := by simpa using ha
        simp only [Lg.full, eb, lastL_snoc, Bool.or_eq_true, List.isEmpty_iff, decide_eq_true_eq] at hfull
        rcases hfull with q | q
        · simp at q
        · rw [h.gsize] at q; omega
    | false =>
      rw [hfull, if_neg (by simp)] at e
      have hz : g.segs ≠ [] := fun e => by simp [Lg.full, e] at hfull
      obtain ⟨B, t, eb⟩ := snoc_of hz
      obtain ⟨k1, k2, k3⟩ := h.full B t eb
      rw [eb, putS_snoc] at e
      obtain ⟨rfl, e2⟩ := List.append_inj' e (by simp)
      obtain rfl : (t.1, t.2 ++ [d]) = s := by simpa using e2
      simp only [Lg.full, eb, lastL_snoc, Bool.or_eq_false_iff, decide_eq_false_iff_not] at hfull
      have q := hfull.2
      rw [h.gsize] at q
      exact ⟨k1, by simp, by simp only [List.length_append, List.length_singleton]; omega⟩
  · rw [m.tot, h.tot, cat_snoc, List.length_append, frm_length]
  · rw [m.len, hsegs, h.len]
    cases hfull : g.full with
    | true => simp
    | false =>
      have hz : g.segs ≠ [] := fun e => by simp [Lg.full, e] at hfull
      obtain ⟨A, s, e⟩ := snoc_of hz
      rw [e, putS_snoc]
      simp
  · have := m.steps
    have := h.steps
    simp only [List.length_append, List.length_singleton]
    omega
end Go.Proofs.YtckmjmpajbjbkaaGreatDoor
