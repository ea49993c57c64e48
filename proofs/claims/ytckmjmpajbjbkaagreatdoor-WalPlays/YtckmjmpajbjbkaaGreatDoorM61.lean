/- Layer 6, without the program: how a log's files lie on its disk, and what its calls leave of that. -/
import Derived.Test.YtckmjmpajbjbkaaGreatDoorM60
namespace Go.Proofs.YtckmjmpajbjbkaaGreatDoor
open Go

/-! ### lists by rising names -/
theorem less_irrefl (k : Nm) : Op.bytesLess k k = false := by
  rw [bl_lt]
  simp [List.lt_irrefl]
theorem less_trans {a b c : Nm} (h : Op.bytesLess a b = true) (h' : Op.bytesLess b c = true) : Op.bytesLess a c = true := by
  rw [bl_lt, decide_eq_true_eq] at *
  exact List.lt_trans h h'
theorem less_asymm {a b : Nm} (h : Op.bytesLess a b = true) : Op.bytesLess b a = false := by
  cases h' : Op.bytesLess b a with
  | false => rfl
  | true =>
    have := less_trans h h'
    rw [less_irrefl] at this
    cases this
theorem less_ne {a b : Nm} (h : Op.bytesLess a b = true) : a ≠ b := fun e => by
  rw [e, less_irrefl] at h
  cases h
section
variable {α : Type}
theorem srt_mid {A M : List (Nm × α)} {k : Nm} {x : α} (h : srt (A ++ (k, x) :: M)) : (∀ p ∈ A, Op.bytesLess p.1 k = true) ∧ (∀ p ∈ M, Op.bytesLess k p.1 = true) := by
  obtain ⟨_, h2, h3⟩ := List.pairwise_append.1 h
  exact ⟨fun p hp => h3 p hp (k, x) (by simp), fun p hp => (List.pairwise_cons.1 h2).1 p hp⟩
theorem getL_mid {A M : List (Nm × α)} {k : Nm} {x : α} (h : srt (A ++ (k, x) :: M)) : getL (A ++ (k, x) :: M) k = some x := getL_of_mem h (p := (k, x)) (by simp)
theorem putL_new : ∀ {A M : List (Nm × α)} {k : Nm}, (∀ p ∈ A, Op.bytesLess p.1 k = true) → (∀ p ∈ M, Op.bytesLess k p.1 = true) → ∀ y, putL (A ++ M) k y = A ++ (k, y) :: M
  | [], [], k, _, _, y => rfl
  | [], p :: M, k, _, h, y => by simp [putL, h p (by simp)]
  | a :: A, M, k, h, h', y => by
    have h1 := h a (by simp)
    rw [List.cons_append, putL, less_asymm h1, if_neg (by simp), if_neg (less_ne h1), putL_new (fun p hp => h p (List.mem_cons_of_mem _ hp)) h' y, List.cons_append]
theorem getL_new : ∀ {A M : List (Nm × α)} {k : Nm}, (∀ p ∈ A, Op.bytesLess p.1 k = true) → (∀ p ∈ M, Op.bytesLess k p.1 = true) → getL (A ++ M) k = none
  | [], [], k, _, _ => rfl
  | [], p :: M, k, h, h' => by
    rw [List.nil_append, getL, if_neg (fun e => less_ne (h' p (by simp)) e.symm)]
    exact getL_new (A := []) (by simp) (fun q hq => h' q (List.mem_cons_of_mem _ hq))
  | a :: A, M, k, h, h' => by
    rw [List.cons_append, getL, if_neg (less_ne (h a (by simp)))]
    exact getL_new (fun p hp => h p (List.mem_cons_of_mem _ hp)) h'
theorem putL_mid : ∀ {A M : List (Nm × α)} {k : Nm} {x : α}, srt (A ++ (k, x) :: M) → ∀ y, putL (A ++ (k, x) :: M) k y = A ++ (k, y) :: M
  | [], M, k, x, _, y => by simp [putL, less_irrefl]
  | a :: A, M, k, x, h, y => by
    have h1 := (srt_mid h).1 a (by simp)
    rw [List.cons_append, putL, less_asymm h1, if_neg (by simp), if_neg (less_ne h1), putL_mid (List.pairwise_cons.1 h).2 y, List.cons_append]
theorem delL_mid {A M : List (Nm × α)} {k : Nm} {x : α} (h : srt (A ++ (k, x) :: M)) : delL (A ++ (k, x) :: M) k = A ++ M := by
  obtain ⟨h1, h2⟩ := srt_mid h
  have e1 : A.filter (fun p => p.1 != k) = A := List.filter_eq_self.2 fun p hp => by simpa using less_ne (h1 p hp)
  have e2 : M.filter (fun p => p.1 != k) = M := List.filter_eq_self.2 fun p hp => by simpa using fun e => less_ne (h2 p hp) e.symm
  simp [delL, e1, e2]
end

/-! ### a step, once more -/
theorem stepR_two (st : St) (wrong : Int) (f : Fs → Fs) (hw : 0 ≤ wrong) : (0 < (stepR st wrong f).1 ∧ (stepR st wrong f).2.fs = st.fs) ∨ ((stepR st wrong f).1 = 0 ∧ wrong = 0 ∧ st.down = false ∧ (stepR st wrong f).2.fs = f st.fs ∧ (stepR st wrong f).2.down = false) := by
  unfold stepR
  split
  · exact Or.inl ⟨by simp, rfl⟩
  · split
    · exact Or.inl ⟨by simp only; omega, rfl⟩
    · split
      · exact Or.inl ⟨by simp, rfl⟩
      · rename_i h1 h2 h3
        exact Or.inr ⟨rfl, by omega, by simpa using h1, rfl, rfl⟩
theorem stepR_size (st : St) (wrong : Int) (f : Fs → Fs) : (stepR st wrong f).2.size = st.size := by
  unfold stepR
  split
  · rfl
  · split
    · rfl
    · split <;> rfl
theorem stepR_steps (st : St) (wrong : Int) (f : Fs → Fs) : (stepR st wrong f).2.steps ≤ st.steps + 1 := by
  unfold stepR
  split
  · exact Nat.le_succ _
  · split
    · exact Nat.le_succ _
    · split
      · exact Nat.le_succ _
      · exact Nat.le_refl _
/-- A disk that is not armed and not down does what is not wrong. -/
theorem stepR_calm {st : St} (wrong : Int) (f : Fs → Fs) (ha : st.armed = -1) (hd : st.down = false) : (stepR st wrong f).1 = wrong ∧ (stepR st wrong f).2.armed = -1 ∧ (stepR st wrong f).2.down = false := by
  unfold stepR
  rw [hd, if_neg (by simp)]
  split
  · exact ⟨rfl, ha, hd⟩
  · rename_i h
    rw [if_neg (by omega)]
    exact ⟨by simp only; omega, by simp [ha], rfl⟩
/-- What refuses: the disk is down then, or the act was wrong. -/
theorem stepR_down3 (st : St) (wrong : Int) (f : Fs → Fs) : (stepR st wrong f).1 = 0 ∨ ((stepR st wrong f).1 = 3 ∧ (stepR st wrong f).2.down = true) ∨ (wrong ≠ 0 ∧ (stepR st wrong f).1 = wrong ∧ (stepR st wrong f).2 = st) := by
  unfold stepR
  split
  · exact Or.inr (Or.inl ⟨rfl, by assumption⟩)
  · split
    · exact Or.inr (Or.inr ⟨by assumption, rfl, rfl⟩)
    · split
      · exact Or.inr (Or.inl ⟨rfl, rfl⟩)
      · exact Or.inl rfl
theorem findE_nn (fs : Fs) (s : Nm) : 0 ≤ findE fs s := by
  unfold findE
  split
  · split <;> simp
  · simp
theorem roomE_nn (st : St) (s : Nm) (n : Nat) : 0 ≤ roomE st s n := by
  unfold roomE
  split
  · split <;> simp
  · simp
theorem renE_nn (fs : Fs) (s t : Nm) : 0 ≤ renE fs s t := by
  unfold renE
  split
  · exact findE_nn _ _
  · simp

/-! ### how a log lies -/
def sfile (s : Sg) : Nm × Fl := (nameN s.1, (cat s.2, (cat s.2).length))
def Mnd (M : Fs) : Prop := M = [] ∨ ∃ f, M = [(mendN, f)]
theorem Mnd.less {M : Fs} (h : Mnd M) (p : Nat) : ∀ q ∈ M, Op.bytesLess (nameN p) q.1 = true := fun q hq => by
  rcases h with rfl | ⟨f, rfl⟩
  · cases hq
  · obtain rfl : q = (mendN, f) := by simpa using hq
    exact name_mend p
/-- The files of a log: the segments, all but the last one whole and safe; of the last one so many bytes are safe; behind them what is mended. -/
def Lain (fs : Fs) (A : List Sg) (p : Nat) (D : List UInt8) (k : Nat) : Prop := ∃ M, Mnd M ∧ fs = A.map sfile ++ (nameN p, (D, k)) :: M
def Lies (st : St) (g : Lg) : Prop :=
  (g.segs = [] ∧ Mnd st.fs) ∨ ∃ A s k, g.segs = A ++ [s] ∧ Lain st.fs A s.1 (cat s.2) k ∧ s.1 ≤ g.safe ∧ (cat (s.2.take (g.safe - s.1))).length ≤ k
theorem Lies.same {st st' : St} {g : Lg} (h : Lies st g) (hf : st'.fs = st.fs) : Lies st' g := by
  unfold Lies
  rw [hf]
  exact h
theorem cat_snoc (ds : List (List UInt8)) (d : List UInt8) : cat (ds ++ [d]) = cat ds ++ frm d := by rw [cat_append, cat_one]
theorem LgW.next_le {g : Lg} (h : LgW g) : g.next ≤ 2000000000000 := by
  unfold Lg.next
  by_cases hn : g.segs = []
  · rw [hn, nextL_nil]
    have := h.frm
    omega
  · obtain ⟨m, x, e⟩ := snoc_of hn
    rw [e, nextL_snoc]
    have h1 := h.low x (by rw [e]; simp)
    have h2 := h.few x (by rw [e]; simp)
    unfold Sg.end
    omega
theorem Lies.sync {st : St} {g : Lg} (h : Lies st g) (hok : OKs st) (hg : LgOK g) : Lies (syncL st g).2.1 (syncL st g).2.2 := by
  unfold syncL
  split
  · exact h
  · rename_i hne
    rcases h with ⟨h1, h2⟩ | ⟨A, s, k, h1, ⟨M, hM, hfs⟩, h3, h4⟩
    · exact absurd ((hg.none h1).trans (by rw [Lg.next, h1, nextL_nil])) hne
    · have hsr := hok.files.sorted
      rw [h1, lastL_snoc]
      have hst := stepR_two st (findE st.fs (nameN s.1)) (synF (nameN s.1)) (findE_nn _ _)
      have e : synR st (nameN s.1) = stepR st (findE st.fs (nameN s.1)) (synF (nameN s.1)) := rfl
      rw [← e] at hst
      rcases hst with ⟨a1, a2⟩ | ⟨a1, _, _, a2, _⟩
      · rw [if_pos (by omega)]
        refine Or.inr ⟨A, s, k, h1, ⟨M, hM, ?_⟩, h3, h4⟩
        exact a2.trans hfs
      · rw [if_neg (by omega)]
        rw [hfs] at hsr
        have hx : g.next = s.end := by rw [Lg.next, h1, nextL_snoc]
        refine Or.inr ⟨A, s, (cat s.2).length, rfl, ⟨M, hM, ?_⟩, ?_, ?_⟩
        · simp only
          rw [a2, hfs, synF, fileOf, getL_mid hsr, putL_mid hsr]
          rfl
        · simp only [hx, Sg.end]; omega
        · simp only [hx, Sg.end, Nat.add_sub_cancel_left, List.take_length]
          exact Nat.le_refl _
theorem syncL_segs (st : St) (g : Lg) : (syncL st g).2.2.segs = g.segs ∧ (syncL st g).2.2.size = g.size ∧ (syncL st g).2.2.frm = g.frm := by
  unfold syncL
  split
  · exact ⟨rfl, rfl, rfl⟩
  · split <;> exact ⟨rfl, rfl, rfl⟩
theorem syncL_safe {st : St} {g : Lg} (h : (syncL st g).1 = 0) : (syncL st g).2.2.safe = g.next := by
  unfold syncL at h ⊢
  split
  · rename_i e
    exact e
  · split
    · rename_i h1 h2
      rw [if_neg h1, if_pos h2] at h
      exact absurd h h2
    · rfl
theorem LgW.synced {g : Lg} (h : LgW g) (n : Nat) : LgW { g with safe := n } := ⟨h.size, h.frm, h.row, h.low, h.few, h.small, h.many⟩
theorem LgW.sync {st : St} {g : Lg} (h : LgW g) : LgW (syncL st g).2.2 := by
  unfold syncL
  split
  · exact h
  · split
    · exact h
    · exact h.synced _
theorem LgOK.sync {st : St} {g : Lg} (h : LgOK g) : LgOK (syncL st g).2.2 := by
  unfold syncL
  split
  · exact h
  · split
    · exact h
    · exact ⟨h.toLgW.synced _, Nat.le_refl _, fun e => by simp only [Lg.next]; simp only at e; rw [e, nextL_nil]⟩
theorem synR_ok {st : St} (h : OKs st) (s : Nm) : OKs (synR st s).2 := stepR_ok h fun e => h.files.syn e
theorem appR_ok {st : St} (h : OKs st) (s : Nm) (t : List UInt8) : OKs (appR st s t).2 := stepR_ok h fun e => h.files.app e
theorem renR_ok {st : St} (h : OKs st) (s t : Nm) : OKs (renR st s t).2 := stepR_ok h fun e => h.files.ren e
theorem remR_ok {st : St} (h : OKs st) (s : Nm) : OKs (remR st s).2 := stepR_ok h fun _ => h.files.rem s
theorem syncL_ok {st : St} (h : OKs st) (g : Lg) : OKs (syncL st g).2.1 := by
  unfold syncL
  split
  · exact h
  · split <;> exact synR_ok h _
theorem appendL_ok {st : St} (h : OKs st) (g : Lg) (d : List UInt8) : OKs (appendL st g d).2.1 := by
  unfold appendL
  split
  · exact h
  · split
    · split
      · exact syncL_ok h g
      · split <;> exact appR_ok (syncL_ok h g) _ _
    · split <;> exact appR_ok h _ _

/-! ### a record more -/
theorem Row.snoc : ∀ {A : List Sg} {s t : Sg}, Row (A ++ [s]) → t.1 = s.end → Row (A ++ [s] ++ [t])
  | [], _, _, _, h => ⟨h, trivial⟩
  | [_], s, _, h, h' => ⟨h.1, Row.snoc (A := []) (s := s) trivial h'⟩
  | _ :: b :: A, _, _, h, h' => ⟨h.1, Row.snoc (A := b :: A) h.2 h'⟩
theorem Row.put : ∀ {A : List Sg} {s t : Sg}, Row (A ++ [s]) → t.1 = s.1 → Row (A ++ [t])
  | [], _, _, _, _ => trivial
  | [_], _, _, h, h' => ⟨h'.trans h.1, trivial⟩
  | _ :: b :: A, _, _, h, h' => ⟨h.1, Row.put (A := b :: A) h.2 h'⟩
theorem LgW.put {g : Lg} (h : LgW g) {A : List Sg} {s : Sg} (e : g.segs = A ++ [s]) {d : List UInt8} (hd : d.length ≤ 4096) (hn : g.next < 1000000000000) : LgW { g with segs := putS g.segs d } := by
  have hx : g.next = s.end := by rw [Lg.next, e, nextL_snoc]
  have hs := h.low s (by rw [e]; simp)
  have hmany := h.many
  rw [hx, Sg.end] at hn hmany
  rw [e, List.length_append, List.length_singleton] at hmany
  rw [e, putS_snoc]
  refine ⟨h.size, h.frm, Row.put (s := s) (e ▸ h.row) rfl, fun x hx => ?_, fun x hx => ?_, fun x hx => ?_, ?_⟩
  · rcases List.mem_append.1 hx with hx | hx
    · exact h.low x (by rw [e]; simp [hx])
    · obtain rfl : x = (s.1, s.2 ++ [d]) := by simpa using hx
      exact hs
  · rcases List.mem_append.1 hx with hx | hx
    · exact h.few x (by rw [e]; simp [hx])
    · obtain rfl : x = (s.1, s.2 ++ [d]) := by simpa using hx
      simp only [List.length_append, List.length_singleton]
      omega
  · rcases List.mem_append.1 hx with hx | hx
    · exact h.small x (by rw [e]; simp [hx])
    · obtain rfl : x = (s.1, s.2 ++ [d]) := by simpa using hx
      intro y hy
      rcases List.mem_append.1 hy with hy | hy
      · exact h.small s (by rw [e]; simp) y hy
      · obtain rfl : y = d := by simpa using hy
        exact hd
  · simp only [Lg.next, nextL_snoc, Sg.end, List.length_append, List.length_singleton]
    omega
theorem LgOK.put {g : Lg} (h : LgOK g) {A : List Sg} {s : Sg} (e : g.segs = A ++ [s]) {d : List UInt8} (hd : d.length ≤ 4096) (hn : g.next < 1000000000000) : LgOK { g with segs := putS g.segs d } := by
  refine ⟨h.toLgW.put e hd hn, ?_, fun q => ?_⟩
  · have hsafe := h.safe
    rw [Lg.next, e, nextL_snoc, Sg.end] at hsafe
    rw [e, putS_snoc]
    simp only [Lg.next, nextL_snoc, Sg.end, List.length_append, List.length_singleton]
    omega
  · simp only [e, putS_snoc] at q
    simp at q
/-- A segment more, of records that fit. -/
theorem LgW.more {g : Lg} (h : LgW g) {q : Nat} {ds : List (List UInt8)} (hq : g.segs = [] ∨ q = g.next) (hds : ∀ d ∈ ds, d.length ≤ 4096) (hl : ds.length ≤ 1000000000000) (hn : q < 1000000000000) (hm : g.segs.length + 1 ≤ q + ds.length + 64) : LgW { g with segs := g.segs ++ [(q, ds)] } := by
  refine ⟨h.size, h.frm, ?_, fun x hx => ?_, fun x hx => ?_, fun x hx => ?_, ?_⟩
  · by_cases hz : g.segs = []
    · simp only [hz]
      trivial
    · obtain ⟨A, s, e⟩ := snoc_of hz
      have hx : g.next = s.end := by rw [Lg.next, e, nextL_snoc]
      have hr := h.row
      rcases hq with hq | hq
      · exact absurd hq hz
      · rw [hx] at hq
        simp only [e] at hr ⊢
        exact Row.snoc hr hq
  · rcases List.mem_append.1 hx with hx | hx
    · exact h.low x hx
    · obtain rfl : x = (q, ds) := by simpa using hx
      exact hn
  · rcases List.mem_append.1 hx with hx | hx
    · exact h.few x hx
    · obtain rfl : x = (q, ds) := by simpa using hx
      exact hl
  · rcases List.mem_append.1 hx with hx | hx
    · exact h.small x hx
    · obtain rfl : x = (q, ds) := by simpa using hx
      exact hds
  · simp only [Lg.next, nextL_snoc, Sg.end, List.length_append, List.length_singleton]
    exact hm
theorem LgW.one {g : Lg} (h : LgW g) {d : List UInt8} (hd : d.length ≤ 4096) (hn : g.next < 1000000000000) : LgW { g with segs := g.segs ++ [(g.next, [d])] } := by
  have := h.many
  exact h.more (Or.inr rfl) (by simpa using hd) (by simp) hn (by simp only [List.length_singleton]; omega)
theorem LgOK.more {g : Lg} (h : LgOK g) {d : List UInt8} (hd : d.length ≤ 4096) (hn : g.next < 1000000000000) (hs : g.safe = g.next) : LgOK { g with segs := g.segs ++ [(g.next, [d])] } := by
  refine ⟨h.toLgW.one hd hn, ?_, fun e => by simp at e⟩
  simp only [Lg.next, nextL_snoc, Sg.end, List.length_singleton]
  rw [hs]
  unfold Lg.next
  omega
theorem LgOK.append {st : St} {g : Lg} (h : LgOK g) (d : List UInt8) : LgOK (appendL st g d).2.2 := by
  unfold appendL
  split
  · exact h
  · rename_i hl
    split
    · split
      · exact h.sync
      · split
        · exact h.sync
        · rename_i hs _
          have hsy := syncL_segs st g
          have hsf : (syncL st g).2.2.safe = g.next := syncL_safe (by omega)
          have hnx : (syncL st g).2.2.next = g.next := by unfold Lg.next; rw [hsy.1, hsy.2.2]
          have := (h.sync (st := st)).more (d := d) (by omega) (by omega) (by omega)
          rw [hsy.1, hnx] at this
          exact this
    · split
      · exact h
      · rename_i hf _
        have hz : g.segs ≠ [] := fun e => by simp [Lg.full, e] at hf
        obtain ⟨A, s, e⟩ := snoc_of hz
        exact h.put e (by omega) (by omega)
theorem Lies.append {st : St} {g : Lg} (h : Lies st g) (hok : OKs st) (hg : LgOK g) (d : List UInt8) : Lies (appendL st g d).2.1 (appendL st g d).2.2 := by
  unfold appendL
  split
  · exact h
  · rename_i hl
    split
    · have h1 := h.sync hok hg
      have hok1 := syncL_ok hok g
      have hseg := syncL_segs st g
      split
      · exact h1
      · rename_i hfull hs0
        have hsf := syncL_safe (st := st) (g := g) (by omega)
        have hst := stepR_two (syncL st g).2.1 (roomE (syncL st g).2.1 (nameN g.next) (frm d).length) (appF (nameN g.next) (frm d)) (roomE_nn _ _ _)
        have e : appR (syncL st g).2.1 (nameN g.next) (frm d) = stepR (syncL st g).2.1 (roomE (syncL st g).2.1 (nameN g.next) (frm d).length) (appF (nameN g.next) (frm d)) := rfl
        rw [← e] at hst
        rcases hst with ⟨a1, a2⟩ | ⟨a1, _, _, a2, _⟩
        · rw [if_pos (by omega)]
          exact h1.same a2
        · rw [if_neg (by omega)]
          rcases h1 with ⟨b1, b2⟩ | ⟨A, s, k, b1, ⟨M, hM, hfs⟩, b3, b4⟩
          · rw [hseg.1] at b1
            refine Or.inr ⟨[], (g.next, [d]), 0, by simp [b1], ⟨(syncL st g).2.1.fs, b2, ?_⟩, ?_, ?_⟩
            · simp only
              rw [a2]
              have hlt := b2.less g.next
              have q1 := getL_new (A := []) (by simp) hlt
              have q2 := fun y => putL_new (A := []) (by simp) hlt y
              simp only [List.nil_append] at q1 q2
              rw [appF, fileOf, q1, q2]
              simp [cat]
            · simp only [hsf]; omega
            · simp [hsf, cat]
          · rw [hseg.1] at b1
            have hx : g.next = s.end := by rw [Lg.next, b1, nextL_snoc]
            have hlen : 1 ≤ s.2.length := by
              simp only [Lg.full, b1, lastL_snoc, Bool.or_eq_true, List.isEmpty_iff, decide_eq_true_eq] at hfull
              have := hg.size
              rcases hfull with q | q
              · simp at q
              · omega
            have hsr := hok1.files.sorted
            rw [hfs] at hsr
            obtain ⟨c1, c2⟩ := srt_mid hsr
            have hkk : k = (cat s.2).length := by
              have hle := hok1.files.safe (nameN s.1, (cat s.2, k)) (by rw [hfs]; simp)
              simp only at hle
              rw [hsf, hx, Sg.end, Nat.add_sub_cancel_left, List.take_length] at b4
              omega
            have hlt : ∀ p ∈ (A ++ [s]).map sfile, Op.bytesLess p.1 (nameN g.next) = true := fun p hp => by
              have hl : Op.bytesLess (nameN s.1) (nameN g.next) = true := nameN_less (by rw [hx, Sg.end]; omega) (by omega)
              rw [List.map_append, List.mem_append] at hp
              rcases hp with hp | hp
              · exact less_trans (c1 p hp) hl
              · obtain rfl : p = sfile s := by simpa using hp
                exact hl
            have hfs' : (syncL st g).2.1.fs = (A ++ [s]).map sfile ++ M := by
              rw [hfs, hkk]
              simp [sfile]
            refine Or.inr ⟨g.segs, (g.next, [d]), 0, rfl, ⟨M, hM, ?_⟩, ?_, ?_⟩
            · simp only
              rw [a2, hfs', appF, fileOf, getL_new hlt (hM.less _), putL_new hlt (hM.less _), b1]
              simp [cat]
            · simp only [hsf]; omega
            · simp [hsf, cat]
    · rename_i hfull
      have hz : g.segs ≠ [] := fun e => by simp [Lg.full, e] at hfull
      rcases h with ⟨b1, b2⟩ | ⟨A, s, k, b1, ⟨M, hM, hfs⟩, b3, b4⟩
      · exact absurd b1 hz
      · have hsr := hok.files.sorted
        rw [hfs] at hsr
        rw [b1, lastL_snoc, putS_snoc]
        have hst := stepR_two st (roomE st (nameN s.1) (frm d).length) (appF (nameN s.1) (frm d)) (roomE_nn _ _ _)
        have e : appR st (nameN s.1) (frm d) = stepR st (roomE st (nameN s.1) (frm d).length) (appF (nameN s.1) (frm d)) := rfl
        rw [← e] at hst
        rcases hst with ⟨a1, a2⟩ | ⟨a1, _, _, a2, _⟩
        · rw [if_pos (by omega)]
          exact Or.inr ⟨A, s, k, b1, ⟨M, hM, a2.trans hfs⟩, b3, b4⟩
        · rw [if_neg (by omega)]
          have hsafe := hg.safe
          rw [Lg.next, b1, nextL_snoc, Sg.end] at hsafe
          refine Or.inr ⟨A, (s.1, s.2 ++ [d]), k, rfl, ⟨M, hM, ?_⟩, b3, ?_⟩
          · simp only
            rw [a2, hfs, appF, fileOf, getL_mid hsr, putL_mid hsr, cat_snoc]
            rfl
          · simp only
            rw [List.take_append_of_le_length (by omega)]
            exact b4
end Go.Proofs.YtckmjmpajbjbkaaGreatDoor
