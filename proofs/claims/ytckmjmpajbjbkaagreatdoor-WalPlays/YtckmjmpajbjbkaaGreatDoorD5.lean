/- Walks of layer 4, fifth part: what the steps do (the closures that the steps hand over). -/
import Derived.Test.YtckmjmpajbjbkaaGreatDoorD4
namespace Go.Proofs.YtckmjmpajbjbkaaGreatDoor
open Go.RowKit

theorem wpList_appB (w : World) {ops : Array Oper} {rest : List Oper} {o : Oper} {a : Act} {Q : Exit → Act → World → Prop} (hgd : o.guard = none) (sl x : Operand)
    (ho : o.op = .call { callee := .builtin .append, args := #[sl, x], argTypes := #[75, 9] })
    (v : Value) (bs : List UInt8) (hs : a.eval sl = v) (hown : ownB w v bs) (s : ByteArray) (hx : a.eval x = .string s) (hlen : bs.length + s.size ≤ 1099511627776)
    (h : ∀ p cap w', ownB w' (.slice p (bs.length + s.size) cap) (bs ++ s.data.toList) → w.grownBy w' v.ownBlock → (∀ g, (Value.slice p (bs.length + s.size) cap).ownBlock = some g → v.ownBlock = some g ∨ w.heap.size ≤ g) → ownB w' v bs → wpList Tryz.prog ops Q rest (a.put o.dst (.slice p (bs.length + s.size) cap)) w') : wpList Tryz.prog ops Q (o :: rest) a w := by
  refine wpList_plain hgd fun K hK => ?_
  obtain ⟨v', w', hr, h2, h3, h4, h5⟩ := hown.app s hlen o.type
  obtain ⟨p, cap, e, _⟩ := h2.form
  have e' : v' = .slice p (bs.length + s.size) cap := by rw [e]; simp
  subst e'
  unfold Oper.wp execOp
  simp only [ho, resolve, invoke, builtin, Sem.run_bind, Sem.run_pure, Result.andThen_ok, List.map_toArray, List.map_cons, List.map_nil, hs, hx, hr]
  exact hK _ _ (h p cap w' h2 h3 h4 h5)

theorem Held.grown {w w' : World} {Z : Nat → Prop} {b : Nat} {es : List (Nm × Fil)} (h : Held w Z b es) {k : Nm} {f : Fil} (hg : getL es k = some f) (hgr : w.grownBy w' f.v.ownBlock) (ho : ownB w' f.v f.dat) : Held w' Z b es := by
  have hm := getL_mem hg
  refine ⟨owns_at h.map (hgr.block b h.map.lt (fun e => h.bne _ hm e.symm)), h.zb, fun p hp => ?_, h.zone, h.apart, h.sorted⟩
  by_cases e : p.1 = k
  · have := getL_of_mem h.sorted hp
    rw [e, hg] at this
    obtain rfl : f = p.2 := by simpa using this
    exact ho
  · exact (h.rows p hp).kept fun g hg' => hgr.block g (h.lt (Or.inr ⟨p, hp, hg'⟩)) (fun e' => e (h.apart p hp _ hm g hg' e'.symm))

/-- What the boxes of a step hold. -/
def Box (w : World) (x : Nat) (v : Value) (t : TypeId) : Prop := w.heap[x]? = some (.cells #[v] t (0, 0))
theorem Box.cell {w : World} {x : Nat} {v : Value} {t : TypeId} (h : Box w x v t) : w.cell? ⟨x, 0, none⟩ = some v := by
  unfold Box at h
  simp [World.cell?, h]
theorem Box.lt {w : World} {x : Nat} {v : Value} {t : TypeId} (h : Box w x v t) : x < w.heap.size := (Array.getElem?_eq_some_iff.1 h).1
theorem Box.ne {w : World} {x : Nat} {v u : Value} {t : TypeId} {bs : List UInt8} (h : Box w x v t) (ht : t ≠ 5) (ho : ownB w u bs) : some x ≠ u.ownBlock := fun e => by
  obtain ⟨c, fr, h1⟩ := ho.lt e.symm
  unfold Box at h
  rw [h] at h1
  simp only [Option.some.injEq, Obj.cells.injEq] at h1
  exact ht h1.2.1
theorem cell_at {w w' : World} {x o : Nat} {v : Value} (h : w'.heap[x]? = w.heap[x]?) (hc : w.cell? ⟨x, o, none⟩ = some v) : w'.cell? ⟨x, o, none⟩ = some v := (World.cell?_of_block (a := ⟨x, o, none⟩) h).trans hc

/-- What a step's closure leaves. -/
def Acts (w w' : World) (Z : Nat → Prop) (a b : Nat) (fs : Fs) : Prop := ∃ es, Held w' Z b es ∧ mapL Fil.fl es = fs ∧ w'.heap[a]? = w.heap[a]? ∧ Only Z w w'
theorem fileOf_some {es : List (Nm × Fil)} {k : Nm} {f : Fil} (h : getL es k = some f) : fileOf (mapL Fil.fl es) k = (f.dat, f.safe) := by simp [fileOf, getL_mapL, h, Fil.fl]
theorem fileOf_none {es : List (Nm × Fil)} {k : Nm} (h : getL es k = none) : fileOf (mapL Fil.fl es) k = ([], 0) := by simp [fileOf, getL_mapL, h]

theorem acts_put {w W w' : World} {Z : Nat → Prop} {a b : Nat} {fs : Fs} {es : List (Nm × Fil)} (hzb : Z b) (hO : Only Z w W) (hba : W.heap[a]? = w.heap[a]?) (hab : a ≠ b) (la : a < W.heap.size) (hh : Held w' Z b es) (ho : Only (fun k => k = b) W w') (e : mapL Fil.fl es = fs) : Acts w w' Z a b fs :=
  ⟨es, hh, e, (ho.block a la hab).trans hba, hO.trans (ho.mono fun k hk => by rw [hk]; exact hzb)⟩
theorem Held.neA {w : World} {Z : Nat → Prop} {b : Nat} {es : List (Nm × Fil)} (h : Held w Z b es) {a : Nat} {cs : Array Value} {fr : Nat × Nat} (ha : w.heap[a]? = some (.cells cs 73 fr)) : a ≠ b ∧ ∀ p ∈ es, p.2.v.ownBlock ≠ some a := h.ne ha (by decide)

set_option maxHeartbeats 4000000 in
set_option maxRecDepth 100000 in
theorem app1_any (w : World) (Z : Nat → Prop) (a b : Nat) (es : List (Nm × Fil)) (s t : ByteArray) (A N T : Nat) (hA : Box w A (.pointer (some ⟨a, 0, none⟩)) 26) (hN : Box w N (.string s) 9) (hT : Box w T (.string t) 9)
    (c0 : w.cell? ⟨a, 0, none⟩ = some (.map (some b))) (ha : ∃ cs fr, w.heap[a]? = some (.cells cs 73 fr)) (h : Held w Z b es) (hZ : ∀ k, w.heap.size ≤ k → Z k) (hs : s.size ≤ 1099511627776) (hl : es.length < 1000) (hd : ∀ f, getL es s.data.toList = some f → f.dat.length + t.size ≤ 1099511627776) (ht : t.size ≤ 1099511627776) :
    Calls Tryz.prog 84 #[.pointer (some ⟨A, 0, none⟩), .pointer (some ⟨N, 0, none⟩), .pointer (some ⟨T, 0, none⟩)] w fun e w' => e = .returned (.tuple #[]) ∧ Acts w w' Z a b (appF s.data.toList t.data.toList (mapL Fil.fl es)) := by
  have HH : Hid (Held w Z b es) := h
  have HA : Hid (Box w A (.pointer (some ⟨a, 0, none⟩)) 26) := hA
  have HN : Hid (Box w N (.string s) 9) := hN
  have HT : Hid (Box w T (.string t) 9) := hT
  have HZ : Hid (∀ k, w.heap.size ≤ k → Z k) := hZ
  obtain ⟨cs, fr, ha⟩ := ha
  have HB : Hid (w.heap[a]? = some (.cells cs 73 fr)) := ha
  have HD : Hid (∀ f, getL es s.data.toList = some f → f.dat.length + t.size ≤ 1099511627776) := hd
  have kA := hA.cell
  have kN := hN.cell
  have kT := hT.cell
  have lA := hA.lt
  have lN := hN.lt
  have lT := hT.lt
  have la : a < w.heap.size := World.block_lt_of_cell? _ _ c0
  have hss : s.size ≤ maxLen := by unfold maxLen; omega
  have hl0 := (h.later (w' := w.drew) (Below.refl _ _).drew).look hss
  have hl1 := fun o => (h.later (w' := (w.alloc o).drew) (((Below.refl _ _).alloc (Nat.le_refl _) _).drew)).look hss
  clear hA hN hT hZ ha hd h
  cases hg : getL es s.data.toList with
  | none =>
    rw [rawNo hg] at hl0
    simp only [rawNo hg] at hl1
    go_enter Tryz.func84, Tryz.ntmps84
    go_wp2
    go_region
    all_goals
      go_wp2_with (first | (at_builtin; refine wpList_appB _ rfl _ _ rfl _ [] rfl (ownB.nil _) t rfl (by simpa using ht) ?_))
      intro p cap w1 ho1 hg1 hw1 _
      have hb1 : Below w.heap.size w w1 := (((Below.refl _ _).alloc (Nat.le_refl _) _).drew).grown hg1 (by simp) (fun k hk => by cases hk)
      have kA1 := cell_later hb1 kA
      have kN1 := cell_later hb1 kN
      have c01 := cell_later hb1 c0
      have t0 : w1.cell? ⟨w.heap.size, 0, none⟩ = some (.slice none 0 0) := hg1.cell (by simp) (by simp [Value.ownBlock])
      have t1 : w1.cell? ⟨w.heap.size, 1, none⟩ = some (.int .i64 0) := hg1.cell (by simp) (by simp [Value.ownBlock])
      have tf : ∀ o, w1.frozen? ⟨w.heap.size, o, none⟩ = false := fun o => by
        rw [World.frozen?_of_block (a := ⟨w.heap.size, o, none⟩) (hg1.block w.heap.size (by simp) (by simp [Value.ownBlock]))]
        simp
      have HO1 : Hid (ownB w1 (.slice p t.size cap) t.data.toList) := ho1
      have HW1 : Hid (∀ g, (Value.slice p t.size cap).ownBlock = some g → w.heap.size + 1 ≤ g) := fun g e => by
        rcases hw1 g e with h | h
        · cases h
        · exact h
      have HB1 : Hid (Below w.heap.size w w1) := hb1
      have hz1 : w.heap.size < w1.heap.size := by have := hg1.size; simp at this; omega
      clear hw1 ho1 hg1 hb1
      go_wp2_with (first | (go_at_call 29; refine (put_any _ Z a b es s t.data.toList 0 p t.size cap (cell_at (Below.heap_setCell _ _ _ _ (by show a ≠ w.heap.size; omega)) c01) (HH.out.later (HB1.out.setCell (Nat.le_refl _) _)) hs hl (HO1.out.kept fun g e => Below.heap_setCell _ _ _ _ (by have := HW1.out g e; simp; omega)) (fun g e => HZ.out g (by have := HW1.out g e; omega)) (fun g e q hq e' => by have := HW1.out g e; have := HH.out.lt (Or.inr ⟨q, hq, e'⟩); omega)).mono ?_; rintro e w2 ⟨rfl, hh2, ho2⟩))
      go_end0
      refine ⟨rfl, acts_put HH.out.zb (Only.of (HB1.out.setCell (Nat.le_refl _) _)) ((HB1.out.setCell (Nat.le_refl _) _).block a la) (HH.out.neA HB.out).1 (by simp [World.setCell]; omega) hh2 ho2 ?_⟩
      rw [mapL_putL, appF, fileOf_none hg]
      rfl
  | some f =>
    obtain ⟨p0, cap0, ev, er⟩ := rawOf HH.out hg
    have hf := HH.out.rows _ (getL_mem hg)
    simp only [ev] at hf
    rw [er] at hl0
    simp only [er] at hl1
    have HF : Hid (ownB w (.slice p0 f.dat.length cap0) f.dat) := hf
    have HV : Hid (f.v = .slice p0 f.dat.length cap0) := ev
    have hd := HD.out f hg
    clear hf ev er
    go_enter Tryz.func84, Tryz.ntmps84
    go_wp2
    go_region
    all_goals
      go_wp2_with (first | (at_builtin; refine wpList_appB _ rfl _ _ rfl _ f.dat rfl (HF.out.kept fun g e => Below.block (B := w.heap.size) (by (repeat (first | exact Below.refl _ _ | assumption | refine Below.drew ?_ | refine below_drewN ?_ _ | refine Below.alloc ?_ (by first | omega | (simp; done) | (simp; omega)) _ | refine Below.setCell ?_ (by first | omega | (simp; done) | (simp; omega)) _ | refine Below.trans ?_ (Below.mono (by assumption) (by first | omega | (simp; done) | (simp; omega)))))) g (by obtain ⟨c, fr, e'⟩ := HF.out.lt e; exact (Array.getElem?_eq_some_iff.1 e').1)) t rfl hd ?_))
      intro p cap w1 ho1 hg1 hw1 ho0
      have hW : Below w.heap.size w (w.alloc (.cells #[.slice p0 f.dat.length cap0, .int .i64 (f.safe : Int)] 77)).drew := ((Below.refl _ _).alloc (Nat.le_refl _) _).drew
      have hgl : ∀ g, (Value.slice p0 f.dat.length cap0).ownBlock = some g → g < w.heap.size := fun g e => by
        obtain ⟨c, fr, e'⟩ := HF.out.lt e
        exact (Array.getElem?_eq_some_iff.1 e').1
      have hne : some w.heap.size ≠ (Value.slice p0 f.dat.length cap0).ownBlock := fun e => by have := hgl _ e.symm; omega
      have hab := (HH.out.neA HB.out)
      have hfa : some a ≠ (Value.slice p0 f.dat.length cap0).ownBlock := fun e => hab.2 _ (getL_mem hg) (by simp only [HV.out]; exact e.symm)
      have eA := (hg1.block A (by simp; omega) (HA.out.ne (by decide) HF.out)).trans (hW.block A lA)
      have eN := (hg1.block N (by simp; omega) (HN.out.ne (by decide) HF.out)).trans (hW.block N lN)
      have HEA : Hid (w1.heap[a]? = w.heap[a]?) := (hg1.block a (by simp; omega) hfa).trans (hW.block a la)
      have kA1 := cell_at eA kA
      have kN1 := cell_at eN kN
      have c01 := cell_at HEA.out c0
      have t0 : w1.cell? ⟨w.heap.size, 0, none⟩ = some (.slice p0 f.dat.length cap0) := hg1.cell (by simp) hne
      have t1 : w1.cell? ⟨w.heap.size, 1, none⟩ = some (.int .i64 (f.safe : Int)) := hg1.cell (by simp) hne
      have tf : ∀ o, w1.frozen? ⟨w.heap.size, o, none⟩ = false := fun o => by
        rw [World.frozen?_of_block (a := ⟨w.heap.size, o, none⟩) (hg1.block w.heap.size (by simp) hne)]
        simp
      have HK1 : Hid (Held w1 Z b es) := (HH.out.later hW).grown hg (by rw [HV.out]; exact hg1) (by rw [HV.out]; exact ho0)
      have HOn : Hid (Only Z w w1) := (Only.of hW).grown hg1 (fun k hk => HH.out.zone _ (getL_mem hg) k (by simp only [HV.out]; exact hk))
      have HO1 : Hid (ownB w1 (.slice p (f.dat.length + t.size) cap) (f.dat ++ t.data.toList)) := ho1
      have HW1 : Hid (∀ g, (Value.slice p (f.dat.length + t.size) cap).ownBlock = some g → ((Value.slice p0 f.dat.length cap0).ownBlock = some g ∧ g < w.heap.size) ∨ w.heap.size + 1 ≤ g) := fun g e => by
        rcases hw1 g e with h | h
        · exact Or.inl ⟨h, hgl g h⟩
        · exact Or.inr h
      have hz1 : w.heap.size < w1.heap.size := by have := hg1.size; simp at this; omega
      have hab1 := hab.1
      clear hw1 ho1 hg1 ho0 eA eN hfa hab hne hgl hW
      go_wp2_with (first | (go_at_call 29; refine (put_any _ Z a b es s (f.dat ++ t.data.toList) f.safe p (f.dat.length + t.size) cap (cell_at (Below.heap_setCell _ _ _ _ (by show a ≠ w.heap.size; omega)) c01) (HK1.out.kept fun k hk => Below.heap_setCell _ _ _ _ (by have := HH.out.lt hk; show k ≠ w.heap.size; omega)) hs hl (HO1.out.kept fun g e => Below.heap_setCell _ _ _ _ (by have := HW1.out g e; show g ≠ w.heap.size; omega)) (fun g e => by rcases HW1.out g e with ⟨e1, _⟩ | e1; exact HH.out.zone _ (getL_mem hg) g (by simp only [HV.out]; exact e1); exact HZ.out g (by omega)) (fun g e q hq e' => by rcases HW1.out g e with ⟨e1, _⟩ | e1; exact HH.out.apart q hq _ (getL_mem hg) g e' (by simp only [HV.out]; exact e1); have := HH.out.lt (Or.inr ⟨q, hq, e'⟩); omega)).mono ?_; rintro e w2 ⟨rfl, hh2, ho2⟩))
      go_end0
      refine ⟨rfl, acts_put HH.out.zb (HOn.out.setCell (HZ.out _ (Nat.le_refl _)) _) ((Below.heap_setCell _ _ _ _ (by show a ≠ w.heap.size; omega)).trans HEA.out) hab1 (by simp [World.setCell]; omega) hh2 ho2 ?_⟩
      rw [mapL_putL, appF, fileOf_some hg]
      rfl
end Go.Proofs.YtckmjmpajbjbkaaGreatDoor
