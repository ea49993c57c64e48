/- Walks of layer 5, seventh part: the program's All; are two lists alike? -/
import Derived.Test.YtckmjmpajbjbkaaGreatDoorH6
namespace Go.Proofs.YtckmjmpajbjbkaaGreatDoor
open Go.RowKit

set_option maxHeartbeats 4000000 in
set_option maxRecDepth 100000 in
theorem all_any (s : ByteArray) (w : World) (hs : s.size ≤ 4294967296) :
    Calls Tryz.prog 23 #[.string s] w (AR s w) := by
  obtain ⟨i0, hi, hz0, hz1, hz2⟩ := info_parts Tryz.info9
  go_enter Tryz.func23, Tryz.ntmps23
  go_wp2
  go_loopw [5] (fun v wr => ∃ (n : Nat) (ds : List (List UInt8)), Part s ds n ∧ wr.ownsRow (w.heap.size + 1) 9 1 v ds.length (sv ds) ∧ Cur wr w.heap.size s n ∧ Below w.heap.size w wr) (fun v _ => s.size + 1 - lenV v)
  case atStart => exact ⟨0, [], Part.first s, World.ownsRow_nil _ _ _ _, cur_new w s 0 _, (Below.refl _ _).alloc (Nat.le_refl _) _⟩
  case round =>
    obtain ⟨n, ds, hp, hown, hcur, hb⟩ := hrel
    have hsz := hb.size
    have HP : Hid (Part s ds n) := hp
    have hns := hp.le
    have hcount := hp.count
    have hgl := hcur.lt
    clear hp
    go_wp2_with fail
    refine (frame_any wr w.heap.size n s hcur hns (by omega)).mono ?_
    rintro e w1 ⟨rfl, hc1, ho1⟩
    have hown1 := fown_kept hown fun k hk1 hk => ho1.block k hk (fun e => by have : k = w.heap.size := e; omega)
    have hbb1 : Below w.heap.size w w1 := only_below hb ho1 (by omega)
    have hsz1 := ho1.size
    have hlenv := own_len hown
    clear hb ho1 hown hcur
    cases hr : rd (s.data.toList.drop n) with
    | none =>
      rw [hr] at hc1
      have d1 : w1.cell? ⟨w.heap.size, 1, none⟩ = some (.int .i64 (n : Int)) := hc1.place
      have HD : Hid (AllIs s.data.toList ds n) := HP.out.done hr
      simp only [Option.isSome_none, rdS]
      clear hc1 hr
      have HO : Hid (w1.ownsRow (w.heap.size + 1) 9 1 u5 ds.length (sv ds)) := hown1
      have HBB : Hid (Below w.heap.size w w1) := hbb1
      clear hown1 hbb1
      go_wp2
      go_quiet (fail)
      go_wp2
      exact bodyPost_ret (v := .tuple #[u5, .int .i64 (n : Int)]) (by simp [results, Tryz.results23, go_sem]) rfl ⟨_, ds, n, rfl, HD.out, own_mono (fown_kept HO.out fun k _ hk => rfl) (by omega), HBB.out.trans (by (repeat (first | exact Below.refl _ _ | assumption | refine Below.drew ?_ | refine below_drewN ?_ _ | refine Below.alloc ?_ (by first | omega | (simp; done) | (simp; omega)) _ | refine Below.setCell ?_ (by first | omega | (simp; done) | (simp; omega)) _ | refine Below.trans ?_ (Below.mono (by assumption) (by first | omega | (simp; done) | (simp; omega))))))⟩
    | some d =>
      rw [hr] at hc1
      have HN : Hid (Part s (ds ++ [d]) (n + (6 + d.length))) := HP.out.next hr
      have hc1' : Cur w1 w.heap.size s (n + (6 + d.length)) := hc1
      obtain ⟨N, hN⟩ : ∃ N, n + (6 + d.length) = N := ⟨_, rfl⟩
      rw [hN] at HN hc1'
      have HCU : Hid (Cur w1 w.heap.size s N) := hc1'
      obtain ⟨t, ht⟩ : ∃ t : ByteArray, t = rdS (some d) := ⟨_, rfl⟩
      simp only [Option.isSome_some]
      rw [← ht]
      have HT : Hid (t = ba d) := ht
      clear hN hr ht hc1 hc1'
      have hlt := hown1.lt
      go_wp2_with (first | (at_builtin; refine wpList_append_own _ rfl _ _ 44 rfl (w.heap.size + 1) 9 i0 (.string ⟨#[]⟩) 1 16 Tryz.underlying44 hi hz0 hz1 hz2 rfl (by decide) _ _ _ rfl (hown1.alloc _) ⟨w1.heap.size, 0, none⟩ 1 1 (sv [d]) rfl rfl ?c1 ?c2 ?c3 ?c4 ?c5 ?_))
      case c1 => exact str1 w1 _ _ _ HT.out
      case c2 => exact sv_one _
      case c3 => unfold maxLen; omega
      case c4 => omega
      case c5 => first | omega | (simp; omega)
      · intro v' w2 hown' hgrow _
        have hbb : Below w.heap.size w w2 := (hbb1.alloc (by omega) _).grown hgrow (by simp; omega) fun k hk => by have := (hlt k hk).1; omega
        have hcu2 : Cur w2 w.heap.size s N := (HCU.out.later ((Below.refl _ _).alloc (Nat.le_refl _) (.cells #[.string t] 9))).kept (hgrow.block _ (by simp; omega) fun e => by have := (hlt _ e.symm).1; omega)
        rw [← sv_append] at hown'
        have hl' := own_len hown'
        clear hgrow hown1 hlt
        go_wp2
        go_roundw
        case rel => exact ⟨N, ds ++ [d], HN.out, by simpa using hown', hcu2, hbb⟩
        case measure => rw [hl', hlenv]; omega

/-- Texts in a slice. -/
def Strs (w : World) (p : Option Addr) (l : List ByteArray) : Prop := ∀ i (h : i < l.length), ∃ b off, p = some ⟨b, off, none⟩ ∧ w.cell? ⟨b, off + i, none⟩ = some (.string l[i])
theorem Strs.later {w w' : World} {p : Option Addr} {l : List ByteArray} (h : Strs w p l) (hb : Below w.heap.size w w') : Strs w' p l := fun i hi => by
  obtain ⟨b, off, e, hc⟩ := h i hi
  exact ⟨b, off, e, cell_later hb hc⟩
theorem own_strs {w : World} {B : Nat} {v : Value} {n : Nat} {ds : List (List UInt8)} (h : w.ownsRow B 9 1 v n (sv ds)) : ∃ p cap, v = .slice p ds.length cap ∧ Strs w p (ds.map ba) := by
  have hc := fun g => h.cells (g := g)
  obtain ⟨h1, ⟨rfl, h0⟩ | ⟨g, cap, cur, rfl, _⟩⟩ := h
  · rw [sv_length] at h1
    obtain rfl : ds = [] := List.eq_nil_of_length_eq_zero (by omega)
    exact ⟨none, 0, rfl, fun i hi => absurd hi (by simp)⟩
  · rw [sv_length] at h1
    have hn : n = ds.length := by omega
    subst hn
    refine ⟨_, cap, rfl, fun i hi => ⟨g, 0, rfl, ?_⟩⟩
    have hi' : i < ds.length := by simpa using hi
    have := hc g rfl i (.string (ba ds[i])) (by simp [sv, hi'])
    rw [Addr.add_lit, Nat.zero_add] at this
    rw [Nat.zero_add, this]
    simp

def eqS (us vs : List ByteArray) : Bool := decide (us = vs)
theorem eqS_iff {us vs : List ByteArray} : eqS us vs = true ↔ us = vs := by simp [eqS]
theorem eqS_len {us vs : List ByteArray} (h : us.length ≠ vs.length) : eqS us vs = false := by
  cases e : eqS us vs with
  | false => rfl
  | true => rw [eqS_iff.1 e] at h; exact absurd rfl h
theorem eqS_at {us vs : List ByteArray} (k : Nat) (h : k < us.length) (h' : k < vs.length) (g : us[k] ≠ vs[k]) : eqS us vs = false := by
  cases e : eqS us vs with
  | false => rfl
  | true => exfalso; have := eqS_iff.1 e; subst this; exact g rfl
theorem eqS_all {us vs : List ByteArray} (h : us.length = vs.length) (g : ∀ k (h : k < us.length) (h' : k < vs.length), us[k] = vs[k]) : eqS us vs = true := eqS_iff.2 (List.ext_getElem h g)
theorem upto2 {n m k : Nat} {p : (j : Nat) → j < n → j < m → Prop} (h : ∀ j (g : j < n) (g' : j < m), j < k → p j g g') {hlt : k < n} {hlt' : k < m} (e : p k hlt hlt') : ∀ j (g : j < n) (g' : j < m), j < k + 1 → p j g g' := by
  intro j g g' hj
  by_cases hjk : j = k
  · subst hjk; exact e
  · exact h j g g' (by omega)

end Go.Proofs.YtckmjmpajbjbkaaGreatDoor
