/- Walks of layer 8: what a reader tells. -/
import Derived.Test.YtkgkkcefnonejaaGreatT30
namespace Go.Proofs.YtkgkkcefnonejaaGreat
open Go.RowKit

/-- What is told of a text; what is asked of the reader's text. -/
def TxP (r : Nat) (s : ByteArray) (w : World) (e : Ending) (w' : World) : Prop := ∃ (x s' : ByteArray), e = .returned (.string x) ∧ x.size ≤ 1000 ∧ Rdr w' r s' ∧ s'.size ≤ s.size ∧ Rd txt (fun x => x.size ≤ 1000) (bs s) x (bs s') ∧ Only (fun k => k = r) w w'
def TextSpec : Prop := ∀ (r : Nat) (s : ByteArray) (w : World), Rdr w r s → s.size ≤ 2147483648 → Calls Tryz.prog 94 #[.pointer (some ⟨r, 0, none⟩)] w (TxP r s w)
/-- What is told of a bool, of a number. -/
def BoP (r : Nat) (s : ByteArray) (w : World) (e : Ending) (w' : World) : Prop := ∃ (x : Bool) (s' : ByteArray), e = .returned (.bool x) ∧ Rdr w' r s' ∧ s'.size ≤ s.size ∧ Rd flag (fun _ => True) (bs s) x (bs s') ∧ Only (fun k => k = r) w w'
def InP (r : Nat) (s : ByteArray) (M : Nat) (w : World) (e : Ending) (w' : World) : Prop := ∃ (x : Int) (s' : ByteArray), e = .returned (.int .i64 x) ∧ (0 ≤ x ∧ x ≤ (M : Int)) ∧ Rdr w' r s' ∧ s'.size ≤ s.size ∧ Rd numI (fun x => 0 ≤ x ∧ x ≤ (M : Int)) (bs s) x (bs s') ∧ Only (fun k => k = r) w w'
theorem InP.of {r : Nat} {s : ByteArray} {M : Nat} {w w' : World} {e : Ending} (hM : M < 2097152) (h : UpP r s M w e w') : InP r s M w e w' := by
  obtain ⟨n, s', rfl, h1, h2, h3, h4, h5⟩ := h
  refine ⟨(n : Int), s', rfl, ⟨by omega, by omega⟩, h2, h3, fun x y hx e => ?_, h5⟩
  obtain ⟨e1, e2⟩ := h4 x.toNat y ⟨by omega, by omega⟩ e
  exact ⟨by omega, e2⟩
theorem truth_any (r : Nat) (s : ByteArray) (w : World) (h : Rdr w r s) (hs : s.size ≤ 2147483648) : Calls Tryz.prog 139 #[.pointer (some ⟨r, 0, none⟩)] w (BoP r s w) := by
  go_enter Tryz.func139, Tryz.ntmps139
  go_wp2_with fail
  refine (upTo_any r s 1 w h hs (by omega)).mono ?_
  rintro e w1 ⟨n, s', rfl, h1, h2, h3, h4, h5⟩
  have HP : Hid (∀ b : Bool, b = decide (n = 1) → BoP r s w (.returned (.bool b)) w1) := by
    intro b hb
    refine ⟨b, s', rfl, h2, h3, fun x y _ e => ?_, h5⟩
    rw [flag_num] at e
    obtain ⟨e1, e2⟩ := h4 _ y ⟨by split <;> omega, by split <;> omega⟩ e
    refine ⟨?_, e2⟩
    rw [hb, e1]
    cases x <;> rfl
  have hn : ((n : Int) == 1) = decide (n = 1) := by
    rw [Bool.eq_iff_iff]
    simp
    omega
  clear h2 h3 h4 h5
  go_wp2
  go_ret
  exact HP.out _ rfl

theorem kind_any (r : Nat) (s : ByteArray) (w : World) (h : Rdr w r s) (hs : s.size ≤ 2147483648) : Calls Tryz.prog 138 #[.pointer (some ⟨r, 0, none⟩)] w (InP r s 3 w) := by
  go_enter Tryz.func138, Tryz.ntmps138
  go_wp2_with fail
  refine (upTo_any r s 3 w h hs (by omega)).mono ?_
  intro e w1 hP
  have HP := Lib.hid (InP.of (by omega) hP)
  obtain ⟨n, s', rfl, -⟩ := hP
  go_wp2
  go_ret
  exact HP.out

theorem place_any (r : Nat) (s : ByteArray) (w : World) (h : Rdr w r s) (hs : s.size ≤ 2147483648) : Calls Tryz.prog 98 #[.pointer (some ⟨r, 0, none⟩)] w (InP r s 16 w) := by
  go_enter Tryz.func98, Tryz.ntmps98
  go_wp2_with fail
  refine (upTo_any r s 16 w h hs (by omega)).mono ?_
  intro e w1 hP
  have HP := Lib.hid (InP.of (by omega) hP)
  obtain ⟨n, s', rfl, -⟩ := hP
  go_wp2
  go_ret
  exact HP.out

/-- A reader's step keeps blocks of other types. -/
theorem Keeps.only {S : List TypeId} {B : Nat} {w w' : World} {r : Nat} {cs : Array Value} {t : TypeId} {fr : Nat × Nat} (h : w.heap[r]? = some (.cells cs t fr)) (ho : Only (fun k => k = r) w w') (ht : t ∉ S) : Keeps S B w w' := by
  intro g cur t' ht' _ hg
  refine (ho.block g (Array.getElem?_eq_some_iff.1 hg).1 fun e => ?_).trans hg
  have e : g = r := e
  rw [e, h] at hg
  simp only [Option.some.injEq, Obj.cells.injEq] at hg
  exact ht (hg.2.1 ▸ ht')
theorem own_only {w w' : World} {B : Nat} {e : TypeId} {size : Nat} {v : Value} {n : Nat} {xs : List Value} (h : w.ownsRow B e size v n xs) {r : Nat} {cs : Array Value} {t : TypeId} {fr : Nat × Nat} (hr : w.heap[r]? = some (.cells cs t fr)) (ho : Only (fun k => k = r) w w') (ht : t ≠ e) : w'.ownsRow B e size v n xs := by
  refine own_kept h fun g hg => ho.block g (h.lt g hg).2 fun e1 => ?_
  have e1 : g = r := e1
  obtain ⟨cur, hh⟩ := own_block h hg
  rw [e1, hr] at hh
  simp only [Option.some.injEq, Obj.cells.injEq] at hh
  exact ht hh.2.1
theorem only_base {w w' : World} {r : Nat} (h : Only (fun k => k = r ∨ w.heap.size ≤ k) w w') : Only (fun k => k = r) w w' := ⟨h.os, h.tape, h.output, h.size, fun k hk hz => h.block k hk fun e => by
  rcases e with e | e
  · exact hz e
  · omega⟩
/-- What was read of a list so far. -/
theorem rd_start {α : Type} {f : α → List UInt8} {ok : α → Prop} {M : Nat} {s s1 : List UInt8} {n : Nat} (hM : M < 2097152) (h : Rd num (fun m => m ≤ M ∧ m < 2097152) s n s1) : ∀ L y, (L.length ≤ M ∧ ∀ x ∈ L, ok x) → s = lst f L ++ y → n = L.length ∧ ([] : List α) = L.take 0 ∧ s1 = (L.drop 0).flatMap f ++ y := by
  intro L y hL e
  rw [lst, List.append_assoc] at e
  obtain ⟨e1, e2⟩ := h _ _ ⟨hL.1, by omega⟩ e
  exact ⟨e1, rfl, e2⟩
theorem rd_step {α : Type} {f : α → List UInt8} {ok : α → Prop} {s s1 s2 : List UInt8} {n k M : Nat} {l : List α} {x : α} (hk : k < n)
    (h : ∀ L y, (L.length ≤ M ∧ ∀ x ∈ L, ok x) → s = lst f L ++ y → n = L.length ∧ l = L.take k ∧ s1 = (L.drop k).flatMap f ++ y) (hx : Rd f ok s1 x s2) :
    ∀ L y, (L.length ≤ M ∧ ∀ x ∈ L, ok x) → s = lst f L ++ y → n = L.length ∧ l ++ [x] = L.take (k + 1) ∧ s2 = (L.drop (k + 1)).flatMap f ++ y := by
  intro L y hL e
  obtain ⟨e1, e2, e3⟩ := h L y hL e
  have hkl : k < L.length := by omega
  rw [List.drop_eq_getElem_cons hkl, List.flatMap_cons, List.append_assoc] at e3
  obtain ⟨g1, g2⟩ := hx _ _ (hL.2 _ (List.getElem_mem hkl)) e3
  exact ⟨e1, by rw [e2, g1, take_snoc L k hkl], g2⟩
theorem rd_end {α : Type} {f : α → List UInt8} {ok : α → Prop} {s s1 : List UInt8} {n M : Nat} {l : List α}
    (h : ∀ L y, (L.length ≤ M ∧ ∀ x ∈ L, ok x) → s = lst f L ++ y → n = L.length ∧ l = L.take n ∧ s1 = (L.drop n).flatMap f ++ y) : Rd (lst f) (fun L => L.length ≤ M ∧ ∀ x ∈ L, ok x) s l s1 := by
  intro L y hL e
  obtain ⟨e1, e2, e3⟩ := h L y hL e
  subst e1
  rw [List.take_length] at e2
  rw [List.drop_length] at e3
  exact ⟨e2, by simpa using e3⟩
end Go.Proofs.YtkgkkcefnonejaaGreat
