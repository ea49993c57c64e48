/- Walks of layer 6, second part: names; what a log tells of itself. -/
import Derived.Test.YtckmjmpajbjbkaaGreatDoorJ1
namespace Go.Proofs.YtckmjmpajbjbkaaGreatDoor
open Go.RowKit

set_option maxHeartbeats 2000000 in
set_option maxRecDepth 100000 in
theorem end_any (p n cap : Nat) (q : Option Addr) (w : World) (hp : p ≤ 1000000000000) (hn : n ≤ 1000000000000) :
    Calls Tryz.prog 58 #[.agg #[.int .i64 (p : Int), .slice q n cap]] w fun e w' => e = .returned (.int .i64 ((p + n : Nat) : Int)) ∧ Below w.heap.size w w' := by
  go_enter Tryz.func58, Tryz.ntmps58
  go_wp2
  go_ret
  exact ⟨by go_num, by (repeat (first | exact Below.refl _ _ | assumption | refine Below.drew ?_ | refine below_drewN ?_ _ | refine Below.alloc ?_ (by first | omega | (simp; done) | (simp; omega)) _ | refine Below.setCell ?_ (by first | omega | (simp; done) | (simp; omega)) _ | refine Below.trans ?_ (Below.mono (by assumption) (by first | omega | (simp; done) | (simp; omega)))))⟩

set_option maxHeartbeats 2000000 in
set_option maxRecDepth 100000 in
theorem nameOf_any (n : Int) (w : World) (h : SV0 w) (h0 : -1000000000000 ≤ n) (h1 : n ≤ 1000000000000) :
    Calls Tryz.prog 85 #[.int .i64 n] w fun e w' => e = .returned (.string ⟨(nmOf n).toArray⟩) ∧ Below w.heap.size w w' := by
  have HS : Hid (SV0 w) := h
  clear h
  obtain ⟨s, hs⟩ : ∃ s : ByteArray, s = ⟨(Lib.itoa (1000000000000 + n)).toArray⟩ := ⟨_, rfl⟩
  have hsz : s.size = (Lib.itoa (1000000000000 + n)).length := by rw [hs]; simp [ByteArray.size]
  obtain ⟨hl, hu⟩ := itoa_len (n := 1000000000000 + n) (by omega) (by omega)
  rw [← hsz] at hl hu
  clear hsz
  have hli : (1 : Int) ≤ (s.size : Int) := by omega
  have HR : Hid (s = ⟨(Lib.itoa (1000000000000 + n)).toArray⟩) := hs
  clear hs
  go_enter Tryz.func85, Tryz.ntmps85
  go_wp2_with (first | (go_at_call 113; refine (itoa_any (1000000000000 + n) _ HS.out (by omega) (by omega)).mono ?_; rintro e w1 ⟨rfl, hb1⟩; rw [← HR.out]))
  go_ret
  refine ⟨congrArg (fun x => Ending.returned (.string x)) (ba_eq ?_), hb1⟩
  rw [ByteArray.data_append, Array.toList_append, extract_list, HR.out]
  rw [List.take_of_length_le (by simp [ByteArray.size])]
  simp [nmOf, pre4]

set_option maxHeartbeats 2000000 in
set_option maxRecDepth 100000 in
theorem name_any (p n cap : Nat) (q : Option Addr) (w : World) (h : SV0 w) (hp : p < 1000000000000) :
    Calls Tryz.prog 55 #[.agg #[.int .i64 (p : Int), .slice q n cap]] w fun e w' => e = .returned (.string ⟨(nameN p).toArray⟩) ∧ Below w.heap.size w w' := by
  have HS : Hid (∀ o, SV0 (w.alloc o)) := fun o => h.alloc o
  have HN : Hid (nmOf (p : Int) = nameN p) := nmOf_nat hp
  clear h
  go_enter Tryz.func55, Tryz.ntmps55
  go_wp2_with (first | (go_at_call 85; refine (nameOf_any (p : Int) _ (HS.out _) (by omega) (by omega)).mono ?_; rintro e w1 ⟨rfl, hb1⟩; rw [HN.out]))
  go_ret
  exact ⟨rfl, (((Below.refl _ _).alloc (Nat.le_refl _) _)).trans (hb1.mono (by simp))⟩

set_option maxHeartbeats 2000000 in
set_option maxRecDepth 100000 in
theorem last_any (w : World) (l b n cap : Nat) (c4 : w.cell? ⟨l, 4, none⟩ = some (.slice (some ⟨b, 0, none⟩) (n + 1) cap)) (hn : n ≤ 10000000000000) :
    Calls Tryz.prog 54 #[.pointer (some ⟨l, 0, none⟩)] w fun e w' => e = .returned (.pointer (some ⟨b, n * 2, none⟩)) ∧ Below w.heap.size w w' := by
  have hi0 : (0 : Int) ≤ ((n + 1 : Nat) : Int) - 1 := by omega
  have hi1 : ((n + 1 : Nat) : Int) - 1 < ((n + 1 : Nat) : Int) := by omega
  go_enter Tryz.func54, Tryz.ntmps54
  go_wp2
  go_region
  all_goals
    go_wp2
    go_ret
    exact ⟨by simp, by (repeat (first | exact Below.refl _ _ | assumption | refine Below.drew ?_ | refine below_drewN ?_ _ | refine Below.alloc ?_ (by first | omega | (simp; done) | (simp; omega)) _ | refine Below.setCell ?_ (by first | omega | (simp; done) | (simp; omega)) _ | refine Below.trans ?_ (Below.mono (by assumption) (by first | omega | (simp; done) | (simp; omega)))))⟩

/-- The last segment of a log that has one. -/
theorem LogAt.last {w : World} {Y : Nat → Prop} {l a : Nat} {g : Lg} {p : Option Addr} {cap : Nat} {A : List Ent} {x : Ent} (h : LogAt w Y l a g p cap (A ++ [x])) : ∃ b, p = some ⟨b, 0, none⟩ ∧ A.length + 1 ≤ cap ∧ cap ≤ maxLen ∧ Y b ∧ w.cell? ⟨b, A.length * 2, none⟩ = some (.int .i64 (x.1 : Int)) ∧ w.cell? ⟨b, A.length * 2 + 1, none⟩ = some x.2.2 ∧ (∀ o, w.frozen? ⟨b, o, none⟩ = false) ∧ w.cell? ⟨l, 4, none⟩ = some (.slice (some ⟨b, 0, none⟩) (A.length + 1) cap) := by
  obtain ⟨b, rfl, h1, h2, h3, h4, h5, h6⟩ := h.seg (i := A.length) (by simp)
  have c4 := h.lc.c4
  simp only [List.length_append, List.length_singleton] at h1 c4
  simp only [List.getElem_append_right (Nat.le_refl _), Nat.sub_self, List.getElem_cons_zero] at h4 h5
  exact ⟨b, rfl, h1, h2, h3, h4, h5, h6, c4⟩
theorem LogAt.next {w : World} {Y : Nat → Prop} {l a : Nat} {g : Lg} {p : Option Addr} {cap : Nat} {A : List Ent} {x : Ent} (h : LogAt w Y l a g p cap (A ++ [x])) : g.next = x.1 + x.2.1.length ∧ lastL g.segs = (x.1, x.2.1) ∧ g.segs = A.map Ent.sg ++ [(x.1, x.2.1)] := by
  have e : g.segs = A.map Ent.sg ++ [(x.1, x.2.1)] := by rw [h.segs]; simp [Ent.sg]
  exact ⟨by rw [Lg.next, e, nextL_snoc]; rfl, by rw [e, lastL_snoc], e⟩
theorem LogAt.many {w : World} {Y : Nat → Prop} {l a : Nat} {g : Lg} {p : Option Addr} {cap : Nat} {es : List Ent} (h : LogAt w Y l a g p cap es) (hg : LgW g) : es.length ≤ 2000000000064 := by
  have h1 := hg.many
  have h2 := hg.next_le
  rw [h.segs, List.length_map] at h1
  omega
theorem LogAt.lastok {w : World} {Y : Nat → Prop} {l a : Nat} {g : Lg} {p : Option Addr} {cap : Nat} {A : List Ent} {x : Ent} (h : LogAt w Y l a g p cap (A ++ [x])) (hg : LgW g) : x.1 < 1000000000000 ∧ x.2.1.length ≤ 1000000000000 ∧ A.length ≤ 10000000000000 := by
  have e := h.next.2.2
  have hm := h.many hg
  rw [List.length_append, List.length_singleton] at hm
  exact ⟨hg.low (x.1, x.2.1) (by rw [e]; simp), hg.few (x.1, x.2.1) (by rw [e]; simp), by omega⟩

set_option maxHeartbeats 2000000 in
set_option maxRecDepth 100000 in
theorem next_any (w : World) (Y : Nat → Prop) (l a : Nat) (g : Lg) (p : Option Addr) (cap : Nat) (es : List Ent) (h : LogAt w Y l a g p cap es) (hg : LgW g) :
    Calls Tryz.prog 20 #[.pointer (some ⟨l, 0, none⟩)] w fun e w' => e = .returned (.int .i64 (g.next : Int)) ∧ Below w.heap.size w w' := by
  have c2 := h.lc.c2
  rcases List.eq_nil_or_concat es with rfl | ⟨A, x, rfl⟩
  · have c4 := h.lc.c4
    have hn : g.next = g.frm := by rw [Lg.next, h.segs]; rfl
    rw [hn]
    clear h
    go_enter Tryz.func20, Tryz.ntmps20
    go_wp2
    go_ret
    exact ⟨rfl, by (repeat (first | exact Below.refl _ _ | assumption | refine Below.drew ?_ | refine below_drewN ?_ _ | refine Below.alloc ?_ (by first | omega | (simp; done) | (simp; omega)) _ | refine Below.setCell ?_ (by first | omega | (simp; done) | (simp; omega)) _ | refine Below.trans ?_ (Below.mono (by assumption) (by first | omega | (simp; done) | (simp; omega)))))⟩
  · rw [List.concat_eq_append] at h
    obtain ⟨hx1, hx2, hA⟩ := h.lastok hg
    obtain ⟨b, rfl, _, _, _, d0, d1, _, c4⟩ := h.last
    obtain ⟨q, c, eq, _⟩ := own_slice (h.recs x (by simp))
    rw [eq] at d1
    rw [h.next.1]
    clear h eq c2
    go_enter Tryz.func20, Tryz.ntmps20
    go_wp2_with (first | (go_at_call 54; refine (last_any _ l b A.length cap c4 hA).mono ?_; rintro e w1 ⟨rfl, hb1⟩; (have d01 := cell_later hb1 d0); (have d11 := cell_later hb1 d1)) | (go_at_call 58; refine (end_any x.1 x.2.1.length c q _ (by omega) hx2).mono ?_; rintro e w2 ⟨rfl, hb2⟩))
    go_ret
    exact ⟨rfl, hb1.trans (hb2.mono hb1.size)⟩

set_option maxHeartbeats 2000000 in
set_option maxRecDepth 100000 in
theorem base_any (w : World) (Y : Nat → Prop) (l a : Nat) (g : Lg) (p : Option Addr) (cap : Nat) (es : List Ent) (h : LogAt w Y l a g p cap es) (hg : LgW g) :
    Calls Tryz.prog 44 #[.pointer (some ⟨l, 0, none⟩)] w fun e w' => e = .returned (.int .i64 (g.base : Int)) ∧ Below w.heap.size w w' := by
  have c2 := h.lc.c2
  have c4 := h.lc.c4
  have hm := h.many hg
  cases es with
  | nil =>
    have hn : g.base = g.frm := by rw [Lg.base, h.segs]; rfl
    rw [hn]
    clear h
    go_enter Tryz.func44, Tryz.ntmps44
    go_wp2
    go_ret
    exact ⟨rfl, by (repeat (first | exact Below.refl _ _ | assumption | refine Below.drew ?_ | refine below_drewN ?_ _ | refine Below.alloc ?_ (by first | omega | (simp; done) | (simp; omega)) _ | refine Below.setCell ?_ (by first | omega | (simp; done) | (simp; omega)) _ | refine Below.trans ?_ (Below.mono (by assumption) (by first | omega | (simp; done) | (simp; omega)))))⟩
  | cons x r =>
    obtain ⟨b, rfl, _, _, _, d0, _⟩ := h.seg (i := 0) (by simp)
    have hn : g.base = x.1 := by rw [Lg.base, h.segs]; rfl
    rw [hn]
    simp only [List.length_cons] at c4 hm
    simp only [Nat.zero_mul, List.getElem_cons_zero] at d0
    have hl : (r.length : Int) + 1 ≠ 0 := by omega
    have hl2 : (0 : Int) < (r.length : Int) + 1 := by omega
    clear h
    go_enter Tryz.func44, Tryz.ntmps44
    go_wp2
    go_ret
    exact ⟨rfl, by (repeat (first | exact Below.refl _ _ | assumption | refine Below.drew ?_ | refine below_drewN ?_ _ | refine Below.alloc ?_ (by first | omega | (simp; done) | (simp; omega)) _ | refine Below.setCell ?_ (by first | omega | (simp; done) | (simp; omega)) _ | refine Below.trans ?_ (Below.mono (by assumption) (by first | omega | (simp; done) | (simp; omega)))))⟩

theorem safe_any (w : World) (Y : Nat → Prop) (l a : Nat) (g : Lg) (p : Option Addr) (cap : Nat) (es : List Ent) (h : LogAt w Y l a g p cap es) :
    Calls Tryz.prog 24 #[.pointer (some ⟨l, 0, none⟩)] w fun e w' => e = .returned (.int .i64 (g.safe : Int)) ∧ Below w.heap.size w w' := by
  have c3 := h.lc.c3
  clear h
  go_enter Tryz.func24, Tryz.ntmps24
  go_wp2
  go_ret
  exact ⟨rfl, by (repeat (first | exact Below.refl _ _ | assumption | refine Below.drew ?_ | refine below_drewN ?_ _ | refine Below.alloc ?_ (by first | omega | (simp; done) | (simp; omega)) _ | refine Below.setCell ?_ (by first | omega | (simp; done) | (simp; omega)) _ | refine Below.trans ?_ (Below.mono (by assumption) (by first | omega | (simp; done) | (simp; omega)))))⟩
end Go.Proofs.YtckmjmpajbjbkaaGreatDoor
