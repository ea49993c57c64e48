/- Walks of layer 7: Seek and Next. -/
import Derived.Test.YtlpannicklkghaaB25
namespace Go.Proofs.Ytlpannicklkghaa
open Go.RowKit

/-- A cursor in memory. -/
structure CurAt (w : World) (c t : Nat) (frm : ByteArray) : Prop where
  cells : w.heap[c]? = some (.cells #[.pointer (some ⟨t, 0, none⟩), .string frm] 98 (0, 0))
theorem CurAt.lt {w : World} {c t : Nat} {frm : ByteArray} (h : CurAt w c t frm) : c < w.heap.size := (Array.getElem?_eq_some_iff.1 h.cells).1
theorem CurAt.kept {w w' : World} {c t : Nat} {frm : ByteArray} (h : CurAt w c t frm) (hk : w'.heap[c]? = w.heap[c]?) : CurAt w' c t frm := ⟨hk.trans h.cells⟩
theorem CurAt.later {w w' : World} {c t : Nat} {frm : ByteArray} (h : CurAt w c t frm) (hb : Below w.heap.size w w') : CurAt w' c t frm := h.kept (hb.block _ h.lt)
set_option maxHeartbeats 4000000 in
set_option maxRecDepth 100000 in
theorem seek_any (w : World) (t : Nat) (frm : ByteArray) (hs : frm.size ≤ 281474976710656) :
    Calls Try.prog 24 #[.pointer (some ⟨t, 0, none⟩), .string frm] w fun e w' => Below w.heap.size w w' ∧ ∃ c, e = .returned (.pointer (some ⟨c, 0, none⟩)) ∧ w.heap.size ≤ c ∧ CurAt w' c t frm := by
  go_enter Try.func24, Try.ntmps24
  go_wp2_with fail
  refine (clone_any frm w hs).mono ?_
  rintro e w1 ⟨rfl, hb1⟩
  go_wp2
  go_ret
  exact ⟨hb1.alloc hb1.size _, w1.heap.size, rfl, hb1.size, ⟨heap_alloc_new w1 _⟩⟩
def nextK (k : ByteArray) : ByteArray := k ++ ⟨#[0]⟩
/-- What Next answers. -/
def nextV : List It → Value
  | [] => .tuple #[.string ⟨#[]⟩, .string ⟨#[]⟩, .bool false]
  | x :: _ => .tuple #[.string x.key, .string x.val, .bool true]
def nextF (frm : ByteArray) : List It → ByteArray
  | [] => frm
  | x :: _ => nextK x.key
set_option maxHeartbeats 8000000 in
set_option maxRecDepth 100000 in
theorem next_any (w : World) (Z : Nat → Prop) (c t m : Nat) (frm : ByteArray) (ls : List (List Nd)) (l : List It) (hc : CurAt w c t frm) (h : TreeIs w Z t m ls l) (hm : 4 ≤ m) (hm2 : m ≤ 64) (hl : l.length ≤ 4000000000) (hs : ∀ y ∈ l, y.key.size ≤ 281474976710656 ∧ y.val.size ≤ 281474976710656) :
    Calls Try.prog 25 #[.pointer (some ⟨c, 0, none⟩)] w fun e w' => Only (fun k => k = c) w w' ∧ e = .returned (nextV (l.drop (cntL frm l))) ∧ CurAt w' c t (nextF frm (l.drop (cntL frm l))) := by
  have HF : Hid (∀ w0, Below w.heap.size w w0 → Calls Try.prog 40 #[.pointer (some ⟨t, 0, none⟩), .string frm] w0 fun e w' => Below w0.heap.size w0 w' ∧ ∃ q i, Spot ls q i (l.drop (cntL frm l)) ∧ i ≤ 64 ∧ e = .returned (.tuple #[.pointer q, .int .i64 (i : Int)])) := fun w0 hb => tree_first w0 Z t m frm ls l (h.later hb) hm hm2 (by omega)
  have HT : Hid (Hp w Z (allX ls) ∧ (∀ x ∈ allX ls, x.1.its.length ≤ 64) ∧ ∀ y ∈ l, y.key.size ≤ 281474976710656 ∧ y.val.size ≤ 281474976710656) := ⟨h.hp, fun x hx => by have := wlv_le h.wid x hx; omega, hs⟩
  have HC : Hid (CurAt w c t frm) := hc
  have c0 : w.cell? ⟨c, 0, none⟩ = some (.pointer (some ⟨t, 0, none⟩)) := by simp [World.cell?, hc.cells]
  have c1 : w.cell? ⟨c, 1, none⟩ = some (.string frm) := by simp [World.cell?, hc.cells]
  clear h hs hc
  go_enter Try.func25, Try.ntmps25
  go_wp2_with fail
  go_region_law (first
    | (go_simp; go_at_call 40; refine (HF.out _ (by first | exact Below.refl _ _ | exact (Below.refl _ _).drew | exact below_drewN (Below.refl _ _) _)).mono ?_; rintro e w1 ⟨hb1, q, i, hsp, hi, rfl⟩))
  all_goals
    have hbw : Below w.heap.size w w1 := by first | exact hb1 | exact (Below.refl _ _).drew.trans (hb1.mono (Nat.le_refl _)) | exact (below_drewN (Below.refl _ _) _).trans (hb1.mono (Nat.le_refl _))
    rcases hsp with ⟨rfl, hr⟩ | ⟨A, n, C, hlast, hin, rfl, hr⟩
    · go_wp2
      refine bodyPost_ret (v := .tuple #[.string ⟨#[]⟩, .string ⟨#[]⟩, .bool false]) (by simp [results, Try.results25, go_sem]) rfl ?_
      rw [hr]
      exact ⟨Only.of hbw, rfl, HC.out.later hbw⟩
    · have hnd : NdAt w1 n (hd C none) := (HT.out.1.at_ _ (last_mem hlast)).later hbw
      have hn64 : n.its.length ≤ 64 := HT.out.2.1 _ (last_mem hlast)
      have d0 := hnd.nc.c0
      obtain ⟨g, gc, ev, _, _, _, hcc, _⟩ := irow_at hnd.row (by omega)
      rw [ev] at d0
      obtain ⟨ck, cv, cp⟩ := hcc i hin
      obtain ⟨x, hx⟩ : ∃ x, n.its[i] = x := ⟨_, rfl⟩
      rw [hx] at ck cv cp
      have hrx : l.drop (cntL frm l) = x :: (n.its.drop (i + 1) ++ C.flatMap (·.its)) := by rw [hr, List.drop_eq_getElem_cons hin, hx]; rfl
      obtain ⟨hks, hvs⟩ := HT.out.2.2 x (List.mem_of_mem_drop (i := cntL frm l) (by rw [hrx]; simp))
      have HR : Hid (l.drop (cntL frm l) = x :: (n.its.drop (i + 1) ++ C.flatMap (·.its))) := hrx
      have HBW : Hid (Below w.heap.size w w1) := hbw
      obtain ⟨b, hb⟩ : ∃ b, n.b = b := ⟨_, rfl⟩
      obtain ⟨nl, hnl⟩ : ∃ nl, n.its.length = nl := ⟨_, rfl⟩
      rw [hb, hnl] at d0
      rw [hnl] at hin hn64
      rw [hb]
      have hini : (i : Int) < (nl : Int) := by omega
      have HPR := pair_any x.key x.val (Option.map (fun b => { block := b, off := 0 }) x.kid) w1 hks hvs
      clear hlast hcc ev hx hr hrx hnd hb hnl hbw
      go_wp2_with fail
      refine HPR.mono ?_
      rintro e w4 ⟨rfl, hb4⟩
      have hb5 : Below w.heap.size w w4 := below_two HBW.out hb4
      have HB5 : Hid (Below w.heap.size w w4) := hb5
      have hcl := HC.out.lt
      have hcl4 : c < w4.heap.size := Nat.lt_of_lt_of_le hcl hb5.size
      have hcc := (HC.out.later hb5).cells
      have e1 : (w4.alloc (Obj.cells #[.string x.key, .string x.val] 27)).cell? ⟨c, 1, none⟩ = some (.string frm) := by
        have := (Below.heap_alloc w4 (Obj.cells #[.string x.key, .string x.val] 27) c hcl4).trans hcc
        simp [World.cell?, this]
      have e2 : (w4.alloc (Obj.cells #[.string x.key, .string x.val] 27)).frozen? ⟨c, 1, none⟩ = false := by
        have := (Below.heap_alloc w4 (Obj.cells #[.string x.key, .string x.val] 27) c hcl4).trans hcc
        simp [World.frozen?, this]
      have hne : ¬ w4.heap.size = c := by omega
      have hne2 : ¬ c = w4.heap.size := by omega
      clear hcc hb5
      go_wp2_with fail
      go_quiet (fail)
      go_wp2
      refine bodyPost_ret (v := .tuple #[.string x.key, .string x.val, .bool true]) (by simp [results, Try.results25, go_sem]) rfl ?_
      rw [HR.out]
      refine ⟨((((Only.of HB5.out : Only (fun k => k = c) w w4)).setCell (p := ⟨c, 1, none⟩) rfl _).alloc _).later (below_drewN (Below.refl _ _) _), rfl, ⟨?_⟩⟩
      show ((w4.setCell ⟨c, 1, none⟩ _).alloc _).heap[c]? = _
      rw [Below.heap_alloc _ _ _ (by simp [World.setCell]; omega), heap_setCell_at (HC.out.later HB5.out).cells]
      simp [nextF, nextK]
end Go.Proofs.Ytlpannicklkghaa
