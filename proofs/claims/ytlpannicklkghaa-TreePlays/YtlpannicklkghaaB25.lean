/- Walks of layer 7: New with pairs. -/
import Derived.Test.YtlpannicklkghaaB24
import Derived.Test.YtlpannicklkghaaB20
namespace Go.Proofs.Ytlpannicklkghaa
open Go.RowKit

theorem TreeIs.kept {w w' : World} {Z : Nat → Prop} {t m : Nat} {ls : List (List Nd)} {l : List It} (h : TreeIs w Z t m ls l) (hk : ∀ k, k < w.heap.size → Z k → w'.heap[k]? = w.heap[k]?) (ht : w'.heap[t]? = w.heap[t]?) : TreeIs w' Z t m ls l := by
  obtain ⟨rb, h1, h2⟩ := h.some_
  exact ⟨⟨rb, h1.kept ht, h2⟩, h.hp.kept hk, h.wid, h.its, h.srt⟩
theorem TreeIs.lt {w : World} {Z : Nat → Prop} {t m : Nat} {ls : List (List Nd)} {l : List It} (h : TreeIs w Z t m ls l) : t < w.heap.size := by
  obtain ⟨rb, h1, h2⟩ := h.some_
  exact h1.lt
theorem TreeIs.later {w w' : World} {Z : Nat → Prop} {t m : Nat} {ls : List (List Nd)} {l : List It} (h : TreeIs w Z t m ls l) (hb : Below w.heap.size w w') : TreeIs w' Z t m ls l := h.kept (fun k hk _ => hb.block k hk) (hb.block t h.lt)
theorem TreeIs.mono {w : World} {Z Z' : Nat → Prop} {t m : Nat} {ls : List (List Nd)} {l : List It} (h : TreeIs w Z t m ls l) (hz : ∀ k, k < w.heap.size → Z k → Z' k) : TreeIs w Z' t m ls l := ⟨h.some_, h.hp.mono hz, h.wid, h.its, h.srt⟩
def itOf (p : Pr) : It := ⟨p.1, p.2, none⟩
theorem cntL_all {key : ByteArray} {l : List It} (h : ∀ x ∈ l, kl x.key key = true) : cntL key l = l.length := by
  have := cntL_append (key := key) (l := []) h
  rw [List.append_nil] at this
  rw [this]
  rfl
theorem putL_end {key val : ByteArray} {l : List It} (h : ∀ x ∈ l, kl x.key key = true) : putL key val l = l ++ [⟨key, val, none⟩] := by
  have e := cntL_all h
  unfold putL insL
  rw [foundL_no e, e]
  simp
theorem put_take {l : List Pr} (h : risB l = true) {k : Nat} (hk : k < l.length) : putL (l[k]).1 (l[k]).2 ((l.take k).map itOf) = (l.take (k + 1)).map itOf := by
  rw [putL_end (fun x hx => ?_), List.take_add_one, List.map_append, List.getElem?_eq_getElem hk]
  · rfl
  · obtain ⟨p, hp, rfl⟩ := List.mem_map.1 hx
    obtain ⟨i, hi, rfl⟩ := List.getElem_of_mem hp
    rw [List.length_take] at hi
    rw [List.getElem_take]
    exact List.pairwise_iff_getElem.1 (risB_srt h) i k (by omega) hk (by omega)

set_option maxHeartbeats 8000000 in
set_option maxRecDepth 100000 in
theorem new_flat (w : World) (m : Nat) (p : Option Addr) (cap : Nat) (l : List Pr) (hm : 4 ≤ m) (hm2 : m ≤ 64) (hr : PRow w p l) (hl : l.length ≤ 4000000000) (hn : risB l = false) :
    Calls Try.prog 11 #[.int .i64 (m : Int), .slice p l.length cap] w fun e w' => e = .returned (.tuple #[.pointer none, .int .i64 71]) ∧ Below w.heap.size w w' := by
  have HR := rising_any w p cap l hr (by omega)
  rw [hn] at HR
  have h1 : ¬ (m : Int) < 4 := by omega
  have h2 : ¬ (64 : Int) < (m : Int) := by omega
  go_enter Try.func11, Try.ntmps11
  go_wp2_with fail
  refine HR.mono ?_
  rintro e w1 ⟨rfl, hb1⟩
  go_wp2
  refine bodyPost_ret (v := .tuple #[.pointer none, .int .i64 71]) (by simp [results, Try.results11, go_sem]) rfl ?_
  exact ⟨rfl, hb1⟩
set_option maxHeartbeats 8000000 in
set_option maxRecDepth 100000 in
theorem new_any (w : World) (m : Nat) (p : Option Addr) (cap : Nat) (l : List Pr) (hm : 4 ≤ m) (hm2 : m ≤ 64) (hr : PRow w p l) (hl : l.length ≤ 4000000000) (hs : ∀ x ∈ l, x.1.size ≤ 281474976710656 ∧ x.2.size ≤ 281474976710656) (hn : risB l = true) :
    Calls Try.prog 11 #[.int .i64 (m : Int), .slice p l.length cap] w fun e w' => Below w.heap.size w w' ∧ ∃ t, e = .returned (.tuple #[.pointer (some ⟨t, 0, none⟩), .int .i64 0]) ∧ w.heap.size ≤ t ∧ ∃ ls, TreeIs w' (fun k => w.heap.size ≤ k) t m ls (l.map itOf) := by
  have HR := rising_any w p cap l hr (by omega)
  rw [hn] at HR
  have HP : Hid (PRow w p l ∧ risB l = true ∧ ∀ x ∈ l, x.1.size ≤ 281474976710656 ∧ x.2.size ≤ 281474976710656) := ⟨hr, hn, hs⟩
  clear hr hn hs
  have h1 : ¬ (m : Int) < 4 := by omega
  have h2 : ¬ (64 : Int) < (m : Int) := by omega
  go_enter Try.func11, Try.ntmps11
  go_wp2_with fail
  refine HR.mono ?_
  rintro e w1 ⟨rfl, hb1⟩
  have HM : Hid (∀ W, W = (w1.alloc (Obj.cells #[.slice none 0 0, .pointer none] 74)).alloc (Obj.cells #[.int .i64 (m : Int), .int .i64 0, .pointer (some ⟨w1.heap.size, 0, none⟩)] 76) → TreeIs W (fun k => w.heap.size ≤ k) (w1.heap.size + 1) m [[⟨w1.heap.size, .slice none 0 0, []⟩]] [] ∧ Below w.heap.size w W) := by
    rintro W rfl
    exact ⟨made_tree w1 _ m (fun k hk => Nat.le_trans hb1.size hk), (hb1.alloc hb1.size _).alloc (by simp; have := hb1.size; omega) _⟩
  obtain ⟨t, ht⟩ : ∃ t, w1.heap.size + 1 = t := ⟨_, rfl⟩
  have HT : Hid (w.heap.size ≤ t) := by have := hb1.size; show _ ≤ _; omega
  go_wp2_with fail
  go_loopw [27] (fun i wr => ∃ (k : Nat) (ls : List (List Nd)), k ≤ l.length ∧ i = .int .i64 (k : Int) ∧ TreeIs wr (fun k => w.heap.size ≤ k) (w1.heap.size + 1) m ls ((l.take k).map itOf) ∧ Below w.heap.size w wr) (fun i _ => l.length - (intOf i).toNat)
  case atStart => exact ⟨0, _, Nat.zero_le _, rfl, (HM.out _ rfl).1, (HM.out _ rfl).2⟩
  case round =>
    obtain ⟨k, ls, hk, rfl, htr, hb⟩ := hrel
    rw [ht]
    rw [ht] at htr
    have HTR : Hid (TreeIs wr (fun k => w.heap.size ≤ k) t m ls ((l.take k).map itOf)) := htr
    have HB : Hid (Below w.heap.size w wr) := hb
    have hbs := hb.size
    clear htr hb HM
    by_cases hlt : k < l.length
    · have hlti : (k : Int) < (l.length : Int) := by omega
      obtain ⟨b, off, rfl, c0, c1⟩ := (HP.out.1.later HB.out) k hlt
      obtain ⟨x, hx⟩ : ∃ x, l[k] = x := ⟨_, rfl⟩
      rw [hx] at c0 c1
      have HX : Hid (∀ h : k < l.length, l[k]'h = x) := fun _ => hx
      have HPU : Hid (∀ W, Below wr.heap.size wr W → Calls Try.prog 18 #[.pointer (some ⟨t, 0, none⟩), .string x.1, .string x.2] W fun e w' => (∃ a b, e = .returned (.tuple #[a, b])) ∧ Below w.heap.size w w' ∧ ∃ ls', TreeIs w' (fun k => w.heap.size ≤ k) t m ls' ((l.take (k + 1)).map itOf)) := by
        intro W hW
        have h1 : TreeIs W (fun k => w.heap.size ≤ k) t m ls ((l.take k).map itOf) := HTR.out.later hW
        have hxs := HP.out.2.2 x (by rw [← hx]; exact List.getElem_mem hlt)
        have hll : ((l.take k).map itOf).length ≤ 4000000000 := by simp; omega
        refine (tree_put W _ t m x.1 x.2 ls _ h1 (fun j hj => by have := hW.size; omega) (by have := h1.low hm (by omega); omega) hm hm2 hll hxs.1 hxs.2).mono ?_
        rintro e w' ⟨rfl, ho, ls', ht'⟩
        refine ⟨⟨_, _, rfl⟩, (HB.out.trans (hW.mono hbs)).trans (ho.below (by have := hW.size; omega) (fun j hj hz => ?_)), ls', ?_⟩
        · rcases hz with hz | hz
          · omega
          · have := HT.out; omega
        · rw [← put_take HP.out.2.1 hlt, hx]
          exact ht'
      clear hx HTR
      go_wp2_with fail
      refine (HPU.out _ ((Below.refl _ _).alloc (Nat.le_refl _) _)).mono ?_
      rintro e w5 ⟨⟨va, vb, rfl⟩, hb5, ls', ht5⟩
      go_wp2
      exact ⟨⟨k + 1, ls', hlt, by go_num, ht5, hb5⟩, by simp only [intOf]; omega⟩
    · have hlti : ¬ (k : Int) < (l.length : Int) := by omega
      obtain rfl : k = l.length := by omega
      go_wp2
      refine bodyPost_ret (v := .tuple #[.pointer (some ⟨t, 0, none⟩), .int .i64 0]) (by simp [results, Try.results11, go_sem]) rfl ?_
      refine ⟨HB.out, t, rfl, HT.out, ls, ?_⟩
      have := HTR.out
      rwa [List.take_length] at this
end Go.Proofs.Ytlpannicklkghaa
