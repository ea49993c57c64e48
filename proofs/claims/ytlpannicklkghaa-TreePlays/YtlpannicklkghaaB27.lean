/- Walks of layer 7: Delete of a key that is not there. -/
import Derived.Test.YtlpannicklkghaaB19
import Derived.Test.YtlpannicklkghaaB24
namespace Go.Proofs.Ytlpannicklkghaa
open Go.RowKit

set_option maxHeartbeats 4000000 in
set_option maxRecDepth 100000 in
theorem tree_del_none (w : World) (Z : Nat → Prop) (t m : Nat) (key : ByteArray) (ls : List (List Nd)) (l : List It) (h : TreeIs w Z t m ls l) (hm : 4 ≤ m) (hm2 : m ≤ 64) (hl : l.length ≤ 4000000000) (hnf : foundL key l = false) :
    Calls Try.prog 17 #[.pointer (some ⟨t, 0, none⟩), .string key] w fun e w' => Below w.heap.size w w' ∧ e = .returned (.tuple #[.string ⟨#[]⟩, .bool false]) := by
  obtain ⟨rb, ht, hg⟩ := h.some_
  have HD : Hid (Calls Try.prog 32 #[.pointer (some ⟨t, 0, none⟩), .string key] w (DescP w t key ls rb)) := descend_any w Z t rb key ls h.hp ht.c2 hg (by have := h.low hm (by omega); omega) (fun x hx => by have := wlv_le h.wid x hx; omega)
  have HW : Hid (TreeIs w Z t m ls l ∧ foundL key l = false) := ⟨h, hnf⟩
  clear ht hg h hnf
  go_enter Try.func17, Try.ntmps17
  go_wp2_with fail
  refine HD.out.mono ?_
  rintro e w1 ⟨v, rs, A, n, C, rfl, hinv⟩
  have hpu := hinv.pure
  have hmem := hpu.at_
  have hnl : n.its.length ≤ m := wlv_le HW.out.1.wid _ hmem
  have hnd : NdAt w1 n (hd C none) := (HW.out.1.hp.at_ _ hmem).later hinv.below
  have HF0 := find_any w1 n (hd C none) key hnd hinv.srt (by omega)
  rw [← hpu.found, HW.out.1.its, HW.out.2] at HF0
  have HF : Hid (Calls Try.prog 33 #[.pointer (some ⟨n.b, 0, none⟩), .string key] w1 fun e w' => e = .returned (.tuple #[.int .i64 (cntL key n.its : Int), .bool false]) ∧ Below w1.heap.size w1 w') := HF0
  have HB : Hid (Below w.heap.size w w1) := hinv.below
  clear hinv hpu hmem hnl hnd HF0
  go_wp2_with fail
  refine HF.out.mono ?_
  rintro e w2 ⟨rfl, hb2⟩
  go_wp2
  refine bodyPost_ret (v := .tuple #[.string ⟨#[]⟩, .bool false]) (by simp [results, Try.results17, go_sem]) rfl ?_
  exact ⟨below_two HB.out hb2, rfl⟩
end Go.Proofs.Ytlpannicklkghaa
