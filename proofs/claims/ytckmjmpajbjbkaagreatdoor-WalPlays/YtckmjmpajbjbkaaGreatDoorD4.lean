/- Walks of layer 4, fourth part: put. -/
import Derived.Test.YtckmjmpajbjbkaaGreatDoorD3
namespace Go.Proofs.YtckmjmpajbjbkaaGreatDoor
open Go.RowKit

set_option maxHeartbeats 4000000 in
set_option maxRecDepth 100000 in
theorem put_any (w : World) (Z : Nat → Prop) (a b : Nat) (es : List (Nm × Fil)) (s : ByteArray) (dat : List UInt8) (safe : Nat) (p : Option Addr) (n cap : Nat) (c0 : w.cell? ⟨a, 0, none⟩ = some (.map (some b))) (h : Held w Z b es) (hs : s.size ≤ 1099511627776) (hl : es.length < 1000)
    (hf : ownB w (.slice p n cap) dat) (hz : ∀ g, (Value.slice p n cap).ownBlock = some g → Z g) (ha : ∀ g, (Value.slice p n cap).ownBlock = some g → ∀ q ∈ es, q.2.v.ownBlock = some g → q.1 = s.data.toList) :
    Calls Tryz.prog 29 #[.pointer (some ⟨a, 0, none⟩), .string s, .agg #[.slice p n cap, .int .i64 (safe : Int)]] w fun e w' => e = .returned (.tuple #[]) ∧ Held w' Z b (putL es s.data.toList ⟨dat, safe, .slice p n cap⟩) ∧ Only (fun k => k = b) w w' := by
  have HH : Hid (Held w Z b es) := h
  have HF : Hid (ownB w (.slice p n cap) dat) := hf
  have HZ : Hid (∀ g, (Value.slice p n cap).ownBlock = some g → Z g) := hz
  have HA : Hid (∀ g, (Value.slice p n cap).ownBlock = some g → ∀ q ∈ es, q.2.v.ownBlock = some g → q.1 = s.data.toList) := ha
  have hal : a < w.heap.size := World.block_lt_of_cell? _ _ c0
  clear h hf hz ha
  go_enter Tryz.func29, Tryz.ntmps29
  go_wp2
  go_region_law (first
    | (go_simp; go_at_call 57; refine (clone_any s _ (by omega)).mono ?_; rintro e w1 ⟨rfl, hb1⟩; dsimp only; (have hb2 : Below w.heap.size w w1 := (((Below.refl _ _).alloc (Nat.le_refl _) _).drew).trans (hb1.mono (by simp))); (have k0 : w1.cell? ⟨w.heap.size, 0, none⟩ = some (.slice p n cap) := cell_later hb1 (by simp)); (have k1 : w1.cell? ⟨w.heap.size, 1, none⟩ = some (.int .i64 (safe : Int)) := cell_later hb1 (by simp)); (have k2 := cell_later hb2 c0); (obtain ⟨w2, hst, hh2, hg2⟩ := (HH.out.later hb2).store (s := s) (by unfold maxLen; omega) (by unfold maxLen; omega) ⟨dat, safe, .slice p n cap⟩ (HF.out.kept fun g hg => hb2.block g (by obtain ⟨c, fr, e⟩ := HF.out.lt hg; exact (Array.getElem?_eq_some_iff.1 e).1)) HZ.out HA.out); (simp only [Fil.raw] at hst); (have HG : Hid (Only (fun k => k = b) w w2) := (Only.of hb2).grown hg2 (fun k hk => by cases hk; rfl)); (have HK : Hid (Held w2 Z b (putL es s.data.toList ⟨dat, safe, .slice p n cap⟩)) := hh2); clear hh2 hg2))
  all_goals
    go_wp2
    go_end0
    exact ⟨rfl, HK.out, HG.out⟩
end Go.Proofs.YtckmjmpajbjbkaaGreatDoor
