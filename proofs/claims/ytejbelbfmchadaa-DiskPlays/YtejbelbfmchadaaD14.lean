/- Walks of layer 4, fourteenth part: the statements' first calls (awake). -/
import Derived.Test.YtejbelbfmchadaaD11
import Derived.Test.YtejbelbfmchadaaD13
import Derived.Test.YtejbelbfmchadaaM44
namespace Go.Proofs.Ytejbelbfmchadaa
open Go.RowKit

theorem zone_new {w w1 : World} (h : w.heap.size ≤ w1.heap.size) : ∀ k, w1.heap.size ≤ k → (fun k => w.heap.size ≤ k) k := fun _ hk => Nat.le_trans h hk
theorem Only.zone {w w1 w2 : World} (hb : Below w.heap.size w w1) (ho : Only (fun k => w.heap.size ≤ k) w1 w2) : Below w.heap.size w w2 := hb.trans (ho.below hb.size (fun _ hk h => by omega))

theorem ints1 (w : World) (x : Int) (t : TypeId) : Ints (w.alloc (.cells #[.int .i64 x] t)) (some ⟨w.heap.size, 0, none⟩) [x] := fun i hi => by
  have e : i = 0 := by simp at hi; omega
  subst e
  exact ⟨w.heap.size, 0, rfl, by simp⟩
/-- What was made behind a disk's blocks is none of them. -/
theorem IsDisk.apart {w w' : World} {Z : Nat → Prop} {a : Nat} {st : St} (h : IsDisk w Z a st) (hb : Below w.heap.size w w') : IsDisk w' (fun k => (Z k ∧ k < w.heap.size) ∨ w'.heap.size ≤ k) a st :=
  ((h.mono (Z' := fun k => Z k ∧ k < w.heap.size) fun _ hk hz => ⟨hz, hk⟩).later hb).mono fun _ _ hz => Or.inl hz

set_option maxHeartbeats 8000000 in
set_option maxRecDepth 100000 in
theorem awake_any (w : World) : Calls Try.prog 9 #[] w fun e w' => e = .returned (.bool true) ∧ Below w.heap.size w w' := by
  go_enter Try.func9, Try.ntmps9
  go_wp2_with fail
  refine (new_any 10 none 0 [] w (by simp) (by simp) (FRow.nil _ _)).mono ?_
  rintro e w1 ⟨hb1, hN⟩
  rcases hN with ⟨hN, _⟩ | ⟨_, a, rfl, hi1⟩
  · exact absurd aw_new.1 hN
  rw [aw_new.2] at hi1
  go_wp2_with fail
  have h2 := append_any w1 _ a aw0 ⟨#[97]⟩ ⟨#[120, 121, 122]⟩ hi1 (zone_new hb1.size) (by decide)
  simp only [aw_app] at h2
  refine h2.mono ?_
  clear h2
  rintro e w2 ⟨rfl, hi2, ho2⟩
  have hb2 := ho2.zone hb1
  clear hi1 ho2 hb1
  go_wp2_with fail
  have h3 := sync_any w2 _ a aw1 ⟨#[97]⟩ hi2 (zone_new hb2.size) (by decide)
  simp only [aw_syn] at h3
  refine h3.mono ?_
  clear h3
  rintro e w3 ⟨rfl, hi3, ho3⟩
  have hb3 := ho3.zone hb2
  clear hi2 ho3 hb2
  go_wp2_with fail
  have h4 := append_any w3 _ a aw2 ⟨#[97]⟩ ⟨#[49, 50, 51]⟩ hi3 (zone_new hb3.size) (by decide)
  simp only [aw_app2] at h4
  refine h4.mono ?_
  clear h4
  rintro e w4 ⟨rfl, hi4, ho4⟩
  have hb4 := ho4.zone hb3
  clear hi3 ho4 hb3
  go_wp2_with fail
  have h5 := crash_any (w4.alloc (.cells #[.int .i64 2] 3)) _ a aw3 (some ⟨w4.heap.size, 0, none⟩) 1 [2] (hi4.later ((Below.refl _ _).alloc (Nat.le_refl _) _)) (ints1 w4 2 _) (by simp) (by simp)
  rw [aw_crash] at h5
  refine h5.mono ?_
  clear h5
  rintro e w5 ⟨rfl, hi5, ho5⟩
  have hb5 := Only.zone (hb4.alloc hb4.size (.cells #[.int .i64 2] 3)) ho5
  clear hi4 ho5 hb4
  go_wp2_with fail
  refine (files_any w5 _ a aw4 hi5).mono ?_
  rintro e w6 ⟨v, rfl, hf6, hb6⟩
  have hi6 := hi5.apart hb6
  have hb7 := hb5.trans (hb6.mono hb5.size)
  obtain ⟨g, cap, rfl, hgl5, hgl6⟩ := hf6.form (by decide)
  have hc := hf6.cells (g := g) rfl
  have f0 := hc 0 (.string ⟨#[97]⟩) rfl
  have f1 := hc 1 (.string ⟨#[120, 121, 122, 49, 50]⟩) rfl
  have f2 := hc 2 (.int .i64 5) rfl
  simp only [Addr.add_lit, Nat.zero_add] at f0 f1 f2
  have HS5 : Hid (w.heap.size ≤ w5.heap.size) := hb5.size
  have HS6 : Hid (w5.heap.size ≤ w6.heap.size) := hb6.size
  have hlen : (aw4.fs.length : Int) = 1 := rfl
  clear hi5 hb6 hf6 hc hb5
  rw [show aw4.fs.length = 1 from rfl]
  go_wp2_with fail
  refine (steps_any w6 _ a aw4 hi6).mono ?_
  rintro e w7 ⟨rfl, rfl⟩
  rw [show aw4.steps = 3 from rfl]
  go_wp2_with fail
  have h8 := sync_any w7 _ a aw4 ⟨#[98]⟩ hi6 (fun k hk => Or.inr hk) (by decide)
  simp only [aw_syn2] at h8
  refine h8.mono ?_
  clear h8
  rintro e w8 ⟨rfl, _, ho8⟩
  have hgk : w8.heap[g]? = w7.heap[g]? := ho8.block g hgl6 (fun h => by have := HS5.out; omega)
  have g0 := cell_at hgk f0
  have g1 := cell_at hgk f1
  have g2 := cell_at hgk f2
  have HB : Hid (Below w.heap.size w w8) := hb7.trans (ho8.below hb7.size (fun k hk h => by have := HS5.out; have := HS6.out; omega))
  clear f0 f1 f2 hgk ho8 hi6 hb7
  go_wp2
  go_ret
  exact ⟨rfl, HB.out⟩
end Go.Proofs.Ytejbelbfmchadaa
