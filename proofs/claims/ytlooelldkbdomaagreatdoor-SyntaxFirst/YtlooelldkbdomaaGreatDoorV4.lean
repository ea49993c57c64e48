/- Walks of layer 1: what a text may say; Parse. -/
import Derived.Test.YtlooelldkbdomaaGreatDoorV3
import Derived.Test.YtlooelldkbdomaaGreatDoorW5
import Derived.Deep.RegionWith
namespace Go.Proofs.YtlooelldkbdomaaGreatDoor
open Go.RowKit

theorem text_any (s : ByteArray) (w : World) :
    Calls Tryz.prog 166 #[.string s] w fun e w' => e = .returned (.agg #[.int .i64 3, .int .i64 0, .string s]) ∧ Below w.heap.size w w' := by
  go_enter Tryz.func166, Tryz.ntmps166
  go_wp2
  exact bodyPost_ret (v := .agg #[.int .i64 3, .int .i64 0, .string s]) (by simp [results, Tryz.results166, go_sem]) rfl ⟨rfl, by (repeat (first | exact Below.refl _ _ | assumption | refine Below.drew ?_ | refine below_drewN ?_ _ | refine Below.alloc ?_ (by first | omega | (simp; done) | (simp; omega)) _ | refine Below.setCell ?_ (by first | omega | (simp; done) | (simp; omega)) _ | refine Below.trans ?_ (Below.mono (by assumption) (by first | omega | (simp; done) | (simp; omega)))))⟩
theorem vnum_exact (n : Int) (w : World) :
    Calls Tryz.prog 168 #[.int .i64 n] w fun e w' => e = .returned (.agg #[.int .i64 1, .int .i64 n, .string ⟨#[]⟩]) ∧ w' = w.alloc (.cells #[.int .i64 1, .int .i64 n, .string ⟨#[]⟩] 46) := by
  go_enter Tryz.func168, Tryz.ntmps168
  go_wp2
  exact bodyPost_ret (v := .agg #[.int .i64 1, .int .i64 n, .string ⟨#[]⟩]) (by simp [results, Tryz.results168, go_sem]) rfl ⟨rfl, rfl⟩

set_option maxHeartbeats 2000000 in
set_option maxRecDepth 100000 in
theorem unm_yes (s : ByteArray) (w : World) (hs : s.size ≤ 2147483648) (h2 : 2 ≤ s.size) (h0 : s[0].toNat = 39) (h1 : s[s.size - 1].toNat = 39) :
    Calls Tryz.prog 164 #[.string s] w fun e w' => e = .returned (.tuple #[.string (s.extract 1 (s.size - 1)), .bool true]) ∧ w' = w := by
  obtain ⟨m, hm⟩ : ∃ m, s.size - 1 = m := ⟨_, rfl⟩
  have hm2 : s.size = m + 1 := by omega
  have hmi : (s.size : Int) - 1 = (m : Int) := by omega
  have hmw : IntKind.i64.wrap (m : Int) = m := by rw [IntKind.wrap_i64] <;> omega
  have h2i : ¬ (s.size : Int) < 2 := by omega
  have q0 : (0 : Int) < (s.size : Int) := by omega
  have q1 : (m : Int) < (s.size : Int) := by omega
  have q2 : (1 : Int) ≤ (m : Int) := by omega
  have q3 : (m : Int) ≤ (s.size : Int) := by omega
  have hk : m < s.size := by omega
  have h1' : s[m].toNat = 39 := by simp only [← hm]; exact h1
  rw [hm]
  clear h1 hm hm2
  go_enter Tryz.func164, Tryz.ntmps164
  go_wp2
  exact bodyPost_ret (v := .tuple #[.string (s.extract 1 m), .bool true]) (by simp [results, Tryz.results164, go_sem]) rfl ⟨rfl, rfl⟩

set_option maxHeartbeats 2000000 in
set_option maxRecDepth 100000 in
theorem unm_no (s : ByteArray) (w : World) (hs : s.size ≤ 2147483648) (h : ¬ (2 ≤ s.size ∧ ∀ g : 2 ≤ s.size, s[0].toNat = 39 ∧ s[s.size - 1].toNat = 39)) :
    Calls Tryz.prog 164 #[.string s] w fun e w' => e = .returned (.tuple #[.string ⟨#[]⟩, .bool false]) ∧ w' = w := by
  by_cases h2 : 2 ≤ s.size
  · have h2i : ¬ (s.size : Int) < 2 := by omega
    have q0 : (0 : Int) < (s.size : Int) := by omega
    have q0' : 0 < s.size := by omega
    by_cases h0 : s[0].toNat = 39
    · obtain ⟨m, hm⟩ : ∃ m, s.size - 1 = m := ⟨_, rfl⟩
      have hk : m < s.size := by omega
      have h1 : ¬ s[m].toNat = 39 := by
        intro g
        exact h ⟨h2, fun _ => ⟨h0, by simp only [hm]; exact g⟩⟩
      have hmi : (s.size : Int) - 1 = (m : Int) := by omega
      have q1 : (m : Int) < (s.size : Int) := by omega
      have q2 : (0 : Int) ≤ (m : Int) := by omega
      have hmw : IntKind.i64.wrap (m : Int) = m := by rw [IntKind.wrap_i64] <;> omega
      have h1' : ((s[m].toNat : Int) != 39) = true := by simp; omega
      clear h hm h1
      go_enter Tryz.func164, Tryz.ntmps164
      go_wp2
      exact bodyPost_ret (v := .tuple #[.string ⟨#[]⟩, .bool false]) (by simp [results, Tryz.results164, go_sem]) rfl ⟨rfl, rfl⟩
    · have h0' : ((s[0].toNat : Int) != 39) = true := by simp; omega
      clear h h0
      go_enter Tryz.func164, Tryz.ntmps164
      go_wp2
      exact bodyPost_ret (v := .tuple #[.string ⟨#[]⟩, .bool false]) (by simp [results, Tryz.results164, go_sem]) rfl ⟨rfl, rfl⟩
  · have h2i : (s.size : Int) < 2 := by omega
    clear h
    go_enter Tryz.func164, Tryz.ntmps164
    go_wp2
    exact bodyPost_ret (v := .tuple #[.string ⟨#[]⟩, .bool false]) (by simp [results, Tryz.results164, go_sem]) rfl ⟨rfl, rfl⟩

/-- What read answers. -/
def ReadP (s : ByteArray) (w : World) (e : Ending) (w' : World) : Prop := ∃ (v : V3) (ok : Bool), e = .returned (.tuple #[.agg #[.int .i64 v.1, .int .i64 v.2.1, .string v.2.2], .bool ok]) ∧ (∀ u, LitOf s.data.toList u → ok = true ∧ v = u) ∧ Below w.heap.size w w'

theorem lit_first {u : V3} (hu : V3.right u = true) {s : ByteArray} (h : lit u = s.data.toList) (h0 : 0 < s.size) (g : s[0].toNat = 39) : u.1 = 3 := by
  have e0 : s.data.toList[0]? = some s[0] := by rw [List.getElem?_eq_getElem (by simpa using h0)]; rfl
  rw [← h] at e0
  rcases rt_kind hu with k | k | k | k
  · rw [lit_null k] at e0; simp at e0; rw [← e0] at g; exact absurd g (by decide)
  · rw [lit_int k] at e0
    obtain ⟨c, l, e, q⟩ := itoa_head u.2.1
    rw [e] at e0
    simp at e0
    rw [← e0] at g
    omega
  · rcases (right_bool hu k).1 with q | q
    · rw [lit_false k q] at e0; simp at e0; rw [← e0] at g; exact absurd g (by decide)
    · rw [lit_true k q] at e0; simp at e0; rw [← e0] at g; exact absurd g (by decide)
  · exact k
theorem lit_body {u : V3} {s : ByteArray} (k : u.1 = 3) (h : lit u = s.data.toList) : 2 ≤ s.size ∧ (s.extract 1 (s.size - 1)).data.toList = qbs u.2.2.data.toList ∧ ∀ g : 2 ≤ s.size, s[0].toNat = 39 ∧ s[s.size - 1].toNat = 39 := by
  rw [lit_text k, quo] at h
  have hl := congrArg List.length h
  simp at hl
  refine ⟨by omega, ?_, ?_⟩
  · have e1 : (s.extract 1 (s.size - 1)).data.toList = (s.data.toList.drop 1).take (s.size - 1 - 1) := by simp
    rw [e1, ← h]
    have e2 : (39 :: qbs u.2.2.data.toList ++ [39]).drop 1 = qbs u.2.2.data.toList ++ [39] := rfl
    rw [e2]
    exact List.take_left' (by omega)
  · intro g
    have e0 : s.data.toList[0]? = some s[0] := by rw [List.getElem?_eq_getElem (by simp; omega)]; rfl
    have e1 : s.data.toList[s.size - 1]? = some s[s.size - 1] := by rw [List.getElem?_eq_getElem (by simp; omega)]; rfl
    rw [← h] at e0 e1
    constructor
    · simp at e0; rw [← e0]; rfl
    · have e3 : s.size - 1 = (39 :: qbs u.2.2.data.toList).length := by simp; omega
      have e4 : (39 :: qbs u.2.2.data.toList ++ [39])[s.size - 1]? = some 39 := by
        rw [e3, List.getElem?_append_right (Nat.le_refl _), Nat.sub_self]; rfl
      rw [e4] at e1
      have e5 := Option.some.inj e1
      rw [← e5]; rfl
theorem lit_other {u : V3} (hu : V3.right u = true) {s : ByteArray} (h : lit u = s.data.toList) (n1 : s.data.toList ≠ [78, 85, 76, 76]) (n2 : s.data.toList ≠ [84, 82, 85, 69]) (n3 : s.data.toList ≠ [70, 65, 76, 83, 69]) (n4 : u.1 ≠ 3) : u.1 = 1 ∧ u.2.2 = ⟨#[]⟩ ∧ Lib.atoiAll s.data.toList = .ok u.2.1 := by
  rcases rt_kind hu with k | k | k | k
  · rw [lit_null k] at h; exact absurd h.symm n1
  · obtain ⟨a, b, c⟩ := rt_num hu k
    rw [lit_int k] at h
    rw [← h]
    exact ⟨k, c, atoi_itoa a b⟩
  · rcases (right_bool hu k).1 with q | q
    · rw [lit_false k q] at h; exact absurd h.symm n3
    · rw [lit_true k q] at h; exact absurd h.symm n2
  · exact absurd k n4
end Go.Proofs.YtlooelldkbdomaaGreatDoor
