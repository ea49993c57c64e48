/- Walks of layer 1, first part: which values are right, and how two of them stand. -/
import Derived.Test.YtmfplnodafodoaaGreatDoorChecked
import Derived.Test.YtmfplnodafodoaaGreatDoorX1M
import Derived.WalkKit
import Derived.WalkSpells
import Derived.WalkLawsBesides
import Derived.Deep.RegionHeld3
import Derived.Deep.Light
import Derived.Deep.RegionLaw
import Derived.Deep.AppendLies
import Derived.Laws.IdiomStrings
namespace Go.Proofs.YtmfplnodafodoaaGreatDoor
open Go.RowKit

theorem ret_bool {a b : Bool} (h : a = b) : Ending.returned (.bool a) = .returned (.bool b) := by rw [h]
theorem ret_int {k : IntKind} {a b : Int} (h : a = b) : Ending.returned (.int k a) = .returned (.int k b) := by rw [h]

set_option maxHeartbeats 400000 in
theorem inRange_any (n : Int) (w : World) :
    Calls Tryz.prog 174 #[.int .i64 n] w fun e w' => e = .returned (.bool (decide (-4611686018427387904 ≤ n) && decide (n ≤ 4611686018427387904))) ∧ w' = w := by
  go_enter Tryz.func174, Tryz.ntmps174
  go_wp2
  all_goals go_ret
  · exact ⟨ret_bool (by simp [*]), rfl⟩
  · exact ⟨ret_bool (by simp; omega), rfl⟩

set_option maxHeartbeats 1000000 in
theorem right_any (k n : Int) (s : ByteArray) (w : World) :
    Calls Tryz.prog 162 #[.agg #[.int .i64 k, .int .i64 n, .string s]] w fun e w' => e = .returned (.bool (rgt k n s)) ∧ Below w.heap.size w w' := by
  go_enter Tryz.func162, Tryz.ntmps162
  go_wp2
  all_goals go_ret
  all_goals refine ⟨ret_bool ?_, (Below.refl _ _).alloc (Nat.le_refl _) _⟩
  all_goals go_light
  all_goals (unfold rgt; (repeat' split) <;> simp_all <;> omega)

set_option maxHeartbeats 1000000 in
theorem rright_any (k n : Int) (s : ByteArray) (w : World) :
    Calls Tryz.prog 120 #[.agg #[.int .i64 k, .int .i64 n, .string s]] w fun e w' => e = .returned (.bool (rgt k n s)) ∧ Below w.heap.size w w' := by
  go_enter Tryz.func120, Tryz.ntmps120
  go_wp2
  all_goals go_ret
  all_goals refine ⟨ret_bool ?_, (Below.refl _ _).alloc (Nat.le_refl _) _⟩
  all_goals go_light
  all_goals (unfold rgt; (repeat' split) <;> simp_all <;> omega)









theorem null_any (w : World) :
    Calls Tryz.prog 148 #[] w fun e w' => e = .returned (.agg #[.int .i64 0, .int .i64 0, .string ⟨#[]⟩]) ∧ Below w.heap.size w w' := by
  go_enter Tryz.func148, Tryz.ntmps148
  go_wp2
  exact bodyPost_ret (v := .agg #[.int .i64 0, .int .i64 0, .string ⟨#[]⟩]) (by simp [results, Tryz.results148, go_sem]) rfl ⟨rfl, by (repeat (first | exact Below.refl _ _ | assumption | refine Below.drew ?_ | refine below_drewN ?_ _ | refine Below.alloc ?_ (by first | omega | (simp; done) | (simp; omega)) _ | refine Below.setCell ?_ (by first | omega | (simp; done) | (simp; omega)) _ | refine Below.trans ?_ (Below.mono (by assumption) (by first | omega | (simp; done) | (simp; omega)))))⟩

theorem truth_any (b : Bool) (w : World) :
    Calls Tryz.prog 163 #[.bool b] w fun e w' => e = .returned (.agg #[.int .i64 2, .int .i64 (b2i b), .string ⟨#[]⟩]) ∧ Below w.heap.size w w' := by
  cases b
  all_goals
    go_enter Tryz.func163, Tryz.ntmps163
    go_wp2
  · exact bodyPost_ret (v := .agg #[.int .i64 2, .int .i64 0, .string ⟨#[]⟩]) (by simp [results, Tryz.results163, go_sem]) rfl ⟨rfl, by (repeat (first | exact Below.refl _ _ | assumption | refine Below.drew ?_ | refine below_drewN ?_ _ | refine Below.alloc ?_ (by first | omega | (simp; done) | (simp; omega)) _ | refine Below.setCell ?_ (by first | omega | (simp; done) | (simp; omega)) _ | refine Below.trans ?_ (Below.mono (by assumption) (by first | omega | (simp; done) | (simp; omega)))))⟩
  · exact bodyPost_ret (v := .agg #[.int .i64 2, .int .i64 1, .string ⟨#[]⟩]) (by simp [results, Tryz.results163, go_sem]) rfl ⟨rfl, by (repeat (first | exact Below.refl _ _ | assumption | refine Below.drew ?_ | refine below_drewN ?_ _ | refine Below.alloc ?_ (by first | omega | (simp; done) | (simp; omega)) _ | refine Below.setCell ?_ (by first | omega | (simp; done) | (simp; omega)) _ | refine Below.trans ?_ (Below.mono (by assumption) (by first | omega | (simp; done) | (simp; omega)))))⟩

theorem bool_any (b : Bool) (w : World) :
    Calls Tryz.prog 155 #[.bool b] w fun e w' => e = .returned (.agg #[.int .i64 2, .int .i64 (b2i b), .string ⟨#[]⟩]) ∧ Below w.heap.size w w' := by
  cases b
  all_goals
    go_enter Tryz.func155, Tryz.ntmps155
    go_wp2
  · exact bodyPost_ret (v := .agg #[.int .i64 2, .int .i64 0, .string ⟨#[]⟩]) (by simp [results, Tryz.results155, go_sem]) rfl ⟨rfl, by (repeat (first | exact Below.refl _ _ | assumption | refine Below.drew ?_ | refine below_drewN ?_ _ | refine Below.alloc ?_ (by first | omega | (simp; done) | (simp; omega)) _ | refine Below.setCell ?_ (by first | omega | (simp; done) | (simp; omega)) _ | refine Below.trans ?_ (Below.mono (by assumption) (by first | omega | (simp; done) | (simp; omega)))))⟩
  · exact bodyPost_ret (v := .agg #[.int .i64 2, .int .i64 1, .string ⟨#[]⟩]) (by simp [results, Tryz.results155, go_sem]) rfl ⟨rfl, by (repeat (first | exact Below.refl _ _ | assumption | refine Below.drew ?_ | refine below_drewN ?_ _ | refine Below.alloc ?_ (by first | omega | (simp; done) | (simp; omega)) _ | refine Below.setCell ?_ (by first | omega | (simp; done) | (simp; omega)) _ | refine Below.trans ?_ (Below.mono (by assumption) (by first | omega | (simp; done) | (simp; omega)))))⟩





theorem bcell {W w1 : World} (hb : Below W.heap.size W w1) : (∀ b o, b < W.heap.size → w1.cell? ⟨b, o, none⟩ = W.cell? ⟨b, o, none⟩) ∧ (∀ b o, b < W.heap.size → w1.frozen? ⟨b, o, none⟩ = W.frozen? ⟨b, o, none⟩) :=
  ⟨fun b o h => hb.cell (p := ⟨b, o, none⟩) h, fun b o h => hb.frozen (p := ⟨b, o, none⟩) h⟩
end Go.Proofs.YtmfplnodafodoaaGreatDoor
/- Walks of layer 1, third part: lists of values. -/
namespace Go.Proofs.YtmfplnodafodoaaGreatDoor
open Go.RowKit

/-- The cells of a slice of values. -/
def Row (w : World) (a : Option Addr) (vs : List V3) : Prop :=
  ∀ i (h : i < vs.length), ∃ b off, a = some ⟨b, off, none⟩ ∧ w.cell? ⟨b, off + i * 3, none⟩ = some (.int .i64 (vs[i]).1) ∧ w.cell? ⟨b, off + i * 3 + 1, none⟩ = some (.int .i64 (vs[i]).2.1) ∧ w.cell? ⟨b, off + i * 3 + 2, none⟩ = some (.string (vs[i]).2.2)

theorem upto_succ {n k : Nat} {p : (j : Nat) → j < n → Prop} (h : ∀ j (g : j < n), j < k → p j g) {hlt : k < n} (e : p k hlt) : ∀ j (g : j < n), j < k + 1 → p j g := by
  intro j g hj
  by_cases hjk : j = k
  · subst hjk; exact e
  · exact h j g (by omega)




theorem Row.later {w w' : World} {a : Option Addr} {vs : List V3} (h : Row w a vs) (hb : Below w.heap.size w w') : Row w' a vs := by
  intro i hi
  obtain ⟨b, off, e, c0, c1, c2⟩ := h i hi
  exact ⟨b, off, e, cell_later hb c0, cell_later hb c1, cell_later hb c2⟩
theorem Row.alloc {w : World} {a : Option Addr} {vs : List V3} (h : Row w a vs) (o : Obj) : Row (w.alloc o) a vs := h.later ((Below.refl _ _).alloc (Nat.le_refl _) _)



theorem opp_b (b : Bool) : (b2i b == 0) = !b := by cases b <;> rfl









theorem number_any (n : Int) (w : World) :
    Calls Tryz.prog 168 #[.int .i64 n] w fun e w' => e = .returned (.agg #[.int .i64 1, .int .i64 n, .string ⟨#[]⟩]) ∧ Below w.heap.size w w' := by
  go_enter Tryz.func168, Tryz.ntmps168
  go_wp2
  exact bodyPost_ret (v := .agg #[.int .i64 1, .int .i64 n, .string ⟨#[]⟩]) (by simp [results, Tryz.results168, go_sem]) rfl ⟨rfl, by (repeat (first | exact Below.refl _ _ | assumption | refine Below.drew ?_ | refine below_drewN ?_ _ | refine Below.alloc ?_ (by first | omega | (simp; done) | (simp; omega)) _ | refine Below.setCell ?_ (by first | omega | (simp; done) | (simp; omega)) _ | refine Below.trans ?_ (Below.mono (by assumption) (by first | omega | (simp; done) | (simp; omega)))))⟩

theorem rnumber_any (n : Int) (w : World) :
    Calls Tryz.prog 156 #[.int .i64 n] w fun e w' => e = .returned (.agg #[.int .i64 1, .int .i64 n, .string ⟨#[]⟩]) ∧ Below w.heap.size w w' := by
  go_enter Tryz.func156, Tryz.ntmps156
  go_wp2
  exact bodyPost_ret (v := .agg #[.int .i64 1, .int .i64 n, .string ⟨#[]⟩]) (by simp [results, Tryz.results156, go_sem]) rfl ⟨rfl, by (repeat (first | exact Below.refl _ _ | assumption | refine Below.drew ?_ | refine below_drewN ?_ _ | refine Below.alloc ?_ (by first | omega | (simp; done) | (simp; omega)) _ | refine Below.setCell ?_ (by first | omega | (simp; done) | (simp; omega)) _ | refine Below.trans ?_ (Below.mono (by assumption) (by first | omega | (simp; done) | (simp; omega)))))⟩
end Go.Proofs.YtmfplnodafodoaaGreatDoor
/- Walks of layer 1, eleventh part: a byte of a text, quoted. -/
namespace Go.Proofs.YtmfplnodafodoaaGreatDoor
open Go.RowKit

/-- Bytes as cells. -/
def bv (l : List UInt8) : List Value := l.map fun b => .int .u8 (b.toNat : Int)
theorem bv_append (l m : List UInt8) : bv (l ++ m) = bv l ++ bv m := List.map_append
theorem bv_length (l : List UInt8) : (bv l).length = l.length := List.length_map _
theorem bv_one (l : List UInt8) : ∀ u ∈ bv l, u.oneCell' = true := by
  intro u hu
  obtain ⟨b, _, rfl⟩ := List.mem_map.1 hu
  rfl
theorem Tryz.info5 : (Tryz.prog.info? 5).map (fun i => (i.zero, i.size, i.bytes)) = some (some (.int .u8 0), 1, 1) := by kernel_rfl

theorem ownsRow_drew {w : World} {base : Nat} {e : TypeId} {size : Nat} {v : Value} {n : Nat} {xs : List Value} (h : w.ownsRow base e size v n xs) : w.drew.ownsRow base e size v n xs := h

set_option maxHeartbeats 1000000 in
theorem aq_mark (B n : Nat) (v : Value) (xs : List UInt8) (w : World) (hown : w.ownsRow B 5 1 v n (bv xs)) (hn : n ≤ 1000000000000) (hB : B ≤ w.heap.size) :
    Calls Tryz.prog 180 #[v, .int .u8 39] w fun e w' => ∃ v', e = .returned v' ∧ w'.ownsRow B 5 1 v' (n + 2) (bv (xs ++ [39, 39])) ∧ Below B w w' := by
  obtain ⟨i0, hi, hz0, hz1, hz2⟩ := info_parts Tryz.info5
  have hlt := hown.lt
  go_enter Tryz.func180, Tryz.ntmps180
  go_wp2_with (first | (at_builtin; refine wpList_append_own _ rfl _ _ 150 rfl B 5 i0 (.int .u8 0) 1 1 Tryz.underlying150 hi hz0 hz1 hz2 rfl (by decide) _ _ _ rfl (hown.alloc _) ⟨w.heap.size, 0, none⟩ 2 2 (bv [39, 39]) rfl rfl ?c1 ?c2 ?c3 ?c4 ?c5 ?_))
  case c1 =>
    intro j u hj
    match j, hj with
    | 0, hj => simp [bv] at hj; subst hj; simp [Addr.add]
    | 1, hj => simp [bv] at hj; subst hj; simp [Addr.add]
  case c2 => exact bv_one _
  case c3 => unfold maxLen; omega
  case c4 => omega
  case c5 => simp; omega
  · intro v' w1 hown' hgrow _
    go_wp2
    go_ret
    refine ⟨_, rfl, by rw [bv_append]; exact hown', ?_⟩
    exact ((Below.refl _ _).alloc hB _).grown hgrow (by simp; omega) fun k hk => (hlt k hk).1

theorem hexd_at (n : Nat) (h : n < (⟨#[48, 49, 50, 51, 52, 53, 54, 55, 56, 57, 97, 98, 99, 100, 101, 102]⟩ : ByteArray).size) :
    (⟨#[48, 49, 50, 51, 52, 53, 54, 55, 56, 57, 97, 98, 99, 100, 101, 102]⟩ : ByteArray)[n]'h = hexd n := by
  unfold hexd
  rw [Array.getD_eq_getD_getElem?, Array.getElem?_eq_getElem (by exact h)]
  rfl
theorem and15 : ∀ c : Fin 256, bits BinOp.and IntKind.u8 ((c.val : Nat) : Int) 15 = ((c.val % 16 : Nat) : Int) := by decide +kernel

theorem cells3 (w : World) (y z : UInt8) (t : TypeId) : ∀ j u, (bv [92, y, z])[j]? = some u →
    ((w.alloc (.cells #[.int .u8 92, .int .u8 (y.toNat : Int), .int .u8 (z.toNat : Int)] t)).drew).cell? ((⟨w.heap.size, 0, none⟩ : Addr).add j) = some u := by
  intro j u hj
  match j, hj with
  | 0, hj => simp [bv] at hj; subst hj; simp [Addr.add]
  | 1, hj => simp [bv] at hj; subst hj; simp [Addr.add]
  | 2, hj => simp [bv] at hj; subst hj; simp [Addr.add]

set_option maxHeartbeats 1000000 in
set_option maxRecDepth 100000 in
theorem aq_hex (B n : Nat) (v : Value) (xs : List UInt8) (c : Nat) (w : World) (hown : w.ownsRow B 5 1 v n (bv xs)) (hn : n ≤ 1000000000000) (hB : B ≤ w.heap.size) (hc : c < 256) (_h1 : ¬ c = 39) (h2 : c = 92 ∨ c < 32 ∨ 126 < c) :
    Calls Tryz.prog 180 #[v, .int .u8 (c : Int)] w fun e w' => ∃ v', e = .returned v' ∧ w'.ownsRow B 5 1 v' (n + 3) (bv (xs ++ [92, hexd (c / 16), hexd (c % 16)])) ∧ Below B w w' := by
  obtain ⟨i0, hi, hz0, hz1, hz2⟩ := info_parts Tryz.info5
  have hlt := hown.lt
  have h1' : ((c : Int) == 39) = false := by simp; omega
  have hb15 := and15 ⟨c, hc⟩
  simp only at hb15
  have e1 : (0 : Int) ≤ (c : Int) / 16 := by omega
  have e2 : (c : Int) / 16 < 16 := by omega
  have e3 : ((c : Int) / 16).toNat = c / 16 := by omega
  obtain ⟨d, hd⟩ : ∃ d, c % 16 = d := ⟨_, rfl⟩
  obtain ⟨g, hg⟩ : ∃ g, c / 16 = g := ⟨_, rfl⟩
  have e4 : (0 : Int) ≤ (d : Int) := by omega
  have e5 : (d : Int) < 16 := by omega
  have hx1 := fun h => hexd_at g h
  have hx2 := fun h => hexd_at d h
  rw [hd] at hb15
  rw [hg] at e3
  rw [hd, hg]
  have h2' : ((c : Int) == 92) = true ∨ (((c : Int) == 92) = false ∧ (c : Int) < 32) ∨ (((c : Int) == 92) = false ∧ ¬ (c : Int) < 32 ∧ 126 < (c : Int)) := by
    by_cases a : c = 92
    · exact Or.inl (by simp [a])
    · by_cases b : (c : Int) < 32
      · exact Or.inr (Or.inl ⟨by simp; omega, b⟩)
      · exact Or.inr (Or.inr ⟨by simp; omega, b, by omega⟩)
  clear h2 hd hg
  rcases h2' with k1 | ⟨k1, k2⟩ | ⟨k1, k2, k3⟩
  all_goals
    go_enter Tryz.func180, Tryz.ntmps180
    go_wp2
    go_region_law (first | (refine step_append_lies _ rfl _ _ 150 rfl B 5 i0 (.int .u8 0) 1 1 Tryz.underlying150 hi hz0 hz1 hz2 rfl (by decide) v n (bv xs) rfl (ownsRow_drew (hown.alloc _)) ⟨w.heap.size, 0, none⟩ 3 3 (bv [92, hexd g, hexd d]) rfl rfl (cells3 w (hexd g) (hexd d) _) (bv_one _) (by decide) (by unfold maxLen; omega) (by omega) (by simp; omega) (w.heap.size + 1) (by simp) ?_; intro g' cap' w1 hown' hgrow _ _))
    all_goals
      go_wp2
      go_ret
      refine ⟨_, rfl, by rw [bv_append]; exact hown', ?_⟩
      exact (((Below.refl _ _).alloc hB _).drew).grown hgrow (by simp; omega) fun k hk => (hlt k hk).1

set_option maxHeartbeats 1000000 in
set_option maxRecDepth 100000 in
theorem aq_plain (B n : Nat) (v : Value) (xs : List UInt8) (c : UInt8) (w : World) (hown : w.ownsRow B 5 1 v n (bv xs)) (hn : n ≤ 1000000000000) (hB : B ≤ w.heap.size) (h1 : ¬ c.toNat = 39) (h2 : ¬ (c.toNat = 92 ∨ c.toNat < 32 ∨ 126 < c.toNat)) :
    Calls Tryz.prog 180 #[v, .int .u8 (c.toNat : Int)] w fun e w' => ∃ v', e = .returned v' ∧ w'.ownsRow B 5 1 v' (n + 1) (bv (xs ++ [c])) ∧ Below B w w' := by
  obtain ⟨i0, hi, hz0, hz1, hz2⟩ := info_parts Tryz.info5
  have hlt := hown.lt
  have h1' : ((c.toNat : Int) == 39) = false := by simp; omega
  have k1 : ((c.toNat : Int) == 92) = false := by simp; omega
  have k2 : ¬ (c.toNat : Int) < 32 := by omega
  have k3 : ¬ 126 < (c.toNat : Int) := by omega
  clear h1 h2
  go_enter Tryz.func180, Tryz.ntmps180
  go_wp2_with (first | (at_builtin; refine wpList_append_own _ rfl _ _ 150 rfl B 5 i0 (.int .u8 0) 1 1 Tryz.underlying150 hi hz0 hz1 hz2 rfl (by decide) _ _ _ rfl (hown.alloc _) ⟨w.heap.size, 0, none⟩ 1 1 (bv [c]) rfl rfl ?c1 ?c2 ?c3 ?c4 ?c5 ?_))
  case c1 =>
    intro j u hj
    match j, hj with
    | 0, hj => simp [bv] at hj; subst hj; simp
  case c2 => exact bv_one _
  case c3 => unfold maxLen; omega
  case c4 => omega
  case c5 => first | omega | (simp; omega)
  · intro v' w1 hown' hgrow _
    go_wp2
    go_ret
    refine ⟨_, rfl, by rw [bv_append]; exact hown', ?_⟩
    exact ((Below.refl _ _).alloc hB _).grown hgrow (by simp; omega) fun k hk => (hlt k hk).1

theorem aq_any (B n : Nat) (v : Value) (xs : List UInt8) (c : UInt8) (w : World) (hown : w.ownsRow B 5 1 v n (bv xs)) (hn : n ≤ 1000000000000) (hB : B ≤ w.heap.size) :
    Calls Tryz.prog 180 #[v, .int .u8 (c.toNat : Int)] w fun e w' => ∃ v', e = .returned v' ∧ w'.ownsRow B 5 1 v' (n + (qb c).length) (bv (xs ++ qb c)) ∧ Below B w w' := by
  by_cases h1 : c.toNat = 39
  · rw [qb_mark h1, h1]
    exact aq_mark B n v xs w hown hn hB
  · by_cases h2 : c.toNat = 92 ∨ c.toNat < 32 ∨ 126 < c.toNat
    · rw [qb_hex h1 h2]
      exact aq_hex B n v xs c.toNat w hown hn hB (UInt8.toNat_lt c) h1 h2
    · rw [qb_plain h1 h2]
      exact aq_plain B n v xs c w hown hn hB h1 h2
end Go.Proofs.YtmfplnodafodoaaGreatDoor
/- Walks of layer 1, twelfth part: a text as a literal. -/
namespace Go.Proofs.YtmfplnodafodoaaGreatDoor
open Go.RowKit

/-- What is owned, as a slice of bytes; 'string(b)' of it. -/
theorem own_string {w : World} {B n : Nat} {v : Value} {xs : List UInt8} (h : w.ownsRow B 5 1 v n (bv xs)) (hn : 0 < n) :
    ∃ g cap, v = .slice (some ⟨g, 0, none⟩) n cap ∧ (convert 150 9 (.slice (some ⟨g, 0, none⟩) n cap)).run Tryz.prog w = .ok (.string ⟨xs.toArray⟩) w := by
  have hc := fun g => h.cells (g := g)
  obtain ⟨hl, ⟨_, h0⟩ | ⟨g, cap, cur, rfl, _, _, _, _, _, _⟩⟩ := h
  · omega
  · rw [bv_length] at hl
    refine ⟨g, cap, rfl, ?_⟩
    have hn' : n = xs.length := by omega
    subst hn'
    refine run_convert_bytes_back w 150 9 5 ⟨g, 0, none⟩ cap xs Tryz.underlying150 Tryz.underlying5 Tryz.underlying9 ?_
    intro j hj
    exact hc g rfl j _ (by simp [bv, hj])

set_option maxHeartbeats 1000000 in
set_option maxRecDepth 100000 in
theorem quote_any (s : ByteArray) (w : World) (hs : s.size ≤ 100000000000) :
    Calls Tryz.prog 170 #[.string s] w fun e w' => e = .returned (.string ⟨(quo s).toArray⟩) ∧ Below w.heap.size w w' := by
  obtain ⟨i0, hi, hz0, hz1, hz2⟩ := info_parts Tryz.info5
  go_enter Tryz.func170, Tryz.ntmps170
  go_wp2
  go_loopw [3, 8] (fun v i wr => ∃ k : Nat, k ≤ s.size ∧ i = .int .i64 k ∧ wr.ownsRow w.heap.size 5 1 v (39 :: qbs (s.data.toList.take k)).length (bv (39 :: qbs (s.data.toList.take k))) ∧ Below w.heap.size w wr) (fun _ i _ => s.size - (intOf i).toNat)
  case atStart =>
    refine ⟨0, Nat.zero_le _, rfl, ⟨by simp [bv, qbs], Or.inr ⟨w.heap.size, 1, #[.int .u8 39], rfl, Nat.le_refl _, ?_, by simp [qbs], by decide, by simp, by simp [bv, qbs]⟩⟩, (Below.refl _ _).alloc (Nat.le_refl _) _⟩
    exact heap_alloc_new w _
  case round =>
    obtain ⟨k, hk, rfl, hown, hb⟩ := hrel
    have hsz := hb.size
    have hql := qbs_len (s.data.toList.take k)
    have htl : (s.data.toList.take k).length ≤ k := List.length_take_le _ _
    by_cases hlt : k < s.size
    · have HQ : Hid (qbs (s.data.toList.take (k + 1)) = qbs (s.data.toList.take k) ++ qb s[k]) := qbs_take s k hlt
      go_wp2_with (first | (go_at_call 180; refine (aq_any w.heap.size _ _ _ s[k] _ hown (by simp only [List.length_cons]; omega) (by omega)).mono ?_; rintro e w' ⟨v', rfl, hown', hb'⟩))
      go_roundw
      case rel => exact ⟨k + 1, by omega, by go_num, by rw [HQ.out]; simpa [Nat.add_assoc, Nat.add_comm] using hown', hb.trans hb'⟩
      case measure => simp [intOf]; omega
    · have hk' : k = s.size := by omega
      subst hk'
      have htk : s.data.toList.take s.size = s.data.toList := List.take_of_length_le (by simp)
      rw [htk] at hown hql htl
      clear htk
      have hlt := hown.lt
      have hl2 : s.data.toList.length = s.size := by simp
      go_wp2_with (first | (at_builtin; refine wpList_append_own _ rfl _ _ 150 rfl w.heap.size 5 i0 (.int .u8 0) 1 1 Tryz.underlying150 hi hz0 hz1 hz2 rfl (by decide) _ _ _ rfl (hown.alloc _) ⟨wr.heap.size, 0, none⟩ 1 1 (bv [39]) rfl rfl ?c1 ?c2 ?c3 ?c4 ?c5 ?_))
      case c1 =>
        intro j u hj
        match j, hj with
        | 0, hj => simp [bv] at hj; subst hj; first | (simp [Addr.add]; done) | (go_simp; done)
      case c2 => exact bv_one _
      case c3 => simp only [List.length_cons]; unfold maxLen; omega
      case c4 => simp only [List.length_cons]; omega
      case c5 => simp; omega
      · intro v' w1 hown' hgrow _
        rw [← bv_append] at hown'
        obtain ⟨g, cap, rfl, hcv⟩ := own_string hown' (by simp)
        have hbb : Below w.heap.size w w1 := (hb.alloc (by omega) _).grown hgrow (by simp; omega) fun k hk => (hlt k hk).1
        clear hown' hgrow hown hlt
        go_wp2
        go_ret
        exact ⟨rfl, hbb⟩
end Go.Proofs.YtmfplnodafodoaaGreatDoor
