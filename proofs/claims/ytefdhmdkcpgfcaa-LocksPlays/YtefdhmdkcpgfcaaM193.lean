/- Plain mathematics of layer 19: calls that only read, and the first that writes (LocksShare). -/
import Derived.Test.YtefdhmdkcpgfcaaM192
namespace Go.Proofs.Ytefdhmdkcpgfcaa
open Go
def asRead (x : Lk) : Lk := ⟨x.tb, x.lo, x.hi, false⟩
/-- What of some locks is right once it is only read. -/
def rdL (l : List Lk) : List Lk := (l.map asRead).filter fun x => lkR x
def plR (R : List (List Lk)) : List Pl9 := R.mapIdx fun i l => ⟨(i : Int), l⟩
/-- The table of some calls, one behind the other. -/
def tbR (R : List (List Lk)) : Tb9 := ⟨plR R, (R.length : Int) - 1⟩
theorem plR_len (R : List (List Lk)) : (plR R).length = R.length := by simp [plR]
theorem plR_get {R : List (List Lk)} {i : Nat} (h : i < R.length) : (plR R)[i]'(by rw [plR_len]; exact h) = ⟨(i : Int), R[i]⟩ := by simp [plR]
theorem plR_snoc (R : List (List Lk)) (l : List Lk) : plR (R ++ [l]) = plR R ++ [⟨(R.length : Int), l⟩] := by
  unfold plR
  rw [List.mapIdx_concat]
theorem plR_mem {R : List (List Lk)} {p : Pl9} (h : p ∈ plR R) : ∃ i, ∃ hi : i < R.length, p = ⟨(i : Int), R[i]⟩ := by
  obtain ⟨i, hi, rfl⟩ := List.getElem_of_mem h
  have hi2 : i < R.length := by rw [← plR_len R]; exact hi
  exact ⟨i, hi2, plR_get hi2⟩
theorem tbR_nil : tbR [] = t90 := rfl
theorem tbR_sz {R : List (List Lk)} (hl : R.length ≤ 2147483647) (h : ∀ l ∈ R, Sl9 l) : Sz9 (tbR R) := by
  refine ⟨by show (plR R).length ≤ _; rw [plR_len]; exact hl, by show -1 ≤ (R.length : Int) - 1 ∧ (R.length : Int) - 1 ≤ _; omega, fun p hp => ?_, fun p hp => ?_, fun p hp => ?_, fun i j hi hj hij => ?_⟩
  · obtain ⟨i, hi, rfl⟩ := plR_mem hp
    show 0 ≤ (i : Int) ∧ (i : Int) ≤ (R.length : Int) - 1
    omega
  · obtain ⟨i, hi, rfl⟩ := plR_mem hp
    exact (h _ (List.getElem_mem hi)).len
  · obtain ⟨i, hi, rfl⟩ := plR_mem hp
    exact (h _ (List.getElem_mem hi)).size
  · have hi2 : i < R.length := by rw [← plR_len R]; exact hi
    have hj2 : j < R.length := by rw [← plR_len R]; exact hj
    have a : ((tbR R).ps[i]).pos = (i : Int) := congrArg (fun p : Pl9 => p.pos) (plR_get hi2)
    have b : ((tbR R).ps[j]).pos = (j : Int) := congrArg (fun p : Pl9 => p.pos) (plR_get hj2)
    omega
theorem tbR_askE {R : List (List Lk)} {l : List Lk} : askE (tbR R) R.length l = if l.all lkR = true then 0 else 190 := by
  unfold askE
  rw [if_neg]
  show ¬ ((R.length : Int) < 0 ∨ (R.length : Int) ≤ (R.length : Int) - 1)
  omega
theorem tbR_ask {R : List (List Lk)} {l : List Lk} (h : l.all lkR = true) : askE (tbR R) R.length l = 0 ∧ askT (tbR R) R.length l = tbR (R ++ [l]) := by
  have e : askE (tbR R) R.length l = 0 := by rw [tbR_askE, if_pos h]
  refine ⟨e, ?_⟩
  rw [askT_yes e]
  unfold tbR
  rw [plR_snoc]
  simp
theorem rdL_right (l : List Lk) : (rdL l).all lkR = true := by
  rw [List.all_eq_true]
  exact fun x hx => (List.mem_filter.1 hx).2
theorem rdL_read {l : List Lk} {x : Lk} (h : x ∈ rdL l) : x.wr = false := by
  obtain ⟨y, _, rfl⟩ := List.mem_map.1 (List.mem_filter.1 h).1
  rfl
theorem rdL_sl {l : List Lk} (h : Sl9 l) : Sl9 (rdL l) := by
  refine ⟨Nat.le_trans (List.length_filter_le _ _) (by rw [List.length_map]; exact h.len), fun x hx => ?_⟩
  obtain ⟨y, hy, rfl⟩ := List.mem_map.1 (List.mem_filter.1 hx).1
  exact h.size y hy
theorem rdL_snoc (l : List Lk) (k : Nat) (h : k < l.length) : rdL (l.take (k + 1)) = rdL (l.take k) ++ if lkR (asRead l[k]) = true then [asRead l[k]] else [] := by
  unfold rdL
  rw [List.take_succ_eq_append_getElem h, List.map_append, List.filter_append]
  congr 1
  simp only [List.map_cons, List.map_nil, List.filter_cons, List.filter_nil]
theorem reads_apart {a b : List Lk} (ha : ∀ x ∈ a, x.wr = false) (hb : ∀ x ∈ b, x.wr = false) : anyM a b = false := by
  rw [Bool.eq_false_iff]
  intro h
  obtain ⟨x, hx, y, hy, e⟩ := anyM_iff.1 h
  unfold lkM at e
  rw [ha x hx, hb y hy] at e
  simp at e
theorem fm_all {α β : Type} {f : α → Option β} {g : α → β} : ∀ l : List α, (∀ x ∈ l, f x = some (g x)) → (l.filterMap f).length = l.length
  | [], _ => rfl
  | x :: l, h => by
    rw [List.filterMap_cons, h x List.mem_cons_self]
    simp only [List.length_cons]
    rw [fm_all l fun y hy => h y (List.mem_cons_of_mem _ hy)]
/-- All are granted. -/
theorem reads_granted {R : List (List Lk)} (h : ∀ l ∈ R, ∀ x ∈ l, x.wr = false) : (grntL (tbR R)).length = R.length := by
  have hg : ∀ i, i < R.length → grntI (tbR R) i = true := fun i hi => by
    unfold grntI waitI
    have hl : i < (plR R).length := by rw [plR_len]; exact hi
    rw [show (tbR R).ps[i]? = some (plR R)[i] from List.getElem?_eq_getElem hl, plR_get hi]
    simp only [Option.map_some, Option.getD_some]
    unfold waitL
    rw [List.filter_eq_nil_iff.2]
    · rfl
    · intro q hq
      obtain ⟨j, hj, rfl⟩ := plR_mem (List.mem_of_mem_take hq)
      rw [reads_apart (h _ (List.getElem_mem hi)) (h _ (List.getElem_mem hj))]
      simp
  unfold grntL
  have e1 : (tbR R).ps.length = R.length := plR_len R
  rw [e1, List.filter_eq_self.2 fun i hi => hg i (List.mem_range.1 hi)]
  rw [fm_all (g := fun i : Nat => (i : Int)) (List.range R.length) fun i hi => ?_, List.length_range]
  have hi2 := List.mem_range.1 hi
  have hl : i < (plR R).length := by rw [plR_len]; exact hi2
  rw [show (tbR R).ps[i]? = some (plR R)[i] from List.getElem?_eq_getElem hl, plR_get hi2]
  rfl
/-- Those that one who writes waits for. -/
def wantL (w : Lk) (R : List (List Lk)) : List Int := ((plR R).filter fun q => anyM q.ls [w]).map fun q => q.pos
theorem wantL_snoc (w : Lk) (R : List (List Lk)) (k : Nat) (h : k < R.length) : wantL w (R.take (k + 1)) = wantL w (R.take k) ++ if anyM R[k] [w] = true then [(k : Int)] else [] := by
  unfold wantL
  rw [List.take_succ_eq_append_getElem h, plR_snoc, List.filter_append, List.map_append]
  congr 1
  simp only [List.filter_cons, List.filter_nil, List.length_take, Nat.min_eq_left (Nat.le_of_lt h)]
  split <;> rfl
theorem write_waits {w : Lk} {R : List (List Lk)} (h : Sz9 (tbR (R ++ [[w]]))) : waitR (tbR (R ++ [[w]])) R.length = (wantL w R, 0) := by
  have hi : R.length < (plR (R ++ [[w]])).length := by rw [plR_len]; simp
  have hg := plR_get (R := R ++ [[w]]) (i := R.length) (by simp)
  have ha : atI (tbR (R ++ [[w]])) R.length = some R.length := atI_is h (i := R.length) hi (by show ((plR (R ++ [[w]]))[R.length]).pos = _; rw [hg])
  unfold waitR
  rw [ha]
  simp only [Prod.mk.injEq, and_true]
  unfold waitI
  rw [show (tbR (R ++ [[w]])).ps[R.length]? = some (plR (R ++ [[w]]))[R.length] from List.getElem?_eq_getElem hi, hg]
  simp only [Option.map_some, Option.getD_some, List.getElem_concat_length]
  have e : (tbR (R ++ [[w]])).ps.take R.length = plR R := by
    show (plR (R ++ [[w]])).take R.length = plR R
    rw [plR_snoc, List.take_append_of_le_length (by rw [plR_len]; exact Nat.le_refl _), List.take_of_length_le (by rw [plR_len]; exact Nat.le_refl _)]
  rw [e]
  unfold waitL wantL
  congr 1
  refine List.filter_congr fun q _ => anyM_comm _ _
end Go.Proofs.Ytefdhmdkcpgfcaa
