/- Layer 4, without the program: a crash, file by file. -/
import Derived.Test.YtckmjmpajbjbkaaGreatDoorM41
namespace Go.Proofs.YtckmjmpajbjbkaaGreatDoor
open Go

def crashOne (ks : List Int) (p : Nm × Fl) : Nm × Fl := if 0 < p.2.1.length - p.2.2 then (p.1, crash1 (ks.headD 0) p.2) else (p.1, (p.2.1, p.2.1.length))
def restOne (ks : List Int) (p : Nm × Fl) : List Int := if 0 < p.2.1.length - p.2.2 then ks.tail else ks
def restK : List Int → Fs → List Int
  | ks, [] => ks
  | ks, p :: r => restK (restOne ks p) r
theorem crashL_cons (ks : List Int) (p : Nm × Fl) (r : Fs) : crashL ks (p :: r) = crashOne ks p :: crashL (restOne ks p) r := by
  by_cases h : 0 < p.2.1.length - p.2.2
  · simp only [crashL, crashOne, restOne, h, if_true]
  · simp only [crashL, crashOne, restOne, h, if_false]
theorem crashL_snoc : ∀ (ks : List Int) (l : Fs) (p : Nm × Fl), crashL ks (l ++ [p]) = crashL ks l ++ [crashOne (restK ks l) p]
  | ks, [], p => by rw [List.nil_append, crashL_cons]; rfl
  | ks, q :: r, p => by
    rw [List.cons_append, crashL_cons, crashL_cons, crashL_snoc (restOne ks q) r p]
    rfl
theorem restK_snoc : ∀ (ks : List Int) (l : Fs) (p : Nm × Fl), restK ks (l ++ [p]) = restOne (restK ks l) p
  | _, [], _ => rfl
  | ks, q :: r, p => restK_snoc (restOne ks q) r p
theorem crashL_length (ks : List Int) (fs : Fs) : (crashL ks fs).length = fs.length := by
  have := congrArg List.length (crashL_names ks fs)
  simpa using this
/-- Midway through a crash. -/
def mid (ks : List Int) (fs : Fs) (k : Nat) : Fs := crashL ks (fs.take k) ++ fs.drop k
theorem mid_zero (ks : List Int) (fs : Fs) : mid ks fs 0 = fs := by simp [mid, crashL]
theorem mid_end (ks : List Int) (fs : Fs) : mid ks fs fs.length = crashL ks fs := by simp [mid]
theorem mid_length (ks : List Int) (fs : Fs) (k : Nat) : (mid ks fs k).length = fs.length := by
  simp [mid, crashL_length]
  omega
theorem mid_at {ks : List Int} {fs : Fs} {k : Nat} (h : k < fs.length) : (mid ks fs k)[k]? = some fs[k] := by
  have hl : (crashL ks (fs.take k)).length = k := by rw [crashL_length, List.length_take]; omega
  unfold mid
  rw [List.getElem?_append_right (by omega), hl, Nat.sub_self, List.getElem?_drop]
  simp [h]
theorem mid_set {ks : List Int} {fs : Fs} {k : Nat} (h : k < fs.length) : (mid ks fs k).set k (crashOne (restK ks (fs.take k)) fs[k]) = mid ks fs (k + 1) := by
  have hl : (crashL ks (fs.take k)).length = k := by rw [crashL_length, List.length_take]; omega
  unfold mid
  rw [List.set_append_right _ _ (by omega), hl, Nat.sub_self, List.take_succ_eq_append_getElem h, crashL_snoc, List.drop_eq_getElem_cons h, List.set_cons_zero, List.append_assoc]
  rfl
theorem restK_succ {ks : List Int} {fs : Fs} {k : Nat} (h : k < fs.length) : restK ks (fs.take (k + 1)) = restOne (restK ks (fs.take k)) fs[k] := by
  rw [List.take_succ_eq_append_getElem h, restK_snoc]
theorem mid_names (ks : List Int) (fs : Fs) (k : Nat) : (mid ks fs k).map (·.1) = fs.map (·.1) := by
  unfold mid
  rw [List.map_append, crashL_names, ← List.map_append, List.take_append_drop]

theorem putL_at {α : Type} : ∀ {l : List (Nm × α)}, srt l → ∀ {k : Nat} (h : k < l.length) (x : α), putL l (l[k]).1 x = l.set k ((l[k]).1, x)
  | p :: r, hs, 0, h, x => by
    show putL (p :: r) p.1 x = (p.1, x) :: r
    unfold putL
    rw [if_neg (by rw [bl_irrefl]; simp), if_pos rfl]
  | p :: r, hs, k + 1, h, x => by
    have hk : k < r.length := by simpa using h
    show putL (p :: r) (r[k]).1 x = p :: r.set k ((r[k]).1, x)
    have hlt := (List.pairwise_cons.1 hs).1 r[k] (List.getElem_mem hk)
    unfold putL
    rw [if_neg (by rw [bl_asymm _ _ hlt]; simp), if_neg (fun e => by rw [e, bl_irrefl] at hlt; cases hlt), putL_at (List.pairwise_cons.1 hs).2 hk x]
theorem crashOne_tail {ks : List Int} {p : Nm × Fl} (h : 0 < p.2.1.length - p.2.2) : crashOne ks p = (p.1, (p.2.1.take (p.2.2 + keeps (ks.headD 0) (p.2.1.length - p.2.2)), p.2.2 + keeps (ks.headD 0) (p.2.1.length - p.2.2))) ∧ restOne ks p = ks.tail := by
  simp [crashOne, restOne, h, crash1]
theorem crashOne_none {ks : List Int} {p : Nm × Fl} (h : ¬ 0 < p.2.1.length - p.2.2) : crashOne ks p = (p.1, (p.2.1, p.2.1.length)) ∧ restOne ks p = ks := by
  simp [crashOne, restOne, h]
end Go.Proofs.YtckmjmpajbjbkaaGreatDoor
