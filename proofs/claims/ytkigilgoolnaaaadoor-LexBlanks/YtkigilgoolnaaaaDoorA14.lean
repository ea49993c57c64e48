/- Walks of layer 10: LexBlanks. -/
import Derived.Test.YtkigilgoolnaaaaDoorA11
import Derived.Test.YtkigilgoolnaaaaDoorM118
namespace Go.Proofs.YtkigilgoolnaaaaDoor
open Go.RowKit

theorem list_sizeB (s : ByteArray) : s.data.toList.length = s.size := by simp
theorem scan_toksB {s : ByteArray} {l ts : List (Tk × Nat)} {p : Nat} {c : Int} (h : ScanIs s l p c) (hs : s.size ≤ 1000) (g : Toks s.data.toList 0 ts) : l = ts ∧ p = 0 ∧ c = 0 := h.one (Or.inr ⟨hs, Or.inl ⟨rfl, rfl, g⟩⟩)
/-- A row of numbers, as it reads. -/
def IntsR (w : World) (p : Option Addr) (ks : List Int) : Prop := ∀ i (h : i < ks.length), ∃ b off, p = some ⟨b, off, none⟩ ∧ w.cell? ⟨b, off + i, none⟩ = some (.int .i64 ks[i])
theorem IntsR.later {w w' : World} {p : Option Addr} {l : List Int} (h : IntsR w p l) (hb : Below w.heap.size w w') : IntsR w' p l := by
  intro i hi
  obtain ⟨b, off, e, a0⟩ := h i hi
  exact ⟨b, off, e, cell_later hb a0⟩
/-- What is put, by its number. -/
def putS (k : Nat) : ByteArray := ofL (putsL.getD k [])
theorem putS_list {k : Nat} (h : k < 5) : (putS k).data.toList ∈ putsL := by
  rw [putS, list_ofL]
  have : ∀ k : Fin 5, putsL.getD k.val [] ∈ putsL := by decide
  exact this ⟨k, h⟩
theorem putS_size {k : Nat} (h : k < 5) : (putS k).size ≤ 7 := by
  rw [← list_sizeB]
  exact put_len (putS_list h)

set_option maxHeartbeats 4000000 in
set_option maxRecDepth 100000 in
theorem like_any (a : Tk) (x y : Int) (w : World) : Calls Tryd.prog 17 #[tkA a x, tkA a y] w fun e w' => e = .returned (.bool true) ∧ Below w.heap.size w w' := by
  obtain ⟨k, n, t⟩ := a
  have hss : (t.toList == t.toList) = true := by simp
  unfold tkA
  go_enter Tryd.func17, Tryd.ntmps17
  go_wp2
  exact bodyPost_ret (v := .bool true) (by simp [results, Tryd.results17, go_sem]) rfl ⟨rfl, by (repeat (first | exact Below.refl _ _ | assumption | refine Below.drew ?_ | refine below_drewN ?_ _ | refine Below.alloc ?_ (by first | omega | (simp; done) | (simp; omega)) _ | refine Below.setCell ?_ (by first | omega | (simp; done) | (simp; omega)) _ | refine Below.trans ?_ (Below.mono (by assumption) (by first | omega | (simp; done) | (simp; omega)))))⟩
/-- Ahead of a round: what is out so far, and where the source goes on. -/
structure Bl (s : ByteArray) (l : List (Tk × Nat)) (i F : Nat) (O : ByteArray) : Prop where
  le : F ≤ s.size
  few : O.size ≤ F + 7 * i
  next : ∀ h : i < l.length, F ≤ l[i].2
  all : ∃ cs : List (List UInt8), cs.length = i ∧ (∀ p ∈ cs, p ∈ putsL) ∧ ∀ ps, O.data.toList ++ outL s.data.toList F (l.drop i) ps = outL s.data.toList 0 l (cs ++ ps)
theorem Bl.start (s : ByteArray) (l : List (Tk × Nat)) : Bl s l 0 0 ⟨#[]⟩ := ⟨Nat.zero_le _, Nat.le_refl _, fun _ => Nat.zero_le _, [], rfl, fun _ h => absurd h List.not_mem_nil, fun ps => by simp⟩
theorem Bl.step {s : ByteArray} {l : List (Tk × Nat)} {i F k : Nat} {O : ByteArray} (h : Bl s l i F O) (hp : Pl s.data.toList l) (hi : i < l.length) (hk : k < 5) : Bl s l (i + 1) l[i].2 (O ++ s.extract F l[i].2 ++ putS k) ∧ l[i].2 ≤ s.size := by
  have hA : l[i].2 ≤ s.size := by
    rw [← list_sizeB]
    by_cases hj : i + 1 < l.length
    · obtain ⟨a1, a2, _⟩ := hp.at i hj
      omega
    · obtain ⟨a1, a2⟩ := hp.last
      have : l.length - 1 = i := by omega
      simp only [this] at a2
      rw [a2]
      exact Nat.le_refl _
  have hF := h.next hi
  have hps := putS_size hk
  obtain ⟨cs, c1, c2, c3⟩ := h.all
  refine ⟨⟨hA, ?_, fun hj => Nat.le_of_lt (hp.at i hj).1, cs ++ [(putS k).data.toList], by simp [c1], fun p hp => ?_, fun ps => ?_⟩, hA⟩
  · have := h.few
    rw [ByteArray.size_append, ByteArray.size_append, ByteArray.size_extract]
    omega
  · rcases List.mem_append.1 hp with q | q
    · exact c2 p q
    · rw [List.mem_singleton.1 q]
      exact putS_list hk
  · have := c3 ((putS k).data.toList :: ps)
    rw [List.append_assoc]
    simp only [List.cons_append, List.nil_append]
    rw [← this, List.drop_eq_getElem_cons hi]
    simp only [outL]
    have e : (s.extract F l[i].2).data.toList = (s.data.toList.drop F).take (l[i].2 - F) := by
      rw [ByteArray.data_extract]
      simp [List.extract_eq_take_drop]
    rw [ByteArray.data_append, ByteArray.data_append, Array.toList_append, Array.toList_append, e]
    simp only [List.append_assoc]
theorem Bl.fin {s : ByteArray} {l : List (Tk × Nat)} {F : Nat} {O : ByteArray} (h : Bl s l l.length F O) (ht : Toks s.data.toList 0 l) (hs : s.size + 8 * l.length ≤ 1000) : (O ++ s.extract F s.size).size ≤ 1000 ∧ ∃ us, Toks (O ++ s.extract F s.size).data.toList 0 us ∧ us.map (·.1) = l.map (·.1) := by
  obtain ⟨cs, c1, c2, c3⟩ := h.all
  have e : (O ++ s.extract F s.size).data.toList = outL s.data.toList 0 l cs := by
    have := c3 []
    rw [List.append_nil, List.drop_length] at this
    rw [← this, ByteArray.data_append, Array.toList_append]
    congr 1
    rw [ByteArray.data_extract]
    simp [List.extract_eq_take_drop, outL]
    rw [List.take_of_length_le]
    simp
  obtain ⟨us, u1, u2, _⟩ := ht.puts (S := s.data.toList) rfl (Nat.zero_le _) cs c1 c2 0
  refine ⟨?_, us, by rw [e]; exact u1, u2⟩
  have h1 := h.few
  have h2 := h.le
  rw [ByteArray.size_append, ByteArray.size_extract]
  omega
end Go.Proofs.YtkigilgoolnaaaaDoor
