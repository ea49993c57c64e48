/- Walks of layer 7: what Levels tells of a tree. -/
import Derived.Test.YtlpannicklkghaaB45
import Derived.Laws.IdiomStrings
namespace Go.Proofs.Ytlpannicklkghaa
open Go.RowKit

theorem wid_sum : ∀ L : List Nd, (wid L).sum = (L.flatMap (·.its)).length
  | [] => rfl
  | n :: L => by
    have := wid_sum L
    simp only [wid, List.map_cons, List.sum_cons] at *
    rw [List.flatMap_cons, List.length_append, this]
theorem wid_length (L : List Nd) : (wid L).length = L.length := List.length_map _
theorem wid_le {L : List Nd} {x : Nat} (h : x ∈ wid L) : x ≤ (wid L).sum := by
  have key : ∀ (l : List Nat), x ∈ l → x ≤ l.sum := by
    intro l
    induction l with
    | nil => intro h; simp at h
    | cons a l ih =>
      intro h
      rw [List.sum_cons]
      rcases List.mem_cons.1 h with rfl | h
      · omega
      · have := ih h; omega
  exact key _ h
/-- How the sums go on. -/
theorem levels_sums : ∀ {ls : List (List Nd)} {S : List Slot}, Good S ls → ∀ i (h : i < ls.length), (∀ h' : i + 1 < ls.length, (wid ls[i]).sum = (ls[i + 1]).length) ∧ (i + 1 = ls.length → (wid ls[i]).sum = (items ls).length)
  | [], _, h, _, _ => h.elim
  | [L], S, h, i, hi => by
    match i, hi with
    | 0, _ => exact ⟨fun h' => absurd h' (by simp), fun _ => by rw [items_one]; exact wid_sum L⟩
  | L :: M :: r, S, h, i, hi => by
    obtain ⟨hf, _, hg⟩ := good_mid.1 h
    match i, hi with
    | 0, _ =>
      refine ⟨fun _ => ?_, fun e => by simp at e⟩
      show (wid L).sum = M.length
      rw [wid_sum, ← slots_length hf]
      exact (good_fits hg).length
    | i + 1, hi =>
      have ih := levels_sums hg i (by simpa using hi)
      refine ⟨fun h' => ih.1 (by simpa using h'), fun e => ?_⟩
      rw [items_cons]
      exact ih.2 (by simpa using e)
theorem wlv_at {m : Nat} : ∀ {ls : List (List Nd)} {top : Bool}, WLv m top ls → ∀ i (h : i < ls.length) x, x ∈ wid ls[i] → x ≤ m ∧ (0 < i ∨ top = false → m / 2 ≤ x) ∧ (i = 0 → top = true → 1 < ls.length → 2 ≤ x)
  | L :: r, top, h, 0, _, x, hx => by
    obtain ⟨n, hn, rfl⟩ := List.mem_map.1 hx
    have h1 := h.1 n hn
    refine ⟨h1.2, fun e => ?_, fun _ e hl => ?_⟩
    · rcases e with e | e
      · omega
      · have := h1.1
        rw [e] at this
        exact this
    · have h2 := h1.1
      rw [e] at h2
      cases r with
      | nil => simp at hl
      | cons M r => exact h2
  | L :: r, top, h, i + 1, hi, x, hx => by
    have ih := wlv_at h.2 i (by simpa using hi) x hx
    exact ⟨ih.1, fun _ => ih.2.1 (Or.inr rfl), fun e => by omega⟩
theorem shape_of {w : World} {Z : Nat → Prop} {t m : Nat} {ls : List (List Nd)} {l : List It} (h : TreeIs w Z t m ls l) (hm : 4 ≤ m) : ShapeOk (ls.map wid) m l.length := by
  obtain ⟨rb, _, hg⟩ := h.some_
  have hne : 0 < ls.length := List.length_pos_iff.2 fun e => by rw [e] at hg; exact hg.elim
  have htop : ∀ h0 : 0 < ls.length, (ls[0]).length = 1 := by
    cases ls with
    | nil => exact hg.elim
    | cons L r => exact fun _ => (good_fits hg).length.symm
  have hit := h.its
  have hsum := levels_sums hg
  have hlow : ∀ i (hi : i + 1 < ls.length), (ls[i + 1]).length ≤ l.length := fun i hi => by
    match ls, hg, h.wid, hit, hi with
    | L :: M :: r, hg, hw, hit, hi =>
      obtain ⟨_, _, hg2⟩ := good_mid.1 hg
      have := level_low hm hg2 hw.2 ((M :: r)[i]'(by simpa using hi)) (List.getElem_mem _)
      rw [items_cons] at hit
      rw [hit] at this
      exact this
  have hsl : ∀ i (hi : i < ls.length), (wid ls[i]).sum ≤ l.length := fun i hi => by
    by_cases h2 : i + 1 < ls.length
    · rw [(hsum i hi).1 h2]; exact hlow i h2
    · rw [(hsum i hi).2 (by omega), hit]; exact Nat.le_refl _
  refine ⟨by rw [List.length_map]; exact hne, fun _ => ?_, fun i hi j hj => ?_, fun i hi j hj h0 => ?_, fun _ j hj h1 => ?_, fun i hi hi' => ?_, fun i hi e => ?_⟩
  · rw [List.getElem_map, wid_length]
    exact htop hne
  · rw [List.length_map] at hi
    have hx : ((ls.map wid)[i]'(by rw [List.length_map]; exact hi))[j] ∈ wid ls[i] := by simp only [List.getElem_map]; exact List.getElem_mem _
    exact ⟨(wlv_at h.wid i hi _ hx).1, Nat.le_trans (wid_le hx) (hsl i hi)⟩
  · rw [List.length_map] at hi
    have hx : ((ls.map wid)[i]'(by rw [List.length_map]; exact hi))[j] ∈ wid ls[i] := by simp only [List.getElem_map]; exact List.getElem_mem _
    exact (wlv_at h.wid i hi _ hx).2.1 (Or.inl h0)
  · have hx : ((ls.map wid)[0]'(by rw [List.length_map]; exact hne))[j] ∈ wid ls[0] := by simp only [List.getElem_map]; exact List.getElem_mem _
    rw [List.length_map] at h1
    exact (wlv_at h.wid 0 hne _ hx).2.2 rfl rfl h1
  · rw [List.length_map] at hi hi'
    rw [List.getElem_map, List.getElem_map, wid_length]
    exact (hsum i hi).1 hi'
  · rw [List.length_map] at hi e
    rw [List.getElem_map, (hsum i hi).2 e, hit]
/-- How low a tree is. -/
structure LowOk (ws : List (List Nat)) (m keys : Nat) : Prop where
  at_ : ∀ i (h : i + 1 < ws.length), 2 * (m / 2) ^ i ≤ (ws[i + 1]).length
  all : 1 < ws.length → 2 * (m / 2) ^ (ws.length - 1) ≤ keys
theorem low_of {w : World} {Z : Nat → Prop} {t m : Nat} {ls : List (List Nd)} {l : List It} (h : TreeIs w Z t m ls l) : LowOk (ls.map wid) m l.length := by
  obtain ⟨rb, _, hg⟩ := h.some_
  match ls, hg, h.wid, h.its with
  | [], hg, _, _ => exact hg.elim
  | [L], _, _, _ => exact ⟨fun i hi => absurd hi (by simp), fun hi => absurd hi (by simp)⟩
  | L :: M :: r, hg, hw, hit =>
    have := top_low hg hw
    rw [hit] at this
    refine ⟨fun i hi => ?_, fun _ => ?_⟩
    · have h1 := this.1 i (by simpa using hi)
      have e : ((L :: M :: r).map wid)[i + 1] = wid ((M :: r)[i]'(by simpa using hi)) := by
        rw [List.getElem_map]
        rfl
      rw [e, wid_length]
      exact h1
    · simpa using this.2
/-- What Levels leaves. -/
def LevP (w : World) (m keys : Nat) (e : Ending) (w' : World) : Prop := ∃ v vs ws, e = .returned v ∧ LV w w' v vs ws ∧ ShapeOk ws m keys ∧ LowOk ws m keys ∧ ws.length ≤ 64 ∧ ∀ i (h : i < ws.length), (ws[i]).length ≤ 4000000001
theorem levels_z (w : World) (B : Nat) (Z : Nat → Prop) (t m : Nat) (l : List It) (h : TreeZ w B Z t m l) (hm : 4 ≤ m) (hm2 : m ≤ 64) (hl : l.length ≤ 4000000000) :
    Calls Try.prog 19 #[.pointer (some ⟨t, 0, none⟩)] w (LevP w m l.length) := by
  obtain ⟨ls, h1⟩ := h.is
  refine (tree_levels w Z t m ls l h1 hm hm2 hl).mono ?_
  rintro e w' ⟨v, vs, rfl, hlv⟩
  obtain ⟨rb, _, hg⟩ := h1.some_
  refine ⟨v, vs, ls.map wid, rfl, hlv, shape_of h1 hm, low_of h1, by rw [List.length_map]; exact h1.low hm (by omega), fun i hi => ?_⟩
  rw [List.length_map] at hi
  rw [List.getElem_map, wid_length]
  have := level_le hm hg h1.wid ls[i] (List.getElem_mem _)
  rw [h1.its] at this
  omega
/-- Numbers in memory. -/
def IRow (w : World) (p : Option Addr) (l : List Int) : Prop := ∀ i (h : i < l.length), ∃ b off, p = some ⟨b, off, none⟩ ∧ w.cell? ⟨b, off + i, none⟩ = some (.int .i64 l[i])
theorem IRow.later {w w' : World} {p : Option Addr} {l : List Int} (h : IRow w p l) (hb : Below w.heap.size w w') : IRow w' p l := fun i hi => by
  obtain ⟨b, off, e, h1⟩ := h i hi
  exact ⟨b, off, e, cell_later hb h1⟩
theorem delL_length {key : ByteArray} {l : List It} : (delL key l).length + (if foundL key l then 1 else 0) = l.length := by
  unfold delL
  cases h : foundL key l with
  | true => simp only [if_true]; exact cutL_length h
  | false => simp
theorem putL_len {key val : ByteArray} {l : List It} : (putL key val l).length = l.length + (if foundL key l then 0 else 1) := by
  unfold putL
  cases h : foundL key l with
  | true => simp [setV_length]
  | false => simp [insL_length]
theorem two_bytes7 (w : World) (x y : Int) (hx : 0 ≤ x ∧ x < 256) (hy : 0 ≤ y ∧ y < 256) : ∃ s : ByteArray, s.size = 2 ∧ (convert 51 9 (.slice (some ⟨w.heap.size, 0, none⟩) 2 2)).run Try.prog (w.alloc (.cells #[.int .u8 x, .int .u8 y] 5)) = .ok (.string s) (w.alloc (.cells #[.int .u8 x, .int .u8 y] 5)) := by
  obtain ⟨a, ha⟩ : ∃ a : UInt8, (a.toNat : Int) = x := ⟨UInt8.ofNat x.toNat, by rw [UInt8.toNat_ofNat']; omega⟩
  obtain ⟨b, hb⟩ : ∃ b : UInt8, (b.toNat : Int) = y := ⟨UInt8.ofNat y.toNat, by rw [UInt8.toNat_ofNat']; omega⟩
  subst ha hb
  refine ⟨⟨#[a, b]⟩, rfl, ?_⟩
  refine run_convert_bytes_back _ 51 9 5 ⟨w.heap.size, 0, none⟩ 2 [a, b] Try.underlying51 Try.underlying5 Try.underlying9 ?_
  intro j hj
  match j, hj with
  | 0, _ => simp [Addr.add]
  | 1, _ => simp [Addr.add]
end Go.Proofs.Ytlpannicklkghaa
