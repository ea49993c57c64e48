/- Walks of layer 5, sixth part: All. -/
import Derived.Test.YtckmjmpajbjbkaaGreatDoorH5
namespace Go.Proofs.YtckmjmpajbjbkaaGreatDoor
open Go.RowKit

theorem Tryz.info9 : (Tryz.prog.info? 9).map (fun i => (i.zero, i.size, i.bytes)) = some (some (.string ⟨#[]⟩), 1, 16) := by kernel_rfl

/-- Texts as cells. -/
def ba (d : List UInt8) : ByteArray := ⟨d.toArray⟩
def sv (ds : List (List UInt8)) : List Value := ds.map fun d => .string (ba d)
theorem sv_length (ds : List (List UInt8)) : (sv ds).length = ds.length := List.length_map _
theorem sv_append (ds es : List (List UInt8)) : sv (ds ++ es) = sv ds ++ sv es := List.map_append
theorem sv_one (ds : List (List UInt8)) : ∀ u ∈ sv ds, u.oneCell' = true := by
  intro u hu
  obtain ⟨b, _, rfl⟩ := List.mem_map.1 hu
  rfl
theorem ba_list (s : ByteArray) : ba s.data.toList = s := rfl
def lenV : Value → Nat
  | .slice _ n _ => n
  | _ => 0
theorem own_len {w : World} {B : Nat} {e : TypeId} {size : Nat} {v : Value} {n : Nat} {xs : List Value} (h : w.ownsRow B e size v n xs) : lenV v = n := by
  obtain ⟨_, ⟨rfl, rfl⟩ | ⟨g, cap, cur, rfl, _⟩⟩ := h
  · rfl
  · rfl
/-- What is owned from B on stays where only what lies below B turns. -/
theorem fown_kept {w w' : World} {B : Nat} {e : TypeId} {size : Nat} {v : Value} {n : Nat} {xs : List Value} (h : w.ownsRow B e size v n xs) (hk : ∀ k, B ≤ k → k < w.heap.size → w'.heap[k]? = w.heap[k]?) : w'.ownsRow B e size v n xs := by
  have hl := h.lt
  obtain ⟨h1, h2 | ⟨g, cap, cur, rfl, a, b, c⟩⟩ := h
  · exact ⟨h1, Or.inl h2⟩
  · exact ⟨h1, Or.inr ⟨g, cap, cur, rfl, a, (hk g a (hl g rfl).2).trans b, c⟩⟩
theorem own_mono {w : World} {base base' : Nat} {e : TypeId} {size : Nat} {v : Value} {n : Nat} {xs : List Value} (h : w.ownsRow base e size v n xs) (hb : base' ≤ base) : w.ownsRow base' e size v n xs := by
  obtain ⟨h1, h2 | ⟨g, cap, cur, e, a, r⟩⟩ := h
  · exact ⟨h1, Or.inl h2⟩
  · exact ⟨h1, Or.inr ⟨g, cap, cur, e, Nat.le_trans hb a, r⟩⟩
theorem str1 (w : World) (s : ByteArray) (d : List UInt8) (t : TypeId) (h : s = ba d) : ∀ j u, (sv [d])[j]? = some u → (w.alloc (.cells #[.string s] t)).cell? ((⟨w.heap.size, 0, none⟩ : Addr).add j) = some u := by
  subst h
  intro j u hj
  match j, hj with
  | 0, hj => simp [sv] at hj; subst hj; simp [Addr.add]

/-- What has been read of a text so far. -/
structure Part (s : ByteArray) (ds : List (List UInt8)) (n : Nat) : Prop where
  small : ∀ d ∈ ds, d.length ≤ 4096
  place : n = (cat ds).length
  front : s.data.toList = cat ds ++ s.data.toList.drop n
  le : n ≤ s.size
theorem cat_six : ∀ ds : List (List UInt8), 6 * ds.length ≤ (cat ds).length
  | [] => Nat.le_refl _
  | d :: ds => by
    have := cat_six ds
    rw [cat, List.length_append, frm_length, List.length_cons]
    omega
theorem Part.count {s : ByteArray} {ds : List (List UInt8)} {n : Nat} (h : Part s ds n) : 6 * ds.length ≤ s.size := by
  have := cat_six ds
  have := h.place
  have := h.le
  omega
theorem Part.first (s : ByteArray) : Part s [] 0 := ⟨by simp, rfl, by simp [cat], Nat.zero_le _⟩
theorem Part.next {s : ByteArray} {ds : List (List UInt8)} {n : Nat} (h : Part s ds n) {d : List UInt8} (hr : rd (s.data.toList.drop n) = some d) : Part s (ds ++ [d]) (n + (6 + d.length)) := by
  obtain ⟨h1, _, h3⟩ := rd_some hr
  have hz := rd_size hr
  have hl : (s.data.toList.drop n).length = s.size - n := by simp
  refine ⟨fun x hx => ?_, ?_, ?_, by have := h.le; omega⟩
  · rcases List.mem_append.1 hx with hx | hx
    · exact h.small x hx
    · rw [List.mem_singleton.1 hx]; exact h1
  · rw [cat_append, cat_one, List.length_append, frm_length, h.place]
  · rw [cat_append, cat_one, List.append_assoc, ← List.drop_drop, ← h3]
    exact h.front
theorem Part.done {s : ByteArray} {ds : List (List UInt8)} {n : Nat} (h : Part s ds n) (hr : rd (s.data.toList.drop n) = none) : AllIs s.data.toList ds n := ⟨h.small, h.place, _, h.front, hr⟩

/-- What All tells. -/
def AR (s : ByteArray) (w : World) (e : Ending) (w' : World) : Prop :=
  ∃ v ds n, e = .returned (.tuple #[v, .int .i64 ((n : Nat) : Int)]) ∧ AllIs s.data.toList ds n ∧ w'.ownsRow w.heap.size 9 1 v ds.length (sv ds) ∧ Below w.heap.size w w'

set_option maxHeartbeats 4000000 in
set_option maxRecDepth 100000 in
theorem rall_any (s : ByteArray) (w : World) (hs : s.size ≤ 2147483648) :
    Calls Tryz.prog 93 #[.string s] w (AR s w) := by
  obtain ⟨i0, hi, hz0, hz1, hz2⟩ := info_parts Tryz.info9
  go_enter Tryz.func93, Tryz.ntmps93
  go_wp2
  go_loopw [4, 5] (fun v i wr => ∃ (n : Nat) (ds : List (List UInt8)), i = .int .i64 (n : Int) ∧ Part s ds n ∧ wr.ownsRow w.heap.size 9 1 v ds.length (sv ds) ∧ Below w.heap.size w wr) (fun v _ _ => s.size + 1 - lenV v)
  case atStart => exact ⟨0, [], rfl, Part.first s, World.ownsRow_nil _ _ _ _, Below.refl _ _⟩
  case round =>
    obtain ⟨n, ds, rfl, hp, hown, hb⟩ := hrel
    have hsz := hb.size
    have HP : Hid (Part s ds n) := hp
    have hns := hp.le
    have hcount := hp.count
    clear hp
    go_wp2_with fail
    refine (frread_any s (n : Int) wr (by omega)).mono ?_
    rintro e w1 ⟨rfl, hb1⟩
    have hown1 := fown_kept hown fun k _ hk => hb1.block k hk
    have hbb1 : Below w.heap.size w w1 := hb.trans (hb1.mono hsz)
    have hlenv := own_len hown
    clear hb hb1 hown
    cases hr : rd (s.data.toList.drop n) with
    | none =>
      rw [rdT_none hns hr]
      go_wp2
      exact bodyPost_ret (v := .tuple #[u4, .int .i64 (n : Int)]) (by simp [results, Tryz.results93, go_sem]) rfl ⟨_, ds, n, rfl, HP.out.done hr, hown1, hbb1⟩
    | some d =>
      rw [rdT_some hns hr]
      have HN : Hid (Part s (ds ++ [d]) (n + (6 + d.length))) := HP.out.next hr
      obtain ⟨N, hN⟩ : ∃ N, n + (6 + d.length) = N := ⟨_, rfl⟩
      rw [hN] at HN
      obtain ⟨t, ht⟩ : ∃ t : ByteArray, t = ⟨d.toArray⟩ := ⟨_, rfl⟩
      rw [hN, ← ht]
      have HT : Hid (t = ba d) := ht
      clear hN hr ht
      have hsz1 := hbb1.size
      have hlt := hown1.lt
      go_wp2_with (first | (at_builtin; refine wpList_append_own _ rfl _ _ 44 rfl w.heap.size 9 i0 (.string ⟨#[]⟩) 1 16 Tryz.underlying44 hi hz0 hz1 hz2 rfl (by decide) _ _ _ rfl (hown1.alloc _) ⟨w1.heap.size, 0, none⟩ 1 1 (sv [d]) rfl rfl ?c1 ?c2 ?c3 ?c4 ?c5 ?_))
      case c1 => exact str1 w1 _ _ _ HT.out
      case c2 => exact sv_one _
      case c3 => unfold maxLen; omega
      case c4 => omega
      case c5 => first | omega | (simp; omega)
      · intro v' w2 hown' hgrow _
        have hbb : Below w.heap.size w w2 := (hbb1.alloc (by omega) _).grown hgrow (by simp; omega) fun k hk => (hlt k hk).1
        rw [← sv_append] at hown'
        have hl' := own_len hown'
        clear hgrow hown1 hlt
        go_wp2
        go_roundw
        case rel => exact ⟨N, ds ++ [d], rfl, HN.out, by simpa using hown', hbb⟩
        case measure => rw [hl', hlenv]; omega
end Go.Proofs.YtckmjmpajbjbkaaGreatDoor
