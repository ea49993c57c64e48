/- The law KeySorted. -/
import Derived.Test.YtbmgcibclmbelabDoorK18
import Derived.Deep.QuietTactic
import Derived.BigQuiet
namespace Go.Proofs.YtbmgcibclmbelabDoor
open Go.RowKit

theorem Row.drew {w : World} {a : Option Addr} {vs : List V3} (h : Row w a vs) : Row w.drew a vs := h
theorem heap_drewN (w : World) (n : Nat) : (w.drewN n).heap = w.heap := by first | rfl | simp
theorem own_drewN {w : World} {B : Nat} {e : TypeId} {size : Nat} {v : Value} {n : Nat} {xs : List Value} (h : w.ownsRow B e size v n xs) (m : Nat) : (w.drewN m).ownsRow B e size v n xs := by
  unfold World.ownsRow at *
  rw [heap_drewN]
  exact h
theorem kr_drewN {B : Nat} {kv rv : Value} {Rs : List R3} {w : World} (h : KR B kv rv Rs w) (m : Nat) : KR B kv rv Rs (w.drewN m) := ⟨own_drewN h.1 m, own_drewN h.2.1 m, h.2.2⟩
theorem own_slice {w : World} {B : Nat} {e : TypeId} {v : Value} {n : Nat} {xs : List Value} (h : w.ownsRow B e 1 v n xs) : ∃ a c, v = .slice a n c := by
  obtain ⟨_, ⟨rfl, rfl⟩ | ⟨g, c, cur, rfl, _⟩⟩ := h
  · exact ⟨none, 0, rfl⟩
  · exact ⟨_, _, rfl⟩
theorem kr_of {B g1 g2 c1 c2 n : Nat} {Rs : List R3} {w : World} (hn : Rs.length = n) (hg : g1 ≠ g2)
    (hK : w.ownsRow B 9 1 (.slice (some ⟨g1, 0, none⟩) n c1) n (Rs.map keyv)) (hR : w.ownsRow B 25 1 (.slice (some ⟨g2, 0, none⟩) n c2) n (Rs.map rowv)) : KR B (.slice (some ⟨g1, 0, none⟩) n c1) (.slice (some ⟨g2, 0, none⟩) n c2) Rs w := by
  subst hn
  refine ⟨hK, hR, ?_⟩
  intro g h e
  have a : g1 = g := by simpa [Value.ownBlock] using h
  have b : g2 = g := by simpa [Value.ownBlock] using e
  omega

set_option maxHeartbeats 16000000 in
set_option maxRecDepth 100000 in
theorem sorted_small (a : Option Addr) (cap : Nat) (ls : List R3) (w : World) (hl : ls.length ≤ 2147483647) (hrs : RowS w a ls) (h0 : 0 < w.heap.size) (hm : ML w) :
    Calls Tryd.prog 3 #[.slice a ls.length cap] w fun e w' => e = .returned (.bool true) ∧ Below w.heap.size w w' := by
  obtain ⟨i9, hi9, hz90, hz91, hz92⟩ := info_parts Tryd.info9
  obtain ⟨i25, hi25, hz250, hz251, hz252⟩ := info_parts Tryd.info25
  have hli : ¬ (2147483647 : Int) < (ls.length : Int) := by omega
  have HRS0 : Hid (RowS w a ls) := hrs
  clear hrs
  go_enter Tryd.func3, Tryd.ntmps3
  go_wp2_with fail
  refine (kawake_any _ h0 hm).mono ?_; rintro e w1 ⟨rfl, h1⟩
  have z1 := h1.size
  have HRS : Hid (RowS w1 a ls) := HRS0.out.later h1
  have HM1 : Hid (ML w1) := hm.later h1 h0
  have HW1 : Hid (Below w.heap.size w w1) := h1
  have hpos : 0 < w1.heap.size := by omega
  clear HRS0 h1 hm
  go_wp2
  go_loopw [4, 5, 6] (fun kv rv i wr => ∃ (k : Nat) (Rs : List R3), k ≤ ls.length ∧ i = .int .i64 k ∧ Rs.length ≤ k ∧ KR w1.heap.size kv rv Rs wr ∧ (∀ r ∈ Rs, r ∈ ls ∧ (encR r.2.1).2 = 0) ∧ Rs.Pairwise (Ahead rkey) ∧ Below w1.heap.size w1 wr) (fun _ _ i _ => ls.length - (intOf i).toNat)
  case atStart => exact ⟨0, [], Nat.zero_le _, rfl, Nat.le_refl _, kr_nil _ _, by simp, List.Pairwise.nil, Below.refl _ _⟩
  case round =>
    obtain ⟨k, Rs, hk, rfl, hRk, hKR, hgood, hsort, hb⟩ := hrel
    have HG : Hid (∀ r ∈ Rs, r ∈ ls ∧ (encR r.2.1).2 = 0) := hgood
    have HS : Hid (Rs.Pairwise (Ahead rkey)) := hsort
    have HKR : Hid (KR w1.heap.size u4 u5 Rs wr) := hKR
    clear hgood hsort hKR
    have hsz := hb.size
    by_cases hlt : k < ls.length
    · obtain ⟨⟨b, off, rfl, c⟩, row⟩ := HRS.out k hlt
      have hbz := cell_lt c
      obtain ⟨⟨ra, ru, rc⟩, hrk⟩ : ∃ r, ls[k] = r := ⟨_, rfl⟩
      have HMEM : Hid ((ra, ru, rc) ∈ ls) := by
        have : (ra, ru, rc) ∈ ls := by rw [← hrk]; exact List.getElem_mem hlt
        exact this
      rw [hrk] at c row
      have c' : w1.cell? ⟨b, off + k, none⟩ = some (.slice ra ru.length rc) := c
      have ROW : Hid (Row w1 ra ru) := row
      have C1 : Hid (w1.cell? ⟨b, off + k, none⟩ = some (.slice ra ru.length rc)) := c'
      have d := cell_later hb c'
      clear c row c' hrk
      have hlti : (k : Int) < (ls.length : Int) := by omega
      by_cases h8 : 8 < ru.length
      · have h8i : (8 : Int) < (ru.length : Int) := by omega
        go_wp2
        go_roundw
        case rel => exact ⟨k + 1, Rs, by omega, by go_num, by omega, HKR.out, HG.out, HS.out, hb⟩
        case measure => simp [intOf]; omega
      · have h8i : ¬ (8 : Int) < (ru.length : Int) := by omega
        obtain ⟨E, hE⟩ : ∃ E, (encR ru).2 = E := ⟨_, rfl⟩
        obtain ⟨N, hN⟩ : ∃ N, (encR ru).1 = N := ⟨_, rfl⟩
        have hev : encV ru = .tuple #[.string ⟨N.toArray⟩, .int .i64 E] := by unfold encV; rw [hN, hE]
        have HEV : Hid (encV ru = .tuple #[.string ⟨N.toArray⟩, .int .i64 E]) := hev
        have HEE : Hid ((encR ru).2 = E ∧ (encR ru).1 = N) := ⟨hE, hN⟩
        clear hE hN hev
        go_wp2_with fail
        refine (enc_any ra rc ru _ (by omega) (ROW.out.later hb) (by omega) (HM1.out.later hb hpos)).mono ?_; rintro e w2 ⟨rfl, h2⟩
        rw [HEV.out]
        have K2 : Hid (KR w1.heap.size u4 u5 Rs w2) := HKR.out.later h2
        have d2 := cell_later h2 d
        have H2 : Below w1.heap.size w1 w2 := hb.trans (h2.mono hsz)
        have z2 := H2.size
        clear h2 d hb hsz HKR
        go_wp2_with fail
        refine (renc_any ra rc ru _ (by omega) (ROW.out.later H2)).mono ?_; rintro e w3 ⟨rfl, h3⟩
        rw [HEV.out]
        have K3 : Hid (KR w1.heap.size u4 u5 Rs w3) := K2.out.later h3
        have H3 : Below w1.heap.size w1 w3 := H2.trans (h3.mono z2)
        have z3 := H3.size
        clear h3 d2 H2 z2 K2
        by_cases hE0 : E = 0
        · subst hE0
          obtain ⟨hE, hN⟩ := HEE.out
          obtain ⟨_, _, hkb⟩ := encR_zero hE
          rw [hN] at hkb
          subst hkb
          have HE0 : Hid ((encR ru).2 = 0) := hE
          clear HEE HEV hE hN
          obtain ⟨kO, rO, kne⟩ := K3.out
          have kl := kO.lt
          have rl := rO.lt
          go_wp2_with (first | (at_builtin; refine wpList_append_lies _ rfl _ _ 24 rfl w1.heap.size 9 i9 (.string ⟨#[]⟩) 1 16 Tryd.underlying24 hi9 hz90 hz91 hz92 rfl (by decide) u4 Rs.length (Rs.map keyv) rfl (kO.alloc _) ⟨w3.heap.size, 0, none⟩ 1 1 [keyv (ra, ru, rc)] rfl rfl (cells_one w3 _ _) (keyv_one [(ra, ru, rc)]) (by decide) (by unfold maxLen; omega) (by omega) (by simp; omega) (w3.heap.size + 1) (by simp) ?_; intro g1 c1 w4 o4 grow4 at4 lt4; refine Hid.out ?_))
          have H4 : Below w1.heap.size w1 w4 := (H3.alloc (by omega) _).grown grow4 (by simp; omega) fun k hk => (kl k hk).1
          have z4 := H4.size
          have r4 : w4.ownsRow w1.heap.size 25 1 u5 Rs.length (Rs.map rowv) := (rO.alloc _).kept grow4 (by
            cases e : u5.ownBlock with
            | none => exact Or.inl rfl
            | some g => exact Or.inr (fun h => kne g h.symm (by rw [e])))
          have rl4 : ∀ g, u5.ownBlock = some g → g < w3.heap.size := fun g h => (rl g h).2
          have gne : ∀ g, u5.ownBlock = some g → g ≠ g1 := by
            intro g h e
            subst e
            rcases at4 with q | q
            · exact kne g q h
            · have := rl4 g h; omega
          have d4 := cell_later H4 C1.out
          have hg1 : w1.heap.size ≤ g1 := (o4.lt g1 rfl).1
          have HK4 : Hid (w4.ownsRow w1.heap.size 9 1 (.slice (some ⟨g1, 0, none⟩) (Rs.length + 1) c1) (Rs.length + 1) (Rs.map keyv ++ [keyv (ra, ru, rc)])) := o4
          have z34 : w3.heap.size < w4.heap.size := by have := grow4.size; simp at this; omega
          have rl5 := r4.lt
          clear o4 grow4 at4 kO rO kne kl rl K3 H3 z3 rl4
          refine Lib.hid ?_
          go_wp2_with (first | (at_builtin; refine wpList_append_lies _ rfl _ _ 22 rfl w1.heap.size 25 i25 (.slice none 0 0) 1 24 Tryd.underlying22 hi25 hz250 hz251 hz252 rfl (by decide) u5 Rs.length (Rs.map rowv) rfl (r4.alloc _) ⟨w4.heap.size, 0, none⟩ 1 1 [rowv (ra, ru, rc)] rfl rfl (cells_one w4 _ _) (rowv_one [(ra, ru, rc)]) (by decide) (by unfold maxLen; omega) (by omega) (by simp; omega) (w4.heap.size + 1) (by simp) ?_; intro g2 c2 w5 o5 grow5 at5 lt5; refine Hid.out ?_))
          have H5 : Below w1.heap.size w1 w5 := (H4.alloc (by omega) _).grown grow5 (by simp; omega) fun k hk => (rl5 k hk).1
          have k5 : w5.ownsRow w1.heap.size 9 1 (.slice (some ⟨g1, 0, none⟩) (Rs.length + 1) c1) (Rs.length + 1) (Rs.map keyv ++ [keyv (ra, ru, rc)]) := (HK4.out.alloc _).kept grow5 (by
            right
            intro h
            exact gne g1 h.symm rfl)
          have hgg : g1 ≠ g2 := by
            intro e
            subst e
            rcases at5 with q | q
            · exact gne g1 q rfl
            · omega
          have hgg' : g2 ≠ g1 := fun h => hgg h.symm
          have hg2 : w1.heap.size ≤ g2 := (o5.lt g2 rfl).1
          have HK5 : Hid (w5.ownsRow w1.heap.size 9 1 (.slice (some ⟨g1, 0, none⟩) (Rs.length + 1) c1) (Rs.length + 1) ((put Rs Rs.length (ra, ru, rc)).map keyv)) := by
            have : w5.ownsRow w1.heap.size 9 1 (.slice (some ⟨g1, 0, none⟩) (Rs.length + 1) c1) (Rs.length + 1) ((put Rs Rs.length (ra, ru, rc)).map keyv) := by rw [put_end, List.map_append]; exact k5
            exact this
          have HR5 : Hid (w5.ownsRow w1.heap.size 25 1 (.slice (some ⟨g2, 0, none⟩) (Rs.length + 1) c2) (Rs.length + 1) ((put Rs Rs.length (ra, ru, rc)).map rowv)) := by
            have : w5.ownsRow w1.heap.size 25 1 (.slice (some ⟨g2, 0, none⟩) (Rs.length + 1) c2) (Rs.length + 1) ((put Rs Rs.length (ra, ru, rc)).map rowv) := by rw [put_end, List.map_append]; exact o5
            exact this
          have bg1 : b ≠ g1 := by omega
          have bg2 : b ≠ g2 := by omega
          clear o5 grow5 at5 k5 r4 rl5 gne HK4 H4 z4 d4 z34
          refine Lib.hid ?_
          go_wp2
          go_loopw [11] (fun i wr => ∃ j : Nat, j ≤ Rs.length ∧ i = .int .i64 j ∧ wr.ownsRow w1.heap.size 9 1 (.slice (some ⟨g1, 0, none⟩) (Rs.length + 1) c1) (Rs.length + 1) ((put Rs j (ra, ru, rc)).map keyv) ∧ wr.ownsRow w1.heap.size 25 1 (.slice (some ⟨g2, 0, none⟩) (Rs.length + 1) c2) (Rs.length + 1) ((put Rs j (ra, ru, rc)).map rowv) ∧ (∀ x ∈ Rs.drop j, Op.bytesLess (rkey (ra, ru, rc)) (rkey x) = true) ∧ Below w1.heap.size w1 wr) (fun i _ => (intOf i).toNat)
          case atStart => exact ⟨Rs.length, Nat.le_refl _, by first | rfl | (congr 1; omega) | go_num, HK5.out, HR5.out, by simp, H5⟩
          case round =>
            clear HK5 HR5 H5
            obtain ⟨j, hj, rfl, kO, rO, hd, hb⟩ := hrel
            have HD : Hid (∀ x ∈ Rs.drop j, Op.bytesLess (rkey (ra, ru, rc)) (rkey x) = true) := hd
            clear hd
            have f1 := kO.frozenAt
            have f2 := rO.frozenAt
            have y1 := (kO.lt g1 rfl).2
            have y2 := (rO.lt g2 rfl).2
            have hpl := put_length Rs j (ra, ru, rc) hj
            match j, hj, kO, rO, HD, hpl with
            | 0, hj, kO, rO, HD, hpl =>
              have HKR' : Hid (KR w1.heap.size (.slice (some ⟨g1, 0, none⟩) (Rs.length + 1) c1) (.slice (some ⟨g2, 0, none⟩) (Rs.length + 1) c2) (put Rs 0 (ra, ru, rc)) wr) := kr_of hpl hgg kO rO
              have HS' : Hid ((put Rs 0 (ra, ru, rc)).Pairwise (Ahead rkey)) := put_sorted hj HS.out HD.out (fun i _ e => by omega)
              have HG' : Hid (∀ r ∈ put Rs 0 (ra, ru, rc), r ∈ ls ∧ (encR r.2.1).2 = 0) := fun r hr => by
                rcases put_mem hr with rfl | h
                · exact ⟨HMEM.out, HE0.out⟩
                · exact HG.out r h
              have hpl' : (put Rs 0 (ra, ru, rc)).length ≤ k + 1 := by omega
              clear kO rO HD
              go_wp2
              go_quiet (fail)
              go_wp2
              go_roundw
              case rel => exact ⟨k + 1, put Rs 0 (ra, ru, rc), by omega, by go_num, hpl', kr_drewN HKR'.out _, HG'.out, HS'.out, by (repeat (first | exact Below.refl _ _ | assumption | refine Below.drew ?_ | refine below_drewN ?_ _ | refine Below.alloc ?_ (by first | omega | (simp; done) | (simp; omega)) _ | refine Below.setCell ?_ (by first | omega | (simp; done) | (simp; omega)) _ | refine Below.trans ?_ (Below.mono (by assumption) (by first | omega | (simp; done) | (simp; omega)))))⟩
              case measure => simp [intOf]; omega
            | j + 1, hj, kO, rO, HD, hpl =>
              have hjl : j < Rs.length := by omega
              obtain ⟨x, hx⟩ : ∃ x, Rs[j] = x := ⟨_, rfl⟩
              have HX : Hid (Rs[j] = x) := hx
              obtain ⟨A, hA⟩ : ∃ A, rkey x = A := ⟨_, rfl⟩
              have kA : wr.cell? ⟨g1, j, none⟩ = some (.string ⟨A.toArray⟩) := by
                have := key_at kO (by omega) (put_before Rs j (ra, ru, rc) hjl)
                rw [hx] at this
                rw [this]
                unfold keyv
                rw [hA]
              have kB : wr.cell? ⟨g1, j + 1, none⟩ = some (.string ⟨(kbs ru).toArray⟩) := key_at kO (by omega) (put_at Rs (j + 1) (ra, ru, rc) hj)
              have rA : wr.cell? ⟨g2, j, none⟩ = some (.slice x.1 x.2.1.length x.2.2) := by
                have := row_at rO (by omega) (put_before Rs j (ra, ru, rc) hjl)
                rw [hx] at this
                exact this
              have rB : wr.cell? ⟨g2, j + 1, none⟩ = some (.slice ra ru.length rc) := row_at rO (by omega) (put_at Rs (j + 1) (ra, ru, rc) hj)
              have dA := cell_later hb C1.out
              have hw1 := hb.size
              have yb : b < wr.heap.size := by omega
              have j1 : (0 : Int) < ((j + 1 : Nat) : Int) := by omega
              have j2 : ((j + 1 : Nat) : Int) - 1 = (j : Int) := by omega
              have j3 : (j : Int) < ((Rs.length + 1 : Nat) : Int) := by omega
              have j4 : (j : Int) + 1 < (Rs.length : Int) + 1 := by omega
              have j5 : (j : Int) < (Rs.length : Int) + 1 := by omega
              have j6 : (0 : Int) ≤ (j : Int) := by omega
              have j7 : (0 : Int) < (j : Int) + 1 := by omega
              by_cases gt : Op.bytesLess (kbs ru) A = true
              · have t1 : Op.bytesLess A (kbs ru) = false := bl_asymm _ _ gt
                have t2 : (A == kbs ru) = false := by
                  rw [beq_eq_false_iff_ne]
                  intro e
                  rw [e, bl_irrefl] at gt
                  exact absurd gt (by simp)
                have HD2 : Hid (∀ x ∈ Rs.drop j, Op.bytesLess (rkey (ra, ru, rc)) (rkey x) = true) := fun y hy => by
                  rw [List.drop_eq_getElem_cons hjl] at hy
                  rcases List.mem_cons.1 hy with h | h
                  · rw [h, hx, hA]; exact gt
                  · exact HD.out y h
                have hsw := kr_swap hgg hjl kO rO
                rw [hx] at hsw
                have e1 : keyv x = .string ⟨A.toArray⟩ := by unfold keyv; rw [hA]
                have e2 : keyv (ra, ru, rc) = .string ⟨(kbs ru).toArray⟩ := rfl
                have e3 : rowv x = .slice x.1 x.2.1.length x.2.2 := rfl
                have e4 : rowv (ra, ru, rc) = .slice ra ru.length rc := rfl
                rw [e1, e2, e3, e4] at hsw
                have HSW : Hid (((((wr.setCell ⟨g1, j + 1, none⟩ (.string ⟨A.toArray⟩)).setCell ⟨g1, j, none⟩ (.string ⟨(kbs ru).toArray⟩)).setCell ⟨g2, j + 1, none⟩ (.slice x.1 x.2.1.length x.2.2)).setCell ⟨g2, j, none⟩ (.slice ra ru.length rc)).ownsRow w1.heap.size 9 1 (.slice (some ⟨g1, 0, none⟩) (Rs.length + 1) c1) (Rs.length + 1) ((put Rs j (ra, ru, rc)).map keyv) ∧ ((((wr.setCell ⟨g1, j + 1, none⟩ (.string ⟨A.toArray⟩)).setCell ⟨g1, j, none⟩ (.string ⟨(kbs ru).toArray⟩)).setCell ⟨g2, j + 1, none⟩ (.slice x.1 x.2.1.length x.2.2)).setCell ⟨g2, j, none⟩ (.slice ra ru.length rc)).ownsRow w1.heap.size 25 1 (.slice (some ⟨g2, 0, none⟩) (Rs.length + 1) c2) (Rs.length + 1) ((put Rs j (ra, ru, rc)).map rowv)) := hsw
                clear hsw e1 e2 e3 e4 kO rO HD hpl gt hx hA
                go_wp2
                go_quiet (fail)
                go_wp2
                go_roundw
                case rel => exact ⟨j, by omega, by first | go_num | (congr 1; omega), own_drewN HSW.out.1 _, own_drewN HSW.out.2 _, HD2.out, by (repeat (first | exact Below.refl _ _ | assumption | refine Below.drew ?_ | refine below_drewN ?_ _ | refine Below.alloc ?_ (by first | omega | (simp; done) | (simp; omega)) _ | refine Below.setCell ?_ (by first | omega | (simp; done) | (simp; omega)) _ | refine Below.trans ?_ (Below.mono (by assumption) (by first | omega | (simp; done) | (simp; omega)))))⟩
                case measure => simp [intOf]
              · have gt' : Op.bytesLess (kbs ru) A = false := by simpa using gt
                have hcs : Op.bytesLess A (kbs ru) = true ∨ (Op.bytesLess A (kbs ru) = false ∧ (A == kbs ru) = true) := by
                  by_cases e : A = kbs ru
                  · right; rw [e, bl_irrefl]; exact ⟨rfl, by simp⟩
                  · left; exact bl_total _ _ gt' (fun h => e h.symm)
                have HKR' : Hid (KR w1.heap.size (.slice (some ⟨g1, 0, none⟩) (Rs.length + 1) c1) (.slice (some ⟨g2, 0, none⟩) (Rs.length + 1) c2) (put Rs (j + 1) (ra, ru, rc)) wr) := kr_of hpl hgg kO rO
                have HS' : Hid ((put Rs (j + 1) (ra, ru, rc)).Pairwise (Ahead rkey)) := put_sorted hj HS.out HD.out (fun i hi e => by
                  obtain rfl : i = j := by omega
                  unfold Ahead
                  rw [hx, hA]
                  exact gt')
                have HG' : Hid (∀ r ∈ put Rs (j + 1) (ra, ru, rc), r ∈ ls ∧ (encR r.2.1).2 = 0) := fun r hr => by
                  rcases put_mem hr with rfl | h
                  · exact ⟨HMEM.out, HE0.out⟩
                  · exact HG.out r h
                have hpl' : (put Rs (j + 1) (ra, ru, rc)).length ≤ k + 1 := by omega
                clear kO rO HD gt gt' hx hA
                rcases hcs with t1 | ⟨t1, t2⟩
                all_goals
                  go_wp2
                  go_quiet (fail)
                  go_wp2
                  go_roundw
                  case rel => exact ⟨k + 1, put Rs (j + 1) (ra, ru, rc), by omega, by go_num, hpl', kr_drewN HKR'.out _, HG'.out, HS'.out, by (repeat (first | exact Below.refl _ _ | assumption | refine Below.drew ?_ | refine below_drewN ?_ _ | refine Below.alloc ?_ (by first | omega | (simp; done) | (simp; omega)) _ | refine Below.setCell ?_ (by first | omega | (simp; done) | (simp; omega)) _ | refine Below.trans ?_ (Below.mono (by assumption) (by first | omega | (simp; done) | (simp; omega)))))⟩
                  case measure => simp [intOf]; omega
        · have hE1 : (E != 0) = true := by simpa using hE0
          clear hE0 HEE
          go_wp2
          go_roundw
          case rel => exact ⟨k + 1, Rs, by omega, by go_num, by omega, K3.out, HG.out, HS.out, H3⟩
          case measure => simp [intOf]; omega
    · have hk' : k = ls.length := by omega
      subst hk'
      obtain ⟨w2, hw2⟩ : ∃ w2, wr = w2 := ⟨_, rfl⟩
      subst hw2
      by_cases h2 : Rs.length ≤ 1
      · obtain ⟨ka, kc, rfl⟩ := own_slice HKR.out.1
        obtain ⟨la, lc, rfl⟩ := own_slice HKR.out.2.1
        have h2i : ¬ (1 : Int) < (Rs.length : Int) := by omega
        have H2 : Below w1.heap.size w1 wr := hb
        go_wp2
        go_loopw [12] (fun i W => i = .int .i64 1 ∧ Below w1.heap.size w1 W) (fun _ _ => 0)
        case atStart => exact ⟨rfl, H2⟩
        case round =>
          obtain ⟨rfl, hb3⟩ := hrel
          go_wp2
          go_ret
          exact ⟨rfl, HW1.out.trans (hb3.mono z1)⟩
      · obtain ⟨g1, c1, rfl, hg1, _⟩ := HKR.out.1.form (by omega)
        obtain ⟨g2, c2, rfl, hg2, _⟩ := HKR.out.2.1.form (by omega)
        have H2 : Hid (Below w1.heap.size w1 wr) := hb
        clear hb
        go_wp2
        go_loopw [12] (fun i W => ∃ j : Nat, 1 ≤ j ∧ j ≤ Rs.length ∧ i = .int .i64 j ∧ KR w1.heap.size (.slice (some ⟨g1, 0, none⟩) Rs.length c1) (.slice (some ⟨g2, 0, none⟩) Rs.length c2) Rs W ∧ Below w1.heap.size w1 W) (fun i _ => Rs.length - (intOf i).toNat)
        case atStart => exact ⟨1, by omega, by omega, rfl, HKR.out, H2.out⟩
        case round =>
          clear HKR H2
          obtain ⟨j, hj1, hj, rfl, hKR, hb⟩ := hrel
          match j, hj1, hj with
          | j + 1, hj1, hj =>
            by_cases hlt2 : j + 1 < Rs.length
            · have HKR : Hid (KR w1.heap.size (.slice (some ⟨g1, 0, none⟩) Rs.length c1) (.slice (some ⟨g2, 0, none⟩) Rs.length c2) Rs wr) := hKR
              obtain ⟨kO, rO, _⟩ := hKR
              have y1 := (kO.lt g1 rfl).2
              have y2 := (rO.lt g2 rfl).2
              obtain ⟨x, hx⟩ : ∃ x, Rs[j] = x := ⟨_, rfl⟩
              obtain ⟨y, hy⟩ : ∃ y, Rs[j + 1] = y := ⟨_, rfl⟩
              have mx := HG.out x (by rw [← hx]; exact List.getElem_mem _)
              have my := HG.out y (by rw [← hy]; exact List.getElem_mem _)
              have ahd : Ahead rkey x y := by
                have := List.pairwise_iff_getElem.1 HS.out j (j + 1) (by omega) hlt2 (by omega)
                rw [hx, hy] at this
                exact this
              have hst := next_stand mx.2 my.2 ahd
              obtain ⟨ix, hix, ex⟩ := List.getElem_of_mem mx.1
              obtain ⟨iy, hiy, ey⟩ := List.getElem_of_mem my.1
              have rx := (HRS.out ix hix).2
              have ry := (HRS.out iy hiy).2
              rw [ex] at rx
              rw [ey] at ry
              have RX : Hid (Row wr x.1 x.2.1) := rx.later hb
              have RY : Hid (Row wr y.1 y.2.1) := ry.later hb
              have lx := (encR_zero mx.2).1
              have ly := (encR_zero my.2).1
              obtain ⟨A, hA⟩ : ∃ A, rkey x = A := ⟨_, rfl⟩
              obtain ⟨C, hC⟩ : ∃ C, rkey y = C := ⟨_, rfl⟩
              have kA : wr.cell? ⟨g1, j, none⟩ = some (.string ⟨A.toArray⟩) := by
                have := key_at kO (by omega) (List.getElem?_eq_getElem (show j < Rs.length by omega))
                rw [hx] at this
                rw [this]
                unfold keyv
                rw [hA]
              have kC : wr.cell? ⟨g1, j + 1, none⟩ = some (.string ⟨C.toArray⟩) := by
                have := key_at kO (by omega) (List.getElem?_eq_getElem hlt2)
                rw [hy] at this
                rw [this]
                unfold keyv
                rw [hC]
              have rA : wr.cell? ⟨g2, j, none⟩ = some (.slice x.1 x.2.1.length x.2.2) := by
                have := row_at rO (by omega) (List.getElem?_eq_getElem (show j < Rs.length by omega))
                rw [hx] at this
                exact this
              have rC : wr.cell? ⟨g2, j + 1, none⟩ = some (.slice y.1 y.2.1.length y.2.2) := by
                have := row_at rO (by omega) (List.getElem?_eq_getElem hlt2)
                rw [hy] at this
                exact this
              rw [hA, hC] at hst
              have KA : Hid (wr.cell? ⟨g1, j, none⟩ = some (.string ⟨A.toArray⟩)) := kA
              have KC : Hid (wr.cell? ⟨g1, j + 1, none⟩ = some (.string ⟨C.toArray⟩)) := kC
              have j2 : ((j + 1 : Nat) : Int) - 1 = (j : Int) := by omega
              have j4 : (j : Int) + 1 < (Rs.length : Int) := by omega
              have j5 : (j : Int) < (Rs.length : Int) := by omega
              have j6 : (0 : Int) ≤ (j : Int) := by omega
              have j8 : IntKind.i64.wrap (((j + 1 : Nat) : Int) - 1) = (j : Int) := by rw [IntKind.wrap_i64]; omega
              have j9 : IntKind.i64.wrap ((j : Int) + 1 - 1) = (j : Int) := by rw [IntKind.wrap_i64]; omega
              have j14 : IntKind.i64.wrap (j : Int) = (j : Int) := by rw [IntKind.wrap_i64]; omega
              have j10 : ((j + 1 : Nat) : Int) < (Rs.length : Int) := by omega
              have j11 : (0 : Int) ≤ ((j + 1 : Nat) : Int) := by omega
              have j12 : (0 : Int) ≤ (j : Int) + 1 := by omega
              have j13 : ((j : Int) + 1).toNat = j + 1 := by omega
              clear hx hy mx my ahd ex ey rx ry hA hC kA kC kO rO hix hiy
              rcases hst with ⟨o, q⟩ | ⟨o, q⟩
              all_goals
                have HO : Hid (ordL x.2.1 y.2.1 = _) := o
                clear o
                go_wp2
                go_region_held3 (fun w' => w'.cell? ⟨g2, j, none⟩ = some (.slice x.1 x.2.1.length x.2.2) ∧ w'.cell? ⟨g2, j + 1, none⟩ = some (.slice y.1 y.2.1.length y.2.2)) (go_simp)
                  (first | (go_at_call 7; refine (kord_any x.1 y.1 x.2.2 y.2.2 x.2.1 y.2.1 wr.drew (by omega) (by omega) (Row.drew RX.out) (Row.drew RY.out)).mono ?_; rintro e wv ⟨rfl, hbv⟩; rw [HO.out]; (have hcv : ∀ b o, b < wr.heap.size → wv.cell? ⟨b, o, none⟩ = wr.cell? ⟨b, o, none⟩ := fun b o h => hbv.cell (p := ⟨b, o, none⟩) h); have hzv := hbv.size; (try simp at hzv); (have x1 : g2 < wv.heap.size := by omega)))
                have v1 : wv.cell? ⟨g1, j, none⟩ = some (.string ⟨A.toArray⟩) := (hcv g1 j y1).trans KA.out
                have v2 : wv.cell? ⟨g1, j + 1, none⟩ = some (.string ⟨C.toArray⟩) := (hcv g1 (j + 1) y1).trans KC.out
                have hbw : Below wr.heap.size wr wv := ((Below.refl _ _).drew).trans hbv
                have HKV : Hid (KR w1.heap.size (.slice (some ⟨g1, 0, none⟩) Rs.length c1) (.slice (some ⟨g2, 0, none⟩) Rs.length c2) Rs wv) := HKR.out.later hbw
                have HBV : Hid (Below w1.heap.size w1 wv) := hb.trans (hbw.mono hb.size)
                clear hcv hbv rA rC
                go_wp2
                go_quiet (fail)
                go_wp2
                go_roundw
                case rel => exact ⟨j + 2, by omega, by omega, by go_num, kr_drewN HKV.out _, by have := HBV.out; (repeat (first | exact Below.refl _ _ | assumption | refine Below.drew ?_ | refine below_drewN ?_ _ | refine Below.alloc ?_ (by first | omega | (simp; done) | (simp; omega)) _ | refine Below.setCell ?_ (by first | omega | (simp; done) | (simp; omega)) _ | refine Below.trans ?_ (Below.mono (by assumption) (by first | omega | (simp; done) | (simp; omega)))))⟩
                case measure => simp [intOf]; omega
            · have hje : j + 1 = Rs.length := by omega
              have hji : ¬ (j : Int) + 1 < (Rs.length : Int) := by omega
              clear hKR
              go_wp2
              go_ret
              exact ⟨rfl, HW1.out.trans (hb.mono z1)⟩

set_option maxHeartbeats 2000000 in
set_option maxRecDepth 100000 in
theorem sorted_law (a : Option Addr) (cap : Nat) (ls : List R3) (w : World) (hr : RowS w a ls) (h0 : 0 < w.heap.size) (hm : ML w) :
    Calls Tryd.prog 3 #[.slice a ls.length cap] w fun e w' => e = .returned (.bool true) ∧ Below w.heap.size w w' := by
  by_cases hl : ls.length ≤ 2147483647
  · exact sorted_small a cap ls w hl hr h0 hm
  · have hli : (2147483647 : Int) < (ls.length : Int) := by omega
    go_enter Tryd.func3, Tryd.ntmps3
    go_wp2
    go_ret
    exact ⟨rfl, by (repeat (first | exact Below.refl _ _ | assumption | refine Below.drew ?_ | refine below_drewN ?_ _ | refine Below.alloc ?_ (by first | omega | (simp; done) | (simp; omega)) _ | refine Below.setCell ?_ (by first | omega | (simp; done) | (simp; omega)) _ | refine Below.trans ?_ (Below.mono (by assumption) (by first | omega | (simp; done) | (simp; omega)))))⟩
end Go.Proofs.YtbmgcibclmbelabDoor
