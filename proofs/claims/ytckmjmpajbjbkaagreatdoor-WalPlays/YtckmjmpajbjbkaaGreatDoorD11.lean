/- Walks of layer 4, eleventh part: Crash. -/
import Derived.Test.YtckmjmpajbjbkaaGreatDoorD10
import Derived.Test.YtckmjmpajbjbkaaGreatDoorM42
import Derived.Deep.CutRange
namespace Go.Proofs.YtckmjmpajbjbkaaGreatDoor
open Go.RowKit

/-- Numbers in a slice. -/
def Ints (w : World) (p : Option Addr) (ks : List Int) : Prop := ∀ i (h : i < ks.length), ∃ b off, p = some ⟨b, off, none⟩ ∧ w.cell? ⟨b, off + i, none⟩ = some (.int .i64 ks[i])
theorem Ints.only {w w' : World} {p : Option Addr} {ks : List Int} {b : Nat} (h : Ints w p ks) (ho : Only (fun k => k = b) w w') (hb : ∃ es c, w.heap[b]? = some (.map es c)) : Ints w' p ks := by
  intro i hi
  obtain ⟨x, off, e, hcell⟩ := h i hi
  have hx : w'.heap[x]? = w.heap[x]? := ho.block x (World.block_lt_of_cell? _ _ hcell) (fun e' => by
    subst e'
    obtain ⟨_, _, g⟩ := hb
    simp [World.cell?, g] at hcell)
  exact ⟨x, off, e, cell_at hx hcell⟩
theorem Ints.nil (w : World) (p : Option Addr) : Ints w p [] := fun i hi => absurd hi (by simp)
theorem Ints.tail {w : World} {p p' : Option Addr} {x : Int} {ks : List Int} (h : Ints w p (x :: ks)) (hp : 0 < ks.length → ∀ b off, p = some ⟨b, off, none⟩ → p' = some ⟨b, off + 1, none⟩) : Ints w p' ks := by
  intro i hi
  obtain ⟨b, off, e, hcell⟩ := h (i + 1) (by simp; omega)
  refine ⟨b, off + 1, hp (by omega) b off e, ?_⟩
  rw [show off + 1 + i = off + (i + 1) by omega]
  simpa using hcell
theorem Held.isMap {w : World} {Z : Nat → Prop} {b : Nat} {es : List (Nm × Fil)} (h : Held w Z b es) : ∃ es c, w.heap[b]? = some (.map es c) := by
  obtain ⟨x, y, h1, _⟩ := h.map
  exact ⟨x, y, h1⟩
theorem names_kept {w w' : World} {B n cap b : Nat} {g : Nat} {xs : List Value} (h : w.ownsRow B 9 1 (.slice (some ⟨g, 0, none⟩) n cap) n xs) (ho : Only (fun k => k = b) w w') (hb : ∃ es c, w.heap[b]? = some (.map es c)) : w'.ownsRow B 9 1 (.slice (some ⟨g, 0, none⟩) n cap) n xs := by
  have hl := h.lt
  refine own_kept h fun j hj => ho.block j (hl j hj).2 (fun e => ?_)
  obtain ⟨_, ⟨e1, _⟩ | ⟨g1, cap1, cur, e1, _, hg, _⟩⟩ := h
  · simp at e1
  · simp only [Value.slice.injEq, Option.some.injEq, Addr.mk.injEq] at e1
    simp only [Value.ownBlock, Option.some.injEq] at hj
    obtain ⟨_, _, g2⟩ := hb
    rw [← e1.1.1, hj, e, g2] at hg
    cases hg
theorem cut_rel {w2 wr : World} {t : Nat} {u v x : Value} {k : Int} (m0 : w2.cell? ⟨t, 0, none⟩ = some u) (m1 : w2.cell? ⟨t, 1, none⟩ = some x) (mf : ∀ o, w2.frozen? ⟨t, o, none⟩ = false) (hz2 : t < w2.heap.size) (hb : Below t wr w2) :
    Value.int .i64 k = .int .i64 k ∧ (w2.setCell ⟨t, 0, none⟩ v).cell? ⟨t, 0, none⟩ = some v ∧ (w2.setCell ⟨t, 0, none⟩ v).cell? ⟨t, 1, none⟩ = some x ∧ (∀ o, (w2.setCell ⟨t, 0, none⟩ v).frozen? ⟨t, o, none⟩ = false) ∧ t < (w2.setCell ⟨t, 0, none⟩ v).heap.size ∧ Below t wr (w2.setCell ⟨t, 0, none⟩ v) :=
  ⟨rfl, World.cell?_setCell_same _ _ _ m0, by rw [World.cell?_setCell_other _ _ _ _ (by simp)]; exact m1, fun o => by rw [World.frozen?_setCell]; exact mf o, by simpa [World.setCell] using hz2, hb.setCell (Nat.le_refl _) _⟩
theorem below_drewN {B : Nat} {a w : World} (h : Below B a w) (n : Nat) : Below B a (w.drewN n) := ⟨h.os, h.tape, h.output, h.size, h.block⟩
theorem max_eq (K : Int) (W : World) : (Builtin.max_ #[3, 3] 3 #[.int .i64 K, .int .i64 0]).run Tryz.prog W = .ok (.int .i64 (K.toNat : Int)) W := by
  have : (if (0 : Int) > K then (0 : Int) else K) = (K.toNat : Int) := by split <;> omega
  simp [Builtin.max_, Builtin.max2]
  omega
theorem min_eq (a b : Nat) (W : World) : (Builtin.min_ #[3, 3] 3 #[.int .i64 (a : Int), .int .i64 (b : Int)]).run Tryz.prog W = .ok (.int .i64 ((min a b : Nat) : Int)) W := by
  simp [Builtin.min_, Builtin.min2]
  omega

set_option maxHeartbeats 8000000 in
set_option maxRecDepth 100000 in
theorem crash_any (w : World) (Z : Nat → Prop) (a : Nat) (st : St) (kp : Option Addr) (kcap : Nat) (ks : List Int) (h : IsDisk w Z a st) (hk : Ints w kp ks) (hcap : ks.length ≤ kcap) (hkl : ks.length ≤ 2147483648) :
    Calls Tryz.prog 15 #[.pointer (some ⟨a, 0, none⟩), .slice kp ks.length kcap] w fun e w' => e = .returned (.tuple #[]) ∧ IsDisk w' Z a (crashR st ks) ∧ Only Z w w' := by
  have HI : Hid (IsDisk w Z a st) := h
  obtain ⟨b, es, h⟩ := h
  obtain ⟨c0, c1, c2, c3, c4, cf⟩ := cell5 h.cells
  have hfew := h.ok.files.few
  have hsm := h.ok.files.small
  have HD : Hid (DiskAt w Z a st b es) := h
  have HIN : Hid (Ints w kp ks) := hk
  have hab := h.ne.1
  have la := h.lt
  obtain ⟨fs, hfs⟩ : ∃ fs, st.fs = fs := ⟨_, rfl⟩
  have HFS : Hid (st.fs = fs) := hfs
  rw [hfs] at hfew
  clear hfs h hk
  go_enter Tryz.func15, Tryz.ntmps15
  go_wp2_with (first | (go_at_call 49; refine (names_any _ Z a st HI.out).mono ?_; rintro e w0 ⟨v0, rfl, hn0, hb0⟩; rw [HFS.out] at hn0; obtain ⟨pn, capn, rfl⟩ := own_form hn0))
  go_loopw [1, 11] (fun kv i wr => ∃ (k : Nat) (es' : List (Nm × Fil)) (p : Option Addr) (c : Nat) (ls : List Int), k ≤ fs.length ∧ i = .int .i64 k ∧ kv = .slice p ls.length c ∧ ls.length ≤ c ∧ ls.length ≤ 2147483648 ∧ ls = restK ks (fs.take k) ∧ Ints wr p ls ∧ Held wr Z b es' ∧ mapL Fil.fl es' = mid ks fs k ∧ wr.ownsRow w.heap.size 9 1 (.slice pn fs.length capn) fs.length (fs.map fun p => encStr p.1) ∧ Only (fun k => k = b) w wr) (fun _ i _ => fs.length - (intOf i).toNat)
  case atStart => exact ⟨0, es, kp, kcap, ks, Nat.zero_le _, rfl, rfl, hcap, hkl, rfl, HIN.out.only (Only.of hb0) HD.out.held.isMap, HD.out.held.later hb0, by rw [mid_zero, ← HFS.out, HD.out.files], hn0, Only.of hb0⟩
  case round =>
    clear hn0 hb0 hcap hkl
    obtain ⟨k, es', p, c, ls, hk, rfl, rfl, hlc, hll, hls, hin, hh, hm, hnm, hon⟩ := hrel
    by_cases hlt : k < fs.length
    · have hlti : (k : Int) < (fs.length : Int) := by omega
      obtain ⟨g, rfl, hgb, _, hcell⟩ := own_elem hnm k (by simpa using hlt)
      have hA := (hon.block a la hab).trans HD.out.cells
      have c01 := (cell5 hA).1
      have hel : es'.length = fs.length := by
        have := congrArg List.length hm
        rw [mapL_length, mid_length] at this
        exact this
      have hek : k < es'.length := by omega
      have hes : es'.length < 1000 := by omega
      have hget := getL_at hh.sorted hek
      obtain ⟨nm, f, he⟩ : ∃ nm f, es'[k] = (nm, f) := ⟨_, _, rfl⟩
      have hfk : fs[k] = (nm, f.fl) := by
        have h2 := mid_at (ks := ks) hlt
        rw [← hm] at h2
        simp [mapL, hek, he] at h2
        exact h2.symm
      have hpo : ∀ x, putL es' nm x = es'.set k (nm, x) := fun x => by
        have := putL_at hh.sorted hek x
        rw [he] at this
        exact this
      rw [he] at hget
      simp only at hget
      have hmem : (nm, f.fl) ∈ st.fs := by
        rw [HFS.out, ← hfk]
        exact List.getElem_mem hlt
      have hnl := (nmOk_len (HD.out.ok.files.names _ hmem)).2
      have hsf : f.safe ≤ f.dat.length := HD.out.ok.files.safe _ hmem
      have hdl : f.dat.length ≤ st.size := HD.out.ok.files.len hmem
      simp only at hnl
      have hcn : wr.cell? ⟨g, k, none⟩ = some (.string ⟨nm.toArray⟩) := by
        rw [hcell]
        simp [hfk]
      have HP : Hid (∀ x, mapL Fil.fl (putL es' nm x) = (mid ks fs k).set k (nm, x.fl)) := fun x => by
        rw [hpo, ← hm]
        simp [mapL, List.map_set]
      obtain ⟨p0, cap0, ev, er⟩ := rawOf hh hget
      have hl := hh.look (s := ⟨nm.toArray⟩) (by simp [ByteArray.size]; unfold maxLen; omega)
      simp only at hl
      rw [er] at hl
      have HO : Hid (ownB wr (.slice p0 f.dat.length cap0) f.dat) := by
        have := hh.rows _ (getL_mem hget)
        simp only [ev] at this
        exact this
      have hbl : ∀ g, (Value.slice p0 f.dat.length cap0).ownBlock = some g → g < wr.heap.size := fun g e => by
        obtain ⟨c, fr, e'⟩ := HO.out.lt e
        exact (Array.getElem?_eq_some_iff.1 e').1
      have HBL : Hid (∀ g, (Value.slice p0 f.dat.length cap0).ownBlock = some g → g < wr.heap.size) := hbl
      have hcd : f.dat.length ≤ cap0 := by
        obtain ⟨p1, cap1, e1, h1⟩ := HO.out.form
        simp only [Value.slice.injEq] at e1
        obtain ⟨_, _, rfl⟩ := e1
        exact h1
      have HZN : Hid (∀ g, (Value.slice p0 f.dat.length cap0).ownBlock = some g → Z g) := fun g e => hh.zone _ (getL_mem hget) g (by simp only [ev]; exact e)
      have HAP : Hid (∀ g, (Value.slice p0 f.dat.length cap0).ownBlock = some g → ∀ q ∈ es', q.2.v.ownBlock = some g → q.1 = nm) := fun g e q hq e' => hh.apart q hq _ (getL_mem hget) g e' (by simp only [ev]; exact e)
      have HK : Hid (Held wr Z b es') := hh
      have HNM : Hid (wr.ownsRow w.heap.size 9 1 (.slice (some ⟨g, 0, none⟩) fs.length capn) fs.length (fs.map fun p => encStr p.1)) := hnm
      have HON : Hid (Only (fun k => k = b) w wr) := hon
      have HIT : Hid (Ints wr p ls) := hin
      have HLS : Hid (ls = restK ks (fs.take k)) := hls
      have HMS : Hid ((mid ks fs k).set k (crashOne ls (nm, f.fl)) = mid ks fs (k + 1) ∧ restK ks (fs.take (k + 1)) = restOne ls (nm, f.fl)) := by
        have h1 := mid_set (ks := ks) hlt
        have h2 := restK_succ (ks := ks) hlt
        rw [hfk, ← hls] at h1 h2
        exact ⟨h1, h2⟩
      have la' : a < wr.heap.size := by have := hon.size; omega
      obtain ⟨n, hn⟩ : ∃ n, f.dat.length = n := ⟨_, rfl⟩
      obtain ⟨sf, hsfe⟩ : ∃ sf, f.safe = sf := ⟨_, rfl⟩
      have HN : Hid (f.dat.length = n) := hn
      have HSF : Hid (f.safe = sf) := hsfe
      rw [hn] at hl HO hbl HBL hcd HZN HAP hdl hsf
      rw [hsfe] at hl hsf
      obtain ⟨T, hT⟩ : ∃ T, n - sf = T := ⟨_, rfl⟩
      have HT : Hid (n - sf = T) := hT
      have HFL : Hid (f.fl = (f.dat, sf)) := by show f.fl = (f.dat, sf); rw [← hsfe]; rfl
      have hmb := hh.isMap
      have HMB : Hid (∃ es c, wr.heap[b]? = some (.map es c)) := hmb
      have hbw : b < wr.heap.size := hh.map.lt
      clear hh hnm hon hin hls hcell hget he hfk er ev hA hbl hel hek hpo hm hmem hn hsfe hmb
      by_cases hT0 : 0 < T
      · have hT0i : (0 : Int) < (T : Int) := by omega
        go_upto_if 26 with (first
            | (go_at_call 50; refine (tail_any p0 n cap0 sf _ hsf (by omega)).mono ?_; rintro e w1 ⟨rfl, hb1⟩; rw [hT]; (have hb2 : Below wr.heap.size wr w1 := ((Below.refl _ _).alloc (Nat.le_refl _) _).trans (hb1.mono (by simp))); (have k0 : w1.cell? ⟨wr.heap.size, 0, none⟩ = some (.slice p0 n cap0) := cell_later hb1 (by simp)); (have k1 : w1.cell? ⟨wr.heap.size, 1, none⟩ = some (.int .i64 (sf : Int)) := cell_later hb1 (by simp)); (have kf : ∀ o, w1.frozen? ⟨wr.heap.size, o, none⟩ = false := fun o => by rw [hb1.frozen (p := ⟨wr.heap.size, o, none⟩) (by simp)]; simp); (have hz1 : wr.heap.size < w1.heap.size := by have := hb1.size; simp at this; omega); (have HB2 : Hid (Below wr.heap.size wr w1) := hb2); clear hb1 hb2))
        go_cut [1, 7, 11] from 11 to 52 (fun kv kk i wx => ∃ (p' : Option Addr) (c' : Nat) (K : Int), i = .int .i64 (k : Int) ∧ kk = .int .i64 K ∧ kv = .slice p' ls.tail.length c' ∧ ls.tail.length ≤ c' ∧ K = ls.headD 0 ∧ Ints wr p' ls.tail ∧ wx.cell? ⟨wr.heap.size, 0, none⟩ = some (.slice p0 n cap0) ∧ wx.cell? ⟨wr.heap.size, 1, none⟩ = some (.int .i64 (sf : Int)) ∧ (∀ o, wx.frozen? ⟨wr.heap.size, o, none⟩ = false) ∧ wr.heap.size < wx.heap.size ∧ Below wr.heap.size wr wx)
        case first =>
          clear HMS HP HK HNM HON HLS HO HBL HZN HAP HN HSF HFL HMB HT HD HI HIN HFS hcn hl hgb c0 c1 c2 c3 c4 cf c01 hnl hes la la' hab hbw hlt hlti hk hfew
          cases ls with
          | nil =>
            go_wp2
            go_meet
            case rel => exact ⟨p, c, 0, rfl, rfl, rfl, hlc, rfl, Ints.nil _ _, k0, k1, kf, hz1, HB2.out⟩
          | cons x xs =>
            obtain ⟨bx, ox, rfl, hx0⟩ := HIT.out 0 (by simp)
            have hx1 := cell_later (HB2.out.mono (Nat.le_refl _)) hx0
            simp only [Nat.add_zero, List.getElem_cons_zero] at hx1
            have hll1 : (0 : Int) < ((xs.length + 1 : Nat) : Int) := by omega
            simp only [List.length_cons] at hlc hll ⊢
            have HT1 : Hid (∀ p', (0 < xs.length → p' = some ⟨bx, ox + 1, none⟩) → Ints wr p' xs) := fun p' h => HIT.out.tail fun h0 b off e => by
              simp only [Option.some.injEq, Addr.mk.injEq] at e
              rw [h h0, ← e.1, ← e.2.1]
            go_wp2
            go_quiet (fail)
            go_wp2
            all_goals
              go_meet
              case rel =>
                first
                  | exact ⟨some ⟨bx, ox + 1, none⟩, c - 1, x, rfl, rfl, rfl, by simp only [List.tail_cons]; omega, rfl, HT1.out _ (fun _ => rfl), by go_simp, by go_simp, by intro o; go_simp, by go_simp, below_drewN HB2.out _⟩
                  | exact ⟨some ⟨bx, ox, none⟩, 0, x, rfl, rfl, rfl, by simp only [List.tail_cons]; omega, rfl, HT1.out _ (fun h0 => absurd h0 (by omega)), by go_simp, by go_simp, by intro o; go_simp, by go_simp, below_drewN HB2.out _⟩
        case rest =>
          obtain ⟨p', c', K, rfl, rfl, rfl, hlc', hK, hint, k0, k1, kf, hz1, hb2⟩ := hcut
          have HB2 : Hid (Below wr.heap.size wr wc) := hb2
          have HIN2 : Hid (Ints wr p' ls.tail) := hint
          have HKH : Hid (K = ls.headD 0) := hK
          have hll' : ls.tail.length ≤ 2147483648 := by rw [List.length_tail]; omega
          clear hb2 hint hK
          obtain ⟨TL, hTL⟩ : ∃ TL, ls.tail.length = TL := ⟨_, rfl⟩
          have HTL : Hid (ls.tail.length = TL) := hTL
          rw [hTL] at hlc' hll' ⊢
          clear hTL
          obtain ⟨M, hM⟩ : ∃ M, min K.toNat T = M := ⟨_, rfl⟩
          have HM : Hid (min K.toNat T = M) := hM
          have hMT : M ≤ T := by omega
          obtain ⟨X, hX⟩ : ∃ X, K.toNat = X := ⟨_, rfl⟩
          have hmax := max_eq K
          rw [hX] at hmax hM
          have hmin := min_eq X T
          rw [hM] at hmin
          clear hM hX
          have HC : Hid (crashOne ls (nm, f.fl) = (nm, (f.dat.take (sf + M), sf + M)) ∧ restOne ls (nm, f.fl) = ls.tail) := by
            have := crashOne_tail (ks := ls) (p := (nm, f.fl)) (by rw [HFL.out]; simp only [HN.out]; omega)
            rw [HFL.out] at this ⊢
            simp only [HN.out, HT.out, keeps] at this
            rw [← HM.out, HKH.out]
            exact this
          obtain ⟨E, hE⟩ : ∃ E, sf + M = E := ⟨_, rfl⟩
          rw [hE] at HC
          have hEi : (sf : Int) + (M : Int) = (E : Int) := by omega
          have hEn : E ≤ n := by omega
          have hEc : (E : Int) ≤ (cap0 : Int) := by omega
          have hwE : IntKind.i64.wrap (E : Int) = (E : Int) := by rw [IntKind.wrap_i64]; omega
          have HCUT : Hid (ownB wr (.slice p0 E cap0) (f.dat.take E)) := HO.out.cut (by rw [HN.out]; exact hEn)
          have HX : Hid (∀ g, (Value.slice p0 E cap0).ownBlock = some g → (Value.slice p0 n cap0).ownBlock = some g) := by
            intro g e
            cases p0 with
            | none => cases e
            | some ad => exact e
          clear hE
          go_upto_region 8 with fail
          go_cut [11] from 11 to 52 (fun i wx => i = .int .i64 (k : Int) ∧ wx.cell? ⟨wr.heap.size, 0, none⟩ = some (.slice p0 E cap0) ∧ wx.cell? ⟨wr.heap.size, 1, none⟩ = some (.int .i64 (sf : Int)) ∧ (∀ o, wx.frozen? ⟨wr.heap.size, o, none⟩ = false) ∧ wr.heap.size < wx.heap.size ∧ Below wr.heap.size wr wx)
          case first =>
            clear HMS HP HK HNM HON HIT HLS HO HBL HZN HAP HC HCUT HN HSF HFL HMB HM HT HX HD HI HIN HFS HIN2 HKH HTL hlc' hll' hcn hl hgb c0 c1 c2 c3 c4 cf c01 hnl hes la la' hab hbw hlt hlti hk hll hlc hfew
            go_region_law (first
              | (go_simp; go_at_call 50; refine (tail_any p0 n cap0 sf _ hsf (by omega)).mono ?_; rintro e w2 ⟨rfl, hb3⟩; rw [hT]; dsimp only; (have m0 : w2.cell? ⟨wr.heap.size, 0, none⟩ = some (.slice p0 n cap0) := cell_later hb3 k0); (have m1 : w2.cell? ⟨wr.heap.size, 1, none⟩ = some (.int .i64 (sf : Int)) := cell_later hb3 k1); (have mf : ∀ o, w2.frozen? ⟨wr.heap.size, o, none⟩ = false := fun o => (hb3.frozen (p := ⟨wr.heap.size, o, none⟩) hz1).trans (kf o)); (have HB3 : Hid (Below wr.heap.size wr w2) := (HB2.out.drew).trans (hb3.mono (Nat.le_of_lt hz1))); (have hz2 : wr.heap.size < w2.heap.size := Nat.lt_of_lt_of_le hz1 hb3.size); clear hb3))
            all_goals
              go_wp2_with fail
              go_meet
              case rel => exact cut_rel m0 m1 mf hz2 HB3.out
          case rest =>
            obtain ⟨rfl, m0, m1, mf, hz2, hb3⟩ := hcut
            have HB3 : Hid (Below wr.heap.size wr wc) := hb3
            clear hb3
            go_wp2_with (first
              | (go_at_call 29; refine (put_any _ Z a b es' ⟨nm.toArray⟩ (f.dat.take E) E p0 E cap0 (cell_later (HB3.out.setCell (Nat.le_refl _) _) c01) (HK.out.later (HB3.out.setCell (Nat.le_refl _) _)) (by simp [ByteArray.size]; omega) hes (HCUT.out.kept fun g e => (HB3.out.setCell (Nat.le_refl _) _).block g (HBL.out g (HX.out g e))) (fun g e => HZN.out g (HX.out g e)) (fun g e q hq e' => by simpa using HAP.out g (HX.out g e) q hq e')).mono ?_; rintro e w2 ⟨rfl, hh2, ho2⟩))
            have HW2 : Hid (Only (fun k => k = b) wr w2) := (Only.of (HB3.out.setCell (Nat.le_refl _) _)).trans ho2
            have HH2 : Hid (Held w2 Z b (putL es' nm ⟨f.dat.take E, E, .slice p0 E cap0⟩)) := by simpa [Hid] using hh2
            clear hh2 ho2
            go_roundw
            case rel => exact ⟨k + 1, putL es' nm ⟨f.dat.take E, E, .slice p0 E cap0⟩, p', c', ls.tail, by omega, by go_num, by rw [HTL.out], by rw [HTL.out]; exact hlc', by rw [HTL.out]; exact hll', by rw [HMS.out.2, HC.out.2], HIN2.out.only HW2.out HMB.out, HH2.out, by rw [HP.out, ← HMS.out.1, HC.out.1]; rfl, names_kept HNM.out HW2.out HMB.out, HON.out.trans HW2.out⟩
            case measure => simp [intOf]; omega
      · have hT0i : ¬ (0 : Int) < (T : Int) := by omega
        have HC : Hid (crashOne ls (nm, f.fl) = (nm, (f.dat, n)) ∧ restOne ls (nm, f.fl) = ls) := by
          have := crashOne_none (ks := ls) (p := (nm, f.fl)) (by rw [HFL.out]; simp only [HN.out]; omega)
          rw [HFL.out] at this ⊢
          simp only [HN.out] at this
          exact this
        go_wp2_with (first
          | (go_at_call 50; refine (tail_any p0 n cap0 sf _ hsf (by omega)).mono ?_; rintro e w1 ⟨rfl, hb1⟩; rw [hT]; (have hb2 : Below wr.heap.size wr w1 := ((Below.refl _ _).alloc (Nat.le_refl _) _).trans (hb1.mono (by simp))); (have k0 : w1.cell? ⟨wr.heap.size, 0, none⟩ = some (.slice p0 n cap0) := cell_later hb1 (by simp)); (have k1 : w1.cell? ⟨wr.heap.size, 1, none⟩ = some (.int .i64 (sf : Int)) := cell_later hb1 (by simp)); (have kf : ∀ o, w1.frozen? ⟨wr.heap.size, o, none⟩ = false := fun o => by rw [hb1.frozen (p := ⟨wr.heap.size, o, none⟩) (by simp)]; simp); (have HB2 : Hid (Below wr.heap.size wr w1) := hb2); clear hb1 hb2)
          | (go_at_call 29; refine (put_any _ Z a b es' ⟨nm.toArray⟩ f.dat n p0 n cap0 (cell_later (HB2.out.setCell (Nat.le_refl _) _) c01) (HK.out.later (HB2.out.setCell (Nat.le_refl _) _)) (by simp [ByteArray.size]; omega) hes (HO.out.kept fun g e => (HB2.out.setCell (Nat.le_refl _) _).block g (HBL.out g e)) HZN.out (by simpa using HAP.out)).mono ?_; rintro e w2 ⟨rfl, hh2, ho2⟩))
        have HW2 : Hid (Only (fun k => k = b) wr w2) := (Only.of (HB2.out.setCell (Nat.le_refl _) _)).trans ho2
        have HH2 : Hid (Held w2 Z b (putL es' nm ⟨f.dat, n, .slice p0 n cap0⟩)) := by simpa [Hid] using hh2
        clear hh2 ho2
        go_roundw
        case rel => exact ⟨k + 1, putL es' nm ⟨f.dat, n, .slice p0 n cap0⟩, p, c, ls, by omega, by go_num, rfl, hlc, hll, by rw [HMS.out.2, HC.out.2], HIT.out.only HW2.out HMB.out, HH2.out, by rw [HP.out, ← HMS.out.1, HC.out.1]; rfl, names_kept HNM.out HW2.out HMB.out, HON.out.trans HW2.out⟩
        case measure => simp [intOf]; omega
    · have hk' : k = fs.length := by omega
      subst hk'
      have hA := (hon.block a la hab).trans HD.out.cells
      obtain ⟨d0, d1, d2, d3, d4, df⟩ := cell5 hA
      have HK : Hid (Held wr Z b es') := hh
      have HM : Hid (mapL Fil.fl es' = mid ks fs fs.length) := hm
      have HO : Hid (Only (fun k => k = b) w wr) := hon
      have HA : Hid (wr.heap[a]? = some (.cells (dcells b st) 73 (0, 0))) := hA
      clear hh hm hon hnm hin hls hA
      go_wp2
      go_end0
      have hok := crashR_ok HD.out.ok ks
      have hset := dc_set3 (dc_set4 HA.out false) (-1)
      refine ⟨rfl, ⟨b, es', ?_, HD.out.za, ?_, ?_, hok⟩, ?_⟩
      · exact hset
      · refine HK.out.kept fun j hj => ?_
        have hne : j ≠ a := by
          rcases hj with rfl | ⟨q, hq, e⟩
          · exact fun e => hab e.symm
          · exact fun e' => (HK.out.ne HA.out (by decide)).2 q hq (by rw [e, e'])
        rw [Below.heap_setCell _ _ _ _ hne, Below.heap_setCell _ _ _ _ hne]
      · show crashL ks st.fs = _
        rw [HM.out, mid_end, HFS.out]
      · exact ((HO.out.mono fun k e => by rw [e]; exact HD.out.held.zb).setCell HD.out.za _).setCell HD.out.za _
end Go.Proofs.YtckmjmpajbjbkaaGreatDoor
