/- Walks of layer 7: a kid that is too wide is cut into two. -/
import Derived.Test.YtlpannicklkghaaB6
namespace Go.Proofs.Ytlpannicklkghaa
open Go.RowKit

/-- What fit leaves. -/
def FitP (w : World) (Z : Nat → Prop) (p k : Nd) (px kx : Option Nat) (R : List NX) (i m : Nat) (e : Ending) (w' : World) : Prop :=
  e = .returned (.tuple #[]) ∧ Only Z w w' ∧ ((k.its.length ≤ m ∧ Hp w' Z ((p, px) :: (k, kx) :: R)) ∨
    (m < k.its.length ∧ ∃ v1 v2 v3 nb x r, k.its.drop (k.its.length / 2) = x :: r ∧ w.heap.size ≤ nb ∧ Hp w' Z ((⟨p.b, v1, p.its.take (i + 1) ++ ⟨x.key, ⟨#[]⟩, some nb⟩ :: p.its.drop (i + 1)⟩, px) :: (⟨k.b, v2, k.its.take (k.its.length / 2)⟩, some nb) :: (⟨nb, v3, x :: r⟩, kx) :: R)))
theorem perm2 (a b : NX) (R : List NX) : (a :: b :: R).Perm (b :: a :: R) := List.Perm.swap ..

set_option maxHeartbeats 8000000 in
set_option maxRecDepth 100000 in
theorem fit_any (w : World) (Z : Nat → Prop) (p k : Nd) (px kx : Option Nat) (R : List NX) (i m : Nat) (h : Hp w Z ((p, px) :: (k, kx) :: R)) (hZ : ∀ k, w.heap.size ≤ k → Z k) (hi : i < p.its.length) (hk : (p.its[i]).kid = some k.b) (hpl : p.its.length ≤ 100000) (hkl : k.its.length ≤ 100000) (hm : 1 ≤ m) :
    Calls Try.prog 51 #[.pointer (some ⟨p.b, 0, none⟩), .int .i64 (i : Int), .int .i64 (m : Int)] w (FitP w Z p k px kx R i m) := by
  have HH : Hid (Hp w Z ((p, px) :: (k, kx) :: R)) := h
  have HZ : Hid (∀ k, w.heap.size ≤ k → Z k) := hZ
  have hp := h.head
  have hkn := h.tail.head
  simp only at hp hkn
  have p0 := hp.nc.c0
  obtain ⟨gp, capp, ep, _, _, hgp, hcp, _⟩ := irow_at hp.row (by omega)
  rw [ep] at p0
  have pk := (hcp i hi).2.2
  rw [hk] at pk
  simp only [Option.map_some] at pk
  have k0 := hkn.nc.c0
  obtain ⟨pk1, capk, ek, hck, hcm⟩ := irow_form hkn.row
  rw [ek] at k0
  obtain ⟨np, hnp⟩ : ∃ np, p.its.length = np := ⟨_, rfl⟩
  obtain ⟨nk, hnk⟩ : ∃ nk, k.its.length = nk := ⟨_, rfl⟩
  obtain ⟨bp, hbp⟩ : ∃ bp, p.b = bp := ⟨_, rfl⟩
  obtain ⟨bk, hbk⟩ : ∃ bk, k.b = bk := ⟨_, rfl⟩
  have HN : Hid (p.its.length = np ∧ k.its.length = nk ∧ p.b = bp ∧ k.b = bk) := ⟨hnp, hnk, hbp, hbk⟩
  have HEP : Hid (p.v = .slice (some ⟨gp, 0, none⟩) np capp) := by rw [← hnp]; exact ep
  have HEK : Hid (k.v = .slice pk1 nk capk) := by rw [← hnk]; exact ek
  rw [hnp, hbp] at p0
  rw [hbk] at pk
  rw [hnk, hbk] at k0
  rw [hnp] at hi hpl
  rw [hnk] at hkl hck
  rw [hbp]
  have hii : (i : Int) < (np : Int) := by omega
  clear h hZ hp hkn hcp ep ek hnp hnk hbp hbk hk
  by_cases hle : nk ≤ m
  · have hlei : (nk : Int) ≤ (m : Int) := by omega
    go_enter Try.func51, Try.ntmps51
    go_wp2
    go_end0
    exact ⟨rfl, Only.refl _ _, Or.inl ⟨by rw [HN.out.2.1]; exact hle, HH.out⟩⟩
  · have hlei : ¬ (nk : Int) ≤ (m : Int) := by omega
    have hkrow : w.ownsRow 0 86 3 (.slice pk1 nk capk) nk (ic k.its) := by
      have := HH.out.tail.head.row
      simp only [HEK.out, HN.out.2.1] at this
      exact this
    obtain ⟨gk, rfl⟩ : ∃ gk, pk1 = some ⟨gk, 0, none⟩ := by
      obtain ⟨_, ⟨_, h0⟩ | ⟨g, cap', cur, e, _⟩⟩ := hkrow
      · omega
      · simp only [Value.slice.injEq] at e
        exact ⟨g, e.1⟩
    obtain ⟨H, hH⟩ : ∃ H, nk / 2 = H := ⟨_, rfl⟩
    have hHi : (nk : Int) / 2 = (H : Int) := by omega
    have hH1 : 0 < H := by omega
    have hH2 : H < nk := by omega
    have HH2 : Hid (k.its.length / 2 = H) := by rw [HN.out.2.1]; exact hH
    obtain ⟨q, hq⟩ : ∃ q : Option Addr, (kx.map fun b => (⟨b, 0, none⟩ : Addr)) = q := ⟨_, rfl⟩
    have HQ : Hid (pOf kx = q) := hq
    have k1 : w.cell? ⟨bk, 1, none⟩ = some (.pointer q) := by
      have := HH.out.tail.head.nc.c1
      simp only [HN.out.2.2.2, hq] at this
      exact this
    obtain ⟨x, r, hxr⟩ : ∃ x r, k.its.drop H = x :: r := by
      match hd : k.its.drop H with
      | [] =>
        have := congrArg List.length hd
        rw [List.length_drop, HN.out.2.1] at this
        simp at this
        omega
      | x :: r => exact ⟨x, r, rfl⟩
    have hdl : (k.its.drop H).length = nk - H := by rw [List.length_drop, HN.out.2.1]
    have htl : (k.its.take H).length = H := by rw [List.length_take, HN.out.2.1]; omega
    have HCL : Hid (∀ W, Below w.heap.size w W → Calls Try.prog 58 #[.slice (some ⟨gk, H * 3, none⟩) (nk - H) (capk - H)] W fun e w' => ∃ g cap, e = .returned (.slice (some ⟨g, 0, none⟩) (nk - H) cap) ∧ w'.ownsRow W.heap.size 86 3 (.slice (some ⟨g, 0, none⟩) (nk - H) cap) (nk - H) (ic (x :: r)) ∧ Below W.heap.size W w') := fun W hb => by
      have := cloneI_any W gk (H * 3) (capk - H) (k.its.drop H) (by omega) (by omega) (fun j u hj => by
        have hj2 := (List.getElem?_eq_some_iff.1 hj).1
        rw [ic_length, hdl] at hj2
        refine cell_later hb ?_
        rw [hkrow.cellAt _ (by omega), ← ic_drop k.its H j (by rw [HN.out.2.1]; omega)]
        exact hj)
      rw [hdl, hxr] at this
      exact this
    have HDE : Hid (∀ W, W.ownsRow 0 86 3 (.slice (some ⟨gk, 0, none⟩) nk capk) nk (ic k.its) → Calls Try.prog 34 #[.slice (some ⟨gk, 0, none⟩) nk capk, .int .i64 (H : Int), .int .i64 (nk : Int)] W fun e w' => e = .returned (.slice (some ⟨gk, 0, none⟩) H capk) ∧ w'.ownsRow 0 86 3 (.slice (some ⟨gk, 0, none⟩) H capk) H (ic (k.its.take H)) ∧ Only (fun k => k = gk) W w') := fun W hW => by
      have := delete_any W gk capk k.its H nk (by rw [HN.out.2.1]; exact hW) hH2 (by rw [HN.out.2.1]; exact Nat.le_refl _) (by rw [HN.out.2.1]; omega)
      rw [HN.out.2.1, Nat.sub_self, Nat.add_zero, List.drop_eq_nil_of_le (by rw [HN.out.2.1]; exact Nat.le_refl _), List.append_nil] at this
      exact this
    have hH3 : (0 : Int) ≤ (H : Int) := by omega
    have hH4 : (H : Int) ≤ (nk : Int) := by omega
    have hH5 : ¬ capk = H := by omega
    have HXR : Hid (k.its.drop H = x :: r) := hxr
    have HTL : Hid ((k.its.take H).length = H) := htl
    have hbkw : bk < w.heap.size := by rw [← HN.out.2.2.2]; exact HH.out.tail.head.lt
    clear hxr hdl htl hq hH hkrow
    go_enter Try.func51, Try.ntmps51
    go_wp2
    go_region_held3 (fun w' => w'.cell? ⟨bk, 0, none⟩ = some (.slice (some ⟨gk, 0, none⟩) nk capk) ∧ w'.cell? ⟨bk, 1, none⟩ = some (.pointer q)) (go_simp) (first
      | (go_at_call 58; refine (HCL.out _ ((Below.refl _ _).drew)).mono ?_; rintro e w1 ⟨g1, cap1, rfl, hown1, hb1⟩; (have hb1 := Below.trans ((Below.refl w.heap.size w).drew) hb1); (have z1 : bk < w1.heap.size := Nat.lt_of_lt_of_le hbkw hb1.size); (have z2 : ¬ bk = w1.heap.size := by omega); (have s0 := cell_later hb1 k0); (have s1 := cell_later hb1 k1)))
    all_goals
      have hlen : (x :: r).length = nk - H := by rw [← HXR.out, List.length_drop, HN.out.2.1]
      have hP2 := HH.out.new (v := .slice (some ⟨g1, 0, none⟩) (nk - H) cap1) (its := x :: r) (B := w.heap.size) HZ.out hb1 (by rw [hlen]; exact hown1) (Nat.le_refl _) kx
      rw [HQ.out] at hP2
      obtain ⟨nb, hnb⟩ : ∃ nb, w1.heap.size = nb := ⟨_, rfl⟩
      obtain ⟨W2, hW2⟩ : ∃ W2, w1.alloc (.cells #[.slice (some ⟨g1, 0, none⟩) (nk - H) cap1, .pointer q] 74) = W2 := ⟨_, rfl⟩
      have HB2 : Hid (Below w.heap.size w W2) := by rw [← hW2]; exact hb1.alloc hb1.size _
      rw [hW2, hnb] at hP2
      rw [hW2, hnb]
      have HP2 : Hid (Hp W2 Z ((⟨nb, .slice (some ⟨g1, 0, none⟩) (nk - H) cap1, x :: r⟩, kx) :: (p, px) :: (k, kx) :: R)) := hP2
      have HNB : Hid (w.heap.size ≤ nb) := by rw [← hnb]; exact hb1.size
      have HZ2 : Hid (∀ k, W2.heap.size ≤ k → Z k) := fun k hk => HZ.out k (Nat.le_trans HB2.out.size hk)
      have hK2 := HP2.out.tail.tail.head
      have HKR : Hid (W2.ownsRow 0 86 3 (.slice (some ⟨gk, 0, none⟩) nk capk) nk (ic k.its)) := by
        have := hK2.row
        simp only [HEK.out, HN.out.2.1] at this
        exact this
      have t0 : W2.cell? ⟨bk, 0, none⟩ = some (.slice (some ⟨gk, 0, none⟩) nk capk) := by
        have := hK2.nc.c0
        simp only [HEK.out, HN.out.2.2.2] at this
        exact this
      have tf : W2.frozen? ⟨bk, 0, none⟩ = false := by
        have := hK2.nc.fz 0
        simp only [HN.out.2.2.2] at this
        exact this
      have hbg : bk ≠ gk := fun e => by
        have := ndat_ne hK2 hK2
        simp only [HEK.out, HN.out.2.2.2] at this
        exact this (by rw [e]; rfl)
      have hbk2 : bk < W2.heap.size := by have := hK2.lt; simp only [HN.out.2.2.2] at this; exact this
      clear hP2 hnb hW2 hown1 hb1 z1 z2 s0 s1 hlen hK2 k0 k1 p0 pk
      go_wp2
      go_region_law (first
        | (go_simp; go_at_call 34; refine (HDE.out W2.drew (own_kept HKR.out fun _ _ => rfl)).mono ?_; rintro e w3 ⟨rfl, hown3, ho3⟩; (have hbl := ho3.block bk hbk2 hbg); (have s0 := cell_at hbl t0); (have sf : w3.frozen? ⟨bk, 0, none⟩ = false := (World.frozen?_of_block (a := ⟨bk, 0, none⟩) hbl).trans tf)))
      all_goals
        have hpe : ((⟨nb, .slice (some ⟨g1, 0, none⟩) (nk - H) cap1, x :: r⟩, kx) :: (p, px) :: (k, kx) :: R : List NX).Perm ((k, kx) :: (⟨nb, .slice (some ⟨g1, 0, none⟩) (nk - H) cap1, x :: r⟩, kx) :: (p, px) :: R) := ((perm2 (p, px) (k, kx) R).cons _).trans (perm2 _ _ _)
        have hoo : Only (fun j => k.v.ownBlock = some j) W2 w3 := (Only.refl _ _).drew.trans (ho3.mono fun j hj => by rw [HEK.out, hj]; rfl)
        obtain ⟨hP4, hO4⟩ := (HP2.out.perm hpe).setRow (v' := .slice (some ⟨gk, 0, none⟩) H capk) (its' := k.its.take H) HZ2.out hoo (by rw [HTL.out]; exact hown3) (fun j hj => Or.inl (by rw [HEK.out]; exact hj))
        simp only [HN.out.2.2.2] at hP4 hO4
        obtain ⟨W4, hW4⟩ : ∃ W4, w3.setCell ⟨bk, 0, none⟩ (.slice (some ⟨gk, 0, none⟩) H capk) = W4 := ⟨_, rfl⟩
        rw [hW4] at hP4 hO4
        rw [hW4]
        have HO4 : Hid (Only Z w W4) := (Only.of HB2.out).trans hO4
        have HZ4 : Hid (∀ k, W4.heap.size ≤ k → Z k) := fun k hk => HZ.out k (Nat.le_trans HO4.out.size hk)
        have u1 := hP4.head.nc.c1
        have uf := hP4.head.nc.fz 1
        simp only at u1 uf
        obtain ⟨hP5, hO5⟩ := hP4.setNext HZ4.out (some nb)
        simp only at hP5 hO5
        have HP5 : Hid (Hp (W4.setCell ⟨bk, 1, none⟩ (.pointer (some ⟨nb, 0, none⟩))) Z ((⟨bk, .slice (some ⟨gk, 0, none⟩) H capk, k.its.take H⟩, some nb) :: (⟨nb, .slice (some ⟨g1, 0, none⟩) (nk - H) cap1, x :: r⟩, kx) :: (p, px) :: R)) := hP5
        have HO5 : Hid (Only Z w (W4.setCell ⟨bk, 1, none⟩ (.pointer (some ⟨nb, 0, none⟩)))) := HO4.out.trans hO5
        rw [show (kx.map fun b => (⟨b, 0, none⟩ : Addr)) = q from HQ.out] at u1
        clear hpe hoo hP4 hO4 hW4 hown3 ho3 hbl s0 sf hP5 hO5 t0 tf
        go_wp2
        obtain ⟨W5, hW5⟩ : ∃ W5, W4.setCell ⟨bk, 1, none⟩ (.pointer (some ⟨nb, 0, none⟩)) = W5 := ⟨_, rfl⟩
        rw [hW5] at HP5 HO5
        rw [hW5]
        clear hW5 u1 uf HO4 HZ4
        have HZ5 : Hid (∀ k, W5.heap.size ≤ k → Z k) := fun k hk => HZ.out k (Nat.le_trans HO5.out.size hk)
        have hP := HP5.out.tail.tail.head
        have hPb : p.b = bp := HN.out.2.2.1
        have HPR : Hid (W5.ownsRow 0 86 3 (.slice (some ⟨gp, 0, none⟩) np capp) p.its.length (ic p.its)) := by
          have := hP.row
          simp only [HEP.out] at this
          exact this
        have v0 : W5.cell? ⟨bp, 0, none⟩ = some (.slice (some ⟨gp, 0, none⟩) np capp) := by
          have := hP.nc.c0
          simp only [HEP.out, hPb] at this
          exact this
        have vf : W5.frozen? ⟨bp, 0, none⟩ = false := by
          have := hP.nc.fz 0
          simp only [hPb] at this
          exact this
        have z5 : bp < W5.heap.size := by have := hP.lt; simp only [hPb] at this; exact this
        have hbg5 : bp ≠ gp := fun e => by
          have := ndat_ne hP hP
          simp only [HEP.out, hPb] at this
          exact this (by rw [e]; rfl)
        have HRT : Hid (NdAt W5 ⟨nb, .slice (some ⟨g1, 0, none⟩) (nk - H) cap1, x :: r⟩ kx) := HP5.out.tail.head
        have hxl : (x :: r).length ≤ 1000000 := by rw [← HXR.out, List.length_drop, HN.out.2.1]; omega
        have HLN : Hid ((p.its.take (i + 1) ++ (⟨x.key, ⟨#[]⟩, some nb⟩ : It) :: p.its.drop (i + 1)).length = np + 1) := by
          have : (p.its.take (i + 1) ++ (⟨x.key, ⟨#[]⟩, some nb⟩ : It) :: p.its.drop (i + 1)).length = np + 1 := by rw [List.length_append, List.length_cons, List.length_take, List.length_drop, HN.out.1]; omega
          exact this
        have HIN : Hid (∀ W vb, Below W5.heap.size W5 W → W.heap[vb]? = some (.cells #[.string x.key, .string ⟨#[]⟩, .pointer (some ⟨nb, 0, none⟩)] 86 (0, 0)) → W5.heap.size ≤ vb → Calls Try.prog 37 #[.slice (some ⟨gp, 0, none⟩) np capp, .int .i64 ((i : Int) + 1), .slice (some ⟨vb, 0, none⟩) 1 1] W fun e w' => ∃ g cap, e = .returned (.slice (some ⟨g, 0, none⟩) (np + 1) cap) ∧ w'.ownsRow 0 86 3 (.slice (some ⟨g, 0, none⟩) (np + 1) cap) (np + 1) (ic (p.its.take (i + 1) ++ ⟨x.key, ⟨#[]⟩, some nb⟩ :: p.its.drop (i + 1))) ∧ ((Value.slice (some ⟨gp, 0, none⟩) np capp).ownBlock = some g ∨ W.heap.size ≤ g) ∧ Only (fun k => (Value.slice (some ⟨gp, 0, none⟩) np capp).ownBlock = some k) W w') := fun W vb hb hx hvb => by
          have hgl := HPR.out.lt gp rfl
          have := insert_any W (.slice (some ⟨gp, 0, none⟩) np capp) p.its ⟨x.key, ⟨#[]⟩, some nb⟩ (i + 1) vb (own_kept HPR.out fun j hj => hb.block j (HPR.out.lt j hj).2) (by rw [HN.out.1]; omega) (by rw [HN.out.1]; omega) hx (fun e => by
            have : gp = vb := by simpa [Value.ownBlock] using e
            omega)
          unfold InsP at this
          rw [HLN.out] at this
          exact this
        have hw1 : IntKind.i64.wrap ((i : Int) + 1) = (i : Int) + 1 := by rw [IntKind.wrap_i64]; omega
        clear hP hPb
        go_region_law (first
          | (go_simp; go_at_call 55; refine (asKid_any W5.drew ⟨nb, .slice (some ⟨g1, 0, none⟩) (nk - H) cap1, x :: r⟩ kx x r (HRT.out.later ((Below.refl _ _).drew)) rfl hxl).mono ?_; rintro e w6 ⟨rfl, hb6⟩; (have hb6 := Below.trans ((Below.refl W5.heap.size W5).drew) hb6); (have s0 := cell_later hb6 v0); (have sf := (hb6.frozen (p := ⟨bp, 0, none⟩) z5).trans vf); (have z6 : bp < w6.heap.size := Nat.lt_of_lt_of_le z5 hb6.size); (have z7 : ¬ bp = w6.heap.size := by omega); (have HB6 : Hid (Below W5.heap.size W5 w6) := hb6); clear hb6)
          | (go_simp; go_at_call 37; refine (HIN.out _ w6.heap.size (HB6.out.alloc HB6.out.size _) (heap_alloc_new w6 _) HB6.out.size).mono ?_; rintro e w8 ⟨g8, cap8, rfl, hown8, hor8, ho8⟩; (have hbl8 := ho8.block bp (by rw [World.size_alloc]; omega) (fun e => hbg5 (by simpa [Value.ownBlock] using e.symm))); (have y0 := cell_at hbl8 (cell_later ((Below.refl _ _).alloc (Nat.le_refl _) _) s0)); (have yf : w8.frozen? ⟨bp, 0, none⟩ = false := by rw [World.frozen?_of_block (a := ⟨bp, 0, none⟩) hbl8]; exact (((Below.refl w6.heap.size w6).alloc (Nat.le_refl _) _).frozen (p := ⟨bp, 0, none⟩) z6).trans sf)))
        all_goals
          have hb7 : Below W5.heap.size W5 (w6.alloc (.cells #[.string x.key, .string ⟨#[]⟩, .pointer (some ⟨nb, 0, none⟩)] 86)) := HB6.out.alloc HB6.out.size _
          have hoo : Only (fun j => p.v.ownBlock = some j) W5 w8 := (Only.of hb7).trans (ho8.mono fun j hj => by rw [HEP.out]; exact hj)
          have hpe : ((⟨bk, .slice (some ⟨gk, 0, none⟩) H capk, k.its.take H⟩, some nb) :: (⟨nb, .slice (some ⟨g1, 0, none⟩) (nk - H) cap1, x :: r⟩, kx) :: (p, px) :: R : List NX).Perm ((p, px) :: (⟨bk, .slice (some ⟨gk, 0, none⟩) H capk, k.its.take H⟩, some nb) :: (⟨nb, .slice (some ⟨g1, 0, none⟩) (nk - H) cap1, x :: r⟩, kx) :: R) := ((perm2 _ _ _).cons _).trans (perm2 _ _ _)
          obtain ⟨hP9, hO9⟩ := (HP5.out.perm hpe).setRow (v' := .slice (some ⟨g8, 0, none⟩) (np + 1) cap8) (its' := p.its.take (i + 1) ++ ⟨x.key, ⟨#[]⟩, some nb⟩ :: p.its.drop (i + 1)) HZ5.out hoo (by rw [HLN.out]; exact hown8) (fun j hj => by
            obtain rfl : g8 = j := by simpa [Value.ownBlock] using hj
            rcases hor8 with h | h
            · exact Or.inl (by rw [HEP.out]; exact h)
            · exact Or.inr (Nat.le_trans hb7.size h))
          have hPb : p.b = bp := HN.out.2.2.1
          simp only [hPb] at hP9 hO9
          go_end0
          refine ⟨rfl, HO5.out.trans hO9, Or.inr ⟨by rw [HN.out.2.1]; omega, .slice (some ⟨g8, 0, none⟩) (np + 1) cap8, .slice (some ⟨gk, 0, none⟩) H capk, .slice (some ⟨g1, 0, none⟩) (nk - H) cap1, nb, x, r, by rw [HH2.out]; exact HXR.out, HNB.out, ?_⟩⟩
          rw [HH2.out, hPb, HN.out.2.2.2]
          exact hP9
end Go.Proofs.Ytlpannicklkghaa
