/- Walks of layer 7: two kids are joined. -/
import Derived.Test.YtlpannicklkghaaB6
namespace Go.Proofs.Ytlpannicklkghaa
open Go.RowKit

/-- What join leaves. -/
def JoinP (w : World) (Z : Nat → Prop) (p a c : Nd) (px cx : Option Nat) (R : List NX) (i : Nat) (e : Ending) (w' : World) : Prop :=
  e = .returned (.tuple #[]) ∧ Only Z w w' ∧ ∃ v1 v2, Hp w' Z ((⟨p.b, v1, p.its.take (i + 1) ++ p.its.drop (i + 2)⟩, px) :: (⟨a.b, v2, a.its ++ c.its⟩, cx) :: R)
theorem perm2' (a b : NX) (R : List NX) : (a :: b :: R).Perm (b :: a :: R) := List.Perm.swap ..
theorem Hp.drop2 {w : World} {Z : Nat → Prop} {a b : NX} {R : List NX} (h : Hp w Z (a :: b :: R)) : Hp w Z (a :: R) := (h.perm (perm2' a b R)).tail

set_option maxHeartbeats 8000000 in
set_option maxRecDepth 100000 in
theorem join_any (w : World) (Z : Nat → Prop) (p a c : Nd) (px ax cx : Option Nat) (R : List NX) (i : Nat) (h : Hp w Z ((p, px) :: (a, ax) :: (c, cx) :: R)) (hZ : ∀ k, w.heap.size ≤ k → Z k) (hi : i + 1 < p.its.length) (ha : (p.its[i]).kid = some a.b) (hc : (p.its[i + 1]).kid = some c.b) (hpl : p.its.length ≤ 100000) (hal : a.its.length ≤ 100000) (hcl : c.its.length ≤ 100000) (hc0 : 0 < c.its.length) :
    Calls Try.prog 50 #[.pointer (some ⟨p.b, 0, none⟩), .int .i64 (i : Int)] w (JoinP w Z p a c px cx R i) := by
  obtain ⟨i0, hif, hz0, hz1, hz2⟩ := info_parts Try.infoItem
  have HH : Hid (Hp w Z ((p, px) :: (a, ax) :: (c, cx) :: R)) := h
  have HZ : Hid (∀ k, w.heap.size ≤ k → Z k) := hZ
  have hp := h.head
  have han := h.tail.head
  have hcn := h.tail.tail.head
  simp only at hp han hcn
  have p0 := hp.nc.c0
  obtain ⟨gp, capp, ep, _, _, hgp, hcp, _⟩ := irow_at hp.row (by omega)
  rw [ep] at p0
  have pa := (hcp i (by omega)).2.2
  rw [ha] at pa
  have pc := (hcp (i + 1) hi).2.2
  rw [hc] at pc
  simp only [Option.map_some] at pa pc
  have a0 := han.nc.c0
  have a1 := han.nc.c1
  have af := han.nc.fz
  obtain ⟨pa1, capa, ea, hca, hcm⟩ := irow_form han.row
  rw [ea] at a0
  have c0 := hcn.nc.c0
  have c1 := hcn.nc.c1
  obtain ⟨gc, capc, ec, _, _, hgc, hcc, _⟩ := irow_at hcn.row hc0
  rw [ec] at c0
  have hcrow := hcn.row
  rw [ec] at hcrow
  obtain ⟨np, hnp⟩ : ∃ np, p.its.length = np := ⟨_, rfl⟩
  obtain ⟨na, hna⟩ : ∃ na, a.its.length = na := ⟨_, rfl⟩
  obtain ⟨nc, hnc⟩ : ∃ nc, c.its.length = nc := ⟨_, rfl⟩
  obtain ⟨bp, hbp⟩ : ∃ bp, p.b = bp := ⟨_, rfl⟩
  obtain ⟨ba, hba⟩ : ∃ ba, a.b = ba := ⟨_, rfl⟩
  obtain ⟨bc, hbc⟩ : ∃ bc, c.b = bc := ⟨_, rfl⟩
  have HN : Hid (p.its.length = np ∧ a.its.length = na ∧ c.its.length = nc ∧ p.b = bp ∧ a.b = ba ∧ c.b = bc) := ⟨hnp, hna, hnc, hbp, hba, hbc⟩
  have HEP : Hid (p.v = .slice (some ⟨gp, 0, none⟩) np capp) := by rw [← hnp]; exact ep
  have HEA : Hid (a.v = .slice pa1 na capa) := by rw [← hna]; exact ea
  have HEC : Hid (c.v = .slice (some ⟨gc, 0, none⟩) nc capc) := by rw [← hnc]; exact ec
  have HAR : Hid (w.ownsRow 0 86 3 (.slice pa1 na capa) na (ic a.its)) := by
    have := han.row
    rw [ea, hna] at this
    exact this
  have HCR : Hid (∀ j u, (ic c.its)[j]? = some u → w.cell? ((⟨gc, 0, none⟩ : Addr).add j) = some u) := fun j u hj => by
    have hj2 := (List.getElem?_eq_some_iff.1 hj).1
    rw [ic_length] at hj2
    rw [Addr.add_lit, Nat.zero_add, hcrow.cellAt j hj2]
    exact hj
  obtain ⟨q, hq⟩ : ∃ q : Option Addr, (cx.map fun b => (⟨b, 0, none⟩ : Addr)) = q := ⟨_, rfl⟩
  have HQ : Hid (pOf cx = q) := hq
  rw [hnp, hbp] at p0
  rw [hba] at pa
  rw [hbc] at pc
  rw [hna, hba] at a0
  rw [hba] at a1 af
  rw [hnc, hbc] at c0
  rw [hbc, hq] at c1
  rw [hnp] at hi hpl
  rw [hna] at hal hca
  rw [hnc] at hcl hc0
  rw [hbp]
  have hap : Ap (a, ax) (c, cx) := (List.pairwise_cons.1 h.tail.apart).1 _ (List.mem_cons_self ..)
  have hga : (Value.slice pa1 na capa).ownBlock ≠ some bc := by
    have := ndat_ne hcn han
    rw [HEA.out, hbc] at this
    exact this
  have hgaa : (Value.slice pa1 na capa).ownBlock ≠ some ba := by
    have := ndat_ne han han
    rw [HEA.out, hba] at this
    exact this
  have hbal : ba < w.heap.size := by rw [← hba]; exact han.lt
  have hbcl : bc < w.heap.size := by rw [← hbc]; exact hcn.lt
  have hne : ba ≠ bc := by rw [← hba, ← hbc]; exact hap.1
  have hii : (i : Int) < (np : Int) := by omega
  have hii1 : (i : Int) + 1 < (np : Int) := by omega
  have hi0 : (0 : Int) ≤ (i : Int) + 1 := by omega
  have hw1 : IntKind.i64.wrap ((i : Int) + 1) = (i : Int) + 1 := by rw [IntKind.wrap_i64]; omega
  clear h hZ hp han hcn hcp ep ea ec hnp hna hnc hbp hba hbc ha hc hcc hcrow hq hap
  go_enter Try.func50, Try.ntmps50
  go_wp2
  go_quiet (fail)
  go_wp2
  obtain ⟨W0, hW0⟩ : ∃ W0, w.drewN nq = W0 := ⟨_, rfl⟩
  have hb0 : Below w.heap.size w W0 := by rw [← hW0]; exact below_drewN (Below.refl _ _) _
  have HB0 : Hid (Below w.heap.size w W0) := hb0
  have HA0 : Hid (W0.drew.ownsRow 0 86 3 (.slice pa1 na capa) na (ic a.its)) := by rw [← hW0]; exact own_kept HAR.out fun _ _ => rfl
  have HC0 : Hid (∀ j u, (ic c.its)[j]? = some u → W0.drew.cell? ((⟨gc, 0, none⟩ : Addr).add j) = some u) := by rw [← hW0]; exact HCR.out
  have d0 := cell_later hb0 a0
  have e0 := cell_later hb0 c0
  have df : W0.frozen? ⟨ba, 0, none⟩ = false := by rw [← hW0]; exact af 0
  have hal0 : ba < W0.heap.size := Nat.lt_of_lt_of_le hbal hb0.size
  have hicl : (ic c.its).length = nc * 3 := by rw [ic_length, HN.out.2.2.1]
  have HICL : Hid ((ic c.its).length = nc * 3) := hicl
  rw [hW0]
  clear hW0 hb0 a0 c0 p0 pa pc hicl
  go_region_law (first
    | (refine step_append_lies _ rfl _ _ 72 rfl 0 86 i0 _ 3 40 Try.underlying72 hif hz0 hz1 hz2 rfl (by decide) (.slice pa1 na capa) na (ic a.its) rfl HA0.out ⟨gc, 0, none⟩ nc capc (ic c.its) rfl HICL.out HC0.out (ic_one _) hc0 (by unfold maxLen; omega) (by omega) (Nat.zero_le _) _ rfl ?_; intro g8 cap8 w8 hown8 hgrow8 hor8 hlt8; (have hbl8 := hgrow8.block ba hal0 (fun e => hgaa e.symm)); (have s0 := cell_at hbl8 d0); (have sf : w8.frozen? ⟨ba, 0, none⟩ = false := (World.frozen?_of_block (a := ⟨ba, 0, none⟩) hbl8).trans df)))
  all_goals
    have hpe : ((p, px) :: (a, ax) :: (c, cx) :: R : List NX).Perm ((a, ax) :: (p, px) :: (c, cx) :: R) := perm2' _ _ _
    have hoo : Only (fun j => a.v.ownBlock = some j) w w8 := ((Only.of HB0.out).drew).grown hgrow8 (fun j hj => by rw [HEA.out]; exact hj)
    have hll : (a.its ++ c.its).length = na + nc := by rw [List.length_append, HN.out.2.1, HN.out.2.2.1]
    obtain ⟨hP4, hO4⟩ := (HH.out.perm hpe).setRow (v' := .slice (some ⟨g8, 0, none⟩) (na + nc) cap8) (its' := a.its ++ c.its) HZ.out hoo (by rw [hll, ic_append]; exact hown8) (fun j hj => by
      obtain rfl : g8 = j := by simpa [Value.ownBlock] using hj
      rcases hor8 with h | h
      · exact Or.inl (by rw [HEA.out]; exact h)
      · exact Or.inr (by rw [h]; exact HB0.out.size))
    simp only [HN.out.2.2.2.2.1] at hP4 hO4
    obtain ⟨W4, hW4⟩ : ∃ W4, w8.setCell ⟨ba, 0, none⟩ (.slice (some ⟨g8, 0, none⟩) (na + nc) cap8) = W4 := ⟨_, rfl⟩
    rw [hW4] at hP4 hO4
    rw [hW4]
    have HO4 : Hid (Only Z w W4) := hO4
    have HZ4 : Hid (∀ k, W4.heap.size ≤ k → Z k) := fun k hk => HZ.out k (Nat.le_trans HO4.out.size hk)
    have u1 := hP4.head.nc.c1
    have uf := hP4.head.nc.fz 1
    have u2 := hP4.tail.tail.head.nc.c1
    simp only [HN.out.2.2.2.2.2] at u1 uf u2
    obtain ⟨hP5, hO5⟩ := hP4.setNext HZ4.out cx
    simp only [HQ.out] at hP5 hO5
    have HP5 : Hid (Hp (W4.setCell ⟨ba, 1, none⟩ (.pointer q)) Z ((⟨ba, .slice (some ⟨g8, 0, none⟩) (na + nc) cap8, a.its ++ c.its⟩, cx) :: (p, px) :: (c, cx) :: R)) := hP5
    have HO5 : Hid (Only Z w (W4.setCell ⟨ba, 1, none⟩ (.pointer q))) := HO4.out.trans hO5
    rw [show (cx.map fun b => (⟨b, 0, none⟩ : Addr)) = q from HQ.out] at u2
    obtain ⟨qa, hqa⟩ : ∃ qa : Option Addr, (ax.map fun b => (⟨b, 0, none⟩ : Addr)) = qa := ⟨_, rfl⟩
    rw [hqa] at u1
    obtain ⟨W5, hW5⟩ : ∃ W5, W4.setCell ⟨ba, 1, none⟩ (.pointer q) = W5 := ⟨_, rfl⟩
    rw [hW5] at HP5 HO5
    have HZ5 : Hid (∀ k, W5.heap.size ≤ k → Z k) := fun k hk => HZ.out k (Nat.le_trans HO5.out.size hk)
    have hP := HP5.out.tail.head
    have hPb : p.b = bp := HN.out.2.2.2.1
    have HPR : Hid (W5.ownsRow 0 86 3 (.slice (some ⟨gp, 0, none⟩) np capp) p.its.length (ic p.its)) := by
      have := hP.row
      simp only [HEP.out] at this
      exact this
    have v0 : W5.cell? ⟨bp, 0, none⟩ = some (.slice (some ⟨gp, 0, none⟩) np capp) := by
      have := hP.nc.c0
      simp only [HEP.out, hPb] at this
      exact this
    have vf : W5.frozen? ⟨bp, 0, none⟩ = false := by
      have := hP.nc.fz 0
      simp only [hPb] at this
      exact this
    have z5 : bp < W5.heap.size := by have := hP.lt; simp only [hPb] at this; exact this
    have hbg5 : bp ≠ gp := fun e => by
      have := ndat_ne hP hP
      simp only [HEP.out, hPb] at this
      exact this (by rw [e]; rfl)
    have HDE : Hid (Calls Try.prog 34 #[.slice (some ⟨gp, 0, none⟩) np capp, .int .i64 ((i : Int) + 1), .int .i64 ((i : Int) + 2)] W5 fun e w' => e = .returned (.slice (some ⟨gp, 0, none⟩) (np - 1) capp) ∧ w'.ownsRow 0 86 3 (.slice (some ⟨gp, 0, none⟩) (np - 1) capp) (np - 1) (ic (p.its.take (i + 1) ++ p.its.drop (i + 2))) ∧ Only (fun k => k = gp) W5 w') := by
      have := delete_any W5 gp capp p.its (i + 1) (i + 2) (by have h1 := HPR.out; rw [HN.out.1] at h1 ⊢; exact h1) (by omega) (by rw [HN.out.1]; omega) (by rw [HN.out.1]; omega)
      rw [HN.out.1, show i + 1 + (np - (i + 2)) = np - 1 by omega] at this
      exact this
    have hw2 : IntKind.i64.wrap ((i : Int) + 2) = (i : Int) + 2 := by rw [IntKind.wrap_i64]; omega
    clear hpe hoo hP4 hO4 hown8 hgrow8 hor8 hlt8 hbl8 s0 sf hP5 hO5 d0 e0 df hW4 hP hPb hqa hll
    go_wp2_with fail
    try rw [hW5]
    refine HDE.out.mono ?_
    rintro e w9 ⟨rfl, hown9, ho9⟩
    have hbl9 := ho9.block bp z5 hbg5
    have y0 := cell_at hbl9 v0
    have yf : w9.frozen? ⟨bp, 0, none⟩ = false := (World.frozen?_of_block (a := ⟨bp, 0, none⟩) hbl9).trans vf
    have hpe : ((⟨ba, .slice (some ⟨g8, 0, none⟩) (na + nc) cap8, a.its ++ c.its⟩, cx) :: (p, px) :: (c, cx) :: R : List NX).Perm ((p, px) :: (⟨ba, .slice (some ⟨g8, 0, none⟩) (na + nc) cap8, a.its ++ c.its⟩, cx) :: (c, cx) :: R) := perm2' _ _ _
    have hoo : Only (fun j => p.v.ownBlock = some j) W5 w9 := ho9.mono fun j hj => by rw [HEP.out, hj]; rfl
    obtain ⟨hP9, hO9⟩ := (HP5.out.perm hpe).setRow (v' := .slice (some ⟨gp, 0, none⟩) (np - 1) capp) (its' := p.its.take (i + 1) ++ p.its.drop (i + 2)) HZ5.out hoo (by
      rw [show (p.its.take (i + 1) ++ p.its.drop (i + 2)).length = np - 1 by rw [List.length_append, List.length_take, List.length_drop, HN.out.1]; omega]
      exact hown9) (fun j hj => Or.inl (by rw [HEP.out]; exact hj))
    have HP9 : Hid (Hp (w9.setCell ⟨bp, 0, none⟩ (.slice (some ⟨gp, 0, none⟩) (np - 1) capp)) Z ((⟨bp, .slice (some ⟨gp, 0, none⟩) (np - 1) capp, p.its.take (i + 1) ++ p.its.drop (i + 2)⟩, px) :: (⟨ba, .slice (some ⟨g8, 0, none⟩) (na + nc) cap8, a.its ++ c.its⟩, cx) :: (c, cx) :: R)) := by
      have := hP9
      simp only [HN.out.2.2.2.1] at this
      exact this
    have HO9 : Hid (Only Z w (w9.setCell ⟨bp, 0, none⟩ (.slice (some ⟨gp, 0, none⟩) (np - 1) capp))) := by
      have := HO5.out.trans hO9
      simp only [HN.out.2.2.2.1] at this
      exact this
    clear hP9 hO9 hpe hoo hown9 ho9 hbl9 v0 vf hW5
    go_wp2
    go_end0
    refine ⟨rfl, HO9.out, .slice (some ⟨gp, 0, none⟩) (np - 1) capp, .slice (some ⟨g8, 0, none⟩) (na + nc) cap8, ?_⟩
    rw [HN.out.2.2.2.1, HN.out.2.2.2.2.1]
    exact (HP9.out.perm (((perm2' _ _ _).cons _).trans (perm2' _ _ _))).tail
end Go.Proofs.Ytlpannicklkghaa
