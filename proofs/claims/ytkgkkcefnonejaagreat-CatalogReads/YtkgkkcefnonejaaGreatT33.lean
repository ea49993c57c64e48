/- Walks of layer 8: lists of indexes, tables, procedures that are read. -/
import Derived.Test.YtkgkkcefnonejaaGreatT32
namespace Go.Proofs.YtkgkkcefnonejaaGreat
open Go.RowKit

set_option maxHeartbeats 8000000 in
set_option maxRecDepth 100000 in
theorem reIx_any (r : Nat) (s : ByteArray) (M : Nat) (w : World) (f : Ix → List UInt8) (ok Q : Ix → Prop) (h : Rdr w r s) (hs : s.size ≤ 2147483648) (hM : M ≤ 1000)
    (hC : ∀ (s1 : ByteArray) (w1 : World), Rdr w1 r s1 → s1.size ≤ 2147483648 → Calls Tryz.prog 100 #[.pointer (some ⟨r, 0, none⟩)] w1 fun e w2 => ∃ (x : Ix) (us : List Value) (s2 : ByteArray), e = .returned (.agg us.toArray) ∧ IxO w2 w1.heap.size x us ∧ Q x ∧ Rdr w2 r s2 ∧ s2.size ≤ s1.size ∧ Rd f ok (bs s1) x (bs s2) ∧ Only (fun k => k = r) w1 w2) :
    Calls Tryz.prog 99 #[.pointer (some ⟨r, 0, none⟩), .int .i64 (M : Int), .func (.func 100) #[] #[]] w fun e w' => ∃ (v : Value) (l : List Ix) (s' : ByteArray), e = .returned v ∧ OwnR 3 64 (IxO w' w.heap.size) w' w.heap.size v l ∧ l.length ≤ M ∧ (∀ x ∈ l, Q x) ∧ Rdr w' r s' ∧ s'.size ≤ s.size ∧ Rd (lst f) (fun L => L.length ≤ M ∧ ∀ x ∈ L, ok x) (bs s) l (bs s') ∧ Only (fun k => k = r) w w' := by
  obtain ⟨i0, hi, hz0, hz1, hz2⟩ := info_parts Tryz.infoIx
  have HC := Lib.hid hC
  have HU := Lib.hid (upTo_any r s M w h hs (by omega))
  clear hC h
  go_enter Tryz.func99, Tryz.ntmps99
  go_wp2_with fail
  refine HU.out.mono ?_
  rintro e w1 ⟨n, s1, rfl, hn, hr1, hs1, hrd, ho1⟩
  have HR1 := Lib.hid hr1
  have HD1 := Lib.hid hrd
  have HO1 := Lib.hid ho1
  clear hr1 hrd ho1 HU
  go_wp2
  go_loopw [7, 11] (fun v i wr => ∃ (k : Nat) (l : List Ix) (s2 : ByteArray), k ≤ n ∧ i = .int .i64 k ∧ l.length = k ∧ OwnR 3 64 (IxO wr w.heap.size) wr w.heap.size v l ∧ (∀ x ∈ l, Q x) ∧ Rdr wr r s2 ∧ s2.size ≤ s.size ∧ (∀ L y, (L.length ≤ M ∧ ∀ x ∈ L, ok x) → bs s = lst f L ++ y → n = L.length ∧ l = L.take k ∧ bs s2 = (L.drop k).flatMap f ++ y) ∧ Only (fun k => k = r) w wr) (fun _ i _ => n - (intOf i).toNat)
  case atStart => exact ⟨0, [], s1, Nat.zero_le _, rfl, rfl, OwnR.nil _ _ _ _ _, fun x hx => absurd hx List.not_mem_nil, HR1.out, hs1, rd_start (by omega) HD1.out, HO1.out⟩
  case round =>
    clear HR1 HD1 HO1
    obtain ⟨k, l, s2, hk, rfl, hlen, hown, hq, hr2, hs2, hspec, ho⟩ := hrel
    have HQ := Lib.hid hq
    have HR2 := Lib.hid hr2
    have HSP := Lib.hid hspec
    have HOn := Lib.hid ho
    have hsz := ho.size
    obtain ⟨ps, p1, p2, p3⟩ := hown
    rw [hlen] at p3
    have P1 := Lib.hid p1
    have P2 := Lib.hid p2
    have P3 := Lib.hid p3
    have HLN := Lib.hid hlen
    clear hq hr2 hspec ho p1 p2 p3 hlen
    by_cases hlt : k < n
    · have hlti : (k : Int) < (n : Int) := by omega
      go_wp2_with fail
      refine (HC.out s2 wr HR2.out (by omega)).mono ?_
      rintro e w2 ⟨x, us, s3, rfl, hO, hqx, hr3, hs3, hrd3, ho3⟩
      have hz3 := ho3.size
      have HQ2 : Hid (∀ y ∈ l ++ [x], Q y) := fun y hy => by
        rcases List.mem_append.1 hy with hy | hy
        · exact HQ.out y hy
        · rw [List.mem_singleton.1 hy]; exact hqx
      have HSP2 := Lib.hid (rd_step hlt HSP.out hrd3)
      have hown2 := own_only P3.out HR2.out ho3 (by decide)
      have HKW : Hid (∀ S : List TypeId, 85 ∉ S → Keeps S w.heap.size wr w2) := fun S hS => Keeps.only HR2.out ho3 hS
      have HO3 := Lib.hid ho3
      have HR3 := Lib.hid hr3
      have HOx := Lib.hid (IxO.mono (B' := w.heap.size) hsz _ _ hO)
      obtain ⟨u1, rfl, o1⟩ := hO
      obtain ⟨a1, b1, rfl, -⟩ := o1.form
      clear o1
      clear hqx hr3 hrd3 ho3 HSP
      go_wp2_with (first | (at_builtin; refine wpList_append_own _ rfl _ _ 44 rfl w.heap.size 64 i0 (.agg #[.string ⟨#[]⟩, .slice none 0 0, .bool false]) 3 48 Tryz.underlying44 hi hz0 hz1 hz2 rfl (by decide) _ k (ps.flatMap (·.2)) rfl (hown2.alloc _) ⟨w2.heap.size, 0, none⟩ 1 1 [.string x.nm, .slice a1 x.cols.length b1, .bool x.un] rfl rfl (cells_alloc _ _ _) (by intro u hu; simp only [List.mem_cons, List.not_mem_nil, or_false] at hu; rcases hu with rfl | rfl | rfl <;> rfl) (by unfold maxLen; omega) (by omega) (by simp; omega) ?_; intro v' w3 hown3 hgrow3 _))
      have HG := Lib.hid hgrow3
      have HO4 := Lib.hid hown3
      have HOW := Lib.hid hown2
      have hs3' := hgrow3.size
      simp at hs3'
      have HR4 : Hid (Rdr w3 r s3) := grown_other (HOW.out.alloc _) HG.out (heap_of HR3.out ((Below.refl _ _).alloc (Nat.le_refl _) _)) (by decide)
      clear hown3 hgrow3 hown2
      go_wp2
      go_roundw
      case rel =>
        have hkp : Keeps inIx w.heap.size w2 w3 := (Keeps.of ((Below.refl _ _).alloc (Nat.le_refl _) _)).trans (Keeps.grown (HOW.out.alloc _) HG.out (by decide))
        have hkw : Keeps inIx w.heap.size wr w3 := (HKW.out _ (by decide)).trans hkp
        refine ⟨k + 1, l ++ [x], s3, by omega, by go_num, by rw [List.length_append, HLN.out]; rfl, ?_, HQ2.out, HR4.out, by omega, HSP2.out, ?_⟩
        · refine OwnR.push (n := 3) P1.out P2.out (IxO.keeps hkw) (IxO.keeps hkp _ _ HOx.out) rfl ?_
          rw [HLN.out]
          exact HO4.out
        · exact only_base ((((HOn.out.mono (fun k h => Or.inl h)).trans (HO3.out.mono (fun k h => Or.inl h))).alloc _).grown HG.out (fun k hk => Or.inr (own_ge HOW.out k hk)))
      case measure => simp [intOf]; omega
    · have hk' : k = n := by omega
      subst hk'
      have HE := Lib.hid (rd_end HSP.out)
      go_wp2
      go_ret
      refine ⟨_, l, s2, rfl, ⟨ps, P1.out, P2.out, by rw [HLN.out]; exact P3.out⟩, by rw [HLN.out]; omega, HQ.out, HR2.out, hs2, HE.out, HOn.out⟩

set_option maxHeartbeats 8000000 in
set_option maxRecDepth 100000 in
theorem reTb_any (r : Nat) (s : ByteArray) (M : Nat) (w : World) (f : Tb → List UInt8) (ok Q : Tb → Prop) (h : Rdr w r s) (hs : s.size ≤ 2147483648) (hM : M ≤ 1000)
    (hC : ∀ (s1 : ByteArray) (w1 : World), Rdr w1 r s1 → s1.size ≤ 2147483648 → Calls Tryz.prog 54 #[.pointer (some ⟨r, 0, none⟩)] w1 fun e w2 => ∃ (x : Tb) (us : List Value) (s2 : ByteArray), e = .returned (.agg us.toArray) ∧ TbO w2 w1.heap.size x us ∧ Q x ∧ Rdr w2 r s2 ∧ s2.size ≤ s1.size ∧ Rd f ok (bs s1) x (bs s2) ∧ Only (fun k => k = r) w1 w2) :
    Calls Tryz.prog 53 #[.pointer (some ⟨r, 0, none⟩), .int .i64 (M : Int), .func (.func 54) #[] #[]] w fun e w' => ∃ (v : Value) (l : List Tb) (s' : ByteArray), e = .returned v ∧ OwnR 5 46 (TbO w' w.heap.size) w' w.heap.size v l ∧ l.length ≤ M ∧ (∀ x ∈ l, Q x) ∧ Rdr w' r s' ∧ s'.size ≤ s.size ∧ Rd (lst f) (fun L => L.length ≤ M ∧ ∀ x ∈ L, ok x) (bs s) l (bs s') ∧ Only (fun k => k = r) w w' := by
  obtain ⟨i0, hi, hz0, hz1, hz2⟩ := info_parts Tryz.infoTb
  have HC := Lib.hid hC
  have HU := Lib.hid (upTo_any r s M w h hs (by omega))
  clear hC h
  go_enter Tryz.func53, Tryz.ntmps53
  go_wp2_with fail
  refine HU.out.mono ?_
  rintro e w1 ⟨n, s1, rfl, hn, hr1, hs1, hrd, ho1⟩
  have HR1 := Lib.hid hr1
  have HD1 := Lib.hid hrd
  have HO1 := Lib.hid ho1
  clear hr1 hrd ho1 HU
  go_wp2
  go_loopw [7, 11] (fun v i wr => ∃ (k : Nat) (l : List Tb) (s2 : ByteArray), k ≤ n ∧ i = .int .i64 k ∧ l.length = k ∧ OwnR 5 46 (TbO wr w.heap.size) wr w.heap.size v l ∧ (∀ x ∈ l, Q x) ∧ Rdr wr r s2 ∧ s2.size ≤ s.size ∧ (∀ L y, (L.length ≤ M ∧ ∀ x ∈ L, ok x) → bs s = lst f L ++ y → n = L.length ∧ l = L.take k ∧ bs s2 = (L.drop k).flatMap f ++ y) ∧ Only (fun k => k = r) w wr) (fun _ i _ => n - (intOf i).toNat)
  case atStart => exact ⟨0, [], s1, Nat.zero_le _, rfl, rfl, OwnR.nil _ _ _ _ _, fun x hx => absurd hx List.not_mem_nil, HR1.out, hs1, rd_start (by omega) HD1.out, HO1.out⟩
  case round =>
    clear HR1 HD1 HO1
    obtain ⟨k, l, s2, hk, rfl, hlen, hown, hq, hr2, hs2, hspec, ho⟩ := hrel
    have HQ := Lib.hid hq
    have HR2 := Lib.hid hr2
    have HSP := Lib.hid hspec
    have HOn := Lib.hid ho
    have hsz := ho.size
    obtain ⟨ps, p1, p2, p3⟩ := hown
    rw [hlen] at p3
    have P1 := Lib.hid p1
    have P2 := Lib.hid p2
    have P3 := Lib.hid p3
    have HLN := Lib.hid hlen
    clear hq hr2 hspec ho p1 p2 p3 hlen
    by_cases hlt : k < n
    · have hlti : (k : Int) < (n : Int) := by omega
      go_wp2_with fail
      refine (HC.out s2 wr HR2.out (by omega)).mono ?_
      rintro e w2 ⟨x, us, s3, rfl, hO, hqx, hr3, hs3, hrd3, ho3⟩
      have hz3 := ho3.size
      have HQ2 : Hid (∀ y ∈ l ++ [x], Q y) := fun y hy => by
        rcases List.mem_append.1 hy with hy | hy
        · exact HQ.out y hy
        · rw [List.mem_singleton.1 hy]; exact hqx
      have HSP2 := Lib.hid (rd_step hlt HSP.out hrd3)
      have hown2 := own_only P3.out HR2.out ho3 (by decide)
      have HKW : Hid (∀ S : List TypeId, 85 ∉ S → Keeps S w.heap.size wr w2) := fun S hS => Keeps.only HR2.out ho3 hS
      have HO3 := Lib.hid ho3
      have HR3 := Lib.hid hr3
      have HOx := Lib.hid (TbO.mono (B' := w.heap.size) hsz _ _ hO)
      obtain ⟨u1, u2, u3, rfl, o1, o2, o3⟩ := hO
      obtain ⟨a1, b1, rfl, -⟩ := o1.form
      obtain ⟨a2, b2, rfl, -⟩ := o2.form
      obtain ⟨a3, b3, rfl, -⟩ := o3.form
      clear o1 o2 o3
      clear hqx hr3 hrd3 ho3 HSP
      go_wp2_with (first | (at_builtin; refine wpList_append_own _ rfl _ _ 22 rfl w.heap.size 46 i0 (.agg #[.string ⟨#[]⟩, .slice none 0 0, .slice none 0 0, .int .i64 0, .slice none 0 0]) 5 96 Tryz.underlying22 hi hz0 hz1 hz2 rfl (by decide) _ k (ps.flatMap (·.2)) rfl (hown2.alloc _) ⟨w2.heap.size, 0, none⟩ 1 1 [.string x.nm, .slice a1 x.cols.length b1, .slice a2 x.key.length b2, .int .i64 x.part, .slice a3 x.ixs.length b3] rfl rfl (cells_alloc _ _ _) (by intro u hu; simp only [List.mem_cons, List.not_mem_nil, or_false] at hu; rcases hu with rfl | rfl | rfl | rfl | rfl <;> rfl) (by unfold maxLen; omega) (by omega) (by simp; omega) ?_; intro v' w3 hown3 hgrow3 _))
      have HG := Lib.hid hgrow3
      have HO4 := Lib.hid hown3
      have HOW := Lib.hid hown2
      have hs3' := hgrow3.size
      simp at hs3'
      have HR4 : Hid (Rdr w3 r s3) := grown_other (HOW.out.alloc _) HG.out (heap_of HR3.out ((Below.refl _ _).alloc (Nat.le_refl _) _)) (by decide)
      clear hown3 hgrow3 hown2
      go_wp2
      go_roundw
      case rel =>
        have hkp : Keeps inTb w.heap.size w2 w3 := (Keeps.of ((Below.refl _ _).alloc (Nat.le_refl _) _)).trans (Keeps.grown (HOW.out.alloc _) HG.out (by decide))
        have hkw : Keeps inTb w.heap.size wr w3 := (HKW.out _ (by decide)).trans hkp
        refine ⟨k + 1, l ++ [x], s3, by omega, by go_num, by rw [List.length_append, HLN.out]; rfl, ?_, HQ2.out, HR4.out, by omega, HSP2.out, ?_⟩
        · refine OwnR.push (n := 5) P1.out P2.out (TbO.keeps hkw) (TbO.keeps hkp _ _ HOx.out) rfl ?_
          rw [HLN.out]
          exact HO4.out
        · exact only_base ((((HOn.out.mono (fun k h => Or.inl h)).trans (HO3.out.mono (fun k h => Or.inl h))).alloc _).grown HG.out (fun k hk => Or.inr (own_ge HOW.out k hk)))
      case measure => simp [intOf]; omega
    · have hk' : k = n := by omega
      subst hk'
      have HE := Lib.hid (rd_end HSP.out)
      go_wp2
      go_ret
      refine ⟨_, l, s2, rfl, ⟨ps, P1.out, P2.out, by rw [HLN.out]; exact P3.out⟩, by rw [HLN.out]; omega, HQ.out, HR2.out, hs2, HE.out, HOn.out⟩

set_option maxHeartbeats 8000000 in
set_option maxRecDepth 100000 in
theorem rePc_any (r : Nat) (s : ByteArray) (M : Nat) (w : World) (f : Pc → List UInt8) (ok Q : Pc → Prop) (h : Rdr w r s) (hs : s.size ≤ 2147483648) (hM : M ≤ 1000)
    (hC : ∀ (s1 : ByteArray) (w1 : World), Rdr w1 r s1 → s1.size ≤ 2147483648 → Calls Tryz.prog 56 #[.pointer (some ⟨r, 0, none⟩)] w1 fun e w2 => ∃ (x : Pc) (us : List Value) (s2 : ByteArray), e = .returned (.agg us.toArray) ∧ PcO w2 w1.heap.size x us ∧ Q x ∧ Rdr w2 r s2 ∧ s2.size ≤ s1.size ∧ Rd f ok (bs s1) x (bs s2) ∧ Only (fun k => k = r) w1 w2) :
    Calls Tryz.prog 55 #[.pointer (some ⟨r, 0, none⟩), .int .i64 (M : Int), .func (.func 56) #[] #[]] w fun e w' => ∃ (v : Value) (l : List Pc) (s' : ByteArray), e = .returned v ∧ OwnR 5 52 (PcO w' w.heap.size) w' w.heap.size v l ∧ l.length ≤ M ∧ (∀ x ∈ l, Q x) ∧ Rdr w' r s' ∧ s'.size ≤ s.size ∧ Rd (lst f) (fun L => L.length ≤ M ∧ ∀ x ∈ L, ok x) (bs s) l (bs s') ∧ Only (fun k => k = r) w w' := by
  obtain ⟨i0, hi, hz0, hz1, hz2⟩ := info_parts Tryz.infoPc
  have HC := Lib.hid hC
  have HU := Lib.hid (upTo_any r s M w h hs (by omega))
  clear hC h
  go_enter Tryz.func55, Tryz.ntmps55
  go_wp2_with fail
  refine HU.out.mono ?_
  rintro e w1 ⟨n, s1, rfl, hn, hr1, hs1, hrd, ho1⟩
  have HR1 := Lib.hid hr1
  have HD1 := Lib.hid hrd
  have HO1 := Lib.hid ho1
  clear hr1 hrd ho1 HU
  go_wp2
  go_loopw [7, 11] (fun v i wr => ∃ (k : Nat) (l : List Pc) (s2 : ByteArray), k ≤ n ∧ i = .int .i64 k ∧ l.length = k ∧ OwnR 5 52 (PcO wr w.heap.size) wr w.heap.size v l ∧ (∀ x ∈ l, Q x) ∧ Rdr wr r s2 ∧ s2.size ≤ s.size ∧ (∀ L y, (L.length ≤ M ∧ ∀ x ∈ L, ok x) → bs s = lst f L ++ y → n = L.length ∧ l = L.take k ∧ bs s2 = (L.drop k).flatMap f ++ y) ∧ Only (fun k => k = r) w wr) (fun _ i _ => n - (intOf i).toNat)
  case atStart => exact ⟨0, [], s1, Nat.zero_le _, rfl, rfl, OwnR.nil _ _ _ _ _, fun x hx => absurd hx List.not_mem_nil, HR1.out, hs1, rd_start (by omega) HD1.out, HO1.out⟩
  case round =>
    clear HR1 HD1 HO1
    obtain ⟨k, l, s2, hk, rfl, hlen, hown, hq, hr2, hs2, hspec, ho⟩ := hrel
    have HQ := Lib.hid hq
    have HR2 := Lib.hid hr2
    have HSP := Lib.hid hspec
    have HOn := Lib.hid ho
    have hsz := ho.size
    obtain ⟨ps, p1, p2, p3⟩ := hown
    rw [hlen] at p3
    have P1 := Lib.hid p1
    have P2 := Lib.hid p2
    have P3 := Lib.hid p3
    have HLN := Lib.hid hlen
    clear hq hr2 hspec ho p1 p2 p3 hlen
    by_cases hlt : k < n
    · have hlti : (k : Int) < (n : Int) := by omega
      go_wp2_with fail
      refine (HC.out s2 wr HR2.out (by omega)).mono ?_
      rintro e w2 ⟨x, us, s3, rfl, hO, hqx, hr3, hs3, hrd3, ho3⟩
      have hz3 := ho3.size
      have HQ2 : Hid (∀ y ∈ l ++ [x], Q y) := fun y hy => by
        rcases List.mem_append.1 hy with hy | hy
        · exact HQ.out y hy
        · rw [List.mem_singleton.1 hy]; exact hqx
      have HSP2 := Lib.hid (rd_step hlt HSP.out hrd3)
      have hown2 := own_only P3.out HR2.out ho3 (by decide)
      have HKW : Hid (∀ S : List TypeId, 85 ∉ S → Keeps S w.heap.size wr w2) := fun S hS => Keeps.only HR2.out ho3 hS
      have HO3 := Lib.hid ho3
      have HR3 := Lib.hid hr3
      have HOx := Lib.hid (PcO.mono (B' := w.heap.size) hsz _ _ hO)
      obtain ⟨u1, u2, rfl, o1, o2⟩ := hO
      obtain ⟨a1, b1, rfl, -⟩ := o1.form
      obtain ⟨a2, b2, rfl, -⟩ := o2.form
      clear o1 o2
      clear hqx hr3 hrd3 ho3 HSP
      go_wp2_with (first | (at_builtin; refine wpList_append_own _ rfl _ _ 23 rfl w.heap.size 52 i0 (.agg #[.string ⟨#[]⟩, .slice none 0 0, .slice none 0 0, .int .i64 0, .int .i64 0]) 5 80 Tryz.underlying23 hi hz0 hz1 hz2 rfl (by decide) _ k (ps.flatMap (·.2)) rfl (hown2.alloc _) ⟨w2.heap.size, 0, none⟩ 1 1 [.string x.nm, .slice a1 x.prms.length b1, .slice a2 x.body.length b2, .int .i64 x.rows, .int .i64 x.bytes] rfl rfl (cells_alloc _ _ _) (by intro u hu; simp only [List.mem_cons, List.not_mem_nil, or_false] at hu; rcases hu with rfl | rfl | rfl | rfl | rfl <;> rfl) (by unfold maxLen; omega) (by omega) (by simp; omega) ?_; intro v' w3 hown3 hgrow3 _))
      have HG := Lib.hid hgrow3
      have HO4 := Lib.hid hown3
      have HOW := Lib.hid hown2
      have hs3' := hgrow3.size
      simp at hs3'
      have HR4 : Hid (Rdr w3 r s3) := grown_other (HOW.out.alloc _) HG.out (heap_of HR3.out ((Below.refl _ _).alloc (Nat.le_refl _) _)) (by decide)
      clear hown3 hgrow3 hown2
      go_wp2
      go_roundw
      case rel =>
        have hkp : Keeps inPc w.heap.size w2 w3 := (Keeps.of ((Below.refl _ _).alloc (Nat.le_refl _) _)).trans (Keeps.grown (HOW.out.alloc _) HG.out (by decide))
        have hkw : Keeps inPc w.heap.size wr w3 := (HKW.out _ (by decide)).trans hkp
        refine ⟨k + 1, l ++ [x], s3, by omega, by go_num, by rw [List.length_append, HLN.out]; rfl, ?_, HQ2.out, HR4.out, by omega, HSP2.out, ?_⟩
        · refine OwnR.push (n := 5) P1.out P2.out (PcO.keeps hkw) (PcO.keeps hkp _ _ HOx.out) rfl ?_
          rw [HLN.out]
          exact HO4.out
        · exact only_base ((((HOn.out.mono (fun k h => Or.inl h)).trans (HO3.out.mono (fun k h => Or.inl h))).alloc _).grown HG.out (fun k hk => Or.inr (own_ge HOW.out k hk)))
      case measure => simp [intOf]; omega
    · have hk' : k = n := by omega
      subst hk'
      have HE := Lib.hid (rd_end HSP.out)
      go_wp2
      go_ret
      refine ⟨_, l, s2, rfl, ⟨ps, P1.out, P2.out, by rw [HLN.out]; exact P3.out⟩, by rw [HLN.out]; omega, HQ.out, HR2.out, hs2, HE.out, HOn.out⟩

end Go.Proofs.YtkgkkcefnonejaaGreat
