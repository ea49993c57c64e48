/- Walks of layer 8: lists that are read. -/
import Derived.Test.YtkgkkcefnonejaaGreatT38
import Derived.Test.YtkgkkcefnonejaaGreatT18
namespace Go.Proofs.YtkgkkcefnonejaaGreat
open Go.RowKit

set_option maxHeartbeats 8000000 in
set_option maxRecDepth 100000 in
theorem reCol_any (r : Nat) (s : ByteArray) (M : Nat) (w : World) (f : Col → List UInt8) (ok Q : Col → Prop) (h : Rdr w r s) (hs : s.size ≤ 2147483648) (hM : M ≤ 1000)
    (hC : ∀ (s1 : ByteArray) (w1 : World), Rdr w1 r s1 → s1.size ≤ 2147483648 → Calls Tryz.prog 96 #[.pointer (some ⟨r, 0, none⟩)] w1 fun e w2 => ∃ (x : Col) (us : List Value) (s2 : ByteArray), e = .returned (.agg us.toArray) ∧ ColR x us ∧ Q x ∧ Rdr w2 r s2 ∧ s2.size ≤ s1.size ∧ Rd f ok (bs s1) x (bs s2) ∧ Only (fun k => k = r) w1 w2) :
    Calls Tryz.prog 95 #[.pointer (some ⟨r, 0, none⟩), .int .i64 (M : Int), .func (.func 96) #[] #[]] w fun e w' => ∃ (v : Value) (l : List Col) (s' : ByteArray), e = .returned v ∧ OwnR 3 62 ColR w' w.heap.size v l ∧ l.length ≤ M ∧ (∀ x ∈ l, Q x) ∧ Rdr w' r s' ∧ s'.size ≤ s.size ∧ Rd (lst f) (fun L => L.length ≤ M ∧ ∀ x ∈ L, ok x) (bs s) l (bs s') ∧ Only (fun k => k = r) w w' := by
  obtain ⟨i0, hi, hz0, hz1, hz2⟩ := info_parts Tryz.infoCol
  have HC := Lib.hid hC
  have HU := Lib.hid (upTo_any r s M w h hs (by omega))
  clear hC h
  go_enter Tryz.func95, Tryz.ntmps95
  go_wp2_with fail
  refine HU.out.mono ?_
  rintro e w1 ⟨n, s1, rfl, hn, hr1, hs1, hrd, ho1⟩
  have HR1 := Lib.hid hr1
  have HD1 := Lib.hid hrd
  have HO1 := Lib.hid ho1
  clear hr1 hrd ho1 HU
  go_wp2
  go_loopw [7, 11] (fun v i wr => ∃ (k : Nat) (l : List Col) (s2 : ByteArray), k ≤ n ∧ i = .int .i64 k ∧ l.length = k ∧ OwnR 3 62 ColR wr w.heap.size v l ∧ (∀ x ∈ l, Q x) ∧ Rdr wr r s2 ∧ s2.size ≤ s.size ∧ (∀ L y, (L.length ≤ M ∧ ∀ x ∈ L, ok x) → bs s = lst f L ++ y → n = L.length ∧ l = L.take k ∧ bs s2 = (L.drop k).flatMap f ++ y) ∧ Only (fun k => k = r) w wr) (fun _ i _ => n - (intOf i).toNat)
  case atStart => exact ⟨0, [], s1, Nat.zero_le _, rfl, rfl, OwnR.nil _ _ _ _ _, fun x hx => absurd hx List.not_mem_nil, HR1.out, hs1, rd_start (by omega) HD1.out, HO1.out⟩
  case round =>
    clear HR1 HD1 HO1
    obtain ⟨k, l, s2, hk, rfl, hlen, hown, hq, hr2, hs2, hspec, ho⟩ := hrel
    have HQ := Lib.hid hq
    have HR2 := Lib.hid hr2
    have HSP := Lib.hid hspec
    have HOn := Lib.hid ho
    have hsz := ho.size
    obtain ⟨ps, p1, p2, p3⟩ := hown
    rw [hlen] at p3
    have P1 := Lib.hid p1
    have P2 := Lib.hid p2
    have P3 := Lib.hid p3
    have HLN := Lib.hid hlen
    clear hq hr2 hspec ho p1 p2 p3 hlen
    by_cases hlt : k < n
    · have hlti : (k : Int) < (n : Int) := by omega
      go_wp2_with fail
      refine (HC.out s2 wr HR2.out (by omega)).mono ?_
      rintro e w2 ⟨x, us, s3, rfl, hO, hqx, hr3, hs3, hrd3, ho3⟩
      have hz3 := ho3.size
      have HQ2 : Hid (∀ y ∈ l ++ [x], Q y) := fun y hy => by
        rcases List.mem_append.1 hy with hy | hy
        · exact HQ.out y hy
        · rw [List.mem_singleton.1 hy]; exact hqx
      have HSP2 := Lib.hid (rd_step hlt HSP.out hrd3)
      have hown2 := own_only P3.out HR2.out ho3 (by decide)
      have HKW : Hid (∀ S : List TypeId, 85 ∉ S → Keeps S w.heap.size wr w2) := fun S hS => Keeps.only HR2.out ho3 hS
      have HO3 := Lib.hid ho3
      have HR3 := Lib.hid hr3
      have HOx := Lib.hid hO
      obtain rfl := hO
      clear hqx hr3 hrd3 ho3 HSP
      go_wp2_with (first | (at_builtin; refine wpList_append_own _ rfl _ _ 42 rfl w.heap.size 62 i0 (.agg #[.string ⟨#[]⟩, .int .i64 0, .bool false]) 3 32 Tryz.underlying42 hi hz0 hz1 hz2 rfl (by decide) _ k (ps.flatMap (·.2)) rfl (hown2.alloc _) ⟨w2.heap.size, 0, none⟩ 1 1 [.string x.nm, .int .i64 x.ty, .bool x.nn] rfl rfl (cells_alloc _ _ _) (by intro u hu; simp only [List.mem_cons, List.not_mem_nil, or_false] at hu; rcases hu with rfl | rfl | rfl <;> rfl) (by unfold maxLen; omega) (by omega) (by simp; omega) ?_; intro v' w3 hown3 hgrow3 _))
      have HG := Lib.hid hgrow3
      have HO4 := Lib.hid hown3
      have HOW := Lib.hid hown2
      have hs3' := hgrow3.size
      simp at hs3'
      have HR4 : Hid (Rdr w3 r s3) := grown_other (HOW.out.alloc _) HG.out (heap_of HR3.out ((Below.refl _ _).alloc (Nat.le_refl _) _)) (by decide)
      clear hown3 hgrow3 hown2
      go_wp2
      go_roundw
      case rel =>
        have hkp : Keeps ([] : List TypeId) w.heap.size w2 w3 := (Keeps.of ((Below.refl _ _).alloc (Nat.le_refl _) _)).trans (Keeps.grown (HOW.out.alloc _) HG.out (by decide))
        have hkw : Keeps ([] : List TypeId) w.heap.size wr w3 := (HKW.out _ (by decide)).trans hkp
        refine ⟨k + 1, l ++ [x], s3, by omega, by go_num, by rw [List.length_append, HLN.out]; rfl, ?_, HQ2.out, HR4.out, by omega, HSP2.out, ?_⟩
        · refine OwnR.push (n := 3) P1.out P2.out (fun _ _ h => h) HOx.out rfl ?_
          rw [HLN.out]
          exact HO4.out
        · exact only_base ((((HOn.out.mono (fun k h => Or.inl h)).trans (HO3.out.mono (fun k h => Or.inl h))).alloc _).grown HG.out (fun k hk => Or.inr (own_ge HOW.out k hk)))
      case measure => simp [intOf]; omega
    · have hk' : k = n := by omega
      subst hk'
      have HE := Lib.hid (rd_end HSP.out)
      go_wp2
      go_ret
      refine ⟨_, l, s2, rfl, ⟨ps, P1.out, P2.out, by rw [HLN.out]; exact P3.out⟩, by rw [HLN.out]; omega, HQ.out, HR2.out, hs2, HE.out, HOn.out⟩

set_option maxHeartbeats 8000000 in
set_option maxRecDepth 100000 in
theorem rePm_any (r : Nat) (s : ByteArray) (M : Nat) (w : World) (f : Pm → List UInt8) (ok Q : Pm → Prop) (h : Rdr w r s) (hs : s.size ≤ 2147483648) (hM : M ≤ 1000)
    (hC : ∀ (s1 : ByteArray) (w1 : World), Rdr w1 r s1 → s1.size ≤ 2147483648 → Calls Tryz.prog 102 #[.pointer (some ⟨r, 0, none⟩)] w1 fun e w2 => ∃ (x : Pm) (us : List Value) (s2 : ByteArray), e = .returned (.agg us.toArray) ∧ PmR x us ∧ Q x ∧ Rdr w2 r s2 ∧ s2.size ≤ s1.size ∧ Rd f ok (bs s1) x (bs s2) ∧ Only (fun k => k = r) w1 w2) :
    Calls Tryz.prog 101 #[.pointer (some ⟨r, 0, none⟩), .int .i64 (M : Int), .func (.func 102) #[] #[]] w fun e w' => ∃ (v : Value) (l : List Pm) (s' : ByteArray), e = .returned v ∧ OwnR 2 66 PmR w' w.heap.size v l ∧ l.length ≤ M ∧ (∀ x ∈ l, Q x) ∧ Rdr w' r s' ∧ s'.size ≤ s.size ∧ Rd (lst f) (fun L => L.length ≤ M ∧ ∀ x ∈ L, ok x) (bs s) l (bs s') ∧ Only (fun k => k = r) w w' := by
  obtain ⟨i0, hi, hz0, hz1, hz2⟩ := info_parts Tryz.infoPm
  have HC := Lib.hid hC
  have HU := Lib.hid (upTo_any r s M w h hs (by omega))
  clear hC h
  go_enter Tryz.func101, Tryz.ntmps101
  go_wp2_with fail
  refine HU.out.mono ?_
  rintro e w1 ⟨n, s1, rfl, hn, hr1, hs1, hrd, ho1⟩
  have HR1 := Lib.hid hr1
  have HD1 := Lib.hid hrd
  have HO1 := Lib.hid ho1
  clear hr1 hrd ho1 HU
  go_wp2
  go_loopw [7, 11] (fun v i wr => ∃ (k : Nat) (l : List Pm) (s2 : ByteArray), k ≤ n ∧ i = .int .i64 k ∧ l.length = k ∧ OwnR 2 66 PmR wr w.heap.size v l ∧ (∀ x ∈ l, Q x) ∧ Rdr wr r s2 ∧ s2.size ≤ s.size ∧ (∀ L y, (L.length ≤ M ∧ ∀ x ∈ L, ok x) → bs s = lst f L ++ y → n = L.length ∧ l = L.take k ∧ bs s2 = (L.drop k).flatMap f ++ y) ∧ Only (fun k => k = r) w wr) (fun _ i _ => n - (intOf i).toNat)
  case atStart => exact ⟨0, [], s1, Nat.zero_le _, rfl, rfl, OwnR.nil _ _ _ _ _, fun x hx => absurd hx List.not_mem_nil, HR1.out, hs1, rd_start (by omega) HD1.out, HO1.out⟩
  case round =>
    clear HR1 HD1 HO1
    obtain ⟨k, l, s2, hk, rfl, hlen, hown, hq, hr2, hs2, hspec, ho⟩ := hrel
    have HQ := Lib.hid hq
    have HR2 := Lib.hid hr2
    have HSP := Lib.hid hspec
    have HOn := Lib.hid ho
    have hsz := ho.size
    obtain ⟨ps, p1, p2, p3⟩ := hown
    rw [hlen] at p3
    have P1 := Lib.hid p1
    have P2 := Lib.hid p2
    have P3 := Lib.hid p3
    have HLN := Lib.hid hlen
    clear hq hr2 hspec ho p1 p2 p3 hlen
    by_cases hlt : k < n
    · have hlti : (k : Int) < (n : Int) := by omega
      go_wp2_with fail
      refine (HC.out s2 wr HR2.out (by omega)).mono ?_
      rintro e w2 ⟨x, us, s3, rfl, hO, hqx, hr3, hs3, hrd3, ho3⟩
      have hz3 := ho3.size
      have HQ2 : Hid (∀ y ∈ l ++ [x], Q y) := fun y hy => by
        rcases List.mem_append.1 hy with hy | hy
        · exact HQ.out y hy
        · rw [List.mem_singleton.1 hy]; exact hqx
      have HSP2 := Lib.hid (rd_step hlt HSP.out hrd3)
      have hown2 := own_only P3.out HR2.out ho3 (by decide)
      have HKW : Hid (∀ S : List TypeId, 85 ∉ S → Keeps S w.heap.size wr w2) := fun S hS => Keeps.only HR2.out ho3 hS
      have HO3 := Lib.hid ho3
      have HR3 := Lib.hid hr3
      have HOx := Lib.hid hO
      obtain rfl := hO
      clear hqx hr3 hrd3 ho3 HSP
      go_wp2_with (first | (at_builtin; refine wpList_append_own _ rfl _ _ 49 rfl w.heap.size 66 i0 (.agg #[.string ⟨#[]⟩, .int .i64 0]) 2 24 Tryz.underlying49 hi hz0 hz1 hz2 rfl (by decide) _ k (ps.flatMap (·.2)) rfl (hown2.alloc _) ⟨w2.heap.size, 0, none⟩ 1 1 [.string x.nm, .int .i64 x.ty] rfl rfl (cells_alloc _ _ _) (by intro u hu; simp only [List.mem_cons, List.not_mem_nil, or_false] at hu; rcases hu with rfl | rfl <;> rfl) (by unfold maxLen; omega) (by omega) (by simp; omega) ?_; intro v' w3 hown3 hgrow3 _))
      have HG := Lib.hid hgrow3
      have HO4 := Lib.hid hown3
      have HOW := Lib.hid hown2
      have hs3' := hgrow3.size
      simp at hs3'
      have HR4 : Hid (Rdr w3 r s3) := grown_other (HOW.out.alloc _) HG.out (heap_of HR3.out ((Below.refl _ _).alloc (Nat.le_refl _) _)) (by decide)
      clear hown3 hgrow3 hown2
      go_wp2
      go_roundw
      case rel =>
        have hkp : Keeps ([] : List TypeId) w.heap.size w2 w3 := (Keeps.of ((Below.refl _ _).alloc (Nat.le_refl _) _)).trans (Keeps.grown (HOW.out.alloc _) HG.out (by decide))
        have hkw : Keeps ([] : List TypeId) w.heap.size wr w3 := (HKW.out _ (by decide)).trans hkp
        refine ⟨k + 1, l ++ [x], s3, by omega, by go_num, by rw [List.length_append, HLN.out]; rfl, ?_, HQ2.out, HR4.out, by omega, HSP2.out, ?_⟩
        · refine OwnR.push (n := 2) P1.out P2.out (fun _ _ h => h) HOx.out rfl ?_
          rw [HLN.out]
          exact HO4.out
        · exact only_base ((((HOn.out.mono (fun k h => Or.inl h)).trans (HO3.out.mono (fun k h => Or.inl h))).alloc _).grown HG.out (fun k hk => Or.inr (own_ge HOW.out k hk)))
      case measure => simp [intOf]; omega
    · have hk' : k = n := by omega
      subst hk'
      have HE := Lib.hid (rd_end HSP.out)
      go_wp2
      go_ret
      refine ⟨_, l, s2, rfl, ⟨ps, P1.out, P2.out, by rw [HLN.out]; exact P3.out⟩, by rw [HLN.out]; omega, HQ.out, HR2.out, hs2, HE.out, HOn.out⟩

set_option maxHeartbeats 8000000 in
set_option maxRecDepth 100000 in
theorem reInt_any (r : Nat) (s : ByteArray) (M : Nat) (w : World) (f : Int → List UInt8) (ok Q : Int → Prop) (h : Rdr w r s) (hs : s.size ≤ 2147483648) (hM : M ≤ 1000)
    (hC : ∀ (s1 : ByteArray) (w1 : World), Rdr w1 r s1 → s1.size ≤ 2147483648 → Calls Tryz.prog 98 #[.pointer (some ⟨r, 0, none⟩)] w1 fun e w2 => ∃ (x : Int) (s2 : ByteArray), e = .returned (.int .i64 x) ∧ Q x ∧ Rdr w2 r s2 ∧ s2.size ≤ s1.size ∧ Rd f ok (bs s1) x (bs s2) ∧ Only (fun k => k = r) w1 w2) :
    Calls Tryz.prog 97 #[.pointer (some ⟨r, 0, none⟩), .int .i64 (M : Int), .func (.func 98) #[] #[]] w fun e w' => ∃ (v : Value) (l : List Int) (s' : ByteArray), e = .returned v ∧ OwnR 1 3 IntR w' w.heap.size v l ∧ l.length ≤ M ∧ (∀ x ∈ l, Q x) ∧ Rdr w' r s' ∧ s'.size ≤ s.size ∧ Rd (lst f) (fun L => L.length ≤ M ∧ ∀ x ∈ L, ok x) (bs s) l (bs s') ∧ Only (fun k => k = r) w w' := by
  obtain ⟨i0, hi, hz0, hz1, hz2⟩ := info_parts Tryz.infoInt
  have HC := Lib.hid hC
  have HU := Lib.hid (upTo_any r s M w h hs (by omega))
  clear hC h
  go_enter Tryz.func97, Tryz.ntmps97
  go_wp2_with fail
  refine HU.out.mono ?_
  rintro e w1 ⟨n, s1, rfl, hn, hr1, hs1, hrd, ho1⟩
  have HR1 := Lib.hid hr1
  have HD1 := Lib.hid hrd
  have HO1 := Lib.hid ho1
  clear hr1 hrd ho1 HU
  go_wp2
  go_loopw [7, 11] (fun v i wr => ∃ (k : Nat) (l : List Int) (s2 : ByteArray), k ≤ n ∧ i = .int .i64 k ∧ l.length = k ∧ OwnR 1 3 IntR wr w.heap.size v l ∧ (∀ x ∈ l, Q x) ∧ Rdr wr r s2 ∧ s2.size ≤ s.size ∧ (∀ L y, (L.length ≤ M ∧ ∀ x ∈ L, ok x) → bs s = lst f L ++ y → n = L.length ∧ l = L.take k ∧ bs s2 = (L.drop k).flatMap f ++ y) ∧ Only (fun k => k = r) w wr) (fun _ i _ => n - (intOf i).toNat)
  case atStart => exact ⟨0, [], s1, Nat.zero_le _, rfl, rfl, OwnR.nil _ _ _ _ _, fun x hx => absurd hx List.not_mem_nil, HR1.out, hs1, rd_start (by omega) HD1.out, HO1.out⟩
  case round =>
    clear HR1 HD1 HO1
    obtain ⟨k, l, s2, hk, rfl, hlen, hown, hq, hr2, hs2, hspec, ho⟩ := hrel
    have HQ := Lib.hid hq
    have HR2 := Lib.hid hr2
    have HSP := Lib.hid hspec
    have HOn := Lib.hid ho
    have hsz := ho.size
    obtain ⟨ps, p1, p2, p3⟩ := hown
    rw [hlen] at p3
    have P1 := Lib.hid p1
    have P2 := Lib.hid p2
    have P3 := Lib.hid p3
    have HLN := Lib.hid hlen
    clear hq hr2 hspec ho p1 p2 p3 hlen
    by_cases hlt : k < n
    · have hlti : (k : Int) < (n : Int) := by omega
      go_wp2_with fail
      refine (HC.out s2 wr HR2.out (by omega)).mono ?_
      rintro e w2 ⟨x, s3, rfl, hqx, hr3, hs3, hrd3, ho3⟩
      have hz3 := ho3.size
      have HQ2 : Hid (∀ y ∈ l ++ [x], Q y) := fun y hy => by
        rcases List.mem_append.1 hy with hy | hy
        · exact HQ.out y hy
        · rw [List.mem_singleton.1 hy]; exact hqx
      have HSP2 := Lib.hid (rd_step hlt HSP.out hrd3)
      have hown2 := own_only P3.out HR2.out ho3 (by decide)
      have HKW : Hid (∀ S : List TypeId, 85 ∉ S → Keeps S w.heap.size wr w2) := fun S hS => Keeps.only HR2.out ho3 hS
      have HO3 := Lib.hid ho3
      have HR3 := Lib.hid hr3
      clear hqx hr3 hrd3 ho3 HSP
      go_wp2_with (first | (at_builtin; refine wpList_append_own _ rfl _ _ 43 rfl w.heap.size 3 i0 (.int .i64 0) 1 8 Tryz.underlying43 hi hz0 hz1 hz2 rfl (by decide) _ k (ps.flatMap (·.2)) rfl (hown2.alloc _) ⟨w2.heap.size, 0, none⟩ 1 1 [.int .i64 x] rfl rfl (cells_alloc _ _ _) (by intro u hu; simp only [List.mem_cons, List.not_mem_nil, or_false] at hu; rcases hu with rfl <;> rfl) (by unfold maxLen; omega) (by omega) (by simp; omega) ?_; intro v' w3 hown3 hgrow3 _))
      have HG := Lib.hid hgrow3
      have HO4 := Lib.hid hown3
      have HOW := Lib.hid hown2
      have hs3' := hgrow3.size
      simp at hs3'
      have HR4 : Hid (Rdr w3 r s3) := grown_other (HOW.out.alloc _) HG.out (heap_of HR3.out ((Below.refl _ _).alloc (Nat.le_refl _) _)) (by decide)
      clear hown3 hgrow3 hown2
      go_wp2
      go_roundw
      case rel =>
        have hkp : Keeps ([] : List TypeId) w.heap.size w2 w3 := (Keeps.of ((Below.refl _ _).alloc (Nat.le_refl _) _)).trans (Keeps.grown (HOW.out.alloc _) HG.out (by decide))
        have hkw : Keeps ([] : List TypeId) w.heap.size wr w3 := (HKW.out _ (by decide)).trans hkp
        refine ⟨k + 1, l ++ [x], s3, by omega, by go_num, by rw [List.length_append, HLN.out]; rfl, ?_, HQ2.out, HR4.out, by omega, HSP2.out, ?_⟩
        · refine OwnR.push (n := 1) P1.out P2.out (fun _ _ h => h) rfl rfl ?_
          rw [HLN.out]
          exact HO4.out
        · exact only_base ((((HOn.out.mono (fun k h => Or.inl h)).trans (HO3.out.mono (fun k h => Or.inl h))).alloc _).grown HG.out (fun k hk => Or.inr (own_ge HOW.out k hk)))
      case measure => simp [intOf]; omega
    · have hk' : k = n := by omega
      subst hk'
      have HE := Lib.hid (rd_end HSP.out)
      go_wp2
      go_ret
      refine ⟨_, l, s2, rfl, ⟨ps, P1.out, P2.out, by rw [HLN.out]; exact P3.out⟩, by rw [HLN.out]; omega, HQ.out, HR2.out, hs2, HE.out, HOn.out⟩

set_option maxHeartbeats 8000000 in
set_option maxRecDepth 100000 in
theorem reStr_any (r : Nat) (s : ByteArray) (M : Nat) (w : World) (f : ByteArray → List UInt8) (ok Q : ByteArray → Prop) (h : Rdr w r s) (hs : s.size ≤ 2147483648) (hM : M ≤ 1000)
    (hC : ∀ (s1 : ByteArray) (w1 : World), Rdr w1 r s1 → s1.size ≤ 2147483648 → Calls Tryz.prog 94 #[.pointer (some ⟨r, 0, none⟩)] w1 fun e w2 => ∃ (x : ByteArray) (s2 : ByteArray), e = .returned (.string x) ∧ Q x ∧ Rdr w2 r s2 ∧ s2.size ≤ s1.size ∧ Rd f ok (bs s1) x (bs s2) ∧ Only (fun k => k = r) w1 w2) :
    Calls Tryz.prog 103 #[.pointer (some ⟨r, 0, none⟩), .int .i64 (M : Int), .func (.func 94) #[] #[]] w fun e w' => ∃ (v : Value) (l : List ByteArray) (s' : ByteArray), e = .returned v ∧ OwnR 1 9 StrR w' w.heap.size v l ∧ l.length ≤ M ∧ (∀ x ∈ l, Q x) ∧ Rdr w' r s' ∧ s'.size ≤ s.size ∧ Rd (lst f) (fun L => L.length ≤ M ∧ ∀ x ∈ L, ok x) (bs s) l (bs s') ∧ Only (fun k => k = r) w w' := by
  obtain ⟨i0, hi, hz0, hz1, hz2⟩ := info_parts Tryz.infoStr
  have HC := Lib.hid hC
  have HU := Lib.hid (upTo_any r s M w h hs (by omega))
  clear hC h
  go_enter Tryz.func103, Tryz.ntmps103
  go_wp2_with fail
  refine HU.out.mono ?_
  rintro e w1 ⟨n, s1, rfl, hn, hr1, hs1, hrd, ho1⟩
  have HR1 := Lib.hid hr1
  have HD1 := Lib.hid hrd
  have HO1 := Lib.hid ho1
  clear hr1 hrd ho1 HU
  go_wp2
  go_loopw [7, 11] (fun v i wr => ∃ (k : Nat) (l : List ByteArray) (s2 : ByteArray), k ≤ n ∧ i = .int .i64 k ∧ l.length = k ∧ OwnR 1 9 StrR wr w.heap.size v l ∧ (∀ x ∈ l, Q x) ∧ Rdr wr r s2 ∧ s2.size ≤ s.size ∧ (∀ L y, (L.length ≤ M ∧ ∀ x ∈ L, ok x) → bs s = lst f L ++ y → n = L.length ∧ l = L.take k ∧ bs s2 = (L.drop k).flatMap f ++ y) ∧ Only (fun k => k = r) w wr) (fun _ i _ => n - (intOf i).toNat)
  case atStart => exact ⟨0, [], s1, Nat.zero_le _, rfl, rfl, OwnR.nil _ _ _ _ _, fun x hx => absurd hx List.not_mem_nil, HR1.out, hs1, rd_start (by omega) HD1.out, HO1.out⟩
  case round =>
    clear HR1 HD1 HO1
    obtain ⟨k, l, s2, hk, rfl, hlen, hown, hq, hr2, hs2, hspec, ho⟩ := hrel
    have HQ := Lib.hid hq
    have HR2 := Lib.hid hr2
    have HSP := Lib.hid hspec
    have HOn := Lib.hid ho
    have hsz := ho.size
    obtain ⟨ps, p1, p2, p3⟩ := hown
    rw [hlen] at p3
    have P1 := Lib.hid p1
    have P2 := Lib.hid p2
    have P3 := Lib.hid p3
    have HLN := Lib.hid hlen
    clear hq hr2 hspec ho p1 p2 p3 hlen
    by_cases hlt : k < n
    · have hlti : (k : Int) < (n : Int) := by omega
      go_wp2_with fail
      refine (HC.out s2 wr HR2.out (by omega)).mono ?_
      rintro e w2 ⟨x, s3, rfl, hqx, hr3, hs3, hrd3, ho3⟩
      have hz3 := ho3.size
      have HQ2 : Hid (∀ y ∈ l ++ [x], Q y) := fun y hy => by
        rcases List.mem_append.1 hy with hy | hy
        · exact HQ.out y hy
        · rw [List.mem_singleton.1 hy]; exact hqx
      have HSP2 := Lib.hid (rd_step hlt HSP.out hrd3)
      have hown2 := own_only P3.out HR2.out ho3 (by decide)
      have HKW : Hid (∀ S : List TypeId, 85 ∉ S → Keeps S w.heap.size wr w2) := fun S hS => Keeps.only HR2.out ho3 hS
      have HO3 := Lib.hid ho3
      have HR3 := Lib.hid hr3
      clear hqx hr3 hrd3 ho3 HSP
      go_wp2_with (first | (at_builtin; refine wpList_append_own _ rfl _ _ 50 rfl w.heap.size 9 i0 (.string ⟨#[]⟩) 1 16 Tryz.underlying50 hi hz0 hz1 hz2 rfl (by decide) _ k (ps.flatMap (·.2)) rfl (hown2.alloc _) ⟨w2.heap.size, 0, none⟩ 1 1 [.string x] rfl rfl (cells_alloc _ _ _) (by intro u hu; simp only [List.mem_cons, List.not_mem_nil, or_false] at hu; rcases hu with rfl <;> rfl) (by unfold maxLen; omega) (by omega) (by simp; omega) ?_; intro v' w3 hown3 hgrow3 _))
      have HG := Lib.hid hgrow3
      have HO4 := Lib.hid hown3
      have HOW := Lib.hid hown2
      have hs3' := hgrow3.size
      simp at hs3'
      have HR4 : Hid (Rdr w3 r s3) := grown_other (HOW.out.alloc _) HG.out (heap_of HR3.out ((Below.refl _ _).alloc (Nat.le_refl _) _)) (by decide)
      clear hown3 hgrow3 hown2
      go_wp2
      go_roundw
      case rel =>
        have hkp : Keeps ([] : List TypeId) w.heap.size w2 w3 := (Keeps.of ((Below.refl _ _).alloc (Nat.le_refl _) _)).trans (Keeps.grown (HOW.out.alloc _) HG.out (by decide))
        have hkw : Keeps ([] : List TypeId) w.heap.size wr w3 := (HKW.out _ (by decide)).trans hkp
        refine ⟨k + 1, l ++ [x], s3, by omega, by go_num, by rw [List.length_append, HLN.out]; rfl, ?_, HQ2.out, HR4.out, by omega, HSP2.out, ?_⟩
        · refine OwnR.push (n := 1) P1.out P2.out (fun _ _ h => h) rfl rfl ?_
          rw [HLN.out]
          exact HO4.out
        · exact only_base ((((HOn.out.mono (fun k h => Or.inl h)).trans (HO3.out.mono (fun k h => Or.inl h))).alloc _).grown HG.out (fun k hk => Or.inr (own_ge HOW.out k hk)))
      case measure => simp [intOf]; omega
    · have hk' : k = n := by omega
      subst hk'
      have HE := Lib.hid (rd_end HSP.out)
      go_wp2
      go_ret
      refine ⟨_, l, s2, rfl, ⟨ps, P1.out, P2.out, by rw [HLN.out]; exact P3.out⟩, by rw [HLN.out]; omega, HQ.out, HR2.out, hs2, HE.out, HOn.out⟩

end Go.Proofs.YtkgkkcefnonejaaGreat
