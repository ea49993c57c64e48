/- O18 O24 -/
import Derived.Test.YtmmmkjhpmlfopaaGreatDoorSB37
set_option maxHeartbeats 8000000
set_option maxRecDepth 100000
namespace Go.Proofs.YtmmmkjhpmlfopaaGreatDoor
open Go.RowKit
section
open Go.RowKit BB
theorem fits_null {v : V3} {ty : Int} (h : V3.right v = true) (k : (v.1 == 0) = true) : fitsV v ty = true:=by
 rw [beq_iff_eq] at k
 simp [fitsV,h,k]
theorem fits_kind {v : V3} {ty : Int} (h : V3.right v = true) (k : (v.1 != ty) = false) : fitsV v ty = true:=by
 have k : v.1 = ty:=by simpa using k
 simp [fitsV,h,k]
theorem fits_other {v : V3} {ty : Int} {p : Prop} (h : (v.1 == 0) = false) (k : (v.1 != ty) = true) (f : fitsV v ty = true) : p:=by
 rw [beq_eq_false_iff_ne] at h
 rw [bne_iff_ne] at k
 simp [fitsV,h,k] at f
theorem fits_next {t : TT.Tb} {r : Row3} {k : Nat} (ha : ∀ j (g : j < r.length),j < k → ∀ h' : j < t.cols.length,fitsV r[j] (t.cols[j]).ty = true) {hk : k < r.length} {hc : k < t.cols.length} (h : fitsV r[k] (t.cols[k]).ty = true) {j : Nat} (g : j < r.length) (hj : j < k + 1) (h' : j < t.cols.length) : fitsV r[j] (t.cols[j]).ty = true:=by
 by_cases e : j = k
 ·subst e
  exact h
 ·exact ha j g Om h'
theorem misfits_any (w : World) (D : TD) (a : Option Addr) (cap : Nat) (r : Row3) (hF : Fix w D) (hrow : Row w a r) (hl16 : D.t.cols.length ≤ 16) :
  Calls Tryz.prog 59 #[.pointer (some ⟨D.r,0,none⟩),.slice a r.length cap] w fun e w' => Below w.heap.size w w' ∧ BoolP (¬ fitR D.t r) e:=by
 obtain ⟨pc,cc,pk,ck,px,cx,h1,h2,h3,h4,h5,h6⟩:=hF.ex
 have c1 : w.cell? ⟨D.r,1,none⟩ = some (.slice pc D.t.cols.length cc):=h1 1 _ rfl
 have HC:=Hd h2
 have HR:=Hd hrow
 have l1:=cell_lt c1
 clear h1 h2 h3 h4 h5 h6 hrow
 by_cases hl : r.length = D.t.cols.length
 ·have hlb : (((r.length : Int) != (D.t.cols.length : Int))) = false:=by simp [hl]
  have HL:=Hd hl
  clear hl
  go_enter Tryz.func59,Tryz.ntmps59
  go_wp2
  go_loopw [18] (fun i wr => ∃ k : Nat,k ≤ r.length ∧ i = .int .i64 k ∧ (∀ j (g : j < r.length),j < k → ∀ h' : j < D.t.cols.length,fitsV r[j] (D.t.cols[j]).ty = true) ∧ Below w.heap.size w wr) (fun i _ => r.length - (intOf i).toNat)
  case atStart => exact ⟨0,Nat.zero_le _,rfl,fun j _ g => absurd g (Nat.not_lt_zero _),Bxr _ _⟩
  case round =>
   obtain ⟨k,hk,rfl,hall,hb⟩:=hrel
   have HA:=Hd hall
   have hsz:=hb.size
   clear hall
   by_cases hlt : k < r.length
   ·have hlti : (k : Int) < (r.length : Int):=by omega
    have hlc : k < D.t.cols.length:=by have:=HL.out; omega
    have hlci : (k : Int) < (D.t.cols.length : Int):=by omega
    obtain ⟨b,off,rfl,d0,d1,d2⟩:=HR.out k hlt
    obtain ⟨b',off',v0,v1,v2,rfl,hcr,e0,e1,e2⟩:=HC.out.at3 hlc
    simp only [TT.ColR,List.cons.injEq,and_true] at hcr
    obtain ⟨rfl,rfl,rfl⟩:=hcr
    have d0:=cell_later hb d0
    have d1:=cell_later hb d1
    have d2:=cell_later hb d2
    have e1:=cell_later hb e1
    have c1':=cell_later hb c1
    obtain ⟨v,hv⟩:=Vx (r[k])
    obtain ⟨ty,hu⟩:=Vx ((D.t.cols[k]).ty)
    rw [hv] at d0 d1 d2
    rw [hu] at e1
    have HV : Hid (r[k] = v ∧ (D.t.cols[k]).ty = ty):=Hd ⟨hv,hu⟩
    have lb:=cell_lt d0
    have lb':=cell_lt e1
    have lr:=cell_lt c1'
    clear hv hu e0 e2 c1
    have HWR:=Hd hb
    have hrg : ∃ rg,rgt v.1 v.2.1 v.2.2 = rg:=⟨_,rfl⟩
    obtain ⟨rg,hrg⟩:=hrg
    have HRG : Hid (V3.right v = rg):=Hd hrg
    obtain ⟨nb,hnb⟩:=Vx ((v.1 == 0))
    have HNB:=Hd hnb
    obtain ⟨tb,htb⟩:=Vx ((v.1 != ty))
    have HTB:=Hd htb
    go_wp2
    obtain ⟨V,hV⟩:=Vx (wr.alloc (.cells #[.int .i64 v.1,.int .i64 v.2.1,.string v.2.2] 73))
    have hbV : Below wr.heap.size wr V:=by rw [← hV]; exact (Bxr _ _).alloc Zlr _
    have z0 : V.cell? ⟨wr.heap.size,0,none⟩ = some (.int .i64 v.1):=by rw [← hV]; simp
    have z1 : V.cell? ⟨wr.heap.size,1,none⟩ = some (.int .i64 v.2.1):=by rw [← hV]; simp
    have z2 : V.cell? ⟨wr.heap.size,2,none⟩ = some (.string v.2.2):=by rw [← hV]; simp
    have y1:=cell_later hbV e1
    have y2:=cell_later hbV c1'
    have HBV : Hid (Below w.heap.size w V):=Hd (hb.trans (hbV.mono hsz))
    rw [hV]
    obtain ⟨bx,hbx⟩:=Vx wr.heap.size
    rw [hbx] at z0 z1 z2 ⊢
    clear hV hbV d0 d1 d2 e1 c1' hb hsz lb lb' lr hbx
    have hmx9 : Tryz.prog.follows .mixedOrders = true:=by kernel_rfl
    cases rg with
    | false =>
     refine (wpIn_wide (n:=6)).1 ?_
     refine wpIn_region_any hmx9 ?_
     refine wpAnyIn_ready (rs:=[0]) Kr Si ?_
     refine AllReadyIn.cons rfl (fun K hK => ?_) ?_
     ·go_simp
      refine hK _ _ ?_
      clear hK K
      refine wpAnyIn_ready (rs:=[1]) Kr Si ?_
      refine AllReadyIn.cons rfl (fun K hK => ?_) ?_
      ·go_simp
       gi_wp2_with ((refine ⟨trivial,?_⟩; gi_at_call 107; refine (callsIn_wide.2 (right_any _ _ _ _)).mono ?_; rintro e w2 ⟨rfl,hb2⟩; rw [hrg]; (have hb3 : Below V.heap.size V w2:=below_two ((Bxr _ _).drew) hb2); (have s0:=cell_later hb3 z0); (have s1:=cell_later hb3 z1); (have s2:=cell_later hb3 z2); (have s3:=cell_later hb3 y1); (have s4:=cell_later hb3 y2); (have HB2:=Hd hb3); clear hb2 hb3; refine hK _ _ ?_; clear hK K))
       refine wpAnyIn_take (i:=2) rfl rfl Kr Kr Kr (fun _ _ _ h => h) ⟨.inl ⟨by kernel_rfl,by intro w; go_simp; all_goals with_reducible rfl⟩,fun _ => rfl⟩ ?_
       refine wpAnyIn_take (i:=3) rfl rfl Kr Kr Kr (fun _ _ _ h => h) ⟨.inl ⟨by kernel_rfl,by intro w; go_simp; all_goals with_reducible rfl⟩,fun _ => rfl⟩ ?_
       refine wpAnyIn_take (i:=4) (v:=undef) rfl rfl Kr Kr Kr (fun _ _ _ h => h) ⟨Or.inr ⟨by kernel_rfl,rfl⟩,fun _ => rfl⟩ ?_
       refine wpAnyIn_ready (rs:=[5]) Kr Si ?_
       refine AllReadyIn.cons rfl (fun K hK => ?_) ?_
       ·go_simp
        refine ⟨trivial,?_⟩
        refine hK _ _ ?_
        clear hK K
        refine wpAnyIn_take (i:=6) (v:=undef) rfl rfl Kr Kr Kr (fun _ _ _ h => h) ⟨Or.inr ⟨by kernel_rfl,rfl⟩,fun _ => rfl⟩ ?_
        refine wpAnyIn_take (i:=7) (v:=undef) rfl rfl Kr Kr Kr (fun _ _ _ h => h) ⟨Or.inr ⟨by kernel_rfl,rfl⟩,fun _ => rfl⟩ ?_
        refine wpAnyIn_take (i:=8) (v:=undef) rfl rfl Kr Kr Kr (fun _ _ _ h => h) ⟨Or.inr ⟨by kernel_rfl,rfl⟩,fun _ => rfl⟩ ?_
        refine wpAnyIn_take (i:=9) (v:=undef) rfl rfl Kr Kr Kr (fun _ _ _ h => h) ⟨Or.inr ⟨by kernel_rfl,rfl⟩,fun _ => rfl⟩ ?_
        refine wpAnyIn_take (i:=10) (v:=undef) rfl rfl Kr Kr Kr (fun _ _ _ h => h) ⟨Or.inr ⟨by kernel_rfl,rfl⟩,fun _ => rfl⟩ ?_
        refine wpAnyIn_take (i:=11) (v:=undef) rfl rfl Kr Kr Kr (fun _ _ _ h => h) ⟨Or.inr ⟨by kernel_rfl,rfl⟩,fun _ => rfl⟩ ?_
        refine wpAnyIn_take (i:=12) (v:=undef) rfl rfl Kr Kr Kr (fun _ _ _ h => h) ⟨Or.inr ⟨by kernel_rfl,rfl⟩,fun _ => rfl⟩ ?_
        refine wpAnyIn_take (i:=13) (v:=undef) rfl rfl Kr Kr Kr (fun _ _ _ h => h) ⟨Or.inr ⟨by kernel_rfl,rfl⟩,fun _ => rfl⟩ ?_
        refine wpAnyIn_take (i:=14) (v:=undef) rfl rfl Kr Kr Kr (fun _ _ _ h => h) ⟨Or.inr ⟨by kernel_rfl,rfl⟩,fun _ => rfl⟩ ?_
        refine wpAnyIn_take (i:=15) (v:=undef) rfl rfl Kr Kr Kr (fun _ _ _ h => h) ⟨Or.inr ⟨by kernel_rfl,rfl⟩,fun _ => rfl⟩ ?_
        refine wpAnyIn_take (i:=16) (v:=undef) rfl rfl Kr Kr Kr (fun _ _ _ h => h) ⟨Or.inr ⟨by kernel_rfl,rfl⟩,fun _ => rfl⟩ ?_
        refine wpAnyIn_take (i:=17) (v:=undef) rfl rfl Kr Kr Kr (fun _ _ _ h => h) ⟨Or.inr ⟨by kernel_rfl,rfl⟩,fun _ => rfl⟩ ?_
        refine wpAnyIn_take (i:=18) (v:=undef) rfl rfl Kr Kr Kr (fun _ _ _ h => h) ⟨Or.inr ⟨by kernel_rfl,rfl⟩,fun _ => rfl⟩ ?_
        refine wpAnyIn_take (i:=19) (v:=undef) rfl rfl Kr Kr Kr (fun _ _ _ h => h) ⟨Or.inr ⟨by kernel_rfl,rfl⟩,fun _ => rfl⟩ ?_
        refine wpAnyIn_take (i:=20) (v:=undef) rfl rfl Kr Kr Kr (fun _ _ _ h => h) ⟨Or.inr ⟨by kernel_rfl,rfl⟩,fun _ => rfl⟩ ?_
        refine wpAnyIn_take (i:=21) rfl rfl Kr Kr Kr (fun _ _ _ h => h) ⟨.inl ⟨by kernel_rfl,by intro w; go_simp; all_goals with_reducible rfl⟩,fun _ => rfl⟩ ?_
        refine wpAnyIn_done Kr ?_ _
        go_simp
        go_wp2
        refine bodyPost_ret (v:=.bool true) (by simp [results,Tryz.results59,go_sem]) rfl ⟨HBV.out.trans (HB2.out.mono HBV.out.size),true,rfl,fun _ h => absurd (h.right _ (List.getElem_mem hlt)) (by rw [HV.out.1,HRG.out]; decide),fun _ => rfl⟩
       exact AllReadyIn.nil
      exact AllReadyIn.nil
     exact AllReadyIn.nil
    | true =>
     cases nb with
     | true =>
      refine (wpIn_wide (n:=6)).1 ?_
      refine wpIn_region_any hmx9 ?_
      refine wpAnyIn_ready (rs:=[0]) Kr Si ?_
      refine AllReadyIn.cons rfl (fun K hK => ?_) ?_
      ·go_simp
       refine hK _ _ ?_
       clear hK K
       refine wpAnyIn_ready (rs:=[1]) Kr Si ?_
       refine AllReadyIn.cons rfl (fun K hK => ?_) ?_
       ·go_simp
        gi_wp2_with ((refine ⟨trivial,?_⟩; gi_at_call 107; refine (callsIn_wide.2 (right_any _ _ _ _)).mono ?_; rintro e w2 ⟨rfl,hb2⟩; rw [hrg]; (have hb3 : Below V.heap.size V w2:=below_two ((Bxr _ _).drew) hb2); (have s0:=cell_later hb3 z0); (have s1:=cell_later hb3 z1); (have s2:=cell_later hb3 z2); (have s3:=cell_later hb3 y1); (have s4:=cell_later hb3 y2); (have HB2:=Hd hb3); clear hb2 hb3; refine hK _ _ ?_; clear hK K))
        refine wpAnyIn_take (i:=2) rfl rfl Kr Kr Kr (fun _ _ _ h => h) ⟨.inl ⟨by kernel_rfl,by intro w; go_simp; all_goals with_reducible rfl⟩,fun _ => rfl⟩ ?_
        refine wpAnyIn_take (i:=3) rfl rfl Kr Kr Kr (fun _ _ _ h => h) ⟨.inl ⟨by kernel_rfl,by intro w; go_simp; all_goals with_reducible rfl⟩,fun _ => rfl⟩ ?_
        refine wpAnyIn_ready (rs:=[4]) Kr Si ?_
        refine AllReadyIn.cons rfl (fun K hK => ?_) ?_
        ·go_simp
         refine hK _ _ ?_
         clear hK K
         refine wpAnyIn_ready (rs:=[5]) Kr Si ?_
         refine AllReadyIn.cons rfl (fun K hK => ?_) ?_
         ·go_simp
          gi_wp2_with ((refine ⟨trivial,?_⟩; gi_at_call 108; refine (callsIn_wide.2 (isNull_any _ v)).mono ?_; rintro e w3 ⟨rfl,hb4⟩; rw [hnb]; (have t0:=cell_later hb4 s0); (have t3:=cell_later hb4 s3); (have t4:=cell_later hb4 s4); (have HB3:=Hd hb4); clear hb4; refine hK _ _ ?_; clear hK K))
          refine wpAnyIn_take (i:=6) rfl rfl Kr Kr Kr (fun _ _ _ h => h) ⟨.inl ⟨by kernel_rfl,by intro w; go_simp; all_goals with_reducible rfl⟩,fun _ => rfl⟩ ?_
          refine wpAnyIn_take (i:=7) rfl rfl Kr Kr Kr (fun _ _ _ h => h) ⟨.inl ⟨by kernel_rfl,by intro w; go_simp; all_goals with_reducible rfl⟩,fun _ => rfl⟩ ?_
          refine wpAnyIn_take (i:=8) (v:=undef) rfl rfl Kr Kr Kr (fun _ _ _ h => h) ⟨Or.inr ⟨by kernel_rfl,rfl⟩,fun _ => rfl⟩ ?_
          refine wpAnyIn_take (i:=9) (v:=undef) rfl rfl Kr Kr Kr (fun _ _ _ h => h) ⟨Or.inr ⟨by kernel_rfl,rfl⟩,fun _ => rfl⟩ ?_
          refine wpAnyIn_take (i:=10) (v:=undef) rfl rfl Kr Kr Kr (fun _ _ _ h => h) ⟨Or.inr ⟨by kernel_rfl,rfl⟩,fun _ => rfl⟩ ?_
          refine wpAnyIn_take (i:=11) (v:=undef) rfl rfl Kr Kr Kr (fun _ _ _ h => h) ⟨Or.inr ⟨by kernel_rfl,rfl⟩,fun _ => rfl⟩ ?_
          refine wpAnyIn_take (i:=12) (v:=undef) rfl rfl Kr Kr Kr (fun _ _ _ h => h) ⟨Or.inr ⟨by kernel_rfl,rfl⟩,fun _ => rfl⟩ ?_
          refine wpAnyIn_take (i:=13) (v:=undef) rfl rfl Kr Kr Kr (fun _ _ _ h => h) ⟨Or.inr ⟨by kernel_rfl,rfl⟩,fun _ => rfl⟩ ?_
          refine wpAnyIn_take (i:=14) (v:=undef) rfl rfl Kr Kr Kr (fun _ _ _ h => h) ⟨Or.inr ⟨by kernel_rfl,rfl⟩,fun _ => rfl⟩ ?_
          refine wpAnyIn_take (i:=15) (v:=undef) rfl rfl Kr Kr Kr (fun _ _ _ h => h) ⟨Or.inr ⟨by kernel_rfl,rfl⟩,fun _ => rfl⟩ ?_
          refine wpAnyIn_take (i:=16) (v:=undef) rfl rfl Kr Kr Kr (fun _ _ _ h => h) ⟨Or.inr ⟨by kernel_rfl,rfl⟩,fun _ => rfl⟩ ?_
          refine wpAnyIn_take (i:=17) (v:=undef) rfl rfl Kr Kr Kr (fun _ _ _ h => h) ⟨Or.inr ⟨by kernel_rfl,rfl⟩,fun _ => rfl⟩ ?_
          refine wpAnyIn_take (i:=18) (v:=undef) rfl rfl Kr Kr Kr (fun _ _ _ h => h) ⟨Or.inr ⟨by kernel_rfl,rfl⟩,fun _ => rfl⟩ ?_
          refine wpAnyIn_take (i:=19) (v:=undef) rfl rfl Kr Kr Kr (fun _ _ _ h => h) ⟨Or.inr ⟨by kernel_rfl,rfl⟩,fun _ => rfl⟩ ?_
          refine wpAnyIn_take (i:=20) rfl rfl Kr Kr Kr (fun _ _ _ h => h) ⟨.inl ⟨by kernel_rfl,by intro w; go_simp; all_goals with_reducible rfl⟩,fun _ => rfl⟩ ?_
          refine wpAnyIn_take (i:=21) rfl rfl Kr Kr Kr (fun _ _ _ h => h) ⟨.inl ⟨by kernel_rfl,by intro w; go_simp; all_goals with_reducible rfl⟩,fun _ => rfl⟩ ?_
          refine wpAnyIn_done Kr ?_ _
          go_simp
          go_wp2
          go_roundw
          case rel => exact ⟨k + 1,by omega,by go_num,fun j g hj h' => fits_next HA.out (by rw [HV.out.1,HV.out.2]; exact fits_null HRG.out HNB.out) g hj h',HBV.out.trans ((HB2.out.trans (HB3.out.mono HB2.out.size)).mono HBV.out.size)⟩
          case measure => simp [intOf]; omega
         exact AllReadyIn.nil
        exact AllReadyIn.nil
       exact AllReadyIn.nil
      exact AllReadyIn.nil
     | false =>
      refine (wpIn_wide (n:=6)).1 ?_
      refine wpIn_region_any hmx9 ?_
      refine wpAnyIn_ready (rs:=[0]) Kr Si ?_
      refine AllReadyIn.cons rfl (fun K hK => ?_) ?_
      ·go_simp
       refine hK _ _ ?_
       clear hK K
       refine wpAnyIn_ready (rs:=[1]) Kr Si ?_
       refine AllReadyIn.cons rfl (fun K hK => ?_) ?_
       ·go_simp
        gi_wp2_with ((refine ⟨trivial,?_⟩; gi_at_call 107; refine (callsIn_wide.2 (right_any _ _ _ _)).mono ?_; rintro e w2 ⟨rfl,hb2⟩; rw [hrg]; (have hb3 : Below V.heap.size V w2:=below_two ((Bxr _ _).drew) hb2); (have s0:=cell_later hb3 z0); (have s1:=cell_later hb3 z1); (have s2:=cell_later hb3 z2); (have s3:=cell_later hb3 y1); (have s4:=cell_later hb3 y2); (have HB2:=Hd hb3); clear hb2 hb3; refine hK _ _ ?_; clear hK K))
        refine wpAnyIn_take (i:=2) rfl rfl Kr Kr Kr (fun _ _ _ h => h) ⟨.inl ⟨by kernel_rfl,by intro w; go_simp; all_goals with_reducible rfl⟩,fun _ => rfl⟩ ?_
        refine wpAnyIn_take (i:=3) rfl rfl Kr Kr Kr (fun _ _ _ h => h) ⟨.inl ⟨by kernel_rfl,by intro w; go_simp; all_goals with_reducible rfl⟩,fun _ => rfl⟩ ?_
        refine wpAnyIn_ready (rs:=[4]) Kr Si ?_
        refine AllReadyIn.cons rfl (fun K hK => ?_) ?_
        ·go_simp
         refine hK _ _ ?_
         clear hK K
         refine wpAnyIn_ready (rs:=[5]) Kr Si ?_
         refine AllReadyIn.cons rfl (fun K hK => ?_) ?_
         ·go_simp
          gi_wp2_with ((refine ⟨trivial,?_⟩; gi_at_call 108; refine (callsIn_wide.2 (isNull_any _ v)).mono ?_; rintro e w3 ⟨rfl,hb4⟩; rw [hnb]; (have t0:=cell_later hb4 s0); (have t3:=cell_later hb4 s3); (have t4:=cell_later hb4 s4); (have HB3:=Hd hb4); clear hb4; refine hK _ _ ?_; clear hK K))
          refine wpAnyIn_take (i:=6) rfl rfl Kr Kr Kr (fun _ _ _ h => h) ⟨.inl ⟨by kernel_rfl,by intro w; go_simp; all_goals with_reducible rfl⟩,fun _ => rfl⟩ ?_
          refine wpAnyIn_take (i:=7) rfl rfl Kr Kr Kr (fun _ _ _ h => h) ⟨.inl ⟨by kernel_rfl,by intro w; go_simp; all_goals with_reducible rfl⟩,fun _ => rfl⟩ ?_
          refine wpAnyIn_take (i:=8) rfl rfl Kr Kr Kr (fun _ _ _ h => h) ⟨.inl ⟨by kernel_rfl,by intro w; go_simp; all_goals with_reducible rfl⟩,fun _ => rfl⟩ ?_
          refine wpAnyIn_take (i:=10) rfl rfl Kr Kr Kr (fun _ _ _ h => h) ⟨.inl ⟨by kernel_rfl,by intro w; go_simp; all_goals with_reducible rfl⟩,fun _ => rfl⟩ ?_
          refine wpAnyIn_take (i:=11) rfl rfl Kr Kr Kr (fun _ _ _ h => h) ⟨.inl ⟨by kernel_rfl,by intro w; go_simp; all_goals with_reducible rfl⟩,fun _ => rfl⟩ ?_
          refine wpAnyIn_take (i:=12) rfl rfl Kr Kr Kr (fun _ _ _ h => h) ⟨.inl ⟨by kernel_rfl,by intro w; go_simp; all_goals with_reducible rfl⟩,fun _ => rfl⟩ ?_
          refine wpAnyIn_take (i:=13) rfl rfl Kr Kr Kr (fun _ _ _ h => h) ⟨.inl ⟨by kernel_rfl,by intro w; go_simp; all_goals with_reducible rfl⟩,fun _ => rfl⟩ ?_
          refine wpAnyIn_take (i:=15) rfl rfl Kr Kr Kr (fun _ _ _ h => h) ⟨.inl ⟨by kernel_rfl,by intro w; go_simp; all_goals with_reducible rfl⟩,fun _ => rfl⟩ ?_
          refine wpAnyIn_ready (rs:=[9,14]) Kr Si ?_
          refine AllReadyIn.cons rfl (fun K hK => ?_) ?_
          ·go_simp
           refine hK _ _ ?_
           clear hK K
           refine wpAnyIn_ready (rs:=[14]) Kr Si ?_
           refine AllReadyIn.cons rfl (fun K hK => ?_) ?_
           ·go_simp
            refine hK _ _ ?_
            clear hK K
            refine wpAnyIn_take (i:=16) rfl rfl Kr Kr Kr (fun _ _ _ h => h) ⟨.inl ⟨by kernel_rfl,by intro w; go_simp; all_goals with_reducible rfl⟩,fun _ => rfl⟩ ?_
            refine wpAnyIn_take (i:=17) rfl rfl Kr Kr Kr (fun _ _ _ h => h) ⟨.inl ⟨by kernel_rfl,by intro w; go_simp; all_goals with_reducible rfl⟩,fun _ => rfl⟩ ?_
            refine wpAnyIn_ready (rs:=[18]) Kr Si ?_
            refine AllReadyIn.cons rfl (fun K hK => ?_) ?_
            ·go_simp
             refine hK _ _ ?_
             clear hK K
             refine wpAnyIn_take (i:=19) rfl rfl Kr Kr Kr (fun _ _ _ h => h) ⟨.inl ⟨by kernel_rfl,by intro w; go_simp; all_goals with_reducible rfl⟩,fun _ => rfl⟩ ?_
             refine wpAnyIn_take (i:=20) rfl rfl Kr Kr Kr (fun _ _ _ h => h) ⟨.inl ⟨by kernel_rfl,by intro w; go_simp; all_goals with_reducible rfl⟩,fun _ => rfl⟩ ?_
             refine wpAnyIn_take (i:=21) rfl rfl Kr Kr Kr (fun _ _ _ h => h) ⟨.inl ⟨by kernel_rfl,by intro w; go_simp; all_goals with_reducible rfl⟩,fun _ => rfl⟩ ?_
             refine wpAnyIn_done Kr ?_ _
             go_simp
             try simp only [htb]
             cases tb with
             | true =>
              go_wp2
              refine bodyPost_ret (v:=.bool true) (by simp [results,Tryz.results59,go_sem]) rfl ⟨HBV.out.trans ((HB2.out.trans (HB3.out.mono HB2.out.size)).mono HBV.out.size),true,rfl,fun _ h => fits_other HNB.out HTB.out (by have:=h.2 k hlt hlc; rw [HV.out.1,HV.out.2] at this; exact this),fun _ => rfl⟩
             | false =>
              go_wp2
              go_roundw
              case rel => exact ⟨k + 1,by omega,by go_num,fun j g hj h' => fits_next HA.out (by rw [HV.out.1,HV.out.2]; exact fits_kind HRG.out HTB.out) g hj h',HBV.out.trans ((HB2.out.trans (HB3.out.mono HB2.out.size)).mono HBV.out.size)⟩
              case measure => simp [intOf]; omega
            exact AllReadyIn.nil
           exact AllReadyIn.nil
          refine AllReadyIn.cons rfl (fun K hK => ?_) ?_
          ·go_simp
           refine hK _ _ ?_
           clear hK K
           refine wpAnyIn_take (i:=16) rfl rfl Kr Kr Kr (fun _ _ _ h => h) ⟨.inl ⟨by kernel_rfl,by intro w; go_simp; all_goals with_reducible rfl⟩,fun _ => rfl⟩ ?_
           refine wpAnyIn_take (i:=17) rfl rfl Kr Kr Kr (fun _ _ _ h => h) ⟨.inl ⟨by kernel_rfl,by intro w; go_simp; all_goals with_reducible rfl⟩,fun _ => rfl⟩ ?_
           refine wpAnyIn_ready (rs:=[9,18]) Kr Si ?_
           refine AllReadyIn.cons rfl (fun K hK => ?_) ?_
           ·go_simp
            refine hK _ _ ?_
            clear hK K
            refine wpAnyIn_ready (rs:=[18]) Kr Si ?_
            refine AllReadyIn.cons rfl (fun K hK => ?_) ?_
            ·go_simp
             refine hK _ _ ?_
             clear hK K
             refine wpAnyIn_take (i:=19) rfl rfl Kr Kr Kr (fun _ _ _ h => h) ⟨.inl ⟨by kernel_rfl,by intro w; go_simp; all_goals with_reducible rfl⟩,fun _ => rfl⟩ ?_
             refine wpAnyIn_take (i:=20) rfl rfl Kr Kr Kr (fun _ _ _ h => h) ⟨.inl ⟨by kernel_rfl,by intro w; go_simp; all_goals with_reducible rfl⟩,fun _ => rfl⟩ ?_
             refine wpAnyIn_take (i:=21) rfl rfl Kr Kr Kr (fun _ _ _ h => h) ⟨.inl ⟨by kernel_rfl,by intro w; go_simp; all_goals with_reducible rfl⟩,fun _ => rfl⟩ ?_
             refine wpAnyIn_done Kr ?_ _
             go_simp
             try simp only [htb]
             cases tb with
             | true =>
              go_wp2
              refine bodyPost_ret (v:=.bool true) (by simp [results,Tryz.results59,go_sem]) rfl ⟨HBV.out.trans ((HB2.out.trans (HB3.out.mono HB2.out.size)).mono HBV.out.size),true,rfl,fun _ h => fits_other HNB.out HTB.out (by have:=h.2 k hlt hlc; rw [HV.out.1,HV.out.2] at this; exact this),fun _ => rfl⟩
             | false =>
              go_wp2
              go_roundw
              case rel => exact ⟨k + 1,by omega,by go_num,fun j g hj h' => fits_next HA.out (by rw [HV.out.1,HV.out.2]; exact fits_kind HRG.out HTB.out) g hj h',HBV.out.trans ((HB2.out.trans (HB3.out.mono HB2.out.size)).mono HBV.out.size)⟩
              case measure => simp [intOf]; omega
            exact AllReadyIn.nil
           refine AllReadyIn.cons rfl (fun K hK => ?_) ?_
           ·go_simp
            refine hK _ _ ?_
            clear hK K
            refine wpAnyIn_ready (rs:=[9]) Kr Si ?_
            refine AllReadyIn.cons rfl (fun K hK => ?_) ?_
            ·go_simp
             refine hK _ _ ?_
             clear hK K
             refine wpAnyIn_take (i:=19) rfl rfl Kr Kr Kr (fun _ _ _ h => h) ⟨.inl ⟨by kernel_rfl,by intro w; go_simp; all_goals with_reducible rfl⟩,fun _ => rfl⟩ ?_
             refine wpAnyIn_take (i:=20) rfl rfl Kr Kr Kr (fun _ _ _ h => h) ⟨.inl ⟨by kernel_rfl,by intro w; go_simp; all_goals with_reducible rfl⟩,fun _ => rfl⟩ ?_
             refine wpAnyIn_take (i:=21) rfl rfl Kr Kr Kr (fun _ _ _ h => h) ⟨.inl ⟨by kernel_rfl,by intro w; go_simp; all_goals with_reducible rfl⟩,fun _ => rfl⟩ ?_
             refine wpAnyIn_done Kr ?_ _
             go_simp
             try simp only [htb]
             cases tb with
             | true =>
              go_wp2
              refine bodyPost_ret (v:=.bool true) (by simp [results,Tryz.results59,go_sem]) rfl ⟨HBV.out.trans ((HB2.out.trans (HB3.out.mono HB2.out.size)).mono HBV.out.size),true,rfl,fun _ h => fits_other HNB.out HTB.out (by have:=h.2 k hlt hlc; rw [HV.out.1,HV.out.2] at this; exact this),fun _ => rfl⟩
             | false =>
              go_wp2
              go_roundw
              case rel => exact ⟨k + 1,by omega,by go_num,fun j g hj h' => fits_next HA.out (by rw [HV.out.1,HV.out.2]; exact fits_kind HRG.out HTB.out) g hj h',HBV.out.trans ((HB2.out.trans (HB3.out.mono HB2.out.size)).mono HBV.out.size)⟩
              case measure => simp [intOf]; omega
            exact AllReadyIn.nil
           exact AllReadyIn.nil
          exact AllReadyIn.nil
         exact AllReadyIn.nil
        exact AllReadyIn.nil
       exact AllReadyIn.nil
      exact AllReadyIn.nil
   ·have hlti : ¬ (k : Int) < (r.length : Int):=by omega
    go_wp2
    go_ret
    refine ⟨hb,false,rfl,fun h => (by cases h),fun h => absurd ⟨HL.out,fun i h1 h2 => HA.out i h1 Om h2⟩ h⟩
 ·have hlb : (((r.length : Int) != (D.t.cols.length : Int))) = true:=by simp; omega
  have HL:=Hd hl
  clear hl
  go_enter Tryz.func59,Tryz.ntmps59
  go_wp2
  go_ret
  exact ⟨Bxr _ _,true,rfl,fun _ h => HL.out h.1,fun _ => rfl⟩
end
section
open Go.RowKit Go.Maps BB
def namesL (t : TT.Tb) (L : List Row3) : List (List UInt8):=L.map fun r => TT.bs (nmR t r)
theorem namesL_snoc {t : TT.Tb} {L : List Row3} {k : Nat} (h : k < L.length) : namesL t (L.take (k + 1)) = namesL t (L.take k) ++ [TT.bs (nmR t L[k])]:=by
 unfold namesL
 rw [List.take_succ_eq_append_getElem h,List.map_append]
 rfl
theorem namesL_len (t : TT.Tb) (L : List Row3) : (namesL t L).length = L.length:=List.length_map _
def leavesAt (D : TD) (rs L : List Row3) (k : Nat) : Prop:=∃ h : k < L.length,fitR D.t L[k] ∧ TT.bs (nmR D.t L[k]) ∉ namesL D.t (L.take k) ∧ ∃ q ∈ rs,pick3 q D.t.key = pick3 L[k] D.t.key
def LeaveP (D : TD) (rs L : List Row3) (w : World) (e : Ending) (w' : World) : Prop:=Below w.heap.size w w' ∧
 (((∀ k,k < L.length → leavesAt D rs L k) ∧ ∃ b,e = .returned (.tuple #[.map (some b),.bool true]) ∧ SetM w' b (namesL D.t L) ∧ w.heap.size ≤ b) ∨ ((¬ ∀ k,k < L.length → leavesAt D rs L k) ∧ e = .returned (.tuple #[.map none,.bool false])))
theorem leaves_not {D : TD} {rs L : List Row3} {k : Nat} (hk : k < L.length) (h : ¬ leavesAt D rs L k) : ¬ ∀ k,k < L.length → leavesAt D rs L k:=fun g => h (g k hk)
theorem leaves_upto {D : TD} {rs L : List Row3} {k : Nat} (h : ∀ i,i < k → leavesAt D rs L i) (hk : leavesAt D rs L k) : ∀ i,i < k + 1 → leavesAt D rs L i:=fun i hi => by
 rcases Nat.lt_succ_iff_lt_or_eq.1 hi with g | rfl
 ·exact h i g
 ·exact hk
theorem leaving_any {B C : Nat} {Z : Nat → Prop} (w : World) (D : TD) (rs : List Row3) (a : Option Addr) (cap : Nat) (L : List Row3) (hT : Tab w B Z D rs) (hm : Env w C) (hrow : RowsIn w a L) (hL : L.length ≤ 2147483648) :
  Calls Tryz.prog 33 #[.pointer (some ⟨D.r,0,none⟩),.slice a L.length cap] w (LeaveP D rs L w):=by
 have hmm:=@run_makeMap Tryz.prog
 have HT:=Hd hT
 have HM:=Hd hm
 have HR:=Hd hrow
 clear hT hm hrow
 go_enter Tryz.func33,Tryz.ntmps33
 go_wp2
 go_loopw [14] (fun q wr => ∃ k : Nat,k ≤ L.length ∧ q = .int .i64 (k : Int) ∧ (∀ i,i < k → leavesAt D rs L i) ∧ SetM wr w.heap.size (namesL D.t (L.take k)) ∧ Below w.heap.size w wr) (fun q _ => L.length - (intOf q).toNat)
 case atStart => exact ⟨0,Nat.zero_le _,rfl,fun i h => absurd h (Nat.not_lt_zero _),World.ownsMap_made w Tryz.prog 9 (unitElem (H:=Unit)),(Bxr _ w).alloc Zlr _⟩
 case round =>
  obtain ⟨k,hk,rfl,hno,hset,hb⟩:=hrel
  have hsz:=hb.size
  have HNO:=Hd hno
  have HSET:=Hd hset
  have HB:=Hd hb
  clear hno hset
  by_cases hlt : k < L.length
  ·have hlti : (k : Int) < (L.length : Int):=by omega
   obtain ⟨b,off,p,cp,rfl,d0,hrk⟩:=(HR.out.later hb) k hlt
   have HRK:=Hd hrk
   obtain ⟨r,hrr⟩:=Vx (L[k])
   have HRR:=Hd hrr
   rw [hrr] at d0 HRK
   have HMF:=Hd (misfits_any wr D p cp r (HT.out.fix.now.later hb) HRK.out HT.out.tr.cols.2)
   clear hrk hrr hb
   go_wp2_with fail
   refine HMF.out.mono ?_
   rintro e w3 ⟨hb3,mb,rfl,hmb⟩
   have HMB:=Hd hmb
   have HB3:=Hd (HB.out.trans (hb3.mono hsz))
   have HS3:=Hd (HSET.out.later hb3)
   have HR3:=Hd (HRK.out.later hb3)
   clear hmb hb3
   cases mb with
   | true =>
    have HN : Hid (¬ leavesAt D rs L k):=Hd fun ⟨_,h1,_⟩ => HMB.out.1 rfl (by rw [HRR.out] at h1; exact h1)
    go_wp2
    exact bodyPost_ret (v:=.tuple #[.map none,.bool false]) (by simp [results,Tryz.results33,go_sem]) rfl ⟨HB3.out,.inr ⟨leaves_not hlt HN.out,rfl⟩⟩
   | false =>
    have HFR : Hid (fitR D.t r):=Hd (Classical.byContradiction fun h => absurd (HMB.out.2 h) Si)
    have HSK:=Hd (sortKey_any w3 D 0 (-1) Om p cp r (HT.out.fix.now.later HB3.out) HT.out.tr (Nat.zero_le _) HR3.out HFR.out (HM.out.later HB3.out HM.out.le))
    have hsh:=skJ_short HT.out.tr (Nat.zero_le _) HFR.out.right (j:=0)
    have hnm : skJ D.t 0 r = nmR D.t r:=rfl
    rw [hnm] at HSK hsh
    obtain ⟨s,hs⟩:=Vx (nmR D.t r)
    have HSN:=Hd hs
    rw [hs] at HSK hsh
    clear hs hnm
    go_wp2_with fail
    refine HSK.out.mono ?_
    rintro e w4 ⟨rfl,hb4⟩
    have HB4:=Hbt HB3 hb4
    have HS4:=Hd (HS3.out.later hb4)
    have HR4:=Hd (HR3.out.later hb4)
    clear hb4
    go_wp2_with fail
    refine (add_any s w4 w.heap.size _ HS4.out (by rw [namesL_len,List.length_take]; omega) Om).mono ?_
    rintro e w7 ⟨rfl,hset7,ho7⟩
    have HG7:=Hd (grows_map HS4.out ho7)
    have HB7:=Hd (HB4.out.trans (ho7.below HB4.out.size fun q hq e => by omega))
    have HS7 : Hid (SetM w7 w.heap.size (namesL D.t (L.take (k + 1)))):=Hd (by rw [namesL_snoc hlt,HRR.out,HSN.out]; exact hset7)
    have HR7:=Hd (row_grows HR4.out HG7.out)
    obtain ⟨ab,hab⟩:=Vx (decide (TT.bs s ∈ namesL D.t (L.take k)))
    have HAB:=Hd hab
    rw [hab]
    clear hset7 ho7 hab
    cases ab with
    | true =>
     have HN : Hid (¬ leavesAt D rs L k):=Hd fun ⟨_,_,h1,_⟩ => h1 (by rw [HRR.out,HSN.out]; exact of_decide_eq_true HAB.out)
     go_wp2
     exact bodyPost_ret (v:=.tuple #[.map none,.bool false]) (by simp [results,Tryz.results33,go_sem]) rfl ⟨HB7.out,.inr ⟨leaves_not hlt HN.out,rfl⟩⟩
    | false =>
     have HK:=Hd (keyOf_any w7 D p cp r (HT.out.fix.now.later HB7.out) HT.out.tr HR7.out HFR.out.1)
     go_wp2_with fail
     refine HK.out.mono ?_
     rintro e w8 ⟨hb8,v8,rfl,ho8⟩
     have hl8 : (pick3 r D.t.key).length = D.t.key.length:=pick3_length _ _
     rw [← hl8] at ho8
     obtain ⟨p8,c8,rfl,hr8⟩:=Row.of_own ho8
     have HB8:=Hbt HB7 hb8
     have HS8:=Hd (HS7.out.later hb8)
     have HFI:=Hd (find_any w8 D rs p8 c8 (pick3 r D.t.key) (HT.out.later HB8.out) (HM.out.later HB8.out HM.out.le) hr8 (by rw [hl8]; have:=HT.out.tr.key.2.1; omega))
     clear hb8 ho8 hr8 hl8
     go_wp2_with fail
     refine HFI.out.mono ?_
     rintro e w9 ⟨hb9,hx⟩
     have HB9:=Hbt HB8 hb9
     have HS9:=Hd (HS8.out.later hb9)
     clear hb9
     rcases hx with ⟨q,hq,hqk,v9,rfl,_⟩ | ⟨hno9,rfl⟩
     ·have HY : Hid (leavesAt D rs L k):=Hd ⟨hlt,by rw [HRR.out]; exact HFR.out,by rw [HRR.out,HSN.out]; exact of_decide_eq_false HAB.out,q,hq,by rw [HRR.out]; exact hqk⟩
      clear hqk
      go_wp2
      go_roundw
      case rel => exact ⟨k + 1,by omega,by go_num,leaves_upto HNO.out HY.out,HS9.out,HB9.out⟩
      case measure => simp [intOf]; omega
     ·have HN : Hid (¬ leavesAt D rs L k):=Hd fun ⟨_,_,_,q,hq,h1⟩ => hno9 q hq (by rw [HRR.out] at h1; exact h1)
      clear hno9
      go_wp2
      exact bodyPost_ret (v:=.tuple #[.map none,.bool false]) (by simp [results,Tryz.results33,go_sem]) rfl ⟨HB9.out,.inr ⟨leaves_not hlt HN.out,rfl⟩⟩
  ·have hlti : ¬ (k : Int) < (L.length : Int):=by omega
   obtain rfl : k = L.length:=by omega
   have HS9 : Hid (SetM wr w.heap.size (namesL D.t L)):=Hd (by have:=HSET.out; rwa [List.take_of_length_le Zlr] at this)
   clear hb
   go_wp2
   exact bodyPost_ret (v:=.tuple #[.map (some w.heap.size),.bool true]) (by simp [results,Tryz.results33,go_sem]) rfl ⟨HB.out,.inl ⟨HNO.out,_,rfl,HS9.out,Nat.le_refl _⟩⟩
end
end Go.Proofs.YtmmmkjhpmlfopaaGreatDoor
