/- Walks of layer 7: shrink (written by mkshrink.py). -/
import Derived.Test.YtlpannicklkghaaB40
import Derived.Test.YtlpannicklkghaaB15
namespace Go.Proofs.Ytlpannicklkghaa
open Go.RowKit Go.Shelf
attribute [local go_sem] Oper.semAt_some

theorem SM.par {w : World} {Z : Nat → Prop} {t m cnt rb : Nat} {key : ByteArray} {rs0 : List Fr} {its0 : List It} {W : World} {pre : List Fr} {f : Fr} {rest : List Fr} {A : List Nd} {n : Nd} {C : List Nd} {low : List (List Nd)} (h : SM w Z t m cnt rb key rs0 its0 W pre (f :: rest) A n C low) (hm : 4 ≤ m) : NdAt W f.n (hd f.C none) ∧ NdAt W n (hd C none) ∧ 2 ≤ f.n.its.length ∧ f.n.its.length ≤ m ∧ f.X.length < f.n.its.length ∧ ∀ hx : f.X.length < f.n.its.length, (f.n.its[f.X.length]'hx).kid = some n.b := by
  have hw := h.wf.1 f.n (by simp [Fr.lvl])
  have hl : f.X.length < f.n.its.length := by rw [h.frs.2.its, List.length_append, List.length_cons]; omega
  have hk := h.kid
  refine ⟨h.hp.at_ (f.n, hd f.C none) ?_, h.hp.at_ (n, hd C none) ?_, ?_, hw.2, hl, fun hx => ?_⟩
  · rw [lvls_cons, allX_append, allX_append, allX_cons]
    exact List.mem_append_left _ (List.mem_append_right _ (List.mem_append_left _ (link_at [] f.A f.C f.n none)))
  · rw [allX_append, allX_cons]
    exact List.mem_append_right _ (List.mem_append_left _ (link_at [] A C n none))
  · have h1 := hw.1
    have h2 : 4 ≤ m → 2 ≤ lowB m rest.isEmpty false := fun h4 => by unfold lowB; cases rest.isEmpty <;> simp <;> omega
    have := h2 hm
    omega
  · have e : f.n.its[f.X.length]'hx = f.it := by simp [h.frs.2.its]
    rw [e]
    exact hk

set_option maxHeartbeats 8000000 in
set_option maxRecDepth 100000 in
theorem shrink_any (w : World) (Z : Nat → Prop) (t m cnt rb : Nat) (key : ByteArray) (rs : List Fr) (its0 : List It) (v : Value) (B : Nat) (A : List Nd) (n : Nd) (C : List Nd) (hZ : ∀ k, w.heap.size ≤ k → Z k) (hm : 4 ≤ m) (hm2 : m ≤ 64) (hrow : w.ownsRow B 101 2 v rs.length (wc rs.reverse)) (hlen : rs.length ≤ 1000000) (hs : SM w Z t m cnt rb key rs its0 w [] rs A n C []) :
    Calls Try.prog 35 #[.pointer (some ⟨t, 0, none⟩), v] w (GrowP w Z t m cnt its0) := by
  obtain ⟨p, cap, e, _⟩ := wrow_form hrow
  subst e
  have HG : Hid (SM w Z t m cnt rb key rs its0 w [] rs A n C []) := hs
  have HZ : Hid (∀ k, w.heap.size ≤ k → Z k) := hZ
  have HR : Hid (w.ownsRow B 101 2 (.slice p rs.length cap) rs.length (wc rs.reverse)) := hrow
  clear hs hZ hrow
  refine (callsIn_wide (n := 6)).1 ?_
  refine callsIn_of_wp_marks Try.func35 rfl trivial ?_ rfl
  simp only [Try.ntmps35, List.size_toArray, List.length_cons, List.length_nil, Nat.reduceAdd, Nat.reduceSub, Array.replicate_succ, Array.replicate_zero, List.push_toArray, List.append_toArray, List.nil_append, List.cons_append]
  gi_wp2_with (refine ⟨trivial, ?_⟩; gi_at_call 49; refine (back_in _ _ trivial rfl _ _ _ _).mono ?_; rintro e w' ⟨rfl, rfl⟩)
  rename_i Qx Kx ax
  obtain ⟨W0, hW0⟩ : ∃ W0, (w.alloc (Obj.cells #[.pointer (some ⟨t, 0, none⟩)] 28)).alloc (Obj.cells #[.slice p rs.length cap] 80) = W0 := ⟨_, rfl⟩
  have HB0 : Hid (Below w.heap.size w W0) := by
    rw [← hW0]
    exact ((Below.refl _ w).alloc (Nat.le_refl _) _).alloc (by simp) _
  have h3 : W0.heap[w.heap.size]? = some (.cells #[.pointer (some ⟨t, 0, none⟩)] 28 (0, 0)) := by
    rw [← hW0]
    exact (Below.heap_alloc _ _ _ (by simp)).trans (heap_alloc_new w _)
  have h5 : W0.heap[w.heap.size + 1]? = some (.cells #[.slice p rs.length cap] 80 (0, 0)) := by
    rw [← hW0]
    have := heap_alloc_new (w.alloc (Obj.cells #[.pointer (some ⟨t, 0, none⟩)] 28)) (Obj.cells #[.slice p rs.length cap] 80)
    rwa [World.size_alloc] at this
  have hsz : W0.heap.size = w.heap.size + 1 + 1 := by rw [← hW0]; simp
  have hr0 : W0.ownsRow B 101 2 (.slice p rs.length cap) rs.length (wc rs.reverse) := own_kept HR.out fun k e => HB0.out.block _ (HR.out.lt k e).2
  have hgb : SB w Z t m cnt rb key rs its0 (.slice p rs.length cap) B [] W0 := ⟨⟨rs, A, n, C, [], HG.out.later HB0.out⟩, h3, h5, hr0⟩
  rw [hW0]
  have hc5 : W0.cell? ⟨w.heap.size + 1, 0, none⟩ = some (.slice p rs.length cap) := by simp [World.cell?, h5]
  refine wpIn_rangeV rfl (by omega) (gf := 57) (lb := #[.pointer (some ⟨w.heap.size + 1, 0, none⟩)]) rfl trivial (enters_of Try.func57 (by kernel_rfl) rfl)
    (back_stops Fence.wide (6 - 1) trivial rfl (by omega) (w.heap.size + 1) B (.slice p rs.length cap) rs hlen W0 hc5 (by omega) hr0)
    keepsW.trans
    (fun W l o o' hl ho hc => ⟨World.putObj_heap_other (by omega), fun k e => World.putObj_heap_other (fun e' => by have := (hr0.lt k e).2; omega)⟩)
    (Below.refl _ _) (fun _ => rfl)
    (SB w Z t m cnt rb key rs its0 (.slice p rs.length cap) B)
    (fun c _ W => c = .ret ∧ GrowP w Z t m cnt its0 (.returned (.tuple #[])) W)
    (SB.own HZ.out (by omega))
    (fun c => growP_own HZ.out (by omega) c)
    hgb
    (fun x a' W => ∃ Bx, W.heap[Bx]? = some (Obj.cells #[.pointer (some ⟨x.2.n.b, 0, none⟩), .int .i64 (x.2.X.length : Int)] 101 (0, 0)) ∧ a' = { tmps := #[.pointer (some ⟨t, 0, none⟩), .slice p rs.length cap, .pointer (some ⟨w.heap.size, 0, none⟩), undef, undef, .pointer (some ⟨Bx, 0, none⟩), undef, .slice p rs.length cap, .func (.func 57) #[] #[.pointer (some ⟨w.heap.size + 1, 0, none⟩)], .int .i64 (x.1 : Int), .agg #[.pointer (some ⟨x.2.n.b, 0, none⟩), .int .i64 (x.2.X.length : Int)], undef, undef, undef, undef, undef, undef, undef, undef, undef, undef, undef, undef, undef, undef, undef, undef, undef, undef, undef, undef, undef, undef, undef, undef, undef, undef, undef, undef, undef, undef, undef, undef, undef, undef, undef, undef, undef, undef, undef, undef, undef, undef, undef, undef, undef, undef, undef, undef, undef, undef, undef, undef, undef, undef, undef, undef, undef, undef, undef, undef, undef], defers := [] })
    (fun x a' _ X Y row hs hg hr => by
      obtain ⟨Bx, h1, h2⟩ := hs
      refine ⟨Bx, (hg.block Bx (Array.getElem?_eq_some_iff.1 h1).1 fun e => ?_).trans h1, h2⟩
      obtain ⟨_, o, ho, hc⟩ := hr Bx e.symm
      rw [h1] at ho
      obtain rfl := Option.some.inj ho
      cases hc)
    ?assign ?body ?done ?stop
  case assign =>
    rintro l pre x W K hi hV hK
    have HI : Hid (SB w Z t m cnt rb key rs its0 (.slice p rs.length cap) B pre W) := hi
    clear hi
    unfold encF
    gi_wp2
    have hb := (Below.refl W.heap.size W).alloc (Nat.le_refl _) (Obj.cells #[.pointer (some ⟨x.2.n.b, 0, none⟩), .int .i64 (x.2.X.length : Int)] 101)
    exact hK _ _ (keepsFrom_below hb) (HI.out.keeps hb) (HI.out.later hb) ⟨W.heap.size, heap_alloc_new W _, rfl⟩
  case body =>
    rintro l pre x a' W hi ⟨Bx, hbx, rfl⟩ hV
    obtain ⟨rest', hrs', _⟩ := hV
    obtain ⟨rest, A, n, C, low, hsm⟩ := hi.sm
    obtain rfl : rest = x.2 :: rest' := List.append_cancel_left (hsm.rs.symm.trans hrs')
    obtain ⟨i, f⟩ := x
    dsimp only at hsm hbx ⊢
    obtain ⟨hndp, hndn, hp2, hpm, hxl, hkid⟩ := hsm.par hm
    obtain ⟨gp, capg, ev, _, _, _, hc, hfz⟩ := irow_at hndp.row (by omega)
    have c0 := hndp.nc.c0
    rw [ev] at c0
    have ck := (hc f.X.length hxl).2.2
    rw [hkid hxl, Option.map_some] at ck
    obtain ⟨pn, capn, en, _⟩ := irow_form hndn.row
    have cn := hndn.nc.c0
    rw [en] at cn
    have cb3 : W.cell? ⟨w.heap.size, 0, none⟩ = some (.pointer (some ⟨t, 0, none⟩)) := by simp [World.cell?, hi.b3]
    have cx0 : W.cell? ⟨Bx, 0, none⟩ = some (.pointer (some ⟨f.n.b, 0, none⟩)) := by simp [World.cell?, hbx]
    have cx1 : W.cell? ⟨Bx, 1, none⟩ = some (.int .i64 (f.X.length : Int)) := by simp [World.cell?, hbx]
    have ct0 := hsm.tr.c0
    have hnm := hsm.si.wn.2
    obtain ⟨np, hnp⟩ : ∃ np, f.n.its.length = np := ⟨_, rfl⟩
    obtain ⟨nl, hnl⟩ : ∃ nl, n.its.length = nl := ⟨_, rfl⟩
    obtain ⟨bp, hbp⟩ : ∃ bp, f.n.b = bp := ⟨_, rfl⟩
    obtain ⟨bn, hbn⟩ : ∃ bn, n.b = bn := ⟨_, rfl⟩
    obtain ⟨xl, hxlq⟩ : ∃ xl, f.X.length = xl := ⟨_, rfl⟩
    have HSM : Hid (SM w Z t m cnt rb key rs its0 W (pre.map (·.2)) (f :: rest') A n C low) := hsm
    have HI : Hid (SB w Z t m cnt rb key rs its0 (.slice p rs.length cap) B pre W) := hi
    have HN : Hid (f.n.its.length = np ∧ n.its.length = nl ∧ f.n.b = bp ∧ n.b = bn ∧ f.X.length = xl ∧ W.heap[Bx]? = some (Obj.cells #[.pointer (some ⟨f.n.b, 0, none⟩), .int .i64 (f.X.length : Int)] 101 (0, 0))) := ⟨hnp, hnl, hbp, hbn, hxlq, hbx⟩
    rw [hnp] at hpm hp2
    rw [hnp, hbp] at c0
    rw [hxlq, hbn] at ck
    rw [hnl, hbn] at cn
    rw [hxlq] at cx1
    rw [hbp] at cx0
    rw [hnl] at hnm
    rw [hnp, hxlq] at hxl
    rw [hxlq, hbp]
    have hxli : (xl : Int) < (np : Int) := by omega
    clear hi hsm hndp hndn hc hfz hbx ev en hrs' hkid hnp hnl hbp hbn hxlq h3 h5 hr0 hgb hc5 hW0
    have hmx : Try.prog.follows .mixedOrders = true := by kernel_rfl
    clear ax HG HR HB0 hlen hsz
    by_cases hw : m / 2 ≤ nl
    · have hwi : (m : Int) / 2 ≤ (nl : Int) := by omega
      gi_wp2
      refine region_quiet_round l rfl (by kernel_rfl) (by kernel_rfl) (by kernel_rfl) ?_
      repeat (gi_big_quiet_step (fail))
      refine wpQuietIn_nil ?_
      rintro w' ⟨nq, rfl⟩
      gi_wp2
      have hb : Below W.heap.size W (W.drewN nq) := below_drewN (Below.refl _ _) _
      exact ⟨keepsFrom_below hb, rfl, (HSM.out.later hb).fine (by show m / 2 ≤ _; rw [HN.out.2.1]; exact hw)⟩
    · have hwi : ¬ (m : Int) / 2 ≤ (nl : Int) := by omega
      obtain ⟨U, u1, u2, V, A', n1, n2, C', hpk⟩ := SI.pick (f := f) hm HSM.out.frs.2 HSM.out.si (by rw [HN.out.2.1]; omega) (by rw [HN.out.1]; exact hp2)
      obtain ⟨ul, hul⟩ : ∃ ul, U.length = ul := ⟨_, rfl⟩
      have hux : ul = xl - 1 := by rw [← hul, hpk.at_, HN.out.2.2.2.2.1]
      have hmax : max ((xl : Int) - 1) 0 = (ul : Int) := by omega
      clear hux
      have HPK : Hid (Pick m (ctxR (rb, ⟨none, none⟩) rest') f (A ++ n :: C) U u1 u2 V A' n1 n2 C') := hpk
      have HUL : Hid (U.length = ul) := hul
      obtain ⟨D, hD⟩ : ∃ D, (f.n, hd f.C none) :: (n1, some n2.b) :: (n2, hd C' none) :: SM.R f rest' A' C' n1 low = D := ⟨_, rfl⟩
      have HD : Hid ((f.n, hd f.C none) :: (n1, some n2.b) :: (n2, hd C' none) :: SM.R f rest' A' C' n1 low = D) := hD
      have HPD : Hid (Hp W Z D) := by rw [← hD]; exact HSM.out.three hpk
      have hkl1 : n1.its.length ≤ m := hpk.w1
      have hkl2 : n2.its.length ≤ m := hpk.w2
      have HJ : Hid (∀ k, Calls Try.prog 50 #[.pointer (some ⟨bp, 0, none⟩), .int .i64 (ul : Int)] (W.drewN k) (JoinP (W.drewN k) (zd W D) f.n n1 n2 (hd f.C none) (hd C' none) (SM.R f rest' A' C' n1 low) ul)) := fun k => by
        have hh : Hp (W.drewN k) (zd W D) ((f.n, hd f.C none) :: (n1, some n2.b) :: (n2, hd C' none) :: SM.R f rest' A' C' n1 low) := by
          rw [HD.out]
          exact HPD.out.tight.later (below_drewN (Below.refl _ _) _)
        have hil : U.length + 1 < f.n.its.length := by rw [hpk.its]; simp
        have := join_any (W.drewN k) (zd W D) f.n n1 n2 (hd f.C none) (some n2.b) (hd C' none) (SM.R f rest' A' C' n1 low) U.length hh (fun j hj => Or.inr hj) hil (by simp [hpk.its, hpk.k1]) (by simp [hpk.its, hpk.k2]) (by rw [HN.out.1]; omega) (by omega) (by omega) hpk.pos2
        rw [HN.out.2.2.1, hul] at this
        exact this
      clear hpk hul hD hkl1 hkl2
      gi_wp2
      refine region_quiet_round l rfl (by kernel_rfl) (by kernel_rfl) (by kernel_rfl) ?_
      repeat (gi_big_quiet_step (fail))
      refine wpQuietIn_nil ?_
      rintro w' ⟨nq, rfl⟩
      have ex0 : (W.drewN nq).cell? ⟨Bx, 0, none⟩ = some (.pointer (some ⟨bp, 0, none⟩)) := cx0
      have ex1 : (W.drewN nq).cell? ⟨Bx, 1, none⟩ = some (.int .i64 (xl : Int)) := cx1
      obtain ⟨W1, hW1⟩ : ∃ W1, W.drewN nq = W1 := ⟨_, rfl⟩
      have HO1 : Hid (Only (zd W D) W W1) := by rw [← hW1]; exact Only.of (below_drewN (Below.refl _ _) _)
      have HJ1 := HJ.out nq
      rw [hW1] at ex0 ex1 HJ1
      rw [hW1]
      have HJ2 : Hid (Calls Try.prog 50 #[.pointer (some ⟨bp, 0, none⟩), .int .i64 (ul : Int)] W1 (JoinP W1 (zd W D) f.n n1 n2 (hd f.C none) (hd C' none) (SM.R f rest' A' C' n1 low) ul)) := HJ1
      clear hW1 HJ1 HJ c0 ck cn
      gi_wp2_with (refine ⟨trivial, ?_⟩; gi_at_call 50; refine ((callsIn_wide.2 HJ2.out).inRound l).mono ?_; rintro e W2 hj; (have he := hj.1); subst he)
      obtain ⟨_, hoj, v1, v2, hhj⟩ := hj
      have htk := pick_take HPK.out
      rw [HUL.out] at htk
      rw [htk] at hhj
      have HO2 : Hid (Only (zd W D) W W2) := HO1.out.trans hoj
      have HP2 : Hid (Hp W2 (zd W D) ((⟨f.n.b, v1, U ++ u1 :: V⟩, hd f.C none) :: (⟨n1.b, v2, n1.its ++ n2.its⟩, hd C' none) :: SM.R f rest' A' C' n1 low)) := hhj
      have HPW : Hid (∀ j, W2.heap.size ≤ j → zd W D j) := fun j hj => Or.inr (Nat.le_trans HO2.out.size hj)
      clear hoj hhj htk ex0 ex1
      have hbxW : W.heap[Bx]? = some (Obj.cells #[.pointer (some ⟨f.n.b, 0, none⟩), .int .i64 (f.X.length : Int)] 101 (0, 0)) := HN.out.2.2.2.2.2
      have e3 := out_cell HPD.out HO2.out HI.out.b3 (by decide) (by decide) cb3
      have ex0 := out_cell HPD.out HO2.out hbxW (by decide) (by decide) cx0
      have et0 := out_cell HPD.out HO2.out HSM.out.tr.cells (by decide) (by decide) ct0
      have HFT : Hid (Calls Try.prog 51 #[.pointer (some ⟨bp, 0, none⟩), .int .i64 (ul : Int), .int .i64 (m : Int)] W2.drew (FitP W2.drew (zd W D) ⟨f.n.b, v1, U ++ u1 :: V⟩ ⟨n1.b, v2, n1.its ++ n2.its⟩ (hd f.C none) (hd C' none) (SM.R f rest' A' C' n1 low) U.length m)) := by
        have hpl : (U ++ u1 :: V).length + 1 = np := by rw [← HN.out.1, HPK.out.its]; simp; omega
        have := fit_any W2.drew (zd W D) ⟨f.n.b, v1, U ++ u1 :: V⟩ ⟨n1.b, v2, n1.its ++ n2.its⟩ (hd f.C none) (hd C' none) (SM.R f rest' A' C' n1 low) U.length m (HP2.out.later (Below.refl _ _).drew) (fun k hk => HPW.out k hk) (by simp) (by simp [HPK.out.k1]) (by show (U ++ u1 :: V).length ≤ _; omega) (by show (n1.its ++ n2.its).length ≤ _; rw [List.length_append]; have := HPK.out.w1; have := HPK.out.w2; omega) (by omega)
        rw [show (⟨f.n.b, v1, U ++ u1 :: V⟩ : Nd).b = bp from HN.out.2.2.1, HUL.out] at this
        rw [HUL.out, HN.out.2.2.1]
        exact this
      clear cx0 cx1 cb3 ct0 hbxW
      refine wpIn_some (FitP W2.drew (zd W D) ⟨f.n.b, v1, U ++ u1 :: V⟩ ⟨n1.b, v2, n1.its ++ n2.its⟩ (hd f.C none) (hd C' none) (SM.R f rest' A' C' n1 low) U.length m (.returned (.tuple #[]))) ?call ?after
      case call =>
        refine region_round l rfl (by kernel_rfl) hmx ?_
        refine wpAnyIn_take (i := 0) (v := ?v0x1) rfl rfl (by kernel_rfl) (by kernel_rfl) (by kernel_rfl) (fun _ _ _ h => h) ⟨Or.inl ⟨by rfl, ?hy0x1⟩, fun _ => rfl⟩ ?rest0x1
        case hy0x1 =>
          intro w
          go_simp
          all_goals with_reducible rfl
        refine wpAnyIn_take (i := 2) (v := ?v2x2) rfl rfl (by kernel_rfl) (by kernel_rfl) (by kernel_rfl) (fun _ _ _ h => h) ⟨Or.inl ⟨by rfl, ?hy2x2⟩, fun _ => rfl⟩ ?rest2x2
        case hy2x2 =>
          intro w
          go_simp
          all_goals with_reducible rfl
        refine wpAnyIn_ready (rs := [1, 3]) (by kernel_rfl) (by simp) ?_
        refine AllReadyIn.cons rfl (fun K hK => ?_) ?_
        · go_simp
          refine hK _ _ ?_
          clear hK K
          refine wpAnyIn_ready (rs := [3]) (by kernel_rfl) (by simp) ?_
          refine AllReadyIn.cons rfl (fun K hK => ?_) ?_
          · go_simp
            refine hK _ _ ?_
            clear hK K
            refine wpAnyIn_take (i := 4) (v := ?v4x3) rfl rfl (by kernel_rfl) (by kernel_rfl) (by kernel_rfl) (fun _ _ _ h => h) ⟨Or.inl ⟨by rfl, ?hy4x3⟩, fun _ => rfl⟩ ?rest4x3
            case hy4x3 =>
              intro w
              go_simp
              all_goals with_reducible rfl
            refine wpAnyIn_take (i := 5) (v := ?v5x4) rfl rfl (by kernel_rfl) (by kernel_rfl) (by kernel_rfl) (fun _ _ _ h => h) ⟨Or.inl ⟨by rfl, ?hy5x4⟩, fun _ => rfl⟩ ?rest5x4
            case hy5x4 =>
              intro w
              go_simp
              all_goals with_reducible rfl
            refine wpAnyIn_ready (rs := [6]) (by kernel_rfl) (by simp) ?_
            refine AllReadyIn.cons rfl (fun K hK => ?_) ?_
            · go_simp
              refine hK _ _ ?_
              clear hK K
              refine wpAnyIn_ready (rs := [7]) (by kernel_rfl) (by simp) ?_
              refine AllReadyIn.cons rfl (fun K hK => ?_) ?_
              · go_simp
                gi_wp2_with (refine ⟨trivial, ?_⟩; gi_at_call 51; refine (callsIn_wide.2 HFT.out).mono ?_; rintro e w' hfp; (have he := hfp.1); subst he)
                refine wpAnyIn_done (by kernel_rfl) ?_ _
                exact ⟨rfl, by assumption⟩
              exact AllReadyIn.nil
            exact AllReadyIn.nil
          exact AllReadyIn.nil
        refine AllReadyIn.cons rfl (fun K hK => ?_) ?_
        · go_simp
          refine hK _ _ ?_
          clear hK K
          refine wpAnyIn_take (i := 4) (v := ?v4x5) rfl rfl (by kernel_rfl) (by kernel_rfl) (by kernel_rfl) (fun _ _ _ h => h) ⟨Or.inl ⟨by rfl, ?hy4x5⟩, fun _ => rfl⟩ ?rest4x5
          case hy4x5 =>
            intro w
            go_simp
            all_goals with_reducible rfl
          refine wpAnyIn_take (i := 5) (v := ?v5x6) rfl rfl (by kernel_rfl) (by kernel_rfl) (by kernel_rfl) (fun _ _ _ h => h) ⟨Or.inl ⟨by rfl, ?hy5x6⟩, fun _ => rfl⟩ ?rest5x6
          case hy5x6 =>
            intro w
            go_simp
            all_goals with_reducible rfl
          refine wpAnyIn_ready (rs := [1, 6]) (by kernel_rfl) (by simp) ?_
          refine AllReadyIn.cons rfl (fun K hK => ?_) ?_
          · go_simp
            refine hK _ _ ?_
            clear hK K
            refine wpAnyIn_ready (rs := [6]) (by kernel_rfl) (by simp) ?_
            refine AllReadyIn.cons rfl (fun K hK => ?_) ?_
            · go_simp
              refine hK _ _ ?_
              clear hK K
              refine wpAnyIn_ready (rs := [7]) (by kernel_rfl) (by simp) ?_
              refine AllReadyIn.cons rfl (fun K hK => ?_) ?_
              · go_simp
                gi_wp2_with (refine ⟨trivial, ?_⟩; gi_at_call 51; refine (callsIn_wide.2 HFT.out).mono ?_; rintro e w' hfp; (have he := hfp.1); subst he)
                refine wpAnyIn_done (by kernel_rfl) ?_ _
                exact ⟨rfl, by assumption⟩
              exact AllReadyIn.nil
            exact AllReadyIn.nil
          refine AllReadyIn.cons rfl (fun K hK => ?_) ?_
          · go_simp
            refine hK _ _ ?_
            clear hK K
            refine wpAnyIn_ready (rs := [1]) (by kernel_rfl) (by simp) ?_
            refine AllReadyIn.cons rfl (fun K hK => ?_) ?_
            · go_simp
              refine hK _ _ ?_
              clear hK K
              refine wpAnyIn_ready (rs := [7]) (by kernel_rfl) (by simp) ?_
              refine AllReadyIn.cons rfl (fun K hK => ?_) ?_
              · go_simp
                gi_wp2_with (refine ⟨trivial, ?_⟩; gi_at_call 51; refine (callsIn_wide.2 HFT.out).mono ?_; rintro e w' hfp; (have he := hfp.1); subst he)
                refine wpAnyIn_done (by kernel_rfl) ?_ _
                exact ⟨rfl, by assumption⟩
              exact AllReadyIn.nil
            exact AllReadyIn.nil
          exact AllReadyIn.nil
        exact AllReadyIn.nil
      case after =>
        intro a2 W3 hfp
        have hd1 : Only (zd W D) W W2.drew := HO2.out.drew
        obtain ⟨_, ho2, A2, n3, C2, low2, hsm'⟩ := HSM.out.next HPK.out HZ.out hm HD.out.symm hd1 (HSM.out.tr.out HPD.out) hfp
        exact HI.out.round HPD.out ho2 hsm'
  case done =>
    rintro D ys W hD hS hi hK
    obtain ⟨rest, A, n, C, low, hsm⟩ := hi.sm
    rw [hS] at hsm
    obtain rfl := hsm.rest_nil
    obtain ⟨rfl, rfl, hnb⟩ := hsm.top
    have hnd : NdAt W n none := hsm.hp.at_ (n, none) (by simp [lvls, allX, linkN, hd])
    have hwn := hsm.si.wn
    have hlf := hsm.leaf
    have HLF := leaf_any W n none hnd (by omega)
    rw [hnb] at HLF
    obtain ⟨pn, capn, en, _⟩ := irow_form hnd.row
    have c0 := hnd.nc.c0
    rw [en, hnb] at c0
    have cb3 : W.cell? ⟨w.heap.size, 0, none⟩ = some (.pointer (some ⟨t, 0, none⟩)) := by simp [World.cell?, hi.b3]
    have ct2 := hsm.tr.c2
    have HSM : Hid (SM w Z t m cnt rb key rs its0 W rs [] [] n [] low) := hsm
    have HI : Hid (SB w Z t m cnt rb key rs its0 (.slice p rs.length cap) B ys W) := hi
    have HND : Hid (NdAt W n none) := hnd
    obtain ⟨nl, hnlq⟩ : ∃ nl, n.its.length = nl := ⟨_, rfl⟩
    have HNL : Hid (n.its.length = nl ∧ n.b = rb) := ⟨hnlq, hnb⟩
    rw [hnlq] at c0 hwn
    have HZD : Hid (Z D) := HZ.out D (by omega)
    clear hsm hi hnd en hnb hnlq h3 h5 hr0 hgb hc5 hW0 hS
    have hmx : Try.prog.follows .mixedOrders = true := by kernel_rfl
    cases low with
    | nil =>
      rw [hlf.2 rfl] at HLF
      have HL2 : Hid (Calls Try.prog 44 #[.pointer (some ⟨rb, 0, none⟩)] W fun e w' => e = .returned (.bool true) ∧ w' = W) := HLF
      clear HLF hlf hwn
      gi_wp2_with (refine ⟨trivial, ?_⟩; gi_at_call 44; refine (callsIn_wide.2 HL2.out).mono ?_; rintro e w' ⟨rfl, hwe⟩; (have hwe2 := hwe.symm); clear hwe; subst hwe2)
      refine ⟨by simp, .inl ⟨_, _, rfl, run_takeDeferred hK, ?_⟩⟩
      refine ⟨_, results_none rfl _ _ _, ?_⟩
      exact (HSM.out.fine (Nat.zero_le _)).put HZD.out hK rfl _
    | cons M r =>
      obtain ⟨kb, hkb⟩ : ∃ kb, kid0 n.its = some kb := Option.ne_none_iff_exists'.1 fun e => by have := hlf.1 e; cases this
      rw [hkb] at HLF
      have HL2 : Hid (Calls Try.prog 44 #[.pointer (some ⟨rb, 0, none⟩)] W fun e w' => e = .returned (.bool false) ∧ w' = W) := HLF
      have HKB : Hid (kid0 n.its = some kb) := hkb
      have hwn2 : 2 ≤ nl + 1 := hwn.1
      clear HLF hlf hkb hwn
      by_cases h1 : nl = 1
      · have h1i : (nl : Int) = 1 := by omega
        subst h1
        have ctf := HSM.out.tr.fz 2
        have HFK : Hid (∀ W', Below W.heap.size W W' → Calls Try.prog 39 #[.pointer (some ⟨rb, 0, none⟩)] W' fun e w' => e = .returned (.pointer (some ⟨kb, 0, none⟩)) ∧ w' = W') := fun W' hb => by
          have := firstKid_any W' n none (HND.out.later hb) (by have := HNL.out; omega)
          rw [HNL.out.2, HKB.out] at this
          exact this
        gi_wp2_with (refine ⟨trivial, ?_⟩; gi_at_call 44; refine (callsIn_wide.2 HL2.out).mono ?_; rintro e w' ⟨rfl, hwe⟩; (have hwe2 := hwe.symm); clear hwe; subst hwe2)
        apply wpIn_once
        case h =>
          gi_region_with_o (refine ⟨trivial, ?_⟩; gi_at_call 39; refine (callsIn_wide.2 (HFK.out _ ((Below.refl _ _).drew))).mono ?_; rintro e w' ⟨rfl, hwe⟩; (have hwe2 := hwe.symm); clear hwe; subst hwe2)
          all_goals exact ⟨rfl, rfl⟩
        case k =>
          gi_wp2
          obtain ⟨x, hx⟩ : ∃ x, n.its = [x] := by
            have hl := HNL.out.1
            match hi : n.its, hl with
            | [x], _ => exact ⟨x, rfl⟩
          have hkx : x.kid = some kb := by
            have := HKB.out
            rw [hx] at this
            exact this
          have hg : GrowP w Z t m cnt its0 (.returned (.tuple #[])) (W.setCell ⟨t, 2, none⟩ (.pointer (some ⟨kb, 0, none⟩))).drew := (HSM.out.later (W' := W.drew) (Below.refl _ _).drew).root1 hm hx hkx _ rfl
          have hK2 : (W.setCell ⟨t, 2, none⟩ (.pointer (some ⟨kb, 0, none⟩))).drew.heap[D]? = some (.deferred (some [])) := by
            refine Eq.trans (Below.heap_setCell _ _ _ _ fun e => ?_) hK
            have e2 : D = t := e
            rw [e2, HSM.out.tr.cells] at hK
            cases hK
          refine ⟨by simp, .inl ⟨_, _, rfl, run_takeDeferred hK2, ?_⟩⟩
          refine ⟨_, results_none rfl _ _ _, ?_⟩
          exact hg.put HZD.out hK2 rfl _
      · have h1i : ¬ (nl : Int) = 1 := by omega
        gi_wp2_with (refine ⟨trivial, ?_⟩; gi_at_call 44; refine (callsIn_wide.2 HL2.out).mono ?_; rintro e w' ⟨rfl, hwe⟩; (have hwe2 := hwe.symm); clear hwe; subst hwe2)
        refine ⟨by simp, .inl ⟨_, _, rfl, run_takeDeferred hK, ?_⟩⟩
        refine ⟨_, results_none rfl _ _ _, ?_⟩
        exact (HSM.out.fine (by show 2 ≤ _; rw [HNL.out.1]; omega)).put HZD.out hK rfl _
  case stop =>
    rintro D c pre W hD hS ⟨rfl, h⟩ hK
    gi_wp2
    refine ⟨by simp, .inl ⟨_, _, rfl, run_takeDeferred hK, ?_⟩⟩
    refine ⟨_, results_none rfl _ _ _, ?_⟩
    exact h.put (HZ.out D (by omega)) hK rfl _
end Go.Proofs.Ytlpannicklkghaa
