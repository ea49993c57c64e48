/- Walks of layer 7: grow (written by mkgrow.py). -/
import Derived.Test.YtlpannicklkghaaB13
namespace Go.Proofs.Ytlpannicklkghaa
open Go.RowKit Go.Shelf
attribute [local go_sem] Oper.semAt_some

set_option maxHeartbeats 8000000 in
set_option maxRecDepth 100000 in
theorem grow_any (w : World) (Z : Nat → Prop) (t m cnt rb : Nat) (key : ByteArray) (rs : List Fr) (its0 : List It) (v : Value) (B : Nat) (A : List Nd) (n : Nd) (C : List Nd) (hZ : ∀ k, w.heap.size ≤ k → Z k) (hm : 4 ≤ m) (hm2 : m ≤ 64) (hrow : w.ownsRow B 101 2 v rs.length (wc rs.reverse)) (hlen : rs.length ≤ 1000000) (hg : GM w Z t m cnt rb key rs its0 w [] rs A n C []) :
    Calls Try.prog 38 #[.pointer (some ⟨t, 0, none⟩), .string key, v] w (GrowP w Z t m cnt its0) := by
  obtain ⟨p, cap, e, _⟩ := wrow_form hrow
  subst e
  have HG : Hid (GM w Z t m cnt rb key rs its0 w [] rs A n C []) := hg
  have HZ : Hid (∀ k, w.heap.size ≤ k → Z k) := hZ
  have HR : Hid (w.ownsRow B 101 2 (.slice p rs.length cap) rs.length (wc rs.reverse)) := hrow
  clear hg hZ hrow
  refine (callsIn_wide (n := 6)).1 ?_
  refine callsIn_of_wp_marks Try.func38 rfl trivial ?_ rfl
  simp only [Try.ntmps38, List.size_toArray, List.length_cons, List.length_nil, Nat.reduceAdd, Nat.reduceSub, Array.replicate_succ, Array.replicate_zero, List.push_toArray, List.append_toArray, List.nil_append, List.cons_append]
  gi_wp2_with (refine ⟨trivial, ?_⟩; gi_at_call 49; refine (back_in _ _ trivial rfl _ _ _ _).mono ?_; rintro e w' ⟨rfl, rfl⟩)
  rename_i Qx Kx ax
  obtain ⟨W0, hW0⟩ : ∃ W0, ((w.alloc (Obj.cells #[.pointer (some ⟨t, 0, none⟩)] 28)).alloc (Obj.cells #[.string key] 9)).alloc (Obj.cells #[.slice p rs.length cap] 80) = W0 := ⟨_, rfl⟩
  have HB0 : Hid (Below w.heap.size w W0) := by
    rw [← hW0]
    exact (((Below.refl _ w).alloc (Nat.le_refl _) _).alloc (by simp) _).alloc (by simp; omega) _
  have h3 : W0.heap[w.heap.size]? = some (.cells #[.pointer (some ⟨t, 0, none⟩)] 28 (0, 0)) := by
    rw [← hW0]
    exact (Below.heap_alloc _ _ _ (by simp; omega)).trans ((Below.heap_alloc _ _ _ (by simp)).trans (heap_alloc_new w _))
  have h4 : W0.heap[w.heap.size + 1]? = some (.cells #[.string key] 9 (0, 0)) := by
    rw [← hW0]
    refine (Below.heap_alloc _ _ _ (by simp)).trans ?_
    have := heap_alloc_new (w.alloc (Obj.cells #[.pointer (some ⟨t, 0, none⟩)] 28)) (Obj.cells #[.string key] 9)
    rwa [World.size_alloc] at this
  have h5 : W0.heap[w.heap.size + 1 + 1]? = some (.cells #[.slice p rs.length cap] 80 (0, 0)) := by
    rw [← hW0]
    have := heap_alloc_new ((w.alloc (Obj.cells #[.pointer (some ⟨t, 0, none⟩)] 28)).alloc (Obj.cells #[.string key] 9)) (Obj.cells #[.slice p rs.length cap] 80)
    rwa [World.size_alloc, World.size_alloc] at this
  have hsz : W0.heap.size = w.heap.size + 1 + 1 + 1 := by rw [← hW0]; simp
  have hr0 : W0.ownsRow B 101 2 (.slice p rs.length cap) rs.length (wc rs.reverse) := own_kept HR.out fun k e => HB0.out.block _ (HR.out.lt k e).2
  have hgb : GB w Z t m cnt rb key rs its0 (.slice p rs.length cap) B [] W0 := ⟨⟨rs, A, n, C, [], ⟨HG.out.rs, HG.out.frs, HG.out.wf, HG.out.gi, HG.out.hp.later HB0.out, HG.out.its, HG.out.only.later HB0.out, HG.out.tr.kept (HB0.out.block _ HG.out.tr.lt)⟩⟩, h3, h4, h5, hr0⟩
  have HGB : Hid (GB w Z t m cnt rb key rs its0 (.slice p rs.length cap) B [] W0) := hgb
  rw [hW0]
  have hc5 : W0.cell? ⟨w.heap.size + 1 + 1, 0, none⟩ = some (.slice p rs.length cap) := by simp [World.cell?, h5]
  refine wpIn_rangeV rfl (by omega) (gf := 57) (lb := #[.pointer (some ⟨w.heap.size + 1 + 1, 0, none⟩)]) rfl trivial (enters_of Try.func57 (by kernel_rfl) rfl)
    (back_stops Fence.wide (6 - 1) trivial rfl (by omega) (w.heap.size + 1 + 1) B (.slice p rs.length cap) rs hlen W0 hc5 (by omega) hr0)
    keepsW.trans
    (fun W l o o' hl ho hc => ⟨World.putObj_heap_other (by omega), fun k e => World.putObj_heap_other (fun e' => by have := (hr0.lt k e).2; omega)⟩)
    (Below.refl _ _) (fun _ => rfl)
    (GB w Z t m cnt rb key rs its0 (.slice p rs.length cap) B)
    (fun _ _ _ => False)
    (GB.own HZ.out (by omega))
    (fun _ _ _ _ _ hs _ _ => hs)
    hgb
    (fun x a' W => ∃ Bx, W.heap[Bx]? = some (Obj.cells #[.pointer (some ⟨x.2.n.b, 0, none⟩), .int .i64 (x.2.X.length : Int)] 101 (0, 0)) ∧ a' = { tmps := #[.pointer (some ⟨t, 0, none⟩), .string key, .slice p rs.length cap, .pointer (some ⟨w.heap.size, 0, none⟩), .pointer (some ⟨w.heap.size + 1, 0, none⟩), undef, undef, .pointer (some ⟨Bx, 0, none⟩), .slice p rs.length cap, .func (.func 57) #[] #[.pointer (some ⟨w.heap.size + 1 + 1, 0, none⟩)], .int .i64 (x.1 : Int), .agg #[.pointer (some ⟨x.2.n.b, 0, none⟩), .int .i64 (x.2.X.length : Int)], undef, undef, undef, undef, undef, undef, undef, undef, undef, undef, undef, undef, undef, undef, undef, undef, undef, undef, undef, undef, undef, undef, undef, undef, undef, undef, undef, undef, undef, undef, undef, undef, undef, undef, undef, undef, undef, undef, undef, undef, undef, undef, undef, undef, undef, undef, undef, undef, undef, undef, undef, undef, undef, undef, undef, undef, undef, undef, undef, undef], defers := [] })
    (fun x a' _ X Y row hs hg hr => by
      obtain ⟨Bx, h1, h2⟩ := hs
      refine ⟨Bx, (hg.block Bx (Array.getElem?_eq_some_iff.1 h1).1 fun e => ?_).trans h1, h2⟩
      obtain ⟨_, o, ho, hc⟩ := hr Bx e.symm
      rw [h1] at ho
      obtain rfl := Option.some.inj ho
      cases hc)
    ?assign ?body ?done ?stop
  case assign =>
    rintro l pre x W K hi hV hK
    have HI : Hid (GB w Z t m cnt rb key rs its0 (.slice p rs.length cap) B pre W) := hi
    clear hi
    unfold encF
    gi_wp2
    have hb := (Below.refl W.heap.size W).alloc (Nat.le_refl _) (Obj.cells #[.pointer (some ⟨x.2.n.b, 0, none⟩), .int .i64 (x.2.X.length : Int)] 101)
    exact hK _ _ (keepsFrom_below hb) (HI.out.keeps hb) (HI.out.later hb) ⟨W.heap.size, heap_alloc_new W _, rfl⟩
  case body =>
    rintro l pre x a' W hi ⟨Bx, hbx, rfl⟩ hV
    obtain ⟨rest', hrs', _⟩ := hV
    obtain ⟨rest, A, n, C, low, hgm⟩ := hi.gm
    obtain rfl : rest = x.2 :: rest' := List.append_cancel_left (hgm.rs.symm.trans hrs')
    obtain ⟨i, f⟩ := x
    dsimp only at hgm hbx ⊢
    have hnd : NdAt W f.n (hd f.C none) := hgm.two.head
    have hpl := hgm.plen
    have hkl : n.its.length ≤ m + 1 := hgm.gi.wn.2
    obtain ⟨g, capg, ev, _, _, _, hc, hfz⟩ := irow_at hnd.row hpl.1
    have c0 := hnd.nc.c0
    rw [ev] at c0
    have cg := (hc 0 hpl.1).1
    rw [Nat.zero_mul] at cg
    have hfg := hfz 0
    obtain ⟨k0, r, h0⟩ := List.exists_cons_of_ne_nil (List.length_pos_iff.1 hpl.1)
    have hk0 : (f.n.its[0]'hpl.1).key = k0.key := by simp [h0]
    rw [hk0] at cg
    have cb3 : W.cell? ⟨w.heap.size, 0, none⟩ = some (.pointer (some ⟨t, 0, none⟩)) := by simp [World.cell?, hi.b3]
    have cb4 : W.cell? ⟨w.heap.size + 1, 0, none⟩ = some (.string key) := by simp [World.cell?, hi.b4]
    have cx0 : W.cell? ⟨Bx, 0, none⟩ = some (.pointer (some ⟨f.n.b, 0, none⟩)) := by simp [World.cell?, hbx]
    have cx1 : W.cell? ⟨Bx, 1, none⟩ = some (.int .i64 (f.X.length : Int)) := by simp [World.cell?, hbx]
    have ct0 := hgm.tr.c0
    obtain ⟨np, hnp⟩ : ∃ np, f.n.its.length = np := ⟨_, rfl⟩
    rw [hnp] at c0
    have hnp0 : (0 : Int) < (np : Int) := by omega
    obtain ⟨bp, hbp⟩ : ∃ bp, f.n.b = bp := ⟨_, rfl⟩
    obtain ⟨k0k, hk0k⟩ : ∃ k0k, k0.key = k0k := ⟨_, rfl⟩
    rw [hbp] at c0 cx0 ⊢
    rw [hk0k] at cg
    have HGM : Hid (GM w Z t m cnt rb key rs its0 W (pre.map (·.2)) (f :: rest') A n C low) := hgm
    have HI : Hid (GB w Z t m cnt rb key rs its0 (.slice p rs.length cap) B pre W) := hi
    have HN : Hid (f.n.its.length = np ∧ f.n.b = bp ∧ k0.key = k0k ∧ f.n.its = k0 :: r ∧ f.n.v = .slice (some ⟨g, 0, none⟩) f.n.its.length capg ∧ W.heap[Bx]? = some (Obj.cells #[.pointer (some ⟨f.n.b, 0, none⟩), .int .i64 (f.X.length : Int)] 101 (0, 0))) := ⟨hnp, hbp, hk0k, h0, ev, hbx⟩
    clear hi hgm hnd hc hfz h0 hk0 hbx ev hrs' hpl hnp hbp hk0k h3 h4 h5 hr0 hgb hc5 hW0
    have hmx : Try.prog.follows .mixedOrders = true := by kernel_rfl
    clear ax HG HR HB0 HGB hlen hsz
    cases hk : kl key k0k with
    | false =>
      have hkb : Op.bytesLess key.toList k0k.toList = false := hk
      gi_wp2
      apply wpIn_once
      case h =>
        gi_region_with_o fail
        all_goals exact ⟨rfl, rfl⟩
      case k =>
        gi_wp2
        obtain ⟨W1, hW1⟩ : ∃ W1, W.drew = W1 := ⟨_, rfl⟩
        have HO1 : Hid (Only (zd W ((f.n, hd f.C none) :: (n, hd C none) :: GM.R f rest' A n C low)) W W1) := by rw [← hW1]; exact (Only.refl _ _).drew
        have HP1 : Hid (Hp W1 (zd W ((f.n, hd f.C none) :: (n, hd C none) :: GM.R f rest' A n C low)) ((lowN key f, hd f.C none) :: (n, hd C none) :: GM.R f rest' A n C low)) := by rw [← hW1]; exact (HGM.out.same HN.out.2.2.2.1 (by rw [HN.out.2.2.1]; exact hk)).later (Below.refl _ _).drew
        rw [hW1]
        clear hW1
        have e3 := out_cell HGM.out.two HO1.out HI.out.b3 (by decide) (by decide) cb3
        have ex0 := out_cell HGM.out.two HO1.out HN.out.2.2.2.2.2 (by decide) (by decide) cx0
        have ex1 := out_cell HGM.out.two HO1.out HN.out.2.2.2.2.2 (by decide) (by decide) cx1
        have et0 := out_cell HGM.out.two HO1.out HGM.out.tr.cells (by decide) (by decide) ct0
        have HFT : Hid (Calls Try.prog 51 #[.pointer (some ⟨bp, 0, none⟩), .int .i64 (f.X.length : Int), .int .i64 (m : Int)] W1.drew (FitP W1.drew (zd W ((f.n, hd f.C none) :: (n, hd C none) :: GM.R f rest' A n C low)) (lowN key f) n (hd f.C none) (hd C none) (GM.R f rest' A n C low) f.X.length m)) := by
          have hpl := HGM.out.plen
          have hll : (lowN key f).its.length = f.n.its.length := by
            rw [HGM.out.frs.2.its]
            simp [lowN]
          have := fit_any W1.drew (zd W ((f.n, hd f.C none) :: (n, hd C none) :: GM.R f rest' A n C low)) (lowN key f) n (hd f.C none) (hd C none) (GM.R f rest' A n C low) f.X.length m (HP1.out.later (Below.refl _ _).drew) (fun k hk => Or.inr (Nat.le_trans HO1.out.size hk)) (by rw [hll]; exact hpl.2.2) (by
            have e : (lowN key f).its[f.X.length]'(by rw [hll]; exact hpl.2.2) = lowIt key f.it := by simp [lowN]
            rw [e]
            exact HGM.out.kid) (by omega) (by omega) (by omega)
          rw [show (lowN key f).b = bp from HN.out.2.1] at this
          exact this
        clear cx0 cx1 cb3 cb4 ct0 c0 cg hfg
        refine wpIn_some (FitP W1.drew (zd W ((f.n, hd f.C none) :: (n, hd C none) :: GM.R f rest' A n C low)) (lowN key f) n (hd f.C none) (hd C none) (GM.R f rest' A n C low) f.X.length m (.returned (.tuple #[]))) ?call ?after
        case call =>
          refine region_round l rfl (by kernel_rfl) hmx ?_
          refine wpAnyIn_take (i := 0) (v := ?v0x1) rfl rfl (by kernel_rfl) (by kernel_rfl) (by kernel_rfl) (fun _ _ _ h => h) ⟨Or.inl ⟨by rfl, ?hy0x1⟩, fun _ => rfl⟩ ?rest0x1
          case hy0x1 =>
            intro w
            go_simp
            all_goals with_reducible rfl
          refine wpAnyIn_take (i := 2) (v := ?v2x2) rfl rfl (by kernel_rfl) (by kernel_rfl) (by kernel_rfl) (fun _ _ _ h => h) ⟨Or.inl ⟨by rfl, ?hy2x2⟩, fun _ => rfl⟩ ?rest2x2
          case hy2x2 =>
            intro w
            go_simp
            all_goals with_reducible rfl
          refine wpAnyIn_ready (rs := [1, 3, 4]) (by kernel_rfl) (by simp) ?_
          refine AllReadyIn.cons rfl (fun K hK => ?_) ?_
          · go_simp
            refine hK _ _ ?_
            clear hK K
            refine wpAnyIn_ready (rs := [3, 4]) (by kernel_rfl) (by simp) ?_
            refine AllReadyIn.cons rfl (fun K hK => ?_) ?_
            · go_simp
              refine hK _ _ ?_
              clear hK K
              refine wpAnyIn_ready (rs := [4]) (by kernel_rfl) (by simp) ?_
              refine AllReadyIn.cons rfl (fun K hK => ?_) ?_
              · go_simp
                refine hK _ _ ?_
                clear hK K
                refine wpAnyIn_take (i := 5) (v := ?v5x3) rfl rfl (by kernel_rfl) (by kernel_rfl) (by kernel_rfl) (fun _ _ _ h => h) ⟨Or.inl ⟨by rfl, ?hy5x3⟩, fun _ => rfl⟩ ?rest5x3
                case hy5x3 =>
                  intro w
                  go_simp
                  all_goals with_reducible rfl
                refine wpAnyIn_take (i := 6) (v := ?v6x4) rfl rfl (by kernel_rfl) (by kernel_rfl) (by kernel_rfl) (fun _ _ _ h => h) ⟨Or.inl ⟨by rfl, ?hy6x4⟩, fun _ => rfl⟩ ?rest6x4
                case hy6x4 =>
                  intro w
                  go_simp
                  all_goals with_reducible rfl
                refine wpAnyIn_ready (rs := [7]) (by kernel_rfl) (by simp) ?_
                refine AllReadyIn.cons rfl (fun K hK => ?_) ?_
                · go_simp
                  refine hK _ _ ?_
                  clear hK K
                  refine wpAnyIn_ready (rs := [8]) (by kernel_rfl) (by simp) ?_
                  refine AllReadyIn.cons rfl (fun K hK => ?_) ?_
                  · go_simp
                    gi_wp2_with (refine ⟨trivial, ?_⟩; gi_at_call 51; refine (callsIn_wide.2 HFT.out).mono ?_; rintro e w' hfp; (have he := hfp.1); subst he)
                    refine wpAnyIn_done (by kernel_rfl) ?_ _
                    exact ⟨rfl, by assumption⟩
                  exact AllReadyIn.nil
                exact AllReadyIn.nil
              exact AllReadyIn.nil
            refine AllReadyIn.cons rfl (fun K hK => ?_) ?_
            · go_simp
              refine hK _ _ ?_
              clear hK K
              refine wpAnyIn_take (i := 5) (v := ?v5x5) rfl rfl (by kernel_rfl) (by kernel_rfl) (by kernel_rfl) (fun _ _ _ h => h) ⟨Or.inl ⟨by rfl, ?hy5x5⟩, fun _ => rfl⟩ ?rest5x5
              case hy5x5 =>
                intro w
                go_simp
                all_goals with_reducible rfl
              refine wpAnyIn_take (i := 6) (v := ?v6x6) rfl rfl (by kernel_rfl) (by kernel_rfl) (by kernel_rfl) (fun _ _ _ h => h) ⟨Or.inl ⟨by rfl, ?hy6x6⟩, fun _ => rfl⟩ ?rest6x6
              case hy6x6 =>
                intro w
                go_simp
                all_goals with_reducible rfl
              refine wpAnyIn_ready (rs := [3, 7]) (by kernel_rfl) (by simp) ?_
              refine AllReadyIn.cons rfl (fun K hK => ?_) ?_
              · go_simp
                refine hK _ _ ?_
                clear hK K
                refine wpAnyIn_ready (rs := [7]) (by kernel_rfl) (by simp) ?_
                refine AllReadyIn.cons rfl (fun K hK => ?_) ?_
                · go_simp
                  refine hK _ _ ?_
                  clear hK K
                  refine wpAnyIn_ready (rs := [8]) (by kernel_rfl) (by simp) ?_
                  refine AllReadyIn.cons rfl (fun K hK => ?_) ?_
                  · go_simp
                    gi_wp2_with (refine ⟨trivial, ?_⟩; gi_at_call 51; refine (callsIn_wide.2 HFT.out).mono ?_; rintro e w' hfp; (have he := hfp.1); subst he)
                    refine wpAnyIn_done (by kernel_rfl) ?_ _
                    exact ⟨rfl, by assumption⟩
                  exact AllReadyIn.nil
                exact AllReadyIn.nil
              refine AllReadyIn.cons rfl (fun K hK => ?_) ?_
              · go_simp
                refine hK _ _ ?_
                clear hK K
                refine wpAnyIn_ready (rs := [3]) (by kernel_rfl) (by simp) ?_
                refine AllReadyIn.cons rfl (fun K hK => ?_) ?_
                · go_simp
                  refine hK _ _ ?_
                  clear hK K
                  refine wpAnyIn_ready (rs := [8]) (by kernel_rfl) (by simp) ?_
                  refine AllReadyIn.cons rfl (fun K hK => ?_) ?_
                  · go_simp
                    gi_wp2_with (refine ⟨trivial, ?_⟩; gi_at_call 51; refine (callsIn_wide.2 HFT.out).mono ?_; rintro e w' hfp; (have he := hfp.1); subst he)
                    refine wpAnyIn_done (by kernel_rfl) ?_ _
                    exact ⟨rfl, by assumption⟩
                  exact AllReadyIn.nil
                exact AllReadyIn.nil
              exact AllReadyIn.nil
            exact AllReadyIn.nil
          refine AllReadyIn.cons rfl (fun K hK => ?_) ?_
          · go_simp
            refine hK _ _ ?_
            clear hK K
            refine wpAnyIn_ready (rs := [1, 4]) (by kernel_rfl) (by simp) ?_
            refine AllReadyIn.cons rfl (fun K hK => ?_) ?_
            · go_simp
              refine hK _ _ ?_
              clear hK K
              refine wpAnyIn_ready (rs := [4]) (by kernel_rfl) (by simp) ?_
              refine AllReadyIn.cons rfl (fun K hK => ?_) ?_
              · go_simp
                refine hK _ _ ?_
                clear hK K
                refine wpAnyIn_take (i := 5) (v := ?v5x7) rfl rfl (by kernel_rfl) (by kernel_rfl) (by kernel_rfl) (fun _ _ _ h => h) ⟨Or.inl ⟨by rfl, ?hy5x7⟩, fun _ => rfl⟩ ?rest5x7
                case hy5x7 =>
                  intro w
                  go_simp
                  all_goals with_reducible rfl
                refine wpAnyIn_take (i := 6) (v := ?v6x8) rfl rfl (by kernel_rfl) (by kernel_rfl) (by kernel_rfl) (fun _ _ _ h => h) ⟨Or.inl ⟨by rfl, ?hy6x8⟩, fun _ => rfl⟩ ?rest6x8
                case hy6x8 =>
                  intro w
                  go_simp
                  all_goals with_reducible rfl
                refine wpAnyIn_ready (rs := [7]) (by kernel_rfl) (by simp) ?_
                refine AllReadyIn.cons rfl (fun K hK => ?_) ?_
                · go_simp
                  refine hK _ _ ?_
                  clear hK K
                  refine wpAnyIn_ready (rs := [8]) (by kernel_rfl) (by simp) ?_
                  refine AllReadyIn.cons rfl (fun K hK => ?_) ?_
                  · go_simp
                    gi_wp2_with (refine ⟨trivial, ?_⟩; gi_at_call 51; refine (callsIn_wide.2 HFT.out).mono ?_; rintro e w' hfp; (have he := hfp.1); subst he)
                    refine wpAnyIn_done (by kernel_rfl) ?_ _
                    exact ⟨rfl, by assumption⟩
                  exact AllReadyIn.nil
                exact AllReadyIn.nil
              exact AllReadyIn.nil
            refine AllReadyIn.cons rfl (fun K hK => ?_) ?_
            · go_simp
              refine hK _ _ ?_
              clear hK K
              refine wpAnyIn_take (i := 5) (v := ?v5x9) rfl rfl (by kernel_rfl) (by kernel_rfl) (by kernel_rfl) (fun _ _ _ h => h) ⟨Or.inl ⟨by rfl, ?hy5x9⟩, fun _ => rfl⟩ ?rest5x9
              case hy5x9 =>
                intro w
                go_simp
                all_goals with_reducible rfl
              refine wpAnyIn_take (i := 6) (v := ?v6x10) rfl rfl (by kernel_rfl) (by kernel_rfl) (by kernel_rfl) (fun _ _ _ h => h) ⟨Or.inl ⟨by rfl, ?hy6x10⟩, fun _ => rfl⟩ ?rest6x10
              case hy6x10 =>
                intro w
                go_simp
                all_goals with_reducible rfl
              refine wpAnyIn_ready (rs := [1, 7]) (by kernel_rfl) (by simp) ?_
              refine AllReadyIn.cons rfl (fun K hK => ?_) ?_
              · go_simp
                refine hK _ _ ?_
                clear hK K
                refine wpAnyIn_ready (rs := [7]) (by kernel_rfl) (by simp) ?_
                refine AllReadyIn.cons rfl (fun K hK => ?_) ?_
                · go_simp
                  refine hK _ _ ?_
                  clear hK K
                  refine wpAnyIn_ready (rs := [8]) (by kernel_rfl) (by simp) ?_
                  refine AllReadyIn.cons rfl (fun K hK => ?_) ?_
                  · go_simp
                    gi_wp2_with (refine ⟨trivial, ?_⟩; gi_at_call 51; refine (callsIn_wide.2 HFT.out).mono ?_; rintro e w' hfp; (have he := hfp.1); subst he)
                    refine wpAnyIn_done (by kernel_rfl) ?_ _
                    exact ⟨rfl, by assumption⟩
                  exact AllReadyIn.nil
                exact AllReadyIn.nil
              refine AllReadyIn.cons rfl (fun K hK => ?_) ?_
              · go_simp
                refine hK _ _ ?_
                clear hK K
                refine wpAnyIn_ready (rs := [1]) (by kernel_rfl) (by simp) ?_
                refine AllReadyIn.cons rfl (fun K hK => ?_) ?_
                · go_simp
                  refine hK _ _ ?_
                  clear hK K
                  refine wpAnyIn_ready (rs := [8]) (by kernel_rfl) (by simp) ?_
                  refine AllReadyIn.cons rfl (fun K hK => ?_) ?_
                  · go_simp
                    gi_wp2_with (refine ⟨trivial, ?_⟩; gi_at_call 51; refine (callsIn_wide.2 HFT.out).mono ?_; rintro e w' hfp; (have he := hfp.1); subst he)
                    refine wpAnyIn_done (by kernel_rfl) ?_ _
                    exact ⟨rfl, by assumption⟩
                  exact AllReadyIn.nil
                exact AllReadyIn.nil
              exact AllReadyIn.nil
            exact AllReadyIn.nil
          refine AllReadyIn.cons rfl (fun K hK => ?_) ?_
          · go_simp
            refine hK _ _ ?_
            clear hK K
            refine wpAnyIn_take (i := 5) (v := ?v5x11) rfl rfl (by kernel_rfl) (by kernel_rfl) (by kernel_rfl) (fun _ _ _ h => h) ⟨Or.inl ⟨by rfl, ?hy5x11⟩, fun _ => rfl⟩ ?rest5x11
            case hy5x11 =>
              intro w
              go_simp
              all_goals with_reducible rfl
            refine wpAnyIn_take (i := 6) (v := ?v6x12) rfl rfl (by kernel_rfl) (by kernel_rfl) (by kernel_rfl) (fun _ _ _ h => h) ⟨Or.inl ⟨by rfl, ?hy6x12⟩, fun _ => rfl⟩ ?rest6x12
            case hy6x12 =>
              intro w
              go_simp
              all_goals with_reducible rfl
            refine wpAnyIn_ready (rs := [1, 3, 7]) (by kernel_rfl) (by simp) ?_
            refine AllReadyIn.cons rfl (fun K hK => ?_) ?_
            · go_simp
              refine hK _ _ ?_
              clear hK K
              refine wpAnyIn_ready (rs := [3, 7]) (by kernel_rfl) (by simp) ?_
              refine AllReadyIn.cons rfl (fun K hK => ?_) ?_
              · go_simp
                refine hK _ _ ?_
                clear hK K
                refine wpAnyIn_ready (rs := [7]) (by kernel_rfl) (by simp) ?_
                refine AllReadyIn.cons rfl (fun K hK => ?_) ?_
                · go_simp
                  refine hK _ _ ?_
                  clear hK K
                  refine wpAnyIn_ready (rs := [8]) (by kernel_rfl) (by simp) ?_
                  refine AllReadyIn.cons rfl (fun K hK => ?_) ?_
                  · go_simp
                    gi_wp2_with (refine ⟨trivial, ?_⟩; gi_at_call 51; refine (callsIn_wide.2 HFT.out).mono ?_; rintro e w' hfp; (have he := hfp.1); subst he)
                    refine wpAnyIn_done (by kernel_rfl) ?_ _
                    exact ⟨rfl, by assumption⟩
                  exact AllReadyIn.nil
                exact AllReadyIn.nil
              refine AllReadyIn.cons rfl (fun K hK => ?_) ?_
              · go_simp
                refine hK _ _ ?_
                clear hK K
                refine wpAnyIn_ready (rs := [3]) (by kernel_rfl) (by simp) ?_
                refine AllReadyIn.cons rfl (fun K hK => ?_) ?_
                · go_simp
                  refine hK _ _ ?_
                  clear hK K
                  refine wpAnyIn_ready (rs := [8]) (by kernel_rfl) (by simp) ?_
                  refine AllReadyIn.cons rfl (fun K hK => ?_) ?_
                  · go_simp
                    gi_wp2_with (refine ⟨trivial, ?_⟩; gi_at_call 51; refine (callsIn_wide.2 HFT.out).mono ?_; rintro e w' hfp; (have he := hfp.1); subst he)
                    refine wpAnyIn_done (by kernel_rfl) ?_ _
                    exact ⟨rfl, by assumption⟩
                  exact AllReadyIn.nil
                exact AllReadyIn.nil
              exact AllReadyIn.nil
            refine AllReadyIn.cons rfl (fun K hK => ?_) ?_
            · go_simp
              refine hK _ _ ?_
              clear hK K
              refine wpAnyIn_ready (rs := [1, 7]) (by kernel_rfl) (by simp) ?_
              refine AllReadyIn.cons rfl (fun K hK => ?_) ?_
              · go_simp
                refine hK _ _ ?_
                clear hK K
                refine wpAnyIn_ready (rs := [7]) (by kernel_rfl) (by simp) ?_
                refine AllReadyIn.cons rfl (fun K hK => ?_) ?_
                · go_simp
                  refine hK _ _ ?_
                  clear hK K
                  refine wpAnyIn_ready (rs := [8]) (by kernel_rfl) (by simp) ?_
                  refine AllReadyIn.cons rfl (fun K hK => ?_) ?_
                  · go_simp
                    gi_wp2_with (refine ⟨trivial, ?_⟩; gi_at_call 51; refine (callsIn_wide.2 HFT.out).mono ?_; rintro e w' hfp; (have he := hfp.1); subst he)
                    refine wpAnyIn_done (by kernel_rfl) ?_ _
                    exact ⟨rfl, by assumption⟩
                  exact AllReadyIn.nil
                exact AllReadyIn.nil
              refine AllReadyIn.cons rfl (fun K hK => ?_) ?_
              · go_simp
                refine hK _ _ ?_
                clear hK K
                refine wpAnyIn_ready (rs := [1]) (by kernel_rfl) (by simp) ?_
                refine AllReadyIn.cons rfl (fun K hK => ?_) ?_
                · go_simp
                  refine hK _ _ ?_
                  clear hK K
                  refine wpAnyIn_ready (rs := [8]) (by kernel_rfl) (by simp) ?_
                  refine AllReadyIn.cons rfl (fun K hK => ?_) ?_
                  · go_simp
                    gi_wp2_with (refine ⟨trivial, ?_⟩; gi_at_call 51; refine (callsIn_wide.2 HFT.out).mono ?_; rintro e w' hfp; (have he := hfp.1); subst he)
                    refine wpAnyIn_done (by kernel_rfl) ?_ _
                    exact ⟨rfl, by assumption⟩
                  exact AllReadyIn.nil
                exact AllReadyIn.nil
              exact AllReadyIn.nil
            refine AllReadyIn.cons rfl (fun K hK => ?_) ?_
            · go_simp
              refine hK _ _ ?_
              clear hK K
              refine wpAnyIn_ready (rs := [1, 3]) (by kernel_rfl) (by simp) ?_
              refine AllReadyIn.cons rfl (fun K hK => ?_) ?_
              · go_simp
                refine hK _ _ ?_
                clear hK K
                refine wpAnyIn_ready (rs := [3]) (by kernel_rfl) (by simp) ?_
                refine AllReadyIn.cons rfl (fun K hK => ?_) ?_
                · go_simp
                  refine hK _ _ ?_
                  clear hK K
                  refine wpAnyIn_ready (rs := [8]) (by kernel_rfl) (by simp) ?_
                  refine AllReadyIn.cons rfl (fun K hK => ?_) ?_
                  · go_simp
                    gi_wp2_with (refine ⟨trivial, ?_⟩; gi_at_call 51; refine (callsIn_wide.2 HFT.out).mono ?_; rintro e w' hfp; (have he := hfp.1); subst he)
                    refine wpAnyIn_done (by kernel_rfl) ?_ _
                    exact ⟨rfl, by assumption⟩
                  exact AllReadyIn.nil
                exact AllReadyIn.nil
              refine AllReadyIn.cons rfl (fun K hK => ?_) ?_
              · go_simp
                refine hK _ _ ?_
                clear hK K
                refine wpAnyIn_ready (rs := [1]) (by kernel_rfl) (by simp) ?_
                refine AllReadyIn.cons rfl (fun K hK => ?_) ?_
                · go_simp
                  refine hK _ _ ?_
                  clear hK K
                  refine wpAnyIn_ready (rs := [8]) (by kernel_rfl) (by simp) ?_
                  refine AllReadyIn.cons rfl (fun K hK => ?_) ?_
                  · go_simp
                    gi_wp2_with (refine ⟨trivial, ?_⟩; gi_at_call 51; refine (callsIn_wide.2 HFT.out).mono ?_; rintro e w' hfp; (have he := hfp.1); subst he)
                    refine wpAnyIn_done (by kernel_rfl) ?_ _
                    exact ⟨rfl, by assumption⟩
                  exact AllReadyIn.nil
                exact AllReadyIn.nil
              exact AllReadyIn.nil
            exact AllReadyIn.nil
          exact AllReadyIn.nil
        case after =>
          intro a2 W2 hfp
          have hd1 : Only (zd W ((f.n, hd f.C none) :: (n, hd C none) :: GM.R f rest' A n C low)) W W1.drew := HO1.out.drew
          obtain ⟨_, ho2, A', n', C', low', hgm'⟩ := HGM.out.next HZ.out (by omega) rfl hd1 (HGM.out.tr.out HGM.out.two) hfp
          exact HI.out.round HGM.out.two ho2 hgm'
    | true =>
      have hkb : Op.bytesLess key.toList k0k.toList = true := hk
      gi_wp2
      apply wpIn_once
      case h =>
        gi_region_with_o fail
        all_goals exact ⟨rfl, rfl⟩
      case k =>
        gi_wp2
        apply wpIn_once
        case h =>
          gi_region_with_o fail
          all_goals exact ⟨rfl, rfl⟩
        case k =>
          gi_wp2
          have HLS : Hid (Hp (W.setCell ⟨g, 0, none⟩ (.string key)) (zd W ((f.n, hd f.C none) :: (n, hd C none) :: GM.R f rest' A n C low)) ((lowN key f, hd f.C none) :: (n, hd C none) :: GM.R f rest' A n C low) ∧ Only (zd W ((f.n, hd f.C none) :: (n, hd C none) :: GM.R f rest' A n C low)) W (W.setCell ⟨g, 0, none⟩ (.string key))) := HGM.out.less HN.out.2.2.2.1 (by rw [HN.out.2.2.1]; exact hk) HN.out.2.2.2.2.1
          obtain ⟨W1, hW1⟩ : ∃ W1, (W.setCell ⟨g, 0, none⟩ (.string key)).drew.drew = W1 := ⟨_, rfl⟩
          have HO1 : Hid (Only (zd W ((f.n, hd f.C none) :: (n, hd C none) :: GM.R f rest' A n C low)) W W1) := by rw [← hW1]; exact HLS.out.2.drew.drew
          have HP1 : Hid (Hp W1 (zd W ((f.n, hd f.C none) :: (n, hd C none) :: GM.R f rest' A n C low)) ((lowN key f, hd f.C none) :: (n, hd C none) :: GM.R f rest' A n C low)) := by rw [← hW1]; exact (HLS.out.1.later (Below.refl _ _).drew).later (Below.refl _ _).drew
          rw [hW1]
          clear hW1
          have e3 := out_cell HGM.out.two HO1.out HI.out.b3 (by decide) (by decide) cb3
          have ex0 := out_cell HGM.out.two HO1.out HN.out.2.2.2.2.2 (by decide) (by decide) cx0
          have ex1 := out_cell HGM.out.two HO1.out HN.out.2.2.2.2.2 (by decide) (by decide) cx1
          have et0 := out_cell HGM.out.two HO1.out HGM.out.tr.cells (by decide) (by decide) ct0
          have HFT : Hid (Calls Try.prog 51 #[.pointer (some ⟨bp, 0, none⟩), .int .i64 (f.X.length : Int), .int .i64 (m : Int)] W1.drew (FitP W1.drew (zd W ((f.n, hd f.C none) :: (n, hd C none) :: GM.R f rest' A n C low)) (lowN key f) n (hd f.C none) (hd C none) (GM.R f rest' A n C low) f.X.length m)) := by
            have hpl := HGM.out.plen
            have hll : (lowN key f).its.length = f.n.its.length := by
              rw [HGM.out.frs.2.its]
              simp [lowN]
            have := fit_any W1.drew (zd W ((f.n, hd f.C none) :: (n, hd C none) :: GM.R f rest' A n C low)) (lowN key f) n (hd f.C none) (hd C none) (GM.R f rest' A n C low) f.X.length m (HP1.out.later (Below.refl _ _).drew) (fun k hk => Or.inr (Nat.le_trans HO1.out.size hk)) (by rw [hll]; exact hpl.2.2) (by
              have e : (lowN key f).its[f.X.length]'(by rw [hll]; exact hpl.2.2) = lowIt key f.it := by simp [lowN]
              rw [e]
              exact HGM.out.kid) (by omega) (by omega) (by omega)
            rw [show (lowN key f).b = bp from HN.out.2.1] at this
            exact this
          clear cx0 cx1 cb3 cb4 ct0 c0 cg hfg
          refine wpIn_some (FitP W1.drew (zd W ((f.n, hd f.C none) :: (n, hd C none) :: GM.R f rest' A n C low)) (lowN key f) n (hd f.C none) (hd C none) (GM.R f rest' A n C low) f.X.length m (.returned (.tuple #[]))) ?call2 ?after2
          case call2 =>
            refine region_round l rfl (by kernel_rfl) hmx ?_
            refine wpAnyIn_take (i := 0) (v := ?v0x13) rfl rfl (by kernel_rfl) (by kernel_rfl) (by kernel_rfl) (fun _ _ _ h => h) ⟨Or.inl ⟨by rfl, ?hy0x13⟩, fun _ => rfl⟩ ?rest0x13
            case hy0x13 =>
              intro w
              go_simp
              all_goals with_reducible rfl
            refine wpAnyIn_take (i := 2) (v := ?v2x14) rfl rfl (by kernel_rfl) (by kernel_rfl) (by kernel_rfl) (fun _ _ _ h => h) ⟨Or.inl ⟨by rfl, ?hy2x14⟩, fun _ => rfl⟩ ?rest2x14
            case hy2x14 =>
              intro w
              go_simp
              all_goals with_reducible rfl
            refine wpAnyIn_ready (rs := [1, 3, 4]) (by kernel_rfl) (by simp) ?_
            refine AllReadyIn.cons rfl (fun K hK => ?_) ?_
            · go_simp
              refine hK _ _ ?_
              clear hK K
              refine wpAnyIn_ready (rs := [3, 4]) (by kernel_rfl) (by simp) ?_
              refine AllReadyIn.cons rfl (fun K hK => ?_) ?_
              · go_simp
                refine hK _ _ ?_
                clear hK K
                refine wpAnyIn_ready (rs := [4]) (by kernel_rfl) (by simp) ?_
                refine AllReadyIn.cons rfl (fun K hK => ?_) ?_
                · go_simp
                  refine hK _ _ ?_
                  clear hK K
                  refine wpAnyIn_take (i := 5) (v := ?v5x15) rfl rfl (by kernel_rfl) (by kernel_rfl) (by kernel_rfl) (fun _ _ _ h => h) ⟨Or.inl ⟨by rfl, ?hy5x15⟩, fun _ => rfl⟩ ?rest5x15
                  case hy5x15 =>
                    intro w
                    go_simp
                    all_goals with_reducible rfl
                  refine wpAnyIn_take (i := 6) (v := ?v6x16) rfl rfl (by kernel_rfl) (by kernel_rfl) (by kernel_rfl) (fun _ _ _ h => h) ⟨Or.inl ⟨by rfl, ?hy6x16⟩, fun _ => rfl⟩ ?rest6x16
                  case hy6x16 =>
                    intro w
                    go_simp
                    all_goals with_reducible rfl
                  refine wpAnyIn_ready (rs := [7]) (by kernel_rfl) (by simp) ?_
                  refine AllReadyIn.cons rfl (fun K hK => ?_) ?_
                  · go_simp
                    refine hK _ _ ?_
                    clear hK K
                    refine wpAnyIn_ready (rs := [8]) (by kernel_rfl) (by simp) ?_
                    refine AllReadyIn.cons rfl (fun K hK => ?_) ?_
                    · go_simp
                      gi_wp2_with (refine ⟨trivial, ?_⟩; gi_at_call 51; refine (callsIn_wide.2 HFT.out).mono ?_; rintro e w' hfp; (have he := hfp.1); subst he)
                      refine wpAnyIn_done (by kernel_rfl) ?_ _
                      exact ⟨rfl, by assumption⟩
                    exact AllReadyIn.nil
                  exact AllReadyIn.nil
                exact AllReadyIn.nil
              refine AllReadyIn.cons rfl (fun K hK => ?_) ?_
              · go_simp
                refine hK _ _ ?_
                clear hK K
                refine wpAnyIn_take (i := 5) (v := ?v5x17) rfl rfl (by kernel_rfl) (by kernel_rfl) (by kernel_rfl) (fun _ _ _ h => h) ⟨Or.inl ⟨by rfl, ?hy5x17⟩, fun _ => rfl⟩ ?rest5x17
                case hy5x17 =>
                  intro w
                  go_simp
                  all_goals with_reducible rfl
                refine wpAnyIn_take (i := 6) (v := ?v6x18) rfl rfl (by kernel_rfl) (by kernel_rfl) (by kernel_rfl) (fun _ _ _ h => h) ⟨Or.inl ⟨by rfl, ?hy6x18⟩, fun _ => rfl⟩ ?rest6x18
                case hy6x18 =>
                  intro w
                  go_simp
                  all_goals with_reducible rfl
                refine wpAnyIn_ready (rs := [3, 7]) (by kernel_rfl) (by simp) ?_
                refine AllReadyIn.cons rfl (fun K hK => ?_) ?_
                · go_simp
                  refine hK _ _ ?_
                  clear hK K
                  refine wpAnyIn_ready (rs := [7]) (by kernel_rfl) (by simp) ?_
                  refine AllReadyIn.cons rfl (fun K hK => ?_) ?_
                  · go_simp
                    refine hK _ _ ?_
                    clear hK K
                    refine wpAnyIn_ready (rs := [8]) (by kernel_rfl) (by simp) ?_
                    refine AllReadyIn.cons rfl (fun K hK => ?_) ?_
                    · go_simp
                      gi_wp2_with (refine ⟨trivial, ?_⟩; gi_at_call 51; refine (callsIn_wide.2 HFT.out).mono ?_; rintro e w' hfp; (have he := hfp.1); subst he)
                      refine wpAnyIn_done (by kernel_rfl) ?_ _
                      exact ⟨rfl, by assumption⟩
                    exact AllReadyIn.nil
                  exact AllReadyIn.nil
                refine AllReadyIn.cons rfl (fun K hK => ?_) ?_
                · go_simp
                  refine hK _ _ ?_
                  clear hK K
                  refine wpAnyIn_ready (rs := [3]) (by kernel_rfl) (by simp) ?_
                  refine AllReadyIn.cons rfl (fun K hK => ?_) ?_
                  · go_simp
                    refine hK _ _ ?_
                    clear hK K
                    refine wpAnyIn_ready (rs := [8]) (by kernel_rfl) (by simp) ?_
                    refine AllReadyIn.cons rfl (fun K hK => ?_) ?_
                    · go_simp
                      gi_wp2_with (refine ⟨trivial, ?_⟩; gi_at_call 51; refine (callsIn_wide.2 HFT.out).mono ?_; rintro e w' hfp; (have he := hfp.1); subst he)
                      refine wpAnyIn_done (by kernel_rfl) ?_ _
                      exact ⟨rfl, by assumption⟩
                    exact AllReadyIn.nil
                  exact AllReadyIn.nil
                exact AllReadyIn.nil
              exact AllReadyIn.nil
            refine AllReadyIn.cons rfl (fun K hK => ?_) ?_
            · go_simp
              refine hK _ _ ?_
              clear hK K
              refine wpAnyIn_ready (rs := [1, 4]) (by kernel_rfl) (by simp) ?_
              refine AllReadyIn.cons rfl (fun K hK => ?_) ?_
              · go_simp
                refine hK _ _ ?_
                clear hK K
                refine wpAnyIn_ready (rs := [4]) (by kernel_rfl) (by simp) ?_
                refine AllReadyIn.cons rfl (fun K hK => ?_) ?_
                · go_simp
                  refine hK _ _ ?_
                  clear hK K
                  refine wpAnyIn_take (i := 5) (v := ?v5x19) rfl rfl (by kernel_rfl) (by kernel_rfl) (by kernel_rfl) (fun _ _ _ h => h) ⟨Or.inl ⟨by rfl, ?hy5x19⟩, fun _ => rfl⟩ ?rest5x19
                  case hy5x19 =>
                    intro w
                    go_simp
                    all_goals with_reducible rfl
                  refine wpAnyIn_take (i := 6) (v := ?v6x20) rfl rfl (by kernel_rfl) (by kernel_rfl) (by kernel_rfl) (fun _ _ _ h => h) ⟨Or.inl ⟨by rfl, ?hy6x20⟩, fun _ => rfl⟩ ?rest6x20
                  case hy6x20 =>
                    intro w
                    go_simp
                    all_goals with_reducible rfl
                  refine wpAnyIn_ready (rs := [7]) (by kernel_rfl) (by simp) ?_
                  refine AllReadyIn.cons rfl (fun K hK => ?_) ?_
                  · go_simp
                    refine hK _ _ ?_
                    clear hK K
                    refine wpAnyIn_ready (rs := [8]) (by kernel_rfl) (by simp) ?_
                    refine AllReadyIn.cons rfl (fun K hK => ?_) ?_
                    · go_simp
                      gi_wp2_with (refine ⟨trivial, ?_⟩; gi_at_call 51; refine (callsIn_wide.2 HFT.out).mono ?_; rintro e w' hfp; (have he := hfp.1); subst he)
                      refine wpAnyIn_done (by kernel_rfl) ?_ _
                      exact ⟨rfl, by assumption⟩
                    exact AllReadyIn.nil
                  exact AllReadyIn.nil
                exact AllReadyIn.nil
              refine AllReadyIn.cons rfl (fun K hK => ?_) ?_
              · go_simp
                refine hK _ _ ?_
                clear hK K
                refine wpAnyIn_take (i := 5) (v := ?v5x21) rfl rfl (by kernel_rfl) (by kernel_rfl) (by kernel_rfl) (fun _ _ _ h => h) ⟨Or.inl ⟨by rfl, ?hy5x21⟩, fun _ => rfl⟩ ?rest5x21
                case hy5x21 =>
                  intro w
                  go_simp
                  all_goals with_reducible rfl
                refine wpAnyIn_take (i := 6) (v := ?v6x22) rfl rfl (by kernel_rfl) (by kernel_rfl) (by kernel_rfl) (fun _ _ _ h => h) ⟨Or.inl ⟨by rfl, ?hy6x22⟩, fun _ => rfl⟩ ?rest6x22
                case hy6x22 =>
                  intro w
                  go_simp
                  all_goals with_reducible rfl
                refine wpAnyIn_ready (rs := [1, 7]) (by kernel_rfl) (by simp) ?_
                refine AllReadyIn.cons rfl (fun K hK => ?_) ?_
                · go_simp
                  refine hK _ _ ?_
                  clear hK K
                  refine wpAnyIn_ready (rs := [7]) (by kernel_rfl) (by simp) ?_
                  refine AllReadyIn.cons rfl (fun K hK => ?_) ?_
                  · go_simp
                    refine hK _ _ ?_
                    clear hK K
                    refine wpAnyIn_ready (rs := [8]) (by kernel_rfl) (by simp) ?_
                    refine AllReadyIn.cons rfl (fun K hK => ?_) ?_
                    · go_simp
                      gi_wp2_with (refine ⟨trivial, ?_⟩; gi_at_call 51; refine (callsIn_wide.2 HFT.out).mono ?_; rintro e w' hfp; (have he := hfp.1); subst he)
                      refine wpAnyIn_done (by kernel_rfl) ?_ _
                      exact ⟨rfl, by assumption⟩
                    exact AllReadyIn.nil
                  exact AllReadyIn.nil
                refine AllReadyIn.cons rfl (fun K hK => ?_) ?_
                · go_simp
                  refine hK _ _ ?_
                  clear hK K
                  refine wpAnyIn_ready (rs := [1]) (by kernel_rfl) (by simp) ?_
                  refine AllReadyIn.cons rfl (fun K hK => ?_) ?_
                  · go_simp
                    refine hK _ _ ?_
                    clear hK K
                    refine wpAnyIn_ready (rs := [8]) (by kernel_rfl) (by simp) ?_
                    refine AllReadyIn.cons rfl (fun K hK => ?_) ?_
                    · go_simp
                      gi_wp2_with (refine ⟨trivial, ?_⟩; gi_at_call 51; refine (callsIn_wide.2 HFT.out).mono ?_; rintro e w' hfp; (have he := hfp.1); subst he)
                      refine wpAnyIn_done (by kernel_rfl) ?_ _
                      exact ⟨rfl, by assumption⟩
                    exact AllReadyIn.nil
                  exact AllReadyIn.nil
                exact AllReadyIn.nil
              exact AllReadyIn.nil
            refine AllReadyIn.cons rfl (fun K hK => ?_) ?_
            · go_simp
              refine hK _ _ ?_
              clear hK K
              refine wpAnyIn_take (i := 5) (v := ?v5x23) rfl rfl (by kernel_rfl) (by kernel_rfl) (by kernel_rfl) (fun _ _ _ h => h) ⟨Or.inl ⟨by rfl, ?hy5x23⟩, fun _ => rfl⟩ ?rest5x23
              case hy5x23 =>
                intro w
                go_simp
                all_goals with_reducible rfl
              refine wpAnyIn_take (i := 6) (v := ?v6x24) rfl rfl (by kernel_rfl) (by kernel_rfl) (by kernel_rfl) (fun _ _ _ h => h) ⟨Or.inl ⟨by rfl, ?hy6x24⟩, fun _ => rfl⟩ ?rest6x24
              case hy6x24 =>
                intro w
                go_simp
                all_goals with_reducible rfl
              refine wpAnyIn_ready (rs := [1, 3, 7]) (by kernel_rfl) (by simp) ?_
              refine AllReadyIn.cons rfl (fun K hK => ?_) ?_
              · go_simp
                refine hK _ _ ?_
                clear hK K
                refine wpAnyIn_ready (rs := [3, 7]) (by kernel_rfl) (by simp) ?_
                refine AllReadyIn.cons rfl (fun K hK => ?_) ?_
                · go_simp
                  refine hK _ _ ?_
                  clear hK K
                  refine wpAnyIn_ready (rs := [7]) (by kernel_rfl) (by simp) ?_
                  refine AllReadyIn.cons rfl (fun K hK => ?_) ?_
                  · go_simp
                    refine hK _ _ ?_
                    clear hK K
                    refine wpAnyIn_ready (rs := [8]) (by kernel_rfl) (by simp) ?_
                    refine AllReadyIn.cons rfl (fun K hK => ?_) ?_
                    · go_simp
                      gi_wp2_with (refine ⟨trivial, ?_⟩; gi_at_call 51; refine (callsIn_wide.2 HFT.out).mono ?_; rintro e w' hfp; (have he := hfp.1); subst he)
                      refine wpAnyIn_done (by kernel_rfl) ?_ _
                      exact ⟨rfl, by assumption⟩
                    exact AllReadyIn.nil
                  exact AllReadyIn.nil
                refine AllReadyIn.cons rfl (fun K hK => ?_) ?_
                · go_simp
                  refine hK _ _ ?_
                  clear hK K
                  refine wpAnyIn_ready (rs := [3]) (by kernel_rfl) (by simp) ?_
                  refine AllReadyIn.cons rfl (fun K hK => ?_) ?_
                  · go_simp
                    refine hK _ _ ?_
                    clear hK K
                    refine wpAnyIn_ready (rs := [8]) (by kernel_rfl) (by simp) ?_
                    refine AllReadyIn.cons rfl (fun K hK => ?_) ?_
                    · go_simp
                      gi_wp2_with (refine ⟨trivial, ?_⟩; gi_at_call 51; refine (callsIn_wide.2 HFT.out).mono ?_; rintro e w' hfp; (have he := hfp.1); subst he)
                      refine wpAnyIn_done (by kernel_rfl) ?_ _
                      exact ⟨rfl, by assumption⟩
                    exact AllReadyIn.nil
                  exact AllReadyIn.nil
                exact AllReadyIn.nil
              refine AllReadyIn.cons rfl (fun K hK => ?_) ?_
              · go_simp
                refine hK _ _ ?_
                clear hK K
                refine wpAnyIn_ready (rs := [1, 7]) (by kernel_rfl) (by simp) ?_
                refine AllReadyIn.cons rfl (fun K hK => ?_) ?_
                · go_simp
                  refine hK _ _ ?_
                  clear hK K
                  refine wpAnyIn_ready (rs := [7]) (by kernel_rfl) (by simp) ?_
                  refine AllReadyIn.cons rfl (fun K hK => ?_) ?_
                  · go_simp
                    refine hK _ _ ?_
                    clear hK K
                    refine wpAnyIn_ready (rs := [8]) (by kernel_rfl) (by simp) ?_
                    refine AllReadyIn.cons rfl (fun K hK => ?_) ?_
                    · go_simp
                      gi_wp2_with (refine ⟨trivial, ?_⟩; gi_at_call 51; refine (callsIn_wide.2 HFT.out).mono ?_; rintro e w' hfp; (have he := hfp.1); subst he)
                      refine wpAnyIn_done (by kernel_rfl) ?_ _
                      exact ⟨rfl, by assumption⟩
                    exact AllReadyIn.nil
                  exact AllReadyIn.nil
                refine AllReadyIn.cons rfl (fun K hK => ?_) ?_
                · go_simp
                  refine hK _ _ ?_
                  clear hK K
                  refine wpAnyIn_ready (rs := [1]) (by kernel_rfl) (by simp) ?_
                  refine AllReadyIn.cons rfl (fun K hK => ?_) ?_
                  · go_simp
                    refine hK _ _ ?_
                    clear hK K
                    refine wpAnyIn_ready (rs := [8]) (by kernel_rfl) (by simp) ?_
                    refine AllReadyIn.cons rfl (fun K hK => ?_) ?_
                    · go_simp
                      gi_wp2_with (refine ⟨trivial, ?_⟩; gi_at_call 51; refine (callsIn_wide.2 HFT.out).mono ?_; rintro e w' hfp; (have he := hfp.1); subst he)
                      refine wpAnyIn_done (by kernel_rfl) ?_ _
                      exact ⟨rfl, by assumption⟩
                    exact AllReadyIn.nil
                  exact AllReadyIn.nil
                exact AllReadyIn.nil
              refine AllReadyIn.cons rfl (fun K hK => ?_) ?_
              · go_simp
                refine hK _ _ ?_
                clear hK K
                refine wpAnyIn_ready (rs := [1, 3]) (by kernel_rfl) (by simp) ?_
                refine AllReadyIn.cons rfl (fun K hK => ?_) ?_
                · go_simp
                  refine hK _ _ ?_
                  clear hK K
                  refine wpAnyIn_ready (rs := [3]) (by kernel_rfl) (by simp) ?_
                  refine AllReadyIn.cons rfl (fun K hK => ?_) ?_
                  · go_simp
                    refine hK _ _ ?_
                    clear hK K
                    refine wpAnyIn_ready (rs := [8]) (by kernel_rfl) (by simp) ?_
                    refine AllReadyIn.cons rfl (fun K hK => ?_) ?_
                    · go_simp
                      gi_wp2_with (refine ⟨trivial, ?_⟩; gi_at_call 51; refine (callsIn_wide.2 HFT.out).mono ?_; rintro e w' hfp; (have he := hfp.1); subst he)
                      refine wpAnyIn_done (by kernel_rfl) ?_ _
                      exact ⟨rfl, by assumption⟩
                    exact AllReadyIn.nil
                  exact AllReadyIn.nil
                refine AllReadyIn.cons rfl (fun K hK => ?_) ?_
                · go_simp
                  refine hK _ _ ?_
                  clear hK K
                  refine wpAnyIn_ready (rs := [1]) (by kernel_rfl) (by simp) ?_
                  refine AllReadyIn.cons rfl (fun K hK => ?_) ?_
                  · go_simp
                    refine hK _ _ ?_
                    clear hK K
                    refine wpAnyIn_ready (rs := [8]) (by kernel_rfl) (by simp) ?_
                    refine AllReadyIn.cons rfl (fun K hK => ?_) ?_
                    · go_simp
                      gi_wp2_with (refine ⟨trivial, ?_⟩; gi_at_call 51; refine (callsIn_wide.2 HFT.out).mono ?_; rintro e w' hfp; (have he := hfp.1); subst he)
                      refine wpAnyIn_done (by kernel_rfl) ?_ _
                      exact ⟨rfl, by assumption⟩
                    exact AllReadyIn.nil
                  exact AllReadyIn.nil
                exact AllReadyIn.nil
              exact AllReadyIn.nil
            exact AllReadyIn.nil
          case after2 =>
            intro a2 W2 hfp
            have hd1 : Only (zd W ((f.n, hd f.C none) :: (n, hd C none) :: GM.R f rest' A n C low)) W W1.drew := HO1.out.drew
            obtain ⟨_, ho2, A', n', C', low', hgm'⟩ := HGM.out.next HZ.out (by omega) rfl hd1 (HGM.out.tr.out HGM.out.two) hfp
            exact HI.out.round HGM.out.two ho2 hgm'
  case done =>
    rintro D ys W hD hS hi hK
    obtain ⟨rest, A, n, C, low, hgm⟩ := hi.gm
    rw [hS] at hgm
    obtain rfl := hgm.rest_nil
    obtain ⟨rfl, rfl, hnb⟩ := hgm.top
    have hnd : NdAt W n none := hgm.hp.at_ (n, none) (by simp [lvls, allX, linkN, hd])
    obtain ⟨pn, capn, en, _⟩ := irow_form hnd.row
    have c0 := hnd.nc.c0
    rw [en, hnb] at c0
    have cb3 : W.cell? ⟨w.heap.size, 0, none⟩ = some (.pointer (some ⟨t, 0, none⟩)) := by simp [World.cell?, hi.b3]
    have ct0 := hgm.tr.c0
    have ct2 := hgm.tr.c2
    have hnl := hgm.gi.wn.2
    have HGM : Hid (GM w Z t m cnt rb key rs its0 W rs [] [] n [] low) := hgm
    have HI : Hid (GB w Z t m cnt rb key rs its0 (.slice p rs.length cap) B ys W) := hi
    have HEN : Hid (n.v = .slice pn n.its.length capn ∧ n.b = rb) := ⟨en, hnb⟩
    obtain ⟨nl, hnlq⟩ : ∃ nl, n.its.length = nl := ⟨_, rfl⟩
    have HNL : Hid (n.its.length = nl) := hnlq
    rw [hnlq] at c0 hnl
    clear hgm hi hnd en hnb hnlq h3 h4 h5 hr0 hgb hc5 hW0 hS
    have hmx : Try.prog.follows .mixedOrders = true := by kernel_rfl
    by_cases hgt : nl ≤ m
    · have hgti : ¬ (m : Int) < (nl : Int) := by omega
      gi_wp2
      apply wpIn_once
      case h =>
        gi_region_with_o fail
        all_goals exact ⟨rfl, rfl⟩
      case k =>
        gi_wp2
        refine ⟨by simp, .inl ⟨_, _, rfl, run_takeDeferred (w := W.drew) hK, ?_⟩⟩
        refine ⟨_, results_none rfl _ _ _, ?_⟩
        have hg1 : GM w Z t m cnt rb key rs its0 W.drew rs [] [] n [] low := HGM.out.grown HZ.out (row := none) ⟨rfl, rfl, rfl, Nat.le_refl _, fun _ _ _ => rfl⟩ (by intro r e; cases e)
        have hg2 := hg1.grown HZ.out (grownBy_putObj' W.drew D (.deferred none)) (fun r e => by cases e; exact ⟨by omega, _, hK, rfl⟩)
        exact hg2.fine (by rw [HNL.out]; exact hgt)
    · have hgti : (m : Int) < (nl : Int) := by omega
      obtain ⟨x, r, h0⟩ : ∃ x r, n.its = x :: r := List.exists_cons_of_ne_nil fun e => by have := HNL.out; rw [e] at this; simp at this; omega
      have H0 : Hid (n.its = x :: r) := h0
      have HAK : Hid (∀ W', Below W.heap.size W W' → Calls Try.prog 55 #[.pointer (some ⟨rb, 0, none⟩)] W' fun e w' => e = .returned (.agg #[.string x.key, .string ⟨#[]⟩, .pointer (some ⟨rb, 0, none⟩)]) ∧ Below W'.heap.size W' w') := fun W' hb => by
        have hnd : NdAt W n none := HGM.out.hp.at_ (n, none) (by simp [lvls, allX, linkN, hd])
        have := asKid_any W' n none x r (hnd.later hb) H0.out (by have := HNL.out; omega)
        rw [HEN.out.2] at this
        exact this
      have HCL : Hid (∀ W', Below W.heap.size W W' → W'.cell? ⟨w.heap.size, 0, none⟩ = some (.pointer (some ⟨t, 0, none⟩)) ∧ W'.cell? ⟨t, 0, none⟩ = some (.int .i64 (m : Int)) ∧ W'.cell? ⟨t, 2, none⟩ = some (.pointer (some ⟨rb, 0, none⟩)) ∧ W'.frozen? ⟨t, 2, none⟩ = false) := fun W' hb => by
        have ht := HGM.out.tr.kept (hb.block _ HGM.out.tr.lt)
        exact ⟨cell_at (hb.block _ (Array.getElem?_eq_some_iff.1 HI.out.b3).1) (by simp [World.cell?, HI.out.b3]), ht.c0, ht.c2, ht.fz 2⟩
      clear h0
      obtain ⟨xk, hxk⟩ : ∃ xk, x.key = xk := ⟨_, rfl⟩
      have HXK : Hid (x.key = xk) := hxk
      rw [hxk] at HAK
      clear hxk
      gi_wp2
      apply wpIn_once
      case h =>
        gi_region_with_o fail
        all_goals exact ⟨rfl, rfl⟩
      case k =>
        gi_wp2
        apply wpIn_via (fun w4 => Below W.heap.size W w4)
        case h =>
          gi_region_with_o (refine ⟨trivial, ?_⟩; gi_at_call 55; refine (callsIn_wide.2 (HAK.out _ ((Below.refl _ W).drew.drew))).mono ?_; rintro e w4 ⟨rfl, hb4⟩; (have hb5 : Below W.heap.size W w4 := below_two ((Below.refl _ W).drew.drew) hb4); (obtain ⟨d3, d0, d2, df⟩ := HCL.out w4 hb5); (have hlt : t < w4.heap.size := Nat.lt_of_lt_of_le HGM.out.tr.lt hb5.size); (have hlt1 : t < w4.heap.size + 1 := by omega); (have hne1 : ¬ t = w4.heap.size := by omega); (have hne2 : ¬ t = w4.heap.size + 1 := by omega); (have hl3 : w.heap.size < w4.heap.size := Nat.lt_of_lt_of_le (Array.getElem?_eq_some_iff.1 HI.out.b3).1 hb5.size); (have hl31 : w.heap.size < w4.heap.size + 1 := by omega); (have hn31 : ¬ w.heap.size = w4.heap.size := by omega); (have hn32 : ¬ w.heap.size = w4.heap.size + 1 := by omega); clear hb4)
          all_goals exact ⟨w4, by assumption, rfl, rfl⟩
        case k =>
          intro w4 hb4
          gi_wp2
          obtain ⟨W5, hW5⟩ : ∃ W5, ((w4.setCell ⟨t, 2, none⟩ (.pointer (some ⟨w4.heap.size + 1, 0, none⟩))).alloc (Obj.cells #[.string xk, .string ⟨#[]⟩, .pointer (some ⟨rb, 0, none⟩)] 86)).alloc (Obj.cells #[.slice (some ⟨w4.heap.size, 0, none⟩) 1 1, .pointer none] 74) = W5 := ⟨_, rfl⟩
          have HRW : Hid (RootW w Z t m cnt rb n low xk W w4 W5) := by rw [← hW5]; exact HGM.out.rootW HZ.out hb4
          rw [hW5]
          obtain ⟨q, hq⟩ : ∃ q, w4.heap.size + 1 = q := ⟨_, rfl⟩
          have e2 := HRW.out.tr.c2
          have e0 := HRW.out.tr.c0
          have e3 : W5.cell? ⟨w.heap.size, 0, none⟩ = some (.pointer (some ⟨t, 0, none⟩)) := cell_at (HRW.out.keep _ (Array.getElem?_eq_some_iff.1 HI.out.b3).1 fun e => by
            have h1 := HGM.out.tr.cells
            rw [← e, HI.out.b3] at h1
            cases h1) cb3
          rw [hq] at e2
          have HFT : Hid (Calls Try.prog 51 #[.pointer (some ⟨q, 0, none⟩), .int .i64 0, .int .i64 (m : Int)] W5.drew (FitP W5.drew (zd W5 ((⟨w4.heap.size + 1, .slice (some ⟨w4.heap.size, 0, none⟩) 1 1, [⟨xk, ⟨#[]⟩, some rb⟩]⟩, none) :: (n, none) :: allX low)) ⟨w4.heap.size + 1, .slice (some ⟨w4.heap.size, 0, none⟩) 1 1, [⟨xk, ⟨#[]⟩, some rb⟩]⟩ n none none (allX low) 0 m)) := by
            have := fit_any W5.drew (zd W5 ((⟨w4.heap.size + 1, .slice (some ⟨w4.heap.size, 0, none⟩) 1 1, [⟨xk, ⟨#[]⟩, some rb⟩]⟩, none) :: (n, none) :: allX low)) ⟨w4.heap.size + 1, .slice (some ⟨w4.heap.size, 0, none⟩) 1 1, [⟨xk, ⟨#[]⟩, some rb⟩]⟩ n none none (allX low) 0 m (HRW.out.hp.tight.later (Below.refl _ _).drew) (fun k hk => Or.inr hk) (by simp) (by show some rb = some n.b; rw [HEN.out.2]) (by simp) (by have := HNL.out; omega) (by omega)
            rw [← hq]
            exact this
          clear hb4 hW5 c0 cb3 ct0 ct2
          apply wpIn_via (fun W6 => FitP W5.drew (zd W5 ((⟨w4.heap.size + 1, .slice (some ⟨w4.heap.size, 0, none⟩) 1 1, [⟨xk, ⟨#[]⟩, some rb⟩]⟩, none) :: (n, none) :: allX low)) ⟨w4.heap.size + 1, .slice (some ⟨w4.heap.size, 0, none⟩) 1 1, [⟨xk, ⟨#[]⟩, some rb⟩]⟩ n none none (allX low) 0 m (.returned (.tuple #[])) W6)
          case h =>
            gi_region_with_o (refine ⟨trivial, ?_⟩; gi_at_call 51; refine (callsIn_wide.2 HFT.out).mono ?_; rintro e W6 hfp; (have he := hfp.1); subst he)
            all_goals exact ⟨_, by assumption, rfl, rfl⟩
          case k =>
            intro W6 hfp
            gi_wp2
            have ho6 : Only (zd W5 ((⟨w4.heap.size + 1, .slice (some ⟨w4.heap.size, 0, none⟩) 1 1, [⟨xk, ⟨#[]⟩, some rb⟩]⟩, none) :: (n, none) :: allX low)) W5 W6 := ((Only.refl _ _).drew).trans hfp.2.1
            have hDlt := (Array.getElem?_eq_some_iff.1 hK).1
            have hK5 : W5.heap[D]? = some (.deferred (some [])) := (HRW.out.keep D hDlt fun e => by
              rw [e, HGM.out.tr.cells] at hK
              cases hK).trans hK
            have hK6 : W6.heap[D]? = some (.deferred (some [])) := (ho6.block D (Array.getElem?_eq_some_iff.1 hK5).1 (HRW.out.hp.out hK5 (by intro cs fr e; cases e) (by intro cs fr e; cases e))).trans hK5
            have hzz : ∀ k, zd W5 ((⟨w4.heap.size + 1, .slice (some ⟨w4.heap.size, 0, none⟩) 1 1, [⟨xk, ⟨#[]⟩, some rb⟩]⟩, none) :: (n, none) :: allX low) k → Z k := fun k hk => by
              rcases HRW.out.hp.zone hk with h1 | h1
              · exact h1
              · exact HZ.out k (Nat.le_trans HRW.out.only.size h1)
            refine ⟨by simp, .inl ⟨_, _, rfl, run_takeDeferred hK6, ?_⟩⟩
            refine ⟨_, results_none rfl _ _ _, ?_⟩
            refine GrowP.put ?_ (HZ.out D (by omega)) hK6 rfl _
            have hfin := hfp.mono hzz
            rw [← HXK.out] at hfin
            exact HGM.out.root hm (by rw [HNL.out]; omega) H0.out HEN.out.2 hfin (HRW.out.only.trans (ho6.mono fun k hk => Or.inl (hzz k hk))) (HRW.out.tr.kept (ho6.block t HRW.out.tr.lt (HRW.out.tr.out HRW.out.hp)))
  case stop =>
    rintro D c pre W _ _ h _
    exact h.elim
end Go.Proofs.Ytlpannicklkghaa
