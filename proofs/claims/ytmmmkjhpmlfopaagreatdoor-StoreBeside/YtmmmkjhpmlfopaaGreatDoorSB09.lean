/- ZB14 ZB16 -/
import Derived.Test.YtmmmkjhpmlfopaaGreatDoorSB08
set_option maxHeartbeats 8000000
set_option maxRecDepth 100000
namespace Go.Proofs.YtmmmkjhpmlfopaaGreatDoor
open Go.RowKit
namespace BB
section
open Go.RowKit Go.Shelf
attribute [local go_sem] Oper.semAt_some
theorem grow_any (w : World) (Z : Nat → Prop) (t m cnt rb : Nat) (key : ByteArray) (rs : List Fr) (its0 : List It) (v : Value) (B : Nat) (A : List Nd) (n : Nd) (C : List Nd) (hZ : ∀ k,w.heap.size ≤ k → Z k) (hm : 4 ≤ m) (hm2 : m ≤ 64) (hrow : w.ownsRow B 236 2 v rs.length (wc rs.reverse)) (hlen : rs.length ≤ 1000000) (hg : GM w Z t m cnt rb key rs its0 w [] rs A n C []) :
  Calls Tryz.prog 125 #[.pointer (some ⟨t,0,none⟩),.string key,v] w (GrowP w Z t m cnt its0):=by
 obtain ⟨p,cap,e,_⟩:=wrow_form hrow
 subst e
 have HG : Hid (GM w Z t m cnt rb key rs its0 w [] rs A n C []):=hg
 have HZ : Hid (∀ k,w.heap.size ≤ k → Z k):=hZ
 have HR : Hid (w.ownsRow B 236 2 (.slice p rs.length cap) rs.length (wc rs.reverse)):=hrow
 clear hg hZ hrow
 refine (callsIn_wide (n:=6)).1 ?_
 refine callsIn_of_wp_marks Tryz.func125 rfl trivial ?_ rfl
 simp only [Tryz.ntmps125,List.size_toArray,List.length_cons,List.length_nil,Nat.reduceAdd,Nat.reduceSub,Array.replicate_succ,Array.replicate_zero,List.push_toArray,List.append_toArray,List.nil_append,List.cons_append]
 gi_wp2_with (refine ⟨trivial,?_⟩; gi_at_call 156; refine (back_in _ _ trivial rfl _ _ _ _).mono ?_; rintro e w' ⟨rfl,rfl⟩)
 rename_i Qx Kx ax
 obtain ⟨W0,hW0⟩:=Vx (((w.alloc (Obj.cells #[.pointer (some ⟨t,0,none⟩)] 140)).alloc (Obj.cells #[.string key] 9)).alloc (Obj.cells #[.slice p rs.length cap] 189))
 have HB0 : Hid (Below w.heap.size w W0):=by
  rw [← hW0]
  exact (((Bxr _ w).alloc Zlr _).alloc Si _).alloc (by simp; omega) _
 have h3 : W0.heap[w.heap.size]? = some (.cells #[.pointer (some ⟨t,0,none⟩)] 140 (0,0)):=by
  rw [← hW0]
  exact (Below.heap_alloc _ _ _ (by simp; omega)).trans ((Below.heap_alloc _ _ _ Si).trans (heap_alloc_new w _))
 have h4 : W0.heap[w.heap.size + 1]? = some (.cells #[.string key] 9 (0,0)):=by
  rw [← hW0]
  refine (Below.heap_alloc _ _ _ Si).trans ?_
  have:=heap_alloc_new (w.alloc (Obj.cells #[.pointer (some ⟨t,0,none⟩)] 140)) (Obj.cells #[.string key] 9)
  rwa [World.size_alloc] at this
 have h5 : W0.heap[w.heap.size + 1 + 1]? = some (.cells #[.slice p rs.length cap] 189 (0,0)):=by
  rw [← hW0]
  have:=heap_alloc_new ((w.alloc (Obj.cells #[.pointer (some ⟨t,0,none⟩)] 140)).alloc (Obj.cells #[.string key] 9)) (Obj.cells #[.slice p rs.length cap] 189)
  rwa [World.size_alloc,World.size_alloc] at this
 have hsz : W0.heap.size = w.heap.size + 1 + 1 + 1:=by rw [← hW0]; simp
 have hr0 : W0.ownsRow B 236 2 (.slice p rs.length cap) rs.length (wc rs.reverse):=own_kept HR.out fun k e => HB0.out.block _ (HR.out.lt k e).2
 have hgb : GB w Z t m cnt rb key rs its0 (.slice p rs.length cap) B [] W0:=⟨⟨rs,A,n,C,[],⟨HG.out.rs,HG.out.frs,HG.out.wf,HG.out.gi,HG.out.hp.later HB0.out,HG.out.its,HG.out.only.later HB0.out,HG.out.tr.kept (HB0.out.block _ HG.out.tr.lt)⟩⟩,h3,h4,h5,hr0⟩
 have HGB : Hid (GB w Z t m cnt rb key rs its0 (.slice p rs.length cap) B [] W0):=hgb
 rw [hW0]
 have hc5 : W0.cell? ⟨w.heap.size + 1 + 1,0,none⟩ = some (.slice p rs.length cap):=by simp [World.cell?,h5]
 refine wpIn_rangeV rfl Om (gf:=217) (lb:=#[.pointer (some ⟨w.heap.size + 1 + 1,0,none⟩)]) rfl trivial (enters_of Tryz.func217 Kr rfl)
  (back_stops Fence.wide (6 - 1) trivial rfl Om (w.heap.size + 1 + 1) B (.slice p rs.length cap) rs hlen W0 hc5 Om hr0)
  keepsW.trans
  (fun W l o o' hl ho hc => ⟨World.putObj_heap_other Om,fun k e => World.putObj_heap_other (fun e' => by have:=(hr0.lt k e).2; omega)⟩)
  (Bxr _ _) (fun _ => rfl)
  (GB w Z t m cnt rb key rs its0 (.slice p rs.length cap) B)
  (fun _ _ _ => False)
  (GB.own HZ.out Om)
  (fun _ _ _ _ _ hs _ _ => hs)
  hgb
  (fun x a' W => ∃ Bx,W.heap[Bx]? = some (Obj.cells #[.pointer (some ⟨x.2.n.b,0,none⟩),.int .i64 (x.2.X.length : Int)] 236 (0,0)) ∧ a' = { tmps:=#[.pointer (some ⟨t,0,none⟩),.string key,.slice p rs.length cap,.pointer (some ⟨w.heap.size,0,none⟩),.pointer (some ⟨w.heap.size + 1,0,none⟩),undef,undef,.pointer (some ⟨Bx,0,none⟩),.slice p rs.length cap,.func (.func 217) #[] #[.pointer (some ⟨w.heap.size + 1 + 1,0,none⟩)],.int .i64 (x.1 : Int),.agg #[.pointer (some ⟨x.2.n.b,0,none⟩),.int .i64 (x.2.X.length : Int)],undef,undef,undef,undef,undef,undef,undef,undef,undef,undef,undef,undef,undef,undef,undef,undef,undef,undef,undef,undef,undef,undef,undef,undef,undef,undef,undef,undef,undef,undef,undef,undef,undef,undef,undef,undef,undef,undef,undef,undef,undef,undef,undef,undef,undef,undef,undef,undef,undef,undef,undef,undef,undef,undef,undef,undef,undef,undef,undef,undef],defers:=[] })
  (fun x a' _ X Y row hs hg hr => by
   obtain ⟨Bx,h1,h2⟩:=hs
   refine ⟨Bx,(hg.block Bx (Gx h1) fun e => ?_).trans h1,h2⟩
   obtain ⟨_,o,ho,hc⟩:=hr Bx e.symm
   rw [h1] at ho
   obtain rfl:=Option.some.inj ho
   cases hc)
  ?assign ?body ?done ?stop
 case assign =>
  rintro l pre x W K hi hV hK
  have HI : Hid (GB w Z t m cnt rb key rs its0 (.slice p rs.length cap) B pre W):=hi
  clear hi
  unfold encF
  gi_wp2
  have hb:=(Below.refl W.heap.size W).alloc Zlr (Obj.cells #[.pointer (some ⟨x.2.n.b,0,none⟩),.int .i64 (x.2.X.length : Int)] 236)
  exact hK _ _ (keepsFrom_below hb) (HI.out.keeps hb) (HI.out.later hb) ⟨W.heap.size,heap_alloc_new W _,rfl⟩
 case body =>
  rintro l pre x a' W hi ⟨Bx,hbx,rfl⟩ hV
  obtain ⟨rest',hrs',_⟩:=hV
  obtain ⟨rest,A,n,C,low,hgm⟩:=hi.gm
  obtain rfl : rest = x.2 :: rest':=List.append_cancel_left (hgm.rs.symm.trans hrs')
  obtain ⟨i,f⟩:=x
  dsimp only at hgm hbx ⊢
  have hnd : NdAt W f.n (hd f.C none):=hgm.two.head
  have hpl:=hgm.plen
  have hkl : n.its.length ≤ m + 1:=hgm.gi.wn.2
  obtain ⟨g,capg,ev,_,_,_,hc,hfz⟩:=irow_at hnd.row hpl.1
  have c0:=hnd.nc.c0
  rw [ev] at c0
  have cg:=(hc 0 hpl.1).1
  rw [Nat.zero_mul] at cg
  have hfg:=hfz 0
  obtain ⟨k0,r,h0⟩:=List.exists_cons_of_ne_nil (List.length_pos_iff.1 hpl.1)
  have hk0 : (f.n.its[0]'hpl.1).key = k0.key:=by simp [h0]
  rw [hk0] at cg
  have cb3 : W.cell? ⟨w.heap.size,0,none⟩ = some (.pointer (some ⟨t,0,none⟩)):=by simp [World.cell?,hi.b3]
  have cb4 : W.cell? ⟨w.heap.size + 1,0,none⟩ = some (.string key):=by simp [World.cell?,hi.b4]
  have cx0 : W.cell? ⟨Bx,0,none⟩ = some (.pointer (some ⟨f.n.b,0,none⟩)):=by simp [World.cell?,hbx]
  have cx1 : W.cell? ⟨Bx,1,none⟩ = some (.int .i64 (f.X.length : Int)):=by simp [World.cell?,hbx]
  have ct0:=hgm.tr.c0
  obtain ⟨np,hnp⟩:=Vx f.n.its.length
  rw [hnp] at c0
  have hnp0 : (0 : Int) < (np : Int):=by omega
  obtain ⟨bp,hbp⟩:=Vx f.n.b
  obtain ⟨k0k,hk0k⟩:=Vx k0.key
  rw [hbp] at c0 cx0 ⊢
  rw [hk0k] at cg
  have HGM : Hid (GM w Z t m cnt rb key rs its0 W (pre.map (·.2)) (f :: rest') A n C low):=hgm
  have HI : Hid (GB w Z t m cnt rb key rs its0 (.slice p rs.length cap) B pre W):=hi
  have HN : Hid (f.n.its.length = np ∧ f.n.b = bp ∧ k0.key = k0k ∧ f.n.its = k0 :: r ∧ f.n.v = .slice (some ⟨g,0,none⟩) f.n.its.length capg ∧ W.heap[Bx]? = some (Obj.cells #[.pointer (some ⟨f.n.b,0,none⟩),.int .i64 (f.X.length : Int)] 236 (0,0))):=⟨hnp,hbp,hk0k,h0,ev,hbx⟩
  clear hi hgm hnd hc hfz h0 hk0 hbx ev hrs' hpl hnp hbp hk0k h3 h4 h5 hr0 hgb hc5 hW0
  have hmx : Tryz.prog.follows .mixedOrders = true:=by kernel_rfl
  clear ax HG HR HB0 HGB hlen hsz
  cases hk : kl key k0k with
  | false =>
   have hkb : Op.bytesLess key.toList k0k.toList = false:=hk
   gi_wp2
   apply wpIn_once
   case h =>
    gi_region_with_o fail
    all_goals exact ⟨rfl,rfl⟩
   case k =>
    gi_wp2
    obtain ⟨W1,hW1⟩:=Vx W.drew
    have HO1 : Hid (Only (zd W ((f.n,hd f.C none) :: (n,hd C none) :: GM.R f rest' A n C low)) W W1):=by rw [← hW1]; exact (Only.refl _ _).drew
    have HP1 : Hid (Hp W1 (zd W ((f.n,hd f.C none) :: (n,hd C none) :: GM.R f rest' A n C low)) ((lowN key f,hd f.C none) :: (n,hd C none) :: GM.R f rest' A n C low)):=by rw [← hW1]; exact (HGM.out.same HN.out.2.2.2.1 (by rw [HN.out.2.2.1]; exact hk)).later (Bxr _ _).drew
    rw [hW1]
    clear hW1
    have e3:=out_cell HGM.out.two HO1.out HI.out.b3 (by decide) (by decide) cb3
    have ex0:=out_cell HGM.out.two HO1.out HN.out.2.2.2.2.2 (by decide) (by decide) cx0
    have ex1:=out_cell HGM.out.two HO1.out HN.out.2.2.2.2.2 (by decide) (by decide) cx1
    have et0:=out_cell HGM.out.two HO1.out HGM.out.tr.cells (by decide) (by decide) ct0
    have HFT : Hid (Calls Tryz.prog 158 #[.pointer (some ⟨bp,0,none⟩),.int .i64 (f.X.length : Int),.int .i64 (m : Int)] W1.drew (FitP W1.drew (zd W ((f.n,hd f.C none) :: (n,hd C none) :: GM.R f rest' A n C low)) (lowN key f) n (hd f.C none) (hd C none) (GM.R f rest' A n C low) f.X.length m)):=by
     have hpl:=HGM.out.plen
     have hll : (lowN key f).its.length = f.n.its.length:=by
      rw [HGM.out.frs.2.its]
      simp [lowN]
     have:=fit_any W1.drew (zd W ((f.n,hd f.C none) :: (n,hd C none) :: GM.R f rest' A n C low)) (lowN key f) n (hd f.C none) (hd C none) (GM.R f rest' A n C low) f.X.length m (HP1.out.later (Bxr _ _).drew) (fun k hk => Or.inr (Zlt HO1.out.size hk)) (by rw [hll]; exact hpl.2.2) (by
      have e : (lowN key f).its[f.X.length]'(by rw [hll]; exact hpl.2.2) = lowIt key f.it:=by simp [lowN]
      rw [e]
      exact HGM.out.kid) Om Om Om
     rw [show (lowN key f).b = bp from HN.out.2.1] at this
     exact this
    have HCB:=Hd (Zai cb3 (Zai cx0 (Zai cx1 ct0)))
    clear cx0 cx1 cb3 cb4 ct0 c0 cg hfg
    refine wpIn_some (FitP W1.drew (zd W ((f.n,hd f.C none) :: (n,hd C none) :: GM.R f rest' A n C low)) (lowN key f) n (hd f.C none) (hd C none) (GM.R f rest' A n C low) f.X.length m (.returned (.tuple #[]))) ?call ?after
    case call =>
     have hS : W1.drew.cell? ⟨w.heap.size,0,none⟩ = some (.pointer (some ⟨t,0,none⟩)) ∧ W1.drew.cell? ⟨Bx,0,none⟩ = some (.pointer (some ⟨bp,0,none⟩)) ∧ W1.drew.cell? ⟨Bx,1,none⟩ = some (.int .i64 (f.X.length : Int)) ∧ W1.drew.cell? ⟨t,0,none⟩ = some (.int .i64 (m : Int)):=⟨e3,ex0,ex1,et0⟩
     refine held_round (fun W' => W'.cell? ⟨w.heap.size,0,none⟩ = some (.pointer (some ⟨t,0,none⟩)) ∧ W'.cell? ⟨Bx,0,none⟩ = some (.pointer (some ⟨bp,0,none⟩)) ∧ W'.cell? ⟨Bx,1,none⟩ = some (.int .i64 (f.X.length : Int)) ∧ W'.cell? ⟨t,0,none⟩ = some (.int .i64 (m : Int))) l Kr hmx (fun ⟨_,_,h⟩ => absurd h.1 Si) ?_
     refine held_take 0 rfl Kr (fun _ _ _ h => h) hS (by intro w h; go_simp; all_goals with_reducible rfl) ?_
     refine held_take 1 rfl Kr (fun _ _ _ h => h) hS (by intro w h; go_simp; all_goals with_reducible rfl) ?_
     refine held_take 2 rfl Kr (fun _ _ _ h => h) hS (by intro w h; go_simp; all_goals with_reducible rfl) ?_
     refine held_take 3 rfl Kr (fun _ _ _ h => h) hS (by intro w h; go_simp; all_goals with_reducible rfl) ?_
     refine held_take 4 rfl Kr (fun _ _ _ h => h) hS (by intro w h; go_simp; all_goals with_reducible rfl) ?_
     refine held_take 5 rfl Kr (fun _ _ _ h => h) hS (by intro w h; go_simp; all_goals with_reducible rfl) ?_
     refine held_take 6 rfl Kr (fun _ _ _ h => h) hS (by intro w h; go_simp; all_goals with_reducible rfl) ?_
     refine held_take 7 rfl Kr (fun _ _ _ h => h) hS (by intro w h; go_simp; all_goals with_reducible rfl) ?_
     refine held_one 8 rfl Kr Kr fun K hK => ?_
     go_simp
     go_at_call 158
     refine HFT.out.mono ?_
     rintro e w' hfp
     have ho:=HO1.out.drew.trans hfp.2.1
     have he:=hfp.1
     subst he
     exact hK _ _ ⟨out_cell HGM.out.two ho HI.out.b3 (by decide) (by decide) HCB.out.1,out_cell HGM.out.two ho HN.out.2.2.2.2.2 (by decide) (by decide) HCB.out.2.1,out_cell HGM.out.two ho HN.out.2.2.2.2.2 (by decide) (by decide) HCB.out.2.2.1,out_cell HGM.out.two ho HGM.out.tr.cells (by decide) (by decide) HCB.out.2.2.2⟩ (wpAnyH_done Kr ⟨rfl,hfp⟩ _)
    case after =>
     intro a2 W2 hfp
     have hd1 : Only (zd W ((f.n,hd f.C none) :: (n,hd C none) :: GM.R f rest' A n C low)) W W1.drew:=HO1.out.drew
     obtain ⟨_,ho2,A',n',C',low',hgm'⟩:=HGM.out.next HZ.out Om rfl hd1 (HGM.out.tr.out HGM.out.two) hfp
     exact HI.out.round HGM.out.two ho2 hgm'
  | true =>
   have hkb : Op.bytesLess key.toList k0k.toList = true:=hk
   gi_wp2
   apply wpIn_once
   case h =>
    gi_region_with_o fail
    all_goals exact ⟨rfl,rfl⟩
   case k =>
    gi_wp2
    apply wpIn_once
    case h =>
     gi_region_with_o fail
     all_goals exact ⟨rfl,rfl⟩
    case k =>
     gi_wp2
     have HLS : Hid (Hp (W.setCell ⟨g,0,none⟩ (.string key)) (zd W ((f.n,hd f.C none) :: (n,hd C none) :: GM.R f rest' A n C low)) ((lowN key f,hd f.C none) :: (n,hd C none) :: GM.R f rest' A n C low) ∧ Only (zd W ((f.n,hd f.C none) :: (n,hd C none) :: GM.R f rest' A n C low)) W (W.setCell ⟨g,0,none⟩ (.string key))):=HGM.out.less HN.out.2.2.2.1 (by rw [HN.out.2.2.1]; exact hk) HN.out.2.2.2.2.1
     obtain ⟨W1,hW1⟩:=Vx ((W.setCell ⟨g,0,none⟩ (.string key)).drew.drew)
     have HO1 : Hid (Only (zd W ((f.n,hd f.C none) :: (n,hd C none) :: GM.R f rest' A n C low)) W W1):=by rw [← hW1]; exact HLS.out.2.drew.drew
     have HP1 : Hid (Hp W1 (zd W ((f.n,hd f.C none) :: (n,hd C none) :: GM.R f rest' A n C low)) ((lowN key f,hd f.C none) :: (n,hd C none) :: GM.R f rest' A n C low)):=by rw [← hW1]; exact (HLS.out.1.later (Bxr _ _).drew).later (Bxr _ _).drew
     rw [hW1]
     clear hW1
     have e3:=out_cell HGM.out.two HO1.out HI.out.b3 (by decide) (by decide) cb3
     have ex0:=out_cell HGM.out.two HO1.out HN.out.2.2.2.2.2 (by decide) (by decide) cx0
     have ex1:=out_cell HGM.out.two HO1.out HN.out.2.2.2.2.2 (by decide) (by decide) cx1
     have et0:=out_cell HGM.out.two HO1.out HGM.out.tr.cells (by decide) (by decide) ct0
     have HFT : Hid (Calls Tryz.prog 158 #[.pointer (some ⟨bp,0,none⟩),.int .i64 (f.X.length : Int),.int .i64 (m : Int)] W1.drew (FitP W1.drew (zd W ((f.n,hd f.C none) :: (n,hd C none) :: GM.R f rest' A n C low)) (lowN key f) n (hd f.C none) (hd C none) (GM.R f rest' A n C low) f.X.length m)):=by
      have hpl:=HGM.out.plen
      have hll : (lowN key f).its.length = f.n.its.length:=by
       rw [HGM.out.frs.2.its]
       simp [lowN]
      have:=fit_any W1.drew (zd W ((f.n,hd f.C none) :: (n,hd C none) :: GM.R f rest' A n C low)) (lowN key f) n (hd f.C none) (hd C none) (GM.R f rest' A n C low) f.X.length m (HP1.out.later (Bxr _ _).drew) (fun k hk => Or.inr (Zlt HO1.out.size hk)) (by rw [hll]; exact hpl.2.2) (by
       have e : (lowN key f).its[f.X.length]'(by rw [hll]; exact hpl.2.2) = lowIt key f.it:=by simp [lowN]
       rw [e]
       exact HGM.out.kid) Om Om Om
      rw [show (lowN key f).b = bp from HN.out.2.1] at this
      exact this
     have HCB:=Hd (Zai cb3 (Zai cx0 (Zai cx1 ct0)))
     clear cx0 cx1 cb3 cb4 ct0 c0 cg hfg
     refine wpIn_some (FitP W1.drew (zd W ((f.n,hd f.C none) :: (n,hd C none) :: GM.R f rest' A n C low)) (lowN key f) n (hd f.C none) (hd C none) (GM.R f rest' A n C low) f.X.length m (.returned (.tuple #[]))) ?call2 ?after2
     case call2 =>
      have hS : W1.drew.cell? ⟨w.heap.size,0,none⟩ = some (.pointer (some ⟨t,0,none⟩)) ∧ W1.drew.cell? ⟨Bx,0,none⟩ = some (.pointer (some ⟨bp,0,none⟩)) ∧ W1.drew.cell? ⟨Bx,1,none⟩ = some (.int .i64 (f.X.length : Int)) ∧ W1.drew.cell? ⟨t,0,none⟩ = some (.int .i64 (m : Int)):=⟨e3,ex0,ex1,et0⟩
      refine held_round (fun W' => W'.cell? ⟨w.heap.size,0,none⟩ = some (.pointer (some ⟨t,0,none⟩)) ∧ W'.cell? ⟨Bx,0,none⟩ = some (.pointer (some ⟨bp,0,none⟩)) ∧ W'.cell? ⟨Bx,1,none⟩ = some (.int .i64 (f.X.length : Int)) ∧ W'.cell? ⟨t,0,none⟩ = some (.int .i64 (m : Int))) l Kr hmx (fun ⟨_,_,h⟩ => absurd h.1 Si) ?_
      refine held_take 0 rfl Kr (fun _ _ _ h => h) hS (by intro w h; go_simp; all_goals with_reducible rfl) ?_
      refine held_take 1 rfl Kr (fun _ _ _ h => h) hS (by intro w h; go_simp; all_goals with_reducible rfl) ?_
      refine held_take 2 rfl Kr (fun _ _ _ h => h) hS (by intro w h; go_simp; all_goals with_reducible rfl) ?_
      refine held_take 3 rfl Kr (fun _ _ _ h => h) hS (by intro w h; go_simp; all_goals with_reducible rfl) ?_
      refine held_take 4 rfl Kr (fun _ _ _ h => h) hS (by intro w h; go_simp; all_goals with_reducible rfl) ?_
      refine held_take 5 rfl Kr (fun _ _ _ h => h) hS (by intro w h; go_simp; all_goals with_reducible rfl) ?_
      refine held_take 6 rfl Kr (fun _ _ _ h => h) hS (by intro w h; go_simp; all_goals with_reducible rfl) ?_
      refine held_take 7 rfl Kr (fun _ _ _ h => h) hS (by intro w h; go_simp; all_goals with_reducible rfl) ?_
      refine held_one 8 rfl Kr Kr fun K hK => ?_
      go_simp
      go_at_call 158
      refine HFT.out.mono ?_
      rintro e w' hfp
      have ho:=HO1.out.drew.trans hfp.2.1
      have he:=hfp.1
      subst he
      exact hK _ _ ⟨out_cell HGM.out.two ho HI.out.b3 (by decide) (by decide) HCB.out.1,out_cell HGM.out.two ho HN.out.2.2.2.2.2 (by decide) (by decide) HCB.out.2.1,out_cell HGM.out.two ho HN.out.2.2.2.2.2 (by decide) (by decide) HCB.out.2.2.1,out_cell HGM.out.two ho HGM.out.tr.cells (by decide) (by decide) HCB.out.2.2.2⟩ (wpAnyH_done Kr ⟨rfl,hfp⟩ _)
     case after2 =>
      intro a2 W2 hfp
      have hd1 : Only (zd W ((f.n,hd f.C none) :: (n,hd C none) :: GM.R f rest' A n C low)) W W1.drew:=HO1.out.drew
      obtain ⟨_,ho2,A',n',C',low',hgm'⟩:=HGM.out.next HZ.out Om rfl hd1 (HGM.out.tr.out HGM.out.two) hfp
      exact HI.out.round HGM.out.two ho2 hgm'
 case done =>
  rintro D ys W hD hS hi hK
  obtain ⟨rest,A,n,C,low,hgm⟩:=hi.gm
  rw [hS] at hgm
  obtain rfl:=hgm.rest_nil
  obtain ⟨rfl,rfl,hnb⟩:=hgm.top
  have hnd : NdAt W n none:=hgm.hp.at_ (n,none) (by simp [lvls,allX,linkN,hd])
  obtain ⟨pn,capn,en,_⟩:=irow_form hnd.row
  have c0:=hnd.nc.c0
  rw [en,hnb] at c0
  have cb3 : W.cell? ⟨w.heap.size,0,none⟩ = some (.pointer (some ⟨t,0,none⟩)):=by simp [World.cell?,hi.b3]
  have ct0:=hgm.tr.c0
  have ct2:=hgm.tr.c2
  have hnl:=hgm.gi.wn.2
  have HGM : Hid (GM w Z t m cnt rb key rs its0 W rs [] [] n [] low):=hgm
  have HI : Hid (GB w Z t m cnt rb key rs its0 (.slice p rs.length cap) B ys W):=hi
  have HEN : Hid (n.v = .slice pn n.its.length capn ∧ n.b = rb):=⟨en,hnb⟩
  obtain ⟨nl,hnlq⟩:=Vx n.its.length
  have HNL : Hid (n.its.length = nl):=hnlq
  rw [hnlq] at c0 hnl
  clear hgm hi hnd en hnb hnlq h3 h4 h5 hr0 hgb hc5 hW0 hS
  have hmx : Tryz.prog.follows .mixedOrders = true:=by kernel_rfl
  by_cases hgt : nl ≤ m
  ·have hgti : ¬ (m : Int) < (nl : Int):=by omega
   gi_wp2
   apply wpIn_once
   case h =>
    gi_region_with_o fail
    all_goals exact ⟨rfl,rfl⟩
   case k =>
    gi_wp2
    refine ⟨by simp,.inl ⟨_,_,rfl,run_takeDeferred (w:=W.drew) hK,?_⟩⟩
    refine ⟨_,results_none rfl _ _ _,?_⟩
    have hg1 : GM w Z t m cnt rb key rs its0 W.drew rs [] [] n [] low:=HGM.out.grown HZ.out (row:=none) ⟨rfl,rfl,rfl,Nat.le_refl _,fun _ _ _ => rfl⟩ (by intro r e; cases e)
    have hg2:=hg1.grown HZ.out (grownBy_putObj' W.drew D (.deferred none)) (fun r e => by cases e; exact ⟨by omega,_,hK,rfl⟩)
    exact hg2.fine (by rw [HNL.out]; exact hgt)
  ·have hgti : (m : Int) < (nl : Int):=by omega
   obtain ⟨x,r,h0⟩ : ∃ x r,n.its = x :: r:=List.exists_cons_of_ne_nil fun e => by have:=HNL.out; rw [e] at this; simp at this; omega
   have H0 : Hid (n.its = x :: r):=h0
   have HAK : Hid (∀ W',Below W.heap.size W W' → Calls Tryz.prog 166 #[.pointer (some ⟨rb,0,none⟩)] W' fun e w' => e = .returned (.agg #[.string x.key,.string ⟨#[]⟩,.pointer (some ⟨rb,0,none⟩)]) ∧ Below W'.heap.size W' w'):=fun W' hb => by
    have hnd : NdAt W n none:=HGM.out.hp.at_ (n,none) (by simp [lvls,allX,linkN,hd])
    have:=asKid_any W' n none x r (hnd.later hb) H0.out (by have:=HNL.out; omega)
    rw [HEN.out.2] at this
    exact this
   have HCL : Hid (∀ W',Below W.heap.size W W' → W'.cell? ⟨w.heap.size,0,none⟩ = some (.pointer (some ⟨t,0,none⟩)) ∧ W'.cell? ⟨t,0,none⟩ = some (.int .i64 (m : Int)) ∧ W'.cell? ⟨t,2,none⟩ = some (.pointer (some ⟨rb,0,none⟩)) ∧ W'.frozen? ⟨t,2,none⟩ = false):=fun W' hb => by
    have ht:=HGM.out.tr.kept (hb.block _ HGM.out.tr.lt)
    exact ⟨cell_at (hb.block _ (Gx HI.out.b3)) (by simp [World.cell?,HI.out.b3]),ht.c0,ht.c2,ht.fz 2⟩
   clear h0
   obtain ⟨xk,hxk⟩:=Vx x.key
   have HXK : Hid (x.key = xk):=hxk
   rw [hxk] at HAK
   clear hxk
   gi_wp2
   apply wpIn_once
   case h =>
    gi_region_with_o fail
    all_goals exact ⟨rfl,rfl⟩
   case k =>
    gi_wp2
    apply wpIn_via (fun w4 => Below W.heap.size W w4)
    case h =>
     gi_region_with_o (refine ⟨trivial,?_⟩; gi_at_call 166; refine (callsIn_wide.2 (HAK.out _ ((Bxr _ W).drew.drew))).mono ?_; rintro e w4 ⟨rfl,hb4⟩; (have hb5 : Below W.heap.size W w4:=below_two ((Bxr _ W).drew.drew) hb4); (obtain ⟨d3,d0,d2,df⟩:=HCL.out w4 hb5); (have hlt : t < w4.heap.size:=Zll HGM.out.tr.lt hb5.size); (have hlt1 : t < w4.heap.size + 1:=by omega); (have hne1 : ¬ t = w4.heap.size:=by omega); (have hne2 : ¬ t = w4.heap.size + 1:=by omega); (have hl3 : w.heap.size < w4.heap.size:=Zll (Gx HI.out.b3) hb5.size); (have hl31 : w.heap.size < w4.heap.size + 1:=by omega); (have hn31 : ¬ w.heap.size = w4.heap.size:=by omega); (have hn32 : ¬ w.heap.size = w4.heap.size + 1:=by omega); clear hb4)
     all_goals exact ⟨w4,by assumption,rfl,rfl⟩
    case k =>
     intro w4 hb4
     gi_wp2
     obtain ⟨W5,hW5⟩:=Vx (((w4.setCell ⟨t,2,none⟩ (.pointer (some ⟨w4.heap.size + 1,0,none⟩))).alloc (Obj.cells #[.string xk,.string ⟨#[]⟩,.pointer (some ⟨rb,0,none⟩)] 195)).alloc (Obj.cells #[.slice (some ⟨w4.heap.size,0,none⟩) 1 1,.pointer none] 198))
     have HRW : Hid (RootW w Z t m cnt rb n low xk W w4 W5):=by rw [← hW5]; exact HGM.out.rootW HZ.out hb4
     rw [hW5]
     obtain ⟨q,hq⟩:=Vx (w4.heap.size + 1)
     have e2:=HRW.out.tr.c2
     have e0:=HRW.out.tr.c0
     have e3 : W5.cell? ⟨w.heap.size,0,none⟩ = some (.pointer (some ⟨t,0,none⟩)):=cell_at (HRW.out.keep _ (Gx HI.out.b3) fun e => by
      have h1:=HGM.out.tr.cells
      rw [← e,HI.out.b3] at h1
      cases h1) cb3
     rw [hq] at e2
     have HFT : Hid (Calls Tryz.prog 158 #[.pointer (some ⟨q,0,none⟩),.int .i64 0,.int .i64 (m : Int)] W5.drew (FitP W5.drew (zd W5 ((⟨w4.heap.size + 1,.slice (some ⟨w4.heap.size,0,none⟩) 1 1,[⟨xk,⟨#[]⟩,some rb⟩]⟩,none) :: (n,none) :: allX low)) ⟨w4.heap.size + 1,.slice (some ⟨w4.heap.size,0,none⟩) 1 1,[⟨xk,⟨#[]⟩,some rb⟩]⟩ n none none (allX low) 0 m)):=by
      have:=fit_any W5.drew (zd W5 ((⟨w4.heap.size + 1,.slice (some ⟨w4.heap.size,0,none⟩) 1 1,[⟨xk,⟨#[]⟩,some rb⟩]⟩,none) :: (n,none) :: allX low)) ⟨w4.heap.size + 1,.slice (some ⟨w4.heap.size,0,none⟩) 1 1,[⟨xk,⟨#[]⟩,some rb⟩]⟩ n none none (allX low) 0 m (HRW.out.hp.tight.later (Bxr _ _).drew) (fun k hk => Or.inr hk) Si (by show some rb = some n.b; rw [HEN.out.2]) Si (by have:=HNL.out; omega) Om
      rw [← hq]
      exact this
     clear hb4 hW5 c0 cb3 ct0 ct2
     apply wpIn_via (fun W6 => FitP W5.drew (zd W5 ((⟨w4.heap.size + 1,.slice (some ⟨w4.heap.size,0,none⟩) 1 1,[⟨xk,⟨#[]⟩,some rb⟩]⟩,none) :: (n,none) :: allX low)) ⟨w4.heap.size + 1,.slice (some ⟨w4.heap.size,0,none⟩) 1 1,[⟨xk,⟨#[]⟩,some rb⟩]⟩ n none none (allX low) 0 m (.returned (.tuple #[])) W6)
     case h =>
      gi_region_with_o (refine ⟨trivial,?_⟩; gi_at_call 158; refine (callsIn_wide.2 HFT.out).mono ?_; rintro e W6 hfp; (have he:=hfp.1); subst he)
      all_goals exact ⟨_,by assumption,rfl,rfl⟩
     case k =>
      intro W6 hfp
      gi_wp2
      have ho6 : Only (zd W5 ((⟨w4.heap.size + 1,.slice (some ⟨w4.heap.size,0,none⟩) 1 1,[⟨xk,⟨#[]⟩,some rb⟩]⟩,none) :: (n,none) :: allX low)) W5 W6:=((Only.refl _ _).drew).trans hfp.2.1
      have hDlt:=(Gx hK)
      have hK5 : W5.heap[D]? = some (.deferred (some [])):=(HRW.out.keep D hDlt fun e => by
       rw [e,HGM.out.tr.cells] at hK
       cases hK).trans hK
      have hK6 : W6.heap[D]? = some (.deferred (some [])):=(ho6.block D (Gx hK5) (HRW.out.hp.out hK5 (by intro cs fr e; cases e) (by intro cs fr e; cases e))).trans hK5
      have hzz : ∀ k,zd W5 ((⟨w4.heap.size + 1,.slice (some ⟨w4.heap.size,0,none⟩) 1 1,[⟨xk,⟨#[]⟩,some rb⟩]⟩,none) :: (n,none) :: allX low) k → Z k:=fun k hk => by
       rcases HRW.out.hp.zone hk with h1 | h1
       ·exact h1
       ·exact HZ.out k (Zlt HRW.out.only.size h1)
      refine ⟨by simp,.inl ⟨_,_,rfl,run_takeDeferred hK6,?_⟩⟩
      refine ⟨_,results_none rfl _ _ _,?_⟩
      refine GrowP.put ?_ (HZ.out D Om) hK6 rfl _
      have hfin:=hfp.mono hzz
      rw [← HXK.out] at hfin
      exact HGM.out.root hm (by rw [HNL.out]; omega) H0.out HEN.out.2 hfin (HRW.out.only.trans (ho6.mono fun k hk => Or.inl (hzz k hk))) (HRW.out.tr.kept (ho6.block t HRW.out.tr.lt (HRW.out.tr.out HRW.out.hp)))
 case stop =>
  rintro D c pre W _ _ h _
  exact h.elim
end
theorem wlv_le {m : Nat} : ∀ {top : Bool} {ls : List (List Nd)},WLv m top ls → ∀ x ∈ allX ls,x.1.its.length ≤ m
 | _,[],_,x,hx => by simp [allX] at hx
 | _,L :: r,h,x,hx => by
  rw [allX_cons] at hx
  rcases Zma hx with hx | hx
  ·have key : ∀ (nx : Option Nat) (L : List Nd) (x : NX),x ∈ linkN nx L → x.1 ∈ L:=fun nx L => by
    induction L with
    | nil => intro x hx; simp [linkN] at hx
    | cons n L ih =>
     intro x hx
     rcases Zmc hx with rfl | hx
     ·simp
     ·exact List.mem_cons_of_mem _ (ih x hx)
   exact (h.1 x.1 (key _ _ _ hx)).2
  ·exact wlv_le h.2 x hx
theorem Hp.other {w w' : World} {Z : Nat → Prop} {D : List NX} {t : Nat} (h : Hp w Z D) (hZ : ∀ k,w.heap.size ≤ k → Z k) (ht : ¬ zd w D t) (hk : ∀ k,k ≠ t → w'.heap[k]? = w.heap[k]?) : Hp w' Z D :=
 (h.tight.kept fun k _ hz => hk k fun e => ht (e ▸ hz)).mono fun k _ hz => (h.zone hz).elim id (hZ k)
theorem GrowP.base {w w1 W : World} {Z : Nat → Prop} {t m cnt : Nat} {its0 : List It} {e : Ending} (h : GrowP w1 Z t m cnt its0 e W) (ho : Only (fun k => Z k ∨ k = t) w w1) : GrowP w Z t m cnt its0 e W:=⟨h.1,ho.trans h.2.1,h.2.2⟩
theorem put_mem {w5 w6 : World} {Z : Nat → Prop} {t m cnt rb g cap B : Nat} {key val : ByteArray} {ls : List (List Nd)} {rs : List Fr} {A C : List Nd} {n : Nd} {v : Value} (hd0 : DPure key ls rb rs A n C) (hp : Hp w5 Z (allX ls)) (hZ : ∀ k,w5.heap.size ≤ k → Z k) (ht : TrAt w5 t m cnt rb) (hw : WLv m true ls) (hf : foundL key n.its = false)
  (hrow : w5.ownsRow B 236 2 v rs.length (wc rs.reverse)) (h6 : w6.ownsRow 0 195 3 (.slice (some ⟨g,0,none⟩) (insL key val n.its).length cap) (insL key val n.its).length (ic (insL key val n.its))) (hor : n.v.ownBlock = some g ∨ w5.heap.size ≤ g) (ho : Only (fun k => n.v.ownBlock = some k) w5 w6) :
  GM ((w6.setCell ⟨n.b,0,none⟩ (.slice (some ⟨g,0,none⟩) (insL key val n.its).length cap)).setCell ⟨t,1,none⟩ (.int .i64 ((cnt + 1 : Nat) : Int))) Z t m (cnt + 1) rb key rs (items [A ++ ⟨n.b,.slice (some ⟨g,0,none⟩) (insL key val n.its).length cap,insL key val n.its⟩ :: C]) ((w6.setCell ⟨n.b,0,none⟩ (.slice (some ⟨g,0,none⟩) (insL key val n.its).length cap)).setCell ⟨t,1,none⟩ (.int .i64 ((cnt + 1 : Nat) : Int))) [] rs A ⟨n.b,.slice (some ⟨g,0,none⟩) (insL key val n.its).length cap,insL key val n.its⟩ C [] ∧
  ((w6.setCell ⟨n.b,0,none⟩ (.slice (some ⟨g,0,none⟩) (insL key val n.its).length cap)).setCell ⟨t,1,none⟩ (.int .i64 ((cnt + 1 : Nat) : Int))).ownsRow B 236 2 v rs.length (wc rs.reverse) ∧
  Only (fun k => Z k ∨ k = t) w5 ((w6.setCell ⟨n.b,0,none⟩ (.slice (some ⟨g,0,none⟩) (insL key val n.its).length cap)).setCell ⟨t,1,none⟩ (.int .i64 ((cnt + 1 : Nat) : Int))) ∧ t ≠ n.b ∧ w6.cell? ⟨t,1,none⟩ = some (.int .i64 (cnt : Int)) ∧ (∀ o,w6.frozen? ⟨t,o,none⟩ = false) ∧ (∃ u,w6.cell? ⟨n.b,0,none⟩ = some u) ∧ ∀ o,w6.frozen? ⟨n.b,o,none⟩ = false:=by
 have hls:=hd0.all
 subst hls
 have hp1 : Hp w5 Z ((n,hd C none) :: (allX (lvls rs) ++ (linkN (some n.b) A ++ (linkN none C ++ allX [])))):=hp.perm (perm_one (lvls rs) [] A C n)
 have hnd : NdAt w5 n (hd C none):=hp1.head
 have hout:=ht.out hp
 have htn : t ≠ n.b:=fun e => hout (Or.inl ⟨(n,hd C none),hd0.at_,Or.inl e⟩)
 have htr : n.v.ownBlock ≠ some t:=fun e => hout (Or.inl ⟨(n,hd C none),hd0.at_,Or.inr e⟩)
 have ht6 : TrAt w6 t m cnt rb:=ht.kept (ho.block t ht.lt htr)
 have hn6 : w6.heap[n.b]? = w5.heap[n.b]?:=ho.block _ hnd.lt (ndat_ne hnd hnd)
 obtain ⟨hp7,ho7⟩:=hp1.setRow hZ ho h6 (fun k e => by
  obtain rfl : g = k:=by simpa [Value.ownBlock] using e
  exact hor)
 obtain ⟨w7,hw7⟩:=Vx (w6.setCell ⟨n.b,0,none⟩ (.slice (some ⟨g,0,none⟩) (insL key val n.its).length cap))
 simp only at hp7 ho7
 rw [hw7] at hp7 ho7 ⊢
 have ht7 : TrAt w7 t m cnt rb:=ht6.kept (by rw [← hw7]; exact Below.heap_setCell _ _ _ _ (fun e => htn (by simpa using e)))
 have hp7' : Hp w7 Z (allX (lvls rs ++ [A ++ ⟨n.b,.slice (some ⟨g,0,none⟩) (insL key val n.its).length cap,insL key val n.its⟩ :: C])):=hp7.perm (perm_one (lvls rs) [] A C ⟨n.b,.slice (some ⟨g,0,none⟩) (insL key val n.its).length cap,insL key val n.its⟩).symm
 have hZ7 : ∀ k,w7.heap.size ≤ k → Z k:=fun k hk => hZ k (Zlt ho7.size hk)
 have hoth : ∀ k,k ≠ t → (w7.setCell ⟨t,1,none⟩ (.int .i64 ((cnt + 1 : Nat) : Int))).heap[k]? = w7.heap[k]?:=fun k hk => Below.heap_setCell _ _ _ _ (fun e => hk (by simpa using e))
 have hp8:=hp7'.other hZ7 (ht7.out hp7') hoth
 have ht8 : TrAt (w7.setCell ⟨t,1,none⟩ (.int .i64 ((cnt + 1 : Nat) : Int))) t m (cnt + 1) rb:=⟨by rw [heap_setCell_at ht7.cells]; simp⟩
 have ho8 : Only (fun k => Z k ∨ k = t) w5 (w7.setCell ⟨t,1,none⟩ (.int .i64 ((cnt + 1 : Nat) : Int))):=Only.setCell (Z:=fun k => Z k ∨ k = t) (ho7.mono fun _ hk => Or.inl hk) (p:=⟨t,1,none⟩) (Or.inr rfl) _
 obtain ⟨hwf,hwL,_⟩:=wlv_part hw
 have hgi : GI key m (ctxR (rb,⟨none,none⟩) rs) rs.isEmpty A ⟨n.b,.slice (some ⟨g,0,none⟩) (insL key val n.its).length cap,insL key val n.its⟩ C []:=GI.start hd0.good (Frs.loc rfl hd0.frs) hd0.pos hwL hf rfl rfl
 refine ⟨⟨rfl,hd0.frs,hwf,hgi,hp8,rfl,Only.refl _ _,ht8⟩,own_kept hrow fun k e => ?_,ho8,htn,ht6.c1,ht6.fz,?_,fun o => ?_⟩
 ·obtain ⟨_,⟨e1,_⟩ | ⟨g',cap',cur,e1,_,hg,_⟩⟩:=hrow
  ·rw [e1] at e; cases e
  ·rw [e1] at e
   obtain rfl : g' = k:=by simpa [Value.ownBlock] using e
   have k1 : g' ≠ t:=fun e => by
    rw [e,ht.cells] at hg
    cases hg
   have k2 : g' ≠ n.b:=fun e => by
    rw [e,hnd.cells] at hg
    cases hg
   rw [hoth g' k1,← hw7,Below.heap_setCell _ _ _ _ (fun e => k2 (by simpa using e))]
   exact ho.block g' (Gx hg) (own_ne hnd.row hg (by decide))
 ·exact ⟨_,cell_at hn6 hnd.nc.c0⟩
 ·have:=hnd.cells
  rw [← hn6] at this
  simp [World.frozen?,this]
theorem put_new (w : World) (Z : Nat → Prop) (t m cnt rb : Nat) (key val : ByteArray) (ls : List (List Nd)) (ht : TrAt w t m cnt rb) (hp : Hp w Z (allX ls)) (hZ : ∀ k,w.heap.size ≤ k → Z k) (hg : Good [(rb,⟨none,none⟩)] ls) (hw : WLv m true ls) (hlen : ls.length ≤ 1000000) (hm : 4 ≤ m) (hm2 : m ≤ 64) (hcnt : cnt ≤ 4000000000) (hks : key.size ≤ 281474976710656) (hvs : val.size ≤ 281474976710656) (hnf : ∀ rs A n C,DPure key ls rb rs A n C → foundL key n.its = false) :
  Calls Tryz.prog 71 #[.pointer (some ⟨t,0,none⟩),.string key,.string val] w fun e w' => e = .returned (.tuple #[.string ⟨#[]⟩,.bool false]) ∧ ∃ rs A n C v',DPure key ls rb rs A n C ∧ GrowP w Z t m (cnt + 1) (items [A ++ ⟨n.b,v',insL key val n.its⟩ :: C]) (.returned (.tuple #[])) w':=by
 have HW : Hid (TrAt w t m cnt rb ∧ Hp w Z (allX ls) ∧ (∀ k,w.heap.size ≤ k → Z k) ∧ Good [(rb,⟨none,none⟩)] ls ∧ WLv m true ls ∧ ∀ rs A n C,DPure key ls rb rs A n C → foundL key n.its = false):=⟨ht,hp,hZ,hg,hw,hnf⟩
 have HC1:=clone_any val w hvs
 clear ht hp hZ hg hw hnf
 go_enter Tryz.func71,Tryz.ntmps71
 go_wp2_with fail
 refine HC1.mono ?_
 rintro e w1 ⟨rfl,hb1⟩
 have HD : Hid (Calls Tryz.prog 117 #[.pointer (some ⟨t,0,none⟩),.string key] w1 (DescP w1 t key ls rb)):=descend_any w1 Z t rb key ls (HW.out.2.1.later hb1) (HW.out.1.kept (hb1.block _ HW.out.1.lt)).c2 HW.out.2.2.2.1 hlen (fun x hx => by have:=wlv_le HW.out.2.2.2.2.1 x hx; omega)
 have HB1 : Hid (Below w.heap.size w w1):=hb1
 clear hb1 HC1
 go_wp2_with fail
 refine HD.out.mono ?_
 rintro e w2 ⟨v,rs,A,n,C,rfl,hinv⟩
 have hpu:=hinv.pure
 have hmem:=hpu.at_
 have hnl : n.its.length ≤ 64:=Zlt (wlv_le HW.out.2.2.2.2.1 _ hmem) hm2
 have hb2 : Below w.heap.size w w2:=below_two HB1.out hinv.below
 have hnd : NdAt w2 n (hd C none):=(HW.out.2.1.at_ _ hmem).later hb2
 have hff:=HW.out.2.2.2.2.2 _ _ _ _ hpu
 have HF : Hid (Calls Tryz.prog 118 #[.pointer (some ⟨n.b,0,none⟩),.string key] w2 fun e w' => e = .returned (.tuple #[.int .i64 (cntL key n.its : Int),.bool false]) ∧ Below w2.heap.size w2 w'):=by
  have:=find_any w2 n (hd C none) key hnd hinv.srt Om
  rw [hff] at this
  exact this
 have HP : Hid (DPure key ls rb rs A n C ∧ Below w.heap.size w w2 ∧ NdAt w2 n (hd C none) ∧ w2.ownsRow w1.heap.size 236 2 v rs.length (wc rs.reverse) ∧ foundL key n.its = false ∧ rs.length ≤ 1000000):=⟨hpu,hb2,hnd,hinv.row,hff,by have:=hinv.len; omega⟩
 clear hinv hpu hmem hnd hff hb2 HD
 obtain ⟨pv,cv,ev,_⟩:=wrow_form HP.out.2.2.2.1
 subst ev
 obtain ⟨c,hc⟩:=Vx (cntL key n.its)
 obtain ⟨nb,hnb⟩:=Vx n.b
 have HC : Hid (cntL key n.its = c ∧ n.b = nb):=⟨hc,hnb⟩
 rw [hc,hnb] at HF
 rw [hnb]
 clear hc hnb
 go_wp2_with fail
 refine HF.out.mono ?_
 rintro e w3 ⟨rfl,hb3⟩
 have HB3 : Hid (Below w.heap.size w w3):=below_two HP.out.2.1 hb3
 have HR3 : Hid (w3.ownsRow w1.heap.size 236 2 (.slice pv rs.length cv) rs.length (wc rs.reverse)):=own_kept HP.out.2.2.2.1 fun k e => hb3.block _ (HP.out.2.2.2.1.lt k e).2
 have HC2:=clone_any key w3 hks
 clear hb3 HF
 go_wp2_with fail
 refine HC2.mono ?_
 rintro e w4 ⟨rfl,hb4⟩
 have HB4 : Hid (Below w.heap.size w w4):=below_two HB3.out hb4
 have HR4 : Hid (w4.ownsRow w1.heap.size 236 2 (.slice pv rs.length cv) rs.length (wc rs.reverse)):=own_kept HR3.out fun k e => hb4.block _ (HR3.out.lt k e).2
 have hnd : NdAt w4 n (hd C none):=(HW.out.2.1.at_ _ HP.out.1.at_).later HB4.out
 have c0:=hnd.nc.c0
 obtain ⟨pn,capn,en,_⟩:=irow_form hnd.row
 rw [en,HC.out.2] at c0
 have HIN : Hid (Calls Tryz.prog 124 #[.slice pn n.its.length capn,.int .i64 (c : Int),.slice (some ⟨w4.heap.size,0,none⟩) 1 1] (w4.alloc (Obj.cells #[.string key,.string val,.pointer none] 195)) (InsP (w4.alloc (Obj.cells #[.string key,.string val,.pointer none] 195)) n.v (insL key val n.its))):=by
  have h5:=hnd.later ((Bxr _ w4).alloc Zlr (Obj.cells #[.string key,.string val,.pointer none] 195))
  have:=insert_any _ n.v n.its ⟨key,val,none⟩ (cntL key n.its) w4.heap.size h5.row Om (cntL_le key n.its) (heap_alloc_new w4 _) (fun e => by have:=(hnd.row.lt _ e).2; omega)
  rw [HC.out.1,en] at this
  unfold insL
  rw [HC.out.1,en]
  exact this
 have HND : Hid (NdAt w4 n (hd C none) ∧ n.v = .slice pn n.its.length capn):=⟨hnd,en⟩
 obtain ⟨nl,hnl2⟩:=Vx n.its.length
 rw [hnl2] at c0 HIN
 clear hnd en hb4 HC2 hnl2 hnl
 go_wp2_with fail
 refine HIN.out.mono ?_
 rintro e w6 ⟨g,cap,rfl,hrow6,hor,ho6⟩
 have hb5 : Below w.heap.size w (w4.alloc (Obj.cells #[.string key,.string val,.pointer none] 195)):=HB4.out.alloc HB4.out.size _
 have hr5 : (w4.alloc (Obj.cells #[.string key,.string val,.pointer none] 195)).ownsRow w1.heap.size 236 2 (.slice pv rs.length cv) rs.length (wc rs.reverse):=HR4.out.alloc _
 obtain ⟨hgm,hrw,ho8,htn,ct,cf,⟨u,cn⟩,cnf⟩:=put_mem HP.out.1 (HW.out.2.1.later hb5) (fun k hk => HW.out.2.2.1 k (Zlt hb5.size hk)) (HW.out.1.kept (hb5.block _ HW.out.1.lt)) HW.out.2.2.2.2.1 HP.out.2.2.2.2.1 hr5 hrow6 hor ho6
 have hZ8:=fun k hk => HW.out.2.2.1 k (Zlt (Zlt hb5.size ho8.size) hk)
 have HGR:=grow_any _ Z t m (cnt + 1) rb key rs _ _ _ A _ C hZ8 hm hm2 hrw HP.out.2.2.2.2.2 hgm
 have HO : Hid (Only (fun k => Z k ∨ k = t) w ((w6.setCell ⟨n.b,0,none⟩ (.slice (some ⟨g,0,none⟩) (insL key val n.its).length cap)).setCell ⟨t,1,none⟩ (.int .i64 ((cnt + 1 : Nat) : Int)))):=(Only.of hb5).trans ho8
 rw [HC.out.2] at HGR HO cn cnf htn
 have cf1:=cf 1
 have cnf0:=cnf 0
 have htn2 : ¬ nb = t:=fun e => htn e.symm
 have hcc : ((cnt + 1 : Nat) : Int) = (cnt : Int) + 1:=by omega
 rw [hcc] at HGR HO
 clear hcc
 obtain ⟨ln,hln⟩:=Vx ((insL key val n.its).length)
 rw [hln] at HGR HO ⊢
 clear hgm hrw ho8 hZ8 hb5 hr5 hrow6 hor ho6 cf cnf c0 hln
 go_wp2_with fail
 refine HGR.mono ?_
 rintro e w9 hgp
 have he:=hgp.1
 subst he
 have HGP : Hid (GrowP w Z t m (cnt + 1) (items [A ++ ⟨nb,.slice (some ⟨g,0,none⟩) ln cap,insL key val n.its⟩ :: C]) (.returned (.tuple #[])) w9):=hgp.base HO.out
 clear hgp HGR
 go_wp2
 refine bodyPost_ret (v:=.tuple #[.string ⟨#[]⟩,.bool false]) (by simp [results,Tryz.results71,go_sem]) rfl ?_
 exact ⟨rfl,rs,A,n,C,.slice (some ⟨g,0,none⟩) ln cap,HP.out.1,by rw [HC.out.2]; exact HGP.out⟩
end BB
end Go.Proofs.YtmmmkjhpmlfopaaGreatDoor
