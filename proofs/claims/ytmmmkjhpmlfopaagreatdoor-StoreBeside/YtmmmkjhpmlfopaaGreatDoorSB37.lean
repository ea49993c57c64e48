/- O22 O41s O43 O44 O23 -/
import Derived.Test.YtmmmkjhpmlfopaaGreatDoorSB36
set_option maxHeartbeats 8000000
set_option maxRecDepth 100000
namespace Go.Proofs.YtmmmkjhpmlfopaaGreatDoor
open Go.RowKit
section
open Go.RowKit Go.Maps BB
def RowsIn (w : World) (a : Option Addr) (L : List Row3) : Prop:=∀ i (h : i < L.length),∃ b off p cap,a = some ⟨b,off,none⟩ ∧ w.cell? ⟨b,off + i,none⟩ = some (.slice p (L[i]).length cap) ∧ Row w p L[i]
theorem RowsIn.later {w w' : World} {a : Option Addr} {L : List Row3} (h : RowsIn w a L) (hb : Below w.heap.size w w') : RowsIn w' a L:=fun i hi => by
 obtain ⟨b,off,p,cap,e,h1,h2⟩:=h i hi
 exact ⟨b,off,p,cap,e,cell_later hb h1,h2.later hb⟩
theorem SetM.later {w w' : World} {b : Nat} {ks : List (List UInt8)} (h : SetM w b ks) (hb : Below w.heap.size w w') : SetM w' b ks:=by
 obtain ⟨es,clock,h4,r⟩:=h
 exact ⟨es,clock,(hb.block _ (Gx h4)).trans h4,r⟩
theorem grows_map {w w' : World} {b : Nat} {ks : List (List UInt8)} (h : SetM w b ks) (ho : Only (fun k => k = b) w w') : Grows w w':=fun a v hv => by
 obtain ⟨es,clock,h4,_⟩:=h
 have hn : a.block ≠ b:=fun e => by
  subst e
  unfold World.cell? at hv
  rw [h4] at hv
  simp at hv
 rw [World.cell?_of_block (ho.block _ (World.block_lt_of_cell? _ _ hv) hn)]
 exact hv
def nulB (l : List V3) : Bool:=l.any fun v => v.1 == 0
theorem nulB_iff (l : List V3) : (∃ v ∈ l,v.1 = 0) ↔ nulB l = true:=by
 unfold nulB
 rw [List.any_eq_true]
 exact ⟨fun ⟨v,h,e⟩ => ⟨v,h,by simpa using e⟩,fun ⟨v,h,e⟩ => ⟨v,h,by simpa using e⟩⟩
def metJ (t : TT.Tb) (j : Nat) (L : List Row3) : List (List UInt8):=(L.filter fun r => !nulB (pick3 r (colsJ t j))).map fun r => TT.bs (kE (pick3 r (colsJ t j)))
theorem metJ_le (t : TT.Tb) (j : Nat) (L : List Row3) : (metJ t j L).length ≤ L.length:=by
 unfold metJ
 rw [List.length_map]
 exact List.length_filter_le _ _
theorem metJ_null {t : TT.Tb} {j : Nat} {L : List Row3} {k : Nat} (h : k < L.length) (hn : nulB (pick3 L[k] (colsJ t j)) = true) : metJ t j (L.take (k + 1)) = metJ t j (L.take k):=by
 unfold metJ
 rw [List.take_succ_eq_append_getElem h,List.filter_append,List.map_append]
 simp [hn]
theorem metJ_snoc {t : TT.Tb} {j : Nat} {L : List Row3} {k : Nat} (h : k < L.length) (hn : nulB (pick3 L[k] (colsJ t j)) = false) : metJ t j (L.take (k + 1)) = metJ t j (L.take k) ++ [TT.bs (kE (pick3 L[k] (colsJ t j)))]:=by
 unfold metJ
 rw [List.take_succ_eq_append_getElem h,List.filter_append,List.map_append]
 simp [hn]
def clashJ (D : TD) (j : Nat) (rs : List Row3) (ks : List (List UInt8)) (L : List Row3) (k : Nat) : Prop:=∃ h : k < L.length,nulB (pick3 L[k] (colsJ D.t j)) = false ∧ (TT.bs (kE (pick3 L[k] (colsJ D.t j))) ∈ metJ D.t j (L.take k) ∨ ∃ q ∈ rs,TT.bs (nmR D.t q) ∉ ks ∧ pick3 q (colsJ D.t j) = pick3 L[k] (colsJ D.t j))
theorem upto_clash {D : TD} {j : Nat} {rs : List Row3} {ks : List (List UInt8)} {L : List Row3} {k : Nat} (h : ∀ i,i < k → ¬ clashJ D j rs ks L i) (hk : ¬ clashJ D j rs ks L k) : ∀ i,i < k + 1 → ¬ clashJ D j rs ks L i:=fun i hi => by
 rcases Nat.lt_succ_iff_lt_or_eq.1 hi with g | rfl
 ·exact h i g
 ·exact hk
theorem clashBy_any {B C : Nat} {Z : Nat → Prop} (w : World) (D : TD) (rs : List Row3) (j : Nat) (i : Int) (hi : i = (j : Int) - 1) (a : Option Addr) (cap : Nat) (L : List Row3) (m : Option Nat) (ks : List (List UInt8)) (hT : Tab w B Z D rs) (hm : Env w C) (hjK : j < D.K) (hrow : RowsIn w a L) (hr : ∀ r ∈ L,fitR D.t r) (hL : L.length ≤ 2147483648)
  (hG : ∀ (W : World) (s : ByteArray),Below w.heap.size w W → s.size ≤ 2400 → Calls Tryz.prog 109 #[.map m,.string s] W fun e w' => e = .returned (.bool (decide (TT.bs s ∈ ks))) ∧ Below W.heap.size W w') :
  Calls Tryz.prog 113 #[.pointer (some ⟨D.r,0,none⟩),.int .i64 i,.slice a L.length cap,.map m] w fun e w' => Below w.heap.size w w' ∧ BoolP (∃ k,clashJ D j rs ks L k) e:=by
 have hmm:=@run_makeMap Tryz.prog
 have HT:=Hd hT
 have HM:=Hd hm
 have HR:=Hd hrow
 have HF:=Hd hr
 have HI:=Hd hi
 have HJ:=Hd hjK
 have HG:=Hd hG
 have HCJ:=Hd (hT.tr.colsJ (Nat.le_of_lt_succ hjK))
 clear hT hm hrow hr hi hjK hG
 go_enter Tryz.func113,Tryz.ntmps113
 go_wp2
 go_loopw [16] (fun q wr => ∃ k : Nat,k ≤ L.length ∧ q = .int .i64 (k : Int) ∧ (∀ i,i < k → ¬ clashJ D j rs ks L i) ∧ SetM wr w.heap.size (metJ D.t j (L.take k)) ∧ Below w.heap.size w wr) (fun q _ => L.length - (intOf q).toNat)
 case atStart => exact ⟨0,Nat.zero_le _,rfl,fun i h => absurd h (Nat.not_lt_zero _),World.ownsMap_made w Tryz.prog 9 (unitElem (H:=Unit)),(Bxr _ w).alloc Zlr _⟩
 case round =>
  obtain ⟨k,hk,rfl,hno,hset,hb⟩:=hrel
  have hsz:=hb.size
  have HNO:=Hd hno
  have HSET:=Hd hset
  have HB:=Hd hb
  clear hno hset
  by_cases hlt : k < L.length
  ·have hlti : (k : Int) < (L.length : Int):=by omega
   obtain ⟨b,off,p,cp,rfl,d0,hrk⟩:=(HR.out.later hb) k hlt
   have HRK:=Hd hrk
   obtain ⟨r,hrr⟩:=Vx (L[k])
   have HRR:=Hd hrr
   have HFR : Hid (fitR D.t r):=Hd (by rw [← hrr]; exact HF.out _ (List.getElem_mem hlt))
   rw [hrr] at d0 HRK
   have HCO:=Hd (columns_any wr D j i HI.out (HT.out.fix.now.later hb) HT.out.tr (Nat.le_of_lt_succ HJ.out))
   clear hrk hrr hb
   go_wp2_with fail
   refine HCO.out.mono ?_
   rintro e w3 ⟨hwe,ac,cc,rfl,hcr⟩
   have hwe2:=hwe.symm
   clear hwe
   subst hwe2
   have HP:=Hd (pick_any wr p ac cp cc r (colsJ D.t j) HRK.out hcr (by rw [HFR.out.1]; exact HCJ.out.2.2) HCJ.out.2.1)
   clear hcr
   go_wp2_with fail
   refine HP.out.mono ?_
   rintro e w4 ⟨hb4,v4,rfl,ho4⟩
   obtain ⟨p4,c4,rfl,hr4⟩:=Row.of_own ho4
   obtain ⟨l,hl⟩:=Vx (pick3 r (colsJ D.t j))
   have HL:=Hd hl
   have HLR : Hid (∀ v ∈ l,V3.right v = true):=Hd (by rw [← hl]; exact pick3_right HFR.out.right _)
   have HLN : Hid (l.length = (colsJ D.t j).length):=Hd (by rw [← hl,pick3_length])
   have HL8 : Hid (l.length ≤ 8):=Hd (by rw [← hl,pick3_length]; exact HCJ.out.2.1)
   rw [hl] at hr4 ⊢
   have HR4:=Hd hr4
   have HB4:=Hd (HB.out.trans (hb4.mono hsz))
   have HS4:=Hd (HSET.out.later hb4)
   have HCN:=Hd (con_null w4 p4 c4 l hr4 (by have:=HL8.out; omega))
   have hs4:=hb4.size
   clear hr4 hb4 ho4 hl
   go_wp2_with fail
   refine HCN.out.mono ?_
   rintro e w5 ⟨hb5,nb,rfl,hnb⟩
   have HB5:=Hbt HB4 hb5
   have HS5:=Hd (HS4.out.later hb5)
   have HR5:=Hd (HR4.out.later hb5)
   have HNB:=Hd hnb
   clear hnb hb5
   cases nb with
   | true =>
    have hnn:=(nulB_iff l).1 (HNB.out.1 rfl)
    have HNN:=Hd hnn
    clear hnn
    go_wp2
    go_roundw
    case rel => exact ⟨k + 1,by omega,by go_num,upto_clash HNO.out (fun ⟨h,hn,_⟩ => by rw [HRR.out,HL.out,HNN.out] at hn; cases hn),by rw [metJ_null hlt (by rw [HRR.out,HL.out]; exact HNN.out)]; exact HS5.out,HB5.out⟩
    case measure => simp [intOf]; omega
   | false =>
    have HNN : Hid (nulB l = false):=Hd (by
     cases h : nulB l with
     | false => rfl
     | true => exact absurd (HNB.out.2 ((nulB_iff l).2 h)) Si)
    go_wp2_with fail
    refine (encode_any9 w5 p4 c4 l HR5.out HLR.out HL8.out (HM.out.later HB5.out HM.out.le)).mono ?_
    rintro e w6 ⟨rfl,hb6⟩
    have hss:=kE_short HLR.out (by have:=HL8.out; omega)
    obtain ⟨s,hs⟩:=Vx (kE l)
    have HS:=Hd hs
    rw [hs] at hss ⊢
    have HSS:=Hd hss
    have HB6:=Hbt HB5 hb6
    have HS6:=Hd (HS5.out.later hb6)
    have HR6:=Hd (HR5.out.later hb6)
    clear hs hss hb6
    go_wp2_with fail
    refine (add_any s w6 w.heap.size _ HS6.out (by have:=metJ_le D.t j (L.take k); (have h2 : (L.take k).length ≤ L.length:=by rw [List.length_take]; exact Nat.min_le_right _ _); omega) (by have:=HSS.out; omega)).mono ?_
    rintro e w7 ⟨rfl,hset7,ho7⟩
    have HG7:=Hd (grows_map HS6.out ho7)
    have HB7:=Hd (HB6.out.trans (ho7.below HB6.out.size fun q hq e => by omega))
    have HS7 : Hid (SetM w7 w.heap.size (metJ D.t j (L.take (k + 1)))):=Hd (by rw [metJ_snoc hlt (by rw [HRR.out,HL.out]; exact HNN.out),HRR.out,HL.out,HS.out]; exact hset7)
    have HR7:=Hd (row_grows HR6.out HG7.out)
    obtain ⟨ab,hab⟩:=Vx (decide (TT.bs s ∈ metJ D.t j (L.take k)))
    have HAB:=Hd hab
    rw [hab]
    clear hset7 ho7 hab
    cases ab with
    | true =>
     go_wp2
     go_ret
     exact ⟨HB7.out,true,rfl,fun _ => ⟨k,hlt,by rw [HRR.out,HL.out]; exact HNN.out,Or.inl (by rw [HRR.out,HL.out,HS.out]; exact of_decide_eq_true HAB.out)⟩,fun _ => rfl⟩
    | false =>
     have HHD:=Hd (held_any (B:=B) (C:=C) w7 D rs j i HI.out p4 c4 l m ks (HT.out.later HB7.out) (HM.out.later HB7.out HM.out.le) HJ.out HR7.out HLR.out HLN.out fun W s hW hs => HG.out W s (HB7.out.trans (hW.mono HB7.out.size)) hs)
     go_wp2_with (first | (go_at_call 150; refine HHD.out.mono ?_; rintro e w8 ⟨hb8,hx,rfl,hiff⟩; have HB8:=Hbt HB7 hb8; have HS8:=Hd (HS7.out.later hb8); have HIF:=Hd hiff; clear hb8 hiff; cases hx))
     rotate_left
     ·go_ret
      exact ⟨HB8.out,true,rfl,fun _ => ⟨k,hlt,by rw [HRR.out,HL.out]; exact HNN.out,Or.inr (by
       obtain ⟨q,h1,h2,h3⟩:=HIF.out.1 (by first | rfl | trivial)
       exact ⟨q,h1,h2,by rw [HRR.out,HL.out]; exact h3⟩)⟩,fun _ => rfl⟩
     ·go_roundw
      case rel =>
       refine ⟨k + 1,by omega,by go_num,upto_clash HNO.out ?_,HS8.out,HB8.out⟩
       rintro ⟨h,_,h2 | ⟨q,h1,h2,h3⟩⟩
       ·rw [HRR.out,HL.out,HS.out] at h2
        have h3:=HAB.out
        rw [decide_eq_false_iff_not] at h3
        exact h3 h2
       ·rw [HRR.out,HL.out] at h3
        exact absurd (HIF.out.2 ⟨q,h1,h2,h3⟩) Si
      case measure => simp [intOf]; omega
  ·have hlti : ¬ (k : Int) < (L.length : Int):=by omega
   have hkl : k = L.length:=by omega
   clear hb
   go_wp2
   go_ret
   refine ⟨HB.out,false,rfl,?_⟩
   constructor
   ·intro h; cases h
   ·rintro ⟨i,hi⟩
    have hi2:=hi
    obtain ⟨h,_⟩:=hi2
    exact absurd hi (HNO.out i Om)
end
section
open Go.RowKit BB
structure Strk where
 j : Nat
 tk : List Row3
 br : List (List V3)
 tv : Value
 bv : Value
def skc (S : List Strk) : List Value:=S.flatMap fun x => [.int .i64 (x.j : Int),x.tv,x.bv]
structure WkM (w : World) (B : Nat) (A : Nat → Prop) (k s : Nat) (l : Int) (en : Bool) (dv : Value) (S : List Strk) : Prop where
 blk : WkB w k s l en dv
 row : w.ownsRow B 100 3 dv S.length (skc S)
 parts : ∀ x ∈ S,RowsA w B A x.tv x.tk ∧ RowsA w B A x.bv x.br
 zone : A k ∧ ∀ g,dv.ownBlock = some g → A g
 lo : ∀ q,A q → B ≤ q ∧ q < w.heap.size
theorem WkM.kept {w w' : World} {B : Nat} {A Y : Nat → Prop} {k s : Nat} {l : Int} {en : Bool} {dv : Value} {S : List Strk} (h : WkM w B A k s l en dv S) (ho : Only Y w w') (hy : ∀ q,A q → ¬ Y q) : WkM w' B A k s l en dv S :=
 ⟨(ho.block k (h.lo k h.zone.1).2 (hy k h.zone.1)).trans h.blk,own_kept h.row fun g hg => ho.block g (h.row.lt g hg).2 (hy g (h.zone.2 g hg)),fun x hx => ⟨(h.parts x hx).1.kept ho hy,(h.parts x hx).2.kept ho hy⟩,h.zone,fun q hq => ⟨(h.lo q hq).1,Zll (h.lo q hq).2 ho.size⟩⟩
theorem WkM.later {w w' : World} {B : Nat} {A : Nat → Prop} {k s : Nat} {l : Int} {en : Bool} {dv : Value} {S : List Strk} (h : WkM w B A k s l en dv S) (hb : Below w.heap.size w w') : WkM w' B A k s l en dv S:=h.kept (Y:=fun _ => False) (Only.of hb) fun _ _ h => h
theorem RowsA.typed {w w' : World} {B : Nat} {A : Nat → Prop} {v : Value} {L : List (List V3)} (h : RowsA w B A v L) (hk : ∀ (g : Nat) (cur : Array Value) (t : TypeId),t = 26 ∨ t = 73 → w.heap[g]? = some (.cells cur t (0,0)) → w'.heap[g]? = w.heap[g]?) (hs : w.heap.size ≤ w'.heap.size) : RowsA w' B A v L:=by
 obtain ⟨us,h1,h2,h3,h4,h5⟩:=h.own
 exact ⟨⟨us,h1,own_kept h2 fun g hg => by
  obtain ⟨cur,hc⟩:=own_block9 h2 hg
  exact hk g cur _ (Or.inl rfl) hc,fun i hi hi' => own_kept (h3 i hi hi') fun g hg => by
  obtain ⟨cur,hc⟩:=own_block9 (h3 i hi hi') hg
  exact hk g cur _ (Or.inr rfl) hc,h4,h5⟩,fun q hq => ⟨(h.lo q hq).1,Zll (h.lo q hq).2 hs⟩⟩
theorem RowsA.base {w : World} {B B' : Nat} {A : Nat → Prop} {v : Value} {L : List (List V3)} (h : RowsA w B A v L) (hB : B' ≤ B) : RowsA w B' A v L:=by
 obtain ⟨us,h1,h2,h3,h4,h5⟩:=h.own
 exact ⟨⟨us,h1,own_mono9 h2 hB,fun i hi hi' => own_mono9 (h3 i hi hi') hB,h4,h5⟩,fun q hq => ⟨Zlt hB (h.lo q hq).1,(h.lo q hq).2⟩⟩
theorem skc_snoc (S : List Strk) (x : Strk) : skc (S ++ [x]) = skc S ++ [.int .i64 (x.j : Int),x.tv,x.bv]:=by
 unfold skc
 rw [List.flatMap_append]
 simp
theorem stroke_step {wq w6 : World} {B b0 k s j : Nat} {Ts U A A1 A2 : Nat → Prop} {l : Int} {en : Bool} {dv dv' u u2 : Value} {S : List Strk} {c : TT.Ct} {P : Nat} {tv : Value} {ld : Int} {L' : TabL} {tk : List Row3} {br : List (List V3)} (hK : WkM wq B A k s l en dv S) (hS : StM wq B Ts U s c P tv ld L') (hz : ∀ q,A q → ¬ Ts q ∧ ¬ U q ∧ q ≠ s ∧ tv.ownBlock ≠ some q) (h1 : RowsA wq b0 A1 u tk) (h2 : RowsA wq b0 A2 u2 br) (hB : B ≤ b0) (hA1 : ∀ q,A1 q → ¬ Ts q) (hA2 : ∀ q,A2 q → ¬ Ts q) {o : Obj} (hg : (wq.alloc o).grownBy w6 dv.ownBlock) (hown : w6.ownsRow B 100 3 dv' (S.length + 1) (skc S ++ [.int .i64 (j : Int),u,u2])) (hor : dv'.ownBlock = dv.ownBlock ∨ dv'.ownBlock = some (wq.alloc o).heap.size) :
  StM (w6.setCell ⟨k,3,none⟩ dv') B Ts U s c P tv ld L' ∧ (∃ A',WkM (w6.setCell ⟨k,3,none⟩ dv') B A' k s l en dv' (S ++ [⟨j,tk,br,u,u2⟩]) ∧ (∀ q,A' q → A q ∨ A1 q ∨ A2 q ∨ wq.heap.size ≤ q) ∧ ∀ q,A' q → ¬ Ts q) ∧ Only (fun q => dv.ownBlock = some q ∨ q = k) wq (w6.setCell ⟨k,3,none⟩ dv'):=by
 have hgr : Only (fun q => dv.ownBlock = some q ∨ q = k) wq (w6.setCell ⟨k,3,none⟩ dv'):=only_grown hg
 have hY : ∀ q,dv.ownBlock = some q ∨ q = k → A q:=fun q hq => by
  rcases hq with e | rfl
  ·exact hK.zone.2 q e
  ·exact hK.zone.1
 have hk6 : w6.heap[k]? = wq.heap[k]?:=by
  have hl:=(hK.lo k hK.zone.1).2
  exact (hg.block k (by simp; omega) fun e => own_ne hK.row hK.blk (by decide) e.symm).trans (alloc_low9 hl)
 have hkb:=hk6.trans hK.blk
 have hs6:=hgr.size
 have hz6 : (w6.setCell ⟨k,3,none⟩ dv').heap.size = w6.heap.size:=by simp [World.setCell]
 have hst : ∀ (g : Nat) (cur : Array Value) (t : TypeId),t = 26 ∨ t = 73 → wq.heap[g]? = some (.cells cur t (0,0)) → (w6.setCell ⟨k,3,none⟩ dv').heap[g]? = wq.heap[g]?:=fun g cur t ht hc => hgr.block g (Gx hc) fun e => by
  rcases e with e | rfl
  ·obtain ⟨cur2,hc2⟩:=own_block9 hK.row e
   rw [hc2] at hc
   simp only [Option.some.injEq,Obj.cells.injEq] at hc
   rcases ht with rfl | rfl
   ·exact absurd hc.2.1 (by decide)
   ·exact absurd hc.2.1 (by decide)
  ·have hb:=hK.blk
   unfold WkB at hb
   rw [hb] at hc
   simp only [Option.some.injEq,Obj.cells.injEq] at hc
   rcases ht with rfl | rfl
   ·exact absurd hc.2.1 (by decide)
   ·exact absurd hc.2.1 (by decide)
 have hlo' : ∀ q,(A q ∨ A1 q ∨ A2 q ∨ dv'.ownBlock = some q) → B ≤ q ∧ q < (w6.setCell ⟨k,3,none⟩ dv').heap.size:=fun q hq => by
  rcases hq with e | e | e | e
  ·exact ⟨(hK.lo q e).1,Zll (hK.lo q e).2 hs6⟩
  ·exact ⟨Zlt hB (h1.lo q e).1,Zll (h1.lo q e).2 hs6⟩
  ·exact ⟨Zlt hB (h2.lo q e).1,Zll (h2.lo q e).2 hs6⟩
  ·rw [hz6]
   exact hown.lt q e
 refine ⟨hS.kept hgr fun q hq hy => ?_,⟨fun q => A q ∨ A1 q ∨ A2 q ∨ dv'.ownBlock = some q,⟨?_,?_,fun x hx => ?_,⟨Or.inl hK.zone.1,fun g hg => Or.inr (Or.inr (Or.inr hg))⟩,hlo'⟩,fun q hq => ?_,fun q hq ht => ?_⟩,hgr⟩
 ·obtain ⟨a1,a2,a3,a4⟩:=hz q (hY q hy)
  rcases hq with e | e | e | e
  ·exact a1 e
  ·exact a2 e
  ·exact a3 e
  ·exact a4 e
 ·have:=TT.heap_setCell_at (i:=3) hkb dv'
  unfold WkB
  simpa using this
 ·rw [skc_snoc,Zla]
  exact own_kept hown fun q hq => Below.heap_setCell _ _ _ _ fun e => own_ne hown hkb (by decide) (by rw [hq]; exact congrArg some e)
 ·rcases Zma hx with hx | hx
  ·obtain ⟨p1,p2⟩:=hK.parts x hx
   exact ⟨(p1.typed hst hs6).mono (fun q hq => Or.inl hq) hlo',(p2.typed hst hs6).mono (fun q hq => Or.inl hq) hlo'⟩
  ·rw [Zms hx]
   exact ⟨((h1.typed hst hs6).base hB).mono (fun q hq => Or.inr (Or.inl hq)) hlo',((h2.typed hst hs6).base hB).mono (fun q hq => Or.inr (Or.inr (Or.inl hq))) hlo'⟩
 ·rcases hq with e | e | e | e
  ·exact Or.inl e
  ·exact Or.inr (Or.inl e)
  ·exact Or.inr (Or.inr (Or.inl e))
  ·rcases hor with e2 | e2
   ·exact Or.inl (hK.zone.2 q (e2 ▸ e))
   ·rw [e2] at e
    simp at e
    exact Or.inr (Or.inr (Or.inr Om))
 ·rcases hq with e | e | e | e
  ·exact (hz q e).1 ht
  ·exact hA1 q e ht
  ·exact hA2 q e ht
  ·rcases hor with e2 | e2
   ·exact (hz q (hK.zone.2 q (e2 ▸ e))).1 ht
   ·rw [e2] at e
    simp at e
    have:=(hS.tabs.lo q ht).2
    omega
def RowsPs (W : World) (a : Option Addr) (L : List Row3) (ps : Nat → Option Addr × Nat) : Prop:=∀ i (h : i < L.length),∃ b off,a = some ⟨b,off,none⟩ ∧ W.cell? ⟨b,off + i,none⟩ = some (.slice (ps i).1 (L[i]).length (ps i).2) ∧ Row W (ps i).1 L[i]
theorem RowsPs.rows {W : World} {a : Option Addr} {L : List Row3} {ps : Nat → Option Addr × Nat} (h : RowsPs W a L ps) : RowsIn W a L:=fun i hi => by
 obtain ⟨b,off,h1,h2,h3⟩:=h i hi
 exact ⟨b,off,_,_,h1,h2,h3⟩
end
section
open Go.RowKit Go.Shelf BB
attribute [local go_sem] Oper.semAt_some
def StkR (W : World) (pd : Option Addr) (S : List Strk) : Prop:=∀ i (h : i < S.length),∃ g off,pd = some ⟨g,off,none⟩ ∧ W.cell? ⟨g,off + i * 3,none⟩ = some (.int .i64 ((S[i]).j : Int)) ∧ W.cell? ⟨g,off + i * 3 + 1,none⟩ = some (S[i]).tv ∧ W.cell? ⟨g,off + i * 3 + 2,none⟩ = some (S[i]).bv
def BkM (bx : Nat) (pd : Option Addr) (cd : Nat) (S : List Strk) (W : World) : Prop:=W.cell? ⟨bx,0,none⟩ = some (.slice pd S.length cd) ∧ StkR W pd S
theorem BkM.later {bx : Nat} {pd : Option Addr} {cd : Nat} {S : List Strk} {W W' : World} (h : BkM bx pd cd S W) (hb : Below W.heap.size W W') : BkM bx pd cd S W':=⟨cell_later hb h.1,fun i hi => by
 obtain ⟨g,off,a,b,c,d⟩:=h.2 i hi
 exact ⟨g,off,a,cell_later hb b,cell_later hb c,cell_later hb d⟩⟩
def encB (S : List Strk) (i : Nat) : Array Value:=#[.int .i64 (i : Int),.agg #[.int .i64 (((S[i]?).map (·.j)).getD 0 : Nat),((S[i]?).map (·.tv)).getD .nilFunc,((S[i]?).map (·.bv)).getD .nilFunc]]
def backL (n : Nat) : List Nat:=(List.range n).reverse
theorem backL_at {n m : Nat} (h : m < n) : (backL n)[m]? = some (n - 1 - m):=by
 unfold backL
 rw [List.getElem?_reverse (by simpa using h),List.length_range,List.getElem?_range Om]
theorem backL_cut {n m : Nat} (h : m < n) : backL n = (backL n).take m ++ (n - 1 - m) :: (backL n).drop (m + 1):=by
 have hl : m < (backL n).length:=by unfold backL; simpa using h
 have e:=backL_at h
 rw [List.getElem?_eq_getElem hl,Option.some.injEq] at e
 conv => lhs; rw [← List.take_append_drop m (backL n),List.drop_eq_getElem_cons hl,e]
theorem backL_next {n m : Nat} (h : m < n) : (backL n).take (m + 1) = (backL n).take m ++ [n - 1 - m]:=by
 rw [List.take_add_one,backL_at h]
 rfl
theorem backL_all (n : Nat) : (backL n).take n = backL n:=List.take_of_length_le (by unfold backL; simp)
theorem back_seq (n : Nat) (bx : Nat) (pd : Option Addr) (cd : Nat) (S : List Strk) (hform : ∀ x ∈ S,(∃ a b c,x.tv = .slice a b c) ∧ ∃ a b c,x.bv = .slice a b c) (hS : S.length ≤ 3000000000) (w : World) (hA : BkM bx pd cd S w) :
  SeqB Fence.wide n Tryz.prog 81 #[.pointer (some ⟨bx,0,none⟩)] (encB S) (fun A B => BkM bx pd cd S A → BkM bx pd cd S B) (fun xs => xs = backL S.length) (fun pre => ∃ rest,backL S.length = pre ++ rest) (comesP (backL S.length)) w:=fun l J Jx W hW hJb hY h0 => by
 have HAW:=Hd (hA.later hW)
 have HY:=Hd hY
 have HJ:=Hd h0
 have HF:=Hd hform
 obtain ⟨k,hk⟩:=Vx S.length
 have HK:=Hd hk
 have a0:=HAW.out.1
 rw [hk] at a0 hS
 rw [hk]
 clear hY hJb h0 hA hW hform hk
 refine callsIn_of_wp Tryz.func81 rfl trivial ?_ rfl
 simp only [Tryz.ntmps81,List.size_toArray,List.length_cons,List.length_nil,Nat.reduceAdd,Nat.reduceSub,Array.replicate_succ,Array.replicate_zero,List.push_toArray,List.append_toArray,List.nil_append,List.cons_append]
 have hmx : Tryz.prog.follows .mixedOrders = true:=by kernel_rfl
 gi_wp2
 gi_loopw [3] (fun i wr => ∃ (m : Nat),m ≤ k ∧ i = .int .i64 ((k : Int) - 1 - (m : Int)) ∧ J ((backL k).take m) wr ∧ BkM bx pd cd S wr) (fun i _ => (intOf i + 1).toNat)
 case atStart => exact ⟨0,Nat.zero_le _,by go_num,HJ.out,HAW.out⟩
 case round =>
  obtain ⟨m,hm,rfl,hJ,hG⟩:=hrel
  by_cases hlt : m < k
  ·obtain ⟨q,hq⟩:=Vx (k - 1 - m)
   have hqi : (k : Int) - 1 - (m : Int) = (q : Int):=by omega
   have hqS : q < S.length:=by have:=HK.out; omega
   rw [hqi]
   have HG:=Hd hG
   obtain ⟨b,off,rfl,c0,c1,c2⟩:=hG.2 q hqS
   obtain ⟨⟨x1,x2,x3,e1⟩,y1,y2,y3,e2⟩:=HF.out _ (List.getElem_mem hqS)
   have a1:=hG.1
   rw [HK.out] at a1
   have hcut:=backL_cut hlt
   have hnx:=backL_next hlt
   rw [hq] at hcut hnx
   have HNX:=Hd hnx
   have HCUT:=Hd hcut
   obtain ⟨fn,tmps,assign,body,hy,hR⟩:=HY.out ((backL k).take m) q _ hJ ⟨_,by rw [HK.out]; exact hcut⟩
   have HR2:=Hd hR
   obtain ⟨jj,hjj⟩:=Vx ((S[q]).j)
   rw [hjj] at c0
   rw [e1] at c1
   rw [e2] at c2
   have henc : encB S q = #[.int .i64 (q : Int),.agg #[.int .i64 (jj : Int),.slice x1 x2 x3,.slice y1 y2 y3]]:=by
    unfold encB
    rw [List.getElem?_eq_getElem hqS]
    simp [e1,e2,hjj]
   rw [henc] at hy
   have hqk : (q : Int) < (k : Int):=by omega
   have hq0 : (0 : Int) ≤ (q : Int):=by omega
   clear hJ hR hG hcut hnx henc e1 e2 hjj
   gi_wp2
   refine ⟨fun h => absurd h (by simp [Fence.wide]),?_⟩
   refine HR2.out.mono ?_
   rintro e W3 (⟨rfl,hJ3,hG3⟩ | ⟨rfl,hJx3⟩)
   ·gi_wp2
    go_roundw
    case rel => exact ⟨m + 1,by omega,by rw [show (k : Int) - 1 - ((m + 1 : Nat) : Int) = (q : Int) - 1 by omega],by rw [HNX.out]; exact hJ3,hG3 HG.out⟩
    case measure => simp [intOf]
   ·gi_wp2
    refine bodyPost_ret (v:=.tuple #[]) (by simp [results,Tryz.results81,go_sem]) rfl ?_
    exact ⟨⟨_,rfl⟩,.inr ⟨_,⟨(backL k).drop (m + 1),by rw [Zas]; exact HCUT.out⟩,hJx3⟩⟩
  ·obtain rfl : m = k:=by omega
   have hneg : ¬ (0 : Int) ≤ (m : Int) - 1 - (m : Int):=by omega
   gi_wp2
   go_end0
   exact ⟨⟨_,rfl⟩,.inl (by rw [backL_all] at hJ; exact hJ)⟩
end
section
open Go.RowKit BB
theorem Tabs.other {W W' : World} {B : Nat} {T U : Nat → Prop} {L : TabL} {row : Option Nat} (h : Tabs W B T U L) (hg : W.grownBy W' row) (hr : ∀ r,row = some r → ∃ o : Obj,W.heap[r]? = some o ∧ o.isCells = false) (hu : ∀ q,U q → row ≠ some q) : Tabs W' B T U L:=by
 obtain ⟨Zs,h1,h2,h3⟩:=h.zs
 exact ⟨⟨Zs,fun i hi => trs_other (h1 i hi) hg hr,h2,h3⟩,fun q hq => ⟨(h.lo q hq).1,Zll (h.lo q hq).2 hg.size⟩,fun i hi V hV => h.fix i hi V fun q hq => (hV q hq).trans (hg.block q (h.un q hq).1 fun e => hu q hq e.symm),fun q hq => ⟨Zll (h.un q hq).1 hg.size,(h.un q hq).2⟩,h.ok⟩
theorem not_cells {W : World} {q : Nat} {cs : Array Value} {t : TypeId} {f : Nat × Nat} (h : W.heap[q]? = some (.cells cs t f)) {row : Option Nat} (hr : ∀ r,row = some r → ∃ o : Obj,W.heap[r]? = some o ∧ o.isCells = false) : row ≠ some q:=fun e => by
 obtain ⟨o,ho,hc⟩:=hr q e
 rw [h] at ho
 cases ho
 cases hc
theorem own_other {W W' : World} {B : Nat} {e : TypeId} {size : Nat} {v : Value} {n : Nat} {xs : List Value} (h : W.ownsRow B e size v n xs) {row : Option Nat} (hg : W.grownBy W' row) (hr : ∀ r,row = some r → ∃ o : Obj,W.heap[r]? = some o ∧ o.isCells = false) : W'.ownsRow B e size v n xs:=own_kept h fun g hgv => hg.block g (h.lt g hgv).2 fun e => by
 obtain ⟨cur,hc⟩:=own_block9 h hgv
 exact not_cells hc hr e.symm
theorem StM.other {W W' : World} {B : Nat} {T U : Nat → Prop} {s : Nat} {c : TT.Ct} {P : Nat} {tv : Value} {ld : Int} {L : TabL} {row : Option Nat} (h : StM W B T U s c P tv ld L) (hg : W.grownBy W' row) (hr : ∀ r,row = some r → ∃ o : Obj,W.heap[r]? = some o ∧ o.isCells = false) (hu : ∀ q,U q → row ≠ some q) : StM W' B T U s c P tv ld L :=
 ⟨(hg.block s (Gx h.blk) fun e => not_cells h.blk hr e.symm).trans h.blk,own_other h.row hg hr,h.tabs.other hg hr hu,h.off,h.lo,h.right,h.parts,h.defs⟩
theorem RowsA.other {W W' : World} {B : Nat} {A : Nat → Prop} {v : Value} {L : List (List V3)} {row : Option Nat} (h : RowsA W B A v L) (hg : W.grownBy W' row) (hr : ∀ r,row = some r → ∃ o : Obj,W.heap[r]? = some o ∧ o.isCells = false) : RowsA W' B A v L:=by
 obtain ⟨us,h1,h2,h3,h4,h5⟩:=h.own
 exact ⟨⟨us,h1,own_other h2 hg hr,fun i hi hi' => own_other (h3 i hi hi') hg hr,h4,h5⟩,fun q hq => ⟨(h.lo q hq).1,Zll (h.lo q hq).2 hg.size⟩⟩
theorem WkM.other {W W' : World} {B : Nat} {A : Nat → Prop} {k s : Nat} {l : Int} {en : Bool} {dv : Value} {S : List Strk} {row : Option Nat} (h : WkM W B A k s l en dv S) (hg : W.grownBy W' row) (hr : ∀ r,row = some r → ∃ o : Obj,W.heap[r]? = some o ∧ o.isCells = false) : WkM W' B A k s l en dv S :=
 ⟨(hg.block k (Gx h.blk) fun e => not_cells h.blk hr e.symm).trans h.blk,own_other h.row hg hr,fun x hx => ⟨(h.parts x hx).1.other hg hr,(h.parts x hx).2.other hg hr⟩,h.zone,fun q hq => ⟨(h.lo q hq).1,Zll (h.lo q hq).2 hg.size⟩⟩
def undo1 (L : TabL) (x : Strk) : TabL:=match L[x.j]? with
 | some (D,rs) => L.set x.j (D,putKs D.t x.tk (dropKs D.t x.br rs))
 | none => L
theorem undo1_at {L : TabL} {x : Strk} {D : TD} {rs : List Row3} (h : L[x.j]? = some (D,rs)) : undo1 L x = L.set x.j (D,putKs D.t x.tk (dropKs D.t x.br rs)):=by
 unfold undo1
 rw [h]
def undoL (L : TabL) (S : List Strk) (pre : List Nat) : TabL:=pre.foldl (fun a i => match S[i]? with
 | some x => undo1 a x
 | none => a) L
theorem undoL_snoc {L : TabL} {S : List Strk} {pre : List Nat} {i : Nat} {x : Strk} (h : S[i]? = some x) : undoL L S (pre ++ [i]) = undo1 (undoL L S pre) x:=by
 unfold undoL
 rw [List.foldl_append]
 simp [h]
structure UnT (w : World) (M bx B : Nat) (T U A : Nat → Prop) (k s : Nat) (l : Int) (en : Bool) (dv : Value) (c : TT.Ct) (P : Nat) (tv : Value) (ld : Int) (S : List Strk) (T' : Nat → Prop) (LL : TabL) (W : World) : Prop where
 st : StM W B T' U s c P tv ld LL
 tz : ∀ q,T' q → T q ∨ M + 2 ≤ q
 wk : WkM W B A k s l en dv S
 only : Only T w W
 b1 : W.heap[w.heap.size]? = some (.cells #[.pointer (some ⟨k,0,none⟩)] 40 (0,0))
 b2 : W.heap[bx]? = some (.cells #[dv] 88 (0,0))
section
variable {w W W' : World} {M bx B : Nat} {T U A : Nat → Prop} {k s : Nat} {l : Int} {en : Bool} {dv : Value} {c : TT.Ct} {P : Nat} {tv : Value} {ld : Int} {S : List Strk} {T' T2 : Nat → Prop} {LL L2 : TabL}
theorem UnT.other {row : Option Nat} {N : Nat} (h : UnT w M bx B T U A k s l en dv c P tv ld S T' LL W) (hg : W.grownBy W' row) (hr : ∀ r,row = some r → N ≤ r ∧ ∃ o : Obj,W.heap[r]? = some o ∧ o.isCells = false) (hN : w.heap.size ≤ N) (hu : ∀ q,U q → q < w.heap.size) : UnT w M bx B T U A k s l en dv c P tv ld S T' LL W':=by
 have hr2 : ∀ r,row = some r → ∃ o : Obj,W.heap[r]? = some o ∧ o.isCells = false:=fun r e => (hr r e).2
 refine ⟨h.st.other hg hr2 fun q hq e => ?_,h.tz,h.wk.other hg hr2,only_other h.only hg hr hN,(hg.block _ (Gx h.b1) fun e => not_cells h.b1 hr2 e.symm).trans h.b1,(hg.block _ (Gx h.b2) fun e => not_cells h.b2 hr2 e.symm).trans h.b2⟩
 have:=(hr q e).1
 have:=hu q hq
 omega
theorem UnT.later (h : UnT w M bx B T U A k s l en dv c P tv ld S T' LL W) (hb : Below W.heap.size W W') : UnT w M bx B T U A k s l en dv c P tv ld S T' LL W' :=
 ⟨h.st.later hb,h.tz,h.wk.later hb,only_two (Z':=fun _ => False) h.only (Only.of hb) fun _ e => e.elim,heap_of h.b1 hb,heap_of h.b2 hb⟩
theorem UnT.turn (h : UnT w M bx B T U A k s l en dv c P tv ld S T' LL W) (hw : w.heap.size ≤ bx ∧ bx < M ∧ M + 2 ≤ W.heap.size) (hT : ∀ q,T q → q < w.heap.size) (hA : ∀ q,A q → ¬ T q ∧ q < w.heap.size) (ho : Only T' W W') (hS : StM W' B T2 U s c P tv ld L2) (hto : ∀ q,T2 q → T' q ∨ W.heap.size ≤ q) : UnT w M bx B T U A k s l en dv c P tv ld S T2 L2 W':=by
 have hz : ∀ q,q < M + 2 → ¬ T q → ¬ T' q:=fun q hq hn ht => by
  rcases h.tz q ht with e | e
  ·exact hn e
  ·omega
 refine ⟨hS,fun q hq => ?_,h.wk.kept ho fun q hq => hz q (by have:=(hA q hq).2; omega) (hA q hq).1,only_two h.only ho fun q hq => (h.tz q hq).imp id fun e => by omega,(ho.block _ (Gx h.b1) (hz _ Om fun e => by have:=hT _ e; omega)).trans h.b1,(ho.block _ (Gx h.b2) (hz _ Om fun e => by have:=hT _ e; omega)).trans h.b2⟩
 rcases hto q hq with e | e
 ·exact h.tz q e
 ·exact Or.inr Om
end
theorem WkM.read {W : World} {B : Nat} {A : Nat → Prop} {k s : Nat} {l : Int} {en : Bool} {pd : Option Addr} {cd : Nat} {S : List Strk} (h : WkM W B A k s l en (.slice pd S.length cd) S) : StkR W pd S:=fun i hi => by
 have hat : ∀ (S : List Strk) (i : Nat) (h : i < S.length),(skc S)[i * 3]? = some (.int .i64 ((S[i]).j : Int)) ∧ (skc S)[i * 3 + 1]? = some (S[i]).tv ∧ (skc S)[i * 3 + 2]? = some (S[i]).bv:=by
  intro S
  induction S with
  | nil => exact fun _ h => absurd h (Nat.not_lt_zero _)
  | cons x S ih =>
   rintro (_ | i) h
   ·exact ⟨rfl,rfl,rfl⟩
   ·obtain ⟨a,b,c⟩:=ih i (by simpa using h)
    have e : skc (x :: S) = [.int .i64 (x.j : Int),x.tv,x.bv] ++ skc S:=rfl
    rw [e]
    refine ⟨?_,?_,?_⟩
    ·rw [List.getElem?_append_right (by simp; omega)]
     simpa [show (i + 1) * 3 - 3 = i * 3 by omega] using a
    ·rw [List.getElem?_append_right (by simp; omega)]
     simpa [show (i + 1) * 3 + 1 - 3 = i * 3 + 1 by omega] using b
    ·rw [List.getElem?_append_right (by simp; omega)]
     simpa [show (i + 1) * 3 + 2 - 3 = i * 3 + 2 by omega] using c
 obtain ⟨a,b,c⟩:=hat S i hi
 obtain ⟨g,cap,e⟩ : ∃ g cap,Value.slice pd S.length cd = .slice (some ⟨g,0,none⟩) S.length cap:=⟨_,_,(own_some h.row Om).1⟩
 cases e
 exact ⟨g,0,rfl,by rw [Nat.zero_add,h.row.cellAt _ Om]; exact a,by rw [Nat.zero_add,h.row.cellAt _ Om]; exact b,by rw [Nat.zero_add,h.row.cellAt _ Om]; exact c⟩
end
section
open Go.RowKit Go.Maps BB
def clashT (D : TD) (rs : List Row3) (ks : List (List UInt8)) (L : List Row3) : Prop:=∃ j,j < D.K ∧ uniJ D.t j = true ∧ ∃ k,clashJ D j rs ks L k
theorem clash_any {B C : Nat} {Z : Nat → Prop} (w : World) (D : TD) (rs : List Row3) (a : Option Addr) (cap : Nat) (L : List Row3) (m : Option Nat) (ks : List (List UInt8)) (hT : Tab w B Z D rs) (hm : Env w C) (hrow : RowsIn w a L) (hr : ∀ r ∈ L,fitR D.t r) (hL : L.length ≤ 2147483648)
  (hG : ∀ (W : World) (s : ByteArray),Below w.heap.size w W → s.size ≤ 2400 → Calls Tryz.prog 109 #[.map m,.string s] W fun e w' => e = .returned (.bool (decide (TT.bs s ∈ ks))) ∧ Below W.heap.size W w') :
  Calls Tryz.prog 64 #[.pointer (some ⟨D.r,0,none⟩),.slice a L.length cap,.map m] w fun e w' => Below w.heap.size w w' ∧ BoolP (clashT D rs ks L) e:=by
 have HT:=Hd hT
 have HM:=Hd hm
 have HR:=Hd hrow
 have HF:=Hd hr
 have HG:=Hd hG
 obtain ⟨nx,hnx⟩:=Vx D.t.ixs.length
 have HNX:=Hd hnx
 have hx8 : nx ≤ 1000:=by have:=hT.tr.ixs; omega
 clear hT hm hrow hr hG hnx
 go_enter Tryz.func64,Tryz.ntmps64
 go_wp2
 go_loopw [7] (fun q wr => ∃ (k : Nat) (i : Int),k ≤ nx + 1 ∧ i = (k : Int) - 1 ∧ q = .int .i64 i ∧ (∀ j,j < k → uniJ D.t j = true → ¬ ∃ c,clashJ D j rs ks L c) ∧ Below w.heap.size w wr) (fun q _ => nx + 1 - (intOf q + 1).toNat)
 case atStart => exact ⟨0,-1,Nat.zero_le _,rfl,rfl,fun i h => absurd h (Nat.not_lt_zero _),Bxr _ _⟩
 case round =>
  obtain ⟨k,i,hk,hi,rfl,hno,hb⟩:=hrel
  have HNO:=Hd hno
  have HB:=Hd hb
  have c4 : wr.cell? ⟨D.r,4,none⟩ = some (.slice D.px nx D.cx):=by rw [← HNX.out]; exact (HT.out.fix.now.later hb).cells 4 _ rfl
  have hwi : IntKind.i64.wrap (i + 1) = i + 1:=by rw [IntKind.wrap_i64] <;> omega
  have HI:=Hd hi
  clear hno hb
  by_cases hlt : k < nx + 1
  ·have hlti : i < (nx : Int):=by omega
   have HU:=Hd (unique_any wr D k i hi (HT.out.fix.now.later HB.out) (by have:=HNX.out; omega))
   have HCB:=Hd (clashBy_any (B:=B) (C:=C) wr D rs k i hi a cap L m ks (HT.out.later HB.out) (HM.out.later HB.out HM.out.le) (by have:=HNX.out; unfold TD.K; omega) (HR.out.later HB.out) HF.out hL fun W s hW hs => HG.out W s (HB.out.trans (hW.mono HB.out.size)) hs)
   obtain ⟨ub,hub⟩:=Vx (uniJ D.t k)
   have HUB:=Hd hub
   rw [hub] at HU
   clear hub hi
   cases ub with
   | false =>
    go_wp2_with (first | (go_at_call 112; refine HU.out.mono ?_; rintro e w2 ⟨rfl,hwe⟩; have hwe2:=hwe.symm; clear hwe; subst hwe2))
    go_roundw
    case rel =>
     refine ⟨k + 1,i + 1,by omega,by have:=HI.out; omega,rfl,fun j hj hu => ?_,HB.out⟩
     by_cases c : j = k
     ·subst c
      rw [HUB.out] at hu
      cases hu
     ·exact HNO.out j Om hu
    case measure =>
     show nx + 1 - (i + 1 + 1).toNat < nx + 1 - (i + 1).toNat
     have:=HI.out
     omega
   | true =>
    go_wp2_with (first
     | (go_at_call 112; refine HU.out.mono ?_; rintro e w2 ⟨rfl,hwe⟩; have hwe2:=hwe.symm; clear hwe; subst hwe2)
     | (go_at_call 113; refine HCB.out.mono ?_; rintro e w3 ⟨hb3,hx,rfl,hiff⟩; have HB3:=Hbt HB hb3; have HIF:=Hd hiff; clear hb3 hiff; cases hx))
    rotate_left
    ·go_ret
     exact ⟨HB3.out,true,rfl,fun _ => ⟨k,by have:=HNX.out; unfold TD.K; omega,HUB.out,HIF.out.1 (by first | rfl | trivial)⟩,fun _ => rfl⟩
    ·go_roundw
     case rel =>
      refine ⟨k + 1,i + 1,by omega,by have:=HI.out; omega,rfl,fun j hj hu => ?_,HB3.out⟩
      by_cases c : j = k
      ·subst c
       intro h
       exact absurd (HIF.out.2 h) Si
      ·exact HNO.out j Om hu
     case measure =>
      show nx + 1 - (i + 1 + 1).toNat < nx + 1 - (i + 1).toNat
      have:=HI.out
      omega
  ·have hlti : ¬ i < (nx : Int):=by omega
   clear hi
   go_wp2
   go_ret
   refine ⟨HB.out,false,rfl,?_⟩
   constructor
   ·intro h; cases h
   ·rintro ⟨j,h1,h2,h3⟩
    exact absurd h3 (HNO.out j (by have:=HNX.out; unfold TD.K at h1; omega) h2)
end
end Go.Proofs.YtmmmkjhpmlfopaaGreatDoor
