/- O12 O40 -/
import Derived.Test.YtmmmkjhpmlfopaaGreatDoorSB34
set_option maxHeartbeats 8000000
set_option maxRecDepth 100000
namespace Go.Proofs.YtmmmkjhpmlfopaaGreatDoor
open Go.RowKit
section
open Go.RowKit Go.Shelf BB
attribute [local go_sem] Oper.semAt_some
def putS (D : TD) (h n : Nat) (r : Row3) (rs : List Row3) : Nat → Nat → List Row3:=fun p j => if p = h ∧ j < n then putR D.t r rs else rs
theorem putS_at (D : TD) (h n : Nat) (r : Row3) (rs : List Row3) : putS D h n r rs h n = rs:=if_neg Om
theorem putS_next (D : TD) (h n : Nat) (r : Row3) (rs : List Row3) : updR (putS D h n r rs) h n (putR D.t r rs) = putS D h (n + 1) r rs:=by
 funext p j
 unfold updR putS
 by_cases c : p = h ∧ j = n
 ·rw [if_pos c,if_pos ⟨c.1,by omega⟩]
 ·rw [if_neg c]
  by_cases c2 : p = h ∧ j < n
  ·rw [if_pos c2,if_pos ⟨c2.1,by omega⟩]
  ·rw [if_neg c2,if_neg Om]
theorem putS_all {D : TD} {rs : List Row3} {r : Row3} (hn : ∀ q ∈ rs,nmR D.t q ≠ nmR D.t r) {p j : Nat} (hj : j < D.K) (k v : ByteArray) : SJ D.t D.P p j (putS D (homeR D.P D.t r) D.K r rs p j) k v ↔ SJ D.t D.P p j (putR D.t r rs) k v:=by
 unfold putS
 by_cases c : p = homeR D.P D.t r
 ·rw [if_pos ⟨c,hj⟩]
 ·rw [if_neg fun q => c q.1]
  exact (SJ_put_other hn c k v).symm
theorem put_new {w : World} {B : Nat} {Z : Nat → Prop} {D : TD} {R : Nat → Nat → List Row3} (h : Trs w B Z D R) (ht : TR D.t) {p j : Nat} (hp : p < D.P) (hj : j < D.K) (hk : TabOk D.t (R p j)) (hn : (R p j).length ≤ 4000000000) {r : Row3} (hf : fitR D.t r) (hh : homeR D.P D.t r = p) (hne : ∀ q ∈ R p j,nmR D.t q ≠ nmR D.t r) :
  Calls Tryz.prog 71 #[.pointer (some ⟨D.tp p j,0,none⟩),.string (skJ D.t j r),.string (vaJ D.t j r)] w fun e w' => e = .returned (.tuple #[.string ⟨#[]⟩,.bool false]) ∧ TurnP w B Z D (updR R p j (putR D.t r (R p j))) w':=by
 obtain ⟨⟨zp,h1,h2,h3⟩,h4⟩:=h
 obtain ⟨l,a,b⟩:=h3 p hp j hj
 have hji : j ≤ D.t.ixs.length:=Nat.le_of_lt_succ hj
 have hc:=b.count
 have hks:=skJ_short ht hji hf.right
 have hvs:=vaJ_short (j:=j) ht hf.right (hf.len ht).2
 have hnf : foundL (skJ D.t j r) l = false:=by
  cases c : foundL (skJ D.t j r) l with
  | false => rfl
  | true =>
   obtain ⟨v,q,hq,_,e,_⟩:=(b.found _).1 c
   exact absurd (skJ_inj hf.right (hk.right hq) e).symm (hne q hq)
 refine (put_z w B (zp p j) (D.tp p j) 32 (skJ D.t j r) (vaJ D.t j r) l a Om Om Om Om Om).mono ?_
 rintro e w' ⟨rfl,ho,z',ht',hz'⟩
 subst hh
 refine ⟨by rw [valL,hnf]; rfl,Trs.step h1 h2 h3 h4 hp hj ho ht' ((b.put (skJ D.t j r) (vaJ D.t j r)).congr fun k v => (SJ_put hk hf hne k v).symm) hz'⟩
theorem drop_then {B : Nat} {Z : Nat → Prop} {w w' : World} {D : TD} {rs : List Row3} {r : Row3} {e : Ending} (hT : Tab w B Z D rs) (hr : ∀ v ∈ r,V3.right v = true) (h : DropP D rs (pick3 r D.t.key) w B Z e w') : (∃ v,e = .returned v) ∧ Only Z w w' ∧ ∃ Z',Tab w' B Z' D (dropR D.t (nmR D.t r) rs) ∧ ∀ i,Z' i → Z i ∨ w.heap.size ≤ i:=by
 rcases h with ⟨q,hq,hk,v,Z',rfl,_,ho,ht,hz,_⟩ | ⟨hno,rfl,hb⟩
 ·have e : nmR D.t q = nmR D.t r:=by unfold nmR; rw [hk]
  rw [e] at ht
  exact ⟨⟨_,rfl⟩,ho,Z',ht,hz⟩
 ·refine ⟨⟨_,rfl⟩,Only.of hb,Z,?_,fun _ h => Or.inl h⟩
  rw [dropR_none fun q hq e => hno q hq (nmR_inj (hT.ok.right hq) hr e)]
  exact hT.later hb
def PutP (D : TD) (rs : List Row3) (r : Row3) (w : World) (B : Nat) (Z : Nat → Prop) (e : Ending) (w' : World) : Prop :=
 ∃ v Z',e = .returned v ∧ w'.ownsRow w.heap.size 73 3 v D.t.key.length (vc (pick3 r D.t.key)) ∧ Only Z w w' ∧ Tab w' B Z' D (putR D.t r rs) ∧ (∀ i,Z' i → Z i ∨ w.heap.size ≤ i) ∧ ∀ g,v.ownBlock = some g → ¬ Z' g
theorem put_any {B C : Nat} {Z : Nat → Prop} (w : World) (D : TD) (rs : List Row3) (a : Option Addr) (cap : Nat) (r : Row3) (hT : Tab w B Z D rs) (hm : Env w C) (hCB : C ≤ B) (hrow : ∀ W,Only Z w W → Row W a r) (hf : fitR D.t r) (hn : rs.length + 1 ≤ 3000000000) :
  Calls Tryz.prog 37 #[.pointer (some ⟨D.r,0,none⟩),.slice a r.length cap] w (PutP D rs r w B Z):=by
 have HT:=Hd hT
 have HM:=Hd hm
 have HR:=Hd hrow
 have HF:=Hd hf
 have HN:=Hd hn
 have HCB:=Hd hCB
 obtain ⟨W0,hW0⟩:=Vx ((w.alloc (Obj.cells #[.pointer (some ⟨D.r,0,none⟩)] 91)).alloc (Obj.cells #[.slice a r.length cap] 26))
 have hb0 : Below w.heap.size w W0:=by rw [← hW0]; exact ((Bxr _ w).alloc Zlr _).alloc Si _
 have k2 : W0.heap[w.heap.size]? = some (.cells #[.pointer (some ⟨D.r,0,none⟩)] 91 (0,0)):=by
  rw [← hW0]
  exact (Below.heap_alloc _ _ _ Si).trans (heap_alloc_new w _)
 have k3 : W0.heap[w.heap.size + 1]? = some (.cells #[.slice a r.length cap] 26 (0,0)):=by
  rw [← hW0]
  have:=heap_alloc_new (w.alloc (Obj.cells #[.pointer (some ⟨D.r,0,none⟩)] 91)) (Obj.cells #[.slice a r.length cap] 26)
  rwa [World.size_alloc] at this
 have c2 : W0.cell? ⟨w.heap.size,0,none⟩ = some (.pointer (some ⟨D.r,0,none⟩)):=cell_blk k2 rfl
 have c3 : W0.cell? ⟨w.heap.size + 1,0,none⟩ = some (.slice a r.length cap):=cell_blk k3 rfl
 have HKO:=Hd (keyOf_any W0 D a cap r (hT.fix.now.later hb0) hT.tr (hrow W0 (Only.of hb0)) hf.1)
 have HB0:=Hd hb0
 have K2:=Hd k2
 have K3:=Hd k3
 obtain ⟨kl,hkl⟩:=Vx D.t.key.length
 have HKL:=Hd hkl
 clear hT hm hrow hf hn hCB hb0 k2 k3 hkl
 refine (callsIn_wide (n:=8)).1 ?_
 refine callsIn_of_wp_marks Tryz.func37 rfl trivial ?_ rfl
 simp only [Tryz.ntmps37,List.size_toArray,List.length_cons,List.length_nil,Nat.reduceAdd,Nat.reduceSub,Array.replicate_succ,Array.replicate_zero,List.push_toArray,List.append_toArray,List.nil_append,List.cons_append]
 gi_wp2_with fail
 refine ⟨trivial,?_⟩
 refine (callsIn_wide.2 HKO.out).mono ?_
 rintro e w1 ⟨hb1,v,rfl,ho⟩
 rw [HKL.out] at ho
 obtain ⟨pv,cv,rfl⟩:=ownF ho
 have hb1w : Below w.heap.size w w1:=HB0.out.trans (hb1.mono HB0.out.size)
 have HB1:=Hd hb1w
 have HO:=Hd ho
 have k2:=heap_of K2.out hb1
 have k3:=heap_of K3.out hb1
 have HRK : Hid (∀ W,Only Z w1 W → Row W pv (pick3 r D.t.key)):=Hd fun W hW => by
  have ow : W.ownsRow W0.heap.size 73 3 (.slice pv kl cv) kl (vc (pick3 r D.t.key)):=own_kept HO.out fun g hg => hW.block g (HO.out.lt g hg).2 fun q => by
   have h1:=(HO.out.lt g hg).1
   have h2:=(HT.out.trs.lo g q).2
   have:=HB0.out.size
   omega
  obtain ⟨p2,c2,e,hrw⟩:=Row.of_own ow
  simp only [Value.slice.injEq] at e
  obtain ⟨rfl,-,-⟩:=e
  exact hrw
 have HD:=Hd (drop_any (B:=B) (C:=C) w1 D rs pv cv (pick3 r D.t.key) (HT.out.later hb1w) (HM.out.later hb1w HM.out.le) HCB.out HRK.out (by rw [pick3_length]; have:=HT.out.tr.key; omega))
 rw [show (pick3 r D.t.key).length = kl from (pick3_length _ _).trans HKL.out] at HD
 have d2 : w1.cell? ⟨w.heap.size,0,none⟩ = some (.pointer (some ⟨D.r,0,none⟩)):=cell_blk k2 rfl
 have d3 : w1.cell? ⟨w.heap.size + 1,0,none⟩ = some (.slice a r.length cap):=cell_blk k3 rfl
 have K21:=Hd k2
 have K31:=Hd k3
 clear hb1w k2 k3 ho hb1 c2 c3
 gi_wp2_with fail
 refine ⟨trivial,?_⟩
 refine (callsIn_wide.2 HD.out).mono ?_
 intro e w2 hq
 obtain ⟨⟨vx,rfl⟩,ho2,Z2,hT2,hz2⟩:=drop_then (HT.out.later HB1.out) HF.out.right hq
 have HT2:=Hd hT2
 have HO2:=Hd ho2
 have HZ2:=Hd hz2
 have HOW : Hid (Only Z w w2):=Hd (only_two (Only.of HB1.out) ho2 fun _ h => Or.inl h)
 have hnz : ∀ k,w.heap.size ≤ k → k < w1.heap.size → ¬ Z k:=fun k h1 _ q => by have:=(HT.out.trs.lo k q).2; omega
 have l2:=(Gx K21.out)
 have l3:=(Gx K31.out)
 have k2:=(ho2.block _ l2 (hnz _ Zlr l2)).trans K21.out
 have k3:=(ho2.block _ l3 (hnz _ (Nat.le_succ _) l3)).trans K31.out
 have HK2:=Hd k2
 have HK3:=Hd k3
 have HM2:=Hd (HM.out.only HOW.out HCB.out HT.out.trs.lo)
 have HRK2:=Hd (HRK.out w2 ho2)
 have HE:=Hd (encode_any9 w2 pv cv (pick3 r D.t.key) HRK2.out (pick3_right HF.out.right _) (by rw [pick3_length]; exact HT.out.tr.key.2.1) HM2.out)
 rw [show (pick3 r D.t.key).length = kl from (pick3_length _ _).trans HKL.out] at HE
 have d2 : w2.cell? ⟨w.heap.size,0,none⟩ = some (.pointer (some ⟨D.r,0,none⟩)):=cell_blk k2 rfl
 have d3 : w2.cell? ⟨w.heap.size + 1,0,none⟩ = some (.slice a r.length cap):=cell_blk k3 rfl
 clear hq ho2 hT2 hz2 hnz l2 l3 k2 k3
 gi_wp2_with fail
 refine ⟨trivial,?_⟩
 refine (callsIn_wide.2 HE.out).mono ?_
 rintro e w3 ⟨rfl,hb3⟩
 obtain ⟨s,hs⟩:=Vx (kE (pick3 r D.t.key))
 have HS : Hid (nmR D.t r = s):=hs
 rw [hs]
 obtain ⟨V,hV⟩:=Vx (w3.alloc (Obj.cells #[.string s] 9))
 have hbV3 : Below w3.heap.size w3 V:=by rw [← hV]; exact (Bxr _ _).alloc Zlr _
 have hbV : Below w2.heap.size w2 V:=hb3.trans (hbV3.mono hb3.size)
 have k6 : V.heap[w3.heap.size]? = some (.cells #[.string s] 9 (0,0)):=by rw [← hV]; exact heap_alloc_new w3 _
 have k2:=heap_of HK2.out hbV
 have k3:=heap_of HK3.out hbV
 have d2 : V.cell? ⟨w.heap.size,0,none⟩ = some (.pointer (some ⟨D.r,0,none⟩)):=cell_blk k2 rfl
 have d3 : V.cell? ⟨w.heap.size + 1,0,none⟩ = some (.slice a r.length cap):=cell_blk k3 rfl
 have HE2:=Hd (RR.enc_any a cap r V (by have:=HF.out.len HT.out.tr; omega) (HR.out V (HOW.out.later hbV)))
 have hwr : RR.wrR r = (RR.rowB r,0):=RR.wrR_ok (by have:=HF.out.len HT.out.tr; omega) fun i hi => HF.out.right _ (List.getElem_mem hi)
 have HWR:=Hd hwr
 have HBV:=Hd hbV
 have HK6:=Hd k6
 have HK6V:=Hd k6
 have HK2V:=Hd k2
 have HK3V:=Hd k3
 have HM6 : Hid (w2.heap.size ≤ w3.heap.size ∧ w.heap.size + 1 < w3.heap.size):=Hd ⟨hb3.size,Zll (Gx HK3.out) hb3.size⟩
 obtain ⟨M6,hM6⟩:=Vx w3.heap.size
 rw [hM6] at HK6 HM6 HK6V
 clear hs hbV3 hbV k6 k2 k3 hwr hb3
 gi_wp2_with fail
 refine ⟨trivial,?_⟩
 refine (callsIn_wide.2 HE2.out).mono ?_
 rintro e w4 ⟨rfl,hb4⟩
 unfold RR.wrV
 rw [HWR.out]
 obtain ⟨b,hb⟩ : ∃ b : ByteArray,(⟨(RR.rowB r).toArray⟩ : ByteArray) = b:=⟨_,rfl⟩
 have HBY : Hid (rE r = b):=hb
 dsimp only
 rw [hb]
 obtain ⟨V2,hV2⟩:=Vx (w4.alloc (Obj.cells #[.string b] 9))
 have hbV4 : Below w4.heap.size w4 V2:=by rw [← hV2]; exact (Bxr _ _).alloc Zlr _
 have hbV2 : Below V.heap.size V V2:=hb4.trans (hbV4.mono hb4.size)
 have hb2 : Below w2.heap.size w2 V2:=HBV.out.trans (hbV2.mono HBV.out.size)
 have k7 : V2.heap[w4.heap.size]? = some (.cells #[.string b] 9 (0,0)):=by rw [← hV2]; exact heap_alloc_new w4 _
 have k2:=heap_of HK2V.out hbV2
 have k3:=heap_of HK3V.out hbV2
 have k6:=heap_of HK6.out hbV2
 have fV:=HT2.out.fix.now.later hb2
 have e2 : V2.cell? ⟨D.r,2,none⟩ = some (.slice D.pk D.t.key.length D.ck):=fV.cells 2 _ rfl
 have d2 : V2.cell? ⟨w.heap.size,0,none⟩ = some (.pointer (some ⟨D.r,0,none⟩)):=cell_blk k2 rfl
 have hrk:=HRK.out V2 (HO2.out.later hb2)
 have hAM:=asked_am V2 D D.pk D.t.key D.ck pv (pick3 r D.t.key) cv fV fV.key hrk
 rw [show (pick3 r D.t.key).length = kl from (pick3_length _ _).trans HKL.out] at hAM
 have HAM:=Hd hAM
 have HB2:=Hd hb2
 have HK2:=Hd k2
 have HK3:=Hd k3
 have HK6:=Hd k6
 have HK7:=Hd k7
 have HM7 : Hid (M6 < w4.heap.size):=Hd (Zll (Gx HK6V.out) hb4.size)
 have hmx : Tryz.prog.follows .mixedOrders = true:=by kernel_rfl
 obtain ⟨M7,hM7⟩:=Vx w4.heap.size
 rw [hM7] at HK7 HM7
 clear hb hbV4 hbV2 hb2 k7 k2 k3 k6 fV hrk hAM hb4 d3 hV hM6
 gi_wp2
 apply wpIn_once
 case h =>
  gi_region_with_o (refine ⟨trivial,?_⟩; gi_at_call 65; refine (callsIn_wide.2 (asked_any _ D D.pk pv D.t.key.length D.ck kl cv)).mono ?_; rintro e w2 ⟨rfl,rfl⟩)
  all_goals exact ⟨rfl,rfl⟩
 case k =>
  gi_wp2
  obtain ⟨W1,hW1⟩:=Vx ((((V2.alloc (Obj.cells #[.pointer (some ⟨D.r,0,none⟩)] 91)).alloc (Obj.cells #[.slice D.pk D.t.key.length D.ck] 44)).alloc (Obj.cells #[.slice pv kl cv] 26)).drew)
  have hbW1 : Below V2.heap.size V2 W1:=by rw [← hW1]; exact ((((Bxr _ V2).alloc Zlr _).alloc Si _).alloc (by simp; omega) _).drew
  have hAM2 : AM W1 D (V2.heap.size + 1) V2.heap.size (V2.heap.size + 1 + 1) D.pk D.t.key D.ck pv (pick3 r D.t.key) cv:=by
   rw [← hW1]
   exact HAM.out.later (Bxr _ _).drew
  rw [hW1]
  have hbw : Below w2.heap.size w2 W1:=HB2.out.trans (hbW1.mono HB2.out.size)
  have HBW:=Hd hbw
  have HA2:=Hd hAM2
  have HMW:=Hd (HM2.out.later hbw HM2.out.le)
  have HK61:=Hd (heap_of HK6.out hbW1)
  have HK71:=Hd (heap_of HK7.out hbW1)
  have HVS : Hid (w2.heap.size ≤ V2.heap.size):=Hd HB2.out.size
  have HZL : Hid (∀ k,Z2 k → k < w2.heap.size):=Hd fun k hk => (HT2.out.trs.lo k hk).2
  have hlr : ∀ v ∈ pick3 r D.t.key,V3.right v = true:=pick3_right HF.out.right _
  have HASK : Hid (askL D D.t.key (pick3 r D.t.key) = [homeR D.P D.t r]):=Hd (ask_home HT2.out.tr.part)
  have HRZ : Hid (∀ W,Only Z2 w2 W → Row W pv (pick3 r D.t.key)):=Hd fun W hW => HRK.out W (only_two HO2.out hW HZ2.out)
  have HRR : Hid (∀ W,Only Z2 w2 W → Row W a r):=Hd fun W hW => HR.out W (only_two HOW.out hW fun i hi => (HZ2.out i hi).imp id fun q => Zlt HB1.out.size q)
  have HL2 : Hid (∀ W,Only Z2 w2 W → W.heap[w.heap.size]? = some (.cells #[.pointer (some ⟨D.r,0,none⟩)] 91 (0,0)) ∧ W.heap[w.heap.size + 1]? = some (.cells #[.slice a r.length cap] 26 (0,0))):=Hd fun W hW => by
   have hnz : ∀ k,w.heap.size ≤ k → k < w1.heap.size → ¬ Z2 k:=fun k h1 h2 q => (HZ2.out k q).elim (fun q => by have:=(HT.out.trs.lo k q).2; omega) Om
   have l2:=(Gx K21.out)
   have l3:=(Gx K31.out)
   have q2:=(HO2.out.block _ l2 fun q => by have:=(HT.out.trs.lo _ q).2; omega).trans K21.out
   have q3:=(HO2.out.block _ l3 fun q => by have:=(HT.out.trs.lo _ q).2; omega).trans K31.out
   exact ⟨(hW.block _ (Gx q2) (hnz _ Zlr l2)).trans q2,(hW.block _ (Gx q3) (hnz _ (Nat.le_succ _) l3)).trans q3⟩
  generalize V2.heap.size = N at HA2 HVS hAM2 ⊢
  clear hM7 hW1 hbW1 hbw hAM2 e2 d2 hV2
  refine wpIn_rangeB rfl Om (gf:=114) (lb:=#[.pointer (some ⟨N + 1,0,none⟩),.pointer (some ⟨N,0,none⟩),.pointer (some ⟨N + 1 + 1,0,none⟩)]) rfl trivial (enters_of Tryz.func114 Kr rfl)
   (asked_seq (B:=C) _ D (N + 1) N (N + 1 + 1) D.pk D.t.key D.ck pv (pick3 r D.t.key) cv HT2.out.parts (by have:=HT2.out.tr.key; omega) hlr W1 HMW.out HA2.out)
   KpP.trans
   (fun W l o o' hl ho hc => ⟨fun h => h.grows (Grows.put ho hc o'),fun h => h.grows (Grows.put ho hc o') (by simp [World.putObj])⟩)
   (Bxr _ _) (fun _ => rfl)
   (fun pre W => (pre = [] ∧ Below w2.heap.size w2 W ∧ W1.heap.size ≤ W.heap.size ∧ ∀ k,w2.heap.size ≤ k → k < W1.heap.size → W.heap[k]? = W1.heap[k]?) ∨ (pre = [homeR D.P D.t r] ∧ Tid w2 W1 B Z2 D (putS D (homeR D.P D.t r) D.K r (dropR D.t (nmR D.t r) rs)) W))
   (fun _ _ _ => False)
   (fun pre W W' row h hg hr => h.imp (fun q => ⟨q.1,below_own q.2.1 hg hr HBW.out.size q.2.1.size,Zlt q.2.2.1 hg.size,fun k hk hl => (hg.block k (Zll hl q.2.2.1) fun e => by have:=(hr k e.symm).1; omega).trans (q.2.2.2 k hk hl)⟩) fun q => ⟨q.1,q.2.other hg hr HBW.out.size⟩)
   (fun _ _ _ _ _ hs _ _ => hs)
   (fun pre W W' h hb => h.imp (fun q => ⟨q.1,q.2.1.trans (hb.mono q.2.1.size),Zlt q.2.2.1 hb.size,fun k hk hl => (hb.block k (Zll hl q.2.2.1)).trans (q.2.2.2 k hk hl)⟩) fun q => ⟨q.1,q.2.later hb⟩)
   (Or.inl ⟨rfl,HBW.out,Nat.le_refl _,fun _ _ _ => rfl⟩)
   (fun x a' W => a' = { tmps:=#[.pointer (some ⟨D.r,0,none⟩),.slice a r.length cap,.pointer (some ⟨w.heap.size,0,none⟩),.pointer (some ⟨w.heap.size + 1,0,none⟩),.slice none 0 0,.slice pv kl cv,.pointer (some ⟨M6,0,none⟩),.pointer (some ⟨M7,0,none⟩),.int .i64 0,D.pv x,undef,undef,undef,.pointer (some ⟨D.r,0,none⟩),.slice a r.length cap,.slice pv kl cv,.pointer (some ⟨D.r,0,none⟩),.slice pv kl cv,vx,.slice pv kl cv,.string s,.tuple #[.string b,.int .i64 0],.slice a r.length cap,.tuple #[.string b,.int .i64 0],.string b,.int .i64 0,.pointer (some ⟨D.r,0,none⟩),.pointer (some ⟨D.r,0,none⟩),.pointer (some ⟨D.r,0,none⟩),.pointer (some ⟨D.r,0,none⟩),.pointer (some ⟨D.r,2,none⟩),.slice D.pk D.t.key.length D.ck,.slice pv kl cv,.func (.func 114) #[] #[.pointer (some ⟨N + 1,0,none⟩),.pointer (some ⟨N,0,none⟩),.pointer (some ⟨N + 1 + 1,0,none⟩)],D.pv x,undef,undef,undef,undef,undef,undef,undef,undef,undef,undef,undef,undef,undef,undef,undef,undef,undef,undef,undef,undef,undef,undef,undef,undef,undef,undef,undef,undef,undef,undef],defers:=[] })
   (fun x a' _ X Y row hs _ _ => hs)
   ?assign ?body ?done ?stop
  case assign =>
   rintro l2 pre x W K hi hV hK
   have HI:=Hd hi
   clear hi
   unfold encP
   gi_wp2
   exact hK _ _ (KeepsFrom.refl _ _) ⟨fun h => h,fun h => h⟩ HI.out rfl
  case body =>
   rintro l2 pre x a' W hi rfl hV
   obtain ⟨rest,hr⟩:=hV
   rw [HASK.out] at hr
   obtain ⟨hpre,hx⟩:=one_only hr
   subst hpre
   obtain ⟨-,hbwW,hsW,hkW⟩ | ⟨hp,-⟩:=hi
   rotate_left
   ·cases hp
   obtain ⟨h,hh⟩:=Vx (homeR D.P D.t r)
   have HH:=Hd hh
   rw [hh] at hx ⊢
   subst hx
   have hhP : x < D.P:=by rw [← hh]; exact homeR_lt HT2.out.parts.1 _ _
   have HHP:=Hd hhP
   have HKW:=Hd (Zai hsW hkW)
   have HWW : Hid (w2.heap.size ≤ W.heap.size):=Hd hbwW.size
   have HK6W:=Hd ((hkW M6 HM6.out.1 (Gx HK61.out)).trans HK61.out)
   have HK7W:=Hd ((hkW M7 (by have:=HM6.out; have:=HM7.out; omega) (Gx HK71.out)).trans HK71.out)
   obtain ⟨rs',hrs⟩ : ∃ rs',dropR D.t (nmR D.t r) rs = rs':=⟨_,rfl⟩
   have HRS : Hid (∀ q ∈ rs',nmR D.t q ≠ nmR D.t r):=Hd fun q hq => by rw [← hrs] at hq; exact (mem_dropR.1 hq).2
   rw [hrs] at HT2 ⊢
   have hs0 : Tid w2 W B Z2 D (putS D x 0 r rs') W:=⟨Only.of hbwW,Nat.le_refl _,fun _ _ _ => rfl,Z2,(HT2.out.trs.later hbwW).congr fun p _ j _ k v => by rw [putS,if_neg Om],fun k hk => Or.inl hk⟩
   have HS0:=Hd hs0
   have hmx : Tryz.prog.follows .mixedOrders = true:=by kernel_rfl
   have HKK : Hid (D.K = D.t.ixs.length + 1 ∧ D.t.ixs.length ≤ 4):=Hd ⟨rfl,HT2.out.tr.ixs⟩
   have HPT : Hid (∀ (n : Nat) (wr W' : World),Tid w2 W B Z2 D (putS D x n r rs') wr → Below wr.heap.size wr W' → n < D.K → Calls Tryz.prog 71 #[.pointer (some ⟨D.tp x n,0,none⟩),.string (skJ D.t n r),.string (vaJ D.t n r)] W' fun e w' => e = .returned (.tuple #[.string ⟨#[]⟩,.bool false]) ∧ Tid w2 W B Z2 D (putS D x (n + 1) r rs') w'):=Hd fun n wr W' hI hb hn => by
    have hI2:=hI.later hb
    obtain ⟨Zc,h1,h2⟩:=hI2.trs
    have hd:=put_new h1 HT2.out.tr HHP.out hn (by rw [putS_at]; exact HT2.out.ok) (by rw [putS_at]; have:=HT2.out.cnt; omega) HF.out HH.out (by rw [putS_at]; exact HRS.out)
    rw [putS_at] at hd
    refine hd.mono fun e w' hq => ⟨hq.1,hI2.turn h2 HZL.out HWW.out ?_⟩
    rw [← putS_next]
    exact hq.2
   have f6 : W.cell? ⟨M6,0,none⟩ = some (.string s):=cell_blk HK6W.out rfl
   have f7 : W.cell? ⟨M7,0,none⟩ = some (.string b):=cell_blk HK7W.out rfl
   have HTR0:=Hd fun (W' : World) (hb : Below W.heap.size W W') => tree0_any W' D x (HT2.out.fix.now.later (hbwW.trans (hb.mono hbwW.size))) HHP.out HT2.out.tr
   have HP0 : Hid (∀ W',Below W.heap.size W W' → Calls Tryz.prog 71 #[.pointer (some ⟨D.tp x 0,0,none⟩),.string s,.string b] W' fun e w' => e = .returned (.tuple #[.string ⟨#[]⟩,.bool false]) ∧ Tid w2 W B Z2 D (putS D x 1 r rs') w'):=Hd fun W' hb => by
    have:=HPT.out 0 W W' HS0.out hb (Nat.succ_pos _)
    rw [show skJ D.t 0 r = s from HS.out,show vaJ D.t 0 r = b from HBY.out] at this
    exact this
   clear hr hh hhP hbwW hsW hkW hs0 hrs
   unfold TD.pv
   gi_wp2
   apply wpIn_via (fun w4 => Tid w2 W B Z2 D (putS D x 1 r rs') w4)
   case h =>
    gi_region_with_o (first
     | (refine ⟨trivial,?_⟩; gi_at_call 66; refine (CallsIn.inRound l2 (callsIn_wide.2 (HTR0.out _ Bz))).mono ?_; rintro e w' ⟨rfl,rfl⟩)
     | (refine ⟨trivial,?_⟩; gi_at_call 71; refine (CallsIn.inRound l2 (callsIn_wide.2 (HP0.out _ Bz))).mono ?_; rintro e w4 ⟨rfl,hI4⟩))
    all_goals exact ⟨w4,by assumption,rfl,rfl⟩
   case k =>
    intro w4 hI4
    have HI4:=Hd hI4
    have e2 : w4.cell? ⟨w.heap.size,0,none⟩ = some (.pointer (some ⟨D.r,0,none⟩)):=cell_blk (HL2.out w4 hI4.only).1 rfl
    have e4 : w4.cell? ⟨D.r,4,none⟩ = some (.slice D.px D.t.ixs.length D.cx):=(HT2.out.fix w4 hI4.only).cells 4 _ rfl
    obtain ⟨ixn,hixn⟩:=Vx D.t.ixs.length
    have HIX:=Hd hixn
    rw [hixn] at e4
    clear hI4 hixn f6 f7
    gi_wp2
    gi_loopw [46] (fun i wr => ∃ n : Nat,n ≤ ixn ∧ i = .int .i64 (n : Int) ∧ Tid w2 W B Z2 D (putS D x (n + 1) r rs') wr) (fun i _ => ixn - (intOf i).toNat)
    case atStart => exact ⟨0,Nat.zero_le _,rfl,HI4.out⟩
    case round =>
     obtain ⟨n,hn,rfl,hI⟩:=hrel
     have HI:=Hd hI
     have e2 : wr.cell? ⟨w.heap.size,0,none⟩ = some (.pointer (some ⟨D.r,0,none⟩)):=cell_blk (HL2.out wr hI.only).1 rfl
     have e3 : wr.cell? ⟨w.heap.size + 1,0,none⟩ = some (.slice a r.length cap):=cell_blk (HL2.out wr hI.only).2 rfl
     have e6 : wr.cell? ⟨M6,0,none⟩ = some (.string s):=cell_blk (hI.block HM6.out.1 HK6W.out) rfl
     have HFW:=Hd (HT2.out.fix wr hI.only)
     have HN2:=Hd hn
     clear hI
     by_cases hlt : n < ixn
     ·have hlti : (n : Int) < (ixn : Int):=by omega
      have HLT:=Hd hlt
      have hwn : IntKind.i64.wrap ((n : Int) + 1) = (n : Int) + 1:=by have:=HKK.out.2; have:=HIX.out; rw [IntKind.wrap_i64] <;> omega
      have hnK : n + 1 < D.K:=by have:=HKK.out.1; have:=HIX.out; omega
      have HNK:=Hd hnK
      have HTR : Hid (∀ W',Below wr.heap.size wr W' → Calls Tryz.prog 66 #[.slice (some ⟨D.bs x,0,none⟩) D.K (D.cq x),.int .i64 (n : Int)] W' fun e w' => e = .returned (.pointer (some ⟨D.tp x (n + 1),0,none⟩)) ∧ w' = W'):=Hd fun W' hb => tree_any W' D x (n + 1) (n : Int) Om HNK.out (by have:=HKK.out; omega) ((HFW.out.later hb).trees x HHP.out (n + 1) HNK.out)
      have HSK : Hid (∀ W',Below wr.heap.size wr W' → Calls Tryz.prog 61 #[.pointer (some ⟨D.r,0,none⟩),.int .i64 (n : Int),.slice a r.length cap] W' fun e w' => e = .returned (.string (skJ D.t (n + 1) r)) ∧ Below W'.heap.size W' w'):=Hd fun W' hb => sortKey_any (B:=C) W' D (n + 1) (n : Int) Om a cap r (HFW.out.later hb) HT2.out.tr (by have:=HKK.out; have:=HNK.out; omega) (HRR.out W' (HI.out.only.later hb)) HF.out ((HM2.out.only HI.out.only HCB.out HT2.out.trs.lo).later hb (Zlt HM2.out.le HI.out.only.size))
      have HDL : Hid (∀ W',Below wr.heap.size wr W' → Calls Tryz.prog 71 #[.pointer (some ⟨D.tp x (n + 1),0,none⟩),.string (skJ D.t (n + 1) r),.string s] W' fun e w' => (∃ v,e = .returned v) ∧ Tid w2 W B Z2 D (putS D x (n + 1 + 1) r rs') w'):=Hd fun W' hb => by
       have:=HPT.out (n + 1) wr W' HI.out hb HNK.out
       rw [show vaJ D.t (n + 1) r = s from HS.out] at this
       exact this.mono fun e w' hq => ⟨⟨_,hq.1⟩,hq.2⟩
      clear hlt hnK hn
      gi_wp2
      have hS : wr.drew.cell? ⟨w.heap.size,0,none⟩ = some (.pointer (some ⟨D.r,0,none⟩)) ∧ wr.drew.cell? ⟨w.heap.size + 1,0,none⟩ = some (.slice a r.length cap) ∧ wr.drew.cell? ⟨M6,0,none⟩ = some (.string s):=⟨e2,e3,e6⟩
      refine held_round (fun W' => W'.cell? ⟨w.heap.size,0,none⟩ = some (.pointer (some ⟨D.r,0,none⟩)) ∧ W'.cell? ⟨w.heap.size + 1,0,none⟩ = some (.slice a r.length cap) ∧ W'.cell? ⟨M6,0,none⟩ = some (.string s)) l2 Kr hmx (fun ⟨_,_,h⟩ => by cases h) ?_
      refine held_take 0 rfl Kr (fun _ _ _ h => h) hS (by intro w h; go_simp; all_goals with_reducible rfl) ?_
      refine held_take 1 rfl Kr (fun _ _ _ h => h) hS (by intro w h; go_simp; all_goals with_reducible rfl) ?_
      refine held_take 4 rfl Kr (fun _ _ _ h => h) hS (by intro w h; go_simp; all_goals with_reducible rfl) ?_
      refine held_take 3 rfl Kr (fun _ _ _ h => h) hS (by intro w h; go_simp; all_goals with_reducible rfl) ?_
      refine held_take 5 rfl Kr (fun _ _ _ h => h) hS (by intro w h; go_simp; all_goals with_reducible rfl) ?_
      refine held_take 7 rfl Kr (fun _ _ _ h => h) hS (by intro w h; go_simp; all_goals with_reducible rfl) ?_
      refine held_one 2 rfl Kr Kr fun K hK => ?_
      go_simp
      go_at_call 66
      refine (HTR.out _ (Bxr _ _).drew).mono ?_
      rintro e w' ⟨rfl,rfl⟩
      refine hK _ _ hS ?_
      clear hK K
      refine held_one 6 rfl Kr Kr fun K hK => ?_
      go_simp
      go_at_call 61
      refine (HSK.out _ (Bxr _ _).drew).mono ?_
      rintro e w6 ⟨rfl,hb6⟩
      refine hK _ _ ⟨cell_later hb6 hS.1,cell_later hb6 hS.2.1,cell_later hb6 hS.2.2⟩ ?_
      clear hK K
      refine held_one 8 rfl Kr Kr fun K hK => ?_
      go_simp
      go_at_call 71
      have hd : Below wr.heap.size wr wr.drew:=(Bxr _ _).drew
      refine (HDL.out _ (hd.trans (hb6.mono hd.size))).mono ?_
      rintro e w7 ⟨⟨v7,rfl⟩,hI7⟩
      have HI7:=Hd hI7
      refine hK _ _ ⟨cell_blk (HL2.out w7 hI7.only).1 rfl,cell_blk (HL2.out w7 hI7.only).2 rfl,cell_blk (hI7.block HM6.out.1 HK6W.out) rfl⟩ ?_
      clear hI7 hd hb6 hS hK K
      refine wpAnyH_done Kr ?_ _
      gi_wp2
      go_roundw
      case rel => exact ⟨n + 1,HLT.out,by go_num,HI7.out⟩
      case measure => have:=HLT.out; simp [intOf]; omega
     ·have hlti : ¬ (n : Int) < (ixn : Int):=by omega
      have hnx : n = ixn:=by omega
      have HNX:=Hd hnx
      clear hlt hnx hn
      gi_wp2
      have hI:=HI.out
      rw [HNX.out,show ixn + 1 = D.K by have:=HKK.out.1; have:=HIX.out; omega] at hI
      exact ⟨hI.keeps HBW.out.size,⟨fun hA => hI.am HT2.out.fix (by have:=HVS.out; omega) HVS.out (by have:=HVS.out; omega) hA HRZ.out,fun _ => HM2.out.only hI.only HCB.out HT2.out.trs.lo⟩,Or.inr ⟨rfl,hI.weaken HKW.out.1 HKW.out.2⟩⟩
  case done =>
   rintro D2 xs W hD hS hi hK
   rw [HASK.out] at hS
   obtain ⟨hp,-⟩ | ⟨-,hI⟩:=hi
   ·rw [hS] at hp
    cases hp
   have e6 : W.cell? ⟨M6,0,none⟩ = some (.string s):=cell_blk (hI.block HM6.out.1 HK61.out) rfl
   have HI:=Hd hI
   have HD:=Hd hD
   have hkr : KeyOf s.data.toList (pick3 r D.t.key):=⟨by rw [pick3_length]; exact HT.out.tr.key.2.1,pick3_right HF.out.right _,by rw [← HS.out]; simp [nmR,kE]⟩
   have HDC:=Hd (KK.dec_any s W (by have:=kE_short (pick3_right HF.out.right D.t.key) (by rw [pick3_length]; have:=HT.out.tr.key.2.1; omega); rw [← HS.out]; unfold nmR; omega))
   have HKR:=Hd (decR_ok hkr)
   clear hI hS hD hkr
   gi_wp2_with fail
   refine ⟨trivial,?_⟩
   refine (callsIn_wide.2 HDC.out).mono ?_
   rintro e W5 ⟨v,rfl,ho,hb5⟩
   rw [HKR.out] at ho ⊢
   dsimp only at ho ⊢
   have HO5:=Hd ho
   have HB5:=Hd hb5
   obtain ⟨pw,cw,rfl⟩:=ownF ho
   clear ho hb5
   gi_wp2
   have hK5:=heap_of hK HB5.out
   refine ⟨by simp,.inl ⟨_,_,rfl,run_takeDeferred hK5,?_⟩⟩
   refine ⟨.slice pw (pick3 r D.t.key).length cw,by simp [results,Tryz.results37,go_sem],?_⟩
   have hU:=(HI.out.later HB5.out).other (grownBy_putObj' W5 D2 (.deferred none)) (fun q e => by cases e; exact ⟨HD.out,_,hK5,rfl⟩) HBW.out.size
   obtain ⟨Zc,h1,h2⟩:=HI.out.trs
   have hbU : W5.grownBy (W5.putObj D2 (.deferred none)) (some D2):=grownBy_putObj' W5 D2 (.deferred none)
   have h1U : Trs (W5.putObj D2 (.deferred none)) B Zc D _:=trs_other (h1.later HB5.out) hbU fun q e => by cases e; exact ⟨_,hK5,rfl⟩
   have hzw : ∀ k,Zc k → Z k ∨ w.heap.size ≤ k:=fun k hk => (h2 k hk).elim (fun q => (HZ2.out k q).imp id fun q => Zlt HB1.out.size q) fun q => Or.inr (Zlt HOW.out.size (Zlt HBW.out.size q))
   have hoU : Only Z w (W5.putObj D2 (.deferred none)):=only_two HOW.out hU.only fun i hi => (HZ2.out i hi).imp id fun q => Zlt HB1.out.size q
   refine ⟨_,Zc,rfl,?_,hoU,⟨?_,?_,HT.out.ok.put HF.out,HT.out.tr,HT.out.parts,?_⟩,hzw,fun g hg hz => ?_⟩
   ·rw [show D.t.key.length = (pick3 r D.t.key).length from (pick3_length _ _).symm]
    exact own_mono9 (row_own HO5.out hbU (B:=W1.heap.size) fun q e => by cases e; exact ⟨HD.out,_,hK5,rfl⟩) (Zlt HOW.out.size HI.out.only.size)
   ·exact HT.out.fix.next hoU hzw
   ·have e1 : putR D.t r (dropR D.t (nmR D.t r) rs) = putR D.t r rs:=by
     unfold putR
     rw [dropR_none (rs:=dropR D.t (nmR D.t r) rs) fun q hq => (mem_dropR.1 hq).2]
    rw [← e1]
    exact h1U.congr fun p _ j hj k v => putS_all (fun q hq => (mem_dropR.1 hq).2) hj k v
   ·have h3:=List.length_filter_le (fun q => decide (nmR D.t q ≠ nmR D.t r)) rs
    have h4:=HN.out
    show (List.filter (fun q => decide (nmR D.t q ≠ nmR D.t r)) rs ++ [r]).length ≤ _
    rw [Zla,List.length_singleton]
    omega
   ·have h3:=(HO5.out.lt g hg).1
    have h4:=(h1.lo g hz).2
    omega
  case stop =>
   rintro D2 c pre W _ _ h _
   exact h.elim
end
section
open Go.RowKit BB
def dropK (t : TT.Tb) (l : List V3) (rs : List Row3) : List Row3:=rs.filter fun r => decide (pick3 r t.key ≠ l)
def putK (t : TT.Tb) (r : Row3) (rs : List Row3) : List Row3:=dropK t (pick3 r t.key) rs ++ [r]
theorem dropR_eq {t : TT.Tb} {rs : List Row3} (h : ∀ r ∈ rs,∀ v ∈ r,V3.right v = true) {r : Row3} (hr : ∀ v ∈ r,V3.right v = true) : dropR t (nmR t r) rs = dropK t (pick3 r t.key) rs:=by
 unfold dropR dropK
 refine List.filter_congr fun q hq => ?_
 congr 1
 exact propext ⟨fun a e => a (by unfold nmR; rw [e]),fun a e => a (nmR_inj (h q hq) hr e)⟩
theorem putR_eq {t : TT.Tb} {rs : List Row3} (h : ∀ r ∈ rs,∀ v ∈ r,V3.right v = true) {r : Row3} (hr : ∀ v ∈ r,V3.right v = true) : putR t r rs = putK t r rs:=by
 unfold putR putK
 rw [dropR_eq h hr]
theorem dropK_none {t : TT.Tb} {l : List V3} {rs : List Row3} (h : ∀ r ∈ rs,pick3 r t.key ≠ l) : dropK t l rs = rs:=List.filter_eq_self.2 fun r hr => by simpa using h r hr
def DropS (w : World) (B : Nat) (T U : Nat → Prop) (s : Nat) (c : TT.Ct) (P : Nat) (tv : Value) (ld : Int) (L : TabL) (j : Nat) (D : TD) (rs : List Row3) (l : List V3) (e : Ending) (w' : World) : Prop :=
 ∃ v T',e = .returned v ∧ ((∃ r ∈ rs,pick3 r D.t.key = l ∧ w'.ownsRow w.heap.size 73 3 v r.length (vc r)) ∨ ((∀ r ∈ rs,pick3 r D.t.key ≠ l) ∧ v = .slice none 0 0)) ∧ Only T w w' ∧ StM w' B T' U s c P tv ld (L.set j (D,dropK D.t l rs)) ∧ (∀ q,T' q → T q ∨ w.heap.size ≤ q) ∧ ∀ g,v.ownBlock = some g → ¬ T' g
theorem set_self {α : Type} {L : List α} {j : Nat} {x : α} (h : L[j]? = some x) : L.set j x = L:=by
 obtain ⟨hj,rfl⟩:=List.getElem?_eq_some_iff.1 h
 exact List.set_getElem_self hj
theorem drop_st {B C : Nat} {T U : Nat → Prop} (w : World) (s : Nat) (c : TT.Ct) (P : Nat) (tv : Value) (ld : Int) (L : TabL) (h : StM w B T U s c P tv ld L) (hm : Env w C) (hCB : C ≤ B) (j : Nat) (D : TD) (rs : List Row3) (hx : L[j]? = some (D,rs)) (a : Option Addr) (cap : Nat) (l : List V3) (hrow : ∀ W,Only T w W → Row W a l) (hl : l.length ≤ 2147483648) :
  Calls Tryz.prog 35 #[.pointer (some ⟨D.r,0,none⟩),.slice a l.length cap] w (DropS w B T U s c P tv ld L j D rs l):=by
 obtain ⟨hj,hx2⟩:=List.getElem?_eq_some_iff.1 hx
 obtain ⟨Z,hT,hZ,hc⟩:=h.turn j hj
 rw [hx2] at hT hc
 refine (drop_any w D rs a cap l hT hm hCB (fun W hW => hrow W (hW.mono hZ)) hl).mono ?_
 rintro e w' (⟨r,hr,hp,v,Z',rfl,hown,ho,hT',hz,hv⟩ | ⟨hno,rfl,hb⟩)
 ·obtain ⟨hoT,T',hS,hto,hn⟩:=hc w' Z' _ ho hT' hz
  rw [dropR_eq (fun q hq => hT.ok.right hq) (hT.ok.right hr),hp] at hS
  exact ⟨v,T',rfl,Or.inl ⟨r,hr,hp,hown⟩,hoT,hS,hto,fun g hg => hn g (hown.lt g hg).1 (hv g hg)⟩
 ·refine ⟨_,T,rfl,Or.inr ⟨hno,rfl⟩,Only.of hb,?_,fun _ q => Or.inl q,fun g hg => by cases hg⟩
  rw [dropK_none hno,set_self hx]
  exact h.later hb
def PutS (w : World) (B : Nat) (T U : Nat → Prop) (s : Nat) (c : TT.Ct) (P : Nat) (tv : Value) (ld : Int) (L : TabL) (j : Nat) (D : TD) (rs : List Row3) (r : Row3) (e : Ending) (w' : World) : Prop :=
 ∃ v T',e = .returned v ∧ w'.ownsRow w.heap.size 73 3 v (pick3 r D.t.key).length (vc (pick3 r D.t.key)) ∧ Only T w w' ∧ StM w' B T' U s c P tv ld (L.set j (D,putK D.t r rs)) ∧ (∀ q,T' q → T q ∨ w.heap.size ≤ q) ∧ ∀ g,v.ownBlock = some g → ¬ T' g
theorem put_st {B C : Nat} {T U : Nat → Prop} (w : World) (s : Nat) (c : TT.Ct) (P : Nat) (tv : Value) (ld : Int) (L : TabL) (h : StM w B T U s c P tv ld L) (hm : Env w C) (hCB : C ≤ B) (j : Nat) (D : TD) (rs : List Row3) (hx : L[j]? = some (D,rs)) (a : Option Addr) (cap : Nat) (r : Row3) (hrow : ∀ W,Only T w W → Row W a r) (hf : fitR D.t r) (hn : rs.length + 1 ≤ 3000000000) :
  Calls Tryz.prog 37 #[.pointer (some ⟨D.r,0,none⟩),.slice a r.length cap] w (PutS w B T U s c P tv ld L j D rs r):=by
 obtain ⟨hj,hx2⟩:=List.getElem?_eq_some_iff.1 hx
 obtain ⟨Z,hT,hZ,hc⟩:=h.turn j hj
 rw [hx2] at hT hc
 refine (put_any w D rs a cap r hT hm hCB (fun W hW => hrow W (hW.mono hZ)) hf hn).mono ?_
 rintro e w' ⟨v,Z',rfl,hown,ho,hT',hz,hv⟩
 obtain ⟨hoT,T',hS,hto,hn⟩:=hc w' Z' _ ho hT' hz
 rw [putR_eq (fun q hq => hT.ok.right hq) hf.right] at hS
 have hpl : (pick3 r D.t.key).length = D.t.key.length:=by unfold pick3; simp
 rw [← hpl] at hown
 exact ⟨v,T',rfl,hown,hoT,hS,hto,fun g hg => hn g (hown.lt g hg).1 (hv g hg)⟩
structure RowsA (w : World) (B : Nat) (A : Nat → Prop) (v : Value) (L : List (List V3)) : Prop where
 own : ∃ us : List Value,us.length = L.length ∧ w.ownsRow B 26 1 v L.length us ∧ (∀ i (h : i < us.length) (h' : i < L.length),w.ownsRow B 73 3 us[i] (L[i]).length (vc L[i])) ∧ (∀ g,v.ownBlock = some g → A g) ∧ ∀ i (h : i < us.length) (g : Nat),us[i].ownBlock = some g → A g
 lo : ∀ k,A k → B ≤ k ∧ k < w.heap.size
theorem RowsA.nil (w : World) (B : Nat) : RowsA w B (fun _ => False) (.slice none 0 0) []:=⟨⟨[],rfl,World.ownsRow_nil _ _ _ _,fun _ h => absurd h (Nat.not_lt_zero _),fun _ h => (by cases h),fun _ h => absurd h (Nat.not_lt_zero _)⟩,fun _ h => h.elim⟩
theorem RowsA.kept {w w' : World} {B : Nat} {A Y : Nat → Prop} {v : Value} {L : List (List V3)} (h : RowsA w B A v L) (ho : Only Y w w') (hy : ∀ k,A k → ¬ Y k) : RowsA w' B A v L:=by
 obtain ⟨us,h1,h2,h3,h4,h5⟩:=h.own
 exact ⟨⟨us,h1,own_kept h2 fun g hg => ho.block g (h2.lt g hg).2 (hy g (h4 g hg)),fun i hi hi' => own_kept (h3 i hi hi') fun g hg => ho.block g ((h3 i hi hi').lt g hg).2 (hy g (h5 i hi g hg)),h4,h5⟩,fun k hk => ⟨(h.lo k hk).1,Zll (h.lo k hk).2 ho.size⟩⟩
theorem RowsA.later {w w' : World} {B : Nat} {A : Nat → Prop} {v : Value} {L : List (List V3)} (h : RowsA w B A v L) (hb : Below w.heap.size w w') : RowsA w' B A v L:=h.kept (Y:=fun _ => False) (Only.of hb) fun _ _ h => h
theorem RowsA.mono {w : World} {B : Nat} {A A' : Nat → Prop} {v : Value} {L : List (List V3)} (h : RowsA w B A v L) (ha : ∀ k,A k → A' k) (hl : ∀ k,A' k → B ≤ k ∧ k < w.heap.size) : RowsA w B A' v L:=by
 obtain ⟨us,h1,h2,h3,h4,h5⟩:=h.own
 exact ⟨⟨us,h1,h2,h3,fun g hg => ha g (h4 g hg),fun i hi g hg => ha g (h5 i hi g hg)⟩,hl⟩
theorem rowsA_snoc {w w1 w3 : World} {B N i k : Nat} {A Y : Nat → Prop} {u u' v x : Value} {L : List (List V3)} {r : List V3} {us : List Value} (hk : L.length = k) (h1 : us.length = L.length) (h2 : w.ownsRow B 26 1 u k us) (h3 : ∀ i (h : i < us.length) (h' : i < L.length),w.ownsRow B 73 3 us[i] (L[i]).length (vc L[i])) (h4 : ∀ g,u.ownBlock = some g → A g) (h5 : ∀ i (h : i < us.length) (g : Nat),us[i].ownBlock = some g → A g) (hlo : ∀ k,A k → B ≤ k ∧ k < w.heap.size) (hB : B ≤ w.heap.size) (ho : Only Y w w1) (hy : ∀ k,A k → ¬ Y k) (hv : w1.ownsRow w.heap.size 73 3 v r.length (vc r)) {o : Obj} (hg : (w1.alloc o).grownBy w3 u.ownBlock) (hown : w3.ownsRow B 26 1 u' (k + 1) (us ++ [v])) {a0 a1 a2 : Value} (hN : w1.heap[N]? = some (.cells #[a0,a1,a2] 100 (0,0))) : RowsA (w3.setCell ⟨N,i,none⟩ x) B (fun q => A q ∨ v.ownBlock = some q ∨ u'.ownBlock = some q) u' (L ++ [r]) ∧ w3.heap[N]? = some (.cells #[a0,a1,a2] 100 (0,0)):=by
 subst hk
 have h21:=own_kept h2 fun g hg => ho.block g (h2.lt g hg).2 (hy g (h4 g hg))
 have hs3 : w1.heap.size + 1 ≤ w3.heap.size:=by have:=hg.size; simpa using this
 have hst : ∀ (g : Nat) (cur : Array Value) (t : TypeId),t ≠ 26 → w1.heap[g]? = some (.cells cur t (0,0)) → w3.heap[g]? = w1.heap[g]?:=fun g cur t ht hc => by
  have hl:=(Gx hc)
  refine (hg.block g (by simp; omega) fun e => ?_).trans (alloc_low9 hl)
  obtain ⟨cur2,hc2⟩:=own_block9 h21 e.symm
  rw [hc2] at hc
  simp only [Option.some.injEq,Obj.cells.injEq] at hc
  exact ht hc.2.1.symm
 have j3:=(hst N _ _ (by decide) hN).trans hN
 have hkeep : ∀ (B' : Nat) (y : Value) (n : Nat) (xs : List Value),w1.ownsRow B' 73 3 y n xs → (w3.setCell ⟨N,i,none⟩ x).ownsRow B' 73 3 y n xs:=fun B' y n xs hy' => own_kept hy' fun g hgy => by
  obtain ⟨cur,hc⟩:=own_block9 hy' hgy
  refine (Below.heap_setCell _ _ _ _ fun e => ?_).trans (hst g cur _ (by decide) hc)
  have e : N = g:=e.symm
  subst e
  rw [hN] at hc
  simp only [Option.some.injEq,Obj.cells.injEq] at hc
  exact absurd hc.2.1 (by decide)
 refine ⟨⟨⟨us ++ [v],by simp [h1],?_,fun i hi hi' => ?_,fun g hg => Or.inr (Or.inr hg),fun i hi g hg => ?_⟩,fun q hq => ?_⟩,j3⟩
 ·rw [Zla]
  exact own_kept hown fun q hq => Below.heap_setCell _ _ _ _ fun e => own_ne hown j3 (by decide) (by rw [hq]; exact congrArg some e)
 ·by_cases c : i < us.length
  ·rw [List.getElem_append_left c,List.getElem_append_left Om]
   exact hkeep _ _ _ _ (own_kept (h3 i c Om) fun g hg => ho.block g ((h3 i c Om).lt g hg).2 (hy g (h5 i c g hg)))
  ·have hi2 : i = us.length:=by simp at hi; omega
   subst hi2
   rw [List.getElem_append_right Zlr,List.getElem_append_right Om]
   simp only [Nat.sub_self,h1,List.getElem_cons_zero]
   exact own_mono9 (hkeep _ _ _ _ hv) hB
 ·by_cases c : i < us.length
  ·rw [List.getElem_append_left c] at hg
   exact Or.inl (h5 i c g hg)
  ·have hi2 : i = us.length:=by simp at hi; omega
   subst hi2
   rw [List.getElem_append_right Zlr] at hg
   simp only [Nat.sub_self,List.getElem_cons_zero] at hg
   exact Or.inr (Or.inl hg)
 ·have hz : (w3.setCell ⟨N,i,none⟩ x).heap.size = w3.heap.size:=by simp [World.setCell]
  rw [hz]
  have:=ho.size
  rcases hq with hq | hq | hq
  ·have:=hlo q hq
   omega
  ·have:=hv.lt q hq
   omega
  ·exact hown.lt q hq
end
end Go.Proofs.YtmmmkjhpmlfopaaGreatDoor
