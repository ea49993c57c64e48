/- ZT10 ZT12 ZT13 ZT17 ZT20 -/
import Derived.Test.YtmmmkjhpmlfopaaGreatDoorSB27
set_option maxHeartbeats 8000000
set_option maxRecDepth 100000
namespace Go.Proofs.YtmmmkjhpmlfopaaGreatDoor
open Go.RowKit
namespace TT
theorem right1_any (c : Tb) (vs : List Value) (w0 w : World) (x b : Nat) (ks : List (List UInt8)) (hR : TbR w0 c vs) (hb0 : Below w0.heap.size w0 w) (hB : w0.heap.size ≤ b) (h : AskX w b x ks) (hk : ks.length ≤ 1000000) (hm : c.cols.length ≤ 1099511627776) :
  Calls Tryz.prog 86 #[.agg vs.toArray,.pointer (some ⟨x,0,none⟩)] w fun e w' => e = .returned (.bool ((isNm (bs c.nm) && !decide (bs c.nm ∈ ks)) && mayTb c)) ∧ (isNm (bs c.nm) = true → AskX w' b x (ks ++ [bs c.nm])) ∧ Only (fun k => k = b) w w':=by
 have HT:=Hd hR
 obtain ⟨pc,cc,pk,ck,px,cx,rfl,_,_,_⟩:=hR
 have HB0:=Hd hb0
 have hbl:=h.lt
 obtain ⟨q,c0,hx,hq⟩:=h.ask hk
 have HQ:=Hd hq
 clear hq h hb0
 obtain ⟨g,hg⟩:=Vx ((isNm (bs c.nm) && !decide (bs c.nm ∈ ks)))
 have HG:=Hd hg
 rw [hg]
 clear hg
 cases g with
 | false =>
  go_enter Tryz.func86,Tryz.ntmps86
  go_wp2_with (first | (go_at_call 134; refine (HQ.out c.nm _ Bz).mono ?_; rintro e w1 ⟨rfl,ha,hb⟩; rw [HG.out]))
  go_ret
  exact ⟨rfl,ha,((Only.refl _ _).alloc _).trans hb⟩
 | true =>
  go_enter Tryz.func86,Tryz.ntmps86
  go_wp2_with (first
   | (go_at_call 134; refine (HQ.out c.nm _ Bz).mono ?_; rintro e w1 ⟨rfl,ha,hb⟩; rw [HG.out]; have hc0 : w1.cell? ⟨w.heap.size,0,none⟩ = some _:=cell_at (hb.block w.heap.size Si Om) (by simp; rfl); have hc1 : w1.cell? ⟨w.heap.size,1,none⟩ = some _:=cell_at (hb.block w.heap.size Si Om) (by simp; rfl); have hc2 : w1.cell? ⟨w.heap.size,2,none⟩ = some _:=cell_at (hb.block w.heap.size Si Om) (by simp; rfl); have hc3 : w1.cell? ⟨w.heap.size,3,none⟩ = some _:=cell_at (hb.block w.heap.size Si Om) (by simp; rfl); have hc4 : w1.cell? ⟨w.heap.size,4,none⟩ = some _:=cell_at (hb.block w.heap.size Si Om) (by simp; rfl))
   | (go_at_call 87; refine (table_any c _ _ (HT.out.later (below_only (HB0.out.alloc HB0.out.size _) hb hB)) hm).mono ?_; rintro e w2 ⟨rfl,hb2⟩))
  go_ret
  exact ⟨ret_bool Si,fun h => (ha h).later hb2,(((Only.refl _ _).alloc _).trans hb).trans (Only.of hb2)⟩
theorem right2_any (c : Pc) (vs : List Value) (w0 w : World) (x b : Nat) (ks : List (List UInt8)) (hR : PcR w0 c vs) (hb0 : Below w0.heap.size w0 w) (hB : w0.heap.size ≤ b) (h : AskX w b x ks) (hk : ks.length ≤ 1000000) :
  Calls Tryz.prog 89 #[.agg vs.toArray,.pointer (some ⟨x,0,none⟩)] w fun e w' => e = .returned (.bool ((isNm (bs c.nm) && !decide (bs c.nm ∈ ks)) && mayPc c)) ∧ (isNm (bs c.nm) = true → AskX w' b x (ks ++ [bs c.nm])) ∧ Only (fun k => k = b) w w':=by
 have HT:=Hd hR
 obtain ⟨pp,cp,pb,cb,rfl,_,_⟩:=hR
 have HB0:=Hd hb0
 have hbl:=h.lt
 obtain ⟨q,c0,hx,hq⟩:=h.ask hk
 have HQ:=Hd hq
 clear hq h hb0
 obtain ⟨g,hg⟩:=Vx ((isNm (bs c.nm) && !decide (bs c.nm ∈ ks)))
 have HG:=Hd hg
 rw [hg]
 clear hg
 cases g with
 | false =>
  go_enter Tryz.func89,Tryz.ntmps89
  go_wp2_with (first | (go_at_call 134; refine (HQ.out c.nm _ Bz).mono ?_; rintro e w1 ⟨rfl,ha,hb⟩; rw [HG.out]))
  go_ret
  exact ⟨rfl,ha,((Only.refl _ _).alloc _).trans hb⟩
 | true =>
  go_enter Tryz.func89,Tryz.ntmps89
  go_wp2_with (first
   | (go_at_call 134; refine (HQ.out c.nm _ Bz).mono ?_; rintro e w1 ⟨rfl,ha,hb⟩; rw [HG.out]; have hc0 : w1.cell? ⟨w.heap.size,0,none⟩ = some _:=cell_at (hb.block w.heap.size Si Om) (by simp; rfl); have hc1 : w1.cell? ⟨w.heap.size,1,none⟩ = some _:=cell_at (hb.block w.heap.size Si Om) (by simp; rfl); have hc2 : w1.cell? ⟨w.heap.size,2,none⟩ = some _:=cell_at (hb.block w.heap.size Si Om) (by simp; rfl); have hc3 : w1.cell? ⟨w.heap.size,3,none⟩ = some _:=cell_at (hb.block w.heap.size Si Om) (by simp; rfl); have hc4 : w1.cell? ⟨w.heap.size,4,none⟩ = some _:=cell_at (hb.block w.heap.size Si Om) (by simp; rfl))
   | (go_at_call 90; refine (proc_any c _ _ (HT.out.later (below_only (HB0.out.alloc HB0.out.size _) hb hB))).mono ?_; rintro e w2 ⟨rfl,hb2⟩))
  go_ret
  exact ⟨ret_bool Si,fun h => (ha h).later hb2,(((Only.refl _ _).alloc _).trans hb).trans (Only.of hb2)⟩
def Fits (c : Ct) : Prop:=∀ t ∈ c.tbs,t.cols.length ≤ 1099511627776
theorem rightC_long {c : Ct} (h : ¬ (c.tbs.length ≤ 8 ∧ c.prs.length ≤ 16)) : rightC c = false:=by
 cases e : rightC c with
 | false => rfl
 | true =>
  simp only [rightC,Bool.and_eq_true,decide_eq_true_eq] at e
  exact absurd e.1.1 h
theorem right_any (c : Ct) (vs : List Value) (w : World) (hR : CtR w c vs) (hf : Fits c) :
  Calls Tryz.prog 46 #[.agg vs.toArray] w fun e w' => e = .returned (.bool (rightC c)) ∧ Below w.heap.size w w':=by
 obtain ⟨pt,ct,pp,cp,rfl,r1,r2⟩:=hR
 have HR1:=Hd r1
 have HR2:=Hd r2
 have HF:=Hd hf
 clear r1 r2 hf
 by_cases h8 : c.tbs.length ≤ 8
 ·by_cases h16 : c.prs.length ≤ 16
  ·have g8 : ¬ (8 : Int) < (c.tbs.length : Int):=by omega
   have g16 : ¬ (16 : Int) < (c.prs.length : Int):=by omega
   go_enter Tryz.func46,Tryz.ntmps46
   go_wp2_with fail
   refine (newName_any _).mono ?_
   rintro e w1 ⟨q1,b1,rfl,ha1,hb1,hB1⟩
   obtain ⟨hc1,hf1⟩:=bcell hb1
   have hs1:=hb1.size
   simp at hs1 hB1
   have hz1 : w.heap.size < w1.heap.size:=by omega
   have HA1:=Hd ha1
   have HW1 : Hid (Below w.heap.size w w1):=by
    show Below w.heap.size w w1
    (repeat (first | exact Below.refl _ _ | assumption | refine Below.drew ?_ | refine below_drewN ?_ _ | refine Below.alloc ?_ (by first | omega | (simp; done) | (simp; omega)) _ | refine Below.setCell ?_ (by first | omega | (simp; done) | (simp; omega)) _ | refine Below.trans ?_ (Below.mono (by assumption) (by first | omega | (simp; done) | (simp; omega)))))
   clear ha1 hb1
   go_wp2_with fail
   refine (newName_any _).mono ?_
   rintro e w2 ⟨q2,b2,rfl,ha2,hb2,hB2⟩
   obtain ⟨hc2,hf2⟩:=bcell hb2
   have hs2:=hb2.size
   have hz2 : w.heap.size < w2.heap.size:=by omega
   have hbl:=HA1.out.lt.2
   have HA2:=Hd ha2
   have HA3:=Hd (HA1.out.later hb2)
   have HW2 : Hid (Below w.heap.size w w2):=below_two HW1.out hb2
   clear ha2 hb2 HA1
   have HX1 : Hid (∀ W,Below w2.heap.size w2 W → W.heap[w2.heap.size]? = some (.cells #[.func (.func 134) #[] #[.pointer (some ⟨q1,0,none⟩)]] 130 (0,0)) → AskX W b1 w2.heap.size []):=fun W hW h => ⟨q1,h,HA3.out.later hW⟩
   have HX2 : Hid (∀ W,Below w2.heap.size w2 W → W.heap[w2.heap.size + 1]? = some (.cells #[.func (.func 134) #[] #[.pointer (some ⟨q2,0,none⟩)]] 130 (0,0)) → AskX W b2 (w2.heap.size + 1) []):=fun W hW h => ⟨q2,h,HA2.out.later hW⟩
   have HC2 : Hid (w2.cell? ⟨w.heap.size,1,none⟩ = some (.slice pp c.prs.length cp)):=by
    show w2.cell? _ = _
    rw [hc2 _ _ hz1,hc1 _ _ Si]
    simp
   clear HA2 HA3
   have HE : Hid (rightC c = (allB c.tbs.length (fun i => newNm (c.tbs.map fun x => bs x.nm) i && (c.tbs[i]?).any mayTb) && allB c.prs.length (fun i => newNm (c.prs.map fun x => bs x.nm) i && (c.prs[i]?).any mayPc))):=by
    show rightC c = _
    simp [rightC,h8,h16]
   go_wp2_with fail
   refine (evTb_any w _ pt ct c.tbs w2.heap.size (fun i => newNm (c.tbs.map fun x => bs x.nm) i && (c.tbs[i]?).any mayTb) (fun k wr => AskX wr b1 w2.heap.size ((c.tbs.map fun x => bs x.nm).take k) ∧ AskX wr b2 (w2.heap.size + 1) [] ∧ wr.cell? ⟨w.heap.size,1,none⟩ = some (.slice pp c.prs.length cp)) Om HR1.out ?_ ?_ ?_ ?_).mono ?_
   ·refine ⟨HX1.out _ Bz ?_,HX2.out _ Bz ?_,cell_later (w:=w2) Bz HC2.out⟩
    ·exact (Below.heap_alloc _ _ _ Si).trans (heap_alloc_new w2 _)
    ·have:=heap_alloc_new (w2.alloc (.cells #[.func (.func 134) #[] #[.pointer (some ⟨q1,0,none⟩)]] 130)) (.cells #[.func (.func 134) #[] #[.pointer (some ⟨q2,0,none⟩)]] 130 (0,0))
     simpa using this
   ·exact below_two HW2.out Bz
   ·exact fun k v1 v2 i2 hv => ⟨i2.1.later hv,i2.2.1.later hv,cell_later hv i2.2.2⟩
   ·rintro k hk vs v1 hR ⟨i1,i2,i3⟩ hv
    refine (right1_any c.tbs[k] vs w v1 _ b1 _ hR hv Om i1 (by simp; omega) (HF.out _ (List.getElem_mem hk))).mono ?_
    rintro e v2 ⟨rfl,g1,g2⟩
    have e1 : (c.tbs[k]?).any mayTb = mayTb c.tbs[k]:=by simp [hk]
    have e2:=newNm_at (fun x : Tb => bs x.nm) c.tbs k hk
    refine ⟨ret_bool (by rw [e1,e2]),fun h => ?_,below_only hv g2 Om⟩
    rw [e2,Bool.and_eq_true,Bool.and_eq_true] at h
    rw [← names_snoc (fun x : Tb => bs x.nm) c.tbs k hk]
    exact ⟨g1 h.1.1,i2.beside g2 Om (fun k cs t fr hk => i1.ne hk),cell_at (g2.block w.heap.size (cell_lt i3) Om) i3⟩
   ·rintro e w4 ⟨rfl,hi4,hb4⟩
    have HB4:=Hd hb4
    have hs4:=hb4.size
    cases hA : allB c.tbs.length (fun i => newNm (c.tbs.map fun x => bs x.nm) i && (c.tbs[i]?).any mayTb) with
    | false =>
     rw [hA] at HE
     clear hi4 hb4
     go_wp2
     go_ret
     exact ⟨ret_bool HE.out.symm,HB4.out⟩
    | true =>
     rw [hA] at HE
     obtain ⟨-,i2,i3⟩:=hi4 hA
     have HI2:=Hd i2
     clear hb4 i2 hi4 hA
     go_wp2_with fail
     refine (evPc_any w _ pp cp c.prs (w2.heap.size + 1) (fun i => newNm (c.prs.map fun x => bs x.nm) i && (c.prs[i]?).any mayPc) (fun k wr => AskX wr b2 (w2.heap.size + 1) ((c.prs.map fun x : Pc => bs x.nm).take k)) Om HR2.out HI2.out HB4.out (fun k v1 v2 i2 hv => i2.later hv) ?_).mono ?_
     ·intro k hk vs v1 hR i1 hv
      refine (right2_any c.prs[k] vs w v1 _ b2 _ hR hv Om i1 (by simp; omega)).mono ?_
      rintro e v2 ⟨rfl,g1,g2⟩
      have e1 : (c.prs[k]?).any mayPc = mayPc c.prs[k]:=by simp [hk]
      have e2:=newNm_at (fun x : Pc => bs x.nm) c.prs k hk
      refine ⟨ret_bool (by rw [e1,e2]),fun h => ?_,below_only hv g2 Om⟩
      rw [e2,Bool.and_eq_true,Bool.and_eq_true] at h
      rw [← names_snoc (fun x : Pc => bs x.nm) c.prs k hk]
      exact g1 h.1.1
     ·rintro e w5 ⟨rfl,hb5⟩
      go_wp2
      go_ret
      exact ⟨ret_bool (by rw [HE.out]; simp),hb5⟩
  ·have g8 : ¬ (8 : Int) < (c.tbs.length : Int):=by omega
   have g16 : (16 : Int) < (c.prs.length : Int):=by omega
   have HE : Hid (rightC c = false):=rightC_long (fun h => h16 h.2)
   go_enter Tryz.func46,Tryz.ntmps46
   go_wp2
   go_ret
   exact ⟨ret_bool HE.out.symm,Bz⟩
 ·have g8 : (8 : Int) < (c.tbs.length : Int):=by omega
  have HE : Hid (rightC c = false):=rightC_long (fun h => h8 h.1)
  go_enter Tryz.func46,Tryz.ntmps46
  go_wp2
  go_ret
  exact ⟨ret_bool HE.out.symm,Bz⟩
section
theorem own_kept {w w' : World} {base n : Nat} {e : TypeId} {size : Nat} {v : Value} {xs : List Value} (h : w.ownsRow base e size v n xs) (hk : ∀ g,v.ownBlock = some g → w'.heap[g]? = w.heap[g]?) : w'.ownsRow base e size v n xs:=by
 obtain ⟨h1,h2 | ⟨g,cap,cur,rfl,a,b,c⟩⟩:=h
 ·exact ⟨h1,Or.inl h2⟩
 ·exact ⟨h1,Or.inr ⟨g,cap,cur,rfl,a,(hk g rfl).trans b,c⟩⟩
theorem own_later {w w' : World} {B : Nat} {e : TypeId} {size : Nat} {v : Value} {n : Nat} {xs : List Value} (h : w.ownsRow B e size v n xs) (hb : Below w.heap.size w w') : w'.ownsRow B e size v n xs:=own_kept h fun g hg => hb.block g (h.lt g hg).2
theorem own_mono {w : World} {base base' : Nat} {e : TypeId} {size : Nat} {v : Value} {n : Nat} {xs : List Value} (h : w.ownsRow base e size v n xs) (hb : base' ≤ base) : w.ownsRow base' e size v n xs:=by
 obtain ⟨h1,h2 | ⟨g,cap,cur,e,a,r⟩⟩:=h
 ·exact ⟨h1,Or.inl h2⟩
 ·exact ⟨h1,Or.inr ⟨g,cap,cur,e,Zlt hb a,r⟩⟩
theorem own_block {w : World} {B : Nat} {e : TypeId} {size : Nat} {v : Value} {n : Nat} {xs : List Value} (h : w.ownsRow B e size v n xs) {g : Nat} (hg : v.ownBlock = some g) : ∃ cur,w.heap[g]? = some (.cells cur e (0,0)):=by
 obtain ⟨_,⟨rfl,_⟩ | ⟨b,cap,cur,rfl,_,hh,_⟩⟩:=h
 ·cases hg
 ·obtain rfl : b = g:=by simpa [Value.ownBlock] using hg
  exact ⟨cur,hh⟩
theorem own_ge {w : World} {B : Nat} {e : TypeId} {size : Nat} {v : Value} {n : Nat} {xs : List Value} (h : w.ownsRow B e size v n xs) : ∀ g,v.ownBlock = some g → B ≤ g:=fun g hg => (h.lt g hg).1
theorem cells_alloc (w : World) (us : List Value) (t : TypeId) : ∀ j u,us[j]? = some u → (w.alloc (.cells us.toArray t)).cell? ((⟨w.heap.size,0,none⟩ : Addr).add j) = some u:=by
 intro j u hj
 have hadd : (⟨w.heap.size,0,none⟩ : Addr).add j = ⟨w.heap.size,j,none⟩:=by rw [Addr.add_lit,Nat.zero_add]
 rw [hadd]
 have hl:=(List.getElem?_eq_some_iff.1 hj)
 obtain ⟨hl,rfl⟩:=hl
 have:=heap_alloc_new w (.cells us.toArray t (0,0))
 simp only [World.cell?,this]
 simp [hl]
def Keeps (S : List TypeId) (B : Nat) (w w' : World) : Prop:=∀ (g : Nat) (cur : Array Value) (t : TypeId),t ∈ S → B ≤ g → w.heap[g]? = some (.cells cur t (0,0)) → w'.heap[g]? = some (.cells cur t (0,0))
theorem Keeps.of {S : List TypeId} {B : Nat} {w w' : World} (h : Below w.heap.size w w') : Keeps S B w w':=fun _ _ _ _ _ hg => heap_of hg h
theorem Keeps.trans {S : List TypeId} {B : Nat} {a b c : World} (h : Keeps S B a b) (k : Keeps S B b c) : Keeps S B a c:=fun g cur t ht hB hg => k g cur t ht hB (h g cur t ht hB hg)
theorem Keeps.sub {S S' : List TypeId} {B : Nat} {w w' : World} (h : Keeps S B w w') (hs : ∀ t ∈ S',t ∈ S) : Keeps S' B w w':=fun g cur t ht hB hg => h g cur t (hs t ht) hB hg
theorem Keeps.grown {S : List TypeId} {B B' : Nat} {w w' : World} {e : TypeId} {size : Nat} {v : Value} {n : Nat} {xs : List Value} (ho : w.ownsRow B' e size v n xs) (hg : w.grownBy w' v.ownBlock) (he : e ∉ S) : Keeps S B w w':=by
 intro g cur t ht _ h
 refine (hg.block g (Gx h) fun e1 => ?_).trans h
 obtain ⟨cur',h'⟩:=own_block ho e1.symm
 rw [h] at h'
 simp only [Option.some.injEq,Obj.cells.injEq] at h'
 exact he (h'.2.1 ▸ ht)
theorem Keeps.low {S : List TypeId} {B : Nat} {a w : World} (hk : Keeps S B a w) {g : Nat} (h : g < B) (o : Nat) (u : Value) : Keeps S B a (w.setCell ⟨g,o,none⟩ u):=by
 intro g' cur t' ht' hB h'
 refine (Below.heap_setCell _ _ _ _ fun e => ?_).trans (hk g' cur t' ht' hB h')
 have e : g' = g:=e
 omega
def OwnR {α : Type} (n : Nat) (T : TypeId) (R : α → List Value → Prop) (w : World) (B : Nat) (v : Value) (l : List α) : Prop :=
 ∃ ps : List (α × List Value),ps.map (·.1) = l ∧ (∀ p ∈ ps,R p.1 p.2 ∧ p.2.length = n) ∧ w.ownsRow B T n v l.length (ps.flatMap (·.2))
section
variable {α : Type} {n : Nat} {T : TypeId} {R R' : α → List Value → Prop} {w w' : World} {B : Nat} {v : Value} {l : List α}
theorem OwnR.nil (n : Nat) (T : TypeId) (R : α → List Value → Prop) (w : World) (B : Nat) : OwnR n T R w B (.slice none 0 0) ([] : List α):=⟨[],rfl,fun _ hp => absurd hp List.not_mem_nil,World.ownsRow_nil _ _ _ _⟩
theorem OwnR.form (h : OwnR n T R w B v l) : ∃ p cap,v = .slice p l.length cap ∧ l.length ≤ cap:=by
 obtain ⟨ps,_,_,h3⟩:=h
 obtain ⟨_,⟨rfl,h0⟩ | ⟨g,cap,cur,rfl,_,_,hc,_⟩⟩:=h3
 ·exact ⟨none,0,by rw [h0],by omega⟩
 ·exact ⟨_,cap,rfl,hc⟩
theorem OwnR.keeps {S : List TypeId} (h : OwnR n T R w B v l) (hk : Keeps S B w w') (hT : T ∈ S) (hR : ∀ x vs,R x vs → R' x vs) : OwnR n T R' w' B v l:=by
 obtain ⟨ps,h1,h2,h3⟩:=h
 refine ⟨ps,h1,fun p hp => ⟨hR _ _ (h2 p hp).1,(h2 p hp).2⟩,own_kept h3 fun g hg => ?_⟩
 obtain ⟨cur,hh⟩:=own_block h3 hg
 rw [hh]
 exact hk g cur T hT (h3.lt g hg).1 hh
theorem OwnR.mono (h : OwnR n T R w B v l) {B' : Nat} (hB : B' ≤ B) (hR : ∀ x vs,R x vs → R' x vs) : OwnR n T R' w B' v l:=by
 obtain ⟨ps,h1,h2,h3⟩:=h
 exact ⟨ps,h1,fun p hp => ⟨hR _ _ (h2 p hp).1,(h2 p hp).2⟩,own_mono h3 hB⟩
theorem flat_at {n : Nat} : ∀ (ps : List (α × List Value)) (i j : Nat) (hi : i < ps.length),(∀ p ∈ ps,p.2.length = n) → j < n → (ps.flatMap (·.2))[i * n + j]? = (ps[i].2)[j]?
 | p :: r,0,j,_,h,hj => by
  have:=h p List.mem_cons_self
  rw [List.flatMap_cons,Nat.zero_mul,Nat.zero_add,List.getElem?_append_left Om]
  rfl
 | p :: r,i + 1,j,hi,h,hj => by
  have hp:=h p List.mem_cons_self
  have ih:=flat_at r i j (by simpa using hi) (fun q hq => h q (List.mem_cons_of_mem _ hq)) hj
  rw [List.flatMap_cons,List.getElem?_append_right (by rw [hp,Nat.add_mul]; omega),hp,Nat.add_mul,Nat.one_mul]
  rw [show i * n + n + j - n = i * n + j by omega,ih]
  rfl
theorem OwnR.row {p : Option Addr} {m cap : Nat} (h : OwnR n T R w B (.slice p m cap) l) (hR : ∀ x vs,R x vs → R' x vs) : RowR n R' w p l:=by
 obtain ⟨ps,h1,h2,h3⟩:=h
 intro i hi
 have hl : ps.length = l.length:=by rw [← h1,List.length_map]
 have hmem : ps[i]'Om ∈ ps:=List.getElem_mem _
 have hx : (ps[i]'Om).1 = l[i]:=by subst h1; rw [List.getElem_map]
 have h30:=h3
 obtain ⟨_,⟨e,h0⟩ | ⟨g,cap',cur,e,_⟩⟩:=h3
 ·omega
 ·simp only [Value.slice.injEq] at e
  obtain ⟨rfl,rfl,rfl⟩:=e
  refine ⟨g,0,(ps[i]'Om).2,rfl,by rw [← hx]; exact hR _ _ (h2 _ hmem).1,(h2 _ hmem).2,fun j hj => ?_⟩
  have hj' : j < n:=by rw [← (h2 _ hmem).2]; exact hj
  have hlt : i * n + j < l.length * n:=by
   have : (i + 1) * n ≤ l.length * n:=Nat.mul_le_mul_right _ Om
   rw [Nat.add_mul] at this
   omega
  rw [Nat.zero_add,h30.cellAt _ hlt,flat_at ps i j Om (fun p hp => (h2 p hp).2) hj',List.getElem?_eq_getElem hj]
theorem OwnR.push {w3 : World} {v' : Value} {ps : List (α × List Value)} {x : α} {us : List Value} (h1 : ps.map (·.1) = l) (h2 : ∀ p ∈ ps,R p.1 p.2 ∧ p.2.length = n) (hR : ∀ x vs,R x vs → R' x vs) (hx : R' x us) (hus : us.length = n) (ho : w3.ownsRow B T n v' (l.length + 1) (ps.flatMap (·.2) ++ us)) : OwnR n T R' w3 B v' (l ++ [x]):=by
 refine ⟨ps ++ [(x,us)],by rw [List.map_append,h1]; rfl,fun p hp => ?_,?_⟩
 ·rcases Zma hp with hp | hp
  ·exact ⟨hR _ _ (h2 p hp).1,(h2 p hp).2⟩
  ·obtain rfl : p = (x,us):=by simpa using hp
   exact ⟨hx,hus⟩
 ·rw [List.flatMap_append,Zla]
  simpa using ho
end
def IxO (w : World) (B : Nat) (x : Ix) (vs : List Value) : Prop:=∃ v,vs = [.string x.nm,v,.bool x.un] ∧ OwnR 1 3 IntR w B v x.cols
def TbO (w : World) (B : Nat) (t : Tb) (vs : List Value) : Prop:=∃ vc vk vx,vs = [.string t.nm,vc,vk,.int .i64 t.part,vx] ∧ OwnR 3 62 ColR w B vc t.cols ∧ OwnR 1 3 IntR w B vk t.key ∧ OwnR 3 64 (IxO w B) w B vx t.ixs
def PcO (w : World) (B : Nat) (p : Pc) (vs : List Value) : Prop:=∃ vp vb,vs = [.string p.nm,vp,vb,.int .i64 p.rows,.int .i64 p.bytes] ∧ OwnR 2 171 PmR w B vp p.prms ∧ OwnR 1 9 StrR w B vb p.body
def CtO (w : World) (B : Nat) (c : Ct) (vs : List Value) : Prop:=∃ vt vp,vs = [vt,vp] ∧ OwnR 5 47 (TbO w B) w B vt c.tbs ∧ OwnR 5 121 (PcO w B) w B vp c.prs
abbrev inIx : List TypeId:=[3]
abbrev inTb : List TypeId:=[62,3,64]
abbrev inPc : List TypeId:=[171,9]
theorem IxO.keeps {w w' : World} {B : Nat} (hk : Keeps inIx B w w') (x : Ix) (vs : List Value) (h : IxO w B x vs) : IxO w' B x vs:=by
 obtain ⟨v,e,h1⟩:=h
 exact ⟨v,e,h1.keeps hk Si fun _ _ h => h⟩
theorem TbO.keeps {w w' : World} {B : Nat} (hk : Keeps inTb B w w') (x : Tb) (vs : List Value) (h : TbO w B x vs) : TbO w' B x vs:=by
 obtain ⟨v1,v2,v3,e,h1,h2,h3⟩:=h
 exact ⟨v1,v2,v3,e,h1.keeps hk Si fun _ _ h => h,h2.keeps hk Si fun _ _ h => h,h3.keeps hk Si (IxO.keeps (hk.sub Si))⟩
theorem PcO.keeps {w w' : World} {B : Nat} (hk : Keeps inPc B w w') (x : Pc) (vs : List Value) (h : PcO w B x vs) : PcO w' B x vs:=by
 obtain ⟨v1,v2,e,h1,h2⟩:=h
 exact ⟨v1,v2,e,h1.keeps hk Si fun _ _ h => h,h2.keeps hk Si fun _ _ h => h⟩
theorem IxO.mono {w : World} {B B' : Nat} (hB : B' ≤ B) (x : Ix) (vs : List Value) (h : IxO w B x vs) : IxO w B' x vs:=by
 obtain ⟨v,e,h1⟩:=h
 exact ⟨v,e,h1.mono hB fun _ _ h => h⟩
theorem TbO.mono {w : World} {B B' : Nat} (hB : B' ≤ B) (x : Tb) (vs : List Value) (h : TbO w B x vs) : TbO w B' x vs:=by
 obtain ⟨v1,v2,v3,e,h1,h2,h3⟩:=h
 exact ⟨v1,v2,v3,e,h1.mono hB fun _ _ h => h,h2.mono hB fun _ _ h => h,h3.mono hB (IxO.mono hB)⟩
theorem PcO.mono {w : World} {B B' : Nat} (hB : B' ≤ B) (x : Pc) (vs : List Value) (h : PcO w B x vs) : PcO w B' x vs:=by
 obtain ⟨v1,v2,e,h1,h2⟩:=h
 exact ⟨v1,v2,e,h1.mono hB fun _ _ h => h,h2.mono hB fun _ _ h => h⟩
theorem CtO.mono {w : World} {B B' : Nat} (hB : B' ≤ B) (x : Ct) (vs : List Value) (h : CtO w B x vs) : CtO w B' x vs:=by
 obtain ⟨v1,v2,e,h1,h2⟩:=h
 exact ⟨v1,v2,e,h1.mono hB (TbO.mono hB),h2.mono hB (PcO.mono hB)⟩
theorem CtO.later {w w' : World} {B : Nat} (hb : Below w.heap.size w w') (x : Ct) (vs : List Value) (h : CtO w B x vs) : CtO w' B x vs:=by
 obtain ⟨v1,v2,e,h1,h2⟩:=h
 exact ⟨v1,v2,e,h1.keeps (S:=[47]) (Keeps.of hb) Si (TbO.keeps (Keeps.of hb)),h2.keeps (S:=[121]) (Keeps.of hb) Si (PcO.keeps (Keeps.of hb))⟩
theorem IxO.reads {w : World} {B : Nat} (x : Ix) (vs : List Value) (h : IxO w B x vs) : IxR w x vs:=by
 obtain ⟨v,rfl,h1⟩:=h
 obtain ⟨p,cap,rfl,_⟩:=h1.form
 exact ⟨p,cap,rfl,h1.row fun _ _ h => h⟩
theorem TbO.reads {w : World} {B : Nat} (x : Tb) (vs : List Value) (h : TbO w B x vs) : TbR w x vs:=by
 obtain ⟨v1,v2,v3,rfl,h1,h2,h3⟩:=h
 obtain ⟨p1,c1,rfl,_⟩:=h1.form
 obtain ⟨p2,c2,rfl,_⟩:=h2.form
 obtain ⟨p3,c3,rfl,_⟩:=h3.form
 exact ⟨p1,c1,p2,c2,p3,c3,rfl,h1.row fun _ _ h => h,h2.row fun _ _ h => h,h3.row IxO.reads⟩
theorem PcO.reads {w : World} {B : Nat} (x : Pc) (vs : List Value) (h : PcO w B x vs) : PcR w x vs:=by
 obtain ⟨v1,v2,rfl,h1,h2⟩:=h
 obtain ⟨p1,c1,rfl,_⟩:=h1.form
 obtain ⟨p2,c2,rfl,_⟩:=h2.form
 exact ⟨p1,c1,p2,c2,rfl,h1.row fun _ _ h => h,h2.row fun _ _ h => h⟩
theorem CtO.reads {w : World} {B : Nat} (x : Ct) (vs : List Value) (h : CtO w B x vs) : CtR w x vs:=by
 obtain ⟨v1,v2,rfl,h1,h2⟩:=h
 obtain ⟨p1,c1,rfl,_⟩:=h1.form
 obtain ⟨p2,c2,rfl,_⟩:=h2.form
 exact ⟨p1,c1,p2,c2,rfl,h1.row TbO.reads,h2.row PcO.reads⟩
end
theorem Tryz.infoInt : (Tryz.prog.info? 3).map (fun i => (i.zero,i.size,i.bytes)) = some (some (.int .i64 0),1,8):=by kernel_rfl
theorem Tryz.infoStr : (Tryz.prog.info? 9).map (fun i => (i.zero,i.size,i.bytes)) = some (some (.string ⟨#[]⟩),1,16):=by kernel_rfl
theorem Tryz.infoCol : (Tryz.prog.info? 62).map (fun i => (i.zero,i.size,i.bytes)) = some (some (.agg #[.string ⟨#[]⟩,.int .i64 0,.bool false]),3,32):=by kernel_rfl
theorem Tryz.infoIx : (Tryz.prog.info? 64).map (fun i => (i.zero,i.size,i.bytes)) = some (some (.agg #[.string ⟨#[]⟩,.slice none 0 0,.bool false]),3,48):=by kernel_rfl
theorem Tryz.infoPm : (Tryz.prog.info? 171).map (fun i => (i.zero,i.size,i.bytes)) = some (some (.agg #[.string ⟨#[]⟩,.int .i64 0]),2,24):=by kernel_rfl
theorem Tryz.infoTb : (Tryz.prog.info? 47).map (fun i => (i.zero,i.size,i.bytes)) = some (some (.agg #[.string ⟨#[]⟩,.slice none 0 0,.slice none 0 0,.int .i64 0,.slice none 0 0]),5,96):=by kernel_rfl
theorem Tryz.infoPc : (Tryz.prog.info? 121).map (fun i => (i.zero,i.size,i.bytes)) = some (some (.agg #[.string ⟨#[]⟩,.slice none 0 0,.slice none 0 0,.int .i64 0,.int .i64 0]),5,80):=by kernel_rfl
theorem clone_any (s : ByteArray) (w : World) (hs : s.size ≤ 1099511627776) : Calls Tryz.prog 123 #[.string s] w fun e w' => e = .returned (.string s) ∧ Below w.heap.size w w':=by
 go_enter Tryz.func123,Tryz.ntmps123
 go_wp2_with fail
 refine (Tryz.stringslite_Clone s w Om).mono ?_
 rintro e w1 ⟨rfl,hb⟩
 go_wp2
 go_ret
 exact ⟨rfl,hb⟩
theorem mem_at {α : Type} {l : List α} {x : α} (h : x ∈ l) : ∃ i,∃ g : i < l.length,l[i] = x:=by
 obtain ⟨i,hi,e⟩:=List.getElem_of_mem h
 exact ⟨i,hi,e⟩
theorem newNm_isNm {α : Type} {f : α → List UInt8} {l : List α} {k : Nat} (h : k < l.length) (e : newNm (l.map f) k = true) : isNm (f l[k]) = true:=by
 rw [newNm_at f l k h,Bool.and_eq_true] at e
 exact e.1
theorem nm_le {s : ByteArray} (h : isNm (bs s) = true) : s.size ≤ 16:=(isNm_size h).2
theorem mayCols_nm {l : List Col} (h : mayCols l = true) : (1 ≤ l.length ∧ l.length ≤ 16) ∧ ∀ c ∈ l,c.nm.size ≤ 16 ∧ typB c.ty = true:=by
 simp only [mayCols,Bool.and_eq_true,decide_eq_true_eq] at h
 refine ⟨h.1,fun c hc => ?_⟩
 obtain ⟨i,hi,rfl⟩:=mem_at hc
 have:=allB_iff.1 h.2 i hi
 rw [Bool.and_eq_true] at this
 refine ⟨nm_le (newNm_isNm (f:=fun x : Col => bs x.nm) hi this.1),?_⟩
 simpa [hi] using this.2
theorem mayPms_nm {l : List Pm} (h : mayPms l = true) : l.length ≤ 8 ∧ ∀ c ∈ l,c.nm.size ≤ 16 ∧ typB c.ty = true:=by
 simp only [mayPms,Bool.and_eq_true,decide_eq_true_eq] at h
 refine ⟨h.1,fun c hc => ?_⟩
 obtain ⟨i,hi,rfl⟩:=mem_at hc
 have:=allB_iff.1 h.2 i hi
 rw [Bool.and_eq_true] at this
 refine ⟨nm_le (newNm_isNm (f:=fun x : Pm => bs x.nm) hi this.1),?_⟩
 simpa [hi] using this.2
theorem mayIxs_nm {t : Tb} (h : mayIxs t = true) : t.ixs.length ≤ 4 ∧ ∀ c ∈ t.ixs,c.nm.size ≤ 16 ∧ mayPl c.cols t.cols.length = true:=by
 simp only [mayIxs,Bool.and_eq_true,decide_eq_true_eq] at h
 refine ⟨h.1,fun c hc => ?_⟩
 obtain ⟨i,hi,rfl⟩:=mem_at hc
 have:=allB_iff.1 h.2 i hi
 rw [Bool.and_eq_true] at this
 refine ⟨nm_le (newNm_isNm (f:=fun x : Ix => bs x.nm) hi this.1),?_⟩
 simpa [hi] using this.2
theorem mayBody_src {l : List ByteArray} (h : mayBody l = true) : (1 ≤ l.length ∧ l.length ≤ 8) ∧ ∀ s ∈ l,1 ≤ s.size ∧ s.size ≤ 1000:=by
 simp only [mayBody,Bool.and_eq_true,decide_eq_true_eq] at h
 refine ⟨h.1,fun c hc => ?_⟩
 obtain ⟨i,hi,rfl⟩:=mem_at hc
 have:=allB_iff.1 h.2 i hi
 simpa [hi,srcB] using this
theorem mayTb_parts {t : Tb} (h : mayTb t = true) : isNm (bs t.nm) = true ∧ mayCols t.cols = true ∧ mayKey t = true ∧ mayIxs t = true:=by
 simp only [mayTb,Bool.and_eq_true] at h
 exact ⟨h.1.1.1,h.1.1.2,h.1.2,h.2⟩
theorem mayKey_parts {t : Tb} (h : mayKey t = true) : mayPl t.key t.cols.length = true ∧ t.part ∈ t.key:=by
 simp only [mayKey,Bool.and_eq_true,decide_eq_true_eq] at h
 exact h.1
theorem mayPc_parts {p : Pc} (h : mayPc p = true) : isNm (bs p.nm) = true ∧ mayPms p.prms = true ∧ mayBody p.body = true ∧ budB p.rows = true ∧ budB p.bytes = true:=by
 simp only [mayPc,Bool.and_eq_true] at h
 exact ⟨h.1.1.1.1,h.1.1.1.2,h.1.1.2,h.1.2,h.2⟩
theorem rightC_parts {c : Ct} (h : rightC c = true) : c.tbs.length ≤ 8 ∧ c.prs.length ≤ 16 ∧ (∀ t ∈ c.tbs,mayTb t = true) ∧ ∀ p ∈ c.prs,mayPc p = true:=by
 simp only [rightC,Bool.and_eq_true,decide_eq_true_eq] at h
 refine ⟨h.1.1.1,h.1.1.2,fun t ht => ?_,fun p hp => ?_⟩
 ·obtain ⟨i,hi,rfl⟩:=mem_at ht
  have:=allB_iff.1 h.1.2 i hi
  rw [Bool.and_eq_true] at this
  simpa [hi] using this.2
 ·obtain ⟨i,hi,rfl⟩:=mem_at hp
  have:=allB_iff.1 h.2 i hi
  rw [Bool.and_eq_true] at this
  simpa [hi] using this.2
theorem Tryz.infoU8 : (Tryz.prog.info? 5).map (fun i => (i.zero,i.size,i.bytes)) = some (some (.int .u8 0),1,1):=by kernel_rfl
def bv (l : List UInt8) : List Value:=l.map fun b => .int .u8 (b.toNat : Int)
theorem bv_append (l m : List UInt8) : bv (l ++ m) = bv l ++ bv m:=List.map_append
theorem bv_one (l : List UInt8) : ∀ u ∈ bv l,u.oneCell' = true:=by
 intro u hu
 obtain ⟨b,_,rfl⟩:=List.mem_map.1 hu
 rfl
theorem strCells_bv (s : ByteArray) : Lib.strCells s = bv (bs s):=rfl
structure Inks (B : Nat) (w w' : World) : Prop where
 os : w'.os = w.os
 tape : w'.tape = w.tape
 output : w'.output = w.output
 size : w.heap.size ≤ w'.heap.size
 block : ∀ k,k < w.heap.size → (k < B ∨ ∀ cur fr,w.heap[k]? ≠ some (.cells cur 5 fr)) → w'.heap[k]? = w.heap[k]?
theorem Inks.of {B : Nat} {w w' : World} (h : Below w.heap.size w w') : Inks B w w':=⟨h.os,h.tape,h.output,h.size,fun k hk _ => h.block k hk⟩
theorem Inks.refl (B : Nat) (w : World) : Inks B w w:=Inks.of (Bxr _ _)
theorem Inks.trans {B : Nat} {a b c : World} (h : Inks B a b) (k : Inks B b c) : Inks B a c:=by
 refine ⟨k.os.trans h.os,k.tape.trans h.tape,k.output.trans h.output,Zlt h.size k.size,fun i hi hz => ?_⟩
 have e:=h.block i hi hz
 refine (k.block i (Zll hi h.size) ?_).trans e
 rcases hz with hz | hz
 ·exact Or.inl hz
 ·exact Or.inr fun cur fr => by rw [e]; exact hz cur fr
theorem Inks.alloc {B : Nat} {a w : World} (h : Inks B a w) (o : Obj) : Inks B a (w.alloc o):=h.trans (Inks.of ((Bxr _ _).alloc Zlr _))
theorem Inks.drew {B : Nat} {a w : World} (h : Inks B a w) : Inks B a w.drew:=h.trans (Inks.of (Bxr _ _).drew)
theorem Inks.grown {B : Nat} {a w w' : World} {v : Value} {n : Nat} {xs : List Value} (h : Inks B a w) (ho : w.ownsRow B 5 1 v n xs) (hg : w.grownBy w' v.ownBlock) : Inks B a w':=by
 refine h.trans ⟨hg.os,hg.tape,hg.output,hg.size,fun k hk hz => hg.block k hk fun e => ?_⟩
 rcases hz with hz | hz
 ·have:=own_ge ho k e.symm
  omega
 ·obtain ⟨cur,h'⟩:=own_block ho e.symm
  exact hz cur _ h'
theorem Inks.below {B : Nat} {w w' : World} (h : Inks B w w') (hB : B ≤ w.heap.size) : Below B w w':=⟨h.os,h.tape,h.output,h.size,fun k hk => h.block k Om (Or.inl hk)⟩
theorem Inks.on {w0 w w' : World} (h0 : Below w0.heap.size w0 w) (h : Inks w0.heap.size w w') : Below w0.heap.size w0 w':=h0.trans (h.below h0.size)
theorem Inks.heap {B : Nat} {w w' : World} (h : Inks B w w') {k : Nat} {cs : Array Value} {t : TypeId} {fr : Nat × Nat} (hk : w.heap[k]? = some (.cells cs t fr)) (ht : t ≠ 5) : w'.heap[k]? = some (.cells cs t fr):=by
 refine (h.block k (Gx hk) (Or.inr fun cur fr' e => ?_)).trans hk
 rw [hk] at e
 simp only [Option.some.injEq,Obj.cells.injEq] at e
 exact ht e.2.1
def Ink (w : World) (B : Nat) (v : Value) (xs : List UInt8) : Prop:=w.ownsRow B 5 1 v xs.length (bv xs)
theorem Ink.nil (w : World) (B : Nat) : Ink w B (.slice none 0 0) []:=World.ownsRow_nil _ _ _ _
theorem Ink.later {w w' : World} {B : Nat} {v : Value} {xs : List UInt8} (h : Ink w B v xs) (hb : Below w.heap.size w w') : Ink w' B v xs:=own_later h hb
theorem Ink.form {w : World} {B : Nat} {v : Value} {xs : List UInt8} (h : Ink w B v xs) : ∃ p cap,v = .slice p xs.length cap:=by
 obtain ⟨_,⟨rfl,h0⟩ | ⟨g,cap,cur,rfl,_⟩⟩:=h
 ·exact ⟨none,0,by rw [h0]⟩
 ·exact ⟨_,cap,rfl⟩
theorem byte_cells (w : World) (x : Int) (c : UInt8) (t : TypeId) (h : x = (c.toNat : Int)) : ∀ j u,(bv [c])[j]? = some u → (w.alloc (.cells #[.int .u8 x] t)).cell? ((⟨w.heap.size,0,none⟩ : Addr).add j) = some u:=by
 subst h
 exact cells_alloc w [.int .u8 (c.toNat : Int)] t
theorem num_any (v : Value) (xs : List UInt8) (n : Nat) (w : World) (B : Nat) (hB : B ≤ w.heap.size) (hn : n < 2097152) (h : Ink w B v xs) (hl : (xs ++ num n).length ≤ 1099511627776) :
  Calls Tryz.prog 91 #[v,.int .i64 (n : Int)] w fun e w' => ∃ v',e = .returned v' ∧ Ink w' B v' (xs ++ num n) ∧ Inks B w w':=by
 obtain ⟨i0,hi,hz0,hz1,hz2⟩:=info_parts Tryz.infoU8
 obtain ⟨L,hL⟩:=Vx (xs ++ num n)
 rw [hL] at hl
 have HL:=Hd hL
 have HO:=Hd h
 rw [hL]
 clear hL h
 go_enter Tryz.func91,Tryz.ntmps91
 go_wp2
 go_loopw [0,1] (fun u i wr => ∃ (m : Nat) (pre : List UInt8),m < 2097152 ∧ i = .int .i64 (m : Int) ∧ pre ++ num m = L ∧ Ink wr B u pre ∧ Inks B w wr) (fun _ i _ => (intOf i).toNat)
 case atStart => exact ⟨n,xs,hn,rfl,HL.out,HO.out,Inks.refl _ _⟩
 case round =>
  obtain ⟨m,pre,hm,rfl,hpre,hown,hink⟩:=hrel
  have HP:=Hd hpre
  have HK:=Hd hink
  have hsz:=hink.size
  have hpl : pre.length + (num m).length ≤ 1099511627776:=by rw [← Zla,hpre]; exact hl
  obtain ⟨p,cap,hv⟩:=hown.form
  subst hv
  clear hpre hink
  by_cases hge : 128 ≤ m
  ·obtain ⟨r,hr⟩:=Vx (m % 128)
   obtain ⟨q,hq⟩:=Vx (m / 128)
   have hnl : 1 ≤ (num m).length:=by rw [num_step hge hm]; simp
   have HS : Hid ((pre ++ [UInt8.ofNat (r + 128)]) ++ num q = L):=by
    have:=HP.out
    rw [num_step hge hm,hr,hq] at this
    show _ ++ _ = L
    rw [← this]
    simp
   have hgi : (128 : Int) ≤ (m : Int):=by omega
   have e1 : (m : Int) % 128 = (r : Int):=by omega
   have e2 : IntKind.u8.wrap (r : Int) = (r : Int):=by rw [IntKind.wrap_u8]; omega
   have e3 : IntKind.u8.wrap ((r : Int) + 128) = (r : Int) + 128:=by rw [IntKind.wrap_u8]; omega
   have e4 : (m : Int) / 128 = (q : Int):=by omega
   have HT : Hid ((r : Int) + 128 = ((UInt8.ofNat (r + 128)).toNat : Int)):=by
    show (r : Int) + 128 = _
    rw [UInt8.toNat_ofNat']
    omega
   have hqm : q < m:=by omega
   clear hr hq
   have hown1 : wr.ownsRow B 5 1 (.slice p pre.length cap) pre.length (bv pre):=hown
   go_wp2_with (first | (at_builtin; refine wpList_append_own _ rfl _ _ 114 rfl B 5 i0 (.int .u8 0) 1 1 Tryz.underlying114 hi hz0 hz1 hz2 rfl (by decide) _ pre.length (bv pre) rfl (hown1.alloc _) ⟨wr.heap.size,0,none⟩ 1 1 (bv [UInt8.ofNat (r + 128)]) rfl rfl (byte_cells _ _ _ _ HT.out) (bv_one _) (by unfold maxLen; omega) Om (by simp; omega) ?_; intro v' w1 hown' hgrow _))
   have HO2 : Hid (Ink w1 B v' (pre ++ [UInt8.ofNat (r + 128)])):=by
    rw [← bv_append] at hown'
    show Ink _ _ _ _
    simpa [Ink] using hown'
   have HK2 : Hid (Inks B w w1):=(HK.out.alloc _).grown (hown1.alloc _) hgrow
   clear hown' hgrow hown hown1
   go_wp2
   go_roundw
   case rel => exact ⟨q,_,by omega,by go_num,HS.out,HO2.out,HK2.out⟩
   case measure => simp [intOf]; omega
  ·have HS : Hid (pre ++ [UInt8.ofNat m] = L):=by
    have:=HP.out
    rw [num_last Om] at this
    exact this
   have hnl : 1 ≤ (num m).length:=by rw [num_last Om]; simp
   have e2 : IntKind.u8.wrap (m : Int) = (m : Int):=by rw [IntKind.wrap_u8]; omega
   have HT : Hid ((m : Int) = ((UInt8.ofNat m).toNat : Int)):=by
    show (m : Int) = _
    rw [UInt8.toNat_ofNat']
    omega
   have hgi : ¬ (128 : Int) ≤ (m : Int):=by omega
   have hown1 : wr.ownsRow B 5 1 (.slice p pre.length cap) pre.length (bv pre):=hown
   go_wp2_with (first | (at_builtin; refine wpList_append_own _ rfl _ _ 114 rfl B 5 i0 (.int .u8 0) 1 1 Tryz.underlying114 hi hz0 hz1 hz2 rfl (by decide) _ pre.length (bv pre) rfl (hown1.alloc _) ⟨wr.heap.size,0,none⟩ 1 1 (bv [UInt8.ofNat m]) rfl rfl (byte_cells _ _ _ _ HT.out) (bv_one _) (by unfold maxLen; omega) Om (by simp; omega) ?_; intro v' w1 hown' hgrow _))
   have HO2 : Hid (Ink w1 B v' (pre ++ [UInt8.ofNat m])):=by
    rw [← bv_append] at hown'
    show Ink _ _ _ _
    simpa [Ink] using hown'
   have HK2 : Hid (Inks B w w1):=(HK.out.alloc _).grown (hown1.alloc _) hgrow
   clear hown' hgrow hown hown1
   go_wp2
   go_ret
   exact ⟨_,rfl,by rw [← HS.out]; exact HO2.out,HK2.out⟩
theorem bool_any (v : Value) (xs : List UInt8) (b : Bool) (w : World) (B : Nat) (hB : B ≤ w.heap.size) (h : Ink w B v xs) (hl : (xs ++ flag b).length ≤ 1099511627776) :
  Calls Tryz.prog 142 #[v,.bool b] w fun e w' => ∃ v',e = .returned v' ∧ Ink w' B v' (xs ++ flag b) ∧ Inks B w w':=by
 rw [flag_num] at hl ⊢
 have HC:=Hd (num_any v xs (if b then 1 else 0) w B hB (by split <;> omega) h hl)
 obtain ⟨L,hL⟩:=Vx (xs ++ num (if b then 1 else 0))
 rw [hL] at HC ⊢
 clear h hL hl
 cases b with
 | true =>
  go_enter Tryz.func142,Tryz.ntmps142
  go_wp2_with fail
  refine HC.out.mono ?_
  rintro e w1 ⟨v',rfl,h1,h2⟩
  go_wp2
  go_ret
  exact ⟨_,rfl,h1,h2⟩
 | false =>
  go_enter Tryz.func142,Tryz.ntmps142
  go_wp2_with fail
  refine HC.out.mono ?_
  rintro e w1 ⟨v',rfl,h1,h2⟩
  go_wp2
  go_ret
  exact ⟨_,rfl,h1,h2⟩
theorem text_any (v : Value) (xs : List UInt8) (s : ByteArray) (w : World) (B : Nat) (hB : B ≤ w.heap.size) (hs : s.size < 2097152) (h : Ink w B v xs) (hl : (xs ++ txt s).length ≤ 1099511627776) :
  Calls Tryz.prog 92 #[v,.string s] w fun e w' => ∃ v',e = .returned v' ∧ Ink w' B v' (xs ++ txt s) ∧ Inks B w w':=by
 obtain ⟨i0,hi,hz0,hz1,hz2⟩:=info_parts Tryz.infoU8
 have hl2 : (xs ++ num s.size).length + s.size ≤ 1099511627776:=by
  rw [txt,← Zas,Zla,bs_len] at hl
  exact hl
 have HC:=Hd (num_any v xs s.size w B hB hs h Om)
 obtain ⟨M,hM⟩:=Vx (xs ++ num s.size)
 have HM : Hid (xs ++ txt s = M ++ bs s):=by
  show _ = _
  rw [txt,← Zas,hM]
 rw [hM] at HC hl2
 clear h hM hl
 go_enter Tryz.func92,Tryz.ntmps92
 go_wp2_with fail
 refine HC.out.mono ?_
 rintro e w1 ⟨v',rfl,h1,h2⟩
 obtain ⟨p,cap,rfl⟩:=h1.form
 have hs2:=h2.size
 have HK:=Hd h2
 have h1o : w1.ownsRow B 5 1 (.slice p M.length cap) M.length (bv M):=h1
 clear h2 HC h1
 go_wp2_with (first | (at_builtin; refine Lib.wpList_append_own_string _ rfl _ _ 114 9 rfl B 5 i0 Tryz.underlying114 Tryz.underlying9 hi hz0 hz1 hz2 _ M.length (bv M) rfl h1o s rfl (by unfold maxLen; omega) Om Om ?_; intro v2 w2 ho hg _))
 have HO2 : Hid (Ink w2 B v2 (M ++ bs s)):=by
  rw [strCells_bv,← bv_append] at ho
  show Ink _ _ _ _
  simpa [Ink,bs_len] using ho
 have HK2 : Hid (Inks B w w2):=HK.out.grown h1o hg
 clear ho hg h1o
 go_wp2
 go_ret
 exact ⟨_,rfl,by rw [HM.out]; exact HO2.out,HK2.out⟩
end TT
end Go.Proofs.YtmmmkjhpmlfopaaGreatDoor
