/- O56 O57 F90 F91 O58 O59 O60 -/
import Derived.Test.YtmmmkjhpmlfopaaGreatDoorSB41
import Derived.Shelf.Vars
set_option maxRecDepth 100000
set_option maxHeartbeats 16000000
namespace Go.Proofs.YtmmmkjhpmlfopaaGreatDoor
open Go.RowKit
section
open Go.RowKit BB
def nul3 : V3:=(0,0,⟨#[]⟩)
def txA : V3:=(3,0,⟨#[97]⟩)
def exI : List Row3:=[[nV 2,txA],[nV 1,nul3],[nV 3,nul3]]
def exJ : List Row3:=[[nV 4,txA]]
theorem ex_puts : putKs exT exI (dropKs exT (keysL exT []) []) = exI:=by decide +kernel
theorem fit_dec {t : TT.Tb} {r : Row3} (h : r.length = t.cols.length) (h2 : (List.zipWith (fun v c => fitsV v c.ty) r t.cols).all id = true) : fitR t r:=⟨h,fun i hi hi' => by
 rw [List.all_eq_true] at h2
 exact h2 _ (List.mem_iff_getElem.2 ⟨i,by simp; omega,by rw [List.getElem_zipWith]; rfl⟩)⟩
theorem ex_fit : (∀ r ∈ exI,fitR exT r) ∧ ∀ r ∈ exJ,fitR exT r:=by
 refine ⟨fun r hr => ?_,fun r hr => ?_⟩
 ·simp only [exI,List.mem_cons,List.not_mem_nil,or_false] at hr
  rcases hr with rfl | rfl | rfl <;> exact fit_dec rfl (by decide +kernel)
 ·simp only [exJ,List.mem_cons,List.not_mem_nil,or_false] at hr
  subst hr
  exact fit_dec rfl (by decide +kernel)
theorem lack_dec {t : TT.Tb} {r : Row3} (h : (List.zipWith (fun v c => v.1 == 0 && c.nn) r t.cols).any id = false) : ¬ lackR t r:=by
 rintro ⟨i,hi,hi',e,e2⟩
 rw [List.any_eq_false] at h
 exact h _ (List.mem_iff_getElem.2 ⟨i,by simp; omega,rfl⟩) (by simp [e,e2])
theorem ex_full : (∀ r ∈ exI,¬ lackR exT r) ∧ ∀ r ∈ exJ,¬ lackR exT r:=by
 refine ⟨fun r hr => ?_,fun r hr => ?_⟩
 ·simp only [exI,List.mem_cons,List.not_mem_nil,or_false] at hr
  rcases hr with rfl | rfl | rfl <;> exact lack_dec (by decide +kernel)
 ·simp only [exJ,List.mem_cons,List.not_mem_nil,or_false] at hr
  subst hr
  exact lack_dec (by decide +kernel)
theorem ex_clash0 {D : TD} (hD : D.t = exT) (ks : List (List UInt8)) : ¬ clashT D [] ks exI:=by
 rintro ⟨j,hj,_,k,hk,hn,hc⟩
 have hK : D.K = 2:=by unfold TD.K; rw [hD]; rfl
 rw [hK] at hj
 rw [hD] at hn hc
 have h : ∀ j < 2,∀ k < 3,¬ (nulB (pick3 (exI.getD k []) (colsJ exT j)) = false ∧ TT.bs (kE (pick3 (exI.getD k []) (colsJ exT j))) ∈ metJ exT j (exI.take k)):=by decide +kernel
 rcases hc with hc | ⟨q,hq,_⟩
 ·have hk3 : k < 3:=hk
  refine h j hj k hk3 ?_
  rw [List.getD_eq_getElem?_getD,List.getElem?_eq_getElem hk]
  exact ⟨hn,hc⟩
 ·cases hq
theorem ex_come0 {D : TD} (hD : D.t = exT) {ks : List (List UInt8)} {n : Int} (h : ComeP D [] ks exI n) : n = 0:=by
 unfold ComeP at h
 rw [hD] at h
 rcases h with ⟨⟨r,hr,hn⟩,_⟩ | ⟨_,⟨⟨r,hr,hn⟩,_⟩ | ⟨_,⟨hc,_⟩ | ⟨_,e⟩⟩⟩
 ·exact absurd (ex_fit.1 r hr) hn
 ·exact absurd hn (ex_full.1 r hr)
 ·exact absurd hc (ex_clash0 hD ks)
 ·exact e
theorem ex_come1 {D : TD} (hD : D.t = exT) {n : Int} (h : ComeP D exI [] exJ n) : n = 91:=by
 unfold ComeP at h
 rw [hD] at h
 rcases h with ⟨⟨r,hr,hn⟩,_⟩ | ⟨_,⟨⟨r,hr,hn⟩,_⟩ | ⟨_,⟨_,e⟩ | ⟨hc,_⟩⟩⟩
 ·exact absurd (ex_fit.2 r hr) hn
 ·exact absurd hn (ex_full.2 r hr)
 ·exact e
 ·refine absurd ⟨1,by unfold TD.K; rw [hD]; decide,by rw [hD]; rfl,0,by decide,by rw [hD]; decide +kernel,Or.inr ⟨[nV 2,txA],List.mem_cons_self,by simp,by rw [hD]; decide +kernel⟩⟩ hc
def exL1 : List Row3:=[[nV 1,nul3],[nV 3,nul3],[nV 2,txA]]
def exL0 : List Row3:=[[nV 1,nul3],[nV 2,txA],[nV 3,nul3]]
theorem kl_none (a : ByteArray) : kl a ⟨#[]⟩ = false:=by
 unfold kl
 rw [ByteArray.toList_eq,ByteArray.toList_eq]
 cases a.data.toList <;> rfl
def klD (a b : ByteArray) : Bool:=Op.bytesLess a.data.toList b.data.toList
theorem kl_klD (a b : ByteArray) : kl a b = klD a b:=by
 unfold kl klD
 rw [ByteArray.toList_eq,ByteArray.toList_eq]
theorem ex_scan {D : TD} (hD : D.t = exT) (j : Nat) (M : List Row3) (hp : M.Perm exI) (hs : M.Pairwise fun a b => klD (skJ exT j a) (skJ exT j b) = true) : ScanP D j exI ⟨#[]⟩ ⟨#[]⟩ M:=by
 refine ⟨by rw [hD]; exact hs.imp fun {a b} h => (kl_klD _ _).trans h,fun r => ⟨fun a => ⟨hp.mem_iff.1 a,?_,?_⟩,fun a => hp.mem_iff.2 a.1⟩⟩
 ·exact kl_none _
 ·unfold untilB
  rw [ByteArray.toList_eq]
  rfl
theorem ex_scan1 {D : TD} (hD : D.t = exT) {M : List Row3} (h : ScanP D 1 exI ⟨#[]⟩ ⟨#[]⟩ M) : M = exL1:=h.same (D':=D) (ex_scan hD 1 exL1 (by decide +kernel) (by decide +kernel)) rfl fun _ => Iff.rfl
theorem ex_scan0 {D : TD} (hD : D.t = exT) {M : List Row3} (h : ScanP D 0 exI ⟨#[]⟩ ⟨#[]⟩ M) : M = exL0:=h.same (D':=D) (ex_scan hD 0 exL0 (by decide +kernel) (by decide +kernel)) rfl fun _ => Iff.rfl
theorem ex_undone : putKs exT [] (dropKs exT (keysL exT exI) exI) = []:=by decide +kernel
end
section
open Go.RowKit BB
structure PutV where
 sec : Bool
 key : Int
 val : Int
 gone : Bool
instance : Inhabited PutV:=⟨⟨false,0,0,false⟩⟩
def kOf (x : PutV) : Int:=2 * x.key.tmod 1000 + if x.sec = true then 1 else 0
def innR (x : PutV) : List Row3:=if x.gone = true then [] else [rw2 (kOf x) (x.val.tmod 1000)]
theorem tmod_k (a : Int) : -1000 < a.tmod 1000 ∧ a.tmod 1000 < 1000:=by
 have h1:=Int.natAbs_tmod a 1000
 have h2 : a.natAbs % 1000 < 1000:=Nat.mod_lt _ (by decide)
 have h3 : (1000 : Int).natAbs = 1000:=rfl
 rw [h3] at h1
 omega
theorem kOf_in (x : PutV) : -2000 ≤ kOf x ∧ kOf x < 2000:=by
 have:=tmod_k x.key
 unfold kOf
 split <;> omega
theorem kOf_even {x : PutV} (h : x.sec = false) : kOf x = 2 * x.key.tmod 1000:=by simp [kOf,h]
theorem kOf_odd {x : PutV} (h : x.sec = true) : ∀ m,kOf x ≠ 2 * m:=by
 intro m
 simp only [kOf,h,if_true]
 omega
theorem put_change {B C : Nat} {T U A : Nat → Prop} (w : World) (k s : Nat) (dv : Value) (P : Nat) (tv : Value) (D : TD) (rs : List Row3) (S : List Strk) (hk : WkM w B A k s 0 false dv S) (h : StM w B T U s bC P tv 0 [(D,rs)]) (hm : Env w C) (hCB : C ≤ B) (hz : Dis A (SZ T U s tv)) (hn : rs.length + 1 ≤ 3000000000) (hS : S.length ≤ 3000000000)
  (W : World) (hb : Below w.heap.size w W) {kk : Int} {out inn : List Row3} (hr : Rep rs out inn kk) (ao ai : Option Addr) (co ci : Nat) (ps : Nat → Option Addr × Nat) (ho : ∀ W',Only T W W' → RowsIn W' ao out) (hi : ∀ W',Only T W W' → RowsPs W' ai inn ps) :
  Calls Tryz.prog 11 #[.pointer (some ⟨k,0,none⟩),.int .i64 0,.slice ao out.length co,.slice ai inn.length ci] W fun e w' => e = .returned (.int .i64 0) ∧ ∃ (T' A' : Nat → Prop) (dv' t' b' : Value),StM w' B T' U s bC P tv 0 [(D,putKs bT inn (dropKs bT (keysL bT out) rs))] ∧ WkM w' B A' k s 0 false dv' (S ++ [⟨0,out,keysL bT inn,t',b'⟩]) ∧ PutZ w w' T U s tv A T' A':=by
 have hD : D.t = bT:=by
  have:=h.defs.1
  simpa [bC] using this
 have hok : TabOk D.t rs:=(h.tabs.ok 0 Si).1
 have hl1 : out.length ≤ 1:=by
  rcases hr.out with ⟨rfl,_⟩ | ⟨q,rfl,_⟩ <;> simp
 have hl2 : inn.length ≤ 1:=by
  rcases hr.inn with rfl | ⟨v,rfl,_⟩ <;> simp
 have hs1:=hb.size
 refine (change9_any W k s 0 false dv bC P tv 0 [(D,rs)] S (hk.later hb) (h.later hb) (hm.later hb hm.le) hCB (fun q a => ⟨fun e => hz q a (Or.inl e),fun e => hz q a (Or.inr (Or.inl e)),fun e => hz q a (Or.inr (Or.inr (Or.inl e))),fun e => hz q a (Or.inr (Or.inr (Or.inr e)))⟩) 0 ao ai co ci out inn ho ps hi Om Om (fun j D' rs' e => ?_) hS).mono ?_
 ·match j,e with
  | 0,e =>
   simp only [List.getElem?_cons_zero,Option.some.injEq,Prod.mk.injEq] at e
   obtain ⟨rfl,rfl⟩:=e
   omega
 ·rintro e w' ⟨n,rfl,hmay,hres⟩
  have hn0 : n = 0:=by
   rcases hmay with ⟨_,hc⟩ | ⟨j,D',rs',_,hj,e,hc⟩
   ·rcases hc with hc | hc
    ·exact absurd ⟨rfl,rfl⟩ hc
    ·exact absurd rfl (hc 0 Si)
   ·obtain rfl : j = 0:=by omega
    simp only [List.getElem?_cons_zero,Option.some.injEq,Prod.mk.injEq] at e
    obtain ⟨rfl,rfl⟩:=e
    rcases hc with ⟨_,hc⟩ | ⟨_,hc⟩
    ·exact absurd (hr.leaves hok) hc
    ·exact hr.come hD hc
  refine ⟨by rw [hn0],?_⟩
  rcases hres with ⟨hc,_⟩ | ⟨_,j,D',rs',tk,T',A',dv',t',b',hj,e,hmt,hs,hw,hon,ht,ha,hx⟩
  ·exact absurd hn0 hc
  ·obtain rfl : j = 0:=by omega
   simp only [List.getElem?_cons_zero,Option.some.injEq,Prod.mk.injEq] at e
   obtain ⟨rfl,rfl⟩:=e
   have htk:=hr.took hok hmt
   rw [htk] at hw
   rw [hD] at hs hw
   exact ⟨T',A',dv',t',b',hs,hw,⟨only_below hb hon,fun q a => (ht q a).imp id fun b => Zlt hs1 b,fun q a => (ha q a).imp id fun b => Zlt hs1 b,hx⟩⟩
end
section
open Go.ChangeShapes Go.WideShapes Go.ChangeAt Go.WideMaps Go.WideElems Go.RowKit
open Go.ChangeMaps (open_string shut_string)
def PutRow (W : World) (a : Option Addr) (l : List PutV) : Prop:=∀ i (h : i < l.length),∃ b off,a = some ⟨b,off,none⟩ ∧ W.cell? ⟨b,off + i * 4,none⟩ = some (.bool (l[i]).sec) ∧ W.cell? ⟨b,off + i * 4 + 1,none⟩ = some (.int .i64 (l[i]).key) ∧ W.cell? ⟨b,off + i * 4 + 2,none⟩ = some (.int .i64 (l[i]).val) ∧ W.cell? ⟨b,off + i * 4 + 3,none⟩ = some (.bool (l[i]).gone)
theorem Tryz.cellsPut9 : Tryz.prog.cellsOf 66 = 4:=by kernel_rfl
theorem Tryz.cellsBool9 : Tryz.prog.cellsOf 4 = 1:=by kernel_rfl
theorem Tryz.cellsInt9 : Tryz.prog.cellsOf 3 = 1:=by kernel_rfl
theorem add_lit9 (b off j : Nat) : (⟨b,off,none⟩ : Addr).add j = ⟨b,off + j,none⟩:=by unfold Addr.add; split <;> simp_all
theorem open_puts9 {H : Type} {enc : TypeId × Value → H} {W : World} {base : Nat} {v : Value} {d : DataW H} {p : List MemPlace} (hv : Value.okWide Tryz.prog W .any base 60 v) (h : DataW.Trod enc Tryz.prog W 0 (fun _ => true) true 60 v d p) :
  ∃ (a : Option Addr) (cap : Nat) (l : List PutV),v = .slice a l.length cap ∧ PutRow W a l ∧ l.length ≤ cap ∧ cap ≤ maxLen:=by
 obtain ⟨a0,len,cap,rfl⟩:=okWide_slice Tryz.underlying60 hv
 obtain ⟨fuel,hf⟩:=h
 rcases Deep.open_slice Tryz.underlying60 hf with ⟨hcs,_⟩ | ⟨x,l,c,m,n,D,Pl,hcs,_,hlc,hcm,hm,hx,hel⟩
 ·simp [Value.cells] at hcs
  obtain ⟨rfl,rfl,rfl⟩:=hcs
  exact ⟨none,0,[],rfl,fun i hi => absurd hi Si,Nat.le_refl _,Nat.zero_le _⟩
 ·simp [Value.cells] at hcs
  obtain ⟨rfl,rfl,rfl⟩:=hcs
  simp at hm
  subst hm
  have hone : ∀ i,i < len → ∃ u : PutV,W.cell? (x.add (i * 4)) = some (.bool u.sec) ∧ W.cell? (x.add (i * 4 + 1)) = some (.int .i64 u.key) ∧ W.cell? (x.add (i * 4 + 2)) = some (.int .i64 u.val) ∧ W.cell? (x.add (i * 4 + 3)) = some (.bool u.gone):=by
   intro i hi
   obtain ⟨cs,hc,ht⟩:=hel i Om
   rw [Tryz.cellsPut9] at hc
   obtain ⟨xs,q,_,hxe,hl,hlen,hfd⟩:=DataW.trod_struct Tryz.underlying66 ht
   rw [Tryz.cellsPut9] at hl
   match cs,hl,xs,hlen with
   | [c0,c1,c2,c3],_,[y0,y1,y2,y3],_ =>
    have hs:=(World.cells?_some hc).2.2
    have t0:=hfd 0 _ rfl
    have t1:=hfd 1 _ rfl
    have t2:=hfd 2 _ rfl
    have t3:=hfd 3 _ rfl
    simp [Tryz.cellsBool9,Tryz.cellsInt9] at t0 t1 t2 t3
    obtain ⟨k0,e0,_⟩:=DataW.trod_bool Tryz.underlying4 t0
    obtain ⟨k1,e1,_,_⟩:=DataW.trod_int Tryz.underlying3 t1
    obtain ⟨k2,e2,_,_⟩:=DataW.trod_int Tryz.underlying3 t2
    obtain ⟨k3,e3,_⟩:=DataW.trod_bool Tryz.underlying4 t3
    simp at e0 e1 e2 e3
    subst e0 e1 e2 e3
    have g : ∀ j,j < 4 → W.cell? (x.add (i * 4 + j)) = some ([Value.bool k0,.int .i64 k1,.int .i64 k2,.bool k3][j]?.getD .nilFunc):=fun j hj => by
     have:=hs j (by simpa using hj)
     rw [Deep.add_add] at this
     rw [this]
     match j,hj with
     | 0,_ => rfl
     | 1,_ => rfl
     | 2,_ => rfl
     | 3,_ => rfl
    exact ⟨⟨k0,k1,k2,k3⟩,g 0 Om,g 1 Om,g 2 Om,g 3 Om⟩
  obtain ⟨f,hfs⟩:=Deep.choose_lt hone
  refine ⟨some x,_,(List.range len).map f,by simp,?_,by simpa using hlc,hcm⟩
  intro i hi
  have hi' : i < len:=by simpa using hi
  obtain ⟨b,off,spot⟩:=x
  have h0:=(hfs 0 Om).1
  have hspot : spot = none:=by simpa [Addr.add] using World.cell?_spot h0
  subst hspot
  obtain ⟨g0,g1,g2,g3⟩:=hfs i hi'
  rw [add_lit9] at g0 g1 g2 g3
  have e : ((List.range len).map f)[i] = f i:=by simp
  rw [e]
  exact ⟨b,off,rfl,g0,g1,g2,g3⟩
end
section
open Go Go.RowKit
theorem handed_and_shaped {H : Type} {enc : TypeId × Value → H} {a : Assume} {C : Checked} {os : Os} {f : FuncId} {fn : Func} {s : ChangeSpec} {conds : List PathCond} {apart fresh handsOn again : Bool} {X : World → Array Value → Prop}
  (hX : ∀ (w w' : World) (args : Array Value),w.heap = w'.heap → X w args → X w' args)
  (own : ownKnob C.prog.godebug = none) (started : os.Started) (noInit : C.prog.inits.idxOf? f = none) (hfn : C.prog.funcs[f]? = some fn)
  (witness : ∃ (w : World) (tape : Tape) (i : Input),w.os = os ∧ (w.forCall tape i).Shaped C.prog ∧ i.vars = [] ∧ Input.okWide C.prog (w.forCall tape i) .any w.heap.size f i ∧
   ((s.pre enc C.prog fn conds apart (w.forCall tape i).memory i.args ∧ X (w.forCall tape i).memory i.args) ∧ sizedMet enc C.prog fn (OpenSpec.ofChange s) apart (w.forCall tape i).memory i.args) ∧ a.holds C.prog (lone (Frame.enter C.prog f i.args .normal) [] (w.forCall tape i)))
  (contract : ∀ (W : World) (base : Nat) (args : Array Value) (ds gs : List (DataW H)) (before : List MemPlace),
   (∀ (j : Nat) t v,fn.params[j]? = some t → args[j]? = some v → Value.okWide C.prog W .any base t v) →
   DataW.Whole enc C.prog fn.params.toList s.vars apart W args.toList ds gs before →
   conds.all (PathCond.test C.prog ⟨fn.params.toList,ds,s.plain.varTypes C.prog,gs⟩) = true →
   (DataW.weightsEach C.prog (fn.params.toList ++ s.plain.varTypes C.prog) (ds ++ gs)).all (· ≤ reachBytes) = true → X W args → W.ShapedOpen C.prog →
   a.holds C.prog (lone (Frame.enter C.prog f args .normal) [] W) →
   Calls C.prog f args W fun e W' => ∃ v,e = .returned v ∧ s.post enc C.prog fn apart fresh handsOn again W args v W') :
  ReturnsInHanded a C os f .any (fun w args => (s.pre enc C.prog fn conds apart w args ∧ X w args) ∧ sizedMet enc C.prog fn (OpenSpec.ofChange s) apart w args) (s.post enc C.prog fn apart fresh handsOn again):=by
 refine returnsInHanded_of_calls own started noInit witness ?_
 intro w tape i _ hsh _ hok hpre hholds
 obtain ⟨_,_,_,fn',hfn',_,_,_,_,hval⟩:=hok
 have e : fn' = fn:=Option.some.inj (hfn'.symm.trans hfn)
 subst e
 obtain ⟨⟨⟨ds,gs,before,hw,hc⟩,hx⟩,hz⟩:=hpre
 have hw':=DataW.Whole.of_heap (w':=w.forCall tape i) (by rfl) hw
 refine (contract (w.forCall tape i) w.heap.size i.args ds gs before hval hw' hc (hz.weights hw) (hX _ _ _ (by rfl) hx) hsh hholds).mono fun e W' ⟨v,he,hp⟩ => ?_
 subst he
 exact ChangeSpec.post_blind hp
theorem env_of {W : World} (h : W.ShapedOpen Tryz.prog) : Env W W.heap.size:=by
 have hm : KK.ML W:=Go.Proofs.cell_of_shapedOpen_int (zero:=#[.int .i64 0]) (t:=3) h (of_decide_eq_true Kr) Kr rfl Kr Kr Tryz.underlying3
 exact ⟨by obtain ⟨m,hc⟩:=hm; exact cell_lt hc,Nat.le_refl _,hm⟩
end
section
open Go.RowKit BB
theorem row_blk {w : World} {g : Nat} {vs : List V3} {fr : Nat × Nat} (h : w.heap[g]? = some (.cells (vc vs).toArray 73 fr)) : Row w (some ⟨g,0,none⟩) vs:=Row.of_cells fun j u hu => by
 rw [Nat.zero_add]
 exact cell_blk h (by simpa using hu)
theorem only_block {T : Nat → Prop} {W W' : World} {g n : Nat} {o : Obj} (h : W.heap[g]? = some o) (ho : Only T W W') (hT : ∀ q,T q → q < n) (hg : n ≤ g) : W'.heap[g]? = some o:=(ho.block g (Gx h) fun e => by have:=hT g e; omega).trans h
theorem below_block {W W' : World} {g : Nat} {o : Obj} (h : W.heap[g]? = some o) (hb : Below W.heap.size W W') : W'.heap[g]? = some o:=(hb.block g (Gx h)).trans h
theorem out_one {T : Nat → Prop} {n B g : Nat} {W2 W3 : World} {pv : Option Addr} {cv : Nat} {r : Row3} (hown : W2.ownsRow B 73 3 (.slice pv r.length cv) r.length (vc r)) (hb : Below W2.heap.size W2 W3) (hk : W3.heap[g]? = some (.cells #[.slice pv r.length cv] 26 (0,0))) (hT : ∀ q,T q → q < n) (hn : n ≤ B) (hg : n ≤ g) : ∀ W',Only T W3 W' → RowsIn W' (some ⟨g,0,none⟩) [r]:=fun W' ho i hi => by
 have hr : Row W' pv r:=row_keep (own_kept hown fun g hg => hb.block g (hown.lt g hg).2) ho fun q hq ht => by
  have h1:=(hown.lt q hq).1
  have h2:=hT q ht
  omega
 match i,hi with
 | 0,_ => exact ⟨g,0,pv,cv,rfl,cell_blk (only_block hk ho hT hg) rfl,hr⟩
theorem in_one {T : Nat → Prop} {n g1 g2 : Nat} {W3 : World} {q : Row3} (hq : q.length = 2) (h1 : W3.heap[g1]? = some (.cells (vc q).toArray 73 (0,0))) (h2 : W3.heap[g2]? = some (.cells #[.slice (some ⟨g1,0,none⟩) 2 2] 26 (0,0))) (hT : ∀ q,T q → q < n) (hn1 : n ≤ g1) (hn2 : n ≤ g2) : ∀ W',Only T W3 W' → RowsPs W' (some ⟨g2,0,none⟩) [q] fun _ => (some ⟨g1,0,none⟩,2):=fun W' ho i hi => by
 match i,hi with
 | 0,_ => exact ⟨g2,0,rfl,by rw [cell_blk (only_block h2 ho hT hn2) rfl]; simp [hq],row_blk (only_block h1 ho hT hn1)⟩
theorem put_built (W3 wa wv : World) (kk v : Int) (ha : Below W3.drew.heap.size W3.drew wa) (hv : Below wa.heap.size wa wv) : ∃ W5,Below W3.heap.size W3 W5 ∧ (W5.heap[wv.heap.size]? = some (.cells (vc (rw2 kk v)).toArray 73 (0,0)) ∧ W5.heap[wv.heap.size + 1]? = some (.cells #[.slice (some ⟨wv.heap.size,0,none⟩) 2 2] 26 (0,0))) ∧ (wv.alloc (Obj.cells #[.int .i64 1,.int .i64 kk,.string ⟨#[]⟩,.int .i64 1,.int .i64 v,.string ⟨#[]⟩] 73)).alloc (Obj.cells #[.slice (some ⟨wv.heap.size,0,none⟩) 2 2] 26) = W5:=by
 have hd : Below W3.heap.size W3 W3.drew:=(Bxr _ _).drew
 have h1:=hd.trans (ha.mono hd.size)
 have h2:=h1.trans (hv.mono h1.size)
 refine ⟨_,(h2.alloc h2.size _).alloc (by have:=h2.size; simp; omega) _,⟨?_,?_⟩,rfl⟩
 ·exact (alloc_low9 Si).trans (heap_alloc_new wv _)
 ·exact alloc_at Si
def PutsP (B : Nat) (T U A : Nat → Prop) (k s : Nat) (P : Nat) (tv : Value) (D : TD) (rs : List Row3) (S : List Strk) (x : PutV) (w : World) (e : Ending) (w' : World) : Prop :=
 e = .returned (.int .i64 0) ∧ ∃ (out : List Row3) (T' A' : Nat → Prop) (dv' t' b' : Value),Rep rs out (innR x) (kOf x) ∧ StM w' B T' U s bC P tv 0 [(D,putKs bT (innR x) (dropKs bT (keysL bT out) rs))] ∧ WkM w' B A' k s 0 false dv' (S ++ [⟨0,out,keysL bT (innR x),t',b'⟩]) ∧ PutZ w w' T U s tv A T' A'
theorem puts9_any {B C : Nat} {T U A : Nat → Prop} (w : World) (k s : Nat) (dv : Value) (P : Nat) (tv : Value) (D : TD) (rs : List Row3) (S : List Strk) (hk : WkM w B A k s 0 false dv S) (h : StM w B T U s bC P tv 0 [(D,rs)]) (hm : Env w C) (hCB : C ≤ B) (hz : Dis A (SZ T U s tv)) (hn : rs.length + 1 ≤ 3000000000) (hS : S.length ≤ 3000000000) (x : PutV) :
  Calls Tryz.prog 18 #[.pointer (some ⟨k,0,none⟩),.agg #[.bool x.sec,.int .i64 x.key,.int .i64 x.val,.bool x.gone]] w (PutsP B T U A k s P tv D rs S x w):=by
 obtain ⟨kk,hkk⟩:=Vx (kOf x)
 have hkb:=kOf_in x
 rw [hkk] at hkb
 have hkR : V3.right (nV kk) = true:=nV_right Om
 have HKR:=Hd (Zai hkR hkk)
 have HPC:=Hd (put_change w k s dv P tv D rs S hk h hm hCB hz hn hS)
 have HGET : Hid (∀ (W : World) (a : Option Addr) (cap : Nat),Below w.heap.size w W → Row W a [nV kk] → Calls Tryz.prog 25 #[.pointer (some ⟨k,0,none⟩),.int .i64 0,.slice a 1 cap] W (GetP (false = false ∧ (0 : Int) = 0) [(D,rs)] 0 [nV kk] W)):=Hd fun W a cap hb hrow => get9_any W k s 0 false dv bC P tv 0 [(D,rs)] (hk.blk.later hb) (h.later hb) (hm.later hb hm.le) 0 a cap [nV kk] hrow Si
 have HT : Hid (∀ q,T q → q < w.heap.size):=Hd fun q a => h.lt q (Or.inl a)
 have HD : Hid (D.t = bT ∧ TabOk D.t rs):=Hd ⟨by simpa [bC] using h.defs.1,(h.tabs.ok 0 Si).1⟩
 clear hk h hm hCB hz hn hS hkR
 obtain ⟨sec,key,val,gone⟩:=x
 obtain ⟨m,hm⟩:=Vx (key.tmod 1000)
 obtain ⟨v,hv⟩:=Vx (val.tmod 1000)
 have hmb:=tmod_k key
 have hvb:=tmod_k val
 rw [hm] at hmb
 rw [hv] at hvb
 have HV : Hid (V3.right (nV v) = true):=Hd (nV_right Om)
 have hinn : Hid (innR ⟨sec,key,val,gone⟩ = if gone = true then [] else [rw2 kk v]):=Hd (by unfold innR; rw [hkk]; simp only [hv])
 simp only [kOf,hm] at hkk
 have w1 : IntKind.i64.wrap m = m:=by rw [IntKind.wrap_i64] <;> omega
 have w2 : IntKind.i64.wrap (2 * m) = 2 * m:=by rw [IntKind.wrap_i64] <;> omega
 have w3 : IntKind.i64.wrap (2 * m + 1) = 2 * m + 1:=by rw [IntKind.wrap_i64] <;> omega
 have w4 : IntKind.i64.wrap v = v:=by rw [IntKind.wrap_i64] <;> omega
 obtain ⟨W0,hW0⟩:=Vx (w.alloc (Obj.cells #[.bool sec,.int .i64 key,.int .i64 val,.bool gone] 66))
 have hb0 : Below w.heap.size w W0:=by rw [← hW0]; exact (Bxr _ w).alloc Zlr _
 have k0 : W0.heap[w.heap.size]? = some (.cells #[.bool sec,.int .i64 key,.int .i64 val,.bool gone] 66 (0,0)):=by rw [← hW0]; exact heap_alloc_new w _
 have c0 : W0.cell? ⟨w.heap.size,0,none⟩ = some (.bool sec):=cell_blk k0 rfl
 have c1 : W0.cell? ⟨w.heap.size,1,none⟩ = some (.int .i64 key):=cell_blk k0 rfl
 have HB0:=Hd hb0
 have HK0:=Hd k0
 clear hb0 k0
 go_enter Tryz.func18,Tryz.ntmps18
 have HW0:=Hd hW0
 clear hW0
 rcases sec with _ | _
 all_goals
  simp only [Bool.false_eq_true,if_false,if_true,Int.add_zero] at hkk
  go_wp2_with fail
  have hW0:=HW0.out
  rw [hW0]
  clear hW0
  refine (number9_any _ _).mono ?_
  rintro e Wn ⟨rfl,hbn⟩
  have HBN:=Hd hbn
  clear hbn
  go_wp2_with fail
  obtain ⟨W1,hW1⟩:=Vx (Wn.alloc (Obj.cells (vc [nV kk]).toArray 73))
  have hb1 : Below Wn.heap.size Wn W1:=by rw [← hW1]; exact (Bxr _ Wn).alloc Zlr _
  have hr1 : Row W1 (some ⟨Wn.heap.size,0,none⟩) [nV kk]:=row_blk (fr:=(0,0)) (by rw [← hW1]; exact heap_alloc_new Wn _)
  have HB1:=Hbt HBN hb1
  have HG:=Hd (HGET.out W1 _ 1 (HB0.out.trans (HB1.out.mono HB0.out.size)) hr1)
  have hW1' : Wn.alloc (Obj.cells #[.int .i64 1,.int .i64 kk,.string ⟨#[]⟩] 73) = W1:=hW1
  rw [hW1']
  clear hW1 hW1' hb1 hr1
  refine HG.out.mono ?_
  rintro e W2 ⟨hb2,⟨j,x',r,vr,-,hj,hij,hr,hrk,rfl,hown⟩ | ⟨hno,rfl⟩⟩
  ·obtain rfl : j = 0:=by omega
   simp only [List.getElem?_cons_zero,Option.some.injEq] at hj
   subst hj
   obtain ⟨pv,cv,rfl⟩:=ownF hown
   have HB2:=Hbt HB1 hb2
   have HRR:=Hd (Zai hr (Zai hrk hown))
   clear hb2 hr hrk hown
   obtain ⟨W3,hW3⟩:=Vx (W2.alloc (Obj.cells #[.slice pv r.length cv] 26))
   have hb3 : Below W2.heap.size W2 W3:=by rw [← hW3]; exact (Bxr _ W2).alloc Zlr _
   have k3 : W3.heap[W2.heap.size]? = some (.cells #[.slice pv r.length cv] 26 (0,0)):=by rw [← hW3]; exact heap_alloc_new W2 _
   have HB3:=Hbt HB2 hb3
   have HK3:=Hd (Zai hb3 k3)
   have kw:=heap_of HK0.out HB2.out
   have c2 : W2.cell? ⟨w.heap.size,2,none⟩ = some (.int .i64 val):=cell_blk kw rfl
   have c3 : W2.cell? ⟨w.heap.size,3,none⟩ = some (.bool gone):=cell_blk kw rfl
   have l3:=cell_lt c3
   have HW3:=Hd hW3
   clear hb3 k3 kw hW3 hij
   have HRO : Hid (∀ W',Only T W3 W' → RowsIn W' (some ⟨W2.heap.size,0,none⟩) [r]):=Hd (out_one HRR.out.2.2 HK3.out.1 HK3.out.2 HT.out (by have:=HB0.out.size; have:=HB1.out.size; omega) (by have:=HB0.out.size; have:=HB2.out.size; omega))
   have c23:=cell_later HK3.out.1 c2
   have HBW3:=Hd (HB0.out.trans (HB3.out.mono HB0.out.size))
   cases gone with
   | true =>
    have HREP : Hid (Rep rs [r] [] kk ∧ innR ⟨_,key,val,true⟩ = []):=Hd ⟨⟨Or.inr ⟨r,rfl,HRR.out.1,by rw [← HD.out.1]; exact HRR.out.2.1⟩,Or.inl rfl⟩,by rw [hinn.out]; rfl⟩
    go_wp2_with fail
    rw [HW3.out]
    have HP:=Hd (HPC.out W3 HBW3.out HREP.out.1 (some ⟨W2.heap.size,0,none⟩) none 1 0 (fun _ => (none,0)) HRO.out (fun _ _ i h => absurd h (Nat.not_lt_zero i)))
    refine HP.out.mono ?_
    rintro e w' ⟨rfl,T',A',dv',t',b',q1,q2,q3⟩
    have HQ:=Hd (Zai q1 (Zai q2 q3))
    clear q1 q2 q3
    go_wp2
    go_ret
    refine ⟨rfl,[r],T',A',dv',t',b',?_⟩
    rw [HREP.out.2,HKR.out.2]
    exact ⟨HREP.out.1,HQ.out⟩
   | false =>
    have HREP : Hid (Rep rs [r] [rw2 kk v] kk ∧ innR ⟨_,key,val,false⟩ = [rw2 kk v]):=Hd ⟨⟨Or.inr ⟨r,rfl,HRR.out.1,by rw [← HD.out.1]; exact HRR.out.2.1⟩,Or.inr ⟨v,rfl,HKR.out.1,HV.out⟩⟩,by rw [hinn.out]; rfl⟩
    go_wp2_with fail
    rw [HW3.out]
    go_region_held3 (fun w' => w'.cell? ⟨w.heap.size,2,none⟩ = some (.int .i64 val)) (go_simp) (first
     | (go_at_call 24; refine (number9_any _ _).mono ?_; rintro e wv ⟨rfl,hqv⟩; (have HQV:=Hd hqv); (have sv:=cell_later hqv (by assumption)); (have lv:=cell_lt sv); (have lv1:=Nat.lt_succ_of_lt lv); clear hqv))
    rename_i wa HQA sa la la1 hHeld
    clear hHeld sv lv lv1 sa la la1
    obtain ⟨W5,h5,k5,hW5⟩:=put_built W3 wa wv kk v HQA.out HQV.out
    have HP:=Hd (HPC.out W5 (HBW3.out.trans (h5.mono HBW3.out.size)) HREP.out.1 (some ⟨W2.heap.size,0,none⟩) (some ⟨wv.heap.size + 1,0,none⟩) 1 1 _ (fun W' q => HRO.out W' (only_below h5 q)) (in_one rfl k5.1 k5.2 HT.out (Zlt HBW3.out.size (Zlt HQA.out.size HQV.out.size)) (Nat.le_succ_of_le (Zlt HBW3.out.size (Zlt HQA.out.size HQV.out.size)))))
    have HW5:=Hd hW5
    clear h5 k5 hW5
    go_wp2_with fail
    rw [HW5.out]
    refine HP.out.mono ?_
    rintro e w' ⟨rfl,T',A',dv',t',b',q1,q2,q3⟩
    have HQ:=Hd (Zai q1 (Zai q2 q3))
    clear q1 q2 q3
    go_wp2
    go_ret
    refine ⟨rfl,[r],T',A',dv',t',b',?_⟩
    rw [HREP.out.2,HKR.out.2]
    exact ⟨HREP.out.1,HQ.out⟩
  ·have HNO : Hid (∀ r ∈ rs,pick3 r bT.key ≠ [nV kk]):=Hd fun r hr => by
    have:=hno 0 (D,rs) Si rfl rfl r hr
    rwa [HD.out.1] at this
   have HB2:=Hbt HB1 hb2
   clear hb2 hno
   have kw:=heap_of HK0.out HB2.out
   have c2 : W2.cell? ⟨w.heap.size,2,none⟩ = some (.int .i64 val):=cell_blk kw rfl
   have c3 : W2.cell? ⟨w.heap.size,3,none⟩ = some (.bool gone):=cell_blk kw rfl
   have l3:=cell_lt c3
   clear kw
   have HBW3:=Hd (HB0.out.trans (HB2.out.mono HB0.out.size))
   cases gone with
   | true =>
    have HREP : Hid (Rep rs [] [] kk ∧ innR ⟨_,key,val,true⟩ = []):=Hd ⟨⟨Or.inl ⟨rfl,HNO.out⟩,Or.inl rfl⟩,by rw [hinn.out]; rfl⟩
    go_wp2_with fail
    have HP:=Hd (HPC.out W2 HBW3.out HREP.out.1 none none 0 0 (fun _ => (none,0)) (fun _ _ i h => absurd h (Nat.not_lt_zero i)) (fun _ _ i h => absurd h (Nat.not_lt_zero i)))
    refine HP.out.mono ?_
    rintro e w' ⟨rfl,T',A',dv',t',b',q1,q2,q3⟩
    have HQ:=Hd (Zai q1 (Zai q2 q3))
    clear q1 q2 q3
    go_wp2
    go_ret
    refine ⟨rfl,[],T',A',dv',t',b',?_⟩
    rw [HREP.out.2,HKR.out.2]
    exact ⟨HREP.out.1,HQ.out⟩
   | false =>
    have HREP : Hid (Rep rs [] [rw2 kk v] kk ∧ innR ⟨_,key,val,false⟩ = [rw2 kk v]):=Hd ⟨⟨Or.inl ⟨rfl,HNO.out⟩,Or.inr ⟨v,rfl,HKR.out.1,HV.out⟩⟩,by rw [hinn.out]; rfl⟩
    go_wp2_with fail
    go_region_held3 (fun w' => w'.cell? ⟨w.heap.size,2,none⟩ = some (.int .i64 val)) (go_simp) (first
     | (go_at_call 24; refine (number9_any _ _).mono ?_; rintro e wv ⟨rfl,hqv⟩; (have HQV:=Hd hqv); (have sv:=cell_later hqv (by assumption)); (have lv:=cell_lt sv); (have lv1:=Nat.lt_succ_of_lt lv); clear hqv))
    rename_i wa HQA sa la la1 hHeld
    clear hHeld sv lv lv1 sa la la1
    obtain ⟨W5,h5,k5,hW5⟩:=put_built W2 wa wv kk v HQA.out HQV.out
    have HP:=Hd (HPC.out W5 (HBW3.out.trans (h5.mono HBW3.out.size)) HREP.out.1 none (some ⟨wv.heap.size + 1,0,none⟩) 0 1 _ (fun _ _ i h => absurd h (Nat.not_lt_zero i)) (in_one rfl k5.1 k5.2 HT.out (Zlt HBW3.out.size (Zlt HQA.out.size HQV.out.size)) (Nat.le_succ_of_le (Zlt HBW3.out.size (Zlt HQA.out.size HQV.out.size)))))
    have HW5:=Hd hW5
    clear h5 k5 hW5
    go_wp2_with fail
    rw [HW5.out]
    refine HP.out.mono ?_
    rintro e w' ⟨rfl,T',A',dv',t',b',q1,q2,q3⟩
    have HQ:=Hd (Zai q1 (Zai q2 q3))
    clear q1 q2 q3
    go_wp2
    go_ret
    refine ⟨rfl,[],T',A',dv',t',b',?_⟩
    rw [HREP.out.2,HKR.out.2]
    exact ⟨HREP.out.1,HQ.out⟩
end
section
open Go.RowKit BB
theorem StM.ge {w : World} {B : Nat} {T U : Nat → Prop} {s : Nat} {c : TT.Ct} {P : Nat} {tv : Value} {ld : Int} {L : TabL} (h : StM w B T U s c P tv ld L) : ∀ q,SZ T U s tv q → B ≤ q:=fun q hq => by
 rcases hq with e | e | rfl | e
 ·exact (h.tabs.lo q e).1
 ·exact h.lo.2 q e
 ·exact h.lo.1
 ·exact (h.row.lt q e).1
theorem StM.mono {w : World} {B B' : Nat} {T U : Nat → Prop} {s : Nat} {c : TT.Ct} {P : Nat} {tv : Value} {ld : Int} {L : TabL} (h : StM w B T U s c P tv ld L) (hB : B' ≤ B) : StM w B' T U s c P tv ld L :=
 ⟨h.blk,own_mono9 h.row hB,h.tabs.mono hB,h.off,⟨Zlt hB h.lo.1,fun k hk => Zlt hB (h.lo.2 k hk)⟩,h.right,h.parts,h.defs⟩
theorem WkM.new {w : World} {B k s : Nat} {l : Int} (h : WkB w k s l false (.slice none 0 0)) (hB : B ≤ k) : WkM w B (fun q => q = k) k s l false (.slice none 0 0) [] :=
 ⟨h,World.ownsRow_nil _ _ _ _,fun _ h => (by cases h),⟨rfl,fun g hg => by simp [Value.ownBlock] at hg⟩,fun q hq => by
  subst hq
  exact ⟨hB,(Gx h)⟩⟩
theorem Dq.begun {w : World} {B P s t n : Nat} {tv1 tv2 : Value} {D1 D2 : TD} {U1 U2 T1 T2 : Nat → Prop} (h1 : StM w B T1 U1 s bC P tv1 0 [(D1,[])]) (h2 : StM w B T2 U2 t bC 1 tv2 0 [(D2,[])]) (hd : Dis (SZ T1 U1 s tv1) (SZ T2 U2 t tv2)) (hB : B ≤ n) (hn1 : ∀ q,SZ T1 U1 s tv1 q → q < n) (hn2 : ∀ q,SZ T2 U2 t tv2 q → q < n) (ha : WkB w n s 0 false (.slice none 0 0)) (hb : WkB w (n + 1) s 0 false (.slice none 0 0)) (hx : WkB w (n + 2) t 0 false (.slice none 0 0)) :
  Dq w B P s t n (n + 1) (n + 2) tv1 tv2 D1 D2 U1 U2 T1 T2 (fun q => q = n) (fun q => q = n + 1) (fun q => q = n + 2) (.slice none 0 0) (.slice none 0 0) (.slice none 0 0) [] [] [] [] []:=by
 have k : ∀ {Z : Nat → Prop} {m : Nat},(∀ q,Z q → q < n) → n ≤ m → Dis (fun q => q = m) Z:=fun hz hm q a b => by
  subst a
  have:=hz q b
  omega
 refine ⟨h1,h2,WkM.new ha hB,WkM.new hb Om,WkM.new hx Om,hd,k hn1 Om,k hn1 Om,k hn1 Om,k hn2 Om,k hn2 Om,k hn2 Om,fun q a b => ?_,fun q a b => ?_,fun q a b => ?_⟩ <;> omega
theorem ScanP.len {D : TD} {j : Nat} {rs : List Row3} {lo hi : ByteArray} {L : List Row3} (h : ScanP D j rs lo hi L) : L.length ≤ rs.length:=by
 refine nodup_len ?_ fun x hx => ((h.2 x).1 hx).1
 refine h.1.imp fun {a b} hab e => ?_
 subst e
 rw [kl_irrefl] at hab
 cases hab
end
section
open Go.RowKit BB
theorem exC_fits : TT.Fits exC:=fun t ht => by
 simp only [exC,List.mem_singleton] at ht
 subst ht
 decide
theorem ex_rows3 {W : World} {g1 g2 g3 g4 : Nat} {fr : Nat × Nat} (h1 : W.heap[g1]? = some (.cells (vc [nV 2,txA]).toArray 73 (0,0))) (h2 : W.heap[g2]? = some (.cells (vc [nV 1,nul3]).toArray 73 (0,0))) (h3 : W.heap[g3]? = some (.cells (vc [nV 3,nul3]).toArray 73 (0,0))) (h4 : W.heap[g4]? = some (.cells #[.slice (some ⟨g1,0,none⟩) 2 2,.slice (some ⟨g2,0,none⟩) 2 2,.slice (some ⟨g3,0,none⟩) 2 2] 26 fr)) : RowsPs W (some ⟨g4,0,none⟩) exI (fun i => (some ⟨if i = 0 then g1 else if i = 1 then g2 else g3,0,none⟩,2)):=by
 intro i hi
 match i,hi with
 | 0,_ => exact ⟨g4,0,rfl,cell_blk h4 rfl,row_blk h1⟩
 | 1,_ => exact ⟨g4,0,rfl,cell_blk h4 rfl,row_blk h2⟩
 | 2,_ => exact ⟨g4,0,rfl,cell_blk h4 rfl,row_blk h3⟩
theorem ex_rows1 {W : World} {g1 g4 : Nat} {fr : Nat × Nat} (h1 : W.heap[g1]? = some (.cells (vc [nV 4,txA]).toArray 73 (0,0))) (h4 : W.heap[g4]? = some (.cells #[.slice (some ⟨g1,0,none⟩) 2 2] 26 fr)) : RowsPs W (some ⟨g4,0,none⟩) exJ (fun _ => (some ⟨g1,0,none⟩,2)):=by
 intro i hi
 match i,hi with
 | 0,_ => exact ⟨g4,0,rfl,cell_blk h4 rfl,row_blk h1⟩
theorem one_tab {t : TT.Tb} {L : TabL} (h : L.map (fun x => x.1.t) = [t]) (he : ∀ x ∈ L,x.2 = []) : ∃ D : TD,D.t = t ∧ L = [(D,[])]:=by
 match L,h with
 | [(D,rs)],h =>
  have : rs = []:=he (D,rs) List.mem_cons_self
  subst this
  exact ⟨D,by simpa using h,rfl⟩
theorem three_later9 {W W' : World} {a b c : Addr} {x y z : Value} (h : W.cell? a = some x ∧ W.cell? b = some y ∧ W.cell? c = some z) (hb : Below W.heap.size W W') : W'.cell? a = some x ∧ W'.cell? b = some y ∧ W'.cell? c = some z:=⟨cell_later hb h.1,cell_later hb h.2.1,cell_later hb h.2.2⟩
theorem three_alloc9 {W : World} {a b c : Addr} {x y z : Value} (h : W.cell? a = some x ∧ W.cell? b = some y ∧ W.cell? c = some z) (o : Obj) : (W.alloc o).cell? a = some x ∧ (W.alloc o).cell? b = some y ∧ (W.alloc o).cell? c = some z:=three_later9 h ((Bxr _ _).alloc Zlr _)
theorem alloc_block9 {W : World} {g : Nat} {o o' : Obj} (h : W.heap[g]? = some o') : (W.alloc o).heap[g]? = some o':=below_block h ((Bxr _ _).alloc Zlr _)
theorem below_alloc9 {W6 W : World} (h : Below W6.heap.size W6 W) (o : Obj) : Below W6.heap.size W6 (W.alloc o):=h.alloc h.size o
theorem below_call9 {W6 W W' : World} (h : Below W6.heap.size W6 W) (hb : Below W.heap.size W W') : Below W6.heap.size W6 W':=h.trans (hb.mono h.size)
theorem below_drew9 (W6 : World) : Below W6.heap.size W6 W6.drew:=(Bxr _ _).drew
def ExQ (w : World) (B n6 k s : Nat) (P : Nat) (tv : Value) (D : TD) (U : Nat → Prop) (w' : World) : Prop:=∃ (T' A' : Nat → Prop) (dv' t' b' : Value),StM w' B T' U s exC P tv 0 [(D,exI)] ∧ WkM w' B A' k s 0 false dv' [⟨0,[],keysL exT exI,t',b'⟩] ∧ Dis A' (SZ T' U s tv) ∧ Below w.heap.size w w' ∧ w'.heap[n6]? = some (.cells #[.int .i64 3,.int .i64 0,.string ⟨#[97]⟩] 73 (0,0))
theorem ex_cells {w w' : World} {B n6 k s P : Nat} {tv : Value} {D : TD} {U : Nat → Prop} (h : ExQ w B n6 k s P tv D U w') : w'.cell? ⟨n6,0,none⟩ = some (.int .i64 3) ∧ w'.cell? ⟨n6,1,none⟩ = some (.int .i64 0) ∧ w'.cell? ⟨n6,2,none⟩ = some (.string ⟨#[97]⟩):=by
 obtain ⟨_,_,_,_,_,_,_,_,_,h6⟩:=h
 exact ⟨cell_blk h6 rfl,cell_blk h6 rfl,cell_blk h6 rfl⟩
theorem ex_change {B C : Nat} {T U : Nat → Prop} (w W6 W : World) (k s n6 : Nat) (P : Nat) (tv : Value) (D : TD) (hD : D.t = exT) (hw : Below w.heap.size w W6) (hBw : w.heap.size ≤ B) (hk : WkB W6 k s 0 false (.slice none 0 0)) (hkB : B ≤ k) (h : StM W6 B T U s exC P tv 0 [(D,[])]) (hz : ¬ SZ T U s tv k) (hm : Env W6 C) (hCB : C ≤ B) (h6 : W6.heap[n6]? = some (.cells #[.int .i64 3,.int .i64 0,.string ⟨#[97]⟩] 73 (0,0))) (hn6 : ¬ T n6 ∧ n6 ≠ k)
  {g1 g2 g3 g4 : Nat} (h4 : W.heap[g4]? = some (.cells #[.slice (some ⟨g1,0,none⟩) 2 2,.slice (some ⟨g2,0,none⟩) 2 2,.slice (some ⟨g3,0,none⟩) 2 2] 26 (0,0))) (h1 : W.heap[g1]? = some (.cells (vc [nV 2,txA]).toArray 73 (0,0))) (h2 : W.heap[g2]? = some (.cells (vc [nV 1,nul3]).toArray 73 (0,0))) (h3 : W.heap[g3]? = some (.cells (vc [nV 3,nul3]).toArray 73 (0,0))) (hb : Below W6.heap.size W6 W) (hg : (W6.heap.size ≤ g1 ∧ W6.heap.size ≤ g2) ∧ W6.heap.size ≤ g3 ∧ W6.heap.size ≤ g4) :
  Calls Tryz.prog 11 #[.pointer (some ⟨k,0,none⟩),.int .i64 0,.slice none 0 0,.slice (some ⟨g4,0,none⟩) 3 3] W fun e w' => e = .returned (.int .i64 0) ∧ ExQ w B n6 k s P tv D U w':=by
 have hT : ∀ q,T q → q < W6.heap.size:=fun q a => h.lt q (Or.inl a)
 have hwk:=WkM.new hk hkB
 have hlk : k < W6.heap.size:=(Gx hk)
 refine (change9_any W k s 0 false (.slice none 0 0) exC P tv 0 [(D,[])] [] (hwk.later hb) (h.later hb) (hm.later hb hm.le) hCB (fun q a => ?_) 0 none (some ⟨g4,0,none⟩) 0 3 [] exI (fun _ _ i h => absurd h (Nat.not_lt_zero i)) _ (fun W' ho => ex_rows3 (only_block h1 ho hT hg.1.1) (only_block h2 ho hT hg.1.2) (only_block h3 ho hT hg.2.1) (only_block h4 ho hT hg.2.2)) Si (by simp [exI]) (fun j D' rs' e => ?_) Si).mono ?_
 ·subst a
  exact ⟨fun e => hz (Or.inl e),fun e => hz (Or.inr (Or.inl e)),fun e => hz (Or.inr (Or.inr (Or.inl e))),fun e => hz (Or.inr (Or.inr (Or.inr e)))⟩
 ·match j,e with
  | 0,e =>
   simp only [List.getElem?_cons_zero,Option.some.injEq,Prod.mk.injEq] at e
   obtain ⟨rfl,rfl⟩:=e
   simp [exI]
 ·rintro e w' ⟨n,rfl,hmay,hres⟩
  have hn0 : n = 0:=by
   rcases hmay with ⟨_,hc⟩ | ⟨j,D',rs',_,hj,e,hc⟩
   ·rcases hc with hc | hc
    ·exact absurd ⟨rfl,rfl⟩ hc
    ·exact absurd rfl (hc 0 Si)
   ·obtain rfl : j = 0:=by omega
    simp only [List.getElem?_cons_zero,Option.some.injEq,Prod.mk.injEq] at e
    obtain ⟨rfl,rfl⟩:=e
    rcases hc with ⟨_,hc⟩ | ⟨_,hc⟩
    ·exact absurd (fun k hk => absurd hk (Nat.not_lt_zero k)) hc
    ·exact ex_come0 hD hc
  refine ⟨by rw [hn0],?_⟩
  rcases hres with ⟨hc,_⟩ | ⟨_,j,D',rs',tk,T',A',dv',t',b',hj,e,hmt,hs,hw2,hon,ht,ha,hx⟩
  ·exact absurd hn0 hc
  ·obtain rfl : j = 0:=by omega
   simp only [List.getElem?_cons_zero,Option.some.injEq,Prod.mk.injEq] at e
   obtain ⟨rfl,rfl⟩:=e
   have htk : tk = []:=List.eq_nil_of_length_eq_zero hmt.1
   subst htk
   rw [hD] at hs hw2
   rw [ex_puts] at hs
   have hb2:=below_call9 hw hb
   refine ⟨T',A',dv',t',b',hs,hw2,fun q a b => ?_,hb2.trans (hon.below hb2.size fun q hq e => ?_),?_⟩
   ·have hsz:=hb.size
    rcases b with b | b
    ·exact hx q a b
    ·have hqs:=h.lt q (Or.inr b)
     rcases ha q a with c | c
     ·subst c
      exact hz (Or.inr b)
     ·omega
   ·rcases e with e | e
    ·have:=h.ge q (Or.inl e)
     omega
    ·subst e
     omega
   ·have hl6:=(Gx h6)
    exact (hon.block n6 (Zll hl6 hb.size) fun e => e.elim hn6.1 hn6.2).trans (below_block h6 hb)
end
end Go.Proofs.YtmmmkjhpmlfopaaGreatDoor
