/- N1 N2 N3 N4 N5 N6 -/
import Derived.Lib.AppendStr
import Derived.Lib.SmallJoins
import Derived.Test.YtbfjmccpcbhljaaGreatDoorTM146
set_option maxHeartbeats 8000000
set_option maxRecDepth 100000
namespace Go.Proofs.YtbfjmccpcbhljaaGreatDoor
open Go.RowKit
structure LA (w0 w : World) (P M : Nat) (bs : List UInt8) : Prop where
 low : w0.heap.size ≤ P
 kept : ∀ g,g < w0.heap.size → w.heap[g]? = w0.heap[g]?
 mem : ∃ ka kc,w.heap[P]? = some (.cells #[.slice ka bs.length kc] 42 (0,0)) ∧ w.ownsRow (P + 1) 5 1 (.slice ka bs.length kc) bs.length (bv bs) ∧ M = ((Value.slice ka bs.length kc).ownBlock).getD P

def Zl (P M k : Nat) : Prop:=k = P ∨ k = M

theorem LA.lt {w0 w : World} {P M : Nat} {bs : List UInt8} (h : LA w0 w P M bs) : P < w.heap.size:=by
 obtain ⟨_,_,h1,_⟩:=h.mem
 exact (Gx h1)

theorem LA.ltM {w0 w : World} {P M : Nat} {bs : List UInt8} (h : LA w0 w P M bs) : M < w.heap.size:=by
 have hP:=h.lt
 obtain ⟨ka,kc,h1,h5,rfl⟩:=h.mem
 cases hb : (Value.slice ka bs.length kc).ownBlock with
 | none => exact hP
 | some b => exact (h5.lt b hb).2

theorem LA.keep {w0 w W : World} {P M : Nat} {bs : List UInt8} (h : LA w0 w P M bs) (hk : ∀ k,k ≤ P → W.heap[k]? = w.heap[k]?) (hM : W.heap[M]? = w.heap[M]?) : LA w0 W P M bs:=by
 have hl:=h.low
 refine ⟨h.low,fun g hg => (hk g (by omega)).trans (h.kept g hg),?_⟩
 obtain ⟨ka,kc,h1,h5,rfl⟩:=h.mem
 refine ⟨ka,kc,(hk P (Nat.le_refl _)).trans h1,own_kept h5 fun b hb => ?_,rfl⟩
 rw [hb] at hM
 exact hM

theorem LA.later {w0 w W : World} {P M : Nat} {bs : List UInt8} (h : LA w0 w P M bs) (hb : Below w.heap.size w W) : LA w0 W P M bs:=h.keep (fun k hk => hb.block k (Nat.lt_of_le_of_lt hk h.lt)) (hb.block M h.ltM)

theorem LA.set {w0 w : World} {P M : Nat} {bs : List UInt8} (h : LA w0 w P M bs) {p : Addr} (hp : P < p.block) (hM : p.block ≠ M) (u : Value) : LA w0 (w.setCell p u) P M bs:=h.keep (fun _ hk => Below.heap_setCell _ _ _ _ (fun e => by omega)) (Below.heap_setCell _ _ _ _ (fun e => hM e.symm))

theorem Only.zl {P M M1 : Nat} {a b c : World} (h : Only (Zl P M) a b) (hm : M1 = M ∨ a.heap.size ≤ M1) (k : Only (Zl P M1) b c) : Only (Zl P M) a c :=
 ⟨k.os.trans h.os,k.tape.trans h.tape,k.output.trans h.output,Nat.le_trans h.size k.size,fun i hi hz => (k.block i (Nat.lt_of_lt_of_le hi h.size) fun z => hz (by
  rcases z with z | z
  ·exact Or.inl z
  ·rcases hm with e | e
   ·exact Or.inr (z.trans e)
   ·omega)).trans (h.block i hi hz)⟩

structure Ly (k : Nat) (x a b : List UInt8) : Prop where
 short : (a ++ x).length ≤ 1000 → b = a ++ x
 long : 1000 < (a ++ x).length → 1000 < b.length
 size : b.length ≤ max a.length 1000 + k

structure Le (k : Nat) (x a b : List UInt8) : Prop extends Ly k x a b where
 none : 1000 < a.length → b = a

theorem Ly.nil (a : List UInt8) (k : Nat) : Ly k [] a a:=⟨fun _ => by simp,fun h => by simpa using h,by omega⟩

theorem Ly.lay {k : Nat} {x a b : List UInt8} (h : Ly k x a b) (y : List UInt8) : Ly (k + y.length) (x ++ y) a (b ++ y):=by
 refine ⟨fun q => ?_,fun q => ?_,?_⟩
 ·rw [h.short (by simp only [List.length_append] at q ⊢; omega)]
  simp
 ·by_cases c : (a ++ x).length ≤ 1000
  ·rw [h.short c]
   simp only [List.length_append] at q ⊢
   omega
  ·have:=h.long (by omega)
   simp only [List.length_append]
   omega
 ·have:=h.size
  simp only [List.length_append]
  omega

theorem Ly.le {k k2 : Nat} {x y a b c : List UInt8} (h : Ly k x a b) (g : Le k2 y b c) : Ly (max k k2) (x ++ y) a c:=by
 refine ⟨fun q => ?_,fun q => ?_,?_⟩
 ·have e:=h.short (by simp only [List.length_append] at q ⊢; omega)
  rw [g.short (by rw [e]; simp only [List.length_append] at q ⊢; omega),e]
  simp
 ·by_cases d : (a ++ x).length ≤ 1000
  ·have e:=h.short d
   exact g.long (by rw [e]; simp only [List.length_append] at q ⊢; omega)
  ·exact g.long (by have:=h.long (by omega); simp only [List.length_append]; omega)
 ·have h1:=h.size
  have h2:=g.size
  by_cases d : 1000 < b.length
  ·rw [g.none d]
   omega
  ·omega

theorem Ly.more {k k2 : Nat} {x a b : List UInt8} (h : Ly k x a b) (hk : k ≤ k2) : Ly k2 x a b:=⟨h.short,h.long,by have:=h.size; omega⟩

theorem Le.over {k : Nat} {x a : List UInt8} (h : 1000 < a.length) : Le k x a a:=⟨⟨fun q => by simp only [List.length_append] at q; omega,fun _ => h,by omega⟩,fun _ => rfl⟩

theorem Ly.of {k : Nat} {x a b : List UInt8} (h : Ly k x a b) (hs : a.length ≤ 1000) : Le k x a b:=⟨h,fun q => by omega⟩

def LP (w0 : World) (R : List UInt8 → Prop) (P M : Nat) (w : World) (e : Ending) (w' : World) : Prop:=∃ M' bs',e = .returned (.tuple #[]) ∧ LA w0 w' P M' bs' ∧ R bs' ∧ Only (Zl P M) w w' ∧ (M' = M ∨ w.heap.size ≤ M')

structure Al (w0 wS : World) (P M0 M : Nat) (bs : List UInt8) (L : List (Nat × Obj)) (w : World) : Prop where
 low : P < wS.heap.size
 lowM : M0 < wS.heap.size
 la : LA w0 w P M bs
 only : Only (Zl P M0) wS w
 mm : M = M0 ∨ wS.heap.size ≤ M
 has : ∀ x ∈ L,wS.heap.size ≤ x.1 ∧ x.1 ≠ M ∧ w.heap[x.1]? = some x.2
 nodup : (L.map Prod.fst).Nodup

theorem Al.start {w0 w : World} {P M : Nat} {bs : List UInt8} (h : LA w0 w P M bs) : Al w0 w P M M bs [] w:=⟨h.lt,h.ltM,h,Only.refl _ _,Or.inl rfl,fun _ h => absurd h (by simp),List.nodup_nil⟩

theorem Al.lt {w0 wS w : World} {P M0 M : Nat} {bs : List UInt8} {L : List (Nat × Obj)} (h : Al w0 wS P M0 M bs L w) {g : Nat} (hg : g ∈ L.map Prod.fst) : g < w.heap.size:=by
 obtain ⟨x,hx,rfl⟩:=List.mem_map.1 hg
 exact (Array.getElem?_eq_some_iff.1 (h.has x hx).2.2).1

theorem Al.call {w0 wS w w' : World} {P M0 M M' : Nat} {bs bs' : List UInt8} {L : List (Nat × Obj)} (h : Al w0 wS P M0 M bs L w) (ho : Only (Zl P M) w w') (hm : M' = M ∨ w.heap.size ≤ M') (hp : LA w0 w' P M' bs') : Al w0 wS P M0 M' bs' L w':=by
 have hlow:=h.low
 have hsz:=h.only.size
 refine ⟨h.low,h.lowM,hp,h.only.zl h.mm ho,?_,fun x hx => ?_,h.nodup⟩
 ·rcases hm with rfl | hm
  ·exact h.mm
  ·exact Or.inr (Nat.le_trans hsz hm)
 ·obtain ⟨h1,h2,h3⟩:=h.has x hx
  have hl:=(Gx h3)
  refine ⟨h1,fun e => ?_,(ho.block x.1 hl fun z => ?_).trans h3⟩
  ·rcases hm with rfl | hm
   ·exact h2 e
   ·omega
  ·rcases z with z | z
   ·omega
   ·exact h2 z

theorem Al.bel {w0 wS w w' : World} {P M0 M : Nat} {bs : List UInt8} {L : List (Nat × Obj)} (h : Al w0 wS P M0 M bs L w) (hb : Below w.heap.size w w') : Al w0 wS P M0 M bs L w':=h.call (Only.of hb) (Or.inl rfl) (h.la.later hb)

theorem Al.push {w0 wS w : World} {P M0 M : Nat} {bs : List UInt8} {L : List (Nat × Obj)} (h : Al w0 wS P M0 M bs L w) (cs : Array Value) (t : TypeId) : ∃ W,w.alloc (.cells cs t) = W ∧ Hid (Al w0 wS P M0 M bs ((w.heap.size,.cells cs t (0,0)) :: L) W):=by
 have hb : Below w.heap.size w (w.alloc (.cells cs t)):=(Below.refl _ _).alloc (Nat.le_refl _) _
 have k:=h.bel hb
 refine ⟨_,rfl,h.low,h.lowM,k.la,k.only,k.mm,?_,?_⟩
 ·intro x hx
  rcases List.mem_cons.1 hx with rfl | hx
  ·exact ⟨h.only.size,Nat.ne_of_gt h.la.ltM,heap_alloc_new w _⟩
  ·exact k.has x hx
 ·rw [List.map_cons,List.nodup_cons]
  refine ⟨fun m => ?_,h.nodup⟩
  have:=h.lt m
  simp at this

theorem Al.at {w0 wS w : World} {P M0 M : Nat} {bs : List UInt8} {L : List (Nat × Obj)} (h : Al w0 wS P M0 M bs L w) (k : Nat) {b : Nat} {o : Obj} (hk : L[k]? = some (b,o)) : w.heap[b]? = some o:=(h.has _ (List.mem_of_getElem? hk)).2.2

theorem Al.off {w0 wS w : World} {P M0 M : Nat} {bs : List UInt8} {L : List (Nat × Obj)} (h : Al w0 wS P M0 M bs L w) (k : Nat) {b : Nat} {o : Obj} (hk : L[k]? = some (b,o)) : b ≠ P ∧ b ≠ M ∧ b < w.heap.size ∧ P < b:=by
 have hx:=h.has _ (List.mem_of_getElem? hk)
 have hl:=(Gx hx.2.2)
 have hlow:=h.low
 exact ⟨by omega,hx.2.1,hl,by omega⟩

theorem Al.drop {w0 wS w : World} {P M0 M : Nat} {bs : List UInt8} {L : List (Nat × Obj)} {x : Nat × Obj} (h : Al w0 wS P M0 M bs (x :: L) w) : Al w0 wS P M0 M bs L w:=⟨h.low,h.lowM,h.la,h.only,h.mm,fun y hy => h.has y (List.mem_cons_of_mem _ hy),by have:=h.nodup; rw [List.map_cons,List.nodup_cons] at this; exact this.2⟩

theorem Al.lp {w0 wS w : World} {P M0 M : Nat} {bs : List UInt8} {L : List (Nat × Obj)} {R : List UInt8 → Prop} (h : Al w0 wS P M0 M bs L w) (hr : R bs) : LP w0 R P M0 wS (.returned (.tuple #[])) w:=⟨M,bs,rfl,h.la,hr,h.only,h.mm⟩

theorem Tryz.infoU8 : (Tryz.prog.info? 5).map (fun i => (i.zero,i.size,i.bytes)) = some (some (.int .u8 0),1,1):=by kernel_rfl

theorem app_where {P : Program} {w w' : World} {base n : Nat} {t u ty e : TypeId} {i : TypeInfo} (ht : P.underlying t = some (.slice e)) (hu : P.underlying u = some .string) (hi : P.info? e = some i) (hz : i.zero = some (.int .u8 0)) (hsize : i.size = 1) (hby : i.bytes = 1)
  {v v' : Value} {xs : List Value} (hown : w.ownsRow base e 1 v n xs) {s : ByteArray} (hb : n + s.size ≤ 140737488355328) (hr : (Builtin.append_ #[t,u] ty #[v,.string s]).run P w = .ok v' w') : v'.ownBlock = v.ownBlock ∨ v'.ownBlock = some w.heap.size:=by
 have hxl : xs.length = n:=by simpa using hown.1
 rcases hown.2 with ⟨rfl,rfl⟩ | ⟨g,cap,cur,rfl,hbg,hg,hnc,hcm,hcs,htake⟩
 ·by_cases hm : s.size = 0
  ·have hf:=Lib.run_firstCells_string (P:=P) w 1 s
   rw [hm] at hf
   have : (Builtin.append_ #[t,u] ty #[.slice none 0 0,.string s]).run P w = .ok (.slice none 0 0) w:=by
    simp [Builtin.append_,run_underlying ht,run_underlying hu,sizeOf,typeInfo,hi,hsize,Builtin.lenOf,hm,hf]
   rw [this] at hr
   injection hr with a b
   subst a
   exact Or.inl rfl
  ·rw [run_append_nil_string (P:=P) w t u ty e i (.int .u8 0) ht hu hi hz s (by omega) (by omega) (by rw [hby]; omega)] at hr
   injection hr with a b
   subst a
   exact Or.inr rfl
 ·by_cases hroom : n + s.size ≤ cap
  ·have hcs' : cur.size = cap:=by simpa using hcs
   rw [Lib.run_append_room_string (P:=P) w t u ty e i ht hu hi hsize g n cap cur hg s hroom (by omega)] at hr
   injection hr with a b
   subst a
   exact Or.inl rfl
  ·have holds : ∀ j u,xs[j]? = some u → w.cell? ((⟨g,0,none⟩ : Addr).add j) = some u:=hown.cells (g:=g) rfl
   rw [Lib.run_append_grow_string (P:=P) w t u ty e i (.int .u8 0) ht hu hi hz ⟨g,0,none⟩ n cap xs (by rw [hsize]; simpa using hxl) holds s (by omega) (by omega) (by rw [hby]; exact growslice_fits (by omega) (by omega))] at hr
   injection hr with a b
   subst a
   exact Or.inr rfl

theorem wpList_append_where {P : Program} {w : World} {ops : Array Oper} {rest : List Oper} {o : Oper} {a : Act} {Q : Exit → Act → World → Prop} (hgd : o.guard = none) (sl x : Operand) (t u : TypeId)
  (ho : o.op = .call { callee:=.builtin .append,args:=#[sl,x],argTypes:=#[t,u] })
  (base : Nat) (e : TypeId) (i : TypeInfo) (ht : P.underlying t = some (.slice e)) (hu : P.underlying u = some .string) (hi : P.info? e = some i) (hz : i.zero = some (.int .u8 0)) (hsize : i.size = 1) (hby : i.bytes = 1)
  (v : Value) (n : Nat) (xs : List Value) (hs : a.eval sl = v) (hown : w.ownsRow base e 1 v n xs) (s : ByteArray) (hx : a.eval x = .string s)
  (hbytes : n + s.size ≤ 140737488355328) (hbase : base ≤ w.heap.size)
  (h : ∀ v' w',w'.ownsRow base e 1 v' (n + s.size) (xs ++ Lib.strCells s) → w.grownBy w' v.ownBlock → (v'.ownBlock = v.ownBlock ∨ v'.ownBlock = some w.heap.size) → wpList P ops Q rest (a.put o.dst v') w') : wpList P ops Q (o :: rest) a w:=by
 refine wpList_plain hgd fun K hK => ?_
 obtain ⟨v',w',hr,h2,h3,_⟩:=Lib.run_append_own_string (P:=P) w base t u o.type e i ht hu hi hz hsize hby v n xs hown s (by unfold maxLen; omega) hbytes hbase
 unfold Oper.wp execOp
 simp only [ho,resolve,invoke,builtin,Sem.run_bind,Sem.run_pure,Result.andThen_ok,List.map_toArray,List.map_cons,List.map_nil,hs,hx,hr]
 exact hK _ _ (h v' w' h2 h3 (app_where ht hu hi hz hsize hby hown hbytes hr))

theorem own_formL {w : World} {B n size : Nat} {t : TypeId} {v : Value} {xs : List Value} (h : w.ownsRow B t size v n xs) : ∃ p c,v = .slice p n c:=by
 rcases Joins.ownsRow_forms h with ⟨e,e2⟩ | ⟨g,cap,e⟩
 ·exact ⟨none,0,by rw [e,e2]⟩
 ·exact ⟨_,_,e⟩

theorem LA.appP {w w2 : World} {P n : Nat} {v : Value} {xs : List Value} {o : Obj} (hr : w.ownsRow (P + 1) 5 1 v n xs) (hP : w.heap[P]? = some o) (hg : w.grownBy w2 v.ownBlock) : w2.heap[P]? = some o:=(hg.block P (Gx hP) fun e => by have:=(hr.lt P e.symm).1; omega).trans hP

theorem LA.appC {w w2 : World} {P n : Nat} {v u : Value} {xs : List Value} {t : TypeId} (hr : w.ownsRow (P + 1) 5 1 v n xs) (hP : w.heap[P]? = some (.cells #[u] t (0,0))) (hg : w.grownBy w2 v.ownBlock) : w2.cell? ⟨P,0,none⟩ = some u ∧ w2.frozen? ⟨P,0,none⟩ = false:=by
 have h:=LA.appP hr hP hg
 exact ⟨by simp [World.cell?,h],by simp [World.frozen?,h]⟩

theorem LA.app {w0 w w2 : World} {P M : Nat} {bs : List UInt8} {ka : Option Addr} {kc : Nat} (h : LA w0 w P M bs) (h1 : w.heap[P]? = some (.cells #[.slice ka bs.length kc] 42 (0,0))) (hr : w.ownsRow (P + 1) 5 1 (.slice ka bs.length kc) bs.length (bv bs)) (hM : M = ((Value.slice ka bs.length kc).ownBlock).getD P) {v : Value} {s : ByteArray}
  (ho : w2.ownsRow (P + 1) 5 1 v (bs.length + s.size) (bv bs ++ Lib.strCells s)) (hg : w.grownBy w2 (Value.slice ka bs.length kc).ownBlock) (hw : v.ownBlock = (Value.slice ka bs.length kc).ownBlock ∨ v.ownBlock = some w.heap.size) :
  ∃ M',LA w0 (w2.setCell ⟨P,0,none⟩ v) P M' (bs ++ s.data.toList) ∧ Only (Zl P M) w (w2.setCell ⟨P,0,none⟩ v) ∧ (M' = M ∨ w.heap.size ≤ M'):=by
 have hlow:=h.low
 have hPl:=h.lt
 have hlen : (bs ++ s.data.toList).length = bs.length + s.size:=by simp
 have hcell : bv bs ++ Lib.strCells s = bv (bs ++ s.data.toList):=by rw [bv_append]; rfl
 have hnP : (Value.slice ka bs.length kc).ownBlock ≠ some P:=fun e => by have:=(hr.lt P e).1; omega
 have hP2 : w2.heap[P]? = some (.cells #[.slice ka bs.length kc] 42 (0,0)):=(hg.block P hPl fun e => hnP e.symm).trans h1
 have hP3:=set_at (i:=0) hP2 v
 have hv : ∃ ka' kc',v = .slice ka' (bs ++ s.data.toList).length kc':=by
  rcases Joins.ownsRow_forms ho with ⟨e,e2⟩ | ⟨g,cap,e⟩
  ·exact ⟨none,0,by rw [e,hlen,e2]⟩
  ·exact ⟨_,_,by rw [e,hlen]⟩
 obtain ⟨ka',kc',rfl⟩:=hv
 refine ⟨((Value.slice ka' (bs ++ s.data.toList).length kc').ownBlock).getD P,⟨hlow,fun g hgl => ?_,ka',kc',?_,?_,rfl⟩,⟨?_,?_,?_,?_,fun k hk hz => ?_⟩,?_⟩
 ·rw [set_off _ (by omega),hg.block g (by omega) fun e => by have:=(hr.lt g e.symm).1; omega]
  exact h.kept g hgl
 ·exact hP3
 ·rw [hcell,← hlen] at ho
  exact own_kept ho fun b hb => set_off _ (by have:=(ho.lt b hb).1; omega)
 ·exact hg.os
 ·exact hg.tape
 ·exact hg.output
 ·rw [set_size]
  exact hg.size
 ·rw [set_off _ (fun e => hz (Or.inl e))]
  exact hg.block k hk fun e => hz (Or.inr (by rw [hM,← e]; rfl))
 ·rcases hw with e | e
  ·rw [e,← hM]
   exact Or.inl rfl
  ·rw [e]
   exact Or.inr (Nat.le_refl _)

def cat (ws : List ByteArray) : List UInt8:=(ws.map fun x => x.data.toList).flatten

theorem cat_take (ws : List ByteArray) (k : Nat) (h : k < ws.length) : cat (ws.take (k + 1)) = cat (ws.take k) ++ ws[k].data.toList:=by
 unfold cat
 rw [List.take_succ_eq_append_getElem h,List.map_append,List.flatten_append]
 simp

theorem cat_len (ws : List ByteArray) (k : Nat) : (cat (ws.take k)).length ≤ (cat ws).length:=by
 have : cat ws = cat (ws.take k) ++ cat (ws.drop k):=by
  unfold cat
  rw [← List.flatten_append,← List.map_append,List.take_append_drop]
 rw [this,List.length_append]
 omega

def Wds (w : World) (b : Nat) (l : List ByteArray) : Prop:=∀ i (h : i < l.length),w.cell? ⟨b,i,none⟩ = some (.string l[i])

theorem tooLong_any (w0 : World) (P M : Nat) (bs : List UInt8) (w : World) (h : LA w0 w P M bs) (hl : bs.length ≤ 140737488355328) : Calls Tryz.prog 15 #[.pointer (some ⟨P,0,none⟩)] w fun e w' => e = .returned (.bool (decide (1000 < bs.length))) ∧ w' = w:=by
 obtain ⟨ka,kc,h1,-,-⟩:=h.mem
 have c0 : w.cell? ⟨P,0,none⟩ = some (.slice ka bs.length kc):=by simp [World.cell?,h1]
 clear h1 h
 by_cases q : 1000 < bs.length
 ·have qi : (1000 : Int) < (bs.length : Int):=by omega
  have HD : Hid (decide (1000 < bs.length) = true):=by show _ = _; simp [q]
  clear q
  go_enter Tryz.func15,Tryz.ntmps15
  go_wp2
  exact bodyPost_ret (v:=.bool true) (by simp [results,Tryz.results15,go_sem]) rfl ⟨by rw [HD.out],rfl⟩
 ·have qi : ¬ ((1000 : Int) < (bs.length : Int)):=by omega
  have HD : Hid (decide (1000 < bs.length) = false):=by show _ = _; simp [q]
  clear q
  go_enter Tryz.func15,Tryz.ntmps15
  go_wp2
  exact bodyPost_ret (v:=.bool false) (by simp [results,Tryz.results15,go_sem]) rfl ⟨by rw [HD.out],rfl⟩

theorem lay_any (w0 : World) (P M : Nat) (bs : List UInt8) (b : Nat) (ws : List ByteArray) (cap : Nat) (w : World) (h : LA w0 w P M bs) (hw : Wds w b ws) (hb : b < w.heap.size) (hbP : b ≠ P) (hbM : b ≠ M) (hlen : ws.length ≤ 100) (hbd : bs.length + (cat ws).length ≤ 1099511627776) : Calls Tryz.prog 34 #[.pointer (some ⟨P,0,none⟩),.slice (some ⟨b,0,none⟩) ws.length cap] w (LP w0 (fun b' => b' = bs ++ cat ws) P M w):=by
 have HP:=Lib.hid h
 have HL:=Lib.hid hw
 have hPw:=h.lt
 obtain ⟨i0,hi,hz0,hz1,hz2⟩:=info_parts Tryz.infoU8
 clear h hw
 go_enter Tryz.func34,Tryz.ntmps34
 go_wp2
 go_loopw [8] (fun i wr => ∃ (k M' : Nat),k ≤ ws.length ∧ i = .int .i64 (k : Int) ∧ LA w0 wr P M' (bs ++ cat (ws.take k)) ∧ Only (Zl P M) w wr ∧ (M' = M ∨ w.heap.size ≤ M')) (fun i _ => ws.length - (intOf i).toNat)
 case atStart => exact ⟨0,M,Nat.zero_le _,rfl,by simpa [cat] using HP.out,Only.refl _ _,Or.inl rfl⟩
 case round =>
  obtain ⟨k,M',hk,rfl,hla,ho,hm⟩:=hrel
  have HO:=Lib.hid ho
  have HM:=Lib.hid hm
  have HA:=Lib.hid hla
  clear ho hm
  by_cases hlt : k < ws.length
  ·have hlti : (k : Int) < (ws.length : Int):=by omega
   have c0:=(World.cell?_of_block (a:=⟨b,k,none⟩) (HO.out.block b hb fun z => by rcases z with z | z; exact hbP z; exact hbM z)).trans (HL.out k hlt)
   have HC:=Lib.hid (cat_take ws k hlt)
   have hcl:=cat_len ws (k + 1)
   rw [HC.out,List.length_append] at hcl
   obtain ⟨x,hx⟩ : ∃ x,ws[k] = x:=⟨_,rfl⟩
   rw [hx] at c0 HC hcl
   clear hx
   have hxs : x.data.toList.length = x.size:=by simp
   obtain ⟨ka,kc,h1,hr,hM⟩:=hla.mem
   have hPl:=hla.lt
   have hbl : (bs ++ cat (ws.take k)).length = bs.length + (cat (ws.take k)).length:=by simp
   obtain ⟨cs,hcs⟩ : ∃ cs,bs ++ cat (ws.take k) = cs:=⟨_,rfl⟩
   rw [hcs] at h1 hr hM hbl HA
   have HCS:=Lib.hid hcs
   have p0 : wr.cell? ⟨P,0,none⟩ = some (.slice ka cs.length kc):=by simp [World.cell?,h1]
   have pf : wr.frozen? ⟨P,0,none⟩ = false:=by simp [World.frozen?,h1]
   have H1:=Lib.hid h1
   have HR:=Lib.hid hr
   have HMM:=Lib.hid hM
   have hfit : cs.length + x.size ≤ 1099511627776:=by omega
   clear hla hcs h1 hr hM hbl hxs hcl hbd
   go_wp2_with (first | (at_builtin; refine wpList_append_where rfl _ _ 40 9 rfl (P + 1) 5 i0 Tryz.underlying40 Tryz.underlying9 hi hz0 hz1 hz2 (.slice ka cs.length kc) cs.length (bv cs) rfl HR.out x rfl (by omega) (by omega) ?_; intro v2 w2 hown hg hwh; obtain ⟨ka2,kc2,rfl⟩:=own_formL hown; obtain ⟨p2,pf2⟩:=LA.appC HR.out H1.out hg))
   obtain ⟨M2,hl2,ho2,hm2⟩:=HA.out.app H1.out HR.out HMM.out hown hg hwh
   have HL2:=Lib.hid hl2
   have HO2:=Lib.hid (HO.out.zl HM.out ho2)
   have hsz:=HO.out.size
   have HM2 : Hid (M2 = M ∨ w.heap.size ≤ M2):=hm2.elim (fun e => by rw [e]; exact HM.out) (fun e => Or.inr (Nat.le_trans hsz e))
   go_roundw
   case rel => exact ⟨k + 1,M2,by omega,by go_num,by rw [HC.out,← List.append_assoc,HCS.out]; exact HL2.out,HO2.out,HM2.out⟩
   case measure => simp [intOf]; omega
  ·have hk' : k = ws.length:=by omega
   subst hk'
   rw [List.take_length] at HA
   clear hla hbd
   go_wp2
   go_end0
   exact ⟨M',_,rfl,HA.out,rfl,HO.out,HM.out⟩

theorem prank_any (kk oo v1 v2 : Int) (v3 tt nn : ByteArray) (ks : List Ex) (pp : Int) (a : Option Addr) (m c : Nat) (ho : kk = 5 → 1 ≤ oo) (w : World) : Calls Tryz.prog 107 #[.agg #[.int .i64 kk,.int .i64 oo,.int .i64 v1,.int .i64 v2,.string v3,.string tt,.string nn,.slice a m c,.int .i64 pp]] w fun e w' => e = .returned (.int .i64 (rankX (.mk kk oo (v1,v2,v3) tt nn ks pp) : Int)) ∧ Below w.heap.size w w':=by
 obtain ⟨r,hr⟩ : ∃ r,rankX (.mk kk oo (v1,v2,v3) tt nn ks pp) = r:=⟨_,rfl⟩
 rw [hr]
 replace hr : (if kk = 10 then 1 else if kk = 9 then 2 else if kk = 8 then 3 else if kk = 6 ∨ kk = 7 then 4 else if kk = 5 then (if oo ≤ 2 then 5 else 6) else 7) = r:=hr
 obtain ⟨W,hW⟩ : ∃ W,w.alloc (.cells #[.int .i64 kk,.int .i64 oo,.int .i64 v1,.int .i64 v2,.string v3,.string tt,.string nn,.slice a m c,.int .i64 pp] 49) = W:=⟨_,rfl⟩
 have hb : Below w.heap.size w W:=hW ▸ (Below.refl _ _).alloc (Nat.le_refl _) _
 have hn : W.heap[w.heap.size]? = some (.cells #[.int .i64 kk,.int .i64 oo,.int .i64 v1,.int .i64 v2,.string v3,.string tt,.string nn,.slice a m c,.int .i64 pp] 49 (0,0)):=hW ▸ heap_alloc_new w _
 have HB:=Lib.hid hb
 obtain ⟨⟨y0,y1,y2,y3,y4,y5,y6,y7,y8⟩,-⟩:=nine_of hn
 clear hb hn
 by_cases q10 : kk = 10
 ·subst q10
  rw [if_pos rfl] at hr
  subst hr
  clear ho
  go_enter Tryz.func107,Tryz.ntmps107
  go_wp2
  exact bodyPost_ret (v:=.int .i64 1) (by simp [results,Tryz.results107,go_sem]) rfl ⟨rfl,by (try rw [hW]); exact HB.out⟩
 by_cases q9 : kk = 9
 ·subst q9
  rw [if_neg (by decide),if_pos rfl] at hr
  clear q10
  subst hr
  clear ho
  go_enter Tryz.func107,Tryz.ntmps107
  go_wp2
  exact bodyPost_ret (v:=.int .i64 2) (by simp [results,Tryz.results107,go_sem]) rfl ⟨rfl,by (try rw [hW]); exact HB.out⟩
 by_cases q8 : kk = 8
 ·subst q8
  rw [if_neg (by decide),if_neg (by decide),if_pos rfl] at hr
  clear q10 q9
  subst hr
  clear ho
  go_enter Tryz.func107,Tryz.ntmps107
  go_wp2
  exact bodyPost_ret (v:=.int .i64 3) (by simp [results,Tryz.results107,go_sem]) rfl ⟨rfl,by (try rw [hW]); exact HB.out⟩
 by_cases q6 : kk = 6
 ·subst q6
  rw [if_neg (by decide),if_neg (by decide),if_neg (by decide),if_pos (by decide)] at hr
  clear q10 q9 q8
  subst hr
  clear ho
  go_enter Tryz.func107,Tryz.ntmps107
  go_wp2
  exact bodyPost_ret (v:=.int .i64 4) (by simp [results,Tryz.results107,go_sem]) rfl ⟨rfl,by (try rw [hW]); exact HB.out⟩
 by_cases q7 : kk = 7
 ·subst q7
  rw [if_neg (by decide),if_neg (by decide),if_neg (by decide),if_pos (by decide)] at hr
  clear q10 q9 q8 q6
  subst hr
  clear ho
  go_enter Tryz.func107,Tryz.ntmps107
  go_wp2
  exact bodyPost_ret (v:=.int .i64 4) (by simp [results,Tryz.results107,go_sem]) rfl ⟨rfl,by (try rw [hW]); exact HB.out⟩
 by_cases q5 : kk = 5
 ·subst q5
  rw [if_neg (by decide),if_neg (by decide),if_neg (by decide),if_neg (by decide),if_pos rfl] at hr
  clear q10 q9 q8 q6 q7
  have ho1:=ho rfl
  by_cases o1 : oo = 1
  ·subst o1
   rw [if_pos (by decide)] at hr
   clear ho1
   subst hr
   clear ho
   go_enter Tryz.func107,Tryz.ntmps107
   go_wp2
   exact bodyPost_ret (v:=.int .i64 5) (by simp [results,Tryz.results107,go_sem]) rfl ⟨rfl,by (try rw [hW]); exact HB.out⟩
  by_cases o2 : oo = 2
  ·subst o2
   rw [if_pos (by decide)] at hr
   clear ho1 o1
   subst hr
   clear ho
   go_enter Tryz.func107,Tryz.ntmps107
   go_wp2
   exact bodyPost_ret (v:=.int .i64 5) (by simp [results,Tryz.results107,go_sem]) rfl ⟨rfl,by (try rw [hW]); exact HB.out⟩
  rw [if_neg (by omega)] at hr
  have n1 : (oo == 1) = false:=by simp; omega
  have n2 : (oo == 2) = false:=by simp; omega
  clear ho1 o1 o2
  subst hr
  clear ho
  go_enter Tryz.func107,Tryz.ntmps107
  go_wp2
  exact bodyPost_ret (v:=.int .i64 6) (by simp [results,Tryz.results107,go_sem]) rfl ⟨rfl,by (try rw [hW]); exact HB.out⟩
 rw [if_neg q10,if_neg q9,if_neg q8,if_neg (by omega),if_neg q5] at hr
 have n10 : (kk == 10) = false:=by simp; omega
 have n9 : (kk == 9) = false:=by simp; omega
 have n8 : (kk == 8) = false:=by simp; omega
 have n6 : (kk == 6) = false:=by simp; omega
 have n7 : (kk == 7) = false:=by simp; omega
 have n5 : (kk == 5) = false:=by simp; omega
 clear q10 q9 q8 q6 q7 q5
 subst hr
 clear ho
 go_enter Tryz.func107,Tryz.ntmps107
 go_wp2
 exact bodyPost_ret (v:=.int .i64 7) (by simp [results,Tryz.results107,go_sem]) rfl ⟨rfl,by (try rw [hW]); exact HB.out⟩

theorem arithSign_any (op : Int) (w : World) : Calls Tryz.prog 138 #[.int .i64 op] w fun e w' => e = .returned (.string (ofL (ariS op))) ∧ w' = w:=by
 obtain ⟨r,hr⟩ : ∃ r,ofL (ariS op) = r:=⟨_,rfl⟩
 rw [hr]
 unfold ariS at hr
 by_cases q1 : op = 1
 ·subst q1
  rw [if_pos rfl] at hr
  have hr : (⟨#[43]⟩ : ByteArray) = r:=hr
  subst hr
  go_enter Tryz.func138,Tryz.ntmps138
  go_wp2
  exact bodyPost_ret (v:=.string ⟨#[43]⟩) (by simp [results,Tryz.results138,go_sem]) rfl ⟨rfl,rfl⟩
 by_cases q2 : op = 2
 ·subst q2
  rw [if_neg (by decide),if_pos rfl] at hr
  clear q1
  have hr : (⟨#[45]⟩ : ByteArray) = r:=hr
  subst hr
  go_enter Tryz.func138,Tryz.ntmps138
  go_wp2
  exact bodyPost_ret (v:=.string ⟨#[45]⟩) (by simp [results,Tryz.results138,go_sem]) rfl ⟨rfl,rfl⟩
 by_cases q3 : op = 3
 ·subst q3
  rw [if_neg (by decide),if_neg (by decide),if_pos rfl] at hr
  clear q1 q2
  have hr : (⟨#[42]⟩ : ByteArray) = r:=hr
  subst hr
  go_enter Tryz.func138,Tryz.ntmps138
  go_wp2
  exact bodyPost_ret (v:=.string ⟨#[42]⟩) (by simp [results,Tryz.results138,go_sem]) rfl ⟨rfl,rfl⟩
 by_cases q4 : op = 4
 ·subst q4
  rw [if_neg (by decide),if_neg (by decide),if_neg (by decide),if_pos rfl] at hr
  clear q1 q2 q3
  have hr : (⟨#[47]⟩ : ByteArray) = r:=hr
  subst hr
  go_enter Tryz.func138,Tryz.ntmps138
  go_wp2
  exact bodyPost_ret (v:=.string ⟨#[47]⟩) (by simp [results,Tryz.results138,go_sem]) rfl ⟨rfl,rfl⟩
 rw [if_neg q1,if_neg q2,if_neg q3,if_neg q4] at hr
 have n1 : (op == 1) = false:=by simp; omega
 have n2 : (op == 2) = false:=by simp; omega
 have n3 : (op == 3) = false:=by simp; omega
 have n4 : (op == 4) = false:=by simp; omega
 clear q1 q2 q3 q4
 have hr : (⟨#[37]⟩ : ByteArray) = r:=hr
 subst hr
 go_enter Tryz.func138,Tryz.ntmps138
 go_wp2
 exact bodyPost_ret (v:=.string ⟨#[37]⟩) (by simp [results,Tryz.results138,go_sem]) rfl ⟨rfl,rfl⟩

theorem compareSign_any (op : Int) (w : World) : Calls Tryz.prog 139 #[.int .i64 op] w fun e w' => e = .returned (.string (ofL (cmpS op))) ∧ w' = w:=by
 obtain ⟨r,hr⟩ : ∃ r,ofL (cmpS op) = r:=⟨_,rfl⟩
 rw [hr]
 unfold cmpS at hr
 by_cases q1 : op = 1
 ·subst q1
  rw [if_pos rfl] at hr
  have hr : (⟨#[61]⟩ : ByteArray) = r:=hr
  subst hr
  go_enter Tryz.func139,Tryz.ntmps139
  go_wp2
  exact bodyPost_ret (v:=.string ⟨#[61]⟩) (by simp [results,Tryz.results139,go_sem]) rfl ⟨rfl,rfl⟩
 by_cases q2 : op = 2
 ·subst q2
  rw [if_neg (by decide),if_pos rfl] at hr
  clear q1
  have hr : (⟨#[60,62]⟩ : ByteArray) = r:=hr
  subst hr
  go_enter Tryz.func139,Tryz.ntmps139
  go_wp2
  exact bodyPost_ret (v:=.string ⟨#[60,62]⟩) (by simp [results,Tryz.results139,go_sem]) rfl ⟨rfl,rfl⟩
 by_cases q3 : op = 3
 ·subst q3
  rw [if_neg (by decide),if_neg (by decide),if_pos rfl] at hr
  clear q1 q2
  have hr : (⟨#[60]⟩ : ByteArray) = r:=hr
  subst hr
  go_enter Tryz.func139,Tryz.ntmps139
  go_wp2
  exact bodyPost_ret (v:=.string ⟨#[60]⟩) (by simp [results,Tryz.results139,go_sem]) rfl ⟨rfl,rfl⟩
 by_cases q4 : op = 4
 ·subst q4
  rw [if_neg (by decide),if_neg (by decide),if_neg (by decide),if_pos rfl] at hr
  clear q1 q2 q3
  have hr : (⟨#[60,61]⟩ : ByteArray) = r:=hr
  subst hr
  go_enter Tryz.func139,Tryz.ntmps139
  go_wp2
  exact bodyPost_ret (v:=.string ⟨#[60,61]⟩) (by simp [results,Tryz.results139,go_sem]) rfl ⟨rfl,rfl⟩
 by_cases q5 : op = 5
 ·subst q5
  rw [if_neg (by decide),if_neg (by decide),if_neg (by decide),if_neg (by decide),if_pos rfl] at hr
  clear q1 q2 q3 q4
  have hr : (⟨#[62]⟩ : ByteArray) = r:=hr
  subst hr
  go_enter Tryz.func139,Tryz.ntmps139
  go_wp2
  exact bodyPost_ret (v:=.string ⟨#[62]⟩) (by simp [results,Tryz.results139,go_sem]) rfl ⟨rfl,rfl⟩
 rw [if_neg q1,if_neg q2,if_neg q3,if_neg q4,if_neg q5] at hr
 have n1 : (op == 1) = false:=by simp; omega
 have n2 : (op == 2) = false:=by simp; omega
 have n3 : (op == 3) = false:=by simp; omega
 have n4 : (op == 4) = false:=by simp; omega
 have n5 : (op == 5) = false:=by simp; omega
 clear q1 q2 q3 q4 q5
 have hr : (⟨#[62,61]⟩ : ByteArray) = r:=hr
 subst hr
 go_enter Tryz.func139,Tryz.ntmps139
 go_wp2
 exact bodyPost_ret (v:=.string ⟨#[62,61]⟩) (by simp [results,Tryz.results139,go_sem]) rfl ⟨rfl,rfl⟩

theorem LA.cell {w0 w : World} {P M : Nat} {bs : List UInt8} (h : LA w0 w P M bs) {a : Addr} {u : Value} (hc : w0.cell? a = some u) : w.cell? a = some u:=(World.cell?_of_block (h.kept a.block (World.block_lt_of_cell? _ _ hc))).trans hc

theorem var_kept {w w' : World} {nm : String} {cs : Array Value} (h : w.var? Tryz.prog nm = some cs) (hk : ∀ g,g < w.heap.size → w'.heap[g]? = w.heap[g]?) : w'.var? Tryz.prog nm = some cs:=by
 unfold World.var? at h ⊢
 cases hg : Tryz.prog.globalNamed nm with
 | none => simp [hg] at h
 | some g =>
  simp only [hg,Option.bind_some] at h ⊢
  have hlt : g < w.heap.size:=by
   rcases Nat.lt_or_ge g w.heap.size with h' | h'
   ·exact h'
   ·rw [Array.getElem?_eq_none h'] at h; simp at h
  rw [hk g hlt]
  exact h

theorem LA.sv {w0 w : World} {P M : Nat} {bs : List UInt8} (h : LA w0 w P M bs) (hv : SV w0) : SV w:=by
 obtain ⟨a,⟨tp,p,b⟩,⟨tq,q,c⟩⟩:=hv
 exact ⟨var_kept a h.kept,⟨tp,p,var_kept b h.kept⟩,⟨tq,q,var_kept c h.kept⟩⟩

theorem Al.lay {w0 wS w : World} {P M0 M : Nat} {bs : List UInt8} {L : List (Nat × Obj)} {b : Nat} {t : TypeId} (ws : List ByteArray) {n : Nat} (hn : ws.length = n) (h : Al w0 wS P M0 M bs ((b,.cells (ws.map Value.string).toArray t (0,0)) :: L) w) (h3 : n ≤ 3) (hl : bs.length + (cat ws).length ≤ 1099511627776) : Calls Tryz.prog 34 #[.pointer (some ⟨P,0,none⟩),.slice (some ⟨b,0,none⟩) n n] w fun e w' => e = .returned (.tuple #[]) ∧ ∃ M',Al w0 wS P M0 M' (bs ++ cat ws) L w':=by
 subst hn
 obtain ⟨o1,o2,o3,o4⟩:=h.off 0 rfl
 have hb:=h.at 0 rfl
 refine (lay_any w0 P M bs b ws ws.length w h.la (fun i hi => ?_) o3 o1 o2 (by omega) hl).mono ?_
 ·simp [World.cell?,hb,hi]
 ·rintro e w' ⟨M',bs',rfl,hla,rfl,ho,hm⟩
  exact ⟨rfl,M',h.drop.call ho hm hla⟩

def XC (n : Nat) : Prop:=∀ (e : Ex),dpr n e = false → RtE e → ∀ (w0 : World) (k : Value),SV w0 → XR w0 e k → ∀ (need P M : Nat) (bs : List UInt8) (w : World),need ≤ 7 → LA w0 w P M bs → bs.length ≤ 549755813888 → Calls Tryz.prog 75 #[.pointer (some ⟨P,0,none⟩),.agg (exC e k).toArray,.int .i64 (need : Int)] w (LP w0 (Le (1200 * n) (xE need e) bs) P M w)

theorem kid_use {n : Nat} (hx : XC n) {kk oo : Int} {v : V3} {tt nn : ByteArray} {es : List Ex} {pp : Int} {w0 : World} (hv : SV w0) {k : Value} (h : XR w0 (.mk kk oo v tt nn es pp) k) (i : Nat) (hi : i < es.length) (hd : dpr n es[i] = false) (hr : RtE es[i]) :
  ∃ b off c k1 o1 x1 x2 x3 t1 n1 a1 m1 c1 p1,k = .slice (some ⟨b,off,none⟩) es.length c ∧ es.length ≤ c ∧ kindOf es[i] = k1 ∧ (∀ j u,[.int .i64 k1,.int .i64 o1,.int .i64 x1,.int .i64 x2,.string x3,.string t1,.string n1,.slice a1 m1 c1,.int .i64 p1][j]? = some u → w0.cell? ⟨b,off + i * 9 + j,none⟩ = some u) ∧
  ∀ (need P M : Nat) (bs : List UInt8) (w : World),need ≤ 7 → LA w0 w P M bs → bs.length ≤ 549755813888 → Calls Tryz.prog 75 #[.pointer (some ⟨P,0,none⟩),.agg #[.int .i64 k1,.int .i64 o1,.int .i64 x1,.int .i64 x2,.string x3,.string t1,.string n1,.slice a1 m1 c1,.int .i64 p1],.int .i64 (need : Int)] w (LP w0 (Le (1200 * n) (xE need es[i]) bs) P M w):=by
 cases h with
 | mk ks h1 hc hm h2 h3 =>
  have hi' : i < ks.length:=by omega
  obtain ⟨b,off,rfl,hcs⟩:=h2 i hi hi'
  have hxr:=h3 i hi hi'
  obtain ⟨a1,m1,c1,hk⟩:=hxr.slice
  have hu:=hx es[i] hd hr w0 ks[i] hv hxr
  rw [hk] at hcs hu
  obtain ⟨⟨k1,o1,⟨x1,x2,x3⟩,t1,n1,ks1,p1⟩,he⟩ : ∃ x,es[i] = x:=⟨_,rfl⟩
  rw [he] at hcs hu ⊢
  exact ⟨b,off,_,k1,o1,x1,x2,x3,t1,n1,a1,m1,c1,p1,rfl,hc,rfl,hcs,hu⟩

theorem xE_one (e : Ex) : xE 1 e = xB e:=by
 unfold xE xwr
 rw [if_neg (by cases e; unfold rankX; simp only; split <;> (try split) <;> (try split) <;> (try split) <;> (try split) <;> (try split) <;> omega)]

theorem Ly.layN {k : Nat} {x a b : List UInt8} (h : Ly k x a b) (y : List UInt8) {n : Nat} (hn : y.length ≤ n) : Ly (k + n) (x ++ y) a (b ++ y):=(h.lay y).more (by omega)

theorem Ly.conv {k k2 : Nat} {x y a b : List UInt8} (h : Ly k x a b) (hk : k ≤ k2) (hx : x = y) : Ly k2 y a b:=hx ▸ h.more hk

def Lays (w0 : World) (f : FuncId) (args : Array Value) (c : Nat) (x : List UInt8) (P : Nat) : Prop:=∀ (M : Nat) (bs : List UInt8) (w : World),LA w0 w P M bs → bs.length ≤ 549755813888 → Calls Tryz.prog f args w (LP w0 (Le c x bs) P M w)

theorem pcolumn_any (w0 : World) (P M : Nat) (bs : List UInt8) (w : World) (h : LA w0 w P M bs) (hbs : bs.length ≤ 100000) (kk oo v1 v2 : Int) (v3 tt nn : ByteArray) (a : Option Addr) (m c : Nat) (pp : Int) (ht : tt.size ≤ 16) (hn : nn.size ≤ 16) : Calls Tryz.prog 135 #[.pointer (some ⟨P,0,none⟩),.agg #[.int .i64 kk,.int .i64 oo,.int .i64 v1,.int .i64 v2,.string v3,.string tt,.string nn,.slice a m c,.int .i64 pp]] w (LP w0 (Ly 40 (if tt = ⟨#[]⟩ then nn.data.toList else tt.data.toList ++ 46 :: nn.data.toList) bs) P M w):=by
 have HA:=Lib.hid (Al.start h)
 have HLy:=Lib.hid (Ly.nil bs 0)
 clear h
 obtain ⟨W1,hW1,HA⟩:=HA.out.push #[.int .i64 kk,.int .i64 oo,.int .i64 v1,.int .i64 v2,.string v3,.string tt,.string nn,.slice a m c,.int .i64 pp] 49
 obtain ⟨⟨y0,y1,y2,y3,y4,y5,y6,y7,y8⟩,-⟩:=nine_of (HA.out.at 0 rfl)
 by_cases q : tt = ⟨#[]⟩
 ·subst q
  rw [if_pos rfl]
  go_enter Tryz.func135,Tryz.ntmps135
  obtain ⟨W2,hW2,HA⟩:=HA.out.push #[.string nn] 9
  go_wp2_with fail
  clear hW1 hW2
  have hz:=HLy.out.size
  have hc : (cat [nn]).length ≤ 16:=by simp [cat]; omega
  refine (HA.out.lay [nn] (n:=1) rfl (by decide) (by omega)).mono ?_
  rintro e w3 ⟨rfl,M3,hA⟩
  replace HA:=Lib.hid hA
  replace HLy:=Lib.hid (HLy.out.layN (cat [nn]) hc)
  clear hA hz hc
  go_wp2
  go_end0
  exact HA.out.lp (HLy.out.conv (by omega) (by simp [cat]))
 ·obtain ⟨z1,z2⟩:=not_nil q
  rw [if_neg q]
  clear q
  go_enter Tryz.func135,Tryz.ntmps135
  obtain ⟨W2,hW2,HA⟩:=HA.out.push #[.string tt,.string ⟨#[46]⟩] 9
  go_wp2_with fail
  clear hW1 hW2
  have hz:=HLy.out.size
  have hc : (cat [tt,⟨#[46]⟩]).length ≤ 17:=by simp [cat]; omega
  refine (HA.out.lay [tt,⟨#[46]⟩] (n:=2) rfl (by decide) (by omega)).mono ?_
  rintro e w3 ⟨rfl,M3,hA⟩
  replace HA:=Lib.hid hA
  replace HLy:=Lib.hid (HLy.out.layN (cat [tt,⟨#[46]⟩]) hc)
  clear hA hz hc
  obtain ⟨⟨y0,y1,y2,y3,y4,y5,y6,y7,y8⟩,-⟩:=nine_of (HA.out.at 0 rfl)
  obtain ⟨W4,hW4,HA⟩:=HA.out.push #[.string nn] 9
  go_wp2_with fail
  clear hW4
  have hz:=HLy.out.size
  have hc : (cat [nn]).length ≤ 16:=by simp [cat]; omega
  refine (HA.out.lay [nn] (n:=1) rfl (by decide) (by omega)).mono ?_
  rintro e w5 ⟨rfl,M5,hA⟩
  replace HA:=Lib.hid hA
  replace HLy:=Lib.hid (HLy.out.layN (cat [nn]) hc)
  clear hA hz hc
  go_wp2
  go_end0
  exact HA.out.lp (HLy.out.conv (by omega) (by simp [cat]))

theorem pneg_two (w0 : World) (P M : Nat) (bs : List UInt8) (w : World) (h : LA w0 w P M bs) (hbs : bs.length ≤ 100000) (o1 x1 x2 : Int) (x3 t1 n1 : ByteArray) (a1 : Option Addr) (m1 c1 : Nat) (p1 : Int) (d : Nat) (hd : d ≤ 100000) (x : List UInt8) (hx : Lays w0 75 #[.pointer (some ⟨P,0,none⟩),.agg #[.int .i64 4,.int .i64 o1,.int .i64 x1,.int .i64 x2,.string x3,.string t1,.string n1,.slice a1 m1 c1,.int .i64 p1],.int .i64 7] d x P) : Calls Tryz.prog 136 #[.pointer (some ⟨P,0,none⟩),.agg #[.int .i64 4,.int .i64 o1,.int .i64 x1,.int .i64 x2,.string x3,.string t1,.string n1,.slice a1 m1 c1,.int .i64 p1]] w (LP w0 (Ly (d + 2) (45 :: 32 :: x) bs) P M w):=by
 have HA:=Lib.hid (Al.start h)
 have HLy:=Lib.hid (Ly.nil bs 0)
 clear h
 have HX:=Lib.hid hx
 clear hx
 obtain ⟨W1,hW1,HA⟩:=HA.out.push #[.int .i64 4,.int .i64 o1,.int .i64 x1,.int .i64 x2,.string x3,.string t1,.string n1,.slice a1 m1 c1,.int .i64 p1] 49
 obtain ⟨⟨y0,y1,y2,y3,y4,y5,y6,y7,y8⟩,-⟩:=nine_of (HA.out.at 0 rfl)
 go_enter Tryz.func136,Tryz.ntmps136
 obtain ⟨W2,hW2,HA⟩:=HA.out.push #[.string ⟨#[45]⟩] 9
 go_wp2_with fail
 clear hW1 hW2
 have hz:=HLy.out.size
 have hc : (cat [⟨#[45]⟩]).length ≤ 1:=by simp [cat]
 refine (HA.out.lay [⟨#[45]⟩] (n:=1) rfl (by decide) (by omega)).mono ?_
 rintro e w3 ⟨rfl,M3,hA⟩
 replace HA:=Lib.hid hA
 replace HLy:=Lib.hid (HLy.out.layN (cat [⟨#[45]⟩]) hc)
 clear hA hz hc
 clear y0 y1 y2 y3 y4 y5 y6 y7 y8
 obtain ⟨⟨y0,y1,y2,y3,y4,y5,y6,y7,y8⟩,-⟩:=nine_of (HA.out.at 0 rfl)
 obtain ⟨W4,hW4,HA⟩:=HA.out.push #[.string ⟨#[32]⟩] 9
 go_wp2_with fail
 clear hW4
 have hz:=HLy.out.size
 have hc : (cat [⟨#[32]⟩]).length ≤ 1:=by simp [cat]
 refine (HA.out.lay [⟨#[32]⟩] (n:=1) rfl (by decide) (by omega)).mono ?_
 rintro e w5 ⟨rfl,M5,hA⟩
 replace HA:=Lib.hid hA
 replace HLy:=Lib.hid (HLy.out.layN (cat [⟨#[32]⟩]) hc)
 clear hA hz hc
 clear y0 y1 y2 y3 y4 y5 y6 y7 y8
 obtain ⟨⟨y0,y1,y2,y3,y4,y5,y6,y7,y8⟩,-⟩:=nine_of (HA.out.at 0 rfl)
 go_wp2_with fail
 have hz:=HLy.out.size
 refine (HX.out _ _ _ HA.out.la (by omega)).mono ?_
 rintro e w6 ⟨M6,b6,rfl,hla,hle,ho,hm⟩
 replace HA:=Lib.hid (HA.out.call ho hm hla)
 replace HLy:=Lib.hid (HLy.out.le hle)
 clear hla hle ho hm hz
 go_wp2
 go_end0
 exact HA.out.lp (HLy.out.conv (by omega) (by simp [cat]))

theorem pneg_one (w0 : World) (P M : Nat) (bs : List UInt8) (w : World) (h : LA w0 w P M bs) (hbs : bs.length ≤ 100000) (k1 o1 x1 x2 : Int) (x3 t1 n1 : ByteArray) (a1 : Option Addr) (m1 c1 : Nat) (p1 : Int) (hk : k1 ≠ 4) (d : Nat) (hd : d ≤ 100000) (x : List UInt8) (hx : Lays w0 75 #[.pointer (some ⟨P,0,none⟩),.agg #[.int .i64 k1,.int .i64 o1,.int .i64 x1,.int .i64 x2,.string x3,.string t1,.string n1,.slice a1 m1 c1,.int .i64 p1],.int .i64 7] d x P) : Calls Tryz.prog 136 #[.pointer (some ⟨P,0,none⟩),.agg #[.int .i64 k1,.int .i64 o1,.int .i64 x1,.int .i64 x2,.string x3,.string t1,.string n1,.slice a1 m1 c1,.int .i64 p1]] w (LP w0 (Ly (d + 2) (45 :: x) bs) P M w):=by
 have HA:=Lib.hid (Al.start h)
 have HLy:=Lib.hid (Ly.nil bs 0)
 clear h
 have HX:=Lib.hid hx
 have n4 : (k1 == 4) = false:=by simp; omega
 clear hx
 obtain ⟨W1,hW1,HA⟩:=HA.out.push #[.int .i64 k1,.int .i64 o1,.int .i64 x1,.int .i64 x2,.string x3,.string t1,.string n1,.slice a1 m1 c1,.int .i64 p1] 49
 obtain ⟨⟨y0,y1,y2,y3,y4,y5,y6,y7,y8⟩,-⟩:=nine_of (HA.out.at 0 rfl)
 go_enter Tryz.func136,Tryz.ntmps136
 obtain ⟨W2,hW2,HA⟩:=HA.out.push #[.string ⟨#[45]⟩] 9
 go_wp2_with fail
 clear hW1 hW2
 have hz:=HLy.out.size
 have hc : (cat [⟨#[45]⟩]).length ≤ 1:=by simp [cat]
 refine (HA.out.lay [⟨#[45]⟩] (n:=1) rfl (by decide) (by omega)).mono ?_
 rintro e w3 ⟨rfl,M3,hA⟩
 replace HA:=Lib.hid hA
 replace HLy:=Lib.hid (HLy.out.layN (cat [⟨#[45]⟩]) hc)
 clear hA hz hc
 clear y0 y1 y2 y3 y4 y5 y6 y7 y8
 obtain ⟨⟨y0,y1,y2,y3,y4,y5,y6,y7,y8⟩,-⟩:=nine_of (HA.out.at 0 rfl)
 go_wp2_with fail
 have hz:=HLy.out.size
 refine (HX.out _ _ _ HA.out.la (by omega)).mono ?_
 rintro e w4 ⟨M4,b4,rfl,hla,hle,ho,hm⟩
 replace HA:=Lib.hid (HA.out.call ho hm hla)
 replace HLy:=Lib.hid (HLy.out.le hle)
 clear hla hle ho hm hz
 go_wp2
 go_end0
 exact HA.out.lp (HLy.out.conv (by omega) (by simp [cat]))

theorem pwhole_any (w0 : World) (P M : Nat) (bs : List UInt8) (w : World) (h : LA w0 w P M bs) (hbs : bs.length ≤ 549755813888) (k1 o1 x1 x2 : Int) (x3 t1 n1 : ByteArray) (a1 : Option Addr) (m1 c1 : Nat) (p1 : Int) (d : Nat) (x : List UInt8) (hx : Lays w0 75 #[.pointer (some ⟨P,0,none⟩),.agg #[.int .i64 k1,.int .i64 o1,.int .i64 x1,.int .i64 x2,.string x3,.string t1,.string n1,.slice a1 m1 c1,.int .i64 p1],.int .i64 1] d x P) : Calls Tryz.prog 36 #[.pointer (some ⟨P,0,none⟩),.agg #[.int .i64 k1,.int .i64 o1,.int .i64 x1,.int .i64 x2,.string x3,.string t1,.string n1,.slice a1 m1 c1,.int .i64 p1]] w (LP w0 (Le d x bs) P M w):=by
 have HA:=Lib.hid (Al.start h)
 have HX:=Lib.hid (hx M bs)
 clear h hx
 obtain ⟨W1,hW1,HA⟩:=HA.out.push #[.int .i64 k1,.int .i64 o1,.int .i64 x1,.int .i64 x2,.string x3,.string t1,.string n1,.slice a1 m1 c1,.int .i64 p1] 49
 obtain ⟨⟨y0,y1,y2,y3,y4,y5,y6,y7,y8⟩,-⟩:=nine_of (HA.out.at 0 rfl)
 go_enter Tryz.func36,Tryz.ntmps36
 go_wp2_with fail
 clear hW1
 refine (HX.out _ HA.out.la hbs).mono ?_
 rintro e w2 ⟨M2,b2,rfl,hla,hle,ho,hm⟩
 replace HA:=Lib.hid (HA.out.call ho hm hla)
 have HLE:=Lib.hid hle
 clear hla hle ho hm
 go_wp2
 go_end0
 exact HA.out.lp HLE.out

theorem overRows_any (w0 : World) (P M : Nat) (bs : List UInt8) (w : World) (h : LA w0 w P M bs) (hbs : bs.length ≤ 100000) (s : ByteArray) (hs : s.size ≤ 4) (k1 o1 x1 x2 : Int) (x3 t1 n1 : ByteArray) (a1 : Option Addr) (m1 c1 : Nat) (p1 : Int) (d : Nat) (hd : d ≤ 100000) (x : List UInt8) (hx : Lays w0 75 #[.pointer (some ⟨P,0,none⟩),.agg #[.int .i64 k1,.int .i64 o1,.int .i64 x1,.int .i64 x2,.string x3,.string t1,.string n1,.slice a1 m1 c1,.int .i64 p1],.int .i64 1] d x P) : Calls Tryz.prog 142 #[.pointer (some ⟨P,0,none⟩),.string s,.agg #[.int .i64 k1,.int .i64 o1,.int .i64 x1,.int .i64 x2,.string x3,.string t1,.string n1,.slice a1 m1 c1,.int .i64 p1]] w (LP w0 (Ly (d + 5) (s.data.toList ++ (x ++ [41])) bs) P M w):=by
 have HA:=Lib.hid (Al.start h)
 have HLy:=Lib.hid (Ly.nil bs 0)
 clear h
 have HX:=Lib.hid hx
 clear hx
 obtain ⟨W1,hW1,HA⟩:=HA.out.push #[.int .i64 k1,.int .i64 o1,.int .i64 x1,.int .i64 x2,.string x3,.string t1,.string n1,.slice a1 m1 c1,.int .i64 p1] 49
 obtain ⟨⟨y0,y1,y2,y3,y4,y5,y6,y7,y8⟩,-⟩:=nine_of (HA.out.at 0 rfl)
 go_enter Tryz.func142,Tryz.ntmps142
 obtain ⟨W2,hW2,HA⟩:=HA.out.push #[.string s] 9
 go_wp2_with fail
 clear hW1 hW2
 have hz:=HLy.out.size
 have hc : (cat [s]).length ≤ 4:=by simp [cat]; omega
 refine (HA.out.lay [s] (n:=1) rfl (by decide) (by omega)).mono ?_
 rintro e w3 ⟨rfl,M3,hA⟩
 replace HA:=Lib.hid hA
 replace HLy:=Lib.hid (HLy.out.layN (cat [s]) hc)
 clear hA hz hc
 clear y0 y1 y2 y3 y4 y5 y6 y7 y8
 obtain ⟨⟨y0,y1,y2,y3,y4,y5,y6,y7,y8⟩,-⟩:=nine_of (HA.out.at 0 rfl)
 go_wp2_with fail
 have hz:=HLy.out.size
 refine (pwhole_any w0 P _ _ _ HA.out.la (by omega) k1 o1 x1 x2 x3 t1 n1 a1 m1 c1 p1 d x HX.out).mono ?_
 rintro e w4 ⟨M4,b4,rfl,hla,hle,ho,hm⟩
 replace HA:=Lib.hid (HA.out.call ho hm hla)
 replace HLy:=Lib.hid (HLy.out.le hle)
 clear hla hle ho hm hz
 obtain ⟨W5,hW5,HA⟩:=HA.out.push #[.string ⟨#[41]⟩] 9
 go_wp2_with fail
 clear hW5
 have hz:=HLy.out.size
 have hc : (cat [⟨#[41]⟩]).length ≤ 1:=by simp [cat]
 refine (HA.out.lay [⟨#[41]⟩] (n:=1) rfl (by decide) (by omega)).mono ?_
 rintro e w6 ⟨rfl,M6,hA⟩
 replace HA:=Lib.hid hA
 replace HLy:=Lib.hid (HLy.out.layN (cat [⟨#[41]⟩]) hc)
 clear hA hz hc
 go_wp2
 go_end0
 exact HA.out.lp (HLy.out.conv (by omega) (by simp [cat]))

theorem Al.put {w0 wS w : World} {P M0 M : Nat} {bs : List UInt8} {L : List (Nat × Obj)} (h : Al w0 wS P M0 M bs L w) (k : Nat) {b : Nat} {cs : Array Value} {t : TypeId} (hk : L[k]? = some (b,.cells cs t (0,0))) (i : Nat) (v : Value) : Al w0 wS P M0 M bs (L.set k (b,.cells (cs.setIfInBounds i v) t (0,0))) (w.setCell ⟨b,i,none⟩ v):=by
 have hm:=List.mem_of_getElem? hk
 have hb:=h.has _ hm
 have hlow:=h.low
 have hmm:=map_set (o':=.cells (cs.setIfInBounds i v) t (0,0)) hk
 refine ⟨h.low,h.lowM,h.la.set (p:=⟨b,i,none⟩) (Nat.lt_of_lt_of_le hlow hb.1) hb.2.1 _,h.only.setNew (p:=⟨b,i,none⟩) hb.1 _,h.mm,?_,?_⟩
 ·intro x hx
  obtain ⟨j,hj⟩:=List.mem_iff_getElem?.1 hx
  rw [List.getElem?_set] at hj
  by_cases e : k = j
  ·rw [if_pos e] at hj
   split at hj
   ·injection hj with hj
    subst hj
    exact ⟨hb.1,hb.2.1,set_at hb.2.2 v⟩
   ·exact absurd hj (by simp)
  ·rw [if_neg e] at hj
   have hx':=h.has x (List.mem_of_getElem? hj)
   refine ⟨hx'.1,hx'.2.1,(set_off v fun eb => e ?_).trans hx'.2.2⟩
   have h1 : (L.map Prod.fst)[k]? = some b:=by simp [hk]
   have h2 : (L.map Prod.fst)[j]? = some b:=by simp [hj,eb]
   exact (List.getElem?_inj (List.getElem?_eq_some_iff.1 h1).1 h.nodup).1 (h1.trans h2.symm)
 ·rw [hmm]
  exact h.nodup

theorem Al.puts {w0 wS : World} {P M0 M : Nat} {bs : List UInt8} (k : Nat) {b : Nat} {t : TypeId} : ∀ (vs : List Value) {w : World} {L : List (Nat × Obj)} {cs : Array Value} (i : Nat),Al w0 wS P M0 M bs L w → L[k]? = some (b,.cells cs t (0,0)) → Al w0 wS P M0 M bs (L.set k (b,.cells (putsA cs i vs) t (0,0))) (setsL w b i vs)
 | [],w,L,cs,i,h,hk => by
  have e : L.set k (b,.cells (putsA cs i []) t (0,0)) = L:=by
   apply List.ext_getElem?
   intro j
   rw [List.getElem?_set]
   split
   ·rename_i e
    subst e
    rw [hk]
    simp [(List.getElem?_eq_some_iff.1 hk).1,putsA]
   ·rfl
  rw [e]
  exact h
 | v :: vs,w,L,cs,i,h,hk => by
  have h1:=h.put k hk i v
  have hl:=(List.getElem?_eq_some_iff.1 hk).1
  have h2:=Al.puts (b:=b) (t:=t) (cs:=cs.setIfInBounds i v) k vs (i + 1) h1 (by rw [List.getElem?_set]; simp [hl])
  rw [List.set_set] at h2
  exact h2

theorem Al.fill {w0 wS w : World} {P M0 M : Nat} {bs : List UInt8} {L : List (Nat × Obj)} (h : Al w0 wS P M0 M bs L w) (k : Nat) {b : Nat} {cs : Array Value} {t : TypeId} (hk : L[k]? = some (b,.cells cs t (0,0))) (vs : List Value) (hl : vs.length = cs.size) : ∃ W,setsL w b 0 vs = W ∧ Hid (Al w0 wS P M0 M bs (L.set k (b,.cells vs.toArray t (0,0))) W):=by
 have e : putsA cs 0 vs = vs.toArray:=by
  apply Array.toList_inj.1
  rw [putsA_list vs cs 0 (by omega)]
  simp [hl]
 have:=Al.puts k vs 0 h hk
 rw [e] at this
 exact ⟨_,rfl,this⟩

def laid {α : Type} (ah se : List UInt8) (f : α → List UInt8) (l : List α) : List UInt8:=(l.zipIdx.map fun x => (if x.2 = 0 then ah else se) ++ f x.1).flatten

theorem laid_nil {α : Type} (ah se : List UInt8) (f : α → List UInt8) : laid ah se f [] = []:=rfl

theorem laid_take {α : Type} (ah se : List UInt8) (f : α → List UInt8) (l : List α) (k : Nat) (h : k < l.length) : laid ah se f (l.take (k + 1)) = laid ah se f (l.take k) ++ (if k = 0 then ah else se) ++ f l[k]:=by
 unfold laid
 rw [List.take_succ_eq_append_getElem h,List.zipIdx_append,List.map_append,List.flatten_append]
 simp [Nat.min_eq_left (Nat.le_of_lt h)]
end Go.Proofs.YtbfjmccpcbhljaaGreatDoor
