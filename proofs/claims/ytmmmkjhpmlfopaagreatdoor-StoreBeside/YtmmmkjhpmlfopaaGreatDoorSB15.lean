/- O1 C3 M21 K1 C4 ZK3 W11 W12 -/
import Derived.Test.YtmmmkjhpmlfopaaGreatDoorSB14
import Derived.Laws.IdiomStrings
set_option maxHeartbeats 2000000
set_option maxRecDepth 100000
namespace Go.Proofs.YtmmmkjhpmlfopaaGreatDoor
open Go.RowKit
section
open Go.RowKit BB
structure TD where
 r : Nat
 t : TT.Tb
 P : Nat
 bs : Nat → Nat
 cq : Nat → Nat
 tp : Nat → Nat → Nat
 pb : Nat
 cp : Nat
 pc : Option Addr
 cc : Nat
 pk : Option Addr
 ck : Nat
 px : Option Addr
 cx : Nat
def TD.K (D : TD) : Nat:=D.t.ixs.length + 1
def TD.pv (D : TD) (p : Nat) : Value:=.slice (some ⟨D.bs p,0,none⟩) D.K (D.cq p)
def Grows (W W' : World) : Prop:=∀ (a : Addr) (v : Value),W.cell? a = some v → W'.cell? a = some v
theorem Grows.of {W W' : World} (hb : Below W.heap.size W W') : Grows W W':=fun a v h => by
 rw [hb.cell (World.block_lt_of_cell? _ _ h)]
 exact h
theorem Grows.put {W : World} {l : Nat} {o : Obj} (h : W.heap[l]? = some o) (hc : o.isCells = false) (o' : Obj) : Grows W (W.putObj l o'):=fun a v hv => by
 have hn : a.block ≠ l:=fun e => by
  subst e
  unfold World.cell? at hv
  rw [h] at hv
  cases o <;> simp_all [Obj.isCells]
 rw [World.cell?_of_block (World.putObj_heap_other hn)]
 exact hv
theorem rowR_grows {α : Type} {n : Nat} {R R' : α → List Value → Prop} {w w' : World} {a : Option Addr} {l : List α} (h : TT.RowR n R w a l) (hg : Grows w w') (hR : ∀ x vs,R x vs → R' x vs) : TT.RowR n R' w' a l:=by
 intro i hi
 obtain ⟨b,off,vs,e,h1,h2,h3⟩:=h i hi
 exact ⟨b,off,vs,e,hR _ _ h1,h2,fun j hj => hg _ _ (h3 j hj)⟩
theorem row_grows {w w' : World} {a : Option Addr} {vs : List V3} (h : Row w a vs) (hg : Grows w w') : Row w' a vs:=fun i hi => by
 obtain ⟨b,off,e,h0,h1,h2⟩:=h i hi
 exact ⟨b,off,e,hg _ _ h0,hg _ _ h1,hg _ _ h2⟩
structure Fix (W : World) (D : TD) : Prop where
 cells : ∀ i v,[Value.string D.t.nm,.slice D.pc D.t.cols.length D.cc,.slice D.pk D.t.key.length D.ck,.int .i64 D.t.part,.slice D.px D.t.ixs.length D.cx,.slice (some ⟨D.pb,0,none⟩) D.P D.cp][i]? = some v → W.cell? ⟨D.r,i,none⟩ = some v
 cols : TT.RowR 3 TT.ColR W D.pc D.t.cols
 key : TT.RowR 1 TT.IntR W D.pk D.t.key
 ixs : TT.RowR 3 (TT.IxR W) W D.px D.t.ixs
 parts : ∀ p,p < D.P → W.cell? ⟨D.pb,p,none⟩ = some (D.pv p)
 trees : ∀ p,p < D.P → ∀ j,j < D.K → W.cell? ⟨D.bs p,j,none⟩ = some (.pointer (some ⟨D.tp p j,0,none⟩))
theorem Fix.ex {W : World} {D : TD} (h : Fix W D) : ∃ pc cc pk ck px cx,(∀ i v,[Value.string D.t.nm,.slice pc D.t.cols.length cc,.slice pk D.t.key.length ck,.int .i64 D.t.part,.slice px D.t.ixs.length cx,.slice (some ⟨D.pb,0,none⟩) D.P D.cp][i]? = some v → W.cell? ⟨D.r,i,none⟩ = some v) ∧
  TT.RowR 3 TT.ColR W pc D.t.cols ∧ TT.RowR 1 TT.IntR W pk D.t.key ∧ TT.RowR 3 (TT.IxR W) W px D.t.ixs ∧ (∀ p,p < D.P → W.cell? ⟨D.pb,p,none⟩ = some (D.pv p)) ∧ ∀ p,p < D.P → ∀ j,j < D.K → W.cell? ⟨D.bs p,j,none⟩ = some (.pointer (some ⟨D.tp p j,0,none⟩)) :=
 ⟨D.pc,D.cc,D.pk,D.ck,D.px,D.cx,h.cells,h.cols,h.key,h.ixs,h.parts,h.trees⟩
theorem Fix.grows {w w' : World} {D : TD} (h : Fix w D) (hg : Grows w w') : Fix w' D:=by
 refine ⟨fun i v hv => hg _ _ (h.cells i v hv),rowR_grows h.cols hg fun _ _ h => h,rowR_grows h.key hg fun _ _ h => h,rowR_grows h.ixs hg fun x vs hx => ?_,fun p hp => hg _ _ (h.parts p hp),fun p hp j hj => hg _ _ (h.trees p hp j hj)⟩
 obtain ⟨p,cap,e,h⟩:=hx
 exact ⟨p,cap,e,rowR_grows h hg fun _ _ h => h⟩
theorem Fix.later {w w' : World} {D : TD} (h : Fix w D) (hb : Below w.heap.size w w') : Fix w' D:=h.grows (Grows.of hb)
theorem only_two {Z Z' : Nat → Prop} {a b c : World} (h : Only Z a b) (k : Only Z' b c) (hz : ∀ i,Z' i → Z i ∨ a.heap.size ≤ i) : Only Z a c :=
 ⟨k.os.trans h.os,k.tape.trans h.tape,k.output.trans h.output,Zlt h.size k.size,fun i hi hn => (k.block i (Zll hi h.size) fun q => (hz i q).elim hn Om).trans (h.block i hi hn)⟩
def FixZ (w : World) (Z : Nat → Prop) (D : TD) : Prop:=∀ W,Only Z w W → Fix W D
theorem FixZ.now {w : World} {Z : Nat → Prop} {D : TD} (h : FixZ w Z D) : Fix w D:=h w (Only.refl _ _)
theorem FixZ.next {w w' : World} {Z Z' : Nat → Prop} {D : TD} (h : FixZ w Z D) (ho : Only Z w w') (hz : ∀ i,Z' i → Z i ∨ w.heap.size ≤ i) : FixZ w' Z' D:=fun W hW => h W (only_two ho hW hz)
theorem FixZ.later {w w' : World} {Z : Nat → Prop} {D : TD} (h : FixZ w Z D) (hb : Below w.heap.size w w') : FixZ w' Z D:=h.next (Only.of hb) fun _ h => Or.inl h
structure Trs (w : World) (B : Nat) (Z : Nat → Prop) (D : TD) (R : Nat → Nat → List Row3) : Prop where
 tree : ∃ zp : Nat → Nat → Nat → Prop,(∀ p j k,p < D.P → j < D.K → zp p j k → Z k) ∧ (∀ p j p' j' k,p < D.P → j < D.K → p' < D.P → j' < D.K → zp p j k → zp p' j' k → p = p' ∧ j = j') ∧ ∀ p,p < D.P → ∀ j,j < D.K → ∃ l,TreeZ w B (zp p j) (D.tp p j) 32 l ∧ Holds l (SJ D.t D.P p j (R p j))
 lo : ∀ k,Z k → B ≤ k ∧ k < w.heap.size
theorem Trs.kept {w w' : World} {B : Nat} {Z Y : Nat → Prop} {D : TD} {R : Nat → Nat → List Row3} (h : Trs w B Z D R) (ho : Only Y w w') (hy : ∀ k,Z k → ¬ Y k) : Trs w' B Z D R:=by
 obtain ⟨⟨zp,h1,h2,h3⟩,h4⟩:=h
 refine ⟨⟨zp,h1,h2,fun p hp j hj => ?_⟩,fun k hk => ⟨(h4 k hk).1,Zll (h4 k hk).2 ho.size⟩⟩
 obtain ⟨l,a,b⟩:=h3 p hp j hj
 exact ⟨l,a.kept ho fun k hk => hy k (h1 p j k hp hj hk),b⟩
theorem Trs.later {w w' : World} {B : Nat} {Z : Nat → Prop} {D : TD} {R : Nat → Nat → List Row3} (h : Trs w B Z D R) (hb : Below w.heap.size w w') : Trs w' B Z D R:=h.kept (Y:=fun _ => False) (Only.of hb) fun _ _ h => h
theorem Trs.congr {w : World} {B : Nat} {Z : Nat → Prop} {D : TD} {R R' : Nat → Nat → List Row3} (h : Trs w B Z D R) (e : ∀ p,p < D.P → ∀ j,j < D.K → ∀ k v,SJ D.t D.P p j (R p j) k v ↔ SJ D.t D.P p j (R' p j) k v) : Trs w B Z D R':=by
 obtain ⟨⟨zp,h1,h2,h3⟩,h4⟩:=h
 refine ⟨⟨zp,h1,h2,fun p hp j hj => ?_⟩,h4⟩
 obtain ⟨l,a,b⟩:=h3 p hp j hj
 exact ⟨l,a,b.congr (e p hp j hj)⟩
def updR (R : Nat → Nat → List Row3) (p j : Nat) (rs : List Row3) : Nat → Nat → List Row3:=fun q i => if q = p ∧ i = j then rs else R q i
theorem updR_same (R : Nat → Nat → List Row3) (p j : Nat) (rs : List Row3) : updR R p j rs p j = rs:=if_pos ⟨rfl,rfl⟩
theorem updR_other {R : Nat → Nat → List Row3} {p j q i : Nat} {rs : List Row3} (h : ¬ (q = p ∧ i = j)) : updR R p j rs q i = R q i:=if_neg h
theorem Trs.step {w w' : World} {B : Nat} {Z : Nat → Prop} {D : TD} {R : Nat → Nat → List Row3} {zp : Nat → Nat → Nat → Prop} (h1 : ∀ p j k,p < D.P → j < D.K → zp p j k → Z k) (h2 : ∀ p j p' j' k,p < D.P → j < D.K → p' < D.P → j' < D.K → zp p j k → zp p' j' k → p = p' ∧ j = j')
  (h3 : ∀ p,p < D.P → ∀ j,j < D.K → ∃ l,TreeZ w B (zp p j) (D.tp p j) 32 l ∧ Holds l (SJ D.t D.P p j (R p j))) (h4 : ∀ k,Z k → B ≤ k ∧ k < w.heap.size) {p j : Nat} (hp : p < D.P) (hj : j < D.K) (ho : Only (zp p j) w w') {z' : Nat → Prop} {l' : List It} {rs : List Row3} (ht : TreeZ w' B z' (D.tp p j) 32 l') (hl : Holds l' (SJ D.t D.P p j rs)) (hz : ∀ k,z' k → zp p j k ∨ w.heap.size ≤ k) :
  Only Z w w' ∧ ∃ Z',Trs w' B Z' D (updR R p j rs) ∧ ∀ k,Z' k → Z k ∨ w.heap.size ≤ k:=by
 have hs:=ho.size
 have hB : B ≤ w.heap.size:=by
  obtain ⟨l,a,_⟩:=h3 p hp j hj
  exact a.lt
 refine ⟨ho.mono fun k => h1 p j k hp hj,fun k => (Z k ∨ w.heap.size ≤ k) ∧ k < w'.heap.size,⟨⟨fun q i k => if q = p ∧ i = j then z' k else zp q i k,fun q i k hq hi hk => ?_,fun q i q' i' k hq hi hq' hi' hk hk' => ?_,fun q hq i hi => ?_⟩,fun k hk => ⟨?_,hk.2⟩⟩,fun k hk => hk.1⟩
 ·by_cases c : q = p ∧ i = j
  ·simp only [if_pos c] at hk
   exact ⟨(hz k hk).imp (h1 p j k hp hj) id,(ht.lo k hk).2⟩
  ·simp only [if_neg c] at hk
   have:=h1 q i k hq hi hk
   exact ⟨Or.inl this,Zll (h4 k this).2 hs⟩
 ·by_cases c : q = p ∧ i = j <;> by_cases c' : q' = p ∧ i' = j
  ·exact ⟨c.1.trans c'.1.symm,c.2.trans c'.2.symm⟩
  ·simp only [if_pos c] at hk
   simp only [if_neg c'] at hk'
   rcases hz k hk with e | e
   ·obtain ⟨a,b⟩:=h2 p j q' i' k hp hj hq' hi' e hk'
    exact absurd ⟨a.symm,b.symm⟩ c'
   ·have:=(h4 k (h1 q' i' k hq' hi' hk')).2
    omega
  ·simp only [if_neg c] at hk
   simp only [if_pos c'] at hk'
   rcases hz k hk' with e | e
   ·obtain ⟨a,b⟩:=h2 p j q i k hp hj hq hi e hk
    exact absurd ⟨a.symm,b.symm⟩ c
   ·have:=(h4 k (h1 q i k hq hi hk)).2
    omega
  ·simp only [if_neg c] at hk
   simp only [if_neg c'] at hk'
   exact h2 q i q' i' k hq hi hq' hi' hk hk'
 ·by_cases c : q = p ∧ i = j
  ·obtain ⟨rfl,rfl⟩:=c
   simp only [and_self,if_true]
   rw [updR_same]
   exact ⟨l',ht,hl⟩
  ·simp only [if_neg c]
   rw [updR_other c]
   obtain ⟨l,a,b⟩:=h3 q hq i hi
   exact ⟨l,a.kept ho fun k hk hk' => c (h2 q i p j k hq hi hp hj hk hk'),b⟩
 ·rcases hk.1 with e | e
  ·exact (h4 k e).1
  ·omega
section
variable {w : World} {B : Nat} {Z : Nat → Prop} {D : TD} {R : Nat → Nat → List Row3}
def TurnP (w : World) (B : Nat) (Z : Nat → Prop) (D : TD) (R' : Nat → Nat → List Row3) (w' : World) : Prop:=Only Z w w' ∧ ∃ Z',Trs w' B Z' D R' ∧ ∀ k,Z' k → Z k ∨ w.heap.size ≤ k
theorem del_t (h : Trs w B Z D R) {p j : Nat} (hp : p < D.P) (hj : j < D.K) (hk : TabOk D.t (R p j)) (hn : (R p j).length ≤ 4000000000) {r : Row3} (hr : r ∈ R p j) (hh : homeR D.P D.t r = p) :
  Calls Tryz.prog 67 #[.pointer (some ⟨D.tp p j,0,none⟩),.string (skJ D.t j r)] w fun e w' => (∃ v,e = .returned v) ∧ TurnP w B Z D (updR R p j (dropR D.t (nmR D.t r) (R p j))) w':=by
 obtain ⟨⟨zp,h1,h2,h3⟩,h4⟩:=h
 obtain ⟨l,a,b⟩:=h3 p hp j hj
 have hc:=b.count
 refine (del_z w B (zp p j) (D.tp p j) 32 (skJ D.t j r) l a Om Om Om).mono ?_
 rintro e w' ⟨rfl,ho,z',ht',hz'⟩
 subst hh
 refine ⟨⟨_,rfl⟩,Trs.step h1 h2 h3 h4 hp hj ho ht' ((b.del (skJ D.t j r)).congr fun k v => (SJ_drop hk hr k v).symm) hz'⟩
def GotP (D : TD) (p : Nat) (rs : List Row3) (k : ByteArray) (e : Ending) : Prop:=(∃ r ∈ rs,homeR D.P D.t r = p ∧ nmR D.t r = k ∧ e = .returned (.tuple #[.string (rE r),.bool true])) ∨ ((∀ r ∈ rs,homeR D.P D.t r = p → nmR D.t r ≠ k) ∧ ∃ v,e = .returned (.tuple #[.string v,.bool false]))
theorem get_t (h : Trs w B Z D R) (ht : TR D.t) {p : Nat} (hp : p < D.P) (hk : TabOk D.t (R p 0)) (hn : (R p 0).length ≤ 4000000000) (k : ByteArray) :
  Calls Tryz.prog 83 #[.pointer (some ⟨D.tp p 0,0,none⟩),.string k] w fun e w' => Below w.heap.size w w' ∧ GotP D p (R p 0) k e:=by
 have hj : 0 < D.K:=Nat.succ_pos _
 obtain ⟨⟨zp,h1,h2,h3⟩,h4⟩:=h
 obtain ⟨l,a,b⟩:=h3 p hp 0 hj
 have hc:=b.count
 refine (get_z w B (zp p 0) (D.tp p 0) 32 k l a Om Om Om fun y hy => by have:=(b.sizes ht (Nat.zero_le _) hk y hy).2; omega).mono ?_
 rintro e w' ⟨hb,rfl⟩
 refine ⟨hb,?_⟩
 cases hf : foundL k l with
 | true =>
  obtain ⟨r,hr,e1,e2,e3⟩:=b.val hf
  refine Or.inl ⟨r,hr,e1,?_,?_⟩
  ·rw [e2]; rfl
  ·rw [e3]; rfl
 | false =>
  refine Or.inr ⟨fun r hr e1 e2 => ?_,_,rfl⟩
  have:=(b.found k).2 ⟨_,r,hr,e1,e2.symm,rfl⟩
  rw [hf] at this
  cases this
def ListP (D : TD) (p j : Nat) (rs : List Row3) (lo hi : ByteArray) (l : List It) : Prop:=Srt l ∧ (∀ x,x ∈ l ↔ x.kid = none ∧ SJ D.t D.P p j rs x.key x.val ∧ kl x.key lo = false ∧ untilB hi x.key = true) ∧ l.length ≤ rs.length
theorem list_t (h : Trs w B Z D R) (ht : TR D.t) {p j : Nat} (hp : p < D.P) (hj : j < D.K) (hk : TabOk D.t (R p j)) (hn : (R p j).length ≤ 4000000000) (lo hi : ByteArray) :
  Calls Tryz.prog 127 #[.pointer (some ⟨D.tp p j,0,none⟩),.string lo,.string hi,.int .i64 9223372036854775807] w fun e w' => Below w.heap.size w w' ∧ ∃ v,e = .returned v ∧ ∃ l,ListP D p j (R p j) lo hi l ∧ w'.ownsRow w.heap.size 152 2 v l.length (pc l):=by
 obtain ⟨⟨zp,h1,h2,h3⟩,h4⟩:=h
 obtain ⟨l,a,b⟩:=h3 p hp j hj
 have hc:=b.count
 refine (list_z w B (zp p j) (D.tp p j) 32 lo hi 9223372036854775807 l a Om Om Om fun y hy => by have:=b.sizes ht (Nat.le_of_lt_succ hj) hk y hy; omega).mono ?_
 rintro e w' ⟨hb,v,rfl,ho⟩
 refine ⟨hb,v,rfl,_,⟨listL_srt b.srt,fun x => ?_,Zlt listL_length hc⟩,ho⟩
 rw [mem_listL b.srt Om,b.mem,and_assoc]
end
structure Tab (w : World) (B : Nat) (Z : Nat → Prop) (D : TD) (rs : List Row3) : Prop where
 fix : FixZ w Z D
 trs : Trs w B Z D fun _ _ => rs
 ok : TabOk D.t rs
 tr : TR D.t
 parts : 1 ≤ D.P ∧ D.P ≤ 16
 cnt : rs.length ≤ 3000000000
theorem Tab.later {w w' : World} {B : Nat} {Z : Nat → Prop} {D : TD} {rs : List Row3} (h : Tab w B Z D rs) (hb : Below w.heap.size w w') : Tab w' B Z D rs:=⟨h.fix.later hb,h.trs.later hb,h.ok,h.tr,h.parts,h.cnt⟩
end
section
open Go Go.RowKit
theorem run_append_zero {P : Program} (w : World) (t ty e : TypeId) (i : TypeInfo) (ht : P.underlying t = some (.slice e)) (hi : P.info? e = some i) (base : Option Addr) (sLen sCap : Nat) (hle : sLen ≤ sCap) (a : Option Addr) (c : Nat) :
  (Builtin.append_ #[t,t] ty #[.slice base sLen sCap,.slice a 0 c]).run P w = .ok (.slice base sLen sCap) w:=by
 have hl : ∀ (x : Addr),(loadCells x 0).run P w = .ok #[] w:=fun x => by simpa using run_loadCells_list (P:=P) w x [] Si
 cases a <;> cases base <;> simp [Builtin.append_,run_underlying ht,sizeOf,typeInfo,hi,Builtin.lenOf,Builtin.firstCells,hle,storeCells,hl]
theorem wpList_append_whole {P : Program} (w : World) {ops : Array Oper} {rest : List Oper} {o : Oper} {a : Act} {Q : Exit → Act → World → Prop} (hgd : o.guard = none) (s x : Operand) (t : TypeId)
  (ho : o.op = .call { callee:=.builtin .append,args:=#[s,x],argTypes:=#[t,t] })
  (base : Nat) (e : TypeId) (i : TypeInfo) (z : Value) (size bytes : Nat) (ht : P.underlying t = some (.slice e)) (hi : P.info? e = some i) (hz : i.zero = some z)
  (hsize : i.size = size) (hby : i.bytes = bytes) (hzs : z.cells.size = size) (hsz : 0 < size)
  (v : Value) (n : Nat) (xs : List Value) (hs : a.eval s = v) (hown : w.ownsRow base e size v n xs)
  (sp : Option Addr) (m c : Nat) (news : List Value) (hx : a.eval x = .slice sp m c) (hl : news.length = m * size) (hnews : 0 < news.length → ∃ ad,sp = some ad ∧ ∀ j u,news[j]? = some u → w.cell? (ad.add j) = some u) (h1 : ∀ u ∈ news,u.oneCell' = true)
  (h63 : n + m ≤ maxLen) (hbytes : (n + m) * bytes ≤ 140737488355328) (hbase : base ≤ w.heap.size)
  (h : ∀ v' w',w'.ownsRow base e size v' (n + m) (xs ++ news) → w.grownBy w' v.ownBlock → wpList P ops Q rest (a.put o.dst v') w') : wpList P ops Q (o :: rest) a w:=by
 by_cases h0 : m = 0
 ·subst h0
  have hn0 : news = []:=List.eq_nil_of_length_eq_zero (by simpa using hl)
  subst hn0
  have hsl : ∃ b l k,v = .slice b l k ∧ l ≤ k:=by
   obtain ⟨_,⟨rfl,_⟩ | ⟨g,cap,_,rfl,_,_,hle,_⟩⟩:=hown
   ·exact ⟨none,0,0,rfl,Nat.le_refl _⟩
   ·exact ⟨_,_,_,rfl,hle⟩
  obtain ⟨b,l,k,rfl,hlk⟩:=hsl
  refine wpList_plain hgd fun K hK => ?_
  have hrun:=run_append_zero (P:=P) w t o.type e i ht hi b l k hlk sp c
  unfold Oper.wp
  simp [execOp,ho,resolve,invoke,builtin,hs,hx,hrun,Result.andThen]
  exact hK _ _ (h _ w (by simpa using hown) (World.grownBy.refl _ _))
 ·obtain ⟨ad,rfl,hc⟩:=hnews (by rw [hl]; exact Nat.mul_pos Om hsz)
  exact wpList_append_own w hgd s x t ho base e i z size bytes ht hi hz hsize hby hzs hsz v n xs hs hown ad m c news hx hl hc h1 h63 hbytes hbase fun v' w' g1 g2 _ => h v' w' g1 g2
end
def ordV3 (u v : V3) : Int:=ordV u.1 u.2.1 u.2.2 v.1 v.2.1 v.2.2
theorem ordV3_zero {u v : V3} (h : ordV3 u v = 0) : u = v:=by
 unfold ordV3 at h
 obtain ⟨a,b,c⟩:=(ordV_zero _ _ _ _ _ _).1 h
 rw [ByteArray.toList_eq,ByteArray.toList_eq] at c
 exact v3_ext a b (ba_ext c)
theorem ordV3_self (u : V3) : ordV3 u u = 0:=by unfold ordV3; exact (ordV_zero _ _ _ _ _ _).2 ⟨rfl,rfl,rfl⟩
def ordL : List V3 → List V3 → Int
 | [],[] => 0
 | [],_ :: _ => -1
 | _ :: _,[] => 1
 | u :: us,v :: vs => if ordV3 u v = 0 then ordL us vs else ordV3 u v
theorem ordL_zero : ∀ (us vs : List V3),ordL us vs = 0 → us = vs
 | [],[],_ => rfl
 | [],v :: vs,h => absurd h (by simp [ordL])
 | u :: us,[],h => absurd h (by simp [ordL])
 | u :: us,v :: vs,h => by
  rw [ordL] at h
  by_cases g : ordV3 u v = 0
  ·rw [if_pos g] at h
   rw [ordV3_zero g,ordL_zero us vs h]
  ·rw [if_neg g] at h; exact absurd h g
theorem ordL_self : ∀ us : List V3,ordL us us = 0
 | [] => rfl
 | u :: us => by rw [ordL,if_pos (ordV3_self u),ordL_self us]
theorem bl_cons (a b : UInt8) (x y : List UInt8) : Op.bytesLess (a :: x) (b :: y) = (decide (a < b) || (a == b && Op.bytesLess x y)):=rfl
def vl : List UInt8 → Nat
 | [] => 0
 | c :: l => c.toNat * 256 ^ l.length + vl l
def nxt (s : List UInt8) : List UInt8 × Bool:=match s.reverse.dropWhile (fun c => c == 255) with
 | [] => ([],false)
 | c :: p => (p.reverse ++ [c + 1],true)
theorem nxt_all {s : List UInt8} (h : ∀ c ∈ s,c = 255) : nxt s = ([],false):=by
 have e : s.reverse.dropWhile (fun c => c == 255) = []:=by
  have:=List.dropWhile_append_of_pos (p:=fun c : UInt8 => c == 255) (l₁:=s.reverse) (l₂:=[]) (by intro c hc; simpa using h c (by simpa using hc))
  simpa using this
 unfold nxt
 rw [e]
theorem nxt_some {p q : List UInt8} {c : UInt8} (hc : c ≠ 255) (hq : ∀ d ∈ q,d = 255) : nxt (p ++ c :: q) = (p ++ [c + 1],true):=by
 have e : (p ++ c :: q).reverse.dropWhile (fun c => c == 255) = c :: p.reverse:=by
  rw [List.reverse_append,List.reverse_cons,Zas,List.dropWhile_append_of_pos (by intro d hd; simpa using hq d (by simpa using hd))]
  rw [List.singleton_append,List.dropWhile_cons_of_neg (by simpa using hc)]
 unfold nxt
 rw [e]
 simp
theorem nxt_cases (s : List UInt8) : (∀ c ∈ s,c = 255) ∨ ∃ p c q,s = p ++ c :: q ∧ c ≠ 255 ∧ ∀ d ∈ q,d = 255:=by
 by_cases h : ∀ c ∈ s,c = 255
 ·exact Or.inl h
 ·right
  induction s with
  | nil => exact absurd Si h
  | cons a s ih =>
   by_cases g : ∀ c ∈ s,c = 255
   ·refine ⟨[],a,s,rfl,?_,g⟩
    intro e
    exact h (by intro c hc; rcases Zmc hc with rfl | hc; exact e; exact g c hc)
   ·obtain ⟨p,c,q,rfl,hc,hq⟩:=ih g
    exact ⟨a :: p,c,q,rfl,hc,hq⟩
theorem bl_all : ∀ (s t : List UInt8),(∀ c ∈ s,c = 255) → (s <+: t ↔ Op.bytesLess t s = false)
 | [],t,_ => by cases t <;> simp [Op.bytesLess]
 | c :: s,[],_ => by simp [Op.bytesLess]
 | c :: s,d :: t,h => by
  obtain rfl:=h c Si
  have ih:=bl_all s t (fun c hc => h c (by simp [hc]))
  have hd:=UInt8.toNat_lt d
  rw [bl_cons]
  by_cases e : d = 255
  ·subst e
   rw [List.prefix_cons_inj,ih]
   simp
  ·have hlt : d < 255:=by
    have : d.toNat ≠ 255:=fun g => e (UInt8.toNat_inj.1 g)
    rw [UInt8.lt_iff_toNat_lt]
    show d.toNat < 255
    omega
   constructor
   ·intro g
    obtain ⟨r,g⟩:=g
    simp at g
    exact absurd g.1.symm e
   ·intro g
    simp [hlt] at g
theorem bl_next : ∀ (p q t : List UInt8) (c : UInt8),c ≠ 255 → (∀ d ∈ q,d = 255) → (p ++ c :: q <+: t ↔ Op.bytesLess t (p ++ c :: q) = false ∧ Op.bytesLess t (p ++ [c + 1]) = true)
 | [],q,[],c,_,_ => by simp [Op.bytesLess]
 | [],q,d :: t,c,hc,hq => by
  have ih:=bl_all q t hq
  have hn : (c + 1).toNat = c.toNat + 1:=by
   have h1:=UInt8.toNat_lt c
   have : c.toNat ≠ 255:=fun g => hc (UInt8.toNat_inj.1 g)
   rw [UInt8.toNat_add]
   show (c.toNat + 1) % 256 = c.toNat + 1
   omega
  rw [List.nil_append,List.nil_append,bl_cons,bl_cons]
  have ht : Op.bytesLess t [] = false:=by cases t <;> rfl
  rw [ht]
  by_cases e : d = c
  ·subst e
   rw [List.prefix_cons_inj,ih]
   have : d < d + 1:=by rw [UInt8.lt_iff_toNat_lt]; omega
   simp [this]
  ·constructor
   ·intro g
    obtain ⟨r,g⟩:=g
    simp at g
    exact absurd g.1.symm e
   ·intro ⟨g,g'⟩
    simp only [Bool.and_false,Bool.or_false,decide_eq_true_eq,UInt8.lt_iff_toNat_lt,hn] at g'
    simp only [Bool.or_eq_false_iff,decide_eq_false_iff_not,UInt8.lt_iff_toNat_lt] at g
    exact absurd (UInt8.toNat_inj.1 Om) e
 | a :: p,q,[],c,_,_ => by simp [Op.bytesLess]
 | a :: p,q,d :: t,c,hc,hq => by
  have ih:=bl_next p q t c hc hq
  rw [List.cons_append,List.cons_append,bl_cons,bl_cons]
  by_cases e : d = a
  ·subst e
   rw [List.prefix_cons_inj,ih]
   simp
  ·constructor
   ·intro g
    obtain ⟨r,g⟩:=g
    simp at g
    exact absurd g.1.symm e
   ·intro ⟨g,g'⟩
    simp [e] at g g'
    rw [UInt8.lt_iff_toNat_lt] at g'
    rw [UInt8.le_iff_toNat_le] at g
    omega
theorem nxt_lies (s t : List UInt8) : (s <+: t) ↔ (Op.bytesLess t s = false ∧ ((nxt s).2 = false ∨ Op.bytesLess t (nxt s).1 = true)):=by
 rcases nxt_cases s with h | ⟨p,c,q,rfl,hc,hq⟩
 ·rw [nxt_all h,bl_all s t h]; simp
 ·rw [nxt_some hc hq,bl_next p q t c hc hq]; simp
def eqL (us vs : List V3) : Bool:=ordL us vs == 0
theorem eqL_iff {us vs : List V3} : eqL us vs = true ↔ us = vs:=by
 unfold eqL
 constructor
 ·intro h; exact ordL_zero us vs (by simpa using h)
 ·rintro rfl; simp [ordL_self]
theorem eqL_len {us vs : List V3} (h : us.length ≠ vs.length) : eqL us vs = false:=by
 cases e : eqL us vs with
 | false => rfl
 | true => rw [eqL_iff.1 e] at h; exact absurd rfl h
theorem eqL_at {us vs : List V3} (k : Nat) (h : k < us.length) (h' : k < vs.length) (g : us[k] ≠ vs[k]) : eqL us vs = false:=by
 cases e : eqL us vs with
 | false => rfl
 | true => exfalso; have:=eqL_iff.1 e; subst this; exact g rfl
theorem eqL_all {us vs : List V3} (h : us.length = vs.length) (g : ∀ k (h : k < us.length) (h' : k < vs.length),us[k] = vs[k]) : eqL us vs = true:=eqL_iff.2 (List.ext_getElem h g)
theorem cell_lt {w : World} {b o : Nat} {v : Value} (h : w.cell? ⟨b,o,none⟩ = some v) : b < w.heap.size:=by
 by_cases g : b < w.heap.size
 ·exact g
 ·simp [World.cell?,Array.getElem?_eq_none (by omega : w.heap.size ≤ b)] at h
theorem upto2 {n m k : Nat} {p : (j : Nat) → j < n → j < m → Prop} (h : ∀ j (g : j < n) (g' : j < m),j < k → p j g g') {hlt : k < n} {hlt' : k < m} (e : p k hlt hlt') : ∀ j (g : j < n) (g' : j < m),j < k + 1 → p j g g':=by
 intro j g g' hj
 by_cases hjk : j = k
 ·subst hjk; exact e
 ·exact h j g g' Om
section
open Go Go.RowKit
theorem wpList_bytes_new {P : Program} (w : World) {ops : Array Oper} {rest : List Oper} {o : Oper} {a : Act} {Q : Exit → Act → World → Prop} (hgd : o.guard = none) (x : Operand) (src dst e : TypeId)
  (ho : o.op = .convert src dst x) (hs : P.underlying src = some .string) (hd : P.underlying dst = some (.slice e)) (he : P.underlying e = some (.int .u8)) (s : ByteArray) (hx : a.eval x = .string s)
  (h : ∀ cap w',(∀ j (hj : j < s.size),w'.cell? ⟨w.heap.size,j,none⟩ = some (.int .u8 (s[j].toNat : Int))) → (∀ j,j < s.size → w'.frozen? ⟨w.heap.size,j,none⟩ = false) → Below w.heap.size w w' → w.heap.size < w'.heap.size →
   wpList P ops Q rest (a.put o.dst (.slice (some ⟨w.heap.size,0,none⟩) s.size cap)) w') : wpList P ops Q (o :: rest) a w:=by
 refine wpList_plain hgd fun K hK => ?_
 have hr:=run_bytes_of_string (P:=P) w src dst e s hs hd he
 unfold Oper.wp execOp
 simp only [ho,Sem.run_bind,Sem.run_pure,Result.andThen_ok,hx,hr]
 refine hK _ _ (h _ _ ?_ ?_ (((Bxr _ _).drew).alloc Zlr _) Si)
 ·intro j hj
  have:=World.cell?_alloc_mark w.drew (bytesRow s (grownCap w s.size 0 e)) e ((bytesRow s (grownCap w s.size 0 e)).size,(bytesRow s (grownCap w s.size 0 e)).size + 1) j
  exact this.trans (bytesRow_at s _ j hj)
 ·intro j hj
  have:=World.frozen?_alloc_mark w.drew (bytesRow s (grownCap w s.size 0 e)) e (bytesRow s (grownCap w s.size 0 e)).size ((bytesRow s (grownCap w s.size 0 e)).size + 1) j
  refine this.trans ?_
  have hz : s.size ≤ (bytesRow s (grownCap w s.size 0 e)).size:=by
   unfold bytesRow
   simp only [Array.size_append,Array.size_map]
   exact Nat.le_add_right _ _
  have hn : ¬ (bytesRow s (grownCap w s.size 0 e)).size ≤ j:=by omega
  simp [hn]
end
namespace KK
theorem take_snoc {s : ByteArray} {k : Nat} (h : k + 1 ≤ s.size) : s.data.toList = s.data.toList.take k ++ s[k] :: s.data.toList.drop (k + 1):=by
 have hk : k < s.data.toList.length:=by simp; omega
 have e : s.data.toList.drop k = s[k] :: s.data.toList.drop (k + 1):=by rw [List.drop_eq_getElem_cons hk]; rfl
 rw [← e,List.take_append_drop]
theorem drop_all {s : ByteArray} {k : Nat} (h : k + 1 ≤ s.size) (hc : s[k] = 255) (g : ∀ c ∈ s.data.toList.drop (k + 1),c = 255) : ∀ c ∈ s.data.toList.drop k,c = 255:=by
 have hk : k < s.data.toList.length:=by simp; omega
 have e : s.data.toList.drop k = s[k] :: s.data.toList.drop (k + 1):=by rw [List.drop_eq_getElem_cons hk]; rfl
 rw [e]
 intro c hm
 rcases Zmc hm with rfl | hm
 ·exact hc
 ·exact g c hm
theorem ext_at {s : ByteArray} {n j : Nat} (h : j < (s.extract 0 n).size) (h' : j < s.size) : (s.extract 0 n)[j] = s[j]:=by
 first | (rw [ByteArray.getElem_extract]; simp; done) | (show (s.extract 0 n).data[j] = s.data[j]; simp [ByteArray.data_extract])
def nxtV (s : ByteArray) : Value:=.tuple #[.string ⟨(nxt s.data.toList).1.toArray⟩,.bool (nxt s.data.toList).2]
theorem knext_any (s : ByteArray) (w : World) (hs : s.size ≤ 2147483648) :
  Calls Tryz.prog 215 #[.string s] w fun e w' => e = .returned (nxtV s) ∧ Below w.heap.size w w':=by
 go_enter Tryz.func215,Tryz.ntmps215
 go_wp2
 go_loopw [4] (fun i wr => ∃ k : Nat,k ≤ s.size ∧ i = .int .i64 k ∧ (∀ c ∈ s.data.toList.drop k,c = 255) ∧ Below w.heap.size w wr) (fun i _ => (intOf i).toNat)
 case atStart => exact ⟨s.size,Nat.le_refl _,rfl,by rw [List.drop_of_length_le Si]; simp,Bxr _ _⟩
 case round =>
  obtain ⟨k,hk,rfl,hall,hb⟩:=hrel
  have HA : Hid (∀ c ∈ s.data.toList.drop k,c = 255):=hall
  clear hall
  match k,hk,HA with
  | 0,hk,HA =>
   have HE : Hid (nxt s.data.toList = ([],false)):=nxt_all (by simpa using HA.out)
   go_wp2
   exact bodyPost_ret (v:=.tuple #[.string ⟨#[]⟩,.bool false]) (by simp [results,Tryz.results215,go_sem, *]) rfl ⟨by rw [nxtV,HE.out],hb⟩
  | k + 1,hk,HA =>
   have e1 : (((k + 1 : Nat) : Int) - 1) = (k : Int):=by omega
   have e2 : IntKind.i64.wrap (((k + 1 : Nat) : Int) - 1) = (k : Int):=by rw [IntKind.wrap_i64]; omega
   have hk2 : k < s.size:=by omega
   by_cases hc : s[k] = 255
   ·have hc' : s[k].toNat = 255:=by rw [hc]; rfl
    have HA2 : Hid (∀ c ∈ s.data.toList.drop k,c = 255):=drop_all hk hc HA.out
    clear hc
    go_wp2
    go_roundw
    case rel => exact ⟨k,by omega,by go_num,HA2.out,hb⟩
    case measure => simp [intOf]
   ·have hc' : ((s[k].toNat : Int) == 255) = false:=by
     rw [beq_eq_false_iff_ne]
     intro h
     exact hc (UInt8.toNat_inj.1 (by show s[k].toNat = 255; omega))
    have HE : Hid (nxt s.data.toList = (s.data.toList.take k ++ [s[k] + 1],true)):=by
     have:=nxt_some (p:=s.data.toList.take k) hc HA.out
     rw [← take_snoc hk] at this
     exact this
    have hsz : (s.extract 0 (k + 1)).size = k + 1:=by simp; omega
    have hel : ∀ j (hj : j < (s.extract 0 (k + 1)).size),(s.extract 0 (k + 1))[j] = s[j]'Om:=fun j hj => ext_at hj Om
    have hplus : (s[k] + 1).toNat = s[k].toNat + 1:=by
     have h1:=UInt8.toNat_lt s[k]
     have : s[k].toNat ≠ 255:=fun g => hc (UInt8.toNat_inj.1 g)
     rw [UInt8.toNat_add]
     show (s[k].toNat + 1) % 256 = s[k].toNat + 1
     omega
    clear hc
    go_wp2_with (first | (refine wpList_bytes_new _ rfl (.tmp 23) 9 114 5 rfl Tryz.underlying9 Tryz.underlying114 Tryz.underlying5 (s.extract 0 (k + 1)) rfl ?_; intro cap w1 hc1 hf1 hb1 hlt1; refine Hid.out ?_))
    have ck : w1.cell? ⟨wr.heap.size,k,none⟩ = some (.int .u8 (s[k].toNat : Int)):=by rw [hc1 k Om,hel k Om]
    have fk : w1.frozen? ⟨wr.heap.size,k,none⟩ = false:=hf1 k Om
    have HV : Hid (((s[k].toNat : Int) + 1) % 256 = ((s[k] + 1).toNat : Int)):=by
     have h1:=UInt8.toNat_lt (s[k] + 1)
     show ((s[k].toNat : Int) + 1) % 256 = ((s[k] + 1).toNat : Int)
     omega
    have hcv : (convert 114 9 (.slice (some ⟨wr.heap.size,0,none⟩) (k + 1) cap)).run Tryz.prog (w1.setCell ⟨wr.heap.size,k,none⟩ (.int .u8 (((s[k].toNat : Int) + 1) % 256))) = .ok (.string ⟨(s.data.toList.take k ++ [s[k] + 1]).toArray⟩) (w1.setCell ⟨wr.heap.size,k,none⟩ (.int .u8 (((s[k].toNat : Int) + 1) % 256))):=by
     have hl : (s.data.toList.take k ++ [s[k] + 1]).length = k + 1:=by simp; omega
     have:=run_convert_bytes_back (P:=Tryz.prog) (w1.setCell ⟨wr.heap.size,k,none⟩ (.int .u8 (((s[k].toNat : Int) + 1) % 256))) 114 9 5 ⟨wr.heap.size,0,none⟩ cap (s.data.toList.take k ++ [s[k] + 1]) Tryz.underlying114 Tryz.underlying5 Tryz.underlying9 ?_
     ·rw [hl] at this; exact this
     ·intro j hj
      rw [hl] at hj
      have hadd : (⟨wr.heap.size,0,none⟩ : Addr).add j = ⟨wr.heap.size,j,none⟩:=by unfold Addr.add; split <;> simp_all
      rw [hadd]
      by_cases hjk : j = k
      ·subst hjk
       rw [World.cell?_setCell_same _ _ _ ck,HV.out]
       have hmin : min j s.size = j:=by omega
       rw [List.getElem_append_right (by simp; omega)]
       simp [hmin]
      ·rw [World.cell?_setCell_other _ _ _ _ Si,hc1 j Om,hel j Om]
       have hlt : j < k:=by omega
       rw [List.getElem_append_left (by simp; omega)]
       simp
       rfl
    have hbb : Below w.heap.size w (w1.setCell ⟨wr.heap.size,k,none⟩ (.int .u8 (((s[k].toNat : Int) + 1) % 256))):=by
     have hz:=hb.size
     exact (hb.trans (hb1.mono hz)).setCell hz _
    have HB : Hid (Below w.heap.size w (w1.setCell ⟨wr.heap.size,k,none⟩ (.int .u8 (((s[k].toNat : Int) + 1) % 256)))):=hbb
    clear hc1 hf1 hel hplus hbb
    refine Hd ?_
    go_wp2
    exact bodyPost_ret (v:=.tuple #[.string ⟨(s.data.toList.take k ++ [s[k] + 1]).toArray⟩,.bool true]) (by simp [results,Tryz.results215,go_sem, *]) rfl ⟨by rw [nxtV,HE.out],HB.out⟩
end KK
def bv (l : List UInt8) : List Value:=l.map fun b => .int .u8 (b.toNat : Int)
theorem bv_append (l m : List UInt8) : bv (l ++ m) = bv l ++ bv m:=List.map_append
theorem bv_length (l : List UInt8) : (bv l).length = l.length:=List.length_map _
theorem bv_one (l : List UInt8) : ∀ u ∈ bv l,u.oneCell' = true:=by
 intro u hu
 obtain ⟨b,_,rfl⟩:=List.mem_map.1 hu
 rfl
theorem Tryz.info5 : (Tryz.prog.info? 5).map (fun i => (i.zero,i.size,i.bytes)) = some (some (.int .u8 0),1,1):=by kernel_rfl
theorem ownsRow_drew {w : World} {base : Nat} {e : TypeId} {size : Nat} {v : Value} {n : Nat} {xs : List Value} (h : w.ownsRow base e size v n xs) : w.drew.ownsRow base e size v n xs:=h
theorem own_string {w : World} {B n : Nat} {v : Value} {xs : List UInt8} (h : w.ownsRow B 5 1 v n (bv xs)) (hn : 0 < n) :
  ∃ g cap,v = .slice (some ⟨g,0,none⟩) n cap ∧ (convert 114 9 (.slice (some ⟨g,0,none⟩) n cap)).run Tryz.prog w = .ok (.string ⟨xs.toArray⟩) w:=by
 have hc:=fun g => h.cells (g:=g)
 obtain ⟨hl,⟨_,h0⟩ | ⟨g,cap,cur,rfl,_,_,_,_,_,_⟩⟩:=h
 ·omega
 ·rw [bv_length] at hl
  refine ⟨g,cap,rfl,?_⟩
  have hn' : n = xs.length:=by omega
  subst hn'
  refine run_convert_bytes_back w 114 9 5 ⟨g,0,none⟩ cap xs Tryz.underlying114 Tryz.underlying5 Tryz.underlying9 ?_
  intro j hj
  exact hc g rfl j _ (by simp [bv,hj])
end Go.Proofs.YtmmmkjhpmlfopaaGreatDoor
