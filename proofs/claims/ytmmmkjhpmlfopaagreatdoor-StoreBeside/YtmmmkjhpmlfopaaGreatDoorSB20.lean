/- O10 M195 O5 O6 O7 -/
import Derived.Test.YtmmmkjhpmlfopaaGreatDoorSB19
set_option maxHeartbeats 8000000
set_option maxRecDepth 100000
namespace Go.Proofs.YtmmmkjhpmlfopaaGreatDoor
open Go.RowKit
section
open Go.RowKit BB
theorem isNull_any (w : World) (v : V3) : Calls Tryz.prog 108 #[.agg #[.int .i64 v.1,.int .i64 v.2.1,.string v.2.2]] w fun e w' => e = .returned (.bool (v.1 == 0)) ∧ Below w.heap.size w w':=by
 go_enter Tryz.func108,Tryz.ntmps108
 go_wp2
 go_ret
 exact ⟨rfl,(Bxr _ _).alloc Zlr _⟩
def BoolP (p : Prop) (e : Ending) : Prop:=∃ b,e = .returned (.bool b) ∧ (b = true ↔ p)
def uniJ (t : TT.Tb) : Nat → Bool
 | 0 => true
 | n + 1 => ((t.ixs[n]?).map fun x => x.un).getD false
theorem unique_any (w : World) (D : TD) (j : Nat) (i : Int) (hi : i = (j : Int) - 1) (hF : Fix w D) (hj : j ≤ D.t.ixs.length) :
  Calls Tryz.prog 112 #[.pointer (some ⟨D.r,0,none⟩),.int .i64 i] w fun e w' => e = .returned (.bool (uniJ D.t j)) ∧ w' = w:=by
 obtain ⟨pc,cc,pk,ck,px,cx,h1,h2,h3,h4,h5,h6⟩:=hF.ex
 have c4 : w.cell? ⟨D.r,4,none⟩ = some (.slice px D.t.ixs.length cx):=h1 4 _ rfl
 have HX:=Hd h4
 clear h1 h2 h3 h4 h5 h6
 cases j with
 | zero =>
  obtain rfl : i = -1:=by omega
  clear hi
  go_enter Tryz.func112,Tryz.ntmps112
  go_wp2
  go_ret
  exact ⟨rfl,rfl⟩
 | succ n =>
  have hn : n < D.t.ixs.length:=by omega
  have hni : (n : Int) < (D.t.ixs.length : Int):=by omega
  obtain rfl : i = (n : Int):=by omega
  have hn1 : ((n : Int) == -1) = false:=by rw [beq_eq_false_iff_ne]; omega
  obtain ⟨b,off,v0,v1,v2,rfl,hR,e0,e1,e2⟩:=HX.out.at3 hn
  obtain ⟨p,cap,hR,hr⟩:=hR
  simp only [List.cons.injEq,and_true] at hR
  obtain ⟨rfl,rfl,rfl⟩:=hR
  have HE : Hid (uniJ D.t (n + 1) = (D.t.ixs[n]).un):=Hd (by simp [uniJ,List.getElem?_eq_getElem hn])
  generalize (D.t.ixs[n]).un = u at e2 HE
  clear hr e0 e1 hi
  go_enter Tryz.func112,Tryz.ntmps112
  go_wp2
  go_ret
  rw [HE.out]
  exact ⟨rfl,rfl⟩
def lackR (t : TT.Tb) (r : Row3) : Prop:=∃ i,∃ h : i < r.length,∃ h' : i < t.cols.length,(r[i]).1 = 0 ∧ (t.cols[i]).nn = true
theorem lacks_any (w : World) (D : TD) (a : Option Addr) (cap : Nat) (r : Row3) (hF : Fix w D) (hrow : Row w a r) (hl : r.length = D.t.cols.length) (hl16 : r.length ≤ 16) :
  Calls Tryz.prog 63 #[.pointer (some ⟨D.r,0,none⟩),.slice a r.length cap] w fun e w' => Below w.heap.size w w' ∧ BoolP (lackR D.t r) e:=by
 obtain ⟨pc,cc,pk,ck,px,cx,h1,h2,h3,h4,h5,h6⟩:=hF.ex
 have c1 : w.cell? ⟨D.r,1,none⟩ = some (.slice pc D.t.cols.length cc):=h1 1 _ rfl
 have HC:=Hd h2
 have HR:=Hd hrow
 have HL:=Hd hl
 have l1:=cell_lt c1
 clear h1 h2 h3 h4 h5 h6 hrow hl
 go_enter Tryz.func63,Tryz.ntmps63
 go_wp2
 go_loopw [9] (fun i wr => ∃ k : Nat,k ≤ r.length ∧ i = .int .i64 k ∧ (∀ j (g : j < r.length),j < k → ∀ h' : j < D.t.cols.length,¬ ((r[j]).1 = 0 ∧ (D.t.cols[j]).nn = true)) ∧ Below w.heap.size w wr) (fun i _ => r.length - (intOf i).toNat)
 case atStart => exact ⟨0,Nat.zero_le _,rfl,fun j _ g => absurd g (Nat.not_lt_zero _),Bxr _ _⟩
 case round =>
  obtain ⟨k,hk,rfl,hall,hb⟩:=hrel
  have HA:=Hd hall
  have hsz:=hb.size
  clear hall
  by_cases hlt : k < r.length
  ·have hlti : (k : Int) < (r.length : Int):=by omega
   have hlc : k < D.t.cols.length:=by have:=HL.out; omega
   have hlci : (k : Int) < (D.t.cols.length : Int):=by omega
   obtain ⟨b,off,rfl,d0,d1,d2⟩:=HR.out k hlt
   obtain ⟨b',off',v0,v1,v2,rfl,hcr,e0,e1,e2⟩:=HC.out.at3 hlc
   simp only [TT.ColR,List.cons.injEq,and_true] at hcr
   obtain ⟨rfl,rfl,rfl⟩:=hcr
   have d0:=cell_later hb d0
   have d1:=cell_later hb d1
   have d2:=cell_later hb d2
   have e2:=cell_later hb e2
   have c1':=cell_later hb c1
   obtain ⟨v,hv⟩:=Vx (r[k])
   obtain ⟨u,hu⟩:=Vx ((D.t.cols[k]).nn)
   rw [hv] at d0 d1 d2
   rw [hu] at e2
   have HV : Hid (r[k] = v ∧ (D.t.cols[k]).nn = u):=Hd ⟨hv,hu⟩
   have lb:=cell_lt d0
   have lb':=cell_lt e2
   have lr:=cell_lt c1'
   clear hv hu e0 e1 c1
   by_cases hn : v.1 = 0
   ·have hnb : (v.1 == 0) = true:=by rw [beq_iff_eq]; exact hn
    have HN:=Hd hn
    clear hn
    cases u with
    | true =>
     go_wp2_with (first | (go_at_call 108; refine (isNull_any _ v).mono ?_; rintro e w2 ⟨rfl,hb2⟩; rw [hnb]; obtain ⟨hcc,hff⟩:=bcell hb2; have hz2:=hb2.size; (try simp at hz2); (try have q1 : D.r < w2.heap.size:=by omega); have HB2 : Hid (Below w.heap.size w w2):=Hd Bz))
     go_ret
     exact ⟨HB2.out,true,rfl,⟨fun _ => ⟨k,hlt,hlc,by rw [HV.out.1]; exact HN.out,HV.out.2⟩,fun _ => rfl⟩⟩
    | false =>
     go_wp2_with (first | (go_at_call 108; refine (isNull_any _ v).mono ?_; rintro e w2 ⟨rfl,hb2⟩; rw [hnb]; obtain ⟨hcc,hff⟩:=bcell hb2; have hz2:=hb2.size; (try simp at hz2); (try have q1 : D.r < w2.heap.size:=by omega); have HB2 : Hid (Below w.heap.size w w2):=Hd Bz))
     go_roundw
     case rel => exact ⟨k + 1,by omega,by go_num,fun j g hj => by
      by_cases e : j = k
      ·subst e
       exact fun h' q => by rw [HV.out.2] at q; cases q.2
      ·exact HA.out j g Om,HB2.out⟩
     case measure => simp [intOf]; omega
   ·have hnb : (v.1 == 0) = false:=by rw [beq_eq_false_iff_ne]; exact hn
    have HN:=Hd hn
    clear hn
    go_wp2_with (first | (go_at_call 108; refine (isNull_any _ v).mono ?_; rintro e w2 ⟨rfl,hb2⟩; rw [hnb]; obtain ⟨hcc,hff⟩:=bcell hb2; have hz2:=hb2.size; (try simp at hz2); (try have q1 : D.r < w2.heap.size:=by omega); have HB2 : Hid (Below w.heap.size w w2):=Hd Bz))
    go_roundw
    case rel => exact ⟨k + 1,by omega,by go_num,fun j g hj => by
     by_cases e : j = k
     ·subst e
      exact fun h' q => HN.out (by rw [← HV.out.1]; exact q.1)
     ·exact HA.out j g Om,HB2.out⟩
    case measure => simp [intOf]; omega
  ·have hlti : ¬ (k : Int) < (r.length : Int):=by omega
   go_wp2
   go_ret
   refine ⟨hb,false,rfl,fun h => (by cases h),fun ⟨i,h1,h2,h3⟩ => ?_⟩
   exact absurd h3 (HA.out i h1 Om h2)
end
section
open Go.RowKit BB
def SeqB {α : Type} (F : Fence) (n : Nat) (P : Program) (g : Nat) (lb : Array Value) (encs : α → Array Value) (Kp : World → World → Prop) (S Sp : List α → Prop) (V : List α → α → Prop) (w : World) : Prop :=
 ∀ (l : Nat) (J Jx : List α → World → Prop) (W : World),Below w.heap.size w W →
  (∀ pre W W',J pre W → Below W.heap.size W W' → J pre W') → (∀ pre x W1,J pre W1 → V pre x → YieldAt F (n - 1) P l (encs x) W1 fun e W' => (e = .returned (.bool true) ∧ J (pre ++ [x]) W' ∧ Kp W1 W') ∨ (e = .returned (.bool false) ∧ Jx (pre ++ [x]) W')) →
  J [] W → CallsIn F n P g (#[.func (.yield l) #[] #[]] ++ lb) W fun e W' => (∃ v,e = .returned v) ∧ ((∃ xs,S xs ∧ J xs W') ∨ (∃ pre,Sp pre ∧ Jx pre W'))
variable {F : Fence} {n : Nat} {P : Program}
theorem wpIn_rangeB {α : Type} {g : Operand} {ps : Array Tmp} {assign body : Code} {Q : Exit → Act → World → Prop} {a : Act} {w : World}
  (hro : F.round = none) (h1 : 1 ≤ n) {gf : Nat} {lb : Array Value} (hg : a.eval g = .func (.func gf) #[] lb) (hFg : F.fn gf) (eg : ∀ args w,(callFunc gf args).run P w = .ok (.enter gf args) w)
  {encs : α → Array Value} {Kp : World → World → Prop} {S Sp : List α → Prop} {V : List α → α → Prop} {w0 : World} (hseq : SeqB F (n - 1) P gf lb encs Kp S Sp V w0)
  (hKt : ∀ {A B C : World},Kp A B → Kp B C → Kp A C) (hKb : ∀ (W : World) (l : Nat) (o o' : Obj),w.heap.size ≤ l → W.heap[l]? = some o → o.isCells = false → Kp W (W.putObj l o')) (hb0 : Below w0.heap.size w0 w) (hps : ∀ x,(encs x).size = ps.size)
  (I : List α → World → Prop) (Ix : Code → List α → World → Prop) (hI : OwnFrom w.heap.size I) (hIx : ∀ c,OwnFrom w.heap.size (Ix c)) (hIb : ∀ pre W W',I pre W → Below W.heap.size W W' → I pre W') (h0 : I [] w) (Ax : α → Act → World → Prop) (hAx : ∀ x a',OwnFrom w.heap.size (fun (_ : Unit) W => Ax x a' W))
  (hassign : ∀ (l : Nat) (pre : List α) (x : α) (W : World) (K : Act → World → Prop),I pre W → V pre x → (∀ a' W',KeepsFrom w.heap.size W W' → Kp W W' → I pre W' → Ax x a' W' → K a' W') →
   assign.wpIn (F.inRound l) (n - 1 - 1) P (Exit.then K (fun _ _ _ => False)) { tmps:=(ps.zip (encs x)).foldl (fun t (p,v) => t.setIfInBounds p v) a.tmps,defers:=[] } W)
  (hbody : ∀ (l : Nat) (pre : List α) (x : α) (a' : Act) (W : World),I pre W → Ax x a' W → V pre x → body.wpIn (F.inRound l) (n - 1 - 1) P (ownPostG w.heap.size Kp I Ix (pre ++ [x]) W) a' W)
  (hdone : ∀ (D : Nat) (xs : List α) (W : World),w.heap.size ≤ D → S xs → I xs W → W.heap[D]? = some (.deferred (some [])) → Q .normal { a with defers:={ target:=.collected D,args:=#[] } :: a.defers } W)
  (hstop : ∀ (D : Nat) (c : Code) (pre : List α) (W : World),w.heap.size ≤ D → Sp pre → Ix c pre W → W.heap[D]? = some (.deferred (some [])) → c.wpIn F n P Q { a with defers:={ target:=.collected D,args:=#[] } :: a.defers } W) :
  (Code.rangeFunc g ps assign body).wpIn F n P Q a w:=by
 refine wpIn_rangeFunc ?_
 intro fn hfn
 rw [hro]
 obtain ⟨W1,hW1⟩:=Vx ((w.alloc (.deferred (some []))).alloc (.loop (lrec fn a.tmps ps assign body w.heap.size .ready none)))
 have hL1 : W1.heap[w.heap.size + 1]? = some (.loop (lrec fn a.tmps ps assign body w.heap.size .ready none)):=by
  have:=World.alloc_heap_new (w.alloc (.deferred (some []))) (.loop (lrec fn a.tmps ps assign body w.heap.size .ready none))
  rw [World.size_alloc,hW1] at this
  exact this
 have hK1 : W1.heap[w.heap.size]? = some (.deferred (some [])):=by
  rw [← hW1]
  exact (Below.heap_alloc _ _ _ Si).trans (World.alloc_heap_new w _)
 have hb1 : Below w0.heap.size w0 W1:=by
  rw [← hW1]
  exact hb0.trans ((((Bxr _ w).alloc Zlr _).alloc Si _).mono hb0.size)
 refine ⟨w.heap.size + 1,[{ target:=.collected w.heap.size,args:=#[] }],W1,{ target:=.fn (.func gf) lb,args:=#[.func (.yield (w.heap.size + 1)) #[] #[]] },W1,gf,#[.func (.yield (w.heap.size + 1)) #[] #[]] ++ lb,W1,by rw [← hW1]; exact run_enterLoop_outer _ _ _ _ _,by simp only [resolve,hg]; simp [go_sem],fun f' hf' => by simp [Target.leads] at hf'; subst hf'; exact hFg,by simp [invoke,go_sem,eg],fun _ => h1,?_⟩
 refine (hseq (w.heap.size + 1) (fun pre W => I pre W ∧ W.heap[w.heap.size + 1]? = some (.loop (lrec fn a.tmps ps assign body w.heap.size .ready none)) ∧ W.heap[w.heap.size]? = some (.deferred (some [])))
  (fun pre W => ∃ c,Ix c pre W ∧ W.heap[w.heap.size + 1]? = some (.loop (lrec fn a.tmps ps assign body w.heap.size .done (some c))) ∧ W.heap[w.heap.size]? = some (.deferred (some [])))
  W1 hb1 (fun pre W W' h hb => ⟨hIb pre W W' h.1 hb,(hb.block _ (Gx h.2.1)).trans h.2.1,(hb.block _ (Gx h.2.2)).trans h.2.2⟩) ?_ ⟨by rw [← hW1]; exact hI.alloc _ (hI.alloc _ h0),hL1,hK1⟩).mono ?_
 ·rintro pre x W ⟨hi,hl,hk⟩ hV
  refine ⟨fn,_,assign,body,run_yield (P:=P) (args:=encs x) hl (hps x),roundIn_of_wpIn hfn (hassign _ pre x W _ hi hV ?_)⟩
  intro a' Wa hkfa hkpa hia hax
  have hla:=hkfa.same _ _ Om hl rfl
  have hka:=hkfa.same _ _ Zlr hk rfl
  have hlt : w.heap.size + 1 < Wa.heap.size:=(Gx hla)
  refine ⟨_,run_beginRound hla rfl,?_⟩
  have hl2 : (Wa.putObj (w.heap.size + 1) (.loop (lrec fn a.tmps ps assign body w.heap.size .busy none))).heap[w.heap.size + 1]? = some (.loop (lrec fn a.tmps ps assign body w.heap.size .busy none)):=World.putObj_heap_same hlt
  have hk2 : (Wa.putObj (w.heap.size + 1) (.loop (lrec fn a.tmps ps assign body w.heap.size .busy none))).heap[w.heap.size]? = some (.deferred (some [])):=(World.putObj_heap_other Om).trans hka
  have hw2 : Kp Wa (Wa.putObj (w.heap.size + 1) (.loop (lrec fn a.tmps ps assign body w.heap.size .busy none))):=hKb _ _ _ _ Om hla rfl
  refine wpIn_mono (hbody _ pre x a' _ (hI.putObj _ hia Om hla rfl) ((hAx x a').putObj (s:=()) _ hax Om hla rfl) hV) ?_
  rintro e a3 W3 hp
  cases e with
  | normal =>
   obtain ⟨hk3,hkp3,hi3⟩:=hp
   have hl3:=hk3.same _ _ Om hl2 rfl
   obtain ⟨hr,hl4,hk4⟩:=round_over (P:=P) none hl3 (hk3.same _ _ Zlr hk2 rfl)
   exact ⟨_,_,hr,.inl ⟨rfl,⟨hI.putObj _ hi3 Om hl3 rfl,hl4,hk4⟩,hKt hkpa (hKt (hKt hw2 hkp3) (hKb _ _ _ _ Om hl3 rfl))⟩⟩
  | ret =>
   obtain ⟨hk3,hi3⟩:=hp
   have hl3:=hk3.same _ _ Om hl2 rfl
   obtain ⟨hr,hl4,hk4⟩:=round_over (P:=P) (some .ret) hl3 (hk3.same _ _ Zlr hk2 rfl)
   exact ⟨_,_,hr,.inr ⟨rfl,.ret,(hIx _).putObj _ hi3 Om hl3 rfl,hl4,hk4⟩⟩
  | exit id =>
   obtain ⟨hk3,hi3⟩:=hp
   have hl3:=hk3.same _ _ Om hl2 rfl
   obtain ⟨hr,hl4,hk4⟩:=round_over (P:=P) (some (.exit id)) hl3 (hk3.same _ _ Zlr hk2 rfl)
   exact ⟨_,_,hr,.inr ⟨rfl,.exit id,(hIx _).putObj _ hi3 Om hl3 rfl,hl4,hk4⟩⟩
  | goto t =>
   obtain ⟨hk3,hi3⟩:=hp
   have hl3:=hk3.same _ _ Om hl2 rfl
   obtain ⟨hr,hl4,hk4⟩:=round_over (P:=P) (some (.goto t)) hl3 (hk3.same _ _ Zlr hk2 rfl)
   exact ⟨_,_,hr,.inr ⟨rfl,.goto t,(hIx _).putObj _ hi3 Om hl3 rfl,hl4,hk4⟩⟩
  | panic ch => exact hp.elim
  | outgrown => exact hp.elim
 ·rintro e W2 ⟨⟨v,rfl⟩,(⟨xs,hS,hi,hl,hk⟩ | ⟨pre,hSp,c,hi,hl,hk⟩)⟩
  ·exact ⟨none,_,run_endLoop (P:=P) hl (by simp [lrec]),hdone _ xs _ Zlr hS (hI.putObj _ hi Om hl rfl) ((World.putObj_heap_other Om).trans hk)⟩
  ·exact ⟨some c,_,run_endLoop (P:=P) hl (by simp [lrec]),hstop _ c pre _ Zlr hSp ((hIx c).putObj _ hi Om hl rfl) ((World.putObj_heap_other Om).trans hk)⟩
end
section
open Go.RowKit Go.Shelf BB
theorem index_any (w : World) (a : Option Addr) (cap : Nat) (cs : List Int) (x : Int) (hr : TT.RowR 1 TT.IntR w a cs) (hl : cs.length ≤ 1000000) :
  Calls Tryz.prog 115 #[.slice a cs.length cap,.int .i64 x] w fun e w' => w' = w ∧ ((∃ k,∃ h : k < cs.length,cs[k] = x ∧ (∀ j (g : j < cs.length),j < k → cs[j] ≠ x) ∧ e = .returned (.int .i64 (k : Int))) ∨ ((∀ j (g : j < cs.length),cs[j] ≠ x) ∧ e = .returned (.int .i64 (-1)))):=by
 have HR:=Hd hr
 clear hr
 go_enter Tryz.func115,Tryz.ntmps115
 go_wp2
 go_loopw [8] (fun i wr => ∃ k : Nat,k ≤ cs.length ∧ i = .int .i64 k ∧ (∀ j (g : j < cs.length),j < k → cs[j] ≠ x) ∧ wr = w) (fun i _ => cs.length - (intOf i).toNat)
 case atStart => exact ⟨0,Nat.zero_le _,rfl,fun j g h => absurd h (Nat.not_lt_zero _),rfl⟩
 case round =>
  obtain ⟨k,hk,rfl,hall,rfl⟩:=hrel
  have HA:=Hd hall
  clear hall
  by_cases hlt : k < cs.length
  ·have hlti : (k : Int) < (cs.length : Int):=by omega
   obtain ⟨b,off,v0,rfl,hv0,c0⟩:=HR.out.at1 hlt
   have e0 : [v0] = [.int .i64 cs[k]]:=hv0
   simp only [List.cons.injEq,and_true] at e0
   subst e0
   obtain ⟨y,hy⟩:=Vx (cs[k])
   have HY:=Hd hy
   rw [hy] at c0
   clear hy
   by_cases he : y = x
   ·subst he
    go_wp2
    go_ret
    exact ⟨rfl,Or.inl ⟨k,hlt,HY.out,HA.out,rfl⟩⟩
   ·have heb : (x == y) = false:=by rw [beq_eq_false_iff_ne]; exact fun e => he e.symm
    have heb2 : (y == x) = false:=by rw [beq_eq_false_iff_ne]; exact he
    have HN:=Hd he
    clear he
    go_wp2
    go_roundw
    case rel => exact ⟨k + 1,by omega,by go_num,upto_succ HA.out (by rw [HY.out]; exact HN.out),trivial⟩
    case measure => simp [intOf]; omega
  ·have hlti : ¬ (k : Int) < (cs.length : Int):=by omega
   go_wp2
   go_ret
   exact ⟨rfl,Or.inr ⟨fun j g => HA.out j g Om,rfl⟩⟩
def askL (D : TD) (cs : List Int) (vs : List V3) : List Nat:=match cs.findIdx? (fun c => decide (c = D.t.part)) with
 | some k => match vs[k]? with
  | some v => [homeV D.P v]
  | none => List.range D.P
 | none => List.range D.P
theorem askL_one {D : TD} {cs : List Int} {vs : List V3} {k : Nat} (h : k < cs.length) (e : cs[k] = D.t.part) (hf : ∀ j (g : j < cs.length),j < k → cs[j] ≠ D.t.part) (hk : k < vs.length) : askL D cs vs = [homeV D.P vs[k]]:=by
 have : cs.findIdx? (fun c => decide (c = D.t.part)) = some k:=by
  rw [List.findIdx?_eq_some_iff_getElem]
  exact ⟨h,by simpa using e,fun j hj => by simpa using hf j Om hj⟩
 unfold askL
 rw [this]
 simp [List.getElem?_eq_getElem hk]
theorem askL_far {D : TD} {cs : List Int} {vs : List V3} {k : Nat} (h : k < cs.length) (e : cs[k] = D.t.part) (hf : ∀ j (g : j < cs.length),j < k → cs[j] ≠ D.t.part) (hk : ¬ k < vs.length) : askL D cs vs = List.range D.P:=by
 have : cs.findIdx? (fun c => decide (c = D.t.part)) = some k:=by
  rw [List.findIdx?_eq_some_iff_getElem]
  exact ⟨h,by simpa using e,fun j hj => by simpa using hf j Om hj⟩
 unfold askL
 rw [this]
 simp [List.getElem?_eq_none (Nat.le_of_not_lt hk)]
theorem askL_none {D : TD} {cs : List Int} {vs : List V3} (hf : ∀ j (g : j < cs.length),cs[j] ≠ D.t.part) : askL D cs vs = List.range D.P:=by
 have : cs.findIdx? (fun c => decide (c = D.t.part)) = none:=by
  rw [List.findIdx?_eq_none_iff]
  intro c hc
  obtain ⟨j,hj,rfl⟩:=List.getElem_of_mem hc
  simpa using hf j hj
 unfold askL
 rw [this]
theorem homeV_lt {P : Nat} (hP : 1 ≤ P) (v : V3) : homeV P v < P:=Nat.mod_lt _ Om
theorem askL_lt {D : TD} (hP : 1 ≤ D.P) {cs : List Int} {vs : List V3} : ∀ p ∈ askL D cs vs,p < D.P:=fun p hp => by
 unfold askL at hp
 split at hp
 ·split at hp
  ·rw [Zms hp]
   exact homeV_lt hP _
  ·exact List.mem_range.1 hp
 ·exact List.mem_range.1 hp
structure AM (W : World) (D : TD) (bc bt bl : Nat) (ac : Option Addr) (cs : List Int) (cc : Nat) (al : Option Addr) (vs : List V3) (cl : Nat) : Prop where
 c : W.cell? ⟨bc,0,none⟩ = some (.slice ac cs.length cc)
 t : W.cell? ⟨bt,0,none⟩ = some (.pointer (some ⟨D.r,0,none⟩))
 l : W.cell? ⟨bl,0,none⟩ = some (.slice al vs.length cl)
 fix : Fix W D
 row : TT.RowR 1 TT.IntR W ac cs
 vals : Row W al vs
theorem AM.grows {W W' : World} {D : TD} {bc bt bl : Nat} {ac : Option Addr} {cs : List Int} {cc : Nat} {al : Option Addr} {vs : List V3} {cl : Nat} (h : AM W D bc bt bl ac cs cc al vs cl) (hg : Grows W W') : AM W' D bc bt bl ac cs cc al vs cl :=
 ⟨hg _ _ h.c,hg _ _ h.t,hg _ _ h.l,h.fix.grows hg,rowR_grows h.row hg fun _ _ h => h,row_grows h.vals hg⟩
theorem AM.later {W W' : World} {D : TD} {bc bt bl : Nat} {ac : Option Addr} {cs : List Int} {cc : Nat} {al : Option Addr} {vs : List V3} {cl : Nat} (h : AM W D bc bt bl ac cs cc al vs cl) (hb : Below W.heap.size W W') : AM W' D bc bt bl ac cs cc al vs cl:=h.grows (Grows.of hb)
theorem asked_any (w : World) (D : TD) (ac al : Option Addr) (nc cc nl cl : Nat) :
  Calls Tryz.prog 65 #[.pointer (some ⟨D.r,0,none⟩),.slice ac nc cc,.slice al nl cl] w fun e w' => e = .returned (.func (.func 114) #[] #[.pointer (some ⟨w.heap.size + 1,0,none⟩),.pointer (some ⟨w.heap.size,0,none⟩),.pointer (some ⟨w.heap.size + 1 + 1,0,none⟩)]) ∧
   w' = ((w.alloc (.cells #[.pointer (some ⟨D.r,0,none⟩)] 91)).alloc (.cells #[.slice ac nc cc] 44)).alloc (.cells #[.slice al nl cl] 26):=by
 go_enter Tryz.func65,Tryz.ntmps65
 go_wp2
 go_ret
 exact ⟨rfl,rfl⟩
def encP (D : TD) (p : Nat) : Array Value:=#[D.pv p]
def comesP (L : List Nat) (pre : List Nat) (x : Nat) : Prop:=∃ rest,L = pre ++ x :: rest
def YR (A C : World → Prop) (b : Bool) (W : World) : Prop:=(b = true ∧ A W) ∨ (b = false ∧ C W)
theorem yield_bool {F : Fence} {n : Nat} {P : Program} {l : Nat} {f : FuncId} {tmps : Array Value} {assign body : Code} {w : World} {A C : World → Prop} (h : RoundIn F n P l f tmps assign body w fun e W => (e = .returned (.bool true) ∧ A W) ∨ (e = .returned (.bool false) ∧ C W)) : RoundIn F n P l f tmps assign body w fun e W => ∃ b,e = .returned (.bool b) ∧ YR A C b W :=
 h.mono fun _ _ hq => hq.elim (fun q => ⟨true,q.1,Or.inl ⟨rfl,q.2⟩⟩) fun q => ⟨false,q.1,Or.inr ⟨rfl,q.2⟩⟩
theorem index_yes (w : World) (a : Option Addr) (cap : Nat) (cs : List Int) (x : Int) (hr : TT.RowR 1 TT.IntR w a cs) (hl : cs.length ≤ 1000000) {k : Nat} (hk : k < cs.length) (hkp : cs[k] = x) (hkf : ∀ j (g : j < cs.length),j < k → cs[j] ≠ x) :
  Calls Tryz.prog 115 #[.slice a cs.length cap,.int .i64 x] w fun e w' => e = .returned (.int .i64 (k : Int)) ∧ w' = w:=by
 refine (index_any w a cap cs x hr hl).mono ?_
 rintro e w' ⟨rfl,⟨k',h',e1,e2,rfl⟩ | ⟨e1,_⟩⟩
 ·refine ⟨?_,rfl⟩
  rcases Nat.lt_trichotomy k k' with c | c | c
  ·exact absurd hkp (e2 k hk c)
  ·rw [c]
  ·exact absurd e1 (hkf k' h' c)
 ·exact absurd hkp (e1 k hk)
theorem index_no (w : World) (a : Option Addr) (cap : Nat) (cs : List Int) (x : Int) (hr : TT.RowR 1 TT.IntR w a cs) (hl : cs.length ≤ 1000000) (hno : ∀ j (g : j < cs.length),cs[j] ≠ x) :
  Calls Tryz.prog 115 #[.slice a cs.length cap,.int .i64 x] w fun e w' => e = .returned (.int .i64 (-1)) ∧ w' = w:=by
 refine (index_any w a cap cs x hr hl).mono ?_
 rintro e w' ⟨rfl,⟨k',h',e1,_,_⟩ | ⟨_,rfl⟩⟩
 ·exact absurd e1 (hno k' h')
 ·exact ⟨rfl,rfl⟩
theorem not_first {cs : List Int} {x : Int} (h : ¬ ∃ k,∃ h : k < cs.length,cs[k] = x ∧ ∀ j (g : j < cs.length),j < k → cs[j] ≠ x) : ∀ j (g : j < cs.length),cs[j] ≠ x:=fun j => by
 induction j using Nat.strongRecOn with
 | ind j ih => exact fun g e => h ⟨j,g,e,fun i gi hi => ih i hi gi⟩
theorem range_cut {q P : Nat} (h : q < P) : List.range P = List.range q ++ q :: (List.range P).drop (q + 1):=by
 have h1:=List.take_append_drop q (List.range P)
 have h2 : (List.range P).drop q = q :: (List.range P).drop (q + 1):=by
  rw [List.drop_eq_getElem_cons (by simpa using h)]
  simp
 have h3 : List.take q (List.range P) = List.range q:=by rw [List.take_range,Nat.min_eq_left (Nat.le_of_lt h)]
 rw [h2,h3] at h1
 exact h1.symm
end
section
open Go.RowKit Go.Shelf BB
attribute [local go_sem] Oper.semAt_some
theorem asked1_found {B : Nat} (n : Nat) (l : Nat) (D : TD) (bc bt bl : Nat) (ac : Option Addr) (cs : List Int) (cc : Nat) (al : Option Addr) (vs : List V3) (cl : Nat) (hP : 1 ≤ D.P ∧ D.P ≤ 16) (hcl : cs.length ≤ 1000000) (k : Nat) (hk : k < cs.length) (hkp : cs[k] = D.t.part) (hkf : ∀ j (g : j < cs.length),j < k → cs[j] ≠ D.t.part) (hkv : k < vs.length) (hvr : ∀ p m,cs.findIdx? (fun c => decide (c = D.t.part)) = some p → vs[p]? = some m → V3.right m = true)
  (J Jx : List Nat → World → Prop) (hJb : ∀ pre W W',J pre W → Below W.heap.size W W' → J pre W')
  (hY : ∀ pre x W,J pre W → comesP (askL D cs vs) pre x → YieldAt Fence.wide (n - 1) Tryz.prog l (encP D x) W fun e W' => (e = .returned (.bool true) ∧ J (pre ++ [x]) W' ∧ (AM W D bc bt bl ac cs cc al vs cl → AM W' D bc bt bl ac cs cc al vs cl) ∧ Env W' B) ∨ (e = .returned (.bool false) ∧ Jx (pre ++ [x]) W'))
  (W : World) (hm : Env W B) (hA : AM W D bc bt bl ac cs cc al vs cl) (h0 : J [] W) :
  CallsIn Fence.wide n Tryz.prog 114 #[.func (.yield l) #[] #[],.pointer (some ⟨bc,0,none⟩),.pointer (some ⟨bt,0,none⟩),.pointer (some ⟨bl,0,none⟩)] W fun e W' => (∃ v,e = .returned v) ∧
   (J (askL D cs vs) W' ∨ (∃ pre,(∃ rest,askL D cs vs = pre ++ rest) ∧ Jx pre W')):=by
 have HY:=Hd hY
 have HJB:=Hd hJb
 have HA:=Hd hA
 have HM:=Hd hm
 have HJ:=Hd h0
 have HVR:=Hd hvr
 have a1:=hA.c
 have a2:=hA.t
 have a3:=hA.l
 obtain ⟨pc,c1,pk,ck,px,cx,h1,-,-,-,h5,-⟩:=hA.fix.ex
 have HCP:=Hd h5
 have a4:=h1 3 _ rfl
 have a5:=h1 5 _ rfl
 clear hY hJb hA hm h0 hvr h1 h5
 refine callsIn_of_wp Tryz.func114 rfl trivial ?_ rfl
 simp only [Tryz.ntmps114,List.size_toArray,List.length_cons,List.length_nil,Nat.reduceAdd,Nat.reduceSub,Array.replicate_succ,Array.replicate_zero,List.push_toArray,List.append_toArray,List.nil_append,List.cons_append]
 have hmx : Tryz.prog.follows .mixedOrders = true:=by kernel_rfl
 gi_wp2
 have HK:=Hd (Zai hkp hkf)
 have HI : Hid (Calls Tryz.prog 115 #[.slice ac cs.length cc,.int .i64 D.t.part] W.drew fun e w' => e = .returned (.int .i64 (k : Int)) ∧ w' = W.drew):=Hd (by
  refine (index_any _ ac cc cs D.t.part (rowR_grows HA.out.row (Grows.of (Bxr _ _).drew) fun _ _ h => h) hcl).mono ?_
  rintro e w' ⟨rfl,⟨k',h',e1,e2,rfl⟩ | ⟨e1,_⟩⟩
  ·refine ⟨?_,rfl⟩
   rcases Nat.lt_trichotomy k k' with c | c | c
   ·exact absurd hkp (e2 k hk c)
   ·rw [c]
   ·exact absurd e1 (hkf k' h' c)
  ·exact absurd hkp (e1 k hk))
 clear hkp hkf
 apply wpIn_once
 case h =>
  gi_region_with_o (refine ⟨trivial,fun h => absurd h (by simp [Fence.wide]),?_⟩; gi_at_call 115; refine (callsIn_wide.2 HI.out).mono ?_; rintro e w' ⟨rfl,rfl⟩)
  all_goals exact ⟨rfl,rfl⟩
 case k =>
  have hkvi : (k : Int) < (vs.length : Int):=by omega
  have HASK : Hid (askL D cs vs = [homeV D.P vs[k]]):=Hd (askL_one hk HK.out.1 HK.out.2 hkv)
  have HRV : Hid (V3.right vs[k] = true):=Hd (HVR.out k _ (by
   rw [List.findIdx?_eq_some_iff_getElem]
   exact ⟨hk,by simpa using HK.out.1,fun j hj => by simpa using HK.out.2 j Om hj⟩) (List.getElem?_eq_getElem hkv))
  have HC2:=Hd (homeV_lt hP.1 vs[k])
  obtain ⟨bv,ov,rfl,d0,d1,d2⟩:=HA.out.vals k hkv
  generalize hv : vs[k] = v at HASK HRV HC2 d0 d1 d2
  have hh:=HC2.out
  have hcp:=HCP.out (homeV D.P v) hh
  clear hv
  generalize hm : homeV D.P v = m at HASK HC2 hh hcp
  have HH:=Hd hm
  have hmi : (m : Int) < (D.P : Int):=by omega
  clear hm
  have l1:=cell_lt a1
  have l2:=cell_lt a2
  have l3:=cell_lt a3
  have l4:=cell_lt a4
  have l5:=cell_lt d0
  have l6:=cell_lt hcp
  gi_wp2
  have HMC : Hid (∀ w' : World,Below W.heap.size W w' → Calls Tryz.prog 116 #[.pointer (some ⟨D.r,0,none⟩),.agg #[.int .i64 v.1,.int .i64 v.2.1,.string v.2.2]] w' fun e w2 => e = .returned (.int .i64 (m : Int)) ∧ Below w'.heap.size w' w2):=Hd fun w' hb => by
   have:=home_any (B:=B) w' D v (HA.out.fix.later hb) hP HRV.out (HM.out.later hb HM.out.le)
   rw [HH.out] at this
   exact this
  gi_region_with_o (first
   | (refine ⟨trivial,fun h => absurd h (by simp [Fence.wide]),?_⟩; gi_at_call 116; refine (callsIn_wide.2 (HMC.out _ Bz)).mono ?_; rintro e w1 ⟨rfl,hb1⟩; have hbw : Below W.heap.size W w1:=Bz; obtain ⟨hcc,hff⟩:=bcell hbw; obtain ⟨fn,tmps,assign,body,hy,hR⟩:=HY.out [] m w1 (HJB.out _ _ _ HJ.out hbw) ⟨[],by rw [HASK.out]; rfl⟩; unfold encP at hy; have HR2:=Hd (yield_bool hR); clear hR hb1)
   | (refine ⟨by simp [Fence.wide],?_⟩; refine HR2.out.mono ?_; rintro e W3 ⟨b3,rfl,hq⟩; have HQ3:=Hd hq; clear hq))
  all_goals gi_wp2
  all_goals (refine bodyPost_ret (results_none rfl _ _ _) rfl ⟨⟨_,rfl⟩,?_⟩; exact HQ3.out.elim (fun q => .inl (by rw [HASK.out]; exact q.2.1)) fun q => .inr ⟨_,⟨[],by rw [HASK.out]; rfl⟩,q.2⟩)
end
section
open Go.RowKit Go.Shelf BB
attribute [local go_sem] Oper.semAt_some
theorem asked1_all {B : Nat} (n : Nat) (l : Nat) (D : TD) (bc bt bl : Nat) (ac : Option Addr) (cs : List Int) (cc : Nat) (al : Option Addr) (vs : List V3) (cl : Nat) (hP : 1 ≤ D.P ∧ D.P ≤ 16) (hcl : cs.length ≤ 1000000) (hfar : ∀ k (h : k < cs.length),cs[k] = D.t.part → (∀ j (g : j < cs.length),j < k → cs[j] ≠ D.t.part) → ¬ k < vs.length)
  (J Jx : List Nat → World → Prop) (hJb : ∀ pre W W',J pre W → Below W.heap.size W W' → J pre W')
  (hY : ∀ pre x W,J pre W → comesP (askL D cs vs) pre x → YieldAt Fence.wide (n - 1) Tryz.prog l (encP D x) W fun e W' => (e = .returned (.bool true) ∧ J (pre ++ [x]) W' ∧ (AM W D bc bt bl ac cs cc al vs cl → AM W' D bc bt bl ac cs cc al vs cl) ∧ Env W' B) ∨ (e = .returned (.bool false) ∧ Jx (pre ++ [x]) W'))
  (W : World) (hm : Env W B) (hA : AM W D bc bt bl ac cs cc al vs cl) (h0 : J [] W) :
  CallsIn Fence.wide n Tryz.prog 114 #[.func (.yield l) #[] #[],.pointer (some ⟨bc,0,none⟩),.pointer (some ⟨bt,0,none⟩),.pointer (some ⟨bl,0,none⟩)] W fun e W' => (∃ v,e = .returned v) ∧
   (J (askL D cs vs) W' ∨ (∃ pre,(∃ rest,askL D cs vs = pre ++ rest) ∧ Jx pre W')):=by
 have HY:=Hd hY
 have HJB:=Hd hJb
 have HA:=Hd hA
 have HM:=Hd hm
 have HJ:=Hd h0
 have HFAR:=Hd hfar
 have a1:=hA.c
 have a2:=hA.t
 have a3:=hA.l
 obtain ⟨pc,c1,pk,ck,px,cx,h1,-,-,-,h5,-⟩:=hA.fix.ex
 have HCP:=Hd h5
 have a4:=h1 3 _ rfl
 have a5:=h1 5 _ rfl
 clear hY hJb hA hm h0 hfar h1 h5
 refine callsIn_of_wp Tryz.func114 rfl trivial ?_ rfl
 simp only [Tryz.ntmps114,List.size_toArray,List.length_cons,List.length_nil,Nat.reduceAdd,Nat.reduceSub,Array.replicate_succ,Array.replicate_zero,List.push_toArray,List.append_toArray,List.nil_append,List.cons_append]
 have hmx : Tryz.prog.follows .mixedOrders = true:=by kernel_rfl
 gi_wp2
 by_cases hi : ∃ k,∃ h : k < cs.length,cs[k] = D.t.part ∧ ∀ j (g : j < cs.length),j < k → cs[j] ≠ D.t.part
 ·obtain ⟨k,hk,hkp,hkf⟩:=hi
  have HK:=Hd (Zai hkp hkf)
  have HI : Hid (Calls Tryz.prog 115 #[.slice ac cs.length cc,.int .i64 D.t.part] W.drew fun e w' => e = .returned (.int .i64 (k : Int)) ∧ w' = W.drew):=Hd (index_yes _ ac cc cs D.t.part (rowR_grows HA.out.row (Grows.of (Bxr _ _).drew) fun _ _ h => h) hcl hk hkp hkf)
  clear hkp hkf
  have HKV : Hid (¬ k < vs.length):=Hd fun h => HFAR.out k hk HK.out.1 HK.out.2 h
  apply wpIn_once
  case h =>
   gi_region_with_o (refine ⟨trivial,fun h => absurd h (by simp [Fence.wide]),?_⟩; gi_at_call 115; refine (callsIn_wide.2 HI.out).mono ?_; rintro e w' ⟨rfl,rfl⟩)
   all_goals exact ⟨rfl,rfl⟩
  case k =>
   obtain ⟨P,hPe⟩:=Vx D.P
   have HPE:=Hd hPe
   rw [hPe] at hP a5
   have HASK : Hid (askL D cs vs = List.range P):=Hd (by rw [← hPe]; exact askL_far hk HK.out.1 HK.out.2 HKV.out)
   clear hPe
   have hbW : Below W.heap.size W W.drew:=(Bxr _ _).drew
   have HAD:=Hd (HA.out.later hbW)
   have HMD:=Hd (HM.out.later hbW HM.out.le)
   have HJD:=Hd (HJB.out _ _ _ HJ.out hbW)
   clear hbW
   have hkvi : ¬ (k : Int) < (vs.length : Int):=by have:=HKV.out; omega
   gi_wp2
   gi_loopw [42] (fun i wr => ∃ (q : Nat),q ≤ P ∧ i = .int .i64 (q : Int) ∧ J (List.range q) wr ∧ AM wr D bc bt bl ac cs cc al vs cl ∧ Env wr B) (fun i _ => P - (intOf i).toNat)
   case atStart => exact ⟨0,Nat.zero_le _,rfl,HJD.out,HAD.out,HMD.out⟩
   case round =>
    obtain ⟨q,hq,rfl,hJ,hG,hM⟩:=hrel
    have HG:=Hd hG
    by_cases hlt : q < P
    ·have hlti : (q : Int) < (P : Int):=by omega
     obtain ⟨fn,tmps,assign,body,hy,hR⟩:=HY.out (List.range q) q wr hJ ⟨(List.range P).drop (q + 1),by rw [HASK.out]; exact range_cut hlt⟩
     have HR2:=Hd hR
     have hq5:=HG.out.fix.parts
     have cp2:=hq5 q (by rw [HPE.out]; exact hlt)
     clear hq5
     clear hJ hR hM hG
     unfold encP at hy
     gi_wp2
     refine ⟨fun h => absurd h (by simp [Fence.wide]),?_⟩
     refine HR2.out.mono ?_
     rintro e W3 (⟨rfl,hJ3,hG3,hM3⟩ | ⟨rfl,hJx3⟩)
     ·gi_wp2
      go_roundw
      case rel => exact ⟨q + 1,by omega,by go_num,by rw [List.range_succ]; exact hJ3,hG3 HG.out,hM3⟩
      case measure => simp [intOf]; omega
     ·gi_wp2
      refine bodyPost_ret (v:=.tuple #[]) (by simp [results,Tryz.results114,go_sem]) rfl ?_
      exact ⟨⟨_,rfl⟩,.inr ⟨_,⟨(List.range P).drop (q + 1),by rw [HASK.out,Zas]; exact range_cut hlt⟩,hJx3⟩⟩
    ·have hlti : ¬ (q : Int) < (P : Int):=by omega
     obtain rfl : q = P:=by omega
     gi_wp2
     go_end0
     exact ⟨⟨_,rfl⟩,.inl (by rw [HASK.out]; exact hJ)⟩
 ·have hno : ∀ j (g : j < cs.length),cs[j] ≠ D.t.part:=not_first hi
  have HNO:=Hd hno
  have HI : Hid (Calls Tryz.prog 115 #[.slice ac cs.length cc,.int .i64 D.t.part] W.drew fun e w' => e = .returned (.int .i64 (-1)) ∧ w' = W.drew):=Hd (index_no _ ac cc cs D.t.part (rowR_grows HA.out.row (Grows.of (Bxr _ _).drew) fun _ _ h => h) hcl hno)
  clear hi hno
  apply wpIn_once
  case h =>
   gi_region_with_o (refine ⟨trivial,fun h => absurd h (by simp [Fence.wide]),?_⟩; gi_at_call 115; refine (callsIn_wide.2 HI.out).mono ?_; rintro e w' ⟨rfl,rfl⟩)
   all_goals exact ⟨rfl,rfl⟩
  case k =>
   obtain ⟨P,hPe⟩:=Vx D.P
   have HPE:=Hd hPe
   rw [hPe] at hP a5
   have HASK : Hid (askL D cs vs = List.range P):=Hd (by rw [← hPe]; exact askL_none HNO.out)
   clear hPe
   have hbW : Below W.heap.size W W.drew:=(Bxr _ _).drew
   have HAD:=Hd (HA.out.later hbW)
   have HMD:=Hd (HM.out.later hbW HM.out.le)
   have HJD:=Hd (HJB.out _ _ _ HJ.out hbW)
   clear hbW
   gi_wp2
   gi_loopw [42] (fun i wr => ∃ (q : Nat),q ≤ P ∧ i = .int .i64 (q : Int) ∧ J (List.range q) wr ∧ AM wr D bc bt bl ac cs cc al vs cl ∧ Env wr B) (fun i _ => P - (intOf i).toNat)
   case atStart => exact ⟨0,Nat.zero_le _,rfl,HJD.out,HAD.out,HMD.out⟩
   case round =>
    obtain ⟨q,hq,rfl,hJ,hG,hM⟩:=hrel
    have HG:=Hd hG
    by_cases hlt : q < P
    ·have hlti : (q : Int) < (P : Int):=by omega
     obtain ⟨fn,tmps,assign,body,hy,hR⟩:=HY.out (List.range q) q wr hJ ⟨(List.range P).drop (q + 1),by rw [HASK.out]; exact range_cut hlt⟩
     have HR2:=Hd hR
     have hq5:=HG.out.fix.parts
     have cp2:=hq5 q (by rw [HPE.out]; exact hlt)
     clear hq5
     clear hJ hR hM hG
     unfold encP at hy
     gi_wp2
     refine ⟨fun h => absurd h (by simp [Fence.wide]),?_⟩
     refine HR2.out.mono ?_
     rintro e W3 (⟨rfl,hJ3,hG3,hM3⟩ | ⟨rfl,hJx3⟩)
     ·gi_wp2
      go_roundw
      case rel => exact ⟨q + 1,by omega,by go_num,by rw [List.range_succ]; exact hJ3,hG3 HG.out,hM3⟩
      case measure => simp [intOf]; omega
     ·gi_wp2
      refine bodyPost_ret (v:=.tuple #[]) (by simp [results,Tryz.results114,go_sem]) rfl ?_
      exact ⟨⟨_,rfl⟩,.inr ⟨_,⟨(List.range P).drop (q + 1),by rw [HASK.out,Zas]; exact range_cut hlt⟩,hJx3⟩⟩
    ·have hlti : ¬ (q : Int) < (P : Int):=by omega
     obtain rfl : q = P:=by omega
     gi_wp2
     go_end0
     exact ⟨⟨_,rfl⟩,.inl (by rw [HASK.out]; exact hJ)⟩
end
end Go.Proofs.YtmmmkjhpmlfopaaGreatDoor
