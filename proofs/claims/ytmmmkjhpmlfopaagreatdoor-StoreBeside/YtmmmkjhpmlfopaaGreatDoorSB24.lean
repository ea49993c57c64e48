/- O29 O30 -/
import Derived.Test.YtmmmkjhpmlfopaaGreatDoorSB23
set_option maxHeartbeats 8000000
set_option maxRecDepth 100000
namespace Go.Proofs.YtmmmkjhpmlfopaaGreatDoor
open Go.RowKit
section
open Go.RowKit Go.Shelf BB
attribute [local go_sem] Oper.semAt_some
theorem Tryz.infoPair : (Tryz.prog.info? 152).map (fun i => (i.zero,i.size,i.bytes)) = some (some (.agg #[.string ⟨#[]⟩,.string ⟨#[]⟩]),2,32):=by kernel_rfl
theorem Tryz.infoRowv : (Tryz.prog.info? 26).map (fun i => (i.zero,i.size,i.bytes)) = some (some (.slice none 0 0),1,24):=by kernel_rfl
structure ScI (w : World) (D : TD) (N : Nat) (i : Int) (lo hi : ByteArray) (j : Nat) (rs : List Row3) (pre : List Nat) (W : World) : Prop where
 bel : Below w.heap.size w W
 b0 : W.heap[w.heap.size]? = some (.cells #[.int .i64 i] 3 (0,0))
 b1 : W.heap[w.heap.size + 1]? = some (.cells #[.string lo] 9 (0,0))
 b2 : W.heap[w.heap.size + 1 + 1]? = some (.cells #[.string hi] 9 (0,0))
 bt : W.heap[N]? = some (.cells #[.pointer (some ⟨D.r,0,none⟩)] 91 (0,0))
 bc : W.heap[N + 1]? = some (.cells #[.slice none 0 0] 44 (0,0))
 bl : W.heap[N + 1 + 1]? = some (.cells #[.slice none 0 0] 26 (0,0))
 fnd : ∃ v m,W.heap[w.heap.size + 1 + 1 + 1]? = some (.cells #[v] 148 (0,0)) ∧ W.ownsRow w.heap.size 152 2 v m.length (pc m) ∧ FoundP D j rs lo hi pre m
section
variable {w : World} {D : TD} {N : Nat} {i : Int} {lo hi : ByteArray} {j : Nat} {rs : List Row3} {pre : List Nat} {W W' : World}
theorem ScI.own {B : Nat} (h : ScI w D N i lo hi j rs pre W) {row : Option Nat} (hg : W.grownBy W' row) (hr : ∀ r,row = some r → B ≤ r ∧ ∃ o : Obj,W.heap[r]? = some o ∧ o.isCells = false) (hB : w.heap.size ≤ B) : ScI w D N i lo hi j rs pre W':=by
 obtain ⟨v,m,h1,h2,h3⟩:=h.fnd
 exact ⟨below_own h.bel hg hr hB h.bel.size,cells_own h.b0 hg hr,cells_own h.b1 hg hr,cells_own h.b2 hg hr,cells_own h.bt hg hr,cells_own h.bc hg hr,cells_own h.bl hg hr,v,m,cells_own h1 hg hr,row_own h2 hg hr,h3⟩
theorem ScI.later (h : ScI w D N i lo hi j rs pre W) (hb : Below W.heap.size W W') : ScI w D N i lo hi j rs pre W':=by
 obtain ⟨v,m,h1,h2,h3⟩:=h.fnd
 exact ⟨h.bel.trans (hb.mono h.bel.size),heap_of h.b0 hb,heap_of h.b1 hb,heap_of h.b2 hb,heap_of h.bt hb,heap_of h.bc hb,heap_of h.bl hb,v,m,heap_of h1 hb,own_later9 h2 hb,h3⟩
theorem ScI.am (h : ScI w D N i lo hi j rs pre W) (hF : Fix w D) : AM W D (N + 1) N (N + 1 + 1) none [] 0 none [] 0 :=
 ⟨cell_blk h.bc rfl,cell_blk h.bt rfl,cell_blk h.bl rfl,hF.later h.bel,fun _ h => absurd h (Nat.not_lt_zero _),fun _ h => absurd h (Nat.not_lt_zero _)⟩
end
theorem pc_one9 : ∀ (m : List It),∀ u ∈ pc m,u.oneCell' = true
 | [],u,hu => absurd hu (by simp [pc])
 | x :: m,u,hu => by
  simp only [pc,List.mem_cons] at hu
  rcases hu with rfl | rfl | hu
  ·rfl
  ·rfl
  ·exact pc_one9 m u hu
theorem setCell_grown9 (w : World) (b o : Nat) (v : Value) : w.grownBy (w.setCell ⟨b,o,none⟩ v) (some b):=⟨rfl,rfl,rfl,by simp [World.setCell],fun k _ hn => Below.heap_setCell _ _ _ _ fun e => hn (by rw [e])⟩
theorem own_news {w : World} {B : Nat} {e : TypeId} {size : Nat} {v : Value} {n : Nat} {xs : List Value} (h : w.ownsRow B e size v n xs) : ∃ p c,v = .slice p n c ∧ (0 < xs.length → ∃ ad,p = some ad ∧ ∀ j u,xs[j]? = some u → w.cell? (ad.add j) = some u):=by
 have h0:=h
 obtain ⟨hx,⟨rfl,rfl⟩ | ⟨g,cap,cur,rfl,_⟩⟩:=h
 ·exact ⟨none,0,rfl,fun k => by rw [hx] at k; omega⟩
 ·exact ⟨_,cap,rfl,fun _ => ⟨_,rfl,h0.cells rfl⟩⟩
theorem own_ne {w : World} {B : Nat} {e : TypeId} {size : Nat} {v : Value} {n : Nat} {xs : List Value} (h : w.ownsRow B e size v n xs) {k : Nat} {cs : Array Value} {t : TypeId} {fr : Nat × Nat} (hk : w.heap[k]? = some (.cells cs t fr)) (ht : t ≠ e) : v.ownBlock ≠ some k:=fun q => by
 obtain ⟨cur,hc⟩:=own_block9 h q
 rw [hk] at hc
 simp only [Option.some.injEq,Obj.cells.injEq] at hc
 exact ht hc.2.1
section
variable {w : World} {D : TD} {N : Nat} {i : Int} {lo hi : ByteArray} {j : Nat} {rs : List Row3} {pre : List Nat} {W : World}
theorem ScI.turn (h : ScI w D N i lo hi j rs pre W) (hF : Fix w D) {C : Nat} (hm : Env w C) (hN : w.heap.size + 1 + 1 + 1 < N) {v : Value} {m : List It} (hk : W.heap[w.heap.size + 1 + 1 + 1]? = some (.cells #[v] 148 (0,0))) (ho : W.ownsRow w.heap.size 152 2 v m.length (pc m)) {w5 w6 : World} (hb : Below W.heap.size W w5) {v3 : Value} {m3 : List It} (ho3 : w6.ownsRow w.heap.size 152 2 v3 m3.length (pc m3)) (hg : w5.grownBy w6 v.ownBlock) {x : Nat} (hf : FoundP D j rs lo hi (pre ++ [x]) m3) (Bk : Nat) :
  KeepsFrom Bk W (w6.setCell ⟨w.heap.size + 1 + 1 + 1,0,none⟩ v3) ∧ KpP C (fun W => AM W D (N + 1) N (N + 1 + 1) none [] 0 none [] 0) W (w6.setCell ⟨w.heap.size + 1 + 1 + 1,0,none⟩ v3) ∧ ScI w D N i lo hi j rs (pre ++ [x]) (w6.setCell ⟨w.heap.size + 1 + 1 + 1,0,none⟩ v3):=by
 have hk6 : w6.heap[w.heap.size + 1 + 1 + 1]? = some (.cells #[v] 148 (0,0)):=(hg.block _ (Zll (Gx hk) hb.size) fun e => own_ne ho hk (by decide) e.symm).trans (heap_of hk hb)
 have hkU:=heap_setCell_at hk6 v3 (i:=0)
 obtain ⟨U,hU⟩:=Vx (w6.setCell ⟨w.heap.size + 1 + 1 + 1,0,none⟩ v3)
 have hUo : ∀ k,k ≠ w.heap.size + 1 + 1 + 1 → U.heap[k]? = w6.heap[k]?:=fun k hk => by
  rw [← hU]
  exact Below.heap_setCell _ _ _ _ hk
 have hUs : U.heap.size = w6.heap.size:=by rw [← hU]; simp [World.setCell]
 have hst : ∀ (k : Nat) (cs : Array Value) (t : TypeId),W.heap[k]? = some (.cells cs t (0,0)) → k ≠ w.heap.size + 1 + 1 + 1 → t ≠ 152 → U.heap[k]? = some (.cells cs t (0,0)):=fun k cs t hk1 hn ht => (hUo k hn).trans ((hg.block k (Zll (Gx hk1) hb.size) fun e => own_ne ho hk1 ht e.symm).trans (heap_of hk1 hb))
 have hbU : Below w.heap.size w U:=by
  have h1:=(h.bel.trans (hb.mono h.bel.size)).grown hg (Zlt h.bel.size hb.size) fun k hk => (ho.lt k hk).1
  rw [← hU]
  exact h1.grown (setCell_grown9 w6 _ 0 v3) h1.size fun k hk => by cases hk; omega
 rw [hU] at hkU ⊢
 have hSc : ScI w D N i lo hi j rs (pre ++ [x]) U:=⟨hbU,hst _ _ _ h.b0 Om (by decide),hst _ _ _ h.b1 Om (by decide),hst _ _ _ h.b2 Om (by decide),hst _ _ _ h.bt Om (by decide),hst _ _ _ h.bc Om (by decide),hst _ _ _ h.bl Om (by decide),v3,m3,by simpa using hkU,own_kept ho3 fun k hk => hUo k fun e => own_ne ho3 hk6 (by decide) (by rw [← e]; exact hk),hf⟩
 refine ⟨⟨by have:=hb.size; have:=hg.size; omega,fun k o _ hk1 hc => ?_⟩,⟨fun _ => hSc.am hF,fun _ => hm.later hbU hm.le⟩,hSc⟩
 have hk2 : k ≠ w.heap.size + 1 + 1 + 1:=fun e => by
  subst e
  rw [hk] at hk1
  cases hk1
  cases hc
 refine (hUo k hk2).trans ((hg.block k (Zll (Gx hk1) hb.size) fun e => ?_).trans (heap_of hk1 hb))
 obtain ⟨cur,hc2⟩:=own_block9 ho e.symm
 rw [hk1] at hc2
 cases hc2
 cases hc
theorem ScI.app (hT : TabOk D.t rs) (hcnt : rs.length ≤ 3000000000) (h : ScI w D N i lo hi j rs pre W) {v : Value} {m : List It} (ho : W.ownsRow w.heap.size 152 2 v m.length (pc m)) (hf : FoundP D j rs lo hi pre m) {x : Nat} (hx : x ∉ pre) {w5 : World} (hb : Below W.heap.size W w5) {B2 : Nat} {v2 : Value} {m2 : List It} (ho2 : w5.ownsRow B2 152 2 v2 m2.length (pc m2)) (hf2 : FoundP D j rs lo hi [x] m2) :
  ∃ v3 w6,(Builtin.append_ #[148,148] 148 #[v,v2]).run Tryz.prog w5 = .ok v3 w6 ∧ w6.ownsRow w.heap.size 152 2 v3 (m ++ m2).length (pc (m ++ m2)) ∧ w5.grownBy w6 v.ownBlock ∧ FoundP D j rs lo hi (pre ++ [x]) (m ++ m2):=by
 obtain ⟨i0,hi0,hz0,hz1,hz2⟩:=info_parts Tryz.infoPair
 have hj:=hf.join hT hf2 hx
 have hl:=hj.len
 rw [Zla] at hl
 obtain ⟨p2,c2,rfl,hn⟩:=own_news ho2
 obtain ⟨v3,w6,r1,r2,r3⟩:=run_append_whole (P:=Tryz.prog) w5 w.heap.size 148 148 152 i0 _ 2 32 Tryz.underlying148 hi0 hz0 hz1 hz2 rfl (by decide) v m.length (pc m) (own_later9 ho hb) p2 m2.length c2 (pc m2) ho2.1 hn (pc_one9 m2) (by unfold maxLen; omega) Om (Zlt h.bel.size hb.size)
 exact ⟨v3,w6,r1,by rw [pc_append,Zla]; exact r2,r3,hj⟩
end
theorem pcP_at : ∀ (l : List Pr) (i : Nat) (h : i < l.length),(pcP l)[i * 2]? = some (.string (l[i]).1) ∧ (pcP l)[i * 2 + 1]? = some (.string (l[i]).2):=fun l i h => by
 rw [pcP_get l (i * 2) Om,pcP_get l (i * 2 + 1) Om,show i * 2 / 2 = i by omega,show (i * 2 + 1) / 2 = i by omega,show i * 2 % 2 = 0 by omega,show (i * 2 + 1) % 2 = 1 by omega,getElem!_pos l i h]
 exact ⟨rfl,rfl⟩
theorem RowsO.nil (w : World) (B : Nat) : RowsO w B (.slice none 0 0) []:=⟨⟨[],rfl,World.ownsRow_nil _ _ _ _,fun _ h => absurd h (Nat.not_lt_zero _),fun _ _ _ h => absurd h (Nat.not_lt_zero _)⟩⟩
theorem RowsO.later {w w' : World} {B : Nat} {v : Value} {L : List Row3} (h : RowsO w B v L) (hb : Below w.heap.size w w') : RowsO w' B v L:=by
 obtain ⟨us,h1,h2,h3,h4⟩:=h.own
 exact ⟨⟨us,h1,own_later9 h2 hb,fun i hi hi' => own_later9 (h3 i hi hi') hb,h4⟩⟩
theorem RowsO.mono {w : World} {B B' : Nat} {v : Value} {L : List Row3} (h : RowsO w B v L) (hB : B' ≤ B) : RowsO w B' v L:=by
 obtain ⟨us,h1,h2,h3,h4⟩:=h.own
 exact ⟨⟨us,h1,own_mono9 h2 hB,fun i hi hi' => own_mono9 (h3 i hi hi') hB,h4⟩⟩
theorem RowsO.other {w w' : World} {B C : Nat} {v : Value} {L : List Row3} (h : RowsO w B v L) {row : Option Nat} (hg : w.grownBy w' row) (hr : ∀ r,row = some r → C ≤ r ∧ ∃ o : Obj,w.heap[r]? = some o ∧ o.isCells = false) : RowsO w' B v L:=by
 obtain ⟨us,h1,h2,h3,h4⟩:=h.own
 exact ⟨⟨us,h1,row_own h2 hg hr,fun i hi hi' => row_own (h3 i hi hi') hg hr,h4⟩⟩
theorem rows_snoc {w w1 w3 : World} {B : Nat} {u u' v : Value} {L : List Row3} {r : Row3} {us : List Value} (h1 : us.length = L.length) (h2 : w.ownsRow B 26 1 u L.length us) (h3 : ∀ i (h : i < us.length) (h' : i < L.length),w.ownsRow B 73 3 us[i] (L[i]).length (vc L[i])) (h4 : ∀ i j g (h : i < us.length) (h' : j < us.length),us[i].ownBlock = some g → us[j].ownBlock = some g → i = j) (hB : B ≤ w.heap.size) (hb : Below w.heap.size w w1) (hv : w1.ownsRow w.heap.size 73 3 v r.length (vc r)) {o : Obj} (hg : (w1.alloc o).grownBy w3 u.ownBlock) (ho : w3.ownsRow B 26 1 u' (L.length + 1) (us ++ [v])) : RowsO w3 B u' (L ++ [r]):=by
 have hkeep : ∀ (B' : Nat) (x : Value) (n : Nat) (xs : List Value),w1.ownsRow B' 73 3 x n xs → w3.ownsRow B' 73 3 x n xs:=fun B' x n xs hx => own_kept hx fun g hgx => by
  obtain ⟨cur,hc⟩:=own_block9 hx hgx
  have hl:=(Gx hc)
  refine (hg.block g (by simp; omega) fun e => ?_).trans (alloc_low9 hl)
  obtain ⟨cur2,hc2⟩:=own_block9 h2 e.symm
  rw [heap_of hc2 hb] at hc
  simp only [Option.some.injEq,Obj.cells.injEq] at hc
  exact absurd hc.2.1 (by decide)
 refine ⟨⟨us ++ [v],by simp [h1],by simpa using ho,fun i hi hi' => ?_,fun i j g hi hj e1 e2 => ?_⟩⟩
 ·by_cases c : i < us.length
  ·rw [List.getElem_append_left c,List.getElem_append_left Om]
   exact hkeep _ _ _ _ (own_later9 (h3 i c Om) hb)
  ·have hi2 : i = us.length:=by simp at hi; omega
   subst hi2
   rw [List.getElem_append_right Zlr,List.getElem_append_right Om]
   simp only [Nat.sub_self,h1,List.getElem_cons_zero]
   exact own_mono9 (hkeep _ _ _ _ hv) hB
 ·by_cases c : i < us.length <;> by_cases c' : j < us.length
  ·rw [List.getElem_append_left c] at e1
   rw [List.getElem_append_left c'] at e2
   exact h4 i j g c c' e1 e2
  ·rw [List.getElem_append_left c] at e1
   rw [List.getElem_append_right Om] at e2
   have hj2 : j = us.length:=by simp at hj; omega
   subst hj2
   simp only [Nat.sub_self,List.getElem_cons_zero] at e2
   have:=((h3 i c Om).lt g e1).2
   have:=(hv.lt g e2).1
   omega
  ·rw [List.getElem_append_left c'] at e2
   rw [List.getElem_append_right Om] at e1
   have hi2 : i = us.length:=by simp at hi; omega
   subst hi2
   simp only [Nat.sub_self,List.getElem_cons_zero] at e1
   have:=((h3 j c' Om).lt g e2).2
   have:=(hv.lt g e1).1
   omega
  ·simp at hi hj
   omega
theorem ask_all (D : TD) : askL D [] [] = List.range D.P:=askL_none fun _ h => absurd h (Nat.not_lt_zero _)
theorem scan_any {B C : Nat} {Z : Nat → Prop} (w : World) (D : TD) (rs : List Row3) (j : Nat) (i : Int) (hi : i = (j : Int) - 1) (lo hi' : ByteArray) (hT : Tab w B Z D rs) (hm : Env w C) (hjK : j < D.K) :
  Calls Tryz.prog 38 #[.pointer (some ⟨D.r,0,none⟩),.int .i64 i,.string lo,.string hi'] w fun e w' => Below w.heap.size w w' ∧ ∃ v L,e = .returned v ∧ ScanP D j rs lo hi' L ∧ RowsO w' w.heap.size v L:=by
 have HT:=Hd hT
 have HM:=Hd hm
 have HI:=Hd hi
 have HJ:=Hd hjK
 clear hT hm hi hjK
 refine (callsIn_wide (n:=8)).1 ?_
 refine callsIn_of_wp_marks Tryz.func38 rfl trivial ?_ rfl
 simp only [Tryz.ntmps38,List.size_toArray,List.length_cons,List.length_nil,Nat.reduceAdd,Nat.reduceSub,Array.replicate_succ,Array.replicate_zero,List.push_toArray,List.append_toArray,List.nil_append,List.cons_append]
 obtain ⟨W0,hW0⟩:=Vx ((((w.alloc (Obj.cells #[.int .i64 i] 3)).alloc (Obj.cells #[.string lo] 9)).alloc (Obj.cells #[.string hi'] 9)).alloc (Obj.cells #[.slice none 0 0] 148))
 have hb0 : Below w.heap.size w W0:=by rw [← hW0]; exact ((((Bxr _ w).alloc Zlr _).alloc Si _).alloc (by simp; omega) _).alloc (by simp; omega) _
 have hs0 : W0.heap.size = w.heap.size + 1 + 1 + 1 + 1:=by rw [← hW0]; simp
 have k0 : W0.heap[w.heap.size]? = some (.cells #[.int .i64 i] 3 (0,0)):=by
  rw [← hW0]
  exact (alloc_low9 (by first | (simp; done) | (simp; omega))).trans ((alloc_low9 (by first | (simp; done) | (simp; omega))).trans ((alloc_low9 (by first | (simp; done) | (simp; omega))).trans (heap_alloc_new w _)))
 have k1 : W0.heap[w.heap.size + 1]? = some (.cells #[.string lo] 9 (0,0)):=by
  rw [← hW0]
  refine (alloc_low9 (by first | (simp; done) | (simp; omega))).trans ((alloc_low9 (by first | (simp; done) | (simp; omega))).trans ?_)
  have:=heap_alloc_new (w.alloc (Obj.cells #[.int .i64 i] 3)) (Obj.cells #[.string lo] 9)
  rwa [World.size_alloc] at this
 have k2 : W0.heap[w.heap.size + 1 + 1]? = some (.cells #[.string hi'] 9 (0,0)):=by
  rw [← hW0]
  refine (alloc_low9 (by first | (simp; done) | (simp; omega))).trans ?_
  have:=heap_alloc_new ((w.alloc (Obj.cells #[.int .i64 i] 3)).alloc (Obj.cells #[.string lo] 9)) (Obj.cells #[.string hi'] 9)
  rwa [World.size_alloc,World.size_alloc] at this
 have k3 : W0.heap[w.heap.size + 1 + 1 + 1]? = some (.cells #[.slice none 0 0] 148 (0,0)):=by
  rw [← hW0]
  have:=heap_alloc_new (((w.alloc (Obj.cells #[.int .i64 i] 3)).alloc (Obj.cells #[.string lo] 9)).alloc (Obj.cells #[.string hi'] 9)) (Obj.cells #[.slice none 0 0] 148)
  rwa [World.size_alloc,World.size_alloc,World.size_alloc] at this
 have HB0:=Hd hb0
 have HS0:=Hd hs0
 have HK0:=Hd (Zai k0 (Zai k1 (Zai k2 k3)))
 clear hs0 k0 k1 k2 k3
 gi_wp2_with fail
 refine ⟨trivial,?_⟩
 gi_at_call 65
 refine (callsIn_wide.2 (asked_any W0 D none none 0 0 0 0)).mono ?_
 rintro e w2 ⟨rfl,rfl⟩
 gi_wp2
 have hAM:=asked_am W0 D none [] 0 none [] 0 (HT.out.fix.now.later HB0.out) (fun _ h => absurd h (Nat.not_lt_zero _)) (fun _ h => absurd h (Nat.not_lt_zero _))
 simp only [List.length_nil] at hAM
 obtain ⟨W1,hW1⟩:=Vx (((W0.alloc (Obj.cells #[.pointer (some ⟨D.r,0,none⟩)] 91)).alloc (Obj.cells #[.slice none 0 0] 44)).alloc (Obj.cells #[.slice none 0 0] 26))
 have hb1 : Below W0.heap.size W0 W1:=by rw [← hW1]; exact (((Bxr _ W0).alloc Zlr _).alloc Si _).alloc (by simp; omega) _
 have m0 : W1.heap[W0.heap.size]? = some (.cells #[.pointer (some ⟨D.r,0,none⟩)] 91 (0,0)):=by
  rw [← hW1]
  exact (alloc_low9 (by first | (simp; done) | (simp; omega))).trans ((alloc_low9 (by first | (simp; done) | (simp; omega))).trans (heap_alloc_new W0 _))
 have m1 : W1.heap[W0.heap.size + 1]? = some (.cells #[.slice none 0 0] 44 (0,0)):=by
  rw [← hW1]
  refine (alloc_low9 (by first | (simp; done) | (simp; omega))).trans ?_
  have:=heap_alloc_new (W0.alloc (Obj.cells #[.pointer (some ⟨D.r,0,none⟩)] 91)) (Obj.cells #[.slice none 0 0] 44)
  rwa [World.size_alloc] at this
 have m2 : W1.heap[W0.heap.size + 1 + 1]? = some (.cells #[.slice none 0 0] 26 (0,0)):=by
  rw [← hW1]
  have:=heap_alloc_new ((W0.alloc (Obj.cells #[.pointer (some ⟨D.r,0,none⟩)] 91)).alloc (Obj.cells #[.slice none 0 0] 44)) (Obj.cells #[.slice none 0 0] 26)
  rwa [World.size_alloc,World.size_alloc] at this
 rw [hW1] at hAM ⊢
 have hbw : Below w.heap.size w W1:=HB0.out.trans (hb1.mono HB0.out.size)
 have HAM:=Hd hAM
 have HBW:=Hd hbw
 have HMW:=Hd (HM.out.later hbw HM.out.le)
 have hst : ∀ N,W0.heap.size = N → ScI w D N i lo hi' j rs [] W1:=fun N e => by
  subst e
  exact ⟨hbw,heap_of HK0.out.1 hb1,heap_of HK0.out.2.1 hb1,heap_of HK0.out.2.2.1 hb1,m0,m1,m2,_,[],heap_of HK0.out.2.2.2 hb1,World.ownsRow_nil _ _ _ _,FoundP.nil _ _ _ _ _⟩
 obtain ⟨N,hN⟩:=Vx W0.heap.size
 have HST:=Hd (hst N hN)
 have HN : Hid (w.heap.size + 1 + 1 + 1 < N):=Hd (by rw [← hN,HS0.out]; omega)
 rw [hN] at HAM ⊢
 clear hst hN hAM hb1 hbw m0 m1 m2 hW1 hW0 hb0
 refine wpIn_rangeB rfl Om (gf:=114) (lb:=#[.pointer (some ⟨N + 1,0,none⟩),.pointer (some ⟨N,0,none⟩),.pointer (some ⟨N + 1 + 1,0,none⟩)]) rfl trivial (enters_of Tryz.func114 Kr rfl)
  (asked_seq (B:=C) _ D (N + 1) N (N + 1 + 1) none [] 0 none [] 0 HT.out.parts Si Si W1 HMW.out HAM.out)
  KpP.trans
  (fun W l o o' hl ho hc => ⟨fun h => h.grows (Grows.put ho hc o'),fun h => h.grows (Grows.put ho hc o') (by simp [World.putObj])⟩)
  (Bxr _ _) (fun _ => rfl)
  (ScI w D N i lo hi' j rs)
  (fun _ _ _ => False)
  (fun pre W W' row h hg hr => h.own hg hr HBW.out.size)
  (fun c pre W W' row h hg hr => h.elim)
  (fun pre W W' h hb => h.later hb)
  HST.out
  (fun x a' W => a' = { tmps:=#[.pointer (some ⟨D.r,0,none⟩),.int .i64 i,.string lo,.string hi',undef,.pointer (some ⟨w.heap.size,0,none⟩),.pointer (some ⟨w.heap.size + 1,0,none⟩),.pointer (some ⟨w.heap.size + 1 + 1,0,none⟩),.slice none 0 0,.pointer (some ⟨w.heap.size + 1 + 1 + 1,0,none⟩),D.pv x,undef,undef,undef,.pointer (some ⟨D.r,0,none⟩),.func (.func 114) #[] #[.pointer (some ⟨N + 1,0,none⟩),.pointer (some ⟨N,0,none⟩),.pointer (some ⟨N + 1 + 1,0,none⟩)],D.pv x,undef,undef,undef,undef,undef,undef,undef,undef,undef,undef,undef,undef,undef,undef,undef,undef,undef,undef,undef,undef,undef,undef,undef],defers:=[] })
  (fun x a' _ X Y row hs _ _ => hs)
  ?assign ?body ?done ?stop
 case assign =>
  rintro l2 pre x W K hi hV hK
  have HI2:=Hd hi
  clear hi
  unfold encP
  gi_wp2
  exact hK _ _ (KeepsFrom.refl _ _) ⟨fun h => h,fun h => h⟩ HI2.out rfl
 case body =>
  rintro l2 pre x a' W hI rfl hV
  have hx : x < D.P ∧ x ∉ pre:=by
   obtain ⟨rest,hr⟩:=hV
   refine ⟨askL_lt HT.out.parts.1 x (by rw [hr]; simp),fun hx => ?_⟩
   rw [ask_all] at hr
   have hnd : (List.range D.P).Nodup:=List.nodup_range
   rw [hr] at hnd
   exact (List.nodup_append.1 hnd).2.2 x hx x Si rfl
  obtain ⟨v,m,hk3,hown,hfd⟩:=hI.fnd
  have HF:=Hd (Zai hown hfd)
  have HX:=Hd hx
  have HI2:=Hd hI
  have hmx : Tryz.prog.follows .mixedOrders = true:=by kernel_rfl
  have e5 : W.cell? ⟨w.heap.size,0,none⟩ = some (.int .i64 i):=cell_blk hI.b0 rfl
  have e6 : W.cell? ⟨w.heap.size + 1,0,none⟩ = some (.string lo):=cell_blk hI.b1 rfl
  have e7 : W.cell? ⟨w.heap.size + 1 + 1,0,none⟩ = some (.string hi'):=cell_blk hI.b2 rfl
  have e9 : W.cell? ⟨w.heap.size + 1 + 1 + 1,0,none⟩ = some v:=cell_blk hk3 rfl
  have l5:=cell_lt e5
  have l6:=cell_lt e6
  have l7:=cell_lt e7
  have l9:=cell_lt e9
  have HK3:=Hd hk3
  have HLI : Hid (∀ W',Below W.heap.size W W' → Calls Tryz.prog 73 #[D.pv x,.int .i64 i,.string lo,.string hi'] W' fun e w' => Below W'.heap.size W' w' ∧ ∃ (v : Value) (m : List It),e = .returned v ∧ w'.ownsRow W'.heap.size 152 2 v m.length (pc m) ∧ FoundP D j rs lo hi' [x] m):=Hd fun W' hb => list_any W' D x j i HI.out rs (HT.out.later (hI.bel.trans (hb.mono hI.bel.size))) hx.1 HJ.out lo hi'
  clear hI hx hV hown hfd hk3
  unfold TD.pv at HLI ⊢
  gi_wp2
  have hd : Below W.heap.size W W.drew:=(Bxr _ _).drew
  have hS : W.drew.cell? ⟨w.heap.size,0,none⟩ = some (.int .i64 i) ∧ W.drew.cell? ⟨w.heap.size + 1,0,none⟩ = some (.string lo) ∧ W.drew.cell? ⟨w.heap.size + 1 + 1,0,none⟩ = some (.string hi'):=⟨e5,e6,e7⟩
  refine held_round (fun W' => W'.cell? ⟨w.heap.size,0,none⟩ = some (.int .i64 i) ∧ W'.cell? ⟨w.heap.size + 1,0,none⟩ = some (.string lo) ∧ W'.cell? ⟨w.heap.size + 1 + 1,0,none⟩ = some (.string hi')) l2 Kr hmx (fun ⟨_,_,h⟩ => by cases h) ?_
  refine held_take 1 rfl Kr (fun _ _ _ h => h) hS (by intro w h; go_simp; all_goals with_reducible rfl) ?_
  refine held_take 2 rfl Kr (fun _ _ _ h => h) hS (by intro w h; go_simp; all_goals with_reducible rfl) ?_
  refine held_take 3 rfl Kr (fun _ _ _ h => h) hS (by intro w h; go_simp; all_goals with_reducible rfl) ?_
  refine held_take 4 rfl Kr (fun _ _ _ h => h) hS (by intro w h; go_simp; all_goals with_reducible rfl) ?_
  refine wpAnyH_all (rs:=[0,5]) Kr Si fun j hj => ?_
  rcases Zmc hj with rfl | hj
  ·refine held_op rfl Kr fun K hK => ?_
   go_simp
   refine hK _ _ hS ?_
   clear hK K
   refine held_one 5 rfl Kr Kr fun K hK => ?_
   go_simp
   go_at_call 73
   refine (HLI.out _ hd).mono ?_
   rintro e w5 ⟨hb5,v2,m2,rfl,ho2,hf2⟩
   have hb5:=hd.trans (hb5.mono hd.size)
   have g5 : w5.cell? ⟨w.heap.size + 1 + 1 + 1,0,none⟩ = some v:=cell_later hb5 e9
   refine hK _ _ ⟨cell_later hb5 e5,cell_later hb5 e6,cell_later hb5 e7⟩ ?_
   clear hK K
   obtain ⟨v3,w6,hrun,ho3,hg6,hf3⟩:=HI2.out.app HT.out.ok HT.out.cnt HF.out.1 HF.out.2 HX.out.2 hb5 ho2 hf2
   obtain ⟨p3,c3,rfl,-⟩:=own_news ho3
   have hk6 : ∀ (k : Nat) (cs : Array Value) (t : TypeId),W.heap[k]? = some (.cells cs t (0,0)) → t ≠ 152 → w6.heap[k]? = some (.cells cs t (0,0)):=fun k cs t hk ht => (hg6.block _ (Array.getElem?_eq_some_iff.1 (heap_of hk hb5)).1 fun e => own_ne HF.out.1 hk ht e.symm).trans (heap_of hk hb5)
   have g6:=cell_blk (i:=0) (hk6 _ _ _ HK3.out (by decide)) rfl
   have f6:=froz_blk (i:=0) (hk6 _ _ _ HK3.out (by decide))
   have l6:=cell_lt g6
   have ht:=HI2.out.turn HT.out.fix.now HM.out HN.out HK3.out HF.out.1 hb5 ho3 hg6 hf3 W1.heap.size
   refine held_one 6 rfl Kr Kr fun K hK => ?_
   refine wp_append_run (.tmp 17) (.tmp 22) 148 rfl rfl rfl hrun (hK _ _ ⟨cell_blk (hk6 _ _ _ HI2.out.b0 (by decide)) rfl,cell_blk (hk6 _ _ _ HI2.out.b1 (by decide)) rfl,cell_blk (hk6 _ _ _ HI2.out.b2 (by decide)) rfl⟩ ?_)
   clear hK K
   refine held_one 7 rfl Kr Kr fun K hK => ?_
   go_simp
   rw [Zla] at ht
   refine hK _ _ ⟨cell_blk ht.2.2.b0 rfl,cell_blk ht.2.2.b1 rfl,cell_blk ht.2.2.b2 rfl⟩ (wpAnyH_done Kr ?_ _)
   exact ht
  ·obtain rfl:=Zms hj
   refine held_op rfl Kr fun K hK => ?_
   go_simp
   go_at_call 73
   refine (HLI.out _ hd).mono ?_
   rintro e w5 ⟨hb5,v2,m2,rfl,ho2,hf2⟩
   have hb5:=hd.trans (hb5.mono hd.size)
   have g5 : w5.cell? ⟨w.heap.size + 1 + 1 + 1,0,none⟩ = some v:=cell_later hb5 e9
   refine hK _ _ ⟨cell_later hb5 e5,cell_later hb5 e6,cell_later hb5 e7⟩ ?_
   clear hK K
   refine held_one 0 rfl Kr Kr fun K hK => ?_
   go_simp
   refine hK _ _ ⟨cell_later hb5 e5,cell_later hb5 e6,cell_later hb5 e7⟩ ?_
   clear hK K
   obtain ⟨v3,w6,hrun,ho3,hg6,hf3⟩:=HI2.out.app HT.out.ok HT.out.cnt HF.out.1 HF.out.2 HX.out.2 hb5 ho2 hf2
   obtain ⟨p3,c3,rfl,-⟩:=own_news ho3
   have hk6 : ∀ (k : Nat) (cs : Array Value) (t : TypeId),W.heap[k]? = some (.cells cs t (0,0)) → t ≠ 152 → w6.heap[k]? = some (.cells cs t (0,0)):=fun k cs t hk ht => (hg6.block _ (Array.getElem?_eq_some_iff.1 (heap_of hk hb5)).1 fun e => own_ne HF.out.1 hk ht e.symm).trans (heap_of hk hb5)
   have g6:=cell_blk (i:=0) (hk6 _ _ _ HK3.out (by decide)) rfl
   have f6:=froz_blk (i:=0) (hk6 _ _ _ HK3.out (by decide))
   have l6:=cell_lt g6
   have ht:=HI2.out.turn HT.out.fix.now HM.out HN.out HK3.out HF.out.1 hb5 ho3 hg6 hf3 W1.heap.size
   refine held_one 6 rfl Kr Kr fun K hK => ?_
   refine wp_append_run (.tmp 17) (.tmp 22) 148 rfl rfl rfl hrun (hK _ _ ⟨cell_blk (hk6 _ _ _ HI2.out.b0 (by decide)) rfl,cell_blk (hk6 _ _ _ HI2.out.b1 (by decide)) rfl,cell_blk (hk6 _ _ _ HI2.out.b2 (by decide)) rfl⟩ ?_)
   clear hK K
   refine held_one 7 rfl Kr Kr fun K hK => ?_
   go_simp
   rw [Zla] at ht
   refine hK _ _ ⟨cell_blk ht.2.2.b0 rfl,cell_blk ht.2.2.b1 rfl,cell_blk ht.2.2.b2 rfl⟩ (wpAnyH_done Kr ?_ _)
   exact ht
 case done =>
  rintro D2 xs W hD hS hI hK
  rename_i Q2 K2 ha2
  rw [ask_all] at hS
  subst hS
  obtain ⟨v,m,hk3,hown,hfd⟩:=hI.fnd
  have HD:=Hd hD
  have HK:=Hd hK
  have HBL:=Hd hI.bel
  have HK3:=Hd hk3
  have HOW:=Hd hown
  have HFD:=Hd hfd
  have e9 : W.cell? ⟨w.heap.size + 1 + 1 + 1,0,none⟩ = some v:=cell_blk hk3 rfl
  have HSO:=Hd (sort_pairs W w.heap.size v m hown (by have:=hfd.len; have:=HT.out.cnt; omega))
  clear hD hI hK hk3 hown hfd
  refine ha2 _ _ (wpIn_wide.2 ?_)
  go_wp2_with fail
  refine HSO.out.mono ?_
  rintro e w5 ⟨rfl,m',hp,hso,ho5,hg5⟩
  obtain ⟨L,hL,rfl⟩:=scan_of HT.out.ok HT.out.parts.1 HFD.out hp hso
  have hlen : m.length = L.length:=by have:=hp.length_eq; simpa using this.symm
  rw [hlen] at ho5
  have HLE : Hid (L.length ≤ 3000000000):=Hd (by have:=HFD.out.len; have:=HT.out.cnt; omega)
  have hk5 : w5.heap[w.heap.size + 1 + 1 + 1]? = some (.cells #[v] 148 (0,0)):=(hg5.block _ (Gx HK3.out) fun e => own_ne HOW.out HK3.out (by decide) e.symm).trans HK3.out
  have g9 : w5.cell? ⟨w.heap.size + 1 + 1 + 1,0,none⟩ = some v:=cell_blk hk5 rfl
  have HD5 : Hid (w5.heap[D2]? = some (.deferred (some []))):=Hd ((hg5.block _ (Gx HK.out) fun e => by
   obtain ⟨cur,hc⟩:=own_block9 HOW.out e.symm
   rw [HK.out] at hc
   cases hc).trans HK.out)
  have HB5:=Hd (HBL.out.grown hg5 HBL.out.size fun k hk => (HOW.out.lt k hk).1)
  have HO5:=Hd ho5
  have HL:=Hd hL
  obtain ⟨pv,cv,rfl⟩:=ownF ho5
  obtain ⟨i0,hi0,hz0,hz1,hz2⟩:=info_parts Tryz.infoRowv
  clear hp hso hg5 hk5 hL ho5 hlen
  go_wp2
  go_loopw [11,28] (fun u q wr => ∃ k : Nat,k ≤ L.length ∧ q = .int .i64 (k : Int) ∧ RowsO wr w5.heap.size u (L.take k) ∧ Below w5.heap.size w5 wr) (fun _ q _ => L.length - (intOf q).toNat)
  case atStart => exact ⟨0,Nat.zero_le _,rfl,RowsO.nil _ _,Bxr _ _⟩
  case round =>
   obtain ⟨k,hk,rfl,hro,hb⟩:=hrel
   have HRO:=Hd hro
   have HB:=Hd hb
   clear hro
   by_cases hlt : k < L.length
   ·have hlti : (k : Int) < (L.length : Int):=by omega
    obtain ⟨us,u1,u2,u3,u4⟩:=HRO.out.own
    have HU:=Hd (Zai u1 (Zai u3 u4))
    have HU2:=Hd u2
    have htk : (L.take k).length = k:=by rw [List.length_take]; omega
    obtain ⟨g,hge⟩ : ∃ g,pv = some ⟨g,0,none⟩:=by
     obtain ⟨_,⟨e,h0⟩ | ⟨g,_,_,e,_⟩⟩:=HO5.out
     ·omega
     ·simp only [Value.slice.injEq] at e
      exact ⟨g,e.1⟩
    subst hge
    obtain ⟨r,hr⟩:=Vx (L[k])
    have hpa:=pcP_at (L.map (rowPr D j)) k (by simpa using hlt)
    have d0 : wr.cell? ⟨g,k * 2,none⟩ = some (.string (skJ D.t j r)):=cell_later hb ((HO5.out.cellAt (k * 2) Om).trans (hpa.1.trans (by simp [rowPr,hr])))
    have d1 : wr.cell? ⟨g,k * 2 + 1,none⟩ = some (.string (rE r)):=cell_later hb ((HO5.out.cellAt (k * 2 + 1) Om).trans (hpa.2.trans (by simp [rowPr,hr])))
    have HR:=Hd hr
    have hrm : r ∈ rs:=((HL.out.2 r).1 (hr ▸ List.getElem_mem hlt)).1
    have HDE:=Hd (fun W => decode_any9 W r (HT.out.ok.right hrm) ((HT.out.ok.fit r hrm).len HT.out.tr).2)
    obtain ⟨sk,hsk⟩:=Vx (skJ D.t j r)
    obtain ⟨re,hre⟩:=Vx (rE r)
    rw [hsk] at d0
    rw [hre] at d1 HDE
    rw [htk] at u2
    have HUW:=Hd u2
    have HBX:=Hd ((Below.refl wr.heap.size wr).alloc Zlr (Obj.cells #[.string sk,.string re] 152))
    clear u1 u2 u3 u4 hpa hr hrm hsk hre hb
    go_wp2_with fail
    refine (HDE.out _).mono ?_
    rintro e w7 ⟨hb7,v7,rfl,ho7⟩
    have HB7:=Hbt HBX hb7
    have HV7:=Hd (own_mono9 ho7 HBX.out.size)
    obtain ⟨p7,c7,rfl⟩:=ownF ho7
    have hs7:=HB7.out.size
    have hs5:=HB.out.size
    have hln:=HLE.out
    clear ho7 hb7 d0 d1
    go_wp2_with (first | (at_builtin; refine wpList_append_own _ rfl _ _ 27 rfl w5.heap.size 26 i0 (.slice none 0 0) 1 24 Tryz.underlying27 hi0 hz0 hz1 hz2 rfl (by decide) _ k us rfl ((own_later9 HUW.out HB7.out).alloc _) ⟨w7.heap.size,0,none⟩ 1 1 [.slice p7 r.length c7] rfl rfl (World.news_of_block (heap_alloc_new w7 _)) (by intro x hx; rw [Zms hx]; rfl) (by unfold maxLen; omega) Om (by simp; omega) ?_; intro u' w8 ho8 hg8 _))
    have HR8 : Hid (RowsO w8 w5.heap.size u' (L.take (k + 1))):=Hd (by
     rw [List.take_succ_eq_append_getElem hlt,HR.out]
     exact rows_snoc HU.out.1 HU2.out HU.out.2.1 HU.out.2.2 HB.out.size HB7.out HV7.out hg8 (by rw [htk]; exact ho8))
    have HB8:=Hd (((HB.out.trans (HB7.out.mono HB.out.size)).alloc Om (Obj.cells #[.slice p7 r.length c7] 26)).grown hg8 (by simp; omega) fun q hq => (HU2.out.lt q hq).1)
    go_roundw
    case rel => exact ⟨k + 1,by omega,by go_num,HR8.out,HB8.out⟩
    case measure => simp [intOf]; omega
   ·have hlti : ¬ (k : Int) < (L.length : Int):=by omega
    obtain rfl : k = L.length:=by omega
    have hK:=heap_of HD5.out hb
    have hg:=grownBy_putObj' wr D2 (.deferred none)
    have hrr : ∀ q,some D2 = some q → W1.heap.size ≤ q ∧ ∃ o : Obj,wr.heap[q]? = some o ∧ o.isCells = false:=fun q e => by cases e; exact ⟨HD.out,_,hK,rfl⟩
    have hbw:=HB5.out.trans (hb.mono HB5.out.size)
    have HE:=Hd (Zai hK (Zai hg (Zai hrr hbw)))
    have HRL : Hid (RowsO wr w5.heap.size u11 L):=Hd (by have:=HRO.out; rwa [List.take_of_length_le Zlr] at this)
    clear hb hK hg hrr hbw
    go_wp2
    refine ⟨by simp,.inl ⟨_,_,rfl,run_takeDeferred HE.out.1,?_⟩⟩
    refine ⟨u11,by simp [results,Tryz.results38,go_sem],?_⟩
    exact ⟨below_own HE.out.2.2.2 HE.out.2.1 HE.out.2.2.1 HBW.out.size HE.out.2.2.2.size,u11,rfl,L,HL.out,(HRL.out.mono HB5.out.size).other HE.out.2.1 HE.out.2.2.1⟩
 case stop =>
  rintro D2 c pre W hD hS h hK
  exact h.elim
end
section
open Go.RowKit BB
theorem Tryz.infoPart : (Tryz.prog.info? 138).map (fun i => (i.zero,i.size,i.bytes)) = some (some (.slice none 0 0),1,24):=by kernel_rfl
structure Pt where
 u : Value
 ts : List Nat
structure MadeT (w : World) (B K r : Nat) (u : Value) (ps : List Pt) : Prop where
 row : ∀ p (h : p < ps.length),(ps[p]).ts.length = K ∧ w.ownsRow B 140 1 (ps[p]).u K ((ps[p]).ts.map ptr9)
 zp : ∃ zp : Nat → Nat → Nat → Prop,(∀ p (h : p < ps.length) j (h' : j < (ps[p]).ts.length),TreeZ w B (zp p j) (ps[p]).ts[j] 32 []) ∧ (∀ p j p' j' k,p < ps.length → j < K → p' < ps.length → j' < K → zp p j k → zp p' j' k → p = p' ∧ j = j') ∧ ∀ p j k,p < ps.length → j < K → zp p j k → k ≠ r ∧ u.ownBlock ≠ some k ∧ ∀ q (h : q < ps.length),(ps[q]).u.ownBlock ≠ some k
theorem MadeT.nil (w : World) (B K r : Nat) (u : Value) : MadeT w B K r u []:=⟨fun _ h => absurd h (Nat.not_lt_zero _),⟨fun _ _ _ => False,fun _ h => absurd h (Nat.not_lt_zero _),fun _ _ _ _ _ h => absurd h (Nat.not_lt_zero _),fun _ _ _ h => absurd h (Nat.not_lt_zero _)⟩⟩
theorem MadeT.snoc {w w2 w5 : World} {B K r : Nat} {u u' : Value} {ps : List Pt} (h : MadeT w B K r u ps) {cs : Array Value} (hr : w.heap[r]? = some (.cells cs 104 (0,0))) (hB : B ≤ w.heap.size) (hb : Below w.heap.size w w2) {v : Value} {ts : List Nat} (htl : ts.length = K) (hm : MadeR w2 w.heap.size ts v) (ho : w2.ownsRow w.heap.size 140 1 v K (ts.map ptr9)) {o : Obj} (hg : (w2.alloc o).grownBy w5 u.ownBlock) (hor : u'.ownBlock = u.ownBlock ∨ u'.ownBlock = some (w2.alloc o).heap.size) (hty : ∀ g,u.ownBlock = some g → ∃ cur,w.heap[g]? = some (.cells cur 138 (0,0))) (x : Value) : MadeT (w5.setCell ⟨r,5,none⟩ x) B K r u' (ps ++ [⟨v,ts⟩]):=by
 obtain ⟨zp,h1,h2,h3⟩:=h.zp
 obtain ⟨zn,m1,m2,m3⟩:=hm.zp
 have hs2:=hb.size
 have hrl:=(Gx hr)
 have hu : ∀ g,u.ownBlock = some g → g < w.heap.size:=fun g hg => by
  obtain ⟨cur,hc⟩:=hty g hg
  exact (Gx hc)
 obtain ⟨W,hW⟩:=Vx (w5.setCell ⟨r,5,none⟩ x)
 have hWs : W.heap.size = w5.heap.size:=by rw [← hW]; simp [World.setCell]
 have hs5 : w2.heap.size + 1 ≤ w5.heap.size:=by have:=hg.size; simpa using this
 -- what stays
 have hst : ∀ k,k < w2.heap.size → k ≠ r → u.ownBlock ≠ some k → W.heap[k]? = w2.heap[k]?:=fun k hk hn hu' => by
  rw [← hW]
  exact (Below.heap_setCell _ _ _ _ hn).trans ((hg.block k (by simp; omega) fun e => hu' e.symm).trans (alloc_low9 hk))
 have hok : ∀ (b : Nat) (y : Value) (n : Nat) (xs : List Value),w2.ownsRow b 140 1 y n xs → (∀ g,y.ownBlock = some g → g ≠ r) → W.ownsRow b 140 1 y n xs:=fun b y n xs hy hyr => own_kept hy fun g hgy => hst g (hy.lt g hgy).2 (hyr g hgy) fun e => by
  obtain ⟨cur,hc⟩:=hty g e
  obtain ⟨cur2,hc2⟩:=own_block9 hy hgy
  rw [heap_of hc hb] at hc2
  simp only [Option.some.injEq,Obj.cells.injEq] at hc2
  exact absurd hc2.2.1 (by decide)
 have hos : W.os = w2.os ∧ W.tape = w2.tape ∧ W.output = w2.output:=by
  rw [← hW]
  exact ⟨hg.os,hg.tape,hg.output⟩
 have honly : Only (fun k => k = r ∨ u.ownBlock = some k) w2 W:=⟨hos.1,hos.2.1,hos.2.2,by omega,fun k hk hn => hst k hk (fun e => hn (Or.inl e)) fun e => hn (Or.inr e)⟩
 rw [hW]
 refine ⟨fun p hp => ?_,⟨fun p j k => if p < ps.length then zp p j k else zn j k,fun p hp j hj => ?_,fun p j p' j' k hp hj hp' hj' a b => ?_,fun p j k hp hj a => ?_⟩⟩
 ·by_cases c : p < ps.length
  ·rw [List.getElem_append_left c]
   have hrw:=h.row p c
   exact ⟨hrw.1,hok _ _ _ _ (own_later9 hrw.2 hb) fun g hgy e => own_ne hrw.2 hr (by decide) (by rw [hgy,e])⟩
  ·have e : p = ps.length:=by simp at hp; omega
   subst e
   rw [List.getElem_append_right Zlr]
   simp only [Nat.sub_self,List.getElem_cons_zero]
   refine ⟨htl,hok _ _ _ _ (own_mono9 ho hB) fun g hgy e => ?_⟩
   have:=(ho.lt g hgy).1
   omega
 ·by_cases c : p < ps.length
  ·simp only [if_pos c,List.getElem_append_left c] at hj ⊢
   refine ((h1 p c j hj).later hb).kept honly fun k hk e => ?_
   have hj2 : j < K:=by rw [← (h.row p c).1]; exact hj
   rcases e with e | e
   ·exact (h3 p j k c hj2 hk).1 e
   ·exact (h3 p j k c hj2 hk).2.1 e
  ·have e : p = ps.length:=by simp at hp; omega
   subst e
   simp only [if_neg c,List.getElem_append_right Zlr,Nat.sub_self,List.getElem_cons_zero] at hj ⊢
   refine (treeZ_mono9 (m1 j hj) hB).kept honly fun k hk e => ?_
   have hlo:=(m1 j hj).lo k hk
   rcases e with e | e
   ·omega
   ·have:=hu k e
    omega
 ·have lo1 : ∀ q i g,q < ps.length → i < K → zp q i g → g < w.heap.size:=fun q i g hq hi hz => ((h1 q hq i (by rw [(h.row q hq).1]; exact hi)).lo g hz).2
  have lo2 : ∀ i g,i < K → zn i g → w.heap.size ≤ g:=fun i g hi hz => ((m1 i Om).lo g hz).1
  simp at hp hp'
  by_cases c : p < ps.length <;> by_cases c' : p' < ps.length
  ·simp only [if_pos c] at a
   simp only [if_pos c'] at b
   exact h2 p j p' j' k c hj c' hj' a b
  ·simp only [if_pos c] at a
   simp only [if_neg c'] at b
   have:=lo1 p j k c hj a
   have:=lo2 j' k hj' b
   omega
  ·simp only [if_neg c] at a
   simp only [if_pos c'] at b
   have:=lo1 p' j' k c' hj' b
   have:=lo2 j k hj a
   omega
  ·simp only [if_neg c] at a
   simp only [if_neg c'] at b
   exact ⟨by omega,m2 j j' k Om Om a b⟩
 ·simp at hp
  have hrows : ∀ q (hq : q < (ps ++ [(⟨v,ts⟩ : Pt)]).length) (g : Nat),((ps ++ [(⟨v,ts⟩ : Pt)])[q]).u.ownBlock = some g → (∃ c : q < ps.length,(ps[q]).u.ownBlock = some g) ∨ v.ownBlock = some g:=fun q hq g e => by
   by_cases c : q < ps.length
   ·rw [List.getElem_append_left c] at e
    exact Or.inl ⟨c,e⟩
   ·rw [List.getElem_append_right Om] at e
    have e2 : q - ps.length = 0:=by simp at hq; omega
    simp only [e2,List.getElem_cons_zero] at e
    exact Or.inr e
  by_cases c : p < ps.length
  ·simp only [if_pos c] at a
   obtain ⟨q1,q2,q3⟩:=h3 p j k c hj a
   have hk:=((h1 p c j (by rw [(h.row p c).1]; exact hj)).lo k a).2
   refine ⟨q1,fun e => ?_,fun q hq e => ?_⟩
   ·rcases hor with e2 | e2
    ·exact q2 (e2 ▸ e)
    ·rw [e2] at e
     simp at e
     omega
   ·rcases hrows q hq k e with ⟨c2,e2⟩ | e2
    ·exact q3 q c2 e2
    ·have:=(ho.lt k e2).1
     omega
  ·simp only [if_neg c] at a
   have hk:=(m1 j Om).lo k a
   refine ⟨by omega,fun e => ?_,fun q hq e => ?_⟩
   ·rcases hor with e2 | e2
    ·have:=hu k (e2 ▸ e)
     omega
    ·rw [e2] at e
     simp at e
     omega
   ·rcases hrows q hq k e with ⟨c2,e2⟩ | e2
    ·have:=((h.row q c2).2.lt k e2).2
     omega
    ·exact m3 k e2 j Om a
end
end Go.Proofs.YtmmmkjhpmlfopaaGreatDoor
