/- O41 O14 O16 O17 O19 -/
import Derived.Test.YtmmmkjhpmlfopaaGreatDoorSB35
set_option maxHeartbeats 8000000
set_option maxRecDepth 100000
namespace Go.Proofs.YtmmmkjhpmlfopaaGreatDoor
open Go.RowKit
section
open Go.RowKit BB
theorem only_below {Z : Nat → Prop} {a b c : World} (h : Below a.heap.size a b) (k : Only Z b c) : Only Z a c:=only_two (Z:=Z) (Only.of h) k fun _ h => Or.inl h
theorem only_grown {w3 w5 : World} {N f : Nat} {row : Option Nat} {x : Value} {o : Obj} (hg : (w3.alloc o).grownBy w5 row) : Only (fun q => row = some q ∨ q = N) w3 (w5.setCell ⟨N,f,none⟩ x):=by
 refine ⟨hg.os,hg.tape,hg.output,?_,fun k hk hn => ?_⟩
 ·have:=hg.size
  simp [World.setCell] at this ⊢
  omega
 ·exact (Below.heap_setCell _ _ _ _ fun e => hn (Or.inr e)).trans ((hg.block k (by simp; omega) fun e => hn (Or.inl e.symm)).trans (alloc_low9 hk))
theorem grow_step {w0 wr w2 w3 w5 : World} {B N k f : Nat} {T0 T T' U A : Nat → Prop} {s : Nat} {c : TT.Ct} {P : Nat} {tv : Value} {ld : Int} {L' : TabL} {u u' v x : Value} {R : List (List V3)} {r : List V3} {us : List Value} {a0 a1 a2 : Value}
  (hN : w0.heap.size ≤ N) (hU : ∀ q,U q ∨ q = s ∨ tv.ownBlock = some q → q < w0.heap.size) (hO : Only T0 w0 wr) (hT0 : ∀ q,T q → T0 q ∨ w0.heap.size ≤ q)
  (hk : R.length = k) (h1 : us.length = R.length) (h2 : wr.ownsRow w0.heap.size 26 1 u k us) (h3 : ∀ i (h : i < us.length) (h' : i < R.length),wr.ownsRow w0.heap.size 73 3 us[i] (R[i]).length (vc R[i])) (h4 : ∀ g,u.ownBlock = some g → A g) (h5 : ∀ i (h : i < us.length) (g : Nat),us[i].ownBlock = some g → A g) (hlo : ∀ k,A k → w0.heap.size ≤ k ∧ k < wr.heap.size)
  (hAT : ∀ q,A q ∨ q = N → ¬ T q) (hNk : wr.heap[N]? = some (.cells #[a0,a1,a2] 100 (0,0)))
  (hb : Below wr.heap.size wr w2) (ho : Only T w2 w3) (hS : StM w3 B T' U s c P tv ld L') (hto : ∀ q,T' q → T q ∨ w2.heap.size ≤ q) (hv : w3.ownsRow w2.heap.size 73 3 v r.length (vc r)) (hvT : ∀ g,v.ownBlock = some g → ¬ T' g)
  {o : Obj} (hg : (w3.alloc o).grownBy w5 u.ownBlock) (hown : w5.ownsRow w0.heap.size 26 1 u' (k + 1) (us ++ [v])) (hor : u'.ownBlock = u.ownBlock ∨ u'.ownBlock = some (w3.alloc o).heap.size) :
  StM (w5.setCell ⟨N,f,none⟩ x) B T' U s c P tv ld L' ∧ Only T0 w0 (w5.setCell ⟨N,f,none⟩ x) ∧ (∀ q,T' q → T0 q ∨ w0.heap.size ≤ q) ∧ (∃ A',RowsA (w5.setCell ⟨N,f,none⟩ x) w0.heap.size A' u' (R ++ [r]) ∧ (∀ q,A' q ∨ q = N → ¬ T' q) ∧ ∀ q,A' q → A q ∨ wr.heap.size ≤ q) ∧ Only (fun q => T q ∨ u.ownBlock = some q ∨ q = N) wr (w5.setCell ⟨N,f,none⟩ x) ∧ w5.heap[N]? = some (.cells #[a0,a1,a2] 100 (0,0)):=by
 have hb2:=hb.size
 have hs3:=ho.size
 have hNl:=(Gx hNk)
 have hw0:=hO.size
 have hor3 : Only T wr w3:=only_below hb ho
 have hgr : Only (fun q => u.ownBlock = some q ∨ q = N) w3 (w5.setCell ⟨N,f,none⟩ x):=only_grown hg
 have hNT : ¬ T N:=hAT N (Or.inr rfl)
 have hN3:=(hor3.block N hNl hNT).trans hNk
 obtain ⟨hra,hN5⟩:=rowsA_snoc (i:=f) (x:=x) hk h1 h2 h3 h4 h5 hlo hw0 hor3 (fun q hq => hAT q (Or.inl hq)) (own_mono9 hv hb2) hg hown hN3
 have hA' : ∀ q,A q ∨ q = N → ¬ T' q:=fun q hq ht => by
  have hql : q < wr.heap.size:=by
   rcases hq with hq | rfl
   ·exact (hlo q hq).2
   ·exact hNl
  rcases hto q ht with e | e
  ·exact hAT q hq e
  ·omega
 have hY : ∀ q,u.ownBlock = some q ∨ q = N → A q ∨ q = N:=fun q hq => hq.imp (h4 q) id
 refine ⟨hS.kept hgr fun q hq hy => ?_,?_,fun q hq => ?_,⟨_,hra,fun q hq ht => ?_,fun q hq => ?_⟩,?_,hN5⟩
 ·have hq2:=hY q hy
  rcases hq with e | e
  ·exact hA' q hq2 e
  ·have:=hU q e
   rcases hq2 with e2 | rfl
   ·have:=(hlo q e2).1
    omega
   ·omega
 ·refine only_two (only_two hO hor3 hT0) hgr fun q hq => Or.inr ?_
  rcases hY q hq with e | rfl
  ·exact (hlo q e).1
  ·exact hN
 ·rcases hto q hq with e | e
  ·exact hT0 q e
  ·exact Or.inr Om
 ·rcases hq with (e | e | e) | e
  ·exact hA' q (Or.inl e) ht
  ·exact hvT q e ht
  ·rcases hor with e2 | e2
   ·exact hA' q (Or.inl (h4 q (e2 ▸ e))) ht
   ·rw [e2] at e
    simp at e
    have:=(hS.tabs.lo q ht).2
    omega
  ·exact hA' q (Or.inr e) ht
 ·rcases hq with e | e | e
  ·exact Or.inl e
  ·exact Or.inr (Zlt hb2 (hv.lt q e).1)
  ·rcases hor with e2 | e2
   ·exact Or.inl (h4 q (e2 ▸ e))
   ·rw [e2] at e
    simp at e
    exact Or.inr Om
 ·refine (hor3.mono fun _ h => Or.inl h).trans (hgr.mono fun q hq => Or.inr hq)
def keysL (t : TT.Tb) (L : List Row3) : List (List V3):=L.map fun r => pick3 r t.key
def dropKs (t : TT.Tb) (ls : List (List V3)) (rs : List Row3) : List Row3:=rs.filter fun r => ls.all fun l => decide (pick3 r t.key ≠ l)
theorem dropKs_nil (t : TT.Tb) (rs : List Row3) : dropKs t [] rs = rs:=List.filter_eq_self.2 fun _ _ => rfl
theorem dropKs_snoc (t : TT.Tb) (ls : List (List V3)) (l : List V3) (rs : List Row3) : dropK t l (dropKs t ls rs) = dropKs t (ls ++ [l]) rs:=by
 unfold dropK dropKs
 rw [List.filter_filter]
 refine List.filter_congr fun r _ => ?_
 rw [List.all_append,Bool.and_comm]
 simp
theorem keysL_snoc {t : TT.Tb} {L : List Row3} {k : Nat} (h : k < L.length) : keysL t (L.take (k + 1)) = keysL t (L.take k) ++ [pick3 L[k] t.key]:=by
 unfold keysL
 rw [List.take_add_one,List.getElem?_eq_getElem h,List.map_append]
 rfl
def MatchK (t : TT.Tb) (rs : List Row3) (ls : List (List V3)) (tk : List Row3) : Prop:=tk.length = ls.length ∧ ∀ i (h : i < tk.length) (h' : i < ls.length),tk[i] ∈ rs ∧ pick3 tk[i] t.key = ls[i]
theorem MatchK.snoc {t : TT.Tb} {rs : List Row3} {ls : List (List V3)} {tk : List Row3} (h : MatchK t rs ls tk) {r : Row3} (hr : r ∈ rs) {l : List V3} (hl : pick3 r t.key = l) : MatchK t rs (ls ++ [l]) (tk ++ [r]):=by
 obtain ⟨h1,h2⟩:=h
 refine ⟨by simp [h1],fun i hi hi' => ?_⟩
 by_cases c : i < tk.length
 ·rw [List.getElem_append_left c,List.getElem_append_left Om]
  exact h2 i c Om
 ·have e : i = tk.length:=by simp at hi; omega
  subst e
  rw [List.getElem_append_right Zlr,List.getElem_append_right Om]
  simp only [Nat.sub_self,h1,List.getElem_cons_zero]
  exact ⟨hr,hl⟩
theorem mem_dropKs {t : TT.Tb} {ls : List (List V3)} {rs : List Row3} {r : Row3} : r ∈ dropKs t ls rs ↔ r ∈ rs ∧ ∀ l ∈ ls,pick3 r t.key ≠ l:=by simp [dropKs]
def putKs (t : TT.Tb) (l rs : List Row3) : List Row3:=l.foldl (fun a r => putK t r a) rs
theorem putKs_snoc {t : TT.Tb} {l rs : List Row3} {k : Nat} (h : k < l.length) : putKs t (l.take (k + 1)) rs = putK t l[k] (putKs t (l.take k) rs):=by
 unfold putKs
 rw [List.take_add_one,List.getElem?_eq_getElem h,List.foldl_append]
 rfl
theorem putK_len (t : TT.Tb) (r : Row3) (rs : List Row3) : (putK t r rs).length ≤ rs.length + 1:=by
 unfold putK dropK
 rw [Zla]
 have:=List.length_filter_le (fun q : Row3 => decide (pick3 q t.key ≠ pick3 r t.key)) rs
 simp only [List.length_cons,List.length_nil]
 omega
theorem putKs_len (t : TT.Tb) : ∀ l rs : List Row3,(putKs t l rs).length ≤ rs.length + l.length
 | [],rs => Nat.le_refl _
 | r :: l,rs => by
  have h1:=putKs_len t l (putK t r rs)
  have h2:=putK_len t r rs
  simp only [List.length_cons]
  show (putKs t l (putK t r rs)).length ≤ _
  omega
theorem dropKs_len (t : TT.Tb) (ls : List (List V3)) (rs : List Row3) : (dropKs t ls rs).length ≤ rs.length:=List.length_filter_le _ _
end
section
open Go.RowKit Go.Maps BB
def SetM (w : World) (b : Nat) (ks : List (List UInt8)) : Prop:=w.ownsMap Tryz.prog 9 (unitElem (H:=Unit)) b ks.length (TT.setS ks)
theorem has_any (s : ByteArray) (w : World) (b : Nat) (ks : List (List UInt8)) (h : SetM w b ks) (hs : s.size ≤ 1099511627776) :
  Calls Tryz.prog 109 #[.map (some b),.string s] w fun e w' => e = .returned (.bool (decide (TT.bs s ∈ ks))) ∧ Below w.heap.size w w':=by
 have hkey : keyOf Tryz.prog 9 (.string s) = some (.string (TT.bs s)):=WideMaps.keyOf_string_mk Tryz.underlying9 (by unfold maxLen; omega)
 have hown : w.ownsMap Tryz.prog 9 (unitElem (H:=Unit)) b ks.length (TT.setS ks):=h
 clear h
 go_enter Tryz.func109,Tryz.ntmps109
 go_wp2_with (at_lookup; refine wpList_lookup_own_unit _ rfl _ _ 95 rfl 9 180 TT.keyedS Tryz.underlying95 (TT.zeroU _) b ks.length _ rfl hown _ _ rfl hkey ?_)
 go_ret
 exact ⟨ret_bool (by rw [TT.setS_has]),(Bxr _ _).alloc Zlr _⟩
theorem add_any (s : ByteArray) (w : World) (b : Nat) (ks : List (List UInt8)) (h : SetM w b ks) (hk : ks.length ≤ 4000000000) (hs : s.size ≤ 1099511627776) :
  Calls Tryz.prog 60 #[.map (some b),.string s] w fun e w' => e = .returned (.bool (!decide (TT.bs s ∈ ks))) ∧ SetM w' b (ks ++ [TT.bs s]) ∧ Only (fun k => k = b) w w':=by
 have hkey : keyOf Tryz.prog 9 (.string s) = some (.string (TT.bs s)):=WideMaps.keyOf_string_mk Tryz.underlying9 (by unfold maxLen; omega)
 have HH:=Hd (has_any s w b ks h hs)
 have H:=Hd h
 clear h
 go_enter Tryz.func60,Tryz.ntmps60
 go_wp2_with fail
 refine HH.out.mono ?_
 rintro e w1 ⟨rfl,hb1⟩
 have hown : w1.ownsMap Tryz.prog 9 (unitElem (H:=Unit)) b ks.length (TT.setS ks):=by
  obtain ⟨es,clock,h4,r⟩:=H.out
  exact ⟨es,clock,(hb1.block _ (Gx h4)).trans h4,r⟩
 have HB1:=Hd hb1
 have HO:=Hd hown
 clear hb1
 go_wp2_with (at_mapUpdate; refine wpList_mapUpdate_own _ rfl _ _ _ 95 rfl 9 180 TT.keyedS Tryz.underlying95 (unitElem (H:=Unit)) b ks.length _ rfl hown (by unfold maxLen; omega) _ _ _ rfl rfl hkey _ [] unitElem_mk ?_; intro w2 hown1 hgrow1)
 go_ret
 refine ⟨rfl,?_,(Only.of HB1.out).grown hgrow1 fun k hk => by cases hk; rfl⟩
 unfold SetM
 rw [← TT.setS_snoc,Zla]
 exact hown1
end
section
open Go.RowKit Go.Shelf BB
attribute [local go_sem] Oper.semAt_some
theorem between_iff {s k : ByteArray} : (kl k s = false ∧ untilB ⟨(nxt s.data.toList).1.toArray⟩ k = true) ↔ s.data.toList <+: k.data.toList:=by
 rw [nxt_lies]
 unfold untilB kl
 rw [ByteArray.toList_eq,ByteArray.toList_eq,ByteArray.toList_eq]
 refine and_congr_right fun _ => ?_
 rcases nxt_cases s.data.toList with h | ⟨p,c,q,h,hc,hq⟩
 ·rw [nxt_all h]
  simp
 ·rw [h,nxt_some hc hq]
  simp
theorem between_pick {t : TT.Tb} {j : Nat} {r : Row3} (hf : fitR t r) {l : List V3} (hl : ∀ v ∈ l,V3.right v = true) (hn : l.length = (colsJ t j).length) : (kl (skJ t j r) (kE l) = false ∧ untilB ⟨(nxt (kE l).data.toList).1.toArray⟩ (skJ t j r) = true) ↔ pick3 r (colsJ t j) = l:=by
 rw [between_iff]
 have e : ∃ us : List V3,(∀ v ∈ us,V3.right v = true) ∧ (skJ t j r).data.toList = kbs (pick3 r (colsJ t j) ++ us):=by
  unfold skJ nmR
  split
  ·rename_i h
   subst h
   exact ⟨[],by simp,by simp [kE,colsJ]⟩
  ·exact ⟨pick3 r t.key,pick3_right hf.right _,by simp [kE,kbs_append]⟩
 obtain ⟨us,hus,e⟩:=e
 rw [e,show (kE l).data.toList = kbs l by simp [kE]]
 constructor
 ·rintro ⟨u,hu⟩
  obtain ⟨us',h1,_⟩:=kbs_begins l _ u hl (fun v hv => (Zma hv).elim (pick3_right hf.right _ v) (hus v)) hu.symm
  have hlen : (pick3 r (colsJ t j)).length = l.length:=by rw [pick3_length,hn]
  exact (List.append_inj h1 hlen).1
 ·rintro h
  rw [h,kbs_append]
  exact List.prefix_append _ _
theorem names_any {B : Nat} {Z : Nat → Prop} (w : World) (D : TD) (p j : Nat) (i : Int) (hi : i = (j : Int) - 1) (rs : List Row3) (hT : Tab w B Z D rs) (hp : p < D.P) (hjK : j < D.K) (lo hi' : ByteArray) :
  Calls Tryz.prog 216 #[.slice (some ⟨D.bs p,0,none⟩) D.K (D.cq p),.int .i64 i,.string lo,.string hi'] w fun e w' => Below w.heap.size w w' ∧ NamesP D p j rs lo hi' w.heap.size e w':=by
 by_cases h : j = 0
 ·exact names_key w D p j i hi h rs hT.fix.now hT.trs hT.tr hT.ok hT.cnt hp hjK lo hi'
 ·exact names_ix w D p j i hi Om rs hT.fix.now hT.trs hT.tr hT.ok hT.cnt hp hjK lo hi'
end
section
open Go.RowKit Go.Shelf BB
attribute [local go_sem] Oper.semAt_some
theorem srow_at {w : World} {B : Nat} {v : Value} {ns : List ByteArray} (h : w.ownsRow B 9 1 v ns.length (ns.map Value.string)) {i : Nat} (hi : i < ns.length) : ∃ g cap,v = .slice (some ⟨g,0,none⟩) ns.length cap ∧ w.cell? ⟨g,i,none⟩ = some (.string ns[i]):=by
 have hr:=h
 obtain ⟨_,⟨rfl,h2⟩ | ⟨g,cap,cur,rfl,_,_,h3,h4,_⟩⟩:=h
 ·omega
 ·exact ⟨g,cap,rfl,(hr.cellAt i Om).trans (by simp [List.getElem?_eq_getElem hi])⟩
theorem held_any {B C : Nat} {Z : Nat → Prop} (w : World) (D : TD) (rs : List Row3) (j : Nat) (i : Int) (hi : i = (j : Int) - 1) (a : Option Addr) (cap : Nat) (l : List V3) (m : Option Nat) (ks : List (List UInt8)) (hT : Tab w B Z D rs) (hm : Env w C) (hjK : j < D.K) (hrow : Row w a l) (hr : ∀ v ∈ l,V3.right v = true) (hn : l.length = (colsJ D.t j).length)
  (hG : ∀ (W : World) (s : ByteArray),Below w.heap.size w W → s.size ≤ 2400 → Calls Tryz.prog 109 #[.map m,.string s] W fun e w' => e = .returned (.bool (decide (TT.bs s ∈ ks))) ∧ Below W.heap.size W w') :
  Calls Tryz.prog 150 #[.pointer (some ⟨D.r,0,none⟩),.int .i64 i,.slice a l.length cap,.map m] w fun e w' => Below w.heap.size w w' ∧ BoolP (∃ q ∈ rs,TT.bs (nmR D.t q) ∉ ks ∧ pick3 q (colsJ D.t j) = l) e:=by
 have HT:=Hd hT
 have HM:=Hd hm
 have HR:=Hd hrow
 have HL:=Hd hr
 have HLN:=Hd hn
 have HI:=Hd hi
 have HJ:=Hd hjK
 have HG:=Hd hG
 have HC8 : Hid (l.length ≤ 8):=Hd (by rw [hn]; exact (hT.tr.colsJ (Nat.le_of_lt_succ hjK)).2.1)
 obtain ⟨W0,hW0⟩:=Vx (((w.alloc (Obj.cells #[.int .i64 i] 3)).alloc (Obj.cells #[.map m] 95)).alloc (Obj.cells #[.bool false] 4))
 have hb0 : Below w.heap.size w W0:=by rw [← hW0]; exact (((Bxr _ w).alloc Zlr _).alloc Si _).alloc (by simp; omega) _
 have k5 : W0.heap[w.heap.size]? = some (.cells #[.int .i64 i] 3 (0,0)):=by
  rw [← hW0]
  exact (Below.heap_alloc _ _ _ (by simp; omega)).trans ((Below.heap_alloc _ _ _ Si).trans (heap_alloc_new w _))
 have k7 : W0.heap[w.heap.size + 1]? = some (.cells #[.map m] 95 (0,0)):=by
  rw [← hW0]
  refine (Below.heap_alloc _ _ _ Si).trans ?_
  have:=heap_alloc_new (w.alloc (Obj.cells #[.int .i64 i] 3)) (Obj.cells #[.map m] 95)
  rwa [World.size_alloc] at this
 have k8 : W0.heap[w.heap.size + 1 + 1]? = some (.cells #[.bool false] 4 (0,0)):=by
  rw [← hW0]
  have:=heap_alloc_new ((w.alloc (Obj.cells #[.int .i64 i] 3)).alloc (Obj.cells #[.map m] 95)) (Obj.cells #[.bool false] 4)
  rwa [World.size_alloc,World.size_alloc] at this
 have HE:=Hd (encode_any9 W0 a cap l (hrow.later hb0) hr HC8.out (hm.later hb0 hm.le))
 have HB0:=Hd hb0
 have K5:=Hd k5
 have K7:=Hd k7
 have K8:=Hd k8
 clear hT hm hrow hr hn hi hjK hG hb0 k5 k7 k8
 refine (callsIn_wide (n:=8)).1 ?_
 refine callsIn_of_wp_marks Tryz.func150 rfl trivial ?_ rfl
 simp only [Tryz.ntmps150,List.size_toArray,List.length_cons,List.length_nil,Nat.reduceAdd,Nat.reduceSub,Array.replicate_succ,Array.replicate_zero,List.push_toArray,List.append_toArray,List.nil_append,List.cons_append]
 gi_wp2_with fail
 refine ⟨trivial,?_⟩
 refine (callsIn_wide.2 HE.out).mono ?_
 rintro e w1 ⟨rfl,hb1⟩
 obtain ⟨s,hs⟩:=Vx (kE l)
 have HS:=Hd hs
 have hss:=kE_short HL.out (by have:=HC8.out; omega)
 rw [hs] at hss ⊢
 obtain ⟨V,hV⟩:=Vx (w1.alloc (Obj.cells #[.string s] 9))
 have hbV1 : Below w1.heap.size w1 V:=by rw [← hV]; exact (Bxr _ _).alloc Zlr _
 have hbV0 : Below W0.heap.size W0 V:=hb1.trans (hbV1.mono hb1.size)
 have k9 : V.heap[w1.heap.size]? = some (.cells #[.string s] 9 (0,0)):=by rw [← hV]; exact heap_alloc_new w1 _
 have d9 : V.cell? ⟨w1.heap.size,0,none⟩ = some (.string s):=cell_blk k9 rfl
 have HNX:=Hd (KK.knext_any s V Om)
 have HBV0:=Hd hbV0
 have HM9 : Hid (w.heap.size + 1 + 1 < w1.heap.size):=Hd (Zll (Gx K8.out) hb1.size)
 have HK9:=Hd k9
 obtain ⟨M9,hM9⟩:=Vx w1.heap.size
 rw [hM9] at HK9 HM9 d9
 clear hs hss hbV1 hbV0 k9 hb1
 gi_wp2_with fail
 refine ⟨trivial,?_⟩
 refine (callsIn_wide.2 HNX.out).mono ?_
 rintro e w2 ⟨rfl,hb2⟩
 unfold KK.nxtV
 obtain ⟨hx,hhx⟩ : ∃ hx : ByteArray,(⟨(nxt s.data.toList).1.toArray⟩ : ByteArray) = hx:=⟨_,rfl⟩
 have HX:=Hd hhx
 rw [hhx]
 obtain ⟨nb,hnb⟩:=Vx ((nxt s.data.toList).2)
 rw [hnb]
 obtain ⟨V2,hV2⟩:=Vx (w2.alloc (Obj.cells #[.string hx] 9))
 have hbV2' : Below w2.heap.size w2 V2:=by rw [← hV2]; exact (Bxr _ _).alloc Zlr _
 have hbV2 : Below V.heap.size V V2:=hb2.trans (hbV2'.mono hb2.size)
 have hb02 : Below W0.heap.size W0 V2:=HBV0.out.trans (hbV2.mono HBV0.out.size)
 have hbw2 : Below w.heap.size w V2:=HB0.out.trans (hb02.mono HB0.out.size)
 have k10 : V2.heap[w2.heap.size]? = some (.cells #[.string hx] 9 (0,0)):=by rw [← hV2]; exact heap_alloc_new w2 _
 have k5:=heap_of K5.out hb02
 have k7:=heap_of K7.out hb02
 have k8:=heap_of K8.out hb02
 have k9:=heap_of HK9.out hbV2
 have d5 : V2.cell? ⟨w.heap.size,0,none⟩ = some (.int .i64 i):=cell_blk k5 rfl
 have HCO:=Hd (columns_any V2 D j i HI.out (HT.out.fix.now.later hbw2) HT.out.tr (Nat.le_of_lt_succ HJ.out))
 have HBW2:=Hd hbw2
 have HK5:=Hd k5
 have HK7:=Hd k7
 have HK8:=Hd k8
 have HK9:=Hd k9
 have HK10:=Hd k10
 have HM10 : Hid (M9 < w2.heap.size):=Hd (by
  have h1:=(Gx HK9.out)
  have h2:=hb2.size
  exact Nat.lt_of_lt_of_le (by rw [← hM9,← hV]; simp) h2)
 obtain ⟨M10,hM10⟩:=Vx w2.heap.size
 rw [hM10] at HK10 HM10
 clear hhx hnb hbV2' hbV2 hb02 hbw2 k10 k5 k7 k8 k9 hb2 d9 hM9 hV
 gi_wp2_with fail
 refine ⟨trivial,?_⟩
 refine (callsIn_wide.2 HCO.out).mono ?_
 rintro e w3 ⟨hwe,ac,cc,rfl,hcr⟩
 have hwe2:=hwe.symm
 clear hwe
 subst hwe2
 have HCR:=Hd hcr
 clear hcr
 gi_wp2_with (refine ⟨trivial,?_⟩; gi_at_call 65; refine (callsIn_wide.2 (asked_any _ D ac a (colsJ D.t j).length cc l.length cap)).mono ?_; rintro e w4 ⟨rfl,rfl⟩)
 have hfV:=HT.out.fix.now.later HBW2.out
 have hAM:=asked_am V2 D ac (colsJ D.t j) cc a l cap hfV HCR.out (HR.out.later HBW2.out)
 obtain ⟨W1,hW1⟩:=Vx (((V2.alloc (Obj.cells #[.pointer (some ⟨D.r,0,none⟩)] 91)).alloc (Obj.cells #[.slice ac (colsJ D.t j).length cc] 44)).alloc (Obj.cells #[.slice a l.length cap] 26))
 have hbW1 : Below V2.heap.size V2 W1:=by rw [← hW1]; exact (((Bxr _ V2).alloc Zlr _).alloc Si _).alloc (by simp; omega) _
 rw [hW1] at hAM ⊢
 have HAM:=Hd hAM
 have HBW:=Hbt HBW2 hbW1
 have HMW:=Hd (HM.out.later HBW.out HM.out.le)
 have HK51:=Hd (heap_of HK5.out hbW1)
 have HK71:=Hd (heap_of HK7.out hbW1)
 have HK81:=Hd (heap_of HK8.out hbW1)
 have HK91:=Hd (heap_of HK9.out hbW1)
 have HK101:=Hd (heap_of HK10.out hbW1)
 have HC1 : Hid ((colsJ D.t j).length ≤ 1000000):=Hd (by have:=HLN.out; have:=HC8.out; omega)
 generalize V2.heap.size = N at HAM hAM ⊢
 clear hAM hW1 hbW1 hfV d5 hV2 hM10
 refine wpIn_rangeB rfl Om (gf:=114) (lb:=#[.pointer (some ⟨N + 1,0,none⟩),.pointer (some ⟨N,0,none⟩),.pointer (some ⟨N + 1 + 1,0,none⟩)]) rfl trivial (enters_of Tryz.func114 Kr rfl)
  (asked_seq (B:=C) _ D (N + 1) N (N + 1 + 1) ac (colsJ D.t j) cc a l cap HT.out.parts HC1.out HL.out W1 HMW.out HAM.out)
  KpP.trans
  (fun W l o o' hl ho hc => ⟨fun h => h.grows (Grows.put ho hc o'),fun h => h.grows (Grows.put ho hc o') (by simp [World.putObj])⟩)
  (Bxr _ _) (fun _ => rfl)
  (fun pre W => Below W1.heap.size W1 W ∧ ∀ p ∈ pre,∀ q ∈ rs,homeR D.P D.t q = p → pick3 q (colsJ D.t j) = l → TT.bs (nmR D.t q) ∈ ks)
  (fun c _ W => c = .ret ∧ Below w.heap.size w W ∧ W.heap[w.heap.size + 1 + 1]? = some (.cells #[.bool true] 4 (0,0)) ∧ ∃ q ∈ rs,TT.bs (nmR D.t q) ∉ ks ∧ pick3 q (colsJ D.t j) = l)
  (fun pre W W' row h hg hr => ⟨below_own h.1 hg hr Zlr h.1.size,h.2⟩)
  (fun c pre W W' row h hg hr => ⟨h.1,below_own h.2.1 hg hr HBW.out.size h.2.1.size,cells_own h.2.2.1 hg hr,h.2.2.2⟩)
  (fun pre W W' h hb => ⟨h.1.trans (hb.mono h.1.size),h.2⟩)
  ⟨Bxr _ _,fun p hp => absurd hp Si⟩
  (fun x a' W => a' = { tmps:=#[.pointer (some ⟨D.r,0,none⟩),.int .i64 i,.slice a l.length cap,.map m,undef,.pointer (some ⟨w.heap.size,0,none⟩),undef,.pointer (some ⟨w.heap.size + 1,0,none⟩),.pointer (some ⟨w.heap.size + 1 + 1,0,none⟩),.pointer (some ⟨M9,0,none⟩),.pointer (some ⟨M10,0,none⟩),.bool nb,D.pv x,undef,undef,.slice a l.length cap,.string s,.tuple #[.string hx,.bool nb],.string s,.tuple #[.string hx,.bool nb],.string hx,.bool nb,.pointer (some ⟨D.r,0,none⟩),.pointer (some ⟨D.r,0,none⟩),.int .i64 i,.slice ac (colsJ D.t j).length cc,.slice a l.length cap,.func (.func 114) #[] #[.pointer (some ⟨N + 1,0,none⟩),.pointer (some ⟨N,0,none⟩),.pointer (some ⟨N + 1 + 1,0,none⟩)],D.pv x,undef,undef,undef,undef,undef,undef,undef,undef,undef,undef,undef,undef,undef,undef,undef],defers:=[] })
  (fun x a' _ X Y row hs _ _ => hs)
  ?assign ?body ?done ?stop
 case assign =>
  rintro l2 pre x W K hi hV hK
  have HI2:=Hd hi
  clear hi
  unfold encP
  gi_wp2
  exact hK _ _ (KeepsFrom.refl _ _) ⟨fun h => h,fun h => h⟩ HI2.out rfl
 case body =>
  rintro l2 pre x a' W ⟨i1,i2⟩ rfl hV
  have hxP : x < D.P:=by
   obtain ⟨rest,hr⟩:=hV
   exact askL_lt HT.out.parts.1 x (by rw [hr]; simp)
  have hbw:=HBW.out.trans (i1.mono HBW.out.size)
  have HBWW:=Hd hbw
  have HI1:=Hd i1
  have HI2:=Hd i2
  have e5 : W.cell? ⟨w.heap.size,0,none⟩ = some (.int .i64 i):=cell_blk (heap_of HK51.out i1) rfl
  have e9 : W.cell? ⟨M9,0,none⟩ = some (.string s):=cell_blk (heap_of HK91.out i1) rfl
  have e10 : W.cell? ⟨M10,0,none⟩ = some (.string hx):=cell_blk (heap_of HK101.out i1) rfl
  have HNM:=Hd (names_any W D x j i HI.out rs (HT.out.later hbw) hxP HJ.out s hx)
  clear i1 i2 hxP hV hbw
  unfold TD.pv
  have HB : Hid (∀ r ∈ rs,(kl (skJ D.t j r) s = false ∧ untilB hx (skJ D.t j r) = true) ↔ pick3 r (colsJ D.t j) = l):=Hd fun r hr => by
   rw [← HX.out,← HS.out]
   exact between_pick (HT.out.ok.fit r hr) HL.out HLN.out
  gi_wp2_with (refine ⟨trivial,?_⟩; gi_at_call 216; refine (CallsIn.inRound l2 (callsIn_wide.2 HNM.out)).mono ?_; rintro e w5 ⟨hb5,v,ns,rfl,ho,hnl,hns⟩; obtain ⟨pv,cv,rfl⟩:=ownF ho; have HB5:=Hd hb5; have HO:=Hd ho; have HNL:=Hd hnl; have HNS:=Hd hns; clear hb5 ho hnl hns)
  have HB5W : Hid (Below w.heap.size w w5):=Hd (HBWW.out.trans (HB5.out.mono HBWW.out.size))
  clear e5 e9 e10
  gi_loopw [35] (fun q wr => ∃ n : Nat,n ≤ ns.length ∧ q = .int .i64 (n : Int) ∧ Below w5.heap.size w5 wr ∧ ∀ t ∈ ns.take n,TT.bs t ∈ ks) (fun q _ => ns.length - (intOf q).toNat)
  case atStart => exact ⟨0,Nat.zero_le _,rfl,Bxr _ _,by simp⟩
  case round =>
   obtain ⟨n,hn,rfl,hb,hall⟩:=hrel
   have HALL:=Hd hall
   have HBR:=Hd hb
   have hbW : Below W.heap.size W wr:=HB5.out.trans (hb.mono HB5.out.size)
   have HBRW:=Hd hbW
   have hnl:=HNL.out
   have hcnt:=HT.out.cnt
   clear hall
   by_cases hlt : n < ns.length
   ·have hlti : (n : Int) < (ns.length : Int):=by omega
    obtain ⟨g,cap2,e,d0⟩:=srow_at HO.out hlt
    simp only [Value.slice.injEq,true_and] at e
    obtain ⟨rfl,rfl⟩:=e
    have d0:=cell_later hb d0
    have hmem:=List.getElem_mem hlt
    have HTK : Hid (∀ t,t ∈ ns.take (n + 1) ↔ t ∈ ns.take n ∨ t = ns[n]):=Hd fun t => by rw [List.take_succ_eq_append_getElem hlt,List.mem_append,List.mem_singleton]
    obtain ⟨t,ht⟩:=Vx (ns[n])
    rw [ht] at d0 hmem HTK
    obtain ⟨r,hr,hr1,hr2,hr3,hr4⟩:=(HNS.out t).1 hmem
    have HRR : Hid (r ∈ rs ∧ pick3 r (colsJ D.t j) = l ∧ t = nmR D.t r):=Hd ⟨hr,(HB.out r hr).1 ⟨hr2,hr3⟩,hr4⟩
    have hts : t.size ≤ 2400:=by rw [hr4]; exact kE_short (pick3_right (HT.out.ok.right hr) _) (by rw [pick3_length]; have:=HT.out.tr.key; omega)
    have HHS:=Hd (HG.out wr t (HBWW.out.trans (hbW.mono HBWW.out.size)) hts)
    have k7:=heap_of (heap_of HK71.out HI1.out) hbW
    have k8:=heap_of (heap_of HK81.out HI1.out) hbW
    have e7 : wr.cell? ⟨w.heap.size + 1,0,none⟩ = some (.map m):=cell_blk k7 rfl
    have HK8R:=Hd k8
    have hmap : ns.length ≤ 3000000000:=by omega
    clear hmem hr hr1 hr2 hr3 hr4 hts k7 k8 hb hbW ht hnl hcnt
    by_cases hin : TT.bs t ∈ ks
    ·have HIN:=Hd hin
     rw [decide_eq_true hin] at HHS
     clear hin
     gi_wp2_with (refine ⟨trivial,?_⟩; gi_at_call 109; refine (CallsIn.inRound l2 (callsIn_wide.2 HHS.out)).mono ?_; rintro e w6 ⟨rfl,hb6⟩; have HB6:=Hd hb6; clear hb6)
     go_roundw
     case rel => exact ⟨n + 1,by omega,by go_num,HBR.out.trans (HB6.out.mono HBR.out.size),fun t' ht' => ((HTK.out t').1 ht').elim (HALL.out t') fun e => by rw [e]; exact HIN.out⟩
     case measure => simp [intOf]; omega
    ·have HIN:=Hd hin
     rw [decide_eq_false hin] at HHS
     have e8 : wr.cell? ⟨w.heap.size + 1 + 1,0,none⟩ = some (.bool false):=cell_blk HK8R.out rfl
     have f8 : wr.frozen? ⟨w.heap.size + 1 + 1,0,none⟩ = false:=froz_blk HK8R.out
     have l8:=cell_lt e8
     clear hin
     gi_wp2_with (refine ⟨trivial,?_⟩; gi_at_call 109; refine (CallsIn.inRound l2 (callsIn_wide.2 HHS.out)).mono ?_; rintro e w6 ⟨rfl,hb6⟩; obtain ⟨hcc,hff⟩:=bcell hb6; have HB6:=Hd hb6; clear hb6)
     have k8:=heap_of HK8R.out HB6.out
     have hbw6 : Below W.heap.size W w6:=HBRW.out.trans (HB6.out.mono HBRW.out.size)
     have hbww : Below w.heap.size w w6:=HBWW.out.trans (hbw6.mono HBWW.out.size)
     refine ⟨⟨by have:=hbw6.size; simpa [World.setCell] using this,fun k o hk ho hc => ?_⟩,rfl,hbww.setCell (by show w.heap.size ≤ w.heap.size + 1 + 1; omega) _,heap_setCell_at k8 _,r,HRR.out.1,by rw [← HRR.out.2.2]; exact HIN.out,HRR.out.2.1⟩
     have h1:=heap_of ho hbw6
     refine (Below.heap_setCell _ _ _ _ fun e => ?_).trans h1
     have e : k = w.heap.size + 1 + 1:=e
     rw [e,k8] at h1
     obtain rfl:=Option.some.inj h1
     cases hc
   ·have hlti : ¬ (n : Int) < (ns.length : Int):=by omega
    have hnn : n = ns.length:=by omega
    have HNN:=Hd hnn
    clear hnn hn hlt hb hbW hnl hcnt
    gi_wp2
    have hbW:=HBRW.out
    refine ⟨keepsFrom_below hbW,⟨fun h => h.later hbW,fun h => h.later hbW h.le⟩,HI1.out.trans (hbW.mono HI1.out.size),fun p hp q hq h1 h2 => ?_⟩
    rcases Zma hp with h3 | h3
    ·exact HI2.out p h3 q hq h1 h2
    ·have hx2:=(HB.out q hq).2 h2
     refine HALL.out _ ?_
     rw [HNN.out,List.take_of_length_le Zlr]
     exact (HNS.out _).2 ⟨q,hq,by rw [h1]; exact Zms h3,hx2.1,hx2.2,rfl⟩
 case done =>
  rintro D2 xs W hD hS ⟨i1,i2⟩ hK
  have k8:=heap_of HK81.out i1
  have HK8R:=Hd k8
  have e8 : W.cell? ⟨w.heap.size + 1 + 1,0,none⟩ = some (.bool false):=cell_blk k8 rfl
  have f8 : W.frozen? ⟨w.heap.size + 1 + 1,0,none⟩ = false:=froz_blk k8
  have l8:=cell_lt e8
  have HN : Hid (¬ ∃ q ∈ rs,TT.bs (nmR D.t q) ∉ ks ∧ pick3 q (colsJ D.t j) = l):=Hd fun ⟨q,hq,h1,h2⟩ => h1 (i2 (homeR D.P D.t q) (by rw [hS,← h2]; exact home_in_ask HT.out.parts.1) q hq rfl h2)
  have HI1:=Hd i1
  have HD:=Hd hD
  have HK2:=Hd hK
  have H8 : Hid (w.heap.size + 1 + 1 < W1.heap.size):=Hd (Gx HK81.out)
  clear i1 i2 hS k8 hD hK
  gi_wp2
  obtain ⟨U,hU⟩:=Vx (W.setCell ⟨w.heap.size + 1 + 1,0,none⟩ (.bool false))
  have hbw : Below w.heap.size w W:=HBW.out.trans (HI1.out.mono HBW.out.size)
  have hbU : Below w.heap.size w U:=by rw [← hU]; exact hbw.setCell (by show w.heap.size ≤ w.heap.size + 1 + 1; omega) _
  have uK : U.heap[D2]? = some (.deferred (some [])):=by
   rw [← hU]
   exact (Below.heap_setCell _ _ _ _ (by have h1:=HD.out; have h2:=H8.out; show D2 ≠ w.heap.size + 1 + 1; omega)).trans HK2.out
  have u8 : U.heap[w.heap.size + 1 + 1]? = some (.cells #[.bool false] 4 (0,0)):=by rw [← hU]; exact heap_setCell_at HK8R.out _
  rw [hU]
  have v8:=(Grows.put uK rfl (.deferred none)) _ _ (cell_blk (i:=0) u8 rfl)
  refine ⟨by simp,.inl ⟨_,_,rfl,run_takeDeferred uK,?_⟩⟩
  refine ⟨.bool false,by simp [results,Tryz.results150,go_sem,v8],?_⟩
  exact ⟨below_own hbU (grownBy_putObj' U D2 (.deferred none)) (B:=W1.heap.size) (fun q e => by cases e; exact ⟨HD.out,_,uK,rfl⟩) HBW.out.size hbU.size,false,rfl,fun h => (by cases h),fun h => absurd h HN.out⟩
 case stop =>
  rintro D2 c pre W hD hS ⟨rfl,h1,h2,q,hq⟩ hK
  have c8:=(Grows.put hK rfl (.deferred none)) _ _ (cell_blk (i:=0) h2 rfl)
  have hg:=grownBy_putObj' W D2 (.deferred none)
  have hrr : ∀ q,some D2 = some q → W1.heap.size ≤ q ∧ ∃ o : Obj,W.heap[q]? = some o ∧ o.isCells = false:=fun q e => by cases e; exact ⟨hD,_,hK,rfl⟩
  gi_wp2
  refine ⟨by simp,.inl ⟨_,_,rfl,run_takeDeferred hK,?_⟩⟩
  refine ⟨.bool true,by simp [results,Tryz.results150,go_sem,c8],?_⟩
  exact ⟨below_own h1 hg hrr HBW.out.size h1.size,true,rfl,fun _ => ⟨q,hq⟩,fun _ => rfl⟩
end
section
open Go.RowKit BB
def NullI (l : List V3) (e : Ending) : Prop:=∃ i : Int,e = .returned (.int .i64 i) ∧ (0 ≤ i ↔ ∃ v ∈ l,v.1 = 0)
theorem index_null (w : World) (a : Option Addr) (cap : Nat) (l : List V3) (hrow : Row w a l) (hl : l.length ≤ 1000000) :
  Calls Tryz.prog 214 #[.slice a l.length cap,.func (.func 108) #[] #[]] w fun e w' => Below w.heap.size w w' ∧ NullI l e:=by
 have HR:=Hd hrow
 clear hrow
 go_enter Tryz.func214,Tryz.ntmps214
 go_wp2
 go_loopw [8] (fun i wr => ∃ k : Nat,k ≤ l.length ∧ i = .int .i64 k ∧ (∀ j (g : j < l.length),j < k → (l[j]).1 ≠ 0) ∧ Below w.heap.size w wr) (fun i _ => l.length - (intOf i).toNat)
 case atStart => exact ⟨0,Nat.zero_le _,rfl,fun j _ g => absurd g (Nat.not_lt_zero _),Bxr _ _⟩
 case round =>
  obtain ⟨k,hk,rfl,hall,hb⟩:=hrel
  have HA:=Hd hall
  have hsz:=hb.size
  clear hall
  by_cases hlt : k < l.length
  ·have hlti : (k : Int) < (l.length : Int):=by omega
   obtain ⟨b,off,rfl,d0,d1,d2⟩:=HR.out k hlt
   have d0:=cell_later hb d0
   have d1:=cell_later hb d1
   have d2:=cell_later hb d2
   obtain ⟨v,hv⟩:=Vx (l[k])
   rw [hv] at d0 d1 d2
   have HV:=Hd hv
   have HBR:=Hd hb
   obtain ⟨nb,hnb⟩:=Vx ((v.1 == 0))
   have HNB:=Hd hnb
   clear hv
   cases nb with
   | true =>
    go_wp2_with (first | (go_at_call 108; refine (isNull_any _ v).mono ?_; rintro e w2 ⟨rfl,hb2⟩; rw [hnb]; have HB2:=Hd hb2; clear hb2))
    go_ret
    exact ⟨HBR.out.trans (HB2.out.mono HBR.out.size),(k : Int),rfl,fun _ => ⟨v,by rw [← HV.out]; exact List.getElem_mem hlt,by simpa using HNB.out⟩,fun _ => by omega⟩
   | false =>
    go_wp2_with (first | (go_at_call 108; refine (isNull_any _ v).mono ?_; rintro e w2 ⟨rfl,hb2⟩; rw [hnb]; have HB2:=Hd hb2; clear hb2))
    go_roundw
    case rel => exact ⟨k + 1,by omega,by go_num,upto_succ HA.out (by rw [HV.out]; simpa using HNB.out),HBR.out.trans (HB2.out.mono HBR.out.size)⟩
    case measure => simp [intOf]; omega
  ·have hlti : ¬ (k : Int) < (l.length : Int):=by omega
   have HBR:=Hd hb
   go_wp2
   go_ret
   refine ⟨HBR.out,-1,rfl,fun h => by omega,fun ⟨v,hv,h0⟩ => ?_⟩
   obtain ⟨j,hj,rfl⟩:=List.getElem_of_mem hv
   exact absurd h0 (HA.out j hj Om)
theorem con_null (w : World) (a : Option Addr) (cap : Nat) (l : List V3) (hrow : Row w a l) (hl : l.length ≤ 1000000) :
  Calls Tryz.prog 149 #[.slice a l.length cap,.func (.func 108) #[] #[]] w fun e w' => Below w.heap.size w w' ∧ BoolP (∃ v ∈ l,v.1 = 0) e:=by
 have HI:=Hd (index_null w a cap l hrow hl)
 clear hrow
 go_enter Tryz.func149,Tryz.ntmps149
 go_wp2_with (go_at_call 214; refine HI.out.mono ?_; rintro e w' ⟨hb,i,rfl,hi⟩; have HX:=Hd hi; have HB:=Hd hb; clear hi hb)
 exact bodyPost_ret (v:=.bool (decide (0 ≤ i))) (by simp [results,Tryz.results149,go_sem]) rfl ⟨HB.out,_,rfl,by rw [decide_eq_true_iff]; exact HX.out⟩
end
end Go.Proofs.YtmmmkjhpmlfopaaGreatDoor
