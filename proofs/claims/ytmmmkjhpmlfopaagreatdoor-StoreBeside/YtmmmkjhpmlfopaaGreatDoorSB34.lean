/- O36 O37 O38 O39 -/
import Derived.Test.YtmmmkjhpmlfopaaGreatDoorSB33
set_option maxHeartbeats 8000000
set_option maxRecDepth 100000
namespace Go.Proofs.YtmmmkjhpmlfopaaGreatDoor
open Go.RowKit
section
open Go.RowKit BB
structure StM (w : World) (B : Nat) (T U : Nat → Prop) (s : Nat) (c : TT.Ct) (P : Nat) (tv : Value) (ld : Int) (L : TabL) : Prop where
 blk : w.heap[s]? = some (.cells #[.string ⟨(TT.encC c).toArray⟩,.int .i64 (P : Int),tv,.int .i64 ld] 82 (0,0))
 row : w.ownsRow B 91 1 tv L.length (tabPs L)
 tabs : Tabs w B T U L
 off : ∀ k,k = s ∨ tv.ownBlock = some k → ¬ T k ∧ ¬ U k
 lo : B ≤ s ∧ ∀ k,U k → B ≤ k
 right : TT.rightC c = true
 parts : 1 ≤ P ∧ P ≤ 16
 defs : L.map (fun x => x.1.t) = c.tbs ∧ ∀ x ∈ L,x.1.P = P
theorem StM.kept {w w' : World} {B : Nat} {T U Y : Nat → Prop} {s : Nat} {c : TT.Ct} {P : Nat} {tv : Value} {ld : Int} {L : TabL} (h : StM w B T U s c P tv ld L) (ho : Only Y w w') (hy : ∀ k,T k ∨ U k ∨ k = s ∨ tv.ownBlock = some k → ¬ Y k) : StM w' B T U s c P tv ld L :=
 ⟨(ho.block s (Gx h.blk) (hy s (Or.inr (Or.inr (Or.inl rfl))))).trans h.blk,own_kept h.row fun g hg => ho.block g (h.row.lt g hg).2 (hy g (Or.inr (Or.inr (Or.inr hg)))),h.tabs.kept ho fun k hk => hy k (hk.imp id Or.inl),h.off,h.lo,h.right,h.parts,h.defs⟩
theorem StM.later {w w' : World} {B : Nat} {T U : Nat → Prop} {s : Nat} {c : TT.Ct} {P : Nat} {tv : Value} {ld : Int} {L : TabL} (h : StM w B T U s c P tv ld L) (hb : Below w.heap.size w w') : StM w' B T U s c P tv ld L:=h.kept (Y:=fun _ => False) (Only.of hb) fun _ _ h => h
theorem StM.turn {w : World} {B : Nat} {T U : Nat → Prop} {s : Nat} {c : TT.Ct} {P : Nat} {tv : Value} {ld : Int} {L : TabL} (h : StM w B T U s c P tv ld L) (i : Nat) (hi : i < L.length) : ∃ Z,Tab w B Z (L[i]).1 (L[i]).2 ∧ (∀ k,Z k → T k) ∧ ∀ (w' : World) (Z' : Nat → Prop) (rs : List Row3),Only Z w w' → Tab w' B Z' (L[i]).1 rs → (∀ k,Z' k → Z k ∨ w.heap.size ≤ k) → Only T w w' ∧ ∃ T',StM w' B T' U s c P tv ld (L.set i ((L[i]).1,rs)) ∧ (∀ k,T' k → T k ∨ w.heap.size ≤ k) ∧ ∀ k,w.heap.size ≤ k → ¬ Z' k → ¬ T' k:=by
 obtain ⟨Z,h1,h2,h3⟩:=h.tabs.turn i hi
 refine ⟨Z,h1,h2,fun w' Z' rs ho ht hz => ?_⟩
 obtain ⟨hoT,T',hT',hto,hn⟩:=h3 w' Z' rs ho ht hz
 have e : ∀ {β : Type} (f : TD → β),(L.set i ((L[i]).1,rs)).map (fun x => f x.1) = L.map fun x => f x.1:=fun f => by
  rw [List.map_set]
  refine List.ext_getElem Si fun j a b => ?_
  by_cases c : i = j
  ·subst c
   simp
  ·rw [List.getElem_set_ne c]
 have hsl:=(Gx h.blk)
 refine ⟨hoT,T',⟨(hoT.block s hsl (h.off s (Or.inl rfl)).1).trans h.blk,?_,hT',fun k hk => ⟨fun q => ?_,(h.off k hk).2⟩,h.lo,h.right,h.parts,(e fun D => D.t).trans h.defs.1,fun x hx => ?_⟩,hto,hn⟩
 ·have:=own_kept h.row fun g hg => hoT.block g (h.row.lt g hg).2 (h.off g (Or.inr hg)).1
  rw [List.length_set]
  unfold tabPs
  rw [e fun D => ptr9 D.r]
  exact this
 ·rcases hto k q with a | a
  ·exact (h.off k hk).1 a
  ·rcases hk with rfl | hk
   ·omega
   ·have:=(h.row.lt k hk).2
    omega
 ·have hP : ∀ y ∈ L.map (fun x => x.1.P),y = P:=fun y hy => by
   obtain ⟨z,hz,rfl⟩:=List.mem_map.1 hy
   exact h.defs.2 z hz
  rw [← e fun D => D.P] at hP
  exact hP _ (List.mem_map.2 ⟨x,hx,rfl⟩)
def NewS (w : World) (c : TT.Ct) (P : Int) (e : Ending) (w' : World) : Prop :=
 (TT.rightC c = false ∧ e = .returned (.tuple #[.pointer none,.int .i64 80])) ∨ (TT.rightC c = true ∧ (P < 1 ∨ 16 < P) ∧ e = .returned (.tuple #[.pointer none,.int .i64 1])) ∨ ∃ (p s : Nat) (T U : Nat → Prop) (tv : Value) (L : TabL),P = (p : Int) ∧ e = .returned (.tuple #[.pointer (some ⟨s,0,none⟩),.int .i64 0]) ∧ StM w' w.heap.size T U s c p tv 0 L ∧ ∀ x ∈ L,x.2 = []
theorem new9_any (w : World) (c : TT.Ct) (vs : List Value) (hR : TT.CtR w c vs) (hf : TT.Fits c) (P : Int) :
  Calls Tryz.prog 8 #[.agg vs.toArray,.int .i64 P] w fun e w' => Below w.heap.size w w' ∧ NewS w c P e w':=by
 have HC : Hid (∀ W,Below w.heap.size w W → TT.CtR W c vs):=fun W h => TT.CtR.later h c vs hR
 obtain ⟨pt,ct,pp,cp,rfl,r1,r2⟩:=hR
 have HF:=Hd hf
 obtain ⟨W0,hW0⟩:=Vx (w.alloc (Obj.cells #[.slice pt c.tbs.length ct,.slice pp c.prs.length cp] 25))
 have hb0 : Below w.heap.size w W0:=by rw [← hW0]; exact (Bxr _ _).alloc Zlr _
 have hk0 : W0.heap[w.heap.size]? = some (.cells #[.slice pt c.tbs.length ct,.slice pp c.prs.length cp] 25 (0,0)):=by rw [← hW0]; exact heap_alloc_new w _
 obtain ⟨x0,x1⟩:=TT.two_cells hk0
 have HE:=Hd (TT.encode_any c _ W0 (HC.out W0 hb0) hf)
 have HB0:=Hd hb0
 clear r1 r2 hf hb0 hk0
 go_enter Tryz.func8,Tryz.ntmps8
 go_wp2_with fail
 try rw [hW0]
 refine HE.out.mono ?_
 rintro e w1 ⟨rfl,hb1⟩
 have HB1:=Hbt HB0 hb1
 cases hr : TT.rightC c with
 | false =>
  have HRC:=Hd hr
  rw [TT.encS_no hr,TT.encE_no hr]
  clear hr hb1
  go_wp2
  refine bodyPost_ret (v:=.tuple #[.pointer none,.int .i64 80]) (by simp [results,Tryz.results8,go_sem]) rfl ?_
  exact ⟨HB1.out,Or.inl ⟨HRC.out,rfl⟩⟩
 | true =>
  have HRC:=Hd hr
  rw [TT.encS_yes hr,TT.encE_yes hr]
  obtain ⟨b,hb⟩ : ∃ b : ByteArray,(⟨(TT.encC c).toArray⟩ : ByteArray) = b:=⟨_,rfl⟩
  have HBE:=Hd hb
  rw [hb]
  clear hr hb1 hb
  by_cases h1 : P < 1
  ·go_wp2
   refine bodyPost_ret (v:=.tuple #[.pointer none,.int .i64 1]) (by simp [results,Tryz.results8,go_sem]) rfl ?_
   exact ⟨HB1.out,Or.inr (Or.inl ⟨HRC.out,Or.inl h1,rfl⟩)⟩
  ·by_cases h16 : P > 16
   ·go_wp2
    refine bodyPost_ret (v:=.tuple #[.pointer none,.int .i64 1]) (by simp [results,Tryz.results8,go_sem]) rfl ?_
    exact ⟨HB1.out,Or.inr (Or.inl ⟨HRC.out,Or.inr h16,rfl⟩)⟩
   ·obtain ⟨p,rfl⟩ : ∃ p : Nat,P = (p : Int):=⟨P.toNat,by omega⟩
    have hp : 1 ≤ p ∧ p ≤ 16:=by omega
    have HP:=Hd hp
    obtain ⟨W2,hW2⟩:=Vx (w1.alloc (Obj.cells #[.string b,.int .i64 (p : Int),.slice none 0 0,.int .i64 0] 82))
    have hb2 : Below w1.heap.size w1 W2:=by rw [← hW2]; exact (Bxr _ _).alloc Zlr _
    have hs2 : W2.heap.size = w1.heap.size + 1:=by rw [← hW2]; simp
    have hk2 : W2.heap[w1.heap.size]? = some (.cells #[.string b,.int .i64 (p : Int),.slice none 0 0,.int .i64 0] 82 (0,0)):=by
     rw [← hW2]
     exact heap_alloc_new w1 _
    have HEM:=Hd (fun V (hV : Below W2.heap.size W2 V) => empty9_any V w1.heap.size c HRC.out p hp (by rw [HBE.out]; exact cell_blk (heap_of hk2 hV) rfl) (cell_blk (heap_of hk2 hV) rfl))
    have HB2:=Hbt HB1 hb2
    have HK2:=Hd hk2
    clear hp hb2 hk2
    go_wp2_with fail
    try rw [hW2]
    refine (HEM.out _ (Bxr _ _)).mono ?_
    rintro e w3 ⟨hb3,v,T,U,L,rfl,hem,hown,htabs,hoff,hlow⟩
    obtain ⟨pv,cv,rfl⟩:=ownF hown
    have hk3:=heap_of HK2.out hb3
    have x2 : w3.cell? ⟨w1.heap.size,2,none⟩ = some (.slice none 0 0):=cell_blk hk3 rfl
    have f2 : w3.frozen? ⟨w1.heap.size,2,none⟩ = false:=froz_blk hk3
    have HK3:=Hd hk3
    have HEL:=Hd hem
    have HOT:=Hd (Zai hown (Zai htabs (Zai hoff hlow)))
    have HB3:=Hbt HB2 hb3
    have hs3:=hb3.size
    clear hb3 hem hown htabs hoff hlow hk3
    go_wp2
    refine bodyPost_ret (v:=.tuple #[.pointer (some ⟨w1.heap.size,0,none⟩),.int .i64 0]) (by simp [results,Tryz.results8,go_sem]) rfl ?_
    have hsw:=HB1.out.size
    have hW2:=HB2.out.size
    have honly : Only (fun k => k = w1.heap.size) w3 (w3.setCell ⟨w1.heap.size,2,none⟩ (.slice pv L.length cv)):=⟨rfl,rfl,rfl,by simp [World.setCell],fun k _ hn => Below.heap_setCell _ _ _ _ fun e => hn e⟩
    refine ⟨HB3.out.grown (setCell_grown9 _ _ 2 _) HB3.out.size fun q hq => by cases hq; exact hsw,Or.inr (Or.inr ⟨p,w1.heap.size,T,U,.slice pv L.length cv,L,rfl,rfl,⟨?_,?_,?_,fun k hk => ?_,⟨hsw,fun k hk => ?_⟩,HRC.out,HP.out,?_,fun x hx => (HEL.out.2 x hx).1⟩,fun x hx => (HEL.out.2 x hx).2⟩)⟩
    ·have:=TT.heap_setCell_at (i:=2) HK3.out (.slice pv L.length cv)
     rw [HBE.out]
     simpa using this
    ·exact own_mono9 (own_kept HOT.out.1 fun q hq => honly.block q (HOT.out.1.lt q hq).2 fun e => by have:=(HOT.out.1.lt q hq).1; omega) Om
    ·refine (HOT.out.2.1.kept honly fun k hk e => ?_).mono Om
     rcases hk with hk | hk
     ·have:=(HOT.out.2.1.lo k hk).1
      omega
     ·have:=HOT.out.2.2.2 k hk
      omega
    ·rcases hk with rfl | hk
     ·refine ⟨fun q => ?_,fun q => ?_⟩
      ·have:=(HOT.out.2.1.lo _ q).1
       omega
      ·have:=HOT.out.2.2.2 _ q
       omega
     ·exact HOT.out.2.2.1 k hk
    ·have:=HOT.out.2.2.2 k hk
     omega
    ·rw [HEL.out.1,List.take_length]
end
section
open Go.RowKit BB
def WkB (w : World) (k s : Nat) (l : Int) (en : Bool) (dv : Value) : Prop:=w.heap[k]? = some (.cells #[.pointer (some ⟨s,0,none⟩),.int .i64 l,.bool en,dv] 90 (0,0))
theorem WkB.later {w w' : World} {k s : Nat} {l : Int} {en : Bool} {dv : Value} (h : WkB w k s l en dv) (hb : Below w.heap.size w w') : WkB w' k s l en dv:=heap_of h hb
theorem begin9_any {B : Nat} {T U : Nat → Prop} (w : World) (s : Nat) (c : TT.Ct) (P : Nat) (tv : Value) (ld : Int) (L : TabL) (h : StM w B T U s c P tv ld L) :
  Calls Tryz.prog 10 #[.pointer (some ⟨s,0,none⟩)] w fun e w' => e = .returned (.pointer (some ⟨w.heap.size,0,none⟩)) ∧ WkB w' w.heap.size s ld false (.slice none 0 0) ∧ Below w.heap.size w w' ∧ w'.heap.size = w.heap.size + 1:=by
 have h3 : w.cell? ⟨s,3,none⟩ = some (.int .i64 ld):=cell_blk h.blk rfl
 clear h
 go_enter Tryz.func10,Tryz.ntmps10
 go_wp2
 go_ret
 exact ⟨rfl,heap_alloc_new w _,(Bxr _ _).alloc Zlr _,by simp⟩
theorem over9_any (w : World) (k s : Nat) (l : Int) (en : Bool) (dv : Value) (a0 a1 tv : Value) (ld : Int) (hk : WkB w k s l en dv) (hs : w.heap[s]? = some (.cells #[a0,a1,tv,.int .i64 ld] 82 (0,0))) :
  Calls Tryz.prog 27 #[.pointer (some ⟨k,0,none⟩)] w fun e w' => e = .returned (.bool (en || decide (l ≠ ld))) ∧ Below w.heap.size w w':=by
 have k0 : w.cell? ⟨k,0,none⟩ = some (.pointer (some ⟨s,0,none⟩)):=cell_blk hk rfl
 have k1 : w.cell? ⟨k,1,none⟩ = some (.int .i64 l):=cell_blk hk rfl
 have k2 : w.cell? ⟨k,2,none⟩ = some (.bool en):=cell_blk hk rfl
 have s3 : w.cell? ⟨s,3,none⟩ = some (.int .i64 ld):=cell_blk hs rfl
 clear hk hs
 cases en with
 | true =>
  go_enter Tryz.func27,Tryz.ntmps27
  go_wp2
  go_quiet (fail)
  go_wp2
  go_ret
  exact ⟨rfl,Bw⟩
 | false =>
  go_enter Tryz.func27,Tryz.ntmps27
  go_wp2
  go_quiet (fail)
  go_wp2
  go_ret
  exact ⟨by by_cases hl : l = ld <;> simp [hl],Bw⟩
def TableP (L : TabL) (i : Int) (e : Ending) : Prop:=(∃ (j : Nat) (x : TD × List Row3),L[j]? = some x ∧ i = (j : Int) ∧ e = .returned (.tuple #[ptr9 x.1.r,.bool true])) ∨ ((∀ j : Nat,j < L.length → i ≠ (j : Int)) ∧ e = .returned (.tuple #[.pointer none,.bool false]))
theorem table9_any {B : Nat} {T U : Nat → Prop} (w : World) (s : Nat) (c : TT.Ct) (P : Nat) (tv : Value) (ld : Int) (L : TabL) (h : StM w B T U s c P tv ld L) (i : Int) :
  Calls Tryz.prog 58 #[.pointer (some ⟨s,0,none⟩),.int .i64 i] w fun e w' => TableP L i e ∧ w' = w:=by
 have h2 : w.cell? ⟨s,2,none⟩ = some tv:=cell_blk h.blk rfl
 have hrow:=h.row
 obtain ⟨pv,cv,rfl⟩:=ownF hrow
 clear h
 have HROW:=Hd hrow
 obtain ⟨n,hn⟩:=Vx L.length
 have HN:=Hd hn
 rw [hn] at h2
 go_enter Tryz.func58,Tryz.ntmps58
 by_cases h1 : i < 0
 ·clear hrow hn
  go_wp2
  refine bodyPost_ret (v:=.tuple #[.pointer none,.bool false]) (by simp [results,Tryz.results58,go_sem]) rfl ?_
  exact ⟨Or.inr ⟨fun j _ => by omega,rfl⟩,rfl⟩
 ·obtain ⟨j,rfl⟩ : ∃ j : Nat,i = (j : Int):=⟨i.toNat,by omega⟩
  by_cases h3 : n ≤ j
  ·have h3i : (n : Int) ≤ (j : Int):=by omega
   clear hrow hn
   go_wp2
   refine bodyPost_ret (v:=.tuple #[.pointer none,.bool false]) (by simp [results,Tryz.results58,go_sem]) rfl ?_
   exact ⟨Or.inr ⟨fun i hi => by have:=HN.out; omega,rfl⟩,rfl⟩
  ·have hj : j < L.length:=by omega
   have h3i : ¬ (n : Int) ≤ (j : Int):=by omega
   have h3j : (j : Int) < (n : Int):=by omega
   obtain ⟨x,hx⟩ : ∃ x,L[j]? = some x:=⟨_,List.getElem?_eq_getElem hj⟩
   obtain ⟨g,cap,e⟩ : ∃ g cap,Value.slice pv L.length cv = .slice (some ⟨g,0,none⟩) L.length cap:=⟨_,_,(own_some hrow Om).1⟩
   cases e
   have hc : w.cell? ⟨g,0 + j,none⟩ = some (ptr9 x.1.r):=by
    rw [Nat.zero_add,hrow.cellAt j Om]
    unfold tabPs
    simp [hx]
   have HX:=Hd hx
   clear hrow hn hx
   simp only [Nat.zero_add,ptr9] at hc
   go_wp2
   refine bodyPost_ret (v:=.tuple #[ptr9 x.1.r,.bool true]) (by simp [results,Tryz.results58,go_sem,ptr9]) rfl ?_
   exact ⟨Or.inl ⟨j,x,HX.out,rfl,rfl⟩,rfl⟩
theorem wtable9_any {B : Nat} {T U : Nat → Prop} (w : World) (k s : Nat) (l : Int) (en : Bool) (dv : Value) (c : TT.Ct) (P : Nat) (tv : Value) (ld : Int) (L : TabL) (hk : WkB w k s l en dv) (h : StM w B T U s c P tv ld L) (i : Int) :
  Calls Tryz.prog 32 #[.pointer (some ⟨k,0,none⟩),.int .i64 i] w fun e w' => ((en = true ∨ l ≠ ld) ∧ e = .returned (.tuple #[.pointer none,.bool false]) ∨ (en = false ∧ l = ld) ∧ TableP L i e) ∧ Below w.heap.size w w':=by
 have HOV:=Hd (over9_any w k s l en dv _ _ _ ld hk h.blk)
 have HS:=Hd h
 have HK:=Hd hk
 clear h hk
 go_enter Tryz.func32,Tryz.ntmps32
 go_wp2_with fail
 refine HOV.out.mono ?_
 rintro e w1 ⟨rfl,hb1⟩
 have HB:=Hd hb1
 have HTB:=Hd (table9_any w1 s c P tv ld L (HS.out.later hb1) i)
 have k0 : w1.cell? ⟨k,0,none⟩ = some (.pointer (some ⟨s,0,none⟩)):=cell_blk (HK.out.later hb1) rfl
 clear hb1
 by_cases ho : (en || decide (l ≠ ld)) = true
 ·rw [ho]
  have ho2 : en = true ∨ l ≠ ld:=by simpa using ho
  clear ho
  go_wp2
  refine bodyPost_ret (v:=.tuple #[.pointer none,.bool false]) (by simp [results,Tryz.results32,go_sem]) rfl ?_
  exact ⟨Or.inl ⟨ho2,rfl⟩,HB.out⟩
 ·rw [Bool.not_eq_true] at ho
  rw [ho]
  have ho2 : en = false ∧ l = ld:=by simpa using ho
  clear ho
  go_wp2_with fail
  refine HTB.out.mono ?_
  rintro e w2 ⟨ht,rfl⟩
  rcases ht with ⟨j,x,hx,rfl,rfl⟩ | ⟨hno,rfl⟩
  ·have HX:=Hd hx
   clear hx
   go_wp2
   refine bodyPost_ret (v:=.tuple #[ptr9 x.1.r,.bool true]) (by simp [results,Tryz.results32,go_sem]) rfl ?_
   exact ⟨Or.inr ⟨ho2,Or.inl ⟨j,x,HX.out,rfl,rfl⟩⟩,HB.out⟩
  ·have HN:=Hd hno
   clear hno
   go_wp2
   refine bodyPost_ret (v:=.tuple #[.pointer none,.bool false]) (by simp [results,Tryz.results32,go_sem]) rfl ?_
   exact ⟨Or.inr ⟨ho2,Or.inr ⟨HN.out,rfl⟩⟩,HB.out⟩
end
section
open Go.RowKit BB
def GetP (on : Prop) (L : TabL) (i : Int) (l : List V3) (w : World) (e : Ending) (w' : World) : Prop:=Below w.heap.size w w' ∧ ((∃ (j : Nat) (x : TD × List Row3) (r : Row3) (v : Value),on ∧ L[j]? = some x ∧ i = (j : Int) ∧ r ∈ x.2 ∧ pick3 r x.1.t.key = l ∧ e = .returned (.tuple #[v,.bool true]) ∧ w'.ownsRow w.heap.size 73 3 v r.length (vc r)) ∨ ((∀ (j : Nat) (x : TD × List Row3),on → L[j]? = some x → i = (j : Int) → ∀ r ∈ x.2,pick3 r x.1.t.key ≠ l) ∧ e = .returned (.tuple #[.slice none 0 0,.bool false])))
theorem StM.tab {w : World} {B : Nat} {T U : Nat → Prop} {s : Nat} {c : TT.Ct} {P : Nat} {tv : Value} {ld : Int} {L : TabL} (h : StM w B T U s c P tv ld L) {j : Nat} {x : TD × List Row3} (hx : L[j]? = some x) : ∃ Z,Tab w B Z x.1 x.2 ∧ ∀ k,Z k → T k:=by
 obtain ⟨hj,rfl⟩:=List.getElem?_eq_some_iff.1 hx
 exact h.tabs.tab j hj
theorem get9_any {B C : Nat} {T U : Nat → Prop} (w : World) (k s : Nat) (l : Int) (en : Bool) (dv : Value) (c : TT.Ct) (P : Nat) (tv : Value) (ld : Int) (L : TabL) (hk : WkB w k s l en dv) (h : StM w B T U s c P tv ld L) (hm : Env w C) (i : Int) (a : Option Addr) (cap : Nat) (ks : List V3) (hrow : Row w a ks) (hl : ks.length ≤ 2147483648) :
  Calls Tryz.prog 25 #[.pointer (some ⟨k,0,none⟩),.int .i64 i,.slice a ks.length cap] w (GetP (en = false ∧ l = ld) L i ks w):=by
 have HTB:=Hd (wtable9_any w k s l en dv c P tv ld L hk h i)
 have HS:=Hd (Zai h (Zai hm hrow))
 have HL:=Hd hl
 clear h hk hm hrow hl
 go_enter Tryz.func25,Tryz.ntmps25
 go_wp2_with fail
 refine HTB.out.mono ?_
 rintro e w1 ⟨ht,hb1⟩
 have HB:=Hd hb1
 have hno : ∀ e : Ending,(∀ (j : Nat) (x : TD × List Row3),(en = false ∧ l = ld) → L[j]? = some x → i ≠ (j : Int)) → e = .returned (.tuple #[.slice none 0 0,.bool false]) → GetP (en = false ∧ l = ld) L i ks w e w1:=fun e h1 h2 => ⟨HB.out,Or.inr ⟨fun j x a b c => absurd c (h1 j x a b),h2⟩⟩
 have HNO:=Hd hno
 clear hno
 rcases ht with ⟨ho,rfl⟩ | ⟨ho,⟨j,x,hx,rfl,rfl⟩ | ⟨hn,rfl⟩⟩
 ·clear hb1
  go_wp2
  refine bodyPost_ret (v:=.tuple #[.slice none 0 0,.bool false]) (by simp [results,Tryz.results25,go_sem]) rfl ?_
  exact HNO.out _ (fun j x a _ _ => by
   obtain ⟨a1,a2⟩:=a
   rcases ho with e | e
   ·rw [a1] at e
    cases e
   ·exact e a2) rfl
 ·obtain ⟨Z,hT,-⟩:=HS.out.1.tab hx
  have HF:=Hd (find_any w1 x.1 x.2 a cap ks (hT.later hb1) (HS.out.2.1.later hb1 HS.out.2.1.le) (HS.out.2.2.later hb1) HL.out)
  have HX:=Hd (Zai ho hx)
  have hs1:=hb1.size
  clear hb1 hT hx ho
  go_wp2_with fail
  refine HF.out.mono ?_
  rintro e w2 ⟨hb2,hf⟩
  have HB2:=Hd (HB.out.trans (hb2.mono hs1))
  rcases hf with ⟨r,hr,hp,v,rfl,hown⟩ | ⟨hne,rfl⟩
  ·obtain ⟨pv,cv,rfl⟩:=ownF hown
   have HR:=Hd (Zai hr (Zai hp (own_mono9 hown hs1)))
   clear hb2 hr hp hown
   go_wp2
   refine bodyPost_ret (v:=.tuple #[.slice pv r.length cv,.bool true]) (by simp [results,Tryz.results25,go_sem]) rfl ?_
   exact ⟨HB2.out,Or.inl ⟨j,x,r,_,HX.out.1,HX.out.2,rfl,HR.out.1,HR.out.2.1,rfl,HR.out.2.2⟩⟩
  ·have HR:=Hd hne
   clear hb2 hne
   go_wp2
   refine bodyPost_ret (v:=.tuple #[.slice none 0 0,.bool false]) (by simp [results,Tryz.results25,go_sem]) rfl ?_
   exact ⟨HB2.out,Or.inr ⟨fun j' x' _ hx' e => by
    obtain rfl : j = j':=by omega
    have:=HX.out.2
    rw [hx'] at this
    cases this
    exact HR.out,rfl⟩⟩
 ·have HN:=Hd hn
  clear hb1 hn
  go_wp2
  refine bodyPost_ret (v:=.tuple #[.slice none 0 0,.bool false]) (by simp [results,Tryz.results25,go_sem]) rfl ?_
  exact HNO.out _ (fun j x _ hx => HN.out j (List.getElem?_eq_some_iff.1 hx).1) rfl
def ScanW (on : Prop) (L : TabL) (i ix : Int) (lo hi : ByteArray) (w : World) (e : Ending) (w' : World) : Prop:=Below w.heap.size w w' ∧ ∃ (v : Value) (R : List Row3),e = .returned v ∧ RowsO w' w.heap.size v R ∧ ((∃ (j n : Nat) (x : TD × List Row3),on ∧ L[j]? = some x ∧ i = (j : Int) ∧ ix = (n : Int) - 1 ∧ n < x.1.K ∧ ScanP x.1 n x.2 lo hi R) ∨ (∀ (j n : Nat) (x : TD × List Row3),on → L[j]? = some x → i = (j : Int) → ix = (n : Int) - 1 → ¬ n < x.1.K) ∧ v = .slice none 0 0 ∧ R = [])
theorem wscan9_any {B C : Nat} {T U : Nat → Prop} (w : World) (k s : Nat) (l : Int) (en : Bool) (dv : Value) (c : TT.Ct) (P : Nat) (tv : Value) (ld : Int) (L : TabL) (hk : WkB w k s l en dv) (h : StM w B T U s c P tv ld L) (hm : Env w C) (i ix : Int) (lo hi : ByteArray) :
  Calls Tryz.prog 12 #[.pointer (some ⟨k,0,none⟩),.int .i64 i,.int .i64 ix,.string lo,.string hi] w (ScanW (en = false ∧ l = ld) L i ix lo hi w):=by
 have HTB:=Hd (wtable9_any w k s l en dv c P tv ld L hk h i)
 have HS:=Hd (Zai h hm)
 clear h hk hm
 go_enter Tryz.func12,Tryz.ntmps12
 go_wp2_with fail
 refine HTB.out.mono ?_
 rintro e w1 ⟨ht,hb1⟩
 have HB:=Hd hb1
 have HNO : Hid (∀ e : Ending,(∀ (j n : Nat) (x : TD × List Row3),(en = false ∧ l = ld) → L[j]? = some x → i = (j : Int) → ix = (n : Int) - 1 → ¬ n < x.1.K) → e = .returned (.slice none 0 0) → ScanW (en = false ∧ l = ld) L i ix lo hi w e w1):=Hd fun e h1 h2 => ⟨HB.out,_,[],h2,RowsO.nil _ _,Or.inr ⟨h1,rfl,rfl⟩⟩
 rcases ht with ⟨ho,rfl⟩ | ⟨ho,⟨j,x,hx,rfl,rfl⟩ | ⟨hn,rfl⟩⟩
 ·clear hb1
  go_wp2
  go_ret
  exact HNO.out _ (fun j n x a _ _ _ => by
   obtain ⟨a1,a2⟩:=a
   rcases ho with e | e
   ·rw [a1] at e
    cases e
   ·exact absurd a2 e) rfl
 ·obtain ⟨Z,hT,-⟩:=HS.out.1.tab hx
  have hT1:=hT.later hb1
  have hF:=hT1.fix.now
  have h4 : w1.cell? ⟨x.1.r,4,none⟩ = some (.slice x.1.px x.1.t.ixs.length x.1.cx):=hF.cells 4 _ rfl
  have HX:=Hd (Zai ho hx)
  have HT:=Hd (Zai hT1 (HS.out.2.later hb1 HS.out.2.le))
  have hs1:=hb1.size
  obtain ⟨nx,hnx⟩:=Vx x.1.t.ixs.length
  have hK : x.1.K = nx + 1:=by rw [← hnx]; rfl
  rw [hnx] at h4
  have HJ : Hid (∀ (j' : Nat) (x' : TD × List Row3),L[j']? = some x' → (j : Int) = (j' : Int) → x' = x):=Hd fun j' x' hx' e => by
   obtain rfl : j = j':=by omega
   have:=HX.out.2
   rw [hx'] at this
   cases this
   rfl
  clear hb1 hT hT1 hF hx ho hnx
  unfold ptr9
  by_cases h1 : ix < -1
  ·go_wp2
   go_ret
   refine HNO.out _ (fun j' n x' _ _ _ e => ?_) rfl
   omega
  ·by_cases h2 : (nx : Int) ≤ ix
   ·go_wp2
    go_ret
    refine HNO.out _ (fun j' n x' _ hx' e0 e => ?_) rfl
    rw [HJ.out j' x' hx' e0,hK]
    omega
   ·obtain ⟨n,rfl⟩ : ∃ n : Nat,ix = (n : Int) - 1:=⟨(ix + 1).toNat,by omega⟩
    have hnK : n < x.1.K:=by omega
    have HSC:=Hd (fun V (hV : Below w1.heap.size w1 V) => scan_any V x.1 x.2 n ((n : Int) - 1) rfl lo hi (HT.out.1.later hV) (HT.out.2.later hV HT.out.2.le) hnK)
    go_wp2_with fail
    refine (HSC.out _ Bz).mono ?_
    rintro e w2 ⟨hb2,v,R,rfl,hsc,hro⟩
    have HB2:=Hd (HB.out.trans (hb2.mono Om))
    have HR:=Hd (Zai hsc (hro.mono hs1))
    clear hb2 hsc hro
    go_wp2
    go_ret
    exact ⟨HB2.out,_,R,rfl,HR.out.2,Or.inl ⟨j,n,x,HX.out.1,HX.out.2,rfl,rfl,hnK,HR.out.1⟩⟩
 ·have HN:=Hd hn
  clear hb1 hn
  go_wp2
  go_ret
  refine HNO.out _ (fun j n x _ hx e _ => absurd e (HN.out j (List.getElem?_eq_some_iff.1 hx).1)) rfl
theorem done9_any (w : World) (k s : Nat) (l : Int) (en : Bool) (dv : Value) (hk : WkB w k s l en dv) :
  Calls Tryz.prog 20 #[.pointer (some ⟨k,0,none⟩)] w fun e w' => e = .returned (.tuple #[]) ∧ Only (fun q => q = k) w w' ∧ w'.heap.size = w.heap.size ∧ WkB w' k s l true (.slice none 0 0):=by
 have k2 : w.cell? ⟨k,2,none⟩ = some (.bool en):=cell_blk hk rfl
 have k3 : w.cell? ⟨k,3,none⟩ = some dv:=cell_blk hk rfl
 have f2 : w.frozen? ⟨k,2,none⟩ = false:=froz_blk hk
 have f3 : w.frozen? ⟨k,3,none⟩ = false:=froz_blk hk
 have HK:=Hd hk
 clear hk
 go_enter Tryz.func20,Tryz.ntmps20
 go_wp2
 refine bodyPost_end (v:=.tuple #[]) (by simp [results,Tryz.results20,go_sem]) rfl ?_
 refine ⟨rfl,⟨rfl,rfl,rfl,by simp [World.setCell],fun q _ hn => (Below.heap_setCell _ _ _ _ fun e => hn e).trans (Below.heap_setCell _ _ _ _ fun e => hn e)⟩,by simp [World.setCell],?_⟩
 have h1:=TT.heap_setCell_at (i:=2) HK.out (.bool true)
 have h2:=TT.heap_setCell_at (i:=3) h1 (.slice none 0 0)
 unfold WkB
 simpa using h2
end
section
open Go.RowKit BB
theorem Tryz.infoRowsv : (Tryz.prog.info? 27).map (fun i => (i.zero,i.size,i.bytes)) = some (some (.slice none 0 0),1,24):=by kernel_rfl
theorem RowsO.typed {w w' : World} {B : Nat} {v : Value} {L : List Row3} (h : RowsO w B v L) (hk : ∀ (g : Nat) (cur : Array Value) (t : TypeId),t = 26 ∨ t = 73 → w.heap[g]? = some (.cells cur t (0,0)) → w'.heap[g]? = w.heap[g]?) : RowsO w' B v L:=by
 obtain ⟨us,h1,h2,h3,h4⟩:=h.own
 exact ⟨⟨us,h1,own_kept h2 fun g hg => by
  obtain ⟨cur,hc⟩:=own_block9 h2 hg
  exact hk g cur _ (Or.inl rfl) hc,fun i hi hi' => own_kept (h3 i hi hi') fun g hg => by
  obtain ⟨cur,hc⟩:=own_block9 (h3 i hi hi') hg
  exact hk g cur _ (Or.inr rfl) hc,h4⟩⟩
structure StO (w : World) (B : Nat) (v : Value) (Ls : List (List Row3)) : Prop where
 own : ∃ us : List Value,us.length = Ls.length ∧ w.ownsRow B 27 1 v Ls.length us ∧ ∀ i (h : i < us.length) (h' : i < Ls.length),RowsO w B us[i] Ls[i]
theorem StO.later {w w' : World} {B : Nat} {v : Value} {Ls : List (List Row3)} (h : StO w B v Ls) (hb : Below w.heap.size w w') : StO w' B v Ls:=by
 obtain ⟨us,h1,h2,h3⟩:=h.own
 exact ⟨⟨us,h1,own_later9 h2 hb,fun i hi hi' => (h3 i hi hi').later hb⟩⟩
theorem sto_snoc {w w2 w5 : World} {B N k : Nat} {u : Value} {us : List Value} {Ls : List (List Row3)} {R : List Row3} {v : Value} (hl : Ls.length = k) (h1 : us.length = Ls.length) (h2 : w.ownsRow B 27 1 u k us) (h3 : ∀ i (h : i < us.length) (h' : i < Ls.length),RowsO w B us[i] Ls[i]) (hB : B ≤ w.heap.size) (hb : Below w.heap.size w w2) (hv : RowsO w2 w.heap.size v R) {o : Obj} (hg : (w2.alloc o).grownBy w5 u.ownBlock) {u' : Value} (ho : w5.ownsRow B 27 1 u' (k + 1) (us ++ [v])) {x : Value} (hN : w.heap[N]? = some (.cells #[x] 56 (0,0))) : StO (w5.setCell ⟨N,0,none⟩ u') B u' (Ls ++ [R]) ∧ (w5.setCell ⟨N,0,none⟩ u').heap[N]? = some (.cells #[u'] 56 (0,0)):=by
 subst hl
 have j5 : w5.heap[N]? = some (.cells #[x] 56 (0,0)):=by
  have hl:=(Gx hN)
  have:=hb.size
  refine (hg.block N (by simp; omega) fun e => ?_).trans ((alloc_low9 Om).trans (heap_of hN hb))
  exact own_ne h2 hN (by decide) e.symm
 have hst : ∀ (g : Nat) (cur : Array Value) (t : TypeId),t = 26 ∨ t = 73 → w2.heap[g]? = some (.cells cur t (0,0)) → (w5.setCell ⟨N,0,none⟩ u').heap[g]? = w2.heap[g]?:=fun g cur t ht hc => by
  have hl:=(Gx hc)
  have h5 : w5.heap[g]? = w2.heap[g]?:=by
   refine (hg.block g (by simp; omega) fun e => ?_).trans (alloc_low9 hl)
   obtain ⟨cur2,hc2⟩:=own_block9 h2 e.symm
   rw [heap_of hc2 hb] at hc
   simp only [Option.some.injEq,Obj.cells.injEq] at hc
   rcases ht with rfl | rfl
   ·exact absurd hc.2.1 (by decide)
   ·exact absurd hc.2.1 (by decide)
  refine (Below.heap_setCell _ _ _ _ fun e => ?_).trans h5
  have e : N = g:=e.symm
  subst e
  rw [← h5,j5] at hc
  simp only [Option.some.injEq,Obj.cells.injEq] at hc
  rcases ht with rfl | rfl
  ·exact absurd hc.2.1 (by decide)
  ·exact absurd hc.2.1 (by decide)
 refine ⟨⟨⟨us ++ [v],by simp [h1],?_,fun i hi hi' => ?_⟩⟩,?_⟩
 ·rw [Zla]
  exact own_kept ho fun q hq => Below.heap_setCell _ _ _ _ fun e => own_ne ho j5 (by decide) (by rw [hq]; exact congrArg some e)
 ·by_cases c : i < us.length
  ·rw [List.getElem_append_left c,List.getElem_append_left Om]
   exact ((h3 i c Om).later hb).typed hst
  ·have hi2 : i = us.length:=by simp at hi; omega
   subst hi2
   rw [List.getElem_append_right Zlr,List.getElem_append_right Om]
   simp only [Nat.sub_self,h1,List.getElem_cons_zero]
   exact (hv.typed hst).mono hB
 ·have:=TT.heap_setCell_at (i:=0) j5 u'
  simpa using this
def StateP (L : TabL) (w : World) (e : Ending) (w' : World) : Prop:=Below w.heap.size w w' ∧ ∃ (v : Value) (Ls : List (List Row3)),e = .returned (.agg #[v]) ∧ StO w' w.heap.size v Ls ∧ Ls.length = L.length ∧ ∀ (i : Nat) (x : TD × List Row3) (R : List Row3),L[i]? = some x → Ls[i]? = some R → ScanP x.1 0 x.2 ⟨#[]⟩ ⟨#[]⟩ R
theorem state9_any {B C : Nat} {T U : Nat → Prop} (w : World) (s : Nat) (c : TT.Ct) (P : Nat) (tv : Value) (ld : Int) (L : TabL) (h : StM w B T U s c P tv ld L) (hm : Env w C) :
  Calls Tryz.prog 16 #[.pointer (some ⟨s,0,none⟩)] w (StateP L w):=by
 obtain ⟨i2,hi2,hx0,hx1,hx2⟩:=info_parts Tryz.infoRowsv
 have hn8 : L.length ≤ 8:=by
  have:=right_len h.right
  rw [← h.defs.1] at this
  simpa using this
 have h2 : w.cell? ⟨s,2,none⟩ = some tv:=cell_blk h.blk rfl
 have hrow:=h.row
 obtain ⟨pv,cv,rfl⟩:=ownF hrow
 have HS:=Hd (Zai h hm)
 obtain ⟨n,hn⟩:=Vx L.length
 have HN:=Hd hn
 rw [hn] at h2 hn8
 have HGET : Hid (∀ k,k < n → ∃ (g : Nat) (x : TD × List Row3),pv = some ⟨g,0,none⟩ ∧ L[k]? = some x ∧ w.cell? ⟨g,0 + k,none⟩ = some (.pointer (some ⟨x.1.r,0,none⟩))):=Hd fun k hk => by
  obtain ⟨g,cap,e⟩ : ∃ g cap,Value.slice pv L.length cv = .slice (some ⟨g,0,none⟩) L.length cap:=⟨_,_,(own_some hrow Om).1⟩
  cases e
  obtain ⟨x,hx⟩ : ∃ x,L[k]? = some x:=⟨_,List.getElem?_eq_getElem Om⟩
  refine ⟨g,x,rfl,hx,?_⟩
  rw [Nat.zero_add,hrow.cellAt k Om]
  unfold tabPs
  simp [hx,ptr9]
 have hl2:=cell_lt h2
 obtain ⟨W0,hW0⟩:=Vx ((w.alloc (Obj.cells #[.slice none 0 0] 56)).alloc (Obj.cells #[.slice none 0 0] 56))
 have hb0 : Below w.heap.size w W0:=by rw [← hW0]; exact ((Bxr _ w).alloc Zlr _).alloc Si _
 have k0 : W0.heap[w.heap.size]? = some (.cells #[.slice none 0 0] 56 (0,0)):=by
  rw [← hW0]
  exact (alloc_low9 Si).trans (heap_alloc_new w _)
 have k1 : W0.heap[w.heap.size + 1]? = some (.cells #[.slice none 0 0] 56 (0,0)):=by
  rw [← hW0]
  have:=heap_alloc_new (w.alloc (Obj.cells #[.slice none 0 0] 56)) (Obj.cells #[.slice none 0 0] 56)
  rwa [World.size_alloc] at this
 have g2:=cell_later hb0 h2
 have HK:=Hd (Zai k0 (Zai k1 hb0))
 clear h hm hrow hn h2 k0 k1 hb0
 go_enter Tryz.func16,Tryz.ntmps16
 go_wp2
 try rw [hW0]
 clear hW0
 have hst:=HK.out
 go_loopw [11] (fun q wr => ∃ (k : Nat) (Ls : List (List Row3)) (u : Value),k ≤ n ∧ q = .int .i64 (k : Int) ∧ Ls.length = k ∧ wr.heap[w.heap.size]? = some (.cells #[.slice none 0 0] 56 (0,0)) ∧ wr.heap[w.heap.size + 1]? = some (.cells #[u] 56 (0,0)) ∧ StO wr w.heap.size u Ls ∧ (∀ (i : Nat) (x : TD × List Row3) (R : List Row3),L[i]? = some x → Ls[i]? = some R → ScanP x.1 0 x.2 ⟨#[]⟩ ⟨#[]⟩ R) ∧ Below w.heap.size w wr) (fun q _ => n - (intOf q).toNat)
 case atStart => exact ⟨0,[],.slice none 0 0,Nat.zero_le _,rfl,rfl,hst.1,hst.2.1,⟨⟨[],rfl,World.ownsRow_nil _ _ _ _,fun _ h => absurd h (Nat.not_lt_zero _)⟩⟩,fun _ _ _ _ h => absurd h Si,hst.2.2⟩
 case round =>
  obtain ⟨k,Ls,u,hk,rfl,hl,h0,h1,hsto,hsc,hb⟩:=hrel
  obtain ⟨us,u1,u2,u3⟩:=hsto.own
  obtain ⟨pu,cu,rfl⟩:=ownF u2
  have HL:=Hd hl
  rw [hl] at h1 u2
  have H01:=Hd (Zai h0 h1)
  have HU:=Hd (Zai u1 (Zai u2 (Zai u3 hsc)))
  have HB:=Hd hb
  have hsz:=hb.size
  by_cases hlt : k < n
  ·have hlti : (k : Int) < (n : Int):=by omega
   obtain ⟨g,x,rfl,hx,hcg⟩:=HGET.out k hlt
   have hcg:=cell_later hb hcg
   simp only [Nat.zero_add] at hcg
   have HX:=Hd hx
   obtain ⟨Z,hT,-⟩:=HS.out.1.tab hx
   have HSC:=Hd (fun V (hV : Below wr.heap.size wr V) => scan_any V x.1 x.2 0 (-1) rfl ⟨#[]⟩ ⟨#[]⟩ ((hT.later hb).later hV) ((HS.out.2.later hb HS.out.2.le).later hV (Zlt HS.out.2.le hsz)) (Nat.succ_pos _))
   have e1 : wr.cell? ⟨w.heap.size + 1,0,none⟩ = some (.slice pu k cu):=cell_blk h1 rfl
   have f1 : wr.frozen? ⟨w.heap.size + 1,0,none⟩ = false:=froz_blk h1
   have hne1:=own_ne u2 H01.out.2 (by decide)
   have HNE:=Hd hne1
   have l1:=cell_lt e1
   clear hl h0 h1 hsto hsc hb u1 u2 u3 hT hx hne1
   go_wp2_with fail
   go_region_law (first
    | (go_simp; go_at_call 38; refine (HSC.out _ Bz).mono ?_; rintro e w2 ⟨hb2,v,R,rfl,hsp,hro⟩; (obtain ⟨p2,c2,rfl⟩ : ∃ p2 c2,v = .slice p2 R.length c2:=(by obtain ⟨_,_,o2,_⟩:=hro.own; exact ownF o2)); (have HB2 : Hid (Below wr.heap.size wr w2):=Hd Bz); (have HRO : Hid (RowsO w2 wr.heap.size (.slice p2 R.length c2) R):=Hd hro); (have HSP:=Hd hsp); (have j1:=heap_of H01.out.2 HB2.out); (have g1 : w2.cell? ⟨w.heap.size + 1,0,none⟩ = some (.slice pu k cu):=cell_blk j1 rfl); (have s2:=HB2.out.size); (have n1 : w.heap.size + 1 ≠ w2.heap.size:=by omega); (have n3 : w.heap.size + 1 < w2.heap.size:=by omega); clear hb2 hsp hro j1)
    | (refine step_append_lies _ rfl _ _ 54 rfl w.heap.size 27 i2 _ 1 24 Tryz.underlying54 hi2 hx0 hx1 hx2 rfl (by decide) (.slice pu k cu) k us rfl ((own_later9 HU.out.2.1 HB2.out).alloc _) ⟨w2.heap.size,0,none⟩ 1 1 [.slice p2 R.length c2] rfl rfl (World.news_of_block (heap_alloc_new w2 _)) (by intro x hx; rw [List.mem_singleton.1 hx]; rfl) (by decide) (by unfold maxLen; omega) Om (by have:=HB.out.size; simp; omega) _ rfl ?_; intro g' cap' w5 hown5 hgrow5 hor5 hlt5; (have HX5:=Hd (And.intro hown5 (And.intro hgrow5 hor5))); (have j5 : w5.heap[w.heap.size + 1]? = _:=(hgrow5.block _ (by simp; omega) (fun e => HNE.out e.symm)).trans ((alloc_low9 Om).trans (heap_of H01.out.2 HB2.out))); (have z5 : w5.cell? ⟨w.heap.size + 1,0,none⟩ = some (.slice pu k cu):=cell_blk j5 rfl); (have y5 : w5.frozen? ⟨w.heap.size + 1,0,none⟩ = false:=froz_blk j5); clear hown5 hgrow5 hor5))
   all_goals
    have hstep:=sto_snoc (N:=w.heap.size + 1) HL.out HU.out.1 HU.out.2.1 HU.out.2.2.1 hsz HB2.out HRO.out HX5.out.2.1 HX5.out.1 H01.out.2
    have hbel : Below w.heap.size w (w5.setCell ⟨w.heap.size + 1,0,none⟩ (.slice (some ⟨g',0,none⟩) (k + 1) cap')):=(((HB.out.trans (HB2.out.mono HB.out.size)).alloc Om _).grown HX5.out.2.1 (by simp; omega) fun q hq => (HU.out.2.1.lt q hq).1).grown (setCell_grown9 _ _ 0 _) (by have:=HX5.out.2.1.size; simp at this; omega) fun q hq => by cases hq; exact Nat.le_succ _
    have h05 : (w5.setCell ⟨w.heap.size + 1,0,none⟩ (.slice (some ⟨g',0,none⟩) (k + 1) cap')).heap[w.heap.size]? = some (.cells #[.slice none 0 0] 56 (0,0)):=by
     refine (Below.heap_setCell _ _ _ _ Si).trans ((HX5.out.2.1.block _ (by simp; omega) fun e => ?_).trans ((alloc_low9 Om).trans (heap_of H01.out.1 HB2.out)))
     exact own_ne HU.out.2.1 H01.out.1 (by decide) e.symm
    have hscan : ∀ (i : Nat) (x : TD × List Row3) (Q : List Row3),L[i]? = some x → (Ls ++ [R])[i]? = some Q → ScanP x.1 0 x.2 ⟨#[]⟩ ⟨#[]⟩ Q:=fun i x' Q hx' hQ => by
     by_cases c : i < Ls.length
     ·rw [List.getElem?_append_left c] at hQ
      exact HU.out.2.2.2 i x' Q hx' hQ
     ·have hi:=(List.getElem?_eq_some_iff.1 hQ).1
      have e : i = k:=by have:=HL.out; simp at hi; omega
      subst e
      rw [List.getElem?_append_right Om] at hQ
      rw [HX.out] at hx'
      cases hx'
      simp [HL.out] at hQ
      subst hQ
      exact HSP.out
    have HST:=Hd (Zai hstep (Zai hbel (Zai h05 hscan)))
    clear hstep hbel h05 hscan z5 y5
    go_wp2
    go_roundw
    case rel => exact ⟨k + 1,Ls ++ [R],_,by omega,by go_num,by rw [Zla,HL.out]; rfl,HST.out.2.2.1,HST.out.1.2,HST.out.1.1,HST.out.2.2.2,HST.out.2.1⟩
    case measure => simp [intOf]; omega
  ·have hlti : ¬ (k : Int) < (n : Int):=by omega
   obtain rfl : k = n:=by omega
   have e1 : wr.cell? ⟨w.heap.size + 1,0,none⟩ = some (.slice pu k cu):=cell_blk h1 rfl
   have e0 : wr.cell? ⟨w.heap.size,0,none⟩ = some (.slice none 0 0):=cell_blk h0 rfl
   have f0 : wr.frozen? ⟨w.heap.size,0,none⟩ = false:=froz_blk h0
   clear hl h0 h1 hsto hsc hb u1 u2 u3
   go_wp2
   refine bodyPost_ret (v:=.agg #[.slice pu k cu]) (by simp [results,Tryz.results16,go_sem, *]) rfl ?_
   have h0:=H01.out.1
   have hown9 : wr.ownsRow w.heap.size 27 1 (.slice pu k cu) Ls.length us:=by rw [HL.out]; exact HU.out.2.1
   refine ⟨HB.out.grown (setCell_grown9 _ _ 0 _) HB.out.size fun q hq => by cases hq; exact Nat.le_refl _,_,Ls,rfl,?_,by rw [HL.out,HN.out],HU.out.2.2.2⟩
   have hst : ∀ (g : Nat) (cur : Array Value) (t : TypeId),t ≠ 56 → wr.heap[g]? = some (.cells cur t (0,0)) → (wr.setCell ⟨w.heap.size,0,none⟩ (.slice pu k cu)).heap[g]? = wr.heap[g]?:=fun g cur t ht hc => Below.heap_setCell _ _ _ _ fun e => ht (by
    have e : w.heap.size = g:=e.symm
    subst e
    rw [h0] at hc
    simp only [Option.some.injEq,Obj.cells.injEq] at hc
    exact hc.2.1.symm)
   exact ⟨⟨us,HU.out.1,own_kept hown9 fun g hg => by
    obtain ⟨cur,hc⟩:=own_block9 hown9 hg
    exact hst g cur _ (by decide) hc,fun i hi hi' => (HU.out.2.2.1 i hi hi').typed fun g cur t ht hc => hst g cur t (by rcases ht with rfl | rfl <;> decide) hc⟩⟩
end
end Go.Proofs.YtmmmkjhpmlfopaaGreatDoor
