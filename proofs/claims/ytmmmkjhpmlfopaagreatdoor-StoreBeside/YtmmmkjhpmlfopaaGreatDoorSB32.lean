/- ZT34 ZT35 ZT36 -/
import Derived.Test.YtmmmkjhpmlfopaaGreatDoorSB31
set_option maxHeartbeats 16000000
set_option maxRecDepth 100000
namespace Go.Proofs.YtmmmkjhpmlfopaaGreatDoor
open Go.RowKit
namespace TT
theorem two_cells8 {w : World} {x : Nat} {a b : Value} {t : TypeId} (h : w.heap[x]? = some (.cells #[a,b] t (0,0))) : w.cell? ⟨x,0,none⟩ = some a ∧ w.cell? ⟨x,1,none⟩ = some b:=two_cells h
theorem three_cells8 {w : World} {x : Nat} {a b c : Value} {t : TypeId} (h : w.heap[x]? = some (.cells #[a,b,c] t (0,0))) : w.cell? ⟨x,0,none⟩ = some a ∧ w.cell? ⟨x,1,none⟩ = some b ∧ w.cell? ⟨x,2,none⟩ = some c:=three_of h
theorem five_cells8 {w : World} {x : Nat} {a b c d e : Value} {t : TypeId} (h : w.heap[x]? = some (.cells #[a,b,c,d,e] t (0,0))) : w.cell? ⟨x,0,none⟩ = some a ∧ w.cell? ⟨x,1,none⟩ = some b ∧ w.cell? ⟨x,2,none⟩ = some c ∧ w.cell? ⟨x,3,none⟩ = some d ∧ w.cell? ⟨x,4,none⟩ = some e:=five_cells h
theorem frz_of {w : World} {x : Nat} {cs : Array Value} {t : TypeId} (h : w.heap[x]? = some (.cells cs t (0,0))) : ∀ o,w.frozen? ⟨x,o,none⟩ = false:=fun o => by simp [World.frozen?,h]
theorem Rdr.keep {w : World} {r g o : Nat} {s : ByteArray} {v : Value} (h : Rdr w r s) (hne : r ≠ g) : Rdr (w.setCell ⟨g,o,none⟩ v) r s:=(Below.heap_setCell _ _ _ _ hne).trans h
theorem rdPm_any (hT : TextSpec) (r : Nat) (s : ByteArray) (w : World) (h : Rdr w r s) (hs : s.size ≤ 2147483648) :
  Calls Tryz.prog 211 #[.pointer (some ⟨r,0,none⟩)] w fun e w2 => ∃ (x : Pm) (us : List Value) (s2 : ByteArray),e = .returned (.agg us.toArray) ∧ PmR x us ∧ True ∧ Rdr w2 r s2 ∧ s2.size ≤ s.size ∧ Rd encPm (fun c => c.nm.size ≤ 1000 ∧ 0 ≤ c.ty ∧ c.ty ≤ 3) (bs s) x (bs s2) ∧ Only (fun k => k = r) w w2:=by
 have hrl:=h.lt
 have HH:=Hd h
 clear h
 go_enter Tryz.func211,Tryz.ntmps211
 go_wp2_with fail
 refine (hT r s _ (HH.out.later Bz) hs).mono ?_
 rintro e w1 ⟨nm,s1,rfl,hnm,hr1,hs1,hd1,ho1⟩
 have hz1:=ho1.size
 simp at hz1
 have HR1:=Hd hr1
 have HD1:=Hd hd1
 have HZ1 : Hid (w1.heap[w.heap.size]? = some (.cells #[.string ⟨#[]⟩,.int .i64 0] 171 (0,0))):=heap_only (heap_alloc_new w _) ho1 Om
 have HO1 : Hid (Only (fun k => k = r) w w1):=((Only.refl _ _).alloc _).trans ho1
 clear hr1 hd1 ho1
 go_wp2_with fail
 refine (kind_any r s1 _ (HR1.out.later Bz) Om).mono ?_
 rintro e w2 ⟨ty,s2,rfl,hty,hr2,hs2,hd2,ho2⟩
 have hz2:=ho2.size
 simp at hz2
 have HR2:=Hd hr2
 have HD2:=Hd hd2
 have HT2 : Hid (w2.heap[w1.heap.size]? = some (.cells #[.string nm,.int .i64 0] 171 (0,0))):=heap_only (heap_alloc_new w1 (.cells #[.string nm,.int .i64 0] 171 (0,0))) ho2 Om
 have HZ2 : Hid (w2.heap[w.heap.size]? = some (.cells #[.string ⟨#[]⟩,.int .i64 0] 171 (0,0))):=heap_only (heap_of HZ1.out ((Bxr _ _).alloc Zlr _)) ho2 Om
 have HO2 : Hid (Only (fun k => k = r ∨ w.heap.size ≤ k) w w2):=(HO1.out.mono (fun k h => Or.inl h)).alloc _ |>.trans (ho2.mono (fun k h => Or.inl h))
 have HK2 : Hid (∀ (S : List TypeId) (B : Nat),220 ∉ S → Keeps S B (w1.alloc (.cells #[.string nm,.int .i64 0] 171)) w2):=fun S _ hS => Keeps.only (HR1.out.later Bz) ho2 hS
 obtain ⟨x0,x1⟩:=two_cells8 HT2.out
 have fT2:=frz_of HT2.out
 have fZ2:=frz_of HZ2.out
 obtain ⟨z0,z1⟩:=two_cells8 HZ2.out
 clear hr2 hd2 ho2
 have hne1 : ¬ w.heap.size = w1.heap.size:=by omega
 have hne2 : ¬ w1.heap.size = w.heap.size:=by omega
 go_wp2
 refine bodyPost_ret (v:=.agg #[.string nm,.int .i64 ty]) (by simp [results,Tryz.results211,go_sem, *]) rfl ?_
 have hown : PmR ⟨nm,ty⟩ [.string nm,.int .i64 ty]:=rfl
 exact ⟨⟨nm,ty⟩,[.string nm,.int .i64 ty],s2,rfl,hown,trivial,(Rdr.keep (Rdr.keep (Rdr.keep HR2.out (g:=w1.heap.size) (o:=1) (v:=_) Om) (g:=w.heap.size) (o:=0) (v:=_) Om) (g:=w.heap.size) (o:=1) (v:=_) Om),by omega,(fun c y hc e => by rw [encPm,Zas] at e; obtain ⟨e1,e2⟩:=HD1.out _ _ hc.1 e; obtain ⟨e3,e4⟩:=HD2.out _ _ hc.2 e2; exact ⟨by rw [e1,e3],e4⟩),only_base (Only.setCell (Only.setCell (Only.setCell HO2.out (p:=⟨w1.heap.size,1,none⟩) (Or.inr (by show w.heap.size ≤ w1.heap.size; omega)) _) (p:=⟨w.heap.size,0,none⟩) (Or.inr Zlr) _) (p:=⟨w.heap.size,1,none⟩) (Or.inr Zlr) _)⟩
theorem rdCol_any (hT : TextSpec) (r : Nat) (s : ByteArray) (w : World) (h : Rdr w r s) (hs : s.size ≤ 2147483648) :
  Calls Tryz.prog 205 #[.pointer (some ⟨r,0,none⟩)] w fun e w2 => ∃ (x : Col) (us : List Value) (s2 : ByteArray),e = .returned (.agg us.toArray) ∧ ColR x us ∧ True ∧ Rdr w2 r s2 ∧ s2.size ≤ s.size ∧ Rd encCol (fun c => c.nm.size ≤ 1000 ∧ 0 ≤ c.ty ∧ c.ty ≤ 3) (bs s) x (bs s2) ∧ Only (fun k => k = r) w w2:=by
 have hrl:=h.lt
 have HH:=Hd h
 clear h
 go_enter Tryz.func205,Tryz.ntmps205
 go_wp2_with fail
 refine (hT r s _ (HH.out.later Bz) hs).mono ?_
 rintro e w1 ⟨nm,s1,rfl,hnm,hr1,hs1,hd1,ho1⟩
 have hz1:=ho1.size
 simp at hz1
 have HR1:=Hd hr1
 have HD1:=Hd hd1
 have HZ1 : Hid (w1.heap[w.heap.size]? = some (.cells #[.string ⟨#[]⟩,.int .i64 0,.bool false] 62 (0,0))):=heap_only (heap_alloc_new w _) ho1 Om
 have HO1 : Hid (Only (fun k => k = r) w w1):=((Only.refl _ _).alloc _).trans ho1
 clear hr1 hd1 ho1
 go_wp2_with fail
 refine (kind_any r s1 _ (HR1.out.later Bz) Om).mono ?_
 rintro e w2 ⟨ty,s2,rfl,hty,hr2,hs2,hd2,ho2⟩
 have hz2:=ho2.size
 simp at hz2
 have HR2:=Hd hr2
 have HD2:=Hd hd2
 have HT2 : Hid (w2.heap[w1.heap.size]? = some (.cells #[.string nm,.int .i64 0,.bool false] 62 (0,0))):=heap_only (heap_alloc_new w1 (.cells #[.string nm,.int .i64 0,.bool false] 62 (0,0))) ho2 Om
 have HZ2 : Hid (w2.heap[w.heap.size]? = some (.cells #[.string ⟨#[]⟩,.int .i64 0,.bool false] 62 (0,0))):=heap_only (heap_of HZ1.out ((Bxr _ _).alloc Zlr _)) ho2 Om
 have HO2 : Hid (Only (fun k => k = r ∨ w.heap.size ≤ k) w w2):=(HO1.out.mono (fun k h => Or.inl h)).alloc _ |>.trans (ho2.mono (fun k h => Or.inl h))
 have HK2 : Hid (∀ (S : List TypeId) (B : Nat),220 ∉ S → Keeps S B (w1.alloc (.cells #[.string nm,.int .i64 0,.bool false] 62)) w2):=fun S _ hS => Keeps.only (HR1.out.later Bz) ho2 hS
 obtain ⟨x0,x1,x2⟩:=three_cells8 HT2.out
 have fT2:=frz_of HT2.out
 have fZ2:=frz_of HZ2.out
 obtain ⟨z0,z1,z2⟩:=three_cells8 HZ2.out
 clear hr2 hd2 ho2
 go_wp2_with fail
 refine (truth_any r s2 _ (Rdr.keep HR2.out Om) Om).mono ?_
 rintro e w3 ⟨nn,s3,rfl,hr3,hs3,hd3,ho3⟩
 have hz3:=ho3.size
 simp at hz3
 have HR3:=Hd hr3
 have HD3:=Hd hd3
 have HT3 : Hid (w3.heap[w1.heap.size]? = some (.cells #[.string nm,.int .i64 ty,.bool false] 62 (0,0))):=heap_only (heap_setCell_at (i:=1) HT2.out (.int .i64 ty)) ho3 Om
 have HZ3 : Hid (w3.heap[w.heap.size]? = some (.cells #[.string ⟨#[]⟩,.int .i64 0,.bool false] 62 (0,0))):=heap_only ((Below.heap_setCell _ _ _ _ (by show ¬ w.heap.size = w1.heap.size; omega)).trans HZ2.out) ho3 Om
 have HO3 : Hid (Only (fun k => k = r ∨ w.heap.size ≤ k) w w3):=Only.setCell HO2.out (p:=⟨w1.heap.size,1,none⟩) (Or.inr (by show w.heap.size ≤ w1.heap.size; omega)) _ |>.trans (ho3.mono (fun k h => Or.inl h))
 have HK3 : Hid (∀ (S : List TypeId) (B : Nat),220 ∉ S → Keeps S B (w2.setCell ⟨w1.heap.size,1,none⟩ (.int .i64 ty)) w3):=fun S _ hS => Keeps.only (Rdr.keep HR2.out Om) ho3 hS
 obtain ⟨x0,x1,x2⟩:=three_cells8 HT3.out
 have fT3:=frz_of HT3.out
 have fZ3:=frz_of HZ3.out
 obtain ⟨z0,z1,z2⟩:=three_cells8 HZ3.out
 clear hr3 hd3 ho3
 have hne1 : ¬ w.heap.size = w1.heap.size:=by omega
 have hne2 : ¬ w1.heap.size = w.heap.size:=by omega
 go_wp2
 refine bodyPost_ret (v:=.agg #[.string nm,.int .i64 ty,.bool nn]) (by simp [results,Tryz.results205,go_sem, *]) rfl ?_
 have hown : ColR ⟨nm,ty,nn⟩ [.string nm,.int .i64 ty,.bool nn]:=rfl
 exact ⟨⟨nm,ty,nn⟩,[.string nm,.int .i64 ty,.bool nn],s3,rfl,hown,trivial,(Rdr.keep (Rdr.keep (Rdr.keep (Rdr.keep HR3.out (g:=w1.heap.size) (o:=2) (v:=_) Om) (g:=w.heap.size) (o:=0) (v:=_) Om) (g:=w.heap.size) (o:=1) (v:=_) Om) (g:=w.heap.size) (o:=2) (v:=_) Om),by omega,(fun c y hc e => by rw [encCol,Zas,Zas] at e; obtain ⟨e1,e2⟩:=HD1.out _ _ hc.1 e; obtain ⟨e3,e4⟩:=HD2.out _ _ hc.2 e2; obtain ⟨e5,e6⟩:=HD3.out _ _ trivial e4; exact ⟨by rw [e1,e3,e5],e6⟩),only_base (Only.setCell (Only.setCell (Only.setCell (Only.setCell HO3.out (p:=⟨w1.heap.size,2,none⟩) (Or.inr (by show w.heap.size ≤ w1.heap.size; omega)) _) (p:=⟨w.heap.size,0,none⟩) (Or.inr Zlr) _) (p:=⟨w.heap.size,1,none⟩) (Or.inr Zlr) _) (p:=⟨w.heap.size,2,none⟩) (Or.inr Zlr) _)⟩
def okCol (c : Col) : Prop:=c.nm.size ≤ 1000 ∧ 0 ≤ c.ty ∧ c.ty ≤ 3
def okPl (p : Int) : Prop:=0 ≤ p ∧ p ≤ ((16 : Nat) : Int)
def okIx (x : Ix) : Prop:=x.nm.size ≤ 1000 ∧ x.cols.length ≤ 8 ∧ ∀ p ∈ x.cols,okPl p
def okTb (t : Tb) : Prop:=t.nm.size ≤ 1000 ∧ (t.cols.length ≤ 16 ∧ ∀ c ∈ t.cols,okCol c) ∧ (t.key.length ≤ 8 ∧ ∀ p ∈ t.key,okPl p) ∧ okPl t.part ∧ (t.ixs.length ≤ 4 ∧ ∀ x ∈ t.ixs,okIx x)
theorem rdIx_any (hT : TextSpec) (r : Nat) (s : ByteArray) (w : World) (h : Rdr w r s) (hs : s.size ≤ 2147483648) :
  Calls Tryz.prog 209 #[.pointer (some ⟨r,0,none⟩)] w fun e w2 => ∃ (x : Ix) (us : List Value) (s2 : ByteArray),e = .returned (.agg us.toArray) ∧ IxO w2 w.heap.size x us ∧ True ∧ Rdr w2 r s2 ∧ s2.size ≤ s.size ∧ Rd encIx okIx (bs s) x (bs s2) ∧ Only (fun k => k = r) w w2:=by
 have hrl:=h.lt
 have HH:=Hd h
 clear h
 go_enter Tryz.func209,Tryz.ntmps209
 go_wp2_with fail
 refine (hT r s _ (HH.out.later Bz) hs).mono ?_
 rintro e w1 ⟨nm,s1,rfl,hnm,hr1,hs1,hd1,ho1⟩
 have hz1:=ho1.size
 simp at hz1
 have HR1:=Hd hr1
 have HD1:=Hd hd1
 have HZ1 : Hid (w1.heap[w.heap.size]? = some (.cells #[.string ⟨#[]⟩,.slice none 0 0,.bool false] 64 (0,0))):=heap_only (heap_alloc_new w _) ho1 Om
 have HO1 : Hid (Only (fun k => k = r) w w1):=((Only.refl _ _).alloc _).trans ho1
 clear hr1 hd1 ho1
 go_wp2_with fail
 refine (truth_any r s1 _ (HR1.out.later Bz) Om).mono ?_
 rintro e w2 ⟨un,s2,rfl,hr2,hs2,hd2,ho2⟩
 have hz2:=ho2.size
 simp at hz2
 have HR2:=Hd hr2
 have HD2:=Hd hd2
 have HT2 : Hid (w2.heap[w1.heap.size]? = some (.cells #[.string nm,.slice none 0 0,.bool false] 64 (0,0))):=heap_only (heap_alloc_new w1 (.cells #[.string nm,.slice none 0 0,.bool false] 64 (0,0))) ho2 Om
 have HZ2 : Hid (w2.heap[w.heap.size]? = some (.cells #[.string ⟨#[]⟩,.slice none 0 0,.bool false] 64 (0,0))):=heap_only (heap_of HZ1.out ((Bxr _ _).alloc Zlr _)) ho2 Om
 have HO2 : Hid (Only (fun k => k = r ∨ w.heap.size ≤ k) w w2):=(HO1.out.mono (fun k h => Or.inl h)).alloc _ |>.trans (ho2.mono (fun k h => Or.inl h))
 have HK2 : Hid (∀ (S : List TypeId) (B : Nat),220 ∉ S → Keeps S B (w1.alloc (.cells #[.string nm,.slice none 0 0,.bool false] 64)) w2):=fun S _ hS => Keeps.only (HR1.out.later Bz) ho2 hS
 obtain ⟨x0,x1,x2⟩:=three_cells8 HT2.out
 have fT2:=frz_of HT2.out
 have fZ2:=frz_of HZ2.out
 obtain ⟨z0,z1,z2⟩:=three_cells8 HZ2.out
 clear hr2 hd2 ho2
 go_wp2_with fail
 refine (reInt_any r s2 8 _ numI okPl (fun _ => True) (Rdr.keep HR2.out Om) Om Om (fun s1 w1 h1 h2 => (place_any r s1 w1 h1 h2).mono fun e w2 ⟨x,s2,g1,g2,g3⟩ => ⟨x,s2,g1,trivial,g3⟩)).mono ?_
 rintro e w3 ⟨v,cols,s3,rfl,hO,hln,-,hr3,hs3,hd3,ho3⟩
 have hz3:=ho3.size
 simp at hz3
 have HR3:=Hd hr3
 have HD3:=Hd hd3
 have HOw3:=Hd hO
 obtain ⟨q3,c3,rfl,-⟩:=hO.form
 clear hO
 have HT3 : Hid (w3.heap[w1.heap.size]? = some (.cells #[.string nm,.slice none 0 0,.bool un] 64 (0,0))):=heap_only (heap_setCell_at (i:=2) HT2.out (.bool un)) ho3 Om
 have HZ3 : Hid (w3.heap[w.heap.size]? = some (.cells #[.string ⟨#[]⟩,.slice none 0 0,.bool false] 64 (0,0))):=heap_only ((Below.heap_setCell _ _ _ _ (by show ¬ w.heap.size = w1.heap.size; omega)).trans HZ2.out) ho3 Om
 have HO3 : Hid (Only (fun k => k = r ∨ w.heap.size ≤ k) w w3):=Only.setCell HO2.out (p:=⟨w1.heap.size,2,none⟩) (Or.inr (by show w.heap.size ≤ w1.heap.size; omega)) _ |>.trans (ho3.mono (fun k h => Or.inl h))
 have HK3 : Hid (∀ (S : List TypeId) (B : Nat),220 ∉ S → Keeps S B (w2.setCell ⟨w1.heap.size,2,none⟩ (.bool un)) w3):=fun S _ hS => Keeps.only (Rdr.keep HR2.out Om) ho3 hS
 obtain ⟨x0,x1,x2⟩:=three_cells8 HT3.out
 have fT3:=frz_of HT3.out
 have fZ3:=frz_of HZ3.out
 obtain ⟨z0,z1,z2⟩:=three_cells8 HZ3.out
 clear hr3 hd3 ho3
 have hne1 : ¬ w.heap.size = w1.heap.size:=by omega
 have hne2 : ¬ w1.heap.size = w.heap.size:=by omega
 go_wp2
 refine bodyPost_ret (v:=.agg #[.string nm,.slice q3 cols.length c3,.bool un]) (by simp [results,Tryz.results209,go_sem, *]) rfl ?_
 exact ⟨⟨nm,cols,un⟩,[.string nm,.slice q3 cols.length c3,.bool un],s3,rfl,⟨_,rfl,(HOw3.out.keeps (S:=inIx) (Keeps.low (Keeps.low (Keeps.low (Keeps.low (Keeps.of (Bxr _ _)) (by first | (simp; done) | (simp; omega)) _ _) (by first | (simp; done) | (simp; omega)) _ _) (by first | (simp; done) | (simp; omega)) _ _) (by first | (simp; done) | (simp; omega)) _ _) Si fun _ _ h => h).mono (by first | (simp; done) | (simp; omega)) fun _ _ h => h⟩,trivial,(Rdr.keep (Rdr.keep (Rdr.keep (Rdr.keep HR3.out (g:=w1.heap.size) (o:=1) (v:=_) Om) (g:=w.heap.size) (o:=0) (v:=_) Om) (g:=w.heap.size) (o:=1) (v:=_) Om) (g:=w.heap.size) (o:=2) (v:=_) Om),by omega,(fun c y hc e => by rw [encIx,List.append_assoc,List.append_assoc] at e; obtain ⟨e1,e2⟩:=HD1.out _ _ hc.1 e; obtain ⟨e3,e4⟩:=HD2.out _ _ trivial e2; obtain ⟨e5,e6⟩:=HD3.out _ _ hc.2 e4; exact ⟨by rw [e1,e3,e5],e6⟩),only_base (Only.setCell (Only.setCell (Only.setCell (Only.setCell HO3.out (p:=⟨w1.heap.size,1,none⟩) (Or.inr (by show w.heap.size ≤ w1.heap.size; omega)) _) (p:=⟨w.heap.size,0,none⟩) (Or.inr Zlr) _) (p:=⟨w.heap.size,1,none⟩) (Or.inr Zlr) _) (p:=⟨w.heap.size,2,none⟩) (Or.inr Zlr) _)⟩
theorem rdTb_any (hT : TextSpec) (r : Nat) (s : ByteArray) (w : World) (h : Rdr w r s) (hs : s.size ≤ 2147483648) :
  Calls Tryz.prog 144 #[.pointer (some ⟨r,0,none⟩)] w fun e w2 => ∃ (x : Tb) (us : List Value) (s2 : ByteArray),e = .returned (.agg us.toArray) ∧ TbO w2 w.heap.size x us ∧ x.cols.length ≤ 1000 ∧ Rdr w2 r s2 ∧ s2.size ≤ s.size ∧ Rd encTb okTb (bs s) x (bs s2) ∧ Only (fun k => k = r) w w2:=by
 have hrl:=h.lt
 have HH:=Hd h
 clear h
 go_enter Tryz.func144,Tryz.ntmps144
 go_wp2_with fail
 refine (hT r s _ (HH.out.later Bz) hs).mono ?_
 rintro e w1 ⟨nm,s1,rfl,hnm,hr1,hs1,hd1,ho1⟩
 have hz1:=ho1.size
 simp at hz1
 have HR1:=Hd hr1
 have HD1:=Hd hd1
 have HZ1 : Hid (w1.heap[w.heap.size]? = some (.cells #[.string ⟨#[]⟩,.slice none 0 0,.slice none 0 0,.int .i64 0,.slice none 0 0] 47 (0,0))):=heap_only (heap_alloc_new w _) ho1 Om
 have HO1 : Hid (Only (fun k => k = r) w w1):=((Only.refl _ _).alloc _).trans ho1
 clear hr1 hd1 ho1
 go_wp2_with fail
 refine (reCol_any r s1 16 _ encCol okCol (fun _ => True) (HR1.out.later Bz) Om Om (fun s1 w1 h1 h2 => rdCol_any hT r s1 w1 h1 h2)).mono ?_
 rintro e w2 ⟨v,cols,s2,rfl,hO,hln,-,hr2,hs2,hd2,ho2⟩
 have hz2:=ho2.size
 simp at hz2
 have HR2:=Hd hr2
 have HD2:=Hd hd2
 have HOw2:=Hd hO
 obtain ⟨q2,c2,rfl,-⟩:=hO.form
 clear hO
 have HT2 : Hid (w2.heap[w1.heap.size]? = some (.cells #[.string nm,.slice none 0 0,.slice none 0 0,.int .i64 0,.slice none 0 0] 47 (0,0))):=heap_only (heap_alloc_new w1 (.cells #[.string nm,.slice none 0 0,.slice none 0 0,.int .i64 0,.slice none 0 0] 47 (0,0))) ho2 Om
 have HZ2 : Hid (w2.heap[w.heap.size]? = some (.cells #[.string ⟨#[]⟩,.slice none 0 0,.slice none 0 0,.int .i64 0,.slice none 0 0] 47 (0,0))):=heap_only (heap_of HZ1.out ((Bxr _ _).alloc Zlr _)) ho2 Om
 have HO2 : Hid (Only (fun k => k = r ∨ w.heap.size ≤ k) w w2):=(HO1.out.mono (fun k h => Or.inl h)).alloc _ |>.trans (ho2.mono (fun k h => Or.inl h))
 have HK2 : Hid (∀ (S : List TypeId) (B : Nat),220 ∉ S → Keeps S B (w1.alloc (.cells #[.string nm,.slice none 0 0,.slice none 0 0,.int .i64 0,.slice none 0 0] 47)) w2):=fun S _ hS => Keeps.only (HR1.out.later Bz) ho2 hS
 obtain ⟨x0,x1,x2,x3,x4⟩:=five_cells8 HT2.out
 have fT2:=frz_of HT2.out
 have fZ2:=frz_of HZ2.out
 obtain ⟨z0,z1,z2,z3,z4⟩:=five_cells8 HZ2.out
 clear hr2 hd2 ho2
 go_wp2_with fail
 refine (reInt_any r s2 8 _ numI okPl (fun _ => True) (Rdr.keep HR2.out Om) Om Om (fun s1 w1 h1 h2 => (place_any r s1 w1 h1 h2).mono fun e w2 ⟨x,s2,g1,g2,g3⟩ => ⟨x,s2,g1,trivial,g3⟩)).mono ?_
 rintro e w3 ⟨v,key,s3,rfl,hO,hln3,-,hr3,hs3,hd3,ho3⟩
 have hz3:=ho3.size
 simp at hz3
 have HR3:=Hd hr3
 have HD3:=Hd hd3
 have HOw3:=Hd hO
 obtain ⟨q3,c3,rfl,-⟩:=hO.form
 clear hO
 have HT3 : Hid (w3.heap[w1.heap.size]? = some (.cells #[.string nm,.slice q2 cols.length c2,.slice none 0 0,.int .i64 0,.slice none 0 0] 47 (0,0))):=heap_only (heap_setCell_at (i:=1) HT2.out (.slice q2 cols.length c2)) ho3 Om
 have HZ3 : Hid (w3.heap[w.heap.size]? = some (.cells #[.string ⟨#[]⟩,.slice none 0 0,.slice none 0 0,.int .i64 0,.slice none 0 0] 47 (0,0))):=heap_only ((Below.heap_setCell _ _ _ _ (by show ¬ w.heap.size = w1.heap.size; omega)).trans HZ2.out) ho3 Om
 have HO3 : Hid (Only (fun k => k = r ∨ w.heap.size ≤ k) w w3):=Only.setCell HO2.out (p:=⟨w1.heap.size,1,none⟩) (Or.inr (by show w.heap.size ≤ w1.heap.size; omega)) _ |>.trans (ho3.mono (fun k h => Or.inl h))
 have HK3 : Hid (∀ (S : List TypeId) (B : Nat),220 ∉ S → Keeps S B (w2.setCell ⟨w1.heap.size,1,none⟩ (.slice q2 cols.length c2)) w3):=fun S _ hS => Keeps.only (Rdr.keep HR2.out Om) ho3 hS
 obtain ⟨x0,x1,x2,x3,x4⟩:=five_cells8 HT3.out
 have fT3:=frz_of HT3.out
 have fZ3:=frz_of HZ3.out
 obtain ⟨z0,z1,z2,z3,z4⟩:=five_cells8 HZ3.out
 clear hr3 hd3 ho3
 go_wp2_with fail
 refine (place_any r s3 _ (Rdr.keep HR3.out Om) Om).mono ?_
 rintro e w4 ⟨part,s4,rfl,hpt,hr4,hs4,hd4,ho4⟩
 have hz4:=ho4.size
 simp at hz4
 have HR4:=Hd hr4
 have HD4:=Hd hd4
 have HT4 : Hid (w4.heap[w1.heap.size]? = some (.cells #[.string nm,.slice q2 cols.length c2,.slice q3 key.length c3,.int .i64 0,.slice none 0 0] 47 (0,0))):=heap_only (heap_setCell_at (i:=2) HT3.out (.slice q3 key.length c3)) ho4 Om
 have HZ4 : Hid (w4.heap[w.heap.size]? = some (.cells #[.string ⟨#[]⟩,.slice none 0 0,.slice none 0 0,.int .i64 0,.slice none 0 0] 47 (0,0))):=heap_only ((Below.heap_setCell _ _ _ _ (by show ¬ w.heap.size = w1.heap.size; omega)).trans HZ3.out) ho4 Om
 have HO4 : Hid (Only (fun k => k = r ∨ w.heap.size ≤ k) w w4):=Only.setCell HO3.out (p:=⟨w1.heap.size,2,none⟩) (Or.inr (by show w.heap.size ≤ w1.heap.size; omega)) _ |>.trans (ho4.mono (fun k h => Or.inl h))
 have HK4 : Hid (∀ (S : List TypeId) (B : Nat),220 ∉ S → Keeps S B (w3.setCell ⟨w1.heap.size,2,none⟩ (.slice q3 key.length c3)) w4):=fun S _ hS => Keeps.only (Rdr.keep HR3.out Om) ho4 hS
 obtain ⟨x0,x1,x2,x3,x4⟩:=five_cells8 HT4.out
 have fT4:=frz_of HT4.out
 have fZ4:=frz_of HZ4.out
 obtain ⟨z0,z1,z2,z3,z4⟩:=five_cells8 HZ4.out
 clear hr4 hd4 ho4
 go_wp2_with fail
 refine (reIx_any r s4 4 _ encIx okIx (fun _ => True) (Rdr.keep HR4.out Om) Om Om (fun s1 w1 h1 h2 => rdIx_any hT r s1 w1 h1 h2)).mono ?_
 rintro e w5 ⟨v,ixs,s5,rfl,hO,hln5,-,hr5,hs5,hd5,ho5⟩
 have hz5:=ho5.size
 simp at hz5
 have HR5:=Hd hr5
 have HD5:=Hd hd5
 have HOw5:=Hd hO
 obtain ⟨q5,c5,rfl,-⟩:=hO.form
 clear hO
 have HT5 : Hid (w5.heap[w1.heap.size]? = some (.cells #[.string nm,.slice q2 cols.length c2,.slice q3 key.length c3,.int .i64 part,.slice none 0 0] 47 (0,0))):=heap_only (heap_setCell_at (i:=3) HT4.out (.int .i64 part)) ho5 Om
 have HZ5 : Hid (w5.heap[w.heap.size]? = some (.cells #[.string ⟨#[]⟩,.slice none 0 0,.slice none 0 0,.int .i64 0,.slice none 0 0] 47 (0,0))):=heap_only ((Below.heap_setCell _ _ _ _ (by show ¬ w.heap.size = w1.heap.size; omega)).trans HZ4.out) ho5 Om
 have HO5 : Hid (Only (fun k => k = r ∨ w.heap.size ≤ k) w w5):=Only.setCell HO4.out (p:=⟨w1.heap.size,3,none⟩) (Or.inr (by show w.heap.size ≤ w1.heap.size; omega)) _ |>.trans (ho5.mono (fun k h => Or.inl h))
 have HK5 : Hid (∀ (S : List TypeId) (B : Nat),220 ∉ S → Keeps S B (w4.setCell ⟨w1.heap.size,3,none⟩ (.int .i64 part)) w5):=fun S _ hS => Keeps.only (Rdr.keep HR4.out Om) ho5 hS
 obtain ⟨x0,x1,x2,x3,x4⟩:=five_cells8 HT5.out
 have fT5:=frz_of HT5.out
 have fZ5:=frz_of HZ5.out
 obtain ⟨z0,z1,z2,z3,z4⟩:=five_cells8 HZ5.out
 clear hr5 hd5 ho5
 have hne1 : ¬ w.heap.size = w1.heap.size:=by omega
 have hne2 : ¬ w1.heap.size = w.heap.size:=by omega
 go_wp2
 refine bodyPost_ret (v:=.agg #[.string nm,.slice q2 cols.length c2,.slice q3 key.length c3,.int .i64 part,.slice q5 ixs.length c5]) (by simp [results,Tryz.results144,go_sem, *]) rfl ?_
 exact ⟨⟨nm,cols,key,part,ixs⟩,[.string nm,.slice q2 cols.length c2,.slice q3 key.length c3,.int .i64 part,.slice q5 ixs.length c5],s5,rfl,⟨_,_,_,rfl,(HOw2.out.keeps (S:=inTb) (Keeps.low (Keeps.low (Keeps.low (Keeps.low (Keeps.low (Keeps.low (Keeps.trans (Keeps.low (Keeps.trans (Keeps.low (Keeps.trans (Keeps.low (Keeps.of (Bxr _ _)) (by first | (simp; done) | (simp; omega)) _ _) (HK3.out _ _ (by decide))) (by first | (simp; done) | (simp; omega)) _ _) (HK4.out _ _ (by decide))) (by first | (simp; done) | (simp; omega)) _ _) (HK5.out _ _ (by decide))) (by first | (simp; done) | (simp; omega)) _ _) (by first | (simp; done) | (simp; omega)) _ _) (by first | (simp; done) | (simp; omega)) _ _) (by first | (simp; done) | (simp; omega)) _ _) (by first | (simp; done) | (simp; omega)) _ _) (by first | (simp; done) | (simp; omega)) _ _) Si fun _ _ h => h).mono (by first | (simp; done) | (simp; omega)) fun _ _ h => h,(HOw3.out.keeps (S:=inTb) (Keeps.low (Keeps.low (Keeps.low (Keeps.low (Keeps.low (Keeps.low (Keeps.trans (Keeps.low (Keeps.trans (Keeps.low (Keeps.of (Bxr _ _)) (by first | (simp; done) | (simp; omega)) _ _) (HK4.out _ _ (by decide))) (by first | (simp; done) | (simp; omega)) _ _) (HK5.out _ _ (by decide))) (by first | (simp; done) | (simp; omega)) _ _) (by first | (simp; done) | (simp; omega)) _ _) (by first | (simp; done) | (simp; omega)) _ _) (by first | (simp; done) | (simp; omega)) _ _) (by first | (simp; done) | (simp; omega)) _ _) (by first | (simp; done) | (simp; omega)) _ _) Si fun _ _ h => h).mono (by first | (simp; done) | (simp; omega)) fun _ _ h => h,(HOw5.out.keeps (S:=inTb) (Keeps.low (Keeps.low (Keeps.low (Keeps.low (Keeps.low (Keeps.low (Keeps.of (Bxr _ _)) (by first | (simp; done) | (simp; omega)) _ _) (by first | (simp; done) | (simp; omega)) _ _) (by first | (simp; done) | (simp; omega)) _ _) (by first | (simp; done) | (simp; omega)) _ _) (by first | (simp; done) | (simp; omega)) _ _) (by first | (simp; done) | (simp; omega)) _ _) Si (IxO.keeps (Keeps.low (Keeps.low (Keeps.low (Keeps.low (Keeps.low (Keeps.low (Keeps.of (Bxr _ _)) (by first | (simp; done) | (simp; omega)) _ _) (by first | (simp; done) | (simp; omega)) _ _) (by first | (simp; done) | (simp; omega)) _ _) (by first | (simp; done) | (simp; omega)) _ _) (by first | (simp; done) | (simp; omega)) _ _) (by first | (simp; done) | (simp; omega)) _ _))).mono (by first | (simp; done) | (simp; omega)) (IxO.mono (by first | (simp; done) | (simp; omega)))⟩,(by show cols.length ≤ 1000; omega),(Rdr.keep (Rdr.keep (Rdr.keep (Rdr.keep (Rdr.keep (Rdr.keep HR5.out (g:=w1.heap.size) (o:=4) (v:=_) Om) (g:=w.heap.size) (o:=0) (v:=_) Om) (g:=w.heap.size) (o:=1) (v:=_) Om) (g:=w.heap.size) (o:=2) (v:=_) Om) (g:=w.heap.size) (o:=3) (v:=_) Om) (g:=w.heap.size) (o:=4) (v:=_) Om),by omega,(fun c y hc e => by rw [encTb,List.append_assoc,List.append_assoc,List.append_assoc,List.append_assoc] at e; obtain ⟨e1,e2⟩:=HD1.out _ _ hc.1 e; obtain ⟨e3,e4⟩:=HD2.out _ _ hc.2.1 e2; obtain ⟨e5,e6⟩:=HD3.out _ _ hc.2.2.1 e4; obtain ⟨e7,e8⟩:=HD4.out _ _ hc.2.2.2.1 e6; obtain ⟨e9,e10⟩:=HD5.out _ _ hc.2.2.2.2 e8; exact ⟨by rw [e1,e3,e5,e7,e9],e10⟩),only_base (Only.setCell (Only.setCell (Only.setCell (Only.setCell (Only.setCell (Only.setCell HO5.out (p:=⟨w1.heap.size,4,none⟩) (Or.inr (by show w.heap.size ≤ w1.heap.size; omega)) _) (p:=⟨w.heap.size,0,none⟩) (Or.inr Zlr) _) (p:=⟨w.heap.size,1,none⟩) (Or.inr Zlr) _) (p:=⟨w.heap.size,2,none⟩) (Or.inr Zlr) _) (p:=⟨w.heap.size,3,none⟩) (Or.inr Zlr) _) (p:=⟨w.heap.size,4,none⟩) (Or.inr Zlr) _)⟩
def okPm (c : Pm) : Prop:=c.nm.size ≤ 1000 ∧ 0 ≤ c.ty ∧ c.ty ≤ 3
def okBud (n : Int) : Prop:=0 ≤ n ∧ n ≤ ((1048576 : Nat) : Int)
def okPc (p : Pc) : Prop:=p.nm.size ≤ 1000 ∧ (p.prms.length ≤ 8 ∧ ∀ c ∈ p.prms,okPm c) ∧ (p.body.length ≤ 8 ∧ ∀ s ∈ p.body,s.size ≤ 1000) ∧ okBud p.rows ∧ okBud p.bytes
theorem rdPc_any (hT : TextSpec) (r : Nat) (s : ByteArray) (w : World) (h : Rdr w r s) (hs : s.size ≤ 2147483648) :
  Calls Tryz.prog 146 #[.pointer (some ⟨r,0,none⟩)] w fun e w2 => ∃ (x : Pc) (us : List Value) (s2 : ByteArray),e = .returned (.agg us.toArray) ∧ PcO w2 w.heap.size x us ∧ True ∧ Rdr w2 r s2 ∧ s2.size ≤ s.size ∧ Rd encPc okPc (bs s) x (bs s2) ∧ Only (fun k => k = r) w w2:=by
 have hrl:=h.lt
 have HH:=Hd h
 clear h
 go_enter Tryz.func146,Tryz.ntmps146
 go_wp2_with fail
 refine (hT r s _ (HH.out.later Bz) hs).mono ?_
 rintro e w1 ⟨nm,s1,rfl,hnm,hr1,hs1,hd1,ho1⟩
 have hz1:=ho1.size
 simp at hz1
 have HR1:=Hd hr1
 have HD1:=Hd hd1
 have HZ1 : Hid (w1.heap[w.heap.size]? = some (.cells #[.string ⟨#[]⟩,.slice none 0 0,.slice none 0 0,.int .i64 0,.int .i64 0] 121 (0,0))):=heap_only (heap_alloc_new w _) ho1 Om
 have HO1 : Hid (Only (fun k => k = r) w w1):=((Only.refl _ _).alloc _).trans ho1
 clear hr1 hd1 ho1
 go_wp2_with fail
 refine (rePm_any r s1 8 _ encPm okPm (fun _ => True) (HR1.out.later Bz) Om Om (fun s1 w1 h1 h2 => rdPm_any hT r s1 w1 h1 h2)).mono ?_
 rintro e w2 ⟨v,prms,s2,rfl,hO,hln,-,hr2,hs2,hd2,ho2⟩
 have hz2:=ho2.size
 simp at hz2
 have HR2:=Hd hr2
 have HD2:=Hd hd2
 have HOw2:=Hd hO
 obtain ⟨q2,c2,rfl,-⟩:=hO.form
 clear hO
 have HT2 : Hid (w2.heap[w1.heap.size]? = some (.cells #[.string nm,.slice none 0 0,.slice none 0 0,.int .i64 0,.int .i64 0] 121 (0,0))):=heap_only (heap_alloc_new w1 (.cells #[.string nm,.slice none 0 0,.slice none 0 0,.int .i64 0,.int .i64 0] 121 (0,0))) ho2 Om
 have HZ2 : Hid (w2.heap[w.heap.size]? = some (.cells #[.string ⟨#[]⟩,.slice none 0 0,.slice none 0 0,.int .i64 0,.int .i64 0] 121 (0,0))):=heap_only (heap_of HZ1.out ((Bxr _ _).alloc Zlr _)) ho2 Om
 have HO2 : Hid (Only (fun k => k = r ∨ w.heap.size ≤ k) w w2):=(HO1.out.mono (fun k h => Or.inl h)).alloc _ |>.trans (ho2.mono (fun k h => Or.inl h))
 have HK2 : Hid (∀ (S : List TypeId) (B : Nat),220 ∉ S → Keeps S B (w1.alloc (.cells #[.string nm,.slice none 0 0,.slice none 0 0,.int .i64 0,.int .i64 0] 121)) w2):=fun S _ hS => Keeps.only (HR1.out.later Bz) ho2 hS
 obtain ⟨x0,x1,x2,x3,x4⟩:=five_cells8 HT2.out
 have fT2:=frz_of HT2.out
 have fZ2:=frz_of HZ2.out
 obtain ⟨z0,z1,z2,z3,z4⟩:=five_cells8 HZ2.out
 clear hr2 hd2 ho2
 go_wp2_with fail
 refine (reStr_any r s2 8 _ txt (fun x => x.size ≤ 1000) (fun x => x.size ≤ 1000) (Rdr.keep HR2.out Om) Om Om (fun s1 w1 h1 h2 => hT r s1 w1 h1 h2)).mono ?_
 rintro e w3 ⟨v,body,s3,rfl,hO,hln3,-,hr3,hs3,hd3,ho3⟩
 have hz3:=ho3.size
 simp at hz3
 have HR3:=Hd hr3
 have HD3:=Hd hd3
 have HOw3:=Hd hO
 obtain ⟨q3,c3,rfl,-⟩:=hO.form
 clear hO
 have HT3 : Hid (w3.heap[w1.heap.size]? = some (.cells #[.string nm,.slice q2 prms.length c2,.slice none 0 0,.int .i64 0,.int .i64 0] 121 (0,0))):=heap_only (heap_setCell_at (i:=1) HT2.out (.slice q2 prms.length c2)) ho3 Om
 have HZ3 : Hid (w3.heap[w.heap.size]? = some (.cells #[.string ⟨#[]⟩,.slice none 0 0,.slice none 0 0,.int .i64 0,.int .i64 0] 121 (0,0))):=heap_only ((Below.heap_setCell _ _ _ _ (by show ¬ w.heap.size = w1.heap.size; omega)).trans HZ2.out) ho3 Om
 have HO3 : Hid (Only (fun k => k = r ∨ w.heap.size ≤ k) w w3):=Only.setCell HO2.out (p:=⟨w1.heap.size,1,none⟩) (Or.inr (by show w.heap.size ≤ w1.heap.size; omega)) _ |>.trans (ho3.mono (fun k h => Or.inl h))
 have HK3 : Hid (∀ (S : List TypeId) (B : Nat),220 ∉ S → Keeps S B (w2.setCell ⟨w1.heap.size,1,none⟩ (.slice q2 prms.length c2)) w3):=fun S _ hS => Keeps.only (Rdr.keep HR2.out Om) ho3 hS
 obtain ⟨x0,x1,x2,x3,x4⟩:=five_cells8 HT3.out
 have fT3:=frz_of HT3.out
 have fZ3:=frz_of HZ3.out
 obtain ⟨z0,z1,z2,z3,z4⟩:=five_cells8 HZ3.out
 clear hr3 hd3 ho3
 go_wp2_with fail
 refine ((upTo_any r s3 1048576 _ (Rdr.keep HR3.out Om) Om Om).mono fun e w2 h => InP.of Om h).mono ?_
 rintro e w4 ⟨rows,s4,rfl,hrw,hr4,hs4,hd4,ho4⟩
 have hz4:=ho4.size
 simp at hz4
 have HR4:=Hd hr4
 have HD4:=Hd hd4
 have HT4 : Hid (w4.heap[w1.heap.size]? = some (.cells #[.string nm,.slice q2 prms.length c2,.slice q3 body.length c3,.int .i64 0,.int .i64 0] 121 (0,0))):=heap_only (heap_setCell_at (i:=2) HT3.out (.slice q3 body.length c3)) ho4 Om
 have HZ4 : Hid (w4.heap[w.heap.size]? = some (.cells #[.string ⟨#[]⟩,.slice none 0 0,.slice none 0 0,.int .i64 0,.int .i64 0] 121 (0,0))):=heap_only ((Below.heap_setCell _ _ _ _ (by show ¬ w.heap.size = w1.heap.size; omega)).trans HZ3.out) ho4 Om
 have HO4 : Hid (Only (fun k => k = r ∨ w.heap.size ≤ k) w w4):=Only.setCell HO3.out (p:=⟨w1.heap.size,2,none⟩) (Or.inr (by show w.heap.size ≤ w1.heap.size; omega)) _ |>.trans (ho4.mono (fun k h => Or.inl h))
 have HK4 : Hid (∀ (S : List TypeId) (B : Nat),220 ∉ S → Keeps S B (w3.setCell ⟨w1.heap.size,2,none⟩ (.slice q3 body.length c3)) w4):=fun S _ hS => Keeps.only (Rdr.keep HR3.out Om) ho4 hS
 obtain ⟨x0,x1,x2,x3,x4⟩:=five_cells8 HT4.out
 have fT4:=frz_of HT4.out
 have fZ4:=frz_of HZ4.out
 obtain ⟨z0,z1,z2,z3,z4⟩:=five_cells8 HZ4.out
 clear hr4 hd4 ho4
 go_wp2_with fail
 refine ((upTo_any r s4 1048576 _ (Rdr.keep HR4.out Om) Om Om).mono fun e w2 h => InP.of Om h).mono ?_
 rintro e w5 ⟨byts,s5,rfl,hby,hr5,hs5,hd5,ho5⟩
 have hz5:=ho5.size
 simp at hz5
 have HR5:=Hd hr5
 have HD5:=Hd hd5
 have HT5 : Hid (w5.heap[w1.heap.size]? = some (.cells #[.string nm,.slice q2 prms.length c2,.slice q3 body.length c3,.int .i64 rows,.int .i64 0] 121 (0,0))):=heap_only (heap_setCell_at (i:=3) HT4.out (.int .i64 rows)) ho5 Om
 have HZ5 : Hid (w5.heap[w.heap.size]? = some (.cells #[.string ⟨#[]⟩,.slice none 0 0,.slice none 0 0,.int .i64 0,.int .i64 0] 121 (0,0))):=heap_only ((Below.heap_setCell _ _ _ _ (by show ¬ w.heap.size = w1.heap.size; omega)).trans HZ4.out) ho5 Om
 have HO5 : Hid (Only (fun k => k = r ∨ w.heap.size ≤ k) w w5):=Only.setCell HO4.out (p:=⟨w1.heap.size,3,none⟩) (Or.inr (by show w.heap.size ≤ w1.heap.size; omega)) _ |>.trans (ho5.mono (fun k h => Or.inl h))
 have HK5 : Hid (∀ (S : List TypeId) (B : Nat),220 ∉ S → Keeps S B (w4.setCell ⟨w1.heap.size,3,none⟩ (.int .i64 rows)) w5):=fun S _ hS => Keeps.only (Rdr.keep HR4.out Om) ho5 hS
 obtain ⟨x0,x1,x2,x3,x4⟩:=five_cells8 HT5.out
 have fT5:=frz_of HT5.out
 have fZ5:=frz_of HZ5.out
 obtain ⟨z0,z1,z2,z3,z4⟩:=five_cells8 HZ5.out
 clear hr5 hd5 ho5
 have hne1 : ¬ w.heap.size = w1.heap.size:=by omega
 have hne2 : ¬ w1.heap.size = w.heap.size:=by omega
 go_wp2
 refine bodyPost_ret (v:=.agg #[.string nm,.slice q2 prms.length c2,.slice q3 body.length c3,.int .i64 rows,.int .i64 byts]) (by simp [results,Tryz.results146,go_sem, *]) rfl ?_
 exact ⟨⟨nm,prms,body,rows,byts⟩,[.string nm,.slice q2 prms.length c2,.slice q3 body.length c3,.int .i64 rows,.int .i64 byts],s5,rfl,⟨_,_,rfl,(HOw2.out.keeps (S:=inPc) (Keeps.low (Keeps.low (Keeps.low (Keeps.low (Keeps.low (Keeps.low (Keeps.trans (Keeps.low (Keeps.trans (Keeps.low (Keeps.trans (Keeps.low (Keeps.of (Bxr _ _)) (by first | (simp; done) | (simp; omega)) _ _) (HK3.out _ _ (by decide))) (by first | (simp; done) | (simp; omega)) _ _) (HK4.out _ _ (by decide))) (by first | (simp; done) | (simp; omega)) _ _) (HK5.out _ _ (by decide))) (by first | (simp; done) | (simp; omega)) _ _) (by first | (simp; done) | (simp; omega)) _ _) (by first | (simp; done) | (simp; omega)) _ _) (by first | (simp; done) | (simp; omega)) _ _) (by first | (simp; done) | (simp; omega)) _ _) (by first | (simp; done) | (simp; omega)) _ _) Si fun _ _ h => h).mono (by first | (simp; done) | (simp; omega)) fun _ _ h => h,(HOw3.out.keeps (S:=inPc) (Keeps.low (Keeps.low (Keeps.low (Keeps.low (Keeps.low (Keeps.low (Keeps.trans (Keeps.low (Keeps.trans (Keeps.low (Keeps.of (Bxr _ _)) (by first | (simp; done) | (simp; omega)) _ _) (HK4.out _ _ (by decide))) (by first | (simp; done) | (simp; omega)) _ _) (HK5.out _ _ (by decide))) (by first | (simp; done) | (simp; omega)) _ _) (by first | (simp; done) | (simp; omega)) _ _) (by first | (simp; done) | (simp; omega)) _ _) (by first | (simp; done) | (simp; omega)) _ _) (by first | (simp; done) | (simp; omega)) _ _) (by first | (simp; done) | (simp; omega)) _ _) Si fun _ _ h => h).mono (by first | (simp; done) | (simp; omega)) fun _ _ h => h⟩,trivial,(Rdr.keep (Rdr.keep (Rdr.keep (Rdr.keep (Rdr.keep (Rdr.keep HR5.out (g:=w1.heap.size) (o:=4) (v:=_) Om) (g:=w.heap.size) (o:=0) (v:=_) Om) (g:=w.heap.size) (o:=1) (v:=_) Om) (g:=w.heap.size) (o:=2) (v:=_) Om) (g:=w.heap.size) (o:=3) (v:=_) Om) (g:=w.heap.size) (o:=4) (v:=_) Om),by omega,(fun c y hc e => by rw [encPc,List.append_assoc,List.append_assoc,List.append_assoc,List.append_assoc] at e; obtain ⟨e1,e2⟩:=HD1.out _ _ hc.1 e; obtain ⟨e3,e4⟩:=HD2.out _ _ hc.2.1 e2; obtain ⟨e5,e6⟩:=HD3.out _ _ hc.2.2.1 e4; obtain ⟨e7,e8⟩:=HD4.out _ _ hc.2.2.2.1 e6; obtain ⟨e9,e10⟩:=HD5.out _ _ hc.2.2.2.2 e8; exact ⟨by rw [e1,e3,e5,e7,e9],e10⟩),only_base (Only.setCell (Only.setCell (Only.setCell (Only.setCell (Only.setCell (Only.setCell HO5.out (p:=⟨w1.heap.size,4,none⟩) (Or.inr (by show w.heap.size ≤ w1.heap.size; omega)) _) (p:=⟨w.heap.size,0,none⟩) (Or.inr Zlr) _) (p:=⟨w.heap.size,1,none⟩) (Or.inr Zlr) _) (p:=⟨w.heap.size,2,none⟩) (Or.inr Zlr) _) (p:=⟨w.heap.size,3,none⟩) (Or.inr Zlr) _) (p:=⟨w.heap.size,4,none⟩) (Or.inr Zlr) _)⟩
theorem okCol.of {l : List Col} (h : mayCols l = true) : l.length ≤ 16 ∧ ∀ c ∈ l,okCol c:=by
 obtain ⟨h1,h2⟩:=mayCols_nm h
 refine ⟨h1.2,fun c hc => ?_⟩
 obtain ⟨g1,g2⟩:=h2 c hc
 simp only [typB,Bool.and_eq_true,decide_eq_true_eq] at g2
 exact ⟨by omega,by omega,by omega⟩
theorem okPm.of {l : List Pm} (h : mayPms l = true) : l.length ≤ 8 ∧ ∀ c ∈ l,okPm c:=by
 obtain ⟨h1,h2⟩:=mayPms_nm h
 refine ⟨h1,fun c hc => ?_⟩
 obtain ⟨g1,g2⟩:=h2 c hc
 simp only [typB,Bool.and_eq_true,decide_eq_true_eq] at g2
 exact ⟨by omega,by omega,by omega⟩
theorem okPl.of {l : List Int} {m : Nat} (h : mayPl l m = true) (hm : m ≤ 16) : l.length ≤ 8 ∧ ∀ p ∈ l,okPl p:=by
 refine ⟨(mayPl_size h).2,fun p hp => ?_⟩
 obtain ⟨k,hk,rfl⟩:=mem_at hp
 obtain ⟨q,e,hq⟩:=mayPl_at h hk
 exact ⟨by omega,by omega⟩
theorem okTb.of {t : Tb} (h : mayTb t = true) : okTb t:=by
 obtain ⟨m1,m2,m3,m4⟩:=mayTb_parts h
 have c1:=okCol.of m2
 obtain ⟨k1,k2⟩:=mayKey_parts m3
 obtain ⟨x1,x2⟩:=mayIxs_nm m4
 have kk:=okPl.of k1 c1.1
 refine ⟨by have:=nm_le m1; omega,c1,kk,kk.2 _ k2,x1,fun x hx => ?_⟩
 obtain ⟨g1,g2⟩:=x2 x hx
 exact ⟨by omega,okPl.of g2 c1.1⟩
theorem okPc.of {p : Pc} (h : mayPc p = true) : okPc p:=by
 obtain ⟨m1,m2,m3,m4,m5⟩:=mayPc_parts h
 obtain ⟨b1,b2⟩:=mayBody_src m3
 simp only [budB,Bool.and_eq_true,decide_eq_true_eq] at m4 m5
 exact ⟨by have:=nm_le m1; omega,okPm.of m2,⟨b1.2,fun s hs => (b2 s hs).2⟩,⟨by omega,by omega⟩,⟨by omega,by omega⟩⟩
end TT
end Go.Proofs.YtmmmkjhpmlfopaaGreatDoor
