/- ZB2 ZB3 ZB4 -/
import Derived.Test.YtmmmkjhpmlfopaaGreatDoorSB01
import Derived.Lib.AppendZerosOnto
import Derived.Lib.Overlaps
import Derived.Lib.SliceRun
import Derived.Laws.Externs
set_option maxHeartbeats 8000000
set_option maxRecDepth 100000
namespace Go.Proofs.YtmmmkjhpmlfopaaGreatDoor
open Go.RowKit
namespace BB
theorem clone_any (s : ByteArray) (w : World) (hs : s.size ≤ 281474976710656) : Calls Tryz.prog 123 #[.string s] w fun e w' => e = .returned (.string s) ∧ Below w.heap.size w w':=by
 go_enter Tryz.func123,Tryz.ntmps123
 go_wp2_with fail
 refine (Tryz.stringslite_Clone s _ Om).mono ?_
 rintro e w1 ⟨rfl,hb1⟩
 go_wp2
 go_ret
 exact ⟨rfl,hb1⟩
def pOf (k : Option Nat) : Option Addr:=k.map fun b => ⟨b,0,none⟩
def kid0 (l : List It) : Option Nat:=l.head?.bind (·.kid)
theorem firstKid_any (w : World) (n : Nd) (nx : Option Nat) (h : NdAt w n nx) (hl : n.its.length ≤ 1000000) :
  Calls Tryz.prog 159 #[.pointer (some ⟨n.b,0,none⟩)] w fun e w' => e = .returned (.pointer (pOf (kid0 n.its))) ∧ w' = w:=by
 have c0:=h.nc.c0
 have hr:=h.row
 obtain ⟨b,hb⟩:=Vx n.b
 rw [hb] at c0 ⊢
 match hi : n.its with
 | [] =>
  rw [hi] at hr
  obtain ⟨p,cap,e,_⟩:=irow_form hr
  rw [e] at c0
  simp only [List.length_nil] at c0
  clear h hr hb hi hl e
  go_enter Tryz.func159,Tryz.ntmps159
  go_wp2
  go_ret
  exact ⟨rfl,rfl⟩
 | x :: r =>
  rw [hi] at hr hl
  obtain ⟨g,cap,e,_,_,_,hc,_⟩:=irow_at hr Si
  rw [e] at c0
  obtain ⟨_,_,c2⟩:=hc 0 Si
  simp only [Nat.zero_mul,Nat.zero_add,List.getElem_cons_zero] at c2
  simp only [List.length_cons] at c0 hl
  obtain ⟨q,hq⟩ : ∃ q : Option Addr,(x.kid.map fun b => (⟨b,0,none⟩ : Addr)) = q:=⟨_,rfl⟩
  have HQ : Hid (pOf (kid0 (x :: r)) = q):=hq
  rw [hq] at c2
  have h1 : ¬ ((r.length : Int) + 1 = 0):=by omega
  have h2 : (0 : Int) < (r.length : Int) + 1:=by omega
  clear h hr hb hi hl e hc hq
  go_enter Tryz.func159,Tryz.ntmps159
  go_wp2
  go_ret
  exact ⟨by rw [HQ.out]; rfl,rfl⟩
theorem leaf_any (w : World) (n : Nd) (nx : Option Nat) (h : NdAt w n nx) (hl : n.its.length ≤ 1000000) :
  Calls Tryz.prog 152 #[.pointer (some ⟨n.b,0,none⟩)] w fun e w' => e = .returned (.bool (kid0 n.its).isNone) ∧ w' = w:=by
 have HC:=firstKid_any w n nx h hl
 obtain ⟨k,hk⟩:=Vx (kid0 n.its)
 obtain ⟨b,hb⟩:=Vx n.b
 rw [hk,hb] at HC ⊢
 cases k with
 | none =>
  have HC2 : Hid (Calls Tryz.prog 159 #[.pointer (some ⟨b,0,none⟩)] w fun e w' => e = .returned (.pointer none) ∧ w' = w):=HC
  clear HC h hl hk hb
  go_enter Tryz.func152,Tryz.ntmps152
  go_wp2_with (go_at_call 159; refine (HC2.out).mono ?_; rintro e w' ⟨rfl,rfl⟩)
  go_ret
  exact ⟨rfl,rfl⟩
 | some k =>
  have HC2 : Hid (Calls Tryz.prog 159 #[.pointer (some ⟨b,0,none⟩)] w fun e w' => e = .returned (.pointer (some ⟨k,0,none⟩)) ∧ w' = w):=HC
  clear HC h hl hk hb
  go_enter Tryz.func152,Tryz.ntmps152
  go_wp2_with (go_at_call 159; refine (HC2.out).mono ?_; rintro e w' ⟨rfl,rfl⟩)
  go_ret
  exact ⟨rfl,rfl⟩
theorem spot_any (w : World) (n : Nd) (nx : Option Nat) (i : Nat) (h : NdAt w n nx) (_hl : n.its.length ≤ 1000000) (_hi : i ≤ 1000000) :
  Calls Tryz.prog 171 #[.pointer (some ⟨n.b,0,none⟩),.int .i64 (i : Int)] w fun e w' => e = .returned (.tuple #[.pointer (if i < n.its.length then some ⟨n.b,0,none⟩ else pOf nx),.int .i64 (if i < n.its.length then (i : Int) else 0)]) ∧ w' = w:=by
 have c0:=h.nc.c0
 have c1:=h.nc.c1
 obtain ⟨p,cap,e,_⟩:=irow_form h.row
 rw [e] at c0
 obtain ⟨b,hb⟩:=Vx n.b
 obtain ⟨m,hm⟩:=Vx n.its.length
 obtain ⟨q,hq⟩ : ∃ q : Option Addr,(nx.map fun b => (⟨b,0,none⟩ : Addr)) = q:=⟨_,rfl⟩
 have hq2 : pOf nx = q:=hq
 rw [hb,hm] at c0
 rw [hb,hq] at c1
 rw [hb,hm,hq2]
 clear h _hl e hb hm hq hq2
 by_cases hlt : i < m
 ·have hlti : (i : Int) < (m : Int):=by omega
  simp only [if_pos hlt]
  go_enter Tryz.func171,Tryz.ntmps171
  go_wp2
  refine bodyPost_ret (v:=.tuple #[.pointer (some ⟨b,0,none⟩),.int .i64 (i : Int)]) (by simp [results,Tryz.results171,go_sem]) rfl ?_
  exact ⟨rfl,rfl⟩
 ·have hlti : ¬ (i : Int) < (m : Int):=by omega
  simp only [if_neg hlt]
  go_enter Tryz.func171,Tryz.ntmps171
  go_wp2
  refine bodyPost_ret (v:=.tuple #[.pointer q,.int .i64 0]) (by simp [results,Tryz.results171,go_sem]) rfl ?_
  exact ⟨rfl,rfl⟩
theorem asKid_any (w : World) (n : Nd) (nx : Option Nat) (x : It) (r : List It) (h : NdAt w n nx) (hi : n.its = x :: r) (hl : n.its.length ≤ 1000000) :
  Calls Tryz.prog 166 #[.pointer (some ⟨n.b,0,none⟩)] w fun e w' => e = .returned (.agg #[.string x.key,.string ⟨#[]⟩,.pointer (some ⟨n.b,0,none⟩)]) ∧ Below w.heap.size w w':=by
 have c0:=h.nc.c0
 have hr:=h.row
 rw [hi] at hr hl
 obtain ⟨g,cap,e,_,_,hg,hc,_⟩:=irow_at hr Si
 rw [e] at c0
 obtain ⟨k0,_,_⟩:=hc 0 Si
 simp only [Nat.zero_mul,List.getElem_cons_zero] at k0
 simp only [List.length_cons] at c0 hl
 have hn:=h.lt
 obtain ⟨b,hb⟩:=Vx n.b
 rw [hb] at c0 hn ⊢
 have h2 : (0 : Int) < (r.length : Int) + 1:=by omega
 clear h hr hb hi hl e hc
 go_enter Tryz.func166,Tryz.ntmps166
 go_wp2
 refine bodyPost_ret (v:=.agg #[.string x.key,.string ⟨#[]⟩,.pointer (some ⟨b,0,none⟩)]) (by simp [results,Tryz.results166,go_sem]) rfl ?_
 exact ⟨rfl,by
  refine ⟨rfl,rfl,rfl,by simp,fun k hk => ?_⟩
  repeat rw [Below.heap_setCell _ _ _ _ (by simp only; omega)]
  exact Below.heap_alloc _ _ _ hk⟩
theorem pair_any (k v : ByteArray) (q : Option Addr) (w : World) (hk : k.size ≤ 281474976710656) (hv : v.size ≤ 281474976710656) :
  Calls Tryz.prog 170 #[.agg #[.string k,.string v,.pointer q]] w fun e w' => e = .returned (.agg #[.string k,.string v]) ∧ Below w.heap.size w w':=by
 obtain ⟨w0,hw0⟩:=Vx ((w.alloc (.cells #[.string k,.string v,.pointer q] 195)).alloc (.cells #[.string ⟨#[]⟩,.string ⟨#[]⟩] 152))
 have d0 : w0.cell? ⟨w.heap.size,0,none⟩ = some (.string k):=by rw [← hw0]; simp
 have d1 : w0.cell? ⟨w.heap.size,1,none⟩ = some (.string v):=by rw [← hw0]; simp
 have r0 : w0.cell? ⟨w.heap.size + 1,0,none⟩ = some (.string ⟨#[]⟩):=by rw [← hw0]; simp
 have r1 : w0.cell? ⟨w.heap.size + 1,1,none⟩ = some (.string ⟨#[]⟩):=by rw [← hw0]; simp
 have hz0 : w0.heap.size = w.heap.size + 2:=by rw [← hw0]; simp
 have HB0 : Hid (Below w.heap.size w w0):=by rw [← hw0]; exact ((Bxr _ _).alloc Zlr _).alloc Si _
 have f0 : w0.frozen? ⟨w.heap.size + 1,0,none⟩ = false:=by rw [← hw0]; simp
 have f1 : w0.frozen? ⟨w.heap.size + 1,1,none⟩ = false:=by rw [← hw0]; simp
 have z0 : w.heap.size + 1 < w0.heap.size:=by omega
 go_enter Tryz.func170,Tryz.ntmps170
 go_wp2_with fail
 clear hw0 hz0
 go_region_law (first
  | (go_simp; go_at_call 123; refine (clone_any _ _ (by first | exact hk | exact hv)).mono ?_; rintro e wN ⟨rfl,hbN⟩; (have z1 : w.heap.size + 1 < wN.heap.size:=Zll (by first | exact z0 | assumption) hbN.size); (have a0 : wN.cell? ⟨w.heap.size,0,none⟩ = some (.string k):=cell_later hbN (by first | exact d0 | assumption)); (have a1 : wN.cell? ⟨w.heap.size,1,none⟩ = some (.string v):=cell_later hbN (by first | exact d1 | assumption)); (have b0 : wN.cell? ⟨w.heap.size + 1,0,none⟩ = some (.string ⟨#[]⟩):=cell_later hbN (by first | exact r0 | assumption)); (have b1 : wN.cell? ⟨w.heap.size + 1,1,none⟩ = some (.string ⟨#[]⟩):=cell_later hbN (by first | exact r1 | assumption)); (have g0 : wN.frozen? ⟨w.heap.size + 1,0,none⟩ = false:=(hbN.frozen (p:=⟨w.heap.size + 1,0,none⟩) (by first | exact z0 | assumption)).trans (by first | exact f0 | assumption)); (have g1 : wN.frozen? ⟨w.heap.size + 1,1,none⟩ = false:=(hbN.frozen (p:=⟨w.heap.size + 1,1,none⟩) (by first | exact z0 | assumption)).trans (by first | exact f1 | assumption)); (have hB : Below w.heap.size w wN:=by first | exact HB0.out.drew.trans (hbN.mono (Nat.le_of_lt (Nat.lt_of_succ_lt z0))) | exact HBx.out.trans (hbN.mono HBx.out.size)); (have HBx : Hid (Below w.heap.size w wN):=hB); clear hbN hB))
 all_goals
  go_wp2
  refine bodyPost_ret (v:=.agg #[.string k,.string v]) (by simp [results,Tryz.results170,go_sem, *]) rfl ?_
  exact ⟨rfl,(HBx.out.setCell (p:=⟨w.heap.size + 1,0,none⟩) (Nat.le_succ _) _).setCell (p:=⟨w.heap.size + 1,1,none⟩) (Nat.le_succ _) _⟩
theorem Tryz.infoItem : (Tryz.prog.info? 195).map (fun i => (i.zero,i.size,i.bytes)) = some (some (.agg #[.string ⟨#[]⟩,.string ⟨#[]⟩,.pointer none]),3,40):=by kernel_rfl
theorem zeroItem (w : World) : (zeroValue 195).run Tryz.prog w = .ok (.agg #[.string ⟨#[]⟩,.string ⟨#[]⟩,.pointer none]) w:=by kernel_rfl
def zi (k : Nat) : List Value:=(Builtin.zeroCells (Value.agg #[.string ⟨#[]⟩,.string ⟨#[]⟩,.pointer none]).cells k).toList
theorem zi_length (k : Nat) : (zi k).length = k * 3:=by simp [zi,Builtin.zeroCells,Value.cells]
theorem zi_one (k : Nat) : ∀ u ∈ zi k,u.oneCell' = true:=by
 intro u hu
 simp [zi,Builtin.zeroCells,Value.cells] at hu
 obtain ⟨a,_,rfl⟩:=hu
 have h3 : a % 3 = 0 ∨ a % 3 = 1 ∨ a % 3 = 2:=by omega
 rcases h3 with h | h | h <;> rw [h] <;> rfl
theorem setCells_row (g : Nat) : ∀ (vs : List Value) (o : Nat) (w : World) {cur : Array Value} {e : TypeId} {fr : Nat × Nat},w.heap[g]? = some (.cells cur e fr) → ∃ cur',(w.setCells g o vs).heap[g]? = some (.cells cur' e fr) ∧ cur'.size = cur.size
 | [],_,_,cur,_,_,h => ⟨cur,h,rfl⟩
 | v :: r,o,w,cur,e,fr,h => by
  have : (w.setCell ⟨g,o,none⟩ v).heap[g]? = some (.cells (cur.setIfInBounds o v) e fr):=heap_setCell_at h v
  obtain ⟨cur',h1,h2⟩:=setCells_row g r (o + 1) _ this
  exact ⟨cur',h1,by rw [h2]; simp⟩
theorem own_cells {w : World} {e : TypeId} {size n cap g : Nat} {cur : Array Value} {xs : List Value} (hx : xs.length = n * size) (hg : w.heap[g]? = some (.cells cur e (0,0))) (hn : n ≤ cap) (hm : cap ≤ maxLen) (hs : cur.size = cap * size) (hc : ∀ j,j < n * size → w.cell? ⟨g,j,none⟩ = xs[j]?) : w.ownsRow 0 e size (.slice (some ⟨g,0,none⟩) n cap) n xs:=by
 refine ⟨hx,Or.inr ⟨g,cap,cur,rfl,Nat.zero_le _,hg,hn,hm,hs,?_⟩⟩
 have hle : n * size ≤ cur.size:=by rw [hs]; exact Nat.mul_le_mul_right _ hn
 apply List.ext_getElem?
 intro j
 by_cases hj : j < n * size
 ·have h1:=hc j hj
  simp only [World.cell?,hg] at h1
  rw [List.getElem?_take_of_lt hj,← h1]
  simp
 ·rw [List.getElem?_eq_none (by rw [List.length_take]; omega),List.getElem?_eq_none Om]
theorem clear_items (w : World) (ty : TypeId) (b o k c : Nat) (hk : 0 < k) (hc : ∀ j,j < k * 3 → (w.cell? ⟨b,o + j,none⟩).isSome = true) (hf : ∀ j,j < k * 3 → w.frozen? ⟨b,o + j,none⟩ = false) :
  (Builtin.clear_ #[196] ty #[.slice (some ⟨b,o,none⟩) k c]).run Tryz.prog w = .ok (.tuple #[]) (w.setCells b o (zi k)):=by
 have hst:=run_storeCells_cells (P:=Tryz.prog) b o (zi k) 0 w (by simpa [zi_length] using hc) (by simpa [zi_length] using hf) (zi_one k)
 simp only [Nat.add_zero] at hst
 obtain ⟨m,rfl⟩ : ∃ m,k = m + 1:=⟨k - 1,by omega⟩
 simp [Builtin.clear_,run_underlying Tryz.underlying196,zeroItem w]
 show ((Sem.run Tryz.prog (storeCells ⟨b,o,none⟩ (zi (m + 1))) w).andThen fun _ w' => Result.ok (Value.tuple #[]) w') = _
 rw [hst]
 rfl
theorem ic_take (l : List It) (i : Nat) : (ic l).take (i * 3) = ic (l.take i):=by
 have h:=congrArg (List.take (i * 3)) (congrArg ic (List.take_append_drop i l))
 rw [← h,ic_append]
 by_cases hi : i ≤ l.length
 ·rw [List.take_left' (by rw [ic_length,List.length_take]; omega)]
 ·rw [List.take_of_length_le (by rw [Zla,ic_length,ic_length,List.length_take,List.length_drop]; omega),List.drop_eq_nil_of_le Om]
  simp [ic]
theorem ic_drop (l : List It) (i : Nat) (j : Nat) (h : i ≤ l.length) : (ic (l.drop i))[j]? = (ic l)[i * 3 + j]?:=by
 conv => rhs; rw [← List.take_append_drop i l,ic_append]
 rw [List.getElem?_append_right (by rw [ic_length,List.length_take]; omega),ic_length,List.length_take,Nat.min_eq_left h,Nat.add_sub_cancel_left]
theorem ic_cut (l : List It) (i j : Nat) (hi : i ≤ l.length) (k : Nat) : (ic (l.take i ++ l.drop j))[k]? = if k < i * 3 then (ic l)[k]? else (ic (l.drop j))[k - i * 3]?:=by
 rw [ic_append]
 by_cases h : k < i * 3
 ·rw [if_pos h,List.getElem?_append_left (by rw [ic_length,List.length_take]; omega),← ic_take,List.getElem?_take_of_lt h]
 ·rw [if_neg h,List.getElem?_append_right (by rw [ic_length,List.length_take]; omega),ic_length,List.length_take,Nat.min_eq_left hi]
theorem delete_any (w : World) (b cap : Nat) (l : List It) (i j : Nat) (hrow : w.ownsRow 0 195 3 (.slice (some ⟨b,0,none⟩) l.length cap) l.length (ic l)) (hij : i < j) (hjl : j ≤ l.length) (hl : l.length ≤ 1000000) :
  Calls Tryz.prog 119 #[.slice (some ⟨b,0,none⟩) l.length cap,.int .i64 (i : Int),.int .i64 (j : Int)] w fun e w' => e = .returned (.slice (some ⟨b,0,none⟩) (i + (l.length - j)) cap) ∧ w'.ownsRow 0 195 3 (.slice (some ⟨b,0,none⟩) (i + (l.length - j)) cap) (i + (l.length - j)) (ic (l.take i ++ l.drop j)) ∧ Only (fun k => k = b) w w':=by
 obtain ⟨i0,hi,hz0,hz1,hz2⟩:=info_parts Tryz.infoItem
 have hr:=hrow
 obtain ⟨_,⟨_,h0⟩ | ⟨g,cap',cur,e,_,hg,hn,hm,hs,_⟩⟩:=hrow
 ·omega
 simp only [Value.slice.injEq,Option.some.injEq,Addr.mk.injEq,and_true] at e
 obtain ⟨rfl,_,rfl⟩:=e
 obtain ⟨n,hn1⟩:=Vx l.length
 have hnl : n ≤ cap:=by omega
 rw [hn1] at hr hjl hl ⊢
 obtain ⟨m,hm1⟩:=Vx (n - j)
 rw [hm1]
 have hnm : j + m = n:=by omega
 have hel : (ic (l.drop j)).length = m * 3:=by rw [ic_length,List.length_drop]; omega
 have hcell : ∀ t,t < n * 3 → w.cell? ⟨b,t,none⟩ = (ic l)[t]?:=fun t ht => hr.cellAt t ht
 have hfz : ∀ o,w.frozen? ⟨b,o,none⟩ = false:=fun o => hr.frozenAt o
 have hsome0 : ∀ t,t < cap * 3 → (w.cell? ⟨b,t,none⟩).isSome = true:=fun t ht => by
  have : t < cur.size:=by omega
  simp [World.cell?,hg,this]
 have hnews : Hid (∀ t u,(ic (l.drop j))[t]? = some u → w.drew.cell? ⟨b,j * 3 + t,none⟩ = some u):=fun t u hu => by
  have ht : t < m * 3:=by
   have:=(List.getElem?_eq_some_iff.1 hu).1
   rwa [hel] at this
  show w.cell? ⟨b,j * 3 + t,none⟩ = some u
  rw [hcell (j * 3 + t) Om,← ic_drop l j t Om]
  exact hu
 have hspare : Hid (∀ t,t < (ic (l.drop j)).length → (w.drew.cell? ⟨b,0 + i * 3 + t,none⟩).isSome = true ∧ w.drew.frozen? ⟨b,0 + i * 3 + t,none⟩ = false):=fun t ht => by
  rw [hel] at ht
  exact ⟨hsome0 _ Om,hfz _⟩
 obtain ⟨W1,hW1⟩ : ∃ W1,W1 = w.drew.setCells b (0 + i * 3) (ic (l.drop j)):=⟨_,rfl⟩
 have hW : Hid (W1 = w.drew.setCells b (0 + i * 3) (ic (l.drop j))):=hW1
 obtain ⟨cur1,hg1,hs1⟩:=setCells_row b (ic (l.drop j)) (0 + i * 3) w.drew (cur:=cur) (e:=195) (fr:=(0,0)) hg
 rw [← hW1] at hg1
 have hin1 : ∀ t,t < (i + m) * 3 → W1.cell? ⟨b,t,none⟩ = (ic (l.take i ++ l.drop j))[t]?:=fun t ht => by
  rw [ic_cut l i j Om t,hW1]
  split
  ·rename_i h
   rw [World.cell?_setCells_out b _ _ _ _ (fun _ _ => by simp only; omega)]
   exact hcell t Om
  ·rename_i h
   have:=World.cell?_setCells_in b (ic (l.drop j)) (0 + i * 3) w.drew (fun t ht => (hspare.out t ht).1) (t - i * 3) (by rw [hel]; omega)
   rw [show 0 + i * 3 + (t - i * 3) = t by omega] at this
   rw [this,List.getElem?_eq_getElem (by rw [hel]; omega)]
 have hfz1 : ∀ o,W1.frozen? ⟨b,o,none⟩ = false:=fun o => by simp [World.frozen?,hg1]
 have hle1 : cur1.size = cap * 3:=by rw [hs1,hs]
 have hsome1 : ∀ t,t < cap * 3 → (W1.cell? ⟨b,t,none⟩).isSome = true:=fun t ht => by
  have : t < cur1.size:=by omega
  simp [World.cell?,hg1,this]
 have hcl : ∀ ty,(Builtin.clear_ #[196] ty #[.slice (some ⟨b,(i + m) * 3,none⟩) (n - (i + m)) (cap - (i + m))]).run Tryz.prog W1 = .ok (.tuple #[]) (W1.setCells b ((i + m) * 3) (zi (n - (i + m)))):=fun ty => clear_items W1 ty b ((i + m) * 3) (n - (i + m)) (cap - (i + m)) Om (fun t ht => hsome1 _ Om) (fun t _ => hfz1 _)
 have hfin : Hid ((W1.setCells b ((i + m) * 3) (zi (n - (i + m)))).ownsRow 0 195 3 (.slice (some ⟨b,0,none⟩) (i + m) cap) (i + m) (ic (l.take i ++ l.drop j)) ∧ Only (fun k => k = b) w (W1.setCells b ((i + m) * 3) (zi (n - (i + m))))):=by
  obtain ⟨cur2,hg2,hs2⟩:=setCells_row b (zi (n - (i + m))) ((i + m) * 3) W1 hg1
  refine ⟨own_cells (by rw [ic_length,Zla,List.length_take,List.length_drop]; omega) hg2 Om hm (by rw [hs2,hle1]) fun t ht => ?_,?_⟩
  ·rw [World.cell?_setCells_out b _ _ _ _ (fun _ _ => by simp only; omega)]
   exact hin1 t ht
  ·have o1 : Only (fun k => k = b) w w.drew:=(Only.refl _ _).drew
   have o2:=o1.grown (setCells_grown b (ic (l.drop j)) (0 + i * 3) w.drew) (fun k hk => by simpa using hk.symm)
   rw [← hW1] at o2
   exact o2.grown (setCells_grown b (zi (n - (i + m))) ((i + m) * 3) W1) (fun k hk => by simpa using hk.symm)
 have hlen : Hid ((ic (l.drop j)).length = m * 3):=hel
 have hone : Hid (∀ u ∈ ic (l.drop j),u.oneCell' = true):=ic_one _
 have hmlen : cap ≤ 9223372036854775807:=by unfold maxLen at hm; omega
 have hne : ¬ (i : Int) = (j : Int):=by omega
 have q1 : (i : Int) ≤ (n : Int):=by omega
 have q2 : (j : Int) ≤ (n : Int):=by omega
 have q3 : (n : Int) ≤ (cap : Int):=by omega
 have q4 : (i : Int) ≤ (j : Int):=by omega
 have q5 : (i : Int) ≤ (cap : Int):=by omega
 have q6 : (i : Int) + (m : Int) ≤ (n : Int):=by omega
 have q7 : n - j = m:=by omega
 have q8 : ¬ cap = i + m:=by omega
 have q9 : i + m ≤ n:=by omega
 have qa : i ≤ j:=by omega
 have qb : j ≤ n:=by omega
 clear hr hg hs hm hcell hfz hin1 hfz1 hsome1 hle1 hs1 hg1 hW1 hel hm1 hn hn1 hsome0
 by_cases hcj : cap = j
 ·have hm0 : m = 0:=by omega
  have hnews0 : Hid (∀ t u,(ic (l.drop j))[t]? = some u → w.drew.cell? ((⟨b,0,none⟩ : Addr).add t) = some u):=fun t u hu => by
   have:=(List.getElem?_eq_some_iff.1 hu).1
   rw [hlen.out,hm0] at this
   omega
  obtain ⟨nw,hnw⟩:=Vx (ic (l.drop j))
  obtain ⟨fin,hfn⟩:=Vx (ic (l.take i ++ l.drop j))
  rw [hnw] at hlen hone hspare hnews0 hW
  rw [hfn] at hfin ⊢
  subst hcj hm0
  simp only [Nat.add_zero] at hcl hfin q8 q9
  clear hnw hfn hnews q7 hnm q6
  go_enter Tryz.func119,Tryz.ntmps119
  go_wp2_with fail
  go_region_law (refine step_append_room rfl (.tmp 22) (.tmp 25) 196 rfl 195 i0 3 Tryz.underlying196 hi hz1 b 0 i cap (by simp [Act.eval,Act.put]) ⟨b,0,none⟩ 0 0 nw (by simp [Act.eval,Act.put]) hlen.out hnews0.out hone.out Om hspare.out ?_; rw [← hW.out])
  go_wp2
  go_ret
  exact ⟨by simp,hfin.out⟩
 ·go_enter Tryz.func119,Tryz.ntmps119
  go_wp2_with fail
  go_region_law (refine step_append_room rfl (.tmp 22) (.tmp 25) 196 rfl 195 i0 3 Tryz.underlying196 hi hz1 b 0 i cap (by simp [Act.eval,Act.put]) ⟨b,j * 3,none⟩ m (cap - j) (ic (l.drop j)) (by simp [Act.eval,Act.put]) hlen.out (fun t u hu => by rw [Addr.add_lit]; exact hnews.out t u hu) hone.out Om hspare.out ?_; rw [← hW.out])
  go_wp2
  go_ret
  exact ⟨by simp,hfin.out⟩
theorem cloneI_any (w : World) (b off c : Nat) (l : List It) (hl : l.length ≤ 1000000) (hne : 0 < l.length) (hc : ∀ j u,(ic l)[j]? = some u → w.cell? ⟨b,off + j,none⟩ = some u) :
  Calls Tryz.prog 218 #[.slice (some ⟨b,off,none⟩) l.length c] w fun e w' => ∃ g cap,e = .returned (.slice (some ⟨g,0,none⟩) l.length cap) ∧ w'.ownsRow w.heap.size 195 3 (.slice (some ⟨g,0,none⟩) l.length cap) l.length (ic l) ∧ Below w.heap.size w w':=by
 obtain ⟨i0,hi,hz0,hz1,hz2⟩:=info_parts Tryz.infoItem
 have HC : Hid (∀ j u,(ic l)[j]? = some u → w.cell? ⟨b,off + j,none⟩ = some u):=hc
 have q22 : ∀ (w : World) (a : Option Addr) (n c n' c' : Nat),(binOp .eql 196 (.slice a n c) (.slice none n' c')).run Tryz.prog w = .ok (.bool a.isNone) w:=fun w a n c n' c' => Lib.run_eql_slice_nil w _ _ a n c n' c' Tryz.underlying196
 clear hc
 go_enter Tryz.func218,Tryz.ntmps218
 go_wp2_with (at_builtin; refine wpList_append_lies _ rfl _ _ 196 rfl w.heap.size 195 i0 _ 3 40 Tryz.underlying196 hi hz0 hz1 hz2 rfl (by decide) _ _ _ rfl (World.ownsRow_made w #[] 0 Zlr (Nat.zero_le _) Si) ⟨b,off,none⟩ l.length c (ic l) rfl ?qc1 ?qc2 ?qc3 ?qc4 ?qc5 ?qc6 ?qc7 _ rfl ?_)
 case qc1 => exact ic_length l
 case qc2 =>
  intro j u hj
  rw [Addr.add_lit]
  exact Lib.cell?_alloc_some _ (HC.out j u hj)
 case qc3 => exact ic_one l
 case qc4 => exact hne
 case qc5 => rw [Nat.zero_add]; unfold maxLen; omega
 case qc6 => rw [Nat.zero_add]; omega
 case qc7 => simp
 intro g cap w1 hown hgrow _ _
 have hown2 : w1.ownsRow w.heap.size 195 3 (.slice (some ⟨g,0,none⟩) l.length cap) l.length (ic l):=by simpa using hown
 have HO : Hid (w1.ownsRow w.heap.size 195 3 (.slice (some ⟨g,0,none⟩) l.length cap) l.length (ic l)):=hown2
 have HB : Hid (Below w.heap.size w w1):=((Bxr _ w).alloc Zlr _).grown hgrow Si (by intro k hk; simp [Value.ownBlock] at hk; omega)
 clear hown hown2 hgrow q22
 go_wp2
 go_ret
 exact ⟨g,cap,by simp,HO.out,HB.out⟩
def InsP (w : World) (v : Value) (l : List It) (e : Ending) (w' : World) : Prop :=
 ∃ g cap,e = .returned (.slice (some ⟨g,0,none⟩) l.length cap) ∧ w'.ownsRow 0 195 3 (.slice (some ⟨g,0,none⟩) l.length cap) l.length (ic l) ∧ (v.ownBlock = some g ∨ w.heap.size ≤ g) ∧ Only (fun k => v.ownBlock = some k) w w'
theorem insert_end (w : World) (v : Value) (l : List It) (x : It) (vb : Nat) (hr : w.ownsRow 0 195 3 v l.length (ic l)) (hl : l.length ≤ 1000000) (hx : w.heap[vb]? = some (.cells (ic [x]).toArray 195 (0,0))) :
  Calls Tryz.prog 124 #[v,.int .i64 (l.length : Int),.slice (some ⟨vb,0,none⟩) 1 1] w (InsP w v (l ++ [x])):=by
 obtain ⟨i0,hi,hz0,hz1,hz2⟩:=info_parts Tryz.infoItem
 have HR : Hid (w.ownsRow 0 195 3 v l.length (ic l)):=hr
 have HX : Hid (∀ j u,(ic [x])[j]? = some u → w.cell? ((⟨vb,0,none⟩ : Addr).add j) = some u):=World.news_of_block hx
 obtain ⟨p,cap,rfl,hcap,hmax⟩:=irow_form hr
 obtain ⟨n,hn⟩:=Vx l.length
 have HN : Hid (l.length = n):=hn
 rw [hn] at HR hl hcap ⊢
 have hnn : (n : Int) ≤ (n : Int):=Int.le_refl _
 have hn0 : (0 : Int) ≤ (n : Int):=by omega
 clear hr hx hn
 by_cases hcn : cap = n
 ·subst hcn
  go_enter Tryz.func124,Tryz.ntmps124
  go_wp2_with (at_builtin; refine wpList_append_lies _ rfl _ _ 196 rfl 0 195 i0 _ 3 40 Tryz.underlying196 hi hz0 hz1 hz2 rfl (by decide) _ _ _ rfl HR.out ⟨vb,0,none⟩ 1 1 (ic [x]) rfl rfl HX.out (ic_one _) Nat.one_pos (by unfold maxLen; omega) Om (Nat.zero_le _) _ rfl ?_)
  intro g cap' w1 hown hgrow hor _
  have HO : Hid (w1.ownsRow 0 195 3 (.slice (some ⟨g,0,none⟩) (l ++ [x]).length cap') (l ++ [x]).length (ic (l ++ [x]))):=by
   have h1 : w1.ownsRow 0 195 3 (.slice (some ⟨g,0,none⟩) (l ++ [x]).length cap') (l ++ [x]).length (ic (l ++ [x])):=by
    rw [ic_append,Zla,HN.out]
    exact hown
   exact h1
  have HB : Hid (Only (fun k => (Value.slice p cap cap).ownBlock = some k) w w1):=(Only.refl _ _).grown hgrow (fun k hk => hk)
  have HG : Hid ((Value.slice p cap cap).ownBlock = some g ∨ w.heap.size ≤ g):=by
   rcases hor with h | h
   ·exact Or.inl h
   ·exact Or.inr Om
  clear hown hgrow hor
  go_wp2
  go_ret
  exact ⟨g,cap',by rw [Zla,HN.out]; rfl,HO.out,HG.out,HB.out⟩
 ·have hcn2 : n < cap:=by omega
  go_enter Tryz.func124,Tryz.ntmps124
  go_wp2_with (at_builtin; refine wpList_append_lies _ rfl _ _ 196 rfl 0 195 i0 _ 3 40 Tryz.underlying196 hi hz0 hz1 hz2 rfl (by decide) _ _ _ rfl HR.out ⟨vb,0,none⟩ 1 1 (ic [x]) rfl rfl HX.out (ic_one _) Nat.one_pos (by unfold maxLen; omega) Om (Nat.zero_le _) _ rfl ?_)
  intro g cap' w1 hown hgrow hor _
  have HO : Hid (w1.ownsRow 0 195 3 (.slice (some ⟨g,0,none⟩) (l ++ [x]).length cap') (l ++ [x]).length (ic (l ++ [x]))):=by
   have h1 : w1.ownsRow 0 195 3 (.slice (some ⟨g,0,none⟩) (l ++ [x]).length cap') (l ++ [x]).length (ic (l ++ [x])):=by
    rw [ic_append,Zla,HN.out]
    exact hown
   exact h1
  have HB : Hid (Only (fun k => (Value.slice p n cap).ownBlock = some k) w w1):=(Only.refl _ _).grown hgrow (fun k hk => hk)
  have HG : Hid ((Value.slice p n cap).ownBlock = some g ∨ w.heap.size ≤ g):=by
   rcases hor with h | h
   ·exact Or.inl h
   ·exact Or.inr Om
  clear hown hgrow hor
  go_wp2
  go_ret
  exact ⟨g,cap',by rw [Zla,HN.out]; rfl,HO.out,HG.out,HB.out⟩
end BB
end Go.Proofs.YtmmmkjhpmlfopaaGreatDoor
