/- ZB5 ZB6 ZM82 -/
import Derived.Test.YtmmmkjhpmlfopaaGreatDoorSB02
import Derived.Shelf.Spec.SlicesInsert
import Derived.Laws.NewBlocks
set_option maxHeartbeats 8000000
set_option maxRecDepth 100000
namespace Go.Proofs.YtmmmkjhpmlfopaaGreatDoor
open Go.RowKit
namespace BB
theorem run_copy_min {P : Program} (w : World) (dT sT ty elem : TypeId) (b o dLen dCap : Nat) (ad : Addr) (sLen sCap size k : Nat) (cs : List Value)
  (hu : P.underlying dT = some (.slice elem)) (hs : (P.info? elem).map (·.size) = some size) (hk : Nat.min sLen dLen = k) (hn : cs.length = k * size)
  (hcell : ∀ j v,cs[j]? = some v → w.cell? (ad.add j) = some v) (hc : ∀ j,j < cs.length → (w.cell? ⟨b,o + j,none⟩).isSome = true) (hf : ∀ j,j < cs.length → w.frozen? ⟨b,o + j,none⟩ = false) (h1 : ∀ v ∈ cs,v.oneCell' = true) :
  (Builtin.copy_ #[dT,sT] ty #[.slice (some ⟨b,o,none⟩) dLen dCap,.slice (some ad) sLen sCap]).run P w = .ok (goInt k) (w.setCells b o cs):=by
 have hst:=run_storeCells_cells (P:=P) b o cs 0 w (by simpa using hc) (by simpa using hf) h1
 cases hq : P.info? elem with
 | none => simp [hq] at hs
 | some i =>
  have hi : i.size = size:=by simpa [hq] using hs
  have hl:=run_loadCells_list (P:=P) w ad cs hcell
  rw [hn] at hl
  simp [Builtin.copy_,run_underlying hu,Builtin.lenOf,Builtin.firstCells,sizeOf,typeInfo,hq,hi,hk,hl,hst]
theorem ic_ins (l : List It) (i : Nat) (x : It) (hi : i ≤ l.length) (k : Nat) : (ic (l.take i ++ x :: l.drop i))[k]? = if k < i * 3 then (ic l)[k]? else if k < (i + 1) * 3 then (ic [x])[k - i * 3]? else (ic (l.drop i))[k - (i + 1) * 3]?:=by
 rw [ic_append,show x :: l.drop i = [x] ++ l.drop i from rfl,ic_append]
 by_cases h : k < i * 3
 ·rw [if_pos h,List.getElem?_append_left (by rw [ic_length,List.length_take]; omega),← ic_take,List.getElem?_take_of_lt h]
 ·rw [if_neg h,List.getElem?_append_right (by rw [ic_length,List.length_take]; omega),ic_length,List.length_take,Nat.min_eq_left hi]
  by_cases h2 : k < (i + 1) * 3
  ·rw [if_pos h2,List.getElem?_append_left (by rw [ic_length]; simp; omega)]
  ·rw [if_neg h2,List.getElem?_append_right (by rw [ic_length]; simp; omega),ic_length]
   congr 1
   simp
   omega
theorem insert_shift (w : World) (b cap : Nat) (l : List It) (x : It) (i vb : Nat) (hr : w.ownsRow 0 195 3 (.slice (some ⟨b,0,none⟩) l.length cap) l.length (ic l)) (hl : l.length ≤ 1000000) (hi0 : i < l.length) (hroom : l.length + 1 ≤ cap) (hx : w.heap[vb]? = some (.cells (ic [x]).toArray 195 (0,0))) (hne : vb ≠ b) :
  Calls Tryz.prog 124 #[.slice (some ⟨b,0,none⟩) l.length cap,.int .i64 (i : Int),.slice (some ⟨vb,0,none⟩) 1 1] w (InsP w (.slice (some ⟨b,0,none⟩) l.length cap) (l.take i ++ x :: l.drop i)):=by
 obtain ⟨i0,hi,hz0,hz1,hz2⟩:=info_parts Tryz.infoItem
 have hrr:=hr
 obtain ⟨_,⟨_,h0⟩ | ⟨g,cap',cur,e,_,hg,hn,hm,hs,_⟩⟩:=hr
 ·omega
 simp only [Value.slice.injEq,Option.some.injEq,Addr.mk.injEq,and_true] at e
 obtain ⟨rfl,_,rfl⟩:=e
 have hsz : (Tryz.prog.info? 195).map (·.size) = some 3:=by rw [hi]; simp [hz1]
 obtain ⟨n,hn1⟩:=Vx l.length
 rw [hn1] at hrr hl hi0 hroom hn ⊢
 have hcs : ∀ j,j < n * 3 → w.cell? ⟨b,j,none⟩ = (ic l)[j]?:=fun j hj => hrr.cellAt j hj
 have hfz : ∀ o,w.frozen? ⟨b,o,none⟩ = false:=fun o => hrr.frozenAt o
 have hsome : ∀ t,t < cap * 3 → (w.cell? ⟨b,t,none⟩).isSome = true:=fun t ht => by
  have : t < cur.size:=by omega
  simp [World.cell?,hg,this]
 have hdl : (ic (l.drop i)).length = (n - i) * 3:=by rw [ic_length,List.length_drop,hn1]
 have hov : ∀ lb cb,(callFunc 164 #[.slice (some ⟨vb,0,none⟩) 1 1,.slice (some ⟨b,(i + 1) * 3,none⟩) lb cb]).run Tryz.prog w = .ok (.value (.bool false)) w:=fun lb cb => by
  rw [run_callFunc_extern Tryz.func164 Kr Kr Kr (e:=Extern.SlicesOverlaps.overlaps #[196,196] #[4]) Kr,
   Lib.run_overlaps_apart w 196 4 195 Tryz.underlying196 3 Tryz.sizeOf195 ⟨vb,0,none⟩ ⟨b,(i + 1) * 3,none⟩ 1 1 lb cb hne 195 195 3 cur.size (by simp [World.shape?,hx,ic]) (by simp [World.shape?,hg]) Om (by simp [World.frozen?,hx]) (by simp [World.frozen?,hx])]
  rfl
 have hcp1 : ∀ ty dc sc,(Builtin.copy_ #[196,196] ty #[.slice (some ⟨b,(i + 1) * 3,none⟩) (n - i) dc,.slice (some ⟨b,i * 3,none⟩) (n + 1 - i) sc]).run Tryz.prog w.drew = .ok (goInt ((n - i : Nat) : Int)) (w.drew.setCells b ((i + 1) * 3) (ic (l.drop i))):=fun ty dc sc =>
  run_copy_min w.drew _ _ ty 195 b ((i + 1) * 3) (n - i) dc ⟨b,i * 3,none⟩ (n + 1 - i) sc 3 (n - i) (ic (l.drop i)) Tryz.underlying196 hsz (by simp only [Nat.min_def]; split <;> omega) hdl
   (fun j v hj => by
    have hj2:=(List.getElem?_eq_some_iff.1 hj).1
    rw [hdl] at hj2
    rw [Addr.add_lit]
    show w.cell? ⟨b,i * 3 + j,none⟩ = some v
    rw [hcs _ Om,← ic_drop l i j Om]
    exact hj)
   (fun j hj => by rw [hdl] at hj; exact hsome _ Om) (fun j hj => hfz _) (ic_one _)
 obtain ⟨W1,hW1⟩ : ∃ W1,W1 = w.drew.setCells b ((i + 1) * 3) (ic (l.drop i)):=⟨_,rfl⟩
 obtain ⟨cur1,hg1,hs1⟩:=setCells_row b (ic (l.drop i)) ((i + 1) * 3) w.drew (cur:=cur) (e:=195) (fr:=(0,0)) hg
 rw [← hW1] at hg1
 have hsome1 : ∀ t,t < cap * 3 → (W1.cell? ⟨b,t,none⟩).isSome = true:=fun t ht => by
  have : t < cur1.size:=by omega
  simp [World.cell?,hg1,this]
 have hvx : ∀ j v,(ic [x])[j]? = some v → W1.cell? ⟨vb,j,none⟩ = some v:=fun j v hj => by
  rw [hW1,World.cell?_setCells_out b _ _ _ _ (fun h _ => absurd h hne)]
  have:=World.news_of_block hx j v (by simpa using hj)
  rw [Addr.add_lit,Nat.zero_add] at this
  exact this
 have hcp2 : ∀ (W : World),(∀ y,W.cell? y = W1.cell? y) → (∀ y,W.frozen? y = W1.frozen? y) → ∀ ty dc,(Builtin.copy_ #[196,196] ty #[.slice (some ⟨b,i * 3,none⟩) (n + 1 - i) dc,.slice (some ⟨vb,0,none⟩) 1 1]).run Tryz.prog W = .ok (goInt 1) (W.setCells b (i * 3) (ic [x])):=fun W hWc hWf ty dc =>
  run_copy_min W _ _ ty 195 b (i * 3) (n + 1 - i) dc ⟨vb,0,none⟩ 1 1 3 1 (ic [x]) Tryz.underlying196 hsz (by simp only [Nat.min_def]; split <;> omega) rfl
   (fun j v hj => by rw [Addr.add_lit,hWc,Nat.zero_add]; exact hvx j v hj)
   (fun j hj => by rw [hWc]; simp only [ic,List.length_cons,List.length_nil] at hj; exact hsome1 _ Om) (fun j hj => by rw [hWf]; simp [World.frozen?,hg1]) (ic_one _)
 rw [← hW1] at hcp1
 have hfin : Hid (InsP w (.slice (some ⟨b,0,none⟩) n cap) (l.take i ++ x :: l.drop i) (.returned (.slice (some ⟨b,0,none⟩) (n + 1) cap)) (W1.setCells b (i * 3) (ic [x]))):=by
  have hlen : (l.take i ++ x :: l.drop i).length = n + 1:=by rw [Zla,List.length_cons,List.length_take,List.length_drop,hn1]; omega
  obtain ⟨cur2,hg2,hs2⟩:=setCells_row b (ic [x]) (i * 3) W1 hg1
  refine ⟨b,cap,by rw [hlen],?_,Or.inl rfl,?_⟩
  ·rw [hlen]
   refine own_cells (by rw [ic_length,hlen]) hg2 hroom hm (by rw [hs2,hs1,hs]) fun t ht => ?_
   rw [ic_ins l i x Om t]
   split
   ·rename_i h
    rw [World.cell?_setCells_out b _ _ _ _ (fun _ _ => by simp only; omega),hW1,World.cell?_setCells_out b _ _ _ _ (fun _ _ => by simp only; omega)]
    exact hcs t Om
   ·rename_i h
    split
    ·rename_i h2
     have:=World.cell?_setCells_in b (ic [x]) (i * 3) W1 (fun t ht => hsome1 _ (by simp only [ic,List.length_cons,List.length_nil] at ht; omega)) (t - i * 3) (by simp only [ic,List.length_cons,List.length_nil]; omega)
     rw [show i * 3 + (t - i * 3) = t by omega] at this
     rw [this,List.getElem?_eq_getElem (by simp only [ic,List.length_cons,List.length_nil]; omega)]
    ·rename_i h2
     rw [World.cell?_setCells_out b _ _ _ _ (fun _ _ => by simp only [ic,List.length_cons,List.length_nil]; omega),hW1]
     have:=World.cell?_setCells_in b (ic (l.drop i)) ((i + 1) * 3) w.drew (fun t ht => by rw [hdl] at ht; exact hsome _ Om) (t - (i + 1) * 3) (by rw [hdl]; omega)
     rw [show (i + 1) * 3 + (t - (i + 1) * 3) = t by omega] at this
     rw [this,List.getElem?_eq_getElem (by rw [hdl]; omega)]
  ·have o1 : Only (fun k => (Value.slice (some ⟨b,0,none⟩) n cap).ownBlock = some k) w w.drew:=(Only.refl _ _).drew
   have o2:=o1.grown (setCells_grown b (ic (l.drop i)) ((i + 1) * 3) w.drew) (fun k hk => hk)
   rw [← hW1] at o2
   exact o2.grown (setCells_grown b (ic [x]) (i * 3) W1) (fun k hk => hk)
 have hz2' : ¬ ((i : Int) = (n : Int)):=by omega
 have hz3 : ¬ (cap : Int) < (n : Int) + 1:=by omega
 have hw1 : IntKind.i64.wrap ((i : Int) + 1) = (i : Int) + 1:=by rw [IntKind.wrap_i64]; omega
 have hin : i ≤ n:=by omega
 have hb0 : (0 : Int) ≤ (i : Int) + 1:=by omega
 have hb1 : (i : Int) + 1 ≤ (n : Int) + 1:=by omega
 have hb2 : ¬ (cap = i + 1):=by omega
 have hb3 : (i : Int) ≤ (n : Int) + 1:=by omega
 have hb4 : ¬ (cap = i):=by omega
 have hb5 : (n : Int) + 1 ≤ (cap : Int):=by omega
 have hb6 : (i : Int) ≤ (n : Int):=by omega
 have hcm : cap ≤ 9223372036854775807:=by unfold maxLen at hm; omega
 clear hrr hg hs hm hcs hfz hsome hg1 hs1 hsome1 hvx hn hn1 hx hdl
 go_enter Tryz.func124,Tryz.ntmps124
 go_wp2_with (simp only [hov])
 go_region_law (refine step_copy_runI rfl _ _ 196 196 rfl _ _ (by simp [Act.eval,Act.put]) (by simp [Act.eval,Act.put]) (hcp1 _ _ _) ?_)
 go_wp2_with (at_builtin; refine wpList_copy_runI _ rfl _ _ 196 196 rfl _ _ rfl rfl (hcp2 _ (fun _ => rfl) (fun _ => rfl) _ _) ?_)
 refine bodyPost_ret (v:=.slice (some ⟨b,0,none⟩) (n + 1) cap) (by simp [results,Tryz.results124,go_sem]) rfl ?_
 rw [← hW1]
 exact hfin.out
theorem insert_grow (w : World) (b cap : Nat) (l : List It) (x : It) (i vb : Nat) (hr : w.ownsRow 0 195 3 (.slice (some ⟨b,0,none⟩) l.length cap) l.length (ic l)) (hl : l.length ≤ 1000000) (hi0 : i < l.length) (hroom : cap < l.length + 1) (hx : w.heap[vb]? = some (.cells (ic [x]).toArray 195 (0,0))) :
  Calls Tryz.prog 124 #[.slice (some ⟨b,0,none⟩) l.length cap,.int .i64 (i : Int),.slice (some ⟨vb,0,none⟩) 1 1] w (InsP w (.slice (some ⟨b,0,none⟩) l.length cap) (l.take i ++ x :: l.drop i)):=by
 obtain ⟨i0,hi,hz0,hz1,hz2⟩:=info_parts Tryz.infoItem
 have hrr:=hr
 obtain ⟨_,⟨_,h0⟩ | ⟨g,cap',cur,e,_,hg,hn,hm,hs,_⟩⟩:=hr
 ·omega
 simp only [Value.slice.injEq,Option.some.injEq,Addr.mk.injEq,and_true] at e
 obtain ⟨rfl,_,rfl⟩:=e
 have hsz : (Tryz.prog.info? 195).map (·.size) = some 3:=by rw [hi]; simp [hz1]
 obtain ⟨n,hn1⟩:=Vx l.length
 rw [hn1] at hrr hl hi0 hroom hn ⊢
 obtain rfl : cap = n:=by omega
 have hbw : b < w.heap.size:=(hrr.lt b rfl).2
 have hvw : vb < w.heap.size:=(Gx hx)
 have hcs : ∀ j,j < cap * 3 → w.cell? ⟨b,j,none⟩ = (ic l)[j]?:=fun j hj => hrr.cellAt j hj
 have hdl : (ic (l.drop i)).length = (cap - i) * 3:=by rw [ic_length,List.length_drop,hn1]
 have htl : (ic (l.take i)).length = i * 3:=by rw [ic_length,List.length_take]; omega
 have hold : (Builtin.firstCells i0.size i (.slice (some ⟨b,0,none⟩) i cap)).run Tryz.prog w.drew = .ok (ic (l.take i)).toArray w.drew:=by
  rw [hz1]
  exact run_firstCells_some w.drew 3 i ⟨b,0,none⟩ i cap (ic (l.take i)) (by rw [htl]) (fun j v hj => by
   rw [Addr.add_lit,Nat.zero_add]
   rw [← ic_take,List.getElem?_take] at hj
   split at hj
   ·show w.cell? ⟨b,j,none⟩ = some v
    rw [hcs j Om]
    exact hj
   ·cases hj)
 have hrz : ∀ ty,(Builtin.append_ #[196,3] ty #[.slice (some ⟨b,0,none⟩) i cap,.int .i64 ((cap : Int) + 1 - (i : Int))]).run Tryz.prog w =
   .ok (.slice (some ⟨w.heap.size,0,none⟩) (cap + 1) (grownCap w (cap + 1) cap 195)) (w.drew.alloc (.cells ((ic (l.take i)).toArray ++ Builtin.zeroCells (Value.agg #[.string ⟨#[]⟩,.string ⟨#[]⟩,.pointer none]).cells (cap + 1 - i) ++ Builtin.zeroCells (Value.agg #[.string ⟨#[]⟩,.string ⟨#[]⟩,.pointer none]).cells (grownCap w (cap + 1) cap 195 - (cap + 1))) 195)):=fun ty => by
  have hik : i + (cap + 1 - i) = cap + 1:=by omega
  have h:=Lib.run_append_grow_zeros w 196 3 ty 195 i0 _ .i64 .i64 Tryz.underlying196 Tryz.underlying3 hi hz0 (some ⟨b,0,none⟩) i cap (ic (l.take i)) hold (cap + 1 - i) Om Om Om Om (by rw [hz2]; omega) (by rw [hz2,hik]; exact growslice_fits hroom Om)
  rw [hik] at h
  rw [show (cap : Int) + 1 - (i : Int) = ((cap + 1 - i : Nat) : Int) by omega]
  exact h
 obtain ⟨G,hG⟩ : ∃ G,G = grownCap w (cap + 1) cap 195:=⟨_,rfl⟩
 obtain ⟨ROW,hROW⟩ : ∃ ROW : Array Value,ROW = (ic (l.take i)).toArray ++ Builtin.zeroCells (Value.agg #[.string ⟨#[]⟩,.string ⟨#[]⟩,.pointer none]).cells (cap + 1 - i) ++ Builtin.zeroCells (Value.agg #[.string ⟨#[]⟩,.string ⟨#[]⟩,.pointer none]).cells (G - (cap + 1)):=⟨_,rfl⟩
 rw [← hG] at hrz
 rw [← hROW] at hrz
 have hGn : cap + 1 ≤ G:=by rw [hG]; exact grownCap_ge w _ _ _
 have hGm : G ≤ maxLen:=by
  have:=grownCap_le_maxLen w (cap + 1) cap 195 (by unfold maxLen; omega)
  rw [← hG] at this
  exact this
 have hRl : ROW.size = G * 3:=by
  rw [hROW]
  simp [Builtin.zeroCells,Value.cells,htl]
  omega
 have hRf : ∀ j,j < i * 3 → ROW[j]? = (ic l)[j]?:=fun j hj => by
  rw [hROW,Array.append_assoc,Array.getElem?_append_left (by simpa [htl] using hj)]
  simp only [List.getElem?_toArray]
  rw [← ic_take,List.getElem?_take_of_lt hj]
 obtain ⟨W1,hW1⟩ : ∃ W1,W1 = w.drew.alloc (.cells ROW 195):=⟨_,rfl⟩
 rw [← hW1] at hrz
 have hg1 : W1.heap[w.heap.size]? = some (.cells ROW 195 (0,0)):=by rw [hW1]; exact heap_alloc_new w.drew _
 have hN : ∀ j,j < G * 3 → (W1.cell? ⟨w.heap.size,j,none⟩).isSome = true:=fun j hj => by
  have : j < ROW.size:=by omega
  simp [World.cell?,hg1,this]
 have hb1' : ∀ k,k < w.heap.size → W1.heap[k]? = w.heap[k]?:=fun k hk => by rw [hW1]; exact Below.heap_alloc w.drew _ k hk
 have hvx : ∀ j v,(ic [x])[j]? = some v → W1.cell? ⟨vb,j,none⟩ = some v:=fun j v hj => by
  have:=World.news_of_block hx j v (by simpa using hj)
  rw [Addr.add_lit,Nat.zero_add] at this
  exact cell_at (hb1' vb hvw) this
 have hcpA : ∀ (W : World),(∀ y,W.cell? y = W1.cell? y) → (∀ y,W.frozen? y = W1.frozen? y) → ∀ ty dc,(Builtin.copy_ #[196,196] ty #[.slice (some ⟨w.heap.size,i * 3,none⟩) (cap + 1 - i) dc,.slice (some ⟨vb,0,none⟩) 1 1]).run Tryz.prog W = .ok (goInt 1) (W.setCells w.heap.size (i * 3) (ic [x])):=fun W hWc hWf ty dc =>
  run_copy_min W _ _ ty 195 w.heap.size (i * 3) (cap + 1 - i) dc ⟨vb,0,none⟩ 1 1 3 1 (ic [x]) Tryz.underlying196 hsz (by simp only [Nat.min_def]; split <;> omega) rfl
   (fun j v hj => by rw [Addr.add_lit,hWc,Nat.zero_add]; exact hvx j v hj)
   (fun j hj => by rw [hWc]; simp only [ic,List.length_cons,List.length_nil] at hj; exact hN _ Om) (fun j hj => by rw [hWf]; simp [World.frozen?,hg1]) (ic_one _)
 obtain ⟨W2,hW2⟩ : ∃ W2,W2 = W1.setCells w.heap.size (i * 3) (ic [x]):=⟨_,rfl⟩
 obtain ⟨cur2,hg2,hs2⟩:=setCells_row w.heap.size (ic [x]) (i * 3) W1 hg1
 rw [← hW2] at hg2
 have hN2 : ∀ j,j < G * 3 → (W2.cell? ⟨w.heap.size,j,none⟩).isSome = true:=fun j hj => by
  have : j < cur2.size:=by omega
  simp [World.cell?,hg2,this]
 have hcpB : ∀ (W : World),(∀ y,W.cell? y = W2.cell? y) → (∀ y,W.frozen? y = W2.frozen? y) → ∀ ty dc sc,(Builtin.copy_ #[196,196] ty #[.slice (some ⟨w.heap.size,(i + 1) * 3,none⟩) (cap - i) dc,.slice (some ⟨b,i * 3,none⟩) (cap - i) sc]).run Tryz.prog W = .ok (goInt ((cap - i : Nat) : Int)) (W.setCells w.heap.size ((i + 1) * 3) (ic (l.drop i))):=fun W hWc hWf ty dc sc =>
  run_copy_min W _ _ ty 195 w.heap.size ((i + 1) * 3) (cap - i) dc ⟨b,i * 3,none⟩ (cap - i) sc 3 (cap - i) (ic (l.drop i)) Tryz.underlying196 hsz (by simp only [Nat.min_def]; split <;> omega) hdl
   (fun j v hj => by
    have hj2:=(List.getElem?_eq_some_iff.1 hj).1
    rw [hdl] at hj2
    rw [Addr.add_lit,hWc,hW2,World.cell?_setCells_out _ _ _ _ _ (fun h _ => absurd h (by simp only; omega))]
    refine cell_at (hb1' b hbw) ?_
    rw [hcs _ Om,← ic_drop l i j Om]
    exact hj)
   (fun j hj => by rw [hdl] at hj; rw [hWc]; exact hN2 _ Om) (fun j hj => by rw [hWf]; simp [World.frozen?,hg2]) (ic_one _)
 have hfin : ∀ W3 : World,W3.heap = (W2.setCells w.heap.size ((i + 1) * 3) (ic (l.drop i))).heap → W3.os = w.os → W3.tape = w.tape → W3.output = w.output → InsP w (.slice (some ⟨b,0,none⟩) cap cap) (l.take i ++ x :: l.drop i) (.returned (.slice (some ⟨w.heap.size,0,none⟩) (cap + 1) G)) W3:=by
  intro W3 hh h1 h2 h3
  have hlen : (l.take i ++ x :: l.drop i).length = cap + 1:=by rw [Zla,List.length_cons,List.length_take,List.length_drop,hn1]; omega
  obtain ⟨cur3,hg3,hs3⟩:=setCells_row w.heap.size (ic (l.drop i)) ((i + 1) * 3) W2 hg2
  have hcell3 : ∀ y,W3.cell? y = (W2.setCells w.heap.size ((i + 1) * 3) (ic (l.drop i))).cell? y:=fun y => by simp only [World.cell?,hh]
  rw [← hh] at hg3
  refine ⟨w.heap.size,G,by rw [hlen],?_,Or.inr Zlr,?_⟩
  ·rw [hlen]
   refine own_cells (by rw [ic_length,hlen]) hg3 hGn hGm (by rw [hs3,hs2,hRl]) fun t ht => ?_
   rw [hcell3,ic_ins l i x Om t]
   split
   ·rename_i h
    rw [World.cell?_setCells_out _ _ _ _ _ (fun _ _ => by simp only; omega),hW2,World.cell?_setCells_out _ _ _ _ _ (fun _ _ => by simp only; omega)]
    simp only [World.cell?,hg1]
    simpa using hRf t h
   ·rename_i h
    split
    ·rename_i h2
     rw [World.cell?_setCells_out _ _ _ _ _ (fun _ _ => by simp only; omega),hW2]
     have:=World.cell?_setCells_in w.heap.size (ic [x]) (i * 3) W1 (fun t ht => hN _ (by simp only [ic,List.length_cons,List.length_nil] at ht; omega)) (t - i * 3) (by simp only [ic,List.length_cons,List.length_nil]; omega)
     rw [show i * 3 + (t - i * 3) = t by omega] at this
     rw [this,List.getElem?_eq_getElem (by simp only [ic,List.length_cons,List.length_nil]; omega)]
    ·rename_i h2
     have:=World.cell?_setCells_in w.heap.size (ic (l.drop i)) ((i + 1) * 3) W2 (fun t ht => by rw [hdl] at ht; exact hN2 _ Om) (t - (i + 1) * 3) (by rw [hdl]; omega)
     rw [show (i + 1) * 3 + (t - (i + 1) * 3) = t by omega] at this
     rw [this,List.getElem?_eq_getElem (by rw [hdl]; omega)]
  ·have gB:=setCells_grown w.heap.size (ic (l.drop i)) ((i + 1) * 3) W2
   have gA:=setCells_grown w.heap.size (ic [x]) (i * 3) W1
   rw [← hW2] at gA
   have s1 : w.heap.size ≤ W1.heap.size:=by rw [hW1]; simp
   have s2:=gA.size
   have s3:=gB.size
   refine ⟨h1,h2,h3,by rw [hh]; omega,fun k hk _ => ?_⟩
   rw [hh,gB.block k Om (fun e => by simp only [Option.some.injEq] at e; omega),gA.block k Om (fun e => by simp only [Option.some.injEq] at e; omega)]
   exact hb1' k hk
 have hfin' : Hid (∀ W3 : World,W3.heap = (W2.setCells w.heap.size ((i + 1) * 3) (ic (l.drop i))).heap → W3.os = w.os → W3.tape = w.tape → W3.output = w.output → InsP w (.slice (some ⟨b,0,none⟩) cap cap) (l.take i ++ x :: l.drop i) (.returned (.slice (some ⟨w.heap.size,0,none⟩) (cap + 1) G)) W3):=hfin
 have hz2' : ¬ ((i : Int) = (cap : Int)):=by omega
 have hz3 : (cap : Int) < (cap : Int) + 1:=by omega
 have hw1 : IntKind.i64.wrap ((i : Int) + 1) = (i : Int) + 1:=by rw [IntKind.wrap_i64]; omega
 have hin : i ≤ cap:=by omega
 have hb0 : (0 : Int) ≤ (i : Int) + 1:=by omega
 have hb4 : ¬ (cap = i):=by omega
 have hb6 : (i : Int) ≤ (cap : Int):=by omega
 have hb7 : (i : Int) ≤ (cap : Int) + 1:=by omega
 have hGi : ¬ (G = i):=by omega
 have hGim : ¬ (G = i + 1):=by omega
 have hG63 : G ≤ 9223372036854775807:=by unfold maxLen at hGm; omega
 have hcm : cap ≤ 9223372036854775807:=by omega
 have HW2 : Hid (W2 = W1.setCells w.heap.size (i * 3) (ic [x])):=hW2
 have HW1 : Hid (W1.os = w.os ∧ W1.tape = w.tape ∧ W1.output = w.output):=by rw [hW1]; exact ⟨rfl,rfl,rfl⟩
 clear hW1 hW2
 clear hrr hg hs hm hcs hg1 hn hn1 hx hdl htl hold hROW hG hRl hRf hN hb1' hvx hg2 hs2 hN2 hfin hroom hGm hi hz0 hz1 hz2 hsz hbw hvw
 go_enter Tryz.func124,Tryz.ntmps124
 go_wp2_with (first
  | (at_builtin; refine Lib.wpList_append_run _ rfl _ _ _ _ rfl _ _ rfl rfl _ _ (hrz _) ?_)
  | (at_builtin; refine wpList_copy_runI _ rfl _ _ 196 196 rfl _ _ rfl rfl (hcpA _ (fun _ => rfl) (fun _ => rfl) _ _) ?_))
 rw [← HW2.out]
 go_region_law (refine step_copy_runI rfl _ _ 196 196 rfl (.slice (some ⟨w.heap.size,(i + 1) * 3,none⟩) (cap - i) (G - (i + 1))) (.slice (some ⟨b,i * 3,none⟩) (cap - i) (cap - i)) (by simp [Act.eval,Act.put]) (by simp [Act.eval,Act.put]) (hcpB W2.drew (fun _ => rfl) (fun _ => rfl) 3 (G - (i + 1)) (cap - i)) ?_)
 go_wp2
 refine bodyPost_ret (v:=.slice (some ⟨w.heap.size,0,none⟩) (cap + 1) G) (by simp [results,Tryz.results124,go_sem]) rfl ?_
 have gB:=setCells_grown w.heap.size (ic (l.drop i)) ((i + 1) * 3) W2.drew
 have gA:=setCells_grown w.heap.size (ic [x]) (i * 3) W1
 rw [← HW2.out] at gA
 refine hfin'.out _ ?_ (gB.os.trans (gA.os.trans HW1.out.1)) (gB.tape.trans (gA.tape.trans HW1.out.2.1)) (gB.output.trans (gA.output.trans HW1.out.2.2))
 rw [← drew_setCells]
 rfl
theorem insert_any (w : World) (v : Value) (l : List It) (x : It) (i vb : Nat) (hr : w.ownsRow 0 195 3 v l.length (ic l)) (hl : l.length ≤ 1000000) (hi : i ≤ l.length) (hx : w.heap[vb]? = some (.cells (ic [x]).toArray 195 (0,0))) (hne : v.ownBlock ≠ some vb) :
  Calls Tryz.prog 124 #[v,.int .i64 (i : Int),.slice (some ⟨vb,0,none⟩) 1 1] w (InsP w v (l.take i ++ x :: l.drop i)):=by
 rcases Nat.eq_or_lt_of_le hi with e | hlt
 ·subst e
  rw [List.take_length,List.drop_length]
  exact insert_end w v l x vb hr hl hx
 ·obtain ⟨b,cap,rfl,_⟩:=irow_at hr Om
  rcases Nat.lt_or_ge cap (l.length + 1) with h | h
  ·exact insert_grow w b cap l x i vb hr hl hlt h hx
  ·exact insert_shift w b cap l x i vb hr hl hlt h hx (fun e => hne (by rw [e]; rfl))
abbrev NX:=Nd × Option Nat
def Ap (x y : NX) : Prop:=x.1.b ≠ y.1.b ∧ ∀ k,x.1.v.ownBlock = some k → y.1.v.ownBlock ≠ some k
theorem Ap.symm {x y : NX} (h : Ap x y) : Ap y x:=⟨fun e => h.1 e.symm,fun k h1 h2 => h.2 k h2 h1⟩
structure Hp (w : World) (Z : Nat → Prop) (D : List NX) : Prop where
 at_ : ∀ x ∈ D,NdAt w x.1 x.2
 zb : ∀ x ∈ D,Z x.1.b
 zr : ∀ x ∈ D,∀ k,x.1.v.ownBlock = some k → Z k
 apart : D.Pairwise Ap
theorem Hp.perm {w : World} {Z : Nat → Prop} {D D' : List NX} (h : Hp w Z D) (p : D.Perm D') : Hp w Z D' :=
 ⟨fun x hx => h.at_ x (p.mem_iff.2 hx),fun x hx => h.zb x (p.mem_iff.2 hx),fun x hx => h.zr x (p.mem_iff.2 hx),(p.pairwise_iff Ap.symm).1 h.apart⟩
theorem Hp.later {w w' : World} {Z : Nat → Prop} {D : List NX} (h : Hp w Z D) (hb : Below w.heap.size w w') : Hp w' Z D:=⟨fun x hx => (h.at_ x hx).later hb,h.zb,h.zr,h.apart⟩
theorem Hp.kept {w w' : World} {Z : Nat → Prop} {D : List NX} (h : Hp w Z D) (hk : ∀ k,k < w.heap.size → Z k → w'.heap[k]? = w.heap[k]?) : Hp w' Z D :=
 ⟨fun x hx => (h.at_ x hx).kept (hk _ (h.at_ x hx).lt (h.zb x hx)) fun k e => hk k ((h.at_ x hx).row.lt k e).2 (h.zr x hx k e),h.zb,h.zr,h.apart⟩
theorem Hp.mono {w : World} {Z Z' : Nat → Prop} {D : List NX} (h : Hp w Z D) (hz : ∀ k,k < w.heap.size → Z k → Z' k) : Hp w Z' D :=
 ⟨h.at_,fun x hx => hz _ (h.at_ x hx).lt (h.zb x hx),fun x hx k e => hz k ((h.at_ x hx).row.lt k e).2 (h.zr x hx k e),h.apart⟩
theorem Hp.head {w : World} {Z : Nat → Prop} {x : NX} {D : List NX} (h : Hp w Z (x :: D)) : NdAt w x.1 x.2:=h.at_ x (List.mem_cons_self ..)
theorem Hp.tail {w : World} {Z : Nat → Prop} {x : NX} {D : List NX} (h : Hp w Z (x :: D)) : Hp w Z D:=⟨fun y hy => h.at_ y (List.mem_cons_of_mem _ hy),fun y hy => h.zb y (List.mem_cons_of_mem _ hy),fun y hy => h.zr y (List.mem_cons_of_mem _ hy),(List.pairwise_cons.1 h.apart).2⟩
theorem ndat_ne {w : World} {n m : Nd} {nx mx : Option Nat} (h : NdAt w n nx) (g : NdAt w m mx) : m.v.ownBlock ≠ some n.b:=own_ne g.row h.cells (by decide)
theorem Hp.turn {w w' : World} {Z : Nat → Prop} {x x' : NX} {R : List NX} (h : Hp w Z (x :: R)) (hZ : ∀ k,w.heap.size ≤ k → Z k) (ho : Only (fun k => k = x.1.b ∨ x.1.v.ownBlock = some k) w w') (hn : NdAt w' x'.1 x'.2) (hb : x'.1.b = x.1.b) (hv : ∀ k,x'.1.v.ownBlock = some k → x.1.v.ownBlock = some k ∨ w.heap.size ≤ k) : Hp w' Z (x' :: R):=by
 have hx:=h.head
 have hR : ∀ y ∈ R,NdAt w' y.1 y.2:=fun y hy => by
  have hy':=h.at_ y (List.mem_cons_of_mem _ hy)
  have ha:=(List.pairwise_cons.1 h.apart).1 y hy
  refine hy'.kept (ho.block _ hy'.lt fun e => ?_) fun k e => ho.block _ (hy'.row.lt k e).2 fun e' => ?_
  ·rcases e with e | e
   ·exact ha.1 e.symm
   ·exact ndat_ne hy' hx e
  ·rcases e' with e' | e'
   ·subst e'; exact ndat_ne hx hy' e
   ·exact ha.2 k e' e
 refine ⟨fun y hy => ?_,fun y hy => ?_,fun y hy k e => ?_,List.pairwise_cons.2 ⟨fun y hy => ?_,(List.pairwise_cons.1 h.apart).2⟩⟩
 ·rcases Zmc hy with rfl | hy
  ·exact hn
  ·exact hR y hy
 ·rcases Zmc hy with rfl | hy
  ·rw [hb]; exact h.zb x (List.mem_cons_self ..)
  ·exact h.zb y (List.mem_cons_of_mem _ hy)
 ·rcases Zmc hy with rfl | hy
  ·rcases hv k e with e | e
   ·exact h.zr x (List.mem_cons_self ..) k e
   ·exact hZ k e
  ·exact h.zr y (List.mem_cons_of_mem _ hy) k e
 ·have ha:=(List.pairwise_cons.1 h.apart).1 y hy
  refine ⟨by rw [hb]; exact ha.1,fun k e e' => ?_⟩
  rcases hv k e with e | e
  ·exact ha.2 k e e'
  ·have:=((h.at_ y (List.mem_cons_of_mem _ hy)).row.lt k e').2
   omega
theorem Hp.setRow {w w' : World} {Z : Nat → Prop} {x : NX} {R : List NX} {v' : Value} {its' : List It} (h : Hp w Z (x :: R)) (hZ : ∀ k,w.heap.size ≤ k → Z k) (ho : Only (fun k => x.1.v.ownBlock = some k) w w') (hr : w'.ownsRow 0 195 3 v' its'.length (ic its')) (hv : ∀ k,v'.ownBlock = some k → x.1.v.ownBlock = some k ∨ w.heap.size ≤ k) :
  Hp (w'.setCell ⟨x.1.b,0,none⟩ v') Z ((⟨x.1.b,v',its'⟩,x.2) :: R) ∧ Only Z w (w'.setCell ⟨x.1.b,0,none⟩ v'):=by
 have hx:=h.head
 have hcell : w'.heap[x.1.b]? = some (.cells #[x.1.v,.pointer (x.2.map fun b => ⟨b,0,none⟩)] 198 (0,0)):=(ho.block _ hx.lt (ndat_ne hx hx)).trans hx.cells
 have hne : v'.ownBlock ≠ some x.1.b:=own_ne hr hcell (by decide)
 have ho2 : Only (fun k => k = x.1.b ∨ x.1.v.ownBlock = some k) w (w'.setCell ⟨x.1.b,0,none⟩ v'):=by
  have ho1 : Only (fun k => k = x.1.b ∨ x.1.v.ownBlock = some k) w w':=ho.mono fun k hk => Or.inr hk
  exact ho1.setCell (p:=⟨x.1.b,0,none⟩) (Or.inl rfl) _
 refine ⟨h.turn hZ ho2 ⟨?_,?_⟩ rfl hv,ho2.mono fun k hk => ?_⟩
 ·show (w'.setCell ⟨x.1.b,0,none⟩ v').heap[x.1.b]? = _
  rw [heap_setCell_at hcell]
  simp
 ·exact own_kept hr fun k e => Below.heap_setCell _ _ _ _ (fun e' => hne (by rw [e]; exact congrArg some e'))
 ·rcases hk with rfl | hk
  ·exact h.zb x (List.mem_cons_self ..)
  ·exact h.zr x (List.mem_cons_self ..) k hk
theorem Hp.setNext {w : World} {Z : Nat → Prop} {x : NX} {R : List NX} (h : Hp w Z (x :: R)) (hZ : ∀ k,w.heap.size ≤ k → Z k) (nx : Option Nat) :
  Hp (w.setCell ⟨x.1.b,1,none⟩ (.pointer (pOf nx))) Z ((x.1,nx) :: R) ∧ Only Z w (w.setCell ⟨x.1.b,1,none⟩ (.pointer (pOf nx))):=by
 have hx:=h.head
 have ho2 : Only (fun k => k = x.1.b ∨ x.1.v.ownBlock = some k) w (w.setCell ⟨x.1.b,1,none⟩ (.pointer (pOf nx))):=(Only.refl _ _).setCell (p:=⟨x.1.b,1,none⟩) (Or.inl rfl) _
 refine ⟨h.turn hZ ho2 ⟨?_,?_⟩ rfl fun k e => Or.inl e,ho2.mono fun k hk => ?_⟩
 ·show (w.setCell ⟨x.1.b,1,none⟩ (.pointer (pOf nx))).heap[x.1.b]? = _
  rw [heap_setCell_at hx.cells]
  simp [pOf]
 ·exact own_kept hx.row fun k e => Below.heap_setCell _ _ _ _ (fun e' => ndat_ne hx hx (by rw [e]; exact congrArg some e'))
 ·rcases hk with rfl | hk
  ·exact h.zb x (List.mem_cons_self ..)
  ·exact h.zr x (List.mem_cons_self ..) k hk
theorem Hp.setItem {w : World} {Z : Nat → Prop} {n : Nd} {nx : Option Nat} {g m cap j : Nat} {its' : List It} {u : Value} {R : List NX} (h : Hp w Z ((n,nx) :: R)) (hZ : ∀ k,w.heap.size ≤ k → Z k) (hv : n.v = .slice (some ⟨g,0,none⟩) m cap) (hl : its'.length = n.its.length) (hj : (ic n.its).set j u = ic its') :
  Hp (w.setCell ⟨g,j,none⟩ u) Z ((⟨n.b,n.v,its'⟩,nx) :: R) ∧ Only Z w (w.setCell ⟨g,j,none⟩ u):=by
 have hx:=h.head
 have hr:=hx.row
 obtain ⟨p,cp,hv2,_⟩:=irow_form hr
 rw [hv] at hv2
 simp only [Value.slice.injEq] at hv2
 obtain ⟨rfl,rfl,rfl⟩:=hv2
 simp only [hv] at hr
 have hs:=(hr.stored j u).1
 rw [hj] at hs
 have hg : n.v.ownBlock = some g:=by rw [hv]; rfl
 have hgn : g ≠ n.b:=fun e => ndat_ne hx hx (by rw [hg,e])
 have ho2 : Only (fun k => k = n.b ∨ n.v.ownBlock = some k) w (w.setCell ⟨g,j,none⟩ u):=(Only.refl _ _).setCell (p:=⟨g,j,none⟩) (Or.inr hg) _
 refine ⟨h.turn (x':=(⟨n.b,n.v,its'⟩,nx)) hZ ho2 ⟨?_,?_⟩ rfl fun k e => Or.inl e,ho2.mono fun k hk => ?_⟩
 ·show (w.setCell ⟨g,j,none⟩ u).heap[n.b]? = _
  rw [Below.heap_setCell _ _ _ _ (fun e => hgn (by simpa using e.symm))]
  exact hx.cells
 ·show (w.setCell ⟨g,j,none⟩ u).ownsRow 0 195 3 n.v its'.length (ic its')
  rw [hl,hv]
  exact hs
 ·rcases hk with rfl | hk
  ·exact h.zb _ (List.mem_cons_self ..)
  ·exact h.zr _ (List.mem_cons_self ..) k hk
theorem Hp.new {w w1 : World} {Z : Nat → Prop} {R : List NX} {v : Value} {its : List It} {B : Nat} (h : Hp w Z R) (hZ : ∀ k,w.heap.size ≤ k → Z k) (hb : Below w.heap.size w w1) (hr : w1.ownsRow B 195 3 v its.length (ic its)) (hB : w.heap.size ≤ B) (nx : Option Nat) :
  Hp (w1.alloc (.cells #[v,.pointer (pOf nx)] 198)) Z ((⟨w1.heap.size,v,its⟩,nx) :: R):=by
 have hb2 : Below w.heap.size w (w1.alloc (.cells #[v,.pointer (pOf nx)] 198)):=hb.alloc hb.size _
 have h1:=h.later hb2
 have hs:=hb.size
 have hr0 : (w1.alloc (.cells #[v,.pointer (pOf nx)] 198)).ownsRow 0 195 3 v its.length (ic its):=by
  obtain ⟨h1,h2 | ⟨g,cap,cur,e,_,hg,r⟩⟩:=hr
  ·exact ⟨h1,Or.inl h2⟩
  ·exact ⟨h1,Or.inr ⟨g,cap,cur,e,Nat.zero_le _,(Below.heap_alloc _ _ _ (Gx hg)).trans hg,r⟩⟩
 have hvk : ∀ k,v.ownBlock = some k → w.heap.size ≤ k:=fun k e => Zlt hB (hr.lt k e).1
 refine ⟨fun y hy => ?_,fun y hy => ?_,fun y hy k e => ?_,List.pairwise_cons.2 ⟨fun y hy => ⟨?_,fun k e e' => ?_⟩,h.apart⟩⟩
 ·rcases Zmc hy with rfl | hy
  ·exact ⟨heap_alloc_new w1 _,hr0⟩
  ·exact h1.at_ y hy
 ·rcases Zmc hy with rfl | hy
  ·exact hZ _ hs
  ·exact h.zb y hy
 ·rcases Zmc hy with rfl | hy
  ·exact hZ k (hvk k e)
  ·exact h.zr y hy k e
 ·have:=(h.at_ y hy).lt
  show w1.heap.size ≠ y.1.b
  omega
 ·have h1:=((h.at_ y hy).row.lt k e').2
  have h2:=hvk k e
  omega
def hd : List Nd → Option Nat → Option Nat
 | [],nx => nx
 | n :: _,_ => some n.b
def linkN (nx : Option Nat) : List Nd → List (Nd × Option Nat)
 | [] => []
 | n :: r => (n,hd r nx) :: linkN nx r
def allX (ls : List (List Nd)) : List (Nd × Option Nat):=ls.flatMap (linkN none)
theorem hd_append (A B : List Nd) (nx : Option Nat) : hd (A ++ B) nx = hd A (hd B nx):=by cases A <;> rfl
theorem linkN_append (nx : Option Nat) : ∀ (A B : List Nd),linkN nx (A ++ B) = linkN (hd B nx) A ++ linkN nx B
 | [],_ => rfl
 | n :: A,B => by
  show (n,hd (A ++ B) nx) :: linkN nx (A ++ B) = (n,hd A (hd B nx)) :: (linkN (hd B nx) A ++ linkN nx B)
  rw [linkN_append nx A B,hd_append]
theorem linkN_mem {nx : Option Nat} : ∀ {L : List Nd} {n : Nd},n ∈ L → ∃ y,(n,y) ∈ linkN nx L
 | m :: L,n,h => by
  rcases Zmc h with rfl | h
  ·exact ⟨_,List.mem_cons_self ..⟩
  ·obtain ⟨y,hy⟩:=linkN_mem (nx:=nx) h
   exact ⟨y,List.mem_cons_of_mem _ hy⟩
theorem allX_append (a b : List (List Nd)) : allX (a ++ b) = allX a ++ allX b:=by simp [allX]
theorem allX_cons (L : List Nd) (b : List (List Nd)) : allX (L :: b) = linkN none L ++ allX b:=by simp [allX]
theorem perm_one (pre post : List (List Nd)) (A C : List Nd) (n : Nd) : (allX (pre ++ (A ++ n :: C) :: post)).Perm ((n,hd C none) :: (allX pre ++ (linkN (some n.b) A ++ (linkN none C ++ allX post)))):=by
 rw [allX_append,allX_cons,linkN_append]
 show (allX pre ++ (linkN (some n.b) A ++ (n,hd C none) :: linkN none C ++ allX post)).Perm _
 rw [Zas]
 refine (List.Perm.append_left _ ?_).trans List.perm_middle
 show (linkN (some n.b) A ++ (n,hd C none) :: (linkN none C ++ allX post)).Perm ((n,hd C none) :: (linkN (some n.b) A ++ (linkN none C ++ allX post)))
 exact List.perm_middle
structure Fr where
 A : List Nd
 n : Nd
 C : List Nd
 X : List It
 it : It
 Y : List It
def Fr.lvl (f : Fr) : List Nd:=f.A ++ f.n :: f.C
structure Ctx where
 SA : List Slot
 s : Slot
 SC : List Slot
def Ctx.all (c : Ctx) : List Slot:=c.SA ++ c.s :: c.SC
def Ctx.step (c : Ctx) (f : Fr) : Ctx:=⟨slots c.SA f.A ++ nslots f.X (some f.it.key),(f.it.kid.getD 0,⟨some f.it.key,hiOf f.Y c.s.2.hi⟩),nslots f.Y c.s.2.hi ++ slots c.SC f.C⟩
structure FrOk (key : ByteArray) (c : Ctx) (f : Fr) : Prop where
 fa : Fits c.SA f.A
 nb : f.n.b = c.s.1
 ok : NodeOk f.n c.s.2
 fc : Fits c.SC f.C
 mid : ∀ n ∈ f.lvl,MidN n
 its : f.n.its = f.X ++ f.it :: f.Y
 after : ∀ y ∈ f.Y,kl key y.key = true
 ahead : f.X = [] ∨ kl key f.it.key = false
structure Loc (key : ByteArray) (c : Ctx) : Prop where
 a : ∀ t ∈ c.SA,∃ h,t.2.hi = some h ∧ kl key h = false
 hi : inHi c.s.2.hi key
 c : ∀ t ∈ c.SC,∃ l,t.2.lo = some l ∧ kl key l = true
theorem Ctx.step_all (c : Ctx) (f : Fr) (hl : c.SA.length = f.A.length) (hi : f.n.its = f.X ++ f.it :: f.Y) : slots c.all f.lvl = (c.step f).all:=by
 unfold Ctx.all Fr.lvl Ctx.step
 rw [slots_append hl]
 show slots c.SA f.A ++ (nslots f.n.its c.s.2.hi ++ slots c.SC f.C) = _
 rw [hi,nslots_append]
 simp [nslots,hiOf]
theorem nslots_hi {key : ByteArray} : ∀ {l : List It} {hi : Option ByteArray},(∀ x ∈ l,kl key x.key = false) → (∀ h,hi = some h → kl key h = false) → hi ≠ none → ∀ t ∈ nslots l hi,∃ h,t.2.hi = some h ∧ kl key h = false
 | [],_,_,_,_,t,ht => by simp [nslots] at ht
 | i :: r,hi,h1,h2,h3,t,ht => by
  rw [nslots] at ht
  rcases Zmc ht with rfl | ht
  ·cases r with
   | nil =>
    obtain ⟨h,e⟩:=Option.ne_none_iff_exists'.1 h3
    exact ⟨h,e,h2 h e⟩
   | cons j r => exact ⟨j.key,rfl,h1 j Si⟩
  ·exact nslots_hi (fun x hx => h1 x (List.mem_cons_of_mem _ hx)) h2 h3 t ht
theorem nslots_lo {key : ByteArray} : ∀ {l : List It} {hi : Option ByteArray},(∀ x ∈ l,kl key x.key = true) → ∀ t ∈ nslots l hi,∃ lo,t.2.lo = some lo ∧ kl key lo = true
 | [],_,_,t,ht => by simp [nslots] at ht
 | i :: r,hi,h1,t,ht => by
  rw [nslots] at ht
  rcases Zmc ht with rfl | ht
  ·exact ⟨i.key,rfl,h1 i Si⟩
  ·exact nslots_lo (fun x hx => h1 x (List.mem_cons_of_mem _ hx)) t ht
theorem slots_hi {key : ByteArray} : ∀ {S : List Slot} {L : List Nd},Fits S L → (∀ t ∈ S,∃ h,t.2.hi = some h ∧ kl key h = false) → ∀ t ∈ slots S L,∃ h,t.2.hi = some h ∧ kl key h = false
 | [],[],_,_,t,ht => by simp [slots] at ht
 | s :: S,n :: L,hf,h,t,ht => by
  rw [slots] at ht
  rcases Zma ht with ht | ht
  ·obtain ⟨hh,e,hk⟩:=h s Si
   refine nslots_hi (fun x hx => ?_) (fun h' e' => ?_) (by rw [e]; simp) t ht
   ·have:=(hf.1.2.mem x hx).2 hh e
    exact kl_asymm (kl_lt_le this hk)
   ·rw [e] at e'
    obtain rfl:=Option.some.inj e'
    exact hk
  ·exact slots_hi hf.2 (fun t ht => h t (List.mem_cons_of_mem _ ht)) t ht
 | [],_ :: _,hf,_,_,_ => hf.elim
 | _ :: _,[],hf,_,_,_ => hf.elim
theorem slots_lo {key : ByteArray} : ∀ {S : List Slot} {L : List Nd},Fits S L → (∀ t ∈ S,∃ l,t.2.lo = some l ∧ kl key l = true) → ∀ t ∈ slots S L,∃ l,t.2.lo = some l ∧ kl key l = true
 | [],[],_,_,t,ht => by simp [slots] at ht
 | s :: S,n :: L,hf,h,t,ht => by
  rw [slots] at ht
  rcases Zma ht with ht | ht
  ·obtain ⟨l,e,hk⟩:=h s Si
   exact nslots_lo (fun x hx => kl_lt_le hk ((hf.1.2.mem x hx).1 l e)) t ht
  ·exact slots_lo hf.2 (fun t ht => h t (List.mem_cons_of_mem _ ht)) t ht
 | [],_ :: _,hf,_,_,_ => hf.elim
 | _ :: _,[],hf,_,_,_ => hf.elim
theorem Loc.step {key : ByteArray} {c : Ctx} {f : Fr} (h : Loc key c) (hf : FrOk key c f) : Loc key (c.step f):=by
 have hs:=hf.ok.srt
 rw [hf.its] at hs
 refine ⟨fun t ht => ?_,fun x hx => ?_,fun t ht => ?_⟩
 ·rcases Zma ht with ht | ht
  ·exact slots_hi hf.fa h.a t ht
  ·rcases hf.ahead with e | e
   ·rw [e] at ht
    simp [nslots] at ht
   ·refine nslots_hi (fun x hx => ?_) (fun h' e' => ?_) Si t ht
    ·have:=(List.pairwise_append.1 hs).2.2 x hx f.it Si
     exact kl_asymm (kl_lt_le this e)
    ·obtain rfl:=Option.some.inj e'
     exact e
 ·show kl key x = true
  have hx' : hiOf f.Y c.s.2.hi = some x:=hx
  match hY : f.Y with
  | [] =>
   rw [hY] at hx'
   exact h.hi x hx'
  | y :: r =>
   rw [hY] at hx'
   obtain rfl:=Option.some.inj hx'
   exact hf.after y (by rw [hY]; simp)
 ·rcases Zma ht with ht | ht
  ·exact nslots_lo hf.after t ht
  ·exact slots_lo hf.fc h.c t ht
def ctxR (r : Slot) : List Fr → Ctx
 | [] => ⟨[],r,[]⟩
 | f :: fs => (ctxR r fs).step f
def Frs (key : ByteArray) (r : Slot) : List Fr → Prop
 | [] => True
 | f :: fs => Frs key r fs ∧ FrOk key (ctxR r fs) f
theorem Frs.loc {key : ByteArray} {r : Slot} (hr : r.2.hi = none) : ∀ {fs : List Fr},Frs key r fs → Loc key (ctxR r fs)
 | [],_ => ⟨fun t ht => by simp [ctxR] at ht,fun h e => by simp [ctxR,hr] at e,fun t ht => by simp [ctxR] at ht⟩
 | _ :: _,h => (Frs.loc hr h.1).step h.2
def lvls (fs : List Fr) : List (List Nd):=fs.reverse.map Fr.lvl
theorem lvls_cons (f : Fr) (fs : List Fr) : lvls (f :: fs) = lvls fs ++ [f.lvl]:=by simp [lvls]
theorem FrOk.fits {key : ByteArray} {c : Ctx} {f : Fr} (h : FrOk key c f) : Fits c.all f.lvl:=(fits_append h.fa.length).2 ⟨h.fa,⟨⟨h.nb,h.ok⟩,h.fc⟩⟩
theorem Frs.glue {key : ByteArray} {r : Slot} : ∀ {fs : List Fr} {low : List (List Nd)},Frs key r fs → low ≠ [] → Good (ctxR r fs).all low → Good (ctxR r []).all (lvls fs ++ low)
 | [],low,_,_,h => h
 | f :: fs,low,hf,hne,h => by
  rw [lvls_cons,Zas]
  refine Frs.glue hf.1 Si ?_
  match low,hne with
  | M :: rest,_ =>
   show Good _ (f.lvl :: M :: rest)
   rw [good_mid]
   refine ⟨hf.2.fits,hf.2.mid,?_⟩
   rw [Ctx.step_all _ f hf.2.fa.length hf.2.its]
   exact h
end BB
end Go.Proofs.YtmmmkjhpmlfopaaGreatDoor
