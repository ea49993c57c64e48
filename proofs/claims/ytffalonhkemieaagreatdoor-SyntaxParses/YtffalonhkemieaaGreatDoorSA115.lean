/- A115 A116 A117 A118 -/
import Derived.Test.YtffalonhkemieaaGreatDoorSA69
import Derived.Test.YtffalonhkemieaaGreatDoorSM136
set_option maxHeartbeats 8000000
set_option maxRecDepth 100000
namespace Go.Proofs.YtffalonhkemieaaGreatDoor
open Go.RowKit
structure RA (w : World) (P M : Nat) (r : RS) : Prop where
 ok : r.Ok
 mem : ∃ g off cap ka kc,w.heap[P]? = some (.cells #[.slice (some ⟨g,off,none⟩) r.all.length cap,Vi (r.pos : Int),.bool r.wrong,.slice ka r.many.length kc] 59 (0,0)) ∧ TR w (some ⟨g,off,none⟩) r.all ∧ g < P ∧ r.all.length ≤ cap ∧ w.ownsRow (P + 1) 3 1 (.slice ka r.many.length kc) r.many.length (r.many.map fun (n : Nat) => Value.int .i64 (n : Int)) ∧ M = ((Value.slice ka r.many.length kc).ownBlock).getD P

def Zd (P M k : Nat) : Prop:=k = P ∨ k = M

theorem RA.lt {w : World} {P M : Nat} {r : RS} (h : RA w P M r) : P < w.heap.size:=by
 obtain ⟨_,_,_,_,_,h1,_⟩:=h.mem
 exact (Gx h1)

theorem RA.ltM {w : World} {P M : Nat} {r : RS} (h : RA w P M r) : M < w.heap.size:=by
 have hP:=h.lt
 obtain ⟨g,off,cap,ka,kc,h1,h2,h3,h4,h5,rfl⟩:=h.mem
 cases hb : (Value.slice ka r.many.length kc).ownBlock with
 | none => exact hP
 | some b => exact (h5.lt b hb).2

theorem RA.keep {w W : World} {P M : Nat} {r : RS} (h : RA w P M r) (hk : ∀ k,k ≤ P → W.heap[k]? = w.heap[k]?) (hM : W.heap[M]? = w.heap[M]?) : RA W P M r:=by
 obtain ⟨g,off,cap,ka,kc,h1,h2,h3,h4,h5,rfl⟩:=h.mem
 refine ⟨h.ok,g,off,cap,ka,kc,(hk P (Nat.le_refl _)).trans h1,h2.block (hk g (Nat.le_of_lt h3)),h3,h4,own_kept h5 fun b hb => ?_,rfl⟩
 rw [hb] at hM
 exact hM

theorem RA.later {w W : World} {P M : Nat} {r : RS} (h : RA w P M r) (hb : Below w.heap.size w W) : RA W P M r:=h.keep (fun k hk => hb.block k (Nat.lt_of_le_of_lt hk h.lt)) (hb.block M h.ltM)

theorem RA.set {w : World} {P M : Nat} {r : RS} (h : RA w P M r) {p : Addr} (hp : P < p.block) (hM : p.block ≠ M) (u : Value) : RA (w.setCell p u) P M r:=h.keep (fun _ hk => Below.heap_setCell _ _ _ _ (fun e => by omega)) (Below.heap_setCell _ _ _ _ (fun e => hM e.symm))

theorem RA.cells {w : World} {P M : Nat} {r : RS} (h : RA w P M r) : ∃ g off cap ka kc,w.heap[P]? = some (.cells #[.slice (some ⟨g,off,none⟩) r.all.length cap,Vi (r.pos : Int),.bool r.wrong,.slice ka r.many.length kc] 59 (0,0)) ∧ w.cell? ⟨g,off + r.pos * 4,none⟩ = some (Vi r.ps.hd.1.1) ∧ w.cell? ⟨g,off + r.pos * 4 + 1,none⟩ = some (Vi r.ps.hd.1.2.1) ∧ w.cell? ⟨g,off + r.pos * 4 + 2,none⟩ = some (.string r.ps.hd.1.2.2) ∧ w.cell? ⟨g,off + r.pos * 4 + 3,none⟩ = some (Vi (r.ps.hd.2 : Int)) ∧ r.pos < r.all.length ∧ r.all.length ≤ cap ∧ r.all.length ≤ 1001 ∧ g < P ∧ P < w.heap.size:=by
 obtain ⟨g,off,cap,ka,kc,h1,h2,h3,h4,h5,h6⟩:=h.mem
 have hp:=h.ok.pos
 obtain ⟨b,o,e,a0,a1,a2,a3⟩:=h2 r.pos hp
 injection e with e
 injection e with e1 e2 _
 subst e1 e2
 rw [RS.hd_eq hp]
 exact ⟨g,off,cap,ka,kc,h1,a0,a1,a2,a3,hp,h4,h.ok.len,h3,h.lt⟩

theorem RA.turn {w W : World} {P M : Nat} {r : RS} (h : RA w P M r) {q : Nat} {b : Bool} (hok : RS.Ok { r with pos:=q,wrong:=b }) (hW : ∀ g off cap ka kc,w.heap[P]? = some (.cells #[.slice (some ⟨g,off,none⟩) r.all.length cap,Vi (r.pos : Int),.bool r.wrong,.slice ka r.many.length kc] 59 (0,0)) → W.heap[P]? = some (.cells #[.slice (some ⟨g,off,none⟩) r.all.length cap,Vi (q : Int),.bool b,.slice ka r.many.length kc] 59 (0,0))) (hk : ∀ g,g ≠ P → g < w.heap.size → W.heap[g]? = w.heap[g]?) : RA W P M { r with pos:=q,wrong:=b }:=by
 have hPl:=h.lt
 obtain ⟨g,off,cap,ka,kc,h1,h2,h3,h4,h5,h6⟩:=h.mem
 refine ⟨hok,g,off,cap,ka,kc,hW _ _ _ _ _ h1,h2.block (hk g (Nat.ne_of_lt h3) (by omega)),h3,h4,own_kept h5 fun k hb => hk k ?_ (h5.lt k hb).2,h6⟩
 have:=(h5.lt k hb).1
 omega

theorem Only.zd {P M M1 : Nat} {a b c : World} (h : Only (Zd P M) a b) (hm : M1 = M ∨ a.heap.size ≤ M1) (k : Only (Zd P M1) b c) : Only (Zd P M) a c :=
 ⟨k.os.trans h.os,k.tape.trans h.tape,k.output.trans h.output,Nat.le_trans h.size k.size,fun i hi hz => (k.block i (Nat.lt_of_lt_of_le hi h.size) fun z => hz (by
  rcases z with z | z
  ·exact Or.inl z
  ·rcases hm with e | e
   ·exact Or.inr (z.trans e)
   ·omega)).trans (h.block i hi hz)⟩

structure Aq (w0 : World) (P M0 M : Nat) (r : RS) (L : List (Nat × Obj)) (I : World → Prop) (w : World) : Prop where
 low : P < w0.heap.size
 lowM : M0 < w0.heap.size
 ra : RA w P M r
 only : Only (Zd P M0) w0 w
 mm : M = M0 ∨ w0.heap.size ≤ M
 has : ∀ x ∈ L,w0.heap.size ≤ x.1 ∧ x.1 ≠ M ∧ w.heap[x.1]? = some x.2
 nodup : (L.map Prod.fst).Nodup
 inv : FS w w0.heap.size (fun g => g ∈ L.map Prod.fst ∨ g = M) fun W => r.wrong = false → I W

theorem Aq.lt {w0 w : World} {P M0 M : Nat} {r : RS} {L : List (Nat × Obj)} {I : World → Prop} (h : Aq w0 P M0 M r L I w) {g : Nat} (hg : g ∈ L.map Prod.fst) : g < w.heap.size:=by
 obtain ⟨x,hx,rfl⟩:=List.mem_map.1 hg
 exact (Array.getElem?_eq_some_iff.1 (h.has x hx).2.2).1

theorem Aq.start {w : World} {P M : Nat} {r : RS} (h : RA w P M r) : Aq w P M M r [] (fun _ => True) w:=⟨h.lt,h.ltM,h,Only.refl _ _,Or.inl rfl,fun _ h => absurd h (by simp),List.nodup_nil,fun _ _ _ => trivial⟩

theorem Aq.gain {w0 w w' : World} {P M0 M M' : Nat} {r r' : RS} {L : List (Nat × Obj)} {I : World → Prop} (h : Aq w0 P M0 M r L I w) (ho : Only (Zd P M) w w') (hm : M' = M ∨ w.heap.size ≤ M') (hp : RA w' P M' r') (hr : r'.wrong = false → r.wrong = false) (J : World → Prop) (hJ : r'.wrong = false → FS w' w.heap.size (fun g => g = M') J) : Aq w0 P M0 M' r' L (fun W => I W ∧ J W) w':=by
 have hlow:=h.low
 have hsz:=h.only.size
 refine ⟨h.low,h.lowM,hp,h.only.zd h.mm ho,?_,fun x hx => ?_,h.nodup,?_⟩
 ·rcases hm with rfl | hm
  ·exact h.mm
  ·exact Or.inr (Nat.le_trans hsz hm)
 ·obtain ⟨h1,h2,h3⟩:=h.has x hx
  have hl:=(Gx h3)
  refine ⟨h1,fun e => ?_,(ho.block x.1 hl fun z => ?_).trans h3⟩
  ·rcases hm with rfl | hm
   ·exact h2 e
   ·omega
  ·rcases z with z | z
   ·omega
   ·exact h2 z
 ·have k1 : FS w' w0.heap.size (fun g => g ∈ L.map Prod.fst ∨ g = M') fun W => r.wrong = false → I W:=by
   refine h.inv.keep ho.size (fun g hg hn hl => ho.block g hl fun z => ?_) fun g hl z => ?_
   ·rcases z with z | z
    ·omega
    ·exact hn (Or.inr z)
   ·rcases z with z | z
    ·exact Or.inl z
    ·rcases hm with rfl | hm
     ·exact Or.inr z
     ·omega
  intro W hW hw
  refine ⟨k1 W hW (hr hw),hJ hw W fun g hg hn hl => hW g (Nat.le_trans hsz hg) (fun z => ?_) hl⟩
  rcases z with z | z
  ·have:=h.lt z
   omega
  ·exact hn z

theorem Aq.imp {w0 w : World} {P M0 M : Nat} {r : RS} {L : List (Nat × Obj)} {I J : World → Prop} (h : Aq w0 P M0 M r L I w) (k : ∀ W,r.wrong = false → I W → J W) : Aq w0 P M0 M r L J w:=⟨h.low,h.lowM,h.ra,h.only,h.mm,h.has,h.nodup,h.inv.imp fun W h hw => k W hw (h hw)⟩

theorem Aq.call {w0 w w' : World} {P M0 M M' : Nat} {r r' : RS} {L : List (Nat × Obj)} {I : World → Prop} (h : Aq w0 P M0 M r L I w) (ho : Only (Zd P M) w w') (hm : M' = M ∨ w.heap.size ≤ M') (hp : RA w' P M' r') (hr : r'.wrong = false → r.wrong = false) : Aq w0 P M0 M' r' L I w':=(h.gain ho hm hp hr (fun _ => True) fun _ _ _ => trivial).imp fun _ _ k => k.1

theorem Aq.bel {w0 w w' : World} {P M0 M : Nat} {r : RS} {L : List (Nat × Obj)} {I : World → Prop} (h : Aq w0 P M0 M r L I w) (hb : Below w.heap.size w w') : Aq w0 P M0 M r L I w':=h.call (Only.of hb) (Or.inl rfl) (h.ra.later hb) fun k => k

theorem Aq.push {w0 w : World} {P M0 M : Nat} {r : RS} {L : List (Nat × Obj)} {I : World → Prop} (h : Aq w0 P M0 M r L I w) (cs : Array Value) (t : TypeId) : Aq w0 P M0 M r ((w.heap.size,.cells cs t (0,0)) :: L) I (w.alloc (.cells cs t)):=by
 have hb : Below w.heap.size w (w.alloc (.cells cs t)):=(Below.refl _ _).alloc (Nat.le_refl _) _
 have k:=h.bel hb
 refine ⟨h.low,h.lowM,k.ra,k.only,k.mm,?_,?_,?_⟩
 ·intro x hx
  rcases List.mem_cons.1 hx with rfl | hx
  ·exact ⟨h.only.size,Nat.ne_of_gt h.ra.ltM,heap_alloc_new w _⟩
  ·exact k.has x hx
 ·rw [List.map_cons,List.nodup_cons]
  refine ⟨fun m => ?_,h.nodup⟩
  have:=h.lt m
  simp at this
 ·exact h.inv.keep hb.size (fun g _ _ hl => hb.block g hl) fun g hl m => by
   rw [List.map_cons,List.mem_cons] at m
   rcases m with (m | m) | m
   ·simp at m
    omega
   ·exact Or.inl m
   ·exact Or.inr m

theorem Aq.pushE {w0 w : World} {P M0 M : Nat} {r : RS} {L : List (Nat × Obj)} {I : World → Prop} (h : Aq w0 P M0 M r L I w) (cs : Array Value) (t : TypeId) : ∃ W,w.alloc (.cells cs t) = W ∧ Hid (Aq w0 P M0 M r ((w.heap.size,.cells cs t (0,0)) :: L) I W):=⟨_,rfl,h.push cs t⟩

theorem Aq.at {w0 w : World} {P M0 M : Nat} {r : RS} {L : List (Nat × Obj)} {I : World → Prop} (h : Aq w0 P M0 M r L I w) (k : Nat) {b : Nat} {o : Obj} (hk : L[k]? = some (b,o)) : w.heap[b]? = some o:=(h.has _ (List.mem_of_getElem? hk)).2.2

theorem Aq.put {w0 w : World} {P M0 M : Nat} {r : RS} {L : List (Nat × Obj)} {I : World → Prop} (h : Aq w0 P M0 M r L I w) (k : Nat) {b : Nat} {cs : Array Value} {t : TypeId} (hk : L[k]? = some (b,.cells cs t (0,0))) (i : Nat) (v : Value) : Aq w0 P M0 M r (L.set k (b,.cells (cs.setIfInBounds i v) t (0,0))) I (w.setCell ⟨b,i,none⟩ v):=by
 have hm:=List.mem_of_getElem? hk
 have hb:=h.has _ hm
 have hlow:=h.low
 have hmm:=map_set (o':=.cells (cs.setIfInBounds i v) t (0,0)) hk
 refine ⟨h.low,h.lowM,h.ra.set (p:=⟨b,i,none⟩) (Nat.lt_of_lt_of_le hlow hb.1) hb.2.1 _,h.only.setNew (p:=⟨b,i,none⟩) hb.1 _,h.mm,?_,?_,?_⟩
 ·intro x hx
  obtain ⟨j,hj⟩:=List.mem_iff_getElem?.1 hx
  rw [List.getElem?_set] at hj
  by_cases e : k = j
  ·rw [if_pos e] at hj
   split at hj
   ·injection hj with hj
    subst hj
    exact ⟨hb.1,hb.2.1,set_at hb.2.2 v⟩
   ·exact absurd hj (by simp)
  ·rw [if_neg e] at hj
   have hx':=h.has x (List.mem_of_getElem? hj)
   refine ⟨hx'.1,hx'.2.1,(set_off v fun eb => e ?_).trans hx'.2.2⟩
   have h1 : (L.map Prod.fst)[k]? = some b:=by simp [hk]
   have h2 : (L.map Prod.fst)[j]? = some b:=by simp [hj,eb]
   exact (List.getElem?_inj (List.getElem?_eq_some_iff.1 h1).1 h.nodup).1 (h1.trans h2.symm)
 ·rw [hmm]
  exact h.nodup
 ·rw [hmm]
  exact h.inv.keep (Nat.le_of_eq (set_size _ _ _).symm) (fun g _ hn _ => set_off v fun e => hn (by rw [e]; exact Or.inl (List.mem_map.2 ⟨_,hm,rfl⟩))) fun _ _ m => m

theorem Aq.puts {w0 : World} {P M0 M : Nat} {r : RS} {I : World → Prop} (k : Nat) {b : Nat} {t : TypeId} : ∀ (vs : List Value) {w : World} {L : List (Nat × Obj)} {cs : Array Value} (i : Nat),Aq w0 P M0 M r L I w → L[k]? = some (b,.cells cs t (0,0)) → Aq w0 P M0 M r (L.set k (b,.cells (putsA cs i vs) t (0,0))) I (setsL w b i vs)
 | [],w,L,cs,i,h,hk => by
  have e : L.set k (b,.cells (putsA cs i []) t (0,0)) = L:=by
   apply List.ext_getElem?
   intro j
   rw [List.getElem?_set]
   split
   ·rename_i e
    subst e
    rw [hk]
    simp [(List.getElem?_eq_some_iff.1 hk).1,putsA]
   ·rfl
  rw [e]
  exact h
 | v :: vs,w,L,cs,i,h,hk => by
  have h1:=h.put k hk i v
  have hl:=(List.getElem?_eq_some_iff.1 hk).1
  have h2:=Aq.puts (b:=b) (t:=t) (cs:=cs.setIfInBounds i v) k vs (i + 1) h1 (by rw [List.getElem?_set]; simp [hl])
  rw [List.set_set] at h2
  exact h2

theorem Aq.fill {w0 w : World} {P M0 M : Nat} {r : RS} {L : List (Nat × Obj)} {I : World → Prop} (h : Aq w0 P M0 M r L I w) (k : Nat) {b : Nat} {cs : Array Value} {t : TypeId} (hk : L[k]? = some (b,.cells cs t (0,0))) (vs : List Value) (hl : vs.length = cs.size) : Aq w0 P M0 M r (L.set k (b,.cells vs.toArray t (0,0))) I (setsL w b 0 vs):=by
 have e : putsA cs 0 vs = vs.toArray:=by
  apply Array.toList_inj.1
  rw [putsA_list vs cs 0 (by omega)]
  simp [hl]
 have:=Aq.puts k vs 0 h hk
 rw [e] at this
 exact this

theorem Aq.own {w0 w : World} {P M0 M : Nat} {r : RS} {L : List (Nat × Obj)} {I J : World → Prop} {b : Nat} {o : Obj} (h : Aq w0 P M0 M r ((b,o) :: L) I w) (k : ∀ W,I W → W.heap[b]? = some o → J W) : Aq w0 P M0 M r L J w:=by
 have hn:=h.nodup
 rw [List.map_cons,List.nodup_cons] at hn
 have hb:=h.has (b,o) (by simp)
 refine ⟨h.low,h.lowM,h.ra,h.only,h.mm,fun x hx => h.has x (List.mem_cons_of_mem _ hx),hn.2,fun W hW hw => k W (h.inv W (fun g hg hm hl => hW g hg (fun m => hm ?_) hl) hw) ?_⟩
 ·rw [List.map_cons]
  rcases m with m | m
  ·exact Or.inl (List.mem_cons_of_mem _ m)
  ·exact Or.inr m
 ·refine (hW b hb.1 (fun m => ?_) (Gx hb.2.2)).trans hb.2.2
  rcases m with m | m
  ·exact hn.1 m
  ·exact hb.2.1 m

theorem Aq.drop {w0 w : World} {P M0 M : Nat} {r : RS} {L : List (Nat × Obj)} {I : World → Prop} {b : Nat} {o : Obj} (h : Aq w0 P M0 M r ((b,o) :: L) I w) : Aq w0 P M0 M r L I w:=h.own fun _ h _ => h

theorem qnext_any (P M : Nat) (r : RS) (w : World) (h : RA w P M r) : Calls Tryz.prog 24 #[.pointer (some ⟨P,0,none⟩)] w fun e w' => e = .returned (tkA r.ps.hd.1 (r.ps.hd.2 : Int)) ∧ Below w.heap.size w w':=by
 obtain ⟨g,off,cap,ka,kc,h1,t0,t1,t2,t3,hn,hc,hl,hg,hP⟩:=h.cells
 have zc:=four_of h1
 have hni : (r.pos : Int) < (r.all.length : Int):=by omega
 obtain ⟨⟨⟨k,n,t⟩,a⟩,hh⟩ : ∃ x,r.ps.hd = x:=⟨_,rfl⟩
 rw [hh] at t0 t1 t2 t3 ⊢
 have hg2 : g < w.heap.size:=by omega
 clear hh h1 h
 go_enter Tryz.func24,Tryz.ntmps24
 go_wp2
 go_region
 all_goals
  go_wp2
  exact bodyPost_ret (v:=tkA (k,n,t) (a : Int)) (by simp [results,Tryz.results24,go_sem,tkA]) rfl ⟨rfl,by (repeat (first|exact Bxr _ _|assumption|apply Bxd|apply Bxa|apply Bxs|refine Bxt ?_ (by assumption) ?_|omega|simp))⟩

theorem qnh (P M : Nat) {r : RS} {a b : Int} {c : ByteArray} {d : Nat} (hh : r.ps.hd = ((a,b,c),d)) : Hid (∀ W,RA W P M r → Calls Tryz.prog 24 #[.pointer (some ⟨P,0,none⟩)] W fun e w' => e = .returned (.agg (Vk a b c d)) ∧ Below W.heap.size W w'):=fun W hW => by have:=qnext_any P M r W hW; rw [hh] at this; exact this

theorem qis_any (P M : Nat) (r : RS) (x : ByteArray) (w : World) (h : RA w P M r) : Calls Tryz.prog 109 #[.pointer (some ⟨P,0,none⟩),.string x] w fun e w' => e = .returned (.bool (r.sees x.data.toList)) ∧ Below w.heap.size w w':=by
 obtain ⟨g,off,cap,ka,kc,h1,t0,t1,t2,t3,hn,hc,hl,hg,hP⟩:=h.cells
 obtain ⟨⟨c0,c1,c2,c3⟩,f0,f1,f2,f3⟩:=four_of h1
 have hni : (r.pos : Int) < (r.all.length : Int):=by omega
 obtain ⟨⟨⟨k,n,t⟩,a⟩,hh⟩ : ∃ x,r.ps.hd = x:=⟨_,rfl⟩
 have hsv : r.sees x.data.toList = (!r.wrong && ((decide (k = 4) || decide (k = 7)) && (t.data.toList == x.data.toList))):=by unfold RS.sees PS.sees; rw [hh]
 rw [hh] at t0 t1 t2 t3
 have hg2 : g < w.heap.size:=by omega
 obtain ⟨b,hb0⟩:=Vx (t.data.toList == x.data.toList)
 have hbt : (t.toList == x.toList) = b:=by rw [ByteArray.toList_eq,ByteArray.toList_eq]; exact hb0
 rw [hb0] at hsv
 clear hh h1 h hb0
 cases hw : r.wrong with
 | true =>
  rw [hw] at c2 hsv
  have HV : Hid (r.sees x.data.toList = false):=by show r.sees x.data.toList = false; rw [hsv]; simp
  clear hsv hw hbt
  go_enter Tryz.func109,Tryz.ntmps109
  go_wp2
  go_region
  all_goals
   go_wp2
   exact bodyPost_ret (v:=.bool false) (by simp [results,Tryz.results109,go_sem]) rfl ⟨by rw [HV.out],by (repeat (first|exact Bxr _ _|assumption|apply Bxd|apply Bxa|apply Bxs|refine Bxt ?_ (by assumption) ?_|omega|simp))⟩
 | false =>
  rw [hw] at c2 hsv
  by_cases k4 : k = 4
  ·subst k4
   have HV : Hid (r.sees x.data.toList = b):=by show r.sees x.data.toList = b; rw [hsv]; simp
   clear hsv hw
   go_enter Tryz.func109,Tryz.ntmps109
   go_wp2
   go_region
   all_goals
    go_wp2
    exact bodyPost_ret (v:=.bool b) (by simp [results,Tryz.results109,go_sem]) rfl ⟨by rw [HV.out],by (repeat (first|exact Bxr _ _|assumption|apply Bxd|apply Bxa|apply Bxs|refine Bxt ?_ (by assumption) ?_|omega|simp))⟩
  ·have e4 : (k == 4) = false:=by simpa using k4
   by_cases k7 : k = 7
   ·subst k7
    have HV : Hid (r.sees x.data.toList = b):=by show r.sees x.data.toList = b; rw [hsv]; simp
    clear hsv hw k4
    go_enter Tryz.func109,Tryz.ntmps109
    go_wp2
    go_region
    all_goals
     go_wp2
     exact bodyPost_ret (v:=.bool b) (by simp [results,Tryz.results109,go_sem]) rfl ⟨by rw [HV.out],by (repeat (first|exact Bxr _ _|assumption|apply Bxd|apply Bxa|apply Bxs|refine Bxt ?_ (by assumption) ?_|omega|simp))⟩
   ·have e7 : (k == 7) = false:=by simpa using k7
    have HV : Hid (r.sees x.data.toList = false):=by show r.sees x.data.toList = false; rw [hsv]; simp [k4,k7]
    clear hsv hw k4 k7 hbt
    go_enter Tryz.func109,Tryz.ntmps109
    go_wp2
    go_region
    all_goals
     go_wp2
     exact bodyPost_ret (v:=.bool false) (by simp [results,Tryz.results109,go_sem]) rfl ⟨by rw [HV.out],by (repeat (first|exact Bxr _ _|assumption|apply Bxd|apply Bxa|apply Bxs|refine Bxt ?_ (by assumption) ?_|omega|simp))⟩

theorem RA.toStep {w W : World} {P M : Nat} {r : RS} (h : RA w P M r) (hk : r.ps.hd.1.1 ≠ 1) (hW : ∀ g off cap ka kc,w.heap[P]? = some (.cells #[.slice (some ⟨g,off,none⟩) r.all.length cap,Vi (r.pos : Int),.bool r.wrong,.slice ka r.many.length kc] 59 (0,0)) → W.heap[P]? = some (.cells #[.slice (some ⟨g,off,none⟩) r.all.length cap,Vi ((r.pos + 1 : Nat) : Int),.bool r.wrong,.slice ka r.many.length kc] 59 (0,0))) (hb : ∀ g,g ≠ P → g < w.heap.size → W.heap[g]? = w.heap[g]?) : RA W P M r.step:=h.turn (q:=r.pos + 1) (b:=r.wrong) (h.ok.step hk) hW hb

theorem RA.toStop {w W : World} {P M : Nat} {r : RS} (h : RA w P M r) (hW : ∀ g off cap ka kc,w.heap[P]? = some (.cells #[.slice (some ⟨g,off,none⟩) r.all.length cap,Vi (r.pos : Int),.bool r.wrong,.slice ka r.many.length kc] 59 (0,0)) → W.heap[P]? = some (.cells #[.slice (some ⟨g,off,none⟩) r.all.length cap,Vi (r.pos : Int),.bool true,.slice ka r.many.length kc] 59 (0,0))) (hb : ∀ g,g ≠ P → g < w.heap.size → W.heap[g]? = w.heap[g]?) : RA W P M r.stop:=h.turn (q:=r.pos) (b:=true) h.ok.stop hW hb

theorem RA.stepAt {w : World} {P M : Nat} {r : RS} (h : RA w P M r) (hk : r.ps.hd.1.1 ≠ 1) : RA (w.setCell ⟨P,1,none⟩ (Vi ((r.pos : Int) + 1))) P M r.step:=by
 refine h.toStep hk (fun g off cap ka kc h1 => ?_) fun g hg _ => set_off _ hg
 have:=set_at (i:=1) h1 (Vi ((r.pos : Int) + 1))
 rw [this]
 simp

theorem RA.stopAt {w : World} {P M : Nat} {r : RS} (h : RA w P M r) : RA (w.setCell ⟨P,2,none⟩ (.bool true)) P M r.stop:=by
 refine h.toStop (fun g off cap ka kc h1 => ?_) fun g hg _ => set_off _ hg
 have:=set_at (i:=2) h1 (.bool true)
 rw [this]
 simp

theorem Only.at1 {w0 w : World} {P M i : Nat} (h : Only (Zd P M) w0 w) (v : Value) : Only (Zd P M) w0 (w.setCell ⟨P,i,none⟩ v):=Only.setCell (Z:=Zd P M) h (p:=⟨P,i,none⟩) (Or.inl rfl) v

theorem qtakes_any (P M : Nat) (r : RS) (x : ByteArray) (w : World) (h : RA w P M r) : Calls Tryz.prog 60 #[.pointer (some ⟨P,0,none⟩),.string x] w fun e w' => e = .returned (.bool (r.sees x.data.toList)) ∧ RA w' P M (if r.sees x.data.toList = true then r.step else r) ∧ Only (Zd P M) w w':=by
 have HP:=Hd h
 clear h
 have hse:=qis_any P M r x
 cases hb : r.sees x.data.toList with
 | false =>
  rw [hb] at hse
  have HS:=Hd hse
  clear hse hb
  go_enter Tryz.func60,Tryz.ntmps60
  go_wp2_with fail
  refine (HS.out _ HP.out).mono ?_
  rintro e w' ⟨rfl,hb⟩
  have HB:=Hd hb
  clear hb
  go_wp2
  exact bodyPost_ret (v:=.bool false) (by simp [results,Tryz.results60,go_sem]) rfl ⟨rfl,HP.out.later HB.out,Only.of HB.out⟩
 | true =>
  rw [hb] at hse
  have HS:=Hd hse
  have HK:=Hd (RS.seen_ok (RS.sees_true hb).2)
  clear hse hb
  go_enter Tryz.func60,Tryz.ntmps60
  go_wp2_with fail
  refine (HS.out _ HP.out).mono ?_
  rintro e w' ⟨rfl,hb⟩
  have HB:=Hd hb
  have HQ:=Hd (HP.out.later hb)
  obtain ⟨g,off,cap,ka,kc,h1,-,-,-,-,hn,hc,hl,hg,hPl⟩:=HQ.out.cells
  have zc:=four_of h1
  have hni : (r.pos : Int) + 1 ≤ 1001:=by omega
  clear hb h1
  go_wp2
  exact bodyPost_ret (v:=.bool true) (by simp [results,Tryz.results60,go_sem]) rfl ⟨rfl,HQ.out.stepAt HK.out,(Only.of HB.out).at1 _⟩

theorem qwants_any (P M : Nat) (r : RS) (x : ByteArray) (w : World) (h : RA w P M r) : Calls Tryz.prog 100 #[.pointer (some ⟨P,0,none⟩),.string x] w fun e w' => e = .returned (.tuple #[]) ∧ RA w' P M (if r.sees x.data.toList = true then r.step else r.stop) ∧ Only (Zd P M) w w':=by
 have HP:=Hd h
 clear h
 have hse:=qtakes_any P M r x
 cases hb : r.sees x.data.toList with
 | true =>
  rw [hb] at hse
  have HS:=Hd hse
  clear hse hb
  go_enter Tryz.func100,Tryz.ntmps100
  go_wp2_with fail
  refine (HS.out _ HP.out).mono ?_
  rintro e w' ⟨rfl,hp,ho⟩
  have HB:=Hd ho
  have HQ:=Hd hp
  clear hp ho
  go_wp2
  go_end0
  exact ⟨rfl,HQ.out,HB.out⟩
 | false =>
  rw [hb] at hse
  have HS:=Hd hse
  clear hse hb
  go_enter Tryz.func100,Tryz.ntmps100
  go_wp2_with fail
  refine (HS.out _ HP.out).mono ?_
  rintro e w' ⟨rfl,hp,ho⟩
  rw [if_neg (by decide)] at hp
  have HB:=Hd ho
  have HQ:=Hd hp
  obtain ⟨g,off,cap,ka,kc,h1,-,-,-,-,hn,hc,hl,hg,hPl⟩:=HQ.out.cells
  have zc:=four_of h1
  clear hp ho h1
  go_wp2
  go_end0
  exact ⟨rfl,HQ.out.stopAt,HB.out.at1 _⟩

def KP (k : Int) (v : T → Value) (z : Value) (P M : Nat) (r : RS) (w : World) (e : Ending) (w' : World) : Prop:=e = .returned (if r.isK k = true then v r.ps.hd else z) ∧ RA w' P M (if r.isK k = true then r.step else r.stop) ∧ Only (Zd P M) w w'

theorem qname_any (P M : Nat) (r : RS) (w : World) (h : RA w P M r) : Calls Tryz.prog 101 #[.pointer (some ⟨P,0,none⟩)] w (KP 3 (fun t => .string t.1.2.2) Vs P M r w):=by
 have HP:=Hd h
 obtain ⟨⟨⟨k,n,t⟩,a⟩,hh⟩ : ∃ x,r.ps.hd = x:=⟨_,rfl⟩
 have hct:=qnext_any P M r
 rw [hh] at hct
 unfold tkA at hct
 have HT:=Hd hct
 have HH:=Hd hh
 obtain ⟨g,off,cap,ka,kc,h1,-,-,-,-,hn,hc,hl,hg,hPl⟩:=h.cells
 have H1:=Hd h1
 have hni : (r.pos : Int) + 1 ≤ 1001:=by omega
 have hisk : r.isK 3 = (!r.wrong && decide (k = 3)):=by unfold RS.isK; rw [hh]
 clear hct hh h h1
 have key : ∀ (b : Bool) (W : World),r.isK 3 = b → RA W P M (if b = true then r.step else r.stop) → Only (Zd P M) w W → KP 3 (fun t => .string t.1.2.2) Vs P M r w (.returned (if b = true then (.string t) else .string ⟨#[]⟩)) W:=by
  intro b W hb hp ho
  unfold KP
  rw [hb,HH.out]
  exact ⟨rfl,hp,ho⟩
 have HKEY:=Hd key
 clear key
 cases hw : r.wrong with
 | true =>
  rw [hw] at hisk H1
  have HV : Hid (r.isK 3 = false):=by show r.isK 3 = false; rw [hisk]; rfl
  clear hisk hw
  go_enter Tryz.func101,Tryz.ntmps101
  go_wp2_with fail
  refine (HT.out _ HP.out).mono ?_
  rintro e w' ⟨rfl,hb⟩
  have HB:=Hd hb
  have HQ:=Hd (HP.out.later hb)
  have zc:=four_of ((hb.block P hPl).trans H1.out)
  have hPw : P < w'.heap.size:=Nat.lt_of_lt_of_le hPl hb.size
  clear hb
  go_wp2
  refine bodyPost_ret (v:=.string ⟨#[]⟩) (by simp [results,Tryz.results101,go_sem]) rfl (HKEY.out false _ HV.out ?_ ?_)
  ·exact HQ.out.stopAt.later ((Below.refl _ _).alloc (Nat.le_refl _) _)
  ·exact ((Only.of HB.out).at1 _).alloc _
 | false =>
  rw [hw] at hisk H1
  by_cases he : k = 3
  ·have HV : Hid (r.isK 3 = true):=by show r.isK 3 = true; rw [hisk,he]; rfl
   have HK : Hid (r.ps.hd.1.1 ≠ 1):=by show r.ps.hd.1.1 ≠ 1; rw [HH.out,he]; simp
   have hei : (k != 3) = false:=by rw [he]; rfl
   clear hisk hw he
   go_enter Tryz.func101,Tryz.ntmps101
   go_wp2_with fail
   refine (HT.out _ HP.out).mono ?_
   rintro e w' ⟨rfl,hb⟩
   have HB:=Hd hb
   have HQ:=Hd (HP.out.later hb)
   have zc:=four_of ((hb.block P hPl).trans H1.out)
   have hPw : P < w'.heap.size:=Nat.lt_of_lt_of_le hPl hb.size
   clear hb
   go_wp2
   refine bodyPost_ret (v:=.string t) (by simp [results,Tryz.results101,go_sem]) rfl (HKEY.out true _ HV.out ?_ ?_)
   ·exact (HQ.out.stepAt HK.out).later ((Below.refl _ _).alloc (Nat.le_refl _) _)
   ·exact ((Only.of HB.out).at1 _).alloc _
  ·have HV : Hid (r.isK 3 = false):=by show r.isK 3 = false; rw [hisk]; simp [he]
   have hei : (k != 3) = true:=by simpa using he
   clear hisk hw he
   go_enter Tryz.func101,Tryz.ntmps101
   go_wp2_with fail
   refine (HT.out _ HP.out).mono ?_
   rintro e w' ⟨rfl,hb⟩
   have HB:=Hd hb
   have HQ:=Hd (HP.out.later hb)
   have zc:=four_of ((hb.block P hPl).trans H1.out)
   have hPw : P < w'.heap.size:=Nat.lt_of_lt_of_le hPl hb.size
   clear hb
   go_wp2
   refine bodyPost_ret (v:=.string ⟨#[]⟩) (by simp [results,Tryz.results101,go_sem]) rfl (HKEY.out false _ HV.out ?_ ?_)
   ·exact HQ.out.stopAt.later ((Below.refl _ _).alloc (Nat.le_refl _) _)
   ·exact ((Only.of HB.out).at1 _).alloc _

theorem qnumber_any (P M : Nat) (r : RS) (w : World) (h : RA w P M r) : Calls Tryz.prog 108 #[.pointer (some ⟨P,0,none⟩)] w (KP 2 (fun t => Vi t.1.2.1) (Vi 0) P M r w):=by
 have HP:=Hd h
 obtain ⟨⟨⟨k,n,t⟩,a⟩,hh⟩ : ∃ x,r.ps.hd = x:=⟨_,rfl⟩
 have hct:=qnext_any P M r
 rw [hh] at hct
 unfold tkA at hct
 have HT:=Hd hct
 have HH:=Hd hh
 obtain ⟨g,off,cap,ka,kc,h1,-,-,-,-,hn,hc,hl,hg,hPl⟩:=h.cells
 have H1:=Hd h1
 have hni : (r.pos : Int) + 1 ≤ 1001:=by omega
 have hisk : r.isK 2 = (!r.wrong && decide (k = 2)):=by unfold RS.isK; rw [hh]
 clear hct hh h h1
 have key : ∀ (b : Bool) (W : World),r.isK 2 = b → RA W P M (if b = true then r.step else r.stop) → Only (Zd P M) w W → KP 2 (fun t => Vi t.1.2.1) (Vi 0) P M r w (.returned (if b = true then (Vi n) else Vi 0)) W:=by
  intro b W hb hp ho
  unfold KP
  rw [hb,HH.out]
  exact ⟨rfl,hp,ho⟩
 have HKEY:=Hd key
 clear key
 cases hw : r.wrong with
 | true =>
  rw [hw] at hisk H1
  have HV : Hid (r.isK 2 = false):=by show r.isK 2 = false; rw [hisk]; rfl
  clear hisk hw
  go_enter Tryz.func108,Tryz.ntmps108
  go_wp2_with fail
  refine (HT.out _ HP.out).mono ?_
  rintro e w' ⟨rfl,hb⟩
  have HB:=Hd hb
  have HQ:=Hd (HP.out.later hb)
  have zc:=four_of ((hb.block P hPl).trans H1.out)
  have hPw : P < w'.heap.size:=Nat.lt_of_lt_of_le hPl hb.size
  clear hb
  go_wp2
  refine bodyPost_ret (v:=Vi 0) (by simp [results,Tryz.results108,go_sem]) rfl (HKEY.out false _ HV.out ?_ ?_)
  ·exact HQ.out.stopAt.later ((Below.refl _ _).alloc (Nat.le_refl _) _)
  ·exact ((Only.of HB.out).at1 _).alloc _
 | false =>
  rw [hw] at hisk H1
  by_cases he : k = 2
  ·have HV : Hid (r.isK 2 = true):=by show r.isK 2 = true; rw [hisk,he]; rfl
   have HK : Hid (r.ps.hd.1.1 ≠ 1):=by show r.ps.hd.1.1 ≠ 1; rw [HH.out,he]; simp
   have hei : (k != 2) = false:=by rw [he]; rfl
   clear hisk hw he
   go_enter Tryz.func108,Tryz.ntmps108
   go_wp2_with fail
   refine (HT.out _ HP.out).mono ?_
   rintro e w' ⟨rfl,hb⟩
   have HB:=Hd hb
   have HQ:=Hd (HP.out.later hb)
   have zc:=four_of ((hb.block P hPl).trans H1.out)
   have hPw : P < w'.heap.size:=Nat.lt_of_lt_of_le hPl hb.size
   clear hb
   go_wp2
   refine bodyPost_ret (v:=Vi n) (by simp [results,Tryz.results108,go_sem]) rfl (HKEY.out true _ HV.out ?_ ?_)
   ·exact (HQ.out.stepAt HK.out).later ((Below.refl _ _).alloc (Nat.le_refl _) _)
   ·exact ((Only.of HB.out).at1 _).alloc _
  ·have HV : Hid (r.isK 2 = false):=by show r.isK 2 = false; rw [hisk]; simp [he]
   have hei : (k != 2) = true:=by simpa using he
   clear hisk hw he
   go_enter Tryz.func108,Tryz.ntmps108
   go_wp2_with fail
   refine (HT.out _ HP.out).mono ?_
   rintro e w' ⟨rfl,hb⟩
   have HB:=Hd hb
   have HQ:=Hd (HP.out.later hb)
   have zc:=four_of ((hb.block P hPl).trans H1.out)
   have hPw : P < w'.heap.size:=Nat.lt_of_lt_of_le hPl hb.size
   clear hb
   go_wp2
   refine bodyPost_ret (v:=Vi 0) (by simp [results,Tryz.results108,go_sem]) rfl (HKEY.out false _ HV.out ?_ ?_)
   ·exact HQ.out.stopAt.later ((Below.refl _ _).alloc (Nat.le_refl _) _)
   ·exact ((Only.of HB.out).at1 _).alloc _

theorem Tryz.infoIntQ : (Tryz.prog.info? 3).map (fun i => (i.zero,i.size,i.bytes)) = some (some (Vi 0),1,8):=by kernel_rfl

theorem RA.row {w : World} {P M : Nat} {r : RS} (h : RA w P M r) : ∃ g off cap ka kc,w.heap[P]? = some (.cells #[.slice (some ⟨g,off,none⟩) r.all.length cap,Vi (r.pos : Int),.bool r.wrong,.slice ka r.many.length kc] 59 (0,0)) ∧ w.ownsRow (P + 1) 3 1 (.slice ka r.many.length kc) r.many.length (r.many.map fun (n : Nat) => Value.int .i64 (n : Int)) ∧ M = ((Value.slice ka r.many.length kc).ownBlock).getD P ∧ P < w.heap.size ∧ (Value.slice ka r.many.length kc).ownBlock ≠ some P ∧ (∀ k,k ≠ M → k ≠ P → some k ≠ (Value.slice ka r.many.length kc).ownBlock) ∧ TR w (some ⟨g,off,none⟩) r.all ∧ g < P ∧ r.all.length ≤ cap:=by
 have hP:=h.lt
 obtain ⟨g,off,cap,ka,kc,h1,h2,h3,h4,h5,h6⟩:=h.mem
 refine ⟨g,off,cap,ka,kc,h1,h5,h6,hP,fun e => ?_,fun k hk hkP e => hk ?_,h2,h3,h4⟩
 ·have:=(h5.lt P e).1
  omega
 ·rw [h6,← e]
  rfl

theorem qcounts_any (P M : Nat) (r : RS) (n most : Nat) (w : World) (h : RA w P M r) (hc : n = most → r.many.length < r.pos) : Calls Tryz.prog 102 #[.pointer (some ⟨P,0,none⟩),Vi (n : Int),Vi (most : Int)] w fun e w' => e = .returned (.tuple #[]) ∧ ∃ M',RA w' P M' (r.cnt n most) ∧ Only (Zd P M) w w' ∧ (M' = M ∨ w.heap.size ≤ M'):=by
 have HP:=Hd h
 have HC:=Hd hc
 obtain ⟨g,off,cap,ka,kc,h1,hrow,hM,hPl,hnP,hfar,-,-,-⟩:=h.row
 obtain ⟨⟨c0,c1,c2,c3⟩,f0,f1,f2,f3⟩:=four_of h1
 have hpos : r.pos < 1001:=Nat.lt_of_lt_of_le h.ok.pos h.ok.len
 have hcap:=h.ok.cap
 have H1:=Hd h1
 have HROW:=Hd hrow
 have HM:=Hd hM
 have HNP:=Hd hnP
 have HFAR:=Hd hfar
 clear h hc h1 hrow hM hnP hfar
 have HNO : Hid (¬ (r.wrong = false ∧ n = most) → r.cnt n most = r):=fun hn => by unfold RS.cnt; rw [if_neg hn]
 by_cases hnm : n = most
 ·subst hnm
  cases hw : r.wrong with
  | true =>
   rw [hw] at c2
   have HV:=Hd (HNO.out (fun k => by rw [hw] at k; exact absurd k.1 (by decide)))
   clear HNO hw
   go_enter Tryz.func102,Tryz.ntmps102
   go_wp2
   go_end0
   exact ⟨rfl,M,by rw [HV.out]; exact HP.out,Only.refl _ _,Or.inl rfl⟩
  | false =>
   rw [hw] at c2 H1
   have HW:=Hd hw
   have hlt:=HC.out rfl
   obtain ⟨⟨⟨k,n',t⟩,a⟩,hh⟩ : ∃ x,r.ps.hd = x:=⟨_,rfl⟩
   have hct:=qnext_any P M r
   rw [hh] at hct
   unfold tkA at hct
   have HT:=Hd hct
   have HH:=Hd hh
   clear hct hh hw HNO
   obtain ⟨i0,hi,hz0,hz1,hz2⟩:=info_parts Tryz.infoIntQ
   go_enter Tryz.func102,Tryz.ntmps102
   go_wp2_with fail
   refine (HT.out _ HP.out).mono ?_
   rintro e w2 ⟨rfl,hb⟩
   obtain ⟨W1,hW1⟩:=Vx (w2.alloc (.cells (Vk k n' t a) 43))
   have hb1 : Below w.heap.size w W1:=by rw [← hW1]; exact hb.alloc hb.size _
   have x1 : W1.heap[w2.heap.size]? = some (.cells (Vk k n' t a) 43 (0,0)):=by rw [← hW1]; exact heap_alloc_new w2 _
   have hPl1 : P < W1.heap.size:=Nat.lt_of_lt_of_le hPl hb1.size
   have h1':=(hb1.block P hPl).trans H1.out
   have HROW1:=Hd (own_later HROW.out hb1)
   have HB1:=Hd hb1
   clear c0 c1 c2 c3 f0 f1 f2 f3
   obtain ⟨⟨c0,c1,c2,c3⟩,f0,f1,f2,f3⟩:=four_of h1'
   have zk:=four_of x1
   have H1':=Hd h1'
   clear hb hb1 h1' x1
   go_wp2_with fail
   try rw [hW1]
   clear hW1
   go_region_law (first
    | (refine step_append_lies _ rfl _ _ 25 rfl (P + 1) 3 i0 _ 1 8 Tryz.underlying25 hi hz0 hz1 hz2 rfl (by decide) (.slice ka r.many.length kc) r.many.length (r.many.map fun (n : Nat) => Value.int .i64 (n : Int)) rfl (HROW1.out.alloc _) ⟨W1.heap.size,0,none⟩ 1 1 [Vi (a : Int)] rfl rfl (World.news_of_block (heap_alloc_new _ _)) (by intro u hu; simp at hu; subst hu; rfl) (by decide) (by unfold maxLen; omega) (by omega) (by simp; omega) _ rfl ?_; intro g' cap' w8 hown' hgrow hor hlt8; (have sl : w8.heap[P]? = W1.heap[P]?:=(hgrow.block P (by simp; omega) (fun e => HNP.out e.symm)).trans (Below.heap_alloc _ _ _ hPl1)); (have s4:=(World.cell?_of_block (a:=⟨P,3,none⟩) sl).trans c3); (have sf : w8.frozen? ⟨P,3,none⟩ = false:=by rw [World.frozen?_of_block (a:=⟨P,3,none⟩) sl]; exact f3); (have SL:=Hd sl); clear sl))
   all_goals
    have HOW:=Hd hown'
    have HGR:=Hd hgrow
    have HOR:=Hd hor
    clear hown' hgrow hor
    go_wp2
    go_end0
    refine ⟨rfl,g',?_,?_,?_⟩
    ·have hgP : P + 1 ≤ g':=(HOW.out.lt g' rfl).1
     have hcv : r.cnt n n = { r with many:=r.many ++ [r.ps.hd.2] }:=by unfold RS.cnt; rw [if_pos ⟨HW.out,rfl⟩]
     have hok:=HP.out.ok.cnt (n:=n) (most:=n) fun _ => hlt
     rw [hcv] at hok ⊢
     obtain ⟨g0',off0,cap0,ka0,kc0,h10,h20,h30,h40,h50,h60⟩:=HP.out.mem
     rw [HW.out] at h10
     have hbk : ∀ q,q < P → (w8.setCell ⟨P,3,none⟩ (.slice (some ⟨g',0,none⟩) (r.many.length + 1) cap')).heap[q]? = w.heap[q]?:=fun q hq => by
      refine (set_off _ (Nat.ne_of_lt hq)).trans (((HGR.out.block q (by simp; omega) (fun e => ?_)).trans (Below.heap_alloc _ _ _ (by omega))).trans (HB1.out.block q (by omega)))
      have:=(HROW.out.lt q e.symm).1
      omega
     refine ⟨hok,g0',off0,cap0,some ⟨g',0,none⟩,cap',?_,h20.block (hbk _ h30),h30,h40,?_,rfl⟩
     ·have e1:=(HB1.out.block P hPl).trans h10
      have:=set_at (i:=3) (SL.out.trans e1) (.slice (some ⟨g',0,none⟩) (r.many.length + 1) cap')
      rw [this]
      simp [HW.out]
     ·have e2 : (r.many ++ [r.ps.hd.2]).length = r.many.length + 1:=by simp
      have e3 : ((r.many ++ [r.ps.hd.2]).map fun (n : Nat) => (Value.int .i64 (n : Int))) = (r.many.map fun (n : Nat) => (Value.int .i64 (n : Int))) ++ [Vi (a : Int)]:=by rw [HH.out]; simp
      show World.ownsRow _ (P + 1) 3 1 (.slice (some ⟨g',0,none⟩) (r.many ++ [r.ps.hd.2]).length cap') (r.many ++ [r.ps.hd.2]).length ((r.many ++ [r.ps.hd.2]).map fun (n : Nat) => (Value.int .i64 (n : Int)))
      rw [e2,e3]
      exact own_kept HOW.out fun b hb => set_off _ (by simp [Value.ownBlock] at hb; omega)
    ·refine ⟨?_,?_,?_,?_,fun q hq hz => ?_⟩
     ·exact HGR.out.os.trans HB1.out.os
     ·exact HGR.out.tape.trans HB1.out.tape
     ·exact HGR.out.output.trans HB1.out.output
     ·have:=HGR.out.size
      have h2:=HB1.out.size
      simp at this
      simp
      omega
     ·have h2:=HB1.out.size
      refine (set_off _ (fun e => hz (Or.inl e))).trans (((HGR.out.block q (by simp; omega) (HFAR.out q (fun e => hz (Or.inr e)) (fun e => hz (Or.inl e)))).trans (Below.heap_alloc _ _ _ (by omega))).trans (HB1.out.block q hq))
    ·have h2:=HB1.out.size
     rcases HOR.out with e | e
     ·exact Or.inl (by rw [HM.out,e]; rfl)
     ·right
      rw [e]
      simp
      omega
 ·have hne : ((n : Int) == (most : Int)) = false:=by simp; omega
  have HV:=Hd (HNO.out (fun k => hnm k.2))
  clear HNO hnm
  cases hw : r.wrong with
  | true =>
   rw [hw] at c2
   clear hw
   go_enter Tryz.func102,Tryz.ntmps102
   go_wp2
   go_end0
   exact ⟨rfl,M,by rw [HV.out]; exact HP.out,Only.refl _ _,Or.inl rfl⟩
  | false =>
   rw [hw] at c2
   clear hw
   go_enter Tryz.func102,Tryz.ntmps102
   go_wp2
   go_end0
   exact ⟨rfl,M,by rw [HV.out]; exact HP.out,Only.refl _ _,Or.inl rfl⟩

def WordsAt (w : World) (b : Nat) (l : List ByteArray) : Prop:=∀ i (h : i < l.length),w.cell? ⟨b,i,none⟩ = some (.string l[i])

def wl (l : List ByteArray) : List (List UInt8):=l.map fun x => x.data.toList

def pickI : Option Nat → Int
 | none => -1
 | some k => (k : Int)

def OneP (P M : Nat) (r : RS) (l : List ByteArray) (w : World) (e : Ending) (w' : World) : Prop:=e = .returned (Vi (pickI (r.pick (wl l)))) ∧ RA w' P M (if (r.pick (wl l)).isSome then r.step else r) ∧ Only (Zd P M) w w'

theorem qoneOf_any (P M : Nat) (r : RS) (b : Nat) (l : List ByteArray) (cap : Nat) (w : World) (h : RA w P M r) (hl : WordsAt w b l) (hb : b < w.heap.size) (hbP : b ≠ P) (hbM : b ≠ M) (hlen : l.length ≤ 100) : Calls Tryz.prog 55 #[.pointer (some ⟨P,0,none⟩),.slice (some ⟨b,0,none⟩) l.length cap] w (OneP P M r l w):=by
 have HP:=Hd h
 have HL:=Hd hl
 clear h hl
 go_enter Tryz.func55,Tryz.ntmps55
 go_wp2
 go_loopw [5] (fun i wr => ∃ (k : Nat),k ≤ l.length ∧ i = Vi (k : Int) ∧ RA wr P M r ∧ r.pick (wl l) = (r.pick (wl (l.drop k))).map (· + k) ∧ Only (Zd P M) w wr) (fun i _ => l.length - (intOf i).toNat)
 case atStart => exact ⟨0,Nat.zero_le _,rfl,HP.out,by simp,Only.refl _ _⟩
 case round =>
  obtain ⟨k,hk,rfl,hp1,hn,ho⟩:=hrel
  have H1:=Hd hp1
  have HN:=Hd hn
  have HO:=Hd ho
  clear hp1 hn ho
  by_cases hlt : k < l.length
  ·have hlti : (k : Int) < (l.length : Int):=by omega
   have c0:=(World.cell?_of_block (a:=⟨b,k,none⟩) (HO.out.block b hb fun z => by rcases z with z | z; exact hbP z; exact hbM z)).trans (HL.out k hlt)
   obtain ⟨x,hx⟩:=Vx (l[k])
   rw [hx] at c0
   have HD : Hid (r.pick (wl (l.drop k)) = if r.sees x.data.toList = true then some 0 else (r.pick (wl (l.drop (k + 1)))).map (· + 1)):=by
    rw [List.drop_eq_getElem_cons hlt,hx]
    rfl
   clear hx
   cases hs : r.sees x.data.toList with
   | true =>
    have hD:=HD.out
    rw [if_pos hs] at hD
    have HD2 : Hid (r.pick (wl l) = some k):=by
     show r.pick (wl l) = some k
     rw [HN.out,hD]
     simp
    have hsk:=qtakes_any P M r x
    rw [hs] at hsk
    have HSK:=Hd hsk
    clear hsk hs hD HD
    go_wp2_with fail
    refine (HSK.out _ H1.out).mono ?_
    rintro e w2 ⟨rfl,hp,ho⟩
    rw [if_pos trivial] at hp
    have H2:=Hd hp
    have O2:=Hd (HO.out.trans ho)
    clear hp ho
    go_wp2
    refine bodyPost_ret (v:=Vi (k : Int)) (by simp [results,Tryz.results55,go_sem]) rfl ⟨?_,?_,O2.out⟩
    ·rw [HD2.out]; rfl
    ·rw [HD2.out]; exact H2.out
   | false =>
    have hD:=HD.out
    rw [if_neg (by rw [hs]; simp)] at hD
    have HD2 : Hid (r.pick (wl l) = (r.pick (wl (l.drop (k + 1)))).map (· + (k + 1))):=by
     show r.pick (wl l) = _
     rw [HN.out,hD,Option.map_map]
     congr 1
     funext i
     simp
     omega
    have hsk:=qtakes_any P M r x
    rw [hs] at hsk
    have HSK:=Hd hsk
    clear hsk hs hD HD
    go_wp2_with fail
    refine (HSK.out _ H1.out).mono ?_
    rintro e w2 ⟨rfl,hp,ho⟩
    rw [if_neg (by decide)] at hp
    have H2:=Hd hp
    have O2:=Hd (HO.out.trans ho)
    clear hp ho
    go_wp2
    go_roundw
    case rel => exact ⟨k + 1,by omega,by go_num,H2.out,HD2.out,O2.out⟩
    case measure => simp [intOf]; omega
  ·have hlti : ¬ (k : Int) < (l.length : Int):=by omega
   have HD2 : Hid (r.pick (wl l) = none):=by
    show r.pick (wl l) = none
    rw [HN.out,List.drop_eq_nil_of_le (by omega)]
    rfl
   go_wp2
   refine bodyPost_ret (v:=Vi (-1)) (by simp [results,Tryz.results55,go_sem]) rfl ⟨?_,?_,HO.out⟩
   ·rw [HD2.out]; rfl
   ·rw [HD2.out]; exact H1.out

def vtV (o : Option V3) : Value:=.tuple #[.agg #[Vi (o.getD v0).1,Vi (o.getD v0).2.1,.string (o.getD v0).2.2],.bool o.isSome]

theorem qvalue_any (k n : Int) (t : ByteArray) (a : Int) (w : World) : Calls Tryz.prog 210 #[.agg (Vk k n t a)] w fun e w' => e = .returned (vtV (vtok (k,n,t))) ∧ Below w.heap.size w w':=by
 by_cases k2 : k = 2
 ·have HV : Hid (vtok (k,n,t) = some (1,n,⟨#[]⟩)):=by show vtok _ = _; unfold vtok; rw [if_pos k2]
  subst k2
  go_enter Tryz.func210,Tryz.ntmps210
  go_wp2
  rw [HV.out]
  exact bodyPost_ret (v:=vtV (some (1,n,⟨#[]⟩))) (by simp [results,Tryz.results210,go_sem,vtV]) rfl ⟨rfl,by (repeat (first|exact Bxr _ _|assumption|apply Bxd|apply Bxa|apply Bxs|refine Bxt ?_ (by assumption) ?_|omega|simp))⟩
 ·have e2 : (k == 2) = false:=by simpa using k2
  by_cases k5 : k = 5
  ·have HV : Hid (vtok (k,n,t) = some (3,0,t)):=by show vtok _ = _; unfold vtok; rw [if_neg k2,if_pos k5]
   subst k5
   clear k2 e2
   go_enter Tryz.func210,Tryz.ntmps210
   go_wp2
   rw [HV.out]
   exact bodyPost_ret (v:=vtV (some (3,0,t))) (by simp [results,Tryz.results210,go_sem,vtV]) rfl ⟨rfl,by (repeat (first|exact Bxr _ _|assumption|apply Bxd|apply Bxa|apply Bxs|refine Bxt ?_ (by assumption) ?_|omega|simp))⟩
  ·have e5 : (k == 5) = false:=by simpa using k5
   by_cases k4 : k = 4
   ·subst k4
    clear k2 k5 e2 e5
    obtain ⟨bt,hbt0⟩:=Vx (t.data.toList == wTrue)
    obtain ⟨bf,hbf0⟩:=Vx (t.data.toList == wFalse)
    obtain ⟨bn,hbn0⟩:=Vx (t.data.toList == wNull)
    have hbt : (t.toList == [84,82,85,69]) = bt:=by rw [ByteArray.toList_eq]; exact hbt0
    have hbf : (t.toList == [70,65,76,83,69]) = bf:=by rw [ByteArray.toList_eq]; exact hbf0
    have hbn : (t.toList == [78,85,76,76]) = bn:=by rw [ByteArray.toList_eq]; exact hbn0
    have HV : Hid (vtok (4,n,t) = if bt = true then some (2,1,⟨#[]⟩) else if bf = true then some (2,0,⟨#[]⟩) else if bn = true then some v0 else none):=by
     show vtok _ = _
     unfold vtok
     rw [if_neg (by simp),if_neg (by simp)]
     rw [← hbt0,← hbf0,← hbn0]
     simp only [beq_iff_eq,true_and]
    clear hbt0 hbf0 hbn0
    cases bt with
    | true =>
     go_enter Tryz.func210,Tryz.ntmps210
     go_wp2
     rw [HV.out]
     exact bodyPost_ret (v:=vtV (some (2,1,⟨#[]⟩))) (by simp [results,Tryz.results210,go_sem,vtV]) rfl ⟨rfl,by (repeat (first|exact Bxr _ _|assumption|apply Bxd|apply Bxa|apply Bxs|refine Bxt ?_ (by assumption) ?_|omega|simp))⟩
    | false =>
     cases bf with
     | true =>
      go_enter Tryz.func210,Tryz.ntmps210
      go_wp2
      rw [HV.out]
      exact bodyPost_ret (v:=vtV (some (2,0,⟨#[]⟩))) (by simp [results,Tryz.results210,go_sem,vtV]) rfl ⟨rfl,by (repeat (first|exact Bxr _ _|assumption|apply Bxd|apply Bxa|apply Bxs|refine Bxt ?_ (by assumption) ?_|omega|simp))⟩
     | false =>
      cases bn with
      | true =>
       go_enter Tryz.func210,Tryz.ntmps210
       go_wp2
       rw [HV.out]
       exact bodyPost_ret (v:=vtV (some v0)) (by simp [results,Tryz.results210,go_sem,vtV,v0]) rfl ⟨rfl,by (repeat (first|exact Bxr _ _|assumption|apply Bxd|apply Bxa|apply Bxs|refine Bxt ?_ (by assumption) ?_|omega|simp))⟩
      | false =>
       go_enter Tryz.func210,Tryz.ntmps210
       go_wp2
       rw [HV.out]
       exact bodyPost_ret (v:=vtV none) (by simp [results,Tryz.results210,go_sem,vtV,v0]) rfl ⟨rfl,by (repeat (first|exact Bxr _ _|assumption|apply Bxd|apply Bxa|apply Bxs|refine Bxt ?_ (by assumption) ?_|omega|simp))⟩
   ·have e4 : (k == 4) = false:=by simpa using k4
    have HV : Hid (vtok (k,n,t) = none):=by
     show vtok _ = _
     unfold vtok
     rw [if_neg k2,if_neg k5,if_neg (fun h => k4 h.1),if_neg (fun h => k4 h.1),if_neg (fun h => k4 h.1)]
    clear k2 k5 k4
    go_enter Tryz.func210,Tryz.ntmps210
    go_wp2
    rw [HV.out]
    exact bodyPost_ret (v:=vtV none) (by simp [results,Tryz.results210,go_sem,vtV,v0]) rfl ⟨rfl,by (repeat (first|exact Bxr _ _|assumption|apply Bxd|apply Bxa|apply Bxs|refine Bxt ?_ (by assumption) ?_|omega|simp))⟩

theorem RS.step_le (r : RS) : r.step.ps.rest.length ≤ r.ps.rest.length:=by
 rw [RS.ps_step]
 show r.ps.rest.tail.length ≤ _
 simp

theorem RS.step_lt {r : RS} (h : r.Ok) : r.step.ps.rest.length < r.ps.rest.length:=by
 have:=h.pos
 show (r.all.drop (r.pos + 1)).length < (r.all.drop r.pos).length
 simp
 omega

def QN {α : Type} (f : Rd_ α) (v : α → Value) (P M : Nat) (r : RS) (w : World) (e : Ending) (w' : World) : Prop:=∃ a r',e = .returned (v a) ∧ Lk f r a r' ∧ RA w' P M r' ∧ Only (Zd P M) w w' ∧ r'.ps.rest.length ≤ r.ps.rest.length

def QX (f : Rd_ Ex) (P M : Nat) (r : RS) (w : World) (e : Ending) (w' : World) : Prop:=∃ x a m c M' r',e = .returned (exV x (.slice a m c)) ∧ Lk f r x r' ∧ RA w' P M' r' ∧ Only (Zd P M) w w' ∧ (M' = M ∨ w.heap.size ≤ M') ∧ r'.ps.rest.length ≤ r.ps.rest.length ∧ (r'.wrong = false → FS w' w.heap.size (fun g => g = M') fun W => XO W w.heap.size x (.slice a m c))

theorem qname_q (P M : Nat) (r : RS) (w : World) (h : RA w P M r) : Calls Tryz.prog 101 #[.pointer (some ⟨P,0,none⟩)] w (QN namR (fun a => .string a) P M r w):=by
 refine (qname_any P M r w h).mono ?_
 rintro e w' ⟨rfl,hp,ho⟩
 cases hk : r.isK 3 with
 | true =>
  rw [hk,if_pos rfl] at hp
  rw [if_pos rfl]
  exact ⟨_,_,rfl,Lk.name_yes hk,hp,ho,RS.step_le r⟩
 | false =>
  rw [hk,if_neg (by decide)] at hp
  rw [if_neg (by decide)]
  exact ⟨_,_,rfl,Lk.name_not hk,hp,ho,Nat.le_refl _⟩

theorem qnumber_q (P M : Nat) (r : RS) (w : World) (h : RA w P M r) : Calls Tryz.prog 108 #[.pointer (some ⟨P,0,none⟩)] w (QN numR (fun t => Vi t.1.2.1) P M r w):=by
 refine (qnumber_any P M r w h).mono ?_
 rintro e w' ⟨rfl,hp,ho⟩
 cases hk : r.isK 2 with
 | true =>
  rw [hk,if_pos rfl] at hp
  rw [if_pos rfl]
  exact ⟨_,_,rfl,Lk.num_yes hk,hp,ho,RS.step_le r⟩
 | false =>
  rw [hk,if_neg (by decide)] at hp
  rw [if_neg (by decide)]
  exact ⟨((2,0,⟨#[]⟩),r.ps.hd.2),_,rfl,Lk.num_not hk,hp,ho,Nat.le_refl _⟩

theorem qwants_q (P M : Nat) (r : RS) (x : ByteArray) (w : World) (h : RA w P M r) : Calls Tryz.prog 100 #[.pointer (some ⟨P,0,none⟩),.string x] w (QN (wantR [x.data.toList]) (fun _ => .tuple #[]) P M r w):=by
 refine (qwants_any P M r x w h).mono ?_
 rintro e w' ⟨rfl,hp,ho⟩
 refine ⟨(),_,rfl,Lk.want,hp,ho,?_⟩
 split
 ·exact RS.step_le r
 ·exact Nat.le_refl _

theorem Aq.gainX {w0 w w' : World} {P M0 M M' : Nat} {r r' : RS} {L : List (Nat × Obj)} {I : World → Prop} {x : Ex} {k : Value} (h : Aq w0 P M0 M r L I w) (ho : Only (Zd P M) w w') (hm : M' = M ∨ w.heap.size ≤ M') (hp : RA w' P M' r') (hr : r'.wrong = false → r.wrong = false) (hx : r'.wrong = false → FS w' w.heap.size (fun g => g = M') fun W => XO W w.heap.size x k) : Aq w0 P M0 M' r' L (fun W => I W ∧ XO W w0.heap.size x k) w':=h.gain ho hm hp hr _ fun hw => (hx hw).imp fun _ k => k.mono h.only.size

theorem Aq.qx {f : Rd_ Ex} {w0 w : World} {P M0 M : Nat} {r0 r : RS} {L : List (Nat × Obj)} {I : World → Prop} {x : Ex} {a : Option Addr} {m c : Nat} (h : Aq w0 P M0 M r L I w) (hk : Lk f r0 x r) (hl : r.ps.rest.length ≤ r0.ps.rest.length) (hv : ∀ W,(∀ y ∈ L,W.heap[y.1]? = some y.2) → I W → XO W w0.heap.size x (.slice a m c)) : QX f P M0 r0 w0 (.returned (exV x (.slice a m c))) w:=by
 refine ⟨x,a,m,c,M,r,rfl,hk,h.ra,h.only,h.mm,hl,fun hw => ?_⟩
 have hall : FS w w0.heap.size (fun g => g = M) fun W => (∀ x ∈ L,W.heap[x.1]? = some x.2) ∧ I W:=by
  intro W hW
  refine ⟨fun x hx => ?_,h.inv W (fun g hg hn hl => hW g hg (fun e => hn (Or.inr e)) hl) hw⟩
  obtain ⟨h1,h2,h3⟩:=h.has x hx
  exact (hW x.1 h1 h2 (Gx h3)).trans h3
 exact hall.imp fun W k => hv W k.1 k.2

theorem Aq.stepAt {w0 w : World} {P M0 M : Nat} {r : RS} {L : List (Nat × Obj)} {I : World → Prop} (h : Aq w0 P M0 M r L I w) (hk : r.ps.hd.1.1 ≠ 1) : Aq w0 P M0 M r.step L I (w.setCell ⟨P,1,none⟩ (Vi ((r.pos : Int) + 1))):=h.call ((Only.refl _ _).at1 _) (Or.inl rfl) (h.ra.stepAt hk) fun k => k

theorem Aq.stopAt {w0 w : World} {P M0 M : Nat} {r : RS} {L : List (Nat × Obj)} {I : World → Prop} (h : Aq w0 P M0 M r L I w) : Aq w0 P M0 M r.stop L I (w.setCell ⟨P,2,none⟩ (.bool true)):=h.call ((Only.refl _ _).at1 _) (Or.inl rfl) h.ra.stopAt fun k => absurd k (by show ¬ (true = false); decide)

theorem WordsAt.of2 {w : World} {b : Nat} {x y : ByteArray} {t : TypeId} (h : w.heap[b]? = some (.cells #[.string x,.string y] t (0,0))) : WordsAt w b [x,y]:=by
 intro i hi
 match i,hi with
 | 0,_ => simp [World.cell?,h]
 | 1,_ => simp [World.cell?,h]

theorem WordsAt.of3 {w : World} {b : Nat} {x y z : ByteArray} {t : TypeId} (h : w.heap[b]? = some (.cells #[.string x,.string y,.string z] t (0,0))) : WordsAt w b [x,y,z]:=by
 intro i hi
 match i,hi with
 | 0,_ => simp [World.cell?,h]
 | 1,_ => simp [World.cell?,h]
 | 2,_ => simp [World.cell?,h]

theorem WordsAt.of4 {w : World} {b : Nat} {x y z u : ByteArray} {t : TypeId} (h : w.heap[b]? = some (.cells #[.string x,.string y,.string z,.string u] t (0,0))) : WordsAt w b [x,y,z,u]:=by
 intro i hi
 match i,hi with
 | 0,_ => simp [World.cell?,h]
 | 1,_ => simp [World.cell?,h]
 | 2,_ => simp [World.cell?,h]
 | 3,_ => simp [World.cell?,h]

theorem WordsAt.of6 {w : World} {b : Nat} {x y z u v s : ByteArray} {t : TypeId} (h : w.heap[b]? = some (.cells #[.string x,.string y,.string z,.string u,.string v,.string s] t (0,0))) : WordsAt w b [x,y,z,u,v,s]:=by
 intro i hi
 match i,hi with
 | 0,_ => simp [World.cell?,h]
 | 1,_ => simp [World.cell?,h]
 | 2,_ => simp [World.cell?,h]
 | 3,_ => simp [World.cell?,h]
 | 4,_ => simp [World.cell?,h]
 | 5,_ => simp [World.cell?,h]

def QUpto (n : Nat) (P : Nat) (f : FuncId) (g : Gl) : Prop:=∀ M r w,r.ps.rest.length ≤ n → RA w P M r → Calls Tryz.prog f #[.pointer (some ⟨P,0,none⟩)] w (QX (Pr g) P M r w)

def QBel (n : Nat) (P : Nat) (f : FuncId) (g : Gl) : Prop:=∀ M r w,r.ps.rest.length < n → RA w P M r → Calls Tryz.prog f #[.pointer (some ⟨P,0,none⟩)] w (QX (Pr g) P M r w)
end Go.Proofs.YtffalonhkemieaaGreatDoor
