/- M180 M181 W4 C2 ZT0 -/
import Derived.Test.YtmmmkjhpmlfopaaGreatDoorSB13
import Derived.Laws.IdiomCopy
import Derived.OwnWalk
import Derived.Lib.AppendStr
import Derived.Maps.OwnSet
import Derived.Maps.OwnOps
import Derived.Laws.EntriesVeiled
namespace Go.Proofs.YtmmmkjhpmlfopaaGreatDoor
open Go.RowKit
section
open Go
abbrev Row3:=List V3
def kE (l : List V3) : ByteArray:=⟨(kbs l).toArray⟩
def rE (l : List V3) : ByteArray:=⟨(RR.rowB l).toArray⟩
def at3 (r : Row3) (c : Int) : V3:=(r[c.toNat]?).getD (0,0,⟨#[]⟩)
def pick3 (r : Row3) (cs : List Int) : List V3:=cs.map (at3 r)
def colsJ (t : TT.Tb) : Nat → List Int
 | 0 => t.key
 | n + 1 => ((t.ixs[n]?).map fun x => x.cols).getD []
def nmR (t : TT.Tb) (r : Row3) : ByteArray:=kE (pick3 r t.key)
def skJ (t : TT.Tb) (j : Nat) (r : Row3) : ByteArray:=if j = 0 then nmR t r else kE (pick3 r (colsJ t j)) ++ nmR t r
def vaJ (t : TT.Tb) (j : Nat) (r : Row3) : ByteArray:=if j = 0 then rE r else nmR t r
def fitsV (v : V3) (ty : Int) : Bool:=V3.right v && (decide (v.1 = 0) || decide (v.1 = ty))
def fitR (t : TT.Tb) (r : Row3) : Prop:=r.length = t.cols.length ∧ ∀ i (h : i < r.length) (h' : i < t.cols.length),fitsV r[i] (t.cols[i]).ty = true
def homeV (P : Nat) (v : V3) : Nat:=crc (kb v) % P
def homeR (P : Nat) (t : TT.Tb) (r : Row3) : Nat:=homeV P (at3 r t.part)
theorem right0 : V3.right (0,0,⟨#[]⟩) = true:=by simp [V3.right,rgt]
theorem fitR.right {t : TT.Tb} {r : Row3} (h : fitR t r) : ∀ v ∈ r,V3.right v = true:=fun v hv => by
 obtain ⟨i,hi,rfl⟩:=List.getElem_of_mem hv
 have:=h.2 i hi (by rw [← h.1]; exact hi)
 unfold fitsV at this
 rw [Bool.and_eq_true] at this
 exact this.1
theorem at3_right {r : Row3} (h : ∀ v ∈ r,V3.right v = true) (c : Int) : V3.right (at3 r c) = true:=by
 unfold at3
 cases e : r[c.toNat]? with
 | none => exact right0
 | some v => exact h v (List.mem_of_getElem? e)
theorem pick3_right {r : Row3} (h : ∀ v ∈ r,V3.right v = true) (cs : List Int) : ∀ v ∈ pick3 r cs,V3.right v = true:=fun v hv => by
 obtain ⟨c,_,rfl⟩:=List.mem_map.1 hv
 exact at3_right h c
theorem kbs_inj {us vs : List V3} (hu : ∀ v ∈ us,V3.right v = true) (hv : ∀ v ∈ vs,V3.right v = true) (h : kbs us = kbs vs) : us = vs:=by
 obtain ⟨ws,rfl,hw⟩:=kbs_begins vs us [] hv hu (by rw [List.append_nil]; exact h)
 cases ws with
 | nil => simp
 | cons w ws =>
  have h1:=kb_pos w
  rw [kbs_cons] at hw
  have : (kb w ++ kbs ws).length = 0:=by rw [hw]; rfl
  rw [Zla] at this
  omega
theorem kE_inj {us vs : List V3} (hu : ∀ v ∈ us,V3.right v = true) (hv : ∀ v ∈ vs,V3.right v = true) (h : kE us = kE vs) : us = vs:=by
 refine kbs_inj hu hv ?_
 have:=congrArg (fun s : ByteArray => s.data.toList) h
 simpa [kE] using this
theorem kE_append (us vs : List V3) : kE us ++ kE vs = kE (us ++ vs):=by
 apply ByteArray.ext
 apply Array.toList_inj.1
 simp [kE,kbs_append]
theorem skJ_all (t : TT.Tb) (j : Nat) (r : Row3) : skJ t j r = kE ((if j = 0 then [] else pick3 r (colsJ t j)) ++ pick3 r t.key):=by
 unfold skJ nmR
 split
 ·rfl
 ·rw [kE_append]
theorem nmR_inj {t : TT.Tb} {r q : Row3} (hr : ∀ v ∈ r,V3.right v = true) (hq : ∀ v ∈ q,V3.right v = true) (h : nmR t r = nmR t q) : pick3 r t.key = pick3 q t.key:=kE_inj (pick3_right hr _) (pick3_right hq _) h
theorem skJ_inj {t : TT.Tb} {j : Nat} {r q : Row3} (hr : ∀ v ∈ r,V3.right v = true) (hq : ∀ v ∈ q,V3.right v = true) (h : skJ t j r = skJ t j q) : nmR t r = nmR t q:=by
 rw [skJ_all,skJ_all] at h
 have e:=kE_inj (fun v hv => ?_) (fun v hv => ?_) h
 ·have hl : (if j = 0 then [] else pick3 r (colsJ t j)).length = (if j = 0 then [] else pick3 q (colsJ t j)).length:=by
   split
   ·rfl
   ·simp [pick3]
  have:=(List.append_inj e hl).2
  unfold nmR
  rw [this]
 ·rcases Zma hv with hv | hv
  ·split at hv
   ·exact absurd hv Si
   ·exact pick3_right hr _ v hv
  ·exact pick3_right hr _ v hv
 ·rcases Zma hv with hv | hv
  ·split at hv
   ·exact absurd hv Si
   ·exact pick3_right hq _ v hv
  ·exact pick3_right hq _ v hv
structure Holds (l : List BB.It) (S : ByteArray → ByteArray → Prop) : Prop where
 srt : BB.Srt l
 mem : ∀ x : BB.It,x ∈ l ↔ x.kid = none ∧ S x.key x.val
theorem Holds.kid {l : List BB.It} {S : ByteArray → ByteArray → Prop} (h : Holds l S) : ∀ y ∈ l,y.kid = none:=fun y hy => ((h.mem y).1 hy).1
theorem Holds.nil {S : ByteArray → ByteArray → Prop} (h : ∀ k v,¬ S k v) : Holds [] S:=⟨List.Pairwise.nil,fun x => ⟨fun h => absurd h Si,fun g => absurd g.2 (h _ _)⟩⟩
theorem Holds.congr {l : List BB.It} {S T : ByteArray → ByteArray → Prop} (h : Holds l S) (e : ∀ k v,S k v ↔ T k v) : Holds l T:=⟨h.srt,fun x => (h.mem x).trans (and_congr_right fun _ => e _ _)⟩
theorem Holds.put {l : List BB.It} {S : ByteArray → ByteArray → Prop} (h : Holds l S) (k v : ByteArray) : Holds (BB.putL k v l) fun x y => (x = k ∧ y = v) ∨ (S x y ∧ x ≠ k):=by
 refine ⟨BB.putL_srt h.srt,fun x => ?_⟩
 rw [BB.mem_putL h.srt h.kid,h.mem]
 constructor
 ·rintro (rfl | ⟨⟨h1,h2⟩,h3⟩)
  ·exact ⟨rfl,Or.inl ⟨rfl,rfl⟩⟩
  ·exact ⟨h1,Or.inr ⟨h2,h3⟩⟩
 ·rintro ⟨h1,⟨h2,h3⟩ | ⟨h2,h3⟩⟩
  ·exact Or.inl (BB.It.ext3 h2 h3 h1)
  ·exact Or.inr ⟨⟨h1,h2⟩,h3⟩
theorem mem_delL {k : ByteArray} {l : List BB.It} (hs : BB.Srt l) (x : BB.It) : x ∈ BB.delL k l ↔ x ∈ l ∧ x.key ≠ k:=by
 have hc:=BB.cntL_cut (key:=k) hs
 unfold BB.delL
 split
 ·rename_i h
  have hlt:=BB.found_lt h
  have he : (l[BB.cntL k l]).key = k:=by
   rw [BB.foundL_at hlt] at h
   exact of_decide_eq_true h
  have hpw:=List.pairwise_iff_getElem.1 hs
  unfold BB.cutL
  rw [List.mem_append]
  constructor
  ·rintro (h1 | h1)
   ·exact ⟨List.mem_of_mem_take h1,BB.kl_ne (hc.1 x h1)⟩
   ·obtain ⟨i,hi,rfl⟩:=List.getElem_of_mem h1
    rw [List.length_drop] at hi
    refine ⟨List.mem_of_mem_drop h1,fun e => ?_⟩
    rw [List.getElem_drop] at e
    have:=hpw (BB.cntL k l) (BB.cntL k l + 1 + i) hlt Om Om
    rw [he,e,BB.kl_irrefl] at this
    cases this
  ·rintro ⟨h1,h2⟩
   obtain ⟨i,hi,rfl⟩:=List.getElem_of_mem h1
   rcases Nat.lt_trichotomy i (BB.cntL k l) with c | c | c
   ·exact Or.inl (List.mem_take_iff_getElem.2 ⟨i,by omega,rfl⟩)
   ·subst c
    exact absurd he h2
   ·exact Or.inr (List.mem_drop_iff_getElem.2 ⟨i - (BB.cntL k l + 1),by omega,by congr 1; omega⟩)
 ·rename_i h
  refine ⟨fun h1 => ⟨h1,fun e => h ((BB.found_iff hs).2 ⟨x,h1,e⟩)⟩,fun h1 => h1.1⟩
theorem delL_srt {k : ByteArray} {l : List BB.It} (hs : BB.Srt l) : BB.Srt (BB.delL k l):=by
 unfold BB.delL
 split
 ·exact List.Pairwise.sublist (BB.cutL_sub k l) hs
 ·exact hs
theorem Holds.del {l : List BB.It} {S : ByteArray → ByteArray → Prop} (h : Holds l S) (k : ByteArray) : Holds (BB.delL k l) fun x y => S x y ∧ x ≠ k:=by
 refine ⟨delL_srt h.srt,fun x => ?_⟩
 rw [mem_delL h.srt,h.mem,and_assoc]
theorem Holds.found {l : List BB.It} {S : ByteArray → ByteArray → Prop} (h : Holds l S) (k : ByteArray) : BB.foundL k l = true ↔ ∃ v,S k v:=by
 rw [BB.found_iff h.srt]
 constructor
 ·rintro ⟨y,hy,rfl⟩
  exact ⟨_,((h.mem y).1 hy).2⟩
 ·rintro ⟨v,hv⟩
  exact ⟨⟨k,v,none⟩,(h.mem _).2 ⟨rfl,hv⟩,rfl⟩
theorem Holds.val {l : List BB.It} {S : ByteArray → ByteArray → Prop} (h : Holds l S) {k : ByteArray} (hf : BB.foundL k l = true) : S k (BB.valL k l):=by
 have hlt:=BB.found_lt hf
 have he : (l[BB.cntL k l]).key = k:=by
  have h2:=hf
  rw [BB.foundL_at hlt] at h2
  exact of_decide_eq_true h2
 have:=((h.mem _).1 (List.getElem_mem hlt)).2
 unfold BB.valL
 rw [if_pos hf,List.getElem?_eq_getElem hlt]
 rw [he] at this
 exact this
def SJ (t : TT.Tb) (P p j : Nat) (rs : List Row3) (k v : ByteArray) : Prop:=∃ r ∈ rs,homeR P t r = p ∧ k = skJ t j r ∧ v = vaJ t j r
structure TabOk (t : TT.Tb) (rs : List Row3) : Prop where
 fit : ∀ r ∈ rs,fitR t r
 one : ∀ r ∈ rs,∀ q ∈ rs,nmR t r = nmR t q → r = q
theorem TabOk.nil (t : TT.Tb) : TabOk t []:=⟨fun _ h => absurd h Si,fun _ h => absurd h Si⟩
theorem TabOk.right {t : TT.Tb} {rs : List Row3} (h : TabOk t rs) {r : Row3} (hr : r ∈ rs) : ∀ v ∈ r,V3.right v = true:=(h.fit r hr).right
theorem TabOk.same {t : TT.Tb} {rs : List Row3} (h : TabOk t rs) {j : Nat} {r q : Row3} (hr : r ∈ rs) (hq : q ∈ rs) (e : skJ t j r = skJ t j q) : r = q:=h.one r hr q hq (skJ_inj (h.right hr) (h.right hq) e)
def dropR (t : TT.Tb) (k : ByteArray) (rs : List Row3) : List Row3:=rs.filter fun r => decide (nmR t r ≠ k)
def putR (t : TT.Tb) (r : Row3) (rs : List Row3) : List Row3:=dropR t (nmR t r) rs ++ [r]
theorem mem_dropR {t : TT.Tb} {k : ByteArray} {rs : List Row3} {r : Row3} : r ∈ dropR t k rs ↔ r ∈ rs ∧ nmR t r ≠ k:=by simp [dropR]
theorem dropR_none {t : TT.Tb} {k : ByteArray} {rs : List Row3} (h : ∀ r ∈ rs,nmR t r ≠ k) : dropR t k rs = rs:=List.filter_eq_self.2 fun r hr => by simpa using h r hr
theorem TabOk.drop {t : TT.Tb} {rs : List Row3} (h : TabOk t rs) (k : ByteArray) : TabOk t (dropR t k rs):=⟨fun r hr => h.fit r (mem_dropR.1 hr).1,fun r hr q hq => h.one r (mem_dropR.1 hr).1 q (mem_dropR.1 hq).1⟩
theorem TabOk.put {t : TT.Tb} {rs : List Row3} (h : TabOk t rs) {r : Row3} (hf : fitR t r) : TabOk t (putR t r rs):=by
 refine ⟨fun q hq => ?_,fun a ha b hb e => ?_⟩
 ·rcases Zma hq with hq | hq
  ·exact (h.drop _).fit q hq
  ·rw [Zms hq]
   exact hf
 ·rcases Zma ha with ha | ha
  ·rcases Zma hb with hb | hb
   ·exact (h.drop _).one a ha b hb e
   ·rw [Zms hb] at e
    exact absurd e (mem_dropR.1 ha).2
  ·rw [Zms ha] at e ⊢
   rcases Zma hb with hb | hb
   ·exact absurd e.symm (mem_dropR.1 hb).2
   ·exact (Zms hb).symm
theorem SJ_drop {t : TT.Tb} {P j : Nat} {rs : List Row3} (h : TabOk t rs) {r : Row3} (hr : r ∈ rs) (k v : ByteArray) : SJ t P (homeR P t r) j (dropR t (nmR t r) rs) k v ↔ SJ t P (homeR P t r) j rs k v ∧ k ≠ skJ t j r:=by
 constructor
 ·rintro ⟨q,hq,h1,rfl,rfl⟩
  obtain ⟨hq,hn⟩:=mem_dropR.1 hq
  exact ⟨⟨q,hq,h1,rfl,rfl⟩,fun e => hn (by rw [h.same hq hr e])⟩
 ·rintro ⟨⟨q,hq,h1,rfl,rfl⟩,hn⟩
  exact ⟨q,mem_dropR.2 ⟨hq,fun e => hn (by rw [h.one q hq r hr e])⟩,h1,rfl,rfl⟩
theorem SJ_drop_other {t : TT.Tb} {P p j : Nat} {rs : List Row3} (h : TabOk t rs) {r : Row3} (hr : r ∈ rs) (hp : p ≠ homeR P t r) (k v : ByteArray) : SJ t P p j (dropR t (nmR t r) rs) k v ↔ SJ t P p j rs k v:=by
 constructor
 ·rintro ⟨q,hq,h1,h2,h3⟩
  exact ⟨q,(mem_dropR.1 hq).1,h1,h2,h3⟩
 ·rintro ⟨q,hq,h1,h2,h3⟩
  exact ⟨q,mem_dropR.2 ⟨hq,fun e => hp (by rw [← h1,h.one q hq r hr e])⟩,h1,h2,h3⟩
theorem SJ_put {t : TT.Tb} {P j : Nat} {rs : List Row3} (h : TabOk t rs) {r : Row3} (hf : fitR t r) (hn : ∀ q ∈ rs,nmR t q ≠ nmR t r) (k v : ByteArray) : SJ t P (homeR P t r) j (putR t r rs) k v ↔ (k = skJ t j r ∧ v = vaJ t j r) ∨ (SJ t P (homeR P t r) j rs k v ∧ k ≠ skJ t j r):=by
 unfold putR
 rw [dropR_none hn]
 constructor
 ·rintro ⟨q,hq,h1,rfl,rfl⟩
  rcases Zma hq with hq | hq
  ·exact Or.inr ⟨⟨q,hq,h1,rfl,rfl⟩,fun e => hn q hq (skJ_inj (h.right hq) hf.right e)⟩
  ·rw [Zms hq]
   exact Or.inl ⟨rfl,rfl⟩
 ·rintro (⟨rfl,rfl⟩ | ⟨⟨q,hq,h1,rfl,rfl⟩,_⟩)
  ·exact ⟨r,by simp,rfl,rfl,rfl⟩
  ·exact ⟨q,List.mem_append_left _ hq,h1,rfl,rfl⟩
theorem SJ_put_other {t : TT.Tb} {P p j : Nat} {rs : List Row3} {r : Row3} (hn : ∀ q ∈ rs,nmR t q ≠ nmR t r) (hp : p ≠ homeR P t r) (k v : ByteArray) : SJ t P p j (putR t r rs) k v ↔ SJ t P p j rs k v:=by
 unfold putR
 rw [dropR_none hn]
 constructor
 ·rintro ⟨q,hq,h1,h2,h3⟩
  rcases Zma hq with hq | hq
  ·exact ⟨q,hq,h1,h2,h3⟩
  ·rw [Zms hq] at h1
   exact absurd h1.symm hp
 ·rintro ⟨q,hq,h1,h2,h3⟩
  exact ⟨q,List.mem_append_left _ hq,h1,h2,h3⟩
end
section
open Go
structure TR (t : TT.Tb) : Prop where
 cols : 1 ≤ t.cols.length ∧ t.cols.length ≤ 16
 key : 1 ≤ t.key.length ∧ t.key.length ≤ 8 ∧ ∀ c ∈ t.key,0 ≤ c ∧ c < (t.cols.length : Int)
 part : t.part ∈ t.key
 nn : ∀ c ∈ t.key,TT.nnB t.cols c = true
 ixs : t.ixs.length ≤ 4
 ix : ∀ x ∈ t.ixs,1 ≤ x.cols.length ∧ x.cols.length ≤ 8 ∧ ∀ c ∈ x.cols,0 ≤ c ∧ c < (t.cols.length : Int)
theorem mayPl_of {l : List Int} {m : Nat} (h : TT.mayPl l m = true) : 1 ≤ l.length ∧ l.length ≤ 8 ∧ ∀ c ∈ l,0 ≤ c ∧ c < (m : Int):=by
 unfold TT.mayPl at h
 simp only [Bool.and_eq_true,decide_eq_true_eq] at h
 refine ⟨h.1.1,h.1.2,fun c hc => ?_⟩
 obtain ⟨i,hi,rfl⟩:=List.getElem_of_mem hc
 have:=TT.allB_iff.1 h.2 i hi
 rw [Bool.and_eq_true,List.getElem?_eq_getElem hi] at this
 have h1:=this.1
 simp only [Option.any_some,TT.placeB,Bool.and_eq_true,decide_eq_true_eq] at h1
 omega
theorem TR.of {t : TT.Tb} (h : TT.mayTb t = true) : TR t:=by
 unfold TT.mayTb at h
 simp only [Bool.and_eq_true] at h
 obtain ⟨⟨⟨_,hc⟩,hk⟩,hx⟩:=h
 unfold TT.mayCols at hc
 unfold TT.mayKey at hk
 unfold TT.mayIxs at hx
 simp only [Bool.and_eq_true,decide_eq_true_eq] at hc hk hx
 refine ⟨hc.1,mayPl_of hk.1.1,hk.1.2,fun c hcm => ?_,hx.1,fun x hxm => ?_⟩
 ·obtain ⟨i,hi,rfl⟩:=List.getElem_of_mem hcm
  have:=TT.allB_iff.1 hk.2 i hi
  rw [List.getElem?_eq_getElem hi] at this
  simpa using this
 ·obtain ⟨i,hi,rfl⟩:=List.getElem_of_mem hxm
  have:=TT.allB_iff.1 hx.2 i hi
  rw [List.getElem?_eq_getElem hi,Bool.and_eq_true] at this
  have h2:=this.2
  simp only [Option.any_some] at h2
  exact mayPl_of h2
theorem TR.colsJ {t : TT.Tb} (h : TR t) {j : Nat} (hj : j ≤ t.ixs.length) : 1 ≤ (colsJ t j).length ∧ (colsJ t j).length ≤ 8 ∧ ∀ c ∈ colsJ t j,0 ≤ c ∧ c < (t.cols.length : Int):=by
 cases j with
 | zero => exact h.key
 | succ n =>
  have hn : n < t.ixs.length:=by omega
  have e : Go.Proofs.YtmmmkjhpmlfopaaGreatDoor.colsJ t (n + 1) = (t.ixs[n]).cols:=by simp [Go.Proofs.YtmmmkjhpmlfopaaGreatDoor.colsJ,List.getElem?_eq_getElem hn]
  rw [e]
  exact h.ix _ (List.getElem_mem hn)
theorem pick3_length (r : Row3) (cs : List Int) : (pick3 r cs).length = cs.length:=List.length_map _
theorem pick3_take {r : Row3} {cs : List Int} {k : Nat} (h : k < cs.length) : pick3 r (cs.take (k + 1)) = pick3 r (cs.take k) ++ [at3 r cs[k]]:=by
 unfold pick3
 rw [List.take_succ_eq_append_getElem h,List.map_append]
 rfl
theorem at3_at {r : Row3} {c : Int} (h : c.toNat < r.length) : at3 r c = r[c.toNat]:=by simp [at3,List.getElem?_eq_getElem h]
theorem kE_size (vs : List V3) : (kE vs).size = (kbs vs).length:=by simp [kE,ByteArray.size]
theorem rE_size (vs : List V3) : (rE vs).size = (RR.rowB vs).length:=by simp [rE,ByteArray.size]
theorem kbs_short : ∀ {vs : List V3},(∀ v ∈ vs,V3.right v = true) → (kbs vs).length ≤ 150 * vs.length
 | [],_ => by simp [kbs]
 | v :: vs,h => by
  rw [kbs_cons,Zla,List.length_cons]
  have h1:=kbs_short (vs:=vs) fun x hx => h x (by simp [hx])
  have hl:=kb_len v
  have hv:=h v Si
  have hs : v.2.2.size ≤ 64:=by
   rcases right_kind hv with k | k | k | k
   ·rw [(right_null hv k).2]; decide
   ·rw [(right_num hv k).2.2]; decide
   ·rw [(right_bool hv k).2]; decide
   ·exact (right_text hv k).2
  omega
theorem kE_short {vs : List V3} (h : ∀ v ∈ vs,V3.right v = true) (hl : vs.length ≤ 16) : (kE vs).size ≤ 2400:=by
 rw [kE_size]
 have:=kbs_short h
 omega
theorem fitR.len {t : TT.Tb} {r : Row3} (h : fitR t r) (ht : TR t) : 1 ≤ r.length ∧ r.length ≤ 16:=by rw [h.1]; exact ht.cols
theorem skJ_short {t : TT.Tb} (ht : TR t) {j : Nat} (hj : j ≤ t.ixs.length) {r : Row3} (h : ∀ v ∈ r,V3.right v = true) : (skJ t j r).size ≤ 2400:=by
 rw [skJ_all]
 refine kE_short (fun v hv => ?_) ?_
 ·rcases Zma hv with hv | hv
  ·split at hv
   ·exact absurd hv Si
   ·exact pick3_right h _ v hv
  ·exact pick3_right h _ v hv
 ·rw [Zla,pick3_length]
  have h1:=ht.key
  have h2:=ht.colsJ hj
  split
  ·simp; omega
  ·rw [pick3_length]; omega
theorem vaJ_short {t : TT.Tb} (ht : TR t) {j : Nat} {r : Row3} (h : ∀ v ∈ r,V3.right v = true) (hl : r.length ≤ 16) : (vaJ t j r).size ≤ 2400:=by
 unfold vaJ
 split
 ·rw [rE_size]
  have:=RR.rowB_len hl h
  omega
 ·exact kE_short (pick3_right h _) (by rw [pick3_length]; have:=ht.key; omega)
theorem nodup_len {α : Type} [DecidableEq α] : ∀ {l m : List α},l.Nodup → (∀ x ∈ l,x ∈ m) → l.length ≤ m.length
 | [],_,_,_ => Nat.zero_le _
 | x :: l,m,hn,hm => by
  rw [List.nodup_cons] at hn
  have hx:=hm x Si
  have:=nodup_len (l:=l) (m:=m.erase x) hn.2 fun y hy => (List.mem_erase_of_ne fun e => hn.1 (by rw [← e]; exact hy)).2 (hm y (by simp [hy]))
  rw [List.length_erase_of_mem hx] at this
  have hp : 0 < m.length:=List.length_pos_of_mem hx
  rw [List.length_cons]
  omega
theorem srt_nodup {l : List BB.It} (h : BB.Srt l) : (l.map (·.key)).Nodup:=by
 unfold List.Nodup
 rw [List.pairwise_map]
 exact List.Pairwise.imp (fun {a b} hab e => by rw [e,BB.kl_irrefl] at hab; cases hab) h
theorem Holds.count {l : List BB.It} {t : TT.Tb} {P p j : Nat} {rs : List Row3} (h : Holds l (SJ t P p j rs)) : l.length ≤ rs.length:=by
 have:=nodup_len (m:=rs.map (skJ t j)) (srt_nodup h.srt) fun k hk => by
  obtain ⟨x,hx,rfl⟩:=List.mem_map.1 hk
  obtain ⟨_,r,hr,_,e,_⟩:=(h.mem x).1 hx
  exact List.mem_map.2 ⟨r,hr,e.symm⟩
 simpa using this
theorem Holds.sizes {l : List BB.It} {t : TT.Tb} (ht : TR t) {P p j : Nat} (hj : j ≤ t.ixs.length) {rs : List Row3} (hk : TabOk t rs) (h : Holds l (SJ t P p j rs)) : ∀ y ∈ l,y.key.size ≤ 2400 ∧ y.val.size ≤ 2400:=fun y hy => by
 obtain ⟨_,r,hr,_,e1,e2⟩:=(h.mem y).1 hy
 rw [e1,e2]
 exact ⟨skJ_short ht hj (hk.right hr),vaJ_short ht (hk.right hr) ((hk.fit r hr).len ht).2⟩
theorem homeR_lt {P : Nat} (hP : 1 ≤ P) (t : TT.Tb) (r : Row3) : homeR P t r < P:=Nat.mod_lt _ Om
end
theorem Row.later {w w' : World} {a : Option Addr} {vs : List V3} (h : Row w a vs) (hb : Below w.heap.size w w') : Row w' a vs:=by
 intro i hi
 obtain ⟨b,off,e,c0,c1,c2⟩:=h i hi
 exact ⟨b,off,e,cell_later hb c0,cell_later hb c1,cell_later hb c2⟩
theorem Row.alloc {w : World} {a : Option Addr} {vs : List V3} (h : Row w a vs) (o : Obj) : Row (w.alloc o) a vs:=h.later ((Bxr _ _).alloc Zlr _)
def vc : List V3 → List Value
 | [] => []
 | v :: vs => .int .i64 v.1 :: .int .i64 v.2.1 :: .string v.2.2 :: vc vs
theorem vc_length : ∀ vs : List V3,(vc vs).length = vs.length * 3
 | [] => rfl
 | v :: vs => by simp only [vc,List.length_cons,vc_length vs]; omega
theorem vc_one : ∀ (vs : List V3),∀ u ∈ vc vs,u.oneCell' = true
 | [],u,h => by simp [vc] at h
 | v :: vs,u,h => by
  simp only [vc,List.mem_cons] at h
  rcases h with rfl | rfl | rfl | h
  ·rfl
  ·rfl
  ·rfl
  ·exact vc_one vs u h
theorem vc_append : ∀ l m : List V3,vc (l ++ m) = vc l ++ vc m
 | [],m => rfl
 | v :: l,m => by simp only [List.cons_append,vc,vc_append l m]
theorem vc_at : ∀ (vs : List V3) (i : Nat) (h : i < vs.length),(vc vs)[i * 3]? = some (.int .i64 (vs[i]).1) ∧ (vc vs)[i * 3 + 1]? = some (.int .i64 (vs[i]).2.1) ∧ (vc vs)[i * 3 + 2]? = some (.string (vs[i]).2.2)
 | v :: vs,0,_ => ⟨rfl,rfl,rfl⟩
 | v :: vs,i + 1,h => by
  have:=vc_at vs i (by simpa using h)
  have e0 : (i + 1) * 3 = i * 3 + 1 + 1 + 1:=by omega
  have e1 : (i + 1) * 3 + 1 = (i * 3 + 1) + 1 + 1 + 1:=by omega
  have e2 : (i + 1) * 3 + 2 = (i * 3 + 2) + 1 + 1 + 1:=by omega
  rw [e1,e2,e0]
  simpa only [vc,List.getElem?_cons_succ,List.getElem_cons_succ] using this
theorem Row.of_cells {w : World} {b off : Nat} {vs : List V3} (h : ∀ j u,(vc vs)[j]? = some u → w.cell? ⟨b,off + j,none⟩ = some u) : Row w (some ⟨b,off,none⟩) vs:=by
 intro i hi
 obtain ⟨a,c,d⟩:=vc_at vs i hi
 exact ⟨b,off,rfl,h _ _ a,h _ _ c,h _ _ d⟩
theorem Tryz.info23 : (Tryz.prog.info? 73).map (fun i => (i.zero,i.size,i.bytes)) = some (some (.agg #[.int .i64 0,.int .i64 0,.string ⟨#[]⟩]),3,32):=by kernel_rfl
namespace TT
theorem ret_bool {a b : Bool} (h : a = b) : Ending.returned (.bool a) = .returned (.bool b):=by rw [h]
theorem cell_at {w w' : World} {x o : Nat} {v : Value} (h : w'.heap[x]? = w.heap[x]?) (hc : w.cell? ⟨x,o,none⟩ = some v) : w'.cell? ⟨x,o,none⟩ = some v:=(World.cell?_of_block (a:=⟨x,o,none⟩) h).trans hc
theorem below_two {a b c : World} (h : Below a.heap.size a b) (k : Below b.heap.size b c) : Below a.heap.size a c:=h.trans (k.mono h.size)
theorem below_drewN {B : Nat} {a w : World} (h : Below B a w) (n : Nat) : Below B a (w.drewN n):=⟨h.os,h.tape,h.output,h.size,h.block⟩
theorem bcell {W w1 : World} (hb : Below W.heap.size W w1) : (∀ b o,b < W.heap.size → w1.cell? ⟨b,o,none⟩ = W.cell? ⟨b,o,none⟩) ∧ (∀ b o,b < W.heap.size → w1.frozen? ⟨b,o,none⟩ = W.frozen? ⟨b,o,none⟩) :=
 ⟨fun b o h => hb.cell (p:=⟨b,o,none⟩) h,fun b o h => hb.frozen (p:=⟨b,o,none⟩) h⟩
theorem cell_lt {w : World} {b o : Nat} {v : Value} (h : w.cell? ⟨b,o,none⟩ = some v) : b < w.heap.size:=World.block_lt_of_cell? _ _ h
theorem str_eq (s t : ByteArray) : (s.toList == t.toList) = decide (bs s = bs t):=by
 rw [ByteArray.toList_eq,ByteArray.toList_eq,Bool.eq_iff_iff]
 simp [bs]
structure Only (Z : Nat → Prop) (w w' : World) : Prop where
 os : w'.os = w.os
 tape : w'.tape = w.tape
 output : w'.output = w.output
 size : w.heap.size ≤ w'.heap.size
 block : ∀ k,k < w.heap.size → ¬ Z k → w'.heap[k]? = w.heap[k]?
theorem Only.refl (Z : Nat → Prop) (w : World) : Only Z w w:=⟨rfl,rfl,rfl,Nat.le_refl _,fun _ _ _ => rfl⟩
theorem Only.trans {Z : Nat → Prop} {a b c : World} (h : Only Z a b) (k : Only Z b c) : Only Z a c :=
 ⟨k.os.trans h.os,k.tape.trans h.tape,k.output.trans h.output,Zlt h.size k.size,fun i hi hz => (k.block i (Zll hi h.size) hz).trans (h.block i hi hz)⟩
theorem Only.of {Z : Nat → Prop} {w w' : World} (h : Below w.heap.size w w') : Only Z w w':=⟨h.os,h.tape,h.output,h.size,fun k hk _ => h.block k hk⟩
theorem Only.later {Z : Nat → Prop} {a b c : World} (h : Only Z a b) (k : Below b.heap.size b c) : Only Z a c:=h.trans (Only.of k)
theorem Only.below {Z : Nat → Prop} {w w' : World} (h : Only Z w w') {B : Nat} (hB : B ≤ w.heap.size) (hZ : ∀ k,k < B → ¬ Z k) : Below B w w':=⟨h.os,h.tape,h.output,h.size,fun k hk => h.block k Om (hZ k hk)⟩
theorem Only.alloc {Z : Nat → Prop} {a w : World} (h : Only Z a w) (o : Obj) : Only Z a (w.alloc o):=h.later ((Bxr _ _).alloc Zlr _)
theorem Only.grown {Z : Nat → Prop} {a w w' : World} {row : Option Nat} (h : Only Z a w) (hg : w.grownBy w' row) (hr : ∀ k,row = some k → Z k) : Only Z a w' :=
 h.trans ⟨hg.os,hg.tape,hg.output,hg.size,fun k hk hz => hg.block k hk (fun e => hz (hr k e.symm))⟩
theorem Only.setCell {Z : Nat → Prop} {a w : World} (h : Only Z a w) {p : Addr} (hp : Z p.block) (u : Value) : Only Z a (w.setCell p u) :=
 h.trans ⟨rfl,rfl,rfl,by simp [World.setCell],fun k _ hz => Below.heap_setCell _ _ _ _ (fun e => hz (by rw [e]; exact hp))⟩
theorem Only.mono {Z Z' : Nat → Prop} {w w' : World} (h : Only Z w w') (hz : ∀ k,Z k → Z' k) : Only Z' w w':=⟨h.os,h.tape,h.output,h.size,fun k hk g => h.block k hk (fun e => g (hz k e))⟩
def RowR {α : Type} (n : Nat) (R : α → List Value → Prop) (w : World) (a : Option Addr) (l : List α) : Prop :=
 ∀ i (h : i < l.length),∃ b off vs,a = some ⟨b,off,none⟩ ∧ R l[i] vs ∧ vs.length = n ∧ ∀ j (hj : j < vs.length),w.cell? ⟨b,off + i * n + j,none⟩ = some vs[j]
theorem RowR.later {α : Type} {n : Nat} {R R' : α → List Value → Prop} {w w' : World} {a : Option Addr} {l : List α} (h : RowR n R w a l) (hb : Below w.heap.size w w') (hR : ∀ x vs,R x vs → R' x vs) : RowR n R' w' a l:=by
 intro i hi
 obtain ⟨b,off,vs,e,h1,h2,h3⟩:=h i hi
 exact ⟨b,off,vs,e,hR _ _ h1,h2,fun j hj => cell_later hb (h3 j hj)⟩
theorem RowR.nil {α : Type} {n : Nat} {R : α → List Value → Prop} {w : World} {a : Option Addr} : RowR n R w a []:=fun _ h => absurd h (Nat.not_lt_zero _)
def IntR (n : Int) (vs : List Value) : Prop:=vs = [.int .i64 n]
def StrR (s : ByteArray) (vs : List Value) : Prop:=vs = [.string s]
def ColR (c : Col) (vs : List Value) : Prop:=vs = [.string c.nm,.int .i64 c.ty,.bool c.nn]
def PmR (p : Pm) (vs : List Value) : Prop:=vs = [.string p.nm,.int .i64 p.ty]
def IxR (w : World) (x : Ix) (vs : List Value) : Prop:=∃ p cap,vs = [.string x.nm,.slice p x.cols.length cap,.bool x.un] ∧ RowR 1 IntR w p x.cols
def TbR (w : World) (t : Tb) (vs : List Value) : Prop:=∃ pc cc pk ck px cx,vs = [.string t.nm,.slice pc t.cols.length cc,.slice pk t.key.length ck,.int .i64 t.part,.slice px t.ixs.length cx] ∧
 RowR 3 ColR w pc t.cols ∧ RowR 1 IntR w pk t.key ∧ RowR 3 (IxR w) w px t.ixs
def PcR (w : World) (p : Pc) (vs : List Value) : Prop:=∃ pp cp pb cb,vs = [.string p.nm,.slice pp p.prms.length cp,.slice pb p.body.length cb,.int .i64 p.rows,.int .i64 p.bytes] ∧
 RowR 2 PmR w pp p.prms ∧ RowR 1 StrR w pb p.body
def CtR (w : World) (c : Ct) (vs : List Value) : Prop:=∃ pt ct pp cp,vs = [.slice pt c.tbs.length ct,.slice pp c.prs.length cp] ∧ RowR 5 (TbR w) w pt c.tbs ∧ RowR 5 (PcR w) w pp c.prs
theorem IxR.later {w w' : World} (hb : Below w.heap.size w w') (x : Ix) (vs : List Value) (h : IxR w x vs) : IxR w' x vs:=by
 obtain ⟨p,cap,e,h1⟩:=h
 exact ⟨p,cap,e,h1.later hb fun _ _ h => h⟩
theorem TbR.later {w w' : World} (hb : Below w.heap.size w w') (t : Tb) (vs : List Value) (h : TbR w t vs) : TbR w' t vs:=by
 obtain ⟨pc,cc,pk,ck,px,cx,e,h1,h2,h3⟩:=h
 exact ⟨pc,cc,pk,ck,px,cx,e,h1.later hb fun _ _ h => h,h2.later hb fun _ _ h => h,h3.later hb (IxR.later hb)⟩
theorem PcR.later {w w' : World} (hb : Below w.heap.size w w') (p : Pc) (vs : List Value) (h : PcR w p vs) : PcR w' p vs:=by
 obtain ⟨pp,cp,pb,cb,e,h1,h2⟩:=h
 exact ⟨pp,cp,pb,cb,e,h1.later hb fun _ _ h => h,h2.later hb fun _ _ h => h⟩
theorem CtR.later {w w' : World} (hb : Below w.heap.size w w') (c : Ct) (vs : List Value) (h : CtR w c vs) : CtR w' c vs:=by
 obtain ⟨pt,ct,pp,cp,e,h1,h2⟩:=h
 exact ⟨pt,ct,pp,cp,e,h1.later hb (TbR.later hb),h2.later hb (PcR.later hb)⟩
theorem RowR.at1 {α : Type} {R : α → List Value → Prop} {w : World} {a : Option Addr} {l : List α} (h : RowR 1 R w a l) {i : Nat} (hi : i < l.length) : ∃ b off v0,a = some ⟨b,off,none⟩ ∧ R l[i] [v0] ∧ w.cell? ⟨b,off + i,none⟩ = some v0:=by
 obtain ⟨b,off,vs,e,h1,h2,h3⟩:=h i hi
 match vs,h2 with
 | [v0],_ =>
  have g0:=h3 0 Si
  simp only [Nat.mul_one,Nat.add_zero,List.getElem_cons_zero] at g0
  exact ⟨b,off,v0,e,h1,g0⟩
theorem RowR.at2 {α : Type} {R : α → List Value → Prop} {w : World} {a : Option Addr} {l : List α} (h : RowR 2 R w a l) {i : Nat} (hi : i < l.length) : ∃ b off v0 v1,a = some ⟨b,off,none⟩ ∧ R l[i] [v0,v1] ∧ w.cell? ⟨b,off + i * 2,none⟩ = some v0 ∧ w.cell? ⟨b,off + i * 2 + 1,none⟩ = some v1:=by
 obtain ⟨b,off,vs,e,h1,h2,h3⟩:=h i hi
 match vs,h2 with
 | [v0,v1],_ => exact ⟨b,off,v0,v1,e,h1,h3 0 Si,h3 1 Si⟩
theorem RowR.at3 {α : Type} {R : α → List Value → Prop} {w : World} {a : Option Addr} {l : List α} (h : RowR 3 R w a l) {i : Nat} (hi : i < l.length) : ∃ b off v0 v1 v2,a = some ⟨b,off,none⟩ ∧ R l[i] [v0,v1,v2] ∧ w.cell? ⟨b,off + i * 3,none⟩ = some v0 ∧ w.cell? ⟨b,off + i * 3 + 1,none⟩ = some v1 ∧ w.cell? ⟨b,off + i * 3 + 2,none⟩ = some v2:=by
 obtain ⟨b,off,vs,e,h1,h2,h3⟩:=h i hi
 match vs,h2 with
 | [v0,v1,v2],_ => exact ⟨b,off,v0,v1,v2,e,h1,h3 0 Si,h3 1 Si,h3 2 Si⟩
theorem RowR.at5 {α : Type} {R : α → List Value → Prop} {w : World} {a : Option Addr} {l : List α} (h : RowR 5 R w a l) {i : Nat} (hi : i < l.length) : ∃ b off v0 v1 v2 v3 v4,a = some ⟨b,off,none⟩ ∧ R l[i] [v0,v1,v2,v3,v4] ∧ w.cell? ⟨b,off + i * 5,none⟩ = some v0 ∧ w.cell? ⟨b,off + i * 5 + 1,none⟩ = some v1 ∧ w.cell? ⟨b,off + i * 5 + 2,none⟩ = some v2 ∧ w.cell? ⟨b,off + i * 5 + 3,none⟩ = some v3 ∧ w.cell? ⟨b,off + i * 5 + 4,none⟩ = some v4:=by
 obtain ⟨b,off,vs,e,h1,h2,h3⟩:=h i hi
 match vs,h2 with
 | [v0,v1,v2,v3,v4],_ => exact ⟨b,off,v0,v1,v2,v3,v4,e,h1,h3 0 Si,h3 1 Si,h3 2 Si,h3 3 Si,h3 4 Si⟩
end TT
end Go.Proofs.YtmmmkjhpmlfopaaGreatDoor
