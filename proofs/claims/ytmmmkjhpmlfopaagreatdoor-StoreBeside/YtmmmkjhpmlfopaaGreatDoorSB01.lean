/- M1 M2 F0 W1 W3 ZM80 ZB0 ZM81 ZB1 -/
import Derived.Test.YtmmmkjhpmlfopaaGreatDoorSBAb
import GoSem.Op.String
import Derived.Test.YtmmmkjhpmlfopaaGreatDoorRows
import Derived.WalkKit
import Derived.ProofKit
import Derived.LaidMore
import Derived.OpenShut
import Derived.ShutString
import Derived.ChangeOld
import Derived.Below
import Derived.Lib.SmallJoins
import Derived.Deep.Slices
import Derived.Deep.Strs
import Derived.Stop.Joined
import Derived.Test.YtmmmkjhpmlfopaaGreatDoorChecked
import Derived.WalkSpells
import Derived.WalkLawsBesides
import Derived.Deep.RegionHeld3
import Derived.Deep.Light
import Derived.Laws.Strings
import Derived.Test.YtmmmkjhpmlfopaaGreatDoorSh
import Derived.Lib.Hide
import Derived.Deep.RegionLaw
import Derived.Deep.AppendLies
import Derived.Deep.QuietTactic
import Derived.BigQuiet
import Derived.Laws.OwnMore
import Derived.Laws.CopyOwn
import Derived.OneCell
import Derived.Lib.Bytealg
set_option maxHeartbeats 4000000
set_option maxRecDepth 100000
namespace Go.Proofs.YtmmmkjhpmlfopaaGreatDoor
open Go.RowKit
theorem bl_irrefl : ∀ x : List UInt8,Op.bytesLess x x = false
 | [] => rfl
 | a :: x => by simp [Op.bytesLess,bl_irrefl x]
theorem bl_asymm : ∀ x y : List UInt8,Op.bytesLess x y = true → Op.bytesLess y x = false
 | [],[],_ => rfl
 | [],_ :: _,_ => rfl
 | _ :: _,[],h => by simp [Op.bytesLess] at h
 | a :: x,b :: y,h => by
  have ih:=bl_asymm x y
  simp only [Op.bytesLess,Bool.or_eq_true,decide_eq_true_eq,Bool.and_eq_true,beq_iff_eq,UInt8.lt_iff_toNat_lt] at h
  simp only [Op.bytesLess,Bool.or_eq_false_iff,decide_eq_false_iff_not,Bool.and_eq_false_iff,beq_eq_false_iff_ne,UInt8.lt_iff_toNat_lt]
  rcases h with h | ⟨rfl,h⟩
  ·refine ⟨by omega,Or.inl ?_⟩
   intro e; rw [e] at h; omega
  ·exact ⟨by omega,Or.inr (ih h)⟩
theorem bl_trans : ∀ x y z : List UInt8,Op.bytesLess x y = true → Op.bytesLess y z = true → Op.bytesLess x z = true
 | _,[],_,h,_ => by simp [Op.bytesLess] at h
 | _,_ :: _,[],_,g => by simp [Op.bytesLess] at g
 | [],_ :: _,_ :: _,_,_ => rfl
 | a :: x,b :: y,c :: z,h,g => by
  have ih:=bl_trans x y z
  simp only [Op.bytesLess,Bool.or_eq_true,decide_eq_true_eq,Bool.and_eq_true,beq_iff_eq,UInt8.lt_iff_toNat_lt] at h g ⊢
  rcases h with h | ⟨rfl,h⟩
  ·rcases g with g | ⟨rfl,g⟩
   ·exact Or.inl Om
   ·exact Or.inl h
  ·rcases g with g | ⟨rfl,g⟩
   ·exact Or.inl g
   ·exact Or.inr ⟨rfl,ih h g⟩
theorem bl_total : ∀ x y : List UInt8,Op.bytesLess x y = false → x ≠ y → Op.bytesLess y x = true
 | [],[],_,h => absurd rfl h
 | [],_ :: _,h,_ => by simp [Op.bytesLess] at h
 | _ :: _,[],_,_ => rfl
 | a :: x,b :: y,h,g => by
  have ih:=bl_total x y
  simp only [Op.bytesLess,Bool.or_eq_true,decide_eq_true_eq,Bool.and_eq_true,beq_iff_eq,UInt8.lt_iff_toNat_lt]
  simp only [Op.bytesLess,Bool.or_eq_false_iff,decide_eq_false_iff_not,Bool.and_eq_false_iff,beq_eq_false_iff_ne,UInt8.lt_iff_toNat_lt] at h
  by_cases e : a = b
  ·subst e
   refine Or.inr ⟨rfl,ih ?_ (fun e => g (by rw [e]))⟩
   rcases h.2 with h | h
   ·exact absurd rfl h
   ·exact h
  ·refine Or.inl ?_
   have : a.toNat ≠ b.toNat:=fun h => e (UInt8.toNat_inj.1 h)
   omega
def rgt (k n : Int) (s : ByteArray) : Bool :=
 if k = 0 then n == 0 && s.toList.isEmpty
 else if k = 1 then decide (-4611686018427387904 ≤ n) && decide (n ≤ 4611686018427387904) && s.toList.isEmpty
 else if k = 2 then (n == 0 || n == 1) && s.toList.isEmpty
 else if k = 3 then n == 0 && decide ((s.size : Int) ≤ 64)
 else false
def ordI (x y : Int) : Int:=if x < y then -1 else if y < x then 1 else 0
def ordS (x y : ByteArray) : Int:=if Op.bytesLess x.toList y.toList then -1 else if x.toList == y.toList then 0 else 1
def orI (x y z : Int) : Int:=if x = 0 then if y = 0 then z else y else x
def ordV (k n : Int) (s : ByteArray) (k' n' : Int) (s' : ByteArray) : Int:=orI (ordI k k') (ordI n n') (ordS s s')
abbrev V3 : Type:=Int × Int × ByteArray
def V3.right (v : V3) : Bool:=rgt v.1 v.2.1 v.2.2
section
open Go.ChangeShapes Go.WideShapes Go.ChangeAt Go.WideMaps Go.WideElems Go.RowKit
open Go.ChangeMaps (open_string shut_string)
theorem Tryz.own : ownKnob Tryz.prog.godebug = none:=by kernel_rfl
theorem Tryz.laidOut : laidOutB Tryz.prog = true:=by kernel_rfl
end
theorem ret_bool {a b : Bool} (h : a = b) : Ending.returned (.bool a) = .returned (.bool b):=by rw [h]
theorem ret_int {k : IntKind} {a b : Int} (h : a = b) : Ending.returned (.int k a) = .returned (.int k b):=by rw [h]
theorem right_any (k n : Int) (s : ByteArray) (w : World) :
  Calls Tryz.prog 107 #[.agg #[.int .i64 k,.int .i64 n,.string s]] w fun e w' => e = .returned (.bool (rgt k n s)) ∧ Below w.heap.size w w':=by
 go_enter Tryz.func107,Tryz.ntmps107
 go_wp2
 all_goals go_ret
 all_goals refine ⟨ret_bool ?_,(Bxr _ _).alloc Zlr _⟩
 all_goals go_light
 all_goals (unfold rgt; (repeat' split) <;> simp_all <;> omega)
theorem bcell {W w1 : World} (hb : Below W.heap.size W w1) : (∀ b o,b < W.heap.size → w1.cell? ⟨b,o,none⟩ = W.cell? ⟨b,o,none⟩) ∧ (∀ b o,b < W.heap.size → w1.frozen? ⟨b,o,none⟩ = W.frozen? ⟨b,o,none⟩) :=
 ⟨fun b o h => hb.cell (p:=⟨b,o,none⟩) h,fun b o h => hb.frozen (p:=⟨b,o,none⟩) h⟩
def Row (w : World) (a : Option Addr) (vs : List V3) : Prop :=
 ∀ i (h : i < vs.length),∃ b off,a = some ⟨b,off,none⟩ ∧ w.cell? ⟨b,off + i * 3,none⟩ = some (.int .i64 (vs[i]).1) ∧ w.cell? ⟨b,off + i * 3 + 1,none⟩ = some (.int .i64 (vs[i]).2.1) ∧ w.cell? ⟨b,off + i * 3 + 2,none⟩ = some (.string (vs[i]).2.2)
theorem upto_succ {n k : Nat} {p : (j : Nat) → j < n → Prop} (h : ∀ j (g : j < n),j < k → p j g) {hlt : k < n} (e : p k hlt) : ∀ j (g : j < n),j < k + 1 → p j g:=by
 intro j g hj
 by_cases hjk : j = k
 ·subst hjk; exact e
 ·exact h j g Om
namespace BB
def kl (a b : ByteArray) : Bool:=Op.bytesLess a.toList b.toList
theorem ba_inj {a b : ByteArray} (h : a.toList = b.toList) : a = b:=by
 rw [ByteArray.toList_eq,ByteArray.toList_eq] at h
 exact ByteArray.ext (Array.ext' h)
theorem kl_irrefl (a : ByteArray) : kl a a = false:=bl_irrefl _
theorem kl_asymm {a b : ByteArray} (h : kl a b = true) : kl b a = false:=bl_asymm _ _ h
theorem kl_trans {a b c : ByteArray} (h : kl a b = true) (g : kl b c = true) : kl a c = true:=bl_trans _ _ _ h g
theorem kl_total {a b : ByteArray} (h : kl a b = false) (g : a ≠ b) : kl b a = true:=bl_total _ _ h fun e => g (ba_inj e)
theorem kl_ne {a b : ByteArray} (h : kl a b = true) : a ≠ b:=fun e => by
 subst e
 rw [kl_irrefl] at h
 cases h
theorem kl_le_lt {a b c : ByteArray} (h : kl b a = false) (g : kl b c = true) : kl a c = true:=by
 by_cases e : a = b
 ·subst e; exact g
 ·exact kl_trans (kl_total h fun e' => e e'.symm) g
theorem kl_lt_le {a b c : ByteArray} (h : kl a b = true) (g : kl c b = false) : kl a c = true:=by
 by_cases e : b = c
 ·subst e; exact h
 ·exact kl_trans h (kl_total g fun e' => e e'.symm)
theorem kl_le_trans {a b c : ByteArray} (h : kl b a = false) (g : kl c b = false) : kl c a = false:=by
 cases hc : kl c a with
 | false => rfl
 | true =>
  have:=kl_lt_le hc h
  rw [g] at this
  cases this
structure It where
 key : ByteArray
 val : ByteArray
 kid : Option Nat
structure Nd where
 b : Nat
 v : Value
 its : List It
structure Iv where
 lo : Option ByteArray
 hi : Option ByteArray
abbrev Slot:=Nat × Iv
def inLo (lo : Option ByteArray) (k : ByteArray) : Prop:=∀ l,lo = some l → kl k l = false
def inHi (hi : Option ByteArray) (k : ByteArray) : Prop:=∀ h,hi = some h → kl k h = true
def inIv (iv : Iv) (k : ByteArray) : Prop:=inLo iv.lo k ∧ inHi iv.hi k
def Srt (l : List It) : Prop:=l.Pairwise fun x y => kl x.key y.key = true
structure NodeOk (n : Nd) (iv : Iv) : Prop where
 srt : Srt n.its
 mem : ∀ x ∈ n.its,inIv iv x.key
def LeafN (n : Nd) : Prop:=∀ x ∈ n.its,x.kid = none
structure MidN (n : Nd) : Prop where
 ne : n.its ≠ []
 kid : ∀ x ∈ n.its,∃ b,x.kid = some b
def hiOf : List It → Option ByteArray → Option ByteArray
 | [],hi => hi
 | i :: _,_ => some i.key
def nslots : List It → Option ByteArray → List Slot
 | [],_ => []
 | i :: r,hi => (i.kid.getD 0,⟨some i.key,hiOf r hi⟩) :: nslots r hi
theorem nslots_length : ∀ (l : List It) (hi : Option ByteArray),(nslots l hi).length = l.length
 | [],_ => rfl
 | _ :: r,hi => by simp [nslots,nslots_length r hi]
theorem hiOf_append (a b : List It) (hi : Option ByteArray) : hiOf (a ++ b) hi = hiOf a (hiOf b hi):=by
 cases a <;> rfl
theorem nslots_append : ∀ (a b : List It) (hi : Option ByteArray),nslots (a ++ b) hi = nslots a (hiOf b hi) ++ nslots b hi
 | [],_,_ => rfl
 | i :: r,b,hi => by
  show (i.kid.getD 0,(⟨some i.key,hiOf (r ++ b) hi⟩ : Iv)) :: nslots (r ++ b) hi = _ :: (nslots r _ ++ nslots b hi)
  rw [nslots_append r b hi,hiOf_append]
def Fits : List Slot → List Nd → Prop
 | [],[] => True
 | s :: S,n :: L => (n.b = s.1 ∧ NodeOk n s.2) ∧ Fits S L
 | _,_ => False
def slots : List Slot → List Nd → List Slot
 | s :: S,n :: L => nslots n.its s.2.hi ++ slots S L
 | _,_ => []
def Good : List Slot → List (List Nd) → Prop
 | _,[] => False
 | S,L :: r => Fits S L ∧ (match r with
  | [] => ∀ n ∈ L,LeafN n
  | M :: r' => (∀ n ∈ L,MidN n) ∧ Good (slots S L) (M :: r'))
theorem good_leaf {S : List Slot} {L : List Nd} : Good S [L] ↔ Fits S L ∧ ∀ n ∈ L,LeafN n:=by rw [Good]
theorem good_mid {S : List Slot} {L M : List Nd} {r : List (List Nd)} : Good S (L :: M :: r) ↔ Fits S L ∧ (∀ n ∈ L,MidN n) ∧ Good (slots S L) (M :: r):=by rw [Good]
theorem Fits.length : ∀ {S : List Slot} {L : List Nd},Fits S L → S.length = L.length
 | [],[],_ => rfl
 | _ :: S,_ :: L,h => by simp [Fits.length (S:=S) (L:=L) h.2]
 | [],_ :: _,h => h.elim
 | _ :: _,[],h => h.elim
theorem fits_append : ∀ {S T : List Slot} {L M : List Nd},S.length = L.length → (Fits (S ++ T) (L ++ M) ↔ Fits S L ∧ Fits T M)
 | [],T,[],M,_ => by simp [Fits]
 | s :: S,T,n :: L,M,h => by
  show (_ ∧ Fits (S ++ T) (L ++ M)) ↔ (_ ∧ Fits S L) ∧ Fits T M
  rw [fits_append (by simpa using h)]
  exact and_assoc.symm
 | [],_,_ :: _,_,h => by simp at h
 | _ :: _,_,[],_,h => by simp at h
theorem slots_append : ∀ {S T : List Slot} {L M : List Nd},S.length = L.length → slots (S ++ T) (L ++ M) = slots S L ++ slots T M
 | [],T,[],M,_ => by simp [slots]
 | s :: S,T,n :: L,M,h => by
  show nslots _ _ ++ slots (S ++ T) (L ++ M) = (nslots _ _ ++ slots S L) ++ slots T M
  rw [slots_append (by simpa using h),Zas]
 | [],_,_ :: _,_,h => by simp at h
 | _ :: _,_,[],_,h => by simp at h
structure Wide (a b : Iv) : Prop where
 lo : ∀ k,inLo a.lo k → inLo b.lo k
 hi : ∀ k,inHi a.hi k → inHi b.hi k
theorem Wide.refl (a : Iv) : Wide a a:=⟨fun _ h => h,fun _ h => h⟩
theorem inIv.wide {a b : Iv} {k : ByteArray} (h : inIv a k) (w : Wide a b) : inIv b k:=⟨w.lo k h.1,w.hi k h.2⟩
theorem NodeOk.wide {n : Nd} {a b : Iv} (h : NodeOk n a) (w : Wide a b) : NodeOk n b:=⟨h.srt,fun x hx => (h.mem x hx).wide w⟩
def WideS : List Slot → List Slot → Prop
 | [],[] => True
 | s :: S,t :: T => (s.1 = t.1 ∧ Wide s.2 t.2) ∧ WideS S T
 | _,_ => False
theorem WideS.refl : ∀ S : List Slot,WideS S S
 | [] => trivial
 | _s :: S => ⟨⟨rfl,Wide.refl _⟩,WideS.refl S⟩
theorem WideS.append : ∀ {S T S' T' : List Slot},WideS S S' → WideS T T' → WideS (S ++ T) (S' ++ T')
 | [],_T,[],_T',_,h => h
 | _s :: _S,_T,_s' :: _S',_T',h,g => ⟨h.1,WideS.append h.2 g⟩
 | [],_,_ :: _,_,h,_ => h.elim
 | _ :: _,_,[],_,h,_ => h.elim
theorem nslots_wide : ∀ (l : List It) {a b : Option ByteArray},(∀ k,inHi a k → inHi b k) → WideS (nslots l a) (nslots l b)
 | [],_,_,_ => trivial
 | [_i],_a,_b,h => ⟨⟨rfl,⟨fun _ g => g,h⟩⟩,trivial⟩
 | _i :: j :: r,_a,_b,h => ⟨⟨rfl,⟨fun _ g => g,fun _ g => g⟩⟩,nslots_wide (j :: r) h⟩
theorem Fits.wide : ∀ {S T : List Slot} {L : List Nd},Fits S L → WideS S T → Fits T L ∧ WideS (slots S L) (slots T L)
 | [],[],[],_,_ => ⟨trivial,trivial⟩
 | s :: S,t :: T,n :: L,h,w => by
  obtain ⟨h1,h2⟩:=Fits.wide h.2 w.2
  exact ⟨⟨⟨h.1.1.trans w.1.1,h.1.2.wide w.1.2⟩,h1⟩,(nslots_wide n.its w.1.2.hi).append h2⟩
 | [],_ :: _,_,_,w => w.elim
 | _ :: _,[],_,_,w => w.elim
 | [],[],_ :: _,h,_ => h.elim
 | _ :: _,_ :: _,[],h,_ => h.elim
theorem Good.wide : ∀ {ls : List (List Nd)} {S T : List Slot},Good S ls → WideS S T → Good T ls
 | [],_,_,h,_ => h.elim
 | [L],S,T,h,w => by
  rw [good_leaf] at h ⊢
  exact ⟨(h.1.wide w).1,h.2⟩
 | L :: M :: r,S,T,h,w => by
  rw [good_mid] at h ⊢
  exact ⟨(h.1.wide w).1,h.2.1,Good.wide h.2.2 (h.1.wide w).2⟩
theorem cell_at {w w' : World} {x o : Nat} {v : Value} (h : w'.heap[x]? = w.heap[x]?) (hc : w.cell? ⟨x,o,none⟩ = some v) : w'.cell? ⟨x,o,none⟩ = some v:=(World.cell?_of_block (a:=⟨x,o,none⟩) h).trans hc
theorem below_two {a b c : World} (h : Below a.heap.size a b) (k : Below b.heap.size b c) : Below a.heap.size a c:=h.trans (k.mono h.size)
theorem below_drewN {B : Nat} {a w : World} (h : Below B a w) (n : Nat) : Below B a (w.drewN n):=⟨h.os,h.tape,h.output,h.size,h.block⟩
theorem heap_setCell_at {w : World} {l i : Nat} {cs : Array Value} {t : TypeId} {fr : Nat × Nat} (h : w.heap[l]? = some (.cells cs t fr)) (v : Value) : (w.setCell ⟨l,i,none⟩ v).heap[l]? = some (.cells (cs.setIfInBounds i v) t fr):=by
 simp only [World.setCell,Array.getElem?_modify,if_true,h]
 simp
theorem own_ne {w : World} {B : Nat} {e : TypeId} {size : Nat} {v : Value} {n : Nat} {xs : List Value} (h : w.ownsRow B e size v n xs) {l : Nat} {cs : Array Value} {t : TypeId} {fr : Nat × Nat} (hl : w.heap[l]? = some (.cells cs t fr)) (ht : t ≠ e) : v.ownBlock ≠ some l:=by
 intro e1
 obtain ⟨_,⟨rfl,_⟩ | ⟨b,cap,cur,rfl,_,hg,_⟩⟩:=h
 ·cases e1
 ·obtain rfl : b = l:=by simpa [Value.ownBlock] using e1
  rw [hl] at hg
  simp only [Option.some.injEq,Obj.cells.injEq] at hg
  exact ht hg.2.1
theorem own_kept {w w' : World} {base n : Nat} {e : TypeId} {size : Nat} {v : Value} {xs : List Value} (h : w.ownsRow base e size v n xs) (hk : ∀ g,v.ownBlock = some g → w'.heap[g]? = w.heap[g]?) : w'.ownsRow base e size v n xs:=by
 obtain ⟨h1,h2 | ⟨g,cap,cur,rfl,a,b,c⟩⟩:=h
 ·exact ⟨h1,Or.inl h2⟩
 ·exact ⟨h1,Or.inr ⟨g,cap,cur,rfl,a,(hk g rfl).trans b,c⟩⟩
structure Only (Z : Nat → Prop) (w w' : World) : Prop where
 os : w'.os = w.os
 tape : w'.tape = w.tape
 output : w'.output = w.output
 size : w.heap.size ≤ w'.heap.size
 block : ∀ k,k < w.heap.size → ¬ Z k → w'.heap[k]? = w.heap[k]?
theorem Only.refl (Z : Nat → Prop) (w : World) : Only Z w w:=⟨rfl,rfl,rfl,Nat.le_refl _,fun _ _ _ => rfl⟩
theorem Only.trans {Z : Nat → Prop} {a b c : World} (h : Only Z a b) (k : Only Z b c) : Only Z a c :=
 ⟨k.os.trans h.os,k.tape.trans h.tape,k.output.trans h.output,Zlt h.size k.size,fun i hi hz => (k.block i (Zll hi h.size) hz).trans (h.block i hi hz)⟩
theorem Only.of {Z : Nat → Prop} {w w' : World} (h : Below w.heap.size w w') : Only Z w w':=⟨h.os,h.tape,h.output,h.size,fun k hk _ => h.block k hk⟩
theorem Only.later {Z : Nat → Prop} {a b c : World} (h : Only Z a b) (k : Below b.heap.size b c) : Only Z a c:=h.trans (Only.of k)
theorem Only.below {Z : Nat → Prop} {w w' : World} (h : Only Z w w') {B : Nat} (hB : B ≤ w.heap.size) (hZ : ∀ k,k < B → ¬ Z k) : Below B w w':=⟨h.os,h.tape,h.output,h.size,fun k hk => h.block k Om (hZ k hk)⟩
theorem Only.drew {Z : Nat → Prop} {a w : World} (h : Only Z a w) : Only Z a w.drew:=h.later (Bxr _ _).drew
theorem Only.grown {Z : Nat → Prop} {a w w' : World} {row : Option Nat} (h : Only Z a w) (hg : w.grownBy w' row) (hr : ∀ k,row = some k → Z k) : Only Z a w' :=
 h.trans ⟨hg.os,hg.tape,hg.output,hg.size,fun k hk hz => hg.block k hk (fun e => hz (hr k e.symm))⟩
theorem Only.setCell {Z : Nat → Prop} {a w : World} (h : Only Z a w) {p : Addr} (hp : Z p.block) (u : Value) : Only Z a (w.setCell p u) :=
 h.trans ⟨rfl,rfl,rfl,by simp [World.setCell],fun k _ hz => Below.heap_setCell _ _ _ _ (fun e => hz (by rw [e]; exact hp))⟩
theorem Only.mono {Z Z' : Nat → Prop} {w w' : World} (h : Only Z w w') (hz : ∀ k,Z k → Z' k) : Only Z' w w':=⟨h.os,h.tape,h.output,h.size,fun k hk g => h.block k hk (fun e => g (hz k e))⟩
theorem setCells_grown (g : Nat) : ∀ (vs : List Value) (o : Nat) (w : World),w.grownBy (w.setCells g o vs) (some g)
 | [],_,w => ⟨rfl,rfl,rfl,Nat.le_refl _,fun _ _ _ => rfl⟩
 | v :: r,o,w => by
  have ih:=setCells_grown g r (o + 1) (w.setCell ⟨g,o,none⟩ v)
  refine ⟨ih.os,ih.tape,ih.output,?_,fun k hk hne => ?_⟩
  ·have:=ih.size
   rw [World.setCells]
   refine Zlt ?_ this
   simp [World.setCell]
  ·rw [World.setCells]
   rw [ih.block k (by simpa [World.setCell] using hk) hne]
   exact Below.heap_setCell _ _ _ _ (fun e => hne (by rw [e]))
def ic : List It → List Value
 | [] => []
 | x :: r => .string x.key :: .string x.val :: .pointer (x.kid.map fun b => ⟨b,0,none⟩) :: ic r
theorem ic_length : ∀ l : List It,(ic l).length = l.length * 3
 | [] => rfl
 | _ :: r => by simp only [ic,List.length_cons,ic_length r]; omega
theorem ic_append : ∀ l m : List It,ic (l ++ m) = ic l ++ ic m
 | [],_ => rfl
 | _ :: r,m => by simp only [List.cons_append,ic,ic_append r m]
theorem ic_one : ∀ (l : List It),∀ u ∈ ic l,u.oneCell' = true
 | [],u,h => by simp [ic] at h
 | x :: r,u,h => by
  simp only [ic,List.mem_cons] at h
  rcases h with rfl | rfl | rfl | h
  ·rfl
  ·rfl
  ·rfl
  ·exact ic_one r u h
theorem ic_at : ∀ (l : List It) (i : Nat) (h : i < l.length),(ic l)[i * 3]? = some (.string (l[i]).key) ∧ (ic l)[i * 3 + 1]? = some (.string (l[i]).val) ∧ (ic l)[i * 3 + 2]? = some (.pointer ((l[i]).kid.map fun b => ⟨b,0,none⟩))
 | x :: r,0,_ => ⟨rfl,rfl,rfl⟩
 | x :: r,i + 1,h => by
  have:=ic_at r i (by simpa using h)
  have e0 : (i + 1) * 3 = i * 3 + 1 + 1 + 1:=by omega
  have e1 : (i + 1) * 3 + 1 = (i * 3 + 1) + 1 + 1 + 1:=by omega
  have e2 : (i + 1) * 3 + 2 = (i * 3 + 2) + 1 + 1 + 1:=by omega
  rw [e1,e2,e0]
  simpa only [ic,List.getElem?_cons_succ,List.getElem_cons_succ] using this
structure NdAt (w : World) (n : Nd) (nx : Option Nat) : Prop where
 cells : w.heap[n.b]? = some (.cells #[n.v,.pointer (nx.map fun b => ⟨b,0,none⟩)] 198 (0,0))
 row : w.ownsRow 0 195 3 n.v n.its.length (ic n.its)
theorem NdAt.lt {w : World} {n : Nd} {nx : Option Nat} (h : NdAt w n nx) : n.b < w.heap.size:=(Gx h.cells)
theorem NdAt.kept {w w' : World} {n : Nd} {nx : Option Nat} (h : NdAt w n nx) (hb : w'.heap[n.b]? = w.heap[n.b]?) (hr : ∀ k,n.v.ownBlock = some k → w'.heap[k]? = w.heap[k]?) : NdAt w' n nx:=⟨hb.trans h.cells,own_kept h.row hr⟩
theorem NdAt.later {w w' : World} {n : Nd} {nx : Option Nat} (h : NdAt w n nx) (hb : Below w.heap.size w w') : NdAt w' n nx:=h.kept (hb.block _ h.lt) fun k hk => hb.block _ (h.row.lt k hk).2
structure NCells (w : World) (n : Nd) (nx : Option Nat) : Prop where
 c0 : w.cell? ⟨n.b,0,none⟩ = some n.v
 c1 : w.cell? ⟨n.b,1,none⟩ = some (.pointer (nx.map fun b => ⟨b,0,none⟩))
 fz : ∀ o,w.frozen? ⟨n.b,o,none⟩ = false
theorem NdAt.nc {w : World} {n : Nd} {nx : Option Nat} (h : NdAt w n nx) : NCells w n nx:=by
 have e:=h.cells
 refine ⟨?_,?_,fun o => ?_⟩ <;> simp [World.cell?,World.frozen?,e]
theorem irow_form {w : World} {v : Value} {l : List It} (h : w.ownsRow 0 195 3 v l.length (ic l)) : ∃ p cap,v = .slice p l.length cap ∧ l.length ≤ cap ∧ cap ≤ maxLen:=by
 obtain ⟨_,⟨rfl,h2⟩ | ⟨g,cap,cur,rfl,_,_,h3,h4,_⟩⟩:=h
 ·exact ⟨none,0,by rw [h2],by omega,Nat.zero_le _⟩
 ·exact ⟨_,cap,rfl,h3,h4⟩
theorem irow_at {w : World} {v : Value} {l : List It} (h : w.ownsRow 0 195 3 v l.length (ic l)) (hl : 0 < l.length) : ∃ g cap,v = .slice (some ⟨g,0,none⟩) l.length cap ∧ l.length ≤ cap ∧ cap ≤ maxLen ∧ g < w.heap.size ∧ (∀ i (hi : i < l.length),w.cell? ⟨g,i * 3,none⟩ = some (.string (l[i]).key) ∧ w.cell? ⟨g,i * 3 + 1,none⟩ = some (.string (l[i]).val) ∧ w.cell? ⟨g,i * 3 + 2,none⟩ = some (.pointer ((l[i]).kid.map fun b => ⟨b,0,none⟩))) ∧ ∀ o,w.frozen? ⟨g,o,none⟩ = false:=by
 have hr:=h
 obtain ⟨_,⟨rfl,h2⟩ | ⟨g,cap,cur,rfl,_,_,h3,h4,_⟩⟩:=h
 ·omega
 ·refine ⟨g,cap,rfl,h3,h4,(hr.lt g rfl).2,fun i hi => ?_,fun o => hr.frozenAt o⟩
  obtain ⟨e0,e1,e2⟩:=ic_at l i hi
  exact ⟨(hr.cellAt (i * 3) Om).trans e0,(hr.cellAt (i * 3 + 1) Om).trans e1,(hr.cellAt (i * 3 + 2) Om).trans e2⟩
theorem cmp_lt : ∀ a b : List UInt8,decide (Lib.compareBytes a b < 0) = Op.bytesLess a b
 | [],[] => by simp [Lib.compareBytes,Op.bytesLess]
 | [],_ :: _ => by simp [Lib.compareBytes,Op.bytesLess]
 | _ :: _,[] => by simp [Lib.compareBytes,Op.bytesLess]
 | a :: x,b :: y => by
  have ih:=cmp_lt x y
  simp only [Lib.compareBytes,Op.bytesLess]
  by_cases h1 : a < b
  ·simp [h1]
  ·by_cases h2 : b < a
   ·have : ¬ a = b:=fun e => by subst e; exact h1 h2
    simp [h1,h2,this]
   ·have e : a = b:=by
     apply UInt8.toNat_inj.1
     rw [UInt8.lt_iff_toNat_lt] at h1 h2
     omega
    subst e
    simp only [h1,if_false,ih,decide_false,Bool.false_or,beq_self_eq_true,Bool.true_and]
theorem cmp_eq : ∀ a b : List UInt8,(Lib.compareBytes a b = 0) ↔ a = b
 | [],[] => by simp [Lib.compareBytes]
 | [],_ :: _ => by simp [Lib.compareBytes]
 | _ :: _,[] => by simp [Lib.compareBytes]
 | a :: x,b :: y => by
  have ih:=cmp_eq x y
  simp only [Lib.compareBytes,List.cons.injEq]
  by_cases h1 : a < b
  ·have : ¬ a = b:=fun e => by subst e; rw [UInt8.lt_iff_toNat_lt] at h1; omega
   simp [h1,this]
  ·by_cases h2 : b < a
   ·have : ¬ a = b:=fun e => by subst e; exact h1 h2
    simp [h1,h2,this]
   ·have e : a = b:=by
     apply UInt8.toNat_inj.1
     rw [UInt8.lt_iff_toNat_lt] at h1 h2
     omega
    subst e
    simp [h1,ih]
def cntL (key : ByteArray) : List It → Nat
 | [] => 0
 | x :: r => if kl x.key key then cntL key r + 1 else 0
def foundL (key : ByteArray) (l : List It) : Bool:=(l[cntL key l]?).any fun x => decide (x.key = key)
theorem cntL_le (key : ByteArray) : ∀ l : List It,cntL key l ≤ l.length
 | [] => Nat.le_refl _
 | x :: r => by
  rw [cntL]
  split
  ·have:=cntL_le key r
   rw [List.length_cons]
   omega
  ·exact Nat.zero_le _
theorem cntL_lt (key : ByteArray) : ∀ (l : List It) (i : Nat) (h : i < l.length),i < cntL key l → kl (l[i]).key key = true
 | x :: r,0,_,hc => by
  rw [cntL] at hc
  split at hc
  ·assumption
  ·omega
 | x :: r,i + 1,h,hc => by
  rw [cntL] at hc
  split at hc
  ·exact cntL_lt key r i (by simpa using h) Om
  ·omega
theorem cntL_at (key : ByteArray) : ∀ (l : List It) (h : cntL key l < l.length),kl (l[cntL key l]).key key = false
 | x :: r,h => by
  by_cases hx : kl x.key key = true
  ·have e : cntL key (x :: r) = cntL key r + 1:=by rw [cntL,if_pos hx]
   have:=cntL_at key r (by rw [e] at h; simpa using h)
   simp only [e,List.getElem_cons_succ]
   exact this
  ·have e : cntL key (x :: r) = 0:=by rw [cntL,if_neg hx]
   simp only [e,List.getElem_cons_zero]
   simpa using hx
theorem cntL_ge {key : ByteArray} {l : List It} (hs : Srt l) {i : Nat} (h : i < l.length) (hc : cntL key l ≤ i) : kl (l[i]).key key = false:=by
 have h0:=cntL_at key l Om
 rcases Nat.eq_or_lt_of_le hc with e | e
 ·simp only [e] at h0; exact h0
 ·have:=List.pairwise_iff_getElem.1 hs _ _ Om h e
  cases hk : kl (l[i]).key key with
  | false => rfl
  | true =>
   have:=kl_trans this hk
   rw [h0] at this
   cases this
theorem foundL_no {key : ByteArray} {l : List It} (h : cntL key l = l.length) : foundL key l = false:=by
 unfold foundL
 rw [List.getElem?_eq_none Om]
 rfl
theorem foundL_at {key : ByteArray} {l : List It} (h : cntL key l < l.length) : foundL key l = decide ((l[cntL key l]).key = key):=by
 unfold foundL
 rw [List.getElem?_eq_getElem h]
 rfl
theorem cntL_cut {key : ByteArray} {l : List It} (hs : Srt l) : (∀ x ∈ l.take (cntL key l),kl x.key key = true) ∧ (∀ x ∈ l.drop (cntL key l),kl x.key key = false):=by
 refine ⟨fun x hx => ?_,fun x hx => ?_⟩
 ·obtain ⟨i,hi,rfl⟩:=List.getElem_of_mem hx
  rw [List.length_take] at hi
  rw [List.getElem_take]
  exact cntL_lt key l i Om Om
 ·obtain ⟨i,hi,rfl⟩:=List.getElem_of_mem hx
  rw [List.length_drop] at hi
  rw [List.getElem_drop]
  exact cntL_ge hs Om Om
theorem compare_any (a b : ByteArray) (w : World) : Calls Tryz.prog 76 #[.string a,.string b] w fun e w' => e = .returned (.int .i64 (Lib.compareBytes a.toList b.toList)) ∧ w' = w:=by
 rw [ByteArray.toList_eq,ByteArray.toList_eq]
 exact Tryz.strings_Compare a b w
theorem find1_any (k v : ByteArray) (p : Option Addr) (key : ByteArray) (w : World) :
  Calls Tryz.prog 155 #[.agg #[.string k,.string v,.pointer p],.string key] w fun e w' => e = .returned (.int .i64 (Lib.compareBytes k.toList key.toList)) ∧ Below w.heap.size w w':=by
 obtain ⟨c,hc⟩:=Vx (Lib.compareBytes k.toList key.toList)
 have HC : Hid (∀ w,Calls Tryz.prog 76 #[.string k,.string key] w fun e w' => e = .returned (.int .i64 c) ∧ w' = w):=fun w => by rw [← hc]; exact compare_any k key w
 rw [hc]
 clear hc
 go_enter Tryz.func155,Tryz.ntmps155
 go_wp2_with (go_at_call 76; refine (HC.out _).mono ?_; rintro e w' ⟨rfl,rfl⟩)
 go_ret
 exact ⟨rfl,(Bxr _ _).alloc Zlr _⟩
theorem search_any (w : World) (v : Value) (l : List It) (key : ByteArray) (h : w.ownsRow 0 195 3 v l.length (ic l)) (hs : Srt l) (hl : l.length ≤ 1000000) :
  Calls Tryz.prog 154 #[v,.string key,.func (.func 155) #[] #[]] w fun e w' => e = .returned (.tuple #[.int .i64 (cntL key l : Int),.bool (foundL key l)]) ∧ Below w.heap.size w w':=by
 have HR : Hid (w.ownsRow 0 195 3 v l.length (ic l)):=h
 have HS : Hid (Srt l):=hs
 obtain ⟨p,cap,rfl,hcap,hmax⟩:=irow_form h
 have hcn:=cntL_le key l
 clear h hs
 go_enter Tryz.func154,Tryz.ntmps154
 go_wp2
 go_loopw [9,10] (fun i j wr => ∃ (a b : Nat),i = .int .i64 (a : Int) ∧ j = .int .i64 (b : Int) ∧ a ≤ cntL key l ∧ cntL key l ≤ b ∧ b ≤ l.length ∧ Below w.heap.size w wr) (fun i j _ => (intOf j).toNat - (intOf i).toNat)
 case atStart => exact ⟨0,l.length,rfl,rfl,Nat.zero_le _,hcn,Nat.le_refl _,Bxr _ _⟩
 case round =>
  obtain ⟨a,b,rfl,rfl,ha,hb,hbl,hbw⟩:=hrel
  have HB : Hid (Below w.heap.size w wr):=hbw
  clear hbw
  by_cases hlt : a < b
  ·have hlti : (a : Int) < (b : Int):=by omega
   obtain ⟨m,hm⟩:=Vx ((a + b) / 2)
   have hma : a ≤ m:=by omega
   have hmb : m < b:=by omega
   have hmi : (m : Int) < (l.length : Int):=by omega
   obtain ⟨g,cap',e,_,_,_,hc,_⟩:=irow_at HR.out Om
   simp only [Value.slice.injEq] at e
   obtain ⟨rfl,_,rfl⟩:=e
   obtain ⟨c0,c1,c2⟩:=hc m Om
   have d0:=cell_later HB.out c0
   have d1:=cell_later HB.out c1
   have d2:=cell_later HB.out c2
   clear c0 c1 c2 hc
   obtain ⟨k,hk⟩:=Vx ((l[m]'Om).key)
   obtain ⟨x,hx⟩:=Vx ((l[m]'Om).val)
   obtain ⟨q,hq⟩ : ∃ q : Option Addr,((l[m]'Om).kid.map fun b => (⟨b,0,none⟩ : Addr)) = q:=⟨_,rfl⟩
   rw [hk] at d0
   rw [hx] at d1
   rw [hq] at d2
   have HM : Hid (∀ h : m < l.length,(l[m]'h).key = k):=fun _ => hk
   clear hk hx hq
   go_wp2_with fail
   refine (find1_any k x q key wr).mono ?_
   rintro e w1 ⟨rfl,hb1⟩
   have HB1 : Hid (Below w.heap.size w w1):=below_two HB.out hb1
   clear hb1 d0 d1 d2
   have hmi2 : ((a : Int) + (b : Int)) / 2 = (m : Int):=by omega
   cases hcmp : kl k key with
   | true =>
    have hneg : Lib.compareBytes k.toList key.toList < 0:=of_decide_eq_true ((cmp_lt _ _).trans hcmp)
    have hmc : m < cntL key l:=by
     rcases Nat.lt_or_ge m (cntL key l) with h | h
     ·exact h
     ·have:=cntL_ge HS.out (i:=m) Om h
      rw [HM.out,hcmp] at this
      cases this
    have HF : Hid (m + 1 ≤ cntL key l ∧ a < m + 1 ∧ m < b):=⟨hmc,by omega,hmb⟩
    clear hcmp hmc hma hmb hmi hm
    go_wp2
    go_roundw
    case rel => exact ⟨m + 1,b,by go_num,rfl,HF.out.1,hb,hbl,HB1.out⟩
    case measure => have:=HF.out; simp [intOf]; omega
   | false =>
    have hneg : ¬ Lib.compareBytes k.toList key.toList < 0:=of_decide_eq_false ((cmp_lt _ _).trans hcmp)
    have hmc : cntL key l ≤ m:=by
     rcases Nat.lt_or_ge m (cntL key l) with h | h
     ·have:=cntL_lt key l m Om h
      rw [HM.out,hcmp] at this
      cases this
     ·exact h
    have HF : Hid (cntL key l ≤ m ∧ a ≤ m ∧ m < b):=⟨hmc,hma,hmb⟩
    clear hcmp hmc hma hmb hmi hm
    go_wp2
    go_roundw
    case rel => exact ⟨a,m,rfl,by go_num,ha,HF.out.1,by have:=HF.out; omega,HB1.out⟩
    case measure => have:=HF.out; simp [intOf]; omega
  ·obtain rfl : a = cntL key l:=by omega
   have hlti : ¬ ((cntL key l : Nat) : Int) < (b : Int):=by omega
   by_cases hin : cntL key l < l.length
   ·have hini : ((cntL key l : Nat) : Int) < (l.length : Int):=by omega
    obtain ⟨g,cap',e,_,_,_,hc,_⟩:=irow_at HR.out Om
    simp only [Value.slice.injEq] at e
    obtain ⟨rfl,_,rfl⟩:=e
    obtain ⟨c0,c1,c2⟩:=hc (cntL key l) hin
    have d0:=cell_later HB.out c0
    have d1:=cell_later HB.out c1
    have d2:=cell_later HB.out c2
    obtain ⟨k,hk⟩:=Vx ((l[cntL key l]'hin).key)
    obtain ⟨x,hx⟩:=Vx ((l[cntL key l]'hin).val)
    obtain ⟨q,hq⟩ : ∃ q : Option Addr,((l[cntL key l]'hin).kid.map fun b => (⟨b,0,none⟩ : Addr)) = q:=⟨_,rfl⟩
    rw [hk] at d0
    rw [hx] at d1
    rw [hq] at d2
    have HFD : Hid (foundL key l = decide (k = key)):=by
     have:=foundL_at hin
     rw [hk] at this
     exact this
    obtain ⟨C,hC⟩:=Vx (cntL key l)
    have HCC : Hid (cntL key l = C):=hC
    rw [hC] at d0 d1 d2 hini hlti ⊢
    clear c0 c1 c2 hc hk hx hq hC
    go_wp2_with fail
    refine (find1_any k x q key wr).mono ?_
    rintro e w1 ⟨rfl,hb1⟩
    have HB1 : Hid (Below w.heap.size w w1):=below_two HB.out hb1
    clear hb1 d0 d1 d2
    by_cases hke : k = key
    ·have hz : Lib.compareBytes k.toList key.toList = 0:=(cmp_eq _ _).2 (by rw [hke])
     have HFT : Hid (foundL key l = true):=HFD.out.trans (decide_eq_true hke)
     rw [hz]
     clear hke hz
     go_wp2
     refine bodyPost_ret (v:=.tuple #[.int .i64 (C : Int),.bool true]) (by simp [results,Tryz.results154,go_sem]) rfl ?_
     exact ⟨by rw [HFT.out,HCC.out],HB1.out⟩
    ·have hz : ¬ Lib.compareBytes k.toList key.toList = 0:=fun e => hke (ba_inj ((cmp_eq _ _).1 e))
     have HFT : Hid (foundL key l = false):=HFD.out.trans (decide_eq_false hke)
     obtain ⟨z,hz2⟩:=Vx (Lib.compareBytes k.toList key.toList)
     rw [hz2] at hz ⊢
     clear hke hz2
     go_wp2
     refine bodyPost_ret (v:=.tuple #[.int .i64 (C : Int),.bool false]) (by simp [results,Tryz.results154,go_sem]; exact hz) rfl ?_
     exact ⟨by rw [HFT.out,HCC.out],HB1.out⟩
   ·have hini : ¬ ((cntL key l : Nat) : Int) < (l.length : Int):=by omega
    have HFD : Hid (foundL key l = false):=foundL_no Om
    obtain ⟨C,hC⟩:=Vx (cntL key l)
    have HCC : Hid (cntL key l = C):=hC
    rw [hC] at hini hlti ⊢
    clear hC
    go_wp2
    refine bodyPost_ret (v:=.tuple #[.int .i64 (C : Int),.bool false]) (by simp [results,Tryz.results154,go_sem]) rfl ?_
    exact ⟨by rw [HFD.out,HCC.out],HB.out⟩
theorem find_any (w : World) (n : Nd) (nx : Option Nat) (key : ByteArray) (h : NdAt w n nx) (hs : Srt n.its) (hl : n.its.length ≤ 1000000) :
  Calls Tryz.prog 118 #[.pointer (some ⟨n.b,0,none⟩),.string key] w fun e w' => e = .returned (.tuple #[.int .i64 (cntL key n.its : Int),.bool (foundL key n.its)]) ∧ Below w.heap.size w w':=by
 have c0:=h.nc.c0
 have HR : Hid (w.ownsRow 0 195 3 n.v n.its.length (ic n.its)):=h.row
 have HS : Hid (Srt n.its):=hs
 obtain ⟨p,cap,e,_⟩:=irow_form h.row
 obtain ⟨v,hv⟩:=Vx n.v
 rw [hv] at c0 HR e
 subst e
 obtain ⟨c,hc⟩:=Vx (cntL key n.its)
 obtain ⟨f,hf⟩:=Vx (foundL key n.its)
 have HCA:=search_any w _ n.its key HR.out HS.out hl
 rw [hc,hf] at HCA ⊢
 have HC : Hid (Calls Tryz.prog 154 #[.slice p n.its.length cap,.string key,.func (.func 155) #[] #[]] w fun e w' => e = .returned (.tuple #[.int .i64 (c : Int),.bool f]) ∧ Below w.heap.size w w'):=HCA
 obtain ⟨b,hb⟩:=Vx n.b
 obtain ⟨m,hm⟩:=Vx n.its.length
 rw [hb] at c0 ⊢
 rw [hm] at c0 HC
 clear h hs hl hv HCA hc hf hb hm HR HS
 go_enter Tryz.func118,Tryz.ntmps118
 go_wp2_with (go_at_call 154; refine (HC.out).mono ?_; rintro e w' ⟨rfl,hb⟩)
 refine bodyPost_ret (v:=.tuple #[.int .i64 (c : Int),.bool f]) (by simp [results,Tryz.results118,go_sem]) rfl ?_
 exact ⟨rfl,hb⟩
def towardL (key : ByteArray) (l : List It) : Nat:=if foundL key l then cntL key l else cntL key l - 1
theorem toward_any (w : World) (n : Nd) (nx : Option Nat) (key : ByteArray) (h : NdAt w n nx) (hs : Srt n.its) (hl : n.its.length ≤ 1000000) :
  Calls Tryz.prog 153 #[.pointer (some ⟨n.b,0,none⟩),.string key] w fun e w' => e = .returned (.int .i64 (towardL key n.its : Int)) ∧ Below w.heap.size w w':=by
 have HCA:=find_any w n nx key h hs hl
 have hcl:=cntL_le key n.its
 unfold towardL
 obtain ⟨c,hc⟩:=Vx (cntL key n.its)
 obtain ⟨f,hf⟩:=Vx (foundL key n.its)
 obtain ⟨b,hb⟩:=Vx n.b
 rw [hc] at hcl
 rw [hc,hf,hb] at HCA ⊢
 have HC : Hid (Calls Tryz.prog 118 #[.pointer (some ⟨b,0,none⟩),.string key] w fun e w' => e = .returned (.tuple #[.int .i64 (c : Int),.bool f]) ∧ Below w.heap.size w w'):=HCA
 have hc6 : c ≤ 1000000:=by omega
 clear h hs hl hc hf hb HCA hcl
 cases f with
 | true =>
  go_enter Tryz.func153,Tryz.ntmps153
  go_wp2_with (go_at_call 118; refine (HC.out).mono ?_; rintro e w' ⟨rfl,hb⟩)
  go_ret
  exact ⟨by simp,hb⟩
 | false =>
  rcases c with _ | c
  ·go_enter Tryz.func153,Tryz.ntmps153
   go_wp2_with (go_at_call 118; refine (HC.out).mono ?_; rintro e w' ⟨rfl,hb⟩)
   go_ret
   exact ⟨by simp; decide,hb⟩
  ·have hmx : max (c : Int) 0 = (c : Int):=by omega
   go_enter Tryz.func153,Tryz.ntmps153
   go_wp2_with (go_at_call 118; refine (HC.out).mono ?_; rintro e w' ⟨rfl,hb⟩)
   go_ret
   exact ⟨by simp,hb⟩
end BB
end Go.Proofs.YtmmmkjhpmlfopaaGreatDoor
