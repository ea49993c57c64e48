/- ZB31 ZB43 ZM93 M8 M20 -/
import Derived.Test.YtmmmkjhpmlfopaaGreatDoorSB11
namespace Go.Proofs.YtmmmkjhpmlfopaaGreatDoor
open Go.RowKit
namespace BB
structure TreeZ (w : World) (B : Nat) (Z : Nat → Prop) (t m : Nat) (l : List It) : Prop where
 is : ∃ ls,TreeIs w Z t m ls l
 lo : ∀ k,Z k → B ≤ k ∧ k < w.heap.size
 tz : Z t
theorem TreeZ.kept {w w' : World} {B : Nat} {Z : Nat → Prop} {t m : Nat} {l : List It} (h : TreeZ w B Z t m l) {Y : Nat → Prop} (ho : Only Y w w') (hy : ∀ k,Z k → ¬ Y k) : TreeZ w' B Z t m l:=by
 obtain ⟨ls,h1⟩:=h.is
 exact ⟨⟨ls,h1.kept (fun k hk hz => ho.block k hk (hy k hz)) (ho.block t h1.lt (hy t h.tz))⟩,fun k hk => ⟨(h.lo k hk).1,Zll (h.lo k hk).2 ho.size⟩,h.tz⟩
theorem TreeZ.later {w w' : World} {B : Nat} {Z : Nat → Prop} {t m : Nat} {l : List It} (h : TreeZ w B Z t m l) (hb : Below w.heap.size w w') : TreeZ w' B Z t m l:=h.kept (Y:=fun _ => False) (Only.of hb) fun _ _ h => h
theorem TreeZ.lt {w : World} {B : Nat} {Z : Nat → Prop} {t m : Nat} {l : List It} (h : TreeZ w B Z t m l) : B ≤ w.heap.size:=by have:=h.lo t h.tz; omega
theorem TreeZ.of {w : World} {B : Nat} {t m : Nat} {ls : List (List Nd)} {l : List It} (h : TreeIs w (fun k => B ≤ k) t m ls l) (ht : B ≤ t) : TreeZ w B (fun k => B ≤ k ∧ k < w.heap.size) t m l:=⟨⟨ls,h.mono fun _ h1 h2 => ⟨h2,h1⟩⟩,fun _ h => h,⟨ht,h.lt⟩⟩
theorem TreeZ.step {w w' : World} {B : Nat} {Z : Nat → Prop} {t m : Nat} {l l' : List It} {ls' : List (List Nd)} (h : TreeZ w B Z t m l) (ho : Only (fun k => (Z k ∨ w.heap.size ≤ k) ∨ k = t) w w') (h' : TreeIs w' (fun k => Z k ∨ w.heap.size ≤ k) t m ls' l') : Only Z w w' ∧ ∃ Z',TreeZ w' B Z' t m l' ∧ ∀ k,Z' k → Z k ∨ w.heap.size ≤ k:=by
 have hs:=ho.size
 refine ⟨⟨ho.os,ho.tape,ho.output,ho.size,fun k hk hz => ho.block k hk ?_⟩,fun k => k < w'.heap.size ∧ (Z k ∨ w.heap.size ≤ k),⟨⟨ls',h'.mono fun k h1 h2 => ⟨h1,h2⟩⟩,fun k hk => ⟨?_,hk.1⟩,⟨h'.lt,Or.inl h.tz⟩⟩,fun k hk => hk.2⟩
 ·rintro ((h1 | h1) | rfl)
  ·exact hz h1
  ·omega
  ·exact hz h.tz
 ·rcases hk.2 with h1 | h1
  ·exact (h.lo k h1).1
  ·exact Zlt h.lt h1
theorem TreeZ.wide {w : World} {B : Nat} {Z : Nat → Prop} {t m : Nat} {ls : List (List Nd)} {l : List It} (_ : TreeZ w B Z t m l) (h1 : TreeIs w Z t m ls l) : TreeIs w (fun k => Z k ∨ w.heap.size ≤ k) t m ls l:=h1.mono fun _ _ hz => Or.inl hz
theorem put_z (w : World) (B : Nat) (Z : Nat → Prop) (t m : Nat) (key val : ByteArray) (l : List It) (h : TreeZ w B Z t m l) (hm : 4 ≤ m) (hm2 : m ≤ 64) (hcnt : l.length ≤ 4000000000) (hks : key.size ≤ 281474976710656) (hvs : val.size ≤ 281474976710656) :
  Calls Tryz.prog 71 #[.pointer (some ⟨t,0,none⟩),.string key,.string val] w fun e w' => e = .returned (.tuple #[.string (valL key l),.bool (foundL key l)]) ∧ Only Z w w' ∧ ∃ Z',TreeZ w' B Z' t m (putL key val l) ∧ ∀ k,Z' k → Z k ∨ w.heap.size ≤ k:=by
 obtain ⟨ls,h1⟩:=h.is
 refine (tree_put w _ t m key val ls l (h.wide h1) (fun k hk => Or.inr hk) (by have:=h1.low hm Om; omega) hm hm2 hcnt hks hvs).mono ?_
 rintro e w' ⟨rfl,ho,ls',ht'⟩
 exact ⟨rfl,h.step ho ht'⟩
theorem get_z (w : World) (B : Nat) (Z : Nat → Prop) (t m : Nat) (key : ByteArray) (l : List It) (h : TreeZ w B Z t m l) (hm : 4 ≤ m) (hm2 : m ≤ 64) (hcnt : l.length ≤ 4000000000) (hv : ∀ y ∈ l,y.val.size ≤ 281474976710656) :
  Calls Tryz.prog 83 #[.pointer (some ⟨t,0,none⟩),.string key] w fun e w' => Below w.heap.size w w' ∧ e = .returned (.tuple #[.string (valL key l),.bool (foundL key l)]):=by
 obtain ⟨ls,h1⟩:=h.is
 exact tree_get w Z t m key ls l h1 (by have:=h1.low hm Om; omega) hm2 hv
theorem list_z (w : World) (B : Nat) (Z : Nat → Prop) (t m : Nat) (frm to : ByteArray) (most : Int) (l : List It) (h : TreeZ w B Z t m l) (hm : 4 ≤ m) (hm2 : m ≤ 64) (hl : l.length ≤ 4000000000) (hs : ∀ y ∈ l,y.key.size ≤ 281474976710656 ∧ y.val.size ≤ 281474976710656) :
  Calls Tryz.prog 127 #[.pointer (some ⟨t,0,none⟩),.string frm,.string to,.int .i64 most] w fun e w' => Below w.heap.size w w' ∧ ∃ v,e = .returned v ∧ w'.ownsRow w.heap.size 152 2 v (listL frm to most l).length (pc (listL frm to most l)):=by
 obtain ⟨ls,h1⟩:=h.is
 exact tree_list w Z t m frm to most ls l h1 hm hm2 hl hs
theorem new_z (w : World) (m : Nat) (p : Option Addr) (cap : Nat) (l : List Pr) (hm : 4 ≤ m) (hm2 : m ≤ 64) (hr : PRow w p l) (hl : l.length ≤ 4000000000) (hs : ∀ x ∈ l,x.1.size ≤ 281474976710656 ∧ x.2.size ≤ 281474976710656) (hn : risB l = true) :
  Calls Tryz.prog 147 #[.int .i64 (m : Int),.slice p l.length cap] w fun e w' => Below w.heap.size w w' ∧ ∃ t,e = .returned (.tuple #[.pointer (some ⟨t,0,none⟩),.int .i64 0]) ∧ w.heap.size ≤ t ∧ TreeZ w' w.heap.size (fun k => w.heap.size ≤ k ∧ k < w'.heap.size) t m (l.map itOf):=by
 refine (new_any w m p cap l hm hm2 hr hl hs hn).mono ?_
 rintro e w' ⟨hb,t,rfl,ht,ls,h⟩
 exact ⟨hb,t,rfl,ht,TreeZ.of h ht⟩
theorem tree_del (w : World) (Z : Nat → Prop) (t m : Nat) (key : ByteArray) (ls : List (List Nd)) (l : List It) (h : TreeIs w Z t m ls l) (hZ : ∀ k,w.heap.size ≤ k → Z k) (hm : 4 ≤ m) (hm2 : m ≤ 64) (hcnt : l.length ≤ 4000000000) :
  Calls Tryz.prog 67 #[.pointer (some ⟨t,0,none⟩),.string key] w fun e w' => e = .returned (.tuple #[.string (valL key l),.bool (foundL key l)]) ∧ Only (fun k => Z k ∨ k = t) w w' ∧ ∃ ls',TreeIs w' Z t m ls' (delL key l):=by
 cases hf : foundL key l with
 | false =>
  refine (tree_del_none w Z t m key ls l h hm hm2 hcnt hf).mono ?_
  rintro e w' ⟨hb,rfl⟩
  refine ⟨by unfold valL; rw [hf]; rfl,Only.of hb,ls,?_⟩
  unfold delL
  rw [hf]
  exact h.later hb
 | true =>
  obtain ⟨rb,ht,hg⟩:=h.some_
  have hlt:=found_lt hf
  obtain ⟨cnt,hc⟩ : ∃ cnt,l.length = cnt + 1:=⟨l.length - 1,by omega⟩
  rw [hc] at ht
  refine (del_old w Z t m cnt rb key ls ht h.hp hZ hg h.wid (by have:=h.low hm Om; omega) hm hm2 Om (fun rs A n C hd => by rw [← hd.found,h.its]; exact hf)).mono ?_
  rintro e w' ⟨rs,A,n,C,v',hd,rfl,_,ho,rb',ls',ht',hp',hg',hw',hi'⟩
  have hfn : foundL key n.its = true:=by rw [← hd.found,h.its]; exact hf
  rw [hd.cut v' hfn,h.its] at hi'
  refine ⟨by rw [← hd.val,h.its],ho,ls',?_⟩
  unfold delL
  rw [hf,if_pos rfl]
  have hcl:=cutL_length hf
  exact ⟨⟨rb',by rw [show (cutL key l).length = cnt by omega]; exact ht',hg'⟩,hp',hw',hi',List.Pairwise.sublist (cutL_sub key l) h.srt⟩
theorem del_z (w : World) (B : Nat) (Z : Nat → Prop) (t m : Nat) (key : ByteArray) (l : List It) (h : TreeZ w B Z t m l) (hm : 4 ≤ m) (hm2 : m ≤ 64) (hcnt : l.length ≤ 4000000000) :
  Calls Tryz.prog 67 #[.pointer (some ⟨t,0,none⟩),.string key] w fun e w' => e = .returned (.tuple #[.string (valL key l),.bool (foundL key l)]) ∧ Only Z w w' ∧ ∃ Z',TreeZ w' B Z' t m (delL key l) ∧ ∀ k,Z' k → Z k ∨ w.heap.size ≤ k:=by
 obtain ⟨ls,h1⟩:=h.is
 refine (tree_del w _ t m key ls l (h.wide h1) (fun k hk => Or.inr hk) hm hm2 hcnt).mono ?_
 rintro e w' ⟨rfl,ho,ls',ht'⟩
 exact ⟨rfl,h.step ho ht'⟩
theorem take_while_srt {to : ByteArray} : ∀ {r : List It},Srt r → ∀ x,x ∈ r.takeWhile (fun y => untilB to y.key) ↔ x ∈ r ∧ untilB to x.key = true
 | [],_,x => by simp
 | y :: r,hs,x => by
  have hs':=List.pairwise_cons.1 hs
  rw [List.takeWhile_cons]
  cases hy : untilB to y.key with
  | true =>
   rw [if_pos rfl,List.mem_cons,take_while_srt hs'.2 x,List.mem_cons]
   constructor
   ·rintro (rfl | ⟨h1,h2⟩)
    ·exact ⟨Or.inl rfl,hy⟩
    ·exact ⟨Or.inr h1,h2⟩
   ·rintro ⟨rfl | h1,h2⟩
    ·exact Or.inl rfl
    ·exact Or.inr ⟨h1,h2⟩
  | false =>
   constructor
   ·intro h; simp at h
   ·rintro ⟨h1,h2⟩
    unfold untilB at hy h2
    rw [Bool.or_eq_false_iff] at hy
    rw [hy.1,Bool.false_or] at h2
    rcases Zmc h1 with rfl | h1
    ·rw [hy.2] at h2; cases h2
    ·have:=kl_trans (hs'.1 x h1) h2
     rw [hy.2] at this
     cases this
theorem take_enough {α : Type} {m : Int} {p : α → Bool} {r : List α} (h : (r.length : Int) ≤ m) : (r.takeWhile p).take m.toNat = r.takeWhile p:=by
 refine List.take_of_length_le ?_
 have:=(List.takeWhile_sublist p (l:=r)).length_le
 omega
theorem mem_listL {frm to : ByteArray} {m : Int} {L : List It} (hs : Srt L) (hm : (L.length : Int) ≤ m) (x : It) : x ∈ listL frm to m L ↔ x ∈ L ∧ kl x.key frm = false ∧ untilB to x.key = true:=by
 have hd : Srt (L.drop (cntL frm L)):=List.Pairwise.sublist (List.drop_sublist _ _) hs
 unfold listL tellL
 rw [take_enough (by rw [List.length_drop]; omega),take_while_srt hd]
 have hc:=cntL_cut (key:=frm) hs
 constructor
 ·rintro ⟨h1,h2⟩
  exact ⟨List.mem_of_mem_drop h1,hc.2 x h1,h2⟩
 ·rintro ⟨h1,h2,h3⟩
  refine ⟨?_,h3⟩
  rw [← List.take_append_drop (cntL frm L) L] at h1
  rcases Zma h1 with h1 | h1
  ·rw [hc.1 x h1] at h2; cases h2
  ·exact h1
theorem listL_srt {frm to : ByteArray} {m : Int} {L : List It} (hs : Srt L) : Srt (listL frm to m L):=by
 unfold listL tellL
 exact List.Pairwise.sublist ((List.take_sublist _ _).trans ((List.takeWhile_sublist _).trans (List.drop_sublist _ _))) hs
theorem listL_length {frm to : ByteArray} {m : Int} {L : List It} : (listL frm to m L).length ≤ L.length:=by
 unfold listL tellL
 exact ((List.take_sublist _ _).trans ((List.takeWhile_sublist _).trans (List.drop_sublist _ _))).length_le
end BB
theorem empty_of {s : ByteArray} (h : s.toList.isEmpty = true) : s = ⟨#[]⟩:=by
 have e : s.data.toList = []:=by rw [← ByteArray.toList_eq]; simpa using h
 cases s with
 | mk d => simp at e; rw [e]
theorem right_bool {v : V3} (h : V3.right v = true) (k : v.1 = 2) : (v.2.1 = 0 ∨ v.2.1 = 1) ∧ v.2.2 = ⟨#[]⟩:=by
 unfold V3.right rgt at h
 rw [k] at h
 simp at h
 exact ⟨h.1,empty_of (by simpa using h.2)⟩
theorem right_null {v : V3} (h : V3.right v = true) (k : v.1 = 0) : v.2.1 = 0 ∧ v.2.2 = ⟨#[]⟩:=by
 unfold V3.right rgt at h
 rw [k] at h
 simp at h
 exact ⟨h.1,empty_of (by simpa using h.2)⟩
def be8 (n : Nat) : List UInt8:=[UInt8.ofNat (n / 72057594037927936),UInt8.ofNat (n / 281474976710656),UInt8.ofNat (n / 1099511627776),UInt8.ofNat (n / 4294967296),UInt8.ofNat (n / 16777216),UInt8.ofNat (n / 65536),UInt8.ofNat (n / 256),UInt8.ofNat n]
theorem be8_length (n : Nat) : (be8 n).length = 8:=rfl
def val8 (l : List UInt8) : Nat:=l.foldl (fun u c => u * 256 + c.toNat) 0
theorem val8_snoc (l : List UInt8) (c : UInt8) : val8 (l ++ [c]) = val8 l * 256 + c.toNat:=by simp [val8,List.foldl_append]
theorem val8_acc (l : List UInt8) : ∀ a : Nat,l.foldl (fun u c => u * 256 + c.toNat) a < (a + 1) * 256 ^ l.length:=by
 induction l with
 | nil => intro a; simp
 | cons c l ih =>
  intro a
  have h:=ih (a * 256 + c.toNat)
  have hc:=UInt8.toNat_lt c
  rw [List.foldl_cons,List.length_cons,Nat.pow_succ]
  refine Zll h ?_
  rw [Nat.mul_comm (256 ^ l.length) 256,← Nat.mul_assoc]
  exact Nat.mul_le_mul_right _ Om
theorem val8_lt (l : List UInt8) (h : l.length ≤ 8) : val8 l < 18446744073709551616:=by
 have g:=val8_acc l 0
 have e : 256 ^ l.length ≤ 256 ^ 8:=Nat.pow_le_pow_right Om h
 have f : (256 : Nat) ^ 8 = 18446744073709551616:=rfl
 unfold val8
 omega
theorem val8_be8 {n : Nat} (h : n < 18446744073709551616) : val8 (be8 n) = n:=by
 simp only [val8,be8,List.foldl_cons,List.foldl_nil,UInt8.toNat_ofNat',Nat.zero_mul,Nat.zero_add]
 omega
theorem be8_val8 {l : List UInt8} (h : l.length = 8) : be8 (val8 l) = l:=by
 match l,h with
 | [a,b,c,d,e,f,g,i],_ =>
  have ha:=UInt8.toNat_lt a; have hb:=UInt8.toNat_lt b; have hc:=UInt8.toNat_lt c; have hd:=UInt8.toNat_lt d
  have he:=UInt8.toNat_lt e; have hf:=UInt8.toNat_lt f; have hg:=UInt8.toNat_lt g; have hi:=UInt8.toNat_lt i
  simp only [val8,be8,List.foldl_cons,List.foldl_nil,List.cons.injEq,and_true,← UInt8.toNat_inj,UInt8.toNat_ofNat',Nat.zero_mul,Nat.zero_add]
  omega
theorem be8_inj {n m : Nat} (hn : n < 18446744073709551616) (hm : m < 18446744073709551616) (h : be8 n = be8 m) : n = m:=by
 rw [← val8_be8 hn,← val8_be8 hm,h]
def esc1 (c : UInt8) : List UInt8:=if c = 0 then [0,255] else [c]
def esc (l : List UInt8) : List UInt8:=l.flatMap esc1
theorem esc_nil : esc [] = []:=rfl
theorem esc_cons (c : UInt8) (l : List UInt8) : esc (c :: l) = esc1 c ++ esc l:=rfl
theorem esc_append (l m : List UInt8) : esc (l ++ m) = esc l ++ esc m:=List.flatMap_append
theorem esc1_zero : esc1 0 = [0,255]:=rfl
theorem esc1_other {c : UInt8} (h : c ≠ 0) : esc1 c = [c]:=by unfold esc1; rw [if_neg h]
theorem esc_len (l : List UInt8) : (esc l).length ≤ 2 * l.length:=by
 induction l with
 | nil => simp [esc_nil]
 | cons c l ih =>
  rw [esc_cons,Zla,List.length_cons]
  by_cases h : c = 0
  ·subst h; rw [esc1_zero]; simp; omega
  ·rw [esc1_other h]; simp; omega
def Ends (r : List UInt8) : Prop:=r = [] ∨ ∃ r',r = 0 :: r' ∧ ∀ d q,r' = d :: q → d ≠ 255
theorem esc_inj : ∀ (xs ys r q : List UInt8),Ends r → Ends q → esc xs ++ r = esc ys ++ q → xs = ys ∧ r = q
 | [],[],r,q,_,_,h => ⟨rfl,by simpa [esc_nil] using h⟩
 | [],y :: ys,r,q,hr,_,h => by
  exfalso
  rw [esc_nil,List.nil_append,esc_cons] at h
  rcases hr with rfl | ⟨r',rfl,hr⟩
  ·by_cases hy : y = 0
   ·subst hy; rw [esc1_zero] at h; simp at h
   ·rw [esc1_other hy] at h; simp at h
  ·by_cases hy : y = 0
   ·subst hy; rw [esc1_zero] at h; simp at h; exact hr _ _ h rfl
   ·rw [esc1_other hy] at h; simp at h; exact hy h.1.symm
 | x :: xs,[],r,q,_,hq,h => by
  exfalso
  rw [esc_nil,List.nil_append,esc_cons] at h
  rcases hq with rfl | ⟨r',rfl,hr⟩
  ·by_cases hy : x = 0
   ·subst hy; rw [esc1_zero] at h; simp at h
   ·rw [esc1_other hy] at h; simp at h
  ·by_cases hy : x = 0
   ·subst hy; rw [esc1_zero] at h; simp at h; exact hr _ _ h.symm rfl
   ·rw [esc1_other hy] at h; simp at h; exact hy h.1
 | x :: xs,y :: ys,r,q,hr,hq,h => by
  have ih:=esc_inj xs ys r q hr hq
  rw [esc_cons,esc_cons] at h
  by_cases hx : x = 0
  ·subst hx
   by_cases hy : y = 0
   ·subst hy
    rw [esc1_zero] at h
    simp at h
    obtain ⟨rfl,rfl⟩:=ih h
    exact ⟨rfl,rfl⟩
   ·rw [esc1_zero,esc1_other hy] at h
    simp at h
    exact absurd h.1.symm hy
  ·by_cases hy : y = 0
   ·subst hy
    rw [esc1_zero,esc1_other hx] at h
    simp at h
    exact absurd h.1 hx
   ·rw [esc1_other hx,esc1_other hy] at h
    simp at h
    obtain ⟨rfl,rfl⟩:=ih h.2
    exact ⟨by rw [h.1],rfl⟩
theorem ends_zero (t : List UInt8) : Ends (0 :: 0 :: t):=Or.inr ⟨_,rfl,fun d q e => by simp at e; rw [← e.1]; decide⟩
def kb (v : V3) : List UInt8 :=
 if v.1 = 1 then 2 :: be8 (v.2.1 + 9223372036854775808).toNat
 else if v.1 = 2 then [3,UInt8.ofNat v.2.1.toNat]
 else if v.1 = 3 then 4 :: (esc v.2.2.data.toList ++ [0,0])
 else [1]
theorem kb_null {v : V3} (h : v.1 = 0) : kb v = [1]:=by unfold kb; rw [if_neg Om,if_neg Om,if_neg Om]
theorem kb_int {v : V3} (h : v.1 = 1) : kb v = 2 :: be8 (v.2.1 + 9223372036854775808).toNat:=by unfold kb; rw [if_pos h]
theorem kb_bool {v : V3} (h : v.1 = 2) : kb v = [3,UInt8.ofNat v.2.1.toNat]:=by unfold kb; rw [if_neg Om,if_pos h]
theorem kb_text {v : V3} (h : v.1 = 3) : kb v = 4 :: (esc v.2.2.data.toList ++ [0,0]):=by unfold kb; rw [if_neg Om,if_neg Om,if_pos h]
theorem kb_pos (v : V3) : 0 < (kb v).length:=by unfold kb; split <;> (try split) <;> (try split) <;> simp
theorem kb_len (v : V3) : (kb v).length ≤ 9 + 2 * v.2.2.size:=by
 have he:=esc_len v.2.2.data.toList
 have hl : v.2.2.data.toList.length = v.2.2.size:=by simp
 unfold kb; split
 ·simp [be8_length]
 ·split
  ·simp; omega
  ·split
   ·simp; omega
   ·simp; omega
theorem right_text {v : V3} (h : V3.right v = true) (k : v.1 = 3) : v.2.1 = 0 ∧ v.2.2.size ≤ 64:=by
 unfold V3.right rgt at h
 rw [k] at h
 simp at h
 exact ⟨h.1,by have:=h.2; omega⟩
theorem right_num {v : V3} (h : V3.right v = true) (k : v.1 = 1) : -4611686018427387904 ≤ v.2.1 ∧ v.2.1 ≤ 4611686018427387904 ∧ v.2.2 = ⟨#[]⟩:=by
 unfold V3.right rgt at h
 rw [k] at h
 simp at h
 exact ⟨h.1.1,h.1.2,empty_of (by simpa using h.2)⟩
theorem right_kind {v : V3} (h : V3.right v = true) : v.1 = 0 ∨ v.1 = 1 ∨ v.1 = 2 ∨ v.1 = 3:=by
 unfold V3.right rgt at h
 by_cases h0 : v.1 = 0
 ·exact Or.inl h0
 ·by_cases h1 : v.1 = 1
  ·exact Or.inr (Or.inl h1)
  ·by_cases h2 : v.1 = 2
   ·exact Or.inr (Or.inr (Or.inl h2))
   ·by_cases h3 : v.1 = 3
    ·exact Or.inr (Or.inr (Or.inr h3))
    ·rw [if_neg h0,if_neg h1,if_neg h2,if_neg h3] at h; exact absurd h Si
theorem v3_ext {u v : V3} (h1 : u.1 = v.1) (h2 : u.2.1 = v.2.1) (h3 : u.2.2 = v.2.2) : u = v:=Prod.ext h1 (Prod.ext h2 h3)
theorem ba_ext {s t : ByteArray} (h : s.data.toList = t.data.toList) : s = t:=by
 cases s with | mk a => cases t with | mk b => simp at h; rw [h]
theorem kb_inj {u v : V3} (hu : V3.right u = true) (hv : V3.right v = true) {x y : List UInt8} (h : kb u ++ x = kb v ++ y) : u = v ∧ x = y:=by
 rcases right_kind hu with ku | ku | ku | ku <;> rcases right_kind hv with kv | kv | kv | kv
 all_goals (first | rw [kb_null ku] at h | rw [kb_int ku] at h | rw [kb_bool ku] at h | rw [kb_text ku] at h)
 all_goals (first | rw [kb_null kv] at h | rw [kb_int kv] at h | rw [kb_bool kv] at h | rw [kb_text kv] at h)
 all_goals (try (exfalso; simp at h; done))
 ·obtain ⟨a,b⟩:=right_null hu ku
  obtain ⟨c,d⟩:=right_null hv kv
  simp at h
  exact ⟨v3_ext (by rw [ku,kv]) (by rw [a,c]) (by rw [b,d]),h⟩
 ·obtain ⟨a,b,c⟩:=right_num hu ku
  obtain ⟨a',b',c'⟩:=right_num hv kv
  rw [List.cons_append,List.cons_append] at h
  have h':=(List.cons.inj h).2
  obtain ⟨e1,e2⟩:=List.append_inj h' (by rw [be8_length,be8_length])
  have e3:=be8_inj Om Om e1
  exact ⟨v3_ext (by rw [ku,kv]) Om (by rw [c,c']),e2⟩
 ·obtain ⟨a,b⟩:=right_bool hu ku
  obtain ⟨c,d⟩:=right_bool hv kv
  simp at h
  refine ⟨v3_ext (by rw [ku,kv]) ?_ (by rw [b,d]),h.2⟩
  rcases a with a | a <;> rcases c with c | c <;> rw [a,c] at h <;> simp_all
 ·obtain ⟨a,_⟩:=right_text hu ku
  obtain ⟨c,_⟩:=right_text hv kv
  rw [List.cons_append,List.cons_append,Zas,Zas] at h
  obtain ⟨e1,e2⟩:=esc_inj _ _ _ _ (ends_zero x) (ends_zero y) (List.cons.inj h).2
  exact ⟨v3_ext (by rw [ku,kv]) (by rw [a,c]) (ba_ext e1),by simpa using e2⟩
def kbs (vs : List V3) : List UInt8:=vs.flatMap kb
theorem kbs_nil : kbs [] = []:=rfl
theorem kbs_cons (v : V3) (vs : List V3) : kbs (v :: vs) = kb v ++ kbs vs:=rfl
theorem kbs_append (us vs : List V3) : kbs (us ++ vs) = kbs us ++ kbs vs:=List.flatMap_append
theorem kbs_one (v : V3) : kbs [v] = kb v:=by simp [kbs]
theorem kbs_begins : ∀ (vs us : List V3) (t : List UInt8),(∀ v ∈ vs,V3.right v = true) → (∀ v ∈ us,V3.right v = true) → kbs us = kbs vs ++ t → ∃ us',us = vs ++ us' ∧ kbs us' = t
 | [],us,t,_,_,h => ⟨us,rfl,by simpa [kbs_nil] using h⟩
 | v :: vs,[],t,_,_,h => by
  have hp:=kb_pos v
  have : (kbs []).length = (kbs (v :: vs) ++ t).length:=by rw [h]
  rw [kbs_nil,kbs_cons] at this
  simp at this
  omega
 | v :: vs,u :: us,t,hv,hu,h => by
  rw [kbs_cons,kbs_cons,Zas] at h
  obtain ⟨rfl,h'⟩:=kb_inj (hu u Si) (hv v Si) h
  obtain ⟨us',rfl,e⟩:=kbs_begins vs us t (fun x hx => hv x (by simp [hx])) (fun x hx => hu x (by simp [hx])) h'
  exact ⟨us',rfl,e⟩
def encR (vs : List V3) : List UInt8 × Int:=if 8 < vs.length then ([],2) else if vs.all V3.right then (kbs vs,0) else ([],10)
theorem encR_long {vs : List V3} (h : 8 < vs.length) : encR vs = ([],2):=by unfold encR; rw [if_pos h]
theorem encR_wrong {vs : List V3} (h : ¬ 8 < vs.length) (i : Nat) (hi : i < vs.length) (g : V3.right vs[i] = false) : encR vs = ([],10):=by
 unfold encR
 rw [if_neg h,if_neg]
 intro e
 have:=List.all_eq_true.1 e (vs[i]) (List.getElem_mem hi)
 rw [g] at this
 exact absurd this Si
theorem encR_ok {vs : List V3} (h : ¬ 8 < vs.length) (g : ∀ i (hi : i < vs.length),V3.right vs[i] = true) : encR vs = (kbs vs,0):=by
 unfold encR
 rw [if_neg h,if_pos]
 rw [List.all_eq_true]
 intro v hv
 obtain ⟨j,hj,rfl⟩:=List.getElem_of_mem hv
 exact g j hj
theorem encR_zero {vs : List V3} (h : (encR vs).2 = 0) : vs.length ≤ 8 ∧ (∀ v ∈ vs,V3.right v = true) ∧ (encR vs).1 = kbs vs:=by
 unfold encR at h ⊢
 by_cases h1 : 8 < vs.length
 ·rw [if_pos h1] at h; exact absurd h Si
 ·rw [if_neg h1] at h ⊢
  by_cases h2 : vs.all V3.right = true
  ·rw [if_pos h2]; exact ⟨by omega,List.all_eq_true.1 h2,rfl⟩
  ·rw [if_neg h2] at h; exact absurd h Si
def KeyOf (s : List UInt8) (vs : List V3) : Prop:=vs.length ≤ 8 ∧ (∀ v ∈ vs,V3.right v = true) ∧ kbs vs = s
theorem keyOf_unique {s : List UInt8} {us vs : List V3} (h : KeyOf s us) (g : KeyOf s vs) : us = vs:=by
 obtain ⟨us',e,f⟩:=kbs_begins vs us [] g.2.1 h.2.1 (by rw [h.2.2,g.2.2,List.append_nil])
 cases us' with
 | nil => rw [e,List.append_nil]
 | cons u us' =>
  have:=kb_pos u
  rw [kbs_cons] at f
  simp at f
  rw [f.1] at this
  simp at this
open Classical in
noncomputable def decR (s : List UInt8) : List V3 × Int:=if h : ∃ vs,KeyOf s vs then (Classical.choose h,0) else ([],20)
theorem decR_ok {s : List UInt8} {vs : List V3} (h : KeyOf s vs) : decR s = (vs,0):=by
 unfold decR
 rw [dif_pos ⟨vs,h⟩,keyOf_unique (Classical.choose_spec (⟨vs,h⟩ : ∃ vs,KeyOf s vs)) h]
theorem decR_no {s : List UInt8} (h : ∀ vs,¬ KeyOf s vs) : decR s = ([],20):=by
 unfold decR
 rw [dif_neg (fun ⟨vs,g⟩ => h vs g)]
def RV (s : List UInt8) (v : V3) (n : Nat) : Prop :=
 (n = 0 ∧ ∀ u,V3.right u = true → ¬ kb u <+: s) ∨ (0 < n ∧ n ≤ s.length ∧ (∀ u,V3.right u = true → kb u <+: s → u = v ∧ n = (kb u).length) ∧ (V3.right v = true → s.take n = kb v))
theorem dec_more {s : List UInt8} {vs : List V3} {t : List UInt8} {v : V3} {n : Nat} (h : s = kbs vs ++ t) (r : RV t v n) (h0 : n ≠ 0) (hv : V3.right v = true) : s = kbs (vs ++ [v]) ++ t.drop n:=by
 rcases r with ⟨e,_⟩ | ⟨_,_,_,g⟩
 ·exact absurd e h0
 ·rw [kbs_append,kbs_one,Zas,← g hv,List.take_append_drop,h]
theorem dec_stuck {s : List UInt8} {vs : List V3} {t : List UInt8} {v : V3} {n : Nat} (h : s = kbs vs ++ t) (hv : ∀ v ∈ vs,V3.right v = true) (ht : t ≠ []) (r : RV t v n) (e : n = 0 ∨ V3.right v = false ∨ vs.length = 8) : ∀ us,¬ KeyOf s us:=by
 intro us ⟨h1,h2,h3⟩
 obtain ⟨us',rfl,f⟩:=kbs_begins vs us t hv h2 (by rw [h3,h])
 cases us' with
 | nil => exact ht f.symm
 | cons u us' =>
  rw [kbs_cons] at f
  have hu:=h2 u Si
  have hp : kb u <+: t:=⟨_,f⟩
  rcases r with ⟨_,g⟩ | ⟨g0,_,g,_⟩
  ·exact g u hu hp
  ·obtain ⟨rfl,g1⟩:=g u hu hp
   rcases e with e | e | e
   ·omega
   ·rw [hu] at e; exact absurd e Si
   ·simp at h1; omega
end Go.Proofs.YtmmmkjhpmlfopaaGreatDoor
