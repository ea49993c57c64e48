/- ZT24 ZT25 ZT26 ZM101 ZT30 ZT31 -/
import Derived.Test.YtmmmkjhpmlfopaaGreatDoorSB29
set_option maxHeartbeats 16000000
set_option maxRecDepth 100000
namespace Go.Proofs.YtmmmkjhpmlfopaaGreatDoor
open Go.RowKit
namespace TT
theorem typ_bound {n : Int} (h : typB n = true) : 0 ≤ n ∧ n < 2097152:=by
 simp only [typB,Bool.and_eq_true,decide_eq_true_eq] at h
 omega
theorem pl_bound {l : List Int} {m : Nat} (h : mayPl l m = true) (hm : m ≤ 16) : ∀ p ∈ l,0 ≤ p ∧ p < 2097152:=by
 intro p hp
 obtain ⟨k,hk,rfl⟩:=mem_at hp
 obtain ⟨q,e,hq⟩:=mayPl_at h hk
 omega
theorem enTb_any (t : Tb) (vs : List Value) (w0 w : World) (v : Value) (xs : List UInt8) (hR : TbR w0 t vs) (hb0 : Below w0.heap.size w0 w) (hm : mayTb t = true) (h : Ink w w0.heap.size v xs) (hl : (xs ++ encTb t).length ≤ 1099511627776) :
  Calls Tryz.prog 48 #[v,.agg vs.toArray] w fun e w' => ∃ v',e = .returned v' ∧ Ink w' w0.heap.size v' (xs ++ encTb t) ∧ Inks w0.heap.size w w':=by
 obtain ⟨m1,m2,m3,m4⟩:=mayTb_parts hm
 obtain ⟨c1,c2⟩:=mayCols_nm m2
 obtain ⟨k1,k2⟩:=mayKey_parts m3
 obtain ⟨x1,x2⟩:=mayIxs_nm m4
 have kb:=pl_bound k1 c1.2
 have hpart:=kb _ k2
 have hnm : t.nm.size < 2097152:=by have:=nm_le m1; omega
 obtain ⟨pt,hpt⟩ : ∃ pt : Nat,t.part = (pt : Int):=⟨t.part.toNat,by omega⟩
 have hptb : pt < 2097152:=by omega
 have hkl : t.key.length ≤ 1000:=by have:=mayPl_size k1; omega
 have hcl : t.cols.length ≤ 1000:=by omega
 have hxl : t.ixs.length ≤ 1000:=by omega
 have HCc : Hid (∀ k (h : k < t.cols.length) vs u ys w1,ColR t.cols[k] vs → Below w0.heap.size w0 w1 → Ink w1 w0.heap.size u ys → (ys ++ encCol t.cols[k]).length ≤ 1099511627776 → Calls Tryz.prog 94 #[u,.agg vs.toArray] w1 fun e w2 => ∃ u',e = .returned u' ∧ Ink w2 w0.heap.size u' (ys ++ encCol t.cols[k]) ∧ Inks w0.heap.size w1 w2):=fun k h vs u ys w1 hR hb hi hl => enCol_any _ vs w1 w0.heap.size u ys hR hb.size (by have:=(c2 _ (List.getElem_mem h)).1; omega) (typ_bound (c2 _ (List.getElem_mem h)).2) hi hl
 have HCx : Hid (∀ k (h : k < t.ixs.length) vs u ys w1,IxR w0 t.ixs[k] vs → Below w0.heap.size w0 w1 → Ink w1 w0.heap.size u ys → (ys ++ encIx t.ixs[k]).length ≤ 1099511627776 → Calls Tryz.prog 97 #[u,.agg vs.toArray] w1 fun e w2 => ∃ u',e = .returned u' ∧ Ink w2 w0.heap.size u' (ys ++ encIx t.ixs[k]) ∧ Inks w0.heap.size w1 w2):=fun k h vs u ys w1 hR hb hi hl => enIx_any _ vs w0 w1 w0.heap.size u ys hR hb.size rfl hb (by have:=(x2 _ (List.getElem_mem h)).1; omega) (by have:=mayPl_size (x2 _ (List.getElem_mem h)).2; omega) (pl_bound (x2 _ (List.getElem_mem h)).2 c1.2) hi hl
 have HCk:=Hd (numC w0 t.key kb)
 have HPT : Hid (numI t.part = num pt):=by
  show numI t.part = num pt
  rw [numI,hpt]
  rfl
 obtain ⟨pc,cc,pk,ck,px,cx,rfl,r1,r2,r3⟩:=hR
 have HR1:=Hd r1
 have HR2:=Hd r2
 have HR3:=Hd r3
 clear m1 m2 m3 m4 c1 c2 k1 k2 x1 x2 kb hpart r1 r2 r3
 rw [hpt]
 have HE : Hid (xs ++ txt t.nm ++ lst encCol t.cols ++ lst numI t.key ++ num pt ++ lst encIx t.ixs = xs ++ encTb t):=by
  show _ = _
  simp [encTb,HPT.out,List.append_assoc]
 rw [← HE.out] at hl ⊢
 have HL:=Hd hl
 have HI0:=Hd h
 have HB0:=Hd hb0
 have hs0:=hb0.size
 clear h hl hb0 hm HE
 go_enter Tryz.func48,Tryz.ntmps48
 go_wp2_with fail
 refine (text_any v (xs) t.nm _ w0.heap.size (by have:=hs0; first | omega | (simp; omega)) hnm (HI0.out.later Bz) (by have:=HL.out; simp only [List.length_append] at this ⊢; omega)).mono ?_
 rintro e w1 ⟨v1,rfl,i1,k1⟩
 have s1:=k1.size
 simp at s1
 have HX1 : Hid (w1.heap[w.heap.size]? = some (.cells #[.string t.nm,.slice pc t.cols.length cc,.slice pk t.key.length ck,.int .i64 (pt : Int),.slice px t.ixs.length cx] 47 (0,0))):=k1.heap (heap_alloc_new w (.cells #[.string t.nm,.slice pc t.cols.length cc,.slice pk t.key.length ck,.int .i64 (pt : Int),.slice px t.ixs.length cx] 47 (0,0))) (by decide)
 have HK1 : Hid (Inks w0.heap.size w w1):=(Inks.of ((Bxr _ _).alloc Zlr _)).trans k1
 have HBW1 : Hid (Below w0.heap.size w0 w1):=Inks.on HB0.out HK1.out
 have HI1:=Hd i1
 obtain ⟨x0,x1,x2,x3,x4⟩:=five_cells HX1.out
 clear i1 k1
 go_wp2_with fail
 refine (aeCol_any w0 _ v1 (xs ++ txt t.nm) pc cc t.cols encCol HBW1.out HR1.out hcl HI1.out (by have:=HL.out; simp only [Zla] at this ⊢; omega) HCc.out).mono ?_
 rintro e w2 ⟨v2,rfl,i2,k2⟩
 have s2:=k2.size
 have HX2 : Hid (w2.heap[w.heap.size]? = some (.cells #[.string t.nm,.slice pc t.cols.length cc,.slice pk t.key.length ck,.int .i64 (pt : Int),.slice px t.ixs.length cx] 47 (0,0))):=k2.heap HX1.out (by decide)
 have HK2 : Hid (Inks w0.heap.size w w2):=HK1.out.trans k2
 have HBW2 : Hid (Below w0.heap.size w0 w2):=Inks.on HB0.out HK2.out
 have HI2:=Hd i2
 clear x0 x1 x2 x3 x4
 obtain ⟨x0,x1,x2,x3,x4⟩:=five_cells HX2.out
 clear i2 k2
 go_wp2_with fail
 refine (aeInt_any w0 _ v2 (xs ++ txt t.nm ++ lst encCol t.cols) pk ck t.key numI HBW2.out HR2.out hkl HI2.out (by have:=HL.out; simp only [Zla] at this ⊢; omega) HCk.out).mono ?_
 rintro e w3 ⟨v3,rfl,i3,k3⟩
 have s3:=k3.size
 have HX3 : Hid (w3.heap[w.heap.size]? = some (.cells #[.string t.nm,.slice pc t.cols.length cc,.slice pk t.key.length ck,.int .i64 (pt : Int),.slice px t.ixs.length cx] 47 (0,0))):=k3.heap HX2.out (by decide)
 have HK3 : Hid (Inks w0.heap.size w w3):=HK2.out.trans k3
 have HBW3 : Hid (Below w0.heap.size w0 w3):=Inks.on HB0.out HK3.out
 have HI3:=Hd i3
 clear x0 x1 x2 x3 x4
 obtain ⟨x0,x1,x2,x3,x4⟩:=five_cells HX3.out
 clear i3 k3
 go_wp2_with fail
 refine (num_any v3 (xs ++ txt t.nm ++ lst encCol t.cols ++ lst numI t.key) pt _ w0.heap.size (by have:=hs0; first | omega | (simp; omega)) hptb HI3.out (by have:=HL.out; simp only [List.length_append] at this ⊢; omega)).mono ?_
 rintro e w4 ⟨v4,rfl,i4,k4⟩
 have s4:=k4.size
 have HX4 : Hid (w4.heap[w.heap.size]? = some (.cells #[.string t.nm,.slice pc t.cols.length cc,.slice pk t.key.length ck,.int .i64 (pt : Int),.slice px t.ixs.length cx] 47 (0,0))):=k4.heap HX3.out (by decide)
 have HK4 : Hid (Inks w0.heap.size w w4):=HK3.out.trans k4
 have HBW4 : Hid (Below w0.heap.size w0 w4):=Inks.on HB0.out HK4.out
 have HI4:=Hd i4
 clear x0 x1 x2 x3 x4
 obtain ⟨x0,x1,x2,x3,x4⟩:=five_cells HX4.out
 clear i4 k4
 go_wp2_with fail
 refine (aeIx_any w0 _ v4 (xs ++ txt t.nm ++ lst encCol t.cols ++ lst numI t.key ++ num pt) px cx t.ixs encIx HBW4.out HR3.out hxl HI4.out (by have:=HL.out; simp only [Zla] at this ⊢; omega) HCx.out).mono ?_
 rintro e w5 ⟨v5,rfl,i5,k5⟩
 have s5:=k5.size
 have HX5 : Hid (w5.heap[w.heap.size]? = some (.cells #[.string t.nm,.slice pc t.cols.length cc,.slice pk t.key.length ck,.int .i64 (pt : Int),.slice px t.ixs.length cx] 47 (0,0))):=k5.heap HX4.out (by decide)
 have HK5 : Hid (Inks w0.heap.size w w5):=HK4.out.trans k5
 have HBW5 : Hid (Below w0.heap.size w0 w5):=Inks.on HB0.out HK5.out
 have HI5:=Hd i5
 clear x0 x1 x2 x3 x4
 obtain ⟨x0,x1,x2,x3,x4⟩:=five_cells HX5.out
 clear i5 k5
 go_wp2
 go_ret
 exact ⟨_,rfl,HI5.out,HK5.out⟩
theorem bud_bound {n : Int} (h : budB n = true) : 0 ≤ n ∧ n < 2097152:=by
 simp only [budB,Bool.and_eq_true,decide_eq_true_eq] at h
 omega
theorem enPc_any (p : Pc) (vs : List Value) (w0 w : World) (v : Value) (xs : List UInt8) (hR : PcR w0 p vs) (hb0 : Below w0.heap.size w0 w) (hm : mayPc p = true) (h : Ink w w0.heap.size v xs) (hl : (xs ++ encPc p).length ≤ 1099511627776) :
  Calls Tryz.prog 50 #[v,.agg vs.toArray] w fun e w' => ∃ v',e = .returned v' ∧ Ink w' w0.heap.size v' (xs ++ encPc p) ∧ Inks w0.heap.size w w':=by
 obtain ⟨m1,m2,m3,m4,m5⟩:=mayPc_parts hm
 obtain ⟨c1,c2⟩:=mayPms_nm m2
 obtain ⟨d1,d2⟩:=mayBody_src m3
 have hnm : p.nm.size < 2097152:=by have:=nm_le m1; omega
 obtain ⟨r,hr⟩ : ∃ r : Nat,p.rows = (r : Int):=⟨p.rows.toNat,by have:=bud_bound m4; omega⟩
 obtain ⟨b,hb⟩ : ∃ b : Nat,p.bytes = (b : Int):=⟨p.bytes.toNat,by have:=bud_bound m5; omega⟩
 have hrb : r < 2097152:=by have:=bud_bound m4; omega
 have hbb : b < 2097152:=by have:=bud_bound m5; omega
 have hpl : p.prms.length ≤ 1000:=by omega
 have hbl : p.body.length ≤ 1000:=by omega
 have HCp : Hid (∀ k (h : k < p.prms.length) vs u ys w1,PmR p.prms[k] vs → Below w0.heap.size w0 w1 → Ink w1 w0.heap.size u ys → (ys ++ encPm p.prms[k]).length ≤ 1099511627776 → Calls Tryz.prog 99 #[u,.agg vs.toArray] w1 fun e w2 => ∃ u',e = .returned u' ∧ Ink w2 w0.heap.size u' (ys ++ encPm p.prms[k]) ∧ Inks w0.heap.size w1 w2):=fun k h vs u ys w1 hR hb hi hl => enPm_any _ vs w1 w0.heap.size u ys hR hb.size (by have:=(c2 _ (List.getElem_mem h)).1; omega) (typ_bound (c2 _ (List.getElem_mem h)).2) hi hl
 have HCb : Hid (∀ k (h : k < p.body.length) u ys w1,Below w0.heap.size w0 w1 → Ink w1 w0.heap.size u ys → (ys ++ txt p.body[k]).length ≤ 1099511627776 → Calls Tryz.prog 92 #[u,.string p.body[k]] w1 fun e w2 => ∃ u',e = .returned u' ∧ Ink w2 w0.heap.size u' (ys ++ txt p.body[k]) ∧ Inks w0.heap.size w1 w2):=fun k h u ys w1 hb hi hl => text_any u ys _ w1 w0.heap.size hb.size (by have:=(d2 _ (List.getElem_mem h)).2; omega) hi hl
 have HPR : Hid (numI p.rows = num r):=by
  show numI p.rows = num r
  rw [numI,hr]
  rfl
 have HPB : Hid (numI p.bytes = num b):=by
  show numI p.bytes = num b
  rw [numI,hb]
  rfl
 obtain ⟨pp,cp,pb,cb,rfl,r1,r2⟩:=hR
 have HR1:=Hd r1
 have HR2:=Hd r2
 clear m1 m2 m3 m4 m5 c1 c2 d1 d2 r1 r2
 rw [hr,hb]
 have HE : Hid (xs ++ txt p.nm ++ lst encPm p.prms ++ lst txt p.body ++ num r ++ num b = xs ++ encPc p):=by
  show _ = _
  simp [encPc,HPR.out,HPB.out,List.append_assoc]
 rw [← HE.out] at hl ⊢
 have HL:=Hd hl
 have HI0:=Hd h
 have HB0:=Hd hb0
 have hs0:=hb0.size
 clear h hl hb0 hm HE
 go_enter Tryz.func50,Tryz.ntmps50
 go_wp2_with fail
 refine (text_any v (xs) p.nm _ w0.heap.size (by have:=hs0; first | omega | (simp; omega)) hnm (HI0.out.later Bz) (by have:=HL.out; simp only [List.length_append] at this ⊢; omega)).mono ?_
 rintro e w1 ⟨v1,rfl,i1,k1⟩
 have s1:=k1.size
 simp at s1
 have HX1 : Hid (w1.heap[w.heap.size]? = some (.cells #[.string p.nm,.slice pp p.prms.length cp,.slice pb p.body.length cb,.int .i64 (r : Int),.int .i64 (b : Int)] 121 (0,0))):=k1.heap (heap_alloc_new w (.cells #[.string p.nm,.slice pp p.prms.length cp,.slice pb p.body.length cb,.int .i64 (r : Int),.int .i64 (b : Int)] 121 (0,0))) (by decide)
 have HK1 : Hid (Inks w0.heap.size w w1):=(Inks.of ((Bxr _ _).alloc Zlr _)).trans k1
 have HBW1 : Hid (Below w0.heap.size w0 w1):=Inks.on HB0.out HK1.out
 have HI1:=Hd i1
 obtain ⟨x0,x1,x2,x3,x4⟩:=five_cells HX1.out
 clear i1 k1
 go_wp2_with fail
 refine (aePm_any w0 _ v1 (xs ++ txt p.nm) pp cp p.prms encPm HBW1.out HR1.out hpl HI1.out (by have:=HL.out; simp only [Zla] at this ⊢; omega) HCp.out).mono ?_
 rintro e w2 ⟨v2,rfl,i2,k2⟩
 have s2:=k2.size
 have HX2 : Hid (w2.heap[w.heap.size]? = some (.cells #[.string p.nm,.slice pp p.prms.length cp,.slice pb p.body.length cb,.int .i64 (r : Int),.int .i64 (b : Int)] 121 (0,0))):=k2.heap HX1.out (by decide)
 have HK2 : Hid (Inks w0.heap.size w w2):=HK1.out.trans k2
 have HBW2 : Hid (Below w0.heap.size w0 w2):=Inks.on HB0.out HK2.out
 have HI2:=Hd i2
 clear x0 x1 x2 x3 x4
 obtain ⟨x0,x1,x2,x3,x4⟩:=five_cells HX2.out
 clear i2 k2
 go_wp2_with fail
 refine (aeStr_any w0 _ v2 (xs ++ txt p.nm ++ lst encPm p.prms) pb cb p.body txt HBW2.out HR2.out hbl HI2.out (by have:=HL.out; simp only [Zla] at this ⊢; omega) HCb.out).mono ?_
 rintro e w3 ⟨v3,rfl,i3,k3⟩
 have s3:=k3.size
 have HX3 : Hid (w3.heap[w.heap.size]? = some (.cells #[.string p.nm,.slice pp p.prms.length cp,.slice pb p.body.length cb,.int .i64 (r : Int),.int .i64 (b : Int)] 121 (0,0))):=k3.heap HX2.out (by decide)
 have HK3 : Hid (Inks w0.heap.size w w3):=HK2.out.trans k3
 have HBW3 : Hid (Below w0.heap.size w0 w3):=Inks.on HB0.out HK3.out
 have HI3:=Hd i3
 clear x0 x1 x2 x3 x4
 obtain ⟨x0,x1,x2,x3,x4⟩:=five_cells HX3.out
 clear i3 k3
 go_wp2
 have HD3 : Hid (Ink w3.drew w0.heap.size v3 (xs ++ txt p.nm ++ lst encPm p.prms ++ lst txt p.body)):=HI3.out.later (Bxr _ _).drew
 go_region_law (first
  | (go_simp; go_at_call 91; refine (num_any _ _ _ _ w0.heap.size (by have:=hs0; first | omega | (simp; omega)) (by first | exact hrb | exact hbb) (by first | exact HD3.out | exact i4) (by have:=HL.out; simp only [List.length_append] at this ⊢; omega)).mono ?_; rintro e w4 ⟨v4,rfl,i4,k4⟩; (have s4:=k4.size); (try simp at s4); (have b4 : w4.heap[w.heap.size]? = some (.cells #[.string p.nm,.slice pp p.prms.length cp,.slice pb p.body.length cb,.int .i64 (r : Int),.int .i64 (b : Int)] 121 (0,0)):=(by first | exact k4.heap b4 (by decide) | exact k4.heap HX3.out (by decide))); obtain ⟨x0,x1,x2,x3,x4⟩:=five_cells b4; (have kk : Inks w0.heap.size w w4:=(by first | exact kk.trans k4 | exact HK3.out.drew.trans k4)); clear k4))
 all_goals
  go_wp2
  go_ret
  exact ⟨_,rfl,i4,kk⟩
theorem txt_len {s : ByteArray} : (txt s).length ≤ s.size + 3:=by
 have:=num_len s.size
 rw [txt,Zla,bs_len]
 omega
theorem numI_len (n : Int) : (numI n).length ≤ 3:=num_len _
theorem lst_len {α : Type} (f : α → List UInt8) (K n : Nat) (l : List α) (hn : l.length ≤ n) (h : ∀ x ∈ l,(f x).length ≤ K) : (lst f l).length ≤ 3 + n * K:=by
 have h1:=num_len l.length
 have h2:=flat_bound f K l h
 have h3 : l.length * K ≤ n * K:=Nat.mul_le_mul_right _ hn
 rw [lst,Zla]
 omega
theorem encCol_len {c : Col} (h : c.nm.size ≤ 16) : (encCol c).length ≤ 30:=by
 have h1:=txt_len (s:=c.nm)
 have h2:=numI_len c.ty
 simp only [encCol,flag,Zla,List.length_singleton]
 omega
theorem encPm_len {c : Pm} (h : c.nm.size ≤ 16) : (encPm c).length ≤ 30:=by
 have h1:=txt_len (s:=c.nm)
 have h2:=numI_len c.ty
 simp only [encPm,Zla]
 omega
theorem encIx_len {c : Ix} (h : c.nm.size ≤ 16) (h2 : c.cols.length ≤ 8) : (encIx c).length ≤ 100:=by
 have h1:=txt_len (s:=c.nm)
 have h3:=lst_len numI 3 8 c.cols h2 fun x _ => numI_len x
 simp only [encIx,flag,Zla,List.length_singleton]
 omega
theorem encTb_len {t : Tb} (h : mayTb t = true) : (encTb t).length ≤ 10000:=by
 obtain ⟨m1,m2,m3,m4⟩:=mayTb_parts h
 obtain ⟨c1,c2⟩:=mayCols_nm m2
 obtain ⟨k1,k2⟩:=mayKey_parts m3
 obtain ⟨x1,x2⟩:=mayIxs_nm m4
 have e1:=txt_len (s:=t.nm)
 have e2:=nm_le m1
 have e3:=lst_len encCol 30 16 t.cols c1.2 fun x hx => encCol_len (c2 x hx).1
 have e4:=lst_len numI 3 8 t.key (mayPl_size k1).2 fun x _ => numI_len x
 have e5:=numI_len t.part
 have e6:=lst_len encIx 100 4 t.ixs x1 fun x hx => encIx_len (x2 x hx).1 (mayPl_size (x2 x hx).2).2
 simp only [encTb,Zla]
 omega
theorem encPc_len {p : Pc} (h : mayPc p = true) : (encPc p).length ≤ 100000:=by
 obtain ⟨m1,m2,m3,m4,m5⟩:=mayPc_parts h
 obtain ⟨c1,c2⟩:=mayPms_nm m2
 obtain ⟨d1,d2⟩:=mayBody_src m3
 have e1:=txt_len (s:=p.nm)
 have e2:=nm_le m1
 have e3:=lst_len encPm 30 8 p.prms c1 fun x hx => encPm_len (c2 x hx).1
 have e4:=lst_len txt 1003 8 p.body d1.2 fun x hx => by have:=txt_len (s:=x); have:=(d2 x hx).2; omega
 have e5:=numI_len p.rows
 have e6:=numI_len p.bytes
 simp only [encPc,Zla]
 omega
theorem encC_len {c : Ct} (h : rightC c = true) : (encC c).length ≤ 10000000:=by
 obtain ⟨h1,h2,h3,h4⟩:=rightC_parts h
 have e1:=lst_len encTb 10000 8 c.tbs h1 fun x hx => encTb_len (h3 x hx)
 have e2:=lst_len encPc 100000 16 c.prs h2 fun x hx => encPc_len (h4 x hx)
 simp only [encC,Zla]
 omega
def encS (c : Ct) : ByteArray:=if rightC c = true then ⟨(encC c).toArray⟩ else ⟨#[]⟩
def encE (c : Ct) : Int:=if rightC c = true then 0 else 80
theorem encS_yes {c : Ct} (h : rightC c = true) : encS c = ⟨(encC c).toArray⟩:=if_pos h
theorem encE_yes {c : Ct} (h : rightC c = true) : encE c = 0:=if_pos h
theorem encS_no {c : Ct} (h : rightC c = false) : encS c = ⟨#[]⟩:=if_neg (by rw [h]; decide)
theorem encE_no {c : Ct} (h : rightC c = false) : encE c = 80:=if_neg (by rw [h]; decide)
theorem ink_str {w : World} {B : Nat} {v : Value} {xs : List UInt8} (h : Ink w B v xs) : ∃ a cap,v = .slice a xs.length cap ∧ (convert 114 9 (.slice a xs.length cap)).run Tryz.prog w = .ok (.string ⟨xs.toArray⟩) w:=by
 have hc:=fun g => World.ownsRow.cells (g:=g) h
 obtain ⟨hl,⟨rfl,h0⟩ | ⟨g,cap,cur,rfl,_⟩⟩:=h
 ·obtain rfl : xs = []:=List.eq_nil_of_length_eq_zero h0
  refine ⟨none,0,rfl,?_⟩
  show (convert 114 9 (.slice none 0 0)).run Tryz.prog w = _
  rw [run_convert_bytes_string w 114 9 5 none 0 0 Tryz.underlying114 Tryz.underlying5 Tryz.underlying9]
  rfl
 ·refine ⟨_,cap,rfl,run_convert_bytes_back w 114 9 5 ⟨g,0,none⟩ cap xs Tryz.underlying114 Tryz.underlying5 Tryz.underlying9 ?_⟩
  intro j hj
  exact hc g rfl j _ (by simp [bv,hj])
theorem encode_any (c : Ct) (vs : List Value) (w : World) (hR : CtR w c vs) (hf : Fits c) :
  Calls Tryz.prog 28 #[.agg vs.toArray] w fun e w' => e = .returned (.tuple #[.string (encS c),.int .i64 (encE c)]) ∧ Below w.heap.size w w':=by
 have HC : Hid (∀ W,Below w.heap.size w W → CtR W c vs):=fun W h => CtR.later h c vs hR
 obtain ⟨pt,ct,pp,cp,rfl,r1,r2⟩:=hR
 have HR1:=Hd r1
 have HR2:=Hd r2
 have HF:=Hd hf
 clear r1 r2 hf
 have HBX : Hid (∀ W,Below (w.heap.size + 1) (w.alloc (.cells #[.slice pt c.tbs.length ct,.slice pp c.prs.length cp] 25)) W → W.heap[w.heap.size]? = some (.cells #[.slice pt c.tbs.length ct,.slice pp c.prs.length cp] 25 (0,0)) ∧ Below w.heap.size w W):=fun W h => ⟨(h.block _ Om).trans (heap_alloc_new w _),((Bxr _ _).alloc Zlr _).trans (h.mono Om)⟩
 cases h1 : rightC c with
 | false =>
  rw [encS_no h1,encE_no h1]
  go_enter Tryz.func28,Tryz.ntmps28
  go_wp2_with fail
  refine (right_any c _ _ (HC.out _ Bz) HF.out).mono ?_
  rintro e w1 ⟨rfl,hb1⟩
  obtain ⟨e0,e1⟩:=HBX.out w1 (hb1.mono Si)
  have HBW:=Hd e1
  rw [h1]
  clear e0 e1 hb1
  go_wp2
  exact bodyPost_ret (v:=.tuple #[.string ⟨#[]⟩,.int .i64 80]) (by simp [results,Tryz.results28,go_sem]) rfl ⟨rfl,HBW.out⟩
 | true =>
  have H1:=Hd h1
  have hlen:=encC_len h1
  obtain ⟨g1,g2,g3,g4⟩:=rightC_parts h1
  have HG3:=Hd g3
  have HG4:=Hd g4
  have hl2 : (lst encTb c.tbs).length + (lst encPc c.prs).length ≤ 10000000:=by
   rw [encC,Zla] at hlen
   exact hlen
  have HE : Hid ([] ++ lst encTb c.tbs ++ lst encPc c.prs = encC c):=rfl
  rw [encS_yes h1,encE_yes h1]
  clear hlen g3 g4
  go_enter Tryz.func28,Tryz.ntmps28
  go_wp2_with fail
  refine (right_any c _ _ (HC.out _ Bz) HF.out).mono ?_
  rintro e w1 ⟨rfl,hb1⟩
  have hs1:=hb1.size
  simp at hs1
  obtain ⟨e0,e1⟩:=HBX.out w1 (hb1.mono Si)
  obtain ⟨c0,c1⟩:=two_cells e0
  have HX1:=Hd e0
  have HBW1:=Hd e1
  rw [h1]
  clear e0 e1 hb1 h1
  go_wp2_with fail
  refine (aeTb_any w _ (.slice none 0 0) [] pt ct c.tbs encTb HBW1.out HR1.out Om (Ink.nil _ _) (by rw [List.nil_append]; omega) (fun k hk vs u ys w2 hR hb hi hl => enTb_any _ vs w w2 u ys hR hb (HG3.out _ (List.getElem_mem hk)) hi hl)).mono ?_
  rintro e w2 ⟨v2,rfl,i2,k2⟩
  have hs2:=k2.size
  have HX2:=Hd (k2.heap HX1.out (by decide))
  have HBW2:=Hd (Inks.on HBW1.out k2)
  have HI2:=Hd i2
  clear c0 c1 i2 k2
  obtain ⟨c0,c1⟩:=two_cells HX2.out
  go_wp2_with fail
  refine (aePc_any w _ v2 ([] ++ lst encTb c.tbs) pp cp c.prs encPc HBW2.out HR2.out Om HI2.out (by rw [List.nil_append,Zla]; omega) (fun k hk vs u ys w2 hR hb hi hl => enPc_any _ vs w w2 u ys hR hb (HG4.out _ (List.getElem_mem hk)) hi hl)).mono ?_
  rintro e w3 ⟨v3,rfl,i3,k3⟩
  have HBW3:=Hd (Inks.on HBW2.out k3)
  rw [HE.out] at i3
  obtain ⟨ar,cr,rfl,hcv⟩:=ink_str i3
  clear c0 c1 i3 k3
  go_wp2
  exact bodyPost_ret (v:=.tuple #[.string ⟨(encC c).toArray⟩,.int .i64 0]) (by simp [results,Tryz.results28,go_sem]) rfl ⟨rfl,HBW3.out⟩
section
open Go
def lo : List UInt8 → Nat
 | [] => 0
 | c :: l => c.toNat % 128 + 128 * lo l
theorem lo_snoc (c : UInt8) : ∀ l : List UInt8,lo (l ++ [c]) = lo l + 128 ^ l.length * (c.toNat % 128)
 | [] => by simp [lo]
 | d :: l => by
  rw [List.cons_append,lo,lo,lo_snoc c l,List.length_cons,Nat.pow_succ,Nat.mul_add,Nat.mul_comm (128 ^ l.length) 128,Nat.mul_assoc]
  omega
theorem lo_lt : ∀ l : List UInt8,lo l < 128 ^ l.length
 | [] => by simp [lo]
 | d :: l => by
  have:=lo_lt l
  rw [lo,List.length_cons,Nat.pow_succ]
  omega
theorem lo_num {m : Nat} (h : m < 2097152) : lo (num m) = m:=by
 by_cases h1 : m < 128
 ·rw [num_last h1]
  simp [lo]
  omega
 ·rw [num_step Om h]
  by_cases h2 : m / 128 < 128
  ·rw [num_last h2]
   simp [lo]
   omega
  ·rw [num_step (n:=m / 128) Om Om,num_last (n:=m / 128 / 128) Om]
   simp [lo]
   omega
theorem num_front (c : UInt8) (q t : List UInt8) (hc : c.toNat < 128) : ∀ (p : List UInt8) (m : Nat),m < 2097152 → (∀ b ∈ p,128 ≤ b.toNat) → num m ++ t = p ++ c :: q → num m = p ++ [c] ∧ t = q
 | [],m,hm,_,h => by
  by_cases h1 : m < 128
  ·rw [num_last h1] at h ⊢
   simp at h
   exact ⟨by rw [h.1]; rfl,h.2⟩
  ·rw [num_step Om hm] at h
   simp only [List.cons_append,List.nil_append,List.cons.injEq] at h
   have:=congrArg UInt8.toNat h.1
   rw [UInt8.toNat_ofNat'] at this
   omega
 | b :: p,m,hm,hp,h => by
  by_cases h1 : m < 128
  ·rw [num_last h1] at h
   simp only [List.cons_append,List.nil_append,List.cons.injEq] at h
   have h2:=hp b List.mem_cons_self
   rw [← h.1,UInt8.toNat_ofNat'] at h2
   omega
  ·rw [num_step Om hm] at h ⊢
   simp only [List.cons_append,List.cons.injEq] at h
   obtain ⟨e1,e2⟩:=num_front c q t hc p (m / 128) Om (fun x hx => hp x (List.mem_cons_of_mem _ hx)) h.2
   exact ⟨by rw [e1,h.1]; rfl,e2⟩
theorem num_has {m : Nat} (hm : m < 2097152) : ∃ b ∈ num m,b.toNat < 128:=by
 by_cases h1 : m < 128
 ·exact ⟨_,by rw [num_last h1]; exact List.mem_singleton.2 rfl,by rw [UInt8.toNat_ofNat']; omega⟩
 ·rw [num_step Om hm]
  by_cases h2 : m / 128 < 128
  ·exact ⟨_,List.mem_cons_of_mem _ (by rw [num_last h2]; exact List.mem_singleton.2 rfl),by rw [UInt8.toNat_ofNat']; omega⟩
  ·rw [num_step (n:=m / 128) Om Om,num_last (n:=m / 128 / 128) Om]
   exact ⟨_,List.mem_cons_of_mem _ (List.mem_cons_of_mem _ (List.mem_singleton.2 rfl)),by rw [UInt8.toNat_ofNat']; omega⟩
def Rd {α : Type} (E : α → List UInt8) (ok : α → Prop) (s : List UInt8) (a : α) (s' : List UInt8) : Prop:=∀ x y,ok x → s = E x ++ y → a = x ∧ s' = y
end
theorem lo_take {s : ByteArray} {k : Nat} (h : k < s.size) : lo ((bs s).take (k + 1)) = lo ((bs s).take k) + 128 ^ k * (s[k].toNat % 128):=by
 rw [List.take_succ_eq_append_getElem (by rw [bs_len]; exact h),lo_snoc,List.length_take,Nat.min_eq_left (by rw [bs_len]; omega)]
 rfl
theorem pow7 (k : Nat) : (128 : Nat) ^ k = 2 ^ (7 * k):=by rw [Nat.pow_mul]
theorem pow_far {k : Nat} (h : 10 ≤ k) : ∃ e,(128 : Nat) ^ k = 18446744073709551616 * e:=by
 refine ⟨2 ^ (7 * k - 64),?_⟩
 rw [pow7,show (18446744073709551616 : Nat) = 2 ^ 64 from rfl,← Nat.pow_add]
 congr 1
 omega
def pl (c k : Nat) : Nat:=128 ^ k * (c % 128) % 18446744073709551616
theorem pl_lt (c k : Nat) : pl c k < 18446744073709551616:=Nat.mod_lt _ Om
theorem shl_nat (c k : Nat) : IntKind.u64.wrap ((c : Int) % 128 * 2 ^ min (k * 7) 64) = (pl c k : Int):=by
 rw [IntKind.wrap_u64,Nat.mul_comm k 7]
 unfold pl
 by_cases h : 7 * k ≤ 64
 ·rw [Nat.min_eq_left h,pow7]
  simp [Int.mul_comm]
 ·rw [Nat.min_eq_right Om]
  obtain ⟨e,he⟩:=pow_far (k:=k) Om
  rw [he,Nat.mul_assoc,Nat.mul_mod_right]
  simp
theorem lo_step {L k c : Nat} (hL : L < 128 ^ k) : (pl c k % 128 ^ k = 0 ∨ 10 ≤ k) ∧ (k < 10 → L < 18446744073709551616) ∧ (L + 128 ^ k * (c % 128)) % 18446744073709551616 = (if 10 ≤ k then L % 18446744073709551616 else L + pl c k) ∧ (10 ≤ k → pl c k = 0):=by
 have hc : c % 128 < 128:=Nat.mod_lt _ Om
 unfold pl
 by_cases h : 10 ≤ k
 ·obtain ⟨e,he⟩:=pow_far h
  rw [if_pos h,he,Nat.mul_assoc]
  refine ⟨Or.inr h,fun g => by omega,by rw [Nat.add_mul_mod_self_left],fun _ => Nat.mul_mod_right _ _⟩
 ·rw [if_neg h]
  have hk : k = 0 ∨ k = 1 ∨ k = 2 ∨ k = 3 ∨ k = 4 ∨ k = 5 ∨ k = 6 ∨ k = 7 ∨ k = 8 ∨ k = 9:=by omega
  rcases hk with rfl | rfl | rfl | rfl | rfl | rfl | rfl | rfl | rfl | rfl <;> simp only [Nat.reducePow] at hL ⊢ <;> omega
theorem lo_or {L k c : Nat} (hL : L < 128 ^ k) : bits BinOp.or IntKind.u64 ((L % 18446744073709551616 : Nat) : Int) (pl c k : Int) = (((L + 128 ^ k * (c % 128)) % 18446744073709551616 : Nat) : Int):=by
 obtain ⟨h1,h2,h3,h4⟩:=lo_step (c:=c) hL
 rw [u64_or_nat _ _ (Nat.mod_lt _ Om) (pl_lt _ _),h3]
 by_cases h : 10 ≤ k
 ·rw [if_pos h,h4 h,Nat.or_zero]
 ·rw [if_neg h,Nat.mod_eq_of_lt (h2 Om),Nat.or_comm]
  rcases h1 with h1 | h1
  ·rw [pow7] at h1 hL
   rw [nat_join (7 * k) _ _ h1 hL,Nat.add_comm]
  ·omega
def Rdr (w : World) (r : Nat) (s : ByteArray) : Prop:=w.heap[r]? = some (.cells #[.string s] 220 (0,0))
theorem Rdr.later {w w' : World} {r : Nat} {s : ByteArray} (h : Rdr w r s) (hb : Below w.heap.size w w') : Rdr w' r s:=heap_of h hb
theorem Rdr.lt {w : World} {r : Nat} {s : ByteArray} (h : Rdr w r s) : r < w.heap.size:=(Gx h)
theorem Rdr.set {w : World} {r : Nat} {s : ByteArray} (h : Rdr w r s) (t : ByteArray) : Rdr (w.setCell ⟨r,0,none⟩ (.string t)) r t:=by
 have : (w.setCell ⟨r,0,none⟩ (.string t)).heap[r]? = some (.cells (#[Value.string s].setIfInBounds 0 (.string t)) 220 (0,0)):=by
  simp only [World.setCell,Array.getElem?_modify,if_true]
  rw [show w.heap[r]? = _ from h]
  simp
 exact this
theorem ext_bs {t : ByteArray} {n : Nat} : bs (t.extract n t.size) = (bs t).drop n:=by
 simp [bs]
 exact List.take_of_length_le Si
theorem minU_eq (a b : Nat) (W : World) : (Builtin.min_ #[214,214] 214 #[.int .u64 (a : Int),.int .u64 (b : Int)]).run Tryz.prog W = .ok (.int .u64 ((min a b : Nat) : Int)) W:=by
 simp [Builtin.min_,Builtin.min2]
 split <;> omega
def UpP (r : Nat) (s : ByteArray) (M : Nat) (w : World) (e : Ending) (w' : World) : Prop:=∃ (n : Nat) (s' : ByteArray),e = .returned (.int .i64 (n : Int)) ∧ n ≤ M ∧ Rdr w' r s' ∧ s'.size ≤ s.size ∧ Rd num (fun m => m ≤ M ∧ m < 2097152) (bs s) n (bs s') ∧ Only (fun k => k = r) w w'
theorem upTo_any (r : Nat) (s : ByteArray) (M : Nat) (w : World) (h : Rdr w r s) (hs : s.size ≤ 2147483648) (hM : M ≤ 2147483648) :
  Calls Tryz.prog 202 #[.pointer (some ⟨r,0,none⟩),.int .i64 (M : Int)] w (UpP r s M w):=by
 have c0:=cell_of_one h
 have f0:=free_of_one h
 have HH:=Hd h
 have hmin:=minU_eq
 clear h
 go_enter Tryz.func202,Tryz.ntmps202
 go_wp2
 go_loopw [5,13] (fun v i wr => ∃ k : Nat,k ≤ s.size ∧ i = .int .i64 k ∧ (∃ x : Nat,v = .int .u64 (x : Int) ∧ x = lo ((bs s).take k) % 18446744073709551616) ∧ (∀ b ∈ (bs s).take k,128 ≤ b.toNat) ∧ wr = w) (fun _ i _ => s.size - (intOf i).toNat)
 case atStart => exact ⟨0,Nat.zero_le _,rfl,⟨0,rfl,by simp [lo]⟩,by simp,rfl⟩
 case round =>
  obtain ⟨k,hk,rfl,⟨x,rfl,hx⟩,hall,rfl⟩:=hrel
  have HA : Hid (∀ b ∈ (bs s).take k,128 ≤ b.toNat):=hall
  by_cases hlt : k < s.size
  ·have hlti : (k : Int) < (s.size : Int):=by omega
   have hcb:=UInt8.toNat_lt s[k]
   have h7 : (0 : Int) ≤ (k : Int) * 7:=by omega
   have h7' : ¬ (k : Int) * 7 < 0:=by omega
   obtain ⟨Y,hY⟩:=Vx (pl s[k].toNat k)
   have hsh:=shl_nat s[k].toNat k
   obtain ⟨X,hX⟩:=Vx (lo ((bs s).take (k + 1)) % 18446744073709551616)
   have hor : bits BinOp.or IntKind.u64 (x : Int) (Y : Int) = (X : Int):=by
    have hl:=lo_lt ((bs s).take k)
    rw [List.length_take,Nat.min_eq_left (by rw [bs_len]; omega)] at hl
    rw [hx,← hY,← hX,lo_or hl,lo_take hlt]
   rw [hY] at hsh
   have hXl : X < 18446744073709551616:=by rw [← hX]; exact Nat.mod_lt _ Om
   have HX : Hid (lo ((bs s).take (k + 1)) % 18446744073709551616 = X):=hX
   clear hx hall hX hY
   by_cases hc : s[k].toNat < 128
   ·have hci : (s[k].toNat : Int) < 128:=by omega
    obtain ⟨N,hN⟩:=Vx (min X M)
    have hNM : N ≤ M:=by omega
    have HV : Hid (Rd num (fun m => m ≤ M ∧ m < 2097152) (bs s) N (bs (s.extract (k + 1) s.size))):=by
     intro m y hm e
     have hbl : k < (bs s).length:=by rw [bs_len]; exact hlt
     have hsp : bs s = (bs s).take k ++ (bs s)[k] :: (bs s).drop (k + 1):=by
      rw [← List.drop_eq_getElem_cons hbl,List.take_append_drop]
     obtain ⟨e1,e2⟩:=num_front (bs s)[k] ((bs s).drop (k + 1)) y hc ((bs s).take k) m hm.2 HA.out (by rw [← e,← hsp])
     rw [ext_bs]
     refine ⟨?_,e2.symm⟩
     have e3 : lo ((bs s).take (k + 1)) = m:=by
      rw [List.take_succ_eq_append_getElem hbl,← e1]
      exact lo_num hm.2
     have:=HX.out
     rw [e3] at this
     omega
    have hmN : ∀ W,(Builtin.min_ #[214,214] 214 #[.int .u64 (X : Int),.int .u64 (M : Int)]).run Tryz.prog W = .ok (.int .u64 (N : Int)) W:=fun W => by rw [← hN]; exact minU_eq X M W
    have hk1 : (k : Int) + 1 ≤ (s.size : Int):=by omega
    have hk2 : IntKind.i64.wrap ((k : Int) + 1) = (k : Int) + 1:=by rw [IntKind.wrap_i64]; omega
    have hk3 : (0 : Int) ≤ (k : Int) + 1:=by omega
    have hk4 : ((k : Int) + 1).toNat = k + 1:=by omega
    have hu : IntKind.u64.wrap (M : Int) = (M : Int):=by rw [IntKind.wrap_u64]; omega
    have hv : IntKind.i64.wrap (N : Int) = (N : Int):=by rw [IntKind.wrap_i64]; omega
    clear hc hmin hN
    go_wp2
    go_ret
    refine ⟨N,s.extract (k + 1) s.size,rfl,hNM,HH.out.set _,?_,HV.out,Only.setCell (Z:=fun k => k = r) (Only.refl _ _) (p:=⟨r,0,none⟩) rfl _⟩
    simp
   ·have hci : ¬ (s[k].toNat : Int) < 128:=by omega
    have HA1 : Hid (∀ b ∈ (bs s).take (k + 1),128 ≤ b.toNat):=by
     show ∀ b ∈ (bs s).take (k + 1),128 ≤ b.toNat
     rw [List.take_succ_eq_append_getElem (by rw [bs_len]; exact hlt)]
     intro b hb
     rcases Zma hb with hb | hb
     ·exact HA.out b hb
     ·rw [Zms hb]
      show 128 ≤ s[k].toNat
      omega
    clear hc hmin
    go_wp2
    go_roundw
    case rel => exact ⟨k + 1,by omega,by go_num,⟨X,rfl,HX.out.symm⟩,HA1.out,trivial⟩
    case measure => simp [intOf]; omega
  ·have hk' : k = s.size:=by omega
   subst hk'
   have HV : Hid (Rd num (fun m => m ≤ M ∧ m < 2097152) (bs s) 0 (bs (⟨#[]⟩ : ByteArray))):=by
    intro m y hm e
    exfalso
    obtain ⟨b,hb,hb2⟩:=num_has hm.2
    have h1:=HA.out b (by rw [List.take_of_length_le (by rw [bs_len]; omega),e]; exact List.mem_append_left _ hb)
    omega
   clear hall hx
   go_wp2
   go_ret
   exact ⟨0,⟨#[]⟩,rfl,Nat.zero_le _,HH.out.set _,Nat.zero_le _,HV.out,Only.setCell (Z:=fun k => k = r) (Only.refl _ _) (p:=⟨r,0,none⟩) rfl _⟩
def TxP (r : Nat) (s : ByteArray) (w : World) (e : Ending) (w' : World) : Prop:=∃ (x s' : ByteArray),e = .returned (.string x) ∧ x.size ≤ 1000 ∧ Rdr w' r s' ∧ s'.size ≤ s.size ∧ Rd txt (fun x => x.size ≤ 1000) (bs s) x (bs s') ∧ Only (fun k => k = r) w w'
def TextSpec : Prop:=∀ (r : Nat) (s : ByteArray) (w : World),Rdr w r s → s.size ≤ 2147483648 → Calls Tryz.prog 203 #[.pointer (some ⟨r,0,none⟩)] w (TxP r s w)
def BoP (r : Nat) (s : ByteArray) (w : World) (e : Ending) (w' : World) : Prop:=∃ (x : Bool) (s' : ByteArray),e = .returned (.bool x) ∧ Rdr w' r s' ∧ s'.size ≤ s.size ∧ Rd flag (fun _ => True) (bs s) x (bs s') ∧ Only (fun k => k = r) w w'
def InP (r : Nat) (s : ByteArray) (M : Nat) (w : World) (e : Ending) (w' : World) : Prop:=∃ (x : Int) (s' : ByteArray),e = .returned (.int .i64 x) ∧ (0 ≤ x ∧ x ≤ (M : Int)) ∧ Rdr w' r s' ∧ s'.size ≤ s.size ∧ Rd numI (fun x => 0 ≤ x ∧ x ≤ (M : Int)) (bs s) x (bs s') ∧ Only (fun k => k = r) w w'
theorem InP.of {r : Nat} {s : ByteArray} {M : Nat} {w w' : World} {e : Ending} (hM : M < 2097152) (h : UpP r s M w e w') : InP r s M w e w':=by
 obtain ⟨n,s',rfl,h1,h2,h3,h4,h5⟩:=h
 refine ⟨(n : Int),s',rfl,⟨by omega,by omega⟩,h2,h3,fun x y hx e => ?_,h5⟩
 obtain ⟨e1,e2⟩:=h4 x.toNat y ⟨by omega,by omega⟩ e
 exact ⟨by omega,e2⟩
theorem truth_any (r : Nat) (s : ByteArray) (w : World) (h : Rdr w r s) (hs : s.size ≤ 2147483648) : Calls Tryz.prog 231 #[.pointer (some ⟨r,0,none⟩)] w (BoP r s w):=by
 go_enter Tryz.func231,Tryz.ntmps231
 go_wp2_with fail
 refine (upTo_any r s 1 w h hs Om).mono ?_
 rintro e w1 ⟨n,s',rfl,h1,h2,h3,h4,h5⟩
 have HP : Hid (∀ b : Bool,b = decide (n = 1) → BoP r s w (.returned (.bool b)) w1):=by
  intro b hb
  refine ⟨b,s',rfl,h2,h3,fun x y _ e => ?_,h5⟩
  rw [flag_num] at e
  obtain ⟨e1,e2⟩:=h4 _ y ⟨by split <;> omega,by split <;> omega⟩ e
  refine ⟨?_,e2⟩
  rw [hb,e1]
  cases x <;> rfl
 have hn : ((n : Int) == 1) = decide (n = 1):=by
  rw [Bool.eq_iff_iff]
  simp
  omega
 clear h2 h3 h4 h5
 go_wp2
 go_ret
 exact HP.out _ rfl
theorem kind_any (r : Nat) (s : ByteArray) (w : World) (h : Rdr w r s) (hs : s.size ≤ 2147483648) : Calls Tryz.prog 230 #[.pointer (some ⟨r,0,none⟩)] w (InP r s 3 w):=by
 go_enter Tryz.func230,Tryz.ntmps230
 go_wp2_with fail
 refine (upTo_any r s 3 w h hs Om).mono ?_
 intro e w1 hP
 have HP:=Hd (InP.of Om hP)
 obtain ⟨n,s',rfl,-⟩:=hP
 go_wp2
 go_ret
 exact HP.out
theorem place_any (r : Nat) (s : ByteArray) (w : World) (h : Rdr w r s) (hs : s.size ≤ 2147483648) : Calls Tryz.prog 207 #[.pointer (some ⟨r,0,none⟩)] w (InP r s 16 w):=by
 go_enter Tryz.func207,Tryz.ntmps207
 go_wp2_with fail
 refine (upTo_any r s 16 w h hs Om).mono ?_
 intro e w1 hP
 have HP:=Hd (InP.of Om hP)
 obtain ⟨n,s',rfl,-⟩:=hP
 go_wp2
 go_ret
 exact HP.out
theorem Keeps.only {S : List TypeId} {B : Nat} {w w' : World} {r : Nat} {cs : Array Value} {t : TypeId} {fr : Nat × Nat} (h : w.heap[r]? = some (.cells cs t fr)) (ho : Only (fun k => k = r) w w') (ht : t ∉ S) : Keeps S B w w':=by
 intro g cur t' ht' _ hg
 refine (ho.block g (Gx hg) fun e => ?_).trans hg
 have e : g = r:=e
 rw [e,h] at hg
 simp only [Option.some.injEq,Obj.cells.injEq] at hg
 exact ht (hg.2.1 ▸ ht')
theorem own_only {w w' : World} {B : Nat} {e : TypeId} {size : Nat} {v : Value} {n : Nat} {xs : List Value} (h : w.ownsRow B e size v n xs) {r : Nat} {cs : Array Value} {t : TypeId} {fr : Nat × Nat} (hr : w.heap[r]? = some (.cells cs t fr)) (ho : Only (fun k => k = r) w w') (ht : t ≠ e) : w'.ownsRow B e size v n xs:=by
 refine own_kept h fun g hg => ho.block g (h.lt g hg).2 fun e1 => ?_
 have e1 : g = r:=e1
 obtain ⟨cur,hh⟩:=own_block h hg
 rw [e1,hr] at hh
 simp only [Option.some.injEq,Obj.cells.injEq] at hh
 exact ht hh.2.1
theorem only_base {w w' : World} {r : Nat} (h : Only (fun k => k = r ∨ w.heap.size ≤ k) w w') : Only (fun k => k = r) w w':=⟨h.os,h.tape,h.output,h.size,fun k hk hz => h.block k hk fun e => by
 rcases e with e | e
 ·exact hz e
 ·omega⟩
theorem rd_start {α : Type} {f : α → List UInt8} {ok : α → Prop} {M : Nat} {s s1 : List UInt8} {n : Nat} (hM : M < 2097152) (h : Rd num (fun m => m ≤ M ∧ m < 2097152) s n s1) : ∀ L y,(L.length ≤ M ∧ ∀ x ∈ L,ok x) → s = lst f L ++ y → n = L.length ∧ ([] : List α) = L.take 0 ∧ s1 = (L.drop 0).flatMap f ++ y:=by
 intro L y hL e
 rw [lst,Zas] at e
 obtain ⟨e1,e2⟩:=h _ _ ⟨hL.1,by omega⟩ e
 exact ⟨e1,rfl,e2⟩
theorem rd_step {α : Type} {f : α → List UInt8} {ok : α → Prop} {s s1 s2 : List UInt8} {n k M : Nat} {l : List α} {x : α} (hk : k < n)
  (h : ∀ L y,(L.length ≤ M ∧ ∀ x ∈ L,ok x) → s = lst f L ++ y → n = L.length ∧ l = L.take k ∧ s1 = (L.drop k).flatMap f ++ y) (hx : Rd f ok s1 x s2) :
  ∀ L y,(L.length ≤ M ∧ ∀ x ∈ L,ok x) → s = lst f L ++ y → n = L.length ∧ l ++ [x] = L.take (k + 1) ∧ s2 = (L.drop (k + 1)).flatMap f ++ y:=by
 intro L y hL e
 obtain ⟨e1,e2,e3⟩:=h L y hL e
 have hkl : k < L.length:=by omega
 rw [List.drop_eq_getElem_cons hkl,List.flatMap_cons,Zas] at e3
 obtain ⟨g1,g2⟩:=hx _ _ (hL.2 _ (List.getElem_mem hkl)) e3
 exact ⟨e1,by rw [e2,g1,take_snoc L k hkl],g2⟩
theorem rd_end {α : Type} {f : α → List UInt8} {ok : α → Prop} {s s1 : List UInt8} {n M : Nat} {l : List α}
  (h : ∀ L y,(L.length ≤ M ∧ ∀ x ∈ L,ok x) → s = lst f L ++ y → n = L.length ∧ l = L.take n ∧ s1 = (L.drop n).flatMap f ++ y) : Rd (lst f) (fun L => L.length ≤ M ∧ ∀ x ∈ L,ok x) s l s1:=by
 intro L y hL e
 obtain ⟨e1,e2,e3⟩:=h L y hL e
 subst e1
 rw [List.take_length] at e2
 rw [List.drop_length] at e3
 exact ⟨e2,by simpa using e3⟩
end TT
end Go.Proofs.YtmmmkjhpmlfopaaGreatDoor
