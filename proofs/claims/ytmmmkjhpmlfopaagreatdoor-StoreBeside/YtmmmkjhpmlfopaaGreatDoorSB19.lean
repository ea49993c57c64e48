/- ZR10 ZR11 ZR12 O2 G1 O3 O4 -/
import Derived.Test.YtmmmkjhpmlfopaaGreatDoorSB18
set_option maxHeartbeats 4000000
set_option maxRecDepth 100000
namespace Go.Proofs.YtmmmkjhpmlfopaaGreatDoor
open Go.RowKit
namespace RR
structure Box (b : Nat) (w : World) : Prop where
 k0 : w.cell? ⟨b,0,none⟩ = some (.int .i64 0)
 k1 : w.cell? ⟨b,1,none⟩ = some (.int .i64 0)
 k2 : w.cell? ⟨b,2,none⟩ = some (.string ⟨#[]⟩)
 kf : ∀ o,w.frozen? ⟨b,o,none⟩ = false
 kz : b < w.heap.size
theorem box_new (w : World) (t : TypeId) : Box w.heap.size (w.alloc (.cells #[.int .i64 0,.int .i64 0,.string ⟨#[]⟩] t)):=⟨by simp,by simp,by simp,by simp,by simp⟩
theorem Box.later {b : Nat} {w w' : World} (h : Box b w) (hb : Below w.heap.size w w') : Box b w' :=
 ⟨cell_later hb h.k0,cell_later hb h.k1,cell_later hb h.k2,fun o => by rw [hb.frozen (p:=⟨b,o,none⟩) h.kz]; exact h.kf o,by have:=hb.size; have:=h.kz; omega⟩
theorem rval_any (K : Nat) (s : ByteArray) (w : World) (hK : K < 4) (hs : s.size ≤ 2147483648) : Calls Tryz.prog 225 #[.int .i64 (K : Int),.string s] w (VR K s w):=by
 have hKd : K = 0 ∨ K = 1 ∨ K = 2 ∨ K = 3:=by omega
 rcases hKd with rfl | rfl | rfl | rfl
 ·go_enter Tryz.func225,Tryz.ntmps225
  go_wp2
  exact bodyPost_ret (v:=.tuple #[.agg #[.int .i64 0,.int .i64 0,.string ⟨#[]⟩],.string s,.bool true]) (by simp [results,Tryz.results225,go_sem]) rfl ⟨(0,0,⟨#[]⟩),s,true,rfl,rf_null rfl,Nat.le_refl _,Bz⟩
 ·go_enter Tryz.func225,Tryz.ntmps225
  go_wp2_with fail
  refine (rnum_any s _ hs).mono ?_
  rintro e w1 ⟨v,r,ok,rfl,hf,hr,hb⟩
  obtain ⟨k0,k1,k2,kf,kz⟩:=(box_new w 73).later hb
  have HF : Hid (RF 1 s.data.toList v r.data.toList ok):=hf
  clear hf
  go_wp2
  exact bodyPost_ret (v:=.tuple #[.agg #[.int .i64 v.1,.int .i64 v.2.1,.string v.2.2],.string r,.bool ok]) (by simp [results,Tryz.results225,go_sem, *]) rfl ⟨v,r,ok,rfl,HF.out,hr,Bz⟩
 ·go_enter Tryz.func225,Tryz.ntmps225
  go_wp2_with fail
  refine (rbool_any s _ hs).mono ?_
  rintro e w1 ⟨v,r,ok,rfl,hf,hr,hb⟩
  obtain ⟨k0,k1,k2,kf,kz⟩:=(box_new w 73).later hb
  have HF : Hid (RF 2 s.data.toList v r.data.toList ok):=hf
  clear hf
  go_wp2
  exact bodyPost_ret (v:=.tuple #[.agg #[.int .i64 v.1,.int .i64 v.2.1,.string v.2.2],.string r,.bool ok]) (by simp [results,Tryz.results225,go_sem, *]) rfl ⟨v,r,ok,rfl,HF.out,hr,Bz⟩
 ·go_enter Tryz.func225,Tryz.ntmps225
  go_wp2_with fail
  refine (rtext_any s _ hs).mono ?_
  rintro e w1 ⟨v,r,ok,rfl,hf,hr,hb⟩
  obtain ⟨k0,k1,k2,kf,kz⟩:=(box_new w 73).later hb
  have HF : Hid (RF 3 s.data.toList v r.data.toList ok):=hf
  clear hf
  go_wp2
  exact bodyPost_ret (v:=.tuple #[.agg #[.int .i64 v.1,.int .i64 v.2.1,.string v.2.2],.string r,.bool ok]) (by simp [results,Tryz.results225,go_sem, *]) rfl ⟨v,r,ok,rfl,HF.out,hr,Bz⟩
def RW (s : ByteArray) (w : World) (e : Ending) (w' : World) : Prop:=∃ (v : Value) (l : List V3) (ok : Bool),e = .returned (.tuple #[v,.bool ok]) ∧ w'.ownsRow w.heap.size 73 3 v l.length (vc l) ∧ (ok = false → ∀ vs,¬ RowOf s.data.toList vs) ∧ (ok = true → ∃ c q r,s.data.toList = c :: q ∧ RP s.data.toList c.toNat l r) ∧ l.length ≤ 255 ∧ Below w.heap.size w w'
theorem rw_no {s : ByteArray} {w w' : World} (h : ∀ vs,¬ RowOf s.data.toList vs) (hb : Below w.heap.size w w') : RW s w (.returned (.tuple #[.slice none 0 0,.bool false])) w' :=
 ⟨.slice none 0 0,[],false,rfl,World.ownsRow_nil _ _ _ _,fun _ => h,fun h => by simp at h,by simp,hb⟩
theorem ext_byte {s : ByteArray} {H j : Nat} (h : j < (s.extract 1 H).size) (h' : 1 + j < s.data.toList.length) : (s.extract 1 H)[j] = s.data.toList[1 + j]:=by
 show (s.extract 1 H).data[j] = s.data.toList[1 + j]
 simp [ByteArray.data_extract,Array.getElem_extract]
theorem rrow_any (s : ByteArray) (w : World) (hs : s.size ≤ 2147483648) : Calls Tryz.prog 183 #[.string s] w (RW s w):=by
 obtain ⟨i0,hi,hz0,hz1,hz2⟩:=info_parts Tryz.info23
 by_cases h0 : 0 < s.size
 ·have hne:=toList_ne h0
  have h0i : (0 : Int) < (s.size : Int):=by omega
  have hcb:=UInt8.toNat_lt s[0]
  have HF : Hid (s.data.toList = s[0] :: s.data.toList.drop 1):=front h0
  obtain ⟨c,hc⟩:=Vx (s[0].toNat)
  have HC : Hid (s[0].toNat = c):=hc
  obtain ⟨D,hD⟩:=Vx ((c + 3) / 4)
  have HD : Hid ((c + 3) / 4 = D):=hD
  have hDi : (((c + 3) / 4 : Nat) : Int) = (D : Int):=by rw [hD]
  obtain ⟨H,hH⟩:=Vx (1 + D)
  have HH : Hid (1 + D = H):=hH
  have hHi : (1 : Int) + (D : Int) = (H : Int):=by omega
  have hH1 : 1 ≤ H:=by omega
  have hH2 : H ≤ 100:=by omega
  have hsl:=size_toList s
  by_cases hsh : s.size < H
  ·have hshi : (s.size : Int) < (H : Int):=by omega
   have HN : Hid (∀ vs,¬ RowOf s.data.toList vs):=row_short HF.out (by rw [size_toList,hc]; omega)
   clear hD hH
   go_enter Tryz.func183,Tryz.ntmps183
   go_wp2_with fail
   refine (kbytes_any c _ Om).mono ?_
   rintro e w1 ⟨rfl,rfl⟩
   rw [hDi]
   go_wp2
   exact bodyPost_ret (v:=.tuple #[.slice none 0 0,.bool false]) (by simp [results,Tryz.results183,go_sem]) rfl (rw_no HN.out Bz)
  ·have hshi : ¬ (s.size : Int) < (H : Int):=by omega
   have hHs : (H : Int) ≤ (s.size : Int):=by omega
   have hH1i : (1 : Int) ≤ (H : Int):=by omega
   have HP0 : Hid (RP s.data.toList 0 [] (s.extract H s.size).data.toList):=by
    have:=rp_start HF.out
    rw [HC.out,hD,hH] at this
    rw [ext_drop]
    exact this
   have hxs : (s.extract 1 H).size = D:=by simp; omega
   have hrs0 : (s.extract H s.size).size ≤ s.size:=by simp
   clear hD hH
   go_enter Tryz.func183,Tryz.ntmps183
   go_wp2_with fail
   refine (kbytes_any c _ Om).mono ?_
   rintro e w1 ⟨rfl,rfl⟩
   rw [hDi]
   clear hDi hc
   go_wp2
   go_region
   all_goals
    go_wp2
    go_loopw [7,8,32] (fun r v i wr => ∃ (k : Nat) (l : List V3) (rs : ByteArray),k ≤ c ∧ i = .int .i64 k ∧ r = .string rs ∧ rs.size ≤ s.size ∧ l.length = k ∧ RP s.data.toList k l rs.data.toList ∧ wr.ownsRow w1.heap.size 73 3 v k (vc l) ∧ Below w1.heap.size w1 wr) (fun _ _ i _ => c - (intOf i).toNat)
    case atStart => exact ⟨0,[],s.extract H s.size,Nat.zero_le _,rfl,rfl,hrs0,rfl,HP0.out,World.ownsRow_nil _ _ _ _,Bz⟩
    case round =>
     clear HP0
     obtain ⟨k,l,rs,hk,rfl,rfl,hrs,hl,hrp,hown,hb⟩:=hrel
     have HP : Hid (RP s.data.toList k l rs.data.toList):=hrp
     have HL : Hid (l.length = k):=hl
     clear hrp hl
     have hsz:=hb.size
     by_cases hlt : k < c
     ·have hlti : (k : Int) < (c : Int):=by omega
      have hkD : k / 4 < (s.extract 1 H).size:=by rw [hxs]; have:=HD.out; omega
      obtain ⟨K,hK⟩:=Vx ((s.extract 1 H)[k / 4].toNat / q4 (k % 4) % 4)
      have hK4 : K < 4:=by omega
      have HK : Hid (∀ vs,RowOf s.data.toList vs → ∀ g : k < vs.length,(K : Int) = (vs[k]).1):=by
       show ∀ vs,RowOf s.data.toList vs → ∀ g : k < vs.length,(K : Int) = (vs[k]).1
       intro vs g gk
       have hj : 1 + k / 4 < s.data.toList.length:=by rw [hxs] at hkD; have:=HH.out; omega
       rw [← rowOf_kind g gk hj,← hK,ext_byte hkD hj]
      go_wp2_with fail
      refine (kat_any (s.extract 1 H) k _ Om hkD).mono ?_
      rintro e w2 ⟨rfl,rfl⟩
      rw [hK]
      clear hK
      go_wp2_with fail
      refine (rval_any K rs _ hK4 Om).mono ?_
      rintro e w3 ⟨v,r,ok,rfl,hf,hr,hb3⟩
      have hown3:=own_later hown hb3
      have hb3' : Below w1.heap.size w1 w3:=hb.trans (hb3.mono hsz)
      have hz3:=hb3'.size
      have hlt3:=hown3.lt
      clear hown hb3
      cases ok with
      | false =>
       have HN : Hid (∀ vs,¬ RowOf s.data.toList vs):=rp_stuck HF.out HP.out (by rw [HC.out]; exact hlt) HK.out hf
       clear hf hown3 hlt3
       go_wp2
       exact bodyPost_ret (v:=.tuple #[.slice none 0 0,.bool false]) (by simp [results,Tryz.results183,go_sem]) rfl (rw_no HN.out Bz)
      | true =>
       have HP1 : Hid (RP s.data.toList (k + 1) (l ++ [v]) r.data.toList):=rp_step HF.out HP.out (by rw [HC.out]; exact hlt) HK.out hf
       clear hf
       go_wp2_with (first | (at_builtin; refine wpList_append_own _ rfl _ _ 26 rfl w1.heap.size 73 i0 _ 3 32 Tryz.underlying26 hi hz0 hz1 hz2 rfl (by decide) _ _ _ rfl ((hown3.alloc _).alloc _) ⟨w3.heap.size + 1,0,none⟩ 1 1 (vc [v]) rfl rfl ?c1 ?c2 ?c3 ?c4 ?c5 ?_))
       case c1 =>
        have:=cells_new (w3.alloc (.cells #[.int .i64 v.1,.int .i64 v.2.1,.string v.2.2] 73)) v 73
        simpa using this
       case c2 => exact vc_one _
       case c3 => unfold maxLen; omega
       case c4 => omega
       case c5 => simp; omega
       intro v' w4 hown4 hgrow _
       have hbb : Below w1.heap.size w1 w4:=((hb3'.alloc Om _).alloc (by simp; omega) _).grown hgrow (by simp; omega) fun k hk => (hlt3 k hk).1
       rw [← vc_append] at hown4
       clear hgrow hown3 hlt3 hb3'
       go_wp2
       go_roundw
       case rel => exact ⟨k + 1,l ++ [v],r,by omega,by go_num,rfl,by omega,by rw [Zla,HL.out]; rfl,HP1.out,hown4,hbb⟩
       case measure => simp [intOf]; omega
     ·have hlti : ¬ (k : Int) < (c : Int):=by omega
      have hkc : k = c:=by omega
      subst hkc
      rw [← HL.out] at hown
      obtain ⟨la,lc,rfl,_⟩:=Row.of_own hown
      have HO : Hid (wr.ownsRow w1.heap.size 73 3 (.slice la l.length lc) l.length (vc l)):=hown
      clear hown
      go_wp2
      exact bodyPost_ret (v:=.tuple #[.slice la l.length lc,.bool true]) (by simp [results,Tryz.results183,go_sem]) rfl ⟨_,l,true,rfl,HO.out,fun h => by simp at h,fun _ => ⟨s[0],_,rs.data.toList,HF.out,by rw [HC.out]; exact HP.out⟩,by rw [HL.out]; have:=HC.out; omega,Bz⟩
 ·obtain rfl:=ba_nil (by omega : s.size = 0)
  go_enter Tryz.func183,Tryz.ntmps183
  go_wp2
  exact bodyPost_ret (v:=.tuple #[.slice none 0 0,.bool false]) (by simp [results,Tryz.results183,go_sem]) rfl (rw_no row_empty Bz)
def DV (s : ByteArray) (w : World) (e : Ending) (w' : World) : Prop:=∃ v : Value,e = .returned (.tuple #[v,.int .i64 (rdR s.data.toList).2]) ∧ w'.ownsRow w.heap.size 73 3 v (rdR s.data.toList).1.length (vc (rdR s.data.toList).1) ∧ Below w.heap.size w w'
theorem dv_ok {s : ByteArray} {w : World} {v : Value} {vs : List V3} {w' : World} (h : RowOf s.data.toList vs) (ho : w'.ownsRow w.heap.size 73 3 v vs.length (vc vs)) (hb : Below w.heap.size w w') : DV s w (.returned (.tuple #[v,.int .i64 0])) w':=by
 refine ⟨v,?_,?_,hb⟩
 ·rw [rdR_ok h]
 ·rw [rdR_ok h]; exact ho
theorem dv_no {s : ByteArray} {w w' : World} (h : ∀ vs,¬ RowOf s.data.toList vs) (hb : Below w.heap.size w w') : DV s w (.returned (.tuple #[.slice none 0 0,.int .i64 30])) w':=by
 refine ⟨.slice none 0 0,?_,?_,hb⟩
 ·rw [rdR_no h]
 ·rw [rdR_no h]; exact World.ownsRow_nil _ _ _ _
theorem wr_split (s : ByteArray) (l : List V3) : (((wrR l).2 = 0 ∧ (wrR l).1 = s.data.toList) ∧ wrV l = .tuple #[.string s,.int .i64 0]) ∨ (¬ ((wrR l).2 = 0 ∧ (wrR l).1 = s.data.toList) ∧ ∃ (p : ByteArray) (q : Int),wrV l = .tuple #[.string p,.int .i64 q] ∧ ((q != 0) = true ∨ ((q != 0) = false ∧ (p.toList == s.toList) = false))):=by
 by_cases h : (wrR l).2 = 0 ∧ (wrR l).1 = s.data.toList
 ·left
  refine ⟨h,?_⟩
  unfold wrV
  rw [h.1,h.2]
 ·right
  refine ⟨h,⟨(wrR l).1.toArray⟩,(wrR l).2,rfl,?_⟩
  by_cases a : (wrR l).2 = 0
  ·right
   refine ⟨by simp [a],?_⟩
   rw [beq_eq_false_iff_ne,ByteArray.toList_eq,ByteArray.toList_eq]
   exact fun e => h ⟨a,e⟩
  ·left; simpa using a
theorem dec_any (s : ByteArray) (w : World) (hs : s.size ≤ 2147483648) : Calls Tryz.prog 131 #[.string s] w (DV s w):=by
 go_enter Tryz.func131,Tryz.ntmps131
 go_wp2_with fail
 refine (rrow_any s _ hs).mono ?_
 rintro e w1 ⟨v,l,ok,rfl,hown,hno,hyes,hl,hb⟩
 cases ok with
 | false =>
  have HN : Hid (∀ vs,¬ RowOf s.data.toList vs):=hno rfl
  clear hno hyes hown
  go_wp2
  exact bodyPost_ret (v:=.tuple #[.slice none 0 0,.int .i64 30]) (by simp [results,Tryz.results131,go_sem]) rfl (dv_no HN.out Bz)
 | true =>
  obtain ⟨c,q,r,hcq,hrp⟩:=hyes rfl
  obtain ⟨la,lc,rfl,hrow⟩:=Row.of_own hown
  have HO : Hid (w1.ownsRow w.heap.size 73 3 (.slice la l.length lc) l.length (vc l)):=hown
  have HR : Hid (Row w1 la l):=hrow
  clear hno hyes hown hrow
  rcases wr_split s l with ⟨h,hv⟩ | ⟨h,p,x,hv,hd⟩
  ·have HK : Hid (RowOf s.data.toList l):=rowOf_of h.1 h.2
   have HV : Hid (wrV l = .tuple #[.string s,.int .i64 0]):=hv
   clear h hv hrp hcq
   go_wp2_with fail
   refine (enc_any la lc l _ Om HR.out).mono ?_
   rintro e w2 ⟨rfl,hb2⟩
   rw [HV.out]
   have HO2 : Hid (w2.ownsRow w.heap.size 73 3 (.slice la l.length lc) l.length (vc l)):=own_later HO.out hb2
   have hbw2 : Below w.heap.size w w2:=hb.trans (hb2.mono hb.size)
   clear hb2 HO
   go_wp2
   exact bodyPost_ret (v:=.tuple #[.slice la l.length lc,.int .i64 0]) (by simp [results,Tryz.results131,go_sem]) rfl (dv_ok HK.out HO2.out hbw2)
  ·have HN : Hid (∀ vs,¬ RowOf s.data.toList vs):=rp_end hcq hrp h
   have HV : Hid (wrV l = .tuple #[.string p,.int .i64 x]):=hv
   clear h hv hrp hcq HO
   rcases hd with d1 | ⟨d1,d2⟩
   all_goals
    go_wp2_with fail
    refine (enc_any la lc l _ Om HR.out).mono ?_
    rintro e w2 ⟨rfl,hb2⟩
    rw [HV.out]
    have hbw2 : Below w.heap.size w w2:=hb.trans (hb2.mono hb.size)
    clear hb2
    go_wp2
    exact bodyPost_ret (v:=.tuple #[.slice none 0 0,.int .i64 30]) (by simp [results,Tryz.results131,go_sem]) rfl (dv_no HN.out hbw2)
end RR
section
open Go.RowKit BB
structure Env (w : World) (B : Nat) : Prop where
 lt : 0 < B
 le : B ≤ w.heap.size
 ml : KK.ML w
theorem Env.later {w w' : World} {B C : Nat} (h : Env w B) (hb : Below C w w') (hC : B ≤ C) : Env w' B:=⟨h.lt,Zlt h.le hb.size,h.ml.later (hb.mono hC) h.lt⟩
theorem Env.pos {w : World} {B : Nat} (h : Env w B) : 0 < w.heap.size:=by have:=h.lt; have:=h.le; omega
theorem ownF {w : World} {B : Nat} {e : TypeId} {size : Nat} {v : Value} {n : Nat} {xs : List Value} (h : w.ownsRow B e size v n xs) : ∃ p cap,v = .slice p n cap:=by
 obtain ⟨_,⟨rfl,rfl⟩ | ⟨g,cap,cur,rfl,_⟩⟩:=h
 ·exact ⟨none,0,rfl⟩
 ·exact ⟨_,cap,rfl⟩
theorem tree_any (w : World) (D : TD) (p j : Nat) (i : Int) (hi : i = (j : Int) - 1) (hj : j < D.K) (hk : D.K ≤ 5) (hc : w.cell? ⟨D.bs p,j,none⟩ = some (.pointer (some ⟨D.tp p j,0,none⟩))) :
  Calls Tryz.prog 66 #[D.pv p,.int .i64 i] w fun e w' => e = .returned (.pointer (some ⟨D.tp p j,0,none⟩)) ∧ w' = w:=by
 have hw : IntKind.i64.wrap (i + 1) = (j : Int):=by rw [IntKind.wrap_i64] <;> omega
 have h1 : (0 : Int) ≤ (j : Int):=by omega
 have h2 : (j : Int) < (D.K : Int):=by omega
 clear hi
 unfold TD.pv
 go_enter Tryz.func66,Tryz.ntmps66
 go_wp2
 go_ret
 exact ⟨rfl,rfl⟩
theorem decode_any9 (w : World) (r : Row3) (hr : ∀ v ∈ r,V3.right v = true) (hl : r.length ≤ 16) :
  Calls Tryz.prog 77 #[.string (rE r)] w fun e w' => Below w.heap.size w w' ∧ ∃ v,e = .returned v ∧ w'.ownsRow w.heap.size 73 3 v r.length (vc r):=by
 have hs:=rE_size r
 have hs2:=RR.rowB_len hl hr
 have hs3 : (rE r).size ≤ 2147483648:=by omega
 have HR : Hid (RR.rdR (rE r).data.toList = (r,0)):=by
  refine RR.rdR_ok ⟨hl,hr,?_⟩
  simp [rE]
 obtain ⟨s,hS⟩:=Vx (rE r)
 rw [hS] at hs3 HR ⊢
 clear hs hS
 go_enter Tryz.func77,Tryz.ntmps77
 go_wp2_with (go_at_call 131; refine (RR.dec_any _ _ hs3).mono ?_; rintro e w' ⟨v,rfl,ho,hb⟩; rw [HR.out] at ho)
 go_ret
 exact ⟨hb,v,rfl,ho⟩
theorem encode_any9 (w : World) (a : Option Addr) (cap : Nat) (vs : List V3) (hrow : Row w a vs) (hr : ∀ v ∈ vs,V3.right v = true) (hl : vs.length ≤ 8) {B : Nat} (hm : Env w B) :
  Calls Tryz.prog 69 #[.slice a vs.length cap] w fun e w' => e = .returned (.string (kE vs)) ∧ Below w.heap.size w w':=by
 have HE : Hid (encR vs = (kbs vs,0)):=encR_ok Om fun i hi => hr _ (List.getElem_mem hi)
 have HC:=Hd (KK.enc_any a cap vs w Om hrow hm.pos hm.ml)
 clear hrow hr hm
 go_enter Tryz.func69,Tryz.ntmps69
 go_wp2_with (go_at_call 82; refine HC.out.mono ?_; rintro e w' ⟨rfl,hb⟩; unfold KK.encV; rw [HE.out])
 go_ret
 exact ⟨rfl,hb⟩
theorem pick_any (w : World) (a pa : Option Addr) (cap cp : Nat) (r : Row3) (cs : List Int) (hrow : Row w a r) (hcs : TT.RowR 1 TT.IntR w pa cs) (hin : ∀ c ∈ cs,0 ≤ c ∧ c < (r.length : Int)) (hl : cs.length ≤ 8) :
  Calls Tryz.prog 68 #[.slice a r.length cap,.slice pa cs.length cp] w fun e w' => Below w.heap.size w w' ∧ ∃ v,e = .returned v ∧ w'.ownsRow w.heap.size 73 3 v cs.length (vc (pick3 r cs)):=by
 obtain ⟨i0,hi,hz0,hz1,hz2⟩:=info_parts Tryz.info23
 have HR:=Hd hrow
 have HC:=Hd hcs
 have HI:=Hd hin
 clear hrow hcs hin
 go_enter Tryz.func68,Tryz.ntmps68
 go_wp2
 go_loopw [5,10] (fun l i wr => ∃ k : Nat,k ≤ cs.length ∧ i = .int .i64 k ∧ wr.ownsRow w.heap.size 73 3 l k (vc (pick3 r (cs.take k))) ∧ Below w.heap.size w wr) (fun _ i _ => cs.length - (intOf i).toNat)
 case atStart => exact ⟨0,Nat.zero_le _,rfl,World.ownsRow_nil _ _ _ _,Bxr _ _⟩
 case round =>
  obtain ⟨k,hk,rfl,hown,hb⟩:=hrel
  by_cases hlt : k < cs.length
  ·have hlti : (k : Int) < (cs.length : Int):=by omega
   obtain ⟨b,off,v0,rfl,hv0,c0⟩:=HC.out.at1 hlt
   have e0 : [v0] = [.int .i64 cs[k]]:=hv0
   simp only [List.cons.injEq,and_true] at e0
   subst e0
   obtain ⟨hc1,hc2⟩:=HI.out cs[k] (List.getElem_mem hlt)
   obtain ⟨m,hm⟩ : ∃ m : Nat,cs[k] = (m : Int):=⟨cs[k].toNat,by omega⟩
   rw [hm] at c0 hc2
   have hml : m < r.length:=by omega
   obtain ⟨b',off',rfl,d0,d1,d2⟩:=HR.out m hml
   have d0:=cell_later hb d0
   have d1:=cell_later hb d1
   have d2:=cell_later hb d2
   have c0:=cell_later hb c0
   obtain ⟨v,hv⟩:=Vx (r[m])
   rw [hv] at d0 d1 d2
   have ht:=pick3_take (r:=r) hlt
   rw [show at3 r cs[k] = v by rw [hm,at3_at (by simpa using hml)]; simpa using hv] at ht
   have HT:=Hd ht
   obtain ⟨la,lc,rfl⟩:=ownF hown
   have hlt2:=hown.lt
   have hsz:=hb.size
   clear hv hm hc1 hv0 ht hlt
   go_wp2_with (first | (at_builtin; refine wpList_append_own _ rfl _ _ 26 rfl w.heap.size 73 i0 _ 3 32 Tryz.underlying26 hi hz0 hz1 hz2 rfl (by decide) _ _ _ rfl (hown.alloc _) ⟨wr.heap.size,0,none⟩ 1 1 (vc [v]) rfl rfl ?c1 ?c2 ?c3 ?c4 ?c5 ?_))
   case c1 => exact cells_new wr v _
   case c2 => exact vc_one _
   case c3 => unfold maxLen; omega
   case c4 => omega
   case c5 => simp; omega
   ·intro v' w3 hown3 hgrow _
    have hbb : Below w.heap.size w w3:=(hb.alloc Om _).grown hgrow (by simp; omega) fun k hk => (hlt2 k hk).1
    rw [← vc_append,← HT.out] at hown3
    clear hgrow hown hlt2 c0 d0 d1 d2
    go_wp2
    go_roundw
    case rel => exact ⟨k + 1,by omega,by go_num,hown3,hbb⟩
    case measure => simp [intOf]; omega
  ·have hk' : k = cs.length:=by omega
   have hlti : ¬ (k : Int) < (cs.length : Int):=by omega
   rw [hk',List.take_of_length_le Zlr] at hown
   clear hk'
   go_wp2
   go_ret
   exact ⟨hb,_,rfl,hown⟩
end
theorem crc_take {s : ByteArray} {k : Nat} (h : k < s.size) : crcF 4294967295 (s.data.toList.take (k + 1)) = sy (crcF 4294967295 (s.data.toList.take k)) s[k]:=by
 rw [List.take_succ_eq_append_getElem (by simpa using h),crcF_snoc]
 rfl
theorem crc_all (s : ByteArray) : crcF 4294967295 (s.data.toList.take s.size) = crcF 4294967295 s.data.toList:=by
 rw [List.take_of_length_le Si]
theorem sum_and {z : Nat} (h : z < 4294967296) : bits BinOp.and IntKind.u32 (z : Int) 1 = ((z % 2 : Nat) : Int):=by
 have:=u32_and_nat z 1 h (by decide)
 rw [Nat.and_one_is_mod] at this
 exact this
theorem sum_bit {z : Nat} (h : z < 4294967296) : bits BinOp.xor IntKind.u32 ((z : Int) / 2) (bits BinOp.and IntKind.u32 (z : Int) 1 * 3988292384 % 4294967296) = (sb z : Int):=by
 have h2 : z % 2 * 3988292384 < 4294967296:=by
  have : z % 2 < 2:=Nat.mod_lt _ (by decide)
  omega
 have e1 : ((z : Int) / 2) = ((z / 2 : Nat) : Int):=by omega
 have e2 : (((z % 2 : Nat) : Int) * 3988292384 % 4294967296) = ((z % 2 * 3988292384 : Nat) : Int):=by omega
 rw [sum_and h,e1,e2,u32_xor_nat _ _ Om h2]
 rfl
theorem sum_end {z : Nat} (h : z < 4294967296) : bits BinOp.xor IntKind.u32 IntKind.u32.max (z : Int) = ((z ^^^ 4294967295 : Nat) : Int):=by
 have:=u32_xor_nat 4294967295 z (by decide) h
 rw [Nat.xor_comm z]
 exact this
theorem sum_any (s : ByteArray) (w : World) (hs : s.size ≤ 1099511627776) :
  Calls Tryz.prog 151 #[.string s] w fun e w' => e = .returned (.int .u32 (crc s.data.toList : Int)) ∧ w' = w:=by
 go_enter Tryz.func151,Tryz.ntmps151
 go_wp2
 go_loopw [3,8] (fun v i wr => ∃ k : Nat,k ≤ s.size ∧ i = .int .i64 k ∧ (∃ x : Nat,v = .int .u32 (x : Int) ∧ x = crcF 4294967295 (s.data.toList.take k)) ∧ w = wr) (fun _ i _ => s.size - (intOf i).toNat)
 case atStart => exact ⟨0,Nat.zero_le _,rfl,⟨4294967295,rfl,by simp [crcF]⟩,rfl⟩
 case round =>
  obtain ⟨k,hk,rfl,⟨x,rfl,hx⟩,rfl⟩:=hrel
  have hxl : x < 4294967296:=by rw [hx]; exact crcF_lt _ (by decide)
  by_cases hlt : k < s.size
  ·have hcb:=UInt8.toNat_lt s[k]
   have HX : Hid (crcF 4294967295 (s.data.toList.take (k + 1)) = sy x s[k]):=by rw [hx]; exact crc_take hlt
   obtain ⟨y,hy⟩:=Vx (x ^^^ s[k].toNat)
   have hxor : bits BinOp.xor IntKind.u32 (x : Int) (s[k].toNat : Int) = (y : Int):=by rw [u32_xor_nat _ _ hxl Om,hy]
   have HY : Hid (x ^^^ s[k].toNat = y):=hy
   have hyl : y < 4294967296:=by rw [← hy]; exact sx_lt _ hxl
   clear hx hy
   go_wp2
   go_loopw [3,17] (fun v i wr => ∃ j : Nat,j ≤ 8 ∧ i = .int .i64 j ∧ (∃ z : Nat,v = .int .u32 (z : Int) ∧ z = sbs j y) ∧ w = wr) (fun _ i _ => 8 - (intOf i).toNat)
   case atStart => exact ⟨0,Nat.zero_le _,rfl,⟨y,rfl,rfl⟩,rfl⟩
   case round =>
    obtain ⟨j,hj,rfl,⟨z,rfl,hz⟩,rfl⟩:=hrel
    have hzl : z < 4294967296:=by rw [hz]; exact sbs_lt hyl j
    have HZ : Hid (z = sbs j y):=hz
    clear hz
    by_cases hlt8 : j < 8
    ·go_wp2
     go_roundw
     case rel => exact ⟨j + 1,by omega,by go_num,⟨sb z,by rw [sum_bit hzl],by rw [HZ.out]; rfl⟩,by first | rfl | trivial⟩
     case measure => simp [intOf]; omega
    ·obtain rfl : j = 8:=by omega
     go_wp2
     go_roundw
     case rel => exact ⟨k + 1,by omega,by go_num,⟨z,rfl,by rw [HZ.out,HX.out]; unfold sy; rw [HY.out]⟩,by first | rfl | trivial⟩
     case measure => simp [intOf]; omega
  ·obtain rfl : k = s.size:=by omega
   have HX : Hid (x = crcF 4294967295 (s.data.toList.take s.size)):=hx
   clear hx
   go_wp2
   go_ret
   exact ⟨ret_int (by rw [sum_end hxl,HX.out]; unfold crc; rw [crc_all]),rfl⟩
section
open Go.RowKit BB
theorem columns_any (w : World) (D : TD) (j : Nat) (i : Int) (hi : i = (j : Int) - 1) (hF : Fix w D) (hT : TR D.t) (hj : j ≤ D.t.ixs.length) :
  Calls Tryz.prog 110 #[.pointer (some ⟨D.r,0,none⟩),.int .i64 i] w fun e w' => w' = w ∧ ∃ a cap,e = .returned (.slice a (colsJ D.t j).length cap) ∧ TT.RowR 1 TT.IntR w a (colsJ D.t j):=by
 obtain ⟨pc,cc,pk,ck,px,cx,h1,h2,h3,h4,h5,h6⟩:=hF.ex
 have c2 : w.cell? ⟨D.r,2,none⟩ = some (.slice pk D.t.key.length ck):=h1 2 _ rfl
 have c4 : w.cell? ⟨D.r,4,none⟩ = some (.slice px D.t.ixs.length cx):=h1 4 _ rfl
 have HX:=Hd h4
 have HK:=Hd h3
 clear h1 h2 h3 h4 h5 h6
 cases j with
 | zero =>
  obtain rfl : i = -1:=by omega
  clear hi
  go_enter Tryz.func110,Tryz.ntmps110
  go_wp2
  go_ret
  exact ⟨rfl,pk,ck,rfl,HK.out⟩
 | succ n =>
  have hn : n < D.t.ixs.length:=by omega
  have hni : (n : Int) < (D.t.ixs.length : Int):=by omega
  obtain rfl : i = (n : Int):=by omega
  have hn1 : ((n : Int) == -1) = false:=by rw [beq_eq_false_iff_ne]; omega
  have hx:=hT.ix D.t.ixs[n] (List.getElem_mem hn)
  obtain ⟨b,off,v0,v1,v2,rfl,hR,e0,e1,e2⟩:=HX.out.at3 hn
  obtain ⟨p,cap,hR,hr⟩:=hR
  simp only [List.cons.injEq,and_true] at hR
  obtain ⟨rfl,rfl,rfl⟩:=hR
  have HE : Hid (colsJ D.t (n + 1) = (D.t.ixs[n]).cols):=by simp [Hid,colsJ,List.getElem?_eq_getElem hn]
  have HR:=Hd hr
  clear hr hx e0 e2
  clear hi
  go_enter Tryz.func110,Tryz.ntmps110
  go_wp2
  go_ret
  rw [HE.out]
  exact ⟨rfl,p,cap,rfl,HR.out⟩
theorem keyOf_any (w : World) (D : TD) (a : Option Addr) (cap : Nat) (r : Row3) (hF : Fix w D) (hT : TR D.t) (hrow : Row w a r) (hl : r.length = D.t.cols.length) :
  Calls Tryz.prog 36 #[.pointer (some ⟨D.r,0,none⟩),.slice a r.length cap] w fun e w' => Below w.heap.size w w' ∧ ∃ v,e = .returned v ∧ w'.ownsRow w.heap.size 73 3 v D.t.key.length (vc (pick3 r D.t.key)):=by
 obtain ⟨pc,cc,pk,ck,px,cx,h1,h2,h3,h4,h5,h6⟩:=hF.ex
 have c2 : w.cell? ⟨D.r,2,none⟩ = some (.slice pk D.t.key.length ck):=h1 2 _ rfl
 have hk:=hT.key
 have HP:=Hd (pick_any w a pk cap ck r D.t.key hrow h3 (by rw [hl]; exact hk.2.2) hk.2.1)
 clear h1 h2 h3 h4 h5 h6 hrow hl hk
 go_enter Tryz.func36,Tryz.ntmps36
 go_wp2_with (go_at_call 68; refine HP.out.mono ?_; rintro e w' ⟨hb,v,rfl,ho⟩)
 go_ret
 exact ⟨hb,v,rfl,ho⟩
theorem sortKey_any (w : World) (D : TD) (j : Nat) (i : Int) (hi : i = (j : Int) - 1) (a : Option Addr) (cap : Nat) (r : Row3) (hF : Fix w D) (hT : TR D.t) (hj : j ≤ D.t.ixs.length) (hrow : Row w a r) (hf : fitR D.t r) {B : Nat} (hm : Env w B) :
  Calls Tryz.prog 61 #[.pointer (some ⟨D.r,0,none⟩),.int .i64 i,.slice a r.length cap] w fun e w' => e = .returned (.string (skJ D.t j r)) ∧ Below w.heap.size w w':=by
 have HF:=Hd hF
 have HT:=Hd hT
 have HR:=Hd hrow
 have HFR:=Hd hf
 have HM:=Hd hm
 obtain ⟨kl,hkl⟩:=Vx D.t.key.length
 have HKL : Hid (D.t.key.length = kl):=hkl
 have HK:=Hd (keyOf_any w D a cap r hF hT hrow hf.1)
 clear hF hT hrow hf hm hkl
 go_enter Tryz.func61,Tryz.ntmps61
 go_wp2_with fail
 refine HK.out.mono ?_
 rintro e w1 ⟨hb1,v,rfl,ho⟩
 rw [HKL.out] at ho
 have hs1:=hb1.size
 obtain ⟨pv,cv,rfl,hrv⟩:=Row.of_own ho
 have HE:=Hd (encode_any9 w1 pv cv (pick3 r D.t.key) hrv (pick3_right HFR.out.right _) (by rw [pick3_length]; exact HT.out.key.2.1) (HM.out.later hb1 HM.out.le))
 have HB1:=Hd hb1
 clear hrv ho
 go_wp2_with fail
 refine HE.out.mono ?_
 rintro e w2 ⟨rfl,hb2⟩
 have hs2:=hb2.size
 have HB2 : Hid (Below w.heap.size w w2):=hb1.trans (hb2.mono hs1)
 clear hb1 hb2
 cases j with
 | zero =>
  obtain rfl : i = -1:=by omega
  clear hi
  go_wp2
  go_ret
  exact ⟨rfl,HB2.out⟩
 | succ n =>
  obtain rfl : i = (n : Int):=by omega
  have hn1 : ((n : Int) == -1) = false:=by rw [beq_eq_false_iff_ne]; omega
  clear hi
  go_wp2_with fail
  refine (columns_any w2 D (n + 1) (n : Int) Om (HF.out.later HB2.out) HT.out hj).mono ?_
  rintro e w3 ⟨rfl,pa,ca,rfl,hcr⟩
  have hcj:=HT.out.colsJ hj
  have HP:=Hd (pick_any w3 a pa cap ca r (colsJ D.t (n + 1)) (HR.out.later HB2.out) hcr (by rw [HFR.out.1]; exact hcj.2.2) hcj.2.1)
  clear hcr hcj
  go_wp2_with fail
  refine HP.out.mono ?_
  rintro e w4 ⟨hb4,v4,rfl,ho4⟩
  have hs4:=hb4.size
  obtain ⟨p4,c4,rfl,hr4⟩:=Row.of_own ho4
  have HB4 : Hid (Below w.heap.size w w4):=HB2.out.trans (hb4.mono Om)
  have HE4:=Hd (encode_any9 w4 p4 c4 (pick3 r (colsJ D.t (n + 1))) hr4 (pick3_right HFR.out.right _) (by rw [pick3_length]; exact (HT.out.colsJ hj).2.1) (HM.out.later HB4.out HM.out.le))
  clear hr4 ho4
  go_wp2_with fail
  refine HE4.out.mono ?_
  rintro e w5 ⟨rfl,hb5⟩
  have HB5 : Hid (Below w.heap.size w w5):=HB4.out.trans (hb5.mono Om)
  clear hb5 hb4
  have z1:=kE_short (pick3_right HFR.out.right (colsJ D.t (n + 1))) (by rw [pick3_length]; have:=(HT.out.colsJ hj).2.1; omega)
  have z2:=kE_short (pick3_right HFR.out.right D.t.key) (by rw [pick3_length]; have:=HT.out.key.2.1; omega)
  have hz : ¬ 9223372036854775807 < (kE (pick3 r (colsJ D.t (n + 1)))).size + (kE (pick3 r D.t.key)).size:=by omega
  go_wp2
  go_ret
  exact ⟨by simp [skJ,nmR],HB5.out⟩
end
section
open Go.RowKit BB
def vA (v : V3) : Value:=.agg #[.int .i64 v.1,.int .i64 v.2.1,.string v.2.2]
theorem encode_one {B : Nat} (w : World) (b : Nat) (v : V3) (c0 : w.cell? ⟨b,0,none⟩ = some (.int .i64 v.1)) (c1 : w.cell? ⟨b,1,none⟩ = some (.int .i64 v.2.1)) (c2 : w.cell? ⟨b,2,none⟩ = some (.string v.2.2)) (hr : V3.right v = true) (hm : Env w B) :
  Calls Tryz.prog 69 #[.slice (some ⟨b,0,none⟩) 1 1] w fun e w' => e = .returned (.string (kE [v])) ∧ Below w.heap.size w w' :=
 encode_any9 w (some ⟨b,0,none⟩) 1 [v] (fun i hi => by
  obtain rfl : i = 0:=by simpa using hi
  exact ⟨b,0,rfl,by simpa using c0,by simpa using c1,by simpa using c2⟩) (fun x hx => by rw [Zms hx]; exact hr) Si hm
theorem home_any {B : Nat} (w : World) (D : TD) (v : V3) (hF : Fix w D) (hP : 1 ≤ D.P ∧ D.P ≤ 16) (hr : V3.right v = true) (hm : Env w B) :
  Calls Tryz.prog 116 #[.pointer (some ⟨D.r,0,none⟩),vA v] w fun e w' => e = .returned (.int .i64 (homeV D.P v : Int)) ∧ Below w.heap.size w w':=by
 obtain ⟨pc,cc,pk,ck,px,cx,h1,h2,h3,h4,h5,h6⟩:=hF.ex
 have c5 : w.cell? ⟨D.r,5,none⟩ = some (.slice (some ⟨D.pb,0,none⟩) D.P D.cp):=h1 5 _ rfl
 have hlt:=cell_lt c5
 clear h1 h2 h3 h4 h5 h6
 have HR:=Hd hr
 have HM:=Hd hm
 have hc:=crc_lt (kE [v]).data.toList
 have HK : Hid ((kE [v]).data.toList = kb v):=by simp [Hid,kE,kbs]
 have hks:=kE_short (vs:=[v]) (fun x hx => by rw [Zms hx]; exact hr) Si
 obtain ⟨s,hs⟩:=Vx (kE [v])
 have HS:=Hd hs
 rw [hs] at hc hks
 obtain ⟨k,hk⟩:=Vx (crc s.data.toList)
 have HKK:=Hd hk
 rw [hk] at hc
 obtain ⟨P,hPe⟩:=Vx D.P
 have HPP:=Hd hPe
 rw [hPe] at c5 hP
 have e1 : IntKind.u32.wrap (P : Int) = (P : Int):=by simp [IntKind.wrap,IntKind.bits,IntKind.signed]; omega
 have e2 : ((P : Int) == 0) = false:=by rw [beq_eq_false_iff_ne]; omega
 have hmod : (0 : Int) ≤ (k : Int) % (P : Int) ∧ (k : Int) % (P : Int) < 16:=by
  have h1:=Int.emod_nonneg (k : Int) (show (P : Int) ≠ 0 by omega)
  have h2:=Int.emod_lt_of_pos (k : Int) (show (0 : Int) < (P : Int) by omega)
  omega
 have hP0 : ¬ P = 0:=by omega
 have e3 : Int.tmod (k : Int) (P : Int) = (k : Int) % (P : Int):=Int.tmod_eq_emod_of_nonneg Om
 have e5 : IntKind.u32.wrap ((k : Int) % (P : Int)) = (k : Int) % (P : Int):=by simp [IntKind.wrap,IntKind.bits,IntKind.signed]; omega
 have e4 : IntKind.i64.wrap ((k : Int) % (P : Int)) = (k : Int) % (P : Int):=by
  rw [IntKind.wrap_i64] <;> omega
 have HE : Hid (((homeV D.P v : Nat) : Int) = (k : Int) % (P : Int)):=by
  show ((crc (kb v) % D.P : Nat) : Int) = _
  rw [hPe,← hk,← hs,HK.out]
  exact Int.natCast_emod _ _
 clear hr hm hs hk hPe hmod
 unfold vA
 go_enter Tryz.func116,Tryz.ntmps116
 go_wp2
 obtain ⟨W0,hW0⟩:=Vx (w.alloc (.cells #[.int .i64 v.1,.int .i64 v.2.1,.string v.2.2] 73))
 have hb0 : Below w.heap.size w W0:=by rw [← hW0]; exact (Bxr _ w).alloc Zlr _
 have a0 : W0.cell? ⟨w.heap.size,0,none⟩ = some (.int .i64 v.1):=by rw [← hW0]; simp
 have a1 : W0.cell? ⟨w.heap.size,1,none⟩ = some (.int .i64 v.2.1):=by rw [← hW0]; simp
 have a2 : W0.cell? ⟨w.heap.size,2,none⟩ = some (.string v.2.2):=by rw [← hW0]; simp
 have a5:=cell_later hb0 c5
 have HM0:=Hd (HM.out.later hb0 HM.out.le)
 have HB0:=Hd hb0
 obtain ⟨bx,hbx⟩:=Vx w.heap.size
 rw [hW0]
 rw [hbx] at a0 a1 a2 ⊢
 clear hW0 hb0 hbx c5 hlt
 have q0:=World.new_ne W0 _ a0
 have q1:=World.new_ne W0 _ a5
 go_region_held3 (fun w' => w'.cell? ⟨D.r,5,none⟩ = some (.slice (some ⟨D.pb,0,none⟩) P D.cp) ∧ w'.cell? ⟨bx,0,none⟩ = some (.int .i64 v.1) ∧ w'.cell? ⟨bx,1,none⟩ = some (.int .i64 v.2.1) ∧ w'.cell? ⟨bx,2,none⟩ = some (.string v.2.2)) (go_keep) (first
  | (go_at_call 69; (have hb : Below W0.heap.size W0 (W0.alloc (.cells #[.int .i64 v.1,.int .i64 v.2.1,.string v.2.2] 73)).drew:=((Bxr _ _).alloc Zlr _).drew); refine (encode_one _ _ v Si Si Si HR.out (HM0.out.later hb HM0.out.le)).mono ?_; rintro e w1 ⟨rfl,hb1⟩; rw [HS.out]; (have hbb:=hb.trans (hb1.mono hb.size)); (have HBB:=Hd hbb); (have s0:=cell_later hbb a0); (have s1:=cell_later hbb a1); (have s2:=cell_later hbb a2); (have s5:=cell_later hbb a5); clear hb1 hbb hb)
  | (go_at_call 151; refine (sum_any _ _ Om).mono ?_; rintro e w2 ⟨rfl,rfl⟩; rw [HKK.out]))
 go_wp2
 go_ret
 exact ⟨ret_int HE.out.symm,HB0.out.trans (HBB.out.mono HB0.out.size)⟩
end
end Go.Proofs.YtmmmkjhpmlfopaaGreatDoor
