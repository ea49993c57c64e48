/- N27 N28 N29 -/
import Derived.Deep.RegionHeld3
import Derived.Test.YteolnlcmnaknnaaGreatDoorTN25
import Derived.Test.YteolnlcmnaknnaaGreatDoorTN15
set_option maxHeartbeats 4000000
set_option maxRecDepth 100000
namespace Go.Proofs.YteolnlcmnaknnaaGreatDoor
open Go.RowKit
theorem rdigits_any (u : Nat) : u ≤ 4611686018427387904 → ∀ w : World,Calls Tryz.prog 85 #[.int .i64 (u : Int)] w fun e w' => e = .returned (.string ⟨(Lib.decDigits u).toArray⟩) ∧ Below w.heap.size w w':=by
 induction u using Nat.strongRecOn with
 | ind u ih =>
  intro hu w
  obtain ⟨g,hg⟩ : ∃ g,u / 10 = g:=⟨_,rfl⟩
  obtain ⟨d,hd⟩ : ∃ d,u % 10 = d:=⟨_,rfl⟩
  have HD : Hid (Lib.decDigits u = ddl g ++ [UInt8.ofNat (48 + d)]):=by
   have:=dec_eq u
   rw [hg,hd] at this
   exact this
  have d0 : ¬ (d : Int) < 0:=by omega
  have d1 : (0 : Int) ≤ (d : Int) + 1:=by omega
  have d2 : (d : Int) + 1 ≤ 10:=by omega
  have d3 : (d : Int) ≤ (d : Int) + 1:=by omega
  have d4 : ((d : Int) + 1).toNat = d + 1:=by omega
  have d5:=dig_ext d (by omega)
  obtain ⟨c,hc⟩ : ∃ c,UInt8.ofNat (48 + d) = c:=⟨_,rfl⟩
  rw [hc] at d5 HD
  by_cases h10 : u < 10
  ·have hug : g = 0:=by omega
   have hud : u = d:=by omega
   subst hug hud
   have HE : Hid ((⟨#[c]⟩ : ByteArray) = ⟨(Lib.decDigits u).toArray⟩):=by
    show _ = _
    rw [HD.out]
    rfl
   have hi : (u : Int) < 10:=by omega
   clear hg hd hc ih h10 hu
   go_enter Tryz.func85,Tryz.ntmps85
   go_wp2
   exact bodyPost_ret (v:=.string ⟨#[c]⟩) (by simp [results,Tryz.results85,go_sem]) rfl ⟨by rw [HE.out],Below.refl _ _⟩
  ·have hq : (u : Int).tdiv 10 = (g : Int):=by rw [Int.tdiv_eq_ediv_of_nonneg (by omega)]; omega
   have hr : (u : Int).tmod 10 = (d : Int):=by rw [Int.tmod_eq_emod_of_nonneg (by omega)]; omega
   have hi : ¬ (u : Int) < 10:=by omega
   have hwd : IntKind.i64.wrap ((d : Int) + 1) = (d : Int) + 1:=by rw [IntKind.wrap_i64]; omega
   have hwg : IntKind.i64.wrap (g : Int) = (g : Int):=by rw [IntKind.wrap_i64]; omega
   have hwe : IntKind.i64.wrap (d : Int) = (d : Int):=by rw [IntKind.wrap_i64]; omega
   have d6 : (0 : Int) ≤ (d : Int):=by omega
   have d7 : (d : Int) ≤ 10:=by omega
   have d8 : (0 : Int) ≤ (d : Int) + 1:=by omega
   have IH:=Lib.hid (ih g (by omega) (by omega))
   have g0 : g ≠ 0:=by omega
   have hlen : (Lib.decDigits g).length ≤ 19:=dec_len 18 g (by omega)
   obtain ⟨l,hl⟩ : ∃ l,Lib.decDigits g = l:=⟨_,rfl⟩
   have HE : Hid ((⟨l.toArray⟩ : ByteArray) ++ (⟨#[c]⟩ : ByteArray) = ⟨(Lib.decDigits u).toArray⟩):=by
    show _ = _
    rw [HD.out,← hl]
    apply bytes_eq
    simp [ByteArray.data_append,ddl,g0]
   have hsz : (⟨l.toArray⟩ : ByteArray).size ≤ 19:=by
    show l.toArray.size ≤ 19
    rw [hl] at hlen
    simpa using hlen
   rw [hl] at IH
   obtain ⟨s,hs⟩ : ∃ s,(⟨l.toArray⟩ : ByteArray) = s:=⟨_,rfl⟩
   rw [hs] at IH HE hsz
   have d9 : ¬ 9223372036854775807 < s.size + 1:=by omega
   have d10 : s.size + 1 ≤ 9223372036854775807:=by omega
   clear hg hd hc ih h10 hu hs hl hlen g0
   go_enter Tryz.func85,Tryz.ntmps85
   go_wp2_with fail
   go_region_held3 (fun _ => True) (go_simp) (first
    | (go_at_call 85; refine (IH.out _).mono ?_; rintro e w1 ⟨rfl,hb1⟩))
   all_goals
    go_wp2
    exact bodyPost_ret (v:=.string (s ++ (⟨#[c]⟩ : ByteArray))) (by simp [results,Tryz.results85,go_sem]) rfl ⟨by rw [HE.out],((Below.refl _ _).drew).trans hb1⟩

theorem flat_len {α : Type} {se : List UInt8} {f : α → List UInt8} {L : Nat} : ∀ l : List α,(∀ x ∈ l,(f x).length ≤ L) → ((l.map fun x => se ++ f x).flatten).length ≤ l.length * (L + se.length)
 | [],_ => by simp
 | a :: l,h => by
  have h1:=h a (by simp)
  have h2:=flat_len (se:=se) l fun x hx => h x (by simp [hx])
  rw [List.map_cons,List.flatten_cons,List.length_append,List.length_append,List.length_cons,Nat.succ_mul]
  omega

theorem laid_lenA {α : Type} {ah se : List UInt8} {f : α → List UInt8} {L : Nat} : ∀ l : List α,(∀ x ∈ l,(f x).length ≤ L) → (laid ah se f l).length ≤ ah.length + l.length * (L + se.length)
 | [],_ => by simp [laid_nil]
 | a :: l,h => by
  have h1:=h a (by simp)
  have h2:=flat_len (se:=se) l fun x hx => h x (by simp [hx])
  rw [laid_cons,List.length_append,List.length_append,List.length_cons,Nat.succ_mul]
  omega

theorem laid_len {α : Type} {se : List UInt8} {f : α → List UInt8} {L : Nat} (l : List α) (h : ∀ x ∈ l,(f x).length ≤ L) : (laid [] se f l).length ≤ l.length * (L + se.length):=by
 have:=laid_lenA (ah:=[]) (se:=se) l h
 simpa using this

theorem items_len {l : List Ex} {m : Nat} (hl : l.length ≤ m) (hd : ∀ e ∈ l,dpr 16 e = false ∧ RtI e) : (laid [] [44,32] xIt l).length ≤ m * 200000000000000002:=by
 have h:=laid_len (se:=[44,32]) (f:=xIt) (L:=200000000000000000) l fun e he => by rw [xIt_xI]; exact xI_len (n:=15) (by decide) (hd e he).1 (hd e he).2
 exact Nat.le_trans h (Nat.mul_le_mul_right _ hl)

theorem rlist_any {l : List Ex} {a : Option Addr} {c : Nat} {w : World} (h : XLR w l (.slice a l.length c)) (hl : l.length ≤ 16) (hd : ∀ e ∈ l,dpr 16 e = false ∧ RtI e) : Calls Tryz.prog 49 #[.slice a l.length c,.string ⟨#[44,32]⟩,.int .i64 1] w (RP (laid [] [44,32] xIt l) w):=by
 obtain ⟨p,c',ks,e,-,-,hk,hrow,hx⟩:=h
 injection e with e1 _ e2
 subst e1 e2
 exact rrow_any w ⟨#[44,32]⟩ (by decide) l a c ks hk hrow (fun i h' => (hx i (by omega) h').slice) hl 1 xIt 200000000000000000 (Nat.le_refl _) (fun e he => by rw [xIt_xI]; exact xI_len (n:=15) (by decide) (hd e he).1 (hd e he).2) fun j hj hj2 W hW => ritem_kid (hd _ (List.getElem_mem hj)).1 (hd _ (List.getElem_mem hj)).2 ((hx j hj hj2).later hW)

theorem rone_use {l : List Ex} {a : Option Addr} {c : Nat} {w : World} (h : XLR w l (.slice a l.length c)) (hl : Wi 0 1 RtE l) (hd : ∀ e ∈ l,dpr 16 e = false) (hne : l ≠ []) :
  ∃ e b off,l = [e] ∧ a = some ⟨b,off,none⟩ ∧ (xE 1 e).length ≤ 200000000000000000 ∧ RtE e ∧ ∃ k1 o1 x1 x2 x3 t1 n1 b1 m1 d1 p1,(∀ j u,[.int .i64 k1,.int .i64 o1,.int .i64 x1,.int .i64 x2,.string x3,.string t1,.string n1,.slice b1 m1 d1,.int .i64 p1][j]? = some u → w.cell? ⟨b,off + j,none⟩ = some u) ∧
  ∀ (W : World),Below w.heap.size w W → Calls Tryz.prog 50 #[.agg #[.int .i64 k1,.int .i64 o1,.int .i64 x1,.int .i64 x2,.string x3,.string t1,.string n1,.slice b1 m1 d1,.int .i64 p1]] W (RP (xE 1 e) W):=by
 obtain ⟨p,c',ks,e,-,-,hk,hrow,hx⟩:=h
 injection e with e1 _ e2
 subst e1 e2
 have h1 : l.length = 1:=by
  have:=hl.2.1
  have : l.length ≠ 0:=fun q => hne (List.length_eq_zero_iff.1 q)
  omega
 obtain ⟨e,rfl⟩:=len1 h1
 obtain ⟨b,off,ea,hcs⟩:=hrow 0 (by simp) (by simp at hk; omega)
 have hr : RtE e:=wi_all hl e (by simp)
 have hde:=hd e (by simp)
 have hxr:=hx 0 (by simp) (by simp at hk; omega)
 obtain ⟨a1,m1,c1,hks⟩:=hxr.slice
 refine ⟨e,b,off,rfl,ea,xE_len (n:=16) (by decide) hde hr 1,hr,?_⟩
 have hu : ∀ W,Below w.heap.size w W → Calls Tryz.prog 50 #[.agg (exC e ks[0]).toArray] W (RP (xE 1 e) W):=fun W hb => by
  rw [xE_one]
  exact rc_all 16 (by decide) e hde hr W _ (hxr.later hb)
 rw [hks] at hcs hu
 obtain ⟨x,hxx⟩ : ∃ x,xE 1 e = x:=⟨_,rfl⟩
 rw [hxx] at hu ⊢
 have hcs' : ∀ j u,(exC e (.slice a1 m1 c1))[j]? = some u → w.cell? ⟨b,off + 0 * 9 + j,none⟩ = some u:=hcs
 clear hcs hxx hxr hx hrow hd hl hne hr hde
 obtain ⟨k1,o1,⟨x1,x2,x3⟩,t1,n1,ks1,p1⟩:=e
 refine ⟨k1,o1,x1,x2,x3,t1,n1,a1,m1,c1,p1,?_,hu⟩
 intro j u hj
 have:=hcs' j u hj
 rwa [Nat.zero_mul,Nat.add_zero] at this

theorem rwhere_any (w : World) (kd : Int) (tb jn : ByteArray) (lo lw li : List Ex) (st : Bool) (ls : List Se) (lg : List Ex) (lq : List So) (ll : List Int) (pl ja : Int) (a0 a1 a2 a3 a4 a5 a6 : Option Addr) (c0 c1 c2 c3 c4 c5 c6 : Nat) (hw : XLR w lw (.slice a1 lw.length c1)) (hl : Wi 0 1 RtE lw) (hd : ∀ e ∈ lw,dpr 16 e = false) : Calls Tryz.prog 48 #[.agg #[.int .i64 kd,.string tb,.string jn,.slice a0 lo.length c0,.slice a1 lw.length c1,.slice a2 li.length c2,.bool st,.slice a3 ls.length c3,.slice a4 lg.length c4,.slice a5 lq.length c5,.slice a6 ll.length c6,.int .i64 pl,.int .i64 ja]] w (RP (xWh lw) w):=by
 by_cases q : lw = []
 ·subst q
  simp only [List.length_nil]
  clear hw hl hd
  obtain ⟨W1,hW1⟩ : ∃ W,w.alloc (.cells #[.int .i64 kd,.string tb,.string jn,.slice a0 lo.length c0,.slice a1 0 c1,.slice a2 li.length c2,.bool st,.slice a3 ls.length c3,.slice a4 lg.length c4,.slice a5 lq.length c5,.slice a6 ll.length c6,.int .i64 pl,.int .i64 ja] 27) = W:=⟨_,rfl⟩
  have HB1 : Hid (Below w.heap.size w W1):=Lib.hid (hW1 ▸ (Below.refl _ _).alloc (Nat.le_refl _) _)
  have HN1 : Hid (W1.heap[w.heap.size]? = some (.cells #[.int .i64 kd,.string tb,.string jn,.slice a0 lo.length c0,.slice a1 0 c1,.slice a2 li.length c2,.bool st,.slice a3 ls.length c3,.slice a4 lg.length c4,.slice a5 lq.length c5,.slice a6 ll.length c6,.int .i64 pl,.int .i64 ja] 27 (0,0))):=Lib.hid (hW1 ▸ heap_alloc_new w _)
  have z1:=thirt_of HN1.out
  go_enter Tryz.func48,Tryz.ntmps48
  go_wp2
  exact bodyPost_ret (v:=.string ⟨#[]⟩) (by simp [results,Tryz.results48,go_sem]) rfl ⟨_,rfl,rfl,by (try rw [hW1]); exact HB1.out⟩
 ·obtain ⟨e,b,off,rfl,rfl,hln,-,k1,o1,x1,x2,x3,t1,n1,b1,m1,d1,p1,hc,hu⟩:=rone_use hw hl hd q
  have HX:=Lib.hid hu
  have HCS:=Lib.hid hc
  have HXW : Hid (xWh [e] = 32 :: (wWHERE ++ 32 :: xE 1 e)):=Lib.hid rfl
  obtain ⟨x,hx⟩ : ∃ x,xE 1 e = x:=⟨_,rfl⟩
  rw [hx] at hln HX HXW
  rw [HXW.out]
  simp only [List.length_cons,List.length_nil,Nat.zero_add]
  clear hu hc hw hl hd q hx HXW
  obtain ⟨W1,hW1⟩ : ∃ W,w.alloc (.cells #[.int .i64 kd,.string tb,.string jn,.slice a0 lo.length c0,.slice (some ⟨b,off,none⟩) 1 c1,.slice a2 li.length c2,.bool st,.slice a3 ls.length c3,.slice a4 lg.length c4,.slice a5 lq.length c5,.slice a6 ll.length c6,.int .i64 pl,.int .i64 ja] 27) = W:=⟨_,rfl⟩
  have HB1 : Hid (Below w.heap.size w W1):=Lib.hid (hW1 ▸ (Below.refl _ _).alloc (Nat.le_refl _) _)
  have HN1 : Hid (W1.heap[w.heap.size]? = some (.cells #[.int .i64 kd,.string tb,.string jn,.slice a0 lo.length c0,.slice (some ⟨b,off,none⟩) 1 c1,.slice a2 li.length c2,.bool st,.slice a3 ls.length c3,.slice a4 lg.length c4,.slice a5 lq.length c5,.slice a6 ll.length c6,.int .i64 pl,.int .i64 ja] 27 (0,0))):=Lib.hid (hW1 ▸ heap_alloc_new w _)
  have z1:=thirt_of HN1.out
  have q0:=Cl HB1.out (HCS.out 0 _ rfl)
  have q1:=Cl HB1.out (HCS.out 1 _ rfl)
  have q2:=Cl HB1.out (HCS.out 2 _ rfl)
  have q3:=Cl HB1.out (HCS.out 3 _ rfl)
  have q4:=Cl HB1.out (HCS.out 4 _ rfl)
  have q5:=Cl HB1.out (HCS.out 5 _ rfl)
  have q6:=Cl HB1.out (HCS.out 6 _ rfl)
  have q7:=Cl HB1.out (HCS.out 7 _ rfl)
  have q8:=Cl HB1.out (HCS.out 8 _ rfl)
  simp only [Nat.add_zero] at q0
  go_enter Tryz.func48,Tryz.ntmps48
  go_wp2_with fail
  clear hW1
  refine (HX.out _ HB1.out).mono ?_
  rintro e w2 ⟨s0,rfl,hs,hb⟩
  have HS0:=Lib.hid hs
  have HB2:=Hbt HB1 hb
  have HN2:=Hbk hb HN1
  have e1 : s0.data.toList.length = s0.size:=by simp
  have hzs0 : s0.size ≤ 200000000000000000:=by rw [← e1,hs]; exact (by omega)
  clear e1
  clear hb hs z1 HN1 q0 q1 q2 q3 q4 q5 q6 q7 q8 HX HCS
  have z1:=thirt_of HN2.out
  have HT : Hid (((⟨#[32,87,72,69,82,69,32]⟩ : ByteArray) ++ s0 : ByteArray).data.toList = 32 :: (wWHERE ++ 32 :: x)):=by
   show _ = _
   rw [← HS0.out]; simp [wWHERE]
  go_wp2
  exact bodyPost_ret (v:=.string ((⟨#[32,87,72,69,82,69,32]⟩ : ByteArray) ++ s0)) (by simp [results,Tryz.results48,go_sem]) rfl ⟨_,rfl,HT.out,HB2.out⟩

theorem rdigits_eq {n : Int} (h : RtN n) : ∃ s : ByteArray,s.data.toList = lit (1,n,⟨#[]⟩) ∧ s.size ≤ 20 ∧ ∀ w : World,Calls Tryz.prog 85 #[.int .i64 n] w fun e w' => e = .returned (.string s) ∧ Below w.heap.size w w':=by
 obtain ⟨h0,h1⟩:=h
 obtain ⟨u,rfl⟩:=Int.eq_ofNat_of_zero_le h0
 refine ⟨⟨(Lib.decDigits u).toArray⟩,?_,?_,fun w => rdigits_any u (by omega) w⟩
 ·rw [lit_int rfl]
  unfold Lib.itoa
  rw [if_neg (show ¬ ((u : Nat) : Int) < 0 by omega)]
  rfl
 ·have : (Lib.decDigits u).length ≤ 19:=dec_len 18 u (by omega)
  show (Lib.decDigits u).toArray.size ≤ 20
  simp
  omega

theorem rsorts_any (w : World) (kd : Int) (tb jn : ByteArray) (lo lw li : List Ex) (st : Bool) (ls : List Se) (lg : List Ex) (lq : List So) (ll : List Int) (pl ja : Int) (a0 a1 a2 a3 a4 a5 a6 : Option Addr) (c0 c1 c2 c3 c4 c5 c6 : Nat) (ho : OLR w lq (.slice a5 lq.length c5)) (hi : ILR w ll (.slice a6 ll.length c6)) (hq : Wi 0 8 RtSo lq) (hl : Wi 0 1 RtN ll) : Calls Tryz.prog 51 #[.agg #[.int .i64 kd,.string tb,.string jn,.slice a0 lo.length c0,.slice a1 lw.length c1,.slice a2 li.length c2,.bool st,.slice a3 ls.length c3,.slice a4 lg.length c4,.slice a5 lq.length c5,.slice a6 ll.length c6,.int .i64 pl,.int .i64 ja]] w (RP (xOr lq ++ xLi ll) w):=by
 have HO:=Lib.hid ho
 have HI:=Lib.hid hi
 have HQ:=Lib.hid hq
 have HL:=Lib.hid hl
 have hq8:=hq.2.1
 clear ho hi hq hl
 obtain ⟨W1,hW1⟩ : ∃ W,w.alloc (.cells #[.int .i64 kd,.string tb,.string jn,.slice a0 lo.length c0,.slice a1 lw.length c1,.slice a2 li.length c2,.bool st,.slice a3 ls.length c3,.slice a4 lg.length c4,.slice a5 lq.length c5,.slice a6 ll.length c6,.int .i64 pl,.int .i64 ja] 27) = W:=⟨_,rfl⟩
 have HB1 : Hid (Below w.heap.size w W1):=Lib.hid (hW1 ▸ (Below.refl _ _).alloc (Nat.le_refl _) _)
 have HN1 : Hid (W1.heap[w.heap.size]? = some (.cells #[.int .i64 kd,.string tb,.string jn,.slice a0 lo.length c0,.slice a1 lw.length c1,.slice a2 li.length c2,.bool st,.slice a3 ls.length c3,.slice a4 lg.length c4,.slice a5 lq.length c5,.slice a6 ll.length c6,.int .i64 pl,.int .i64 ja] 27 (0,0))):=Lib.hid (hW1 ▸ heap_alloc_new w _)
 have z1:=thirt_of HN1.out
 go_enter Tryz.func51,Tryz.ntmps51
 go_wp2
 skip
 go_loopw [3,4] (fun v i wr => ∃ (k : Nat) (s : ByteArray),k ≤ lq.length ∧ v = .string s ∧ i = .int .i64 (k : Int) ∧ s.data.toList = laid [32,79,82,68,69,82,32,66,89,32] [44,32] xSo (lq.take k) ∧ s.size ≤ k * 64 ∧ Below w.heap.size w wr ∧ wr.heap[w.heap.size]? = some (.cells #[.int .i64 kd,.string tb,.string jn,.slice a0 lo.length c0,.slice a1 lw.length c1,.slice a2 li.length c2,.bool st,.slice a3 ls.length c3,.slice a4 lg.length c4,.slice a5 lq.length c5,.slice a6 ll.length c6,.int .i64 pl,.int .i64 ja] 27 (0,0))) (fun _ i _ => lq.length - (intOf i).toNat)
 case atStart => exact ⟨0,⟨#[]⟩,Nat.zero_le _,rfl,rfl,by simp [laid],by show 0 ≤ _; omega,by (try rw [hW1]); exact HB1.out,by (try rw [hW1]); exact HN1.out⟩
 case round =>
  obtain ⟨k,s,hk,rfl,rfl,hst,hsz,hb,hcl⟩:=hrel
  have HST:=Lib.hid hst
  have hs1 : s.size ≤ 1024:=by omega
  have HSZ:=Lib.hid hsz
  have HB:=Lib.hid hb
  have HN:=Lib.hid hcl
  clear hst hsz hb hcl z1 HB1 HN1
  have z1:=thirt_of HN.out
  by_cases hlt : k < lq.length
  ·have hlti : (k : Int) < (lq.length : Int):=by omega
   obtain ⟨p,c9,e,-,-,hrow⟩:=HO.out
   injection e with e1 _ e2
   subst e1 e2
   obtain ⟨b,off,rfl,hcs⟩:=hrow k hlt
   obtain ⟨d,hds,hdz,hdc⟩:=rdigits_eq (HQ.out.2.2 k hlt)
   obtain ⟨⟨n,ds,pq⟩,hxx⟩ : ∃ x,lq[k] = x:=⟨_,rfl⟩
   have HFT:=Lib.hid (laid_take [32,79,82,68,69,82,32,66,89,32] [44,32] xSo lq k hlt)
   rw [hxx] at HFT hcs hds hdc
   have HXS : Hid (xSo (n,ds,pq) = d.data.toList ++ (if ds then 32 :: wDESC else [])):=by
    show _ = _
    rw [hds]
    rfl
   rw [HXS.out] at HFT
   have HCS:=Lib.hid hcs
   have q0:=Cl HB.out (HCS.out 0 _ rfl)
   simp only [Nat.add_zero] at q0
   replace hdc : ∀ w : World,Calls Tryz.prog 85 #[.int .i64 n] w fun e w' => e = .returned (.string d) ∧ Below w.heap.size w w':=hdc
   have HDC:=Lib.hid hdc
   clear hrow hcs hdc hds hxx HXS
   by_cases k0 : k = 0
   ·have kz : ((k : Int) == 0) = true:=by simp; omega
    have HK0:=Lib.hid k0
    clear k0
    cases ds with
    | true =>
     go_wp2_with fail
     refine (HDC.out _).mono ?_
     rintro e w2 ⟨rfl,hb⟩
     have HB2:=Hbt HB hb
     have HN2:=Hbk hb HN
     clear hb z1 q0
     have z1:=thirt_of HN2.out
     have q1:=Cl HB2.out (HCS.out 1 _ rfl)
     go_wp2
     go_roundw
     case rel => exact ⟨k + 1,(⟨#[32,79,82,68,69,82,32,66,89,32]⟩ : ByteArray) ++ d ++ (⟨#[32,68,69,83,67]⟩ : ByteArray),by omega,rfl,by go_num,by rw [HFT.out,if_pos HK0.out,HK0.out]; simp [wDESC,laid],by have:=HSZ.out; have y1 : (⟨#[32,79,82,68,69,82,32,66,89,32]⟩ : ByteArray).size = 10:=rfl; have y2 : (⟨#[32,68,69,83,67]⟩ : ByteArray).size = 5:=rfl; rw [Nat.succ_mul]; simp; omega,HB2.out,HN2.out⟩
     case measure => simp [intOf]; omega
    | false =>
     go_wp2_with fail
     refine (HDC.out _).mono ?_
     rintro e w2 ⟨rfl,hb⟩
     have HB2:=Hbt HB hb
     have HN2:=Hbk hb HN
     clear hb z1 q0
     have z1:=thirt_of HN2.out
     have q1:=Cl HB2.out (HCS.out 1 _ rfl)
     go_wp2
     go_roundw
     case rel => exact ⟨k + 1,(⟨#[32,79,82,68,69,82,32,66,89,32]⟩ : ByteArray) ++ d,by omega,rfl,by go_num,by rw [HFT.out,if_pos HK0.out,HK0.out]; simp [laid],by have:=HSZ.out; have y1 : (⟨#[32,79,82,68,69,82,32,66,89,32]⟩ : ByteArray).size = 10:=rfl; rw [Nat.succ_mul]; simp; omega,HB2.out,HN2.out⟩
     case measure => simp [intOf]; omega
   ·have kz : ((k : Int) == 0) = false:=by simp; omega
    have HK0:=Lib.hid k0
    clear k0
    cases ds with
    | true =>
     go_wp2_with fail
     refine (HDC.out _).mono ?_
     rintro e w2 ⟨rfl,hb⟩
     have HB2:=Hbt HB hb
     have HN2:=Hbk hb HN
     clear hb z1 q0
     have z1:=thirt_of HN2.out
     have q1:=Cl HB2.out (HCS.out 1 _ rfl)
     go_wp2
     go_roundw
     case rel => exact ⟨k + 1,s ++ (⟨#[44,32]⟩ : ByteArray) ++ d ++ (⟨#[32,68,69,83,67]⟩ : ByteArray),by omega,rfl,by go_num,by rw [HFT.out,if_neg HK0.out,← HST.out]; simp [wDESC],by have:=HSZ.out; have y1 : (⟨#[44,32]⟩ : ByteArray).size = 2:=rfl; have y2 : (⟨#[32,68,69,83,67]⟩ : ByteArray).size = 5:=rfl; rw [Nat.succ_mul]; simp; omega,HB2.out,HN2.out⟩
     case measure => simp [intOf]; omega
    | false =>
     go_wp2_with fail
     refine (HDC.out _).mono ?_
     rintro e w2 ⟨rfl,hb⟩
     have HB2:=Hbt HB hb
     have HN2:=Hbk hb HN
     clear hb z1 q0
     have z1:=thirt_of HN2.out
     have q1:=Cl HB2.out (HCS.out 1 _ rfl)
     go_wp2
     go_roundw
     case rel => exact ⟨k + 1,s ++ (⟨#[44,32]⟩ : ByteArray) ++ d,by omega,rfl,by go_num,by rw [HFT.out,if_neg HK0.out,← HST.out]; simp,by have:=HSZ.out; have y1 : (⟨#[44,32]⟩ : ByteArray).size = 2:=rfl; rw [Nat.succ_mul]; simp; omega,HB2.out,HN2.out⟩
     case measure => simp [intOf]; omega
  ·have hk' : k = lq.length:=by omega
   subst hk'
   have hlt : ¬ (lq.length : Int) < (lq.length : Int):=by omega
   have HT : Hid (s.data.toList = xOr lq):=by
    show _ = _
    rw [HST.out,List.take_length,or_laid]
   clear HST HSZ
   obtain ⟨p,c9,e,-,-,hrow⟩:=HI.out
   injection e with e1 _ e2
   subst e1 e2
   have HLL : Hid (ll = [] ∨ ∃ n,ll = [n]):=by
    show _ ∨ _
    have:=HL.out.2.1
    match ll,this with
    | [],_ => exact Or.inl rfl
    | [n],_ => exact Or.inr ⟨n,rfl⟩
   rcases HLL.out with e | ⟨n,e⟩
   ·subst e
    clear hrow HI HL HLL
    simp only [List.length_nil] at *
    go_wp2
    exact bodyPost_ret (v:=.string s) (by simp [results,Tryz.results51,go_sem]) rfl ⟨_,rfl,by rw [HT.out]; simp [xLi],HB.out⟩
   ·subst e
    obtain ⟨b,off,rfl,hcs⟩:=hrow 0 (by simp)
    obtain ⟨d,hds,hdz,hdc⟩:=rdigits_eq (HL.out.2.2 0 (by simp))
    have HDC:=Lib.hid hdc
    have HDS:=Lib.hid hds
    have q0:=(HB.out.cell (World.block_lt_of_cell? _ _ hcs)).trans hcs
    simp only [List.getElem_cons_zero,Nat.add_zero] at q0 HDC HDS
    clear hrow HI HL HLL hdc hds hcs
    simp only [List.length_cons,List.length_nil,Nat.zero_add] at *
    go_wp2_with fail
    refine (HDC.out _).mono ?_
    rintro e w2 ⟨rfl,hb⟩
    have HB2:=Hbt HB hb
    clear hb
    go_wp2
    exact bodyPost_ret (v:=.string (s ++ (⟨#[32,76,73,77,73,84,32]⟩ : ByteArray) ++ d)) (by simp [results,Tryz.results51,go_sem]) rfl ⟨_,rfl,by rw [xLi,← HDS.out,← HT.out]; simp [wLIMIT],HB2.out⟩
end Go.Proofs.YteolnlcmnaknnaaGreatDoor
