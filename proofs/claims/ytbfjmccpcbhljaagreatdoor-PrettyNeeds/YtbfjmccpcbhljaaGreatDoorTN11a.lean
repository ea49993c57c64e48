/- N11a -/
import Derived.Test.YtbfjmccpcbhljaaGreatDoorTN7
set_option maxHeartbeats 4000000
set_option maxRecDepth 100000
namespace Go.Proofs.YtbfjmccpcbhljaaGreatDoor
open Go.RowKit
theorem listSe (w0 : World) (P M : Nat) (bs : List UInt8) (w : World) (h : LA w0 w P M bs) (hbs : bs.length ≤ 100000) (ah se : ByteArray) (ha : ah.size ≤ 64) (hse : se.size ≤ 64) (es : List Se) (a : Option Addr) (cap : Nat) (ks : List Value) (hlk : es.length = ks.length) (hr : SRow w0 a es ks) (hs : ∀ i (h' : i < ks.length),∃ p m c,ks[i] = .slice p m c) (hlen : es.length ≤ 16) (f : Se → List UInt8) (d : Nat) (hd : d ≤ 100000) (hC : ∀ k (h : k < es.length) (h' : k < ks.length) ,∀ (M1 : Nat) (b1 : List UInt8) (w1 : World),LA w0 w1 P M1 b1 → Only (Zl P M) w w1 → b1.length ≤ 274877906944 → Calls Tryz.prog 38 #[.pointer (some ⟨P,0,none⟩),.agg (seC es[k] ks[k]).toArray] w1 (LP w0 (Ly d (f es[k]) b1) P M1 w1)) : Calls Tryz.prog 37 #[.pointer (some ⟨P,0,none⟩),.string ah,.string se,.slice a es.length cap,.func (.func 38) #[.pointer (some ⟨P,0,none⟩)] #[]] w (LP w0 (Ly ((d + 64) * 16) (laid ah.data.toList se.data.toList f es) bs) P M w):=by
 have HP:=Lib.hid h
 have HR:=Lib.hid hr
 have HC:=Lib.hid hC
 have HLK:=Lib.hid hlk
 have HS:=Lib.hid hs
 clear h hr hC hlk hs
 go_enter Tryz.func37,Tryz.ntmps37
 go_wp2
 go_loopw [14] (fun i wr => ∃ (k M1 : Nat) (b1 : List UInt8),k ≤ es.length ∧ i = .int .i64 (k : Int) ∧ LA w0 wr P M1 b1 ∧ Ly ((d + 64) * k) (laid ah.data.toList se.data.toList f (es.take k)) bs b1 ∧ Only (Zl P M) w wr ∧ (M1 = M ∨ w.heap.size ≤ M1)) (fun i _ => es.length - (intOf i).toNat)
 case atStart => exact ⟨0,M,bs,Nat.zero_le _,rfl,HP.out,by rw [List.take_zero,laid_nil]; exact Ly.nil _ _,Only.refl _ _,Or.inl rfl⟩
 case round =>
  obtain ⟨k,M1,b1,hk,rfl,hla,hly,ho,hm⟩:=hrel
  have HA:=Lib.hid (Al.start hla)
  have HLy:=Lib.hid hly
  have HO:=Lib.hid ho
  have HM:=Lib.hid hm
  have hsz:=ho.size
  clear hla hly ho hm
  have hmk : (d + 64) * k ≤ (d + 64) * 16:=Nat.mul_le_mul_left _ (by omega)
  by_cases hlt : k < es.length
  ·have hlti : (k : Int) < (es.length : Int):=by omega
   have hlt' : k < ks.length:=by rw [← HLK.out]; exact hlt
   obtain ⟨b,off,rfl,hcs⟩:=HR.out k hlt hlt'
   obtain ⟨a2,m2,c2,hks⟩:=HS.out k hlt'
   have hCk:=HC.out k hlt hlt'
   rw [hks] at hcs hCk
   obtain ⟨x,hx⟩ : ∃ x,es[k] = x:=⟨_,rfl⟩
   rw [hx] at hcs hCk
   have HF:=Lib.hid (laid_take ah.data.toList se.data.toList f es k hlt)
   rw [hx] at HF
   clear hx hks
   obtain ⟨y,hy⟩ : ∃ y,f x = y:=⟨_,rfl⟩
   rw [hy] at HF hCk
   clear hy
   obtain ⟨nm,⟨kk,oo,⟨v1,v2,v3⟩,tt,nn,ks2,pp⟩,pq⟩:=x
   simp only [seC,exC,List.cons_append,List.nil_append] at hCk
   have HCk:=Lib.hid hCk
   have HCS : Hid (∀ j u,[.string nm,.int .i64 kk,.int .i64 oo,.int .i64 v1,.int .i64 v2,.string v3,.string tt,.string nn,.slice a2 m2 c2,.int .i64 pp,.int .i64 pq][j]? = some u → w0.cell? ⟨b,off + k * 11 + j,none⟩ = some u):=hcs
   clear hcs hCk
   have q0:=HA.out.la.cell (HCS.out 0 _ rfl)
   have q1:=HA.out.la.cell (HCS.out 1 _ rfl)
   have q2:=HA.out.la.cell (HCS.out 2 _ rfl)
   have q3:=HA.out.la.cell (HCS.out 3 _ rfl)
   have q4:=HA.out.la.cell (HCS.out 4 _ rfl)
   have q5:=HA.out.la.cell (HCS.out 5 _ rfl)
   have q6:=HA.out.la.cell (HCS.out 6 _ rfl)
   have q7:=HA.out.la.cell (HCS.out 7 _ rfl)
   have q8:=HA.out.la.cell (HCS.out 8 _ rfl)
   have q9:=HA.out.la.cell (HCS.out 9 _ rfl)
   have q10:=HA.out.la.cell (HCS.out 10 _ rfl)
   simp only [Nat.add_zero] at q0
   obtain ⟨W1,hW1,HA⟩:=HA.out.push #[.string ⟨#[]⟩,.int .i64 0,.int .i64 0,.int .i64 0,.int .i64 0,.string ⟨#[]⟩,.string ⟨#[]⟩,.string ⟨#[]⟩,.slice none 0 0,.int .i64 0,.int .i64 0] 53
   have z1:=eleven_of (HA.out.at 0 rfl)
   obtain ⟨W2,hW2,HA⟩:=HA.out.fill 0 rfl [.string nm,.int .i64 kk,.int .i64 oo,.int .i64 v1,.int .i64 v2,.string v3,.string tt,.string nn,.slice a2 m2 c2,.int .i64 pp,.int .i64 pq] rfl
   simp only [setsL,Nat.reduceAdd] at hW2
   replace HA:=Lib.hid (show Al w0 wr P M1 M1 b1 [(wr.heap.size,.cells #[.string nm,.int .i64 kk,.int .i64 oo,.int .i64 v1,.int .i64 v2,.string v3,.string tt,.string nn,.slice a2 m2 c2,.int .i64 pp,.int .i64 pq] 53 (0,0))] W2 from HA.out)
   obtain ⟨⟨y0,y1,y2,y3,y4,y5,y6,y7,y8,y9,y10⟩,yf⟩:=eleven_of (HA.out.at 0 rfl)
   by_cases k0 : k = 0
   ·have kz : ((k : Int) == 0) = true:=by simp; omega
    have HK0:=Lib.hid k0
    clear k0
    obtain ⟨W3,hW3,HA⟩:=HA.out.push #[.string ah] 9
    go_wp2_with fail
    clear hW1 hW2 hW3 z1 q0 y0 q1 y1 q2 y2 q3 y3 q4 y4 q5 y5 q6 y6 q7 y7 q8 y8 q9 y9 q10 y10 yf
    have hz:=HLy.out.size
    have hc : (cat [ah]).length ≤ 64:=by simp [cat]; omega
    refine (HA.out.lay [ah] (n:=1) rfl (by decide) (by omega)).mono ?_
    rintro e w4 ⟨rfl,M4,hA⟩
    replace HA:=Lib.hid hA
    replace HLy:=Lib.hid (HLy.out.layN (cat [ah]) hc)
    clear hA hz hc
    obtain ⟨⟨y0,y1,y2,y3,y4,y5,y6,y7,y8,y9,y10⟩,yf⟩:=eleven_of (HA.out.at 0 rfl)
    have hz:=HLy.out.size
    go_wp2_with fail
    refine (HCk.out _ _ _ HA.out.la (HO.out.zl HM.out HA.out.only) (by omega)).mono ?_
    rintro e w5 ⟨M5,b5,rfl,hla,hle,ho,hm⟩
    replace HA:=Lib.hid (HA.out.call ho hm hla)
    replace HLy:=Lib.hid (HLy.out.ly hle)
    clear hla hle ho hm hz y0 y1 y2 y3 y4 y5 y6 y7 y8 y9 y10 yf
    go_wp2
    go_roundw
    case rel => exact ⟨k + 1,M5,b5,by omega,by go_num,HA.out.la,HLy.out.conv (by rw [Nat.mul_succ]; omega) (by rw [HF.out,if_pos HK0.out]; simp [cat]),HO.out.zl HM.out HA.out.only,HA.out.mm.elim (fun e => by rw [e]; exact HM.out) fun e => Or.inr (Nat.le_trans hsz e)⟩
    case measure => simp [intOf]; omega
   ·have kz : ((k : Int) == 0) = false:=by simp; omega
    have HK0:=Lib.hid k0
    clear k0
    obtain ⟨W3,hW3,HA⟩:=HA.out.push #[.string se] 9
    go_wp2_with fail
    clear hW1 hW2 hW3 z1 q0 y0 q1 y1 q2 y2 q3 y3 q4 y4 q5 y5 q6 y6 q7 y7 q8 y8 q9 y9 q10 y10 yf
    have hz:=HLy.out.size
    have hc : (cat [se]).length ≤ 64:=by simp [cat]; omega
    refine (HA.out.lay [se] (n:=1) rfl (by decide) (by omega)).mono ?_
    rintro e w4 ⟨rfl,M4,hA⟩
    replace HA:=Lib.hid hA
    replace HLy:=Lib.hid (HLy.out.layN (cat [se]) hc)
    clear hA hz hc
    obtain ⟨⟨y0,y1,y2,y3,y4,y5,y6,y7,y8,y9,y10⟩,yf⟩:=eleven_of (HA.out.at 0 rfl)
    have hz:=HLy.out.size
    go_wp2_with fail
    refine (HCk.out _ _ _ HA.out.la (HO.out.zl HM.out HA.out.only) (by omega)).mono ?_
    rintro e w5 ⟨M5,b5,rfl,hla,hle,ho,hm⟩
    replace HA:=Lib.hid (HA.out.call ho hm hla)
    replace HLy:=Lib.hid (HLy.out.ly hle)
    clear hla hle ho hm hz y0 y1 y2 y3 y4 y5 y6 y7 y8 y9 y10 yf
    go_wp2
    go_roundw
    case rel => exact ⟨k + 1,M5,b5,by omega,by go_num,HA.out.la,HLy.out.conv (by rw [Nat.mul_succ]; omega) (by rw [HF.out,if_neg HK0.out]; simp [cat]),HO.out.zl HM.out HA.out.only,HA.out.mm.elim (fun e => by rw [e]; exact HM.out) fun e => Or.inr (Nat.le_trans hsz e)⟩
    case measure => simp [intOf]; omega
  ·have hk' : k = es.length:=by omega
   subst hk'
   rw [List.take_length] at HLy
   go_wp2
   go_end0
   exact ⟨M1,b1,rfl,HA.out.la,HLy.out.more (by exact Nat.mul_le_mul_left _ hlen),HO.out,HM.out⟩
end Go.Proofs.YtbfjmccpcbhljaaGreatDoor
