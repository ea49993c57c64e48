/- M163 M164 N33 -/
import Derived.Test.YtbfjmccpcbhljaaGreatDoorTM160
import Derived.Test.YtbfjmccpcbhljaaGreatDoorTN15
set_option maxHeartbeats 4000000
set_option maxRecDepth 100000
namespace Go.Proofs.YtbfjmccpcbhljaaGreatDoor
open Go Go.RowKit
theorem pc_nil : Pcs [] [(1,0,⟨#[]⟩)]:=Pcs.nil

theorem pc_blank {y : List UInt8} {ts : List Tk} (hy : Pcs y ts) : Pcs (32 :: y) ts:=hy.blank

theorem norun_of {y y' : List UInt8} (h : NoRun y) (e : y'.head? = y.head? ∨ y'.head? = some 32) : NoRun y':=fun d hd => by
 rcases e with e | e
 ·exact h d (by rw [← e]; exact hd)
 ·rw [e] at hd
  simp at hd
  subst hd
  unfold runB
  decide

theorem run_plain {c : UInt8} (h : runB c ∨ cls c = 8) : c ≠ 39 ∧ c ≠ 40 ∧ c ≠ 41:=by
 refine ⟨fun e => ?_,fun e => ?_,fun e => ?_⟩ <;> (subst e; revert h; unfold runB; decide)

theorem pc_run {c : UInt8} {q y : List UInt8} {t : Tk} {ts : List Tk} (hc : runB c ∨ cls c = 8) (hq : ∀ d ∈ q,runB d) (hn : NoRun y) (ht : tokR (c :: q) = (t,0)) (hb : isBk t = false) (hk : isCk t = false) (hy : Pcs y ts) : Pcs ((c :: q) ++ y) (t :: ts):=by
 obtain ⟨n2,n3,n4⟩:=run_not hc
 refine Pcs.pc (fun y' e => ⟨skp_here n2 n3 (Or.inl n4),?_⟩) ht (qt_plain _ fun d hd => ?_) hb hk hy
 ·show pieceN (c :: (q ++ y')) = _
  simp only [pieceN]
  rw [if_pos hc,run_part q y' hq (norun_of hn e),List.length_cons]
  omega
 ·rcases List.mem_cons.1 hd with rfl | hd
  ·exact run_plain hc
  ·exact run_plain (Or.inl (hq d hd))

theorem pc_sg1 {c : UInt8} {y : List UInt8} {ts : List Tk} (hc : cls c = 10) (h1 : c ≠ 60) (h2 : c ≠ 62) (h3 : c ≠ 45 ∨ y.head? ≠ some 45) (hy : Pcs y ts) : Pcs (c :: y) ((7,0,ofL [c]) :: ts):=by
 by_cases c0 : c = 40
 ·subst c0
  exact hy.opn
 by_cases c1 : c = 41
 ·subst c1
  exact hy.shut
 have c9 : c ≠ 39:=fun e => by subst e; revert hc; decide
 refine Pcs.pc (c:=c) (q:=[]) (fun y' e => ⟨skp_here (by omega) (by omega) ?_,?_⟩) (tokR_sign hc) (qt_plain _ fun d hd => ?_) ?_ ?_ hy
 ·rcases h3 with h3 | h3
  ·exact Or.inl h3
  ·refine Or.inr ?_
   rcases e with e | e
   ·show y'.head? ≠ some 45
    rw [e]
    exact h3
   ·show y'.head? ≠ some 45
    rw [e]
    decide
 ·show pieceN (c :: y') = 1
  simp only [pieceN]
  rw [if_neg (by unfold runB; omega),if_neg (by omega),if_pos hc]
  cases y' with
  | nil => rfl
  | cons d y' =>
   simp only [sgnN]
   rw [if_neg]
   unfold twoS
   rintro (⟨e,_⟩ | ⟨e,_⟩ | ⟨e,_⟩)
   ·exact h1 e
   ·exact h1 e
   ·exact h2 e
 ·rw [List.mem_singleton] at hd
  subst hd
  exact ⟨c9,c0,c1⟩
 ·rw [sg_bk]
  simpa using c0
 ·rw [sg_ck]
  simpa using c1

theorem pc_sg32 {x : List UInt8} {y : List UInt8} {ts : List Tk} (hx : ∃ c q,x = c :: q ∧ cls c = 10 ∧ (∀ y',skp false ((c :: q) ++ 32 :: y') = 0 ∧ pieceN ((c :: q) ++ 32 :: y') = (c :: q).length) ∧ ∀ d ∈ c :: q,d ≠ 39 ∧ d ≠ 40 ∧ d ≠ 41) (hy : Pcs y ts) : Pcs (x ++ 32 :: y) ((7,0,ofL x) :: ts):=by
 obtain ⟨c,q,rfl,hc,hf,hp⟩:=hx
 refine Pcs.pc (fun y' e => ?_) (tokR_sign hc) (qt_plain _ hp) ?_ ?_ hy.blank
 ·have e' : y'.head? = some 32:=by
   rcases e with e | e
   ·exact e
   ·exact e
  cases y' with
  | nil => simp at e'
  | cons d y' =>
   simp at e'
   subst e'
   exact hf y'
 ·rw [sg_bk,beq_eq_false_iff_ne]
  intro e
  injection e with e _
  exact (hp c (by simp)).2.1 e
 ·rw [sg_ck,beq_eq_false_iff_ne]
  intro e
  injection e with e _
  exact (hp c (by simp)).2.2 e

theorem pc_cmp {o : Int} (h1 : 1 ≤ o) (h2 : o ≤ 6) {y : List UInt8} {ts : List Tk} (hy : Pcs y ts) : Pcs (cmpS o ++ 32 :: y) ((7,0,ofL (cmpS o)) :: ts):=by
 rcases (by omega : o = 1 ∨ o = 2 ∨ o = 3 ∨ o = 4 ∨ o = 5 ∨ o = 6) with rfl | rfl | rfl | rfl | rfl | rfl
 all_goals exact pc_sg32 ⟨_,_,rfl,by decide,fun y' => ⟨by rfl,by rfl⟩,by decide⟩ hy

theorem pc_ari {o : Int} (h1 : 1 ≤ o) (h2 : o ≤ 5) {y : List UInt8} {ts : List Tk} (hy : Pcs y ts) : Pcs (ariS o ++ 32 :: y) ((7,0,ofL (ariS o)) :: ts):=by
 rcases (by omega : o = 1 ∨ o = 2 ∨ o = 3 ∨ o = 4 ∨ o = 5) with rfl | rfl | rfl | rfl | rfl
 all_goals exact pc_sg32 ⟨_,_,rfl,by decide,fun y' => ⟨by rfl,by rfl⟩,by decide⟩ hy

theorem words_no : ∀ w ∈ wordsL,w ≠ [40] ∧ w ≠ [41]:=by decide +kernel

theorem pc_word {w y : List UInt8} {ts : List Tk} (hw : w ∈ wordsL) (hn : NoRun y) (hy : Pcs y ts) : Pcs (w ++ y) ((4,0,ofL w) :: ts):=by
 obtain ⟨hne,hu⟩:=words_up w hw
 obtain ⟨w1,w2⟩:=words_no w hw
 cases w with
 | nil => exact absurd rfl hne
 | cons c q =>
  have hc:=hu c (by simp)
  refine pc_run (Or.inl (by unfold runB; omega)) (fun d hd => by have:=hu d (by simp [hd]); unfold runB; omega) hn ?_ (by rw [wd_bk]; simpa using w1) (by rw [wd_ck]; simpa using w2) hy
  rw [tokR_run (by omega),if_pos]
  unfold wordL
  rw [List.any_eq_true]
  exact ⟨c :: q,hw,by simp⟩

theorem pc_name {n : ByteArray} {y : List UInt8} {ts : List Tk} (h : isName n = true) (hn : NoRun y) (hy : Pcs y ts) : Pcs (n.data.toList ++ y) ((3,0,n) :: ts):=by
 have hl : nameL n.data.toList = true:=by rw [← isName_list]; exact h
 obtain ⟨c,q,e,hc,hq,hw⟩:=name_parts hl
 have hofl : ofL (c :: q) = n:=by rw [← e,ofL_list]
 rw [e] at hl hw ⊢
 refine pc_run (Or.inl (by unfold runB; omega)) hq hn ?_ (kd_bk (by decide) (by decide)) (kd_ck (by decide) (by decide)) hy
 rw [tokR_run (by omega),if_neg (by rw [hw]; simp),if_pos hl,hofl]

theorem pc_param {n : ByteArray} {y : List UInt8} {ts : List Tk} (h : isName n = true) (hn : NoRun y) (hy : Pcs y ts) : Pcs ((58 :: n.data.toList) ++ y) ((6,0,n) :: ts):=by
 have hl : nameL n.data.toList = true:=by rw [← isName_list]; exact h
 obtain ⟨c,q,e,hc,hq,_⟩:=name_parts hl
 refine pc_run (Or.inr (by decide)) (fun d hd => ?_) hn ?_ (kd_bk (by decide) (by decide)) (kd_ck (by decide) (by decide)) hy
 ·rw [e] at hd
  rcases List.mem_cons.1 hd with rfl | hd
  ·unfold runB; omega
  ·exact hq d hd
 ·rw [tokR_colon (by decide),if_pos hl,ofL_list]

theorem hexd_plain (i : Nat) (h : i < 16) : hexd i ≠ 39 ∧ hexd i ≠ 40 ∧ hexd i ≠ 41:=by
 have : ∀ i : Fin 16,hexd i.val ≠ 39 ∧ hexd i.val ≠ 40 ∧ hexd i.val ≠ 41:=by decide +kernel
 exact this ⟨i,h⟩

theorem qt_qbs : ∀ (x r : List UInt8),qt true r → qt true (qbs x ++ r)
 | [],r,h => h
 | c :: x,r,h => by
  have ih:=qt_qbs x r h
  have hc:=UInt8.toNat_lt c
  rw [qbs_cons,List.append_assoc]
  by_cases c1 : c.toNat = 39
  ·rw [qb_mark c1]
   refine ⟨fun _ => rfl,?_⟩
   rw [if_pos rfl]
   refine ⟨fun e => ?_,?_⟩
   ·rcases e with e | e <;> exact absurd e (by decide)
   ·rw [if_pos rfl]
    exact ih
  ·have n39 : c ≠ 39:=fun e => c1 (by rw [e]; rfl)
   by_cases c2 : c.toNat = 92 ∨ c.toNat < 32 ∨ 126 < c.toNat
   ·rw [qb_hex c1 c2]
    refine ⟨fun _ => rfl,?_⟩
    rw [if_neg (by decide)]
    refine ⟨fun _ => rfl,?_⟩
    rw [if_neg (hexd_plain _ (by omega)).1]
    refine ⟨fun _ => rfl,?_⟩
    rw [if_neg (hexd_plain _ (by omega)).1]
    exact ih
   ·rw [qb_plain c1 c2]
    refine ⟨fun _ => rfl,?_⟩
    rw [if_neg n39]
    exact ih

theorem pc_lit {v : V3} {y : List UInt8} {ts : List Tk} (h : litOk v) (hf : Fol y) (hy : Pcs y ts) : Pcs (lit v ++ y) ((litT v).1 :: ts):=by
 obtain ⟨hr,h0⟩:=h
 have hl : LitOf (lit v) v:=⟨hr,rfl⟩
 rcases rt_kind hr with k | k | k | k
 ·rw [lit_null k]
  have : (litT v).1 = (4,0,ofL wNull):=by unfold litT; rw [if_neg (by omega),if_neg (by omega),if_neg (by omega)]; rfl
  rw [this]
  exact pc_word (w:=wNull) (by decide) hf.1 hy
 ·have ht : (litT v).1 = (2,v.2.1,⟨#[]⟩):=by unfold litT; rw [if_pos k]
  rw [ht]
  have hall : ∀ c ∈ lit v,48 ≤ c.toNat ∧ c.toNat ≤ 57:=by
   rw [lit_int k]
   unfold Lib.itoa
   rw [if_neg (by omega)]
   exact (mg_dec _).2.2
  obtain ⟨c,q,e,_⟩:=itoa_head v.2.1
  rw [← lit_int k] at e
  rw [e] at hall hl ⊢
  have hrun : ∀ d ∈ c :: q,runB d:=fun d hd => Or.inl (dig_run (hall d hd))
  refine pc_run (Or.inl (hrun c (by simp))) (fun d hd => hrun d (by simp [hd])) hf.1 ?_ (kd_bk (by decide) (by decide)) (kd_ck (by decide) (by decide)) hy
  rw [tokR_digit (dig_run (hall c (by simp))),parR_ok hl,if_pos rfl]
 ·have hb : v.2.1 = 0 ∨ v.2.1 = 1:=by
   unfold rgt at hr
   rw [if_neg (by omega),if_neg (by omega),if_pos k] at hr
   simp only [Bool.and_eq_true,Bool.or_eq_true,beq_iff_eq] at hr
   exact hr.1
  rcases hb with hb | hb
  ·rw [lit_false k hb]
   have : (litT v).1 = (4,0,ofL wFalse):=by unfold litT; rw [if_neg (by omega),if_neg (by omega),if_pos k,if_neg (by omega)]; rfl
   rw [this]
   exact pc_word (w:=wFalse) (by decide) hf.1 hy
  ·rw [lit_true k hb]
   have : (litT v).1 = (4,0,ofL wTrue):=by unfold litT; rw [if_neg (by omega),if_neg (by omega),if_pos k,if_pos hb]; rfl
   rw [this]
   exact pc_word (w:=wTrue) (by decide) hf.1 hy
 ·have ht : (litT v).1 = (5,0,v.2.2):=by unfold litT; rw [if_neg (by omega),if_pos k]
  rw [ht]
  rw [lit_text k,quo] at hl ⊢
  rw [List.cons_append] at hl ⊢
  refine Pcs.pc (fun y' e => ⟨skp_here (by decide) (by decide) (Or.inl (by decide)),?_⟩) ?_ ?_ (kd_bk (by decide) (by decide)) (kd_ck (by decide) (by decide)) hy
  ·show pieceN (39 :: ((qbs v.2.2.data.toList ++ [39]) ++ y')) = _
   have hf2 : y'.head? ≠ some 39:=by
    rcases e with e | e
    ·rw [e]; exact hf.2
    ·rw [e]; decide
   have hy0 : txtN true y' = 0:=by
    cases y' with
    | nil => rfl
    | cons d y' =>
     simp only [txtN]
     rw [if_neg (fun e => hf2 (by rw [e]; rfl))]
   have e9 : (qbs v.2.2.data.toList ++ [39]) ++ y' = qbs v.2.2.data.toList ++ 39 :: y':=by simp
   simp only [pieceN]
   rw [if_neg (by unfold runB; decide),if_pos (by decide),e9,(txt_qbs _ y').1,hy0]
   simp
   omega
  ·rw [tokR_mark (by decide),parR_ok hl,if_pos rfl]
  ·refine ⟨fun e => by rcases e with e | e <;> exact absurd e (by decide),?_⟩
   rw [if_pos rfl]
   exact qt_qbs _ [39] ⟨fun e => by rcases e with e | e <;> exact absurd e (by decide),rfl⟩

def PcF (x : List UInt8) (tk : List T) : Prop:=∀ y ts,Fol y → Pcs y ts → Pcs (x ++ y) (tk.map Prod.fst ++ ts)

theorem pcf_wr {n : Nat} {e : Ex} (h : PcF (xB e) (tB e)) : PcF (xE n e) (tE n e):=by
 intro y ts hf hy
 by_cases hr : rankX e < n
 ·have e1 : xE n e = 40 :: (xB e ++ [41]):=by unfold xE xwr; rw [if_pos hr]
  rw [e1,tE_brack hr]
  have e2 : 40 :: (xB e ++ [41]) ++ y = 40 :: (xB e ++ 41 :: y):=by simp
  have e3 : (sgT [40] :: (tB e ++ [sgT [41]])).map Prod.fst ++ ts = (7,0,ofL [40]) :: ((tB e).map Prod.fst ++ (7,0,ofL [41]) :: ts):=by simp [sgT]
  rw [e2,e3]
  exact pc_sg1 (by decide) (by decide) (by decide) (Or.inl (by decide)) (h _ _ (fol41 y) (pc_sg1 (by decide) (by decide) (by decide) (Or.inl (by decide)) hy))
 ·have e1 : xE n e = xB e:=by unfold xE xwr; rw [if_neg hr]
  rw [e1,tE_bare (by omega)]
  exact h y ts hf hy

theorem pcf_row {w : List UInt8} {n : Nat} (hw : w ∈ wordsL) : ∀ es : List Ex,(∀ e ∈ es,PcF (xB e) (tB e)) → ∀ y ts,Fol y → Pcs y ts → Pcs (xrowM w n es (es.map xB) ++ y) ((rowM w n es (es.map tB)).map Prod.fst ++ ts) ∧ Fol (xrowM w n es (es.map xB) ++ y)
 | [],_,y,ts,hf,hy => ⟨hy,hf⟩
 | e :: es,h,y,ts,hf,hy => by
  obtain ⟨i1,i2⟩:=pcf_row hw es (fun x hx => h x (by simp [hx])) y ts hf hy
  have hk:=pcf_wr (n:=n) (h e (by simp)) _ _ i2 i1
  have e1 : xrowM w n (e :: es) ((e :: es).map xB) ++ y = 32 :: (w ++ 32 :: (xE n e ++ (xrowM w n es (es.map xB) ++ y))):=by
   show 32 :: (w ++ 32 :: (xwr n e (xB e) ++ xrowM w n es (es.map xB))) ++ y = _
   simp [xE]
  have e2 : (rowM w n (e :: es) ((e :: es).map tB)).map Prod.fst ++ ts = (4,0,ofL w) :: ((tE n e).map Prod.fst ++ ((rowM w n es (es.map tB)).map Prod.fst ++ ts)):=by
   show (wdT w :: (wr n e (tB e) ++ rowM w n es (es.map tB))).map Prod.fst ++ ts = _
   simp [tE,wdT]
  rw [e1,e2]
  exact ⟨pc_blank (pc_word hw (fol32 _).1 (pc_blank hk)),fol32 _⟩

theorem pcf_all {e : Ex} (h : RtI e) : ¬ isOver e → PcF (xB e) (tB e):=by
 induction h with
 | @mk k o v t n ks q h1 h2 h3 h4 h5 h6 h7 ih =>
  intro ho
  have hov : ¬ (k = 11 ∨ k = 12 ∨ k = 13 ∨ k = 14):=ho
  have hm : ∀ x ∈ ks,PcF (xB x) (tB x):=fun x hx => by
   obtain ⟨i,hi,rfl⟩:=List.getElem_of_mem hx
   exact ih i hi (h5 i hi)
  have hr : ∀ x ∈ ks,RtE x:=fun x hx => by
   obtain ⟨i,hi,rfl⟩:=List.getElem_of_mem hx
   exact ⟨h5 i hi,h6 i hi⟩
  intro y ts hf hy
  rw [xB_mk,tB_mk]
  unfold xF tF
  by_cases k1 : k = 1
  ·subst k1
   rw [if_pos rfl,if_pos rfl]
   exact pc_lit (h7.1 rfl).2.2 hf hy
  rw [if_neg k1,if_neg k1]
  by_cases k2 : k = 2
  ·subst k2
   rw [if_pos rfl,if_pos rfl]
   exact pc_param (h7.2.1 rfl).2.1 hf.1 hy
  rw [if_neg k2,if_neg k2]
  by_cases k3 : k = 3
  ·subst k3
   rw [if_pos rfl,if_pos rfl]
   obtain ⟨htn,hn,_⟩:=h7.2.2.1 rfl
   by_cases et : t = ⟨#[]⟩
   ·rw [if_pos et,if_pos et]
    exact pc_name hn hf.1 hy
   ·rw [if_neg et,if_neg et,List.append_assoc]
    exact pc_name (htn.resolve_left et) (norun46 _) (pc_sg1 (by decide) (by decide) (by decide) (Or.inl (by decide)) (pc_name hn hf.1 hy))
  rw [if_neg k3,if_neg k3]
  have hl : 1 ≤ ks.length:=by
   have : (formK k).2.2.1 ≠ 0:=by
    unfold formK
    rw [if_neg (by omega)]
    repeat' split
    all_goals decide
   omega
  cases ks with
  | nil => simp at hl
  | cons a ar =>
   have ha : ∀ n,PcF (xE n a) (tE n a):=fun n => pcf_wr (hm a (by simp))
   rw [List.map_cons,List.map_cons]
   simp only
   by_cases k4 : k = 4
   ·rw [if_pos k4,if_pos k4]
    have hk:=ha 7 y ts hf hy
    by_cases kn : kindOf a = 4
    ·rw [if_pos kn]
     exact pc_sg1 (by decide) (by decide) (by decide) (Or.inr (by simp)) (pc_blank hk)
    ·rw [if_neg kn]
     exact pc_sg1 (by decide) (by decide) (by decide) (Or.inr (hd45 (hr a (by simp)) kn y)) hk
   rw [if_neg k4,if_neg k4]
   by_cases k5 : k = 5
   ·subst k5
    rw [if_pos rfl,if_pos rfl]
    rw [show formK 5 = (1,5,2,2) from by decide] at h1 h2 h3 h4
    obtain ⟨b,rfl⟩ : ∃ b,ar = [b]:=one_of_len (by simp at h3 h4; omega)
    have hb:=pcf_wr (n:=if o ≤ 2 then 6 else 7) (hm b (by simp)) y ts hf hy
    have:=ha (if o ≤ 2 then 5 else 6) _ _ (fol32 _) (pc_blank (pc_ari h1 h2 hb))
    simp only [List.map_cons,List.map_nil,List.append_assoc,List.cons_append,List.map_append]
    exact this
   rw [if_neg k5,if_neg k5]
   by_cases k6 : k = 6
   ·subst k6
    rw [if_pos rfl,if_pos rfl]
    rw [show formK 6 = (1,6,2,2) from by decide] at h1 h2 h3 h4
    obtain ⟨b,rfl⟩ : ∃ b,ar = [b]:=one_of_len (by simp at h3 h4; omega)
    have hb:=pcf_wr (n:=5) (hm b (by simp)) y ts hf hy
    have:=ha 5 _ _ (fol32 _) (pc_blank (pc_cmp h1 h2 hb))
    simp only [List.map_cons,List.map_nil,List.append_assoc,List.cons_append,List.map_append]
    exact this
   rw [if_neg k6,if_neg k6]
   by_cases k7 : k = 7
   ·rw [if_pos k7,if_pos k7]
    have hN : Pcs (wNull ++ y) ((4,0,ofL wNull) :: ts):=pc_word (by decide) hf.1 hy
    by_cases o1 : o = 1
    ·rw [if_pos o1,if_pos o1]
     have:=ha 5 _ _ (fol32 _) (pc_blank (pc_word (w:=wIs) (by decide) (fol32 _).1 (pc_blank (pc_word (w:=wNot) (by decide) (fol32 _).1 (pc_blank hN)))))
     simp only [List.append_assoc,List.cons_append,List.map_append,List.map_cons,List.map_nil,List.nil_append]
     exact this
    ·rw [if_neg o1,if_neg o1]
     have:=ha 5 _ _ (fol32 _) (pc_blank (pc_word (w:=wIs) (by decide) (fol32 _).1 (pc_blank hN)))
     simp only [List.append_assoc,List.cons_append,List.map_append,List.map_cons,List.map_nil,List.nil_append]
     exact this
   rw [if_neg k7,if_neg k7]
   by_cases k8 : k = 8
   ·rw [if_pos k8,if_pos k8]
    have:=pc_word (w:=wNot) (by decide) (fol32 _).1 (pc_blank (ha 3 y ts hf hy))
    simp only [List.append_assoc,List.cons_append,List.map_cons]
    exact this
   rw [if_neg k8,if_neg k8]
   by_cases k9 : k = 9
   ·rw [if_pos k9,if_pos k9]
    obtain ⟨r1,r2⟩:=pcf_row (w:=wAnd) (n:=3) (by decide) ar (fun x hx => hm x (by simp [hx])) y ts hf hy
    have:=ha 3 _ _ r2 r1
    simp only [List.append_assoc,List.map_append]
    exact this
   ·rw [if_neg k9,if_neg k9]
    obtain ⟨r1,r2⟩:=pcf_row (w:=wOr) (n:=2) (by decide) ar (fun x hx => hm x (by simp [hx])) y ts hf hy
    have:=ha 2 _ _ r2 r1
    simp only [List.append_assoc,List.map_append]
    exact this

theorem pc_expr {e : Ex} (h : RtE e) (n : Nat) : PcF (xE n e) (tE n e):=pcf_wr (pcf_all h.2 h.1)

theorem pcf_sep {α : Type} {f : α → List UInt8} {tk : α → List T} : ∀ l : List α,l ≠ [] → (∀ a ∈ l,PcF (f a) (tk a)) → PcF (xsep f l) (sepT tk l)
 | [],h,_ => absurd rfl h
 | [a],_,h => h a (by simp)
 | a :: b :: l,_,h => fun y ts hf hy => by
  have i:=pcf_sep (b :: l) (by simp) (fun x hx => h x (by simp at hx ⊢; right; exact hx)) y ts hf hy
  have:=h a (by simp) _ _ (fol44 _) (pc_sg1 (c:=44) (by decide) (by decide) (by decide) (Or.inl (by decide)) (pc_blank i))
  have e1 : xsep f (a :: b :: l) ++ y = f a ++ 44 :: 32 :: (xsep f (b :: l) ++ y):=by
   show (f a ++ 44 :: 32 :: xsep f (b :: l)) ++ y = _
   simp
  have e2 : (sepT tk (a :: b :: l)).map Prod.fst ++ ts = (tk a).map Prod.fst ++ ((7,0,ofL [44]) :: ((sepT tk (b :: l)).map Prod.fst ++ ts)):=by
   show (tk a ++ sgT [44] :: sepT tk (b :: l)).map Prod.fst ++ ts = _
   simp [sgT]
  rw [e1,e2]
  exact this

theorem pcf_num {n : Int} (h : RtN n) : PcF (lit (1,n,⟨#[]⟩)) [nuT n]:=fun y ts hf hy => by
 have hl : litOk (1,n,⟨#[]⟩):=⟨by unfold rgt; have h1:=h.1; have h2:=h.2; simp [h2]; omega,h.1⟩
 exact pc_lit hl hf hy

theorem pcf_set {x : Se} (h : RtSe x) : PcF (xSe x) (seT x):=fun y ts hf hy => by
 have:=pc_name h.1 (fol32 _).1 (pc_blank (pc_sg32 (x:=[61]) ⟨_,_,rfl,by decide,fun y' => ⟨by rfl,by rfl⟩,by decide⟩ (pc_expr h.2 1 y ts hf hy)))
 have e1 : xSe x ++ y = x.1.data.toList ++ 32 :: ([61] ++ 32 :: (xE 1 x.2.1 ++ y)):=by simp [xSe]
 rw [e1]
 exact this

theorem pcf_sort {x : So} (h : RtSo x) : PcF (xSo x) (soT x):=fun y ts hf hy => by
 obtain ⟨n,b,q⟩:=x
 cases b with
 | true =>
  have:=pcf_num h _ _ (fol32 _) (pc_blank (pc_word (w:=wDESC) (by decide) hf.1 hy))
  have e1 : xSo (n,true,q) ++ y = lit (1,n,⟨#[]⟩) ++ 32 :: (wDESC ++ y):=by simp [xSo]
  rw [e1]
  exact this
 | false =>
  have:=pcf_num h y ts hf hy
  have e1 : xSo (n,false,q) ++ y = lit (1,n,⟨#[]⟩) ++ y:=by simp [xSo]
  rw [e1]
  exact this

theorem pcf_item {e : Ex} (h : RtI e) : PcF (xIt e) (itT e):=fun y ts hf hy => by
 by_cases ho : isOver e
 ·obtain ⟨k,o,v,t,n,ks,q⟩:=e
  have hk : k = 11 ∨ k = 12 ∨ k = 13 ∨ k = 14:=ho
  obtain ⟨_,_,_,_,_,h2⟩:=over_parts h ho
  rw [xIt_mk,itT_mk]
  by_cases k11 : k = 11
  ·rw [if_pos k11,if_pos k11]
   have c1 : Pcs (41 :: y) ((7,0,ofL [41]) :: ts):=pc_sg1 (by decide) (by decide) (by decide) (Or.inl (by decide)) hy
   have c2 : Pcs (42 :: 41 :: y) ((7,0,ofL [42]) :: (7,0,ofL [41]) :: ts):=pc_sg1 (by decide) (by decide) (by decide) (Or.inl (by decide)) c1
   have c3 : Pcs (40 :: 42 :: 41 :: y) ((7,0,ofL [40]) :: (7,0,ofL [42]) :: (7,0,ofL [41]) :: ts):=pc_sg1 (by decide) (by decide) (by decide) (Or.inl (by decide)) c2
   have:=pc_word (w:=wCOUNT) (by decide) (norun40 _) c3
   rw [List.append_assoc]
   exact this
  ·obtain ⟨a,rfl,ha⟩:=h2 k11
   have h3 : k = 12 ∨ k = 13 ∨ k = 14:=by omega
   rw [if_neg k11,if_neg k11,if_pos h3,if_pos h3]
   have c1 : Pcs (41 :: y) ((7,0,ofL [41]) :: ts):=pc_sg1 (by decide) (by decide) (by decide) (Or.inl (by decide)) hy
   have c2:=pc_expr ha 1 _ _ (fol41 y) c1
   have c3:=pc_sg1 (c:=40) (by decide) (by decide) (by decide) (Or.inl (by decide)) c2
   have hw : (if k = 12 then wSUM else if k = 13 then wMIN else wMAX) ∈ wordsL:=by
    repeat' split
    all_goals decide
   have:=pc_word hw (norun40 _) c3
   have e1 : (if k = 12 then wSUM else if k = 13 then wMIN else wMAX) ++ 40 :: (xkid [a] ++ [41]) ++ y = (if k = 12 then wSUM else if k = 13 then wMIN else wMAX) ++ 40 :: (xE 1 a ++ 41 :: y):=by simp [xkid]
   have e2 : (wdT (if k = 12 then wSUM else if k = 13 then wMIN else wMAX) :: sgT [40] :: (kidT [a] ++ [sgT [41]])).map Prod.fst ++ ts = (4,0,ofL (if k = 12 then wSUM else if k = 13 then wMIN else wMAX)) :: (7,0,ofL [40]) :: ((tE 1 a).map Prod.fst ++ (7,0,ofL [41]) :: ts):=by simp [kidT,wdT,sgT]
   rw [e1,e2]
   exact this
 ·have ht : itT e = tE 1 e ∧ xIt e = xE 1 e:=by
   obtain ⟨k,o,v,t,n,ks,q⟩:=e
   have hov : ¬ (k = 11 ∨ k = 12 ∨ k = 13 ∨ k = 14):=ho
   rw [itT_mk,xIt_mk]
   rw [if_neg (by omega),if_neg (by omega),if_neg (by omega),if_neg (by omega)]
   exact ⟨rfl,rfl⟩
  rw [ht.1,ht.2]
  exact pc_expr ⟨ho,h⟩ 1 y ts hf hy

theorem pcf_wh {l : List Ex} (h : Wi 0 1 RtE l) : PcF (xWh l) (whT l):=fun y ts hf hy => by
 match l,h with
 | [],_ => exact hy
 | [e],h =>
  have:=pc_blank (pc_word (w:=wWHERE) (by decide) (fol32 _).1 (pc_blank (pc_expr (wi_mem h e (by simp)) 1 y ts hf hy)))
  have e1 : xWh [e] ++ y = 32 :: (wWHERE ++ 32 :: (xE 1 e ++ y)):=by simp [xWh]
  rw [e1]
  exact this
 | _ :: _ :: _,h => exact absurd h.2.1 (by simp)

theorem pcf_li {l : List Int} (h : Wi 0 1 RtN l) : PcF (xLi l) (liT l):=fun y ts hf hy => by
 match l,h with
 | [],_ => exact hy
 | [n],h =>
  have:=pc_blank (pc_word (w:=wLIMIT) (by decide) (fol32 _).1 (pc_blank (pcf_num (wi_mem h n (by simp)) y ts hf hy)))
  have e1 : xLi [n] ++ y = 32 :: (wLIMIT ++ 32 :: (lit (1,n,⟨#[]⟩) ++ y)):=by simp [xLi]
  rw [e1]
  exact this
 | _ :: _ :: _,h => exact absurd h.2.1 (by simp)

theorem pcf_or {l : List So} (h : Wi 0 8 RtSo l) : PcF (xOr l) (orT l):=fun y ts hf hy => by
 by_cases hn : l = []
 ·subst hn
  exact hy
 ·have:=pc_blank (pc_word (w:=wORDER) (by decide) (fol32 _).1 (pc_blank (pc_word (w:=wBY) (by decide) (fol32 _).1 (pc_blank (pcf_sep l hn (fun x hx => pcf_sort (wi_mem h x hx)) y ts hf hy)))))
  have e1 : xOr l ++ y = 32 :: (wORDER ++ 32 :: (wBY ++ 32 :: (xsep xSo l ++ y))):=by unfold xOr; rw [if_neg hn]; simp
  have e2 : orT l = wdT wORDER :: wdT wBY :: sepT soT l:=by unfold orT; rw [if_neg hn]
  rw [e1,e2]
  exact this

theorem pcf_gr {l : List Ex} (h : Wi 0 8 RtC l) : PcF (xGr l) (grT l):=fun y ts hf hy => by
 by_cases hn : l = []
 ·subst hn
  exact hy
 ·have:=pc_blank (pc_word (w:=wGROUP) (by decide) (fol32 _).1 (pc_blank (pc_word (w:=wBY) (by decide) (fol32 _).1 (pc_blank (pcf_sep l hn (fun x hx => pc_expr (wi_mem h x hx).2 1) y ts hf hy)))))
  have e1 : xGr l ++ y = 32 :: (wGROUP ++ 32 :: (wBY ++ 32 :: (xsep (xE 1) l ++ y))):=by unfold xGr; rw [if_neg hn]; simp
  have e2 : grT l = wdT wGROUP :: wdT wBY :: sepT (tE 1) l:=by unfold grT; rw [if_neg hn]
  rw [e1,e2]
  exact this

theorem pcf_jo {t : St} (ho : Wi 0 1 RtE t.on) (hj : t.join = ⟨#[]⟩ ∨ isName t.join = true) (hd : decide (t.join = ⟨#[]⟩) = decide (t.on.length = 0)) : PcF (xJo t) (joT t):=fun y ts hf hy => by
 match h : t.on,ho with
 | [],_ =>
  have e1 : xJo t = []:=by unfold xJo; rw [h]
  have e2 : joT t = []:=by unfold joT; rw [h]
  rw [e1,e2]
  exact hy
 | [e],ho =>
  have hn : isName t.join = true:=by
   refine hj.resolve_left fun e => ?_
   rw [h,e] at hd
   simp at hd
  have:=pc_blank (pc_word (w:=wJOIN) (by decide) (fol32 _).1 (pc_blank (pc_name hn (fol32 _).1 (pc_blank (pc_word (w:=wON) (by decide) (fol32 _).1 (pc_blank (pc_expr (wi_mem ho e (by simp)) 1 y ts hf hy)))))))
  have e1 : xJo t ++ y = 32 :: (wJOIN ++ 32 :: (t.join.data.toList ++ 32 :: (wON ++ 32 :: (xE 1 e ++ y)))):=by unfold xJo; rw [h]; simp
  have e2 : joT t = wdT wJOIN :: nmT t.join :: wdT wON :: tE 1 e:=by unfold joT; rw [h]
  rw [e1,e2]
  exact this
 | _ :: _ :: _,ho => exact absurd ho.2.1 (by simp)

theorem pc_st {t : St} (h : RtSt t) : Pcs (xS t) ((tS t ++ [enT]).map Prod.fst):=by
 obtain ⟨_,hn,hk⟩:=h
 rcases hk with ⟨hk,hs,hi⟩ | ⟨hk,hs,hi,hw⟩ | ⟨hk,hs,hw⟩ | ⟨hk,hs⟩
 ·have hne : t.items ≠ []:=fun e => by have:=hi.1; rw [e] at this; simp at this
  have c1 : Pcs (41 :: []) ((7,0,ofL [41]) :: [(1,0,⟨#[]⟩)]):=pc_sg1 (by decide) (by decide) (by decide) (Or.inl (by decide)) pc_nil
  have c2:=pcf_sep (f:=xE 1) (tk:=tE 1) t.items hne (fun x hx => pc_expr (wi_mem hi x hx) 1) _ _ (fol41 _) c1
  have c3:=pc_sg1 (c:=40) (by decide) (by decide) (by decide) (Or.inl (by decide)) c2
  have c4:=pc_word (w:=wINSERT) (by decide) (fol32 _).1 (pc_blank (pc_word (w:=wINTO) (by decide) (fol32 _).1 (pc_blank (pc_name hn (fol32 _).1 (pc_blank (pc_word (w:=wVALUES) (by decide) (fol32 _).1 (pc_blank c3)))))))
  have e1 : xS t = wINSERT ++ 32 :: (wINTO ++ 32 :: (t.table.data.toList ++ 32 :: (wVALUES ++ 32 :: 40 :: (xsep (xE 1) t.items ++ [41])))):=by unfold xS; rw [if_pos hk]
  have e2 : (tS t ++ [enT]).map Prod.fst = (4,0,ofL wINSERT) :: (4,0,ofL wINTO) :: (3,0,t.table) :: (4,0,ofL wVALUES) :: (7,0,ofL [40]) :: ((sepT (tE 1) t.items).map Prod.fst ++ (7,0,ofL [41]) :: [(1,0,⟨#[]⟩)]):=by unfold tS; rw [if_pos hk]; simp [wdT,sgT,nmT,enT]
  rw [e1,e2]
  exact c4
 ·have hne : t.sets ≠ []:=fun e => by have:=hi.1; rw [e] at this; simp at this
  have c1:=pcf_wh hw [] _ fol_nil pc_nil
  have c2:=pcf_sep (f:=xSe) (tk:=seT) t.sets hne (fun x hx => pcf_set (wi_mem hi x hx)) _ _ (fol_wh t.whr fol_nil) c1
  have c4:=pc_word (w:=wUPDATE) (by decide) (fol32 _).1 (pc_blank (pc_name hn (fol32 _).1 (pc_blank (pc_word (w:=wSET) (by decide) (fol32 _).1 (pc_blank c2)))))
  have e1 : xS t = wUPDATE ++ 32 :: (t.table.data.toList ++ 32 :: (wSET ++ 32 :: (xsep xSe t.sets ++ (xWh t.whr ++ [])))):=by unfold xS; rw [if_neg (by omega),if_pos hk,List.append_nil]
  have e2 : (tS t ++ [enT]).map Prod.fst = (4,0,ofL wUPDATE) :: (3,0,t.table) :: (4,0,ofL wSET) :: ((sepT seT t.sets).map Prod.fst ++ ((whT t.whr).map Prod.fst ++ [(1,0,⟨#[]⟩)])):=by unfold tS; rw [if_neg (by omega),if_pos hk]; simp [wdT,nmT,enT]
  rw [e1,e2]
  exact c4
 ·have c1:=pcf_wh hw [] _ fol_nil pc_nil
  have c4:=pc_word (w:=wDELETE) (by decide) (fol32 _).1 (pc_blank (pc_word (w:=wFROM) (by decide) (fol32 _).1 (pc_blank (pc_name hn (fol_wh t.whr fol_nil).1 c1))))
  have e1 : xS t = wDELETE ++ 32 :: (wFROM ++ 32 :: (t.table.data.toList ++ (xWh t.whr ++ []))):=by unfold xS; rw [if_neg (by omega),if_neg (by omega),if_pos hk,List.append_nil]
  have e2 : (tS t ++ [enT]).map Prod.fst = (4,0,ofL wDELETE) :: (4,0,ofL wFROM) :: (3,0,t.table) :: ((whT t.whr).map Prod.fst ++ [(1,0,⟨#[]⟩)]):=by unfold tS; rw [if_neg (by omega),if_neg (by omega),if_pos hk]; simp [wdT,nmT,enT]
  rw [e1,e2]
  exact c4
 ·have f5:=fol_li t.limit fol_nil
  have f4:=fol_or t.sorts f5
  have f3:=fol_gr t.groups f4
  have f2:=fol_wh t.whr f3
  have f1:=fol_jo t f2
  have c5:=pcf_li hs.limit [] _ fol_nil pc_nil
  have c4:=pcf_or hs.sorts _ _ f5 c5
  have c3:=pcf_gr hs.groups _ _ f4 c4
  have c2:=pcf_wh hs.whr _ _ f3 c3
  have c1:=pcf_jo hs.on hs.join hs.jon _ _ f2 c2
  have c0:=pc_blank (pc_word (w:=wFROM) (by decide) (fol32 _).1 (pc_blank (pc_name hn f1.1 c1)))
  have e2 : (tS t ++ [enT]).map Prod.fst = (4,0,ofL wSELECT) :: ((if t.star then [sgT [42]] else sepT itT t.items).map Prod.fst ++ ((4,0,ofL wFROM) :: (3,0,t.table) :: ((joT t).map Prod.fst ++ ((whT t.whr).map Prod.fst ++ ((grT t.groups).map Prod.fst ++ ((orT t.sorts).map Prod.fst ++ ((liT t.limit).map Prod.fst ++ [(1,0,⟨#[]⟩)]))))))):=by
   unfold tS
   rw [if_neg (by omega),if_neg (by omega),if_neg (by omega)]
   simp [wdT,nmT,enT]
  have e1 : xS t = wSELECT ++ 32 :: ((if t.star then [42] else xsep xIt t.items) ++ 32 :: (wFROM ++ 32 :: (t.table.data.toList ++ (xJo t ++ (xWh t.whr ++ (xGr t.groups ++ (xOr t.sorts ++ (xLi t.limit ++ [])))))))):=by
   unfold xS
   rw [if_neg (by omega),if_neg (by omega),if_neg (by omega),List.append_nil]
  rw [e1,e2]
  refine pc_word (w:=wSELECT) (by decide) (fol32 _).1 (pc_blank ?_)
  by_cases hst : t.star = true
  ·rw [if_pos hst,if_pos hst]
   exact pc_sg1 (c:=42) (by decide) (by decide) (by decide) (Or.inl (by decide)) c0
  ·have hsf : t.star = false:=by simpa using hst
   have hne : t.items ≠ []:=fun e => by have:=hs.star; rw [hsf,e] at this; simp at this
   rw [if_neg hst,if_neg hst]
   exact pcf_sep (f:=xIt) (tk:=itT) t.items hne (fun x hx => pcf_item (wi_mem hs.items x hx)) _ _ (fol32 _) c0

def BalT (l : List T) : Prop:=Bal (l.map Prod.fst)

theorem BalT.app {a b : List T} (h : BalT a) (g : BalT b) : BalT (a ++ b):=by
 unfold BalT
 rw [List.map_append]
 exact Bal.app h g

theorem BalT.sg {b : List UInt8} (h1 : b ≠ [40]) (h2 : b ≠ [41]) {l : List T} (h : BalT l) : BalT (sgT b :: l):=Bal.no (t:=(7,0,ofL b)) (by rw [sg_bk]; simpa using h1) (by rw [sg_ck]; simpa using h2) h

theorem BalT.wd {b : List UInt8} (h1 : b ≠ [40]) (h2 : b ≠ [41]) {l : List T} (h : BalT l) : BalT (wdT b :: l):=Bal.no (t:=(4,0,ofL b)) (by rw [wd_bk]; simpa using h1) (by rw [wd_ck]; simpa using h2) h

theorem BalT.kd {k n : Int} {s : ByteArray} {q : Nat} (h4 : k ≠ 4) (h7 : k ≠ 7) {l : List T} (h : BalT l) : BalT (((k,n,s),q) :: l):=Bal.no (kd_bk h4 h7) (kd_ck h4 h7) h

theorem BalT.nm {n : ByteArray} {l : List T} (h : BalT l) : BalT (nmT n :: l):=h.kd (by decide) (by decide)

theorem BalT.nu {n : Int} {l : List T} (h : BalT l) : BalT (nuT n :: l):=h.kd (by decide) (by decide)

theorem BalT.nil : BalT []:=Bal.nil

theorem BalT.wrap {b l : List T} (h : BalT b) (g : BalT l) : BalT (sgT [40] :: (b ++ sgT [41] :: l)):=by
 have:=Bal.wrap h g
 unfold BalT
 rw [List.map_cons,List.map_append,List.map_cons]
 exact this

theorem wr_bal {n : Nat} {e : Ex} {b : List T} (h : BalT b) : BalT (wr n e b):=by
 unfold wr
 split
 ·exact h.wrap BalT.nil
 ·exact h

theorem rowM_bal {w : List UInt8} (h1 : w ≠ [40]) (h2 : w ≠ [41]) (n : Nat) : ∀ (l : List Ex),(∀ e ∈ l,BalT (tB e)) → BalT (rowM w n l (l.map tB))
 | [],_ => BalT.nil
 | e :: l,h => by
  rw [List.map_cons,rowM]
  exact ((wr_bal (h e (by simp))).app (rowM_bal h1 h2 n l fun x hx => h x (by simp [hx]))).wd h1 h2

theorem lit_bal (v : V3) : BalT [litT v]:=by
 unfold litT
 split
 ·exact BalT.nil.kd (by decide) (by decide)
 split
 ·exact BalT.nil.kd (by decide) (by decide)
 split
 ·split
  ·exact BalT.nil.wd (by decide) (by decide)
  ·exact BalT.nil.wd (by decide) (by decide)
 ·exact BalT.nil.wd (by decide) (by decide)

theorem ariS_ne2 (o : Int) : ariS o ≠ [41]:=by
 unfold ariS
 split <;> (try split) <;> (try split) <;> (try split) <;> decide

theorem cmpS_ne2 (o : Int) : cmpS o ≠ [41]:=by
 unfold cmpS
 split <;> (try split) <;> (try split) <;> (try split) <;> (try split) <;> decide

theorem tF_bal (k o : Int) (v : V3) (t n : ByteArray) (ks : List Ex) (h : ∀ e ∈ ks,BalT (tB e)) : BalT (tF k o v t n ks (ks.map tB)):=by
 unfold tF
 split
 ·exact lit_bal v
 split
 ·exact BalT.nil.kd (by decide) (by decide)
 split
 ·split
  ·exact BalT.nil.kd (by decide) (by decide)
  ·exact BalT.kd (by decide) (by decide) (BalT.sg (by decide) (by decide) (BalT.nil.kd (by decide) (by decide)))
 cases ks with
 | nil => exact BalT.nil
 | cons a ar =>
  have ha:=h a (by simp)
  have hr : ∀ e ∈ ar,BalT (tB e):=fun e he => h e (by simp [he])
  rw [List.map_cons]
  simp only
  split
  ·exact (wr_bal ha).sg (by decide) (by decide)
  split
  ·refine (wr_bal ha).app (BalT.sg (ariS_ne o) (ariS_ne2 o) ?_)
   cases ar with
   | nil => exact BalT.nil
   | cons b ar => exact wr_bal (hr b (by simp))
  split
  ·refine (wr_bal ha).app (BalT.sg (cmpS_ne o) (cmpS_ne2 o) ?_)
   cases ar with
   | nil => exact BalT.nil
   | cons b ar => exact wr_bal (hr b (by simp))
  split
  ·refine (wr_bal ha).app (BalT.wd (by decide) (by decide) ?_)
   split
   ·exact BalT.wd (by decide) (by decide) (BalT.nil.wd (by decide) (by decide))
   ·exact BalT.nil.wd (by decide) (by decide)
  split
  ·exact (wr_bal ha).wd (by decide) (by decide)
  split
  ·exact (wr_bal ha).app (rowM_bal (by decide) (by decide) 3 ar hr)
  ·exact (wr_bal ha).app (rowM_bal (by decide) (by decide) 2 ar hr)

theorem tB_bal (e : Ex) : BalT (tB e):=by
 induction e using Ex.rec (motive_2:=fun l => ∀ x ∈ l,BalT (tB x)) with
 | mk k o v t n ks p ih =>
  rw [tB_mk]
  exact tF_bal k o v t n ks ih
 | nil => rename_i x hx; exact absurd hx List.not_mem_nil
 | cons e l h1 h2 =>
  rename_i x hx
  rcases List.mem_cons.1 hx with rfl | hx
  ·exact h1
  ·exact h2 x hx

theorem tE_bal (n : Nat) (e : Ex) : BalT (tE n e):=wr_bal (tB_bal e)

theorem sep_bal {α : Type} {f : α → List T} (hf : ∀ a,BalT (f a)) : ∀ l : List α,BalT (sepT f l)
 | [] => BalT.nil
 | [a] => hf a
 | a :: b :: l => (hf a).app ((sep_bal hf (b :: l)).sg (by decide) (by decide))

theorem it_bal (e : Ex) : BalT (itT e):=by
 obtain ⟨k,o,v,t,n,ks,p⟩:=e
 rw [itT.eq_def]
 simp only
 split
 ·exact BalT.wd (by decide) (by decide) (BalT.wrap (b:=[sgT [42]]) (BalT.nil.sg (by decide) (by decide)) BalT.nil)
 split
 ·refine BalT.wd ?_ ?_ ?_
  ·split <;> (try split) <;> decide
  ·split <;> (try split) <;> decide
  ·refine BalT.wrap ?_ BalT.nil
   split
   ·exact tE_bal 1 _
   ·exact BalT.nil
 ·exact tE_bal 1 _

theorem wh_bal (l : List Ex) : BalT (whT l):=by
 cases l with
 | nil => exact BalT.nil
 | cons e l => exact (tE_bal 1 e).wd (by decide) (by decide)

theorem tS_bal (t : St) : BalT (tS t ++ [enT]):=by
 refine BalT.app ?_ (BalT.nil.kd (by decide) (by decide))
 unfold tS
 split
 ·exact BalT.wd (by decide) (by decide) (BalT.wd (by decide) (by decide) (BalT.nm (BalT.wd (by decide) (by decide) ((sep_bal (tE_bal 1) t.items).wrap BalT.nil))))
 split
 ·refine BalT.wd (by decide) (by decide) (BalT.nm (BalT.wd (by decide) (by decide) ((sep_bal (fun x => ?_) t.sets).app (wh_bal _))))
  exact BalT.nm (BalT.sg (by decide) (by decide) (tE_bal 1 _))
 split
 ·exact BalT.wd (by decide) (by decide) (BalT.wd (by decide) (by decide) (BalT.nm (wh_bal _)))
 ·refine BalT.wd (by decide) (by decide) (BalT.app ?_ (BalT.wd (by decide) (by decide) (BalT.nm (BalT.app ?_ ((wh_bal _).app (BalT.app ?_ (BalT.app ?_ ?_)))))))
  ·split
   ·exact BalT.nil.sg (by decide) (by decide)
   ·exact sep_bal it_bal _
  ·unfold joT
   split
   ·exact BalT.wd (by decide) (by decide) (BalT.nm (BalT.wd (by decide) (by decide) (tE_bal 1 _)))
   ·exact BalT.nil
  ·unfold grT
   split
   ·exact BalT.nil
   ·exact BalT.wd (by decide) (by decide) (BalT.wd (by decide) (by decide) (sep_bal (tE_bal 1) _))
  ·unfold orT
   split
   ·exact BalT.nil
   ·refine BalT.wd (by decide) (by decide) (BalT.wd (by decide) (by decide) (sep_bal (fun x => ?_) _))
    unfold soT
    refine BalT.nu ?_
    split
    ·exact BalT.nil.wd (by decide) (by decide)
    ·exact BalT.nil
  ·unfold liT
   split
   ·exact BalT.wd (by decide) (by decide) (BalT.nil.nu)
   ·exact BalT.nil

theorem shut_bdp {t : St} (h : RtSt t) {i : Nat} (hq : qr false ((xS t).take i) = false) : bdp false ((xS t).drop i) ≤ 0:=by
 obtain ⟨h1,h2⟩:=(pc_st h).dp
 obtain ⟨b1,b2⟩:=tS_bal t
 obtain ⟨k,hk⟩:=h2 i
 have e:=bdp_app ((xS t).take i) ((xS t).drop i) false
 rw [List.take_append_drop,h1,b1,hk,hq] at e
 have:=b2 k
 omega

theorem qr_set : ∀ (x : List UInt8) (q : Bool) (i j : Nat),x[i]? = some 40 → qr q ((x.set i 32).take j) = qr q (x.take j)
 | [],_,_,_,h => by simp at h
 | c :: x,q,0,j,h => by
  simp at h
  subst h
  cases j with
  | zero => rfl
  | succ j => rfl
 | c :: x,q,i + 1,0,h => rfl
 | c :: x,q,i + 1,j + 1,h => by
  rw [List.set_cons_succ,List.take_succ_cons,List.take_succ_cons,qr,qr]
  exact qr_set x _ i j (by simpa using h)

theorem needs_no {t u : St} (h : RtSt t) {i j : Nat} (hi : (xS t)[i]? = some 40) (qi : qr false ((xS t).take i) = false) (hj : (xS t)[j]? = some 41) (qj : qr false ((xS t).take j) = false) {s : ByteArray} (hs : s.data.toList = ((xS t).set i 32).set j 32) (hp : ParseIs s (.st u)) : ¬ SmSt u t:=by
 intro hsm
 have hij : i ≠ j:=fun e => by
  rw [e,hj] at hi
  exact absurd hi (by decide)
 obtain ⟨ts1,p1,c1⟩:=(pc_st h).off i 40 (Or.inl rfl) hi qi
 obtain ⟨ts2,p2,c2⟩:=p1.off j 41 (Or.inr rfl) (by rw [List.getElem?_set_ne hij]; exact hj) (by rw [qr_set _ _ _ _ hi]; exact qj)
 rw [if_pos rfl] at c1
 rw [if_neg (by decide)] at c2
 obtain ⟨us,u1,u2⟩:=p2.lx 0
 rw [← hs] at u1
 obtain ⟨l,p,c,h1,h2⟩:=hp
 rcases h2 with ⟨_,e⟩ | ⟨rfl,r,hr,ho⟩
 ·cases e
 have hl : l = us:=by
  have hsz : s.size ≤ 1000:=by
   rcases h1 with ⟨_,_,_,e⟩ | ⟨e,_⟩
   ·exact absurd e (by decide)
   ·exact e
  exact (h1.one (show ScanIs s us 0 0 from Or.inr ⟨hsz,Or.inl ⟨rfl,rfl,u1⟩⟩)).1
 subst hl
 cases r with
 | bad q => cases ho
 | ok v s1 =>
  have hv : v = u:=by
   rw [outOf] at ho
   split at ho
   ·split at ho
    ·split at ho
     ·cases ho
     ·injection ho with ho
      exact ho.symm
    ·cases ho
   ·cases ho
  subst hv
  have i1:=st_nB hr
  rw [sm_tS hsm] at i1
  have e1 : nB ⟨l,0,0⟩ = cnt ts2:=by
   show brk l = _
   rw [brk_cnt,u2]
  have e2 : brk (tS t) = cnt ((tS t ++ [enT]).map Prod.fst):=by
   rw [← brk_cnt,brk_app]
   have : brk [enT] = 0:=by
    rw [brk_cons,enT,isB_kd (by decide) (by decide)]
    rfl
   omega
  omega
end Go.Proofs.YtbfjmccpcbhljaaGreatDoor

namespace Go.Proofs.YtbfjmccpcbhljaaGreatDoor
open Go.RowKit
theorem take_one {x : List UInt8} {i j : Nat} (hij : i ≤ j) {c : UInt8} (h : x[j]? = some c) : (x.drop i).take (j + 1 - i) = (x.drop i).take (j - i) ++ [c]:=by
 have e : j + 1 - i = (j - i) + 1:=by omega
 have hl : j - i < (x.drop i).length:=by
  obtain ⟨hl,_⟩:=List.getElem?_eq_some_iff.1 h
  rw [List.length_drop]
  omega
 rw [e,List.take_succ_eq_append_getElem hl]
 congr 2
 have : (x.drop i)[j - i]? = some c:=by
  rw [List.getElem?_drop,show i + (j - i) = j by omega]
  exact h
 rw [List.getElem?_eq_getElem hl] at this
 exact Option.some.inj this

theorem closing_any (s : ByteArray) (x : List UInt8) (hx : s.data.toList = x) (hs : s.size ≤ 1000) (i : Nat) (hi : x[i]? = some 40) (hd : bdp false (x.drop i) ≤ 0) (w : World) : Calls Tryz.prog 13 #[.string s,.int .i64 (i : Int)] w fun e w' => (∃ j : Nat,e = .returned (.int .i64 (j : Int)) ∧ i < j ∧ x[j]? = some 41 ∧ qr false ((x.drop i).take (j - i)) = false) ∧ w' = w:=by
 have hxl : x.length = s.size:=by rw [← hx]; simp
 have HGET : Hid (∀ j (h : j < s.size),x[j]? = some s[j]):=fun j h => by
  rw [← hx,List.getElem?_eq_getElem (by simpa using h)]
  rfl
 have hil : i < s.size:=by
  obtain ⟨h,_⟩:=List.getElem?_eq_some_iff.1 hi
  omega
 have HI:=Lib.hid hi
 have HD:=Lib.hid hd
 have HXL:=Lib.hid hxl
 clear hx hi hd hxl
 go_enter Tryz.func13,Tryz.ntmps13
 go_wp2
 go_loopw [5,6,7] (fun o q k wr => ∃ (j : Nat) (d : Int) (b : Bool),i ≤ j ∧ j ≤ s.size ∧ o = .int .i64 d ∧ q = .bool b ∧ k = .int .i64 (j : Int) ∧ b = qr false ((x.drop i).take (j - i)) ∧ d = bdp false ((x.drop i).take (j - i)) ∧ (j = i ∨ 1 ≤ d) ∧ 0 ≤ d ∧ d ≤ (j : Int) ∧ wr = w) (fun _ _ k _ => s.size - (intOf k).toNat)
 case atStart => exact ⟨i,0,false,Nat.le_refl _,Nat.le_of_lt hil,rfl,rfl,rfl,by simp [qr],by simp [bdp],Or.inl rfl,Int.le_refl _,by omega,rfl⟩
 case round =>
  obtain ⟨j,d,b,hij,hj,rfl,rfl,rfl,hb,hdd,hor,hd0,hdj,rfl⟩:=hrel
  have HB:=Lib.hid hb
  have HDD:=Lib.hid hdd
  have HOR:=Lib.hid hor
  clear hb hdd hor
  by_cases hlt : j < s.size
  ·have hlti : (j : Int) < (s.size : Int):=by omega
   obtain ⟨c,hc⟩ : ∃ c,s[j] = c:=⟨_,rfl⟩
   have HC : Hid (x[j]? = some c):=by
    show _ = _
    rw [HGET.out j hlt,hc]
   have HT:=Lib.hid (take_one hij HC.out)
   have HNQ : Hid (qr false ((x.drop i).take (j + 1 - i)) = if c = 39 then !b else b):=by
    show _ = _
    rw [HT.out,qr_app,← HB.out]
    rfl
   have HND : Hid (bdp false ((x.drop i).take (j + 1 - i)) = d + (if b = true then 0 else if c = 40 then 1 else if c = 41 then -1 else 0)):=by
    show _ = _
    rw [HT.out,bdp_app,← HB.out,← HDD.out]
    simp [bdp]
   have HFI : Hid (j = i → c = 40):=fun e => by
    have h1:=HC.out
    rw [e,HI.out] at h1
    exact (Option.some.inj h1).symm
   have HNI : Hid (c ≠ 40 → 1 ≤ d):=fun n => HOR.out.resolve_left fun e => n (HFI.out e)
   clear HT
   by_cases c39 : c = 39
   ·subst c39
    have d1 : 1 ≤ d:=HNI.out (by decide)
    cases b with
    | true =>
     go_wp2
     go_roundw
     case rel => exact ⟨j + 1,d,false,by omega,by omega,rfl,rfl,by go_num,by rw [HNQ.out]; simp,by rw [HND.out]; simp <;> omega,Or.inr d1,by omega,by omega,by first | rfl | trivial⟩
     case measure => simp [intOf]; omega
    | false =>
     go_wp2
     go_roundw
     case rel => exact ⟨j + 1,d,true,by omega,by omega,rfl,rfl,by go_num,by rw [HNQ.out]; simp,by rw [HND.out]; simp <;> omega,Or.inr d1,by omega,by omega,by first | rfl | trivial⟩
     case measure => simp [intOf]; omega
   ·have n39 : ((c.toNat : Int) == 39) = false:=by
     rw [beq_eq_false_iff_ne]
     intro e
     exact c39 (UInt8.toNat_inj.1 (by show c.toNat = 39; omega))
    cases b with
    | true =>
     have H39:=Lib.hid c39
     have HN1 : Hid (1 ≤ d):=by
      show _ ≤ _
      rcases HOR.out with e | e
      ·exfalso
       have:=HB.out
       rw [e,Nat.sub_self] at this
       simp [qr] at this
      ·exact e
     have d1:=HN1.out
     clear c39
     go_wp2
     go_roundw
     case rel => exact ⟨j + 1,d,true,by omega,by omega,rfl,rfl,by go_num,by rw [HNQ.out]; simp [H39.out],by rw [HND.out]; simp <;> omega,Or.inr d1,by omega,by omega,by first | rfl | trivial⟩
     case measure => simp [intOf]; omega
    | false =>
     by_cases c40 : c = 40
     ·subst c40
      go_wp2
      go_roundw
      case rel => exact ⟨j + 1,(d + 1),false,by omega,by omega,rfl,rfl,by go_num,by rw [HNQ.out]; simp,by rw [HND.out]; simp <;> omega,Or.inr (by omega),by omega,by omega,by first | rfl | trivial⟩
      case measure => simp [intOf]; omega
     ·have n40 : ((c.toNat : Int) == 40) = false:=by
       rw [beq_eq_false_iff_ne]
       intro e
       exact c40 (UInt8.toNat_inj.1 (by show c.toNat = 40; omega))
      have d1 : 1 ≤ d:=HNI.out c40
      by_cases c41 : c = 41
      ·subst c41
       have hne : j ≠ i:=fun e => absurd (HFI.out e) (by decide)
       by_cases e1 : d = 1
       ·subst e1
        have HRT : Hid (i < j ∧ x[j]? = some 41 ∧ qr false ((x.drop i).take (j - i)) = false):=Lib.hid ⟨by omega,HC.out,HB.out.symm⟩
        clear hne
        go_wp2
        exact bodyPost_ret (v:=.int .i64 (j : Int)) (by simp [results,Tryz.results13,go_sem]) rfl ⟨⟨j,rfl,HRT.out⟩,rfl⟩
       ·have ne0 : ((d - 1) == 0) = false:=by
         rw [beq_eq_false_iff_ne]
         omega
        have hw1 : IntKind.i64.wrap (d - 1) = d - 1:=by rw [IntKind.wrap_i64]; omega
        go_wp2
        go_roundw
        case rel => exact ⟨j + 1,(d - 1),false,by omega,by omega,rfl,rfl,by go_num,by rw [HNQ.out]; simp,by rw [HND.out]; simp <;> omega,Or.inr (by omega),by omega,by omega,by first | rfl | trivial⟩
        case measure => simp [intOf]; omega
      ·have n41 : ((c.toNat : Int) == 41) = false:=by
        rw [beq_eq_false_iff_ne]
        intro e
        exact c41 (UInt8.toNat_inj.1 (by show c.toNat = 41; omega))
       have H9:=Lib.hid c39
       have H0:=Lib.hid c40
       have H1:=Lib.hid c41
       clear c39 c40 c41
       go_wp2
       go_roundw
       case rel => exact ⟨j + 1,d,false,by omega,by omega,rfl,rfl,by go_num,by rw [HNQ.out]; simp [H9.out],by rw [HND.out]; simp [H0.out,H1.out] <;> omega,Or.inr d1,by omega,by omega,by first | rfl | trivial⟩
       case measure => simp [intOf]; omega
  ·exfalso
   have hjs : j = s.size:=by omega
   have e1 : (x.drop i).take (j - i) = x.drop i:=List.take_of_length_le (by rw [List.length_drop,HXL.out]; omega)
   have e2:=HDD.out
   rw [e1] at e2
   have e3:=HD.out
   rcases HOR.out with e | e
   ·omega
   ·omega
end Go.Proofs.YtbfjmccpcbhljaaGreatDoor
