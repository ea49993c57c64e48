/- V1 V2 V3 V4 V5 V6 -/
import Derived.Test.YtbfjmccpcbhljaaGreatDoorTC7
import Derived.Test.YtbfjmccpcbhljaaGreatDoorSh
import Derived.Test.YtbfjmccpcbhljaaGreatDoorRows
import Derived.Lib.AppendIntMem
import Derived.Lib.AtoiErrMem
import Derived.Deep.QuietTactic
import Derived.BigQuiet
import Derived.Lib.Hide
import Derived.Deep.RegionWith
import Derived.Deep.RegionHeld3
set_option maxHeartbeats 4000000
set_option maxRecDepth 100000
namespace Go.Proofs.YtbfjmccpcbhljaaGreatDoor
open Go.RowKit
def powName : String := Rows.prettyPrintsRow.named.getD 2 ""

def SV (w : World) : Prop := Lib.TabIs Tryz.prog w powName .u64 Lib.pow10Tab ∧ (∃ tp p, w.var? Tryz.prog "strconv.ErrSyntax" = some #[.iface tp p]) ∧ (∃ tp p, w.var? Tryz.prog "strconv.ErrRange" = some #[.iface tp p])

theorem var_later {w w' : World} {n : String} {cs : Array Value} (h : w.var? Tryz.prog n = some cs) (hb : Below w.heap.size w w') : w'.var? Tryz.prog n = some cs:=by
 unfold World.var? at h ⊢
 cases hg : Tryz.prog.globalNamed n with
 | none => simp [hg] at h
 | some g =>
  simp only [hg,Option.bind_some] at h ⊢
  have hlt : g < w.heap.size:=by
   rcases Nat.lt_or_ge g w.heap.size with h' | h'
   ·exact h'
   ·rw [Array.getElem?_eq_none h'] at h; simp at h
  rw [hb.block g hlt]
  exact h

theorem SV.later {w w' : World} (h : SV w) (hb : Below w.heap.size w w') : SV w':=by
 obtain ⟨a,⟨tp,p,b⟩,⟨tq,q,c⟩⟩:=h
 exact ⟨Lib.tabBelow_of_tabIs a w' hb,⟨tp,p,var_later b hb⟩,⟨tq,q,var_later c hb⟩⟩

theorem SV.alloc {w : World} (h : SV w) (o : Obj) : SV (w.alloc o):=h.later ((Below.refl _ _).alloc (Nat.le_refl _) _)

theorem itoa_any (n : Int) (w : World) (h : SV w) (h0 : -9223372036854775808 ≤ n) (h1 : n ≤ 9223372036854775807) :
  Calls Tryz.prog 76 #[Vi n] w fun e w' => e = .returned (.string ⟨(Lib.itoa n).toArray⟩) ∧ Below w.heap.size w w':=by
 refine (Go.Proofs.Any.strconv_Itoa Tryz.laysM171 n h0 h1 w h.1).mono ?_
 rintro e w' ⟨rfl,k,os,rfl⟩
 exact ⟨rfl,Lib.below_grow _ _ (Nat.le_refl _) _ _⟩

def prV (v : V3) : Value:=.tuple #[.string ⟨(prR v).1.toArray⟩,Vi (prR v).2]

theorem print_any (v : V3) (w : World) (h : SV w) :
  Calls Tryz.prog 134 #[.agg #[Vi v.1,Vi v.2.1,.string v.2.2]] w fun e w' => e = .returned (prV v) ∧ Below w.heap.size w w':=by
 have HSV : Hid (SV w):=h
 clear h
 obtain ⟨k,n,s⟩:=v
 cases hr : V3.right (k,n,s) with
 | false =>
  have hrg : rgt k n s = false:=hr
  have HP : Hid (prV (k,n,s) = .tuple #[Vs,Vi 10]):=by
   have : prV (k,n,s) = .tuple #[Vs,Vi 10]:=by unfold prV; rw [prR_no hr]
   exact this
  clear hr
  go_enter Tryz.func134,Tryz.ntmps134
  go_wp2_with (first | (go_at_call 145; refine (right_any _ _ _ _).mono ?_; rintro e w' ⟨rfl,hb⟩; rw [hrg]; (obtain ⟨hc, hf⟩ := bcell hb; have hz := hb.size; (try simp at hz); (try have hz0 : w.heap.size < w'.heap.size := by omega); (try have hz1 : w.heap.size + 1 < w'.heap.size := by omega); (try have hz2 : w.heap.size + 1 + 1 < w'.heap.size := by omega); (try have hz3 : w.heap.size + 1 + 1 + 1 < w'.heap.size := by omega))))
  exact bodyPost_ret (v:=.tuple #[Vs,Vi 10]) (by simp [results,Tryz.results134,go_sem]) rfl ⟨by rw [HP.out],by (repeat (first|exact Bxr _ _|assumption|apply Bxd|apply Bxa|apply Bxs|refine Bxt ?_ (by assumption) ?_|omega|simp))⟩
 | true =>
  have hrg : rgt k n s = true:=hr
  have HP : Hid (prV (k,n,s) = .tuple #[.string ⟨(lit (k,n,s)).toArray⟩,Vi 0]):=by
   have : prV (k,n,s) = .tuple #[.string ⟨(lit (k,n,s)).toArray⟩,Vi 0]:=by unfold prV; rw [prR_ok hr]
   exact this
  rcases rt_kind hr with q | q | q | q
  all_goals simp only at q; subst q
  ·have HL : Hid (lit (0,n,s) = [78,85,76,76]):=lit_null rfl
   clear hr
   go_enter Tryz.func134,Tryz.ntmps134
   go_wp2_with (first | (go_at_call 145; refine (right_any _ _ _ _).mono ?_; rintro e w' ⟨rfl,hb⟩; rw [hrg]; (obtain ⟨hc, hf⟩ := bcell hb; have hz := hb.size; (try simp at hz); (try have hz0 : w.heap.size < w'.heap.size := by omega); (try have hz1 : w.heap.size + 1 < w'.heap.size := by omega); (try have hz2 : w.heap.size + 1 + 1 < w'.heap.size := by omega); (try have hz3 : w.heap.size + 1 + 1 + 1 < w'.heap.size := by omega))))
   exact bodyPost_ret (v:=.tuple #[.string ⟨#[78,85,76,76]⟩,Vi 0]) (by simp [results,Tryz.results134,go_sem]) rfl ⟨by rw [HP.out,HL.out],by (repeat (first|exact Bxr _ _|assumption|apply Bxd|apply Bxa|apply Bxs|refine Bxt ?_ (by assumption) ?_|omega|simp))⟩
  ·have HL : Hid (lit (1,n,s) = Lib.itoa n):=lit_int rfl
   have b1:=(rt_num hr rfl).1
   have b2:=(rt_num hr rfl).2.1
   simp only at b1 b2
   clear hr
   go_enter Tryz.func134,Tryz.ntmps134
   go_wp2_with fail
   refine (right_any _ _ _ _).mono ?_
   rintro e w1 ⟨rfl,hb1⟩
   rw [hrg]
   have z1:=hb1.size
   simp at z1
   have c1 : w1.cell? ⟨w.heap.size,0,none⟩ = some (Vi 1):=cell_later hb1 (by simp)
   have c2 : w1.cell? ⟨w.heap.size,1,none⟩ = some (Vi n):=cell_later hb1 (by simp)
   go_wp2_with fail
   refine (itoa_any _ _ ((HSV.out.alloc _).later hb1) (by omega) (by omega)).mono ?_
   rintro e w2 ⟨rfl,hb2⟩
   go_wp2
   exact bodyPost_ret (v:=.tuple #[.string ⟨(Lib.itoa n).toArray⟩,Vi 0]) (by simp [results,Tryz.results134,go_sem]) rfl ⟨by rw [HP.out,HL.out],by (repeat (first|exact Bxr _ _|assumption|apply Bxd|apply Bxa|apply Bxs|refine Bxt ?_ (by assumption) ?_|omega|simp))⟩
  ·have b1:=(right_bool hr rfl).1
   simp only at b1
   rcases b1 with rfl | rfl
   ·have HL : Hid (lit (2,0,s) = [70,65,76,83,69]):=lit_false rfl rfl
    clear hr
    go_enter Tryz.func134,Tryz.ntmps134
    go_wp2_with (first | (go_at_call 145; refine (right_any _ _ _ _).mono ?_; rintro e w' ⟨rfl,hb⟩; rw [hrg]; (obtain ⟨hc, hf⟩ := bcell hb; have hz := hb.size; (try simp at hz); (try have hz0 : w.heap.size < w'.heap.size := by omega); (try have hz1 : w.heap.size + 1 < w'.heap.size := by omega); (try have hz2 : w.heap.size + 1 + 1 < w'.heap.size := by omega); (try have hz3 : w.heap.size + 1 + 1 + 1 < w'.heap.size := by omega))))
    exact bodyPost_ret (v:=.tuple #[.string ⟨#[70,65,76,83,69]⟩,Vi 0]) (by simp [results,Tryz.results134,go_sem]) rfl ⟨by rw [HP.out,HL.out],by (repeat (first|exact Bxr _ _|assumption|apply Bxd|apply Bxa|apply Bxs|refine Bxt ?_ (by assumption) ?_|omega|simp))⟩
   ·have HL : Hid (lit (2,1,s) = [84,82,85,69]):=lit_true rfl rfl
    clear hr
    go_enter Tryz.func134,Tryz.ntmps134
    go_wp2_with (first | (go_at_call 145; refine (right_any _ _ _ _).mono ?_; rintro e w' ⟨rfl,hb⟩; rw [hrg]; (obtain ⟨hc, hf⟩ := bcell hb; have hz := hb.size; (try simp at hz); (try have hz0 : w.heap.size < w'.heap.size := by omega); (try have hz1 : w.heap.size + 1 < w'.heap.size := by omega); (try have hz2 : w.heap.size + 1 + 1 < w'.heap.size := by omega); (try have hz3 : w.heap.size + 1 + 1 + 1 < w'.heap.size := by omega))))
    exact bodyPost_ret (v:=.tuple #[.string ⟨#[84,82,85,69]⟩,Vi 0]) (by simp [results,Tryz.results134,go_sem]) rfl ⟨by rw [HP.out,HL.out],by (repeat (first|exact Bxr _ _|assumption|apply Bxd|apply Bxa|apply Bxs|refine Bxt ?_ (by assumption) ?_|omega|simp))⟩
  ·have HL : Hid (lit (3,n,s) = quo s):=lit_text rfl
   have b1:=(rt_text hr rfl).2
   simp only at b1
   clear hr
   go_enter Tryz.func134,Tryz.ntmps134
   go_wp2_with (first | (go_at_call 145; refine (right_any _ _ _ _).mono ?_; rintro e w' ⟨rfl,hb⟩; rw [hrg]; (obtain ⟨hc, hf⟩ := bcell hb; have hz := hb.size; (try simp at hz); (try have hz0 : w.heap.size < w'.heap.size := by omega); (try have hz1 : w.heap.size + 1 < w'.heap.size := by omega); (try have hz2 : w.heap.size + 1 + 1 < w'.heap.size := by omega); (try have hz3 : w.heap.size + 1 + 1 + 1 < w'.heap.size := by omega))) | (go_at_call 153; refine (quote_any _ _ (by omega)).mono ?_; rintro e w2 ⟨rfl,hb2⟩))
   exact bodyPost_ret (v:=.tuple #[.string ⟨(quo s).toArray⟩,Vi 0]) (by simp [results,Tryz.results134,go_sem]) rfl ⟨by rw [HP.out,HL.out],by (repeat (first|exact Bxr _ _|assumption|apply Bxd|apply Bxa|apply Bxs|refine Bxt ?_ (by assumption) ?_|omega|simp))⟩

def hx (c : UInt8) : Int:=Lib.indexByte [48,49,50,51,52,53,54,55,56,57,97,98,99,100,101,102] c

theorem hx_range (c : UInt8) : -1 ≤ hx c ∧ hx c ≤ 15:=by
 have : ∀ c : Fin 256,-1 ≤ hx (UInt8.ofNat c.val) ∧ hx (UInt8.ofNat c.val) ≤ 15:=by decide +kernel
 have h:=this ⟨c.toNat,UInt8.toNat_lt c⟩
 simpa using h

theorem hx_hexd (i : Nat) (h : i < 16) : hx (hexd i) = i:=by
 have : ∀ i : Fin 16,hx (hexd i.val) = (i.val : Int):=by decide +kernel
 exact this ⟨i,h⟩

theorem hexor (h l : Nat) (hh : h < 16) (hl : l < 16) : bits BinOp.or IntKind.i64 ((h : Int) * 16) (l : Int) % 256 = ((h * 16 + l : Nat) : Int):=by
 have : ∀ h l : Fin 16,bits BinOp.or IntKind.i64 ((h.val : Int) * 16) (l.val : Int) % 256 = ((h.val * 16 + l.val : Nat) : Int):=by decide +kernel
 exact this ⟨h,hh⟩ ⟨l,hl⟩

def HexP (s : ByteArray) (w : World) (e : Ending) (w' : World) : Prop:=∃ (b : UInt8) (ok : Bool),e = .returned (.tuple #[.int .u8 (b.toNat : Int),.bool ok]) ∧ (∀ d : UInt8,[hexd (d.toNat / 16),hexd (d.toNat % 16)] <+: s.data.toList → ok = true ∧ b = d) ∧ (ok = true → 2 ≤ s.size) ∧ Below w.heap.size w w'

theorem two_bytes {s : ByteArray} (h : 1 < s.size) {c d : UInt8} (g : [c,d] <+: s.data.toList) : s[0] = c ∧ s[1] = d:=by
 obtain ⟨t,e⟩:=g
 have e0 : s.data.toList[0]? = some c:=by rw [← e]; rfl
 have e1 : s.data.toList[1]? = some d:=by rw [← e]; rfl
 rw [List.getElem?_eq_getElem (by simp; omega)] at e0 e1
 exact ⟨Option.some.inj e0,Option.some.inj e1⟩

theorem hex_any (s : ByteArray) (w : World) : Calls Tryz.prog 175 #[.string s] w (HexP s w):=by
 by_cases h2 : s.size < 2
 ·have h2i : (s.size : Int) < 2:=by omega
  go_enter Tryz.func175,Tryz.ntmps175
  go_wp2
  refine bodyPost_ret (v:=.tuple #[.int .u8 0,.bool false]) (by simp [results,Tryz.results175,go_sem]) rfl ⟨0,false,rfl,?_,by simp,by (repeat (first|exact Bxr _ _|assumption|apply Bxd|apply Bxa|apply Bxs|refine Bxt ?_ (by assumption) ?_|omega|simp))⟩
  intro d hd
  have:=hd.length_le
  simp at this
  omega
 ·have h2i : ¬ (s.size : Int) < 2:=by omega
  have h0 : (0 : Int) < (s.size : Int):=by omega
  have h1 : (1 : Int) < (s.size : Int):=by omega
  have q0 : 0 < s.size:=by omega
  have q1 : 1 < s.size:=by omega
  obtain ⟨H,hH⟩:=Vx (Lib.indexByte [48,49,50,51,52,53,54,55,56,57,97,98,99,100,101,102] s[0])
  obtain ⟨L,hL⟩:=Vx (Lib.indexByte [48,49,50,51,52,53,54,55,56,57,97,98,99,100,101,102] s[1])
  have bH : -1 ≤ H ∧ H ≤ 15:=by have:=hx_range s[0]; unfold hx at this; rw [hH] at this; exact this
  have bL : -1 ≤ L ∧ L ≤ 15:=by have:=hx_range s[1]; unfold hx at this; rw [hL] at this; exact this
  have HD : Hid (∀ d : UInt8,[hexd (d.toNat / 16),hexd (d.toNat % 16)] <+: s.data.toList → H = ((d.toNat / 16 : Nat) : Int) ∧ L = ((d.toNat % 16 : Nat) : Int)):=fun d hd => by
   have hdl:=UInt8.toNat_lt d
   obtain ⟨a,b⟩:=two_bytes q1 hd
   have c1:=hx_hexd (d.toNat / 16) (by omega)
   have c2:=hx_hexd (d.toNat % 16) (by omega)
   unfold hx at c1 c2
   rw [a,c1] at hH
   rw [b,c2] at hL
   exact ⟨hH.symm,hL.symm⟩
  clear h2
  have hcs : H < 0 ∨ (¬ H < 0 ∧ L < 0) ∨ (¬ H < 0 ∧ ¬ L < 0 ∧ ∃ h l : Nat,H = (h : Int) ∧ L = (l : Int) ∧ h < 16 ∧ l < 16):=by
   by_cases a : H < 0
   ·exact Or.inl a
   ·by_cases b : L < 0
    ·exact Or.inr (Or.inl ⟨a,b⟩)
    ·exact Or.inr (Or.inr ⟨a,b,H.toNat,L.toNat,by omega,by omega,by omega,by omega⟩)
  rcases hcs with a | ⟨a,b⟩ | ⟨a,b,h,l,rfl,rfl,hh,hl⟩
  ·go_enter Tryz.func175,Tryz.ntmps175
   go_wp2
   go_region_held3 (fun _ => True) (trivial) (first | (go_at_call 89; refine (Tryz.strings_IndexByte _ _ _).mono ?_; rintro e w' ⟨rfl,rfl⟩))
   all_goals
    go_wp2
    refine bodyPost_ret (v:=.tuple #[.int .u8 0,.bool false]) (by simp [results,Tryz.results175,go_sem]) rfl ⟨0,false,rfl,?_,by simp,by (repeat (first|exact Bxr _ _|assumption|apply Bxd|apply Bxa|apply Bxs|refine Bxt ?_ (by assumption) ?_|omega|simp))⟩
    intro d hd
    have:=HD.out d hd
    omega
  ·go_enter Tryz.func175,Tryz.ntmps175
   go_wp2
   go_region_held3 (fun _ => True) (trivial) (first | (go_at_call 89; refine (Tryz.strings_IndexByte _ _ _).mono ?_; rintro e w' ⟨rfl,rfl⟩))
   all_goals
    go_wp2
    refine bodyPost_ret (v:=.tuple #[.int .u8 0,.bool false]) (by simp [results,Tryz.results175,go_sem]) rfl ⟨0,false,rfl,?_,by simp,by (repeat (first|exact Bxr _ _|assumption|apply Bxd|apply Bxa|apply Bxs|refine Bxt ?_ (by assumption) ?_|omega|simp))⟩
    intro d hd
    have:=HD.out d hd
    omega
  ·have hv : (UInt8.ofNat (h * 16 + l)).toNat = h * 16 + l:=by rw [UInt8.toNat_ofNat']; omega
   have HO:=Hd (hexor h l hh hl)
   have HVV:=Hd hv
   clear hv
   go_enter Tryz.func175,Tryz.ntmps175
   go_wp2
   go_region_held3 (fun _ => True) (trivial) (first | (go_at_call 89; refine (Tryz.strings_IndexByte _ _ _).mono ?_; rintro e w' ⟨rfl,rfl⟩))
   all_goals
    go_wp2
    refine bodyPost_ret (v:=.tuple #[.int .u8 ((h * 16 + l : Nat) : Int),.bool true]) (by simp [results,Tryz.results175,go_sem]; have:=HO.out; push_cast at this; omega) rfl ⟨UInt8.ofNat (h * 16 + l),true,by rw [HVV.out],?_,by omega,by (repeat (first|exact Bxr _ _|assumption|apply Bxd|apply Bxa|apply Bxs|refine Bxt ?_ (by assumption) ?_|omega|simp))⟩
    intro d hd
    have hdl:=UInt8.toNat_lt d
    have:=HD.out d hd
    exact ⟨rfl,UInt8.toNat_inj.1 (by rw [HVV.out]; omega)⟩

theorem qb_head39 {d : UInt8} {t r : List UInt8} (h : qb d ++ t = 39 :: r) : d = 39 ∧ (qb d).length = 2 ∧ ∃ r',r = 39 :: r':=by
 by_cases d1 : d.toNat = 39
 ·rw [qb_mark d1] at h ⊢
  simp at h
  exact ⟨UInt8.toNat_inj.1 d1,rfl,t,h.symm⟩
 ·exfalso
  by_cases d2 : d.toNat = 92 ∨ d.toNat < 32 ∨ 126 < d.toNat
  ·rw [qb_hex d1 d2] at h; simp at h
  ·rw [qb_plain d1 d2] at h; simp at h; exact d1 (by rw [h.1]; rfl)

theorem qb_head92 {d : UInt8} {t r : List UInt8} (h : qb d ++ t = 92 :: r) : (qb d).length = 3 ∧ [hexd (d.toNat / 16),hexd (d.toNat % 16)] <+: r:=by
 by_cases d1 : d.toNat = 39
 ·rw [qb_mark d1] at h; simp at h
 ·by_cases d2 : d.toNat = 92 ∨ d.toNat < 32 ∨ 126 < d.toNat
  ·rw [qb_hex d1 d2] at h ⊢
   exact ⟨rfl,t,(List.cons.inj h).2⟩
  ·exfalso
   rw [qb_plain d1 d2] at h; simp at h; exact d2 (Or.inl (by rw [h.1]; rfl))

theorem qb_headp {c d : UInt8} {t r : List UInt8} (h1 : c ≠ 39) (h2 : c ≠ 92) (h : qb d ++ t = c :: r) : d = c ∧ 1 = (qb d).length:=by
 by_cases d1 : d.toNat = 39
 ·rw [qb_mark d1] at h; simp at h; exact absurd h.1.symm h1
 ·by_cases d2 : d.toNat = 92 ∨ d.toNat < 32 ∨ 126 < d.toNat
  ·rw [qb_hex d1 d2] at h; simp at h; exact absurd h.1.symm h2
  ·rw [qb_plain d1 d2] at h ⊢; simp at h; exact ⟨h.1,rfl⟩

theorem drop_one {s : ByteArray} {k : Nat} (h : k < s.size) : s.data.toList.drop k = s[k] :: s.data.toList.drop (k + 1):=by
 rw [List.drop_eq_getElem_cons (by simpa using h)]
 rfl

theorem ext_rest {t : ByteArray} {n : Nat} : (t.extract n t.size).data.toList = t.data.toList.drop n:=by
 simp
 exact List.take_of_length_le (by simp)

theorem cellb (w : World) (x : Int) (c : UInt8) (t : TypeId) (h : x = (c.toNat : Int)) : ∀ j u,(bv [c])[j]? = some u → (w.alloc (.cells #[.int .u8 x] t)).cell? ((⟨w.heap.size,0,none⟩ : Addr).add j) = some u:=by
 subst h
 intro j u hj
 match j,hj with
 | 0,hj => simp [bv] at hj; subst hj; simp [Addr.add]

theorem own_on {w w' : World} {B : Nat} {e : TypeId} {size : Nat} {v : Value} {n : Nat} {xs : List Value} (h : w.ownsRow B e size v n xs) (hb : Below w.heap.size w w') : w'.ownsRow B e size v n xs:=by
 have hl:=h.lt
 obtain ⟨h1,h2 | ⟨g,cap,cur,rfl,a,b,c⟩⟩:=h
 ·exact ⟨h1,Or.inl h2⟩
 ·exact ⟨h1,Or.inr ⟨g,cap,cur,rfl,a,(hb.block g (hl g rfl).2).trans b,c⟩⟩

theorem own_text {w : World} {B n : Nat} {v : Value} {xs : List UInt8} (h : w.ownsRow B 5 1 v n (bv xs)) : ∃ a cap,v = .slice a n cap ∧ (convert 40 9 (.slice a n cap)).run Tryz.prog w = .ok (.string ⟨xs.toArray⟩) w:=by
 by_cases h0 : 0 < n
 ·obtain ⟨g,cap,e,r⟩:=own_string h h0
  exact ⟨_,_,e,r⟩
 ·have hn : n = 0:=by omega
  subst hn
  have hx : xs = []:=by
   have:=h.1
   rw [bv_length] at this
   exact List.eq_nil_of_length_eq_zero (by omega)
  subst hx
  obtain ⟨_,⟨rfl,_⟩ | ⟨g,cap,cur,rfl,_⟩⟩:=h
  ·refine ⟨none,0,rfl,?_⟩
   rw [run_convert_bytes_string w 40 9 5 none 0 0 Tryz.underlying40 Tryz.underlying5 Tryz.underlying9]
   rfl
  ·exact ⟨_,cap,rfl,run_convert_bytes_back w 40 9 5 ⟨g,0,none⟩ cap [] Tryz.underlying40 Tryz.underlying5 Tryz.underlying9 (by intro j hj; simp at hj)⟩

def UnqP (body : ByteArray) (w : World) (e : Ending) (w' : World) : Prop:=∃ (t : List UInt8) (ok : Bool),e = .returned (.tuple #[.string ⟨t.toArray⟩,.bool ok]) ∧ (∀ l,qbs l = body.data.toList → ok = true ∧ t = l) ∧ Below w.heap.size w w'

theorem unq_no {body : ByteArray} {w w' : World} (h : ∀ l,¬ qbs l = body.data.toList) (hb : Below w.heap.size w w') : UnqP body w (.returned (.tuple #[Vs,.bool false])) w':=⟨[],false,rfl,fun l hl => absurd hl (h l),hb⟩

theorem unq_any (s : ByteArray) (w : World) (hs : s.size ≤ 2147483648) : Calls Tryz.prog 162 #[.string s] w (UnqP s w):=by
 obtain ⟨i0,hi,hz0,hz1,hz2⟩:=info_parts Tryz.info5
 have hsl : s.data.toList.length = s.size:=by simp
 go_enter Tryz.func162,Tryz.ntmps162
 go_wp2
 go_loopw [4,5] (fun v i wr => ∃ (k : Nat) (xs : List UInt8),k ≤ s.size ∧ i = Vi k ∧ xs.length ≤ k ∧ UQ s.data.toList xs k ∧ wr.ownsRow w.heap.size 5 1 v xs.length (bv xs) ∧ Below w.heap.size w wr) (fun _ i _ => s.size - (intOf i).toNat)
 case atStart => exact ⟨0,[],Nat.zero_le _,rfl,Nat.le_refl _,uq_start _,World.ownsRow_nil _ _ _ _,Below.refl _ _⟩
 case round =>
  obtain ⟨k,xs,hk,rfl,hxl,huq,hown,hb⟩:=hrel
  have HU : Hid (UQ s.data.toList xs k):=huq
  clear huq
  have hsz:=hb.size
  have hlt:=hown.lt
  by_cases hlt2 : k < s.size
  ·have HDR : Hid (s.data.toList.drop k = s[k] :: s.data.toList.drop (k + 1)):=drop_one hlt2
   have k1 : (k : Int) + 1 ≤ (s.size : Int):=by omega
   have k2 : (0 : Int) ≤ (k : Int) + 1:=by omega
   have k3 : ((k : Int) + 1).toNat = k + 1:=by omega
   by_cases c39 : s[k].toNat = 39
   ·have e39 : s[k] = 39:=UInt8.toNat_inj.1 c39
    cases hp : Lib.hasPrefix (s.extract (k + 1) s.size).data.toList (⟨#[39]⟩ : ByteArray).data.toList with
    | true =>
     have HPP:=Hd hp
     have hp2 : ∃ r',s.data.toList.drop (k + 1) = 39 :: r':=by
      rw [ext_rest] at hp
      unfold Lib.hasPrefix at hp
      cases e : s.data.toList.drop (k + 1) with
      | nil => rw [e] at hp; exact absurd hp (by decide)
      | cons a r => rw [e] at hp; simp [List.isPrefixOf] at hp; exact ⟨r,by rw [hp]⟩
     have hk2 : k + 2 ≤ s.size:=by
      obtain ⟨r',e⟩:=hp2
      have:=congrArg List.length e
      rw [List.length_drop,hsl] at this
      simp at this
      omega
     have HU2 : Hid (UQ s.data.toList (xs ++ [39]) (k + 2)):=uq_step HU.out (by omega) (fun d t e => by
      rw [HDR.out,e39] at e
      obtain ⟨a,b,_⟩:=qb_head39 e
      exact ⟨a,b.symm⟩)
     clear hp hp2 e39
     go_wp2_with (first | (go_at_call 174; refine (Tryz.strings_HasPrefix _ _ _).mono ?_; rintro e w' ⟨rfl,hw'⟩; rw [HPP.out,hw']; clear hw'; refine Hid.out ?_))
     refine Hd ?_
     go_wp2_with (first | (at_builtin; refine wpList_append_own _ rfl _ _ 40 rfl w.heap.size 5 i0 (.int .u8 0) 1 1 Tryz.underlying40 hi hz0 hz1 hz2 rfl (by decide) _ _ _ rfl (hown.alloc _) ⟨wr.heap.size,0,none⟩ 1 1 (bv [39]) rfl rfl ?c1 ?c2 ?c3 ?c4 ?c5 ?_))
     case c1 => exact cellb wr _ _ _ (by first | rfl | (rw [c39]; rfl))
     case c2 => exact bv_one _
     case c3 => unfold maxLen; omega
     case c4 => omega
     case c5 => simp; omega
     ·intro v1 w1 hown1 hgrow1 _
      rw [← bv_append] at hown1
      have hb1 : Below w.heap.size w w1:=(hb.alloc (by omega) _).grown hgrow1 (by simp; omega) fun k hk => (hlt k hk).1
      clear hgrow1 hown
      go_wp2
      go_roundw
      case rel => exact ⟨k + 2,xs ++ [39],by omega,by go_num,by simp; omega,HU2.out,by simpa using hown1,hb1⟩
      case measure => simp [intOf]; omega
    | false =>
     have HPP:=Hd hp
     have HN : Hid (∀ l,¬ qbs l = s.data.toList):=uq_stuck HU.out (by omega) (fun d t e => by
      rw [HDR.out,e39] at e
      obtain ⟨_,_,r',q⟩:=qb_head39 e
      rw [ext_rest,q] at hp
      exact absurd hp (by unfold Lib.hasPrefix; simp [List.isPrefixOf]))
     clear hp e39 hown hlt
     go_wp2_with (first | (go_at_call 174; refine (Tryz.strings_HasPrefix _ _ _).mono ?_; rintro e w' ⟨rfl,rfl⟩; rw [HPP.out]))
     exact bodyPost_ret (by simp [results,Tryz.results162,go_sem]) rfl (unq_no HN.out (by (repeat (first|exact Bxr _ _|assumption|apply Bxd|apply Bxa|apply Bxs|refine Bxt ?_ (by assumption) ?_|omega|simp))))
   ·have c39' : ((s[k].toNat : Int) == 39) = false:=by rw [beq_eq_false_iff_ne]; omega
    by_cases c92 : s[k].toNat = 92
    ·have e92 : s[k] = 92:=UInt8.toNat_inj.1 c92
     go_wp2_with fail
     refine (hex_any (s.extract (k + 1) s.size) _).mono ?_
     rintro e w1 ⟨b,ok,rfl,hx,hx2,hb1⟩
     have hown1:=own_on hown hb1
     have hz1':=hb1.size
     have hbw1 : Below w.heap.size w w1:=hb.trans (hb1.mono hsz)
     have hlt1:=hown1.lt
     have hes : (s.extract (k + 1) s.size).size = s.size - (k + 1):=by simp
     rw [ext_rest] at hx
     clear hown hb1 hb
     cases ok with
     | false =>
      have HN : Hid (∀ l,¬ qbs l = s.data.toList):=uq_stuck HU.out (by omega) (fun d t e => by
       rw [HDR.out,e92] at e
       have:=hx d (qb_head92 e).2
       exact absurd this.1 (by decide))
      clear hx hx2 hown1 e92
      go_wp2
      exact bodyPost_ret (by simp [results,Tryz.results162,go_sem]) rfl (unq_no HN.out (by (repeat (first|exact Bxr _ _|assumption|apply Bxd|apply Bxa|apply Bxs|refine Bxt ?_ (by assumption) ?_|omega|simp))))
     | true =>
      have h2:=hx2 rfl
      have HU2 : Hid (UQ s.data.toList (xs ++ [b]) (k + 3)):=uq_step HU.out (by omega) (fun d t e => by
       rw [HDR.out,e92] at e
       obtain ⟨p,q⟩:=qb_head92 e
       exact ⟨(hx d q).2.symm,p.symm⟩)
      clear hx hx2 e92
      go_wp2_with (first | (at_builtin; refine wpList_append_own _ rfl _ _ 40 rfl w.heap.size 5 i0 (.int .u8 0) 1 1 Tryz.underlying40 hi hz0 hz1 hz2 rfl (by decide) _ _ _ rfl (hown1.alloc _) ⟨w1.heap.size,0,none⟩ 1 1 (bv [b]) rfl rfl ?c1 ?c2 ?c3 ?c4 ?c5 ?_))
      case c1 => exact cellb w1 _ _ _ rfl
      case c2 => exact bv_one _
      case c3 => unfold maxLen; omega
      case c4 => omega
      case c5 => simp; omega
      ·intro v2 w2 hown2 hgrow2 _
       rw [← bv_append] at hown2
       have hb2 : Below w.heap.size w w2:=(hbw1.alloc (by omega) _).grown hgrow2 (by simp; omega) fun k hk => (hlt1 k hk).1
       clear hgrow2 hown1
       go_wp2
       go_roundw
       case rel => exact ⟨k + 3,xs ++ [b],by omega,by go_num,by simp; omega,HU2.out,by simpa using hown2,hb2⟩
       case measure => simp [intOf]; omega
    ·have c92' : ((s[k].toNat : Int) == 92) = false:=by rw [beq_eq_false_iff_ne]; omega
     have HU2 : Hid (UQ s.data.toList (xs ++ [s[k]]) (k + 1)):=uq_step HU.out (by omega) (fun d t e => by
      rw [HDR.out] at e
      exact qb_headp (fun h => c39 (by rw [h]; rfl)) (fun h => c92 (by rw [h]; rfl)) e)
     clear c39 c92
     go_wp2_with (first | (at_builtin; refine wpList_append_own _ rfl _ _ 40 rfl w.heap.size 5 i0 (.int .u8 0) 1 1 Tryz.underlying40 hi hz0 hz1 hz2 rfl (by decide) _ _ _ rfl (hown.alloc _) ⟨wr.heap.size,0,none⟩ 1 1 (bv [s[k]]) rfl rfl ?c1 ?c2 ?c3 ?c4 ?c5 ?_))
     case c1 => exact cellb wr _ _ _ rfl
     case c2 => exact bv_one _
     case c3 => unfold maxLen; omega
     case c4 => omega
     case c5 => simp; omega
     ·intro v1 w1 hown1 hgrow1 _
      rw [← bv_append] at hown1
      have hb1 : Below w.heap.size w w1:=(hb.alloc (by omega) _).grown hgrow1 (by simp; omega) fun k hk => (hlt k hk).1
      clear hgrow1 hown
      go_wp2
      go_roundw
      case rel => exact ⟨k + 1,xs ++ [s[k]],by omega,by go_num,by simp; omega,HU2.out,by simpa using hown1,hb1⟩
      case measure => simp [intOf]; omega
  ·have hk' : k = s.size:=by omega
   have HE : Hid (∀ l,qbs l = s.data.toList → xs = l):=fun l hl => (uq_end HU.out (by omega) hl).symm
   obtain ⟨ar,cp,rfl,hcv⟩:=own_text hown
   clear hown hlt
   subst hk'
   go_wp2
   exact bodyPost_ret (by simp [results,Tryz.results162,go_sem]) rfl ⟨xs,true,rfl,fun l hl => ⟨rfl,HE.out l hl⟩,hb⟩

theorem text_any (s : ByteArray) (w : World) :
  Calls Tryz.prog 163 #[.string s] w fun e w' => e = .returned (.agg #[Vi 3,Vi 0,.string s]) ∧ Below w.heap.size w w':=by
 go_enter Tryz.func163,Tryz.ntmps163
 go_wp2
 exact bodyPost_ret (v:=.agg #[Vi 3,Vi 0,.string s]) (by simp [results,Tryz.results163,go_sem]) rfl ⟨rfl,by (repeat (first|exact Bxr _ _|assumption|apply Bxd|apply Bxa|apply Bxs|refine Bxt ?_ (by assumption) ?_|omega|simp))⟩

theorem vnum_exact (n : Int) (w : World) :
  Calls Tryz.prog 165 #[Vi n] w fun e w' => e = .returned (.agg #[Vi 1,Vi n,Vs]) ∧ w' = w.alloc (.cells #[Vi 1,Vi n,Vs] 47):=by
 go_enter Tryz.func165,Tryz.ntmps165
 go_wp2
 exact bodyPost_ret (v:=.agg #[Vi 1,Vi n,Vs]) (by simp [results,Tryz.results165,go_sem]) rfl ⟨rfl,rfl⟩

theorem unm_yes (s : ByteArray) (w : World) (hs : s.size ≤ 2147483648) (h2 : 2 ≤ s.size) (h0 : s[0].toNat = 39) (h1 : s[s.size - 1].toNat = 39) :
  Calls Tryz.prog 161 #[.string s] w fun e w' => e = .returned (.tuple #[.string (s.extract 1 (s.size - 1)),.bool true]) ∧ w' = w:=by
 obtain ⟨m,hm⟩:=Vx (s.size - 1)
 have hm2 : s.size = m + 1:=by omega
 have hmi : (s.size : Int) - 1 = (m : Int):=by omega
 have hmw : IntKind.i64.wrap (m : Int) = m:=by rw [IntKind.wrap_i64] <;> omega
 have h2i : ¬ (s.size : Int) < 2:=by omega
 have q0 : (0 : Int) < (s.size : Int):=by omega
 have q1 : (m : Int) < (s.size : Int):=by omega
 have q2 : (1 : Int) ≤ (m : Int):=by omega
 have q3 : (m : Int) ≤ (s.size : Int):=by omega
 have hk : m < s.size:=by omega
 have h1' : s[m].toNat = 39:=by simp only [← hm]; exact h1
 rw [hm]
 clear h1 hm hm2
 go_enter Tryz.func161,Tryz.ntmps161
 go_wp2
 exact bodyPost_ret (v:=.tuple #[.string (s.extract 1 m),.bool true]) (by simp [results,Tryz.results161,go_sem]) rfl ⟨rfl,rfl⟩

theorem unm_no (s : ByteArray) (w : World) (hs : s.size ≤ 2147483648) (h : ¬ (2 ≤ s.size ∧ ∀ g : 2 ≤ s.size,s[0].toNat = 39 ∧ s[s.size - 1].toNat = 39)) :
  Calls Tryz.prog 161 #[.string s] w fun e w' => e = .returned (.tuple #[Vs,.bool false]) ∧ w' = w:=by
 by_cases h2 : 2 ≤ s.size
 ·have h2i : ¬ (s.size : Int) < 2:=by omega
  have q0 : (0 : Int) < (s.size : Int):=by omega
  have q0' : 0 < s.size:=by omega
  by_cases h0 : s[0].toNat = 39
  ·obtain ⟨m,hm⟩:=Vx (s.size - 1)
   have hk : m < s.size:=by omega
   have h1 : ¬ s[m].toNat = 39:=by
    intro g
    exact h ⟨h2,fun _ => ⟨h0,by simp only [hm]; exact g⟩⟩
   have hmi : (s.size : Int) - 1 = (m : Int):=by omega
   have q1 : (m : Int) < (s.size : Int):=by omega
   have q2 : (0 : Int) ≤ (m : Int):=by omega
   have hmw : IntKind.i64.wrap (m : Int) = m:=by rw [IntKind.wrap_i64] <;> omega
   have h1' : ((s[m].toNat : Int) != 39) = true:=by simp; omega
   clear h hm h1
   go_enter Tryz.func161,Tryz.ntmps161
   go_wp2
   exact bodyPost_ret (v:=.tuple #[Vs,.bool false]) (by simp [results,Tryz.results161,go_sem]) rfl ⟨rfl,rfl⟩
  ·have h0' : ((s[0].toNat : Int) != 39) = true:=by simp; omega
   clear h h0
   go_enter Tryz.func161,Tryz.ntmps161
   go_wp2
   exact bodyPost_ret (v:=.tuple #[Vs,.bool false]) (by simp [results,Tryz.results161,go_sem]) rfl ⟨rfl,rfl⟩
 ·have h2i : (s.size : Int) < 2:=by omega
  clear h
  go_enter Tryz.func161,Tryz.ntmps161
  go_wp2
  exact bodyPost_ret (v:=.tuple #[Vs,.bool false]) (by simp [results,Tryz.results161,go_sem]) rfl ⟨rfl,rfl⟩

def ReadP (s : ByteArray) (w : World) (e : Ending) (w' : World) : Prop:=∃ (v : V3) (ok : Bool),e = .returned (.tuple #[.agg #[Vi v.1,Vi v.2.1,.string v.2.2],.bool ok]) ∧ (∀ u,LitOf s.data.toList u → ok = true ∧ v = u) ∧ Below w.heap.size w w'

theorem lit_first {u : V3} (hu : V3.right u = true) {s : ByteArray} (h : lit u = s.data.toList) (h0 : 0 < s.size) (g : s[0].toNat = 39) : u.1 = 3:=by
 have e0 : s.data.toList[0]? = some s[0]:=by rw [List.getElem?_eq_getElem (by simpa using h0)]; rfl
 rw [← h] at e0
 rcases rt_kind hu with k | k | k | k
 ·rw [lit_null k] at e0; simp at e0; rw [← e0] at g; exact absurd g (by decide)
 ·rw [lit_int k] at e0
  obtain ⟨c,l,e,q⟩:=itoa_head u.2.1
  rw [e] at e0
  simp at e0
  rw [← e0] at g
  omega
 ·rcases (right_bool hu k).1 with q | q
  ·rw [lit_false k q] at e0; simp at e0; rw [← e0] at g; exact absurd g (by decide)
  ·rw [lit_true k q] at e0; simp at e0; rw [← e0] at g; exact absurd g (by decide)
 ·exact k

theorem lit_body {u : V3} {s : ByteArray} (k : u.1 = 3) (h : lit u = s.data.toList) : 2 ≤ s.size ∧ (s.extract 1 (s.size - 1)).data.toList = qbs u.2.2.data.toList ∧ ∀ g : 2 ≤ s.size,s[0].toNat = 39 ∧ s[s.size - 1].toNat = 39:=by
 rw [lit_text k,quo] at h
 have hl:=congrArg List.length h
 simp at hl
 refine ⟨by omega,?_,?_⟩
 ·have e1 : (s.extract 1 (s.size - 1)).data.toList = (s.data.toList.drop 1).take (s.size - 1 - 1):=by simp
  rw [e1,← h]
  have e2 : (39 :: qbs u.2.2.data.toList ++ [39]).drop 1 = qbs u.2.2.data.toList ++ [39]:=rfl
  rw [e2]
  exact List.take_left' (by omega)
 ·intro g
  have e0 : s.data.toList[0]? = some s[0]:=by rw [List.getElem?_eq_getElem (by simp; omega)]; rfl
  have e1 : s.data.toList[s.size - 1]? = some s[s.size - 1]:=by rw [List.getElem?_eq_getElem (by simp; omega)]; rfl
  rw [← h] at e0 e1
  constructor
  ·simp at e0; rw [← e0]; rfl
  ·have e3 : s.size - 1 = (39 :: qbs u.2.2.data.toList).length:=by simp; omega
   have e4 : (39 :: qbs u.2.2.data.toList ++ [39])[s.size - 1]? = some 39:=by
    rw [e3,List.getElem?_append_right (Nat.le_refl _),Nat.sub_self]; rfl
   rw [e4] at e1
   have e5:=Option.some.inj e1
   rw [← e5]; rfl

theorem lit_other {u : V3} (hu : V3.right u = true) {s : ByteArray} (h : lit u = s.data.toList) (n1 : s.data.toList ≠ [78,85,76,76]) (n2 : s.data.toList ≠ [84,82,85,69]) (n3 : s.data.toList ≠ [70,65,76,83,69]) (n4 : u.1 ≠ 3) : u.1 = 1 ∧ u.2.2 = ⟨#[]⟩ ∧ Lib.atoiAll s.data.toList = .ok u.2.1:=by
 rcases rt_kind hu with k | k | k | k
 ·rw [lit_null k] at h; exact absurd h.symm n1
 ·obtain ⟨a,b,c⟩:=rt_num hu k
  rw [lit_int k] at h
  rw [← h]
  exact ⟨k,c,atoi_itoa a b⟩
 ·rcases (right_bool hu k).1 with q | q
  ·rw [lit_false k q] at h; exact absurd h.symm n3
  ·rw [lit_true k q] at h; exact absurd h.symm n2
 ·exact absurd k n4

theorem read_at {s : ByteArray} {w w' : World} (v : V3) (h : LitOf s.data.toList v) (hb : Below w.heap.size w w') : ReadP s w (.returned (.tuple #[.agg #[Vi v.1,Vi v.2.1,.string v.2.2],.bool true])) w' :=
 ⟨v,true,rfl,fun _ hu => ⟨rfl,lit_unique h hu⟩,hb⟩

theorem beq_no {s : ByteArray} {l : List UInt8} (h : s.data.toList ≠ l) : (s.toList == l) = false:=by rw [beq_eq_false_iff_ne,ByteArray.toList_eq]; exact h

theorem read_words (s : ByteArray) (w : World) (h : s = ⟨#[78,85,76,76]⟩ ∨ s = ⟨#[84,82,85,69]⟩ ∨ s = ⟨#[70,65,76,83,69]⟩) : Calls Tryz.prog 146 #[.string s] w (ReadP s w):=by
 rcases h with rfl | rfl | rfl
 ·have hl : LitOf (⟨#[78,85,76,76]⟩ : ByteArray).data.toList (0,0,⟨#[]⟩):=⟨by decide +kernel,by decide +kernel⟩
  have HR : Hid (LitOf (⟨#[78,85,76,76]⟩ : ByteArray).data.toList (0,0,⟨#[]⟩)):=hl
  clear hl
  go_enter Tryz.func146,Tryz.ntmps146
  go_wp2_with (first | (go_at_call 147; refine (null_any _).mono ?_; rintro e w' ⟨rfl, hb⟩; obtain ⟨hc, hf⟩ := bcell hb; have hz := hb.size; (try simp at hz); (try have hz0 : w.heap.size < w'.heap.size := by omega); (try have hz1 : w.heap.size + 1 < w'.heap.size := by omega); (try have hz2 : w.heap.size + 1 + 1 < w'.heap.size := by omega); (try have hz3 : w.heap.size + 1 + 1 + 1 < w'.heap.size := by omega)))
  exact bodyPost_ret (v:=.tuple #[.agg #[Vi 0,Vi 0,Vs],.bool true]) (by simp [results,Tryz.results146,go_sem, *]) rfl (read_at (0,0,⟨#[]⟩) HR.out (by (repeat (first|exact Bxr _ _|assumption|apply Bxd|apply Bxa|apply Bxs|refine Bxt ?_ (by assumption) ?_|omega|simp))))
 ·have hl : LitOf (⟨#[84,82,85,69]⟩ : ByteArray).data.toList (2,b2i true,⟨#[]⟩):=⟨by decide +kernel,by decide +kernel⟩
  have HR : Hid (LitOf (⟨#[84,82,85,69]⟩ : ByteArray).data.toList (2,b2i true,⟨#[]⟩)):=hl
  clear hl
  go_enter Tryz.func146,Tryz.ntmps146
  go_wp2_with (first | (go_at_call 160; refine (truth_any _ _).mono ?_; rintro e w' ⟨rfl, hb⟩; obtain ⟨hc, hf⟩ := bcell hb; have hz := hb.size; (try simp at hz); (try have hz0 : w.heap.size < w'.heap.size := by omega); (try have hz1 : w.heap.size + 1 < w'.heap.size := by omega); (try have hz2 : w.heap.size + 1 + 1 < w'.heap.size := by omega); (try have hz3 : w.heap.size + 1 + 1 + 1 < w'.heap.size := by omega)))
  exact bodyPost_ret (v:=.tuple #[.agg #[Vi 2,Vi (b2i true),Vs],.bool true]) (by simp [results,Tryz.results146,go_sem, *]) rfl (read_at (2,b2i true,⟨#[]⟩) HR.out (by (repeat (first|exact Bxr _ _|assumption|apply Bxd|apply Bxa|apply Bxs|refine Bxt ?_ (by assumption) ?_|omega|simp))))
 ·have hl : LitOf (⟨#[70,65,76,83,69]⟩ : ByteArray).data.toList (2,b2i false,⟨#[]⟩):=⟨by decide +kernel,by decide +kernel⟩
  have HR : Hid (LitOf (⟨#[70,65,76,83,69]⟩ : ByteArray).data.toList (2,b2i false,⟨#[]⟩)):=hl
  clear hl
  go_enter Tryz.func146,Tryz.ntmps146
  go_wp2_with (first | (go_at_call 160; refine (truth_any _ _).mono ?_; rintro e w' ⟨rfl, hb⟩; obtain ⟨hc, hf⟩ := bcell hb; have hz := hb.size; (try simp at hz); (try have hz0 : w.heap.size < w'.heap.size := by omega); (try have hz1 : w.heap.size + 1 < w'.heap.size := by omega); (try have hz2 : w.heap.size + 1 + 1 < w'.heap.size := by omega); (try have hz3 : w.heap.size + 1 + 1 + 1 < w'.heap.size := by omega)))
  exact bodyPost_ret (v:=.tuple #[.agg #[Vi 2,Vi (b2i false),Vs],.bool true]) (by simp [results,Tryz.results146,go_sem, *]) rfl (read_at (2,b2i false,⟨#[]⟩) HR.out (by (repeat (first|exact Bxr _ _|assumption|apply Bxd|apply Bxa|apply Bxs|refine Bxt ?_ (by assumption) ?_|omega|simp))))

theorem read_text (s : ByteArray) (w : World) (hs : s.size ≤ 2147483648) (n1 : (s.toList == [78,85,76,76]) = false) (n2 : (s.toList == [84,82,85,69]) = false) (n3 : (s.toList == [70,65,76,83,69]) = false)
  (h2 : 2 ≤ s.size) (h0 : s[0].toNat = 39) (h1 : s[s.size - 1].toNat = 39) : Calls Tryz.prog 146 #[.string s] w (ReadP s w):=by
 have HU : Hid (∀ w,Calls Tryz.prog 161 #[.string s] w fun e w' => e = .returned (.tuple #[.string (s.extract 1 (s.size - 1)),.bool true]) ∧ w' = w):=fun w => unm_yes s w hs h2 h0 h1
 have HL : Hid (∀ u,LitOf s.data.toList u → u.1 = 3 ∧ u.2.1 = 0 ∧ (s.extract 1 (s.size - 1)).data.toList = qbs u.2.2.data.toList):=fun u hu => by
  have k:=lit_first hu.1 hu.2 (by omega) h0
  exact ⟨k,(rt_text hu.1 k).1,(lit_body k hu.2).2.1⟩
 obtain ⟨T,hT⟩:=Vx (s.extract 1 (s.size - 1))
 have hTs : T.size ≤ 2147483648:=by rw [← hT]; simp; omega
 rw [hT] at HU HL
 clear h0 h1 h2 hT
 go_enter Tryz.func146,Tryz.ntmps146
 go_wp2_with (first | (go_at_call 161; refine (HU.out _).mono ?_; rintro e w' ⟨rfl,hw'⟩; rw [hw']; clear hw') | (go_at_call 162; refine (unq_any T _ hTs).mono ?_; rintro e w' ⟨t,ok,rfl,hx,hb⟩; (have HX : Hid (∀ l,qbs l = T.data.toList → ok = true ∧ t = l):=hx); clear hx; (obtain ⟨hc, hf⟩ := bcell hb; have hz := hb.size; (try simp at hz); (try have hz0 : w.heap.size < w'.heap.size := by omega); (try have hz1 : w.heap.size + 1 < w'.heap.size := by omega); (try have hz2 : w.heap.size + 1 + 1 < w'.heap.size := by omega); (try have hz3 : w.heap.size + 1 + 1 + 1 < w'.heap.size := by omega))) | (go_at_call 163; refine (text_any _ _).mono ?_; rintro e w2 ⟨rfl,hb2⟩; (obtain ⟨hc2,hf2⟩:=bcell hb2); (have hy:=hb2.size); (try simp at hy); (try have hy0 : w.heap.size < w2.heap.size:=by omega)))
 exact bodyPost_ret (v:=.tuple #[.agg #[Vi 3,Vi 0,.string ⟨t.toArray⟩],.bool ok]) (by simp [results,Tryz.results146,go_sem, *]) rfl ⟨(3,0,⟨t.toArray⟩),ok,rfl,fun u hu => by
  obtain ⟨a,b,c⟩:=HL.out u hu
  obtain ⟨d,e⟩:=HX.out _ c.symm
  exact ⟨d,v3_eq a.symm b.symm (by rw [e])⟩,by (repeat (first|exact Bxr _ _|assumption|apply Bxd|apply Bxa|apply Bxs|refine Bxt ?_ (by assumption) ?_|omega|simp))⟩

theorem atoi_any (s : ByteArray) (w : World) (hs : s.size ≤ 2147483648) (h : SV w) :
  Calls Tryz.prog 164 #[.string s] w fun e w' => ((∃ n,Lib.atoiAll s.data.toList = .ok n ∧ e = .returned (.tuple #[Vi n,.nilIface])) ∨ (∃ n N,(∀ m,Lib.atoiAll s.data.toList ≠ .ok m) ∧ e = .returned (.tuple #[Vi n,.iface 185 (.pointer (some ⟨N,0,none⟩))]))) ∧ Below w.heap.size w w':=by
 obtain ⟨_,⟨tp,p,hx⟩,⟨tq,q,hy⟩⟩:=h
 cases e : Lib.atoiAll s.data.toList with
 | ok n =>
  refine (Tryz.strconv_Atoi_ok s (by omega) n e w).mono ?_
  rintro e' w' ⟨rfl,hw⟩
  refine ⟨Or.inl ⟨n,rfl,rfl⟩,?_⟩
  rcases hw with rfl | ⟨t,rfl⟩
  ·exact Below.refl _ _
  ·exact Lib.bytesWorld_below _ _ _
 | «syntax» =>
  refine (Tryz.strconv_Atoi_syntax_var s (by omega) e tp p w hx).mono ?_
  rintro e' w' ⟨N,rfl,_,_,hb⟩
  exact ⟨Or.inr ⟨_,N,fun m g => (by cases g),rfl⟩,hb⟩
 | range =>
  refine (Tryz.strconv_Atoi_range_var s (by omega) e tq q w hy).mono ?_
  rintro e' w' ⟨N,rfl,_,_,hb⟩
  exact ⟨Or.inr ⟨_,N,fun m g => (by cases g),rfl⟩,hb⟩

theorem read_num (s : ByteArray) (w : World) (hs : s.size ≤ 2147483648) (hv : SV w) (n1 : (s.toList == [78,85,76,76]) = false) (n2 : (s.toList == [84,82,85,69]) = false) (n3 : (s.toList == [70,65,76,83,69]) = false)
  (h : ¬ (2 ≤ s.size ∧ ∀ g : 2 ≤ s.size,s[0].toNat = 39 ∧ s[s.size - 1].toNat = 39)) : Calls Tryz.prog 146 #[.string s] w (ReadP s w):=by
 have HU : Hid (∀ w,Calls Tryz.prog 161 #[.string s] w fun e w' => e = .returned (.tuple #[Vs,.bool false]) ∧ w' = w):=fun w => unm_no s w hs h
 have HL : Hid (∀ u,LitOf s.data.toList u → u.1 = 1 ∧ u.2.2 = ⟨#[]⟩ ∧ Lib.atoiAll s.data.toList = .ok u.2.1):=fun u hu => by
  refine lit_other hu.1 hu.2 ?_ ?_ ?_ ?_
  ·rw [beq_eq_false_iff_ne,ByteArray.toList_eq] at n1; exact n1
  ·rw [beq_eq_false_iff_ne,ByteArray.toList_eq] at n2; exact n2
  ·rw [beq_eq_false_iff_ne,ByteArray.toList_eq] at n3; exact n3
  ·intro k
   obtain ⟨a,_,b⟩:=lit_body k hu.2
   exact h ⟨a,b⟩
 have HSV : Hid (SV w):=hv
 clear h hv
 go_enter Tryz.func146,Tryz.ntmps146
 go_wp2_with (first | (go_at_call 161; refine (HU.out _).mono ?_; rintro e w' ⟨rfl,hw'⟩; rw [hw']; clear hw'))
 refine (atoi_any s _ hs (HSV.out.alloc _)).mono ?_
 rintro e w' ⟨he,hb⟩
 obtain ⟨hc,hf⟩:=bcell hb
 have hz:=hb.size
 simp at hz
 have hz0 : w.heap.size < w'.heap.size:=by omega
 rcases he with ⟨n,ha,rfl⟩ | ⟨n,N,ha,rfl⟩
 ·have HA : Hid (Lib.atoiAll s.data.toList = .ok n):=ha
  clear ha
  go_wp2_with fail
  go_region_with (first | (go_at_call 165; refine (vnum_exact _ _).mono ?_; rintro e w2 ⟨rfl,rfl⟩))
  all_goals
   go_wp2
   exact bodyPost_ret (v:=.tuple #[.agg #[Vi 1,Vi n,Vs],.bool true]) (by simp [results,Tryz.results146,go_sem, *]) rfl ⟨(1,n,⟨#[]⟩),true,rfl,fun u hu => by
    obtain ⟨a,b,c⟩:=HL.out u hu
    rw [HA.out] at c
    injection c with c
    exact ⟨rfl,v3_eq a.symm c b.symm⟩,by (repeat (first | exact Below.refl _ _ | assumption | refine Below.drew ?_ | refine below_drewN ?_ _ | refine Below.alloc ?_ (by first | omega | (simp; done) | (simp; omega)) _ | refine Below.setCell ?_ (by first | omega | (simp; done) | (simp; omega)) _ | refine Below.trans ?_ (Below.mono (by assumption) (by first | omega | (simp; done) | (simp; omega)))))⟩
 ·have HA : Hid (∀ m,Lib.atoiAll s.data.toList ≠ .ok m):=ha
  clear ha
  go_wp2_with fail
  go_region_with (first | (go_at_call 165; refine (vnum_exact _ _).mono ?_; rintro e w2 ⟨rfl,rfl⟩))
  all_goals
   go_wp2
   exact bodyPost_ret (v:=.tuple #[.agg #[Vi 1,Vi n,Vs],.bool false]) (by simp [results,Tryz.results146,go_sem, *]) rfl ⟨(1,n,⟨#[]⟩),false,rfl,fun u hu => absurd (HL.out u hu).2.2 (HA.out _),by (repeat (first | exact Below.refl _ _ | assumption | refine Below.drew ?_ | refine below_drewN ?_ _ | refine Below.alloc ?_ (by first | omega | (simp; done) | (simp; omega)) _ | refine Below.setCell ?_ (by first | omega | (simp; done) | (simp; omega)) _ | refine Below.trans ?_ (Below.mono (by assumption) (by first | omega | (simp; done) | (simp; omega)))))⟩

theorem read_any (s : ByteArray) (w : World) (hs : s.size ≤ 2147483648) (hv : SV w) : Calls Tryz.prog 146 #[.string s] w (ReadP s w):=by
 by_cases n1 : s.data.toList = [78,85,76,76]
 ·exact read_words s w (Or.inl (bytes_eq (by simpa using n1)))
 by_cases n2 : s.data.toList = [84,82,85,69]
 ·exact read_words s w (Or.inr (Or.inl (bytes_eq (by simpa using n2))))
 by_cases n3 : s.data.toList = [70,65,76,83,69]
 ·exact read_words s w (Or.inr (Or.inr (bytes_eq (by simpa using n3))))
 by_cases h : 2 ≤ s.size ∧ ∀ g : 2 ≤ s.size,s[0].toNat = 39 ∧ s[s.size - 1].toNat = 39
 ·exact read_text s w hs (beq_no n1) (beq_no n2) (beq_no n3) h.1 (h.2 h.1).1 (h.2 h.1).2
 ·exact read_num s w hs hv (beq_no n1) (beq_no n2) (beq_no n3) h

noncomputable def paV (s : ByteArray) : Value:=.tuple #[.agg #[Vi (parR s.data.toList).1.1,Vi (parR s.data.toList).1.2.1,.string (parR s.data.toList).1.2.2],Vi (parR s.data.toList).2]

theorem paV_ok {s : ByteArray} {v : V3} (h : LitOf s.data.toList v) : paV s = .tuple #[.agg #[Vi v.1,Vi v.2.1,.string v.2.2],Vi 0]:=by unfold paV; rw [parR_ok h]

theorem paV_no {s : ByteArray} (h : ∀ v,¬ LitOf s.data.toList v) : paV s = .tuple #[.agg #[Vi 0,Vi 0,Vs],Vi 10]:=by unfold paV; rw [parR_no h]

theorem parse_any (s : ByteArray) (w : World) (hs : s.size ≤ 2147483648) (hv : SV w) :
  Calls Tryz.prog 119 #[.string s] w fun e w' => e = .returned (paV s) ∧ Below w.heap.size w w':=by
 have HSV : Hid (SV w):=hv
 clear hv
 go_enter Tryz.func119,Tryz.ntmps119
 go_wp2_with fail
 refine (read_any s _ hs (HSV.out.alloc _)).mono ?_
 rintro e w1 ⟨⟨k,n,t⟩,ok,rfl,hx,hb1⟩
 have hz1:=hb1.size
 simp at hz1
 have hz0 : w.heap.size < w1.heap.size:=by omega
 have hz0' : w.heap.size < w1.heap.size + 1:=by omega
 obtain ⟨hc1,hf1⟩:=bcell hb1
 have HX : Hid (∀ u,LitOf s.data.toList u → ok = true ∧ (k,n,t) = u):=hx
 clear hx
 cases ok with
 | false =>
  have HP : Hid (paV s = .tuple #[.agg #[Vi 0,Vi 0,Vs],Vi 10]):=paV_no fun v g => absurd (HX.out v g).1 (by decide)
  go_wp2_with (first | (go_at_call 147; refine (null_any _).mono ?_; rintro e w' ⟨rfl,hb⟩; (obtain ⟨hc, hf⟩ := bcell hb; have hz := hb.size; (try simp at hz); (try have hz0 : w.heap.size < w'.heap.size := by omega); (try have hz1 : w.heap.size + 1 < w'.heap.size := by omega); (try have hz2 : w.heap.size + 1 + 1 < w'.heap.size := by omega); (try have hz3 : w.heap.size + 1 + 1 + 1 < w'.heap.size := by omega))))
  exact bodyPost_ret (v:=.tuple #[.agg #[Vi 0,Vi 0,Vs],Vi 10]) (by simp [results,Tryz.results119,go_sem, *]) rfl ⟨by rw [HP.out],by (repeat (first | exact Below.refl _ _ | assumption | refine Below.drew ?_ | refine below_drewN ?_ _ | refine Below.alloc ?_ (by first | omega | (simp; done) | (simp; omega)) _ | refine Below.setCell ?_ (by first | omega | (simp; done) | (simp; omega)) _ | refine Below.trans ?_ (Below.mono (by assumption) (by first | omega | (simp; done) | (simp; omega)))))⟩
 | true =>
  go_wp2_with fail
  refine (print_any (k,n,t) _ (((HSV.out.alloc _).later hb1).alloc _)).mono ?_
  rintro e w2 ⟨rfl,hb2⟩
  have hz2:=hb2.size
  simp at hz2
  have hz3 : w.heap.size < w2.heap.size:=by omega
  have hz4 : w1.heap.size < w2.heap.size:=by omega
  obtain ⟨hc2,hf2⟩:=bcell hb2
  have c0 : w2.cell? ⟨w1.heap.size,0,none⟩ = some (Vi k):=cell_later hb2 (by simp)
  have c1 : w2.cell? ⟨w1.heap.size,1,none⟩ = some (Vi n):=cell_later hb2 (by simp)
  have c2 : w2.cell? ⟨w1.heap.size,2,none⟩ = some (.string t):=cell_later hb2 (by simp)
  by_cases hr : (prR (k,n,t)).2 = 0 ∧ (prR (k,n,t)).1 = s.data.toList
  ·have hl:=prR_lit hr.1 hr.2
   have HP : Hid (paV s = .tuple #[.agg #[Vi k,Vi n,.string t],Vi 0]):=paV_ok hl
   have hpv : prV (k,n,t) = .tuple #[.string s,Vi 0]:=by
    unfold prV
    rw [hr.1,hr.2]
   have hss : (s.toList == s.toList) = true:=by simp
   rw [hpv]
   clear hr hl hpv
   go_wp2
   exact bodyPost_ret (v:=.tuple #[.agg #[Vi k,Vi n,.string t],Vi 0]) (by simp [results,Tryz.results119,go_sem, *]) rfl ⟨by rw [HP.out],by (repeat (first | exact Below.refl _ _ | assumption | refine Below.drew ?_ | refine below_drewN ?_ _ | refine Below.alloc ?_ (by first | omega | (simp; done) | (simp; omega)) _ | refine Below.setCell ?_ (by first | omega | (simp; done) | (simp; omega)) _ | refine Below.trans ?_ (Below.mono (by assumption) (by first | omega | (simp; done) | (simp; omega)))))⟩
  ·have HP : Hid (paV s = .tuple #[.agg #[Vi 0,Vi 0,Vs],Vi 10]):=paV_no fun v g => by
    obtain ⟨_,e⟩:=HX.out v g
    subst e
    exact hr (by rw [prR_ok g.1]; exact ⟨rfl,g.2⟩)
   obtain ⟨p,hp⟩ : ∃ p : ByteArray,(⟨(prR (k,n,t)).1.toArray⟩ : ByteArray) = p:=⟨_,rfl⟩
   obtain ⟨z,hzz⟩:=Vx ((prR (k,n,t)).2)
   have hpv : prV (k,n,t) = .tuple #[.string p,Vi z]:=by unfold prV; rw [hp,hzz]
   have hcase : (z != 0) = true ∨ ((z != 0) = false ∧ (p.toList == s.toList) = false):=by
    by_cases q : z = 0
    ·refine Or.inr ⟨by simp [q],?_⟩
     rw [beq_eq_false_iff_ne,ByteArray.toList_eq,ByteArray.toList_eq]
     intro e
     refine hr ⟨hzz.trans q,?_⟩
     rw [← e,← hp]
    ·exact Or.inl (by simpa using q)
   rw [hpv]
   clear hr hpv hp hzz
   rcases hcase with q | ⟨q,q'⟩
   all_goals
    go_wp2_with (first | (go_at_call 147; refine (null_any _).mono ?_; rintro e w' ⟨rfl,hb⟩; (obtain ⟨hc, hf⟩ := bcell hb; have hz := hb.size; (try simp at hz); (try have hz0 : w.heap.size < w'.heap.size := by omega); (try have hz1 : w.heap.size + 1 < w'.heap.size := by omega); (try have hz2 : w.heap.size + 1 + 1 < w'.heap.size := by omega); (try have hz3 : w.heap.size + 1 + 1 + 1 < w'.heap.size := by omega))))
    exact bodyPost_ret (v:=.tuple #[.agg #[Vi 0,Vi 0,Vs],Vi 10]) (by simp [results,Tryz.results119,go_sem, *]) rfl ⟨by rw [HP.out],by (repeat (first | exact Below.refl _ _ | assumption | refine Below.drew ?_ | refine below_drewN ?_ _ | refine Below.alloc ?_ (by first | omega | (simp; done) | (simp; omega)) _ | refine Below.setCell ?_ (by first | omega | (simp; done) | (simp; omega)) _ | refine Below.trans ?_ (Below.mono (by assumption) (by first | omega | (simp; done) | (simp; omega)))))⟩
end Go.Proofs.YtbfjmccpcbhljaaGreatDoor
