/- C7 W1 W11 W12 W3 W4 W5 -/
import Derived.ScopeJumps
import Derived.Test.YtbfjmccpcbhljaaGreatDoorChecked
import Derived.Test.YtbfjmccpcbhljaaGreatDoorTM1
import Derived.WalkKit
import Derived.WalkSpells
import Derived.WalkLawsBesides
import Derived.Deep.RegionHeld3
import Derived.Deep.Light
import Derived.Deep.RegionLaw
import Derived.Deep.AppendLies
import Derived.Laws.IdiomStrings
set_option maxHeartbeats 1000000
set_option maxRecDepth 100000
namespace Go.Proofs.YtbfjmccpcbhljaaGreatDoor
open Go
def jumps (J : Nat → Act → World → Prop) (Q : Exit → Act → World → Prop) : Exit → Act → World → Prop
 | .goto l,a,w => J l a w
 | .normal,a,w => Q .normal a w
 | .exit id,a,w => Q (.exit id) a w
 | .ret,a,w => Q .ret a w
 | .panic ch,a,w => Q (.panic ch) a w
 | .outgrown,a,w => Q .outgrown a w

theorem wp_scope_labels {P : Program} {a : Act} {w : World} {Q : Exit → Act → World → Prop} {c : Code} (J : Nat → Act → World → Prop) (μ : Nat → Act → World → Nat) (rest : Nat → Code) (hf : ∀ l a w,J l a w → findLabel c l = some (rest l))
  (first : c.wp P (jumps J Q) a w)
  (pass : ∀ l a w,J l a w → (rest l).wp P (jumps (fun l' a' w' => J l' a' w' ∧ μ l' a' w' < μ l a w) Q) a w) : (Code.scope c).wp P Q a w:=by
 intro b k cs
 have key : ∀ n l a w,μ l a w = n → J l a w → ∃ e a' w',Q e a' w' ∧ Arrives P (lone (b.at a (.code (rest l) :: .inScope c :: k)) cs w) b k cs e a' w':=by
  intro n
  induction n using Nat.strongRecOn with
  | _ n ih =>
   intro l a w hn hJ
   obtain ⟨e,a₁,w₁,hq,harr⟩:=pass l a w hJ b (.inScope c :: k) cs
   cases e with
   | normal => exact ⟨.normal,a₁,w₁,hq,Steps.trans harr (.one step_inScope)⟩
   | exit id => exact ⟨.exit id,a₁,w₁,hq,fun k' hk => harr k' (by simp [exitTo,hk])⟩
   | goto l' =>
    obtain ⟨hJ',hlt⟩:=hq
    have hg : gotoIn l' (.inScope c :: k) = some (.code (rest l') :: .inScope c :: k):=by simp [gotoIn,hf l' a₁ w₁ hJ']
    obtain ⟨e₂,a₂,w₂,hq₂,harr₂⟩:=ih _ (by omega) l' a₁ w₁ rfl hJ'
    exact ⟨e₂,a₂,w₂,hq₂,.of_steps (harr _ hg) harr₂⟩
   | ret => exact ⟨_,a₁,w₁,hq,harr⟩
   | panic ch => exact ⟨_,a₁,w₁,hq,harr⟩
   | outgrown => exact ⟨_,a₁,w₁,hq,harr⟩
 obtain ⟨e,a₁,w₁,hq,harr⟩:=first b (.inScope c :: k) cs
 cases e with
 | normal => exact ⟨.normal,a₁,w₁,hq,.head step_scope (Steps.trans harr (.one step_inScope))⟩
 | exit id => exact ⟨.exit id,a₁,w₁,hq,fun k' hk => .head step_scope (harr k' (by simp [exitTo,hk]))⟩
 | goto l' =>
  have hJ' : J l' a₁ w₁:=hq
  have hg : gotoIn l' (.inScope c :: k) = some (.code (rest l') :: .inScope c :: k):=by simp [gotoIn,hf l' a₁ w₁ hJ']
  obtain ⟨e₂,a₂,w₂,hq₂,harr₂⟩:=key _ l' a₁ w₁ rfl hJ'
  exact ⟨e₂,a₂,w₂,hq₂,.of_steps (.head step_scope (harr _ hg)) harr₂⟩
 | ret => exact ⟨_,a₁,w₁,hq,.of_steps (.one step_scope) harr⟩
 | panic ch => exact ⟨_,a₁,w₁,hq,.of_steps (.one step_scope) harr⟩
 | outgrown => exact ⟨_,a₁,w₁,hq,.of_steps (.one step_scope) harr⟩
end Go.Proofs.YtbfjmccpcbhljaaGreatDoor

namespace Go.Proofs.YtbfjmccpcbhljaaGreatDoor
open Go.RowKit
theorem ret_bool {a b : Bool} (h : a = b) : Ending.returned (.bool a) = .returned (.bool b):=by rw [h]

theorem right_any (k n : Int) (s : ByteArray) (w : World) :
  Calls Tryz.prog 145 #[.agg #[Vi k,Vi n,.string s]] w fun e w' => e = .returned (.bool (rgt k n s)) ∧ Below w.heap.size w w':=by
 go_enter Tryz.func145,Tryz.ntmps145
 go_wp2
 all_goals go_ret
 all_goals refine ⟨ret_bool ?_,(Below.refl _ _).alloc (Nat.le_refl _) _⟩
 all_goals go_light
 all_goals (unfold rgt; (repeat' split) <;> simp_all <;> omega)

theorem null_any (w : World) :
  Calls Tryz.prog 147 #[] w fun e w' => e = .returned (.agg #[Vi 0,Vi 0,Vs]) ∧ Below w.heap.size w w':=by
 go_enter Tryz.func147,Tryz.ntmps147
 go_wp2
 exact bodyPost_ret (v:=.agg #[Vi 0,Vi 0,Vs]) (by simp [results,Tryz.results147,go_sem]) rfl ⟨rfl,by (repeat (first|exact Bxr _ _|assumption|apply Bxd|apply Bxa|apply Bxs|refine Bxt ?_ (by assumption) ?_|omega|simp))⟩

theorem truth_any (b : Bool) (w : World) :
  Calls Tryz.prog 160 #[.bool b] w fun e w' => e = .returned (.agg #[Vi 2,Vi (b2i b),Vs]) ∧ Below w.heap.size w w':=by
 cases b
 all_goals
  go_enter Tryz.func160,Tryz.ntmps160
  go_wp2
 ·exact bodyPost_ret (v:=.agg #[Vi 2,Vi 0,Vs]) (by simp [results,Tryz.results160,go_sem]) rfl ⟨rfl,by (repeat (first|exact Bxr _ _|assumption|apply Bxd|apply Bxa|apply Bxs|refine Bxt ?_ (by assumption) ?_|omega|simp))⟩
 ·exact bodyPost_ret (v:=.agg #[Vi 2,Vi 1,Vs]) (by simp [results,Tryz.results160,go_sem]) rfl ⟨rfl,by (repeat (first|exact Bxr _ _|assumption|apply Bxd|apply Bxa|apply Bxs|refine Bxt ?_ (by assumption) ?_|omega|simp))⟩

theorem bcell {W w1 : World} (hb : Below W.heap.size W w1) : (∀ b o,b < W.heap.size → w1.cell? ⟨b,o,none⟩ = W.cell? ⟨b,o,none⟩) ∧ (∀ b o,b < W.heap.size → w1.frozen? ⟨b,o,none⟩ = W.frozen? ⟨b,o,none⟩) :=
 ⟨fun b o h => hb.cell (p:=⟨b,o,none⟩) h,fun b o h => hb.frozen (p:=⟨b,o,none⟩) h⟩

def bv (l : List UInt8) : List Value:=l.map fun b => .int .u8 (b.toNat : Int)

theorem bv_append (l m : List UInt8) : bv (l ++ m) = bv l ++ bv m:=List.map_append

theorem bv_length (l : List UInt8) : (bv l).length = l.length:=List.length_map _

theorem bv_one (l : List UInt8) : ∀ u ∈ bv l,u.oneCell' = true:=by
 intro u hu
 obtain ⟨b,_,rfl⟩:=List.mem_map.1 hu
 rfl

theorem Tryz.info5 : (Tryz.prog.info? 5).map (fun i => (i.zero,i.size,i.bytes)) = some (some (.int .u8 0),1,1):=by kernel_rfl

theorem ownsRow_drew {w : World} {base : Nat} {e : TypeId} {size : Nat} {v : Value} {n : Nat} {xs : List Value} (h : w.ownsRow base e size v n xs) : w.drew.ownsRow base e size v n xs:=h

theorem aq_mark (B n : Nat) (v : Value) (xs : List UInt8) (w : World) (hown : w.ownsRow B 5 1 v n (bv xs)) (hn : n ≤ 1000000000000) (hB : B ≤ w.heap.size) :
  Calls Tryz.prog 168 #[v,.int .u8 39] w fun e w' => ∃ v',e = .returned v' ∧ w'.ownsRow B 5 1 v' (n + 2) (bv (xs ++ [39,39])) ∧ Below B w w':=by
 obtain ⟨i0,hi,hz0,hz1,hz2⟩:=info_parts Tryz.info5
 have hlt:=hown.lt
 go_enter Tryz.func168,Tryz.ntmps168
 go_wp2_with (first | (at_builtin; refine wpList_append_own _ rfl _ _ 40 rfl B 5 i0 (.int .u8 0) 1 1 Tryz.underlying40 hi hz0 hz1 hz2 rfl (by decide) _ _ _ rfl (hown.alloc _) ⟨w.heap.size,0,none⟩ 2 2 (bv [39,39]) rfl rfl ?c1 ?c2 ?c3 ?c4 ?c5 ?_))
 case c1 =>
  intro j u hj
  match j,hj with
  | 0,hj => simp [bv] at hj; subst hj; simp [Addr.add]
  | 1,hj => simp [bv] at hj; subst hj; simp [Addr.add]
 case c2 => exact bv_one _
 case c3 => unfold maxLen; omega
 case c4 => omega
 case c5 => simp; omega
 ·intro v' w1 hown' hgrow _
  go_wp2
  go_ret
  refine ⟨_,rfl,by rw [bv_append]; exact hown',?_⟩
  exact ((Below.refl _ _).alloc hB _).grown hgrow (by simp; omega) fun k hk => (hlt k hk).1

theorem hexd_at (n : Nat) (h : n < (⟨#[48,49,50,51,52,53,54,55,56,57,97,98,99,100,101,102]⟩ : ByteArray).size) :
  (⟨#[48,49,50,51,52,53,54,55,56,57,97,98,99,100,101,102]⟩ : ByteArray)[n]'h = hexd n:=by
 unfold hexd
 rw [Array.getD_eq_getD_getElem?,Array.getElem?_eq_getElem (by exact h)]
 rfl

theorem and15 : ∀ c : Fin 256,bits BinOp.and IntKind.u8 ((c.val : Nat) : Int) 15 = ((c.val % 16 : Nat) : Int):=by decide +kernel

theorem cells3 (w : World) (y z : UInt8) (t : TypeId) : ∀ j u,(bv [92,y,z])[j]? = some u →
  ((w.alloc (.cells #[.int .u8 92,.int .u8 (y.toNat : Int),.int .u8 (z.toNat : Int)] t)).drew).cell? ((⟨w.heap.size,0,none⟩ : Addr).add j) = some u:=by
 intro j u hj
 match j,hj with
 | 0,hj => simp [bv] at hj; subst hj; simp [Addr.add]
 | 1,hj => simp [bv] at hj; subst hj; simp [Addr.add]
 | 2,hj => simp [bv] at hj; subst hj; simp [Addr.add]

theorem aq_hex (B n : Nat) (v : Value) (xs : List UInt8) (c : Nat) (w : World) (hown : w.ownsRow B 5 1 v n (bv xs)) (hn : n ≤ 1000000000000) (hB : B ≤ w.heap.size) (hc : c < 256) (_h1 : ¬ c = 39) (h2 : c = 92 ∨ c < 32 ∨ 126 < c) :
  Calls Tryz.prog 168 #[v,.int .u8 (c : Int)] w fun e w' => ∃ v',e = .returned v' ∧ w'.ownsRow B 5 1 v' (n + 3) (bv (xs ++ [92,hexd (c / 16),hexd (c % 16)])) ∧ Below B w w':=by
 obtain ⟨i0,hi,hz0,hz1,hz2⟩:=info_parts Tryz.info5
 have hlt:=hown.lt
 have h1' : ((c : Int) == 39) = false:=by simp; omega
 have hb15:=and15 ⟨c,hc⟩
 simp only at hb15
 have e1 : (0 : Int) ≤ (c : Int) / 16:=by omega
 have e2 : (c : Int) / 16 < 16:=by omega
 have e3 : ((c : Int) / 16).toNat = c / 16:=by omega
 obtain ⟨d,hd⟩:=Vx (c % 16)
 obtain ⟨g,hg⟩:=Vx (c / 16)
 have e4 : (0 : Int) ≤ (d : Int):=by omega
 have e5 : (d : Int) < 16:=by omega
 have hx1:=fun h => hexd_at g h
 have hx2:=fun h => hexd_at d h
 rw [hd] at hb15
 rw [hg] at e3
 rw [hd,hg]
 have h2' : ((c : Int) == 92) = true ∨ (((c : Int) == 92) = false ∧ (c : Int) < 32) ∨ (((c : Int) == 92) = false ∧ ¬ (c : Int) < 32 ∧ 126 < (c : Int)):=by
  by_cases a : c = 92
  ·exact Or.inl (by simp [a])
  ·by_cases b : (c : Int) < 32
   ·exact Or.inr (Or.inl ⟨by simp; omega,b⟩)
   ·exact Or.inr (Or.inr ⟨by simp; omega,b,by omega⟩)
 clear h2 hd hg
 rcases h2' with k1 | ⟨k1,k2⟩ | ⟨k1,k2,k3⟩
 all_goals
  go_enter Tryz.func168,Tryz.ntmps168
  go_wp2
  go_region_law (first | (refine step_append_lies _ rfl _ _ 40 rfl B 5 i0 (.int .u8 0) 1 1 Tryz.underlying40 hi hz0 hz1 hz2 rfl (by decide) v n (bv xs) rfl (ownsRow_drew (hown.alloc _)) ⟨w.heap.size,0,none⟩ 3 3 (bv [92,hexd g,hexd d]) rfl rfl (cells3 w (hexd g) (hexd d) _) (bv_one _) (by decide) (by unfold maxLen; omega) (by omega) (by simp; omega) (w.heap.size + 1) (by simp) ?_; intro g' cap' w1 hown' hgrow _ _))
  all_goals
   go_wp2
   go_ret
   refine ⟨_,rfl,by rw [bv_append]; exact hown',?_⟩
   exact (((Below.refl _ _).alloc hB _).drew).grown hgrow (by simp; omega) fun k hk => (hlt k hk).1

theorem aq_plain (B n : Nat) (v : Value) (xs : List UInt8) (c : UInt8) (w : World) (hown : w.ownsRow B 5 1 v n (bv xs)) (hn : n ≤ 1000000000000) (hB : B ≤ w.heap.size) (h1 : ¬ c.toNat = 39) (h2 : ¬ (c.toNat = 92 ∨ c.toNat < 32 ∨ 126 < c.toNat)) :
  Calls Tryz.prog 168 #[v,.int .u8 (c.toNat : Int)] w fun e w' => ∃ v',e = .returned v' ∧ w'.ownsRow B 5 1 v' (n + 1) (bv (xs ++ [c])) ∧ Below B w w':=by
 obtain ⟨i0,hi,hz0,hz1,hz2⟩:=info_parts Tryz.info5
 have hlt:=hown.lt
 have h1' : ((c.toNat : Int) == 39) = false:=by simp; omega
 have k1 : ((c.toNat : Int) == 92) = false:=by simp; omega
 have k2 : ¬ (c.toNat : Int) < 32:=by omega
 have k3 : ¬ 126 < (c.toNat : Int):=by omega
 clear h1 h2
 go_enter Tryz.func168,Tryz.ntmps168
 go_wp2_with (first | (at_builtin; refine wpList_append_own _ rfl _ _ 40 rfl B 5 i0 (.int .u8 0) 1 1 Tryz.underlying40 hi hz0 hz1 hz2 rfl (by decide) _ _ _ rfl (hown.alloc _) ⟨w.heap.size,0,none⟩ 1 1 (bv [c]) rfl rfl ?c1 ?c2 ?c3 ?c4 ?c5 ?_))
 case c1 =>
  intro j u hj
  match j,hj with
  | 0,hj => simp [bv] at hj; subst hj; simp
 case c2 => exact bv_one _
 case c3 => unfold maxLen; omega
 case c4 => omega
 case c5 => first | omega | (simp; omega)
 ·intro v' w1 hown' hgrow _
  go_wp2
  go_ret
  refine ⟨_,rfl,by rw [bv_append]; exact hown',?_⟩
  exact ((Below.refl _ _).alloc hB _).grown hgrow (by simp; omega) fun k hk => (hlt k hk).1

theorem aq_any (B n : Nat) (v : Value) (xs : List UInt8) (c : UInt8) (w : World) (hown : w.ownsRow B 5 1 v n (bv xs)) (hn : n ≤ 1000000000000) (hB : B ≤ w.heap.size) :
  Calls Tryz.prog 168 #[v,.int .u8 (c.toNat : Int)] w fun e w' => ∃ v',e = .returned v' ∧ w'.ownsRow B 5 1 v' (n + (qb c).length) (bv (xs ++ qb c)) ∧ Below B w w':=by
 by_cases h1 : c.toNat = 39
 ·rw [qb_mark h1,h1]
  exact aq_mark B n v xs w hown hn hB
 ·by_cases h2 : c.toNat = 92 ∨ c.toNat < 32 ∨ 126 < c.toNat
  ·rw [qb_hex h1 h2]
   exact aq_hex B n v xs c.toNat w hown hn hB (UInt8.toNat_lt c) h1 h2
  ·rw [qb_plain h1 h2]
   exact aq_plain B n v xs c w hown hn hB h1 h2

theorem own_string {w : World} {B n : Nat} {v : Value} {xs : List UInt8} (h : w.ownsRow B 5 1 v n (bv xs)) (hn : 0 < n) :
  ∃ g cap,v = .slice (some ⟨g,0,none⟩) n cap ∧ (convert 40 9 (.slice (some ⟨g,0,none⟩) n cap)).run Tryz.prog w = .ok (.string ⟨xs.toArray⟩) w:=by
 have hc:=fun g => h.cells (g:=g)
 obtain ⟨hl,⟨_,h0⟩ | ⟨g,cap,cur,rfl,_,_,_,_,_,_⟩⟩:=h
 ·omega
 ·rw [bv_length] at hl
  refine ⟨g,cap,rfl,?_⟩
  have hn' : n = xs.length:=by omega
  subst hn'
  refine run_convert_bytes_back w 40 9 5 ⟨g,0,none⟩ cap xs Tryz.underlying40 Tryz.underlying5 Tryz.underlying9 ?_
  intro j hj
  exact hc g rfl j _ (by simp [bv,hj])

theorem quote_any (s : ByteArray) (w : World) (hs : s.size ≤ 100000000000) :
  Calls Tryz.prog 153 #[.string s] w fun e w' => e = .returned (.string ⟨(quo s).toArray⟩) ∧ Below w.heap.size w w':=by
 obtain ⟨i0,hi,hz0,hz1,hz2⟩:=info_parts Tryz.info5
 go_enter Tryz.func153,Tryz.ntmps153
 go_wp2
 go_loopw [3,8] (fun v i wr => ∃ k : Nat,k ≤ s.size ∧ i = Vi k ∧ wr.ownsRow w.heap.size 5 1 v (39 :: qbs (s.data.toList.take k)).length (bv (39 :: qbs (s.data.toList.take k))) ∧ Below w.heap.size w wr) (fun _ i _ => s.size - (intOf i).toNat)
 case atStart =>
  refine ⟨0,Nat.zero_le _,rfl,⟨by simp [bv,qbs],Or.inr ⟨w.heap.size,1,#[.int .u8 39],rfl,Nat.le_refl _,?_,by simp [qbs],by decide,by simp,by simp [bv,qbs]⟩⟩,(Below.refl _ _).alloc (Nat.le_refl _) _⟩
  exact heap_alloc_new w _
 case round =>
  obtain ⟨k,hk,rfl,hown,hb⟩:=hrel
  have hsz:=hb.size
  have hql:=qbs_len (s.data.toList.take k)
  have htl : (s.data.toList.take k).length ≤ k:=List.length_take_le _ _
  by_cases hlt : k < s.size
  ·have HQ : Hid (qbs (s.data.toList.take (k + 1)) = qbs (s.data.toList.take k) ++ qb s[k]):=qbs_take s k hlt
   go_wp2_with (first | (go_at_call 168; refine (aq_any w.heap.size _ _ _ s[k] _ hown (by simp only [List.length_cons]; omega) (by omega)).mono ?_; rintro e w' ⟨v',rfl,hown',hb'⟩))
   go_roundw
   case rel => exact ⟨k + 1,by omega,by go_num,by rw [HQ.out]; simpa [Nat.add_assoc,Nat.add_comm] using hown',hb.trans hb'⟩
   case measure => simp [intOf]; omega
  ·have hk' : k = s.size:=by omega
   subst hk'
   have htk : s.data.toList.take s.size = s.data.toList:=List.take_of_length_le (by simp)
   rw [htk] at hown hql htl
   clear htk
   have hlt:=hown.lt
   have hl2 : s.data.toList.length = s.size:=by simp
   go_wp2_with (first | (at_builtin; refine wpList_append_own _ rfl _ _ 40 rfl w.heap.size 5 i0 (.int .u8 0) 1 1 Tryz.underlying40 hi hz0 hz1 hz2 rfl (by decide) _ _ _ rfl (hown.alloc _) ⟨wr.heap.size,0,none⟩ 1 1 (bv [39]) rfl rfl ?c1 ?c2 ?c3 ?c4 ?c5 ?_))
   case c1 =>
    intro j u hj
    match j,hj with
    | 0,hj => simp [bv] at hj; subst hj; first | (simp [Addr.add]; done) | (go_simp; done)
   case c2 => exact bv_one _
   case c3 => simp only [List.length_cons]; unfold maxLen; omega
   case c4 => simp only [List.length_cons]; omega
   case c5 => simp; omega
   ·intro v' w1 hown' hgrow _
    rw [← bv_append] at hown'
    obtain ⟨g,cap,rfl,hcv⟩:=own_string hown' (by simp)
    have hbb : Below w.heap.size w w1:=(hb.alloc (by omega) _).grown hgrow (by simp; omega) fun k hk => (hlt k hk).1
    clear hown' hgrow hown hlt
    go_wp2
    go_ret
    exact ⟨rfl,hbb⟩

end Go.Proofs.YtbfjmccpcbhljaaGreatDoor
