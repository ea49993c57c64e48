/- A40 A41 A42 A43 A44 A45 A46 -/
import Derived.Test.YtbfjmccpcbhljaaGreatDoorTA56
set_option maxHeartbeats 8000000
set_option maxRecDepth 100000
namespace Go.Proofs.YtbfjmccpcbhljaaGreatDoor
open Go.RowKit
def TR (w : World) (p : Option Addr) (l : List (Tk × Nat)) : Prop :=
 ∀ i (h : i < l.length),∃ b off,p = some ⟨b,off,none⟩ ∧ w.cell? ⟨b,off + i * 4,none⟩ = some (Vi l[i].1.1) ∧ w.cell? ⟨b,off + i * 4 + 1,none⟩ = some (Vi l[i].1.2.1) ∧ w.cell? ⟨b,off + i * 4 + 2,none⟩ = some (.string l[i].1.2.2) ∧ w.cell? ⟨b,off + i * 4 + 3,none⟩ = some (Vi (l[i].2 : Int))

structure Only (Z : Nat → Prop) (w w' : World) : Prop where
 os : w'.os = w.os
 tape : w'.tape = w.tape
 output : w'.output = w.output
 size : w.heap.size ≤ w'.heap.size
 block : ∀ k,k < w.heap.size → ¬ Z k → w'.heap[k]? = w.heap[k]?

theorem Only.refl (Z : Nat → Prop) (w : World) : Only Z w w:=⟨rfl,rfl,rfl,Nat.le_refl _,fun _ _ _ => rfl⟩

theorem Only.trans {Z : Nat → Prop} {a b c : World} (h : Only Z a b) (k : Only Z b c) : Only Z a c :=
 ⟨k.os.trans h.os,k.tape.trans h.tape,k.output.trans h.output,Nat.le_trans h.size k.size,fun i hi hz => (k.block i (Nat.lt_of_lt_of_le hi h.size) hz).trans (h.block i hi hz)⟩

theorem Only.of {Z : Nat → Prop} {w w' : World} (h : Below w.heap.size w w') : Only Z w w':=⟨h.os,h.tape,h.output,h.size,fun k hk _ => h.block k hk⟩

theorem Only.setCell {Z : Nat → Prop} {a w : World} (h : Only Z a w) {p : Addr} (hp : Z p.block) (u : Value) : Only Z a (w.setCell p u) :=
 h.trans ⟨rfl,rfl,rfl,by simp [World.setCell],fun k _ hz => Below.heap_setCell _ _ _ _ (fun e => hz (by rw [e]; exact hp))⟩

theorem four_of {w : World} {x : Nat} {a b c d : Value} {t : TypeId} (h : w.heap[x]? = some (.cells #[a,b,c,d] t (0,0))) : (w.cell? ⟨x,0,none⟩ = some a ∧ w.cell? ⟨x,1,none⟩ = some b ∧ w.cell? ⟨x,2,none⟩ = some c ∧ w.cell? ⟨x,3,none⟩ = some d) ∧ w.frozen? ⟨x,0,none⟩ = false ∧ w.frozen? ⟨x,1,none⟩ = false ∧ w.frozen? ⟨x,2,none⟩ = false ∧ w.frozen? ⟨x,3,none⟩ = false:=by
 simp [World.cell?,World.frozen?,h]

def Wf : List T → Prop
 | [] => False
 | [t] => t.1.1 = 1
 | t :: u :: l => t.1.1 ≠ 1 ∧ Wf (u :: l)

theorem Wf.ne {l : List T} (h : Wf l) : l ≠ []:=by rintro rfl; exact h

theorem Wf.tail {t : T} {l : List T} (h : Wf (t :: l)) (ht : t.1.1 ≠ 1) : Wf l:=by
 cases l with
 | nil => exact absurd h ht
 | cons u l => exact h.2

structure PA (w : World) (P : Nat) (s : PS) : Prop where
 wf : Wf s.rest
 mem : ∃ g off cap,w.heap[P]? = some (.cells #[.slice (some ⟨g,off,none⟩) s.rest.length cap,Vi s.code,Vi s.place] 63 (0,0)) ∧ TR w (some ⟨g,off,none⟩) s.rest ∧ g < P ∧ s.rest.length ≤ cap ∧ s.rest.length ≤ 1001

theorem TR.low {w : World} {g off : Nat} {l : List T} (h : TR w (some ⟨g,off,none⟩) l) (hl : l ≠ []) : g < w.heap.size:=by
 obtain ⟨b,o,e,a0,_⟩:=h 0 (List.length_pos_iff.2 hl)
 injection e with e
 injection e with e _ _
 subst e
 exact World.block_lt_of_cell? _ _ a0

theorem TR.block {w w' : World} {g off : Nat} {l : List T} (h : TR w (some ⟨g,off,none⟩) l) (hb : w'.heap[g]? = w.heap[g]?) : TR w' (some ⟨g,off,none⟩) l:=by
 intro i hi
 obtain ⟨b,o,e,a0,a1,a2,a3⟩:=h i hi
 injection e with e
 injection e with e1 e2 _
 subst e1 e2
 refine ⟨g,off,rfl,?_,?_,?_,?_⟩
 ·exact (World.cell?_of_block (a:=⟨g,_,none⟩) hb).trans a0
 ·exact (World.cell?_of_block (a:=⟨g,_,none⟩) hb).trans a1
 ·exact (World.cell?_of_block (a:=⟨g,_,none⟩) hb).trans a2
 ·exact (World.cell?_of_block (a:=⟨g,_,none⟩) hb).trans a3

theorem TR.rest {w : World} {g off : Nat} {t : T} {l : List T} (h : TR w (some ⟨g,off,none⟩) (t :: l)) : TR w (some ⟨g,off + 4,none⟩) l:=by
 intro i hi
 obtain ⟨b,o,e,a0,a1,a2,a3⟩:=h (i + 1) (by simpa using hi)
 injection e with e
 injection e with e1 e2 _
 subst e1 e2
 have ho : off + (i + 1) * 4 = off + 4 + i * 4:=by omega
 rw [ho] at a0 a1 a2 a3
 exact ⟨g,off + 4,rfl,a0,a1,a2,a3⟩

theorem PA.later {w w' : World} {P : Nat} {s : PS} (h : PA w P s) (hb : Below w.heap.size w w') : PA w' P s:=by
 obtain ⟨g,off,cap,h1,h2,h3,h4⟩:=h.mem
 have hP : P < w.heap.size:=(Gx h1)
 exact ⟨h.wf,g,off,cap,(hb.block P hP).trans h1,h2.block (hb.block g (h2.low h.wf.ne)),h3,h4⟩

theorem PA.lt {w : World} {P : Nat} {s : PS} (h : PA w P s) : P < w.heap.size:=by
 obtain ⟨g,off,cap,h1,_⟩:=h.mem
 exact (Gx h1)

theorem PA.keep {w W : World} {P : Nat} {s : PS} (h : PA w P s) (hk : ∀ k,k ≤ P → W.heap[k]? = w.heap[k]?) : PA W P s:=by
 obtain ⟨g,off,cap,h1,h2,h3,h4⟩:=h.mem
 exact ⟨h.wf,g,off,cap,(hk P (Nat.le_refl _)).trans h1,h2.block (hk g (Nat.le_of_lt h3)),h3,h4⟩

theorem PA.set {w : World} {P : Nat} {s : PS} (h : PA w P s) {p : Addr} (hp : P < p.block) (u : Value) : PA (w.setCell p u) P s:=h.keep fun _ hk => Below.heap_setCell _ _ _ _ (fun e => by omega)

theorem PA.cells {w : World} {P : Nat} {s : PS} (h : PA w P s) : ∃ g off cap,w.cell? ⟨P,0,none⟩ = some (.slice (some ⟨g,off,none⟩) s.rest.length cap) ∧ w.cell? ⟨P,1,none⟩ = some (Vi s.code) ∧ w.cell? ⟨P,2,none⟩ = some (Vi s.place) ∧ w.cell? ⟨g,off,none⟩ = some (Vi s.hd.1.1) ∧ w.cell? ⟨g,off + 1,none⟩ = some (Vi s.hd.1.2.1) ∧ w.cell? ⟨g,off + 2,none⟩ = some (.string s.hd.1.2.2) ∧ w.cell? ⟨g,off + 3,none⟩ = some (Vi (s.hd.2 : Int)) ∧ w.frozen? ⟨P,0,none⟩ = false ∧ w.frozen? ⟨P,1,none⟩ = false ∧ w.frozen? ⟨P,2,none⟩ = false ∧ 0 < s.rest.length ∧ s.rest.length ≤ cap ∧ s.rest.length ≤ 1001 ∧ g < P ∧ g < w.heap.size ∧ P < w.heap.size:=by
 obtain ⟨g,off,cap,h1,h2,h3,h4,h5⟩:=h.mem
 have hn:=List.length_pos_iff.2 h.wf.ne
 obtain ⟨b,o,e,a0,a1,a2,a3⟩:=h2 0 hn
 injection e with e
 injection e with e1 e2 _
 subst e1 e2
 have hh : s.hd = s.rest[0]:=by
  unfold PS.hd
  obtain ⟨r,c,q⟩:=s
  cases r with
  | nil => simp at hn
  | cons t l => rfl
 rw [hh]
 refine ⟨g,off,cap,by simp [World.cell?,h1],by simp [World.cell?,h1],by simp [World.cell?,h1],by simpa using a0,by simpa using a1,by simpa using a2,by simpa using a3,by simp [World.frozen?,h1],by simp [World.frozen?,h1],by simp [World.frozen?,h1],hn,h4,h5,h3,h2.low h.wf.ne,(Gx h1)⟩

theorem at_any (P : Nat) (s : PS) (w : World) (h : PA w P s) : Calls Tryz.prog 101 #[.pointer (some ⟨P,0,none⟩)] w fun e w' => e = .returned (Vi (s.hd.2 : Int)) ∧ w' = w:=by
 obtain ⟨g,off,cap,c0,-,-,-,-,-,t3,-,-,-,hn,-,-,-,-,-⟩:=h.cells
 have hni : (0 : Int) < (s.rest.length : Int):=by omega
 go_enter Tryz.func101,Tryz.ntmps101
 go_wp2
 go_ret
 exact ⟨rfl,rfl⟩

theorem ath (P : Nat) {s : PS} {p : Nat} (h : s.hd.2 = p) : Hid (∀ W,PA W P s → Calls Tryz.prog 101 #[.pointer (some ⟨P,0,none⟩)] W fun e w' => e = .returned (Vi (p : Int)) ∧ w' = W):=fun W hW => by have:=at_any P s W hW; rw [h] at this; exact this

theorem ctoken_any (P : Nat) (s : PS) (w : World) (h : PA w P s) : Calls Tryz.prog 71 #[.pointer (some ⟨P,0,none⟩)] w fun e w' => e = .returned (tkA s.hd.1 (s.hd.2 : Int)) ∧ Below w.heap.size w w':=by
 obtain ⟨g,off,cap,c0,-,-,t0,t1,t2,t3,-,-,-,hn,-,-,-,hg,hP⟩:=h.cells
 have hni : (0 : Int) < (s.rest.length : Int):=by omega
 go_enter Tryz.func71,Tryz.ntmps71
 go_wp2
 exact bodyPost_ret (v:=tkA s.hd.1 (s.hd.2 : Int)) (by simp [results,Tryz.results71,go_sem,tkA]) rfl ⟨rfl,by (repeat (first|exact Bxr _ _|assumption|apply Bxd|apply Bxa|apply Bxs|refine Bxt ?_ (by assumption) ?_|omega|simp))⟩

def wrongV (c p : Int) : List PanicEntry:=[{ v:=.iface 58 (.agg #[Vi c,Vi p]),recovered:=false }]

theorem giveUp_any (P : Nat) (s : PS) (w : World) (h : PA w P s) : Calls Tryz.prog 72 #[.pointer (some ⟨P,0,none⟩)] w fun e w' => e = .panicked (wrongV 110 s.hd.2) ∧ w' = w:=by
 have HP:=Hd h
 clear h
 go_enter Tryz.func72,Tryz.ntmps72
 go_wp2_with fail
 refine (at_any P s _ HP.out).mono ?_
 rintro e w' ⟨rfl,rfl⟩
 go_wp2
 exact ⟨rfl,rfl,rfl⟩

theorem hd_tail {s : PS} (h : s.rest ≠ []) : s.rest = s.hd :: s.rest.tail:=by
 obtain ⟨r,c,p⟩:=s
 cases r with
 | nil => exact absurd rfl h
 | cons t l => rfl

theorem set0 {w : World} {P : Nat} {a b c v : Value} {t : TypeId} (h : w.heap[P]? = some (.cells #[a,b,c] t (0,0))) : (w.setCell ⟨P,0,none⟩ v).heap[P]? = some (.cells #[v,b,c] t (0,0)):=by
 have hl : P < w.heap.size:=(Gx h)
 simp [World.setCell,Array.getElem?_modify,h]

theorem three_of {w : World} {x : Nat} {a b c : Value} {t : TypeId} (h : w.heap[x]? = some (.cells #[a,b,c] t (0,0))) : (w.cell? ⟨x,0,none⟩ = some a ∧ w.cell? ⟨x,1,none⟩ = some b ∧ w.cell? ⟨x,2,none⟩ = some c) ∧ w.frozen? ⟨x,0,none⟩ = false ∧ w.frozen? ⟨x,1,none⟩ = false ∧ w.frozen? ⟨x,2,none⟩ = false:=by
 simp [World.cell?,World.frozen?,h]

theorem set_off {w : World} {l k i : Nat} (v : Value) (h : k ≠ l) : (w.setCell ⟨l,i,none⟩ v).heap[k]? = w.heap[k]?:=Below.heap_setCell _ _ _ _ (fun e => h e)

theorem alloc_off {w : World} {k : Nat} (h : k < w.heap.size) (o : Obj) : (w.alloc o).heap[k]? = w.heap[k]?:=((Below.refl w.heap.size w).alloc (Nat.le_refl _) o).block k h

theorem set_size (w : World) (p : Addr) (v : Value) : (w.setCell p v).heap.size = w.heap.size:=by simp [World.setCell]

theorem set_at {w : World} {l i : Nat} {cs : Array Value} {t : TypeId} {fr : Nat × Nat} (h : w.heap[l]? = some (.cells cs t fr)) (v : Value) : (w.setCell ⟨l,i,none⟩ v).heap[l]? = some (.cells (cs.setIfInBounds i v) t fr):=by
 have hl : l < w.heap.size:=(Gx h)
 simp [World.setCell,Array.getElem?_modify,h]

theorem Only.setNew {Z : Nat → Prop} {a w : World} (h : Only Z a w) {p : Addr} (hp : a.heap.size ≤ p.block) (u : Value) : Only Z a (w.setCell p u) :=
 ⟨h.os,h.tape,h.output,by rw [set_size]; exact h.size,fun k hk hz => (Below.heap_setCell _ _ _ _ (fun e => by rw [e] at hk; omega)).trans (h.block k hk hz)⟩

theorem Only.alloc {Z : Nat → Prop} {a w : World} (h : Only Z a w) (o : Obj) : Only Z a (w.alloc o):=h.trans (Only.of ((Below.refl _ _).alloc (Nat.le_refl _) _))

theorem PA.open {w : World} {P : Nat} {s : PS} (h : PA w P s) : ∃ g off cap,w.heap[P]? = some (.cells #[.slice (some ⟨g,off,none⟩) s.rest.length cap,Vi s.code,Vi s.place] 63 (0,0)) ∧ 0 < s.rest.length ∧ s.rest.length ≤ cap ∧ s.rest.length ≤ 1001 ∧ P < w.heap.size ∧ g < w.heap.size ∧ g < P ∧ (s.hd.1.1 ≠ 1 → 1 < s.rest.length ∧ ∀ W : World,W.heap[P]? = some (.cells #[.slice (some ⟨g,off + 4,none⟩) (s.rest.length - 1) (cap - 1),Vi s.code,Vi s.place] 63 (0,0)) → W.heap[g]? = w.heap[g]? → PA W P s.next):=by
 obtain ⟨g,off,cap,h1,h2,h3,h4,h5⟩:=h.mem
 have hn:=List.length_pos_iff.2 h.wf.ne
 have hP : P < w.heap.size:=(Gx h1)
 refine ⟨g,off,cap,h1,hn,h4,h5,hP,h2.low h.wf.ne,h3,fun hk => ?_⟩
 have ht:=hd_tail h.wf.ne
 have hw:=h.wf
 rw [ht] at hw h2
 have hl : s.next.rest.length = s.rest.length - 1:=by
  show s.rest.tail.length = _
  simp
 have hl2:=List.length_pos_iff.2 (hw.tail hk).ne
 refine ⟨by rw [ht]; simp at hl2 ⊢; omega,fun W hW hg => ?_⟩
 refine ⟨hw.tail hk,g,off + 4,cap - 1,?_,h2.rest.block hg,h3,by omega,by omega⟩
 rw [hl]
 exact hW

theorem sees_kind {s : PS} {x : List UInt8} (h : s.sees x = true) : s.hd.1.1 ≠ 1:=by
 unfold PS.sees at h
 simp only [Bool.and_eq_true,Bool.or_eq_true,decide_eq_true_eq] at h
 rcases h.1 with h | h <;> omega

theorem sees_any (P : Nat) (s : PS) (x : ByteArray) (w : World) (h : PA w P s) : Calls Tryz.prog 106 #[.pointer (some ⟨P,0,none⟩),.string x] w fun e w' => e = .returned (.bool (s.sees x.data.toList)) ∧ Below w.heap.size w w':=by
 have HP:=Hd h
 clear h
 obtain ⟨⟨⟨k,n,t⟩,a⟩,hh⟩ : ∃ x,s.hd = x:=⟨_,rfl⟩
 have hct:=ctoken_any P s
 rw [hh] at hct
 unfold tkA at hct
 have HT:=Hd hct
 have hsv : s.sees x.data.toList = ((decide (k = 4) || decide (k = 7)) && (t.data.toList == x.data.toList)):=by unfold PS.sees; rw [hh]
 obtain ⟨b,hb0⟩:=Vx (t.data.toList == x.data.toList)
 have hbt : (t.toList == x.toList) = b:=by rw [ByteArray.toList_eq,ByteArray.toList_eq]; exact hb0
 rw [hb0] at hsv
 clear hct hh hb0
 by_cases k4 : k = 4
 ·subst k4
  have HV : Hid (s.sees x.data.toList = b):=by show s.sees x.data.toList = b; rw [hsv]; simp
  clear hsv
  go_enter Tryz.func106,Tryz.ntmps106
  go_wp2_with fail
  refine (HT.out _ HP.out).mono ?_
  rintro e w' ⟨rfl,hb⟩
  (obtain ⟨hc, hf⟩ := bcell hb; have hz := hb.size; (try simp at hz); (try have hz0 : w.heap.size < w'.heap.size := by omega); (try have hz1 : w.heap.size + 1 < w'.heap.size := by omega); (try have hz2 : w.heap.size + 1 + 1 < w'.heap.size := by omega); (try have hz3 : w.heap.size + 1 + 1 + 1 < w'.heap.size := by omega))
  go_wp2
  exact bodyPost_ret (v:=.bool b) (by simp [results,Tryz.results106,go_sem]) rfl ⟨by rw [HV.out],by (repeat (first|exact Bxr _ _|assumption|apply Bxd|apply Bxa|apply Bxs|refine Bxt ?_ (by assumption) ?_|omega|simp))⟩
 ·have e4 : (k == 4) = false:=by simpa using k4
  by_cases k7 : k = 7
  ·subst k7
   have HV : Hid (s.sees x.data.toList = b):=by show s.sees x.data.toList = b; rw [hsv]; simp
   clear hsv k4
   go_enter Tryz.func106,Tryz.ntmps106
   go_wp2_with fail
   refine (HT.out _ HP.out).mono ?_
   rintro e w' ⟨rfl,hb⟩
   (obtain ⟨hc, hf⟩ := bcell hb; have hz := hb.size; (try simp at hz); (try have hz0 : w.heap.size < w'.heap.size := by omega); (try have hz1 : w.heap.size + 1 < w'.heap.size := by omega); (try have hz2 : w.heap.size + 1 + 1 < w'.heap.size := by omega); (try have hz3 : w.heap.size + 1 + 1 + 1 < w'.heap.size := by omega))
   go_wp2
   exact bodyPost_ret (v:=.bool b) (by simp [results,Tryz.results106,go_sem]) rfl ⟨by rw [HV.out],by (repeat (first|exact Bxr _ _|assumption|apply Bxd|apply Bxa|apply Bxs|refine Bxt ?_ (by assumption) ?_|omega|simp))⟩
  ·have e7 : (k == 7) = false:=by simpa using k7
   have HV : Hid (s.sees x.data.toList = false):=by show s.sees x.data.toList = false; rw [hsv]; simp [k4,k7]
   clear hsv k4 k7
   go_enter Tryz.func106,Tryz.ntmps106
   go_wp2_with fail
   refine (HT.out _ HP.out).mono ?_
   rintro e w' ⟨rfl,hb⟩
   (obtain ⟨hc, hf⟩ := bcell hb; have hz := hb.size; (try simp at hz); (try have hz0 : w.heap.size < w'.heap.size := by omega); (try have hz1 : w.heap.size + 1 < w'.heap.size := by omega); (try have hz2 : w.heap.size + 1 + 1 < w'.heap.size := by omega); (try have hz3 : w.heap.size + 1 + 1 + 1 < w'.heap.size := by omega))
   go_wp2
   exact bodyPost_ret (v:=.bool false) (by simp [results,Tryz.results106,go_sem]) rfl ⟨by rw [HV.out],by (repeat (first|exact Bxr _ _|assumption|apply Bxd|apply Bxa|apply Bxs|refine Bxt ?_ (by assumption) ?_|omega|simp))⟩

theorem skip_any (P : Nat) (s : PS) (x : ByteArray) (w : World) (h : PA w P s) : Calls Tryz.prog 70 #[.pointer (some ⟨P,0,none⟩),.string x] w fun e w' => e = .returned (.bool (s.sees x.data.toList)) ∧ PA w' P (if s.sees x.data.toList = true then s.next else s) ∧ Only (· = P) w w':=by
 have HP:=Hd h
 clear h
 have hse:=sees_any P s x
 cases hb : s.sees x.data.toList with
 | false =>
  rw [hb] at hse
  have HS:=Hd hse
  clear hse hb
  go_enter Tryz.func70,Tryz.ntmps70
  go_wp2_with fail
  refine (HS.out _ HP.out).mono ?_
  rintro e w' ⟨rfl,hb⟩
  go_wp2
  exact bodyPost_ret (v:=.bool false) (by simp [results,Tryz.results70,go_sem]) rfl ⟨rfl,HP.out.later hb,Only.of hb⟩
 | true =>
  have hk:=sees_kind hb
  rw [hb] at hse
  have HS:=Hd hse
  have HK:=Hd hk
  clear hse hb hk
  go_enter Tryz.func70,Tryz.ntmps70
  go_wp2_with fail
  refine (HS.out _ HP.out).mono ?_
  rintro e w' ⟨rfl,hb⟩
  obtain ⟨g,off,cap,h1,hn,hc,_,hP,hg,hgP,hstep⟩:=(HP.out.later hb).open
  obtain ⟨hn2,hst⟩:=hstep HK.out
  have HST:=Hd (hst _ (set0 h1) (set_off _ (Nat.ne_of_lt hgP)))
  have HB:=Hd hb
  obtain ⟨⟨c0,-,-⟩,f0,-,-⟩:=three_of h1
  have hni : (1 : Int) ≤ (s.rest.length : Int):=by omega
  have hci : (s.rest.length : Int) ≤ (cap : Int):=by omega
  have hci1 : (1 : Int) ≤ (cap : Int):=by omega
  have hc1 : ¬ (cap = 1):=by omega
  clear hstep hst hb h1
  go_wp2
  exact bodyPost_ret (v:=.bool true) (by simp [results,Tryz.results70,go_sem]) rfl ⟨rfl,HST.out,Only.setCell (Z:=(· = P)) (Only.of HB.out) (p:=⟨P,0,none⟩) rfl _⟩

def TakeP (P : Nat) (s : PS) (k : Int) (w : World) (e : Ending) (w' : World) : Prop:=((s.hd.1.1 = k ∧ e = .returned (tkA s.hd.1 (s.hd.2 : Int)) ∧ PA w' P s.next) ∨ (s.hd.1.1 ≠ k ∧ e = .panicked (wrongV 110 s.hd.2) ∧ PA w' P s)) ∧ Only (· = P) w w'

theorem take_any (P : Nat) (s : PS) (k : Int) (w : World) (h : PA w P s) (hk : k ≠ 1) : Calls Tryz.prog 133 #[.pointer (some ⟨P,0,none⟩),Vi k] w (TakeP P s k w):=by
 have HP:=Hd h
 clear h
 obtain ⟨⟨⟨k',n,t⟩,a⟩,hh⟩ : ∃ x,s.hd = x:=⟨_,rfl⟩
 have hct:=ctoken_any P s
 have hgu:=giveUp_any P s
 rw [hh] at hct hgu
 unfold tkA at hct
 have HT:=Hd hct
 have HG:=Hd hgu
 have HH:=Hd hh
 clear hct hgu hh
 by_cases he : k' = k
 ·subst he
  go_enter Tryz.func133,Tryz.ntmps133
  go_wp2_with fail
  refine (HT.out _ (HP.out.later ((Below.refl _ _).alloc (Nat.le_refl _) _))).mono ?_
  rintro e w' ⟨rfl,hb⟩
  have hz:=hb.size
  simp at hz
  have hz0 : w.heap.size < w'.heap.size:=by omega
  have e1:=(hb.block w.heap.size (by simp)).trans (heap_alloc_new w _)
  have zm:=four_of e1
  obtain ⟨g,off,cap,h1,hn,hc,_,hP,hg,hgP,hstep⟩:=HP.out.open
  have h1' : w'.heap[P]? = w.heap[P]?:=(hb.block P (by simp; omega)).trans (alloc_off hP _)
  have hg' : w'.heap[g]? = w.heap[g]?:=(hb.block g (by simp; omega)).trans (alloc_off hg _)
  obtain ⟨⟨c0,-,-⟩,f0,-,-⟩:=three_of (h1'.trans h1)
  obtain ⟨hn2,hst⟩:=hstep (by rw [HH.out]; exact hk)
  have HST:=Hd hst
  have HB : Hid (Below w.heap.size w w'):=((Below.refl _ _).alloc (Nat.le_refl _) _).trans (hb.mono (by simp))
  have HX : Hid (w'.heap[P]? = some (.cells #[.slice (some ⟨g,off,none⟩) s.rest.length cap,Vi s.code,Vi s.place] 63 (0,0)) ∧ w'.heap[g]? = w.heap[g]?):=⟨h1'.trans h1,hg'⟩
  have hPw : P < w'.heap.size:=by omega
  have hc1 : ¬ (cap = 1):=by omega
  have hni : (1 : Int) ≤ (s.rest.length : Int):=by omega
  have hci : (s.rest.length : Int) ≤ (cap : Int):=by omega
  have hci1 : (1 : Int) ≤ (cap : Int):=by omega
  have E1:=Hd e1
  clear hstep hst hb h1 h1' hg' e1
  go_wp2
  obtain ⟨W6,hW6⟩:=Vx ((((((w'.setCell ⟨P,0,none⟩ (.slice (some ⟨g,off + 4,none⟩) (s.rest.length - 1) (cap - 1))).setCell ⟨w.heap.size,0,none⟩ (Vi k')).setCell ⟨w.heap.size,1,none⟩ (Vi n)).setCell ⟨w.heap.size,2,none⟩ (.string t)).setCell ⟨w.heap.size,3,none⟩ (Vi (a : Int))).alloc (.cells (Vk k' n t a) 97))
  rw [hW6]
  have x1 : W6.heap[w.heap.size]? = some (.cells (Vk k' n t a) 97 (0,0)):=by
   rw [← hW6]
   refine (alloc_off (by simp only [set_size]; exact hz0) _).trans ?_
   exact set_at (set_at (set_at (set_at ((set_off _ (by omega)).trans E1.out) _) _) _) _
  have x2 : W6.heap[P]? = some (.cells #[.slice (some ⟨g,off + 4,none⟩) (s.rest.length - 1) (cap - 1),Vi s.code,Vi s.place] 63 (0,0)):=by
   rw [← hW6]
   refine (alloc_off (by simp only [set_size]; exact hPw) _).trans ?_
   exact (set_off _ (by omega)).trans ((set_off _ (by omega)).trans ((set_off _ (by omega)).trans ((set_off _ (by omega)).trans (set0 HX.out.1))))
  have x3 : W6.heap[g]? = w.heap[g]?:=by
   rw [← hW6]
   refine (alloc_off (by simp only [set_size]; omega) _).trans ?_
   exact (set_off _ (by omega)).trans ((set_off _ (by omega)).trans ((set_off _ (by omega)).trans ((set_off _ (by omega)).trans ((set_off _ (Nat.ne_of_lt hgP)).trans HX.out.2))))
  have HO : Hid (Only (· = P) w W6):=by
   show Only (· = P) w W6
   rw [← hW6]
   exact (((((Only.setCell (Z:=(· = P)) (Only.of HB.out) (p:=⟨P,0,none⟩) rfl _).setNew (Nat.le_refl _) _).setNew (Nat.le_refl _) _).setNew (Nat.le_refl _) _).setNew (Nat.le_refl _) _).alloc _
  have HPA:=Hd (HST.out W6 x2 x3)
  have zy:=(four_of x1).1
  clear hW6 x1 x2 x3
  refine bodyPost_ret (v:=tkA (k',n,t) (a : Int)) (by simp [results,Tryz.results133,go_sem,tkA,zy]) rfl ?_
  exact ⟨Or.inl ⟨by rw [HH.out],by rw [HH.out],HPA.out⟩,HO.out⟩
 ·have hei : (k' != k) = true:=by simpa using he
  have HNE:=Hd he
  clear he
  go_enter Tryz.func133,Tryz.ntmps133
  go_wp2_with fail
  refine (HT.out _ (HP.out.later ((Below.refl _ _).alloc (Nat.le_refl _) _))).mono ?_
  rintro e w' ⟨rfl,hb⟩
  have HB : Hid (Below w.heap.size w w'):=((Below.refl _ _).alloc (Nat.le_refl _) _).trans (hb.mono (by simp))
  clear hb
  go_wp2_with fail
  refine (HG.out _ ((HP.out.later HB.out).later ((Below.refl _ _).alloc (Nat.le_refl _) _))).mono ?_
  rintro e w2 ⟨rfl,rfl⟩
  go_wp2
  have hb2 : Below w.heap.size w (w'.alloc (.cells (Vk k' n t a) 97)):=HB.out.alloc HB.out.size _
  refine ⟨rfl,Or.inr ⟨by rw [HH.out]; exact HNE.out,by rw [HH.out],HP.out.later hb2⟩,Only.of hb2⟩

def exC : Ex → Value → List Value
 | .mk kind op v t n _ p,k => [Vi kind,Vi op,Vi v.1,Vi v.2.1,.string v.2.2,.string t,.string n,k,Vi p]

def exV (e : Ex) (k : Value) : Value:=.agg (exC e k).toArray

def xcs : List Ex → List Value → List Value
 | e :: es,k :: ks => exC e k ++ xcs es ks
 | _,_ => []

theorem xcs_append : ∀ (es : List Ex) (ks : List Value) (fs : List Ex) (ls : List Value),es.length = ks.length → xcs (es ++ fs) (ks ++ ls) = xcs es ks ++ xcs fs ls
 | [],[],_,_,_ => rfl
 | e :: es,k :: ks,fs,ls,h => by
  simp only [List.cons_append,xcs]
  rw [xcs_append es ks fs ls (by simpa using h),List.append_assoc]
 | [],_ :: _,_,_,h => by simp at h
 | _ :: _,[],_,_,h => by simp at h

inductive XO (w : World) (B : Nat) : Ex → Value → Prop
 | mk {kind op : Int} {v : V3} {t n : ByteArray} {kids : List Ex} {p : Int} {k : Value} (ks : List Value) (h1 : kids.length = ks.length) (h2 : w.ownsRow B 49 9 k kids.length (xcs kids ks)) (h3 : ∀ i (h : i < kids.length) (h' : i < ks.length),XO w B kids[i] ks[i]) : XO w B (.mk kind op v t n kids p) k

theorem XO.keep {w w' : World} {B : Nat} {e : Ex} {k : Value} (h : XO w B e k) (hk : ∀ g,B ≤ g → g < w.heap.size → w'.heap[g]? = w.heap[g]?) : XO w' B e k:=by
 induction h with
 | mk ks h1 h2 _ ih => exact XO.mk ks h1 (own_kept h2 fun g hg => hk g (h2.lt g hg).1 (h2.lt g hg).2) fun i h h' => ih i h h'

theorem XO.mono {w : World} {B B' : Nat} {e : Ex} {k : Value} (h : XO w B e k) (hB : B' ≤ B) : XO w B' e k:=by
 induction h with
 | mk ks h1 h2 _ ih => exact XO.mk ks h1 (own_mono h2 hB) fun i h h' => ih i h h'

theorem XO.only {w w' : World} {B P : Nat} {e : Ex} {k : Value} (h : XO w B e k) (ho : Only (· = P) w w') (hP : P < B) : XO w' B e k:=h.keep fun g hg hl => ho.block g hl (fun e => by omega)

theorem XO.later {w w' : World} {B : Nat} {e : Ex} {k : Value} (h : XO w B e k) (hb : Below w.heap.size w w') : XO w' B e k:=h.keep fun g _ hl => hb.block g hl

theorem XO.leaf (w : World) (B : Nat) (kind op : Int) (v : V3) (t n : ByteArray) (p : Int) : XO w B (.mk kind op v t n [] p) Vn:=XO.mk [] rfl (World.ownsRow_nil _ _ _ _) fun _ h => absurd h (Nat.not_lt_zero _)

theorem over_any (kind op : Int) (p : Nat) (k : Option Addr) (m c : Nat) (kids : List Ex) (w : World) : Calls Tryz.prog 166 #[Vi kind,Vi op,Vi (p : Int),.slice k m c] w fun e w' => e = .returned (exV (over kind op p kids) (.slice k m c)) ∧ Below w.heap.size w w':=by
 go_enter Tryz.func166,Tryz.ntmps166
 go_wp2
 exact bodyPost_ret (v:=exV (over kind op p kids) (.slice k m c)) (by simp [results,Tryz.results166,go_sem,exV,exC,over,v0]) rfl ⟨rfl,by (repeat (first|exact Bxr _ _|assumption|apply Bxd|apply Bxa|apply Bxs|refine Bxt ?_ (by assumption) ?_|omega|simp))⟩

theorem fieldT2 (k n : Int) (t : ByteArray) (a : Int) (w : World) : (Instr.field 97 (.agg (Vk k n t a)) 2).run Tryz.prog w = .ok (.string t) w:=by
 simp [Instr.field,run_underlying Tryz.underlying97,part,asAgg,isAgg,run_underlying Tryz.underlying9,sizeOf,typeInfo,go_sem]

theorem fieldT1 (k n : Int) (t : ByteArray) (a : Int) (w : World) : (Instr.field 97 (.agg (Vk k n t a)) 1).run Tryz.prog w = .ok (Vi n) w:=by
 simp [Instr.field,run_underlying Tryz.underlying97,part,asAgg,isAgg,run_underlying Tryz.underlying3,sizeOf,typeInfo,go_sem]

theorem fieldT0 (k n : Int) (t : ByteArray) (a : Int) (w : World) : (Instr.field 97 (.agg (Vk k n t a)) 0).run Tryz.prog w = .ok (Vi k) w:=by
 simp [Instr.field,run_underlying Tryz.underlying97,part,asAgg,isAgg,run_underlying Tryz.underlying3,sizeOf,typeInfo,go_sem]

def NameP (P : Nat) (s : PS) (w : World) (e : Ending) (w' : World) : Prop:=Only (· = P) w w' ∧ match nameR s with
 | .ok a s1 => e = .returned (.string a) ∧ PA w' P s1
 | .bad p => e = .panicked (wrongV 110 p)

theorem name_any (P : Nat) (s : PS) (w : World) (h : PA w P s) : Calls Tryz.prog 123 #[.pointer (some ⟨P,0,none⟩)] w (NameP P s w):=by
 have HP:=Hd h
 clear h
 go_enter Tryz.func123,Tryz.ntmps123
 go_wp2_with fail
 refine (take_any P s 3 _ HP.out (by decide)).mono ?_
 rintro e w' ⟨⟨hk,rfl,hp⟩ | ⟨hk,rfl,hp⟩,ho⟩
 ·have HN : Hid (nameR s = .ok s.hd.1.2.2 s.next):=by show nameR s = _; unfold nameR; rw [if_pos hk]
  have HP2:=Hd hp
  have HO:=Hd ho
  obtain ⟨⟨⟨k,n,t⟩,a⟩,hh⟩ : ∃ x,s.hd = x:=⟨_,rfl⟩
  rw [hh] at HN ⊢
  clear hk hp ho hh
  unfold tkA
  have hfd:=fieldT2
  go_wp2
  refine bodyPost_ret (v:=.string t) (by simp [results,Tryz.results123,go_sem]) rfl ⟨HO.out,?_⟩
  rw [HN.out]
  exact ⟨rfl,HP2.out⟩
 ·have HN : Hid (nameR s = .bad s.hd.2):=by show nameR s = _; unfold nameR; rw [if_neg hk]
  have HO:=Hd ho
  clear hk hp ho
  go_wp2
  refine ⟨rfl,HO.out,?_⟩
  rw [HN.out]

theorem PA.cnt {w W : World} {P : Nat} {s : PS} {c p : Int} (h : PA w P s) (hW : W.heap[P]? = some (.cells #[(match w.heap[P]? with | some (.cells cs _ _) => cs.getD 0 undef | _ => undef),Vi c,Vi p] 63 (0,0))) (hk : ∀ g,g < w.heap.size → g ≠ P → W.heap[g]? = w.heap[g]?) : PA W P { s with code:=c,place:=p }:=by
 obtain ⟨g,off,cap,h1,h2,h3,h4,h5⟩:=h.mem
 rw [h1] at hW
 exact ⟨h.wf,g,off,cap,hW,h2.block (hk g (h2.low h.wf.ne) (Nat.ne_of_lt h3)),h3,h4,h5⟩

theorem set12 {w : World} {P : Nat} {a b c u v : Value} {t : TypeId} (h : w.heap[P]? = some (.cells #[a,b,c] t (0,0))) : ((w.setCell ⟨P,1,none⟩ u).setCell ⟨P,2,none⟩ v).heap[P]? = some (.cells #[a,u,v] t (0,0)):=by
 have:=set_at (i:=2) (set_at (i:=1) h u) v
 simpa using this

def CntP (P : Nat) (s : PS) (n most : Nat) (w : World) (e : Ending) (w' : World) : Prop:=e = .returned (.tuple #[]) ∧ PA w' P (s.cnt n most) ∧ Only (· = P) w w'

theorem counted_any (P : Nat) (s : PS) (n most : Nat) (w : World) (h : PA w P s) : Calls Tryz.prog 149 #[.pointer (some ⟨P,0,none⟩),Vi (n : Int),Vi (most : Int)] w (CntP P s n most w):=by
 have HP:=Hd h
 obtain ⟨g,off,cap,h1,hn,hc,_,hP,hg,hgP,-⟩:=h.open
 obtain ⟨⟨c0,c1,c2⟩,f0,f1,f2⟩:=three_of h1
 have H1:=Hd h1
 clear h h1
 by_cases hnm : n = most
 ·subst hnm
  by_cases hcd : s.code = 0
  ·rw [hcd] at c1
   have HV : Hid (s.cnt n n = { s with code:=112,place:=s.hd.2 }):=by show s.cnt n n = _; unfold PS.cnt; rw [if_pos ⟨rfl,hcd⟩]
   clear hcd
   go_enter Tryz.func149,Tryz.ntmps149
   go_wp2_with fail
   refine (at_any P s _ HP.out).mono ?_
   rintro e w' ⟨rfl,rfl⟩
   go_wp2
   refine bodyPost_ret (v:=.tuple #[]) (by simp [results,Tryz.results149,go_sem]) rfl ⟨rfl,?_,Only.setCell (Z:=(· = P)) (Only.setCell (Z:=(· = P)) (Only.refl _ _) (p:=⟨P,1,none⟩) rfl _) (p:=⟨P,2,none⟩) rfl _⟩
   rw [HV.out]
   refine HP.out.cnt ?_ fun k _ hk => (set_off _ hk).trans (set_off _ hk)
   rw [H1.out]
   exact set12 H1.out
  ·have hce : (s.code == 0) = false:=by simpa using hcd
   have HV : Hid (s.cnt n n = s):=by show s.cnt n n = _; unfold PS.cnt; rw [if_neg fun g => hcd g.2]
   clear hcd
   go_enter Tryz.func149,Tryz.ntmps149
   go_wp2
   exact bodyPost_ret (v:=.tuple #[]) (by simp [results,Tryz.results149,go_sem]) rfl ⟨rfl,by rw [HV.out]; exact HP.out,Only.refl _ _⟩
 ·have hne : ((n : Int) == (most : Int)) = false:=by simp; omega
  have HV : Hid (s.cnt n most = s):=by show s.cnt n most = _; unfold PS.cnt; rw [if_neg fun g => hnm g.1]
  clear hnm
  go_enter Tryz.func149,Tryz.ntmps149
  go_wp2
  exact bodyPost_ret (v:=.tuple #[]) (by simp [results,Tryz.results149,go_sem]) rfl ⟨rfl,by rw [HV.out]; exact HP.out,Only.refl _ _⟩

theorem Only.at {P b : Nat} {W W' : World} {o : Obj} (ho : Only (· = P) W W') (hb : W.heap[b]? = some o) (hP : b ≠ P) : W'.heap[b]? = some o:=(ho.block b (Gx hb) hP).trans hb

theorem Only.three {Z : Nat → Prop} {a w : World} {b : Nat} (h : Only Z a w) (hb : a.heap.size ≤ b) (x y z : Value) : Only Z a (((w.setCell ⟨b,0,none⟩ x).setCell ⟨b,1,none⟩ y).setCell ⟨b,2,none⟩ z):=((h.setNew hb _).setNew hb _).setNew hb _

theorem PA.three {w : World} {P b : Nat} {s : PS} (h : PA w P s) (hb : P < b) (x y z : Value) : PA (((w.setCell ⟨b,0,none⟩ x).setCell ⟨b,1,none⟩ y).setCell ⟨b,2,none⟩ z) P s:=((h.set hb _).set hb _).set hb _

theorem three_set {w : World} {b : Nat} {a0 a1 a2 : Value} {t : TypeId} (h : w.heap[b]? = some (.cells #[a0,a1,a2] t (0,0))) (x y z : Value) : (((w.setCell ⟨b,0,none⟩ x).setCell ⟨b,1,none⟩ y).setCell ⟨b,2,none⟩ z).heap[b]? = some (.cells #[x,y,z] t (0,0)):=by
 have:=set_at (i:=2) (set_at (i:=1) (set_at (i:=0) h x) y) z
 simpa using this

def LitP (P : Nat) (s : PS) (w : World) (e : Ending) (w' : World) : Prop:=Only (· = P) w w' ∧ match litR s with
 | .ok v s1 => e = .returned (.agg #[Vi v.1,Vi v.2.1,.string v.2.2]) ∧ PA w' P s1
 | .bad p => e = .panicked (wrongV 110 p)

theorem lit_ok {P : Nat} {s s1 : PS} {v : V3} {w w' : World} (h : litR s = .ok v s1) (ho : Only (· = P) w w') (hp : PA w' P s1) : LitP P s w (.returned (.agg #[Vi v.1,Vi v.2.1,.string v.2.2])) w':=⟨ho,by rw [h]; exact ⟨rfl,hp⟩⟩

theorem lit_bad {P : Nat} {s : PS} {p : Nat} {w w' : World} (h : litR s = .bad p) (ho : Only (· = P) w w') : LitP P s w (.panicked (wrongV 110 p)) w':=⟨ho,by rw [h]⟩

theorem literal_any (P : Nat) (s : PS) (w : World) (h : PA w P s) : Calls Tryz.prog 196 #[.pointer (some ⟨P,0,none⟩)] w (LitP P s w):=by
 have HP:=Hd h
 have hPw:=h.lt
 clear h
 by_cases b0 : s.sees wNull = true
 ·have HV : Hid (litR s = .ok (0,0,⟨#[]⟩) s.next):=by
   show litR s = _
   unfold litR
   rw [if_pos b0]
   first | rfl | skip
  have B0:=Hd b0
  clear b0
  go_enter Tryz.func196,Tryz.ntmps196
  have H0 : Hid (PA (w.alloc (.cells #[Vi 0,Vi 0,Vs] 47)) P s):=HP.out.later ((Below.refl _ _).alloc (Nat.le_refl _) _)
  have O0 : Hid (Only (· = P) w (w.alloc (.cells #[Vi 0,Vi 0,Vs] 47))):=(Only.refl _ _).alloc _
  have R0 : Hid ((w.alloc (.cells #[Vi 0,Vi 0,Vs] 47)).heap[w.heap.size]? = some (.cells #[Vi 0,Vi 0,Vs] 47 (0,0))):=heap_alloc_new w _
  go_wp2_with fail
  refine (skip_any P s ⟨#[78,85,76,76]⟩ _ H0.out).mono ?_
  rintro e w1 ⟨rfl,hp,ho⟩
  rw [show s.sees (⟨#[78,85,76,76]⟩ : ByteArray).data.toList = true from B0.out] at hp ⊢
  rw [if_pos rfl] at hp
  have H1:=Hd hp
  have R1:=Hd (ho.at R0.out (by omega))
  have O1:=Hd (O0.out.trans ho)
  clear hp ho H0 R0 O0
  have zm:=three_of R1.out
  go_wp2
  obtain ⟨W6,hW6⟩:=Vx (((w1.setCell ⟨w.heap.size,0,none⟩ (Vi 0)).setCell ⟨w.heap.size,1,none⟩ (Vi 0)).setCell ⟨w.heap.size,2,none⟩ Vs)
  rw [hW6]
  have zy:=(three_of (hW6 ▸ three_set R1.out (Vi 0) (Vi 0) Vs)).1
  have HO : Hid (Only (· = P) w W6):=hW6 ▸ O1.out.three (Nat.le_refl _) _ _ _
  have HQ : Hid (PA W6 P s.next):=hW6 ▸ H1.out.three (by omega) _ _ _
  clear hW6
  exact bodyPost_ret (v:=.agg #[Vi 0,Vi 0,Vs]) (by simp [results,Tryz.results196,go_sem,zy]) rfl (lit_ok (v:=(0,0,⟨#[]⟩)) HV.out HO.out HQ.out)
 ·skip
  by_cases b1 : s.sees wFalse = true
  ·have HV : Hid (litR s = .ok (2,0,⟨#[]⟩) s.next):=by
    show litR s = _
    unfold litR
    rw [if_neg b0,if_pos b1]
    first | rfl | skip
   have B0 : Hid (s.sees wNull = false):=by show s.sees wNull = false; simpa using b0
   have B1:=Hd b1
   clear b0 b1
   go_enter Tryz.func196,Tryz.ntmps196
   have H0 : Hid (PA (w.alloc (.cells #[Vi 0,Vi 0,Vs] 47)) P s):=HP.out.later ((Below.refl _ _).alloc (Nat.le_refl _) _)
   have O0 : Hid (Only (· = P) w (w.alloc (.cells #[Vi 0,Vi 0,Vs] 47))):=(Only.refl _ _).alloc _
   have R0 : Hid ((w.alloc (.cells #[Vi 0,Vi 0,Vs] 47)).heap[w.heap.size]? = some (.cells #[Vi 0,Vi 0,Vs] 47 (0,0))):=heap_alloc_new w _
   go_wp2_with fail
   refine (skip_any P s ⟨#[78,85,76,76]⟩ _ H0.out).mono ?_
   rintro e w1 ⟨rfl,hp,ho⟩
   rw [show s.sees (⟨#[78,85,76,76]⟩ : ByteArray).data.toList = false from B0.out] at hp ⊢
   rw [if_neg (by decide)] at hp
   have H1:=Hd hp
   have R1:=Hd (ho.at R0.out (by omega))
   have O1:=Hd (O0.out.trans ho)
   clear hp ho H0 R0 O0
   go_wp2_with fail
   refine (skip_any P s ⟨#[70,65,76,83,69]⟩ _ H1.out).mono ?_
   rintro e w2 ⟨rfl,hp,ho⟩
   rw [show s.sees (⟨#[70,65,76,83,69]⟩ : ByteArray).data.toList = true from B1.out] at hp ⊢
   rw [if_pos rfl] at hp
   have H2:=Hd hp
   have R2:=Hd (ho.at R1.out (by omega))
   have O2:=Hd (O1.out.trans ho)
   clear hp ho H1 R1 O1
   have zm:=three_of R2.out
   go_wp2
   obtain ⟨W6,hW6⟩:=Vx (((w2.setCell ⟨w.heap.size,0,none⟩ (Vi 2)).setCell ⟨w.heap.size,1,none⟩ (Vi 0)).setCell ⟨w.heap.size,2,none⟩ Vs)
   rw [hW6]
   have zy:=(three_of (hW6 ▸ three_set R2.out (Vi 2) (Vi 0) Vs)).1
   have HO : Hid (Only (· = P) w W6):=hW6 ▸ O2.out.three (Nat.le_refl _) _ _ _
   have HQ : Hid (PA W6 P s.next):=hW6 ▸ H2.out.three (by omega) _ _ _
   clear hW6
   exact bodyPost_ret (v:=.agg #[Vi 2,Vi 0,Vs]) (by simp [results,Tryz.results196,go_sem,zy]) rfl (lit_ok (v:=(2,0,⟨#[]⟩)) HV.out HO.out HQ.out)
  ·skip
   by_cases b2 : s.sees wTrue = true
   ·have HV : Hid (litR s = .ok (2,1,⟨#[]⟩) s.next):=by
     show litR s = _
     unfold litR
     rw [if_neg b0,if_neg b1,if_pos b2]
     first | rfl | skip
    have B0 : Hid (s.sees wNull = false):=by show s.sees wNull = false; simpa using b0
    have B1 : Hid (s.sees wFalse = false):=by show s.sees wFalse = false; simpa using b1
    have B2:=Hd b2
    clear b0 b1 b2
    go_enter Tryz.func196,Tryz.ntmps196
    have H0 : Hid (PA (w.alloc (.cells #[Vi 0,Vi 0,Vs] 47)) P s):=HP.out.later ((Below.refl _ _).alloc (Nat.le_refl _) _)
    have O0 : Hid (Only (· = P) w (w.alloc (.cells #[Vi 0,Vi 0,Vs] 47))):=(Only.refl _ _).alloc _
    have R0 : Hid ((w.alloc (.cells #[Vi 0,Vi 0,Vs] 47)).heap[w.heap.size]? = some (.cells #[Vi 0,Vi 0,Vs] 47 (0,0))):=heap_alloc_new w _
    go_wp2_with fail
    refine (skip_any P s ⟨#[78,85,76,76]⟩ _ H0.out).mono ?_
    rintro e w1 ⟨rfl,hp,ho⟩
    rw [show s.sees (⟨#[78,85,76,76]⟩ : ByteArray).data.toList = false from B0.out] at hp ⊢
    rw [if_neg (by decide)] at hp
    have H1:=Hd hp
    have R1:=Hd (ho.at R0.out (by omega))
    have O1:=Hd (O0.out.trans ho)
    clear hp ho H0 R0 O0
    go_wp2_with fail
    refine (skip_any P s ⟨#[70,65,76,83,69]⟩ _ H1.out).mono ?_
    rintro e w2 ⟨rfl,hp,ho⟩
    rw [show s.sees (⟨#[70,65,76,83,69]⟩ : ByteArray).data.toList = false from B1.out] at hp ⊢
    rw [if_neg (by decide)] at hp
    have H2:=Hd hp
    have R2:=Hd (ho.at R1.out (by omega))
    have O2:=Hd (O1.out.trans ho)
    clear hp ho H1 R1 O1
    go_wp2_with fail
    refine (skip_any P s ⟨#[84,82,85,69]⟩ _ H2.out).mono ?_
    rintro e w3 ⟨rfl,hp,ho⟩
    rw [show s.sees (⟨#[84,82,85,69]⟩ : ByteArray).data.toList = true from B2.out] at hp ⊢
    rw [if_pos rfl] at hp
    have H3:=Hd hp
    have R3:=Hd (ho.at R2.out (by omega))
    have O3:=Hd (O2.out.trans ho)
    clear hp ho H2 R2 O2
    have zm:=three_of R3.out
    go_wp2
    obtain ⟨W6,hW6⟩:=Vx (((w3.setCell ⟨w.heap.size,0,none⟩ (Vi 2)).setCell ⟨w.heap.size,1,none⟩ (Vi 1)).setCell ⟨w.heap.size,2,none⟩ Vs)
    rw [hW6]
    have zy:=(three_of (hW6 ▸ three_set R3.out (Vi 2) (Vi 1) Vs)).1
    have HO : Hid (Only (· = P) w W6):=hW6 ▸ O3.out.three (Nat.le_refl _) _ _ _
    have HQ : Hid (PA W6 P s.next):=hW6 ▸ H3.out.three (by omega) _ _ _
    clear hW6
    exact bodyPost_ret (v:=.agg #[Vi 2,Vi 1,Vs]) (by simp [results,Tryz.results196,go_sem,zy]) rfl (lit_ok (v:=(2,1,⟨#[]⟩)) HV.out HO.out HQ.out)
   ·skip
    obtain ⟨⟨⟨k,n,t⟩,a⟩,hh⟩ : ∃ x,s.hd = x:=⟨_,rfl⟩
    have hct:=ctoken_any P s
    rw [hh] at hct
    unfold tkA at hct
    have HT:=Hd hct
    have hf0:=fieldT0
    have hf1:=fieldT1
    have hf2:=fieldT2
    clear hct
    have B0 : Hid (s.sees wNull = false):=by show s.sees wNull = false; simpa using b0
    have B1 : Hid (s.sees wFalse = false):=by show s.sees wFalse = false; simpa using b1
    have B2 : Hid (s.sees wTrue = false):=by show s.sees wTrue = false; simpa using b2
    by_cases k5 : k = 5
    ·subst k5
     have HV : Hid (litR s = .ok (3,0,t) s.next):=by
      show litR s = _
      unfold litR
      rw [if_neg b0,if_neg b1,if_neg b2,hh,if_pos rfl]
     have HH:=Hd hh
     clear b0 b1 b2 hh
     go_enter Tryz.func196,Tryz.ntmps196
     have H0 : Hid (PA (w.alloc (.cells #[Vi 0,Vi 0,Vs] 47)) P s):=HP.out.later ((Below.refl _ _).alloc (Nat.le_refl _) _)
     have O0 : Hid (Only (· = P) w (w.alloc (.cells #[Vi 0,Vi 0,Vs] 47))):=(Only.refl _ _).alloc _
     have R0 : Hid ((w.alloc (.cells #[Vi 0,Vi 0,Vs] 47)).heap[w.heap.size]? = some (.cells #[Vi 0,Vi 0,Vs] 47 (0,0))):=heap_alloc_new w _
     go_wp2_with fail
     refine (skip_any P s ⟨#[78,85,76,76]⟩ _ H0.out).mono ?_
     rintro e w1 ⟨rfl,hp,ho⟩
     rw [show s.sees (⟨#[78,85,76,76]⟩ : ByteArray).data.toList = false from B0.out] at hp ⊢
     rw [if_neg (by decide)] at hp
     have H1:=Hd hp
     have R1:=Hd (ho.at R0.out (by omega))
     have O1:=Hd (O0.out.trans ho)
     clear hp ho H0 R0 O0
     go_wp2_with fail
     refine (skip_any P s ⟨#[70,65,76,83,69]⟩ _ H1.out).mono ?_
     rintro e w2 ⟨rfl,hp,ho⟩
     rw [show s.sees (⟨#[70,65,76,83,69]⟩ : ByteArray).data.toList = false from B1.out] at hp ⊢
     rw [if_neg (by decide)] at hp
     have H2:=Hd hp
     have R2:=Hd (ho.at R1.out (by omega))
     have O2:=Hd (O1.out.trans ho)
     clear hp ho H1 R1 O1
     go_wp2_with fail
     refine (skip_any P s ⟨#[84,82,85,69]⟩ _ H2.out).mono ?_
     rintro e w3 ⟨rfl,hp,ho⟩
     rw [show s.sees (⟨#[84,82,85,69]⟩ : ByteArray).data.toList = false from B2.out] at hp ⊢
     rw [if_neg (by decide)] at hp
     have H3:=Hd hp
     have R3:=Hd (ho.at R2.out (by omega))
     have O3:=Hd (O2.out.trans ho)
     clear hp ho H2 R2 O2
     go_wp2_with fail
     refine (HT.out _ H3.out).mono ?_
     rintro e w4 ⟨rfl,hb4⟩
     have H4:=Hd (H3.out.later hb4)
     have R4:=Hd ((Only.of (Z:=(· = P)) hb4).at R3.out (by omega))
     have O4:=Hd (O3.out.trans (Only.of hb4))
     clear hb4 H3 R3 O3
     go_wp2_with fail
     refine (take_any P s 5 _ H4.out (by decide)).mono ?_
     rintro e w5 ⟨⟨hk,rfl,hp⟩ | ⟨hk,rfl,hp⟩,ho⟩
     ·rw [HH.out]
      unfold tkA
      have H5:=Hd hp
      have R5:=Hd (ho.at R4.out (by omega))
      have O5:=Hd (O4.out.trans ho)
      clear hk hp ho H4 R4 O4
      have zm:=three_of R5.out
      go_wp2
      obtain ⟨W6,hW6⟩:=Vx (((w5.setCell ⟨w.heap.size,0,none⟩ (Vi 3)).setCell ⟨w.heap.size,1,none⟩ (Vi 0)).setCell ⟨w.heap.size,2,none⟩ (.string t))
      rw [hW6]
      have zy:=(three_of (hW6 ▸ three_set R5.out (Vi 3) (Vi 0) (.string t))).1
      have HO : Hid (Only (· = P) w W6):=hW6 ▸ O5.out.three (Nat.le_refl _) _ _ _
      have HQ : Hid (PA W6 P s.next):=hW6 ▸ H5.out.three (by omega) _ _ _
      clear hW6
      exact bodyPost_ret (v:=.agg #[Vi 3,Vi 0,.string t]) (by simp [results,Tryz.results196,go_sem,zy]) rfl (lit_ok (v:=(3,0,t)) HV.out HO.out HQ.out)
     ·exact absurd (by rw [HH.out]) hk
    ·have e5 : (k == 5) = false:=by simpa using k5
     have HH:=Hd hh
     by_cases k2 : k = 2
     ·subst k2
      have HV : Hid (litR s = .ok (1,n,⟨#[]⟩) s.next):=by
       show litR s = _
       unfold litR
       rw [if_neg b0,if_neg b1,if_neg b2,hh,if_neg (show ¬ (2 : Int) = 5 by decide),if_pos rfl]
      clear b0 b1 b2 hh k5
      go_enter Tryz.func196,Tryz.ntmps196
      have H0 : Hid (PA (w.alloc (.cells #[Vi 0,Vi 0,Vs] 47)) P s):=HP.out.later ((Below.refl _ _).alloc (Nat.le_refl _) _)
      have O0 : Hid (Only (· = P) w (w.alloc (.cells #[Vi 0,Vi 0,Vs] 47))):=(Only.refl _ _).alloc _
      have R0 : Hid ((w.alloc (.cells #[Vi 0,Vi 0,Vs] 47)).heap[w.heap.size]? = some (.cells #[Vi 0,Vi 0,Vs] 47 (0,0))):=heap_alloc_new w _
      go_wp2_with fail
      refine (skip_any P s ⟨#[78,85,76,76]⟩ _ H0.out).mono ?_
      rintro e w1 ⟨rfl,hp,ho⟩
      rw [show s.sees (⟨#[78,85,76,76]⟩ : ByteArray).data.toList = false from B0.out] at hp ⊢
      rw [if_neg (by decide)] at hp
      have H1:=Hd hp
      have R1:=Hd (ho.at R0.out (by omega))
      have O1:=Hd (O0.out.trans ho)
      clear hp ho H0 R0 O0
      go_wp2_with fail
      refine (skip_any P s ⟨#[70,65,76,83,69]⟩ _ H1.out).mono ?_
      rintro e w2 ⟨rfl,hp,ho⟩
      rw [show s.sees (⟨#[70,65,76,83,69]⟩ : ByteArray).data.toList = false from B1.out] at hp ⊢
      rw [if_neg (by decide)] at hp
      have H2:=Hd hp
      have R2:=Hd (ho.at R1.out (by omega))
      have O2:=Hd (O1.out.trans ho)
      clear hp ho H1 R1 O1
      go_wp2_with fail
      refine (skip_any P s ⟨#[84,82,85,69]⟩ _ H2.out).mono ?_
      rintro e w3 ⟨rfl,hp,ho⟩
      rw [show s.sees (⟨#[84,82,85,69]⟩ : ByteArray).data.toList = false from B2.out] at hp ⊢
      rw [if_neg (by decide)] at hp
      have H3:=Hd hp
      have R3:=Hd (ho.at R2.out (by omega))
      have O3:=Hd (O2.out.trans ho)
      clear hp ho H2 R2 O2
      go_wp2_with fail
      refine (HT.out _ H3.out).mono ?_
      rintro e w4 ⟨rfl,hb4⟩
      have H4:=Hd (H3.out.later hb4)
      have R4:=Hd ((Only.of (Z:=(· = P)) hb4).at R3.out (by omega))
      have O4:=Hd (O3.out.trans (Only.of hb4))
      clear hb4 H3 R3 O3
      go_wp2_with fail
      refine (take_any P s 2 _ H4.out (by decide)).mono ?_
      rintro e w5 ⟨⟨hk,rfl,hp⟩ | ⟨hk,rfl,hp⟩,ho⟩
      ·rw [HH.out]
       unfold tkA
       have H5:=Hd hp
       have R5:=Hd (ho.at R4.out (by omega))
       have O5:=Hd (O4.out.trans ho)
       clear hk hp ho H4 R4 O4
       have zm:=three_of R5.out
       go_wp2
       obtain ⟨W6,hW6⟩:=Vx (((w5.setCell ⟨w.heap.size,0,none⟩ (Vi 1)).setCell ⟨w.heap.size,1,none⟩ (Vi n)).setCell ⟨w.heap.size,2,none⟩ Vs)
       rw [hW6]
       have zy:=(three_of (hW6 ▸ three_set R5.out (Vi 1) (Vi n) Vs)).1
       have HO : Hid (Only (· = P) w W6):=hW6 ▸ O5.out.three (Nat.le_refl _) _ _ _
       have HQ : Hid (PA W6 P s.next):=hW6 ▸ H5.out.three (by omega) _ _ _
       clear hW6
       exact bodyPost_ret (v:=.agg #[Vi 1,Vi n,Vs]) (by simp [results,Tryz.results196,go_sem,zy]) rfl (lit_ok (v:=(1,n,⟨#[]⟩)) HV.out HO.out HQ.out)
      ·exact absurd (by rw [HH.out]) hk
     ·have HV : Hid (litR s = .bad a):=by
       show litR s = _
       unfold litR
       rw [if_neg b0,if_neg b1,if_neg b2,hh,if_neg k5,if_neg k2]
      have HK2:=Hd k2
      clear b0 b1 b2 hh k5 k2
      go_enter Tryz.func196,Tryz.ntmps196
      have H0 : Hid (PA (w.alloc (.cells #[Vi 0,Vi 0,Vs] 47)) P s):=HP.out.later ((Below.refl _ _).alloc (Nat.le_refl _) _)
      have O0 : Hid (Only (· = P) w (w.alloc (.cells #[Vi 0,Vi 0,Vs] 47))):=(Only.refl _ _).alloc _
      have R0 : Hid ((w.alloc (.cells #[Vi 0,Vi 0,Vs] 47)).heap[w.heap.size]? = some (.cells #[Vi 0,Vi 0,Vs] 47 (0,0))):=heap_alloc_new w _
      go_wp2_with fail
      refine (skip_any P s ⟨#[78,85,76,76]⟩ _ H0.out).mono ?_
      rintro e w1 ⟨rfl,hp,ho⟩
      rw [show s.sees (⟨#[78,85,76,76]⟩ : ByteArray).data.toList = false from B0.out] at hp ⊢
      rw [if_neg (by decide)] at hp
      have H1:=Hd hp
      have R1:=Hd (ho.at R0.out (by omega))
      have O1:=Hd (O0.out.trans ho)
      clear hp ho H0 R0 O0
      go_wp2_with fail
      refine (skip_any P s ⟨#[70,65,76,83,69]⟩ _ H1.out).mono ?_
      rintro e w2 ⟨rfl,hp,ho⟩
      rw [show s.sees (⟨#[70,65,76,83,69]⟩ : ByteArray).data.toList = false from B1.out] at hp ⊢
      rw [if_neg (by decide)] at hp
      have H2:=Hd hp
      have R2:=Hd (ho.at R1.out (by omega))
      have O2:=Hd (O1.out.trans ho)
      clear hp ho H1 R1 O1
      go_wp2_with fail
      refine (skip_any P s ⟨#[84,82,85,69]⟩ _ H2.out).mono ?_
      rintro e w3 ⟨rfl,hp,ho⟩
      rw [show s.sees (⟨#[84,82,85,69]⟩ : ByteArray).data.toList = false from B2.out] at hp ⊢
      rw [if_neg (by decide)] at hp
      have H3:=Hd hp
      have R3:=Hd (ho.at R2.out (by omega))
      have O3:=Hd (O2.out.trans ho)
      clear hp ho H2 R2 O2
      go_wp2_with fail
      refine (HT.out _ H3.out).mono ?_
      rintro e w4 ⟨rfl,hb4⟩
      have H4:=Hd (H3.out.later hb4)
      have R4:=Hd ((Only.of (Z:=(· = P)) hb4).at R3.out (by omega))
      have O4:=Hd (O3.out.trans (Only.of hb4))
      clear hb4 H3 R3 O3
      go_wp2_with fail
      refine (take_any P s 2 _ H4.out (by decide)).mono ?_
      rintro e w5 ⟨⟨hk,rfl,hp⟩ | ⟨hk,rfl,hp⟩,ho⟩
      ·exact absurd (by rw [HH.out] at hk; exact hk) HK2.out
      ·rw [HH.out]
       have O5:=Hd (O4.out.trans ho)
       clear hk hp ho H4 R4 O4
       go_wp2
       exact ⟨rfl,lit_bad HV.out O5.out⟩

theorem nine_of {w : World} {x : Nat} {a0 a1 a2 a3 a4 a5 a6 a7 a8 : Value} {t : TypeId} (h : w.heap[x]? = some (.cells #[a0,a1,a2,a3,a4,a5,a6,a7,a8] t (0,0))) : (w.cell? ⟨x,0,none⟩ = some a0 ∧ w.cell? ⟨x,1,none⟩ = some a1 ∧ w.cell? ⟨x,2,none⟩ = some a2 ∧ w.cell? ⟨x,3,none⟩ = some a3 ∧ w.cell? ⟨x,4,none⟩ = some a4 ∧ w.cell? ⟨x,5,none⟩ = some a5 ∧ w.cell? ⟨x,6,none⟩ = some a6 ∧ w.cell? ⟨x,7,none⟩ = some a7 ∧ w.cell? ⟨x,8,none⟩ = some a8) ∧ (w.frozen? ⟨x,0,none⟩ = false ∧ w.frozen? ⟨x,1,none⟩ = false ∧ w.frozen? ⟨x,2,none⟩ = false ∧ w.frozen? ⟨x,3,none⟩ = false ∧ w.frozen? ⟨x,4,none⟩ = false ∧ w.frozen? ⟨x,5,none⟩ = false ∧ w.frozen? ⟨x,6,none⟩ = false ∧ w.frozen? ⟨x,7,none⟩ = false ∧ w.frozen? ⟨x,8,none⟩ = false):=by
 simp [World.cell?,World.frozen?,h]

theorem nine_set {w : World} {b : Nat} {a0 a1 a2 a3 a4 a5 a6 a7 a8 : Value} {t : TypeId} (h : w.heap[b]? = some (.cells #[a0,a1,a2,a3,a4,a5,a6,a7,a8] t (0,0))) (x0 x1 x2 x3 x4 x5 x6 x7 x8 : Value) : (((((((((w.setCell ⟨b,0,none⟩ x0).setCell ⟨b,1,none⟩ x1).setCell ⟨b,2,none⟩ x2).setCell ⟨b,3,none⟩ x3).setCell ⟨b,4,none⟩ x4).setCell ⟨b,5,none⟩ x5).setCell ⟨b,6,none⟩ x6).setCell ⟨b,7,none⟩ x7).setCell ⟨b,8,none⟩ x8).heap[b]? = some (.cells #[x0,x1,x2,x3,x4,x5,x6,x7,x8] t (0,0)):=by
 have:=set_at (i:=8) (set_at (i:=7) (set_at (i:=6) (set_at (i:=5) (set_at (i:=4) (set_at (i:=3) (set_at (i:=2) (set_at (i:=1) (set_at (i:=0) (h) x0) x1) x2) x3) x4) x5) x6) x7) x8
 simpa using this

theorem Only.nine {Z : Nat → Prop} {a w : World} {b : Nat} (h : Only Z a w) (hb : a.heap.size ≤ b) (x0 x1 x2 x3 x4 x5 x6 x7 x8 : Value) : Only Z a (((((((((w.setCell ⟨b,0,none⟩ x0).setCell ⟨b,1,none⟩ x1).setCell ⟨b,2,none⟩ x2).setCell ⟨b,3,none⟩ x3).setCell ⟨b,4,none⟩ x4).setCell ⟨b,5,none⟩ x5).setCell ⟨b,6,none⟩ x6).setCell ⟨b,7,none⟩ x7).setCell ⟨b,8,none⟩ x8):=(((((((((h).setNew hb _).setNew hb _).setNew hb _).setNew hb _).setNew hb _).setNew hb _).setNew hb _).setNew hb _).setNew hb _

theorem PA.nine {w : World} {P b : Nat} {s : PS} (h : PA w P s) (hb : P < b) (x0 x1 x2 x3 x4 x5 x6 x7 x8 : Value) : PA (((((((((w.setCell ⟨b,0,none⟩ x0).setCell ⟨b,1,none⟩ x1).setCell ⟨b,2,none⟩ x2).setCell ⟨b,3,none⟩ x3).setCell ⟨b,4,none⟩ x4).setCell ⟨b,5,none⟩ x5).setCell ⟨b,6,none⟩ x6).setCell ⟨b,7,none⟩ x7).setCell ⟨b,8,none⟩ x8) P s:=(((((((((h).set hb _).set hb _).set hb _).set hb _).set hb _).set hb _).set hb _).set hb _).set hb _

theorem XO.set {w : World} {B : Nat} {e : Ex} {k : Value} (h : XO w B e k) {p : Addr} (hp : p.block < B) (u : Value) : XO (w.setCell p u) B e k:=h.keep fun g hg _ => Below.heap_setCell _ _ _ _ (fun q => by omega)

theorem XO.nine {w : World} {B b : Nat} {e : Ex} {k : Value} (h : XO w B e k) (hb : b < B) (x0 x1 x2 x3 x4 x5 x6 x7 x8 : Value) : XO (((((((((w.setCell ⟨b,0,none⟩ x0).setCell ⟨b,1,none⟩ x1).setCell ⟨b,2,none⟩ x2).setCell ⟨b,3,none⟩ x3).setCell ⟨b,4,none⟩ x4).setCell ⟨b,5,none⟩ x5).setCell ⟨b,6,none⟩ x6).setCell ⟨b,7,none⟩ x7).setCell ⟨b,8,none⟩ x8) B e k:=(((((((((h).set hb _).set hb _).set hb _).set hb _).set hb _).set hb _).set hb _).set hb _).set hb _

theorem second_block (w : World) (c1 c2 : Array Value) (t : TypeId) : ((w.alloc (.cells c1 t)).alloc (.cells c2 t)).heap[w.heap.size + 1]? = some (.cells c2 t (0,0)):=by
 have:=heap_alloc_new (w.alloc (.cells c1 t)) (.cells c2 t (0,0))
 simpa using this

def ColP (P : Nat) (s : PS) (w : World) (e : Ending) (w' : World) : Prop:=Only (· = P) w w' ∧ match colR s with
 | .ok x s1 => e = .returned (exV x Vn) ∧ PA w' P s1
 | .bad p => e = .panicked (wrongV 110 p)

theorem col_ok {P : Nat} {s s1 : PS} {x : Ex} {w w' : World} (h : colR s = .ok x s1) (ho : Only (· = P) w w') (hp : PA w' P s1) : ColP P s w (.returned (exV x Vn)) w':=⟨ho,by rw [h]; exact ⟨rfl,hp⟩⟩

theorem col_bad {P : Nat} {s : PS} {p : Nat} {w w' : World} (h : colR s = .bad p) (ho : Only (· = P) w w') : ColP P s w (.panicked (wrongV 110 p)) w':=⟨ho,by rw [h]⟩

theorem column_any (P : Nat) (s : PS) (w : World) (h : PA w P s) : Calls Tryz.prog 130 #[.pointer (some ⟨P,0,none⟩)] w (ColP P s w):=by
 have HP:=Hd h
 have hPw:=h.lt
 clear h
 cases hN : nameR s with
 | bad p =>
  have HV : Hid (colR s = .bad p):=by show colR s = _; unfold colR; rw [hN]
  have HN:=Hd hN
  clear hN
  go_enter Tryz.func130,Tryz.ntmps130
  obtain ⟨p0,hp0⟩:=Vx s.hd.2
  have HAT:=ath P hp0
  clear hp0
  have H0 : Hid (PA (w.alloc (.cells Vo 49)) P s):=HP.out.later ((Below.refl _ _).alloc (Nat.le_refl _) _)
  have H1 : Hid (PA ((w.alloc (.cells Vo 49)).alloc (.cells (Ve 3 0 0 0 Vz Vz Vz Vn p0) 49)) P s):=H0.out.later ((Below.refl _ _).alloc (Nat.le_refl _) _)
  have O1 : Hid (Only (· = P) w ((w.alloc (.cells Vo 49)).alloc (.cells (Ve 3 0 0 0 Vz Vz Vz Vn p0) 49))):=((Only.refl _ _).alloc _).alloc _
  have R1 : Hid (((w.alloc (.cells Vo 49)).alloc (.cells (Ve 3 0 0 0 Vz Vz Vz Vn p0) 49)).heap[w.heap.size]? = some (.cells Vo 49 (0,0))):=(alloc_off (by simp) _).trans (heap_alloc_new w _)
  have S1 : Hid (((w.alloc (.cells Vo 49)).alloc (.cells (Ve 3 0 0 0 Vz Vz Vz Vn p0) 49)).heap[w.heap.size + 1]? = some (.cells (Ve 3 0 0 0 Vz Vz Vz Vn p0) 49 (0,0))):=second_block w _ _ _
  go_wp2_with fail
  refine (HAT.out _ H0.out).mono ?_
  rintro e w' ⟨rfl,rfl⟩
  go_wp2_with fail
  refine (name_any P s _ H1.out).mono ?_
  rintro e w2 ⟨ho,hm⟩
  rw [HN.out] at hm
  have O2:=Hd (O1.out.trans ho)
  rw [hm]
  clear ho hm
  go_wp2
  exact ⟨rfl,col_bad HV.out O2.out⟩
 | ok a s1 =>
  have HN:=Hd hN
  by_cases bd : s1.sees [46] = true
  ·have BD:=Hd bd
   cases hM : nameR s1.next with
   | bad p =>
    have HV : Hid (colR s = .bad p):=by show colR s = _; unfold colR; rw [hN]; simp only; rw [if_pos bd,hM]
    have HM:=Hd hM
    clear hN hM bd
    go_enter Tryz.func130,Tryz.ntmps130
    obtain ⟨p0,hp0⟩:=Vx s.hd.2
    have HAT:=ath P hp0
    clear hp0
    have H0 : Hid (PA (w.alloc (.cells Vo 49)) P s):=HP.out.later ((Below.refl _ _).alloc (Nat.le_refl _) _)
    have H1 : Hid (PA ((w.alloc (.cells Vo 49)).alloc (.cells (Ve 3 0 0 0 Vz Vz Vz Vn p0) 49)) P s):=H0.out.later ((Below.refl _ _).alloc (Nat.le_refl _) _)
    have O1 : Hid (Only (· = P) w ((w.alloc (.cells Vo 49)).alloc (.cells (Ve 3 0 0 0 Vz Vz Vz Vn p0) 49))):=((Only.refl _ _).alloc _).alloc _
    have R1 : Hid (((w.alloc (.cells Vo 49)).alloc (.cells (Ve 3 0 0 0 Vz Vz Vz Vn p0) 49)).heap[w.heap.size]? = some (.cells Vo 49 (0,0))):=(alloc_off (by simp) _).trans (heap_alloc_new w _)
    have S1 : Hid (((w.alloc (.cells Vo 49)).alloc (.cells (Ve 3 0 0 0 Vz Vz Vz Vn p0) 49)).heap[w.heap.size + 1]? = some (.cells (Ve 3 0 0 0 Vz Vz Vz Vn p0) 49 (0,0))):=second_block w _ _ _
    go_wp2_with fail
    refine (HAT.out _ H0.out).mono ?_
    rintro e w' ⟨rfl,rfl⟩
    go_wp2_with fail
    refine (name_any P s _ H1.out).mono ?_
    rintro e w2 ⟨ho,hm⟩
    rw [HN.out] at hm
    obtain ⟨rfl,hp⟩:=hm
    have H2:=Hd hp
    have R2:=Hd (ho.at R1.out (by omega))
    have S2:=Hd (ho.at S1.out (by omega))
    have O2:=Hd (O1.out.trans ho)
    clear hp ho H0 H1 R1 S1 O1
    obtain ⟨⟨-,-,-,-,-,-,m6,-,-⟩,-,-,-,-,-,-,g6,-,-⟩:=nine_of S2.out
    go_wp2_with fail
    obtain ⟨W3,hW3⟩:=Vx (w2.setCell ⟨w.heap.size + 1,6,none⟩ (.string a))
    rw [hW3]
    have H3 : Hid (PA W3 P s1):=hW3 ▸ H2.out.set (by show P < w.heap.size + 1; omega) _
    have R3 : Hid (W3.heap[w.heap.size]? = some (.cells Vo 49 (0,0))):=hW3 ▸ (set_off _ (by omega)).trans R2.out
    have S3 : Hid (W3.heap[w.heap.size + 1]? = some (.cells (Ve 3 0 0 0 Vz Vz a Vn p0) 49 (0,0))):=hW3 ▸ set_at (i:=6) S2.out (.string a)
    have O3 : Hid (Only (· = P) w W3):=hW3 ▸ O2.out.setNew (by show w.heap.size ≤ w.heap.size + 1; omega) _
    clear hW3 H2 R2 S2 O2 m6 g6
    refine (skip_any P s1 ⟨#[46]⟩ _ H3.out).mono ?_
    rintro e w4 ⟨rfl,hp,ho⟩
    rw [show s1.sees (⟨#[46]⟩ : ByteArray).data.toList = true from BD.out] at hp ⊢
    rw [if_pos rfl] at hp
    have H4:=Hd hp
    have R4:=Hd (ho.at R3.out (by omega))
    have S4:=Hd (ho.at S3.out (by omega))
    have O4:=Hd (O3.out.trans ho)
    clear hp ho H3 R3 S3 O3
    obtain ⟨⟨-,-,-,-,-,m5,m6,-,-⟩,-,-,-,-,-,g5,g6,-,-⟩:=nine_of S4.out
    go_wp2_with fail
    obtain ⟨W4,hW4⟩:=Vx (w4.setCell ⟨w.heap.size + 1,5,none⟩ (.string a))
    rw [hW4]
    have H5 : Hid (PA W4 P s1.next):=hW4 ▸ H4.out.set (by show P < w.heap.size + 1; omega) _
    have R5 : Hid (W4.heap[w.heap.size]? = some (.cells Vo 49 (0,0))):=hW4 ▸ (set_off _ (by omega)).trans R4.out
    have S5 : Hid (W4.heap[w.heap.size + 1]? = some (.cells (Ve 3 0 0 0 Vz a a Vn p0) 49 (0,0))):=hW4 ▸ set_at (i:=5) S4.out (.string a)
    have O5 : Hid (Only (· = P) w W4):=hW4 ▸ O4.out.setNew (by show w.heap.size ≤ w.heap.size + 1; omega) _
    clear hW4 H4 R4 S4 O4 m5 m6 g5 g6
    refine (name_any P s1.next _ H5.out).mono ?_
    rintro e w5 ⟨ho,hm⟩
    rw [HM.out] at hm
    have O6:=Hd (O5.out.trans ho)
    rw [hm]
    clear ho hm
    go_wp2
    exact ⟨rfl,col_bad HV.out O6.out⟩
   | ok b s2 =>
    have HV : Hid (colR s = .ok (.mk 3 0 v0 a b [] s.hd.2) s2):=by show colR s = _; unfold colR; rw [hN]; simp only; rw [if_pos bd,hM]
    have HM:=Hd hM
    clear hN hM bd
    go_enter Tryz.func130,Tryz.ntmps130
    obtain ⟨p0,hp0⟩:=Vx s.hd.2
    have HAT:=ath P hp0
    rw [hp0] at HV
    clear hp0
    have H0 : Hid (PA (w.alloc (.cells Vo 49)) P s):=HP.out.later ((Below.refl _ _).alloc (Nat.le_refl _) _)
    have H1 : Hid (PA ((w.alloc (.cells Vo 49)).alloc (.cells (Ve 3 0 0 0 Vz Vz Vz Vn p0) 49)) P s):=H0.out.later ((Below.refl _ _).alloc (Nat.le_refl _) _)
    have O1 : Hid (Only (· = P) w ((w.alloc (.cells Vo 49)).alloc (.cells (Ve 3 0 0 0 Vz Vz Vz Vn p0) 49))):=((Only.refl _ _).alloc _).alloc _
    have R1 : Hid (((w.alloc (.cells Vo 49)).alloc (.cells (Ve 3 0 0 0 Vz Vz Vz Vn p0) 49)).heap[w.heap.size]? = some (.cells Vo 49 (0,0))):=(alloc_off (by simp) _).trans (heap_alloc_new w _)
    have S1 : Hid (((w.alloc (.cells Vo 49)).alloc (.cells (Ve 3 0 0 0 Vz Vz Vz Vn p0) 49)).heap[w.heap.size + 1]? = some (.cells (Ve 3 0 0 0 Vz Vz Vz Vn p0) 49 (0,0))):=second_block w _ _ _
    go_wp2_with fail
    refine (HAT.out _ H0.out).mono ?_
    rintro e w' ⟨rfl,rfl⟩
    go_wp2_with fail
    refine (name_any P s _ H1.out).mono ?_
    rintro e w2 ⟨ho,hm⟩
    rw [HN.out] at hm
    obtain ⟨rfl,hp⟩:=hm
    have H2:=Hd hp
    have R2:=Hd (ho.at R1.out (by omega))
    have S2:=Hd (ho.at S1.out (by omega))
    have O2:=Hd (O1.out.trans ho)
    clear hp ho H0 H1 R1 S1 O1
    obtain ⟨⟨-,-,-,-,-,-,m6,-,-⟩,-,-,-,-,-,-,g6,-,-⟩:=nine_of S2.out
    go_wp2_with fail
    obtain ⟨W3,hW3⟩:=Vx (w2.setCell ⟨w.heap.size + 1,6,none⟩ (.string a))
    rw [hW3]
    have H3 : Hid (PA W3 P s1):=hW3 ▸ H2.out.set (by show P < w.heap.size + 1; omega) _
    have R3 : Hid (W3.heap[w.heap.size]? = some (.cells Vo 49 (0,0))):=hW3 ▸ (set_off _ (by omega)).trans R2.out
    have S3 : Hid (W3.heap[w.heap.size + 1]? = some (.cells (Ve 3 0 0 0 Vz Vz a Vn p0) 49 (0,0))):=hW3 ▸ set_at (i:=6) S2.out (.string a)
    have O3 : Hid (Only (· = P) w W3):=hW3 ▸ O2.out.setNew (by show w.heap.size ≤ w.heap.size + 1; omega) _
    clear hW3 H2 R2 S2 O2 m6 g6
    refine (skip_any P s1 ⟨#[46]⟩ _ H3.out).mono ?_
    rintro e w4 ⟨rfl,hp,ho⟩
    rw [show s1.sees (⟨#[46]⟩ : ByteArray).data.toList = true from BD.out] at hp ⊢
    rw [if_pos rfl] at hp
    have H4:=Hd hp
    have R4:=Hd (ho.at R3.out (by omega))
    have S4:=Hd (ho.at S3.out (by omega))
    have O4:=Hd (O3.out.trans ho)
    clear hp ho H3 R3 S3 O3
    obtain ⟨⟨-,-,-,-,-,m5,m6,-,-⟩,-,-,-,-,-,g5,g6,-,-⟩:=nine_of S4.out
    go_wp2_with fail
    obtain ⟨W4,hW4⟩:=Vx (w4.setCell ⟨w.heap.size + 1,5,none⟩ (.string a))
    rw [hW4]
    have H5 : Hid (PA W4 P s1.next):=hW4 ▸ H4.out.set (by show P < w.heap.size + 1; omega) _
    have R5 : Hid (W4.heap[w.heap.size]? = some (.cells Vo 49 (0,0))):=hW4 ▸ (set_off _ (by omega)).trans R4.out
    have S5 : Hid (W4.heap[w.heap.size + 1]? = some (.cells (Ve 3 0 0 0 Vz a a Vn p0) 49 (0,0))):=hW4 ▸ set_at (i:=5) S4.out (.string a)
    have O5 : Hid (Only (· = P) w W4):=hW4 ▸ O4.out.setNew (by show w.heap.size ≤ w.heap.size + 1; omega) _
    clear hW4 H4 R4 S4 O4 m5 m6 g5 g6
    refine (name_any P s1.next _ H5.out).mono ?_
    rintro e w5 ⟨ho,hm⟩
    rw [HM.out] at hm
    obtain ⟨rfl,hp⟩:=hm
    have H6:=Hd hp
    have R6:=Hd (ho.at R5.out (by omega))
    have S6:=Hd (ho.at S5.out (by omega))
    have O6:=Hd (O5.out.trans ho)
    clear hp ho H5 R5 S5 O5
    have zn:=nine_of R6.out
    obtain ⟨⟨m0,m1,m2,m3,m4,m5,m6,m7,m8⟩,g0,g1,g2,g3,g4,g5,g6,g7,g8⟩:=nine_of S6.out
    go_wp2
    obtain ⟨W6,hW6⟩:=Vx ((((((((((w5.setCell ⟨w.heap.size + 1,6,none⟩ (.string b)).setCell ⟨w.heap.size,0,none⟩ (Vi 3)).setCell ⟨w.heap.size,1,none⟩ (Vi 0)).setCell ⟨w.heap.size,2,none⟩ (Vi 0)).setCell ⟨w.heap.size,3,none⟩ (Vi 0)).setCell ⟨w.heap.size,4,none⟩ Vs).setCell ⟨w.heap.size,5,none⟩ (.string a)).setCell ⟨w.heap.size,6,none⟩ (.string b)).setCell ⟨w.heap.size,7,none⟩ Vn).setCell ⟨w.heap.size,8,none⟩ (Vi (p0 : Int)))
    rw [hW6]
    have R7 : (w5.setCell ⟨w.heap.size + 1,6,none⟩ (.string b)).heap[w.heap.size]? = some (.cells Vo 49 (0,0)):=(set_off _ (by omega)).trans R6.out
    have zy:=(nine_of (hW6 ▸ nine_set R7 (Vi 3) (Vi 0) (Vi 0) (Vi 0) Vs (.string a) (.string b) Vn (Vi (p0 : Int)))).1
    have HO : Hid (Only (· = P) w W6):=hW6 ▸ (O6.out.setNew (by show w.heap.size ≤ w.heap.size + 1; omega) _).nine (Nat.le_refl _) _ _ _ _ _ _ _ _ _
    have HQ : Hid (PA W6 P s2):=hW6 ▸ (H6.out.set (by show P < w.heap.size + 1; omega) _).nine hPw _ _ _ _ _ _ _ _ _
    clear hW6
    exact bodyPost_ret (v:=exV (.mk 3 0 v0 a b [] (p0 : Int)) Vn) (by simp [results,Tryz.results130,go_sem,exV,exC,v0,zy]) rfl (col_ok HV.out HO.out HQ.out)
  ·have BD : Hid (s1.sees [46] = false):=by show s1.sees [46] = false; simpa using bd
   have HV : Hid (colR s = .ok (.mk 3 0 v0 ⟨#[]⟩ a [] s.hd.2) s1):=by show colR s = _; unfold colR; rw [hN]; simp only; rw [if_neg bd]
   clear hN bd
   go_enter Tryz.func130,Tryz.ntmps130
   obtain ⟨p0,hp0⟩:=Vx s.hd.2
   have HAT:=ath P hp0
   rw [hp0] at HV
   clear hp0
   have H0 : Hid (PA (w.alloc (.cells Vo 49)) P s):=HP.out.later ((Below.refl _ _).alloc (Nat.le_refl _) _)
   have H1 : Hid (PA ((w.alloc (.cells Vo 49)).alloc (.cells (Ve 3 0 0 0 Vz Vz Vz Vn p0) 49)) P s):=H0.out.later ((Below.refl _ _).alloc (Nat.le_refl _) _)
   have O1 : Hid (Only (· = P) w ((w.alloc (.cells Vo 49)).alloc (.cells (Ve 3 0 0 0 Vz Vz Vz Vn p0) 49))):=((Only.refl _ _).alloc _).alloc _
   have R1 : Hid (((w.alloc (.cells Vo 49)).alloc (.cells (Ve 3 0 0 0 Vz Vz Vz Vn p0) 49)).heap[w.heap.size]? = some (.cells Vo 49 (0,0))):=(alloc_off (by simp) _).trans (heap_alloc_new w _)
   have S1 : Hid (((w.alloc (.cells Vo 49)).alloc (.cells (Ve 3 0 0 0 Vz Vz Vz Vn p0) 49)).heap[w.heap.size + 1]? = some (.cells (Ve 3 0 0 0 Vz Vz Vz Vn p0) 49 (0,0))):=second_block w _ _ _
   go_wp2_with fail
   refine (HAT.out _ H0.out).mono ?_
   rintro e w' ⟨rfl,rfl⟩
   go_wp2_with fail
   refine (name_any P s _ H1.out).mono ?_
   rintro e w2 ⟨ho,hm⟩
   rw [HN.out] at hm
   obtain ⟨rfl,hp⟩:=hm
   have H2:=Hd hp
   have R2:=Hd (ho.at R1.out (by omega))
   have S2:=Hd (ho.at S1.out (by omega))
   have O2:=Hd (O1.out.trans ho)
   clear hp ho H0 H1 R1 S1 O1
   obtain ⟨⟨-,-,-,-,-,-,m6,-,-⟩,-,-,-,-,-,-,g6,-,-⟩:=nine_of S2.out
   go_wp2_with fail
   obtain ⟨W3,hW3⟩:=Vx (w2.setCell ⟨w.heap.size + 1,6,none⟩ (.string a))
   rw [hW3]
   have H3 : Hid (PA W3 P s1):=hW3 ▸ H2.out.set (by show P < w.heap.size + 1; omega) _
   have R3 : Hid (W3.heap[w.heap.size]? = some (.cells Vo 49 (0,0))):=hW3 ▸ (set_off _ (by omega)).trans R2.out
   have S3 : Hid (W3.heap[w.heap.size + 1]? = some (.cells (Ve 3 0 0 0 Vz Vz a Vn p0) 49 (0,0))):=hW3 ▸ set_at (i:=6) S2.out (.string a)
   have O3 : Hid (Only (· = P) w W3):=hW3 ▸ O2.out.setNew (by show w.heap.size ≤ w.heap.size + 1; omega) _
   clear hW3 H2 R2 S2 O2 m6 g6
   refine (skip_any P s1 ⟨#[46]⟩ _ H3.out).mono ?_
   rintro e w4 ⟨rfl,hp,ho⟩
   rw [show s1.sees (⟨#[46]⟩ : ByteArray).data.toList = false from BD.out] at hp ⊢
   rw [if_neg (by decide)] at hp
   have H4:=Hd hp
   have R4:=Hd (ho.at R3.out (by omega))
   have S4:=Hd (ho.at S3.out (by omega))
   have O4:=Hd (O3.out.trans ho)
   clear hp ho H3 R3 S3 O3
   have zn:=nine_of R4.out
   obtain ⟨⟨m0,m1,m2,m3,m4,m5,m6,m7,m8⟩,g0,g1,g2,g3,g4,g5,g6,g7,g8⟩:=nine_of S4.out
   go_wp2
   obtain ⟨W6,hW6⟩:=Vx (((((((((w4.setCell ⟨w.heap.size,0,none⟩ (Vi 3)).setCell ⟨w.heap.size,1,none⟩ (Vi 0)).setCell ⟨w.heap.size,2,none⟩ (Vi 0)).setCell ⟨w.heap.size,3,none⟩ (Vi 0)).setCell ⟨w.heap.size,4,none⟩ Vs).setCell ⟨w.heap.size,5,none⟩ Vs).setCell ⟨w.heap.size,6,none⟩ (.string a)).setCell ⟨w.heap.size,7,none⟩ Vn).setCell ⟨w.heap.size,8,none⟩ (Vi (p0 : Int)))
   rw [hW6]
   have zy:=(nine_of (hW6 ▸ nine_set R4.out (Vi 3) (Vi 0) (Vi 0) (Vi 0) Vs Vs (.string a) Vn (Vi (p0 : Int)))).1
   have HO : Hid (Only (· = P) w W6):=hW6 ▸ O4.out.nine (Nat.le_refl _) _ _ _ _ _ _ _ _ _
   have HQ : Hid (PA W6 P s1):=hW6 ▸ H4.out.nine hPw _ _ _ _ _ _ _ _ _
   clear hW6
   exact bodyPost_ret (v:=exV (.mk 3 0 v0 ⟨#[]⟩ a [] (p0 : Int)) Vn) (by simp [results,Tryz.results130,go_sem,exV,exC,v0,zy]) rfl (col_ok HV.out HO.out HQ.out)

def needR : List ByteArray → PS → Res Unit
 | [],s => .ok () s
 | x :: l,s => if s.sees x.data.toList = true then needR l s.next else .bad s.hd.2

def StrsP (w : World) (P : Nat) (p : Option Addr) (l : List ByteArray) : Prop:=∀ i (h : i < l.length),∃ b off,p = some ⟨b,off,none⟩ ∧ P < b ∧ w.cell? ⟨b,off + i,none⟩ = some (.string l[i])

theorem StrsP.only {w w' : World} {P : Nat} {p : Option Addr} {l : List ByteArray} (h : StrsP w P p l) (ho : Only (· = P) w w') : StrsP w' P p l:=by
 intro i hi
 obtain ⟨b,off,e,hb,hc⟩:=h i hi
 exact ⟨b,off,e,hb,(World.cell?_of_block (a:=⟨b,_,none⟩) (ho.block b (World.block_lt_of_cell? _ _ hc) (by show ¬ b = P; omega))).trans hc⟩

def NeedP (P : Nat) (s : PS) (l : List ByteArray) (w : World) (e : Ending) (w' : World) : Prop:=Only (· = P) w w' ∧ match needR l s with
 | .ok _ s1 => e = .returned (.tuple #[]) ∧ PA w' P s1
 | .bad p => e = .panicked (wrongV 110 p)

theorem need_ok {P : Nat} {s s1 : PS} {l : List ByteArray} {u : Unit} {w w' : World} (h : needR l s = .ok u s1) (ho : Only (· = P) w w') (hp : PA w' P s1) : NeedP P s l w (.returned (.tuple #[])) w':=⟨ho,by rw [h]; exact ⟨rfl,hp⟩⟩

theorem need_bad {P : Nat} {s : PS} {l : List ByteArray} {p : Nat} {w w' : World} (h : needR l s = .bad p) (ho : Only (· = P) w w') : NeedP P s l w (.panicked (wrongV 110 p)) w':=⟨ho,by rw [h]⟩

theorem need_any (P : Nat) (s : PS) (p : Option Addr) (l : List ByteArray) (cap : Nat) (w : World) (h : PA w P s) (hl : StrsP w P p l) (hlen : l.length ≤ 100) : Calls Tryz.prog 122 #[.pointer (some ⟨P,0,none⟩),.slice p l.length cap] w (NeedP P s l w):=by
 have HP:=Hd h
 have HL:=Hd hl
 clear h hl
 go_enter Tryz.func122,Tryz.ntmps122
 go_wp2
 go_loopw [8] (fun i wr => ∃ (k : Nat) (s1 : PS),k ≤ l.length ∧ i = Vi (k : Int) ∧ PA wr P s1 ∧ needR (l.drop k) s1 = needR l s ∧ Only (· = P) w wr) (fun i _ => l.length - (intOf i).toNat)
 case atStart => exact ⟨0,s,Nat.zero_le _,rfl,HP.out,rfl,Only.refl _ _⟩
 case round =>
  obtain ⟨k,s1,hk,rfl,hp1,hn,ho⟩:=hrel
  have H1:=Hd hp1
  have HN:=Hd hn
  have HO:=Hd ho
  clear hp1 hn ho
  by_cases hlt : k < l.length
  ·have hlti : (k : Int) < (l.length : Int):=by omega
   obtain ⟨b,off,rfl,hb,c0⟩:=(HL.out.only HO.out) k hlt
   obtain ⟨x,hx⟩:=Vx (l[k])
   rw [hx] at c0
   have HD : Hid (needR (l.drop k) s1 = if s1.sees x.data.toList = true then needR (l.drop (k + 1)) s1.next else .bad s1.hd.2):=by
    rw [List.drop_eq_getElem_cons hlt,hx]
    rfl
   clear hx
   cases hs : s1.sees x.data.toList with
   | true =>
    have hD:=HD.out
    rw [if_pos hs] at hD
    have HD2 : Hid (needR (l.drop (k + 1)) s1.next = needR l s):=hD.symm.trans HN.out
    have hsk:=skip_any P s1 x
    rw [hs] at hsk
    have HSK:=Hd hsk
    clear hsk hs hD HD
    go_wp2_with fail
    refine (HSK.out _ H1.out).mono ?_
    rintro e w2 ⟨rfl,hp,ho⟩
    rw [if_pos trivial] at hp
    have H2:=Hd hp
    have O2:=Hd (HO.out.trans ho)
    clear hp ho
    go_wp2
    go_roundw
    case rel => exact ⟨k + 1,s1.next,by omega,by go_num,H2.out,HD2.out,O2.out⟩
    case measure => simp [intOf]; omega
   | false =>
    have hD:=HD.out
    rw [if_neg (by rw [hs]; simp)] at hD
    have HD2 : Hid (needR l s = .bad s1.hd.2):=HN.out.symm.trans hD
    have hsk:=skip_any P s1 x
    rw [hs] at hsk
    have HSK:=Hd hsk
    clear hsk hs hD HD
    go_wp2_with fail
    refine (HSK.out _ H1.out).mono ?_
    rintro e w2 ⟨rfl,hp,ho⟩
    rw [if_neg (by decide)] at hp
    have H2:=Hd hp
    have O2:=Hd (HO.out.trans ho)
    clear hp ho
    go_wp2_with fail
    refine (giveUp_any P s1 _ H2.out).mono ?_
    rintro e w3 ⟨rfl,rfl⟩
    go_wp2
    exact ⟨rfl,need_bad HD2.out O2.out⟩
  ·have hlti : ¬ (k : Int) < (l.length : Int):=by omega
   have HD2 : Hid (needR l s = .ok () s1):=by
    have:=HN.out
    rw [List.drop_eq_nil_of_le (by omega)] at this
    exact this.symm
   go_wp2
   exact bodyPost_ret (v:=.tuple #[]) (by simp [results,Tryz.results122,go_sem]) rfl (need_ok HD2.out HO.out H1.out)

theorem below_draws (w : World) (n : Nat) : Below w.heap.size w (w.drewN n):=⟨rfl,rfl,rfl,Nat.le_refl _,fun _ _ => rfl⟩

def SgnP (w : World) (P : Nat) (p : Option Addr) (l : List (ByteArray × Int)) : Prop:=∀ i (h : i < l.length),∃ b off,p = some ⟨b,off,none⟩ ∧ P < b ∧ w.cell? ⟨b,off + i * 2,none⟩ = some (.string l[i].1) ∧ w.cell? ⟨b,off + i * 2 + 1,none⟩ = some (Vi l[i].2)

theorem SgnP.only {w w' : World} {P : Nat} {p : Option Addr} {l : List (ByteArray × Int)} (h : SgnP w P p l) (ho : Only (· = P) w w') : SgnP w' P p l:=by
 intro i hi
 obtain ⟨b,off,e,hb,hc,hd⟩:=h i hi
 have hk:=ho.block b (World.block_lt_of_cell? _ _ hc) (by show ¬ b = P; omega)
 exact ⟨b,off,e,hb,(World.cell?_of_block (a:=⟨b,_,none⟩) hk).trans hc,(World.cell?_of_block (a:=⟨b,_,none⟩) hk).trans hd⟩

def sgl (l : List (ByteArray × Int)) : List (List UInt8 × Int):=l.map fun x => (x.1.data.toList,x.2)

def OpP (P : Nat) (s : PS) (l : List (ByteArray × Int)) (w : World) (e : Ending) (w' : World) : Prop:=e = .returned (Vi (opOf s (sgl l))) ∧ PA w' P (if opOf s (sgl l) = 0 then s else s.next) ∧ Only (· = P) w w'

theorem operation_any (P : Nat) (s : PS) (p : Option Addr) (l : List (ByteArray × Int)) (cap : Nat) (w : World) (h : PA w P s) (hl : SgnP w P p l) (hlen : l.length ≤ 100) (hnz : ∀ x ∈ l,x.2 ≠ 0) : Calls Tryz.prog 188 #[.pointer (some ⟨P,0,none⟩),.slice p l.length cap] w (OpP P s l w):=by
 have HP:=Hd h
 have HL:=Hd hl
 have HNZ:=Hd hnz
 clear h hl hnz
 go_enter Tryz.func188,Tryz.ntmps188
 go_wp2
 go_loopw [9] (fun i wr => ∃ k : Nat,k ≤ l.length ∧ i = Vi (k : Int) ∧ PA wr P s ∧ opOf s (sgl (l.drop k)) = opOf s (sgl l) ∧ Only (· = P) w wr) (fun i _ => l.length - (intOf i).toNat)
 case atStart => exact ⟨0,Nat.zero_le _,rfl,HP.out,rfl,Only.refl _ _⟩
 case round =>
  obtain ⟨k,hk,rfl,hp1,hn,ho⟩:=hrel
  have H1:=Hd hp1
  have HN:=Hd hn
  have HO:=Hd ho
  clear hp1 hn ho
  by_cases hlt : k < l.length
  ·have hlti : (k : Int) < (l.length : Int):=by omega
   obtain ⟨b,off,rfl,hb,c0,c1⟩:=(HL.out.only HO.out) k hlt
   obtain ⟨⟨x,z⟩,hx⟩ : ∃ x,l[k] = x:=⟨_,rfl⟩
   rw [hx] at c0 c1
   simp only at c0 c1
   have HZ : Hid (z ≠ 0):=by
    have:=HNZ.out l[k] (List.getElem_mem hlt)
    rw [hx] at this
    exact this
   have HD : Hid (opOf s (sgl (l.drop k)) = if s.sees x.data.toList = true then z else opOf s (sgl (l.drop (k + 1)))):=by
    rw [List.drop_eq_getElem_cons hlt,hx]
    rfl
   have HPW:=H1.out.lt
   have hsz:=HO.out.size
   clear hx
   have H2 : Hid (PA (wr.alloc (.cells #[.string x,Vi z] 190)) P s):=H1.out.later ((Below.refl _ _).alloc (Nat.le_refl _) _)
   have O2 : Hid (Only (· = P) w (wr.alloc (.cells #[.string x,Vi z] 190))):=HO.out.alloc _
   cases hs : s.sees x.data.toList with
   | true =>
    have hD:=HD.out
    rw [if_pos hs] at hD
    have HD2 : Hid (opOf s (sgl l) = z):=HN.out.symm.trans hD
    have hsk:=skip_any P s x
    rw [hs] at hsk
    have HSK:=Hd hsk
    clear hsk hs hD HD
    go_wp2
    go_region_law (go_simp; go_at_call 70; refine (HSK.out _ (H2.out.later (below_draws _ _))).mono ?_; rintro e w2 ⟨rfl,hp,ho⟩)
    have hv : w2.heap[wr.heap.size]? = some (.cells #[.string x,Vi z] 190 (0,0)):=ho.at (heap_alloc_new wr _) (by omega)
    obtain ⟨c2,c3⟩ : w2.cell? ⟨wr.heap.size,0,none⟩ = some (.string x) ∧ w2.cell? ⟨wr.heap.size,1,none⟩ = some (Vi z):=by simp [World.cell?,hv]
    rw [if_pos trivial] at hp
    have H3:=Hd hp
    have O3:=Hd (O2.out.trans ((Only.of (below_draws _ _)).trans ho))
    clear hp ho hv
    go_wp2
    exact bodyPost_ret (v:=Vi z) (by simp [results,Tryz.results188,go_sem]) rfl ⟨by rw [HD2.out],by rw [if_neg (by rw [HD2.out]; exact HZ.out)]; exact H3.out,O3.out⟩
   | false =>
    have hD:=HD.out
    rw [if_neg (by rw [hs]; simp)] at hD
    have HD2 : Hid (opOf s (sgl (l.drop (k + 1))) = opOf s (sgl l)):=hD.symm.trans HN.out
    have hsk:=skip_any P s x
    rw [hs] at hsk
    have HSK:=Hd hsk
    clear hsk hs hD HD
    go_wp2
    go_region_law (go_simp; go_at_call 70; refine (HSK.out _ (H2.out.later (below_draws _ _))).mono ?_; rintro e w2 ⟨rfl,hp,ho⟩)
    rw [if_neg (by first | decide | exact not_false)] at hp
    have H3:=Hd hp
    have O3:=Hd (O2.out.trans ((Only.of (below_draws _ _)).trans ho))
    clear hp ho
    go_wp2
    go_roundw
    case rel => exact ⟨k + 1,by omega,by go_num,H3.out,HD2.out,O3.out⟩
    case measure => simp [intOf]; omega
  ·have hlti : ¬ (k : Int) < (l.length : Int):=by omega
   have HD2 : Hid (opOf s (sgl l) = 0):=by
    have:=HN.out
    rw [List.drop_eq_nil_of_le (by omega)] at this
    exact this.symm
   go_wp2
   exact bodyPost_ret (v:=Vi 0) (by simp [results,Tryz.results188,go_sem]) rfl ⟨by rw [HD2.out],by rw [if_pos HD2.out]; exact H1.out,HO.out⟩

def PXP (g : Gl) (P : Nat) (s : PS) (w : World) (e : Ending) (w' : World) : Prop:=∃ r,Pr g s r ∧ Only (· = P) w w' ∧ match r with
 | .ok x s1 => ∃ a m c,e = .returned (exV x (.slice a m c)) ∧ XO w' w.heap.size x (.slice a m c) ∧ PA w' P s1 ∧ s1.rest.length < s.rest.length
 | .bad p => e = .panicked (wrongV 110 p)

theorem px_ok {g : Gl} {P : Nat} {s s1 : PS} {x : Ex} {a : Option Addr} {m c : Nat} {w w' : World} (h : Pr g s (.ok x s1)) (ho : Only (· = P) w w') (hx : XO w' w.heap.size x (.slice a m c)) (hp : PA w' P s1) (hl : s1.rest.length < s.rest.length) : PXP g P s w (.returned (exV x (.slice a m c))) w':=⟨_,h,ho,a,m,c,rfl,hx,hp,hl⟩

theorem px_bad {g : Gl} {P : Nat} {s : PS} {p : Nat} {w w' : World} (h : Pr g s (.bad p)) (ho : Only (· = P) w w') : PXP g P s w (.panicked (wrongV 110 p)) w':=⟨_,h,ho,rfl⟩

def Below_ (n : Nat) (P : Nat) (f : FuncId) (g : Gl) : Prop:=∀ s w,s.rest.length < n → PA w P s → Calls Tryz.prog f #[.pointer (some ⟨P,0,none⟩)] w (PXP g P s w)

theorem PA.shorter {w : World} {P : Nat} {s : PS} (h : PA w P s) : s.next.rest.length < s.rest.length:=by
 have:=List.length_pos_iff.2 h.wf.ne
 show s.rest.tail.length < _
 simp
 omega

theorem XO.one {w W : World} {B b : Nat} {x : Ex} {k : Value} {kind op : Int} {v : V3} {t n : ByteArray} {p : Int} (h : XO w B x k) (hk : ∀ g,B ≤ g → g < w.heap.size → W.heap[g]? = w.heap[g]?) (hb : W.heap[b]? = some (.cells (exC x k).toArray 49 (0,0))) (hB : B ≤ b) : XO W B (.mk kind op v t n [x] p) (.slice (some ⟨b,0,none⟩) 1 1):=by
 refine XO.mk [k] rfl ?_ ?_
 ·have e : xcs [x] [k] = exC x k:=by simp [xcs]
  rw [e]
  obtain ⟨kk,oo,vv,tt,nn,ks,pp⟩:=x
  exact ⟨rfl,Or.inr ⟨b,1,_,rfl,hB,hb,Nat.le_refl _,by unfold maxLen; omega,rfl,rfl⟩⟩
 ·intro i hi hi'
  have : i = 0:=by simp at hi; omega
  subst this
  exact h.keep hk
end Go.Proofs.YtbfjmccpcbhljaaGreatDoor
