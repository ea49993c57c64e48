/- A50 A51 A52 A53 A54 A55 -/
import Derived.Test.YtbfjmccpcbhljaaGreatDoorTA0
set_option maxHeartbeats 16000000
set_option maxRecDepth 100000
namespace Go.Proofs.YtbfjmccpcbhljaaGreatDoor
open Go.RowKit
theorem cut_pass0 (s : ByteArray) (e0 : Nat) (w : World) (hs : s.size ≤ 2147483647) {r : Code} (hr : findLabel cutC 0 = some (Code.skip.seq r)) : ∀ x W,AtL s e0 w 0 x W → r.wp Tryz.prog (jumps (fun l' a' w' => AtL s e0 w l' a' w' ∧ muL s l' a' w' < muL s 0 x W) (bodyPost Tryz.prog Tryz.f67 (CutP s e0 w))) x W:=by
 have hr2 : some (Code.skip.seq _) = some (Code.skip.seq r):=hr
 injection hr2 with hr2
 injection hr2 with _ hr2
 subst hr2
 clear hr
 rintro x W ⟨-,rfl,a,e,u7,u8,u9,u10,u11,u12,u13,u14,u15,u16,u17,u18,u19,u20,u21,u22,u23,u24,u25,u26,u27,u28,u29,u30,u31,u32,u33,u34,u35,u36,u37,u38,u39,u40,u41,u42,u43,u44,u45,u46,u47,u48,u49,u50,u51,u52,u53,u54,u55,u56,u57,u58,u59,u60,u61,u62,u63,u64,u65,u66,u67,u68,u69,u70,u71,u72,u73,u74,u75,u76,u77,u78,u79,u80,u81,u82,u83,u84,u85,u86,u87,u88,u89,u90,rfl,he,hae,ha3,hch⟩
 have HCh:=Hd hch
 clear hch hae ha3
 have HQ0:=classAt_any s e
 obtain ⟨c,hc⟩:=Vx (clsAt s e)
 rw [hc] at HQ0
 have HQ : Hid (∀ w,Calls Tryz.prog 57 #[.string s,Vi (e : Int)] w fun e w' => e = .returned (Vi c) ∧ w' = w):=HQ0
 have HRG:=clsAt_range s e
 have HLT : c ≠ 1 → e < s.size:=fun g => clsAt_lt (by rw [hc]; exact g)
 rw [hc] at HRG
 have HC:=Hd hc
 clear HQ0 hc
 rcases HRG with rfl | rfl | rfl | rfl | rfl | rfl | rfl | rfl | rfl | rfl | rfl
 ·skip
  have hlt:=HLT (by decide)
  clear HLT
  have hw1 : IntKind.i64.wrap ((e : Int) + 1) = ((e + 1 : Nat) : Int):=by rw [IntKind.wrap_i64]; omega
  go_wp2_with (first | (go_at_call 57; refine (HQ.out _).mono ?_; rintro e' w' ⟨rfl,he⟩; rw [he]; clear he))
  simp only [jumps]
  refine bodyPost_ret (v:=.tuple #[Vi ((e : Nat) : Int),Vi ((e + 1 : Nat) : Int)]) (by simp [results,Tryz.results67,go_sem]) rfl ?_
  exact ⟨e,e + 1,rfl,HCh.out _ (.other HC.out),by omega,by omega,rfl⟩
 ·skip
  clear HLT
  have hw1 : IntKind.i64.wrap ((e : Int) + 1) = ((e + 1 : Nat) : Int):=by rw [IntKind.wrap_i64]; omega
  go_wp2_with (first | (go_at_call 57; refine (HQ.out _).mono ?_; rintro e' w' ⟨rfl,he⟩; rw [he]; clear he))
  simp only [jumps]
  refine bodyPost_ret (v:=.tuple #[Vi ((e : Nat) : Int),Vi ((e : Nat) : Int)]) (by simp [results,Tryz.results67,go_sem]) rfl ?_
  exact ⟨e,e,rfl,HCh.out _ (.stop HC.out),by omega,by omega,rfl⟩
 ·skip
  have hlt:=HLT (by decide)
  clear HLT
  have hw1 : IntKind.i64.wrap ((e : Int) + 1) = ((e + 1 : Nat) : Int):=by rw [IntKind.wrap_i64]; omega
  go_wp2_with (first | (go_at_call 57; refine (HQ.out _).mono ?_; rintro e' w' ⟨rfl,he⟩; rw [he]; clear he))
  go_step3
  try simp only [jumps]
  refine ⟨⟨by decide,rfl,e,e + 1,_,_,_,_,_,_,_,_,_,_,_,_,_,_,_,_,_,_,_,_,_,_,_,_,_,_,_,_,_,_,_,_,_,_,_,_,_,_,_,_,_,_,_,_,_,_,_,_,_,_,_,_,_,_,_,_,_,_,_,_,_,_,_,_,_,_,_,_,_,_,_,_,_,_,_,_,_,_,_,_,_,_,_,_,rfl,by omega,fun h => by omega,fun h => by omega,fun r h => HCh.out r (.blank (by have:=HC.out; omega) h)⟩,?_⟩
  simp [muL,intOf] <;> omega
 ·skip
  have hlt:=HLT (by decide)
  clear HLT
  have hw1 : IntKind.i64.wrap ((e : Int) + 1) = ((e + 1 : Nat) : Int):=by rw [IntKind.wrap_i64]; omega
  go_wp2_with (first | (go_at_call 57; refine (HQ.out _).mono ?_; rintro e' w' ⟨rfl,he⟩; rw [he]; clear he))
  go_step3
  try simp only [jumps]
  refine ⟨⟨by decide,rfl,e,e + 1,_,_,_,_,_,_,_,_,_,_,_,_,_,_,_,_,_,_,_,_,_,_,_,_,_,_,_,_,_,_,_,_,_,_,_,_,_,_,_,_,_,_,_,_,_,_,_,_,_,_,_,_,_,_,_,_,_,_,_,_,_,_,_,_,_,_,_,_,_,_,_,_,_,_,_,_,_,_,_,_,_,_,_,_,rfl,by omega,fun h => by omega,fun h => by omega,fun r h => HCh.out r (.blank (by have:=HC.out; omega) h)⟩,?_⟩
  simp [muL,intOf] <;> omega
 ·skip
  have hlt:=HLT (by decide)
  clear HLT
  have hw1 : IntKind.i64.wrap ((e : Int) + 1) = ((e + 1 : Nat) : Int):=by rw [IntKind.wrap_i64]; omega
  go_wp2_with (first | (go_at_call 57; refine (HQ.out _).mono ?_; rintro e' w' ⟨rfl,he⟩; rw [he]; clear he))
  go_step3
  try simp only [jumps]
  refine ⟨⟨by decide,rfl,e,e + 1,_,_,_,_,_,_,_,_,_,_,_,_,_,_,_,_,_,_,_,_,_,_,_,_,_,_,_,_,_,_,_,_,_,_,_,_,_,_,_,_,_,_,_,_,_,_,_,_,_,_,_,_,_,_,_,_,_,_,_,_,_,_,_,_,_,_,_,_,_,_,_,_,_,_,_,_,_,_,_,_,_,_,_,_,rfl,by omega,fun h => by omega,fun h => by omega,fun r h => HCh.out r (.run (by have:=HC.out; unfold runC; omega) h)⟩,?_⟩
  simp [muL,intOf] <;> omega
 ·skip
  have hlt:=HLT (by decide)
  clear HLT
  have hw1 : IntKind.i64.wrap ((e : Int) + 1) = ((e + 1 : Nat) : Int):=by rw [IntKind.wrap_i64]; omega
  go_wp2_with (first | (go_at_call 57; refine (HQ.out _).mono ?_; rintro e' w' ⟨rfl,he⟩; rw [he]; clear he))
  go_step3
  try simp only [jumps]
  refine ⟨⟨by decide,rfl,e,e + 1,_,_,_,_,_,_,_,_,_,_,_,_,_,_,_,_,_,_,_,_,_,_,_,_,_,_,_,_,_,_,_,_,_,_,_,_,_,_,_,_,_,_,_,_,_,_,_,_,_,_,_,_,_,_,_,_,_,_,_,_,_,_,_,_,_,_,_,_,_,_,_,_,_,_,_,_,_,_,_,_,_,_,_,_,rfl,by omega,fun h => by omega,fun h => by omega,fun r h => HCh.out r (.run (by have:=HC.out; unfold runC; omega) h)⟩,?_⟩
  simp [muL,intOf] <;> omega
 ·skip
  have hlt:=HLT (by decide)
  clear HLT
  have hw1 : IntKind.i64.wrap ((e : Int) + 1) = ((e + 1 : Nat) : Int):=by rw [IntKind.wrap_i64]; omega
  go_wp2_with (first | (go_at_call 57; refine (HQ.out _).mono ?_; rintro e' w' ⟨rfl,he⟩; rw [he]; clear he))
  go_step3
  try simp only [jumps]
  refine ⟨⟨by decide,rfl,e,e + 1,_,_,_,_,_,_,_,_,_,_,_,_,_,_,_,_,_,_,_,_,_,_,_,_,_,_,_,_,_,_,_,_,_,_,_,_,_,_,_,_,_,_,_,_,_,_,_,_,_,_,_,_,_,_,_,_,_,_,_,_,_,_,_,_,_,_,_,_,_,_,_,_,_,_,_,_,_,_,_,_,_,_,_,_,rfl,by omega,fun h => by omega,fun h => by omega,fun r h => HCh.out r (.run (by have:=HC.out; unfold runC; omega) h)⟩,?_⟩
  simp [muL,intOf] <;> omega
 ·skip
  have hlt:=HLT (by decide)
  clear HLT
  have hw1 : IntKind.i64.wrap ((e : Int) + 1) = ((e + 1 : Nat) : Int):=by rw [IntKind.wrap_i64]; omega
  go_wp2_with (first | (go_at_call 57; refine (HQ.out _).mono ?_; rintro e' w' ⟨rfl,he⟩; rw [he]; clear he))
  go_step3
  try simp only [jumps]
  refine ⟨⟨by decide,rfl,e,e + 1,_,_,_,_,_,_,_,_,_,_,_,_,_,_,_,_,_,_,_,_,_,_,_,_,_,_,_,_,_,_,_,_,_,_,_,_,_,_,_,_,_,_,_,_,_,_,_,_,_,_,_,_,_,_,_,_,_,_,_,_,_,_,_,_,_,_,_,_,_,_,_,_,_,_,_,_,_,_,_,_,_,_,_,_,rfl,by omega,fun h => by omega,fun h => by omega,fun r h => HCh.out r (.run (by have:=HC.out; unfold runC; omega) h)⟩,?_⟩
  simp [muL,intOf] <;> omega
 ·skip
  have hlt:=HLT (by decide)
  clear HLT
  have hw1 : IntKind.i64.wrap ((e : Int) + 1) = ((e + 1 : Nat) : Int):=by rw [IntKind.wrap_i64]; omega
  go_wp2_with (first | (go_at_call 57; refine (HQ.out _).mono ?_; rintro e' w' ⟨rfl,he⟩; rw [he]; clear he))
  go_step3
  try simp only [jumps]
  refine ⟨⟨by decide,rfl,e,e + 1,_,_,_,_,_,_,_,_,_,_,_,_,_,_,_,_,_,_,_,_,_,_,_,_,_,_,_,_,_,_,_,_,_,_,_,_,_,_,_,_,_,_,_,_,_,_,_,_,_,_,_,_,_,_,_,_,_,_,_,_,_,_,_,_,_,_,_,_,_,_,_,_,_,_,_,_,_,_,_,_,_,_,_,_,rfl,by omega,fun h => by omega,fun h => by omega,fun r h => HCh.out r (.run (by have:=HC.out; unfold runC; omega) h)⟩,?_⟩
  simp [muL,intOf] <;> omega
 ·skip
  have hlt:=HLT (by decide)
  clear HLT
  have hw1 : IntKind.i64.wrap ((e : Int) + 1) = ((e + 1 : Nat) : Int):=by rw [IntKind.wrap_i64]; omega
  go_wp2_with (first | (go_at_call 57; refine (HQ.out _).mono ?_; rintro e' w' ⟨rfl,he⟩; rw [he]; clear he))
  go_step3
  try simp only [jumps]
  refine ⟨⟨by decide,rfl,e,e + 1,_,_,_,_,_,_,_,_,_,_,_,_,_,_,_,_,_,_,_,_,_,_,_,_,_,_,_,_,_,_,_,_,_,_,_,_,_,_,_,_,_,_,_,_,_,_,_,_,_,_,_,_,_,_,_,_,_,_,_,_,_,_,_,_,_,_,_,_,_,_,_,_,_,_,_,_,_,_,_,_,_,_,_,_,rfl,by omega,fun h => by omega,fun h => by omega,fun r h => HCh.out r (.text HC.out h)⟩,?_⟩
  simp [muL,intOf] <;> omega
 ·skip
  have hlt:=HLT (by decide)
  clear HLT
  have hw1 : IntKind.i64.wrap ((e : Int) + 1) = ((e + 1 : Nat) : Int):=by rw [IntKind.wrap_i64]; omega
  go_wp2_with (first | (go_at_call 57; refine (HQ.out _).mono ?_; rintro e' w' ⟨rfl,he⟩; rw [he]; clear he))
  go_step3
  try simp only [jumps]
  refine ⟨⟨by decide,rfl,e,e + 1,_,_,_,_,_,_,_,_,_,_,_,_,_,_,_,_,_,_,_,_,_,_,_,_,_,_,_,_,_,_,_,_,_,_,_,_,_,_,_,_,_,_,_,_,_,_,_,_,_,_,_,_,_,_,_,_,_,_,_,_,_,_,_,_,_,_,_,_,_,_,_,_,_,_,_,_,_,_,_,_,_,_,_,_,rfl,by omega,fun h => by omega,fun h => by omega,fun r h => HCh.out r (.sign HC.out h)⟩,?_⟩
  simp [muL,intOf] <;> omega

theorem cut_pass1 (s : ByteArray) (e0 : Nat) (w : World) (hs : s.size ≤ 2147483647) {r : Code} (hr : findLabel cutC 1 = some r) : ∀ x W,AtL s e0 w 1 x W → r.wp Tryz.prog (jumps (fun l' a' w' => AtL s e0 w l' a' w' ∧ muL s l' a' w' < muL s 1 x W) (bodyPost Tryz.prog Tryz.f67 (CutP s e0 w))) x W:=by
 have hr2 : some _ = some r:=hr
 injection hr2 with hr2
 subst hr2
 clear hr
 rintro x W ⟨-,rfl,a,e,u7,u8,u9,u10,u11,u12,u13,u14,u15,u16,u17,u18,u19,u20,u21,u22,u23,u24,u25,u26,u27,u28,u29,u30,u31,u32,u33,u34,u35,u36,u37,u38,u39,u40,u41,u42,u43,u44,u45,u46,u47,u48,u49,u50,u51,u52,u53,u54,u55,u56,u57,u58,u59,u60,u61,u62,u63,u64,u65,u66,u67,u68,u69,u70,u71,u72,u73,u74,u75,u76,u77,u78,u79,u80,u81,u82,u83,u84,u85,u86,u87,u88,u89,u90,rfl,he,hae,ha3,hch⟩
 have HCh:=Hd hch
 have ha : a ≤ e:=hae (by decide)
 clear hch hae ha3
 have HQ0:=classAt_any s e
 obtain ⟨c,hc⟩:=Vx (clsAt s e)
 rw [hc] at HQ0
 have HQ : Hid (∀ w,Calls Tryz.prog 57 #[.string s,Vi (e : Int)] w fun e w' => e = .returned (Vi c) ∧ w' = w):=HQ0
 have HLT : c ≠ 1 → e < s.size:=fun g => clsAt_lt (by rw [hc]; exact g)
 have HC:=Hd hc
 have hw1 : IntKind.i64.wrap ((e : Int) + 1) = ((e + 1 : Nat) : Int):=by rw [IntKind.wrap_i64]; omega
 clear HQ0 hc
 by_cases k4 : c = 4
 ·subst k4
  have hlt:=HLT (by decide)
  clear HLT
  go_wp2_with (first | (go_at_call 57; refine (HQ.out _).mono ?_; rintro e' w' ⟨rfl,he⟩; rw [he]; clear he))
  go_step3
  try simp only [jumps]
  refine ⟨⟨by decide,rfl,a,e + 1,_,_,_,_,_,_,_,_,_,_,_,_,_,_,_,_,_,_,_,_,_,_,_,_,_,_,_,_,_,_,_,_,_,_,_,_,_,_,_,_,_,_,_,_,_,_,_,_,_,_,_,_,_,_,_,_,_,_,_,_,_,_,_,_,_,_,_,_,_,_,_,_,_,_,_,_,_,_,_,_,_,_,_,_,rfl,by omega,fun h => by omega,fun h => by omega,fun r h => HCh.out r (.runOn (by have:=HC.out; unfold runC; omega) h)⟩,?_⟩
  simp [muL,intOf] <;> omega
 ·have q4 : (c == 4) = false:=by simpa using k4
  by_cases k5 : c = 5
  ·subst k5
   have hlt:=HLT (by decide)
   clear HLT
   go_wp2_with (first | (go_at_call 57; refine (HQ.out _).mono ?_; rintro e' w' ⟨rfl,he⟩; rw [he]; clear he))
   go_step3
   try simp only [jumps]
   refine ⟨⟨by decide,rfl,a,e + 1,_,_,_,_,_,_,_,_,_,_,_,_,_,_,_,_,_,_,_,_,_,_,_,_,_,_,_,_,_,_,_,_,_,_,_,_,_,_,_,_,_,_,_,_,_,_,_,_,_,_,_,_,_,_,_,_,_,_,_,_,_,_,_,_,_,_,_,_,_,_,_,_,_,_,_,_,_,_,_,_,_,_,_,_,rfl,by omega,fun h => by omega,fun h => by omega,fun r h => HCh.out r (.runOn (by have:=HC.out; unfold runC; omega) h)⟩,?_⟩
   simp [muL,intOf] <;> omega
  ·have q5 : (c == 5) = false:=by simpa using k5
   by_cases k6 : c = 6
   ·subst k6
    have hlt:=HLT (by decide)
    clear HLT
    go_wp2_with (first | (go_at_call 57; refine (HQ.out _).mono ?_; rintro e' w' ⟨rfl,he⟩; rw [he]; clear he))
    go_step3
    try simp only [jumps]
    refine ⟨⟨by decide,rfl,a,e + 1,_,_,_,_,_,_,_,_,_,_,_,_,_,_,_,_,_,_,_,_,_,_,_,_,_,_,_,_,_,_,_,_,_,_,_,_,_,_,_,_,_,_,_,_,_,_,_,_,_,_,_,_,_,_,_,_,_,_,_,_,_,_,_,_,_,_,_,_,_,_,_,_,_,_,_,_,_,_,_,_,_,_,_,_,rfl,by omega,fun h => by omega,fun h => by omega,fun r h => HCh.out r (.runOn (by have:=HC.out; unfold runC; omega) h)⟩,?_⟩
    simp [muL,intOf] <;> omega
   ·have q6 : (c == 6) = false:=by simpa using k6
    by_cases k7 : c = 7
    ·subst k7
     have hlt:=HLT (by decide)
     clear HLT
     go_wp2_with (first | (go_at_call 57; refine (HQ.out _).mono ?_; rintro e' w' ⟨rfl,he⟩; rw [he]; clear he))
     go_step3
     try simp only [jumps]
     refine ⟨⟨by decide,rfl,a,e + 1,_,_,_,_,_,_,_,_,_,_,_,_,_,_,_,_,_,_,_,_,_,_,_,_,_,_,_,_,_,_,_,_,_,_,_,_,_,_,_,_,_,_,_,_,_,_,_,_,_,_,_,_,_,_,_,_,_,_,_,_,_,_,_,_,_,_,_,_,_,_,_,_,_,_,_,_,_,_,_,_,_,_,_,_,rfl,by omega,fun h => by omega,fun h => by omega,fun r h => HCh.out r (.runOn (by have:=HC.out; unfold runC; omega) h)⟩,?_⟩
     simp [muL,intOf] <;> omega
    ·have q7 : (c == 7) = false:=by simpa using k7
     have KK : Hid (c ≠ 4 ∧ c ≠ 5 ∧ c ≠ 6 ∧ c ≠ 7):=⟨k4,k5,k6,k7⟩
     clear HLT k4 k5 k6 k7
     go_wp2_with (first | (go_at_call 57; refine (HQ.out _).mono ?_; rintro e' w' ⟨rfl,he⟩; rw [he]; clear he))
     simp only [jumps]
     refine bodyPost_ret (v:=.tuple #[Vi ((a : Nat) : Int),Vi ((e : Nat) : Int)]) (by simp [results,Tryz.results67,go_sem]) rfl ?_
     exact ⟨a,e,rfl,HCh.out _ (.runEnd (by have:=HC.out; have:=KK.out; unfold runC; omega)),by omega,by omega,rfl⟩

theorem cut_pass2 (s : ByteArray) (e0 : Nat) (w : World) (hs : s.size ≤ 2147483647) {r : Code} (hr : findLabel cutC 2 = some r) : ∀ x W,AtL s e0 w 2 x W → r.wp Tryz.prog (jumps (fun l' a' w' => AtL s e0 w l' a' w' ∧ muL s l' a' w' < muL s 2 x W) (bodyPost Tryz.prog Tryz.f67 (CutP s e0 w))) x W:=by
 have hr2 : some _ = some r:=hr
 injection hr2 with hr2
 subst hr2
 clear hr
 rintro x W ⟨-,rfl,a,e,u7,u8,u9,u10,u11,u12,u13,u14,u15,u16,u17,u18,u19,u20,u21,u22,u23,u24,u25,u26,u27,u28,u29,u30,u31,u32,u33,u34,u35,u36,u37,u38,u39,u40,u41,u42,u43,u44,u45,u46,u47,u48,u49,u50,u51,u52,u53,u54,u55,u56,u57,u58,u59,u60,u61,u62,u63,u64,u65,u66,u67,u68,u69,u70,u71,u72,u73,u74,u75,u76,u77,u78,u79,u80,u81,u82,u83,u84,u85,u86,u87,u88,u89,u90,rfl,he,hae,ha3,hch⟩
 have HCh:=Hd hch
 have ha : a ≤ e:=hae (by decide)
 clear hch hae ha3
 have HQ0:=classAt_any s e
 obtain ⟨c,hc⟩:=Vx (clsAt s e)
 rw [hc] at HQ0
 have HQ : Hid (∀ w,Calls Tryz.prog 57 #[.string s,Vi (e : Int)] w fun e w' => e = .returned (Vi c) ∧ w' = w):=HQ0
 have HLT : c ≠ 1 → e < s.size:=fun g => clsAt_lt (by rw [hc]; exact g)
 have HC:=Hd hc
 have hw1 : IntKind.i64.wrap ((e : Int) + 1) = ((e + 1 : Nat) : Int):=by rw [IntKind.wrap_i64]; omega
 clear HQ0 hc
 by_cases k1 : c = 1
 ·subst k1
  clear HLT
  go_wp2_with (first | (go_at_call 57; refine (HQ.out _).mono ?_; rintro e' w' ⟨rfl,he⟩; rw [he]; clear he))
  simp only [jumps]
  refine bodyPost_ret (v:=.tuple #[Vi ((a : Nat) : Int),Vi ((e : Nat) : Int)]) (by simp [results,Tryz.results67,go_sem]) rfl ?_
  exact ⟨a,e,rfl,HCh.out _ (.textNone HC.out),by omega,by omega,rfl⟩
 ·have q1 : (c == 1) = false:=by simpa using k1
  by_cases k9 : c = 9
  ·subst k9
   have hlt:=HLT (by decide)
   clear HLT
   go_wp2_with (first | (go_at_call 57; refine (HQ.out _).mono ?_; rintro e' w' ⟨rfl,he⟩; rw [he]; clear he))
   go_step3
   try simp only [jumps]
   refine ⟨⟨by decide,rfl,a,e + 1,_,_,_,_,_,_,_,_,_,_,_,_,_,_,_,_,_,_,_,_,_,_,_,_,_,_,_,_,_,_,_,_,_,_,_,_,_,_,_,_,_,_,_,_,_,_,_,_,_,_,_,_,_,_,_,_,_,_,_,_,_,_,_,_,_,_,_,_,_,_,_,_,_,_,_,_,_,_,_,_,_,_,_,_,rfl,by omega,fun h => by omega,fun h => by omega,fun r h => HCh.out r (.textMark HC.out h)⟩,?_⟩
   simp [muL,intOf] <;> omega
  ·have q9 : (c == 9) = false:=by simpa using k9
   have hlt:=HLT k1
   have KK : Hid (c ≠ 1 ∧ c ≠ 9):=⟨k1,k9⟩
   clear HLT k1 k9
   go_wp2_with (first | (go_at_call 57; refine (HQ.out _).mono ?_; rintro e' w' ⟨rfl,he⟩; rw [he]; clear he))
   go_step3
   try simp only [jumps]
   refine ⟨⟨by decide,rfl,a,e + 1,_,_,_,_,_,_,_,_,_,_,_,_,_,_,_,_,_,_,_,_,_,_,_,_,_,_,_,_,_,_,_,_,_,_,_,_,_,_,_,_,_,_,_,_,_,_,_,_,_,_,_,_,_,_,_,_,_,_,_,_,_,_,_,_,_,_,_,_,_,_,_,_,_,_,_,_,_,_,_,_,_,_,_,_,rfl,by omega,fun h => by omega,fun h => by omega,fun r h => HCh.out r (.textOn (by rw [HC.out]; exact KK.out.1) (by rw [HC.out]; exact KK.out.2) h)⟩,?_⟩
   simp [muL,intOf] <;> omega

theorem cut_pass3 (s : ByteArray) (e0 : Nat) (w : World) (hs : s.size ≤ 2147483647) {r : Code} (hr : findLabel cutC 3 = some r) : ∀ x W,AtL s e0 w 3 x W → r.wp Tryz.prog (jumps (fun l' a' w' => AtL s e0 w l' a' w' ∧ muL s l' a' w' < muL s 3 x W) (bodyPost Tryz.prog Tryz.f67 (CutP s e0 w))) x W:=by
 have hr2 : some _ = some r:=hr
 injection hr2 with hr2
 subst hr2
 clear hr
 rintro x W ⟨-,rfl,a,e,u7,u8,u9,u10,u11,u12,u13,u14,u15,u16,u17,u18,u19,u20,u21,u22,u23,u24,u25,u26,u27,u28,u29,u30,u31,u32,u33,u34,u35,u36,u37,u38,u39,u40,u41,u42,u43,u44,u45,u46,u47,u48,u49,u50,u51,u52,u53,u54,u55,u56,u57,u58,u59,u60,u61,u62,u63,u64,u65,u66,u67,u68,u69,u70,u71,u72,u73,u74,u75,u76,u77,u78,u79,u80,u81,u82,u83,u84,u85,u86,u87,u88,u89,u90,rfl,he,hae,ha3,hch⟩
 have HCh:=Hd hch
 have ha : a ≤ e:=hae (by decide)
 clear hch hae
 have ha4 : e = a + 1:=ha3 rfl
 have HE4:=Hd ha4
 clear ha3
 obtain ⟨T,hT⟩:=Vx (min (a + 2) s.size)
 have hw2 : IntKind.i64.wrap ((a : Int) + 2) = ((a + 2 : Nat) : Int):=by rw [IntKind.wrap_i64]; omega
 have hmn : ∀ W,(Builtin.min_ #[3,3] 3 #[Vi ((a + 2 : Nat) : Int),Vi (s.size : Int)]).run Tryz.prog W = .ok (Vi (T : Int)) W:=fun W => by
  rw [← hT]
  simp [Builtin.min_,Builtin.min2]
  split <;> omega
 have hmn2 : ∀ W,(Builtin.min_ #[3,3] 3 #[Vi ((a : Int) + 2),Vi (s.size : Int)]).run Tryz.prog W = .ok (Vi (T : Int)) W:=fun W => by have:=hmn W; simpa using this
 have haT : (a : Int) ≤ (T : Int):=by omega
 have hTs : (T : Int) ≤ (s.size : Int):=by omega
 have ha0 : (0 : Int) ≤ (a : Int):=by omega
 have hT0 : (0 : Int) ≤ (T : Int):=by omega
 have HTW : Hid (twoAt s a = (s.extract a T).toList):=by show twoAt s a = _; rw [twoAt,hT]
 have hw1 : IntKind.i64.wrap ((e : Int) + 1) = ((e + 1 : Nat) : Int):=by rw [IntKind.wrap_i64]; omega
 obtain ⟨X,hX⟩:=Vx ((s.extract a T).toList)
 have hXl : X.length = T - a:=by
  rw [← hX,ByteArray.toList_eq,Array.length_toList]
  show (s.extract a T).size = _
  rw [ByteArray.size_extract]
  omega
 have hTb : T ≤ s.size:=by omega
 have haT2 : a ≤ T:=by omega
 clear hT hmn ha4
 by_cases g0 : X = [45,45]
 ·have b0 : ((s.extract a T).toList == [45,45]) = true:=by rw [hX,g0]; rfl
  have b1 : ((s.extract a T).toList == [60,62]) = false:=by rw [hX,g0]; rfl
  have b2 : ((s.extract a T).toList == [60,61]) = false:=by rw [hX,g0]; rfl
  have b3 : ((s.extract a T).toList == [62,61]) = false:=by rw [hX,g0]; rfl
  have hT2 : T = a + 2:=by rw [g0] at hXl; simp at hXl; omega
  have HT2:=Hd hT2
  clear hT2
  have HTA : Hid (twoAt s a = [45,45]):=by show twoAt s a = _; rw [HTW.out,hX,g0]
  clear hX g0
  go_wp2
  have:=HE4.out
  have:=HT2.out
  go_step3
  try simp only [jumps]
  refine ⟨⟨by decide,rfl,a,e,_,_,_,_,_,_,_,_,_,_,_,_,_,_,_,_,_,_,_,_,_,_,_,_,_,_,_,_,_,_,_,_,_,_,_,_,_,_,_,_,_,_,_,_,_,_,_,_,_,_,_,_,_,_,_,_,_,_,_,_,_,_,_,_,_,_,_,_,_,_,_,_,_,_,_,_,_,_,_,_,_,_,_,_,rfl,by omega,fun h => by omega,fun h => by omega,fun r h => HCh.out r (.remark HTA.out h)⟩,?_⟩
  simp [muL,intOf] <;> omega
 ·have b0 : ((s.extract a T).toList == [45,45]) = false:=by rw [hX]; simpa using g0
  by_cases g1 : X = [60,62]
  ·have b1 : ((s.extract a T).toList == [60,62]) = true:=by rw [hX,g1]; rfl
   have b2 : ((s.extract a T).toList == [60,61]) = false:=by rw [hX,g1]; rfl
   have b3 : ((s.extract a T).toList == [62,61]) = false:=by rw [hX,g1]; rfl
   have hT2 : T = a + 2:=by rw [g1] at hXl; simp at hXl; omega
   have HT2:=Hd hT2
   clear hT2
   have HTA : Hid (twoAt s a = [60,62]):=by show twoAt s a = _; rw [HTW.out,hX,g1]
   clear hX g1
   go_wp2
   have:=HE4.out
   have:=HT2.out
   simp only [jumps]
   refine bodyPost_ret (v:=.tuple #[Vi ((a : Nat) : Int),Vi ((e + 1 : Nat) : Int)]) (by simp [results,Tryz.results67,go_sem]) rfl ?_
   exact ⟨a,e + 1,rfl,HCh.out _ (.two (by rw [HTA.out]; simp)),by omega,by omega,rfl⟩
  ·have b1 : ((s.extract a T).toList == [60,62]) = false:=by rw [hX]; simpa using g1
   by_cases g2 : X = [60,61]
   ·have b2 : ((s.extract a T).toList == [60,61]) = true:=by rw [hX,g2]; rfl
    have b3 : ((s.extract a T).toList == [62,61]) = false:=by rw [hX,g2]; rfl
    have hT2 : T = a + 2:=by rw [g2] at hXl; simp at hXl; omega
    have HT2:=Hd hT2
    clear hT2
    have HTA : Hid (twoAt s a = [60,61]):=by show twoAt s a = _; rw [HTW.out,hX,g2]
    clear hX g2
    go_wp2
    have:=HE4.out
    have:=HT2.out
    simp only [jumps]
    refine bodyPost_ret (v:=.tuple #[Vi ((a : Nat) : Int),Vi ((e + 1 : Nat) : Int)]) (by simp [results,Tryz.results67,go_sem]) rfl ?_
    exact ⟨a,e + 1,rfl,HCh.out _ (.two (by rw [HTA.out]; simp)),by omega,by omega,rfl⟩
   ·have b2 : ((s.extract a T).toList == [60,61]) = false:=by rw [hX]; simpa using g2
    by_cases g3 : X = [62,61]
    ·have b3 : ((s.extract a T).toList == [62,61]) = true:=by rw [hX,g3]; rfl
     have hT2 : T = a + 2:=by rw [g3] at hXl; simp at hXl; omega
     have HT2:=Hd hT2
     clear hT2
     have HTA : Hid (twoAt s a = [62,61]):=by show twoAt s a = _; rw [HTW.out,hX,g3]
     clear hX g3
     go_wp2
     have:=HE4.out
     have:=HT2.out
     simp only [jumps]
     refine bodyPost_ret (v:=.tuple #[Vi ((a : Nat) : Int),Vi ((e + 1 : Nat) : Int)]) (by simp [results,Tryz.results67,go_sem]) rfl ?_
     exact ⟨a,e + 1,rfl,HCh.out _ (.two (by rw [HTA.out]; simp)),by omega,by omega,rfl⟩
    ·have b3 : ((s.extract a T).toList == [62,61]) = false:=by rw [hX]; simpa using g3
     have HNO : Hid (X ≠ [45,45] ∧ X ≠ [60,62] ∧ X ≠ [60,61] ∧ X ≠ [62,61]):=⟨g0,g1,g2,g3⟩
     have HTX : Hid (twoAt s a = X):=by show twoAt s a = X; rw [HTW.out,hX]
     clear hX g0 g1 g2 g3
     go_wp2
     simp only [jumps]
     refine bodyPost_ret (v:=.tuple #[Vi ((a : Nat) : Int),Vi ((e : Nat) : Int)]) (by simp [results,Tryz.results67,go_sem]) rfl ?_
     exact ⟨a,e,rfl,HCh.out _ (.one (by rw [HTX.out]; exact HNO.out.1) (by rw [HTX.out]; exact HNO.out.2.1) (by rw [HTX.out]; exact HNO.out.2.2.1) (by rw [HTX.out]; exact HNO.out.2.2.2)),by omega,by omega,rfl⟩

theorem cut_pass4 (s : ByteArray) (e0 : Nat) (w : World) (hs : s.size ≤ 2147483647) {r : Code} (hr : findLabel cutC 4 = some r) : ∀ x W,AtL s e0 w 4 x W → r.wp Tryz.prog (jumps (fun l' a' w' => AtL s e0 w l' a' w' ∧ muL s l' a' w' < muL s 4 x W) (bodyPost Tryz.prog Tryz.f67 (CutP s e0 w))) x W:=by
 have hr2 : some _ = some r:=hr
 injection hr2 with hr2
 subst hr2
 clear hr
 rintro x W ⟨-,rfl,a,e,u7,u8,u9,u10,u11,u12,u13,u14,u15,u16,u17,u18,u19,u20,u21,u22,u23,u24,u25,u26,u27,u28,u29,u30,u31,u32,u33,u34,u35,u36,u37,u38,u39,u40,u41,u42,u43,u44,u45,u46,u47,u48,u49,u50,u51,u52,u53,u54,u55,u56,u57,u58,u59,u60,u61,u62,u63,u64,u65,u66,u67,u68,u69,u70,u71,u72,u73,u74,u75,u76,u77,u78,u79,u80,u81,u82,u83,u84,u85,u86,u87,u88,u89,u90,rfl,he,hae,ha3,hch⟩
 have HCh:=Hd hch
 have ha : a ≤ e:=hae (by decide)
 clear hch hae ha3
 have HQ0:=classAt_any s e
 obtain ⟨c,hc⟩:=Vx (clsAt s e)
 rw [hc] at HQ0
 have HQ : Hid (∀ w,Calls Tryz.prog 57 #[.string s,Vi (e : Int)] w fun e w' => e = .returned (Vi c) ∧ w' = w):=HQ0
 have HLT : c ≠ 1 → e < s.size:=fun g => clsAt_lt (by rw [hc]; exact g)
 have HC:=Hd hc
 have hw1 : IntKind.i64.wrap ((e : Int) + 1) = ((e + 1 : Nat) : Int):=by rw [IntKind.wrap_i64]; omega
 clear HQ0 hc
 by_cases k9 : c = 9
 ·subst k9
  have hlt:=HLT (by decide)
  clear HLT
  go_wp2_with (first | (go_at_call 57; refine (HQ.out _).mono ?_; rintro e' w' ⟨rfl,he⟩; rw [he]; clear he))
  go_step3
  try simp only [jumps]
  refine ⟨⟨by decide,rfl,a,e + 1,_,_,_,_,_,_,_,_,_,_,_,_,_,_,_,_,_,_,_,_,_,_,_,_,_,_,_,_,_,_,_,_,_,_,_,_,_,_,_,_,_,_,_,_,_,_,_,_,_,_,_,_,_,_,_,_,_,_,_,_,_,_,_,_,_,_,_,_,_,_,_,_,_,_,_,_,_,_,_,_,_,_,_,_,rfl,by omega,fun h => by omega,fun h => by omega,fun r h => HCh.out r (.markOn HC.out h)⟩,?_⟩
  simp [muL,intOf] <;> omega
 ·have q9 : (c == 9) = false:=by simpa using k9
  have KK : Hid (c ≠ 9 ∧ True):=⟨k9,trivial⟩
  clear HLT k9
  go_wp2_with (first | (go_at_call 57; refine (HQ.out _).mono ?_; rintro e' w' ⟨rfl,he⟩; rw [he]; clear he))
  simp only [jumps]
  refine bodyPost_ret (v:=.tuple #[Vi ((a : Nat) : Int),Vi ((e : Nat) : Int)]) (by simp [results,Tryz.results67,go_sem]) rfl ?_
  exact ⟨a,e,rfl,HCh.out _ (.markEnd (by rw [HC.out]; exact KK.out.1)),by omega,by omega,rfl⟩

theorem cut_pass5 (s : ByteArray) (e0 : Nat) (w : World) (hs : s.size ≤ 2147483647) {r : Code} (hr : findLabel cutC 5 = some r) : ∀ x W,AtL s e0 w 5 x W → r.wp Tryz.prog (jumps (fun l' a' w' => AtL s e0 w l' a' w' ∧ muL s l' a' w' < muL s 5 x W) (bodyPost Tryz.prog Tryz.f67 (CutP s e0 w))) x W:=by
 have hr2 : some _ = some r:=hr
 injection hr2 with hr2
 subst hr2
 clear hr
 rintro x W ⟨-,rfl,a,e,u7,u8,u9,u10,u11,u12,u13,u14,u15,u16,u17,u18,u19,u20,u21,u22,u23,u24,u25,u26,u27,u28,u29,u30,u31,u32,u33,u34,u35,u36,u37,u38,u39,u40,u41,u42,u43,u44,u45,u46,u47,u48,u49,u50,u51,u52,u53,u54,u55,u56,u57,u58,u59,u60,u61,u62,u63,u64,u65,u66,u67,u68,u69,u70,u71,u72,u73,u74,u75,u76,u77,u78,u79,u80,u81,u82,u83,u84,u85,u86,u87,u88,u89,u90,rfl,he,hae,ha3,hch⟩
 have HCh:=Hd hch
 have ha : a ≤ e:=hae (by decide)
 clear hch hae ha3
 have HQ0:=classAt_any s e
 obtain ⟨c,hc⟩:=Vx (clsAt s e)
 rw [hc] at HQ0
 have HQ : Hid (∀ w,Calls Tryz.prog 57 #[.string s,Vi (e : Int)] w fun e w' => e = .returned (Vi c) ∧ w' = w):=HQ0
 have HLT : c ≠ 1 → e < s.size:=fun g => clsAt_lt (by rw [hc]; exact g)
 have HC:=Hd hc
 have hw1 : IntKind.i64.wrap ((e : Int) + 1) = ((e + 1 : Nat) : Int):=by rw [IntKind.wrap_i64]; omega
 clear HQ0 hc
 by_cases k1 : c = 1
 ·subst k1
  clear HLT
  go_wp2_with (first | (go_at_call 57; refine (HQ.out _).mono ?_; rintro e' w' ⟨rfl,he⟩; rw [he]; clear he))
  go_step3
  try simp only [jumps]
  refine ⟨⟨by decide,rfl,a,e,_,_,_,_,_,_,_,_,_,_,_,_,_,_,_,_,_,_,_,_,_,_,_,_,_,_,_,_,_,_,_,_,_,_,_,_,_,_,_,_,_,_,_,_,_,_,_,_,_,_,_,_,_,_,_,_,_,_,_,_,_,_,_,_,_,_,_,_,_,_,_,_,_,_,_,_,_,_,_,_,_,_,_,_,rfl,by omega,fun h => by omega,fun h => by omega,fun r h => HCh.out r (.remEnd (by have:=HC.out; omega) h)⟩,?_⟩
  simp [muL,intOf] <;> omega
 ·have q1 : (c == 1) = false:=by simpa using k1
  by_cases k3 : c = 3
  ·subst k3
   have hlt:=HLT (by decide)
   clear HLT
   go_wp2_with (first | (go_at_call 57; refine (HQ.out _).mono ?_; rintro e' w' ⟨rfl,he⟩; rw [he]; clear he))
   go_step3
   try simp only [jumps]
   refine ⟨⟨by decide,rfl,a,e,_,_,_,_,_,_,_,_,_,_,_,_,_,_,_,_,_,_,_,_,_,_,_,_,_,_,_,_,_,_,_,_,_,_,_,_,_,_,_,_,_,_,_,_,_,_,_,_,_,_,_,_,_,_,_,_,_,_,_,_,_,_,_,_,_,_,_,_,_,_,_,_,_,_,_,_,_,_,_,_,_,_,_,_,rfl,by omega,fun h => by omega,fun h => by omega,fun r h => HCh.out r (.remEnd (by have:=HC.out; omega) h)⟩,?_⟩
   simp [muL,intOf] <;> omega
  ·have q3 : (c == 3) = false:=by simpa using k3
   have hlt:=HLT k1
   have KK : Hid (c ≠ 1 ∧ c ≠ 3):=⟨k1,k3⟩
   clear HLT k1 k3
   go_wp2_with (first | (go_at_call 57; refine (HQ.out _).mono ?_; rintro e' w' ⟨rfl,he⟩; rw [he]; clear he))
   go_step3
   try simp only [jumps]
   refine ⟨⟨by decide,rfl,a,e + 1,_,_,_,_,_,_,_,_,_,_,_,_,_,_,_,_,_,_,_,_,_,_,_,_,_,_,_,_,_,_,_,_,_,_,_,_,_,_,_,_,_,_,_,_,_,_,_,_,_,_,_,_,_,_,_,_,_,_,_,_,_,_,_,_,_,_,_,_,_,_,_,_,_,_,_,_,_,_,_,_,_,_,_,_,rfl,by omega,fun h => by omega,fun h => by omega,fun r h => HCh.out r (.remOn (by rw [HC.out]; exact KK.out.1) (by rw [HC.out]; exact KK.out.2) h)⟩,?_⟩
   simp [muL,intOf] <;> omega
end Go.Proofs.YtbfjmccpcbhljaaGreatDoor
