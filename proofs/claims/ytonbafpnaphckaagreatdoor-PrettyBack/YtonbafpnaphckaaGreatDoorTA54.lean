/- A54 -/
import Derived.Test.YtonbafpnaphckaaGreatDoorTA0
set_option maxHeartbeats 16000000
set_option maxRecDepth 100000
namespace Go.Proofs.YtonbafpnaphckaaGreatDoor
open Go.RowKit
theorem cut_pass4 (s : ByteArray) (e0 : Nat) (w : World) (hs : s.size ≤ 2147483647) {r : Code} (hr : findLabel cutC 4 = some r) : ∀ x W,AtL s e0 w 4 x W → r.wp Tryz.prog (jumps (fun l' a' w' => AtL s e0 w l' a' w' ∧ muL s l' a' w' < muL s 4 x W) (bodyPost Tryz.prog Tryz.f67 (CutP s e0 w))) x W:=by
 have hr2 : some _ = some r:=hr
 injection hr2 with hr2
 subst hr2
 clear hr
 rintro x W ⟨-,rfl,a,e,u7,u8,u9,u10,u11,u12,u13,u14,u15,u16,u17,u18,u19,u20,u21,u22,u23,u24,u25,u26,u27,u28,u29,u30,u31,u32,u33,u34,u35,u36,u37,u38,u39,u40,u41,u42,u43,u44,u45,u46,u47,u48,u49,u50,u51,u52,u53,u54,u55,u56,u57,u58,u59,u60,u61,u62,u63,u64,u65,u66,u67,u68,u69,u70,u71,u72,u73,u74,u75,u76,u77,u78,u79,u80,u81,u82,u83,u84,u85,u86,u87,u88,u89,u90,rfl,he,hae,ha3,hch⟩
 have HCh:=Lib.hid hch
 have ha : a ≤ e:=hae (by decide)
 clear hch hae ha3
 have HQ0:=classAt_any s e
 obtain ⟨c,hc⟩ : ∃ c,clsAt s e = c:=⟨_,rfl⟩
 rw [hc] at HQ0
 have HQ : Hid (∀ w,Calls Tryz.prog 57 #[.string s,.int .i64 (e : Int)] w fun e w' => e = .returned (.int .i64 c) ∧ w' = w):=HQ0
 have HLT : c ≠ 1 → e < s.size:=fun g => clsAt_lt (by rw [hc]; exact g)
 have HC:=Lib.hid hc
 have hw1 : IntKind.i64.wrap ((e : Int) + 1) = ((e + 1 : Nat) : Int):=by rw [IntKind.wrap_i64]; omega
 clear HQ0 hc
 by_cases k9 : c = 9
 ·subst k9
  have hlt:=HLT (by decide)
  clear HLT
  go_wp2_with (first | (go_at_call 57; refine (HQ.out _).mono ?_; rintro e' w' ⟨rfl,he⟩; rw [he]; clear he))
  go_step3
  try simp only [jumps]
  refine ⟨⟨by decide,rfl,a,e + 1,_,_,_,_,_,_,_,_,_,_,_,_,_,_,_,_,_,_,_,_,_,_,_,_,_,_,_,_,_,_,_,_,_,_,_,_,_,_,_,_,_,_,_,_,_,_,_,_,_,_,_,_,_,_,_,_,_,_,_,_,_,_,_,_,_,_,_,_,_,_,_,_,_,_,_,_,_,_,_,_,_,_,_,_,rfl,by omega,fun h => by omega,fun h => by omega,fun r h => HCh.out r (.markOn HC.out h)⟩,?_⟩
  simp [muL,intOf] <;> omega
 ·have q9 : (c == 9) = false:=by simpa using k9
  have KK : Hid (c ≠ 9 ∧ True):=⟨k9,trivial⟩
  clear HLT k9
  go_wp2_with (first | (go_at_call 57; refine (HQ.out _).mono ?_; rintro e' w' ⟨rfl,he⟩; rw [he]; clear he))
  simp only [jumps]
  refine bodyPost_ret (v:=.tuple #[.int .i64 ((a : Nat) : Int),.int .i64 ((e : Nat) : Int)]) (by simp [results,Tryz.results67,go_sem]) rfl ?_
  exact ⟨a,e,rfl,HCh.out _ (.markEnd (by rw [HC.out]; exact KK.out.1)),by omega,by omega,rfl⟩
end Go.Proofs.YtonbafpnaphckaaGreatDoor
