/- M114 M115 M116 -/
import Derived.Test.YtbfjmccpcbhljaaGreatDoorTM110
namespace Go.Proofs.YtbfjmccpcbhljaaGreatDoor
open Go Go.RowKit
theorem skipL_len (l : List UInt8) : (skipL l).length = l.length - skp false l:=by simp [skipL]

theorem Bad.within {l : List UInt8} {a p : Nat} {c : Int} (h : Bad l a p c) : a ≤ p ∧ p ≤ a + l.length:=by
 induction h with
 | @here l a t c h1 h2 => have:=skp_le l false; omega
 | @more l a p t c h1 h2 _ ih =>
  have h3:=skp_le l false
  have h4:=pieceN_le (skipL l)
  have h5:=skipL_len l
  have : (rst l).length = (skipL l).length - pieceN (skipL l):=by simp [rst]
  omega

def txtC : Bool → List UInt8 → Bool
 | b,[] => b
 | false,c :: l => txtC (decide (c = 39)) l
 | true,c :: l => if c = 39 then txtC false l else true

theorem hexd_mark (i : Nat) (h : i < 16) : hexd i ≠ 39:=by
 have : ∀ i : Fin 16,hexd i.val ≠ 39:=by decide +kernel
 exact this ⟨i,h⟩

theorem txt_qbs : ∀ (x r : List UInt8),txtN false (qbs x ++ 39 :: r) = (qbs x).length + 1 + txtN true r ∧ txtC false (qbs x ++ 39 :: r) = txtC true r
 | [],r => by
  constructor
  ·show 1 + txtN (decide ((39 : UInt8) = 39)) r = 0 + 1 + txtN true r
   rw [show decide ((39 : UInt8) = 39) = true from rfl]
  ·rfl
 | c :: x,r => by
  obtain ⟨h1,h2⟩:=txt_qbs x r
  have hc:=UInt8.toNat_lt c
  rw [qbs_cons,List.append_assoc]
  by_cases c1 : c.toNat = 39
  ·rw [qb_mark c1]
   simp only [List.cons_append,List.nil_append,txtN,txtC,decide_true,if_true,List.length_cons]
   exact ⟨by omega,h2⟩
  ·by_cases c2 : c.toNat = 92 ∨ c.toNat < 32 ∨ 126 < c.toNat
   ·rw [qb_hex c1 c2]
    have e0 : decide ((92 : UInt8) = 39) = false:=by decide
    have e1 : decide (hexd (c.toNat / 16) = 39) = false:=decide_eq_false (hexd_mark _ (by omega))
    have e2 : decide (hexd (c.toNat % 16) = 39) = false:=decide_eq_false (hexd_mark _ (by omega))
    simp only [List.cons_append,List.nil_append,txtN,txtC,e0,e1,e2,List.length_cons]
    exact ⟨by omega,h2⟩
   ·rw [qb_plain c1 c2]
    have e0 : decide (c = 39) = false:=decide_eq_false fun q => c1 (by rw [q]; rfl)
    simp only [List.cons_append,List.nil_append,txtN,txtC,e0,List.length_cons]
    exact ⟨by omega,h2⟩
end Go.Proofs.YtbfjmccpcbhljaaGreatDoor
