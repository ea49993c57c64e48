/-
  No cell of these rows narrows 'for every input' (looked for: loops, veiled, ifaces, maps, wideKeys, modest, calm, conditions, laid).
  DERIVED. THE GIVEN ROWS OF THIS SEAT. 6 by the template 'for every input the law returns true; each argument reads behind the call as it read before'; 0 by the template 'total and deterministic' (their statements: YtkgkkcefnonejaaGreatTotals.lean).
  GIVEN WITH THE SEED: the statements are not yours to turn. If you find one false, say at which input.
  Laid BY PROGRAM, IN A SANDBOX (cutbox-rows.mjs): the forced cells as the released guide's own fill.sh prints them over the translation 22b63c78ecaa5aa6… (all of the seat's roots in one cut). By AI agents, Wed Nov 11 2026. No macro, syntax, notation, axiom, sorry.
-/
import Derived.Test.YtkgkkcefnonejaaGreatChecked
import GoSem.Claim
import GoSem.ClaimJoined
import GoSem.ClaimMapViews
import Derived.JoinedTies
import Derived.KernelRfl
namespace Go.Proofs.YtkgkkcefnonejaaGreat
/- THE CELL 'sum', in the pinned program and in every row, IS THE sha256 OF THE DUMP (.gsa) THAT YtkgkkcefnonejaaGreatProg.lean LOADS. Nothing in Lean hashes anything: it is a label: what it is worth is what the hold of that sum in a sandbox is worth. -/
noncomputable def Tryz.pinned : Pinned := { name := "ytkgkkcefnonejaagreat", sum := "22b63c78ecaa5aa6903f3b41e30a31afe600a472850a7f9c3198ad557a115206", checked := Tryz.checked }
namespace Rows
def none {H : Type} : Left H := { results := [], args := [] }

/-- 'unisonlaw08.CatalogWrites': WHATEVER THE INPUT: true; the input reads as it did. -/
def catalogWritesSpec : ChangeSpec := { name := "catalogWrites", fn := fun _ => fun
  | [d] => { results := [.lit (.bool true)], args := [d] }
  | _ => none }
def catalogWritesRow : OpenClaim := { program := "ytkgkkcefnonejaagreat", sum := "22b63c78ecaa5aa6903f3b41e30a31afe600a472850a7f9c3198ad557a115206", func := "unison/unisonlaw08.CatalogWrites", spec := "catalogWrites", unfollowed := true, recurses := true, apart := false }
def CatalogWritesSaid : Prop := catalogWritesRow.holds Tryz.pinned (OpenSpec.ofChange catalogWritesSpec)

/-- ITS FALSE NEIGHBOUR: 'it returns false'. Refute it at one input. -/
def catalogWritesWrong : ChangeSpec := { name := "catalogWrites", fn := fun _ => fun
  | [d] => { results := [.lit (.bool false)], args := [d] }
  | _ => none }
def CatalogWritesWrongFalsely : Prop := catalogWritesRow.holds Tryz.pinned (OpenSpec.ofChange catalogWritesWrong)

/-- 'unisonlaw08.CatalogReads': WHATEVER THE INPUT: true; the input reads as it did. -/
def catalogReadsSpec : ChangeSpec := { name := "catalogReads", fn := fun _ => fun
  | [d] => { results := [.lit (.bool true)], args := [d] }
  | _ => none }
def catalogReadsRow : OpenClaim := { program := "ytkgkkcefnonejaagreat", sum := "22b63c78ecaa5aa6903f3b41e30a31afe600a472850a7f9c3198ad557a115206", func := "unison/unisonlaw08.CatalogReads", spec := "catalogReads", unfollowed := true, recurses := true, apart := false }
def CatalogReadsSaid : Prop := catalogReadsRow.holds Tryz.pinned (OpenSpec.ofChange catalogReadsSpec)

/-- ITS FALSE NEIGHBOUR: 'it returns false'. Refute it at one input. -/
def catalogReadsWrong : ChangeSpec := { name := "catalogReads", fn := fun _ => fun
  | [d] => { results := [.lit (.bool false)], args := [d] }
  | _ => none }
def CatalogReadsWrongFalsely : Prop := catalogReadsRow.holds Tryz.pinned (OpenSpec.ofChange catalogReadsWrong)

/-- 'unisonlaw08.CatalogFinds': WHATEVER THE INPUT: true; the input reads as it did. -/
def catalogFindsSpec : ChangeSpec := { name := "catalogFinds", fn := fun _ => fun
  | [d1, d2] => { results := [.lit (.bool true)], args := [d1, d2] }
  | _ => none }
def catalogFindsRow : OpenClaim := { program := "ytkgkkcefnonejaagreat", sum := "22b63c78ecaa5aa6903f3b41e30a31afe600a472850a7f9c3198ad557a115206", func := "unison/unisonlaw08.CatalogFinds", spec := "catalogFinds", unfollowed := true, recurses := true, apart := false }
def CatalogFindsSaid : Prop := catalogFindsRow.holds Tryz.pinned (OpenSpec.ofChange catalogFindsSpec)

/-- ITS FALSE NEIGHBOUR: 'it returns false'. Refute it at one input. -/
def catalogFindsWrong : ChangeSpec := { name := "catalogFinds", fn := fun _ => fun
  | [d1, d2] => { results := [.lit (.bool false)], args := [d1, d2] }
  | _ => none }
def CatalogFindsWrongFalsely : Prop := catalogFindsRow.holds Tryz.pinned (OpenSpec.ofChange catalogFindsWrong)

/-- 'unisonlaw08.CatalogAdds': WHATEVER THE INPUT: true; the input reads as it did. -/
def catalogAddsSpec : ChangeSpec := { name := "catalogAdds", fn := fun _ => fun
  | [d1, d2, d3] => { results := [.lit (.bool true)], args := [d1, d2, d3] }
  | _ => none }
def catalogAddsRow : OpenClaim := { program := "ytkgkkcefnonejaagreat", sum := "22b63c78ecaa5aa6903f3b41e30a31afe600a472850a7f9c3198ad557a115206", func := "unison/unisonlaw08.CatalogAdds", spec := "catalogAdds", unfollowed := true, recurses := true, apart := false }
def CatalogAddsSaid : Prop := catalogAddsRow.holds Tryz.pinned (OpenSpec.ofChange catalogAddsSpec)

/-- ITS FALSE NEIGHBOUR: 'it returns false'. Refute it at one input. -/
def catalogAddsWrong : ChangeSpec := { name := "catalogAdds", fn := fun _ => fun
  | [d1, d2, d3] => { results := [.lit (.bool false)], args := [d1, d2, d3] }
  | _ => none }
def CatalogAddsWrongFalsely : Prop := catalogAddsRow.holds Tryz.pinned (OpenSpec.ofChange catalogAddsWrong)

/-- 'unisonlaw08.CatalogBack': WHATEVER THE INPUT: true; the input reads as it did. -/
def catalogBackSpec : ChangeSpec := { name := "catalogBack", fn := fun _ => fun
  | [d1, d2] => { results := [.lit (.bool true)], args := [d1, d2] }
  | _ => none }
def catalogBackRow : OpenClaim := { program := "ytkgkkcefnonejaagreat", sum := "22b63c78ecaa5aa6903f3b41e30a31afe600a472850a7f9c3198ad557a115206", func := "unison/unisonlaw08.CatalogBack", spec := "catalogBack", unfollowed := true, recurses := true, apart := false }
def CatalogBackSaid : Prop := catalogBackRow.holds Tryz.pinned (OpenSpec.ofChange catalogBackSpec)

/-- ITS FALSE NEIGHBOUR: 'it returns false'. Refute it at one input. -/
def catalogBackWrong : ChangeSpec := { name := "catalogBack", fn := fun _ => fun
  | [d1, d2] => { results := [.lit (.bool false)], args := [d1, d2] }
  | _ => none }
def CatalogBackWrongFalsely : Prop := catalogBackRow.holds Tryz.pinned (OpenSpec.ofChange catalogBackWrong)

/-- 'unisonlaw08.CatalogGrows': WHATEVER THE INPUT: true; the input reads as it did. -/
def catalogGrowsSpec : ChangeSpec := { name := "catalogGrows", fn := fun _ => fun
  | [d1, d2] => { results := [.lit (.bool true)], args := [d1, d2] }
  | _ => none }
def catalogGrowsRow : OpenClaim := { program := "ytkgkkcefnonejaagreat", sum := "22b63c78ecaa5aa6903f3b41e30a31afe600a472850a7f9c3198ad557a115206", func := "unison/unisonlaw08.CatalogGrows", spec := "catalogGrows", unfollowed := true, recurses := true, apart := false }
def CatalogGrowsSaid : Prop := catalogGrowsRow.holds Tryz.pinned (OpenSpec.ofChange catalogGrowsSpec)

/-- ITS FALSE NEIGHBOUR: 'it returns false'. Refute it at one input. -/
def catalogGrowsWrong : ChangeSpec := { name := "catalogGrows", fn := fun _ => fun
  | [d1, d2] => { results := [.lit (.bool false)], args := [d1, d2] }
  | _ => none }
def CatalogGrowsWrongFalsely : Prop := catalogGrowsRow.holds Tryz.pinned (OpenSpec.ofChange catalogGrowsWrong)

/- THE SECOND FORM. 'bulk': how many values and letters a reading holds, each counted each time it is reached (what is shared counts as often as it is met; a slice's spare places count too). A statement '..UptoSaid' is the law's where the arguments, and the package variables that the reading takes, are together of bulk at most 1048576: NARROWER than '..Said'. Prove '..Said' where nothing that the law and all that it calls make is longer than what came in: it says more and counts as full. Else prove '..UptoSaid'. A law counts once. -/
mutual
def uptoBulk {H : Type} : DataW H → Nat
  | .lit (.string bytes) => bytes.length + 1
  | .lit _ => 1
  | .nil => 1
  | .ptr d => uptoBulk d + 1
  | .slice elems spare => uptoBulkAll elems + uptoBulkAll spare + 1
  | .agg parts => uptoBulkAll parts + 1
  | .iface _ d => uptoBulk d + 1
  | .map entries => uptoBulkEntries entries + 1
  | .held _ => 1
def uptoBulkAll {H : Type} : List (DataW H) → Nat
  | [] => 0
  | d :: r => uptoBulk d + uptoBulkAll r
def uptoBulkEntries {H : Type} : List (Lit × DataW H) → Nat
  | [] => 0
  | x :: r => uptoBulkEntry x + uptoBulkEntries r
def uptoBulkEntry {H : Type} : Lit × DataW H → Nat
  | (.string bytes, d) => bytes.length + uptoBulk d + 1
  | (_, d) => uptoBulk d + 1
 end
def uptoSmall : (H : Type) → List (DataW H) → Bool := fun _ ds => decide (uptoBulkAll ds ≤ 1048576)
def OpenSpec.upto (s : _root_.Go.ChangeSpec) : _root_.Go.OpenSpec := { _root_.Go.OpenSpec.ofChange s with cond := some uptoSmall }

/-- 'unisonlaw08.CatalogWrites', WHERE WHAT IT READS IS OF BULK AT MOST 1048576: true; the input reads as it did. -/
def catalogWritesUptoRow : OpenClaim := { program := "ytkgkkcefnonejaagreat", sum := "22b63c78ecaa5aa6903f3b41e30a31afe600a472850a7f9c3198ad557a115206", func := "unison/unisonlaw08.CatalogWrites", spec := "catalogWrites", unfollowed := true, recurses := true, apart := false, narrowed := true }
def CatalogWritesUptoSaid : Prop := catalogWritesUptoRow.holds Tryz.pinned (OpenSpec.upto catalogWritesSpec)

/-- 'unisonlaw08.CatalogReads', WHERE WHAT IT READS IS OF BULK AT MOST 1048576: true; the input reads as it did. -/
def catalogReadsUptoRow : OpenClaim := { program := "ytkgkkcefnonejaagreat", sum := "22b63c78ecaa5aa6903f3b41e30a31afe600a472850a7f9c3198ad557a115206", func := "unison/unisonlaw08.CatalogReads", spec := "catalogReads", unfollowed := true, recurses := true, apart := false, narrowed := true }
def CatalogReadsUptoSaid : Prop := catalogReadsUptoRow.holds Tryz.pinned (OpenSpec.upto catalogReadsSpec)

/-- 'unisonlaw08.CatalogFinds', WHERE WHAT IT READS IS OF BULK AT MOST 1048576: true; the input reads as it did. -/
def catalogFindsUptoRow : OpenClaim := { program := "ytkgkkcefnonejaagreat", sum := "22b63c78ecaa5aa6903f3b41e30a31afe600a472850a7f9c3198ad557a115206", func := "unison/unisonlaw08.CatalogFinds", spec := "catalogFinds", unfollowed := true, recurses := true, apart := false, narrowed := true }
def CatalogFindsUptoSaid : Prop := catalogFindsUptoRow.holds Tryz.pinned (OpenSpec.upto catalogFindsSpec)

/-- 'unisonlaw08.CatalogAdds', WHERE WHAT IT READS IS OF BULK AT MOST 1048576: true; the input reads as it did. -/
def catalogAddsUptoRow : OpenClaim := { program := "ytkgkkcefnonejaagreat", sum := "22b63c78ecaa5aa6903f3b41e30a31afe600a472850a7f9c3198ad557a115206", func := "unison/unisonlaw08.CatalogAdds", spec := "catalogAdds", unfollowed := true, recurses := true, apart := false, narrowed := true }
def CatalogAddsUptoSaid : Prop := catalogAddsUptoRow.holds Tryz.pinned (OpenSpec.upto catalogAddsSpec)

/-- 'unisonlaw08.CatalogBack', WHERE WHAT IT READS IS OF BULK AT MOST 1048576: true; the input reads as it did. -/
def catalogBackUptoRow : OpenClaim := { program := "ytkgkkcefnonejaagreat", sum := "22b63c78ecaa5aa6903f3b41e30a31afe600a472850a7f9c3198ad557a115206", func := "unison/unisonlaw08.CatalogBack", spec := "catalogBack", unfollowed := true, recurses := true, apart := false, narrowed := true }
def CatalogBackUptoSaid : Prop := catalogBackUptoRow.holds Tryz.pinned (OpenSpec.upto catalogBackSpec)

/-- 'unisonlaw08.CatalogGrows', WHERE WHAT IT READS IS OF BULK AT MOST 1048576: true; the input reads as it did. -/
def catalogGrowsUptoRow : OpenClaim := { program := "ytkgkkcefnonejaagreat", sum := "22b63c78ecaa5aa6903f3b41e30a31afe600a472850a7f9c3198ad557a115206", func := "unison/unisonlaw08.CatalogGrows", spec := "catalogGrows", unfollowed := true, recurses := true, apart := false, narrowed := true }
def CatalogGrowsUptoSaid : Prop := catalogGrowsUptoRow.holds Tryz.pinned (OpenSpec.upto catalogGrowsSpec)

end Rows
end Go.Proofs.YtkgkkcefnonejaaGreat
