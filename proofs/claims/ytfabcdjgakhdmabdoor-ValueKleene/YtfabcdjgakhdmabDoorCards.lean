/-
  DERIVED. GIVEN WITH THE SEED: THE CARDS: each row of YtfabcdjgakhdmabDoorRows.lean that lists a variable, with what it lists TIED to the program's text (the seventh form; the later family's looks); each row that meets fmt, with fmt's text TOLD by the authors' own Lean function (tested against real Go, not proved from fmt's source: count such statements apart). THE CARD IS WHAT COUNTS. Prove the row's statement (the work); the ties are given (YtfabcdjgakhdmabDoorTie.lean); close each card by the builder's one call (the guide's Derived/Test/ToyasCard.lean, 'card_holds'). Laid BY PROGRAM, IN A SANDBOX (cutbox-door.mjs). By AI agents, Wed Nov 11 2026. No macro, syntax, notation, axiom, sorry.
-/
import Derived.Test.YtfabcdjgakhdmabDoorRows
import GoSem.ClaimSeven
namespace Go.Proofs.YtfabcdjgakhdmabDoor
namespace Rows

/-- THE TIED CARD OF 'unisonlaw01.ValueKleene'. -/
def valueKleeneCard : Claim7 := { stood := { row := valueKleeneRow, standIns := [], harness := (true, "32908d6cf9bf572abec80721f71df4b5d78e18a47c1359028c0619caada9df4b"), looks := true }, kinds := [], alts := [], laidByText := true, laidKinds := [.data, .data, .data], laidTests := true, laidLooks := .later }
def ValueKleeneCardSaid : Prop := Claim7.holds Tryd.pinned (.plain (OpenSpec.ofChange valueKleeneSpec)) valueKleeneCard

/-- THE TIED CARD OF 'unisonlaw01.ValueReckons'. -/
def valueReckonsCard : Claim7 := { stood := { row := valueReckonsRow, standIns := [], harness := (true, "32908d6cf9bf572abec80721f71df4b5d78e18a47c1359028c0619caada9df4b"), looks := true }, kinds := [], alts := [], laidByText := true, laidKinds := [.data, .data, .data], laidTests := true, laidLooks := .later }
def ValueReckonsCardSaid : Prop := Claim7.holds Tryd.pinned (.plain (OpenSpec.ofChange valueReckonsSpec)) valueReckonsCard

/-- THE TIED CARD OF 'unisonlaw01.ValueBack'. -/
def valueBackCard : Claim7 := { stood := { row := valueBackRow, standIns := [], harness := (true, "32908d6cf9bf572abec80721f71df4b5d78e18a47c1359028c0619caada9df4b"), looks := true }, kinds := [], alts := [], laidByText := true, laidKinds := [.data, .data, .data, .sentinel, .sentinel], laidTests := true, laidLooks := .later }
def ValueBackCardSaid : Prop := Claim7.holds Tryd.pinned (.plain (OpenSpec.ofChange valueBackSpec)) valueBackCard

/-- THE SECOND FORM's CARD OF 'unisonlaw01.ValueKleene'. -/
def valueKleeneUptoCard : Claim7 := { stood := { row := valueKleeneUptoRow, standIns := [], harness := (true, "32908d6cf9bf572abec80721f71df4b5d78e18a47c1359028c0619caada9df4b"), looks := true }, kinds := [], alts := [], laidByText := true, laidKinds := [.data, .data, .data], laidTests := true, laidLooks := .later }
def ValueKleeneUptoCardSaid : Prop := Claim7.holds Tryd.pinned (.plain (OpenSpec.upto valueKleeneSpec)) valueKleeneUptoCard

/-- THE SECOND FORM's CARD OF 'unisonlaw01.ValueReckons'. -/
def valueReckonsUptoCard : Claim7 := { stood := { row := valueReckonsUptoRow, standIns := [], harness := (true, "32908d6cf9bf572abec80721f71df4b5d78e18a47c1359028c0619caada9df4b"), looks := true }, kinds := [], alts := [], laidByText := true, laidKinds := [.data, .data, .data], laidTests := true, laidLooks := .later }
def ValueReckonsUptoCardSaid : Prop := Claim7.holds Tryd.pinned (.plain (OpenSpec.upto valueReckonsSpec)) valueReckonsUptoCard

/-- THE SECOND FORM's CARD OF 'unisonlaw01.ValueBack'. -/
def valueBackUptoCard : Claim7 := { stood := { row := valueBackUptoRow, standIns := [], harness := (true, "32908d6cf9bf572abec80721f71df4b5d78e18a47c1359028c0619caada9df4b"), looks := true }, kinds := [], alts := [], laidByText := true, laidKinds := [.data, .data, .data, .sentinel, .sentinel], laidTests := true, laidLooks := .later }
def ValueBackUptoCardSaid : Prop := Claim7.holds Tryd.pinned (.plain (OpenSpec.upto valueBackSpec)) valueBackUptoCard
end Rows
end Go.Proofs.YtfabcdjgakhdmabDoor
