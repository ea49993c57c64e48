/-
  DERIVED. GIVEN WITH THE SEED: THE CARDS: each row of YtbfjmccpcbhljaaGreatDoorRows.lean that lists a variable, with what it lists TIED to the program's text (the seventh form; the later family's looks); each row that meets fmt, with fmt's text TOLD by the authors' own Lean function (tested against real Go, not proved from fmt's source: count such statements apart). THE CARD IS WHAT COUNTS. Prove the row's statement (the work); the ties are given (YtbfjmccpcbhljaaGreatDoorTie.lean); close each card by the builder's one call (the guide's Derived/Test/ToyasCard.lean, 'card_holds'). Laid BY PROGRAM, IN A SANDBOX (cutbox-door.mjs). By AI agents, Wed Nov 11 2026. No macro, syntax, notation, axiom, sorry.
-/
import Derived.Test.YtbfjmccpcbhljaaGreatDoorRows
import GoSem.ClaimSeven
namespace Go.Proofs.YtbfjmccpcbhljaaGreatDoor
namespace Rows

/-- THE TIED CARD OF 'unisonlaw12.PrettyPrints'. -/
def prettyPrintsCard : Claim7 := { stood := { row := prettyPrintsRow, standIns := [], harness := (true, "fe56d4d11c949b40043cb5af5ab4419548748e3d7733806997775277317592d5"), looks := true }, kinds := [], alts := [], laidByText := true, laidKinds := [.data, .data, .data, .sentinel, .sentinel], laidTests := true, laidLooks := .later }
def PrettyPrintsCardSaid : Prop := Claim7.holds Tryz.pinned (.plain (OpenSpec.ofChange prettyPrintsSpec)) prettyPrintsCard

/-- THE TIED CARD OF 'unisonlaw12.PrettyBack'. -/
def prettyBackCard : Claim7 := { stood := { row := prettyBackRow, standIns := [], harness := (true, "fe56d4d11c949b40043cb5af5ab4419548748e3d7733806997775277317592d5"), looks := true }, kinds := [], alts := [], laidByText := true, laidKinds := [.data, .data, .data, .sentinel, .sentinel], laidTests := true, laidLooks := .later }
def PrettyBackCardSaid : Prop := Claim7.holds Tryz.pinned (.plain (OpenSpec.ofChange prettyBackSpec)) prettyBackCard

/-- THE TIED CARD OF 'unisonlaw12.PrettySource'. -/
def prettySourceCard : Claim7 := { stood := { row := prettySourceRow, standIns := [], harness := (true, "fe56d4d11c949b40043cb5af5ab4419548748e3d7733806997775277317592d5"), looks := true }, kinds := [], alts := [], laidByText := true, laidKinds := [.data, .data, .data, .sentinel, .sentinel], laidTests := true, laidLooks := .later }
def PrettySourceCardSaid : Prop := Claim7.holds Tryz.pinned (.plain (OpenSpec.ofChange prettySourceSpec)) prettySourceCard

/-- THE TIED CARD OF 'unisonlaw12.PrettyNeeds'. -/
def prettyNeedsCard : Claim7 := { stood := { row := prettyNeedsRow, standIns := [], harness := (true, "fe56d4d11c949b40043cb5af5ab4419548748e3d7733806997775277317592d5"), looks := true }, kinds := [], alts := [], laidByText := true, laidKinds := [.data, .data, .data, .sentinel, .sentinel], laidTests := true, laidLooks := .later }
def PrettyNeedsCardSaid : Prop := Claim7.holds Tryz.pinned (.plain (OpenSpec.ofChange prettyNeedsSpec)) prettyNeedsCard

/-- THE SECOND FORM's CARD OF 'unisonlaw12.PrettyPrints'. -/
def prettyPrintsUptoCard : Claim7 := { stood := { row := prettyPrintsUptoRow, standIns := [], harness := (true, "fe56d4d11c949b40043cb5af5ab4419548748e3d7733806997775277317592d5"), looks := true }, kinds := [], alts := [], laidByText := true, laidKinds := [.data, .data, .data, .sentinel, .sentinel], laidTests := true, laidLooks := .later }
def PrettyPrintsUptoCardSaid : Prop := Claim7.holds Tryz.pinned (.plain (OpenSpec.upto prettyPrintsSpec)) prettyPrintsUptoCard

/-- THE SECOND FORM's CARD OF 'unisonlaw12.PrettyBack'. -/
def prettyBackUptoCard : Claim7 := { stood := { row := prettyBackUptoRow, standIns := [], harness := (true, "fe56d4d11c949b40043cb5af5ab4419548748e3d7733806997775277317592d5"), looks := true }, kinds := [], alts := [], laidByText := true, laidKinds := [.data, .data, .data, .sentinel, .sentinel], laidTests := true, laidLooks := .later }
def PrettyBackUptoCardSaid : Prop := Claim7.holds Tryz.pinned (.plain (OpenSpec.upto prettyBackSpec)) prettyBackUptoCard

/-- THE SECOND FORM's CARD OF 'unisonlaw12.PrettySource'. -/
def prettySourceUptoCard : Claim7 := { stood := { row := prettySourceUptoRow, standIns := [], harness := (true, "fe56d4d11c949b40043cb5af5ab4419548748e3d7733806997775277317592d5"), looks := true }, kinds := [], alts := [], laidByText := true, laidKinds := [.data, .data, .data, .sentinel, .sentinel], laidTests := true, laidLooks := .later }
def PrettySourceUptoCardSaid : Prop := Claim7.holds Tryz.pinned (.plain (OpenSpec.upto prettySourceSpec)) prettySourceUptoCard

/-- THE SECOND FORM's CARD OF 'unisonlaw12.PrettyNeeds'. -/
def prettyNeedsUptoCard : Claim7 := { stood := { row := prettyNeedsUptoRow, standIns := [], harness := (true, "fe56d4d11c949b40043cb5af5ab4419548748e3d7733806997775277317592d5"), looks := true }, kinds := [], alts := [], laidByText := true, laidKinds := [.data, .data, .data, .sentinel, .sentinel], laidTests := true, laidLooks := .later }
def PrettyNeedsUptoCardSaid : Prop := Claim7.holds Tryz.pinned (.plain (OpenSpec.upto prettyNeedsSpec)) prettyNeedsUptoCard
end Rows
end Go.Proofs.YtbfjmccpcbhljaaGreatDoor
