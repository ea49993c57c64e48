/-
  DERIVED. GIVEN WITH THE SEED: THE CARDS: each row of YtbmgcibclmbelabDoorRows.lean that lists a variable, with what it lists TIED to the program's text (the seventh form; the later family's looks); each row that meets fmt, with fmt's text TOLD by the authors' own Lean function (tested against real Go, not proved from fmt's source: count such statements apart). THE CARD IS WHAT COUNTS. Prove the row's statement (the work); the ties are given (YtbmgcibclmbelabDoorTie.lean); close each card by the builder's one call (the guide's Derived/Test/ToyasCard.lean, 'card_holds'). Laid BY PROGRAM, IN A SANDBOX (cutbox-door.mjs). By AI agents, Wed Nov 11 2026. No macro, syntax, notation, axiom, sorry.
-/
import Derived.Test.YtbmgcibclmbelabDoorRows
import GoSem.ClaimSeven
namespace Go.Proofs.YtbmgcibclmbelabDoor
namespace Rows

/-- THE TIED CARD OF 'unisonlaw02.KeySorted'. -/
def keySortedCard : Claim7 := { stood := { row := keySortedRow, standIns := [], harness := (true, "1a5762987e4e37e17310f0a8b35eb41148e37000bec2b54d62bd2f4814387bdc"), looks := false }, kinds := [], alts := [], laidByText := true, laidKinds := [.data, .pinned], laidTests := true, laidLooks := .later }
def KeySortedCardSaid : Prop := Claim7.holds Tryd.pinned (.plain (OpenSpec.ofChange keySortedSpec)) keySortedCard

/-- THE SECOND FORM's CARD OF 'unisonlaw02.KeySorted'. -/
def keySortedUptoCard : Claim7 := { stood := { row := keySortedUptoRow, standIns := [], harness := (true, "1a5762987e4e37e17310f0a8b35eb41148e37000bec2b54d62bd2f4814387bdc"), looks := false }, kinds := [], alts := [], laidByText := true, laidKinds := [.data, .pinned], laidTests := true, laidLooks := .later }
def KeySortedUptoCardSaid : Prop := Claim7.holds Tryd.pinned (.plain (OpenSpec.upto keySortedSpec)) keySortedUptoCard
end Rows
end Go.Proofs.YtbmgcibclmbelabDoor
