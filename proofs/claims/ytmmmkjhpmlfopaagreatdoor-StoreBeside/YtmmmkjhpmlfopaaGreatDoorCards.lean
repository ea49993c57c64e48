/-
  DERIVED. GIVEN WITH THE SEED: THE CARDS: each row of YtmmmkjhpmlfopaaGreatDoorRows.lean that lists a variable, with what it lists TIED to the program's text (the seventh form; the later family's looks); each row that meets fmt, with fmt's text TOLD by the authors' own Lean function (tested against real Go, not proved from fmt's source: count such statements apart). THE CARD IS WHAT COUNTS. Prove the row's statement (the work); the ties are given (YtmmmkjhpmlfopaaGreatDoorTie.lean); close each card by the builder's one call (the guide's Derived/Test/ToyasCard.lean, 'card_holds'). Laid BY PROGRAM, IN A SANDBOX (cutbox-door.mjs). By AI agents, Wed Nov 11 2026. No macro, syntax, notation, axiom, sorry.
-/
import Derived.Test.YtmmmkjhpmlfopaaGreatDoorRows
import GoSem.ClaimSeven
namespace Go.Proofs.YtmmmkjhpmlfopaaGreatDoor
namespace Rows

/-- THE TIED CARD OF 'unisonlaw09.StoreScans'. -/
def storeScansCard : Claim7 := { stood := { row := storeScansRow, standIns := [], harness := (true, "58d9c3fd9a6751faa2944069172f86dd3d20ca67b44ab5ba3d173d919b372b6b"), looks := false }, kinds := [], alts := [], laidByText := true, laidKinds := [.data, .pinned], laidTests := true, laidLooks := .later }
def StoreScansCardSaid : Prop := Claim7.holds Tryz.pinned (.plain (OpenSpec.ofChange storeScansSpec)) storeScansCard

/-- THE TIED CARD OF 'unisonlaw09.StoreUnique'. -/
def storeUniqueCard : Claim7 := { stood := { row := storeUniqueRow, standIns := [], harness := (true, "58d9c3fd9a6751faa2944069172f86dd3d20ca67b44ab5ba3d173d919b372b6b"), looks := false }, kinds := [], alts := [], laidByText := true, laidKinds := [.data, .pinned], laidTests := true, laidLooks := .later }
def StoreUniqueCardSaid : Prop := Claim7.holds Tryz.pinned (.plain (OpenSpec.ofChange storeUniqueSpec)) storeUniqueCard

/-- THE TIED CARD OF 'unisonlaw09.StoreBeside'. -/
def storeBesideCard : Claim7 := { stood := { row := storeBesideRow, standIns := [], harness := (true, "58d9c3fd9a6751faa2944069172f86dd3d20ca67b44ab5ba3d173d919b372b6b"), looks := false }, kinds := [], alts := [], laidByText := true, laidKinds := [.data, .pinned], laidTests := true, laidLooks := .later }
def StoreBesideCardSaid : Prop := Claim7.holds Tryz.pinned (.plain (OpenSpec.ofChange storeBesideSpec)) storeBesideCard

/-- THE SECOND FORM's CARD OF 'unisonlaw09.StoreScans'. -/
def storeScansUptoCard : Claim7 := { stood := { row := storeScansUptoRow, standIns := [], harness := (true, "58d9c3fd9a6751faa2944069172f86dd3d20ca67b44ab5ba3d173d919b372b6b"), looks := false }, kinds := [], alts := [], laidByText := true, laidKinds := [.data, .pinned], laidTests := true, laidLooks := .later }
def StoreScansUptoCardSaid : Prop := Claim7.holds Tryz.pinned (.plain (OpenSpec.upto storeScansSpec)) storeScansUptoCard

/-- THE SECOND FORM's CARD OF 'unisonlaw09.StoreUnique'. -/
def storeUniqueUptoCard : Claim7 := { stood := { row := storeUniqueUptoRow, standIns := [], harness := (true, "58d9c3fd9a6751faa2944069172f86dd3d20ca67b44ab5ba3d173d919b372b6b"), looks := false }, kinds := [], alts := [], laidByText := true, laidKinds := [.data, .pinned], laidTests := true, laidLooks := .later }
def StoreUniqueUptoCardSaid : Prop := Claim7.holds Tryz.pinned (.plain (OpenSpec.upto storeUniqueSpec)) storeUniqueUptoCard

/-- THE SECOND FORM's CARD OF 'unisonlaw09.StoreBeside'. -/
def storeBesideUptoCard : Claim7 := { stood := { row := storeBesideUptoRow, standIns := [], harness := (true, "58d9c3fd9a6751faa2944069172f86dd3d20ca67b44ab5ba3d173d919b372b6b"), looks := false }, kinds := [], alts := [], laidByText := true, laidKinds := [.data, .pinned], laidTests := true, laidLooks := .later }
def StoreBesideUptoCardSaid : Prop := Claim7.holds Tryz.pinned (.plain (OpenSpec.upto storeBesideSpec)) storeBesideUptoCard
end Rows
end Go.Proofs.YtmmmkjhpmlfopaaGreatDoor
