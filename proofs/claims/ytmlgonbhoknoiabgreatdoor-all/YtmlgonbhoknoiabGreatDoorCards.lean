/-
  DERIVED. GIVEN WITH THE SEED: THE CARDS: each row of YtmlgonbhoknoiabGreatDoorRows.lean that lists a variable, with what it lists TIED to the program's text (the seventh form; the later family's looks); each row that meets fmt, with fmt's text TOLD by the authors' own Lean function (tested against real Go, not proved from fmt's source: count such statements apart). THE CARD IS WHAT COUNTS. Prove the row's statement (the work); the ties are given (YtmlgonbhoknoiabGreatDoorTie.lean); close each card by the builder's one call (the guide's Derived/Test/ToyasCard.lean, 'card_holds'). Laid BY PROGRAM, IN A SANDBOX (cutbox-door.mjs). By AI agents, Wed Nov 11 2026. No macro, syntax, notation, axiom, sorry.
-/
import Derived.Test.YtmlgonbhoknoiabGreatDoorRows
import GoSem.ClaimSeven
namespace Go.Proofs.YtmlgonbhoknoiabGreatDoor
namespace Rows

/-- THE TIED CARD OF 'machinekeep.Loads'. -/
def loadsCard : Claim7 := { stood := { row := loadsRow, standIns := [], harness := (true, "7959aec3c999f8f1cf8ade6463e783772d648c9ef47d923875839f4dba7eb0ba"), looks := false }, kinds := [], alts := [], laidByText := true, laidKinds := [.data, .data, .data], laidTests := true, laidLooks := .later }
def LoadsCardSaid : Prop := Claim7.holds Tryz.pinned (.plain (OpenSpec.ofChange loadsSpec)) loadsCard

/-- THE TIED CARD OF 'machinekeep.Branches'. -/
def branchesCard : Claim7 := { stood := { row := branchesRow, standIns := [], harness := (true, "7959aec3c999f8f1cf8ade6463e783772d648c9ef47d923875839f4dba7eb0ba"), looks := false }, kinds := [], alts := [], laidByText := true, laidKinds := [.data, .data, .data], laidTests := true, laidLooks := .later }
def BranchesCardSaid : Prop := Claim7.holds Tryz.pinned (.plain (OpenSpec.ofChange branchesSpec)) branchesCard

/-- THE TIED CARD OF 'machinekeep.Atoms'. -/
def atomsCard : Claim7 := { stood := { row := atomsRow, standIns := [], harness := (true, "7959aec3c999f8f1cf8ade6463e783772d648c9ef47d923875839f4dba7eb0ba"), looks := false }, kinds := [], alts := [], laidByText := true, laidKinds := [.data, .data, .data], laidTests := true, laidLooks := .later }
def AtomsCardSaid : Prop := Claim7.holds Tryz.pinned (.plain (OpenSpec.ofChange atomsSpec)) atomsCard

/-- THE TIED CARD OF 'machinekeep.Ports'. -/
def portsCard : Claim7 := { stood := { row := portsRow, standIns := [], harness := (true, "7959aec3c999f8f1cf8ade6463e783772d648c9ef47d923875839f4dba7eb0ba"), looks := false }, kinds := [], alts := [], laidByText := true, laidKinds := [.data, .data, .data], laidTests := true, laidLooks := .later }
def PortsCardSaid : Prop := Claim7.holds Tryz.pinned (.plain (OpenSpec.ofChange portsSpec)) portsCard

/-- THE TIED CARD OF 'machinekeep.Selves'. -/
def selvesCard : Claim7 := { stood := { row := selvesRow, standIns := [], harness := (true, "7959aec3c999f8f1cf8ade6463e783772d648c9ef47d923875839f4dba7eb0ba"), looks := false }, kinds := [], alts := [], laidByText := true, laidKinds := [.data, .data, .data], laidTests := true, laidLooks := .later }
def SelvesCardSaid : Prop := Claim7.holds Tryz.pinned (.plain (OpenSpec.ofChange selvesSpec)) selvesCard

/-- THE TIED CARD OF 'machinekeep.Maps'. -/
def mapsCard : Claim7 := { stood := { row := mapsRow, standIns := [], harness := (true, "7959aec3c999f8f1cf8ade6463e783772d648c9ef47d923875839f4dba7eb0ba"), looks := false }, kinds := [], alts := [], laidByText := true, laidKinds := [.data, .data, .data], laidTests := true, laidLooks := .later }
def MapsCardSaid : Prop := Claim7.holds Tryz.pinned (.plain (OpenSpec.ofChange mapsSpec)) mapsCard

/-- THE TIED CARD OF 'machinekeep.Walls'. -/
def wallsCard : Claim7 := { stood := { row := wallsRow, standIns := [], harness := (true, "7959aec3c999f8f1cf8ade6463e783772d648c9ef47d923875839f4dba7eb0ba"), looks := false }, kinds := [], alts := [], laidByText := true, laidKinds := [.data, .data, .data], laidTests := true, laidLooks := .later }
def WallsCardSaid : Prop := Claim7.holds Tryz.pinned (.plain (OpenSpec.ofChange wallsSpec)) wallsCard

/-- THE TIED CARD OF 'machinekeep.Twins'. -/
def twinsCard : Claim7 := { stood := { row := twinsRow, standIns := [], harness := (true, "7959aec3c999f8f1cf8ade6463e783772d648c9ef47d923875839f4dba7eb0ba"), looks := false }, kinds := [], alts := [], laidByText := true, laidKinds := [.data, .data, .data], laidTests := true, laidLooks := .later }
def TwinsCardSaid : Prop := Claim7.holds Tryz.pinned (.plain (OpenSpec.ofChange twinsSpec)) twinsCard

/-- THE TIED CARD OF 'machinekeep.Watched'. -/
def watchedCard : Claim7 := { stood := { row := watchedRow, standIns := [], harness := (true, "7959aec3c999f8f1cf8ade6463e783772d648c9ef47d923875839f4dba7eb0ba"), looks := false }, kinds := [], alts := [], laidByText := true, laidKinds := [.data, .data, .data], laidTests := true, laidLooks := .later }
def WatchedCardSaid : Prop := Claim7.holds Tryz.pinned (.plain (OpenSpec.ofChange watchedSpec)) watchedCard

/-- THE TIED CARD OF 'machinelaw.All'. -/
def allCard : Claim7 := { stood := { row := allRow, standIns := [], harness := (true, "7959aec3c999f8f1cf8ade6463e783772d648c9ef47d923875839f4dba7eb0ba"), looks := false }, kinds := [], alts := [], laidByText := true, laidKinds := [.data, .data, .data], laidTests := true, laidLooks := .later }
def AllCardSaid : Prop := Claim7.holds Tryz.pinned (.plain (OpenSpec.ofChange allSpec)) allCard

/-- THE SECOND FORM's CARD OF 'machinekeep.Loads'. -/
def loadsUptoCard : Claim7 := { stood := { row := loadsUptoRow, standIns := [], harness := (true, "7959aec3c999f8f1cf8ade6463e783772d648c9ef47d923875839f4dba7eb0ba"), looks := false }, kinds := [], alts := [], laidByText := true, laidKinds := [.data, .data, .data], laidTests := true, laidLooks := .later }
def LoadsUptoCardSaid : Prop := Claim7.holds Tryz.pinned (.plain (OpenSpec.upto loadsSpec)) loadsUptoCard

/-- THE SECOND FORM's CARD OF 'machinekeep.Branches'. -/
def branchesUptoCard : Claim7 := { stood := { row := branchesUptoRow, standIns := [], harness := (true, "7959aec3c999f8f1cf8ade6463e783772d648c9ef47d923875839f4dba7eb0ba"), looks := false }, kinds := [], alts := [], laidByText := true, laidKinds := [.data, .data, .data], laidTests := true, laidLooks := .later }
def BranchesUptoCardSaid : Prop := Claim7.holds Tryz.pinned (.plain (OpenSpec.upto branchesSpec)) branchesUptoCard

/-- THE SECOND FORM's CARD OF 'machinekeep.Atoms'. -/
def atomsUptoCard : Claim7 := { stood := { row := atomsUptoRow, standIns := [], harness := (true, "7959aec3c999f8f1cf8ade6463e783772d648c9ef47d923875839f4dba7eb0ba"), looks := false }, kinds := [], alts := [], laidByText := true, laidKinds := [.data, .data, .data], laidTests := true, laidLooks := .later }
def AtomsUptoCardSaid : Prop := Claim7.holds Tryz.pinned (.plain (OpenSpec.upto atomsSpec)) atomsUptoCard

/-- THE SECOND FORM's CARD OF 'machinekeep.Ports'. -/
def portsUptoCard : Claim7 := { stood := { row := portsUptoRow, standIns := [], harness := (true, "7959aec3c999f8f1cf8ade6463e783772d648c9ef47d923875839f4dba7eb0ba"), looks := false }, kinds := [], alts := [], laidByText := true, laidKinds := [.data, .data, .data], laidTests := true, laidLooks := .later }
def PortsUptoCardSaid : Prop := Claim7.holds Tryz.pinned (.plain (OpenSpec.upto portsSpec)) portsUptoCard

/-- THE SECOND FORM's CARD OF 'machinekeep.Selves'. -/
def selvesUptoCard : Claim7 := { stood := { row := selvesUptoRow, standIns := [], harness := (true, "7959aec3c999f8f1cf8ade6463e783772d648c9ef47d923875839f4dba7eb0ba"), looks := false }, kinds := [], alts := [], laidByText := true, laidKinds := [.data, .data, .data], laidTests := true, laidLooks := .later }
def SelvesUptoCardSaid : Prop := Claim7.holds Tryz.pinned (.plain (OpenSpec.upto selvesSpec)) selvesUptoCard

/-- THE SECOND FORM's CARD OF 'machinekeep.Maps'. -/
def mapsUptoCard : Claim7 := { stood := { row := mapsUptoRow, standIns := [], harness := (true, "7959aec3c999f8f1cf8ade6463e783772d648c9ef47d923875839f4dba7eb0ba"), looks := false }, kinds := [], alts := [], laidByText := true, laidKinds := [.data, .data, .data], laidTests := true, laidLooks := .later }
def MapsUptoCardSaid : Prop := Claim7.holds Tryz.pinned (.plain (OpenSpec.upto mapsSpec)) mapsUptoCard

/-- THE SECOND FORM's CARD OF 'machinekeep.Walls'. -/
def wallsUptoCard : Claim7 := { stood := { row := wallsUptoRow, standIns := [], harness := (true, "7959aec3c999f8f1cf8ade6463e783772d648c9ef47d923875839f4dba7eb0ba"), looks := false }, kinds := [], alts := [], laidByText := true, laidKinds := [.data, .data, .data], laidTests := true, laidLooks := .later }
def WallsUptoCardSaid : Prop := Claim7.holds Tryz.pinned (.plain (OpenSpec.upto wallsSpec)) wallsUptoCard

/-- THE SECOND FORM's CARD OF 'machinekeep.Twins'. -/
def twinsUptoCard : Claim7 := { stood := { row := twinsUptoRow, standIns := [], harness := (true, "7959aec3c999f8f1cf8ade6463e783772d648c9ef47d923875839f4dba7eb0ba"), looks := false }, kinds := [], alts := [], laidByText := true, laidKinds := [.data, .data, .data], laidTests := true, laidLooks := .later }
def TwinsUptoCardSaid : Prop := Claim7.holds Tryz.pinned (.plain (OpenSpec.upto twinsSpec)) twinsUptoCard

/-- THE SECOND FORM's CARD OF 'machinekeep.Watched'. -/
def watchedUptoCard : Claim7 := { stood := { row := watchedUptoRow, standIns := [], harness := (true, "7959aec3c999f8f1cf8ade6463e783772d648c9ef47d923875839f4dba7eb0ba"), looks := false }, kinds := [], alts := [], laidByText := true, laidKinds := [.data, .data, .data], laidTests := true, laidLooks := .later }
def WatchedUptoCardSaid : Prop := Claim7.holds Tryz.pinned (.plain (OpenSpec.upto watchedSpec)) watchedUptoCard

/-- THE SECOND FORM's CARD OF 'machinelaw.All'. -/
def allUptoCard : Claim7 := { stood := { row := allUptoRow, standIns := [], harness := (true, "7959aec3c999f8f1cf8ade6463e783772d648c9ef47d923875839f4dba7eb0ba"), looks := false }, kinds := [], alts := [], laidByText := true, laidKinds := [.data, .data, .data], laidTests := true, laidLooks := .later }
def AllUptoCardSaid : Prop := Claim7.holds Tryz.pinned (.plain (OpenSpec.upto allSpec)) allUptoCard
end Rows
end Go.Proofs.YtmlgonbhoknoiabGreatDoor
