/-
  DERIVED. GIVEN WITH THE SEED: THE CARDS: each row of YtmlgonbhoknoiaaGreatDoorRows.lean that lists a variable, with what it lists TIED to the program's text (the seventh form; the later family's looks); each row that meets fmt, with fmt's text TOLD by the authors' own Lean function (tested against real Go, not proved from fmt's source: count such statements apart). THE CARD IS WHAT COUNTS. Prove the row's statement (the work); the ties are given (YtmlgonbhoknoiaaGreatDoorTie.lean); close each card by the builder's one call (the guide's Derived/Test/ToyasCard.lean, 'card_holds'). Laid BY PROGRAM, IN A SANDBOX (cutbox-door.mjs). By AI agents, Wed Nov 11 2026. No macro, syntax, notation, axiom, sorry.
-/
import Derived.Test.YtmlgonbhoknoiaaGreatDoorRows
import GoSem.ClaimSeven
namespace Go.Proofs.YtmlgonbhoknoiaaGreatDoor
namespace Rows

/-- THE TIED CARD OF 'machinelaw.Decodes'. -/
def decodesCard : Claim7 := { stood := { row := decodesRow, standIns := [], harness := (true, "ec44218dc01cf5e969531c2aae00b79bc5c657b0f79820b2c48c4db509d0d3ad"), looks := false }, kinds := [], alts := [], laidByText := true, laidKinds := [.data, .data, .data], laidTests := true, laidLooks := .later }
def DecodesCardSaid : Prop := Claim7.holds Tryz.pinned (.plain (OpenSpec.ofChange decodesSpec)) decodesCard

/-- THE TIED CARD OF 'machinelaw.Encodes'. -/
def encodesCard : Claim7 := { stood := { row := encodesRow, standIns := [], harness := (true, "ec44218dc01cf5e969531c2aae00b79bc5c657b0f79820b2c48c4db509d0d3ad"), looks := false }, kinds := [], alts := [], laidByText := true, laidKinds := [.data, .data, .data], laidTests := true, laidLooks := .later }
def EncodesCardSaid : Prop := Claim7.holds Tryz.pinned (.plain (OpenSpec.ofChange encodesSpec)) encodesCard

/-- THE TIED CARD OF 'machinelaw.Images'. -/
def imagesCard : Claim7 := { stood := { row := imagesRow, standIns := [], harness := (true, "ec44218dc01cf5e969531c2aae00b79bc5c657b0f79820b2c48c4db509d0d3ad"), looks := false }, kinds := [], alts := [], laidByText := true, laidKinds := [.data, .data, .data], laidTests := true, laidLooks := .later }
def ImagesCardSaid : Prop := Claim7.holds Tryz.pinned (.plain (OpenSpec.ofChange imagesSpec)) imagesCard

/-- THE TIED CARD OF 'machinelaw.Texts'. -/
def textsCard : Claim7 := { stood := { row := textsRow, standIns := [], harness := (true, "ec44218dc01cf5e969531c2aae00b79bc5c657b0f79820b2c48c4db509d0d3ad"), looks := false }, kinds := [], alts := [], laidByText := true, laidKinds := [.data, .data, .data], laidTests := true, laidLooks := .later }
def TextsCardSaid : Prop := Claim7.holds Tryz.pinned (.plain (OpenSpec.ofChange textsSpec)) textsCard

/-- THE TIED CARD OF 'machinelaw.News'. -/
def newsCard : Claim7 := { stood := { row := newsRow, standIns := [], harness := (true, "ec44218dc01cf5e969531c2aae00b79bc5c657b0f79820b2c48c4db509d0d3ad"), looks := false }, kinds := [], alts := [], laidByText := true, laidKinds := [.data, .data, .data], laidTests := true, laidLooks := .later }
def NewsCardSaid : Prop := Claim7.holds Tryz.pinned (.plain (OpenSpec.ofChange newsSpec)) newsCard

/-- THE TIED CARD OF 'machinelaw.Steps'. -/
def stepsCard : Claim7 := { stood := { row := stepsRow, standIns := [], harness := (true, "ec44218dc01cf5e969531c2aae00b79bc5c657b0f79820b2c48c4db509d0d3ad"), looks := false }, kinds := [], alts := [], laidByText := true, laidKinds := [.data, .data, .data], laidTests := true, laidLooks := .later }
def StepsCardSaid : Prop := Claim7.holds Tryz.pinned (.plain (OpenSpec.ofChange stepsSpec)) stepsCard

/-- THE TIED CARD OF 'machinelaw.Devices'. -/
def devicesCard : Claim7 := { stood := { row := devicesRow, standIns := [], harness := (true, "ec44218dc01cf5e969531c2aae00b79bc5c657b0f79820b2c48c4db509d0d3ad"), looks := false }, kinds := [], alts := [], laidByText := true, laidKinds := [.data, .data, .data], laidTests := true, laidLooks := .later }
def DevicesCardSaid : Prop := Claim7.holds Tryz.pinned (.plain (OpenSpec.ofChange devicesSpec)) devicesCard

/-- THE TIED CARD OF 'machinelaw.Looks'. -/
def looksCard : Claim7 := { stood := { row := looksRow, standIns := [], harness := (true, "ec44218dc01cf5e969531c2aae00b79bc5c657b0f79820b2c48c4db509d0d3ad"), looks := false }, kinds := [], alts := [], laidByText := true, laidKinds := [.data, .data, .data], laidTests := true, laidLooks := .later }
def LooksCardSaid : Prop := Claim7.holds Tryz.pinned (.plain (OpenSpec.ofChange looksSpec)) looksCard

/-- THE TIED CARD OF 'machinekeep.Words'. -/
def wordsCard : Claim7 := { stood := { row := wordsRow, standIns := [], harness := (true, "ec44218dc01cf5e969531c2aae00b79bc5c657b0f79820b2c48c4db509d0d3ad"), looks := false }, kinds := [], alts := [], laidByText := true, laidKinds := [.data, .data, .data], laidTests := true, laidLooks := .later }
def WordsCardSaid : Prop := Claim7.holds Tryz.pinned (.plain (OpenSpec.ofChange wordsSpec)) wordsCard

/-- THE TIED CARD OF 'machinekeep.Known'. -/
def knownCard : Claim7 := { stood := { row := knownRow, standIns := [], harness := (true, "ec44218dc01cf5e969531c2aae00b79bc5c657b0f79820b2c48c4db509d0d3ad"), looks := false }, kinds := [], alts := [], laidByText := true, laidKinds := [.data, .data, .data], laidTests := true, laidLooks := .later }
def KnownCardSaid : Prop := Claim7.holds Tryz.pinned (.plain (OpenSpec.ofChange knownSpec)) knownCard

/-- THE TIED CARD OF 'machinekeep.Maths'. -/
def mathsCard : Claim7 := { stood := { row := mathsRow, standIns := [], harness := (true, "ec44218dc01cf5e969531c2aae00b79bc5c657b0f79820b2c48c4db509d0d3ad"), looks := false }, kinds := [], alts := [], laidByText := true, laidKinds := [.data, .data, .data], laidTests := true, laidLooks := .later }
def MathsCardSaid : Prop := Claim7.holds Tryz.pinned (.plain (OpenSpec.ofChange mathsSpec)) mathsCard

/-- THE SECOND FORM's CARD OF 'machinelaw.Decodes'. -/
def decodesUptoCard : Claim7 := { stood := { row := decodesUptoRow, standIns := [], harness := (true, "ec44218dc01cf5e969531c2aae00b79bc5c657b0f79820b2c48c4db509d0d3ad"), looks := false }, kinds := [], alts := [], laidByText := true, laidKinds := [.data, .data, .data], laidTests := true, laidLooks := .later }
def DecodesUptoCardSaid : Prop := Claim7.holds Tryz.pinned (.plain (OpenSpec.upto decodesSpec)) decodesUptoCard

/-- THE SECOND FORM's CARD OF 'machinelaw.Encodes'. -/
def encodesUptoCard : Claim7 := { stood := { row := encodesUptoRow, standIns := [], harness := (true, "ec44218dc01cf5e969531c2aae00b79bc5c657b0f79820b2c48c4db509d0d3ad"), looks := false }, kinds := [], alts := [], laidByText := true, laidKinds := [.data, .data, .data], laidTests := true, laidLooks := .later }
def EncodesUptoCardSaid : Prop := Claim7.holds Tryz.pinned (.plain (OpenSpec.upto encodesSpec)) encodesUptoCard

/-- THE SECOND FORM's CARD OF 'machinelaw.Images'. -/
def imagesUptoCard : Claim7 := { stood := { row := imagesUptoRow, standIns := [], harness := (true, "ec44218dc01cf5e969531c2aae00b79bc5c657b0f79820b2c48c4db509d0d3ad"), looks := false }, kinds := [], alts := [], laidByText := true, laidKinds := [.data, .data, .data], laidTests := true, laidLooks := .later }
def ImagesUptoCardSaid : Prop := Claim7.holds Tryz.pinned (.plain (OpenSpec.upto imagesSpec)) imagesUptoCard

/-- THE SECOND FORM's CARD OF 'machinelaw.Texts'. -/
def textsUptoCard : Claim7 := { stood := { row := textsUptoRow, standIns := [], harness := (true, "ec44218dc01cf5e969531c2aae00b79bc5c657b0f79820b2c48c4db509d0d3ad"), looks := false }, kinds := [], alts := [], laidByText := true, laidKinds := [.data, .data, .data], laidTests := true, laidLooks := .later }
def TextsUptoCardSaid : Prop := Claim7.holds Tryz.pinned (.plain (OpenSpec.upto textsSpec)) textsUptoCard

/-- THE SECOND FORM's CARD OF 'machinelaw.News'. -/
def newsUptoCard : Claim7 := { stood := { row := newsUptoRow, standIns := [], harness := (true, "ec44218dc01cf5e969531c2aae00b79bc5c657b0f79820b2c48c4db509d0d3ad"), looks := false }, kinds := [], alts := [], laidByText := true, laidKinds := [.data, .data, .data], laidTests := true, laidLooks := .later }
def NewsUptoCardSaid : Prop := Claim7.holds Tryz.pinned (.plain (OpenSpec.upto newsSpec)) newsUptoCard

/-- THE SECOND FORM's CARD OF 'machinelaw.Steps'. -/
def stepsUptoCard : Claim7 := { stood := { row := stepsUptoRow, standIns := [], harness := (true, "ec44218dc01cf5e969531c2aae00b79bc5c657b0f79820b2c48c4db509d0d3ad"), looks := false }, kinds := [], alts := [], laidByText := true, laidKinds := [.data, .data, .data], laidTests := true, laidLooks := .later }
def StepsUptoCardSaid : Prop := Claim7.holds Tryz.pinned (.plain (OpenSpec.upto stepsSpec)) stepsUptoCard

/-- THE SECOND FORM's CARD OF 'machinelaw.Devices'. -/
def devicesUptoCard : Claim7 := { stood := { row := devicesUptoRow, standIns := [], harness := (true, "ec44218dc01cf5e969531c2aae00b79bc5c657b0f79820b2c48c4db509d0d3ad"), looks := false }, kinds := [], alts := [], laidByText := true, laidKinds := [.data, .data, .data], laidTests := true, laidLooks := .later }
def DevicesUptoCardSaid : Prop := Claim7.holds Tryz.pinned (.plain (OpenSpec.upto devicesSpec)) devicesUptoCard

/-- THE SECOND FORM's CARD OF 'machinelaw.Looks'. -/
def looksUptoCard : Claim7 := { stood := { row := looksUptoRow, standIns := [], harness := (true, "ec44218dc01cf5e969531c2aae00b79bc5c657b0f79820b2c48c4db509d0d3ad"), looks := false }, kinds := [], alts := [], laidByText := true, laidKinds := [.data, .data, .data], laidTests := true, laidLooks := .later }
def LooksUptoCardSaid : Prop := Claim7.holds Tryz.pinned (.plain (OpenSpec.upto looksSpec)) looksUptoCard

/-- THE SECOND FORM's CARD OF 'machinekeep.Words'. -/
def wordsUptoCard : Claim7 := { stood := { row := wordsUptoRow, standIns := [], harness := (true, "ec44218dc01cf5e969531c2aae00b79bc5c657b0f79820b2c48c4db509d0d3ad"), looks := false }, kinds := [], alts := [], laidByText := true, laidKinds := [.data, .data, .data], laidTests := true, laidLooks := .later }
def WordsUptoCardSaid : Prop := Claim7.holds Tryz.pinned (.plain (OpenSpec.upto wordsSpec)) wordsUptoCard

/-- THE SECOND FORM's CARD OF 'machinekeep.Known'. -/
def knownUptoCard : Claim7 := { stood := { row := knownUptoRow, standIns := [], harness := (true, "ec44218dc01cf5e969531c2aae00b79bc5c657b0f79820b2c48c4db509d0d3ad"), looks := false }, kinds := [], alts := [], laidByText := true, laidKinds := [.data, .data, .data], laidTests := true, laidLooks := .later }
def KnownUptoCardSaid : Prop := Claim7.holds Tryz.pinned (.plain (OpenSpec.upto knownSpec)) knownUptoCard

/-- THE SECOND FORM's CARD OF 'machinekeep.Maths'. -/
def mathsUptoCard : Claim7 := { stood := { row := mathsUptoRow, standIns := [], harness := (true, "ec44218dc01cf5e969531c2aae00b79bc5c657b0f79820b2c48c4db509d0d3ad"), looks := false }, kinds := [], alts := [], laidByText := true, laidKinds := [.data, .data, .data], laidTests := true, laidLooks := .later }
def MathsUptoCardSaid : Prop := Claim7.holds Tryz.pinned (.plain (OpenSpec.upto mathsSpec)) mathsUptoCard
end Rows
end Go.Proofs.YtmlgonbhoknoiaaGreatDoor
