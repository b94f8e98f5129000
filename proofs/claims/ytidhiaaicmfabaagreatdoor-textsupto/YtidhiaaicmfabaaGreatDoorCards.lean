/-
  DERIVED. GIVEN WITH THE SEED: THE CARDS: each row of YtidhiaaicmfabaaGreatDoorRows.lean that lists a variable, with what it lists TIED to the program's text (the seventh form; the later family's looks); each row that meets fmt, with fmt's text TOLD by the authors' own Lean function (tested against real Go, not proved from fmt's source: count such statements apart). THE CARD IS WHAT COUNTS. Prove the row's statement (the work); the ties are given (YtidhiaaicmfabaaGreatDoorTie.lean); close each card by the builder's one call (the guide's Derived/Test/ToyasCard.lean, 'card_holds'). Laid BY PROGRAM, IN A SANDBOX (cutbox-door.mjs). By AI agents, Wed Nov 11 2026. No macro, syntax, notation, axiom, sorry.
-/
import Derived.Test.YtidhiaaicmfabaaGreatDoorRows
import GoSem.ClaimSeven
namespace Go.Proofs.YtidhiaaicmfabaaGreatDoor
namespace Rows

/-- THE TIED CARD OF 'sluicelaw.Texts'. -/
def textsCard : Claim7 := { stood := { row := textsRow, standIns := [], harness := (true, "8eca75dc64677572f557cbe93c5dbb382856dbef2b3208d02dab1cdd6599652a"), looks := true }, kinds := [], alts := [], laidByText := true, laidKinds := [.data, .data, .data, .data, .sentinel, .sentinel, .data, .pinned, .pinned], laidTests := true, laidLooks := .later }
def TextsCardSaid : Prop := Claim7.holds Tryz.pinned (.plain (OpenSpec.ofChange textsSpec)) textsCard

/-- THE TIED CARD OF 'sluicelaw.Plants'. -/
def plantsCard : Claim7 := { stood := { row := plantsRow, standIns := [], harness := (true, "8eca75dc64677572f557cbe93c5dbb382856dbef2b3208d02dab1cdd6599652a"), looks := true }, kinds := [], alts := [], laidByText := true, laidKinds := [.data, .data, .data, .data, .sentinel, .sentinel, .data, .pinned, .pinned], laidTests := true, laidLooks := .later }
def PlantsCardSaid : Prop := Claim7.holds Tryz.pinned (.plain (OpenSpec.ofChange plantsSpec)) plantsCard

/-- THE TIED CARD OF 'sluicekeep.Reckoned'. -/
def reckonedCard : Claim7 := { stood := { row := reckonedRow, standIns := [], harness := (true, "8eca75dc64677572f557cbe93c5dbb382856dbef2b3208d02dab1cdd6599652a"), looks := true }, kinds := [], alts := [], laidByText := true, laidKinds := [.data, .data, .data, .data, .sentinel, .sentinel, .data, .pinned, .pinned], laidTests := true, laidLooks := .later }
def ReckonedCardSaid : Prop := Claim7.holds Tryz.pinned (.plain (OpenSpec.ofChange reckonedSpec)) reckonedCard

/-- THE TIED CARD OF 'sluicekeep.Divided'. -/
def dividedCard : Claim7 := { stood := { row := dividedRow, standIns := [], harness := (true, "8eca75dc64677572f557cbe93c5dbb382856dbef2b3208d02dab1cdd6599652a"), looks := true }, kinds := [], alts := [], laidByText := true, laidKinds := [.data, .data, .data, .data, .sentinel, .sentinel, .data, .pinned, .pinned], laidTests := true, laidLooks := .later }
def DividedCardSaid : Prop := Claim7.holds Tryz.pinned (.plain (OpenSpec.ofChange dividedSpec)) dividedCard

/-- THE TIED CARD OF 'sluicekeep.Summed'. -/
def summedCard : Claim7 := { stood := { row := summedRow, standIns := [], harness := (true, "8eca75dc64677572f557cbe93c5dbb382856dbef2b3208d02dab1cdd6599652a"), looks := true }, kinds := [], alts := [], laidByText := true, laidKinds := [.data, .data, .data, .data, .sentinel, .sentinel, .data, .pinned, .pinned], laidTests := true, laidLooks := .later }
def SummedCardSaid : Prop := Claim7.holds Tryz.pinned (.plain (OpenSpec.ofChange summedSpec)) summedCard

/-- THE TIED CARD OF 'sluicekeep.Timed'. -/
def timedCard : Claim7 := { stood := { row := timedRow, standIns := [], harness := (true, "8eca75dc64677572f557cbe93c5dbb382856dbef2b3208d02dab1cdd6599652a"), looks := true }, kinds := [], alts := [], laidByText := true, laidKinds := [.data, .data, .data, .data, .sentinel, .sentinel, .data, .pinned, .pinned], laidTests := true, laidLooks := .later }
def TimedCardSaid : Prop := Claim7.holds Tryz.pinned (.plain (OpenSpec.ofChange timedSpec)) timedCard

/-- THE TIED CARD OF 'sluicekeep.Chosen'. -/
def chosenCard : Claim7 := { stood := { row := chosenRow, standIns := [], harness := (true, "8eca75dc64677572f557cbe93c5dbb382856dbef2b3208d02dab1cdd6599652a"), looks := true }, kinds := [], alts := [], laidByText := true, laidKinds := [.data, .data, .data, .data, .sentinel, .sentinel, .data, .pinned, .pinned], laidTests := true, laidLooks := .later }
def ChosenCardSaid : Prop := Claim7.holds Tryz.pinned (.plain (OpenSpec.ofChange chosenSpec)) chosenCard

/-- THE TIED CARD OF 'sluicelaw.All'. -/
def allCard : Claim7 := { stood := { row := allRow, standIns := [], harness := (true, "8eca75dc64677572f557cbe93c5dbb382856dbef2b3208d02dab1cdd6599652a"), looks := true }, kinds := [], alts := [], laidByText := true, laidKinds := [.data, .data, .data, .data, .sentinel, .sentinel, .data, .pinned, .pinned], laidTests := true, laidLooks := .later }
def AllCardSaid : Prop := Claim7.holds Tryz.pinned (.plain (OpenSpec.ofChange allSpec)) allCard

/-- THE SECOND FORM's CARD OF 'sluicelaw.Texts'. -/
def textsUptoCard : Claim7 := { stood := { row := textsUptoRow, standIns := [], harness := (true, "8eca75dc64677572f557cbe93c5dbb382856dbef2b3208d02dab1cdd6599652a"), looks := true }, kinds := [], alts := [], laidByText := true, laidKinds := [.data, .data, .data, .data, .sentinel, .sentinel, .data, .pinned, .pinned], laidTests := true, laidLooks := .later }
def TextsUptoCardSaid : Prop := Claim7.holds Tryz.pinned (.plain (OpenSpec.upto textsSpec)) textsUptoCard

/-- THE SECOND FORM's CARD OF 'sluicelaw.Plants'. -/
def plantsUptoCard : Claim7 := { stood := { row := plantsUptoRow, standIns := [], harness := (true, "8eca75dc64677572f557cbe93c5dbb382856dbef2b3208d02dab1cdd6599652a"), looks := true }, kinds := [], alts := [], laidByText := true, laidKinds := [.data, .data, .data, .data, .sentinel, .sentinel, .data, .pinned, .pinned], laidTests := true, laidLooks := .later }
def PlantsUptoCardSaid : Prop := Claim7.holds Tryz.pinned (.plain (OpenSpec.upto plantsSpec)) plantsUptoCard

/-- THE SECOND FORM's CARD OF 'sluicekeep.Reckoned'. -/
def reckonedUptoCard : Claim7 := { stood := { row := reckonedUptoRow, standIns := [], harness := (true, "8eca75dc64677572f557cbe93c5dbb382856dbef2b3208d02dab1cdd6599652a"), looks := true }, kinds := [], alts := [], laidByText := true, laidKinds := [.data, .data, .data, .data, .sentinel, .sentinel, .data, .pinned, .pinned], laidTests := true, laidLooks := .later }
def ReckonedUptoCardSaid : Prop := Claim7.holds Tryz.pinned (.plain (OpenSpec.upto reckonedSpec)) reckonedUptoCard

/-- THE SECOND FORM's CARD OF 'sluicekeep.Divided'. -/
def dividedUptoCard : Claim7 := { stood := { row := dividedUptoRow, standIns := [], harness := (true, "8eca75dc64677572f557cbe93c5dbb382856dbef2b3208d02dab1cdd6599652a"), looks := true }, kinds := [], alts := [], laidByText := true, laidKinds := [.data, .data, .data, .data, .sentinel, .sentinel, .data, .pinned, .pinned], laidTests := true, laidLooks := .later }
def DividedUptoCardSaid : Prop := Claim7.holds Tryz.pinned (.plain (OpenSpec.upto dividedSpec)) dividedUptoCard

/-- THE SECOND FORM's CARD OF 'sluicekeep.Summed'. -/
def summedUptoCard : Claim7 := { stood := { row := summedUptoRow, standIns := [], harness := (true, "8eca75dc64677572f557cbe93c5dbb382856dbef2b3208d02dab1cdd6599652a"), looks := true }, kinds := [], alts := [], laidByText := true, laidKinds := [.data, .data, .data, .data, .sentinel, .sentinel, .data, .pinned, .pinned], laidTests := true, laidLooks := .later }
def SummedUptoCardSaid : Prop := Claim7.holds Tryz.pinned (.plain (OpenSpec.upto summedSpec)) summedUptoCard

/-- THE SECOND FORM's CARD OF 'sluicekeep.Timed'. -/
def timedUptoCard : Claim7 := { stood := { row := timedUptoRow, standIns := [], harness := (true, "8eca75dc64677572f557cbe93c5dbb382856dbef2b3208d02dab1cdd6599652a"), looks := true }, kinds := [], alts := [], laidByText := true, laidKinds := [.data, .data, .data, .data, .sentinel, .sentinel, .data, .pinned, .pinned], laidTests := true, laidLooks := .later }
def TimedUptoCardSaid : Prop := Claim7.holds Tryz.pinned (.plain (OpenSpec.upto timedSpec)) timedUptoCard

/-- THE SECOND FORM's CARD OF 'sluicekeep.Chosen'. -/
def chosenUptoCard : Claim7 := { stood := { row := chosenUptoRow, standIns := [], harness := (true, "8eca75dc64677572f557cbe93c5dbb382856dbef2b3208d02dab1cdd6599652a"), looks := true }, kinds := [], alts := [], laidByText := true, laidKinds := [.data, .data, .data, .data, .sentinel, .sentinel, .data, .pinned, .pinned], laidTests := true, laidLooks := .later }
def ChosenUptoCardSaid : Prop := Claim7.holds Tryz.pinned (.plain (OpenSpec.upto chosenSpec)) chosenUptoCard

/-- THE SECOND FORM's CARD OF 'sluicelaw.All'. -/
def allUptoCard : Claim7 := { stood := { row := allUptoRow, standIns := [], harness := (true, "8eca75dc64677572f557cbe93c5dbb382856dbef2b3208d02dab1cdd6599652a"), looks := true }, kinds := [], alts := [], laidByText := true, laidKinds := [.data, .data, .data, .data, .sentinel, .sentinel, .data, .pinned, .pinned], laidTests := true, laidLooks := .later }
def AllUptoCardSaid : Prop := Claim7.holds Tryz.pinned (.plain (OpenSpec.upto allSpec)) allUptoCard
end Rows
end Go.Proofs.YtidhiaaicmfabaaGreatDoor
