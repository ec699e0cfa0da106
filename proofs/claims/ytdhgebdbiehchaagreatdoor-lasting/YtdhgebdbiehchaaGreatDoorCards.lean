/-
  DERIVED. GIVEN WITH THE SEED: THE CARDS: each row of YtdhgebdbiehchaaGreatDoorRows.lean that lists a variable, with what it lists TIED to the program's text (the seventh form; the later family's looks); each row that meets fmt, with fmt's text TOLD by the authors' own Lean function (tested against real Go, not proved from fmt's source: count such statements apart). THE CARD IS WHAT COUNTS. Prove the row's statement (the work); the ties are given (YtdhgebdbiehchaaGreatDoorTie.lean); close each card by the builder's one call (the guide's Derived/Test/ToyasCard.lean, 'card_holds'). Laid BY PROGRAM, IN A SANDBOX (cutbox-door.mjs). By AI agents, Wed Nov 11 2026. No macro, syntax, notation, axiom, sorry.
-/
import Derived.Test.YtdhgebdbiehchaaGreatDoorRows
import GoSem.ClaimSeven
namespace Go.Proofs.YtdhgebdbiehchaaGreatDoor
namespace Rows

/-- THE TIED CARD OF 'ledgelaw.Numbers'. -/
def numbersCard : Claim7 := { stood := { row := numbersRow, standIns := [], harness := (true, "f9ec3ddb5d598e0f96b14d9e084900778f151499dfb27350ad4148f5df87ea30"), looks := true }, kinds := [], alts := [], laidByText := true, laidKinds := [.data, .handle, .sentinel, .sentinel, .sentinel, .sentinel, .sentinel], laidTests := true, laidLooks := .later }
def NumbersCardSaid : Prop := Claim7.holds Tryz.pinned (.plain (OpenSpec.ofChange numbersSpec)) numbersCard

/-- THE TIED CARD OF 'ledgelaw.Indexes'. -/
def indexesCard : Claim7 := { stood := { row := indexesRow, standIns := [], harness := (true, "f9ec3ddb5d598e0f96b14d9e084900778f151499dfb27350ad4148f5df87ea30"), looks := true }, kinds := [], alts := [], laidByText := true, laidKinds := [.data, .handle, .sentinel, .sentinel, .sentinel, .sentinel, .sentinel], laidTests := true, laidLooks := .later }
def IndexesCardSaid : Prop := Claim7.holds Tryz.pinned (.plain (OpenSpec.ofChange indexesSpec)) indexesCard

/-- THE TIED CARD OF 'ledgelaw.Writes'. -/
def writesCard : Claim7 := { stood := { row := writesRow, standIns := [], harness := (true, "f9ec3ddb5d598e0f96b14d9e084900778f151499dfb27350ad4148f5df87ea30"), looks := true }, kinds := [], alts := [], laidByText := true, laidKinds := [.data, .handle, .sentinel, .sentinel, .sentinel, .sentinel, .sentinel], laidTests := true, laidLooks := .later }
def WritesCardSaid : Prop := Claim7.holds Tryz.pinned (.plain (OpenSpec.ofChange writesSpec)) writesCard

/-- THE TIED CARD OF 'ledgelaw.Builds'. -/
def buildsCard : Claim7 := { stood := { row := buildsRow, standIns := [], harness := (true, "f9ec3ddb5d598e0f96b14d9e084900778f151499dfb27350ad4148f5df87ea30"), looks := true }, kinds := [], alts := [], laidByText := true, laidKinds := [.data, .handle, .sentinel, .sentinel, .sentinel, .sentinel, .sentinel], laidTests := true, laidLooks := .later }
def BuildsCardSaid : Prop := Claim7.holds Tryz.pinned (.plain (OpenSpec.ofChange buildsSpec)) buildsCard

/-- THE TIED CARD OF 'ledgekeep.Kept'. -/
def keptCard : Claim7 := { stood := { row := keptRow, standIns := [], harness := (true, "f9ec3ddb5d598e0f96b14d9e084900778f151499dfb27350ad4148f5df87ea30"), looks := true }, kinds := [], alts := [], laidByText := true, laidKinds := [.data, .handle, .sentinel, .sentinel, .sentinel, .sentinel, .sentinel], laidTests := true, laidLooks := .later }
def KeptCardSaid : Prop := Claim7.holds Tryz.pinned (.plain (OpenSpec.ofChange keptSpec)) keptCard

/-- THE TIED CARD OF 'ledgekeep.Spoilt'. -/
def spoiltCard : Claim7 := { stood := { row := spoiltRow, standIns := [], harness := (true, "f9ec3ddb5d598e0f96b14d9e084900778f151499dfb27350ad4148f5df87ea30"), looks := true }, kinds := [], alts := [], laidByText := true, laidKinds := [.data, .handle, .sentinel, .sentinel, .sentinel, .sentinel, .sentinel], laidTests := true, laidLooks := .later }
def SpoiltCardSaid : Prop := Claim7.holds Tryz.pinned (.plain (OpenSpec.ofChange spoiltSpec)) spoiltCard

/-- THE TIED CARD OF 'ledgelaw.Fails'. -/
def failsCard : Claim7 := { stood := { row := failsRow, standIns := [], harness := (true, "f9ec3ddb5d598e0f96b14d9e084900778f151499dfb27350ad4148f5df87ea30"), looks := true }, kinds := [], alts := [], laidByText := true, laidKinds := [.data, .handle, .sentinel, .sentinel, .sentinel, .sentinel, .sentinel], laidTests := true, laidLooks := .later }
def FailsCardSaid : Prop := Claim7.holds Tryz.pinned (.plain (OpenSpec.ofChange failsSpec)) failsCard

/-- THE TIED CARD OF 'ledgekeep.Lasting'. -/
def lastingCard : Claim7 := { stood := { row := lastingRow, standIns := [], harness := (true, "f9ec3ddb5d598e0f96b14d9e084900778f151499dfb27350ad4148f5df87ea30"), looks := true }, kinds := [], alts := [], laidByText := true, laidKinds := [.data, .handle, .sentinel, .sentinel, .sentinel, .sentinel, .sentinel], laidTests := true, laidLooks := .later }
def LastingCardSaid : Prop := Claim7.holds Tryz.pinned (.plain (OpenSpec.ofChange lastingSpec)) lastingCard

/-- THE TIED CARD OF 'ledgelaw.All'. -/
def allCard : Claim7 := { stood := { row := allRow, standIns := [], harness := (true, "f9ec3ddb5d598e0f96b14d9e084900778f151499dfb27350ad4148f5df87ea30"), looks := true }, kinds := [], alts := [], laidByText := true, laidKinds := [.data, .handle, .sentinel, .sentinel, .sentinel, .sentinel, .sentinel], laidTests := true, laidLooks := .later }
def AllCardSaid : Prop := Claim7.holds Tryz.pinned (.plain (OpenSpec.ofChange allSpec)) allCard

/-- THE SECOND FORM's CARD OF 'ledgelaw.Numbers'. -/
def numbersUptoCard : Claim7 := { stood := { row := numbersUptoRow, standIns := [], harness := (true, "f9ec3ddb5d598e0f96b14d9e084900778f151499dfb27350ad4148f5df87ea30"), looks := true }, kinds := [], alts := [], laidByText := true, laidKinds := [.data, .handle, .sentinel, .sentinel, .sentinel, .sentinel, .sentinel], laidTests := true, laidLooks := .later }
def NumbersUptoCardSaid : Prop := Claim7.holds Tryz.pinned (.plain (OpenSpec.upto numbersSpec)) numbersUptoCard

/-- THE SECOND FORM's CARD OF 'ledgelaw.Indexes'. -/
def indexesUptoCard : Claim7 := { stood := { row := indexesUptoRow, standIns := [], harness := (true, "f9ec3ddb5d598e0f96b14d9e084900778f151499dfb27350ad4148f5df87ea30"), looks := true }, kinds := [], alts := [], laidByText := true, laidKinds := [.data, .handle, .sentinel, .sentinel, .sentinel, .sentinel, .sentinel], laidTests := true, laidLooks := .later }
def IndexesUptoCardSaid : Prop := Claim7.holds Tryz.pinned (.plain (OpenSpec.upto indexesSpec)) indexesUptoCard

/-- THE SECOND FORM's CARD OF 'ledgelaw.Writes'. -/
def writesUptoCard : Claim7 := { stood := { row := writesUptoRow, standIns := [], harness := (true, "f9ec3ddb5d598e0f96b14d9e084900778f151499dfb27350ad4148f5df87ea30"), looks := true }, kinds := [], alts := [], laidByText := true, laidKinds := [.data, .handle, .sentinel, .sentinel, .sentinel, .sentinel, .sentinel], laidTests := true, laidLooks := .later }
def WritesUptoCardSaid : Prop := Claim7.holds Tryz.pinned (.plain (OpenSpec.upto writesSpec)) writesUptoCard

/-- THE SECOND FORM's CARD OF 'ledgelaw.Builds'. -/
def buildsUptoCard : Claim7 := { stood := { row := buildsUptoRow, standIns := [], harness := (true, "f9ec3ddb5d598e0f96b14d9e084900778f151499dfb27350ad4148f5df87ea30"), looks := true }, kinds := [], alts := [], laidByText := true, laidKinds := [.data, .handle, .sentinel, .sentinel, .sentinel, .sentinel, .sentinel], laidTests := true, laidLooks := .later }
def BuildsUptoCardSaid : Prop := Claim7.holds Tryz.pinned (.plain (OpenSpec.upto buildsSpec)) buildsUptoCard

/-- THE SECOND FORM's CARD OF 'ledgekeep.Kept'. -/
def keptUptoCard : Claim7 := { stood := { row := keptUptoRow, standIns := [], harness := (true, "f9ec3ddb5d598e0f96b14d9e084900778f151499dfb27350ad4148f5df87ea30"), looks := true }, kinds := [], alts := [], laidByText := true, laidKinds := [.data, .handle, .sentinel, .sentinel, .sentinel, .sentinel, .sentinel], laidTests := true, laidLooks := .later }
def KeptUptoCardSaid : Prop := Claim7.holds Tryz.pinned (.plain (OpenSpec.upto keptSpec)) keptUptoCard

/-- THE SECOND FORM's CARD OF 'ledgekeep.Spoilt'. -/
def spoiltUptoCard : Claim7 := { stood := { row := spoiltUptoRow, standIns := [], harness := (true, "f9ec3ddb5d598e0f96b14d9e084900778f151499dfb27350ad4148f5df87ea30"), looks := true }, kinds := [], alts := [], laidByText := true, laidKinds := [.data, .handle, .sentinel, .sentinel, .sentinel, .sentinel, .sentinel], laidTests := true, laidLooks := .later }
def SpoiltUptoCardSaid : Prop := Claim7.holds Tryz.pinned (.plain (OpenSpec.upto spoiltSpec)) spoiltUptoCard

/-- THE SECOND FORM's CARD OF 'ledgelaw.Fails'. -/
def failsUptoCard : Claim7 := { stood := { row := failsUptoRow, standIns := [], harness := (true, "f9ec3ddb5d598e0f96b14d9e084900778f151499dfb27350ad4148f5df87ea30"), looks := true }, kinds := [], alts := [], laidByText := true, laidKinds := [.data, .handle, .sentinel, .sentinel, .sentinel, .sentinel, .sentinel], laidTests := true, laidLooks := .later }
def FailsUptoCardSaid : Prop := Claim7.holds Tryz.pinned (.plain (OpenSpec.upto failsSpec)) failsUptoCard

/-- THE SECOND FORM's CARD OF 'ledgekeep.Lasting'. -/
def lastingUptoCard : Claim7 := { stood := { row := lastingUptoRow, standIns := [], harness := (true, "f9ec3ddb5d598e0f96b14d9e084900778f151499dfb27350ad4148f5df87ea30"), looks := true }, kinds := [], alts := [], laidByText := true, laidKinds := [.data, .handle, .sentinel, .sentinel, .sentinel, .sentinel, .sentinel], laidTests := true, laidLooks := .later }
def LastingUptoCardSaid : Prop := Claim7.holds Tryz.pinned (.plain (OpenSpec.upto lastingSpec)) lastingUptoCard

/-- THE SECOND FORM's CARD OF 'ledgelaw.All'. -/
def allUptoCard : Claim7 := { stood := { row := allUptoRow, standIns := [], harness := (true, "f9ec3ddb5d598e0f96b14d9e084900778f151499dfb27350ad4148f5df87ea30"), looks := true }, kinds := [], alts := [], laidByText := true, laidKinds := [.data, .handle, .sentinel, .sentinel, .sentinel, .sentinel, .sentinel], laidTests := true, laidLooks := .later }
def AllUptoCardSaid : Prop := Claim7.holds Tryz.pinned (.plain (OpenSpec.upto allSpec)) allUptoCard
end Rows
end Go.Proofs.YtdhgebdbiehchaaGreatDoor
