/-
  DERIVED. GIVEN WITH THE SEED: THE CARDS: each row of YtpoobpilgijafaaGreatDoorRows.lean that lists a variable, with what it lists TIED to the program's text (the seventh form; the later family's looks); each row that meets fmt, with fmt's text TOLD by the authors' own Lean function (tested against real Go, not proved from fmt's source: count such statements apart). THE CARD IS WHAT COUNTS. Prove the row's statement (the work); the ties are given (YtpoobpilgijafaaGreatDoorTie.lean); close each card by the builder's one call (the guide's Derived/Test/ToyasCard.lean, 'card_holds'). Laid BY PROGRAM, IN A SANDBOX (cutbox-door.mjs). By AI agents, Wed Nov 11 2026. No macro, syntax, notation, axiom, sorry.
-/
import Derived.Test.YtpoobpilgijafaaGreatDoorRows
import GoSem.ClaimSeven
namespace Go.Proofs.YtpoobpilgijafaaGreatDoor
namespace Rows

/-- THE TIED CARD OF 'ledgelaw.Numbers'. -/
def numbersCard : Claim7 := { stood := { row := numbersRow, standIns := [], harness := (true, "5cd47b5ef27e3f07357a74539f25574538e1145b82c919fac958ece3a41f7cfb"), looks := false }, kinds := [], alts := [], laidByText := true, laidKinds := [.data], laidTests := true, laidLooks := .later }
def NumbersCardSaid : Prop := Claim7.holds Tryz.pinned (.plain (OpenSpec.ofChange numbersSpec)) numbersCard

/-- THE TIED CARD OF 'ledgelaw.Indexes'. -/
def indexesCard : Claim7 := { stood := { row := indexesRow, standIns := [], harness := (true, "5cd47b5ef27e3f07357a74539f25574538e1145b82c919fac958ece3a41f7cfb"), looks := false }, kinds := [], alts := [], laidByText := true, laidKinds := [.data], laidTests := true, laidLooks := .later }
def IndexesCardSaid : Prop := Claim7.holds Tryz.pinned (.plain (OpenSpec.ofChange indexesSpec)) indexesCard

/-- THE SECOND FORM's CARD OF 'ledgelaw.Numbers'. -/
def numbersUptoCard : Claim7 := { stood := { row := numbersUptoRow, standIns := [], harness := (true, "5cd47b5ef27e3f07357a74539f25574538e1145b82c919fac958ece3a41f7cfb"), looks := false }, kinds := [], alts := [], laidByText := true, laidKinds := [.data], laidTests := true, laidLooks := .later }
def NumbersUptoCardSaid : Prop := Claim7.holds Tryz.pinned (.plain (OpenSpec.upto numbersSpec)) numbersUptoCard

/-- THE SECOND FORM's CARD OF 'ledgelaw.Indexes'. -/
def indexesUptoCard : Claim7 := { stood := { row := indexesUptoRow, standIns := [], harness := (true, "5cd47b5ef27e3f07357a74539f25574538e1145b82c919fac958ece3a41f7cfb"), looks := false }, kinds := [], alts := [], laidByText := true, laidKinds := [.data], laidTests := true, laidLooks := .later }
def IndexesUptoCardSaid : Prop := Claim7.holds Tryz.pinned (.plain (OpenSpec.upto indexesSpec)) indexesUptoCard
end Rows
end Go.Proofs.YtpoobpilgijafaaGreatDoor
