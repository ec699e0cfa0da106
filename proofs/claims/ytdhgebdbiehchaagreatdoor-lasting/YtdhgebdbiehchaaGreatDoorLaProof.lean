/- Lasting returns true for all numbers and all acts (whenever power fails: behind a start and a mend the log says what the entries came to up to some entry, at least those that were there at the last Flush that answered OK, and Get tells nothing else; while power holds no call fails, and when it has failed each call says so), and leaves its arguments as they were: the row, and the card that ties the variables that the row lists to the program's text. No condition. -/
import Derived.Test.YtdhgebdbiehchaaGreatDoorB53
import Derived.Test.YtdhgebdbiehchaaGreatDoorTie
import Derived.Test.YtdhgebdbiehchaaGreatDoorCards
import Derived.LaidMore
import Derived.OpenShut
import Derived.Stop.Joined
import Derived.SevenTiedAt
namespace Go.Proofs.YtdhgebdbiehchaaGreatDoor
open Go.ChangeShapes Go.WideShapes Go.ChangeAt Go.WideMaps Go.WideElems Go.RowKit Go.Deep
set_option linter.unusedSimpArgs false
set_option linter.unusedVariables false
theorem lasting_card : Rows.LastingCardSaid :=
 Claim7.holds_tied_plain_at .later [] [.data,.handle,.sentinel,.sentinel,.sentinel,.sentinel,.sentinel] true Rows.lastingCard.stood.harness Rows.lastingCard.stood.looks
  lasting_row (fun _ h => by cases h) (by kernel_rfl) (fun _ h => by cases h) lasting_row_tie rfl ⟨rfl,rfl⟩ (by kernel_rfl) rfl
  (fun f fn hf hfn => by
   obtain rfl : f = 10 := Option.some.inj ((show Tryz.prog.funcNamed "ledge/ledgekeep.Lasting" = some 10 by kernel_rfl).symm.trans hf) |>.symm
   obtain rfl : fn = Tryz.f10 := (Option.some.inj (Tryz.func10.symm.trans hfn)).symm
   exact ⟨by kernel_rfl,fun j t ht => by
    rw [Tryz.params10] at ht
    have hm : t ∈ [25,45] := by simpa using Array.mem_of_getElem? ht
    have hall : ([25,45].all fun u => !Tryz.prog.wantsStandIn u) = true := by kernel_rfl
    exact (show Tryz.prog.wantsStandIn t = false by simpa using List.all_eq_true.1 hall t hm)⟩)
  (by kernel_rfl)
#print axioms lasting_card
end Go.Proofs.YtdhgebdbiehchaaGreatDoor
