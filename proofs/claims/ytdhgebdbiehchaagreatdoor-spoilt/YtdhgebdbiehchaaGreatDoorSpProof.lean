/- Spoilt returns true for all numbers (whatever was put and deleted, whatever the block, the seed and the bits: if up to 32 bits in a row are turned in a log's head, or in a block behind its first three bytes, Index says that the log is out of form, and of the log as it was it makes an index), and leaves its arguments as they were: the row, and the card that ties the variables that the row lists to the program's text. No condition. -/
import Derived.Test.YtdhgebdbiehchaaGreatDoorB51
import Derived.Test.YtdhgebdbiehchaaGreatDoorTie
import Derived.Test.YtdhgebdbiehchaaGreatDoorCards
import Derived.LaidMore
import Derived.OpenShut
import Derived.Stop.Joined
import Derived.SevenTiedAt
namespace Go.Proofs.YtdhgebdbiehchaaGreatDoor
open Go.ChangeShapes Go.WideShapes Go.ChangeAt Go.WideMaps Go.WideElems Go.RowKit Go.Deep
set_option linter.unusedSimpArgs false
set_option linter.unusedVariables false
theorem spoilt_card : Rows.SpoiltCardSaid :=
 Claim7.holds_tied_plain_at .later [] [.data,.handle,.sentinel,.sentinel,.sentinel,.sentinel,.sentinel] true Rows.spoiltCard.stood.harness Rows.spoiltCard.stood.looks
  spoilt_row (fun _ h => by cases h) (by kernel_rfl) (fun _ h => by cases h) spoilt_row_tie rfl ⟨rfl,rfl⟩ (by kernel_rfl) rfl
  (fun f fn hf hfn => by
   obtain rfl : f = 8 := Option.some.inj ((show Tryz.prog.funcNamed "ledge/ledgekeep.Spoilt" = some 8 by kernel_rfl).symm.trans hf) |>.symm
   obtain rfl : fn = Tryz.f8 := (Option.some.inj (Tryz.func8.symm.trans hfn)).symm
   exact ⟨by kernel_rfl,fun j t ht => by
    rw [Tryz.params8] at ht
    have hm : t ∈ [25,3] := by simpa using Array.mem_of_getElem? ht
    have hall : ([25,3].all fun u => !Tryz.prog.wantsStandIn u) = true := by kernel_rfl
    exact (show Tryz.prog.wantsStandIn t = false by simpa using List.all_eq_true.1 hall t hm)⟩)
  (by kernel_rfl)
#print axioms spoilt_card
end Go.Proofs.YtdhgebdbiehchaaGreatDoor
