/- Fails returns true for every script (every Disk, Create, Put, Delete, Flush, File, Build, Get, All, Fail, Start and Mend, whenever power fails, in every order, on several disks, is answered as the document answers it; in the end all files are the document's to the byte, and the lists that came out read as their owner wrote them), and leaves the script as it was: the row, and the card that ties the variables that the row lists to the program's text. No condition. -/
import Derived.Test.YtdhgebdbiehchaaGreatDoorB53
import Derived.Test.YtdhgebdbiehchaaGreatDoorTie
import Derived.Test.YtdhgebdbiehchaaGreatDoorCards
import Derived.LaidMore
import Derived.OpenShut
import Derived.Stop.Joined
import Derived.SevenTiedAt
namespace Go.Proofs.YtdhgebdbiehchaaGreatDoor
open Go.ChangeShapes Go.WideShapes Go.ChangeAt Go.WideMaps Go.WideElems Go.RowKit Go.Deep
set_option linter.unusedSimpArgs false
set_option linter.unusedVariables false
theorem fails_card : Rows.FailsCardSaid :=
 Claim7.holds_tied_plain_at .later [] [.data,.handle,.sentinel,.sentinel,.sentinel,.sentinel,.sentinel] true Rows.failsCard.stood.harness Rows.failsCard.stood.looks
  fails_row (fun _ h => by cases h) (by kernel_rfl) (fun _ h => by cases h) fails_row_tie rfl ⟨rfl,rfl⟩ (by kernel_rfl) rfl
  (fun f fn hf hfn => by
   obtain rfl : f = 9 := Option.some.inj ((show Tryz.prog.funcNamed "ledge/ledgelaw.Fails" = some 9 by kernel_rfl).symm.trans hf) |>.symm
   obtain rfl : fn = Tryz.f9 := (Option.some.inj (Tryz.func9.symm.trans hfn)).symm
   exact ⟨by kernel_rfl,fun j t ht => by
    rw [Tryz.params9] at ht
    have hm : t ∈ [22] := by simpa using Array.mem_of_getElem? ht
    have hall : ([22].all fun u => !Tryz.prog.wantsStandIn u) = true := by kernel_rfl
    exact (show Tryz.prog.wantsStandIn t = false by simpa using List.all_eq_true.1 hall t hm)⟩)
  (by kernel_rfl)
#print axioms fails_card
end Go.Proofs.YtdhgebdbiehchaaGreatDoor
