/- On the way: LaFacts. -/
import Derived.Test.YtdhgebdbiehchaaGreatDoorTie
import Derived.Test.YtdhgebdbiehchaaGreatDoorCards
import Derived.Stop.Joined
import Derived.SevenTiedAt
namespace Go.Proofs.YtdhgebdbiehchaaGreatDoor
set_option linter.unusedSimpArgs false
set_option linter.unusedVariables false
theorem lasting_inPlace : (Rows.lastingRow.inPlace == Tryz.pinned.checked.prog.inPlace 10) = true := by kernel_rfl
theorem lasting_unfollowed : (Rows.lastingRow.unfollowed == Tryz.pinned.checked.prog.unfollowed 10) = true := by kernel_rfl
theorem lasting_recurses : (Rows.lastingRow.recurses == Tryz.pinned.checked.prog.recurses 10) = true := by kernel_rfl
theorem lasting_named : (Rows.lastingRow.named == Tryz.pinned.checked.prog.varsNamed 10) = true := by kernel_rfl
theorem lasting_closed : joinedFacts Tryz.pinned.checked.prog 10 Tryz.f10 Rows.lastingSpec Rows.lastingRow = true := by
 unfold joinedFacts
 rw [lasting_inPlace,lasting_unfollowed,lasting_recurses,lasting_named]
 kernel_rfl
end Go.Proofs.YtdhgebdbiehchaaGreatDoor
