/- On the way: KeFacts. -/
import Derived.Test.YtdhgebdbiehchaaGreatDoorTie
import Derived.Test.YtdhgebdbiehchaaGreatDoorCards
import Derived.Stop.Joined
import Derived.SevenTiedAt
namespace Go.Proofs.YtdhgebdbiehchaaGreatDoor
set_option linter.unusedSimpArgs false
set_option linter.unusedVariables false
theorem kept_inPlace : (Rows.keptRow.inPlace == Tryz.pinned.checked.prog.inPlace 7) = true := by kernel_rfl
theorem kept_unfollowed : (Rows.keptRow.unfollowed == Tryz.pinned.checked.prog.unfollowed 7) = true := by kernel_rfl
theorem kept_recurses : (Rows.keptRow.recurses == Tryz.pinned.checked.prog.recurses 7) = true := by kernel_rfl
theorem kept_named : (Rows.keptRow.named == Tryz.pinned.checked.prog.varsNamed 7) = true := by kernel_rfl
theorem kept_closed : joinedFacts Tryz.pinned.checked.prog 7 Tryz.f7 Rows.keptSpec Rows.keptRow = true := by
 unfold joinedFacts
 rw [kept_inPlace,kept_unfollowed,kept_recurses,kept_named]
 kernel_rfl
end Go.Proofs.YtdhgebdbiehchaaGreatDoor
