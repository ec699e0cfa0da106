/- On the way: FaFacts. -/
import Derived.Test.YtdhgebdbiehchaaGreatDoorTie
import Derived.Test.YtdhgebdbiehchaaGreatDoorCards
import Derived.Stop.Joined
import Derived.SevenTiedAt
namespace Go.Proofs.YtdhgebdbiehchaaGreatDoor
set_option linter.unusedSimpArgs false
set_option linter.unusedVariables false
theorem fails_inPlace : (Rows.failsRow.inPlace == Tryz.pinned.checked.prog.inPlace 9) = true := by kernel_rfl
theorem fails_unfollowed : (Rows.failsRow.unfollowed == Tryz.pinned.checked.prog.unfollowed 9) = true := by kernel_rfl
theorem fails_recurses : (Rows.failsRow.recurses == Tryz.pinned.checked.prog.recurses 9) = true := by kernel_rfl
theorem fails_named : (Rows.failsRow.named == Tryz.pinned.checked.prog.varsNamed 9) = true := by kernel_rfl
theorem fails_closed : joinedFacts Tryz.pinned.checked.prog 9 Tryz.f9 Rows.failsSpec Rows.failsRow = true := by
 unfold joinedFacts
 rw [fails_inPlace,fails_unfollowed,fails_recurses,fails_named]
 kernel_rfl
end Go.Proofs.YtdhgebdbiehchaaGreatDoor
