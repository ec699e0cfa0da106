/- On the way: SpFacts. -/
import Derived.Test.YtdhgebdbiehchaaGreatDoorTie
import Derived.Test.YtdhgebdbiehchaaGreatDoorCards
import Derived.Stop.Joined
import Derived.SevenTiedAt
namespace Go.Proofs.YtdhgebdbiehchaaGreatDoor
set_option linter.unusedSimpArgs false
set_option linter.unusedVariables false
theorem spoilt_inPlace : (Rows.spoiltRow.inPlace == Tryz.pinned.checked.prog.inPlace 8) = true := by kernel_rfl
theorem spoilt_unfollowed : (Rows.spoiltRow.unfollowed == Tryz.pinned.checked.prog.unfollowed 8) = true := by kernel_rfl
theorem spoilt_recurses : (Rows.spoiltRow.recurses == Tryz.pinned.checked.prog.recurses 8) = true := by kernel_rfl
theorem spoilt_named : (Rows.spoiltRow.named == Tryz.pinned.checked.prog.varsNamed 8) = true := by kernel_rfl
theorem spoilt_closed : joinedFacts Tryz.pinned.checked.prog 8 Tryz.f8 Rows.spoiltSpec Rows.spoiltRow = true := by
 unfold joinedFacts
 rw [spoilt_inPlace,spoilt_unfollowed,spoilt_recurses,spoilt_named]
 kernel_rfl
end Go.Proofs.YtdhgebdbiehchaaGreatDoor
