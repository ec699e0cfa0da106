/- On the way: AlFacts. -/
import Derived.Test.YtdhgebdbiehchaaGreatDoorTie
import Derived.Test.YtdhgebdbiehchaaGreatDoorCards
import Derived.Stop.Joined
import Derived.SevenTiedAt
namespace Go.Proofs.YtdhgebdbiehchaaGreatDoor
set_option linter.unusedSimpArgs false
set_option linter.unusedVariables false
theorem all_inPlace : (Rows.allRow.inPlace == Tryz.pinned.checked.prog.inPlace 11) = true := by kernel_rfl
theorem all_unfollowed : (Rows.allRow.unfollowed == Tryz.pinned.checked.prog.unfollowed 11) = true := by kernel_rfl
theorem all_recurses : (Rows.allRow.recurses == Tryz.pinned.checked.prog.recurses 11) = true := by kernel_rfl
theorem all_named : (Rows.allRow.named == Tryz.pinned.checked.prog.varsNamed 11) = true := by kernel_rfl
theorem all_closed : joinedFacts Tryz.pinned.checked.prog 11 Tryz.f11 Rows.allSpec Rows.allRow = true := by
 unfold joinedFacts
 rw [all_inPlace,all_unfollowed,all_recurses,all_named]
 kernel_rfl
end Go.Proofs.YtdhgebdbiehchaaGreatDoor
