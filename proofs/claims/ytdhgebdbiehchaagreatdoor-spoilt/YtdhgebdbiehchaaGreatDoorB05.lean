/- On the way: Blk. -/
import Derived.Test.YtdhgebdbiehchaaGreatDoorB04
import Derived.Deep.RegionWith
import Derived.Deep.RegionHeld3
import Derived.Deep.QuietTactic
import Derived.BigQuiet
namespace Go.Proofs.YtdhgebdbiehchaaGreatDoor
open Go.RowKit
set_option linter.unusedSimpArgs false
set_option linter.unusedVariables false
def sealL (l : List UInt8) : List UInt8 := l ++ lowL (crcN l) 4
theorem sealL_length (l : List UInt8) : (sealL l).length = l.length + 4 := by simp [sealL,lowL_length]
end Go.Proofs.YtdhgebdbiehchaaGreatDoor
