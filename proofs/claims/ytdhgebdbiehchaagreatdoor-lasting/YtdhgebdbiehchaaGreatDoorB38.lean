/- On the way: LawReads. -/
import Derived.Test.YtdhgebdbiehchaaGreatDoorB08
import Derived.Test.YtdhgebdbiehchaaGreatDoorB28
import Derived.Test.YtdhgebdbiehchaaGreatDoorB37
import Derived.Test.YtdhgebdbiehchaaGreatDoorB15
import Derived.Test.YtdhgebdbiehchaaGreatDoorB10
namespace Go.Proofs.YtdhgebdbiehchaaGreatDoor
open Go.RowKit
set_option linter.unusedSimpArgs false
set_option linter.unusedVariables false
theorem indexS_short {log l : List UInt8} (h : indexS log = some l) : l.length <= 60000 := by
 unfold indexS at h
 split at h
 ·cases h
 split at h
 ·cases h
 split at h
 ·cases h
 split at h
 ·cases h
 rename_i h4
 have h := Option.some.inj h
 subst h
 unfold indexB
 have := sizeL_bound (n := (liveL (readL log (hdBlk log) 14).1).length) (by omega)
 rw [List.length_append,sealL_length,sealL_length,frontB_length,tabB_length,show (tableOf (hdSeed log) (hdBits log) (liveL (readL log (hdBlk log) 14).1)).length = sizeL (liveL (readL log (hdBlk log) 14).1).length from fillL_length _ _]
 omega
end Go.Proofs.YtdhgebdbiehchaaGreatDoor
