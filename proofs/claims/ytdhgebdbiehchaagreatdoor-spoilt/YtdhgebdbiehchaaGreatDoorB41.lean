/- On the way: LawReads. -/
import Derived.Test.YtdhgebdbiehchaaGreatDoorB08
import Derived.Test.YtdhgebdbiehchaaGreatDoorB30
import Derived.Test.YtdhgebdbiehchaaGreatDoorB40
import Derived.Test.YtdhgebdbiehchaaGreatDoorB16
import Derived.Test.YtdhgebdbiehchaaGreatDoorB10
namespace Go.Proofs.YtdhgebdbiehchaaGreatDoor
open Go.RowKit
set_option linter.unusedSimpArgs false
set_option linter.unusedVariables false

end Go.Proofs.YtdhgebdbiehchaaGreatDoor
