/- On the way: PBuild. -/
import Derived.Test.YtdhgebdbiehchaaGreatDoorB42
import Derived.Test.YtdhgebdbiehchaaGreatDoorB38
import Derived.Test.YtdhgebdbiehchaaGreatDoorB41
import Derived.Lib.ConvBytes
namespace Go.Proofs.YtdhgebdbiehchaaGreatDoor
open Go.RowKit Go.Maps
set_option linter.unusedSimpArgs false
set_option linter.unusedVariables false

end Go.Proofs.YtdhgebdbiehchaaGreatDoor
