/- On the way: RecClone. -/
import Derived.Test.YtdhgebdbiehchaaGreatDoorB02
import Derived.Shelf.Strconv.Clone
import Derived.Ground.NamesProg
namespace Go.Proofs.YtdhgebdbiehchaaGreatDoor
open Go.RowKit
open Go.Shelf
set_option linter.unusedSimpArgs false
set_option linter.unusedVariables false

end Go.Proofs.YtdhgebdbiehchaaGreatDoor
