/- On the way: LawReads. -/
import Derived.Test.YtdhgebdbiehchaaGreatDoorB08
import Derived.Test.YtdhgebdbiehchaaGreatDoorB30
import Derived.Test.YtdhgebdbiehchaaGreatDoorB39
import Derived.Test.YtdhgebdbiehchaaGreatDoorB16
import Derived.Test.YtdhgebdbiehchaaGreatDoorB12
namespace Go.Proofs.YtdhgebdbiehchaaGreatDoor
open Go.RowKit
set_option linter.unusedSimpArgs false
set_option linter.unusedVariables false
theorem refLook_any (log ix key : ByteArray) (w : World) (hlog : log.size ≤ 140737488351232) (hix : ix.size ≤ 140737488351232) (hkey : key.size ≤ 140737488351232) :
  Calls Tryz.prog 116 #[.string log, .string ix, .string key] w fun e w' => e = .returned (ansV (lookS log.data.toList ix.data.toList key.data.toList)) ∧ Below w.heap.size w w' := by
 by_cases he : beginsE log.data.toList ix.data.toList = 0
 ·exact refLook_ok log ix key w hlog hix hkey he
 ·exact refLook_err log ix key w hlog hix he
theorem indexS_short {log l : List UInt8} (h : indexS log = some l) : l.length ≤ 60000 := by
 unfold indexS at h
 split at h
 ·cases h
 split at h
 ·cases h
 split at h
 ·cases h
 split at h
 ·cases h
 rename_i h4
 have h := Option.some.inj h
 subst h
 unfold indexB
 have := sizeL_bound (n := (liveL (readL log (hdBlk log) 14).1).length) (by omega)
 rw [List.length_append, sealL_length, sealL_length, frontB_length, tabB_length, show (tableOf (hdSeed log) (hdBits log) (liveL (readL log (hdBlk log) 14).1)).length = sizeL (liveL (readL log (hdBlk log) 14).1).length from fillL_length _ _]
 omega
end Go.Proofs.YtdhgebdbiehchaaGreatDoor
