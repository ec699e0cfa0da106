/-
  NARROWER THAN 'FOR EVERY INPUT', by the rows' own cells (each row's printed sentence says how): Numbers: laid · Indexes: laid · Writes: laid · Builds: laid · Kept: laid · Spoilt: laid · Fails: laid · Lasting: laid · All: laid.
  DERIVED. THE GIVEN ROWS OF THIS SEAT. 9 by the template 'for every input the law returns true; each argument reads behind the call as it read before'; 0 by the template 'total and deterministic' (their statements: YtdhgebdbiehchaaGreatDoorTotals.lean).
  GIVEN WITH THE SEED: the statements are not yours to turn. If you find one false, say at which input.
  Laid BY PROGRAM, IN A SANDBOX (cutbox-rows.mjs): the forced cells as the released guide's own fill.sh prints them over the translation 9e6fdda4019ac010… (all of the seat's roots in one cut). By AI agents, Wed Nov 11 2026. No macro, syntax, notation, axiom, sorry.
-/
import Derived.Test.YtdhgebdbiehchaaGreatDoorChecked
import GoSem.Claim
import GoSem.ClaimJoined
import GoSem.ClaimMapViews
import Derived.JoinedTies
import Derived.KernelRfl
namespace Go.Proofs.YtdhgebdbiehchaaGreatDoor
/- THE CELL 'sum', in the pinned program and in every row, IS THE sha256 OF THE DUMP (.gsa) THAT YtdhgebdbiehchaaGreatDoorProg.lean LOADS. Nothing in Lean hashes anything: it is a label: what it is worth is what the hold of that sum in a sandbox is worth. -/
noncomputable def Tryz.pinned : Pinned := { name := "ytdhgebdbiehchaagreatdoor", sum := "9e6fdda4019ac01059a7cf81011da80b21722c1429583af5b2f115a94967fa5a", checked := Tryz.checked }
namespace Rows
def none {H : Type} : Left H := { results := [], args := [] }

/- WHAT THE LISTED PACKAGE-LEVEL VARIABLES READ AS WHEN THE CALL BEGINS. Each datum BY PROGRAM (the guide's laid-datum.mjs) off the statement by which the dump's own 'gosem.cut.vars' lays the variable. In a bare row this is a premise. The card (YtdhgebdbiehchaaGreatDoorCards.lean) ties it to the program's text. -/
def laid_ledge_sums_halves {H : Type} : DataW H := .agg [.lit (.int .u32 0), .lit (.int .u32 498536548), .lit (.int .u32 997073096), .lit (.int .u32 651767980), .lit (.int .u32 1994146192), .lit (.int .u32 1802195444), .lit (.int .u32 1303535960), .lit (.int .u32 1342533948), .lit (.int .u32 3988292384), .lit (.int .u32 4027552580), .lit (.int .u32 3604390888), .lit (.int .u32 3412177804), .lit (.int .u32 2607071920), .lit (.int .u32 2262029012), .lit (.int .u32 2685067896), .lit (.int .u32 3183342108)]
def laid_errors_errorType {H : Type} : DataW H := .iface "internal/reflectlite.rtype" (.agg [.ptr (.lit (.string [101, 114, 114, 111, 114]))])
def laid_ledge_disk_ErrRoom {H : Type} : DataW H := .iface "*errors.errorString" (.ptr (.agg [.lit (.string [116, 104, 101, 114, 101, 32, 105, 115, 32, 110, 111, 32, 114, 111, 111, 109])]))
def laid_ledge_disk_ErrNoFile {H : Type} : DataW H := .iface "*errors.errorString" (.ptr (.agg [.lit (.string [116, 104, 101, 114, 101, 32, 105, 115, 32, 110, 111, 32, 115, 117, 99, 104, 32, 102, 105, 108, 101])]))
def laid_ledge_disk_ErrDown {H : Type} : DataW H := .iface "*errors.errorString" (.ptr (.agg [.lit (.string [116, 104, 101, 32, 100, 105, 115, 107, 32, 105, 115, 32, 100, 111, 119, 110])]))
def laid_ledge_disk_ErrUp {H : Type} : DataW H := .iface "*errors.errorString" (.ptr (.agg [.lit (.string [116, 104, 101, 32, 100, 105, 115, 107, 32, 105, 115, 32, 117, 112])]))
def laid_ledge_disk_ErrPower {H : Type} : DataW H := .iface "*errors.errorString" (.ptr (.agg [.lit (.string [112, 111, 119, 101, 114, 32, 104, 97, 115, 32, 102, 97, 105, 108, 101, 100])]))

/-- 'ledgelaw.Numbers': WHATEVER THE INPUT: true; the input reads as it did. -/
def numbersSpec : ChangeSpec := { name := "numbers", fn := fun _ => fun
  | [d] => { results := [.lit (.bool true)], args := [d] }
  | _ => none }
def numbersRow : OpenClaim := { program := "ytdhgebdbiehchaagreatdoor", sum := "9e6fdda4019ac01059a7cf81011da80b21722c1429583af5b2f115a94967fa5a", func := "ledge/ledgelaw.Numbers", spec := "numbers", inPlace := ["internal/reflectlite.ValueOf", "(internal/reflectlite.Value).Type", "(internal/reflectlite.Value).IsNil", "internal/reflectlite.TypeOf", "(internal/reflectlite.Value).Elem", "(internal/reflectlite.Value).Set", "sync/atomic.LoadUint32", "(*internal/sync.Mutex).Lock", "internal/race.Disable", "sync/atomic.CompareAndSwapInt32", "internal/race.Enable", "internal/race.Acquire", "(*internal/sync.Mutex).lockSlow", "internal/sync.runtime_canSpin", "internal/sync.runtime_doSpin", "internal/sync.throw", "internal/sync.runtime_nanotime", "internal/sync.runtime_SemacquireMutex", "sync/atomic.AddInt32", "(*internal/sync.Mutex).Unlock", "internal/race.ReleaseMerge", "(*internal/sync.Mutex).unlockSlow", "internal/sync.fatal", "internal/sync.runtime_Semrelease", "sync/atomic.StoreUint32"], unfollowed := true, recurses := true, named := ["ledge/sums.halves", "ledge/disk.ErrDown", "ledge/disk.ErrRoom", "ledge/disk.ErrPower", "ledge/disk.ErrUp", "errors.errorType", "ledge/disk.ErrNoFile"], plainKeys := false, apart := false, laid := [("ledge/sums.halves", laid_ledge_sums_halves), ("errors.errorType", laid_errors_errorType), ("ledge/disk.ErrRoom", laid_ledge_disk_ErrRoom), ("ledge/disk.ErrNoFile", laid_ledge_disk_ErrNoFile), ("ledge/disk.ErrDown", laid_ledge_disk_ErrDown), ("ledge/disk.ErrUp", laid_ledge_disk_ErrUp), ("ledge/disk.ErrPower", laid_ledge_disk_ErrPower)] }
def NumbersSaid : Prop := numbersRow.holds Tryz.pinned (OpenSpec.ofChange numbersSpec)

/-- ITS FALSE NEIGHBOUR: 'it returns false'. Refute it at one input. -/
def numbersWrong : ChangeSpec := { name := "numbers", fn := fun _ => fun
  | [d] => { results := [.lit (.bool false)], args := [d] }
  | _ => none }
def NumbersWrongFalsely : Prop := numbersRow.holds Tryz.pinned (OpenSpec.ofChange numbersWrong)

/-- 'ledgelaw.Indexes': WHATEVER THE INPUT: true; the input reads as it did. -/
def indexesSpec : ChangeSpec := { name := "indexes", fn := fun _ => fun
  | [d] => { results := [.lit (.bool true)], args := [d] }
  | _ => none }
def indexesRow : OpenClaim := { program := "ytdhgebdbiehchaagreatdoor", sum := "9e6fdda4019ac01059a7cf81011da80b21722c1429583af5b2f115a94967fa5a", func := "ledge/ledgelaw.Indexes", spec := "indexes", inPlace := ["internal/reflectlite.ValueOf", "(internal/reflectlite.Value).Type", "(internal/reflectlite.Value).IsNil", "internal/reflectlite.TypeOf", "(internal/reflectlite.Value).Elem", "(internal/reflectlite.Value).Set", "sync/atomic.LoadUint32", "(*internal/sync.Mutex).Lock", "internal/race.Disable", "sync/atomic.CompareAndSwapInt32", "internal/race.Enable", "internal/race.Acquire", "(*internal/sync.Mutex).lockSlow", "internal/sync.runtime_canSpin", "internal/sync.runtime_doSpin", "internal/sync.throw", "internal/sync.runtime_nanotime", "internal/sync.runtime_SemacquireMutex", "sync/atomic.AddInt32", "(*internal/sync.Mutex).Unlock", "internal/race.ReleaseMerge", "(*internal/sync.Mutex).unlockSlow", "internal/sync.fatal", "internal/sync.runtime_Semrelease", "sync/atomic.StoreUint32"], unfollowed := true, recurses := true, named := ["ledge/sums.halves", "ledge/disk.ErrDown", "ledge/disk.ErrRoom", "ledge/disk.ErrPower", "ledge/disk.ErrUp", "errors.errorType", "ledge/disk.ErrNoFile"], plainKeys := false, apart := false, laid := [("ledge/sums.halves", laid_ledge_sums_halves), ("errors.errorType", laid_errors_errorType), ("ledge/disk.ErrRoom", laid_ledge_disk_ErrRoom), ("ledge/disk.ErrNoFile", laid_ledge_disk_ErrNoFile), ("ledge/disk.ErrDown", laid_ledge_disk_ErrDown), ("ledge/disk.ErrUp", laid_ledge_disk_ErrUp), ("ledge/disk.ErrPower", laid_ledge_disk_ErrPower)] }
def IndexesSaid : Prop := indexesRow.holds Tryz.pinned (OpenSpec.ofChange indexesSpec)

/-- ITS FALSE NEIGHBOUR: 'it returns false'. Refute it at one input. -/
def indexesWrong : ChangeSpec := { name := "indexes", fn := fun _ => fun
  | [d] => { results := [.lit (.bool false)], args := [d] }
  | _ => none }
def IndexesWrongFalsely : Prop := indexesRow.holds Tryz.pinned (OpenSpec.ofChange indexesWrong)

/-- 'ledgelaw.Writes': WHATEVER THE INPUT: true; the input reads as it did. -/
def writesSpec : ChangeSpec := { name := "writes", fn := fun _ => fun
  | [d] => { results := [.lit (.bool true)], args := [d] }
  | _ => none }
def writesRow : OpenClaim := { program := "ytdhgebdbiehchaagreatdoor", sum := "9e6fdda4019ac01059a7cf81011da80b21722c1429583af5b2f115a94967fa5a", func := "ledge/ledgelaw.Writes", spec := "writes", inPlace := ["internal/reflectlite.ValueOf", "(internal/reflectlite.Value).Type", "(internal/reflectlite.Value).IsNil", "internal/reflectlite.TypeOf", "(internal/reflectlite.Value).Elem", "(internal/reflectlite.Value).Set", "sync/atomic.LoadUint32", "(*internal/sync.Mutex).Lock", "internal/race.Disable", "sync/atomic.CompareAndSwapInt32", "internal/race.Enable", "internal/race.Acquire", "(*internal/sync.Mutex).lockSlow", "internal/sync.runtime_canSpin", "internal/sync.runtime_doSpin", "internal/sync.throw", "internal/sync.runtime_nanotime", "internal/sync.runtime_SemacquireMutex", "sync/atomic.AddInt32", "(*internal/sync.Mutex).Unlock", "internal/race.ReleaseMerge", "(*internal/sync.Mutex).unlockSlow", "internal/sync.fatal", "internal/sync.runtime_Semrelease", "sync/atomic.StoreUint32"], unfollowed := true, recurses := true, named := ["ledge/sums.halves", "ledge/disk.ErrDown", "ledge/disk.ErrRoom", "ledge/disk.ErrPower", "ledge/disk.ErrUp", "errors.errorType", "ledge/disk.ErrNoFile"], plainKeys := false, apart := false, laid := [("ledge/sums.halves", laid_ledge_sums_halves), ("errors.errorType", laid_errors_errorType), ("ledge/disk.ErrRoom", laid_ledge_disk_ErrRoom), ("ledge/disk.ErrNoFile", laid_ledge_disk_ErrNoFile), ("ledge/disk.ErrDown", laid_ledge_disk_ErrDown), ("ledge/disk.ErrUp", laid_ledge_disk_ErrUp), ("ledge/disk.ErrPower", laid_ledge_disk_ErrPower)] }
def WritesSaid : Prop := writesRow.holds Tryz.pinned (OpenSpec.ofChange writesSpec)

/-- ITS FALSE NEIGHBOUR: 'it returns false'. Refute it at one input. -/
def writesWrong : ChangeSpec := { name := "writes", fn := fun _ => fun
  | [d] => { results := [.lit (.bool false)], args := [d] }
  | _ => none }
def WritesWrongFalsely : Prop := writesRow.holds Tryz.pinned (OpenSpec.ofChange writesWrong)

/-- 'ledgelaw.Builds': WHATEVER THE INPUT: true; the input reads as it did. -/
def buildsSpec : ChangeSpec := { name := "builds", fn := fun _ => fun
  | [d] => { results := [.lit (.bool true)], args := [d] }
  | _ => none }
def buildsRow : OpenClaim := { program := "ytdhgebdbiehchaagreatdoor", sum := "9e6fdda4019ac01059a7cf81011da80b21722c1429583af5b2f115a94967fa5a", func := "ledge/ledgelaw.Builds", spec := "builds", inPlace := ["internal/reflectlite.ValueOf", "(internal/reflectlite.Value).Type", "(internal/reflectlite.Value).IsNil", "internal/reflectlite.TypeOf", "(internal/reflectlite.Value).Elem", "(internal/reflectlite.Value).Set", "sync/atomic.LoadUint32", "(*internal/sync.Mutex).Lock", "internal/race.Disable", "sync/atomic.CompareAndSwapInt32", "internal/race.Enable", "internal/race.Acquire", "(*internal/sync.Mutex).lockSlow", "internal/sync.runtime_canSpin", "internal/sync.runtime_doSpin", "internal/sync.throw", "internal/sync.runtime_nanotime", "internal/sync.runtime_SemacquireMutex", "sync/atomic.AddInt32", "(*internal/sync.Mutex).Unlock", "internal/race.ReleaseMerge", "(*internal/sync.Mutex).unlockSlow", "internal/sync.fatal", "internal/sync.runtime_Semrelease", "sync/atomic.StoreUint32"], unfollowed := true, recurses := true, named := ["ledge/sums.halves", "ledge/disk.ErrDown", "ledge/disk.ErrRoom", "ledge/disk.ErrPower", "ledge/disk.ErrUp", "errors.errorType", "ledge/disk.ErrNoFile"], plainKeys := false, apart := false, laid := [("ledge/sums.halves", laid_ledge_sums_halves), ("errors.errorType", laid_errors_errorType), ("ledge/disk.ErrRoom", laid_ledge_disk_ErrRoom), ("ledge/disk.ErrNoFile", laid_ledge_disk_ErrNoFile), ("ledge/disk.ErrDown", laid_ledge_disk_ErrDown), ("ledge/disk.ErrUp", laid_ledge_disk_ErrUp), ("ledge/disk.ErrPower", laid_ledge_disk_ErrPower)] }
def BuildsSaid : Prop := buildsRow.holds Tryz.pinned (OpenSpec.ofChange buildsSpec)

/-- ITS FALSE NEIGHBOUR: 'it returns false'. Refute it at one input. -/
def buildsWrong : ChangeSpec := { name := "builds", fn := fun _ => fun
  | [d] => { results := [.lit (.bool false)], args := [d] }
  | _ => none }
def BuildsWrongFalsely : Prop := buildsRow.holds Tryz.pinned (OpenSpec.ofChange buildsWrong)

/-- 'ledgekeep.Kept': WHATEVER THE INPUT: true; the input reads as it did. -/
def keptSpec : ChangeSpec := { name := "kept", fn := fun _ => fun
  | [d1, d2] => { results := [.lit (.bool true)], args := [d1, d2] }
  | _ => none }
def keptRow : OpenClaim := { program := "ytdhgebdbiehchaagreatdoor", sum := "9e6fdda4019ac01059a7cf81011da80b21722c1429583af5b2f115a94967fa5a", func := "ledge/ledgekeep.Kept", spec := "kept", inPlace := ["internal/reflectlite.ValueOf", "(internal/reflectlite.Value).Type", "(internal/reflectlite.Value).IsNil", "internal/reflectlite.TypeOf", "(internal/reflectlite.Value).Elem", "(internal/reflectlite.Value).Set"], unfollowed := true, recurses := true, named := ["ledge/disk.ErrDown", "ledge/disk.ErrRoom", "ledge/disk.ErrPower", "ledge/disk.ErrUp", "errors.errorType", "ledge/sums.halves", "ledge/disk.ErrNoFile"], plainKeys := false, apart := false, laid := [("ledge/sums.halves", laid_ledge_sums_halves), ("errors.errorType", laid_errors_errorType), ("ledge/disk.ErrRoom", laid_ledge_disk_ErrRoom), ("ledge/disk.ErrNoFile", laid_ledge_disk_ErrNoFile), ("ledge/disk.ErrDown", laid_ledge_disk_ErrDown), ("ledge/disk.ErrUp", laid_ledge_disk_ErrUp), ("ledge/disk.ErrPower", laid_ledge_disk_ErrPower)] }
def KeptSaid : Prop := keptRow.holds Tryz.pinned (OpenSpec.ofChange keptSpec)

/-- ITS FALSE NEIGHBOUR: 'it returns false'. Refute it at one input. -/
def keptWrong : ChangeSpec := { name := "kept", fn := fun _ => fun
  | [d1, d2] => { results := [.lit (.bool false)], args := [d1, d2] }
  | _ => none }
def KeptWrongFalsely : Prop := keptRow.holds Tryz.pinned (OpenSpec.ofChange keptWrong)

/-- 'ledgekeep.Spoilt': WHATEVER THE INPUT: true; the input reads as it did. -/
def spoiltSpec : ChangeSpec := { name := "spoilt", fn := fun _ => fun
  | [d1, d2, d3, d4, d5] => { results := [.lit (.bool true)], args := [d1, d2, d3, d4, d5] }
  | _ => none }
def spoiltRow : OpenClaim := { program := "ytdhgebdbiehchaagreatdoor", sum := "9e6fdda4019ac01059a7cf81011da80b21722c1429583af5b2f115a94967fa5a", func := "ledge/ledgekeep.Spoilt", spec := "spoilt", inPlace := ["internal/reflectlite.ValueOf", "(internal/reflectlite.Value).Type", "(internal/reflectlite.Value).IsNil", "internal/reflectlite.TypeOf", "(internal/reflectlite.Value).Elem", "(internal/reflectlite.Value).Set"], unfollowed := true, recurses := true, named := ["ledge/disk.ErrDown", "ledge/disk.ErrRoom", "ledge/disk.ErrPower", "ledge/disk.ErrUp", "errors.errorType", "ledge/sums.halves", "ledge/disk.ErrNoFile"], plainKeys := false, apart := false, laid := [("ledge/sums.halves", laid_ledge_sums_halves), ("errors.errorType", laid_errors_errorType), ("ledge/disk.ErrRoom", laid_ledge_disk_ErrRoom), ("ledge/disk.ErrNoFile", laid_ledge_disk_ErrNoFile), ("ledge/disk.ErrDown", laid_ledge_disk_ErrDown), ("ledge/disk.ErrUp", laid_ledge_disk_ErrUp), ("ledge/disk.ErrPower", laid_ledge_disk_ErrPower)] }
def SpoiltSaid : Prop := spoiltRow.holds Tryz.pinned (OpenSpec.ofChange spoiltSpec)

/-- ITS FALSE NEIGHBOUR: 'it returns false'. Refute it at one input. -/
def spoiltWrong : ChangeSpec := { name := "spoilt", fn := fun _ => fun
  | [d1, d2, d3, d4, d5] => { results := [.lit (.bool false)], args := [d1, d2, d3, d4, d5] }
  | _ => none }
def SpoiltWrongFalsely : Prop := spoiltRow.holds Tryz.pinned (OpenSpec.ofChange spoiltWrong)

/-- 'ledgelaw.Fails': WHATEVER THE INPUT: true; the input reads as it did. -/
def failsSpec : ChangeSpec := { name := "fails", fn := fun _ => fun
  | [d] => { results := [.lit (.bool true)], args := [d] }
  | _ => none }
def failsRow : OpenClaim := { program := "ytdhgebdbiehchaagreatdoor", sum := "9e6fdda4019ac01059a7cf81011da80b21722c1429583af5b2f115a94967fa5a", func := "ledge/ledgelaw.Fails", spec := "fails", inPlace := ["internal/reflectlite.ValueOf", "(internal/reflectlite.Value).Type", "(internal/reflectlite.Value).IsNil", "internal/reflectlite.TypeOf", "(internal/reflectlite.Value).Elem", "(internal/reflectlite.Value).Set", "sync/atomic.LoadUint32", "(*internal/sync.Mutex).Lock", "internal/race.Disable", "sync/atomic.CompareAndSwapInt32", "internal/race.Enable", "internal/race.Acquire", "(*internal/sync.Mutex).lockSlow", "internal/sync.runtime_canSpin", "internal/sync.runtime_doSpin", "internal/sync.throw", "internal/sync.runtime_nanotime", "internal/sync.runtime_SemacquireMutex", "sync/atomic.AddInt32", "(*internal/sync.Mutex).Unlock", "internal/race.ReleaseMerge", "(*internal/sync.Mutex).unlockSlow", "internal/sync.fatal", "internal/sync.runtime_Semrelease", "sync/atomic.StoreUint32"], unfollowed := true, recurses := true, named := ["ledge/sums.halves", "ledge/disk.ErrDown", "ledge/disk.ErrRoom", "ledge/disk.ErrPower", "ledge/disk.ErrUp", "errors.errorType", "ledge/disk.ErrNoFile"], plainKeys := false, apart := false, laid := [("ledge/sums.halves", laid_ledge_sums_halves), ("errors.errorType", laid_errors_errorType), ("ledge/disk.ErrRoom", laid_ledge_disk_ErrRoom), ("ledge/disk.ErrNoFile", laid_ledge_disk_ErrNoFile), ("ledge/disk.ErrDown", laid_ledge_disk_ErrDown), ("ledge/disk.ErrUp", laid_ledge_disk_ErrUp), ("ledge/disk.ErrPower", laid_ledge_disk_ErrPower)] }
def FailsSaid : Prop := failsRow.holds Tryz.pinned (OpenSpec.ofChange failsSpec)

/-- ITS FALSE NEIGHBOUR: 'it returns false'. Refute it at one input. -/
def failsWrong : ChangeSpec := { name := "fails", fn := fun _ => fun
  | [d] => { results := [.lit (.bool false)], args := [d] }
  | _ => none }
def FailsWrongFalsely : Prop := failsRow.holds Tryz.pinned (OpenSpec.ofChange failsWrong)

/-- 'ledgekeep.Lasting': WHATEVER THE INPUT: true; the input reads as it did. -/
def lastingSpec : ChangeSpec := { name := "lasting", fn := fun _ => fun
  | [d1, d2] => { results := [.lit (.bool true)], args := [d1, d2] }
  | _ => none }
def lastingRow : OpenClaim := { program := "ytdhgebdbiehchaagreatdoor", sum := "9e6fdda4019ac01059a7cf81011da80b21722c1429583af5b2f115a94967fa5a", func := "ledge/ledgekeep.Lasting", spec := "lasting", inPlace := ["internal/reflectlite.ValueOf", "(internal/reflectlite.Value).Type", "(internal/reflectlite.Value).IsNil", "internal/reflectlite.TypeOf", "(internal/reflectlite.Value).Elem", "(internal/reflectlite.Value).Set"], unfollowed := true, recurses := true, named := ["ledge/disk.ErrDown", "ledge/disk.ErrRoom", "ledge/disk.ErrPower", "ledge/disk.ErrUp", "errors.errorType", "ledge/sums.halves", "ledge/disk.ErrNoFile"], plainKeys := false, apart := false, laid := [("ledge/sums.halves", laid_ledge_sums_halves), ("errors.errorType", laid_errors_errorType), ("ledge/disk.ErrRoom", laid_ledge_disk_ErrRoom), ("ledge/disk.ErrNoFile", laid_ledge_disk_ErrNoFile), ("ledge/disk.ErrDown", laid_ledge_disk_ErrDown), ("ledge/disk.ErrUp", laid_ledge_disk_ErrUp), ("ledge/disk.ErrPower", laid_ledge_disk_ErrPower)] }
def LastingSaid : Prop := lastingRow.holds Tryz.pinned (OpenSpec.ofChange lastingSpec)

/-- ITS FALSE NEIGHBOUR: 'it returns false'. Refute it at one input. -/
def lastingWrong : ChangeSpec := { name := "lasting", fn := fun _ => fun
  | [d1, d2] => { results := [.lit (.bool false)], args := [d1, d2] }
  | _ => none }
def LastingWrongFalsely : Prop := lastingRow.holds Tryz.pinned (OpenSpec.ofChange lastingWrong)

/-- 'ledgelaw.All': WHATEVER THE INPUT: true; the input reads as it did. -/
def allSpec : ChangeSpec := { name := "all", fn := fun _ => fun
  | [d] => { results := [.lit (.bool true)], args := [d] }
  | _ => none }
def allRow : OpenClaim := { program := "ytdhgebdbiehchaagreatdoor", sum := "9e6fdda4019ac01059a7cf81011da80b21722c1429583af5b2f115a94967fa5a", func := "ledge/ledgelaw.All", spec := "all", inPlace := ["internal/reflectlite.ValueOf", "(internal/reflectlite.Value).Type", "(internal/reflectlite.Value).IsNil", "internal/reflectlite.TypeOf", "(internal/reflectlite.Value).Elem", "(internal/reflectlite.Value).Set", "sync/atomic.LoadUint32", "(*internal/sync.Mutex).Lock", "internal/race.Disable", "sync/atomic.CompareAndSwapInt32", "internal/race.Enable", "internal/race.Acquire", "(*internal/sync.Mutex).lockSlow", "internal/sync.runtime_canSpin", "internal/sync.runtime_doSpin", "internal/sync.throw", "internal/sync.runtime_nanotime", "internal/sync.runtime_SemacquireMutex", "sync/atomic.AddInt32", "(*internal/sync.Mutex).Unlock", "internal/race.ReleaseMerge", "(*internal/sync.Mutex).unlockSlow", "internal/sync.fatal", "internal/sync.runtime_Semrelease", "sync/atomic.StoreUint32"], unfollowed := true, recurses := true, named := ["ledge/sums.halves", "ledge/disk.ErrDown", "ledge/disk.ErrRoom", "ledge/disk.ErrPower", "ledge/disk.ErrUp", "errors.errorType", "ledge/disk.ErrNoFile"], plainKeys := false, apart := false, laid := [("ledge/sums.halves", laid_ledge_sums_halves), ("errors.errorType", laid_errors_errorType), ("ledge/disk.ErrRoom", laid_ledge_disk_ErrRoom), ("ledge/disk.ErrNoFile", laid_ledge_disk_ErrNoFile), ("ledge/disk.ErrDown", laid_ledge_disk_ErrDown), ("ledge/disk.ErrUp", laid_ledge_disk_ErrUp), ("ledge/disk.ErrPower", laid_ledge_disk_ErrPower)] }
def AllSaid : Prop := allRow.holds Tryz.pinned (OpenSpec.ofChange allSpec)

/-- ITS FALSE NEIGHBOUR: 'it returns false'. Refute it at one input. -/
def allWrong : ChangeSpec := { name := "all", fn := fun _ => fun
  | [d] => { results := [.lit (.bool false)], args := [d] }
  | _ => none }
def AllWrongFalsely : Prop := allRow.holds Tryz.pinned (OpenSpec.ofChange allWrong)

/- THE SECOND FORM. 'bulk': how many values and letters a reading holds, each counted each time it is reached (what is shared counts as often as it is met; a slice's spare places count too). A statement '..UptoSaid' is the law's where the arguments, and the package variables that the reading takes, are together of bulk at most 1048576: NARROWER than '..Said'. Prove '..Said' where nothing that the law and all that it calls make is longer than what came in: it says more and counts as full. Else prove '..UptoSaid'. A law counts once. -/
mutual
def uptoBulk {H : Type} : DataW H → Nat
  | .lit (.string bytes) => bytes.length + 1
  | .lit _ => 1
  | .nil => 1
  | .ptr d => uptoBulk d + 1
  | .slice elems spare => uptoBulkAll elems + uptoBulkAll spare + 1
  | .agg parts => uptoBulkAll parts + 1
  | .iface _ d => uptoBulk d + 1
  | .map entries => uptoBulkEntries entries + 1
  | .held _ => 1
def uptoBulkAll {H : Type} : List (DataW H) → Nat
  | [] => 0
  | d :: r => uptoBulk d + uptoBulkAll r
def uptoBulkEntries {H : Type} : List (Lit × DataW H) → Nat
  | [] => 0
  | x :: r => uptoBulkEntry x + uptoBulkEntries r
def uptoBulkEntry {H : Type} : Lit × DataW H → Nat
  | (.string bytes, d) => bytes.length + uptoBulk d + 1
  | (_, d) => uptoBulk d + 1
 end
def uptoSmall : (H : Type) → List (DataW H) → Bool := fun _ ds => decide (uptoBulkAll ds ≤ 1048576)
def OpenSpec.upto (s : _root_.Go.ChangeSpec) : _root_.Go.OpenSpec := { _root_.Go.OpenSpec.ofChange s with cond := some uptoSmall }

/-- 'ledgelaw.Numbers', WHERE WHAT IT READS IS OF BULK AT MOST 1048576: true; the input reads as it did. -/
def numbersUptoRow : OpenClaim := { program := "ytdhgebdbiehchaagreatdoor", sum := "9e6fdda4019ac01059a7cf81011da80b21722c1429583af5b2f115a94967fa5a", func := "ledge/ledgelaw.Numbers", spec := "numbers", inPlace := ["internal/reflectlite.ValueOf", "(internal/reflectlite.Value).Type", "(internal/reflectlite.Value).IsNil", "internal/reflectlite.TypeOf", "(internal/reflectlite.Value).Elem", "(internal/reflectlite.Value).Set", "sync/atomic.LoadUint32", "(*internal/sync.Mutex).Lock", "internal/race.Disable", "sync/atomic.CompareAndSwapInt32", "internal/race.Enable", "internal/race.Acquire", "(*internal/sync.Mutex).lockSlow", "internal/sync.runtime_canSpin", "internal/sync.runtime_doSpin", "internal/sync.throw", "internal/sync.runtime_nanotime", "internal/sync.runtime_SemacquireMutex", "sync/atomic.AddInt32", "(*internal/sync.Mutex).Unlock", "internal/race.ReleaseMerge", "(*internal/sync.Mutex).unlockSlow", "internal/sync.fatal", "internal/sync.runtime_Semrelease", "sync/atomic.StoreUint32"], unfollowed := true, recurses := true, named := ["ledge/sums.halves", "ledge/disk.ErrDown", "ledge/disk.ErrRoom", "ledge/disk.ErrPower", "ledge/disk.ErrUp", "errors.errorType", "ledge/disk.ErrNoFile"], plainKeys := false, apart := false, laid := [("ledge/sums.halves", laid_ledge_sums_halves), ("errors.errorType", laid_errors_errorType), ("ledge/disk.ErrRoom", laid_ledge_disk_ErrRoom), ("ledge/disk.ErrNoFile", laid_ledge_disk_ErrNoFile), ("ledge/disk.ErrDown", laid_ledge_disk_ErrDown), ("ledge/disk.ErrUp", laid_ledge_disk_ErrUp), ("ledge/disk.ErrPower", laid_ledge_disk_ErrPower)], narrowed := true }
def NumbersUptoSaid : Prop := numbersUptoRow.holds Tryz.pinned (OpenSpec.upto numbersSpec)

/-- 'ledgelaw.Indexes', WHERE WHAT IT READS IS OF BULK AT MOST 1048576: true; the input reads as it did. -/
def indexesUptoRow : OpenClaim := { program := "ytdhgebdbiehchaagreatdoor", sum := "9e6fdda4019ac01059a7cf81011da80b21722c1429583af5b2f115a94967fa5a", func := "ledge/ledgelaw.Indexes", spec := "indexes", inPlace := ["internal/reflectlite.ValueOf", "(internal/reflectlite.Value).Type", "(internal/reflectlite.Value).IsNil", "internal/reflectlite.TypeOf", "(internal/reflectlite.Value).Elem", "(internal/reflectlite.Value).Set", "sync/atomic.LoadUint32", "(*internal/sync.Mutex).Lock", "internal/race.Disable", "sync/atomic.CompareAndSwapInt32", "internal/race.Enable", "internal/race.Acquire", "(*internal/sync.Mutex).lockSlow", "internal/sync.runtime_canSpin", "internal/sync.runtime_doSpin", "internal/sync.throw", "internal/sync.runtime_nanotime", "internal/sync.runtime_SemacquireMutex", "sync/atomic.AddInt32", "(*internal/sync.Mutex).Unlock", "internal/race.ReleaseMerge", "(*internal/sync.Mutex).unlockSlow", "internal/sync.fatal", "internal/sync.runtime_Semrelease", "sync/atomic.StoreUint32"], unfollowed := true, recurses := true, named := ["ledge/sums.halves", "ledge/disk.ErrDown", "ledge/disk.ErrRoom", "ledge/disk.ErrPower", "ledge/disk.ErrUp", "errors.errorType", "ledge/disk.ErrNoFile"], plainKeys := false, apart := false, laid := [("ledge/sums.halves", laid_ledge_sums_halves), ("errors.errorType", laid_errors_errorType), ("ledge/disk.ErrRoom", laid_ledge_disk_ErrRoom), ("ledge/disk.ErrNoFile", laid_ledge_disk_ErrNoFile), ("ledge/disk.ErrDown", laid_ledge_disk_ErrDown), ("ledge/disk.ErrUp", laid_ledge_disk_ErrUp), ("ledge/disk.ErrPower", laid_ledge_disk_ErrPower)], narrowed := true }
def IndexesUptoSaid : Prop := indexesUptoRow.holds Tryz.pinned (OpenSpec.upto indexesSpec)

/-- 'ledgelaw.Writes', WHERE WHAT IT READS IS OF BULK AT MOST 1048576: true; the input reads as it did. -/
def writesUptoRow : OpenClaim := { program := "ytdhgebdbiehchaagreatdoor", sum := "9e6fdda4019ac01059a7cf81011da80b21722c1429583af5b2f115a94967fa5a", func := "ledge/ledgelaw.Writes", spec := "writes", inPlace := ["internal/reflectlite.ValueOf", "(internal/reflectlite.Value).Type", "(internal/reflectlite.Value).IsNil", "internal/reflectlite.TypeOf", "(internal/reflectlite.Value).Elem", "(internal/reflectlite.Value).Set", "sync/atomic.LoadUint32", "(*internal/sync.Mutex).Lock", "internal/race.Disable", "sync/atomic.CompareAndSwapInt32", "internal/race.Enable", "internal/race.Acquire", "(*internal/sync.Mutex).lockSlow", "internal/sync.runtime_canSpin", "internal/sync.runtime_doSpin", "internal/sync.throw", "internal/sync.runtime_nanotime", "internal/sync.runtime_SemacquireMutex", "sync/atomic.AddInt32", "(*internal/sync.Mutex).Unlock", "internal/race.ReleaseMerge", "(*internal/sync.Mutex).unlockSlow", "internal/sync.fatal", "internal/sync.runtime_Semrelease", "sync/atomic.StoreUint32"], unfollowed := true, recurses := true, named := ["ledge/sums.halves", "ledge/disk.ErrDown", "ledge/disk.ErrRoom", "ledge/disk.ErrPower", "ledge/disk.ErrUp", "errors.errorType", "ledge/disk.ErrNoFile"], plainKeys := false, apart := false, laid := [("ledge/sums.halves", laid_ledge_sums_halves), ("errors.errorType", laid_errors_errorType), ("ledge/disk.ErrRoom", laid_ledge_disk_ErrRoom), ("ledge/disk.ErrNoFile", laid_ledge_disk_ErrNoFile), ("ledge/disk.ErrDown", laid_ledge_disk_ErrDown), ("ledge/disk.ErrUp", laid_ledge_disk_ErrUp), ("ledge/disk.ErrPower", laid_ledge_disk_ErrPower)], narrowed := true }
def WritesUptoSaid : Prop := writesUptoRow.holds Tryz.pinned (OpenSpec.upto writesSpec)

/-- 'ledgelaw.Builds', WHERE WHAT IT READS IS OF BULK AT MOST 1048576: true; the input reads as it did. -/
def buildsUptoRow : OpenClaim := { program := "ytdhgebdbiehchaagreatdoor", sum := "9e6fdda4019ac01059a7cf81011da80b21722c1429583af5b2f115a94967fa5a", func := "ledge/ledgelaw.Builds", spec := "builds", inPlace := ["internal/reflectlite.ValueOf", "(internal/reflectlite.Value).Type", "(internal/reflectlite.Value).IsNil", "internal/reflectlite.TypeOf", "(internal/reflectlite.Value).Elem", "(internal/reflectlite.Value).Set", "sync/atomic.LoadUint32", "(*internal/sync.Mutex).Lock", "internal/race.Disable", "sync/atomic.CompareAndSwapInt32", "internal/race.Enable", "internal/race.Acquire", "(*internal/sync.Mutex).lockSlow", "internal/sync.runtime_canSpin", "internal/sync.runtime_doSpin", "internal/sync.throw", "internal/sync.runtime_nanotime", "internal/sync.runtime_SemacquireMutex", "sync/atomic.AddInt32", "(*internal/sync.Mutex).Unlock", "internal/race.ReleaseMerge", "(*internal/sync.Mutex).unlockSlow", "internal/sync.fatal", "internal/sync.runtime_Semrelease", "sync/atomic.StoreUint32"], unfollowed := true, recurses := true, named := ["ledge/sums.halves", "ledge/disk.ErrDown", "ledge/disk.ErrRoom", "ledge/disk.ErrPower", "ledge/disk.ErrUp", "errors.errorType", "ledge/disk.ErrNoFile"], plainKeys := false, apart := false, laid := [("ledge/sums.halves", laid_ledge_sums_halves), ("errors.errorType", laid_errors_errorType), ("ledge/disk.ErrRoom", laid_ledge_disk_ErrRoom), ("ledge/disk.ErrNoFile", laid_ledge_disk_ErrNoFile), ("ledge/disk.ErrDown", laid_ledge_disk_ErrDown), ("ledge/disk.ErrUp", laid_ledge_disk_ErrUp), ("ledge/disk.ErrPower", laid_ledge_disk_ErrPower)], narrowed := true }
def BuildsUptoSaid : Prop := buildsUptoRow.holds Tryz.pinned (OpenSpec.upto buildsSpec)

/-- 'ledgekeep.Kept', WHERE WHAT IT READS IS OF BULK AT MOST 1048576: true; the input reads as it did. -/
def keptUptoRow : OpenClaim := { program := "ytdhgebdbiehchaagreatdoor", sum := "9e6fdda4019ac01059a7cf81011da80b21722c1429583af5b2f115a94967fa5a", func := "ledge/ledgekeep.Kept", spec := "kept", inPlace := ["internal/reflectlite.ValueOf", "(internal/reflectlite.Value).Type", "(internal/reflectlite.Value).IsNil", "internal/reflectlite.TypeOf", "(internal/reflectlite.Value).Elem", "(internal/reflectlite.Value).Set"], unfollowed := true, recurses := true, named := ["ledge/disk.ErrDown", "ledge/disk.ErrRoom", "ledge/disk.ErrPower", "ledge/disk.ErrUp", "errors.errorType", "ledge/sums.halves", "ledge/disk.ErrNoFile"], plainKeys := false, apart := false, laid := [("ledge/sums.halves", laid_ledge_sums_halves), ("errors.errorType", laid_errors_errorType), ("ledge/disk.ErrRoom", laid_ledge_disk_ErrRoom), ("ledge/disk.ErrNoFile", laid_ledge_disk_ErrNoFile), ("ledge/disk.ErrDown", laid_ledge_disk_ErrDown), ("ledge/disk.ErrUp", laid_ledge_disk_ErrUp), ("ledge/disk.ErrPower", laid_ledge_disk_ErrPower)], narrowed := true }
def KeptUptoSaid : Prop := keptUptoRow.holds Tryz.pinned (OpenSpec.upto keptSpec)

/-- 'ledgekeep.Spoilt', WHERE WHAT IT READS IS OF BULK AT MOST 1048576: true; the input reads as it did. -/
def spoiltUptoRow : OpenClaim := { program := "ytdhgebdbiehchaagreatdoor", sum := "9e6fdda4019ac01059a7cf81011da80b21722c1429583af5b2f115a94967fa5a", func := "ledge/ledgekeep.Spoilt", spec := "spoilt", inPlace := ["internal/reflectlite.ValueOf", "(internal/reflectlite.Value).Type", "(internal/reflectlite.Value).IsNil", "internal/reflectlite.TypeOf", "(internal/reflectlite.Value).Elem", "(internal/reflectlite.Value).Set"], unfollowed := true, recurses := true, named := ["ledge/disk.ErrDown", "ledge/disk.ErrRoom", "ledge/disk.ErrPower", "ledge/disk.ErrUp", "errors.errorType", "ledge/sums.halves", "ledge/disk.ErrNoFile"], plainKeys := false, apart := false, laid := [("ledge/sums.halves", laid_ledge_sums_halves), ("errors.errorType", laid_errors_errorType), ("ledge/disk.ErrRoom", laid_ledge_disk_ErrRoom), ("ledge/disk.ErrNoFile", laid_ledge_disk_ErrNoFile), ("ledge/disk.ErrDown", laid_ledge_disk_ErrDown), ("ledge/disk.ErrUp", laid_ledge_disk_ErrUp), ("ledge/disk.ErrPower", laid_ledge_disk_ErrPower)], narrowed := true }
def SpoiltUptoSaid : Prop := spoiltUptoRow.holds Tryz.pinned (OpenSpec.upto spoiltSpec)

/-- 'ledgelaw.Fails', WHERE WHAT IT READS IS OF BULK AT MOST 1048576: true; the input reads as it did. -/
def failsUptoRow : OpenClaim := { program := "ytdhgebdbiehchaagreatdoor", sum := "9e6fdda4019ac01059a7cf81011da80b21722c1429583af5b2f115a94967fa5a", func := "ledge/ledgelaw.Fails", spec := "fails", inPlace := ["internal/reflectlite.ValueOf", "(internal/reflectlite.Value).Type", "(internal/reflectlite.Value).IsNil", "internal/reflectlite.TypeOf", "(internal/reflectlite.Value).Elem", "(internal/reflectlite.Value).Set", "sync/atomic.LoadUint32", "(*internal/sync.Mutex).Lock", "internal/race.Disable", "sync/atomic.CompareAndSwapInt32", "internal/race.Enable", "internal/race.Acquire", "(*internal/sync.Mutex).lockSlow", "internal/sync.runtime_canSpin", "internal/sync.runtime_doSpin", "internal/sync.throw", "internal/sync.runtime_nanotime", "internal/sync.runtime_SemacquireMutex", "sync/atomic.AddInt32", "(*internal/sync.Mutex).Unlock", "internal/race.ReleaseMerge", "(*internal/sync.Mutex).unlockSlow", "internal/sync.fatal", "internal/sync.runtime_Semrelease", "sync/atomic.StoreUint32"], unfollowed := true, recurses := true, named := ["ledge/sums.halves", "ledge/disk.ErrDown", "ledge/disk.ErrRoom", "ledge/disk.ErrPower", "ledge/disk.ErrUp", "errors.errorType", "ledge/disk.ErrNoFile"], plainKeys := false, apart := false, laid := [("ledge/sums.halves", laid_ledge_sums_halves), ("errors.errorType", laid_errors_errorType), ("ledge/disk.ErrRoom", laid_ledge_disk_ErrRoom), ("ledge/disk.ErrNoFile", laid_ledge_disk_ErrNoFile), ("ledge/disk.ErrDown", laid_ledge_disk_ErrDown), ("ledge/disk.ErrUp", laid_ledge_disk_ErrUp), ("ledge/disk.ErrPower", laid_ledge_disk_ErrPower)], narrowed := true }
def FailsUptoSaid : Prop := failsUptoRow.holds Tryz.pinned (OpenSpec.upto failsSpec)

/-- 'ledgekeep.Lasting', WHERE WHAT IT READS IS OF BULK AT MOST 1048576: true; the input reads as it did. -/
def lastingUptoRow : OpenClaim := { program := "ytdhgebdbiehchaagreatdoor", sum := "9e6fdda4019ac01059a7cf81011da80b21722c1429583af5b2f115a94967fa5a", func := "ledge/ledgekeep.Lasting", spec := "lasting", inPlace := ["internal/reflectlite.ValueOf", "(internal/reflectlite.Value).Type", "(internal/reflectlite.Value).IsNil", "internal/reflectlite.TypeOf", "(internal/reflectlite.Value).Elem", "(internal/reflectlite.Value).Set"], unfollowed := true, recurses := true, named := ["ledge/disk.ErrDown", "ledge/disk.ErrRoom", "ledge/disk.ErrPower", "ledge/disk.ErrUp", "errors.errorType", "ledge/sums.halves", "ledge/disk.ErrNoFile"], plainKeys := false, apart := false, laid := [("ledge/sums.halves", laid_ledge_sums_halves), ("errors.errorType", laid_errors_errorType), ("ledge/disk.ErrRoom", laid_ledge_disk_ErrRoom), ("ledge/disk.ErrNoFile", laid_ledge_disk_ErrNoFile), ("ledge/disk.ErrDown", laid_ledge_disk_ErrDown), ("ledge/disk.ErrUp", laid_ledge_disk_ErrUp), ("ledge/disk.ErrPower", laid_ledge_disk_ErrPower)], narrowed := true }
def LastingUptoSaid : Prop := lastingUptoRow.holds Tryz.pinned (OpenSpec.upto lastingSpec)

/-- 'ledgelaw.All', WHERE WHAT IT READS IS OF BULK AT MOST 1048576: true; the input reads as it did. -/
def allUptoRow : OpenClaim := { program := "ytdhgebdbiehchaagreatdoor", sum := "9e6fdda4019ac01059a7cf81011da80b21722c1429583af5b2f115a94967fa5a", func := "ledge/ledgelaw.All", spec := "all", inPlace := ["internal/reflectlite.ValueOf", "(internal/reflectlite.Value).Type", "(internal/reflectlite.Value).IsNil", "internal/reflectlite.TypeOf", "(internal/reflectlite.Value).Elem", "(internal/reflectlite.Value).Set", "sync/atomic.LoadUint32", "(*internal/sync.Mutex).Lock", "internal/race.Disable", "sync/atomic.CompareAndSwapInt32", "internal/race.Enable", "internal/race.Acquire", "(*internal/sync.Mutex).lockSlow", "internal/sync.runtime_canSpin", "internal/sync.runtime_doSpin", "internal/sync.throw", "internal/sync.runtime_nanotime", "internal/sync.runtime_SemacquireMutex", "sync/atomic.AddInt32", "(*internal/sync.Mutex).Unlock", "internal/race.ReleaseMerge", "(*internal/sync.Mutex).unlockSlow", "internal/sync.fatal", "internal/sync.runtime_Semrelease", "sync/atomic.StoreUint32"], unfollowed := true, recurses := true, named := ["ledge/sums.halves", "ledge/disk.ErrDown", "ledge/disk.ErrRoom", "ledge/disk.ErrPower", "ledge/disk.ErrUp", "errors.errorType", "ledge/disk.ErrNoFile"], plainKeys := false, apart := false, laid := [("ledge/sums.halves", laid_ledge_sums_halves), ("errors.errorType", laid_errors_errorType), ("ledge/disk.ErrRoom", laid_ledge_disk_ErrRoom), ("ledge/disk.ErrNoFile", laid_ledge_disk_ErrNoFile), ("ledge/disk.ErrDown", laid_ledge_disk_ErrDown), ("ledge/disk.ErrUp", laid_ledge_disk_ErrUp), ("ledge/disk.ErrPower", laid_ledge_disk_ErrPower)], narrowed := true }
def AllUptoSaid : Prop := allUptoRow.holds Tryz.pinned (OpenSpec.upto allSpec)

end Rows
end Go.Proofs.YtdhgebdbiehchaaGreatDoor
