/- errors.As and errors.Is by their contracts, at the disk's Fault and the disk's own errors. errors.As of a Fault: the target is set. errors.As of a Fault: the target is set; the contract of the program's answer. What lies in memory ahead of every call: the check's table, the disk's errors; the contract of the program's answer. What a log says, which of its entries live, and the table of an index, as plain functions. Nothing of the program is named here. What a look answers, as a plain function on bytes. -/
import Derived.Test.YtdhgebdbiehchaaGreatDoorB01
import Derived.LaidEql
import Derived.Stop.Asserts
import Derived.RowKitTokens
import Derived.Test.YtdhgebdbiehchaaGreatDoorB03
namespace Go.Proofs.YtdhgebdbiehchaaGreatDoor
open Go.RowKit Go.Extern.Stop Go.Stop Go.Extern
set_option linter.unusedSimpArgs false
set_option linter.unusedVariables false

/-- An error of errors.New's make, and a Fault. -/
def errV (a : Addr) : Value := .iface 352 (.pointer (some a))
def faultV (b : Nat) : Value := .iface 128 (.pointer (some ⟨b, 0, none⟩))

theorem ef_typeOf (v : Value) (w : World) : (Extern.ReflectliteType.typeOf #[.iface 352 v]).run Tryz.prog w = .ok (.iface 280 (.agg #[.pointer (some ⟨7, 352, none⟩)])) w := by kernel_rfl
/-- The model's own entry for a function that has no body here. -/
def extOf (f : Func) : Array Value → Sem Value := (Extern.find f).getD fun _ => pure (.tuple #[])
theorem ef_comparable (w : World) : (extOf Tryz.f277 #[.agg #[.pointer (some ⟨7, 352, none⟩)]]).run Tryz.prog w = .ok (.bool true) w := by kernel_rfl
theorem ef_mComparable (v : Value) (w : World) : (Go.method 482 280 v "Comparable").run Tryz.prog w = .ok (277, v) w := by kernel_rfl
theorem ef_mUnwrap (v : Value) (w : World) : (Go.method 482 128 v "Unwrap").run Tryz.prog w = .ok (271, v) w := by kernel_rfl
theorem ef_comp : (Tryz.prog.info? 352).map (·.comparable) = some true := by kernel_rfl
theorem ef_size : (Tryz.prog.info? 370).map (·.size) = some 1 := by kernel_rfl
theorem ef_noIsE (v : Value) (xT : TypeId) (w : World) : (Instr.typeAssert (.iface 352 v) xT 291 true).run Tryz.prog w = .ok (.tuple #[.nilIface, .bool false]) w := run_typeAssert_lacksB Tryz.underlying291 (by kernel_rfl) (by kernel_rfl) v xT w
theorem ef_noUnwrapE (v : Value) (xT : TypeId) (w : World) : (Instr.typeAssert (.iface 352 v) xT 287 true).run Tryz.prog w = .ok (.tuple #[.nilIface, .bool false]) w := run_typeAssert_lacksB Tryz.underlying287 (by kernel_rfl) (by kernel_rfl) v xT w
theorem ef_noUnwrapsE (v : Value) (xT : TypeId) (w : World) : (Instr.typeAssert (.iface 352 v) xT 288 true).run Tryz.prog w = .ok (.tuple #[.nilIface, .bool false]) w := run_typeAssert_lacksB Tryz.underlying288 (by kernel_rfl) (by kernel_rfl) v xT w
theorem ef_noIsW (v : Value) (xT : TypeId) (w : World) : (Instr.typeAssert (.iface 128 v) xT 291 true).run Tryz.prog w = .ok (.tuple #[.nilIface, .bool false]) w := run_typeAssert_lacksB Tryz.underlying291 (by kernel_rfl) (by kernel_rfl) v xT w
theorem ef_hasUnwrapW (v : Value) (xT : TypeId) (w : World) : (Instr.typeAssert (.iface 128 v) xT 287 true).run Tryz.prog w = .ok (.tuple #[.iface 128 v, .bool true]) w := run_typeAssert_hasB Tryz.underlying287 (by kernel_rfl) v xT w


set_option maxRecDepth 100000 in
set_option maxHeartbeats 1600000 in
/-- errors.Is(a Fault that wraps this, this). -/
theorem is_wrap_same (pb : Nat) (b : Addr) (w : World) (h1 : w.cell? ⟨pb, 2, none⟩ = some (.iface 352 (.pointer (some b)))) :
    Calls Tryz.prog 75 #[.iface 128 (.pointer (some ⟨pb, 0, none⟩)), .iface 352 (.pointer (some b))] w fun e w' => e = .returned (.bool true) ∧ w' = w := by
  obtain ⟨i, hi, hcmp⟩ := Option.map_eq_some_iff.1 ef_comp
  obtain ⟨j, hj, hjs⟩ := Option.map_eq_some_iff.1 ef_size
  have h8 := @run_callFunc_extern Tryz.prog 135 _ Extern.ReflectliteType.typeOf Tryz.func135 (by kernel_rfl) (by kernel_rfl) (by kernel_rfl) (by kernel_rfl)
  have h32 := @run_callFunc_extern Tryz.prog 277 _ (extOf Tryz.f277) Tryz.func277 (by kernel_rfl) (by kernel_rfl) (by kernel_rfl) (by kernel_rfl)
  have tT := ef_typeOf
  have cT := ef_comparable
  have mR := ef_mComparable
  have nE := ef_noIsE
  have uE := ef_noUnwrapE
  have vE := ef_noUnwrapsE
  have nW := ef_noIsW
  have uW := ef_hasUnwrapW
  have mU := ef_mUnwrap
  have heq := run_eql_iface_ptr_same (P := Tryz.prog) w b Tryz.underlying80 Tryz.underlying352 hi hcmp hj
  have hty := run_eql_iface_types (P := Tryz.prog) 128 352 (.pointer (some ⟨pb, 0, none⟩)) (.pointer (some b)) Tryz.underlying80 (by decide) w
  go_enter Tryz.func75, Tryz.ntmps75
  go_wp2
  refine wp_loop_rounds 2 ?_
  rw [rounds_succ]
  go_wp2
  rw [rounds_succ]
  go_wp2
  go_ret
  exact ⟨rfl, rfl⟩

set_option maxRecDepth 100000 in
set_option maxHeartbeats 1600000 in
/-- errors.Is(a Fault that wraps another, this). -/
theorem is_wrap_other (pb : Nat) (b a : Addr) (ca cb : Array Value) (ta tb : TypeId) (w : World) (h1 : w.cell? ⟨pb, 2, none⟩ = some (.iface 352 (.pointer (some a)))) (hne : a ≠ b) (ha : w.heap[a.block]? = some (.cells ca ta (0, 0))) (hb : w.heap[b.block]? = some (.cells cb tb (0, 0))) :
    Calls Tryz.prog 75 #[.iface 128 (.pointer (some ⟨pb, 0, none⟩)), .iface 352 (.pointer (some b))] w fun e w' => e = .returned (.bool false) ∧ w' = w := by
  obtain ⟨i, hi, hcmp⟩ := Option.map_eq_some_iff.1 ef_comp
  obtain ⟨j, hj, hjs⟩ := Option.map_eq_some_iff.1 ef_size
  have h8 := @run_callFunc_extern Tryz.prog 135 _ Extern.ReflectliteType.typeOf Tryz.func135 (by kernel_rfl) (by kernel_rfl) (by kernel_rfl) (by kernel_rfl)
  have h32 := @run_callFunc_extern Tryz.prog 277 _ (extOf Tryz.f277) Tryz.func277 (by kernel_rfl) (by kernel_rfl) (by kernel_rfl) (by kernel_rfl)
  have tT := ef_typeOf
  have cT := ef_comparable
  have mR := ef_mComparable
  have nE := ef_noIsE
  have uE := ef_noUnwrapE
  have vE := ef_noUnwrapsE
  have nW := ef_noIsW
  have uW := ef_hasUnwrapW
  have mU := ef_mUnwrap
  have heq := run_eql_iface_ptr_other (P := Tryz.prog) w Tryz.underlying80 Tryz.underlying352 hi hcmp hj (by rw [hjs]; decide) hne ha hb
  have hty := run_eql_iface_types (P := Tryz.prog) 128 352 (.pointer (some ⟨pb, 0, none⟩)) (.pointer (some b)) Tryz.underlying80 (by decide) w
  go_enter Tryz.func75, Tryz.ntmps75
  go_wp2
  refine wp_loop_rounds 2 ?_
  rw [rounds_succ]
  go_wp2
  rw [rounds_succ]
  go_wp2
  go_ret
  exact ⟨rfl, rfl⟩

set_option maxHeartbeats 800000 in
/-- errors.Is(nil, this). -/
theorem is_nil (b : Addr) (w : World) :
    Calls Tryz.prog 75 #[.nilIface, .iface 352 (.pointer (some b))] w fun e w' => e = .returned (.bool false) ∧ w' = w := by
  have hn := run_eql_iface_nil_left (P := Tryz.prog) w 352 (.pointer (some b)) Tryz.underlying80
  go_enter Tryz.func75, Tryz.ntmps75
  go_wp2
  go_ret
  exact ⟨rfl, rfl⟩
set_option maxHeartbeats 800000 in
/-- errors.As(nil, target). -/
theorem as_nil (t : Value) (w : World) :
    Calls Tryz.prog 74 #[.nilIface, t] w fun e w' => e = .returned (.bool false) ∧ w' = w := by
  go_enter Tryz.func74, Tryz.ntmps74
  go_wp2
  go_ret
  exact ⟨rfl, rfl⟩
end Go.Proofs.YtdhgebdbiehchaaGreatDoor
namespace Go.Proofs.YtdhgebdbiehchaaGreatDoor
open Go.RowKit Go.Extern.Stop Go.Stop Go.Extern
set_option linter.unusedSimpArgs false
set_option linter.unusedVariables false

theorem ea_valueOf (t : Addr) (w : World) : (extOf Tryz.f131 #[.iface 130 (.pointer (some t))]).run Tryz.prog w
    = .ok (.agg #[.pointer (some ⟨7, 130, none⟩), .pointer (some ⟨w.heap.size, 0, none⟩), .int .u64 150]) (w.alloc (.cells #[.pointer (some t)] 130)) := by kernel_rfl
theorem ea_type (a : Addr) (w : World) : (extOf Tryz.f132 #[.agg #[.pointer (some ⟨7, 130, none⟩), .pointer (some a), .int .u64 150]]).run Tryz.prog w
    = .ok (.iface 280 (.agg #[.pointer (some ⟨7, 130, none⟩)])) w := by kernel_rfl
theorem ea_mKind (h : Value) (w : World) : (Go.method 482 280 (.agg #[h]) "Kind").run Tryz.prog w = .ok (267, h) w := by kernel_rfl
theorem ea_kindP (w : World) : (extOf Tryz.f267 #[.pointer (some ⟨7, 130, none⟩)]).run Tryz.prog w = .ok (.int .u8 22) w := by kernel_rfl
theorem ea_kindF (w : World) : (extOf Tryz.f267 #[.pointer (some ⟨7, 128, none⟩)]).run Tryz.prog w = .ok (.int .u8 22) w := by kernel_rfl
theorem ea_parts (a : Addr) (w : World) : (ReflectliteValue.parts (.agg #[.pointer (some ⟨7, 130, none⟩), .pointer (some a), .int .u64 150])).run Tryz.prog w = .ok (some (130, a, 150)) w := by kernel_rfl
theorem ea_isNil (a p : Addr) (W : World) (ha : W.cell? a = some (.pointer (some p))) :
    (ReflectliteValue.method (ReflectliteValue.valueError "reflectlite.Value.IsNil" 0) ReflectliteValue.isNil #[.agg #[.pointer (some ⟨7, 130, none⟩), .pointer (some a), .int .u64 150]]).run Tryz.prog W = .ok (.bool false) W := by
  change Sem.run Tryz.prog (bind (ReflectliteValue.parts (.agg #[.pointer (some ⟨7, 130, none⟩), .pointer (some a), .int .u64 150])) _) W = _
  simp only [Sem.run_bind, ea_parts, Result.andThen]
  simp [ReflectliteValue.isNil, loadVar, isAgg, underlying, Tryz.underlying130, ha, Result.andThen]
theorem ea_mElem (h : Value) (w : World) : (Go.method 482 280 (.agg #[h]) "Elem").run Tryz.prog w = .ok (278, .agg #[h]) w := by kernel_rfl
theorem ea_mImplements (h : Value) (w : World) : (Go.method 482 280 (.agg #[h]) "Implements").run Tryz.prog w = .ok (279, .agg #[h]) w := by kernel_rfl
theorem ea_mAssignableTo (h : Value) (w : World) : (Go.method 482 280 (.agg #[h]) "AssignableTo").run Tryz.prog w = .ok (276, .agg #[h]) w := by kernel_rfl
theorem ea_elem (w : World) : (extOf Tryz.f278 #[.agg #[.pointer (some ⟨7, 130, none⟩)]]).run Tryz.prog w = .ok (.iface 280 (.agg #[.pointer (some ⟨7, 128, none⟩)])) w := by kernel_rfl
theorem ea_implements (w : World) : (extOf Tryz.f279 #[.agg #[.pointer (some ⟨7, 128, none⟩)], .iface 280 (.agg #[.pointer (some ⟨7, 80, none⟩)])]).run Tryz.prog w = .ok (.bool true) w := by kernel_rfl
theorem ea_typeOf (v : Value) (w : World) : (extOf Tryz.f135 #[.iface 128 v]).run Tryz.prog w = .ok (.iface 280 (.agg #[.pointer (some ⟨7, 128, none⟩)])) w := by kernel_rfl
theorem ea_assignable (w : World) : (extOf Tryz.f276 #[.agg #[.pointer (some ⟨7, 128, none⟩)], .iface 280 (.agg #[.pointer (some ⟨7, 128, none⟩)])]).run Tryz.prog w = .ok (.bool true) w := by kernel_rfl
theorem ea_valueOfF (e : Addr) (w : World) : (extOf Tryz.f131 #[.iface 128 (.pointer (some e))]).run Tryz.prog w
    = .ok (.agg #[.pointer (some ⟨7, 128, none⟩), .pointer (some ⟨w.heap.size, 0, none⟩), .int .u64 150]) (w.alloc (.cells #[.pointer (some e)] 128)) := by kernel_rfl
theorem ea_elemOf (w : World) : (Rtype.elem? 130).run Tryz.prog w = .ok (some 128) w := by kernel_rfl
theorem ea_mk (p : Addr) (w : World) : (ReflectliteValue.mk 128 p ReflectliteValue.flagAddr).run Tryz.prog w = .ok (.agg #[.pointer (some ⟨7, 128, none⟩), .pointer (some p), .int .u64 406]) w := by kernel_rfl
theorem ea_elemV (a p : Addr) (W : World) (ha : W.cell? a = some (.pointer (some p))) :
    (ReflectliteValue.method (ReflectliteValue.valueError "reflectlite.Value.Elem" 0) ReflectliteValue.elem #[.agg #[.pointer (some ⟨7, 130, none⟩), .pointer (some a), .int .u64 150]]).run Tryz.prog W
      = .ok (.agg #[.pointer (some ⟨7, 128, none⟩), .pointer (some p), .int .u64 406]) W := by
  change Sem.run Tryz.prog (bind (ReflectliteValue.parts (.agg #[.pointer (some ⟨7, 130, none⟩), .pointer (some a), .int .u64 150])) _) W = _
  simp only [Sem.run_bind, ea_parts, Result.andThen]
  simp [ReflectliteValue.elem, loadVar, isAgg, underlying, Tryz.underlying130, ha, Result.andThen, ea_elemOf, ea_mk]
theorem ea_partsA (a : Addr) (w : World) : (ReflectliteValue.parts (.agg #[.pointer (some ⟨7, 128, none⟩), .pointer (some a), .int .u64 406])).run Tryz.prog w = .ok (some (128, a, 406)) w := by kernel_rfl
theorem ea_partsF (a : Addr) (w : World) : (ReflectliteValue.parts (.agg #[.pointer (some ⟨7, 128, none⟩), .pointer (some a), .int .u64 150])).run Tryz.prog w = .ok (some (128, a, 150)) w := by kernel_rfl
theorem ea_direct (w : World) : (Rtype.directlyAssignable 128 128).run Tryz.prog w = .ok true w := by kernel_rfl
theorem ea_set (ta b e : Addr) (old : Value) (W : World) (hb : W.cell? b = some (.pointer (some e))) (ht : W.cell? ta = some old) (hf : W.frozen? ta = false) :
    (ReflectliteValue.set #[.agg #[.pointer (some ⟨7, 128, none⟩), .pointer (some ta), .int .u64 406], .agg #[.pointer (some ⟨7, 128, none⟩), .pointer (some b), .int .u64 150]]).run Tryz.prog W
      = .ok (.tuple #[]) (W.setCell ta (.pointer (some e))) := by
  change Sem.run Tryz.prog (bind (ReflectliteValue.parts (.agg #[.pointer (some ⟨7, 128, none⟩), .pointer (some ta), .int .u64 406])) fun o => bind (ReflectliteValue.parts (.agg #[.pointer (some ⟨7, 128, none⟩), .pointer (some b), .int .u64 150])) _) W = _
  simp only [Sem.run_bind, ea_partsA, ea_partsF, Result.andThen]
  simp [ReflectliteValue.flagAddr, loadVar, isAgg, underlying, Tryz.underlying128, hb, Result.andThen, ea_direct, storeVar, Value.cells, storeCells, Addr.add]
  rw [run_store Tryz.prog W ta _ _ (by rfl)]
  simp [ht, hf]
end Go.Proofs.YtdhgebdbiehchaaGreatDoor
namespace Go.Proofs.YtdhgebdbiehchaaGreatDoor
open Go.RowKit Go.Extern.Stop Go.Stop Go.Extern
set_option linter.unusedSimpArgs false
set_option linter.unusedVariables false

def valC (t : Nat) : Array Value := #[.pointer (some ⟨7, 130, none⟩), .pointer (some ⟨t, 0, none⟩), .int .u64 150]
set_option maxRecDepth 100000 in
set_option maxHeartbeats 8000000 in
theorem as_hit (e t : Addr) (old : Value) (w : World) (hg : w.cell? ⟨4, 0, none⟩ = some (.iface 280 (.agg #[.pointer (some ⟨7, 80, none⟩)]))) (ht0 : w.cell? t = some old) (hf0 : w.frozen? t = false) :
    Calls Tryz.prog 74 #[.iface 128 (.pointer (some e)), .iface 130 (.pointer (some t))] w fun ev w' => ev = .returned (.bool true) ∧ w' = ((((w.alloc (.cells #[.pointer (some t)] 130)).alloc (.cells #[.pointer (some ⟨7, 130, none⟩), .pointer (some ⟨w.heap.size, 0, none⟩), .int .u64 150] 206)).alloc (.cells #[.pointer (some ⟨7, 130, none⟩), .pointer (some ⟨w.heap.size, 0, none⟩), .int .u64 150] 206)).alloc (.cells #[.pointer (some e)] 128)).setCell t (.pointer (some e)) := by
  have h6 := @run_callFunc_extern Tryz.prog 131 _ (extOf Tryz.f131) Tryz.func131 (by kernel_rfl) (by kernel_rfl) (by kernel_rfl) (by kernel_rfl)
  have h7 := @run_callFunc_extern Tryz.prog 132 _ (extOf Tryz.f132) Tryz.func132 (by kernel_rfl) (by kernel_rfl) (by kernel_rfl) (by kernel_rfl)
  have h8 := @run_callFunc_extern Tryz.prog 133 _ (ReflectliteValue.method (ReflectliteValue.valueError "reflectlite.Value.IsNil" 0) ReflectliteValue.isNil) Tryz.func133 (by kernel_rfl) (by kernel_rfl) (by kernel_rfl) (by kernel_rfl)
  have h27 := @run_callFunc_extern Tryz.prog 267 _ (extOf Tryz.f267) Tryz.func267 (by kernel_rfl) (by kernel_rfl) (by kernel_rfl) (by kernel_rfl)
  have h37 := @run_callFunc_extern Tryz.prog 278 _ (extOf Tryz.f278) Tryz.func278 (by kernel_rfl) (by kernel_rfl) (by kernel_rfl) (by kernel_rfl)
  have h38 := @run_callFunc_extern Tryz.prog 279 _ (extOf Tryz.f279) Tryz.func279 (by kernel_rfl) (by kernel_rfl) (by kernel_rfl) (by kernel_rfl)
  have h10 := @run_callFunc_extern Tryz.prog 135 _ (extOf Tryz.f135) Tryz.func135 (by kernel_rfl) (by kernel_rfl) (by kernel_rfl) (by kernel_rfl)
  have h35 := @run_callFunc_extern Tryz.prog 276 _ (extOf Tryz.f276) Tryz.func276 (by kernel_rfl) (by kernel_rfl) (by kernel_rfl) (by kernel_rfl)
  have h11 := @run_callFunc_extern Tryz.prog 182 _ (ReflectliteValue.method (ReflectliteValue.valueError "reflectlite.Value.Elem" 0) ReflectliteValue.elem) Tryz.func182 (by kernel_rfl) (by kernel_rfl) (by kernel_rfl) (by kernel_rfl)
  have h12 := @run_callFunc_extern Tryz.prog 183 _ ReflectliteValue.set Tryz.func183 (by kernel_rfl) (by kernel_rfl) (by kernel_rfl) (by kernel_rfl)
  have tO := ea_typeOf
  have mA := ea_mAssignableTo
  have a25 := ea_assignable
  have v25 := ea_valueOfF
  have f6 := ea_valueOf
  have f7 := ea_type
  have mK := ea_mKind
  have mE := ea_mElem
  have mI := ea_mImplements
  have k27 := ea_kindP
  have k25 := ea_kindF
  have e27 := ea_elem
  have i25 := ea_implements
  have n8 := ea_isNil ⟨w.heap.size, 0, none⟩ t ((w.alloc (.cells #[.pointer (some t)] 130)).alloc (.cells #[.pointer (some ⟨7, 130, none⟩), .pointer (some ⟨w.heap.size, 0, none⟩), .int .u64 150] 206)) (by simp)
  have hlt : 4 < w.heap.size := by
    rcases Nat.lt_or_ge 4 w.heap.size with h | h
    · exact h
    · simp [World.cell?, Array.getElem?_eq_none h] at hg
  have hg2 : ((w.alloc (.cells #[.pointer (some t)] 130)).alloc (.cells #[.pointer (some ⟨7, 130, none⟩), .pointer (some ⟨w.heap.size, 0, none⟩), .int .u64 150] 206)).cell? ⟨4, 0, none⟩ = some (.iface 280 (.agg #[.pointer (some ⟨7, 80, none⟩)])) := by
    rw [World.cell?_alloc_lt _ _ ⟨4, 0, none⟩ (by simp; omega), World.cell?_alloc_lt _ _ ⟨4, 0, none⟩ hlt]; exact hg
  have htl : t.block < w.heap.size := by
    rcases Nat.lt_or_ge t.block w.heap.size with h | h
    · exact h
    · simp [World.cell?, Array.getElem?_eq_none h] at ht0
  have el := ea_elemV ⟨w.heap.size, 0, none⟩ t (((w.alloc (.cells #[.pointer (some t)] 130)).alloc (.cells #[.pointer (some ⟨7, 130, none⟩), .pointer (some ⟨w.heap.size, 0, none⟩), .int .u64 150] 206)).alloc (.cells #[.pointer (some ⟨7, 130, none⟩), .pointer (some ⟨w.heap.size, 0, none⟩), .int .u64 150] 206)) (by rw [World.cell?_alloc_lt _ _ ⟨w.heap.size, 0, none⟩ (by simp; omega)]; simp)
  have st := ea_set t ⟨w.heap.size + 1 + 1 + 1, 0, none⟩ e old ((((w.alloc (.cells #[.pointer (some t)] 130)).alloc (.cells #[.pointer (some ⟨7, 130, none⟩), .pointer (some ⟨w.heap.size, 0, none⟩), .int .u64 150] 206)).alloc (.cells #[.pointer (some ⟨7, 130, none⟩), .pointer (some ⟨w.heap.size, 0, none⟩), .int .u64 150] 206)).alloc (.cells #[.pointer (some e)] 128))
    (by rw [World.cell?_alloc_at _ _ _ _ (by simp)]; rfl)
    (by rw [World.cell?_alloc_lt _ _ t (by simp; omega), World.cell?_alloc_lt _ _ t (by simp; omega), World.cell?_alloc_lt _ _ t (by simp; omega), World.cell?_alloc_lt _ _ t htl]; exact ht0)
    (by rw [World.frozen?_alloc_old _ _ t (by simp; omega), World.frozen?_alloc_old _ _ t (by simp; omega), World.frozen?_alloc_old _ _ t (by simp; omega), World.frozen?_alloc_old _ _ t (Nat.ne_of_lt htl)]; exact hf0)
  clear hg ht0 hf0
  go_enter Tryz.func74, Tryz.ntmps74
  go_wp2
  refine wp_loop_rounds 1 ?_
  rw [rounds_succ]
  go_wp2
  go_ret
  exact ⟨rfl, rfl⟩
end Go.Proofs.YtdhgebdbiehchaaGreatDoor
namespace Go.Proofs.YtdhgebdbiehchaaGreatDoor
open Go.RowKit
set_option linter.unusedSimpArgs false
set_option linter.unusedVariables false

/-- Where the disk's errors lie. -/
structure Sent where
  room : Addr
  gone : Addr
  down : Addr
  up : Addr
  power : Addr
def Sent.all (E : Sent) : List Addr := [E.room, E.gone, E.down, E.up, E.power]
structure Env (W : World) (E : Sent) : Prop where
  halves : HalvesAt W
  et : W.cell? ⟨4, 0, none⟩ = some (.iface 280 (.agg #[.pointer (some ⟨7, 80, none⟩)]))
  room : W.cell? ⟨0, 0, none⟩ = some (.iface 352 (.pointer (some E.room)))
  gone : W.cell? ⟨5, 0, none⟩ = some (.iface 352 (.pointer (some E.gone)))
  down : W.cell? ⟨1, 0, none⟩ = some (.iface 352 (.pointer (some E.down)))
  up : W.cell? ⟨3, 0, none⟩ = some (.iface 352 (.pointer (some E.up)))
  power : W.cell? ⟨2, 0, none⟩ = some (.iface 352 (.pointer (some E.power)))
  cells : ∀ a ∈ E.all, ∃ c t, W.heap[a.block]? = some (.cells c t (0, 0))
  nodup : E.all.Nodup
theorem cell_lt {W : World} {p : Addr} {v : Value} (h : W.cell? p = some v) : p.block < W.heap.size := by
  rcases Nat.lt_or_ge p.block W.heap.size with h' | h'
  · exact h'
  · simp [World.cell?, Array.getElem?_eq_none h'] at h
theorem Env.below {W w : World} {E : Sent} (h : Env W E) (hB : Below W.heap.size W w) : Env w E := by
  have f : ∀ {p : Addr} {v : Value}, W.cell? p = some v → w.cell? p = some v := fun hp => (hB.cell (cell_lt hp)).trans hp
  exact ⟨h.halves.below hB h.halves.1, f h.et, f h.room, f h.gone, f h.down, f h.up, f h.power, fun a ha => by
    obtain ⟨c, t, hc⟩ := h.cells a ha
    exact ⟨c, t, (hB.block a.block (Array.getElem?_eq_some_iff.1 hc).1).trans hc⟩, h.nodup⟩

theorem is_fault (pb : Nat) (a b : Addr) (w : World) (h1 : w.cell? ⟨pb, 2, none⟩ = some (.iface 352 (.pointer (some a)))) (ha : ∃ c t, w.heap[a.block]? = some (.cells c t (0, 0))) (hb : ∃ c t, w.heap[b.block]? = some (.cells c t (0, 0))) :
    Calls Tryz.prog 75 #[.iface 128 (.pointer (some ⟨pb, 0, none⟩)), .iface 352 (.pointer (some b))] w fun e w' => e = .returned (.bool (decide (a = b))) ∧ w' = w := by
  by_cases h : a = b
  · subst h
    rw [decide_eq_true rfl]
    exact is_wrap_same pb a w h1
  · rw [decide_eq_false h]
    obtain ⟨ca, ta, ha⟩ := ha
    obtain ⟨cb, tb, hb⟩ := hb
    exact is_wrap_other pb b a ca cb ta tb w h1 h ha hb

/-- The number by which a call answers. -/
def errNo (E : Sent) (a : Addr) : Int := if a = E.room then 6 else if a = E.down then 7 else if a = E.power then 8 else if a = E.up then 1 else 2

set_option maxRecDepth 100000 in
set_option maxHeartbeats 800000 in
theorem answer_nil (w : World) : Calls Tryz.prog 41 #[.nilIface] w fun e w' => e = .returned (.int .i64 0) ∧ Below w.heap.size w w' := by
  go_enter Tryz.func41, Tryz.ntmps41
  go_wp2_with fail
  refine (as_nil _ _).mono ?_
  rintro e w1 ⟨rfl, rfl⟩
  go_wp2
  go_ret
  exact ⟨rfl, (Below.refl _ _).alloc (Nat.le_refl _) _⟩

set_option maxRecDepth 100000 in
set_option maxHeartbeats 1600000 in
theorem answer_fault (E : Sent) (b : Nat) (a : Addr) (w : World) (hE : Env w E) (hb : w.cell? ⟨b, 2, none⟩ = some (.iface 352 (.pointer (some a)))) (ha : a ∈ E.all) :
    Calls Tryz.prog 41 #[.iface 128 (.pointer (some ⟨b, 0, none⟩))] w fun e w' => e = .returned (.int .i64 (errNo E a)) ∧ Below w.heap.size w w' := by
  have hbl := cell_lt hb
  have HE : Hid (∀ wx, Below w.heap.size w wx → Env wx E) := fun wx hx => hE.below hx
  have HA : Hid _ := as_hit ⟨b, 0, none⟩ ⟨w.heap.size, 0, none⟩ (.pointer none) (w.alloc (.cells #[.pointer none] 128)) ((hE.below ((Below.refl _ _).alloc (Nat.le_refl _) _)).et) (by simp) (by simp)
  have HIS : Hid (∀ (c : Addr) (wx : World), c ∈ E.all → Below w.heap.size w wx → Calls Tryz.prog 75 #[.iface 128 (.pointer (some ⟨b, 0, none⟩)), .iface 352 (.pointer (some c))] wx fun e w' => e = .returned (.bool (decide (a = c))) ∧ w' = wx) := fun c wx hc hx =>
    is_fault b a c wx ((hx.cell (p := ⟨b, 2, none⟩) hbl).trans hb) ((hE.below hx).cells a ha) ((hE.below hx).cells c hc)
  have HN : Hid (errNo E a = if a = E.room then 6 else if a = E.down then 7 else if a = E.power then 8 else if a = E.up then 1 else 2) := rfl
  have m1 : Hid (E.room ∈ E.all) := by show _ ∈ _; simp [Sent.all]
  have m2 : Hid (E.down ∈ E.all) := by show _ ∈ _; simp [Sent.all]
  have m3 : Hid (E.power ∈ E.all) := by show _ ∈ _; simp [Sent.all]
  have m4 : Hid (E.up ∈ E.all) := by show _ ∈ _; simp [Sent.all]
  clear hE hb ha
  go_enter Tryz.func41, Tryz.ntmps41
  go_wp2_with fail
  refine Calls.mono HA.out ?_
  rintro e w1 ⟨rfl, hw1⟩
  have hB1 : Below w.heap.size w w1 := by
    rw [hw1]
    exact ((((((Below.refl _ _).alloc (Nat.le_refl _) _).alloc (by simp) _).alloc (by simp; omega) _).alloc (by simp; omega) _).alloc (by simp; omega) _).setCell (Nat.le_refl _) _
  have hc1 : w1.cell? ⟨w.heap.size, 0, none⟩ = some (.pointer (some ⟨b, 0, none⟩)) := by
    rw [hw1, World.cell?_setCell_same _ _ _ (by rw [World.cell?_alloc_lt _ _ ⟨w.heap.size, 0, none⟩ (by simp; omega), World.cell?_alloc_lt _ _ ⟨w.heap.size, 0, none⟩ (by simp; omega), World.cell?_alloc_lt _ _ ⟨w.heap.size, 0, none⟩ (by simp; omega), World.cell?_alloc_lt _ _ ⟨w.heap.size, 0, none⟩ (by simp)]; exact World.cell?_alloc_at _ _ _ _ rfl)]
  have hE1 := HE.out w1 hB1
  have g0 := hE1.room
  have g1 := hE1.down
  have g2 := hE1.power
  have g3 := hE1.up
  have H1 : Hid _ := HIS.out E.room w1 m1.out hB1
  have H2 : Hid _ := HIS.out E.down w1 m2.out hB1
  have H3 : Hid _ := HIS.out E.power w1 m3.out hB1
  have H4 : Hid _ := HIS.out E.up w1 m4.out hB1
  clear hw1 HA hE1 HE HIS m1 m2 m3 m4
  by_cases q1 : a = E.room
  · rw [if_pos q1] at HN
    rw [decide_eq_true q1] at H1
    clear q1 H2 H3 H4
    go_wp2_with fail
    refine Calls.mono H1.out ?_
    rintro e w2 ⟨rfl, rfl⟩
    go_wp2
    go_ret
    exact ⟨ret_int HN.out.symm, hB1⟩
  rw [if_neg q1] at HN
  rw [decide_eq_false q1] at H1
  clear q1
  go_wp2_with fail
  refine Calls.mono H1.out ?_
  rintro e w2 ⟨rfl, rfl⟩
  clear H1
  by_cases q2 : a = E.down
  · rw [if_pos q2] at HN
    rw [decide_eq_true q2] at H2
    clear q2 H3 H4
    go_wp2_with fail
    refine Calls.mono H2.out ?_
    rintro e w3 ⟨rfl, rfl⟩
    go_wp2
    go_ret
    exact ⟨ret_int HN.out.symm, hB1⟩
  rw [if_neg q2] at HN
  rw [decide_eq_false q2] at H2
  clear q2
  go_wp2_with fail
  refine Calls.mono H2.out ?_
  rintro e w3 ⟨rfl, rfl⟩
  clear H2
  by_cases q3 : a = E.power
  · rw [if_pos q3] at HN
    rw [decide_eq_true q3] at H3
    clear q3 H4
    go_wp2_with fail
    refine Calls.mono H3.out ?_
    rintro e w4 ⟨rfl, rfl⟩
    go_wp2
    go_ret
    exact ⟨ret_int HN.out.symm, hB1⟩
  rw [if_neg q3] at HN
  rw [decide_eq_false q3] at H3
  clear q3
  go_wp2_with fail
  refine Calls.mono H3.out ?_
  rintro e w4 ⟨rfl, rfl⟩
  clear H3
  by_cases q4 : a = E.up
  · rw [if_pos q4] at HN
    rw [decide_eq_true q4] at H4
    clear q4
    go_wp2_with fail
    refine Calls.mono H4.out ?_
    rintro e w5 ⟨rfl, rfl⟩
    go_wp2
    go_ret
    exact ⟨ret_int HN.out.symm, hB1⟩
  rw [if_neg q4] at HN
  rw [decide_eq_false q4] at H4
  clear q4
  go_wp2_with fail
  refine Calls.mono H4.out ?_
  rintro e w5 ⟨rfl, rfl⟩
  clear H4
  go_wp2
  go_ret
  exact ⟨ret_int HN.out.symm, hB1⟩
end Go.Proofs.YtdhgebdbiehchaaGreatDoor
namespace Go.Proofs.YtdhgebdbiehchaaGreatDoor
open Go.RowKit
set_option linter.unusedSimpArgs false
set_option linter.unusedVariables false

/-- An entry, and where it stands. -/
structure Sd where
  put : Bool
  key : List UInt8
  val : List UInt8
  blk : Nat
  no : Nat

def saids (a : Nat) : Nat → List Ent → List Sd
  | _, [] => []
  | i, e :: es => ⟨e.put, e.key, e.val, a, i⟩ :: saids a (i + 1) es
theorem saids_length (a i : Nat) (es : List Ent) : (saids a i es).length = es.length := by
  induction es generalizing i with
  | nil => rfl
  | cons e es ih => simp [saids, ih]
theorem saids_snoc (a i : Nat) (es : List Ent) (e : Ent) : saids a i (es ++ [e]) = saids a i es ++ [⟨e.put, e.key, e.val, a, i + es.length⟩] := by
  induction es generalizing i with
  | nil => rfl
  | cons f es ih => simp [saids, ih]; omega
theorem saids_take {a : Nat} {es : List Ent} {k : Nat} (h : k < es.length) : saids a 0 (es.take (k + 1)) = saids a 0 (es.take k) ++ [⟨es[k].put, es[k].key, es[k].val, a, k⟩] := by
  rw [List.take_succ_eq_append_getElem h, saids_snoc]
  simp; omega

/-- The entries of all right blocks from a byte on, and where they end. -/
def readF : Nat → List UInt8 → Int → Nat → List Sd × Nat
  | 0, _, _, a => ([], a)
  | n + 1, log, blk, a => match blockP log a blk with
    | none => ([], a)
    | some (es, k) => (saids a 0 es ++ (readF n log blk (a + k)).1, (readF n log blk (a + k)).2)
def readL (log : List UInt8) (blk : Int) (a : Nat) : List Sd × Nat := readF (log.length - a) log blk a
theorem readF_fuel (log : List UInt8) (blk : Int) (n m a : Nat) (hn : log.length - a ≤ n) (hm : log.length - a ≤ m) : readF n log blk a = readF m log blk a := by
  induction n generalizing m a with
  | zero =>
    cases m with
    | zero => rfl
    | succ m =>
      rw [readF, readF]
      cases h : blockP log a blk with
      | none => rfl
      | some x =>
        have := blockP_some (es := x.1) (k := x.2) h
        omega
  | succ n ih =>
    cases m with
    | zero =>
      rw [readF, readF]
      cases h : blockP log a blk with
      | none => rfl
      | some x =>
        have := blockP_some (es := x.1) (k := x.2) h
        omega
    | succ m =>
      rw [readF, readF]
      cases h : blockP log a blk with
      | none => rfl
      | some x =>
        obtain ⟨es, k⟩ := x
        have := blockP_some h
        simp only
        rw [ih m (a + k) (by omega) (by omega)]
theorem readL_none {log : List UInt8} {blk : Int} {a : Nat} (h : blockP log a blk = none) : readL log blk a = ([], a) := by
  unfold readL
  cases log.length - a with
  | zero => rfl
  | succ n => rw [readF, h]
theorem readL_some {log : List UInt8} {blk : Int} {a k : Nat} {es : List Ent} (h : blockP log a blk = some (es, k)) : readL log blk a = (saids a 0 es ++ (readL log blk (a + k)).1, (readL log blk (a + k)).2) := by
  have := blockP_some h
  unfold readL
  obtain ⟨n, hn⟩ : ∃ n, log.length - a = n + 1 := ⟨log.length - a - 1, by omega⟩
  rw [hn, readF, h]
  simp only
  rw [readF_fuel log blk n (log.length - (a + k)) (a + k) (by omega) (Nat.le_refl _)]

/-- Those that are a key's last, and puts, in order. -/
def liveL : List Sd → List Sd
  | [] => []
  | x :: l => if x.put = true ∧ ∀ y ∈ l, y.key ≠ x.key then x :: liveL l else liveL l
theorem liveL_mem {l : List Sd} {x : Sd} (h : x ∈ liveL l) : x ∈ l ∧ x.put = true := by
  induction l with
  | nil => simp [liveL] at h
  | cons y l ih =>
    rw [liveL] at h
    split at h
    · rename_i hc
      rcases List.mem_cons.1 h with rfl | h
      · exact ⟨List.mem_cons_self, hc.1⟩
      · exact ⟨List.mem_cons_of_mem _ (ih h).1, (ih h).2⟩
    · exact ⟨List.mem_cons_of_mem _ (ih h).1, (ih h).2⟩
theorem liveL_le (l : List Sd) : (liveL l).length ≤ l.length := by
  induction l with
  | nil => simp [liveL]
  | cons x l ih =>
    rw [liveL]
    split <;> simp <;> omega
/-- By one entry more. -/
theorem liveL_snoc (l : List Sd) (x : Sd) : liveL (l ++ [x]) = (liveL l).filter (fun y => decide (y.key ≠ x.key)) ++ (if x.put = true then [x] else []) := by
  induction l with
  | nil =>
    simp only [List.nil_append, liveL, List.filter_nil]
    by_cases h : x.put = true <;> simp [h]
  | cons y l ih =>
    rw [List.cons_append, liveL, liveL, ih]
    by_cases h1 : y.put = true ∧ ∀ z ∈ l, z.key ≠ y.key
    · rw [if_pos h1]
      by_cases h2 : x.key = y.key
      · rw [if_neg (by rintro ⟨_, h⟩; exact h x (by simp) h2)]
        simp [h2]
      · rw [if_pos ⟨h1.1, fun z hz => by
          rcases List.mem_append.1 hz with hz | hz
          · exact h1.2 z hz
          · simp at hz; subst hz; exact h2⟩]
        rw [List.filter_cons_of_pos (by simpa using fun h => h2 h.symm)]
        rfl
    · rw [if_neg h1, if_neg (by rintro ⟨ha, hb⟩; exact h1 ⟨ha, fun z hz => hb z (by simp [hz])⟩)]
/-- No two of them have one key. -/
theorem liveL_keys (l : List Sd) : (liveL l).Pairwise (fun x y => x.key ≠ y.key) := by
  induction l with
  | nil => exact List.Pairwise.nil
  | cons x l ih =>
    rw [liveL]
    split
    · rename_i h
      exact List.Pairwise.cons (fun y hy => fun e => h.2 y (liveL_mem hy).1 e.symm) ih
    · exact ih

/-- Places rise. -/
def placeLt (x y : Sd) : Prop := x.blk < y.blk ∨ (x.blk = y.blk ∧ x.no < y.no)
theorem saids_rise (a i : Nat) (es : List Ent) : (saids a i es).Pairwise placeLt ∧ ∀ x ∈ saids a i es, x.blk = a ∧ i ≤ x.no ∧ x.no < i + es.length := by
  induction es generalizing i with
  | nil => exact ⟨List.Pairwise.nil, by simp [saids]⟩
  | cons e es ih =>
    obtain ⟨h1, h2⟩ := ih (i + 1)
    refine ⟨List.Pairwise.cons (fun y hy => .inr ⟨?_, ?_⟩) h1, fun x hx => ?_⟩
    · exact (h2 y hy).1.symm
    · have := h2 y hy; simp; omega
    · rcases List.mem_cons.1 hx with rfl | hx
      · simp
      · have := h2 x hx; simp; omega
theorem readF_rise (log : List UInt8) (blk : Int) (n a : Nat) : (readF n log blk a).1.Pairwise placeLt ∧ (∀ x ∈ (readF n log blk a).1, a ≤ x.blk ∧ x.blk < log.length ∧ x.no < 255) ∧ a ≤ (readF n log blk a).2 ∧ (a ≤ log.length → (readF n log blk a).2 ≤ log.length) := by
  induction n generalizing a with
  | zero => exact ⟨List.Pairwise.nil, by simp [readF], Nat.le_refl _, fun h => h⟩
  | succ n ih =>
    rw [readF]
    cases h : blockP log a blk with
    | none => exact ⟨List.Pairwise.nil, by simp, Nat.le_refl _, fun h => h⟩
    | some x =>
      obtain ⟨es, k⟩ := x
      have hb := blockP_some h
      obtain ⟨h1, h2, h3, h4⟩ := ih (a + k)
      obtain ⟨s1, s2⟩ := saids_rise a 0 es
      simp only
      refine ⟨?_, ?_, by omega, fun _ => h4 (by omega)⟩
      · rw [List.pairwise_append]
        refine ⟨s1, h1, fun x hx y hy => .inl ?_⟩
        have := s2 x hx
        have := h2 y hy
        omega
      · intro x hx
        rcases List.mem_append.1 hx with hx | hx
        · have := s2 x hx; omega
        · have := h2 x hx; omega
theorem liveL_sub (l : List Sd) : (liveL l).Sublist l := by
  induction l with
  | nil => exact List.Sublist.refl _
  | cons x l ih =>
    rw [liveL]
    split
    · exact ih.cons_cons x
    · exact ih.cons x
theorem liveL_rise {l : List Sd} (h : l.Pairwise placeLt) : (liveL l).Pairwise placeLt := h.sublist (liveL_sub l)

/-- What stands in a slot: a key's number, and its place. -/
structure Slt where
  num : Nat
  blk : Nat
  no : Nat
def awayN (n : Nat) (x : Slt) (a : Nat) : Nat := (a + n - x.num % n) % n
theorem awayN_lt {n : Nat} (h : 0 < n) (x : Slt) (a : Nat) : awayN n x a < n := Nat.mod_lt _ h

/-- How many slots. -/
def sizeF : Nat → Nat → Nat → Nat
  | 0, _, s => s
  | f + 1, n, s => if s ≤ 5 * n / 4 then sizeF f n (2 * s) else s
def sizeL (n : Nat) : Nat := sizeF 12 n 4

/-- Put in: what is nearer to its home gives way, and goes on. -/
def putF : Nat → List (Option Slt) → Slt → Nat → List (Option Slt)
  | 0, t, _, _ => t
  | f + 1, t, x, a => match t[a]? with
    | some (some y) => if awayN t.length y a < awayN t.length x a then putF f (t.set a (some x)) y ((a + 1) % t.length) else putF f t x ((a + 1) % t.length)
    | _ => t.set a (some x)
def putL (t : List (Option Slt)) (x : Slt) : List (Option Slt) := putF t.length t x (x.num % t.length)
theorem putF_length (f : Nat) (t : List (Option Slt)) (x : Slt) (a : Nat) : (putF f t x a).length = t.length := by
  induction f generalizing t x a with
  | zero => rfl
  | succ f ih =>
    rw [putF]
    split
    · split
      · rw [ih]; simp
      · rw [ih]
    · simp
/-- From here on a free slot is met within so many steps. -/
def gap (n e a : Nat) : Nat := (e + n - a) % n
theorem gap_step {n e a : Nat} (ha : a < n) (he : e < n) (hne : a ≠ e) : gap n e ((a + 1) % n) + 1 = gap n e a := by
  unfold gap
  by_cases h : a + 1 < n
  · rw [Nat.mod_eq_of_lt h]
    by_cases h2 : a < e
    · have e1 : e + n - (a + 1) = (e - (a + 1)) + n := by omega
      have e2 : e + n - a = (e - a) + n := by omega
      rw [e1, e2, Nat.add_mod_right, Nat.add_mod_right, Nat.mod_eq_of_lt (by omega), Nat.mod_eq_of_lt (by omega)]
      omega
    · rw [Nat.mod_eq_of_lt (a := e + n - (a + 1)) (by omega), Nat.mod_eq_of_lt (a := e + n - a) (by omega)]
      omega
  · have : a + 1 = n := by omega
    rw [this, Nat.mod_self, Nat.sub_zero, Nat.add_mod_right, Nat.mod_eq_of_lt he, Nat.mod_eq_of_lt (a := e + n - a) (by omega)]
    omega
theorem gap_lt {n e a : Nat} (hn : 0 < n) : gap n e a < n := Nat.mod_lt _ hn
/-- Any store of steps that suffices tells the same. -/
theorem putF_fuel (n e : Nat) (he : e < n) : ∀ (f g : Nat) (t : List (Option Slt)) (x : Slt) (a : Nat), t.length = n → a < n → t[e]? = some none → gap n e a < f → gap n e a < g → putF f t x a = putF g t x a := by
  intro f
  induction f with
  | zero => intro g t x a _ _ _ h _; omega
  | succ f ih =>
    intro g t x a hl ha hE hf hg
    obtain ⟨g, rfl⟩ : ∃ g', g = g' + 1 := ⟨g - 1, by omega⟩
    rw [putF, putF]
    split
    · rename_i y hy
      have hne : a ≠ e := by
        intro h; subst h; rw [hE] at hy; cases hy
      have hs := gap_step ha he hne
      have ha' : (a + 1) % n < n := Nat.mod_lt _ (by omega)
      rw [hl]
      split
      · exact ih g _ _ _ (by simp [hl]) ha' (by rw [List.getElem?_set_ne hne]; exact hE) (by omega) (by omega)
      · exact ih g _ _ _ hl ha' hE (by omega) (by omega)
    · rfl
/-- How many are full. -/
def fullN (t : List (Option Slt)) : Nat := (t.filter Option.isSome).length
theorem fullN_set {t : List (Option Slt)} {a : Nat} {x : Slt} (h : t[a]? = some none) : fullN (t.set a (some x)) = fullN t + 1 := by
  induction t generalizing a with
  | nil => simp at h
  | cons y t ih =>
    cases a with
    | zero => simp at h; subst h; simp [fullN]
    | succ a =>
      have := ih (a := a) (by simpa using h)
      unfold fullN at this ⊢
      rw [List.set_cons_succ, List.filter_cons, List.filter_cons]
      split <;> simp [this]
theorem fullN_swap {t : List (Option Slt)} {a : Nat} {x y : Slt} (h : t[a]? = some (some y)) : fullN (t.set a (some x)) = fullN t := by
  induction t generalizing a with
  | nil => simp at h
  | cons z t ih =>
    cases a with
    | zero => simp at h; subst h; simp [fullN]
    | succ a =>
      have := ih (a := a) (by simpa using h)
      unfold fullN at this ⊢
      rw [List.set_cons_succ, List.filter_cons, List.filter_cons]
      split <;> simp [this]
theorem fullN_free {t : List (Option Slt)} (h : fullN t < t.length) : ∃ e, e < t.length ∧ t[e]? = some none := by
  induction t with
  | nil => simp at h
  | cons y t ih =>
    cases y with
    | none => exact ⟨0, by simp, rfl⟩
    | some y =>
      obtain ⟨e, h1, h2⟩ := ih (by simp [fullN] at h ⊢; omega)
      exact ⟨e + 1, by simp; omega, by simpa using h2⟩
theorem fullN_put (n e : Nat) (he : e < n) : ∀ (f : Nat) (t : List (Option Slt)) (x : Slt) (a : Nat), t.length = n → a < n → t[e]? = some none → gap n e a < f → fullN (putF f t x a) = fullN t + 1 := by
  intro f
  induction f with
  | zero => intro t x a _ _ _ h; omega
  | succ f ih =>
    intro t x a hl ha hE hf
    rw [putF]
    split
    · rename_i y hy
      have hne : a ≠ e := by
        intro h; subst h; rw [hE] at hy; cases hy
      have hs := gap_step ha he hne
      have ha' : (a + 1) % n < n := Nat.mod_lt _ (by omega)
      rw [hl]
      split
      · rw [ih _ _ _ (by simp [hl]) ha' (by rw [List.getElem?_set_ne hne]; exact hE) (by omega), fullN_swap hy]
      · rw [ih _ _ _ hl ha' hE (by omega)]
    · rename_i hx
      have hsome : t[a]? = some t[a] := List.getElem?_eq_getElem (by omega)
      cases hy : t[a] with
      | none => exact fullN_set (by rw [hsome, hy])
      | some y => exact absurd (by rw [hsome, hy]) (hx y)

theorem sizeF_big (f n s : Nat) (h : 5 * n / 4 < s * 2 ^ f) : 5 * n / 4 < sizeF f n s := by
  induction f generalizing s with
  | zero => simpa [sizeF] using h
  | succ f ih =>
    rw [sizeF]
    split
    · exact ih (2 * s) (by rw [Nat.pow_succ] at h; rw [Nat.mul_comm 2 s, Nat.mul_assoc, Nat.mul_comm 2]; exact h)
    · omega
theorem sizeF_bound (f n s b : Nat) (h0 : s ≤ b) (h : 2 * (5 * n / 4) ≤ b) : sizeF f n s ≤ b := by
  induction f generalizing s with
  | zero => exact h0
  | succ f ih =>
    rw [sizeF]
    split
    · exact ih (2 * s) (by omega)
    · exact h0
theorem sizeF_ge (f n s : Nat) : s ≤ sizeF f n s := by
  induction f generalizing s with
  | zero => exact Nat.le_refl _
  | succ f ih =>
    rw [sizeF]
    split
    · exact Nat.le_trans (by omega) (ih (2 * s))
    · exact Nat.le_refl _
theorem sizeL_big {n : Nat} (h : n ≤ 2000) : 5 * n / 4 < sizeL n := sizeF_big 12 n 4 (by omega)
theorem sizeL_bound {n : Nat} (h : n ≤ 2000) : 4 ≤ sizeL n ∧ sizeL n ≤ 5000 := ⟨sizeF_ge 12 n 4, sizeF_bound 12 n 4 5000 (by omega) (by omega)⟩

/-- A key's slot, as it is put in. -/
def sltOf (seed bits : Int) (x : Sd) : Slt := ⟨(numberI seed bits x.key).toNat, x.blk, x.no⟩
def fillL (n : Nat) (xs : List Slt) : List (Option Slt) := xs.foldl putL (List.replicate n none)
theorem fillL_snoc (n : Nat) (xs : List Slt) (x : Slt) : fillL n (xs ++ [x]) = putL (fillL n xs) x := by
  unfold fillL; rw [List.foldl_append]; rfl
theorem foldl_put_length (xs : List Slt) (t : List (Option Slt)) : (xs.foldl putL t).length = t.length := by
  induction xs generalizing t with
  | nil => rfl
  | cons x xs ih => rw [List.foldl_cons, ih, putL, putF_length]
theorem fillL_length (n : Nat) (xs : List Slt) : (fillL n xs).length = n := by
  unfold fillL; rw [foldl_put_length]; simp
theorem foldl_put_full (xs : List Slt) (t : List (Option Slt)) (h : fullN t + xs.length ≤ t.length) (hp : 0 < t.length) : fullN (xs.foldl putL t) = fullN t + xs.length := by
  induction xs generalizing t with
  | nil => rfl
  | cons x xs ih =>
    obtain ⟨e, h1, h2⟩ := fullN_free (t := t) (by simp at h; omega)
    have e1 : fullN (putL t x) = fullN t + 1 := fullN_put t.length e h1 t.length t x (x.num % t.length) rfl (Nat.mod_lt _ hp) h2 (gap_lt hp)
    have e2 : (putL t x).length = t.length := putF_length _ _ _ _
    rw [List.foldl_cons, ih (putL t x) (by rw [e1, e2]; simp at h; omega) (by omega), e1]
    simp; omega
theorem fillL_full {n : Nat} {xs : List Slt} (h : xs.length ≤ n) (hn : 0 < n) : fullN (fillL n xs) = xs.length := by
  have h0 : fullN (List.replicate n (none : Option Slt)) = 0 := by simp [fullN]
  unfold fillL
  rw [foldl_put_full xs _ (by rw [h0]; simp; omega) (by simp; omega), h0]
  omega
/-- There is a free slot for one more. -/
theorem fillL_free {n : Nat} {xs : List Slt} (h : xs.length < n) : ∃ e, e < n ∧ (fillL n xs)[e]? = some none := by
  have := fullN_free (t := fillL n xs) (by rw [fillL_length, fillL_full (by omega) (by omega)]; exact h)
  rwa [fillL_length] at this

/-- How far the farthest of the first so many stands from its home. -/
def farP (n : Nat) (t : List (Option Slt)) : Nat → Nat
  | 0 => 0
  | k + 1 => match t.getD k none with
    | none => farP n t k
    | some x => max (farP n t k) (awayN n x k)
theorem farP_none {n k : Nat} {t : List (Option Slt)} (h : t[k]? = some none) : farP n t (k + 1) = farP n t k := by
  rw [farP, List.getD, h]; rfl
theorem farP_some {n k : Nat} {t : List (Option Slt)} {x : Slt} (h : t[k]? = some (some x)) : farP n t (k + 1) = max (farP n t k) (awayN n x k) := by
  rw [farP, List.getD, h]; rfl
theorem farP_lt {n : Nat} (hn : 0 < n) (t : List (Option Slt)) (k : Nat) : farP n t k < n := by
  induction k with
  | zero => exact hn
  | succ k ih =>
    rw [farP]
    split
    · exact ih
    · have := awayN_lt hn (by assumption) k
      omega

/-- The bytes of a slot. -/
def sltB : Option Slt → List UInt8
  | none => lowL 0 10
  | some x => lowL 1 1 ++ lowL x.num 4 ++ lowL x.blk 4 ++ lowL x.no 1
theorem lowL_len (n k : Nat) : (lowL n k).length = k := by
  induction k generalizing n with
  | zero => rfl
  | succ k ih => simp [lowL, ih]
theorem sltB_length (x : Option Slt) : (sltB x).length = 10 := by
  cases x <;> simp [sltB, lowL_len]
def tabB (t : List (Option Slt)) : List UInt8 := t.flatMap sltB
theorem tabB_snoc (t : List (Option Slt)) (x : Option Slt) : tabB (t ++ [x]) = tabB t ++ sltB x := by simp [tabB]
theorem tabB_length (t : List (Option Slt)) : (tabB t).length = 10 * t.length := by
  induction t with
  | nil => rfl
  | cons x t ih =>
    show (sltB x ++ tabB t).length = _
    rw [List.length_append, ih, sltB_length, List.length_cons]; omega
def frontB (live slots far size sum : Nat) : List UInt8 := [73, 88] ++ lowL live 2 ++ lowL slots 2 ++ lowL far 2 ++ lowL size 4 ++ lowL sum 4
theorem frontB_length (a b c d e : Nat) : (frontB a b c d e).length = 16 := by simp [frontB, lowL_len]

/-- The index of a log whose live entries these are. -/
def tableOf (seed bits : Int) (live : List Sd) : List (Option Slt) := fillL (sizeL live.length) (live.map (sltOf seed bits))
def indexB (log : List UInt8) (seed bits : Int) (live : List Sd) : List UInt8 :=
  sealL (frontB live.length (sizeL live.length) (farP (sizeL live.length) (tableOf seed bits live) (sizeL live.length)) log.length (sumI log).toNat) ++ sealL (tabB (tableOf seed bits live))
/-- What Index answers; nothing: ErrForm. -/
def indexS (log : List UInt8) : Option (List UInt8) :=
  if 100000 < log.length then none
  else if headB log = false then none
  else if (readL log (hdBlk log) 14).2 < log.length then none
  else if 2000 < (liveL (readL log (hdBlk log) 14).1).length then none
  else some (indexB log (hdSeed log) (hdBits log) (liveL (readL log (hdBlk log) 14).1))

/-- How far something stands, as the document reckons it, and as the program does. -/
theorem awayN_ref {n a : Nat} (x : Slt) (ha : a < n) : awayN n x a = if a < x.num % n then a + n - x.num % n else a - x.num % n := by
  have hh : x.num % n < n := Nat.mod_lt _ (by omega)
  unfold awayN
  split
  · rw [Nat.mod_eq_of_lt (by omega)]
  · rw [show a + n - x.num % n = (a - x.num % n) + n by omega, Nat.add_mod_right, Nat.mod_eq_of_lt (by omega)]
theorem awayN_prog {n a : Nat} (x : Slt) (ha : a < n) : ((a : Int) - (x.num : Int) % (n : Int) + (n : Int)) % (n : Int) = (awayN n x a : Nat) := by
  have hh : x.num % n < n := Nat.mod_lt _ (by omega)
  have e : (a : Int) - (x.num : Int) % (n : Int) + (n : Int) = ((a + n - x.num % n : Nat) : Int) := by
    have : (x.num : Int) % (n : Int) = ((x.num % n : Nat) : Int) := by simp
    omega
  rw [e]
  unfold awayN
  simp

end Go.Proofs.YtdhgebdbiehchaaGreatDoor
namespace Go.Proofs.YtdhgebdbiehchaaGreatDoor
open Go.RowKit
set_option linter.unusedSimpArgs false
set_option linter.unusedVariables false

/-- The ten bytes of a slot. -/
def slotL (ix : List UInt8) (i : Nat) : List UInt8 := (ix.drop (20 + 10 * i)).take 10

/-- An answer: a value, how many slots, an error. -/
structure Ans where
  val : List UInt8
  num : Nat
  err : Int

/-- What the block of a slot leads to; nothing: on to the next. -/
def entStep (key : List UInt8) (k : Nat) (r : Option (List Ent × Nat)) (no : Nat) : Option Ans :=
  match r with
  | none => some ⟨[], 0, 3⟩
  | some (es, _) => match es[no]? with
    | none => some ⟨[], 0, 3⟩
    | some e => if e.put = false then some ⟨[], 0, 3⟩ else if e.key = key then some ⟨e.val, k + 1, 0⟩ else none
def slotStep (log key : List UInt8) (want : Nat) (blk : Int) (k : Nat) (s : List UInt8) : Option Ans :=
  if (s.getD 0 0).toNat = 0 then some ⟨[], k + 1, 2⟩
  else if (s.getD 0 0).toNat ≠ 1 ∨ highL ((s.drop 1).take 4) ≠ want then none
  else entStep key k (blockP log (highL ((s.drop 5).take 4)) blk) (s.getD 9 0).toNat

def lookGo (log ix key : List UInt8) (want n : Nat) (blk : Int) : Nat → Nat → Ans
  | 0, k => ⟨[], k, 2⟩
  | m + 1, k => match slotStep log key want blk k (slotL ix ((want + k) % n)) with
    | some a => a
    | none => lookGo log ix key want n blk m (k + 1)
theorem lookGo_some {log ix key : List UInt8} {want n m k : Nat} {blk : Int} {a : Ans} (h : slotStep log key want blk k (slotL ix ((want + k) % n)) = some a) : lookGo log ix key want n blk (m + 1) k = a := by
  rw [lookGo, h]
theorem lookGo_none {log ix key : List UInt8} {want n m k : Nat} {blk : Int} (h : slotStep log key want blk k (slotL ix ((want + k) % n)) = none) : lookGo log ix key want n blk (m + 1) k = lookGo log ix key want n blk m (k + 1) := by
  rw [lookGo, h]

def lookS (log ix key : List UInt8) : Ans :=
  if beginsE log ix = 0 then lookGo log ix key (numberI (hdSeed log) (hdBits log) key).toNat (ixN ix) (hdBlk log) (ixFar ix + 1) 0
  else ⟨[], 0, beginsE log ix⟩

theorem own_cells3 {w : World} {base e n : Nat} {v : Value} {xs : List Value} (h : w.ownsRow base e 3 v n xs) (hn : 0 < n) : ∃ g cap, v = .slice (some ⟨g, 0, none⟩) n cap ∧ base ≤ g ∧ g < w.heap.size ∧ ∀ j, j < n * 3 → w.cell? ⟨g, j, none⟩ = xs[j]? := by
  obtain ⟨h1, h2⟩ := h
  rcases h2 with ⟨_, h0⟩ | ⟨g, cap, cur, rfl, hb, hg, hc, hm, hsz, ht⟩
  · omega
  · refine ⟨g, cap, rfl, hb, (Array.getElem?_eq_some_iff.1 hg).1, fun j hj => World.ownsRow.cellAt (w := w) ⟨h1, .inr ⟨g, cap, cur, rfl, hb, hg, hc, hm, hsz, ht⟩⟩ j hj⟩
theorem cellsE_get {es : List Ent} {i : Nat} (h : i < es.length) : (cellsE es)[i * 3]? = some (.bool es[i].put) ∧ (cellsE es)[i * 3 + 1]? = some (.string (S es[i].key)) ∧ (cellsE es)[i * 3 + 2]? = some (.string (S es[i].val)) := by
  induction es generalizing i with
  | nil => simp at h
  | cons e es ih =>
    cases i with
    | zero => exact ⟨rfl, rfl, rfl⟩
    | succ i =>
      have := ih (i := i) (by simpa using h)
      have e1 : ∀ j, (cellsE (e :: es))[(i + 1) * 3 + j]? = (cellsE es)[i * 3 + j]? := fun j => by
        show ([.bool e.put, .string (S e.key), .string (S e.val)] ++ cellsE es)[(i + 1) * 3 + j]? = _
        rw [List.getElem?_append_right (by simp; omega)]
        congr 1
        simp; omega
      exact ⟨(e1 0).trans this.1, (e1 1).trans this.2.1, (e1 2).trans this.2.2⟩
theorem numberI_range (seed bits : Int) (key : List UInt8) (h0 : 0 ≤ bits) (h1 : bits ≤ 32) : 0 ≤ numberI seed bits key ∧ numberI seed bits key < 4294967296 := by
  unfold numberI
  have hp : (1 : Int) ≤ 2 ^ bits.toNat ∧ (2 : Int) ^ bits.toNat ≤ 4294967296 := by
    have h1 : (1 : Nat) ≤ 2 ^ bits.toNat := Nat.one_le_two_pow
    have h2 : (2 : Nat) ^ bits.toNat ≤ 2 ^ 32 := Nat.pow_le_pow_right (by omega) (by omega)
    have h3 : ((2 ^ bits.toNat : Nat) : Int) = 2 ^ bits.toNat := by simp
    omega
  have a := Int.emod_nonneg (fnv F0 (lowL seed.toNat 4 ++ key)) (show (2 : Int) ^ bits.toNat ≠ 0 by omega)
  have b := Int.emod_lt_of_pos (fnv F0 (lowL seed.toNat 4 ++ key)) (show (0 : Int) < 2 ^ bits.toNat by omega)
  omega
end Go.Proofs.YtdhgebdbiehchaaGreatDoor
