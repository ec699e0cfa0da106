/- On the way: Errs, ErrsAs, ErrsHit. -/
import Derived.Test.YtdhgebdbiehchaaGreatDoorB02
import Derived.LaidEql
import Derived.Stop.Asserts
import Derived.RowKitTokens
namespace Go.Proofs.YtdhgebdbiehchaaGreatDoor
open Go.RowKit Go.Extern.Stop Go.Stop Go.Extern
set_option linter.unusedSimpArgs false
set_option linter.unusedVariables false
set_option maxRecDepth 100000
set_option maxHeartbeats 8000000
theorem ef_typeOf (v : Value) (w : World) : (Extern.ReflectliteType.typeOf #[.iface 352 v]).run Tryz.prog w = .ok (.iface 280 (.agg #[.pointer (some ⟨7,352,none⟩)])) w := by kernel_rfl
def extOf (f : Func) : Array Value -> Sem Value := (Extern.find f).getD fun _ => pure (.tuple #[])
theorem ef_comparable (w : World) : (extOf Tryz.f277 #[.agg #[.pointer (some ⟨7,352,none⟩)]]).run Tryz.prog w = .ok (.bool true) w := by kernel_rfl
theorem ef_mComparable (v : Value) (w : World) : (Go.method 482 280 v "Comparable").run Tryz.prog w = .ok (277,v) w := by kernel_rfl
theorem ef_mUnwrap (v : Value) (w : World) : (Go.method 482 128 v "Unwrap").run Tryz.prog w = .ok (271,v) w := by kernel_rfl
theorem ef_comp : (Tryz.prog.info? 352).map (·.comparable) = some true := by kernel_rfl
theorem ef_size : (Tryz.prog.info? 370).map (·.size) = some 1 := by kernel_rfl
theorem ef_noIsE (v : Value) (xT : TypeId) (w : World) : (Instr.typeAssert (.iface 352 v) xT 291 true).run Tryz.prog w = .ok (.tuple #[.nilIface,.bool false]) w := run_typeAssert_lacksB Tryz.underlying291 (by kernel_rfl) (by kernel_rfl) v xT w
theorem ef_noUnwrapE (v : Value) (xT : TypeId) (w : World) : (Instr.typeAssert (.iface 352 v) xT 287 true).run Tryz.prog w = .ok (.tuple #[.nilIface,.bool false]) w := run_typeAssert_lacksB Tryz.underlying287 (by kernel_rfl) (by kernel_rfl) v xT w
theorem ef_noUnwrapsE (v : Value) (xT : TypeId) (w : World) : (Instr.typeAssert (.iface 352 v) xT 288 true).run Tryz.prog w = .ok (.tuple #[.nilIface,.bool false]) w := run_typeAssert_lacksB Tryz.underlying288 (by kernel_rfl) (by kernel_rfl) v xT w
theorem ef_noIsW (v : Value) (xT : TypeId) (w : World) : (Instr.typeAssert (.iface 128 v) xT 291 true).run Tryz.prog w = .ok (.tuple #[.nilIface,.bool false]) w := run_typeAssert_lacksB Tryz.underlying291 (by kernel_rfl) (by kernel_rfl) v xT w
theorem ef_hasUnwrapW (v : Value) (xT : TypeId) (w : World) : (Instr.typeAssert (.iface 128 v) xT 287 true).run Tryz.prog w = .ok (.tuple #[.iface 128 v,.bool true]) w := run_typeAssert_hasB Tryz.underlying287 (by kernel_rfl) v xT w
theorem is_wrap_same (pb : Nat) (b : Addr) (w : World) (h1 : w.cell? ⟨pb,2,none⟩ = some (.iface 352 (.pointer (some b)))) :
  Calls Tryz.prog 75 #[.iface 128 (.pointer (some ⟨pb,0,none⟩)),.iface 352 (.pointer (some b))] w fun e w' => e = .returned (.bool true) /\ w' = w := by
 obtain ⟨i,hi,hcmp⟩ := Option.map_eq_some_iff.1 ef_comp
 obtain ⟨j,hj,hjs⟩ := Option.map_eq_some_iff.1 ef_size
 have h8 := @run_callFunc_extern Tryz.prog 135 _ Extern.ReflectliteType.typeOf Tryz.func135 (by kernel_rfl) (by kernel_rfl) (by kernel_rfl) (by kernel_rfl)
 have h32 := @run_callFunc_extern Tryz.prog 277 _ (extOf Tryz.f277) Tryz.func277 (by kernel_rfl) (by kernel_rfl) (by kernel_rfl) (by kernel_rfl)
 have tT := ef_typeOf
 have cT := ef_comparable
 have mR := ef_mComparable
 have nE := ef_noIsE
 have uE := ef_noUnwrapE
 have vE := ef_noUnwrapsE
 have nW := ef_noIsW
 have uW := ef_hasUnwrapW
 have mU := ef_mUnwrap
 have heq := run_eql_iface_ptr_same (P := Tryz.prog) w b Tryz.underlying80 Tryz.underlying352 hi hcmp hj
 have hty := run_eql_iface_types (P := Tryz.prog) 128 352 (.pointer (some ⟨pb,0,none⟩)) (.pointer (some b)) Tryz.underlying80 (by decide) w
 go_enter Tryz.func75,Tryz.ntmps75
 go_wp2
 refine wp_loop_rounds 2 ?_
 rw [rounds_succ]
 go_wp2
 rw [rounds_succ]
 go_wp2
 go_ret
 exact ⟨rfl,rfl⟩
theorem is_wrap_other (pb : Nat) (b a : Addr) (ca cb : Array Value) (ta tb : TypeId) (w : World) (h1 : w.cell? ⟨pb,2,none⟩ = some (.iface 352 (.pointer (some a)))) (hne : a ≠ b) (ha : w.heap[a.block]? = some (.cells ca ta (0,0))) (hb : w.heap[b.block]? = some (.cells cb tb (0,0))) :
  Calls Tryz.prog 75 #[.iface 128 (.pointer (some ⟨pb,0,none⟩)),.iface 352 (.pointer (some b))] w fun e w' => e = .returned (.bool false) /\ w' = w := by
 obtain ⟨i,hi,hcmp⟩ := Option.map_eq_some_iff.1 ef_comp
 obtain ⟨j,hj,hjs⟩ := Option.map_eq_some_iff.1 ef_size
 have h8 := @run_callFunc_extern Tryz.prog 135 _ Extern.ReflectliteType.typeOf Tryz.func135 (by kernel_rfl) (by kernel_rfl) (by kernel_rfl) (by kernel_rfl)
 have h32 := @run_callFunc_extern Tryz.prog 277 _ (extOf Tryz.f277) Tryz.func277 (by kernel_rfl) (by kernel_rfl) (by kernel_rfl) (by kernel_rfl)
 have tT := ef_typeOf
 have cT := ef_comparable
 have mR := ef_mComparable
 have nE := ef_noIsE
 have uE := ef_noUnwrapE
 have vE := ef_noUnwrapsE
 have nW := ef_noIsW
 have uW := ef_hasUnwrapW
 have mU := ef_mUnwrap
 have heq := run_eql_iface_ptr_other (P := Tryz.prog) w Tryz.underlying80 Tryz.underlying352 hi hcmp hj (by rw [hjs]; decide) hne ha hb
 have hty := run_eql_iface_types (P := Tryz.prog) 128 352 (.pointer (some ⟨pb,0,none⟩)) (.pointer (some b)) Tryz.underlying80 (by decide) w
 go_enter Tryz.func75,Tryz.ntmps75
 go_wp2
 refine wp_loop_rounds 2 ?_
 rw [rounds_succ]
 go_wp2
 rw [rounds_succ]
 go_wp2
 go_ret
 exact ⟨rfl,rfl⟩
theorem is_nil (b : Addr) (w : World) :
  Calls Tryz.prog 75 #[.nilIface,.iface 352 (.pointer (some b))] w fun e w' => e = .returned (.bool false) /\ w' = w := by
 have hn := run_eql_iface_nil_left (P := Tryz.prog) w 352 (.pointer (some b)) Tryz.underlying80
 go_enter Tryz.func75,Tryz.ntmps75
 go_wp2
 go_ret
 exact ⟨rfl,rfl⟩
theorem as_nil (t : Value) (w : World) :
  Calls Tryz.prog 74 #[.nilIface,t] w fun e w' => e = .returned (.bool false) /\ w' = w := by
 go_enter Tryz.func74,Tryz.ntmps74
 go_wp2
 go_ret
 exact ⟨rfl,rfl⟩
theorem ea_valueOf (t : Addr) (w : World) : (extOf Tryz.f131 #[.iface 130 (.pointer (some t))]).run Tryz.prog w
  = .ok (.agg #[.pointer (some ⟨7,130,none⟩),.pointer (some ⟨w.heap.size,0,none⟩),.int .u64 150]) (w.alloc (.cells #[.pointer (some t)] 130)) := by kernel_rfl
theorem ea_type (a : Addr) (w : World) : (extOf Tryz.f132 #[.agg #[.pointer (some ⟨7,130,none⟩),.pointer (some a),.int .u64 150]]).run Tryz.prog w
  = .ok (.iface 280 (.agg #[.pointer (some ⟨7,130,none⟩)])) w := by kernel_rfl
theorem ea_mKind (h : Value) (w : World) : (Go.method 482 280 (.agg #[h]) "Kind").run Tryz.prog w = .ok (267,h) w := by kernel_rfl
theorem ea_kindP (w : World) : (extOf Tryz.f267 #[.pointer (some ⟨7,130,none⟩)]).run Tryz.prog w = .ok (.int .u8 22) w := by kernel_rfl
theorem ea_kindF (w : World) : (extOf Tryz.f267 #[.pointer (some ⟨7,128,none⟩)]).run Tryz.prog w = .ok (.int .u8 22) w := by kernel_rfl
theorem ea_parts (a : Addr) (w : World) : (ReflectliteValue.parts (.agg #[.pointer (some ⟨7,130,none⟩),.pointer (some a),.int .u64 150])).run Tryz.prog w = .ok (some (130,a,150)) w := by kernel_rfl
theorem ea_isNil (a p : Addr) (W : World) (ha : W.cell? a = some (.pointer (some p))) :
  (ReflectliteValue.method (ReflectliteValue.valueError "reflectlite.Value.IsNil" 0) ReflectliteValue.isNil #[.agg #[.pointer (some ⟨7,130,none⟩),.pointer (some a),.int .u64 150]]).run Tryz.prog W = .ok (.bool false) W := by
 change Sem.run Tryz.prog (bind (ReflectliteValue.parts (.agg #[.pointer (some ⟨7,130,none⟩),.pointer (some a),.int .u64 150])) _) W = _
 simp only [Sem.run_bind,ea_parts,Result.andThen]
 simp [ReflectliteValue.isNil,loadVar,isAgg,underlying,Tryz.underlying130,ha,Result.andThen]
theorem ea_mElem (h : Value) (w : World) : (Go.method 482 280 (.agg #[h]) "Elem").run Tryz.prog w = .ok (278,.agg #[h]) w := by kernel_rfl
theorem ea_mImplements (h : Value) (w : World) : (Go.method 482 280 (.agg #[h]) "Implements").run Tryz.prog w = .ok (279,.agg #[h]) w := by kernel_rfl
theorem ea_mAssignableTo (h : Value) (w : World) : (Go.method 482 280 (.agg #[h]) "AssignableTo").run Tryz.prog w = .ok (276,.agg #[h]) w := by kernel_rfl
theorem ea_elem (w : World) : (extOf Tryz.f278 #[.agg #[.pointer (some ⟨7,130,none⟩)]]).run Tryz.prog w = .ok (.iface 280 (.agg #[.pointer (some ⟨7,128,none⟩)])) w := by kernel_rfl
theorem ea_implements (w : World) : (extOf Tryz.f279 #[.agg #[.pointer (some ⟨7,128,none⟩)],.iface 280 (.agg #[.pointer (some ⟨7,80,none⟩)])]).run Tryz.prog w = .ok (.bool true) w := by kernel_rfl
theorem ea_typeOf (v : Value) (w : World) : (extOf Tryz.f135 #[.iface 128 v]).run Tryz.prog w = .ok (.iface 280 (.agg #[.pointer (some ⟨7,128,none⟩)])) w := by kernel_rfl
theorem ea_assignable (w : World) : (extOf Tryz.f276 #[.agg #[.pointer (some ⟨7,128,none⟩)],.iface 280 (.agg #[.pointer (some ⟨7,128,none⟩)])]).run Tryz.prog w = .ok (.bool true) w := by kernel_rfl
theorem ea_valueOfF (e : Addr) (w : World) : (extOf Tryz.f131 #[.iface 128 (.pointer (some e))]).run Tryz.prog w
  = .ok (.agg #[.pointer (some ⟨7,128,none⟩),.pointer (some ⟨w.heap.size,0,none⟩),.int .u64 150]) (w.alloc (.cells #[.pointer (some e)] 128)) := by kernel_rfl
theorem ea_elemOf (w : World) : (Rtype.elem? 130).run Tryz.prog w = .ok (some 128) w := by kernel_rfl
theorem ea_mk (p : Addr) (w : World) : (ReflectliteValue.mk 128 p ReflectliteValue.flagAddr).run Tryz.prog w = .ok (.agg #[.pointer (some ⟨7,128,none⟩),.pointer (some p),.int .u64 406]) w := by kernel_rfl
theorem ea_elemV (a p : Addr) (W : World) (ha : W.cell? a = some (.pointer (some p))) :
  (ReflectliteValue.method (ReflectliteValue.valueError "reflectlite.Value.Elem" 0) ReflectliteValue.elem #[.agg #[.pointer (some ⟨7,130,none⟩),.pointer (some a),.int .u64 150]]).run Tryz.prog W
   = .ok (.agg #[.pointer (some ⟨7,128,none⟩),.pointer (some p),.int .u64 406]) W := by
 change Sem.run Tryz.prog (bind (ReflectliteValue.parts (.agg #[.pointer (some ⟨7,130,none⟩),.pointer (some a),.int .u64 150])) _) W = _
 simp only [Sem.run_bind,ea_parts,Result.andThen]
 simp [ReflectliteValue.elem,loadVar,isAgg,underlying,Tryz.underlying130,ha,Result.andThen,ea_elemOf,ea_mk]
theorem ea_partsA (a : Addr) (w : World) : (ReflectliteValue.parts (.agg #[.pointer (some ⟨7,128,none⟩),.pointer (some a),.int .u64 406])).run Tryz.prog w = .ok (some (128,a,406)) w := by kernel_rfl
theorem ea_partsF (a : Addr) (w : World) : (ReflectliteValue.parts (.agg #[.pointer (some ⟨7,128,none⟩),.pointer (some a),.int .u64 150])).run Tryz.prog w = .ok (some (128,a,150)) w := by kernel_rfl
theorem ea_direct (w : World) : (Rtype.directlyAssignable 128 128).run Tryz.prog w = .ok true w := by kernel_rfl
theorem ea_set (ta b e : Addr) (old : Value) (W : World) (hb : W.cell? b = some (.pointer (some e))) (ht : W.cell? ta = some old) (hf : W.frozen? ta = false) :
  (ReflectliteValue.set #[.agg #[.pointer (some ⟨7,128,none⟩),.pointer (some ta),.int .u64 406],.agg #[.pointer (some ⟨7,128,none⟩),.pointer (some b),.int .u64 150]]).run Tryz.prog W
   = .ok (.tuple #[]) (W.setCell ta (.pointer (some e))) := by
 change Sem.run Tryz.prog (bind (ReflectliteValue.parts (.agg #[.pointer (some ⟨7,128,none⟩),.pointer (some ta),.int .u64 406])) fun o => bind (ReflectliteValue.parts (.agg #[.pointer (some ⟨7,128,none⟩),.pointer (some b),.int .u64 150])) _) W = _
 simp only [Sem.run_bind,ea_partsA,ea_partsF,Result.andThen]
 simp [ReflectliteValue.flagAddr,loadVar,isAgg,underlying,Tryz.underlying128,hb,Result.andThen,ea_direct,storeVar,Value.cells,storeCells,Addr.add]
 rw [run_store Tryz.prog W ta _ _ (by rfl)]
 simp [ht,hf]
theorem as_hit (e t : Addr) (old : Value) (w : World) (hg : w.cell? ⟨4,0,none⟩ = some (.iface 280 (.agg #[.pointer (some ⟨7,80,none⟩)]))) (ht0 : w.cell? t = some old) (hf0 : w.frozen? t = false) :
  Calls Tryz.prog 74 #[.iface 128 (.pointer (some e)),.iface 130 (.pointer (some t))] w fun ev w' => ev = .returned (.bool true) /\ w' = ((((w.alloc (.cells #[.pointer (some t)] 130)).alloc (.cells #[.pointer (some ⟨7,130,none⟩),.pointer (some ⟨w.heap.size,0,none⟩),.int .u64 150] 206)).alloc (.cells #[.pointer (some ⟨7,130,none⟩),.pointer (some ⟨w.heap.size,0,none⟩),.int .u64 150] 206)).alloc (.cells #[.pointer (some e)] 128)).setCell t (.pointer (some e)) := by
 have h6 := @run_callFunc_extern Tryz.prog 131 _ (extOf Tryz.f131) Tryz.func131 (by kernel_rfl) (by kernel_rfl) (by kernel_rfl) (by kernel_rfl)
 have h7 := @run_callFunc_extern Tryz.prog 132 _ (extOf Tryz.f132) Tryz.func132 (by kernel_rfl) (by kernel_rfl) (by kernel_rfl) (by kernel_rfl)
 have h8 := @run_callFunc_extern Tryz.prog 133 _ (ReflectliteValue.method (ReflectliteValue.valueError "reflectlite.Value.IsNil" 0) ReflectliteValue.isNil) Tryz.func133 (by kernel_rfl) (by kernel_rfl) (by kernel_rfl) (by kernel_rfl)
 have h27 := @run_callFunc_extern Tryz.prog 267 _ (extOf Tryz.f267) Tryz.func267 (by kernel_rfl) (by kernel_rfl) (by kernel_rfl) (by kernel_rfl)
 have h37 := @run_callFunc_extern Tryz.prog 278 _ (extOf Tryz.f278) Tryz.func278 (by kernel_rfl) (by kernel_rfl) (by kernel_rfl) (by kernel_rfl)
 have h38 := @run_callFunc_extern Tryz.prog 279 _ (extOf Tryz.f279) Tryz.func279 (by kernel_rfl) (by kernel_rfl) (by kernel_rfl) (by kernel_rfl)
 have h10 := @run_callFunc_extern Tryz.prog 135 _ (extOf Tryz.f135) Tryz.func135 (by kernel_rfl) (by kernel_rfl) (by kernel_rfl) (by kernel_rfl)
 have h35 := @run_callFunc_extern Tryz.prog 276 _ (extOf Tryz.f276) Tryz.func276 (by kernel_rfl) (by kernel_rfl) (by kernel_rfl) (by kernel_rfl)
 have h11 := @run_callFunc_extern Tryz.prog 182 _ (ReflectliteValue.method (ReflectliteValue.valueError "reflectlite.Value.Elem" 0) ReflectliteValue.elem) Tryz.func182 (by kernel_rfl) (by kernel_rfl) (by kernel_rfl) (by kernel_rfl)
 have h12 := @run_callFunc_extern Tryz.prog 183 _ ReflectliteValue.set Tryz.func183 (by kernel_rfl) (by kernel_rfl) (by kernel_rfl) (by kernel_rfl)
 have tO := ea_typeOf
 have mA := ea_mAssignableTo
 have a25 := ea_assignable
 have v25 := ea_valueOfF
 have f6 := ea_valueOf
 have f7 := ea_type
 have mK := ea_mKind
 have mE := ea_mElem
 have mI := ea_mImplements
 have k27 := ea_kindP
 have k25 := ea_kindF
 have e27 := ea_elem
 have i25 := ea_implements
 have n8 := ea_isNil ⟨w.heap.size,0,none⟩ t ((w.alloc (.cells #[.pointer (some t)] 130)).alloc (.cells #[.pointer (some ⟨7,130,none⟩),.pointer (some ⟨w.heap.size,0,none⟩),.int .u64 150] 206)) (by simp)
 have hlt : 4 < w.heap.size := by
  rcases Nat.lt_or_ge 4 w.heap.size with h | h
  ·exact h
  ·simp [World.cell?,Array.getElem?_eq_none h] at hg
 have hg2 : ((w.alloc (.cells #[.pointer (some t)] 130)).alloc (.cells #[.pointer (some ⟨7,130,none⟩),.pointer (some ⟨w.heap.size,0,none⟩),.int .u64 150] 206)).cell? ⟨4,0,none⟩ = some (.iface 280 (.agg #[.pointer (some ⟨7,80,none⟩)])) := by
  rw [World.cell?_alloc_lt _ _ ⟨4,0,none⟩ (by simp; omega),World.cell?_alloc_lt _ _ ⟨4,0,none⟩ hlt]; exact hg
 have htl : t.block < w.heap.size := by
  rcases Nat.lt_or_ge t.block w.heap.size with h | h
  ·exact h
  ·simp [World.cell?,Array.getElem?_eq_none h] at ht0
 have el := ea_elemV ⟨w.heap.size,0,none⟩ t (((w.alloc (.cells #[.pointer (some t)] 130)).alloc (.cells #[.pointer (some ⟨7,130,none⟩),.pointer (some ⟨w.heap.size,0,none⟩),.int .u64 150] 206)).alloc (.cells #[.pointer (some ⟨7,130,none⟩),.pointer (some ⟨w.heap.size,0,none⟩),.int .u64 150] 206)) (by rw [World.cell?_alloc_lt _ _ ⟨w.heap.size,0,none⟩ (by simp; omega)]; simp)
 have st := ea_set t ⟨w.heap.size + 1 + 1 + 1,0,none⟩ e old ((((w.alloc (.cells #[.pointer (some t)] 130)).alloc (.cells #[.pointer (some ⟨7,130,none⟩),.pointer (some ⟨w.heap.size,0,none⟩),.int .u64 150] 206)).alloc (.cells #[.pointer (some ⟨7,130,none⟩),.pointer (some ⟨w.heap.size,0,none⟩),.int .u64 150] 206)).alloc (.cells #[.pointer (some e)] 128))
  (by rw [World.cell?_alloc_at _ _ _ _ (by simp)]; rfl)
  (by rw [World.cell?_alloc_lt _ _ t (by simp; omega),World.cell?_alloc_lt _ _ t (by simp; omega),World.cell?_alloc_lt _ _ t (by simp; omega),World.cell?_alloc_lt _ _ t htl]; exact ht0)
  (by rw [World.frozen?_alloc_old _ _ t (by simp; omega),World.frozen?_alloc_old _ _ t (by simp; omega),World.frozen?_alloc_old _ _ t (by simp; omega),World.frozen?_alloc_old _ _ t (Nat.ne_of_lt htl)]; exact hf0)
 clear hg ht0 hf0
 go_enter Tryz.func74,Tryz.ntmps74
 go_wp2
 refine wp_loop_rounds 1 ?_
 rw [rounds_succ]
 go_wp2
 go_ret
 exact ⟨rfl,rfl⟩
end Go.Proofs.YtdhgebdbiehchaaGreatDoor
