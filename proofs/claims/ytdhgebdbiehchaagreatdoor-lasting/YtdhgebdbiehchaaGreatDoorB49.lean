/- On the way: Laid. -/
import Derived.Test.YtdhgebdbiehchaaGreatDoorRows
import Derived.Test.YtdhgebdbiehchaaGreatDoorB08
import Derived.LaidMore
import Derived.OpenShut
namespace Go.Proofs.YtdhgebdbiehchaaGreatDoor
open Go.RowKit
set_option linter.unusedSimpArgs false
set_option linter.unusedVariables false
theorem gHalves : Tryz.prog.globalNamed "ledge/sums.halves" = some 6 := by kernel_rfl
theorem tHalves : (Tryz.prog.globals[6]?).map (·.type) = some 309 := by kernel_rfl
theorem cells_u32 : Tryz.prog.cellsOf 227 = 1 := by kernel_rfl
theorem halves_datum : Rows.laid_ledge_sums_halves (H := Unit) = .agg (halvesL.map fun n : Nat => .lit (.int .u32 (n : Int))) := rfl
theorem halves_of_vars {W : World} {r : List (String × DataW Unit)} {ps : List MemPlace} (h : DataW.LaidVars Tryz.prog W (("ledge/sums.halves",Rows.laid_ledge_sums_halves) :: r) ps) : HalvesAt W := by
 obtain ⟨g0,t0,cs0,f0,p0,q0,hg0,ht0,hv0,hd0,_,_⟩ := h
 obtain rfl := Option.some.inj (gHalves.symm.trans hg0)
 obtain rfl := Option.some.inj (tHalves.symm.trans ht0)
 have hcell : ∀ i,i < 16 -> W.cell? ⟨6,i,none⟩ = some (.int .u32 (halvesL.getD i 0 : Nat)) := by
  intro i hi
  obtain ⟨xs,m1,rfl,hx1,hlen,hn3,hel⟩ := DataW.trod_array Tryz.underlying309 hd0
  have h0 := hel i hi
  rw [cells_u32,Nat.mul_one] at h0
  have hxi : i < xs.length := by omega
  rw [List.getElem?_eq_getElem hxi] at h0
  obtain ⟨k,e1,e2,_⟩ := DataW.trod_int Tryz.underlying227 h0
  simp only [Prod.mk.injEq] at hx1
  have hm := hx1.1
  rw [halves_datum] at hm
  simp only [DataW.agg.injEq] at hm
  have hm2 : (halvesL.map fun n : Nat => (DataW.lit (.int .u32 (n : Int)) : DataW Unit))[i]? = (xs.map (·.1))[i]? := by rw [hm]
  have hl : i < halvesL.length := hi
  rw [List.getElem?_map,List.getElem?_map,List.getElem?_eq_getElem hxi,List.getElem?_eq_getElem hl,e2] at hm2
  simp at hm2
  have hc := World.var?_cell gHalves hv0 i
  have hcs : cs0[i]? = some (.int .u32 k) := by
   have h3 : (cs0.toList.drop i).take 1 = [.int .u32 k] := e1
   have h4 : ((cs0.toList.drop i).take 1)[0]? = some (.int .u32 k) := by rw [h3]; rfl
   rw [List.getElem?_take_of_lt (by omega),List.getElem?_drop] at h4
   simpa using h4
  rw [hc,hcs,<- hm2,List.getD_eq_getElem?_getD,List.getElem?_eq_getElem hl]
  rfl
 refine ⟨?_,hcell⟩
 have := hcell 0 (by omega)
 rcases Nat.lt_or_ge 6 W.heap.size with h | h
 ·exact h
 ·simp [World.cell?,Array.getElem?_eq_none h] at this
end Go.Proofs.YtdhgebdbiehchaaGreatDoor
