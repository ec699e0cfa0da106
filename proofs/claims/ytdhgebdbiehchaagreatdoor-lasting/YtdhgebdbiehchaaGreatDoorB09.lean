/- On the way: Open, KeOpen. -/
import Derived.Test.YtdhgebdbiehchaaGreatDoorB08
import Derived.ProofKit
import Derived.Deep.Slices
import Derived.Deep.Strs
import Derived.SizedLaws
import Derived.Test.YtdhgebdbiehchaaGreatDoorB07
namespace Go.Proofs.YtdhgebdbiehchaaGreatDoor
open Go.ChangeShapes Go.WideShapes Go.ChangeAt Go.WideMaps Go.WideElems Go.RowKit Go.Deep
set_option linter.unusedSimpArgs false
set_option linter.unusedVariables false
theorem cells_int : Tryz.prog.cellsOf 3 = 1 := by kernel_rfl
theorem ten {α : Type} {l : List α} (h : l.length = 10) : ∃ a b c d e f g i j k,l = [a,b,c,d,e,f,g,i,j,k] := by
 match l,h with
 | [a,b,c,d,e,f,g,i,j,k],_ => exact ⟨a,b,c,d,e,f,g,i,j,k,rfl⟩
section
variable {H : Type} {enc : TypeId × Value -> H} {w : World} {base : Nat} {spare : Nat -> Bool} {held : Bool}
def OpV.data (o : OpV) : DataW H := .agg [.lit (.int .i64 o.kind),.lit (.int .i64 o.at'),.lit (.int .i64 o.x),.lit (.int .i64 o.y),.lit (.string o.s.data.toList),.lit (.string o.t.data.toList),.lit (.string o.u.data.toList),.agg [.lit (.int .i64 o.c0),.lit (.int .i64 o.c1),.lit (.int .i64 o.c2)]]
theorem add_off (b off i : Nat) : (⟨b,off,none⟩ : Addr).add i = ⟨b,off + i,none⟩ := by unfold Addr.add; split <;> simp_all
end
section
variable {H : Type} {enc : TypeId × Value -> H} {w : World} {held : Bool}
theorem open_ints {fuel : Nat} {a0 : Option Addr} {len cap : Nat} {x : DataW H × List MemPlace} (h : DataW.trod enc Tryz.prog w 0 (fun _ => true) held fuel 25 [.slice a0 len cap] = some x) (hlt : ∀ p ∈ x.2,p.block < w.heap.size) :
  ∃ L : List Int,L.length = len /\ IntsAt w a0 L /\ (∀ z ∈ L,IntR z) /\ len <= 9223372036854775807 := by
 rcases open_slice1 Tryz.underlying25 cells_int h with ⟨hcs,rfl⟩ | ⟨a,len',cap',m,n,V,D,Pl,hcs,_,hl,hcap,hm,rfl,hel⟩
 ·simp at hcs
  obtain ⟨rfl,rfl,rfl⟩ := hcs
  exact ⟨[],rfl,.inl rfl,fun z hz => by simp at hz,by omega⟩
 ·simp at hcs
  obtain ⟨rfl,rfl,rfl⟩ := hcs
  simp only [if_true] at hm
  subst hm
  have hmax : len <= 9223372036854775807 := by unfold maxLen at hcap; omega
  have hel' : ∀ i,i < len -> ∃ z : Int,w.cell? (a.add i) = some (.int .i64 z) /\ IntR z := by
   intro i hi
   obtain ⟨h1,h2⟩ := hel i (by omega)
   obtain ⟨z,e1,e2,r⟩ := DataW.trod_int Tryz.underlying3 h2
   simp [Lit.wf,IntKind.min,IntKind.max,IntKind.signed,IntKind.bits] at r
   simp only [List.cons.injEq,and_true] at e1
   rw [e1] at h1
   exact ⟨z,h1,by unfold IntR; omega⟩
  haveI : Inhabited Int := ⟨0⟩
  obtain ⟨f,hf⟩ := choose_lt (α := Int) hel'
  refine ⟨(List.range len).map f,by simp,?_,?_,hmax⟩
  ·by_cases h0 : len = 0
   ·subst h0; exact .inl rfl
   right
   obtain ⟨b,off,spot⟩ := a
   have hspot : spot = none := by
    obtain ⟨h1,_⟩ := hf 0 (by omega)
    have := World.cell?_spot h1
    simpa [Addr.add] using this
   subst hspot
   refine ⟨b,off,rfl,hlt (.cell b off) (by simp only [List.mem_append]; exact .inl (MemPlace.mem_row.2 ⟨0,by omega,by simp⟩)),?_⟩
   intro k hk
   simp only [List.length_map,List.length_range] at hk
   simp only [List.getElem_map,List.getElem_range]
   obtain ⟨h1,_⟩ := hf k hk
   rw [add_off] at h1
   exact h1
  ·intro z hz
   obtain ⟨i,hi,rfl⟩ := List.mem_map.1 hz
   exact (hf i (by simpa using hi)).2
end
end Go.Proofs.YtdhgebdbiehchaaGreatDoor
