/- On the way: PGet, RfBuild, PSaid. -/
import Derived.Test.YtdhgebdbiehchaaGreatDoorB38
import Derived.Test.YtdhgebdbiehchaaGreatDoorB40
import Derived.Test.YtdhgebdbiehchaaGreatDoorB37
import Derived.Test.YtdhgebdbiehchaaGreatDoorB41
import Derived.Test.YtdhgebdbiehchaaGreatDoorB30
namespace Go.Proofs.YtdhgebdbiehchaaGreatDoor
open Go.RowKit Go.Maps
set_option linter.unusedSimpArgs false
set_option linter.unusedVariables false


theorem Maps2.chg {W W' : World} {F : Nat -> Prop} {bi bp n : Nat} {L : List Sd} (h : Maps2 W bi bp n L) (hc : Chg F W W') (h1 : ¬ F bi) (h2 : ¬ F bp) : Maps2 W' bi bp n L := by
 obtain ⟨DI,DP,⟨a,b,c⟩,d,e⟩ := h
 exact ⟨DI,DP,⟨ownMap_chg a hc h1,b,c⟩,ownMap_chg d hc h2,e⟩
theorem map_not_box {W : World} {k : TypeId} {R : Value -> Option (DataW Unit × List MemPlace)} {b n g : Nat} {D : DataW Unit} {cs : Array Value} {t : TypeId} (h : W.ownsMap Tryz.prog k R b n D) (hx : Bx W g cs t) : b ≠ g := by
 rintro rfl
 obtain ⟨es,ck,h1,r⟩ := h
 rw [show W.heap[b]? = _ from hx] at h1
 cases h1
theorem Maps2.set5 {W : World} {bi bp n b : Nat} {L : List Sd} {v0 v1 v2 v3 v4 : Value} {t : TypeId} (h : Maps2 W bi bp n L) (hx : Bx W b #[v0,v1,v2,v3,v4] t) (a0 a1 a2 a3 a4 : Value) : Maps2 (((((W.setCell ⟨b,0,none⟩ a0).setCell ⟨b,1,none⟩ a1).setCell ⟨b,2,none⟩ a2).setCell ⟨b,3,none⟩ a3).setCell ⟨b,4,none⟩ a4) bi bp n L := by
 have h' := h
 obtain ⟨DI,DP,⟨a,_,_⟩,d,_⟩ := h'
 have e1 := map_not_box a hx
 have e2 := map_not_box d hx
 exact h.chg (F := fun k => k = b) ((((((Chg.refl (fun k => k = b) W).set b 0 a0 (.inl rfl)).set b 1 a1 (.inl rfl)).set b 2 a2 (.inl rfl)).set b 3 a3 (.inl rfl)).set b 4 a4 (.inl rfl)) e1 e2
end Go.Proofs.YtdhgebdbiehchaaGreatDoor
