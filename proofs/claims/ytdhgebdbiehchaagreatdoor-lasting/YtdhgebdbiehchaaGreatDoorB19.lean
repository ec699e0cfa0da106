/- On the way: Conv. -/
import Derived.Test.YtdhgebdbiehchaaGreatDoorB02
import Derived.Lib.SmallJoins
namespace Go.Proofs.YtdhgebdbiehchaaGreatDoor
open Go.RowKit
set_option linter.unusedSimpArgs false
set_option linter.unusedVariables false
theorem conv_own {w : World} {base n : Nat} {v : Value} {l : List UInt8} (h : w.ownsRow base 5 1 v n (cellsB l)) : (convert 43 9 v).run Tryz.prog w = .ok (.string (S l)) w := by
 have hn : l.length = n := by have := h.1; rw [cellsB_length] at this; omega
 subst hn
 rcases h.2 with ⟨rfl,h0⟩ | ⟨g,cap,cur,rfl,hb,hg,h1,h2,h3,h4⟩
 ·have : l = [] := List.length_eq_zero_iff.1 h0
  subst this
  rw [run_convert_bytes_nil w 43 5 Tryz.underlying43 Tryz.underlying5 0 0 9 Tryz.underlying9]
  rfl
 ·have hstr : strOfNums (l.map fun b => (b.toNat : Int)) = S l := by unfold strOfNums S; rw [bytes_back]
  rw [<- hstr]
  refine run_convert_bytes_arg (P := Tryz.prog) w 43 5 Tryz.underlying43 Tryz.underlying5 g 0 l.length cap (l.map fun b => (b.toNat : Int)) (by simp) (fun i hi => ?_) 9 Tryz.underlying9
  rw [Nat.zero_add,World.ownsRow.cellAt (w := w) ⟨h.1,.inr ⟨g,cap,cur,rfl,hb,hg,h1,h2,h3,h4⟩⟩ i (by omega)]
  simp [cellsB,hi]
end Go.Proofs.YtdhgebdbiehchaaGreatDoor
