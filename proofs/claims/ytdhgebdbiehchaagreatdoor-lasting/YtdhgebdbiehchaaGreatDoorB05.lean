/- On the way: Blk. -/
import Derived.Test.YtdhgebdbiehchaaGreatDoorB04
import Derived.Deep.RegionWith
import Derived.Deep.RegionHeld3
import Derived.Deep.QuietTactic
import Derived.BigQuiet
namespace Go.Proofs.YtdhgebdbiehchaaGreatDoor
open Go.RowKit
set_option linter.unusedSimpArgs false
set_option linter.unusedVariables false
def sealL (l : List UInt8) : List UInt8 := l ++ lowL (crcN l) 4
theorem sealL_length (l : List UInt8) : (sealL l).length = l.length + 4 := by simp [sealL,lowL_length]
theorem keep2 {n i j : Nat} {w wx w' : World} {b c : Option Value} (h : (wx.cell? ⟨n,i,none⟩ = b /\ wx.cell? ⟨n,j,none⟩ = c) /\ Below n w wx /\ n < wx.heap.size) (hb : Below wx.heap.size wx w') :
  (w'.cell? ⟨n,i,none⟩ = b /\ w'.cell? ⟨n,j,none⟩ = c) /\ Below n w w' /\ n < w'.heap.size := by
 obtain ⟨⟨h1,h2⟩,h3,h4⟩ := h
 exact ⟨⟨(hb.cell (p := ⟨n,i,none⟩) h4).trans h1,(hb.cell (p := ⟨n,j,none⟩) h4).trans h2⟩,h3.trans (hb.mono (Nat.le_of_lt h4)),Nat.lt_of_lt_of_le h4 hb.size⟩
end Go.Proofs.YtdhgebdbiehchaaGreatDoor
