/- On the way: RecLook, ProgLook. -/
import Derived.Test.YtdhgebdbiehchaaGreatDoorB17
import Derived.Test.YtdhgebdbiehchaaGreatDoorB39
namespace Go.Proofs.YtdhgebdbiehchaaGreatDoor
open Go.RowKit
set_option linter.unusedSimpArgs false
set_option linter.unusedVariables false
def ViewAt (w W : World) (log : ByteArray) (bk sd bt xl n xf xs xm : Nat) (body : ByteArray) : Prop := (W.cell? ⟨w.heap.size,0,none⟩ = some (.string log) /\ W.cell? ⟨w.heap.size,1,none⟩ = some (.int .i64 bk) /\ W.cell? ⟨w.heap.size,2,none⟩ = some (.int .i64 sd) /\ W.cell? ⟨w.heap.size,3,none⟩ = some (.int .i64 bt) /\ W.cell? ⟨w.heap.size,4,none⟩ = some (.int .i64 xl) /\ W.cell? ⟨w.heap.size,5,none⟩ = some (.int .i64 n) /\ W.cell? ⟨w.heap.size,6,none⟩ = some (.int .i64 xf) /\ W.cell? ⟨w.heap.size,7,none⟩ = some (.int .i64 xs) /\ W.cell? ⟨w.heap.size,8,none⟩ = some (.int .i64 xm) /\ W.cell? ⟨w.heap.size,9,none⟩ = some (.string body)) /\ Below w.heap.size w W /\ w.heap.size < W.heap.size
theorem ViewAt.below {w W W' : World} {log : ByteArray} {bk sd bt xl n xf xs xm : Nat} {body : ByteArray} (h : ViewAt w W log bk sd bt xl n xf xs xm body) (hb : Below W.heap.size W W') : ViewAt w W' log bk sd bt xl n xf xs xm body := by
 obtain ⟨⟨h0,h1,h2,h3,h4,h5,h6,h7,h8,h9⟩,hB,hz⟩ := h
 exact ⟨⟨(hb.cell (p := ⟨w.heap.size,0,none⟩) hz).trans h0,(hb.cell (p := ⟨w.heap.size,1,none⟩) hz).trans h1,(hb.cell (p := ⟨w.heap.size,2,none⟩) hz).trans h2,(hb.cell (p := ⟨w.heap.size,3,none⟩) hz).trans h3,(hb.cell (p := ⟨w.heap.size,4,none⟩) hz).trans h4,(hb.cell (p := ⟨w.heap.size,5,none⟩) hz).trans h5,(hb.cell (p := ⟨w.heap.size,6,none⟩) hz).trans h6,(hb.cell (p := ⟨w.heap.size,7,none⟩) hz).trans h7,(hb.cell (p := ⟨w.heap.size,8,none⟩) hz).trans h8,(hb.cell (p := ⟨w.heap.size,9,none⟩) hz).trans h9⟩,hB.trans (hb.mono (Nat.le_of_lt hz)),Nat.lt_of_lt_of_le hz hb.size⟩

end Go.Proofs.YtdhgebdbiehchaaGreatDoor
