/- On the way: FrontB. -/
import Derived.Test.YtdhgebdbiehchaaGreatDoorB15
import Derived.Test.YtdhgebdbiehchaaGreatDoorB26
namespace Go.Proofs.YtdhgebdbiehchaaGreatDoor
open Go.RowKit
set_option linter.unusedSimpArgs false
set_option linter.unusedVariables false
set_option maxRecDepth 100000
set_option maxHeartbeats 1600000
def Cells5 (w : World) (b : Nat) (a1 a2 a3 a4 a5 : Nat) : Prop := w.cell? ⟨b,0,none⟩ = some (.int .i64 a1) /\ w.cell? ⟨b,1,none⟩ = some (.int .i64 a2) /\ w.cell? ⟨b,2,none⟩ = some (.int .i64 a3) /\ w.cell? ⟨b,3,none⟩ = some (.int .i64 a4) /\ w.cell? ⟨b,4,none⟩ = some (.int .i64 a5)
theorem Cells5.below {w w' : World} {b n a1 a2 a3 a4 a5 : Nat} (h : Cells5 w b a1 a2 a3 a4 a5) (hb : Below n w w') (hn : b < n) : Cells5 w' b a1 a2 a3 a4 a5 :=
 ⟨(hb.cell (p := ⟨b,0,none⟩) hn).trans h.1,(hb.cell (p := ⟨b,1,none⟩) hn).trans h.2.1,(hb.cell (p := ⟨b,2,none⟩) hn).trans h.2.2.1,(hb.cell (p := ⟨b,3,none⟩) hn).trans h.2.2.2.1,(hb.cell (p := ⟨b,4,none⟩) hn).trans h.2.2.2.2⟩
theorem frontBytes_any (a1 a2 a3 a4 a5 : Nat) (w : World) (h1 : a1 < 4294967296) (h2 : a2 < 4294967296) (h3 : a3 < 4294967296) (h4 : a4 < 4294967296) (h5 : a5 < 4294967296) (hH : HalvesAt w) :
  Calls Tryz.prog 97 #[.agg #[.int .i64 a1,.int .i64 a2,.int .i64 a3,.int .i64 a4,.int .i64 a5]] w fun e w' => ∃ v',e = .returned v' /\ w'.ownsRow w.heap.size 5 1 v' (sealL (frontB a1 a2 a3 a4 a5)).length (cellsB (sealL (frontB a1 a2 a3 a4 a5))) /\ Below w.heap.size w w' := by
 have HH : Hid (HalvesAt w) := hH
 clear hH
 have hcv := Joins.run_convert_bytes_const_at (P := Tryz.prog) (w.alloc (.cells #[.int .i64 (a1 : Int),.int .i64 (a2 : Int),.int .i64 (a3 : Int),.int .i64 (a4 : Int),.int .i64 (a5 : Int)] 139)) 43 5 #[.int .u8 73,.int .u8 88] 2 2 (w.heap.size + 1) (by simp) Tryz.underlying43 Tryz.underlying5
 go_enter Tryz.func97,Tryz.ntmps97
 go_wp2_with fail
 clear hcv
 obtain ⟨W,hW⟩ : ∃ W,W = (w.alloc (.cells #[.int .i64 (a1 : Int),.int .i64 (a2 : Int),.int .i64 (a3 : Int),.int .i64 (a4 : Int),.int .i64 (a5 : Int)] 139)).alloc (.cells #[.int .u8 73,.int .u8 88] 5 (2,3)) := ⟨_,rfl⟩
 have hc : Cells5 W w.heap.size a1 a2 a3 a4 a5 := by rw [hW]; exact ⟨by simp,by simp,by simp,by simp,by simp⟩
 have hz : W.heap.size = w.heap.size + 1 + 1 := by rw [hW]; simp
 have hl : ∀ j u,(cellsB [73,88])[j]? = some u -> W.cell? ⟨w.heap.size + 1,j,none⟩ = some u := by
  intro j u hu
  rw [hW,Joins.cell_alloc_mark_at _ _ _ _ _ _ (by simp)]
  have e : cellsB [73,88] = [.int .u8 73,.int .u8 88] := rfl
  rw [e] at hu
  simpa using hu
 have hB : Below w.heap.size w W := by rw [hW]; exact ((Below.refl _ _).alloc (Nat.le_refl _) _).alloc (by simp) _
 rw [<- hW]
 have HA : Hid _ := appendLow_lit (w.heap.size + 1) [73,88] (a1 : Int) 2 W (w.heap.size + 1 + 1) (by omega) (by omega) (by omega) (by omega) hl (by omega) (by omega) (by simp)
 clear hW hl
 refine Calls.mono HA.out ?_
 rintro e w1 ⟨v1,rfl,r1,b1⟩
 rw [Int.toNat_natCast,show ([73,88] : List UInt8).length + 2 = ([73,88] ++ lowL a1 2).length by simp [lowL_length]] at r1
 have hB1 : Below w.heap.size w w1 := hB.trans (b1.mono (by omega))
 have c1 := hc.below b1 (by omega)
 have z1 := b1.size
 obtain ⟨_,k1,_,_,_⟩ := c1
 have HA1 : Hid _ := appendLow_any v1 _ (a2 : Int) 2 w1 (w.heap.size + 1 + 1) (by omega) (by omega) (by omega) r1 (by omega) (by simp [lowL_length])
 clear HA r1
 go_wp2_with fail
 refine Calls.mono HA1.out ?_
 rintro e w2 ⟨v2,rfl,r2,b2⟩
 rw [Int.toNat_natCast,show ([73,88] ++ lowL a1 2 : List UInt8).length + 2 = ([73,88] ++ lowL a1 2 ++ lowL a2 2).length by simp [lowL_length]] at r2
 have hB2 : Below w.heap.size w w2 := hB1.trans (b2.mono (by omega))
 have c2 := (hc.below b1 (by omega)).below b2 (by omega)
 have z2 := b2.size
 obtain ⟨_,_,k2,_,_⟩ := c2
 have HA2 : Hid _ := appendLow_any v2 _ (a3 : Int) 2 w2 (w.heap.size + 1 + 1) (by omega) (by omega) (by omega) r2 (by omega) (by simp [lowL_length])
 clear HA1 r2 k1
 go_wp2_with fail
 refine Calls.mono HA2.out ?_
 rintro e w3 ⟨v3,rfl,r3,b3⟩
 rw [Int.toNat_natCast,show ([73,88] ++ lowL a1 2 ++ lowL a2 2 : List UInt8).length + 2 = ([73,88] ++ lowL a1 2 ++ lowL a2 2 ++ lowL a3 2).length by simp [lowL_length]] at r3
 have hB3 : Below w.heap.size w w3 := hB2.trans (b3.mono (by omega))
 have c3 := ((hc.below b1 (by omega)).below b2 (by omega)).below b3 (by omega)
 have z3 := b3.size
 obtain ⟨_,_,_,k3,_⟩ := c3
 have HA3 : Hid _ := appendLow_any v3 _ (a4 : Int) 4 w3 (w.heap.size + 1 + 1) (by omega) (by omega) (by omega) r3 (by omega) (by simp [lowL_length])
 clear HA2 r3 k2
 go_wp2_with fail
 refine Calls.mono HA3.out ?_
 rintro e w4 ⟨v4,rfl,r4,b4⟩
 rw [Int.toNat_natCast,show ([73,88] ++ lowL a1 2 ++ lowL a2 2 ++ lowL a3 2 : List UInt8).length + 4 = ([73,88] ++ lowL a1 2 ++ lowL a2 2 ++ lowL a3 2 ++ lowL a4 4).length by simp [lowL_length]] at r4
 have hB4 : Below w.heap.size w w4 := hB3.trans (b4.mono (by omega))
 have c4 := (((hc.below b1 (by omega)).below b2 (by omega)).below b3 (by omega)).below b4 (by omega)
 have z4 := b4.size
 obtain ⟨_,_,_,_,k4⟩ := c4
 have HA4 : Hid _ := appendLow_any v4 _ (a5 : Int) 4 w4 (w.heap.size + 1 + 1) (by omega) (by omega) (by omega) r4 (by omega) (by simp [lowL_length])
 clear HA3 r4 k3
 go_wp2_with fail
 refine Calls.mono HA4.out ?_
 rintro e w5 ⟨v5,rfl,r5,b5⟩
 rw [Int.toNat_natCast,show ([73,88] ++ lowL a1 2 ++ lowL a2 2 ++ lowL a3 2 ++ lowL a4 4 : List UInt8).length + 4 = (frontB a1 a2 a3 a4 a5).length by simp [lowL_length,frontB]] at r5
 have hB5 : Below w.heap.size w w5 := hB4.trans (b5.mono (by omega))
 have z5 := b5.size
 have HS : Hid _ := seal_any v5 (frontB a1 a2 a3 a4 a5) (w.heap.size + 1 + 1) w5 r5 (by omega) (by rw [frontB_length]; omega) (HH.out.below hB5 HH.out.1)
 clear HA4 r5 k4
 go_wp2_with fail
 refine Calls.mono HS.out ?_
 rintro e w6 ⟨v6,rfl,r6,b6⟩
 have HR6 : Hid (w6.ownsRow (w.heap.size + 1 + 1) 5 1 v6 (sealL (frontB a1 a2 a3 a4 a5)).length (cellsB (sealL (frontB a1 a2 a3 a4 a5)))) := r6
 clear r6 HS
 go_wp2
 go_ret
 exact ⟨_,rfl,Joins.ownsRow_le HR6.out (by omega),hB5.trans (b6.mono (by omega))⟩
end Go.Proofs.YtdhgebdbiehchaaGreatDoor
