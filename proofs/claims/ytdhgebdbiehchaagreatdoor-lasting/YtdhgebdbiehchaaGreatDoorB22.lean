/- On the way: RecCmp. -/
import Derived.Test.YtdhgebdbiehchaaGreatDoorB02
import Derived.Deep.RegionWith
import Derived.Deep.RegionHeld3
import Derived.Sort.Grow
namespace Go.Proofs.YtdhgebdbiehchaaGreatDoor
open Go.RowKit
set_option linter.unusedSimpArgs false
set_option linter.unusedVariables false
set_option maxRecDepth 100000
set_option maxHeartbeats 1600000
def cmpI (x y : Int) : Int := if x < y then -1 else if y < x then 1 else 0
def orI (x y : Int) : Int := if x = 0 then y else x
theorem isNaN_any (x : Int) (w : World) : Calls Tryz.prog 209 #[.int .i64 x] w fun e w' => e = .returned (.bool false) /\ w' = w := by
 go_enter Tryz.func209,Tryz.ntmps209
 go_wp2
 go_ret
 exact ⟨by simp,rfl⟩
theorem cmp_any (x y : Int) (w : World) : Calls Tryz.prog 192 #[.int .i64 x,.int .i64 y] w fun e w' => e = .returned (.int .i64 (cmpI x y)) /\ w' = w := by
 have HC : Hid (cmpI x y = if x < y then -1 else if y < x then 1 else 0) := rfl
 generalize cmpI x y = c at *
 by_cases h1 : x < y
 ·have HE : Hid (c = -1) := by show c = -1; rw [HC.out,if_pos h1]
  clear HC
  go_enter Tryz.func192,Tryz.ntmps192
  go_wp2_with (go_at_call 209; refine (isNaN_any _ _).mono ?_; rintro e w' ⟨rfl,rfl⟩)
  go_ret
  exact ⟨ret_int HE.out.symm,rfl⟩
 ·by_cases h2 : y < x
  ·have HE : Hid (c = 1) := by show c = 1; rw [HC.out,if_neg h1,if_pos h2]
   clear HC
   go_enter Tryz.func192,Tryz.ntmps192
   go_wp2_with (go_at_call 209; refine (isNaN_any _ _).mono ?_; rintro e w' ⟨rfl,rfl⟩)
   go_ret
   exact ⟨ret_int HE.out.symm,rfl⟩
  ·have HE : Hid (c = 0) := by show c = 0; rw [HC.out,if_neg h1,if_neg h2]
   clear HC
   go_enter Tryz.func192,Tryz.ntmps192
   go_wp2_with (go_at_call 209; refine (isNaN_any _ _).mono ?_; rintro e w' ⟨rfl,rfl⟩)
   go_ret
   exact ⟨ret_int HE.out.symm,rfl⟩
theorem or_any (x y : Int) (g : Nat) (w : World) (h0 : w.cell? ⟨g,0,none⟩ = some (.int .i64 x)) (h1 : w.cell? ⟨g,1,none⟩ = some (.int .i64 y)) :
  Calls Tryz.prog 191 #[.slice (some ⟨g,0,none⟩) 2 2] w fun e w' => e = .returned (.int .i64 (orI x y)) /\ w' = w := by
 have HC : Hid (orI x y = if x = 0 then y else x) := rfl
 generalize orI x y = c at *
 by_cases hx : x = 0
 ·subst hx
  have HE : Hid (c = y) := by show c = y; rw [HC.out,if_pos rfl]
  clear HC
  by_cases hy : y = 0
  ·subst hy
   go_enter Tryz.func191,Tryz.ntmps191
   go_wp2
   refine wp_loop_rounds 3 ?_
   rw [rounds_succ]
   go_wp2
   rw [rounds_succ]
   go_wp2
   rw [rounds_succ]
   go_wp2
   go_ret
   exact ⟨ret_int HE.out.symm,rfl⟩
  ·have hb : (y != 0) = true := by rw [bne_iff_ne]; exact hy
   go_enter Tryz.func191,Tryz.ntmps191
   go_wp2
   refine wp_loop_rounds 2 ?_
   rw [rounds_succ]
   go_wp2
   rw [rounds_succ]
   go_wp2
   go_ret
   exact ⟨ret_int HE.out.symm,rfl⟩
 ·have HE : Hid (c = x) := by show c = x; rw [HC.out,if_neg hx]
  have hb : (x != 0) = true := by rw [bne_iff_ne]; exact hx
  clear HC
  go_enter Tryz.func191,Tryz.ntmps191
  go_wp2
  refine wp_loop_rounds 1 ?_
  rw [rounds_succ]
  go_wp2
  go_ret
  exact ⟨ret_int HE.out.symm,rfl⟩
def Grows (w w' : World) : Prop := ∃ q os',w' = Sort.grow (w.drewN q) os'
theorem Grows.refl (w : World) : Grows w w := ⟨0,#[],by rw [Sort.grow_empty]; rfl⟩
theorem Grows.alloc {w w' : World} (h : Grows w w') (o : Obj) : Grows w (w'.alloc o) := by
 obtain ⟨q,os,rfl⟩ := h
 exact ⟨q,os ++ #[o],by rw [Sort.alloc_eq_grow,Sort.grow_grow]⟩
theorem Grows.drew {w w' : World} (h : Grows w w') : Grows w w'.drew := by
 obtain ⟨q,os,rfl⟩ := h
 exact ⟨q + 1,os,rfl⟩
def PcS (w : World) (a b c d : Int) (w' : World) : Prop := (w'.cell? ⟨w.heap.size,0,none⟩ = some (.int .i64 a) /\ w'.cell? ⟨w.heap.size,1,none⟩ = some (.int .i64 b) /\ w'.cell? ⟨w.heap.size + 1,0,none⟩ = some (.int .i64 c) /\ w'.cell? ⟨w.heap.size + 1,1,none⟩ = some (.int .i64 d)) /\ Grows w w' /\ w.heap.size + 1 < w'.heap.size
theorem PcS.alloc {w w' : World} {a b c d : Int} (h : PcS w a b c d w') (o : Obj) : PcS w a b c d (w'.alloc o) := by
 obtain ⟨⟨h0,h1,h2,h3⟩,h4,h5⟩ := h
 refine ⟨⟨?_,?_,?_,?_⟩,h4.alloc o,by simp; omega⟩
 ·rw [World.cell?_alloc_lt _ _ ⟨w.heap.size,0,none⟩ (by show w.heap.size < _; omega)]; exact h0
 ·rw [World.cell?_alloc_lt _ _ ⟨w.heap.size,1,none⟩ (by show w.heap.size < _; omega)]; exact h1
 ·rw [World.cell?_alloc_lt _ _ ⟨w.heap.size + 1,0,none⟩ (by show w.heap.size + 1 < _; omega)]; exact h2
 ·rw [World.cell?_alloc_lt _ _ ⟨w.heap.size + 1,1,none⟩ (by show w.heap.size + 1 < _; omega)]; exact h3
theorem third_cell (w : World) (A B : Obj) (C : Array Value) (t : TypeId) (j : Nat) (u : Value) (h : C[j]? = some u) : (((w.alloc A).alloc B).alloc (.cells C t)).drew.cell? ⟨w.heap.size + 1 + 1,j,none⟩ = some u := by
 show (((w.alloc A).alloc B).alloc (.cells C t)).cell? ⟨w.heap.size + 1 + 1,j,none⟩ = some u
 rw [World.cell?_alloc_at _ _ _ _ (by simp)]
 exact h
theorem placeCmp_any (a b c d : Int) (w : World) : Calls Tryz.prog 150 #[.agg #[.int .i64 a,.int .i64 b],.agg #[.int .i64 c,.int .i64 d]] w fun e w' => e = .returned (.int .i64 (orI (cmpI a c) (cmpI b d))) /\ Grows w w' := by
 have HC : Hid (∀ wx,Calls Tryz.prog 192 #[.int .i64 a,.int .i64 c] wx fun e w' => e = .returned (.int .i64 (cmpI a c)) /\ w' = wx) := cmp_any a c
 have HD : Hid (∀ wx,Calls Tryz.prog 192 #[.int .i64 b,.int .i64 d] wx fun e w' => e = .returned (.int .i64 (cmpI b d)) /\ w' = wx) := cmp_any b d
 generalize cmpI a c = x at *
 generalize cmpI b d = y at *
 have HO : Hid (∀ wx g,wx.cell? ⟨g,0,none⟩ = some (.int .i64 x) -> wx.cell? ⟨g,1,none⟩ = some (.int .i64 y) -> Calls Tryz.prog 191 #[.slice (some ⟨g,0,none⟩) 2 2] wx fun e w' => e = .returned (.int .i64 (orI x y)) /\ w' = wx) := fun wx g h0 h1 => or_any x y g wx h0 h1
 generalize orI x y = r at *
 go_enter Tryz.func150,Tryz.ntmps150
 go_wp2_with fail
 go_region_held3 (fun w' => (w'.cell? ⟨w.heap.size,0,none⟩ = some (.int .i64 a) /\ w'.cell? ⟨w.heap.size,1,none⟩ = some (.int .i64 b) /\ w'.cell? ⟨w.heap.size + 1,0,none⟩ = some (.int .i64 c) /\ w'.cell? ⟨w.heap.size + 1,1,none⟩ = some (.int .i64 d)) /\ Grows w w' /\ w.heap.size + 1 < w'.heap.size) (first | (exact ⟨⟨by simp,by simp,by simp,by simp⟩,(((Grows.refl _).alloc _).alloc _).drew,by simp⟩) | (exact PcS.alloc (by assumption) _) | (assumption)) (first | (go_at_call_of 192 (Value.int IntKind.i64 a); refine (HC.out _).mono ?_; rintro e w' ⟨rfl,rfl⟩) | (go_at_call_of 192 (Value.int IntKind.i64 b); refine (HD.out _).mono ?_; rintro e w' ⟨rfl,rfl⟩) | (go_at_call 191; refine (HO.out _ _ ?_ ?_).mono ?_; exact third_cell _ _ _ _ _ _ _ rfl; exact third_cell _ _ _ _ _ _ _ rfl; rintro e w' ⟨rfl,rfl⟩))
 all_goals
  go_wp2
  go_ret
  exact ⟨rfl,((((Grows.refl _).alloc _).alloc _).alloc _).drew⟩
end Go.Proofs.YtdhgebdbiehchaaGreatDoor
