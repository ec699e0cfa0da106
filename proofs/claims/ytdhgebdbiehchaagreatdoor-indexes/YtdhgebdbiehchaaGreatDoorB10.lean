/- The contracts of cmp.Compare and cmp.Or at int, and of record.Place.Compare. The contracts of table.sumOf, table.front.isOf and table.readFront. The contracts of table.sizeFor, table.slots.away, sums.Check over bytes, sums.Seal and table.front.bytes. The cells of the program's table; the contract of table.slots.farthest. sums.AppendLow beside a box of another type, which it leaves alone; the contract of table.slots.bytes. -/
import Derived.Test.YtdhgebdbiehchaaGreatDoorB01
import Derived.Deep.RegionWith
import Derived.Deep.RegionHeld3
import Derived.Sort.Grow
import Derived.Test.YtdhgebdbiehchaaGreatDoorB07
import Derived.Test.YtdhgebdbiehchaaGreatDoorB05
import Derived.Deep.DeepCutAuto
import Derived.BigQuiet
namespace Go.Proofs.YtdhgebdbiehchaaGreatDoor
open Go.RowKit
set_option linter.unusedSimpArgs false
set_option linter.unusedVariables false

def cmpI (x y : Int) : Int := if x < y then -1 else if y < x then 1 else 0
def orI (x y : Int) : Int := if x = 0 then y else x

set_option maxHeartbeats 400000 in
theorem isNaN_any (x : Int) (w : World) : Calls Tryz.prog 209 #[.int .i64 x] w fun e w' => e = .returned (.bool false) ∧ w' = w := by
  go_enter Tryz.func209, Tryz.ntmps209
  go_wp2
  go_ret
  exact ⟨by simp, rfl⟩
set_option maxHeartbeats 800000 in
theorem cmp_any (x y : Int) (w : World) : Calls Tryz.prog 192 #[.int .i64 x, .int .i64 y] w fun e w' => e = .returned (.int .i64 (cmpI x y)) ∧ w' = w := by
  have HC : Hid (cmpI x y = if x < y then -1 else if y < x then 1 else 0) := rfl
  generalize cmpI x y = c at *
  by_cases h1 : x < y
  · have HE : Hid (c = -1) := by show c = -1; rw [HC.out, if_pos h1]
    clear HC
    go_enter Tryz.func192, Tryz.ntmps192
    go_wp2_with (go_at_call 209; refine (isNaN_any _ _).mono ?_; rintro e w' ⟨rfl, rfl⟩)
    go_ret
    exact ⟨ret_int HE.out.symm, rfl⟩
  · by_cases h2 : y < x
    · have HE : Hid (c = 1) := by show c = 1; rw [HC.out, if_neg h1, if_pos h2]
      clear HC
      go_enter Tryz.func192, Tryz.ntmps192
      go_wp2_with (go_at_call 209; refine (isNaN_any _ _).mono ?_; rintro e w' ⟨rfl, rfl⟩)
      go_ret
      exact ⟨ret_int HE.out.symm, rfl⟩
    · have HE : Hid (c = 0) := by show c = 0; rw [HC.out, if_neg h1, if_neg h2]
      clear HC
      go_enter Tryz.func192, Tryz.ntmps192
      go_wp2_with (go_at_call 209; refine (isNaN_any _ _).mono ?_; rintro e w' ⟨rfl, rfl⟩)
      go_ret
      exact ⟨ret_int HE.out.symm, rfl⟩
set_option maxHeartbeats 800000 in
theorem or_any (x y : Int) (g : Nat) (w : World) (h0 : w.cell? ⟨g, 0, none⟩ = some (.int .i64 x)) (h1 : w.cell? ⟨g, 1, none⟩ = some (.int .i64 y)) :
    Calls Tryz.prog 191 #[.slice (some ⟨g, 0, none⟩) 2 2] w fun e w' => e = .returned (.int .i64 (orI x y)) ∧ w' = w := by
  have HC : Hid (orI x y = if x = 0 then y else x) := rfl
  generalize orI x y = c at *
  by_cases hx : x = 0
  · subst hx
    have HE : Hid (c = y) := by show c = y; rw [HC.out, if_pos rfl]
    clear HC
    by_cases hy : y = 0
    · subst hy
      go_enter Tryz.func191, Tryz.ntmps191
      go_wp2
      refine wp_loop_rounds 3 ?_
      rw [rounds_succ]
      go_wp2
      rw [rounds_succ]
      go_wp2
      rw [rounds_succ]
      go_wp2
      go_ret
      exact ⟨ret_int HE.out.symm, rfl⟩
    · have hb : (y != 0) = true := by rw [bne_iff_ne]; exact hy
      go_enter Tryz.func191, Tryz.ntmps191
      go_wp2
      refine wp_loop_rounds 2 ?_
      rw [rounds_succ]
      go_wp2
      rw [rounds_succ]
      go_wp2
      go_ret
      exact ⟨ret_int HE.out.symm, rfl⟩
  · have HE : Hid (c = x) := by show c = x; rw [HC.out, if_neg hx]
    have hb : (x != 0) = true := by rw [bne_iff_ne]; exact hx
    clear HC
    go_enter Tryz.func191, Tryz.ntmps191
    go_wp2
    refine wp_loop_rounds 1 ?_
    rw [rounds_succ]
    go_wp2
    go_ret
    exact ⟨ret_int HE.out.symm, rfl⟩

/-- Draws and new blocks, no more. -/
def Grows (w w' : World) : Prop := ∃ q os', w' = Sort.grow (w.drewN q) os'
theorem Grows.refl (w : World) : Grows w w := ⟨0, #[], by rw [Sort.grow_empty]; rfl⟩
theorem Grows.alloc {w w' : World} (h : Grows w w') (o : Obj) : Grows w (w'.alloc o) := by
  obtain ⟨q, os, rfl⟩ := h
  exact ⟨q, os ++ #[o], by rw [Sort.alloc_eq_grow, Sort.grow_grow]⟩
theorem Grows.drew {w w' : World} (h : Grows w w') : Grows w w'.drew := by
  obtain ⟨q, os, rfl⟩ := h
  exact ⟨q + 1, os, rfl⟩

def PcS (w : World) (a b c d : Int) (w' : World) : Prop := (w'.cell? ⟨w.heap.size, 0, none⟩ = some (.int .i64 a) ∧ w'.cell? ⟨w.heap.size, 1, none⟩ = some (.int .i64 b) ∧ w'.cell? ⟨w.heap.size + 1, 0, none⟩ = some (.int .i64 c) ∧ w'.cell? ⟨w.heap.size + 1, 1, none⟩ = some (.int .i64 d)) ∧ Grows w w' ∧ w.heap.size + 1 < w'.heap.size
theorem PcS.alloc {w w' : World} {a b c d : Int} (h : PcS w a b c d w') (o : Obj) : PcS w a b c d (w'.alloc o) := by
  obtain ⟨⟨h0, h1, h2, h3⟩, h4, h5⟩ := h
  refine ⟨⟨?_, ?_, ?_, ?_⟩, h4.alloc o, by simp; omega⟩
  · rw [World.cell?_alloc_lt _ _ ⟨w.heap.size, 0, none⟩ (by show w.heap.size < _; omega)]; exact h0
  · rw [World.cell?_alloc_lt _ _ ⟨w.heap.size, 1, none⟩ (by show w.heap.size < _; omega)]; exact h1
  · rw [World.cell?_alloc_lt _ _ ⟨w.heap.size + 1, 0, none⟩ (by show w.heap.size + 1 < _; omega)]; exact h2
  · rw [World.cell?_alloc_lt _ _ ⟨w.heap.size + 1, 1, none⟩ (by show w.heap.size + 1 < _; omega)]; exact h3

theorem third_cell (w : World) (A B : Obj) (C : Array Value) (t : TypeId) (j : Nat) (u : Value) (h : C[j]? = some u) : (((w.alloc A).alloc B).alloc (.cells C t)).drew.cell? ⟨w.heap.size + 1 + 1, j, none⟩ = some u := by
  show (((w.alloc A).alloc B).alloc (.cells C t)).cell? ⟨w.heap.size + 1 + 1, j, none⟩ = some u
  rw [World.cell?_alloc_at _ _ _ _ (by simp)]
  exact h

set_option maxRecDepth 100000 in
set_option maxHeartbeats 1600000 in
theorem placeCmp_any (a b c d : Int) (w : World) : Calls Tryz.prog 150 #[.agg #[.int .i64 a, .int .i64 b], .agg #[.int .i64 c, .int .i64 d]] w fun e w' => e = .returned (.int .i64 (orI (cmpI a c) (cmpI b d))) ∧ Grows w w' := by
  have HC : Hid (∀ wx, Calls Tryz.prog 192 #[.int .i64 a, .int .i64 c] wx fun e w' => e = .returned (.int .i64 (cmpI a c)) ∧ w' = wx) := cmp_any a c
  have HD : Hid (∀ wx, Calls Tryz.prog 192 #[.int .i64 b, .int .i64 d] wx fun e w' => e = .returned (.int .i64 (cmpI b d)) ∧ w' = wx) := cmp_any b d
  generalize cmpI a c = x at *
  generalize cmpI b d = y at *
  have HO : Hid (∀ wx g, wx.cell? ⟨g, 0, none⟩ = some (.int .i64 x) → wx.cell? ⟨g, 1, none⟩ = some (.int .i64 y) → Calls Tryz.prog 191 #[.slice (some ⟨g, 0, none⟩) 2 2] wx fun e w' => e = .returned (.int .i64 (orI x y)) ∧ w' = wx) := fun wx g h0 h1 => or_any x y g wx h0 h1
  generalize orI x y = r at *
  go_enter Tryz.func150, Tryz.ntmps150
  go_wp2_with fail
  go_region_held3 (fun w' => (w'.cell? ⟨w.heap.size, 0, none⟩ = some (.int .i64 a) ∧ w'.cell? ⟨w.heap.size, 1, none⟩ = some (.int .i64 b) ∧ w'.cell? ⟨w.heap.size + 1, 0, none⟩ = some (.int .i64 c) ∧ w'.cell? ⟨w.heap.size + 1, 1, none⟩ = some (.int .i64 d)) ∧ Grows w w' ∧ w.heap.size + 1 < w'.heap.size) (first | (exact ⟨⟨by simp, by simp, by simp, by simp⟩, (((Grows.refl _).alloc _).alloc _).drew, by simp⟩) | (exact PcS.alloc (by assumption) _) | (assumption)) (first | (go_at_call_of 192 (Value.int IntKind.i64 a); refine (HC.out _).mono ?_; rintro e w' ⟨rfl, rfl⟩) | (go_at_call_of 192 (Value.int IntKind.i64 b); refine (HD.out _).mono ?_; rintro e w' ⟨rfl, rfl⟩) | (go_at_call 191; refine (HO.out _ _ ?_ ?_).mono ?_; exact third_cell _ _ _ _ _ _ _ rfl; exact third_cell _ _ _ _ _ _ _ rfl; rintro e w' ⟨rfl, rfl⟩))
  all_goals
    go_wp2
    go_ret
    exact ⟨rfl, ((((Grows.refl _).alloc _).alloc _).alloc _).drew⟩
end Go.Proofs.YtdhgebdbiehchaaGreatDoor
namespace Go.Proofs.YtdhgebdbiehchaaGreatDoor
open Go.RowKit
set_option linter.unusedSimpArgs false
set_option linter.unusedVariables false

set_option maxHeartbeats 800000 in
theorem sumOf_any (s : ByteArray) (w : World) (hs : s.size ≤ 9223372036854775807) :
    Calls Tryz.prog 96 #[.string s] w fun e w' => e = .returned (.int .i64 (sumI s.data.toList)) ∧ Below w.heap.size w w' := by
  have h0 : (w.alloc (.cells #[.string s] 9)).cell? ⟨w.heap.size, 0, none⟩ = some (.string s) := by simp
  have HS := hash1_any w.heap.size 1 s _ h0 hs
  go_enter Tryz.func96, Tryz.ntmps96
  go_wp2_with fail
  refine HS.mono ?_
  rintro e w1 ⟨H, rfl, g0, g1, HF, rfl⟩
  have hr : 0 ≤ H % 4294967296 ∧ H % 4294967296 < 4294967296 := by omega
  go_wp2
  go_ret
  refine ⟨ret_int ?_, (Below.refl _ _).alloc (Nat.le_refl _) _⟩
  rw [sumI, ← HF.out]

def zeroF : Value := .agg #[.int .i64 0, .int .i64 0, .int .i64 0, .int .i64 0, .int .i64 0]
/-- Are an index's first bytes such, and is what follows as long as they say? -/
def ixOK (l : List UInt8) : Bool := decide (20 ≤ l.length) && (l.take 2 == [73, 88]) && sealedB (l.take 20) && (decide (ixN l ≠ 0) && decide (l.length = 20 + 10 * ixN l + 4))
def ixLive (l : List UInt8) : Nat := highL ((l.drop 2).take 2)
def frontV (l : List UInt8) : Value := if ixOK l = true then .tuple #[.agg #[.int .i64 (ixLive l), .int .i64 (ixN l), .int .i64 (ixFar l), .int .i64 (ixSize l), .int .i64 (ixSum l)], .string (S ((l.drop 20).take (10 * ixN l))), .bool true] else .tuple #[.agg #[.int .i64 0, .int .i64 0, .int .i64 0, .int .i64 0, .int .i64 0], .string ⟨#[]⟩, .bool false]

set_option maxHeartbeats 1600000 in
theorem readFront_no (s : ByteArray) (w : World) (hs : s.size ≤ 140737488351232) (hH : HalvesAt w) (h : s.size < 20 ∨ (20 ≤ s.size ∧ (s.data.toList.take 2 == [73, 88]) = false) ∨ (20 ≤ s.size ∧ (s.data.toList.take 2 == [73, 88]) = true ∧ sealedB (s.data.toList.take 20) = false)) :
    Calls Tryz.prog 139 #[.string s] w fun e w' => e = .returned (.tuple #[.agg #[.int .i64 0, .int .i64 0, .int .i64 0, .int .i64 0, .int .i64 0], .string ⟨#[]⟩, .bool false]) ∧ Below w.heap.size w w' := by
  have E2 : Hid ((s.extract 0 2).toList = s.data.toList.take 2) := by show _ = _; rw [ByteArray.toList_eq, cut_list, List.drop_zero]
  have E20 : Hid ((s.extract 0 20).data.toList = s.data.toList.take 20) := by show _ = _; rw [cut_list, List.drop_zero]
  have HH : Hid (HalvesAt w) := hH
  clear hH
  rcases h with h1 | ⟨h1, h2⟩ | ⟨h1, h2, h3⟩
  · go_enter Tryz.func139, Tryz.ntmps139
    go_wp2
    exact bodyPost_ret (v := .tuple #[.agg #[.int .i64 0, .int .i64 0, .int .i64 0, .int .i64 0, .int .i64 0], .string ⟨#[]⟩, .bool false]) (by simp [results, Tryz.results139, go_sem]) rfl ⟨rfl, (Below.refl _ _).alloc (Nat.le_refl _) _⟩
  · have t1 : ((s.extract 0 2).toList == [73, 88]) = false := by rw [E2.out]; exact h2
    have t2 : ((s.extract 0 2).toList != [73, 88]) = true := by rw [bne, t1]; rfl
    clear h2
    go_enter Tryz.func139, Tryz.ntmps139
    go_wp2
    exact bodyPost_ret (v := .tuple #[.agg #[.int .i64 0, .int .i64 0, .int .i64 0, .int .i64 0, .int .i64 0], .string ⟨#[]⟩, .bool false]) (by simp [results, Tryz.results139, go_sem]) rfl ⟨rfl, (Below.refl _ _).alloc (Nat.le_refl _) _⟩
  · have t1 : ((s.extract 0 2).toList == [73, 88]) = true := by rw [E2.out]; exact h2
    have t2 : ((s.extract 0 2).toList != [73, 88]) = false := by rw [bne, t1]; rfl
    have H3 : Hid (sealedB (s.data.toList.take 20) = false) := h3
    clear h2 h3
    go_enter Tryz.func139, Tryz.ntmps139
    go_wp2_with fail
    refine (holds_any _ _ ?_ ?_).mono ?_
    · simp; omega
    · exact HH.out.below ((Below.refl w.heap.size w).alloc (Nat.le_refl _) _) HH.out.1
    rintro e w1 ⟨rfl, hb1⟩
    rw [E20.out, H3.out]
    have hz1 : w.heap.size < w1.heap.size := by have := hb1.size; simp at this; omega
    have r0 : w1.cell? ⟨w.heap.size, 0, none⟩ = some (.int .i64 0) := by rw [hb1.cell (p := ⟨w.heap.size, 0, none⟩) (by simp)]; simp
    have r1 : w1.cell? ⟨w.heap.size, 1, none⟩ = some (.int .i64 0) := by rw [hb1.cell (p := ⟨w.heap.size, 1, none⟩) (by simp)]; simp
    have r2 : w1.cell? ⟨w.heap.size, 2, none⟩ = some (.int .i64 0) := by rw [hb1.cell (p := ⟨w.heap.size, 2, none⟩) (by simp)]; simp
    have r3 : w1.cell? ⟨w.heap.size, 3, none⟩ = some (.int .i64 0) := by rw [hb1.cell (p := ⟨w.heap.size, 3, none⟩) (by simp)]; simp
    have r4 : w1.cell? ⟨w.heap.size, 4, none⟩ = some (.int .i64 0) := by rw [hb1.cell (p := ⟨w.heap.size, 4, none⟩) (by simp)]; simp
    have f0 : w1.frozen? ⟨w.heap.size, 0, none⟩ = false := by rw [hb1.frozen (p := ⟨w.heap.size, 0, none⟩) (by simp)]; simp
    have f1 : w1.frozen? ⟨w.heap.size, 1, none⟩ = false := by rw [hb1.frozen (p := ⟨w.heap.size, 1, none⟩) (by simp)]; simp
    have f2 : w1.frozen? ⟨w.heap.size, 2, none⟩ = false := by rw [hb1.frozen (p := ⟨w.heap.size, 2, none⟩) (by simp)]; simp
    have f3 : w1.frozen? ⟨w.heap.size, 3, none⟩ = false := by rw [hb1.frozen (p := ⟨w.heap.size, 3, none⟩) (by simp)]; simp
    have f4 : w1.frozen? ⟨w.heap.size, 4, none⟩ = false := by rw [hb1.frozen (p := ⟨w.heap.size, 4, none⟩) (by simp)]; simp
    have hB : Below w.heap.size w w1 := ((Below.refl _ _).alloc (Nat.le_refl _) _).trans (hb1.mono (by simp))
    go_wp2
    exact bodyPost_ret (v := .tuple #[.agg #[.int .i64 0, .int .i64 0, .int .i64 0, .int .i64 0, .int .i64 0], .string ⟨#[]⟩, .bool false]) (by simp [results, Tryz.results139, go_sem, r0, r1, r2, r3, r4]) rfl ⟨rfl, ((((hB.setCell (Nat.le_refl _) _).setCell (Nat.le_refl _) _).setCell (Nat.le_refl _) _).setCell (Nat.le_refl _) _).setCell (Nat.le_refl _) _⟩

set_option maxRecDepth 100000 in
set_option maxHeartbeats 1600000 in
theorem isOf_any (a1 a2 a3 a4 a5 : Nat) (s : ByteArray) (w : World) (hs : s.size ≤ 9223372036854775807) :
    Calls Tryz.prog 140 #[.agg #[.int .i64 a1, .int .i64 a2, .int .i64 a3, .int .i64 a4, .int .i64 a5], .string s] w fun e w' => e = .returned (.bool (decide (a4 = s.size) && decide ((a5 : Int) = sumI s.data.toList))) ∧ Below w.heap.size w w' := by
  have HS : Hid _ := sumOf_any s
  by_cases h : s.size = a4
  · have hd : ((s.size : Int) == (a4 : Int)) = true := by rw [beq_iff_eq]; omega
    have HD : Hid (decide (a4 = s.size) = true) := by show _ = _; simp [h]
    clear h
    go_enter Tryz.func140, Tryz.ntmps140
    go_wp2_with fail
    go_region_held3 (fun w' => (w'.cell? ⟨w.heap.size, 3, none⟩ = some (.int .i64 a4) ∧ w'.cell? ⟨w.heap.size, 4, none⟩ = some (.int .i64 a5)) ∧ Below w.heap.size w w' ∧ w.heap.size < w'.heap.size) (first | (exact ⟨⟨by simp, by simp⟩, ((Below.refl _ _).alloc (Nat.le_refl _) _).drew, by simp⟩) | (exact keep2 (by assumption) (by assumption))) (first | (go_at_call 96; refine (HS.out _ hs).mono ?_; rintro e w' ⟨rfl, hb1⟩))
    all_goals
      have hx := ‹(_ ∧ _) ∧ Below _ _ _ ∧ _›
      go_wp2
      go_ret
      refine ⟨ret_bool ?_, hx.2.1⟩
      rw [HD.out, Bool.true_and, Bool.eq_iff_iff]
      simp only [beq_iff_eq, decide_eq_true_eq]
      exact eq_comm
  · have hd : ((s.size : Int) == (a4 : Int)) = false := by rw [beq_eq_false_iff_ne]; omega
    have HD : Hid (decide (a4 = s.size) = false) := by show _ = _; simp; omega
    clear h
    go_enter Tryz.func140, Tryz.ntmps140
    go_wp2_with fail
    go_quiet (fail)
    go_wp2
    go_ret
    exact ⟨ret_bool (by rw [HD.out]; rfl), below_drewN ((Below.refl _ _).alloc (Nat.le_refl _) _) _⟩

theorem drew_cell (w2 : World) (a : Addr) : w2.drew.cell? a = w2.cell? a := rfl
theorem far5d (w2 : World) {n m : Nat} (h : n ≠ m) (a b c d e : Value) (j : Nat) : (((((w2.setCell ⟨n, 0, none⟩ a).setCell ⟨n, 1, none⟩ b).setCell ⟨n, 2, none⟩ c).setCell ⟨n, 3, none⟩ d).setCell ⟨n, 4, none⟩ e).drew.cell? ⟨m, j, none⟩ = w2.cell? ⟨m, j, none⟩ := by
  have e0 : ∀ X : World, X.drew.cell? ⟨m, j, none⟩ = X.cell? ⟨m, j, none⟩ := fun X => rfl
  rw [e0]
  rw [World.cell?_setCell_far _ _ _ _ h, World.cell?_setCell_far _ _ _ _ h, World.cell?_setCell_far _ _ _ _ h, World.cell?_setCell_far _ _ _ _ h, World.cell?_setCell_far _ _ _ _ h]


/-- The result's box of five noughts. -/
def Box5 (w W : World) : Prop := (W.cell? ⟨w.heap.size, 0, none⟩ = some (.int .i64 0) ∧ W.cell? ⟨w.heap.size, 1, none⟩ = some (.int .i64 0) ∧ W.cell? ⟨w.heap.size, 2, none⟩ = some (.int .i64 0) ∧ W.cell? ⟨w.heap.size, 3, none⟩ = some (.int .i64 0) ∧ W.cell? ⟨w.heap.size, 4, none⟩ = some (.int .i64 0)) ∧ (∀ i, W.frozen? ⟨w.heap.size, i, none⟩ = false) ∧ Below w.heap.size w W ∧ w.heap.size < W.heap.size
theorem Box5.below {w W W' : World} (h : Box5 w W) (hb : Below W.heap.size W W') : Box5 w W' := by
  obtain ⟨⟨h0, h1, h2, h3, h4⟩, hf, hB, hz⟩ := h
  exact ⟨⟨(hb.cell (p := ⟨w.heap.size, 0, none⟩) hz).trans h0, (hb.cell (p := ⟨w.heap.size, 1, none⟩) hz).trans h1, (hb.cell (p := ⟨w.heap.size, 2, none⟩) hz).trans h2, (hb.cell (p := ⟨w.heap.size, 3, none⟩) hz).trans h3, (hb.cell (p := ⟨w.heap.size, 4, none⟩) hz).trans h4⟩, fun i => (hb.frozen (p := ⟨w.heap.size, i, none⟩) hz).trans (hf i), hB.trans (hb.mono (Nat.le_of_lt hz)), Nat.lt_of_lt_of_le hz hb.size⟩
theorem box5_new (w : World) (t : TypeId) : Box5 w (w.alloc (.cells #[.int .i64 0, .int .i64 0, .int .i64 0, .int .i64 0, .int .i64 0] t)) :=
  ⟨⟨by simp, by simp, by simp, by simp, by simp⟩, fun i => by simp, (Below.refl _ _).alloc (Nat.le_refl _) _, by simp⟩

set_option maxRecDepth 100000 in
set_option maxHeartbeats 3200000 in
theorem readFront_go (s : ByteArray) (w : World) (hs : s.size ≤ 140737488351232) (hH : HalvesAt w) (h1 : 20 ≤ s.size) (h2 : (s.data.toList.take 2 == [73, 88]) = true) (h3 : sealedB (s.data.toList.take 20) = true) :
    Calls Tryz.prog 139 #[.string s] w fun e w' => e = .returned (frontV s.data.toList) ∧ Below w.heap.size w w' := by
  have hl : s.data.toList.length = s.size := by simp
  have E2 : Hid ((s.extract 0 2).toList = s.data.toList.take 2) := by show _ = _; rw [ByteArray.toList_eq, cut_list, List.drop_zero]
  have E20 : Hid ((s.extract 0 20).data.toList = s.data.toList.take 20) := by show _ = _; rw [cut_list, List.drop_zero]
  have HH : Hid (HalvesAt w) := hH
  have t1 : ((s.extract 0 2).toList == [73, 88]) = true := by rw [E2.out]; exact h2
  have t2 : ((s.extract 0 2).toList != [73, 88]) = false := by rw [bne, t1]; rfl
  have H3 : Hid (sealedB (s.data.toList.take 20) = true) := h3
  have HOK : Hid (ixOK s.data.toList = (decide (ixN s.data.toList ≠ 0) && decide (s.size = 20 + 10 * ixN s.data.toList + 4))) := by
    show _ = _
    rw [ixOK, hl, h2, h3]; simp [h1]
  have hN : ixN s.data.toList < 65536 := by
    have := highL_lt ((s.data.toList.drop 4).take 2)
    have h4 := pow256_le (show ((s.data.toList.drop 4).take 2).length ≤ 2 by simp; omega)
    unfold ixN; omega
  clear hH h2 h3 hl
  go_enter Tryz.func139, Tryz.ntmps139
  go_wp2_with fail
  refine (holds_any _ _ ?_ ?_).mono ?_
  · simp; omega
  · exact HH.out.below ((Below.refl w.heap.size w).alloc (Nat.le_refl _) _) HH.out.1
  rintro e w1 ⟨rfl, hb1⟩
  rw [E20.out, H3.out]
  have HB1 : Hid (Box5 w w1) := (box5_new w _).below hb1
  have hz1 : w.heap.size < w1.heap.size := HB1.out.2.2.2
  have C1 : Hid ((s.extract 2 4).data.toList = (s.data.toList.drop 2).take 2) := cut_list s 2 4
  have C2 : Hid ((s.extract 4 6).data.toList = (s.data.toList.drop 4).take 2) := cut_list s 4 6
  have C3 : Hid ((s.extract 6 8).data.toList = (s.data.toList.drop 6).take 2) := cut_list s 6 8
  have C4 : Hid ((s.extract 8 12).data.toList = (s.data.toList.drop 8).take 4) := cut_list s 8 12
  have C5 : Hid ((s.extract 12 16).data.toList = (s.data.toList.drop 12).take 4) := cut_list s 12 16
  have z1 : (s.extract 2 4).size = 2 := by simp; omega
  have z2 : (s.extract 4 6).size = 2 := by simp; omega
  have z3 : (s.extract 6 8).size = 2 := by simp; omega
  have z4 : (s.extract 8 12).size = 4 := by simp; omega
  have z5 : (s.extract 12 16).size = 4 := by simp; omega
  have i1 : (4 : Int) ≤ (s.size : Int) := by omega
  have i2 : (6 : Int) ≤ (s.size : Int) := by omega
  have i3 : (8 : Int) ≤ (s.size : Int) := by omega
  have i4 : (12 : Int) ≤ (s.size : Int) := by omega
  have i5 : (16 : Int) ≤ (s.size : Int) := by omega
  clear hb1 t1 t2 E2 E20 H3 HH
  go_wp2_with fail
  go_cut [5] (fun c wx => c = .pointer (some ⟨w1.heap.size, 0, none⟩) ∧ (wx.cell? ⟨w1.heap.size, 0, none⟩ = some (.int .i64 (ixLive s.data.toList)) ∧ wx.cell? ⟨w1.heap.size, 1, none⟩ = some (.int .i64 (ixN s.data.toList)) ∧ wx.cell? ⟨w1.heap.size, 2, none⟩ = some (.int .i64 (ixFar s.data.toList)) ∧ wx.cell? ⟨w1.heap.size, 3, none⟩ = some (.int .i64 (ixSize s.data.toList)) ∧ wx.cell? ⟨w1.heap.size, 4, none⟩ = some (.int .i64 (ixSum s.data.toList))) ∧ Below w1.heap.size w1 wx ∧ w1.heap.size < wx.heap.size)
  case first =>
    go_region_held3 (fun w' => w1.heap.size ≤ w'.heap.size) (first | (simp) | (simp; omega)) (first | (go_at_call_of 145 (Value.string (s.extract 2 4)); refine (lowRead_any _ _ (by omega)).mono ?_; rintro e w' ⟨rfl, rfl⟩) | (go_at_call_of 145 (Value.string (s.extract 4 6)); refine (lowRead_any _ _ (by omega)).mono ?_; rintro e w' ⟨rfl, rfl⟩) | (go_at_call_of 145 (Value.string (s.extract 6 8)); refine (lowRead_any _ _ (by omega)).mono ?_; rintro e w' ⟨rfl, rfl⟩) | (go_at_call_of 145 (Value.string (s.extract 8 12)); refine (lowRead_any _ _ (by omega)).mono ?_; rintro e w' ⟨rfl, rfl⟩) | (go_at_call_of 145 (Value.string (s.extract 12 16)); refine (lowRead_any _ _ (by omega)).mono ?_; rintro e w' ⟨rfl, rfl⟩))
    all_goals
      go_wp2_with fail
      go_meet
      refine ⟨rfl, ⟨?_, ?_, ?_, ?_, ?_⟩, ?_, ?_⟩
      · rw [ixLive, ← C1.out]; simp
      · rw [ixN, ← C2.out]; simp
      · rw [ixFar, ← C3.out]; simp
      · rw [ixSize, ← C4.out]; simp
      · rw [ixSum, ← C5.out]; simp
      · first | exact ((Below.refl _ _).alloc (Nat.le_refl _) _).drew | exact (((Below.refl _ _).alloc (Nat.le_refl _) _).setCell (by simp) _).drew
      · simp
  case rest =>
    obtain ⟨rfl, ⟨c0, c1, c2, c3, c4⟩, hb2, hz2⟩ := hcut
    clear z1 z2 z3 z4 z5 i1 i2 i3 i4 i5 C1 C2 C3 C4 C5
    obtain ⟨⟨r0, r1, r2, r3, r4⟩, rf, hB, hzr⟩ := HB1.out.below hb2
    have f0 := rf 0
    have f1 := rf 1
    have f2 := rf 2
    have f3 := rf 3
    have f4 := rf 4
    have HB : Hid (Below w.heap.size w wc) := hB
    have HFV : Hid (frontV s.data.toList = if ixOK s.data.toList = true then _ else _) := frontV.eq_1 s.data.toList
    have c20 : ixN s.data.toList ≠ 0 → s.size = 20 + 10 * ixN s.data.toList + 4 → ∀ wx : World, (Instr.slice 9 (.string s) (some (.int .i64 20)) (some (.int .i64 (20 + (ixN s.data.toList : Int) * 10))) none).run Tryz.prog wx = .ok (.string (S ((s.data.toList.drop 20).take (10 * ixN s.data.toList)))) wx := fun _ hz => cut_run s 20 (10 * ixN s.data.toList) (by omega) 20 (20 + (ixN s.data.toList : Int) * 10) rfl (by omega)
    clear rf hB hb2 HB1
    generalize ixLive s.data.toList = xl at *
    generalize ixFar s.data.toList = xf at *
    generalize ixSize s.data.toList = xs at *
    generalize ixSum s.data.toList = xm at *
    generalize ixN s.data.toList = n at *
    have hn10 : n ≤ 65536 := by omega
    rcases (show n = 0 ∨ (n ≠ 0 ∧ s.size ≠ 20 + 10 * n + 4) ∨ (n ≠ 0 ∧ s.size = 20 + 10 * n + 4) from by omega) with k1 | ⟨k1, k2⟩ | ⟨k1, k2⟩
    · have HV : Hid (frontV s.data.toList = .tuple #[.agg #[.int .i64 0, .int .i64 0, .int .i64 0, .int .i64 0, .int .i64 0], .string ⟨#[]⟩, .bool false]) := by
        show _ = _
        rw [HFV.out, if_neg (by rw [HOK.out]; simp [k1])]
      have tA : ((n : Int) == 0) = true := by rw [beq_iff_eq]; omega
      clear HFV HOK c20 k1
      go_wp2
      exact bodyPost_ret (v := .tuple #[.agg #[.int .i64 0, .int .i64 0, .int .i64 0, .int .i64 0, .int .i64 0], .string ⟨#[]⟩, .bool false]) (by simp [results, Tryz.results139, go_sem, r0, r1, r2, r3, r4]) rfl ⟨by rw [HV.out], ((((HB.out.setCell (Nat.le_refl _) _).setCell (Nat.le_refl _) _).setCell (Nat.le_refl _) _).setCell (Nat.le_refl _) _).setCell (Nat.le_refl _) _⟩
    · have HV : Hid (frontV s.data.toList = .tuple #[.agg #[.int .i64 0, .int .i64 0, .int .i64 0, .int .i64 0, .int .i64 0], .string ⟨#[]⟩, .bool false]) := by
        show _ = _
        rw [HFV.out, if_neg (by rw [HOK.out]; simp [k2])]
      have tA : ((n : Int) == 0) = false := by rw [beq_eq_false_iff_ne]; omega
      have tB : ((s.size : Int) != 20 + (n : Int) * 10 + 4) = true := by rw [bne_iff_ne]; omega
      clear HFV HOK c20 k1 k2
      go_wp2
      exact bodyPost_ret (v := .tuple #[.agg #[.int .i64 0, .int .i64 0, .int .i64 0, .int .i64 0, .int .i64 0], .string ⟨#[]⟩, .bool false]) (by simp [results, Tryz.results139, go_sem, r0, r1, r2, r3, r4]) rfl ⟨by rw [HV.out], ((((HB.out.setCell (Nat.le_refl _) _).setCell (Nat.le_refl _) _).setCell (Nat.le_refl _) _).setCell (Nat.le_refl _) _).setCell (Nat.le_refl _) _⟩
    · have HV : Hid (frontV s.data.toList = .tuple #[.agg #[.int .i64 xl, .int .i64 n, .int .i64 xf, .int .i64 xs, .int .i64 xm], .string (S ((s.data.toList.drop 20).take (10 * n))), .bool true]) := by
        show _ = _
        rw [HFV.out, if_pos (by rw [HOK.out]; simp [k1, k2])]
      have tA : ((n : Int) == 0) = false := by rw [beq_eq_false_iff_ne]; omega
      have tB : ((s.size : Int) != 20 + (n : Int) * 10 + 4) = false := by rw [bne_eq_false_iff_eq]; omega
      have c20' := c20 k1 k2
      generalize S ((s.data.toList.drop 20).take (10 * n)) = body at *
      have hwne : w.heap.size ≠ w1.heap.size := by omega
      have hwne2 : w1.heap.size ≠ w.heap.size := by omega
      clear HFV HOK c20 k1 k2 hN hz2 hzr
      go_wp2_with fail
      go_region_held3 (fun w' => w'.cell? ⟨w1.heap.size, 0, none⟩ = some (.int .i64 (xl : Int)) ∧ w'.cell? ⟨w1.heap.size, 1, none⟩ = some (.int .i64 (n : Int)) ∧ w'.cell? ⟨w1.heap.size, 2, none⟩ = some (.int .i64 (xf : Int)) ∧ w'.cell? ⟨w1.heap.size, 3, none⟩ = some (.int .i64 (xs : Int)) ∧ w'.cell? ⟨w1.heap.size, 4, none⟩ = some (.int .i64 (xm : Int))) (first | (simp [go_sem, hwne, hwne2, c0, c1, c2, c3, c4]; done)) (first | (fail))
      all_goals
        go_wp2
        exact bodyPost_ret (v := .tuple #[.agg #[.int .i64 xl, .int .i64 n, .int .i64 xf, .int .i64 xs, .int .i64 xm], .string body, .bool true]) (by simp [results, Tryz.results139, go_sem, r0, r1, r2, r3, r4]) rfl ⟨by rw [HV.out], (((((HB.out.setCell (Nat.le_refl _) _).setCell (Nat.le_refl _) _).setCell (Nat.le_refl _) _).setCell (Nat.le_refl _) _).setCell (Nat.le_refl _) _).drew⟩

theorem readFront_any (s : ByteArray) (w : World) (hs : s.size ≤ 140737488351232) (hH : HalvesAt w) :
    Calls Tryz.prog 139 #[.string s] w fun e w' => e = .returned (frontV s.data.toList) ∧ Below w.heap.size w w' := by
  have hl : s.data.toList.length = s.size := by simp
  by_cases h1 : 20 ≤ s.size
  · cases h2 : (s.data.toList.take 2 == [73, 88])
    · have hf : ixOK s.data.toList = false := by rw [ixOK, h2]; simp
      rw [frontV, hf]
      exact readFront_no s w hs hH (.inr (.inl ⟨h1, h2⟩))
    · cases h3 : sealedB (s.data.toList.take 20)
      · have hf : ixOK s.data.toList = false := by rw [ixOK, h3]; simp
        rw [frontV, hf]
        exact readFront_no s w hs hH (.inr (.inr ⟨h1, h2, h3⟩))
      · exact readFront_go s w hs hH h1 h2 h3
  · have hf : ixOK s.data.toList = false := by rw [ixOK]; simp; omega
    rw [frontV, hf]
    exact readFront_no s w hs hH (.inl (by omega))
end Go.Proofs.YtdhgebdbiehchaaGreatDoor
namespace Go.Proofs.YtdhgebdbiehchaaGreatDoor
open Go.RowKit
set_option linter.unusedSimpArgs false
set_option linter.unusedVariables false

set_option maxHeartbeats 800000 in
theorem sizeFor_any (len : Nat) (w : World) (hlen : len ≤ 2000) :
    Calls Tryz.prog 91 #[.int .i64 len] w fun e w' => e = .returned (.int .i64 (sizeL len : Nat)) ∧ w' = w := by
  have H12 : Hid (sizeF 12 len 4 = sizeL len) := rfl
  have hbd := sizeL_bound hlen
  generalize sizeL len = n at *
  go_enter Tryz.func91, Tryz.ntmps91
  go_wp2
  go_loop [3] (fun nn => ∃ (s f : Nat), nn = .int .i64 s ∧ (4 ≤ s ∧ s ≤ 5000) ∧ Hid (sizeF f len s = n) ∧ Hid (5 * len / 4 < s * 2 ^ f)) (fun nn => 5000 - (intOf nn).toNat)
  case atStart => exact ⟨4, 12, rfl, ⟨by omega, by omega⟩, H12, by show 5 * len / 4 < 4 * 2 ^ 12; omega⟩
  case round =>
    obtain ⟨s, f, rfl, ⟨h4, h5⟩, HS, HP⟩ := hrel
    by_cases hle : s ≤ 5 * len / 4
    · obtain ⟨f', rfl⟩ : ∃ f', f = f' + 1 := by
        cases f with
        | zero => have := HP.out; simp at this; omega
        | succ f' => exact ⟨f', rfl⟩
      have HS2 : Hid (sizeF f' len (2 * s) = n) := by
        show _ = _
        rw [← HS.out, sizeF, if_pos hle]
      have HP2 : Hid (5 * len / 4 < (2 * s) * 2 ^ f') := by
        show _ < _
        have := HP.out
        rw [Nat.pow_succ] at this
        rw [Nat.mul_comm 2 s, Nat.mul_assoc, Nat.mul_comm 2]; exact this
      have h52 : 2 * s ≤ 5000 := by omega
      clear HS HP
      go_wp2
      go_round
      case rel => exact ⟨2 * s, f', by congr 1; omega, ⟨by omega, h52⟩, HS2, HP2⟩
      case measure => first | (simp [intOf]; omega) | (simp [intOf])
    · have hsn : s = n := by rw [← HS.out, sizeF_stop hle]
      clear HS HP
      go_wp2
      go_ret
      exact ⟨ret_int (by first | rfl | rw [hsn]), rfl⟩

set_option maxHeartbeats 800000 in
theorem awayP_any (p : Option Addr) (n cap : Nat) (kind : Int) (x : Slt) (a : Nat) (w : World) (ha : a < n) (hn : n ≤ 5000) (hx : x.num < 4294967296) :
    Calls Tryz.prog 151 #[.slice p n cap, .agg #[.int .u8 kind, .int .i64 x.num, .int .i64 x.blk, .int .i64 x.no], .int .i64 a] w fun e w' => e = .returned (.int .i64 (awayN n x a : Nat)) ∧ Below w.heap.size w w' := by
  have HA : Hid (((a : Int) - (x.num : Int) % (n : Int) + (n : Int)) % (n : Int) = (awayN n x a : Nat)) := awayN_prog x ha
  have hne : ¬ n = 0 := by omega
  have hh : x.num % n < n := Nat.mod_lt _ (by omega)
  have hm : (x.num : Int) % (n : Int) = ((x.num % n : Nat) : Int) := by simp
  have htm : (x.num : Int).tmod (n : Int) = ((x.num % n : Nat) : Int) := rfl
  rw [hm] at HA
  generalize x.num % n = h at *
  go_enter Tryz.func151, Tryz.ntmps151
  go_wp2
  go_ret
  refine ⟨ret_int ?_, (Below.refl _ _).alloc (Nat.le_refl _) _⟩
  rw [← HA.out]

set_option maxRecDepth 100000 in
set_option maxHeartbeats 1600000 in
theorem checkB_any (v : Value) (l : List UInt8) (base : Nat) (w : World) (hown : w.ownsRow base 5 1 v l.length (cellsB l)) (hl : l.length ≤ 1000000000) (hH : HalvesAt w) :
    Calls Tryz.prog 181 #[v] w fun e w' => e = .returned (.int .u32 (crcN l : Nat)) ∧ w' = w := by
  have HH : Hid (HalvesAt w) := hH
  obtain ⟨p, c, rfl⟩ := own_len hown
  have HOWN : Hid (w.ownsRow base 5 1 (.slice p l.length c) l.length (cellsB l)) := hown
  clear hH hown
  go_enter Tryz.func181, Tryz.ntmps181
  go_wp2
  go_loop [3, 7] (fun c i => ∃ (k : Nat), k ≤ l.length ∧ i = .int .i64 k ∧ c = .int .u32 (crcRun (l.take k) : Nat)) (fun _ i => l.length - (intOf i).toNat)
  case atStart => exact ⟨0, Nat.zero_le _, rfl, rfl⟩
  case round =>
    obtain ⟨k, hk, rfl, rfl⟩ := hrel
    have hr := crcRun_lt (l.take k)
    by_cases hlt : k < l.length
    · have hcell : ∃ g, p = some ⟨g, 0, none⟩ ∧ w.cell? ⟨g, k, none⟩ = some (.int .u8 (l[k].toNat : Int)) := by
        obtain ⟨g, cap, he, _, _, hc⟩ := own_cellsN HOWN.out (by omega)
        simp at he
        refine ⟨g, he.1, ?_⟩
        rw [hc k (by omega)]
        simp [cellsB, hlt]
      obtain ⟨g, rfl, hcl⟩ := hcell
      have HS : Hid (crcRun (l.take (k + 1)) = nibStep (nibStep (crcRun (l.take k) ^^^ l[k].toNat))) := by
        show _ = _
        rw [List.take_succ_eq_append_getElem hlt, crcRun_snoc, nib_byte]
      have hc := l[k].toNat_lt
      have hx := u32_xor_nat (crcRun (l.take k)) l[k].toNat (by omega) (by omega)
      generalize crcRun (l.take k) = x at *
      have hy : x ^^^ l[k].toNat < 4294967296 := Nat.xor_lt_two_pow (n := 32) (by omega) (by omega)
      generalize l[k].toNat = lk at *
      generalize x ^^^ lk = y at *
      have hz := nibStep_lt hy
      have a1 := and_15 hy
      have a2 := and_15 hz
      have b1 : (((y % 16 : Nat) : Int)) < 16 := by omega
      have b2 : (((nibStep y % 16 : Nat) : Int)) < 16 := by omega
      have c1 := HH.out.2 (y % 16) (by omega)
      have c2 := HH.out.2 (nibStep y % 16) (by omega)
      have x1 := nib_xor hy
      have x2 := nib_xor hz
      generalize halvesL.getD (y % 16) 0 = t1 at *
      generalize halvesL.getD (nibStep y % 16) 0 = t2 at *
      generalize nibStep (nibStep y) = u at *
      generalize nibStep y = z at *
      generalize hq1 : y % 16 = q1 at *
      generalize hq2 : z % 16 = q2 at *
      clear hq1 hq2
      go_wp2
      go_round
      case rel => exact ⟨k + 1, by omega, by go_num, by rw [HS.out]⟩
      case measure => simp [intOf]; omega
    · have HS : Hid (crcRun (l.take k) = crcRun l) := by
        show _ = _
        rw [List.take_of_length_le (by omega)]
      generalize crcRun (l.take k) = x at *
      have HX : Hid (bits BinOp.xor IntKind.u32 IntKind.u32.max (x : Int) = ((x ^^^ 4294967295 : Nat) : Int)) := by
        show _ = _
        rw [show IntKind.u32.max = ((4294967295 : Nat) : Int) from rfl, u32_xor_nat _ _ (by omega) (by omega), Nat.xor_comm]
      go_wp2
      go_ret
      exact ⟨ret_int (by rw [HX.out, crcN, ← HS.out]), rfl⟩

set_option maxHeartbeats 800000 in
theorem seal_any (v : Value) (l : List UInt8) (base : Nat) (w : World) (hown : w.ownsRow base 5 1 v l.length (cellsB l)) (hbase : base ≤ w.heap.size) (hl : l.length ≤ 1000000) (hH : HalvesAt w) :
    Calls Tryz.prog 130 #[v] w fun e w' => ∃ v', e = .returned v' ∧ w'.ownsRow base 5 1 v' (sealL l).length (cellsB (sealL l)) ∧ Below base w w' := by
  have hc := crcN_lt l
  go_enter Tryz.func130, Tryz.ntmps130
  go_wp2_with fail
  refine (checkB_any v l base w hown (by omega) hH).mono ?_
  rintro e w1 ⟨rfl, rfl⟩
  have hw : IntKind.i64.wrap ((crcN l : Nat) : Int) = ((crcN l : Nat) : Int) := by rw [IntKind.wrap_i64]; omega
  have HAL : Hid _ := appendLow_any v l ((crcN l : Nat) : Int) 4 w1 base (by omega) (by omega) (by omega) hown hbase (by omega)
  have HSE : Hid (sealL l = l ++ lowL (crcN l) 4) := rfl
  clear hown
  go_wp2_with fail
  refine Calls.mono HAL.out ?_
  rintro e w2 ⟨v', rfl, hrow, hb⟩
  rw [Int.toNat_natCast] at hrow
  have HROW : Hid (w2.ownsRow base 5 1 v' (sealL l).length (cellsB (sealL l))) := by
    show World.ownsRow _ _ _ _ _ _ _
    rw [sealL_length, HSE.out]; exact hrow
  clear hrow
  go_wp2
  go_ret
  exact ⟨_, rfl, HROW.out, hb⟩

theorem Below.halves {base : Nat} {w w' : World} (h : HalvesAt w) (hb : Below base w w') (hg : 6 < base) : HalvesAt w' := h.below hb hg

/-- The front's box. -/
def FrontAt (w W : World) (a1 a2 a3 a4 a5 : Nat) : Prop := (W.cell? ⟨w.heap.size, 0, none⟩ = some (.int .i64 a1) ∧ W.cell? ⟨w.heap.size, 1, none⟩ = some (.int .i64 a2) ∧ W.cell? ⟨w.heap.size, 2, none⟩ = some (.int .i64 a3) ∧ W.cell? ⟨w.heap.size, 3, none⟩ = some (.int .i64 a4) ∧ W.cell? ⟨w.heap.size, 4, none⟩ = some (.int .i64 a5)) ∧ Below w.heap.size w W ∧ w.heap.size + 1 ≤ W.heap.size
theorem FrontAt.below {w W W' : World} {a1 a2 a3 a4 a5 : Nat} (h : FrontAt w W a1 a2 a3 a4 a5) (hb : Below (w.heap.size + 1) W W') : FrontAt w W' a1 a2 a3 a4 a5 := by
  obtain ⟨⟨h0, h1, h2, h3, h4⟩, hB, hz⟩ := h
  have hs : w.heap.size < w.heap.size + 1 := Nat.lt_succ_self _
  exact ⟨⟨(hb.cell (p := ⟨w.heap.size, 0, none⟩) hs).trans h0, (hb.cell (p := ⟨w.heap.size, 1, none⟩) hs).trans h1, (hb.cell (p := ⟨w.heap.size, 2, none⟩) hs).trans h2, (hb.cell (p := ⟨w.heap.size, 3, none⟩) hs).trans h3, (hb.cell (p := ⟨w.heap.size, 4, none⟩) hs).trans h4⟩, hB.trans (hb.mono (Nat.le_succ _)), Nat.le_trans hz hb.size⟩

end Go.Proofs.YtdhgebdbiehchaaGreatDoor
namespace Go.Proofs.YtdhgebdbiehchaaGreatDoor
open Go.RowKit
set_option linter.unusedSimpArgs false
set_option linter.unusedVariables false

/-- The cells of a slot of the program's table. -/
def sltP : Option Slt → List Value
  | none => [.int .u8 0, .int .i64 0, .int .i64 0, .int .i64 0]
  | some x => [.int .u8 1, .int .i64 x.num, .int .i64 x.blk, .int .i64 x.no]
theorem sltP_length (x : Option Slt) : (sltP x).length = 4 := by cases x <;> rfl
def cellsP (t : List (Option Slt)) : List Value := t.flatMap sltP
theorem cellsP_length (t : List (Option Slt)) : (cellsP t).length = t.length * 4 := by
  induction t with
  | nil => rfl
  | cons x t ih =>
    show (sltP x ++ cellsP t).length = _
    rw [List.length_append, ih, sltP_length, List.length_cons]; omega
theorem cellsP_at {t : List (Option Slt)} {i : Nat} {x : Option Slt} (h : t[i]? = some x) (j : Nat) (hj : j < 4) : (cellsP t)[i * 4 + j]? = (sltP x)[j]? := by
  induction t generalizing i with
  | nil => simp at h
  | cons y t ih =>
    cases i with
    | zero =>
      simp at h; subst h
      show (sltP y ++ cellsP t)[0 * 4 + j]? = _
      rw [List.getElem?_append_left (by rw [sltP_length]; omega)]
      congr 1; omega
    | succ i =>
      show (sltP y ++ cellsP t)[(i + 1) * 4 + j]? = _
      rw [List.getElem?_append_right (by rw [sltP_length]; omega), sltP_length, show (i + 1) * 4 + j - 4 = i * 4 + j by omega]
      exact ih (by simpa using h)
theorem set4 {α : Type} (l r : List α) (x0 x1 x2 x3 y0 y1 y2 y3 : α) (k : Nat) (h : l.length = k) : ((((l ++ x0 :: x1 :: x2 :: x3 :: r).set k y0).set (k + 1) y1).set (k + 2) y2).set (k + 3) y3 = l ++ y0 :: y1 :: y2 :: y3 :: r := by
  subst h
  induction l with
  | nil => rfl
  | cons a l ih => simp
theorem cellsP_set {t : List (Option Slt)} {i : Nat} (h : i < t.length) (x : Slt) : (((((cellsP t).set (i * 4) (.int .u8 1)).set (i * 4 + 1) (.int .i64 x.num)).set (i * 4 + 2) (.int .i64 x.blk)).set (i * 4 + 3) (.int .i64 x.no)) = cellsP (t.set i (some x)) := by
  have e : t = t.take i ++ t[i] :: t.drop (i + 1) := by rw [List.getElem_cons_drop, List.take_append_drop]
  have hl : (t.take i).length = i := by simp; omega
  have e2 : t.set i (some x) = t.take i ++ some x :: t.drop (i + 1) := by
    conv => lhs; rw [e]
    rw [List.set_append_right _ _ (by omega), hl, Nat.sub_self]; rfl
  have c1 : ∀ (l r : List (Option Slt)) (y : Option Slt), cellsP (l ++ y :: r) = cellsP l ++ (sltP y ++ cellsP r) := fun l r y => by simp [cellsP]
  rw [e2, c1]
  conv => lhs; rw [e, c1]
  cases t[i] with
  | none => exact set4 _ _ _ _ _ _ _ _ _ _ _ (by rw [cellsP_length, hl])
  | some y => exact set4 _ _ _ _ _ _ _ _ _ _ _ (by rw [cellsP_length, hl])
theorem made4 (n : Nat) : (madeCells #[.int .u8 0, .int .i64 0, .int .i64 0, .int .i64 0] (n * 4)).toList = cellsP (List.replicate n none) := by
  apply List.ext_getElem?
  intro j
  by_cases hj : j < n * 4
  · have h4 : j % 4 < 4 := Nat.mod_lt _ (by omega)
    have hd : j / 4 < n := by omega
    have hr : (cellsP (List.replicate n none))[j]? = (sltP none)[j % 4]? := by
      have := cellsP_at (t := List.replicate n none) (i := j / 4) (x := none) (by rw [List.getElem?_replicate, if_pos hd]) (j % 4) h4
      rwa [show j / 4 * 4 + j % 4 = j by omega] at this
    rw [hr]
    simp [madeCells, hj]
    generalize j % 4 = q at *
    match q, h4 with
    | 0, _ => rfl
    | 1, _ => rfl
    | 2, _ => rfl
    | 3, _ => rfl
  · have h1 : (cellsP (List.replicate n none))[j]? = none := List.getElem?_eq_none (by rw [cellsP_length]; simp; omega)
    rw [h1]
    simp [madeCells, hj]
theorem pslot_at {w : World} {base g cap n : Nat} {t : List (Option Slt)} {a : Nat} {x : Option Slt} (h : w.ownsRow base 175 4 (.slice (some ⟨g, 0, none⟩) n cap) n (cellsP t)) (hx : t[a]? = some x) (ha : a < n) : w.cell? ⟨g, a * 4, none⟩ = (sltP x)[0]? ∧ w.cell? ⟨g, a * 4 + 1, none⟩ = (sltP x)[1]? ∧ w.cell? ⟨g, a * 4 + 2, none⟩ = (sltP x)[2]? ∧ w.cell? ⟨g, a * 4 + 3, none⟩ = (sltP x)[3]? :=
  ⟨(h.cellAt (a * 4) (by omega)).trans (cellsP_at hx 0 (by omega)), (h.cellAt (a * 4 + 1) (by omega)).trans (cellsP_at hx 1 (by omega)), (h.cellAt (a * 4 + 2) (by omega)).trans (cellsP_at hx 2 (by omega)), (h.cellAt (a * 4 + 3) (by omega)).trans (cellsP_at hx 3 (by omega))⟩

set_option maxRecDepth 100000 in
set_option maxHeartbeats 1600000 in
theorem farthest_any (g n cap base : Nat) (t : List (Option Slt)) (w : World) (hown : w.ownsRow base 175 4 (.slice (some ⟨g, 0, none⟩) n cap) n (cellsP t)) (htl : t.length = n) (hn0 : 0 < n) (hn : n ≤ 5000) (hnum : ∀ y : Slt, some y ∈ t → y.num < 4294967296) :
    Calls Tryz.prog 95 #[.slice (some ⟨g, 0, none⟩) n cap] w fun e w' => e = .returned (.int .i64 (farP n t n : Nat)) ∧ Below w.heap.size w w' := by
  go_enter Tryz.func95, Tryz.ntmps95
  go_wp2
  go_loopw [3, 8] (fun fr i wr => ∃ (k : Nat), k ≤ n ∧ i = .int .i64 k ∧ fr = .int .i64 (farP n t k : Nat) ∧ wr.ownsRow base 175 4 (.slice (some ⟨g, 0, none⟩) n cap) n (cellsP t) ∧ Below w.heap.size w wr) (fun _ i _ => n - (intOf i).toNat)
  case atStart => exact ⟨0, Nat.zero_le _, rfl, rfl, hown, Below.refl _ _⟩
  case round =>
    obtain ⟨k, hk, rfl, rfl, hrow, hb⟩ := hrel
    clear hown
    have hfar := farP_lt (n := n) hn0 t k
    by_cases hkn : k < n
    · have hta : t[k]? = some t[k] := List.getElem?_eq_getElem (by omega)
      obtain ⟨z0, z1, z2, z3⟩ := pslot_at hrow hta hkn
      have HROW : Hid (wr.ownsRow base 175 4 (.slice (some ⟨g, 0, none⟩) n cap) n (cellsP t)) := hrow
      have HB : Hid (Below w.heap.size w wr) := hb
      have hbs := hb.size
      clear hrow hb
      cases hy : t[k] with
      | none =>
        rw [hy] at hta z0 z1 z2 z3
        simp only [sltP, List.getElem?_cons_zero, List.getElem?_cons_succ] at z0 z1 z2 z3
        have HFP : Hid (farP n t (k + 1) = farP n t k) := farP_none hta
        clear hy hta hnum
        generalize farP n t k = fk at *
        go_wp2
        go_roundw
        case rel => exact ⟨k + 1, by omega, by first | rfl | go_num, by rw [HFP.out], HROW.out.alloc _, HB.out.alloc hbs _⟩
        case measure => first | (simp [intOf]; omega) | (simp [intOf])
      | some y =>
        have hym : some y ∈ t := List.mem_of_getElem? (by rw [hta, hy])
        rw [hy] at hta z0 z1 z2 z3
        simp only [sltP, List.getElem?_cons_zero, List.getElem?_cons_succ] at z0 z1 z2 z3
        have hyn := hnum y hym
        have HFP : Hid (farP n t (k + 1) = max (farP n t k) (awayN n y k)) := farP_some hta
        have hawl := awayN_lt hn0 y k
        have HAY := awayP_any (some ⟨g, 0, none⟩) n cap 1 y k
        clear hy hta hnum hym
        generalize awayN n y k = d at *
        generalize farP n t k = fk at *
        go_wp2_with fail
        refine (HAY _ hkn hn hyn).mono ?_
        rintro e w4 ⟨rfl, hb4⟩
        have HR4 : Hid (w4.ownsRow base 175 4 (.slice (some ⟨g, 0, none⟩) n cap) n (cellsP t)) := own_below (HROW.out.alloc _) hb4 (Nat.le_refl _)
        have HB4 : Hid (Below w.heap.size w w4) := (HB.out.alloc hbs _).trans (hb4.mono (by simp; omega))
        clear HAY hb4 z0 z1 z2 z3
        by_cases hdf : fk < d
        · have HFX : Hid (farP n t (k + 1) = d) := by show _ = _; rw [HFP.out]; omega
          go_wp2
          go_roundw
          case rel => exact ⟨k + 1, by omega, by first | rfl | go_num, by rw [HFX.out], HR4.out, HB4.out⟩
          case measure => first | (simp [intOf]; omega) | (simp [intOf])
        · have HFX : Hid (farP n t (k + 1) = fk) := by show _ = _; rw [HFP.out]; omega
          go_wp2
          go_roundw
          case rel => exact ⟨k + 1, by omega, by first | rfl | go_num, by rw [HFX.out], HR4.out, HB4.out⟩
          case measure => first | (simp [intOf]; omega) | (simp [intOf])
    · have hke : k = n := by omega
      subst hke
      obtain ⟨fk, hfk⟩ : ∃ fk, fk = farP k t k := ⟨_, rfl⟩
      have HFK : Hid (fk = farP k t k) := hfk
      rw [← hfk]
      clear hfk
      go_wp2
      go_ret
      exact ⟨ret_int (by rw [HFK.out]), hb⟩
end Go.Proofs.YtdhgebdbiehchaaGreatDoor
namespace Go.Proofs.YtdhgebdbiehchaaGreatDoor
open Go.RowKit
set_option linter.unusedSimpArgs false
set_option linter.unusedVariables false

/-- A block of another type than a row's is not the row's. -/
theorem own_not {w : World} {base e size n b f : Nat} {v : Value} {xs : List Value} {cur : Array Value} (h : w.ownsRow base e size v n xs) (hb : w.heap[b]? = some (.cells cur f (0, 0))) (hne : e ≠ f) : some b ≠ v.ownBlock := by
  rcases h.2 with ⟨rfl, _⟩ | ⟨g, cap, cur', rfl, _, hg, _⟩
  · simp [Value.ownBlock]
  · intro h
    simp [Value.ownBlock] at h
    subst h
    rw [hg] at hb
    simp at hb
    exact hne hb.2
theorem box_alloc {w : World} {b f : Nat} {cur : Array Value} (hb : w.heap[b]? = some (.cells cur f (0, 0))) (o : Obj) : (w.alloc o).heap[b]? = some (.cells cur f (0, 0)) :=
  (Below.heap_alloc w o b (Array.getElem?_eq_some_iff.1 hb).1).trans hb
theorem box_grown {w w' : World} {base e size n b f : Nat} {v : Value} {xs : List Value} {cur : Array Value} (hb : w.heap[b]? = some (.cells cur f (0, 0))) (h : w.ownsRow base e size v n xs) (hne : e ≠ f) (hg : w.grownBy w' v.ownBlock) : w'.heap[b]? = some (.cells cur f (0, 0)) :=
  (hg.block b (Array.getElem?_eq_some_iff.1 hb).1 (own_not h hb hne)).trans hb

set_option maxHeartbeats 800000 in
theorem appendLow_box (v : Value) (l : List UInt8) (n : Int) (k : Nat) (w : World) (base : Nat) (hn : 0 ≤ n) (hn' : n ≤ 9223372036854775807) (hk : k ≤ 8)
    (hown : w.ownsRow base 5 1 v l.length (cellsB l)) (hbase : base ≤ w.heap.size) (hl : l.length ≤ 1000000000) (b f : Nat) (cur : Array Value) (hbx : w.heap[b]? = some (.cells cur f (0, 0))) (hf : 5 ≠ f) :
    Calls Tryz.prog 129 #[v, .int .i64 n, .int .i64 k] w fun e w' => ∃ v', e = .returned v' ∧ w'.ownsRow base 5 1 v' (l.length + k) (cellsB (l ++ lowL n.toNat k)) ∧ Below base w w' ∧ w'.heap[b]? = some (.cells cur f (0, 0)) := by
  obtain ⟨i0, hi, hz0, hz1, hz2⟩ := info_parts info_u8
  have HBX : Hid (w.heap[b]? = some (.cells cur f (0, 0))) := hbx
  clear hbx
  go_enter Tryz.func129, Tryz.ntmps129
  go_wp2
  go_loopw [0, 9] (fun m i wr => ∃ (j : Nat), j ≤ k ∧ i = .int .i64 j ∧ wr.ownsRow base 5 1 m (l.length + j) (cellsB (l ++ lowL n.toNat j)) ∧ Below base w wr ∧ Hid (wr.heap[b]? = some (.cells cur f (0, 0)))) (fun _ i _ => k - (intOf i).toNat)
  case atStart => exact ⟨0, Nat.zero_le _, rfl, by simpa [lowL] using hown, Below.refl _ _, HBX⟩
  case round =>
    obtain ⟨j, hj, rfl, ho, hb, HB⟩ := hrel
    by_cases hlt : j < k
    · have h8 : (0 : Int) ≤ 8 * (j : Int) := by omega
      have h9 : 8 * (j : Int) ≤ 64 := by omega
      go_wp2_with (at_builtin; refine wpList_append_own _ rfl (.tmp 12) (.tmp 18) 43 rfl base 5 i0 (.int .u8 0) 1 1 Tryz.underlying43 hi hz0 hz1 hz2 rfl (by decide) _ _ _ rfl (ho.alloc _) ⟨wr.heap.size, 0, none⟩ 1 1 [.int .u8 (IntKind.u8.wrap (n / 2 ^ (8 * (j : Int)).toNat))] rfl rfl ?c1 ?c2 ?c3 ?c4 ?c5 ?_)
      case c1 => exact cell_one_new _ _ _
      case c2 => intro u hu; simp at hu; subst hu; rfl
      case c3 => unfold maxLen; omega
      case c4 => omega
      case c5 => have := hb.size; simp; omega
      intro v' w1 hown' hgrow _
      have HB1 : Hid (w1.heap[b]? = some (.cells cur f (0, 0))) := box_grown (box_alloc HB.out _) (ho.alloc _) hf hgrow
      clear h8 h9
      go_wp2
      go_roundw
      case rel =>
        refine ⟨j + 1, by omega, by go_num, ?_, ?_, HB1⟩
        · rw [← cells_snoc hn]; exact hown'
        · exact (hb.alloc (by have := hb.size; omega) _).grown hgrow (by have := hb.size; simp; omega) (own_ge ho)
      case measure => simp [intOf]; omega
    · have hjk : j = k := by omega
      subst hjk
      go_wp2
      go_ret
      exact ⟨_, rfl, ho, hb, HB.out⟩

theorem slot_parts (x : Option Slt) (hx : ∀ y, x = some y → y.num < 4294967296 ∧ y.blk ≤ 100000 ∧ y.no ≤ 255) : ∃ kd nm bl no : Nat, (sltP x = [.int .u8 (kd : Int), .int .i64 (nm : Int), .int .i64 (bl : Int), .int .i64 (no : Int)] ∧ sltB x = (([UInt8.ofNat kd] ++ lowL nm 4) ++ lowL bl 4) ++ lowL no 1) ∧ kd ≤ 1 ∧ nm < 4294967296 ∧ bl ≤ 100000 ∧ no ≤ 255 := by
  cases x with
  | none => exact ⟨0, 0, 0, 0, ⟨rfl, rfl⟩, by omega, by omega, by omega, by omega⟩
  | some y =>
    have := hx y rfl
    exact ⟨1, y.num, y.blk, y.no, ⟨rfl, rfl⟩, by omega, by omega, by omega, by omega⟩
theorem cellsB_one (l : List UInt8) {kd : Nat} (h : kd ≤ 1) : cellsB l ++ [.int .u8 (kd : Int)] = cellsB (l ++ [UInt8.ofNat kd]) := by
  rw [cellsB_append]
  congr 1
  simp [cellsB]
  omega
theorem box_cells {w : World} {b f : Nat} {x0 x1 x2 x3 : Value} (h : w.heap[b]? = some (.cells #[x0, x1, x2, x3] f (0, 0))) : w.cell? ⟨b, 0, none⟩ = some x0 ∧ w.cell? ⟨b, 1, none⟩ = some x1 ∧ w.cell? ⟨b, 2, none⟩ = some x2 ∧ w.cell? ⟨b, 3, none⟩ = some x3 :=
  ⟨cell_of_row w b 0 _ f _ h, cell_of_row w b 1 _ f _ h, cell_of_row w b 2 _ f _ h, cell_of_row w b 3 _ f _ h⟩

set_option maxRecDepth 100000 in
set_option maxHeartbeats 3200000 in
theorem tableBytes_any (g n cap base : Nat) (t : List (Option Slt)) (w : World) (hown : w.ownsRow base 175 4 (.slice (some ⟨g, 0, none⟩) n cap) n (cellsP t)) (htl : t.length = n) (hn0 : 0 < n) (hn : n ≤ 5000) (hslt : ∀ y : Slt, some y ∈ t → y.num < 4294967296 ∧ y.blk ≤ 100000 ∧ y.no ≤ 255) (hH : HalvesAt w) :
    Calls Tryz.prog 98 #[.slice (some ⟨g, 0, none⟩) n cap] w fun e w' => ∃ v', e = .returned v' ∧ w'.ownsRow w.heap.size 5 1 v' (sealL (tabB t)).length (cellsB (sealL (tabB t))) ∧ Below w.heap.size w w' := by
  obtain ⟨i0, hi, hz0, hz1, hz2⟩ := info_parts info_u8
  have HH : Hid (HalvesAt w) := hH
  have HOWN : Hid (w.ownsRow base 175 4 (.slice (some ⟨g, 0, none⟩) n cap) n (cellsP t)) := hown
  have hgw : g < w.heap.size := by
    obtain ⟨g', c', he, _, hgw', _⟩ := own_cellsN hown hn0
    simp at he; omega
  clear hH hown
  go_enter Tryz.func98, Tryz.ntmps98
  go_wp2
  go_loopw [3, 8] (fun bv i wr => ∃ (k : Nat), k ≤ n ∧ i = .int .i64 k ∧ wr.ownsRow w.heap.size 5 1 bv (tabB (t.take k)).length (cellsB (tabB (t.take k))) ∧ Below w.heap.size w wr) (fun _ i _ => n - (intOf i).toNat)
  case atStart => exact ⟨0, Nat.zero_le _, rfl, World.ownsRow_nil _ _ _ _, Below.refl _ _⟩
  case round =>
    obtain ⟨k, hk, rfl, hrow, hb⟩ := hrel
    obtain ⟨W1, rfl⟩ : ∃ W1, W1 = wr := ⟨_, rfl⟩
    have hbs := hb.size
    have hll : (tabB (t.take k)).length ≤ 60000 := by rw [tabB_length]; simp; omega
    by_cases hkn : k < n
    · have hta : t[k]? = some t[k] := List.getElem?_eq_getElem (by omega)
      obtain ⟨kd, nm, bl, no, ⟨hP, hS⟩, l1, l2, l3, l4⟩ := slot_parts t[k] (fun y hy => hslt y (List.mem_of_getElem? (by rw [hta, hy])))
      obtain ⟨z0, z1, z2, z3⟩ := pslot_at HOWN.out hta hkn
      rw [hP] at z0 z1 z2 z3
      simp only [List.getElem?_cons_zero, List.getElem?_cons_succ] at z0 z1 z2 z3
      replace z0 := (hb.cell (p := ⟨g, k * 4, none⟩) hgw).trans z0
      replace z1 := (hb.cell (p := ⟨g, k * 4 + 1, none⟩) hgw).trans z1
      replace z2 := (hb.cell (p := ⟨g, k * 4 + 2, none⟩) hgw).trans z2
      replace z3 := (hb.cell (p := ⟨g, k * 4 + 3, none⟩) hgw).trans z3
      have HTK : Hid (tabB (t.take (k + 1)) = tabB (t.take k) ++ ((([UInt8.ofNat kd] ++ lowL nm 4) ++ lowL bl 4) ++ lowL no 1)) := by
        show _ = _
        rw [List.take_succ_eq_append_getElem (by omega), tabB_snoc, hS]
      have hbox : (W1.alloc (.cells #[.int .u8 (kd : Int), .int .i64 (nm : Int), .int .i64 (bl : Int), .int .i64 (no : Int)] 175)).heap[W1.heap.size]? = some (.cells #[.int .u8 (kd : Int), .int .i64 (nm : Int), .int .i64 (bl : Int), .int .i64 (no : Int)] 175 (0, 0)) := heap_alloc_new W1 _
      have HBOX : Hid _ := hbox
      have HROW : Hid (W1.ownsRow w.heap.size 5 1 u3 (tabB (t.take k)).length (cellsB (tabB (t.take k)))) := hrow
      have HB : Hid (Below w.heap.size w W1) := hb
      clear hta hP hS hrow hb hbox hslt
      generalize tabB (t.take k) = l at *
      go_wp2_with (at_builtin; refine wpList_append_own _ rfl (.tmp 12) (.tmp 15) 43 rfl w.heap.size 5 i0 (.int .u8 0) 1 1 Tryz.underlying43 hi hz0 hz1 hz2 rfl (by decide) _ _ _ rfl ((HROW.out.alloc _).alloc _) ⟨W1.heap.size + 1, 0, none⟩ 1 1 [.int .u8 (kd : Int)] rfl rfl ?c1 ?c2 ?c3 ?c4 ?c5 ?_)
      case c1 =>
        have h5 := cell_one_new (W1.alloc (.cells #[.int .u8 (kd : Int), .int .i64 (nm : Int), .int .i64 (bl : Int), .int .i64 (no : Int)] 175)) (.int .u8 (kd : Int)) 5
        rwa [show (W1.alloc (.cells #[.int .u8 (kd : Int), .int .i64 (nm : Int), .int .i64 (bl : Int), .int .i64 (no : Int)] 175)).heap.size = W1.heap.size + 1 by simp] at h5
      case c2 => intro u hu; simp at hu; subst hu; rfl
      case c3 => unfold maxLen; omega
      case c4 => omega
      case c5 => simp; omega
      intro v1 w1 hown1 hg1 _
      have hrow1 : w1.ownsRow w.heap.size 5 1 v1 (l ++ [UInt8.ofNat kd]).length (cellsB (l ++ [UInt8.ofNat kd])) := by
        rw [← cellsB_one l l1, List.length_append]; exact hown1
      have hbx1 := box_grown (box_alloc HBOX.out (.cells #[.int .u8 (kd : Int)] 5)) ((HROW.out.alloc _).alloc _) (by decide) hg1
      have hB1 : Below w.heap.size w w1 := ((HB.out.alloc hbs _).alloc (by simp; omega) _).grown hg1 (by simp; omega) (own_ge HROW.out)
      have HBX1 : Hid _ := hbx1
      have HB1 : Hid (Below w.heap.size w w1) := hB1
      have HROW1 : Hid (w1.ownsRow w.heap.size 5 1 v1 (l ++ [UInt8.ofNat kd]).length (cellsB (l ++ [UInt8.ofNat kd]))) := hrow1
      obtain ⟨_, x1, _, _⟩ := box_cells hbx1
      have hs1 := hB1.size
      have HA1 : Hid _ := appendLow_box v1 (l ++ [UInt8.ofNat kd]) (nm : Int) 4 w1 w.heap.size (by omega) (by omega) (by omega) hrow1 hs1 (by simp; omega) W1.heap.size 175 _ hbx1 (by decide)
      clear hown1 hg1 hrow1 hbx1 hB1 z0 z1 z2 z3 HROW HBOX HB
      go_wp2_with fail
      refine Calls.mono HA1.out ?_
      rintro e w2 ⟨v2, rfl, hrow2, hb2, hbx2⟩
      have hB2 : Below w.heap.size w w2 := HB1.out.trans hb2
      have hl2 : (l ++ [UInt8.ofNat kd]).length + 4 = ((l ++ [UInt8.ofNat kd]) ++ lowL nm 4).length := by simp [lowL_length]
      rw [Int.toNat_natCast, hl2] at hrow2
      obtain ⟨_, _, x2, _⟩ := box_cells hbx2
      have HA2 : Hid _ := appendLow_box v2 ((l ++ [UInt8.ofNat kd]) ++ lowL nm 4) (bl : Int) 4 w2 w.heap.size (by omega) (by omega) (by omega) hrow2 hB2.size (by simp [lowL_length]; omega) W1.heap.size 175 _ hbx2 (by decide)
      have HB2 : Hid (Below w.heap.size w w2) := hB2
      clear x1 HA1 HB1 hrow2 hb2 hbx2 hB2 hl2 HBX1 HROW1
      go_wp2_with fail
      refine Calls.mono HA2.out ?_
      rintro e w3 ⟨v3, rfl, hrow3, hb3, hbx3⟩
      have hB3 : Below w.heap.size w w3 := HB2.out.trans hb3
      have hl3 : ((l ++ [UInt8.ofNat kd]) ++ lowL nm 4).length + 4 = (((l ++ [UInt8.ofNat kd]) ++ lowL nm 4) ++ lowL bl 4).length := by simp [lowL_length]
      rw [Int.toNat_natCast, hl3] at hrow3
      obtain ⟨_, _, _, x3⟩ := box_cells hbx3
      have HA3 : Hid _ := appendLow_box v3 (((l ++ [UInt8.ofNat kd]) ++ lowL nm 4) ++ lowL bl 4) (no : Int) 1 w3 w.heap.size (by omega) (by omega) (by omega) hrow3 hB3.size (by simp [lowL_length]; omega) W1.heap.size 175 _ hbx3 (by decide)
      have HB3 : Hid (Below w.heap.size w w3) := hB3
      clear x2 HA2 HB2 hrow3 hb3 hbx3 hB3 hl3
      go_wp2_with fail
      refine Calls.mono HA3.out ?_
      rintro e w4 ⟨v4, rfl, hrow4, hb4, _⟩
      have HB4 : Hid (Below w.heap.size w w4) := HB3.out.trans hb4
      have hl4 : (((l ++ [UInt8.ofNat kd]) ++ lowL nm 4) ++ lowL bl 4).length + 1 = ((((l ++ [UInt8.ofNat kd]) ++ lowL nm 4) ++ lowL bl 4) ++ lowL no 1).length := by simp [lowL_length]
      have he4 : (((l ++ [UInt8.ofNat kd]) ++ lowL nm 4) ++ lowL bl 4) ++ lowL no 1 = tabB (t.take (k + 1)) := by rw [HTK.out]; simp [List.append_assoc]
      rw [Int.toNat_natCast, hl4, he4] at hrow4
      have HROW4 : Hid (w4.ownsRow w.heap.size 5 1 v4 (tabB (t.take (k + 1))).length (cellsB (tabB (t.take (k + 1))))) := hrow4
      clear x3 HA3 HB3 hrow4 hb4 hl4 he4
      go_wp2
      go_roundw
      case rel => exact ⟨k + 1, by omega, by first | rfl | go_num, HROW4.out, HB4.out⟩
      case measure => first | (simp [intOf]; omega) | (simp [intOf])
    · have hke : k = n := by omega
      subst hke
      rw [show t.take k = t from List.take_of_length_le (by omega)] at hrow hll
      have HSE : Hid _ := seal_any _ (tabB t) w.heap.size W1 hrow hbs (by omega) (HH.out.below hb HH.out.1)
      clear hrow
      go_wp2_with fail
      refine Calls.mono HSE.out ?_
      rintro e w2 ⟨v2, rfl, hrow2, hb2⟩
      have HROW2 : Hid (w2.ownsRow w.heap.size 5 1 v2 (sealL (tabB t)).length (cellsB (sealL (tabB t)))) := hrow2
      clear hrow2
      go_wp2
      go_ret
      exact ⟨_, rfl, HROW2.out, hb.trans hb2⟩
end Go.Proofs.YtdhgebdbiehchaaGreatDoor
