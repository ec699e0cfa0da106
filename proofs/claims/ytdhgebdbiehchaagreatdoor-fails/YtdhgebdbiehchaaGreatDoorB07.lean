/- On the way: RefHead. -/
import Derived.Test.YtdhgebdbiehchaaGreatDoorB06
import Derived.Lib.Strings
import Derived.Deep.DeepCutAuto
namespace Go.Proofs.YtdhgebdbiehchaaGreatDoor
open Go.RowKit
set_option linter.unusedSimpArgs false
set_option linter.unusedVariables false
set_option maxHeartbeats 1600000
theorem high_any (s : ByteArray) (w : World) (hs : s.size <= 7) :
  Calls Tryz.prog 169 #[.string s] w fun e w' => e = .returned (.int .i64 (highL s.data.toList : Nat)) /\ w' = w := by
 have hl : s.data.toList.length = s.size := by simp
 go_enter Tryz.func169,Tryz.ntmps169
 go_wp2
 go_loop [3,4] (fun n i => ∃ (k : Nat),k <= s.size /\ i = .int .i64 ((k : Int) - 1) /\ n = .int .i64 (highL (s.data.toList.drop k) : Nat)) (fun _ i => (intOf i + 1).toNat)
 case atStart => exact ⟨s.size,Nat.le_refl _,rfl,by rw [List.drop_of_length_le (by omega)]; rfl⟩
 case round =>
  obtain ⟨k,hk,rfl,rfl⟩ := hrel
  by_cases hlt : 0 < k
  ·obtain ⟨j,rfl⟩ : ∃ j,k = j + 1 := ⟨k - 1,by omega⟩
   have hj : j < s.size := by omega
   have HS : Hid (highL (s.data.toList.drop j) = s[j].toNat + 256 * highL (s.data.toList.drop (j + 1))) := highL_drop (by omega)
   have hb : highL (s.data.toList.drop (j + 1)) < 281474976710656 := by
    refine Nat.lt_of_lt_of_le (highL_lt _) ?_
    have := pow256_le (show (s.data.toList.drop (j + 1)).length <= 6 by rw [List.length_drop,hl]; omega)
    omega
   have hc := s[j].toNat_lt
   have hw := w64b s[j]
   generalize highL (s.data.toList.drop (j + 1)) = x at *
   go_wp2
   go_round
   case rel => exact ⟨j,by omega,rfl,by rw [HS.out]; congr 1; omega⟩
   case measure => simp [intOf]
  ·have hk0 : k = 0 := by omega
   subst hk0
   go_wp2
   go_ret
   exact ⟨rfl,rfl⟩
theorem refSealed_any (s : ByteArray) (w : World) (hs : s.size <= 140737488351232) :
  Calls Tryz.prog 197 #[.string s] w fun e w' => e = .returned (.bool (sealedB s.data.toList)) /\ Below w.heap.size w w' := by
 by_cases h4 : 4 <= s.size
 ·go_enter Tryz.func197,Tryz.ntmps197
  go_wp2_with fail
  refine (sealed_any _ _ (by simp; omega)).mono ?_
  rintro e w1 ⟨rfl,hb1⟩
  rw [Lib.extract_data,List.drop_zero,Nat.sub_zero]
  go_wp2
  go_ret
  refine ⟨ret_bool ?_,hb1⟩
  rw [ByteArray.toList_eq,ByteArray.toList_eq,S_data,sealedB]
  simp [h4]
 ·go_enter Tryz.func197,Tryz.ntmps197
  go_wp2
  go_ret
  exact ⟨ret_bool (by simp [sealedB]; omega),Below.refl _ _⟩
theorem cut_run (s : ByteArray) (a n : Nat) (h2 : a + n <= s.size) (i j : Int) (hi : i = a) (hj : j = ((a + n : Nat) : Int)) : ∀ wx : World,(Instr.slice 9 (.string s) (some (.int .i64 i)) (some (.int .i64 j)) none).run Tryz.prog wx = .ok (.string (S ((s.data.toList.drop a).take n))) wx := by
 intro wx
 subst hi hj
 rw [run_slice_string wx 9 s .i64 .i64 a ((a + n : Nat) : Int) Tryz.underlying9 (by omega) (by omega) (by omega),cut_S,Int.toNat_natCast,Int.toNat_natCast,Nat.add_sub_cancel_left]
theorem cut_from (s : ByteArray) (a : Nat) (h : a <= s.size) (i : Int) (hi : i = a) : ∀ wx : World,(Instr.slice 9 (.string s) (some (.int .i64 i)) none none).run Tryz.prog wx = .ok (.string (S (s.data.toList.drop a))) wx := by
 intro wx
 subst hi
 rw [run_slice_string_from_if wx 9 s .i64 a Tryz.underlying9,if_pos ⟨by omega,by omega⟩,cut_S,Int.toNat_natCast,List.take_of_length_le (by simp)]
theorem cut_upto (s : ByteArray) (a : Nat) (h : a <= s.size) (i : Int) (hi : i = a) : ∀ wx : World,(Instr.slice 9 (.string s) none (some (.int .i64 i)) none).run Tryz.prog wx = .ok (.string (S (s.data.toList.take a))) wx := by
 intro wx
 subst hi
 rw [run_slice_string_to_if wx 9 s .i64 a Tryz.underlying9,if_pos ⟨by omega,by omega⟩,cut_S,Int.toNat_natCast,List.drop_zero,Nat.sub_zero]
theorem idx_run (s : ByteArray) (a : Nat) (h : a < s.size) (i : Int) (hi : i = a) : ∀ wx : World,(Instr.index 9 (.string s) (.int .i64 i)).run Tryz.prog wx = .ok (.int .u8 (s[a].toNat : Int)) wx := by
 intro wx
 subst hi
 rw [run_index_string wx 9 s .i64 a Tryz.underlying9,dif_pos ⟨by omega,by omega⟩]
 simp
theorem cut_list (s : ByteArray) (a b : Nat) : (s.extract a b).data.toList = (s.data.toList.drop a).take (b - a) := Lib.extract_data s a b
theorem well_any (blk seed bits : Int) (w : World) :
  Calls Tryz.prog 171 #[.agg #[.int .i64 blk,.int .i64 seed,.int .i64 bits]] w fun e w' => e = .returned (.bool (wellB blk seed bits)) /\ Below w.heap.size w w' := by
 go_enter Tryz.func171,Tryz.ntmps171
 go_wp2
 all_goals
  go_ret
  refine ⟨ret_bool ?_,(Below.refl _ _).alloc (Nat.le_refl _) _⟩
  rw [Bool.eq_iff_iff]; unfold wellB; simp; omega
theorem refhead_short (s : ByteArray) (w : World) (hs : s.size < 14) :
  Calls Tryz.prog 196 #[.string s] w fun e w' => e = .returned (.tuple #[.agg #[.int .i64 0,.int .i64 0,.int .i64 0],.bool false]) /\ Below w.heap.size w w' := by
 go_enter Tryz.func196,Tryz.ntmps196
 go_wp2
 exact bodyPost_ret (v := .tuple #[.agg #[.int .i64 0,.int .i64 0,.int .i64 0],.bool false]) (by simp [results,Tryz.results196,go_sem]) rfl ⟨rfl,(Below.refl _ _).alloc (Nat.le_refl _) _⟩
theorem refhead_long (s : ByteArray) (w : World) (hs : 14 <= s.size) (hs' : s.size <= 140737488351232) :
  Calls Tryz.prog 196 #[.string s] w fun e w' => e = .returned (.tuple #[.agg #[.int .i64 (hdBlk s.data.toList),.int .i64 (hdSeed s.data.toList),.int .i64 (hdBits s.data.toList)],.bool (headB s.data.toList)]) /\ Below w.heap.size w w' := by
 go_enter Tryz.func196,Tryz.ntmps196
 go_wp2_with fail
 refine (refSealed_any _ _ (by simp; omega)).mono ?_
 rintro e w1 ⟨rfl,hb1⟩
 rw [cut_list,List.drop_zero,Nat.sub_zero]
 have hz1 : w.heap.size < w1.heap.size := by have := hb1.size; simp at this; omega
 have HB1 : Hid (Below w.heap.size w w1) := ((Below.refl _ _).alloc (Nat.le_refl _) _).trans (hb1.mono (by simp))
 have e1 : ((s.extract 2 4).data.toList) = (s.data.toList.drop 2).take 2 := cut_list s 2 4
 have e2 : ((s.extract 4 8).data.toList) = (s.data.toList.drop 4).take 4 := cut_list s 4 8
 have e3 : ((s.extract 8 10).data.toList) = (s.data.toList.drop 8).take 2 := cut_list s 8 10
 have z1 : (s.extract 2 4).size = 2 := by simp; omega
 have z2 : (s.extract 4 8).size = 4 := by simp; omega
 have z3 : (s.extract 8 10).size = 2 := by simp; omega
 have r0 : w1.cell? ⟨w.heap.size,0,none⟩ = some (.int .i64 0) := by rw [hb1.cell (p := ⟨w.heap.size,0,none⟩) (by simp)]; simp
 have r1 : w1.cell? ⟨w.heap.size,1,none⟩ = some (.int .i64 0) := by rw [hb1.cell (p := ⟨w.heap.size,1,none⟩) (by simp)]; simp
 have r2 : w1.cell? ⟨w.heap.size,2,none⟩ = some (.int .i64 0) := by rw [hb1.cell (p := ⟨w.heap.size,2,none⟩) (by simp)]; simp
 have rf : ∀ i,w1.frozen? ⟨w.heap.size,i,none⟩ = false := fun i => by rw [hb1.frozen (p := ⟨w.heap.size,i,none⟩) (by simp)]; simp
 have HR : Hid ((w1.cell? ⟨w.heap.size,0,none⟩ = some (.int .i64 0) /\ w1.cell? ⟨w.heap.size,1,none⟩ = some (.int .i64 0) /\ w1.cell? ⟨w.heap.size,2,none⟩ = some (.int .i64 0)) /\ ∀ i,w1.frozen? ⟨w.heap.size,i,none⟩ = false) := ⟨⟨r0,r1,r2⟩,rf⟩
 clear r0 r1 r2 rf
 have E1 : Hid _ := e1
 have E2 : Hid _ := e2
 have E3 : Hid _ := e3
 clear e1 e2 e3 hb1
 have i1 : (4 : Int) <= (s.size : Int) := by omega
 have i2 : (8 : Int) <= (s.size : Int) := by omega
 have i3 : (10 : Int) <= (s.size : Int) := by omega
 have i4 : 4 <= s.size := by omega
 have i5 : 8 <= s.size := by omega
 have i6 : 10 <= s.size := by omega
 go_wp2_with fail
 go_cut [5] (fun c wx => c = .pointer (some ⟨w1.heap.size,0,none⟩) /\ wx.cell? ⟨w1.heap.size,0,none⟩ = some (.int .i64 (hdBlk s.data.toList)) /\ wx.cell? ⟨w1.heap.size,1,none⟩ = some (.int .i64 (hdSeed s.data.toList)) /\ wx.cell? ⟨w1.heap.size,2,none⟩ = some (.int .i64 (hdBits s.data.toList)) /\ Below w1.heap.size w1 wx /\ w1.heap.size < wx.heap.size)
 case first =>
  go_region_held3 (fun w' => w1.heap.size <= w'.heap.size) (first | (simp) | (simp; omega)) (first | (go_at_call_of 169 (Value.string (s.extract 2 4)); refine (high_any _ _ (by omega)).mono ?_; rintro e w' ⟨rfl,rfl⟩) | (go_at_call_of 169 (Value.string (s.extract 4 8)); refine (high_any _ _ (by omega)).mono ?_; rintro e w' ⟨rfl,rfl⟩) | (go_at_call_of 169 (Value.string (s.extract 8 10)); refine (high_any _ _ (by omega)).mono ?_; rintro e w' ⟨rfl,rfl⟩))
  all_goals
   go_wp2_with fail
   go_meet
   refine ⟨rfl,?_,?_,?_,?_,?_⟩
   ·rw [hdBlk,<- E1.out]; simp
   ·rw [hdSeed,<- E2.out]; simp
   ·rw [hdBits,<- E3.out]; simp
   ·first | exact ((Below.refl _ _).alloc (Nat.le_refl _) _).drew | exact (((Below.refl _ _).alloc (Nat.le_refl _) _).setCell (by simp) _).drew
   ·simp
 case rest =>
  obtain ⟨rfl,c0,c1,c2,hb2,hz2⟩ := hcut
  clear z1 z2 z3 i1 i2 i3 i5 i6
  go_wp2_with fail
  refine (well_any _ _ _ _).mono ?_
  rintro e w2 ⟨rfl,hb3⟩
  have d0 := (hb3.cell (p := ⟨w1.heap.size,0,none⟩) hz2).trans c0
  have d1 := (hb3.cell (p := ⟨w1.heap.size,1,none⟩) hz2).trans c1
  have d2 := (hb3.cell (p := ⟨w1.heap.size,2,none⟩) hz2).trans c2
  obtain ⟨⟨r0,r1,r2⟩,rf⟩ := HR.out
  have hbx : Below w1.heap.size w1 w2 := hb2.trans (hb3.mono (Nat.le_of_lt hz2))
  replace r0 := (hbx.cell (p := ⟨w.heap.size,0,none⟩) hz1).trans r0
  replace r1 := (hbx.cell (p := ⟨w.heap.size,1,none⟩) hz1).trans r1
  replace r2 := (hbx.cell (p := ⟨w.heap.size,2,none⟩) hz1).trans r2
  have f0 : w2.frozen? ⟨w.heap.size,0,none⟩ = false := (hbx.frozen (p := ⟨w.heap.size,0,none⟩) hz1).trans (rf 0)
  have f1 : w2.frozen? ⟨w.heap.size,1,none⟩ = false := (hbx.frozen (p := ⟨w.heap.size,1,none⟩) hz1).trans (rf 1)
  have f2 : w2.frozen? ⟨w.heap.size,2,none⟩ = false := (hbx.frozen (p := ⟨w.heap.size,2,none⟩) hz1).trans (rf 2)
  have HB : Hid (headB s.data.toList = (sealedB (s.data.toList.take 14) && wellB (hdBlk s.data.toList) (hdSeed s.data.toList) (hdBits s.data.toList) && (s.data.toList.take 2 == [76,71]))) := by
   show _ = _
   simp [headB,hs]
  have HX : Hid ((s.extract 0 2).toList = s.data.toList.take 2) := by
   show _ = _
   rw [ByteArray.toList_eq,cut_list,List.drop_zero]
  have HW2 : Hid (Below w.heap.size w w2) := HB1.out.trans (hbx.mono (Nat.le_of_lt hz1))
  clear rf c0 c1 c2 HR hb3 hb2 hbx
  have i2' : (2 : Int) <= (s.size : Int) := by omega
  have hne : ¬ w.heap.size = w1.heap.size := by omega
  generalize sealedB (s.data.toList.take 14) = b1 at *
  generalize wellB (hdBlk s.data.toList) (hdSeed s.data.toList) (hdBits s.data.toList) = b2 at *
  cases b1 <;> cases b2
  all_goals
   go_wp2_with fail
   go_region
   go_wp2
   refine bodyPost_ret (v := .tuple #[.agg #[.int .i64 (hdBlk s.data.toList),.int .i64 (hdSeed s.data.toList),.int .i64 (hdBits s.data.toList)],.bool (headB s.data.toList)]) ?_ rfl ⟨rfl,(((HW2.out.setCell (Nat.le_refl _) _).setCell (Nat.le_refl _) _).setCell (Nat.le_refl _) _).drew⟩
   rw [HB.out]
   simp [results,Tryz.results196,go_sem,r0,r1,r2,HX.out]
end Go.Proofs.YtdhgebdbiehchaaGreatDoor
