/- On the way: RecHead, RecEnt, RecGood, SpBlk. -/
import Derived.Test.YtdhgebdbiehchaaGreatDoorB08
import Derived.Deep.DeepCutAuto
import Derived.Test.YtdhgebdbiehchaaGreatDoorB10
namespace Go.Proofs.YtdhgebdbiehchaaGreatDoor
open Go.RowKit
set_option linter.unusedSimpArgs false
set_option linter.unusedVariables false
set_option maxRecDepth 100000
set_option maxHeartbeats 3200000
theorem isConfig_any (blk seed bits : Int) (w : World) :
  Calls Tryz.prog 68 #[.agg #[.int .i64 blk,.int .i64 seed,.int .i64 bits]] w fun e w' => e = .returned (.bool (wellB blk seed bits)) /\ Below w.heap.size w w' := by
 rcases (show blk < 1 \/ (1 <= blk /\ 400 < blk) \/ ((1 <= blk /\ blk <= 400) /\ seedB seed = false) \/ ((1 <= blk /\ blk <= 400) /\ seedB seed = true) from by cases seedB seed <;> simp <;> omega) with h1 | ⟨h1,h2⟩ | ⟨⟨h1,h2⟩,h3⟩ | ⟨⟨h1,h2⟩,h3⟩
 all_goals
  go_enter Tryz.func68,Tryz.ntmps68
  go_wp2_with (first | (go_at_call 126; refine (isSeed_any _ _).mono ?_; rintro e w' ⟨rfl,rfl⟩) | (go_at_call 127; refine (isBits_any _ _).mono ?_; rintro e w' ⟨rfl,rfl⟩))
  go_ret
  refine ⟨ret_bool ?_,(Below.refl _ _).alloc (Nat.le_refl _) _⟩
 ·rw [Bool.eq_iff_iff]; unfold wellB; simp; omega
 ·rw [Bool.eq_iff_iff]; unfold wellB; simp; omega
 ·rw [Bool.eq_iff_iff]; unfold wellB; simp [seedB] at h3 ⊢; omega
 ·rw [Bool.eq_iff_iff]; unfold wellB bitsB; simp [seedB] at h3 ⊢; omega
theorem readHead_no (s : ByteArray) (w : World) (hs : s.size <= 140737488351232) (hH : HalvesAt w) (h : s.size < 14 \/ (14 <= s.size /\ (s.data.toList.take 2 == [76,71]) = false) \/ (14 <= s.size /\ (s.data.toList.take 2 == [76,71]) = true /\ sealedB (s.data.toList.take 14) = false)) :
  Calls Tryz.prog 87 #[.string s] w fun e w' => e = .returned (.tuple #[.agg #[.int .i64 0,.int .i64 0,.int .i64 0],.bool false]) /\ Below w.heap.size w w' := by
 have E2 : Hid ((s.extract 0 2).toList = s.data.toList.take 2) := by show _ = _; rw [ByteArray.toList_eq,cut_list,List.drop_zero]
 have E14 : Hid ((s.extract 0 14).data.toList = s.data.toList.take 14) := by show _ = _; rw [cut_list,List.drop_zero]
 have HH : Hid (HalvesAt w) := hH
 clear hH
 rcases h with h1 | ⟨h1,h2⟩ | ⟨h1,h2,h3⟩
 ·go_enter Tryz.func87,Tryz.ntmps87
  go_wp2
  exact bodyPost_ret (v := .tuple #[.agg #[.int .i64 0,.int .i64 0,.int .i64 0],.bool false]) (by simp [results,Tryz.results87,go_sem]) rfl ⟨rfl,(Below.refl _ _).alloc (Nat.le_refl _) _⟩
 ·have t1 : ((s.extract 0 2).toList == [76,71]) = false := by rw [E2.out]; exact h2
  have t2 : ((s.extract 0 2).toList != [76,71]) = true := by rw [bne,t1]; rfl
  clear h2
  go_enter Tryz.func87,Tryz.ntmps87
  go_wp2
  exact bodyPost_ret (v := .tuple #[.agg #[.int .i64 0,.int .i64 0,.int .i64 0],.bool false]) (by simp [results,Tryz.results87,go_sem]) rfl ⟨rfl,(Below.refl _ _).alloc (Nat.le_refl _) _⟩
 ·have t1 : ((s.extract 0 2).toList == [76,71]) = true := by rw [E2.out]; exact h2
  have t2 : ((s.extract 0 2).toList != [76,71]) = false := by rw [bne,t1]; rfl
  have H3 : Hid (sealedB (s.data.toList.take 14) = false) := h3
  clear h2 h3
  go_enter Tryz.func87,Tryz.ntmps87
  go_wp2_with fail
  refine (holds_any _ _ ?_ ?_).mono ?_
  ·simp; omega
  ·exact HH.out.below ((Below.refl w.heap.size w).alloc (Nat.le_refl _) _) HH.out.1
  rintro e w1 ⟨rfl,hb1⟩
  rw [E14.out,H3.out]
  have hz1 : w.heap.size < w1.heap.size := by have := hb1.size; simp at this; omega
  have r0 : w1.cell? ⟨w.heap.size,0,none⟩ = some (.int .i64 0) := by rw [hb1.cell (p := ⟨w.heap.size,0,none⟩) (by simp)]; simp
  have r1 : w1.cell? ⟨w.heap.size,1,none⟩ = some (.int .i64 0) := by rw [hb1.cell (p := ⟨w.heap.size,1,none⟩) (by simp)]; simp
  have r2 : w1.cell? ⟨w.heap.size,2,none⟩ = some (.int .i64 0) := by rw [hb1.cell (p := ⟨w.heap.size,2,none⟩) (by simp)]; simp
  have f0 : w1.frozen? ⟨w.heap.size,0,none⟩ = false := by rw [hb1.frozen (p := ⟨w.heap.size,0,none⟩) (by simp)]; simp
  have f1 : w1.frozen? ⟨w.heap.size,1,none⟩ = false := by rw [hb1.frozen (p := ⟨w.heap.size,1,none⟩) (by simp)]; simp
  have f2 : w1.frozen? ⟨w.heap.size,2,none⟩ = false := by rw [hb1.frozen (p := ⟨w.heap.size,2,none⟩) (by simp)]; simp
  have hB : Below w.heap.size w w1 := ((Below.refl _ _).alloc (Nat.le_refl _) _).trans (hb1.mono (by simp))
  go_wp2
  exact bodyPost_ret (v := .tuple #[.agg #[.int .i64 0,.int .i64 0,.int .i64 0],.bool false]) (by simp [results,Tryz.results87,go_sem,r0,r1,r2]) rfl ⟨rfl,((hB.setCell (Nat.le_refl _) _).setCell (Nat.le_refl _) _).setCell (Nat.le_refl _) _⟩
theorem readHead_go (s : ByteArray) (w : World) (hs : s.size <= 140737488351232) (hH : HalvesAt w) (h1 : 14 <= s.size) (h2 : (s.data.toList.take 2 == [76,71]) = true) (h3 : sealedB (s.data.toList.take 14) = true) (b : Bool) (hwell : wellB (hdBlk s.data.toList) (hdSeed s.data.toList) (hdBits s.data.toList) = b) :
  Calls Tryz.prog 87 #[.string s] w fun e w' => e = .returned (.tuple #[if b then .agg #[.int .i64 (hdBlk s.data.toList),.int .i64 (hdSeed s.data.toList),.int .i64 (hdBits s.data.toList)] else .agg #[.int .i64 0,.int .i64 0,.int .i64 0],.bool b]) /\ Below w.heap.size w w' := by
 have E2 : Hid ((s.extract 0 2).toList = s.data.toList.take 2) := by show _ = _; rw [ByteArray.toList_eq,cut_list,List.drop_zero]
 have E14 : Hid ((s.extract 0 14).data.toList = s.data.toList.take 14) := by show _ = _; rw [cut_list,List.drop_zero]
 have HH : Hid (HalvesAt w) := hH
 have t1 : ((s.extract 0 2).toList == [76,71]) = true := by rw [E2.out]; exact h2
 have t2 : ((s.extract 0 2).toList != [76,71]) = false := by rw [bne,t1]; rfl
 have H3 : Hid (sealedB (s.data.toList.take 14) = true) := h3
 have HW : Hid (wellB (hdBlk s.data.toList) (hdSeed s.data.toList) (hdBits s.data.toList) = b) := hwell
 clear hH h2 h3 hwell
 go_enter Tryz.func87,Tryz.ntmps87
 go_wp2_with fail
 refine (holds_any _ _ ?_ ?_).mono ?_
 ·simp; omega
 ·exact HH.out.below ((Below.refl w.heap.size w).alloc (Nat.le_refl _) _) HH.out.1
 rintro e w1 ⟨rfl,hb1⟩
 rw [E14.out,H3.out]
 have hz1 : w.heap.size < w1.heap.size := by have := hb1.size; simp at this; omega
 have HB1 : Hid (Below w.heap.size w w1) := ((Below.refl _ _).alloc (Nat.le_refl _) _).trans (hb1.mono (by simp))
 have HR : Hid ((w1.cell? ⟨w.heap.size,0,none⟩ = some (.int .i64 0) /\ w1.cell? ⟨w.heap.size,1,none⟩ = some (.int .i64 0) /\ w1.cell? ⟨w.heap.size,2,none⟩ = some (.int .i64 0)) /\ ∀ i,w1.frozen? ⟨w.heap.size,i,none⟩ = false) := by
  refine ⟨⟨?_,?_,?_⟩,fun i => ?_⟩
  ·rw [hb1.cell (p := ⟨w.heap.size,0,none⟩) (by simp)]; simp
  ·rw [hb1.cell (p := ⟨w.heap.size,1,none⟩) (by simp)]; simp
  ·rw [hb1.cell (p := ⟨w.heap.size,2,none⟩) (by simp)]; simp
  ·rw [hb1.frozen (p := ⟨w.heap.size,i,none⟩) (by simp)]; simp
 have E1 : Hid ((s.extract 2 4).data.toList = (s.data.toList.drop 2).take 2) := cut_list s 2 4
 have E4 : Hid ((s.extract 4 8).data.toList = (s.data.toList.drop 4).take 4) := cut_list s 4 8
 have E8 : Hid ((s.extract 8 10).data.toList = (s.data.toList.drop 8).take 2) := cut_list s 8 10
 have z1 : (s.extract 2 4).size = 2 := by simp; omega
 have z2 : (s.extract 4 8).size = 4 := by simp; omega
 have z3 : (s.extract 8 10).size = 2 := by simp; omega
 have i1 : (4 : Int) <= (s.size : Int) := by omega
 have i2 : (8 : Int) <= (s.size : Int) := by omega
 have i3 : (10 : Int) <= (s.size : Int) := by omega
 clear hb1 t1 t2 E2 E14 H3 HH
 go_wp2_with fail
 go_cut [4] (fun c wx => c = .pointer (some ⟨w1.heap.size,0,none⟩) /\ wx.cell? ⟨w1.heap.size,0,none⟩ = some (.int .i64 (hdBlk s.data.toList)) /\ wx.cell? ⟨w1.heap.size,1,none⟩ = some (.int .i64 (hdSeed s.data.toList)) /\ wx.cell? ⟨w1.heap.size,2,none⟩ = some (.int .i64 (hdBits s.data.toList)) /\ Below w1.heap.size w1 wx /\ w1.heap.size < wx.heap.size)
 case first =>
  go_region_held3 (fun w' => w1.heap.size <= w'.heap.size) (first | (simp) | (simp; omega)) (first | (go_at_call_of 145 (Value.string (s.extract 2 4)); refine (lowRead_any _ _ (by omega)).mono ?_; rintro e w' ⟨rfl,rfl⟩) | (go_at_call_of 145 (Value.string (s.extract 4 8)); refine (lowRead_any _ _ (by omega)).mono ?_; rintro e w' ⟨rfl,rfl⟩) | (go_at_call_of 145 (Value.string (s.extract 8 10)); refine (lowRead_any _ _ (by omega)).mono ?_; rintro e w' ⟨rfl,rfl⟩))
  all_goals
   go_wp2_with fail
   go_meet
   refine ⟨rfl,?_,?_,?_,?_,?_⟩
   ·rw [hdBlk,<- E1.out]; simp
   ·rw [hdSeed,<- E4.out]; simp
   ·rw [hdBits,<- E8.out]; simp
   ·first | exact ((Below.refl _ _).alloc (Nat.le_refl _) _).drew | exact (((Below.refl _ _).alloc (Nat.le_refl _) _).setCell (by simp) _).drew
   ·simp
 case rest =>
  obtain ⟨rfl,c0,c1,c2,hb2,hz2⟩ := hcut
  clear z1 z2 z3 i1 i2 i3 E1 E4 E8
  go_wp2_with fail
  refine (isConfig_any _ _ _ _).mono ?_
  rintro e w2 ⟨rfl,hb3⟩
  rw [HW.out]
  have d0 := (hb3.cell (p := ⟨w1.heap.size,0,none⟩) hz2).trans c0
  have d1 := (hb3.cell (p := ⟨w1.heap.size,1,none⟩) hz2).trans c1
  have d2 := (hb3.cell (p := ⟨w1.heap.size,2,none⟩) hz2).trans c2
  obtain ⟨⟨r0,r1,r2⟩,rf⟩ := HR.out
  have hbx : Below w1.heap.size w1 w2 := hb2.trans (hb3.mono (Nat.le_of_lt hz2))
  replace r0 := (hbx.cell (p := ⟨w.heap.size,0,none⟩) hz1).trans r0
  replace r1 := (hbx.cell (p := ⟨w.heap.size,1,none⟩) hz1).trans r1
  replace r2 := (hbx.cell (p := ⟨w.heap.size,2,none⟩) hz1).trans r2
  have f0 : w2.frozen? ⟨w.heap.size,0,none⟩ = false := (hbx.frozen (p := ⟨w.heap.size,0,none⟩) hz1).trans (rf 0)
  have f1 : w2.frozen? ⟨w.heap.size,1,none⟩ = false := (hbx.frozen (p := ⟨w.heap.size,1,none⟩) hz1).trans (rf 1)
  have f2 : w2.frozen? ⟨w.heap.size,2,none⟩ = false := (hbx.frozen (p := ⟨w.heap.size,2,none⟩) hz1).trans (rf 2)
  have HW2 : Hid (Below w.heap.size w w2) := HB1.out.trans (hbx.mono (Nat.le_of_lt hz1))
  clear rf c0 c1 c2 HR hb3 hb2 hbx HW
  cases b
  ·go_wp2
   exact bodyPost_ret (v := .tuple #[.agg #[.int .i64 0,.int .i64 0,.int .i64 0],.bool false]) (by simp [results,Tryz.results87,go_sem,r0,r1,r2]) rfl ⟨rfl,((HW2.out.setCell (Nat.le_refl _) _).setCell (Nat.le_refl _) _).setCell (Nat.le_refl _) _⟩
  ·go_wp2
   exact bodyPost_ret (v := .tuple #[.agg #[.int .i64 (hdBlk s.data.toList),.int .i64 (hdSeed s.data.toList),.int .i64 (hdBits s.data.toList)],.bool true]) (by simp [results,Tryz.results87,go_sem,r0,r1,r2]) rfl ⟨rfl,((HW2.out.setCell (Nat.le_refl _) _).setCell (Nat.le_refl _) _).setCell (Nat.le_refl _) _⟩
theorem headB_parts (l : List UInt8) : headB l = (decide (14 <= l.length) && (l.take 2 == [76,71]) && sealedB (l.take 14) && wellB (hdBlk l) (hdSeed l) (hdBits l)) := by
 unfold headB
 cases decide (14 <= l.length) <;> cases sealedB (l.take 14) <;> cases wellB (hdBlk l) (hdSeed l) (hdBits l) <;> cases (l.take 2 == [76,71]) <;> rfl
def headV (l : List UInt8) : Value := if headB l = true then .agg #[.int .i64 (hdBlk l),.int .i64 (hdSeed l),.int .i64 (hdBits l)] else .agg #[.int .i64 0,.int .i64 0,.int .i64 0]
theorem readHead_any (s : ByteArray) (w : World) (hs : s.size <= 140737488351232) (hH : HalvesAt w) :
  Calls Tryz.prog 87 #[.string s] w fun e w' => e = .returned (.tuple #[headV s.data.toList,.bool (headB s.data.toList)]) /\ Below w.heap.size w w' := by
 have hl : s.data.toList.length = s.size := by simp
 have hp := headB_parts s.data.toList
 rw [hl] at hp
 by_cases h1 : 14 <= s.size
 ·cases h2 : (s.data.toList.take 2 == [76,71])
  ·have hf : headB s.data.toList = false := by rw [hp,h2]; simp
   unfold headV
   rw [hf]
   exact readHead_no s w hs hH (.inr (.inl ⟨h1,h2⟩))
  ·cases h3 : sealedB (s.data.toList.take 14)
   ·have hf : headB s.data.toList = false := by rw [hp,h3]; simp
    unfold headV
    rw [hf]
    exact readHead_no s w hs hH (.inr (.inr ⟨h1,h2,h3⟩))
   ·have hf : headB s.data.toList = wellB (hdBlk s.data.toList) (hdSeed s.data.toList) (hdBits s.data.toList) := by rw [hp,h2,h3]; simp [h1]
    unfold headV
    rw [hf]
    exact readHead_go s w hs hH h1 h2 h3 _ rfl
 ·have hf : headB s.data.toList = false := by rw [hp]; simp; omega
  unfold headV
  rw [hf]
  exact readHead_no s w hs hH (.inl (by omega))
theorem isValue_any (s : ByteArray) (w : World) :
  Calls Tryz.prog 154 #[.string s] w fun e w' => e = .returned (.bool (decide (s.size <= 30))) /\ w' = w := by
 go_enter Tryz.func154,Tryz.ntmps154
 go_wp2
 go_ret
 refine ⟨ret_bool ?_,rfl⟩
 rw [Bool.eq_iff_iff]; simp; omega
def noEnt : Value := .agg #[.bool false,.string ⟨#[]⟩,.string ⟨#[]⟩]
def entR (l : List UInt8) : Value := match ent1 l with
 | none => .tuple #[noEnt,.string ⟨#[]⟩,.bool false]
 | some (e,n) => .tuple #[.agg #[.bool e.put,.string (S e.key),.string (S e.val)],.string (S (l.drop n)),.bool true]
theorem entR_none {l : List UInt8} (h : ent1 l = none) : entR l = .tuple #[.agg #[.bool false,.string ⟨#[]⟩,.string ⟨#[]⟩],.string ⟨#[]⟩,.bool false] := by
 unfold entR; rw [h]; rfl
theorem entR_some {l : List UInt8} {e : Ent} {n : Nat} (h : ent1 l = some (e,n)) : entR l = .tuple #[.agg #[.bool e.put,.string (S e.key),.string (S e.val)],.string (S (l.drop n)),.bool true] := by
 unfold entR; rw [h]
theorem ent1_zero {l : List UInt8} {n : Nat} (hn : l.length = n) (h : 3 <= l.length) : ent1 l = if n < 3 + l[1].toNat + l[2].toNat \/ l[1].toNat < 1 \/ 20 < l[1].toNat \/ 30 < l[2].toNat then none else if l[0] = 112 then some (⟨true,(l.drop 3).take l[1].toNat,(l.drop (3 + l[1].toNat)).take l[2].toNat⟩,3 + l[1].toNat + l[2].toNat) else if l[0] = 100 /\ l[2].toNat = 0 then some (⟨false,(l.drop 3).take l[1].toNat,[]⟩,3 + l[1].toNat) else none := by
 match l,h with
 | a :: b :: c :: r,_ =>
  show (if r.length < b.toNat + c.toNat \/ b.toNat < 1 \/ 20 < b.toNat \/ 30 < c.toNat then none else if a = 112 then some ((⟨true,r.take b.toNat,(r.drop b.toNat).take c.toNat⟩ : Ent),3 + b.toNat + c.toNat) else if a = 100 /\ c.toNat = 0 then some ((⟨false,r.take b.toNat,[]⟩ : Ent),3 + b.toNat) else none) = if n < 3 + b.toNat + c.toNat \/ b.toNat < 1 \/ 20 < b.toNat \/ 30 < c.toNat then none else if a = 112 then some ((⟨true,r.take b.toNat,((a :: b :: c :: r).drop (3 + b.toNat)).take c.toNat⟩ : Ent),3 + b.toNat + c.toNat) else if a = 100 /\ c.toNat = 0 then some ((⟨false,r.take b.toNat,[]⟩ : Ent),3 + b.toNat) else none
  have e : (a :: b :: c :: r).drop (3 + b.toNat) = r.drop b.toNat := by rw [<- List.drop_drop]; rfl
  rw [e]
  have hr : r.length + 3 = n := by simpa using hn
  by_cases hb : r.length < b.toNat + c.toNat \/ b.toNat < 1 \/ 20 < b.toNat \/ 30 < c.toNat
  ·rw [if_pos hb,if_pos (by omega)]
  ·rw [if_neg hb,if_neg (c := n < 3 + b.toNat + c.toNat \/ b.toNat < 1 \/ 20 < b.toNat \/ 30 < c.toNat) (by omega)]
theorem readEntry_early (s : ByteArray) (w : World) (hs : s.size <= 140737488351232) (h : s.size < 3 \/ ∃ h3 : 3 <= s.size,s[0] ≠ 112 /\ s[0] ≠ 100) :
  Calls Tryz.prog 205 #[.string s] w fun e w' => e = .returned (entR s.data.toList) /\ Below w.heap.size w w' := by
 have hl : s.data.toList.length = s.size := by simp
 rcases h with h1 | ⟨h3,h1,h2⟩
 ·have HR : Hid (entR s.data.toList = _) := entR_none (ent1_short (by omega))
  go_enter Tryz.func205,Tryz.ntmps205
  go_wp2
  exact bodyPost_ret (v := .tuple #[.agg #[.bool false,.string ⟨#[]⟩,.string ⟨#[]⟩],.string ⟨#[]⟩,.bool false]) (by simp [results,Tryz.results205,go_sem]) rfl ⟨by rw [HR.out],(Below.refl _ _).alloc (Nat.le_refl _) _⟩
 ·have HR : Hid (entR s.data.toList = _) := entR_none (by
   have e : ent1 (s.data.toList.drop 0) = none := by
    by_cases hb : s.data.toList.length < 0 + 3 + s.data.toList[1].toNat + s.data.toList[2].toNat \/ s.data.toList[1].toNat < 1 \/ 20 < s.data.toList[1].toNat \/ 30 < s.data.toList[2].toNat
    ·exact ent1_bad (by omega) hb
    ·exact ent1_no (by omega) hb h1 (.inl h2)
   rwa [List.drop_zero] at e)
  have t1 : ((s[0].toNat : Int) != 112) = true := by
   rw [bne_iff_ne]; intro h; apply h1; apply UInt8.toNat_inj.1; simp; omega
  have t2 : ((s[0].toNat : Int) != 100) = true := by
   rw [bne_iff_ne]; intro h; apply h2; apply UInt8.toNat_inj.1; simp; omega
  clear h1 h2
  go_enter Tryz.func205,Tryz.ntmps205
  go_wp2
  exact bodyPost_ret (v := .tuple #[.agg #[.bool false,.string ⟨#[]⟩,.string ⟨#[]⟩],.string ⟨#[]⟩,.bool false]) (by simp [results,Tryz.results205,go_sem]) rfl ⟨by rw [HR.out],(Below.refl _ _).alloc (Nat.le_refl _) _⟩
theorem readEntry_bad (s : ByteArray) (w : World) (hs : s.size <= 140737488351232) (h3 : 3 <= s.size) (pb : Bool) (hk : if pb then s[0] = 112 else (s[0] ≠ 112 /\ s[0] = 100)) (hbad : s.size < 3 + s[1].toNat + s[2].toNat \/ (3 + s[1].toNat + s[2].toNat <= s.size /\ pb = false /\ s[2].toNat ≠ 0)) :
  Calls Tryz.prog 205 #[.string s] w fun e w' => e = .returned (entR s.data.toList) /\ Below w.heap.size w w' := by
 have hl : s.data.toList.length = s.size := by simp
 have t1 : ((s[0].toNat : Int) != 112) = !pb := by
  cases pb
  ·have : s[0] = 100 := hk.2
   rw [this]; rfl
  ·have : s[0] = 112 := hk
   rw [this]; rfl
 have t2 : pb = false -> ((s[0].toNat : Int) != 100) = false := by
  intro hp; subst hp
  have : s[0] = 100 := hk.2
  rw [this]; rfl
 have t3 : ((s[0].toNat : Int) == 112) = pb := by
  cases pb
  ·have : s[0] = 100 := hk.2
   rw [this]; rfl
  ·have : s[0] = 112 := hk
   rw [this]; rfl
 have hw1 := w64b s[1]
 have hw2 := w64b s[2]
 have hb1 := s[1].toNat_lt
 have hb2 := s[2].toNat_lt
 have c0 := idx_run s 0 (by omega) 0 rfl
 have c1 := idx_run s 1 (by omega) 1 rfl
 have c2 := idx_run s 2 (by omega) 2 rfl
 have c3 := cut_from s 3 (by omega) 3 rfl
 have HE : Hid (ent1 s.data.toList = if s.size < 3 + s[1].toNat + s[2].toNat \/ s[1].toNat < 1 \/ 20 < s[1].toNat \/ 30 < s[2].toNat then none else if pb = true then some (⟨true,(s.data.toList.drop 3).take s[1].toNat,(s.data.toList.drop (3 + s[1].toNat)).take s[2].toNat⟩,3 + s[1].toNat + s[2].toNat) else if s[2].toNat = 0 then some (⟨false,(s.data.toList.drop 3).take s[1].toNat,[]⟩,3 + s[1].toNat) else none) := by
  have hz : ent1 s.data.toList = if s.size < 3 + s[1].toNat + s[2].toNat \/ s[1].toNat < 1 \/ 20 < s[1].toNat \/ 30 < s[2].toNat then none else if s[0] = 112 then some (⟨true,(s.data.toList.drop 3).take s[1].toNat,(s.data.toList.drop (3 + s[1].toNat)).take s[2].toNat⟩,3 + s[1].toNat + s[2].toNat) else if s[0] = 100 /\ s[2].toNat = 0 then some (⟨false,(s.data.toList.drop 3).take s[1].toNat,[]⟩,3 + s[1].toNat) else none := ent1_zero hl (by omega)
  show _ = _
  rw [hz]
  cases pb
  ·rw [if_neg (c := s[0] = 112) hk.1,if_neg (c := false = true) (by decide)]
   by_cases hv : s[2].toNat = 0
   ·rw [if_pos (c := s[0] = 100 /\ s[2].toNat = 0) ⟨hk.2,hv⟩,if_pos (c := s[2].toNat = 0) hv]
   ·rw [if_neg (c := s[0] = 100 /\ s[2].toNat = 0) (fun h => hv h.2),if_neg (c := s[2].toNat = 0) hv]
  ·rw [if_pos (c := s[0] = 112) hk,if_pos (c := true = true) rfl]
 clear hk
 go_enter Tryz.func205,Tryz.ntmps205
 obtain ⟨r,hr⟩ : ∃ r,r = S (s.data.toList.drop 3) := ⟨_,rfl⟩
 rw [<- hr] at c3
 have hrs : r.size = s.size - 3 := by rw [hr,S_size]; simp
 have HRL : Hid (r.data.toList = s.data.toList.drop 3) := by show _ = _; rw [hr,S_data]
 clear hr
 rcases hbad with g1 | ⟨g1,g2,g3⟩
 ·have HR : Hid (entR s.data.toList = _) := entR_none (by rw [HE.out,if_pos (.inl g1)])
  clear HE HRL
  cases pb
  all_goals
   go_wp2_with fail
   go_quiet (fail)
   go_wp2
   exact bodyPost_ret (v := .tuple #[.agg #[.bool false,.string ⟨#[]⟩,.string ⟨#[]⟩],.string ⟨#[]⟩,.bool false]) (by simp [results,Tryz.results205,go_sem]) rfl ⟨by rw [HR.out],(((below_drewN ((Below.refl _ _).alloc (Nat.le_refl _) _) _).setCell (Nat.le_refl _) _).setCell (Nat.le_refl _) _).setCell (Nat.le_refl _) _⟩
 ·subst g2
  have HR : Hid (entR s.data.toList = _) := entR_none (by
   rw [HE.out]
   by_cases hb : s.size < 3 + s[1].toNat + s[2].toNat \/ s[1].toNat < 1 \/ 20 < s[1].toNat \/ 30 < s[2].toNat
   ·rw [if_pos hb]
   ·rw [if_neg hb,if_neg (by decide),if_neg g3])
  have t4 : ((s[2].toNat : Int) != 0) = true := by rw [bne_iff_ne]; omega
  clear HE HRL g3
  go_wp2_with fail
  go_quiet (fail)
  go_wp2
  exact bodyPost_ret (v := .tuple #[.agg #[.bool false,.string ⟨#[]⟩,.string ⟨#[]⟩],.string ⟨#[]⟩,.bool false]) (by simp [results,Tryz.results205,go_sem]) rfl ⟨by rw [HR.out],(((below_drewN ((Below.refl _ _).alloc (Nat.le_refl _) _) _).setCell (Nat.le_refl _) _).setCell (Nat.le_refl _) _).setCell (Nat.le_refl _) _⟩
theorem isRight_any (pb : Bool) (ky vl : ByteArray) (w : World) :
  Calls Tryz.prog 99 #[.agg #[.bool pb,.string ky,.string vl]] w fun e w' => e = .returned (.bool (keyB ky && decide (vl.size <= 30))) /\ Below w.heap.size w w' := by
 cases h : keyB ky
 all_goals
  go_enter Tryz.func99,Tryz.ntmps99
  go_wp2_with (first | (go_at_call 153; refine (isKey_any _ _).mono ?_; rintro e w' ⟨rfl,rfl⟩; rw [h]) | (go_at_call 154; refine (isValue_any _ _).mono ?_; rintro e w' ⟨rfl,rfl⟩))
  go_ret
  refine ⟨ret_bool (by simp),(Below.refl _ _).alloc (Nat.le_refl _) _⟩
theorem far3 (w2 : World) {n m : Nat} (h : n ≠ m) (a b c : Value) (j : Nat) : (((w2.setCell ⟨n,0,none⟩ a).setCell ⟨n,1,none⟩ b).setCell ⟨n,2,none⟩ c).drew.cell? ⟨m,j,none⟩ = w2.cell? ⟨m,j,none⟩ := by
 show (((w2.setCell ⟨n,0,none⟩ a).setCell ⟨n,1,none⟩ b).setCell ⟨n,2,none⟩ c).cell? ⟨m,j,none⟩ = _
 rw [World.cell?_setCell_far _ _ _ _ h,World.cell?_setCell_far _ _ _ _ h,World.cell?_setCell_far _ _ _ _ h]
def Keep3 (w W : World) : Prop := (W.cell? ⟨w.heap.size,0,none⟩ = some (.bool false) /\ W.cell? ⟨w.heap.size,1,none⟩ = some (.string ⟨#[]⟩) /\ W.cell? ⟨w.heap.size,2,none⟩ = some (.string ⟨#[]⟩)) /\ (∀ i,W.frozen? ⟨w.heap.size,i,none⟩ = false) /\ Below w.heap.size w W /\ w.heap.size < W.heap.size
theorem keep3_new (w : World) (q : Nat) : Keep3 w ((w.alloc (.cells #[.bool false,.string ⟨#[]⟩,.string ⟨#[]⟩] 106)).drewN q) :=
 ⟨⟨by simp,by simp,by simp⟩,fun i => by simp,below_drewN ((Below.refl _ _).alloc (Nat.le_refl _) _) _,by simp⟩
theorem Keep3.below {w W W' : World} (h : Keep3 w W) (hb : Below W.heap.size W W') : Keep3 w W' := by
 obtain ⟨⟨h0,h1,h2⟩,hf,hB,hz⟩ := h
 exact ⟨⟨(hb.cell (p := ⟨w.heap.size,0,none⟩) hz).trans h0,(hb.cell (p := ⟨w.heap.size,1,none⟩) hz).trans h1,(hb.cell (p := ⟨w.heap.size,2,none⟩) hz).trans h2⟩,fun i => (hb.frozen (p := ⟨w.heap.size,i,none⟩) hz).trans (hf i),hB.trans (hb.mono (Nat.le_of_lt hz)),Nat.lt_of_lt_of_le hz hb.size⟩
theorem readEntry_good (s : ByteArray) (w : World) (hs : s.size <= 140737488351232) (h3 : 3 <= s.size) (pb : Bool) (hk : if pb then s[0] = 112 else (s[0] ≠ 112 /\ s[0] = 100)) (g1 : 3 + s[1].toNat + s[2].toNat <= s.size) (g2 : pb = true \/ s[2].toNat = 0) :
  Calls Tryz.prog 205 #[.string s] w fun e w' => e = .returned (entR s.data.toList) /\ Below w.heap.size w w' := by
 have hl : s.data.toList.length = s.size := by simp
 have t1 : ((s[0].toNat : Int) != 112) = !pb := by
  cases pb
  ·have : s[0] = 100 := hk.2
   rw [this]; rfl
  ·have : s[0] = 112 := hk
   rw [this]; rfl
 have t2 : pb = false -> ((s[0].toNat : Int) != 100) = false := by
  intro hp; subst hp
  have : s[0] = 100 := hk.2
  rw [this]; rfl
 have t3 : ((s[0].toNat : Int) == 112) = pb := by
  cases pb
  ·have : s[0] = 100 := hk.2
   rw [this]; rfl
  ·have : s[0] = 112 := hk
   rw [this]; rfl
 have hw1 := w64b s[1]
 have hw2 := w64b s[2]
 have hb1 := s[1].toNat_lt
 have hb2 := s[2].toNat_lt
 have c0 := idx_run s 0 (by omega) 0 rfl
 have c1 := idx_run s 1 (by omega) 1 rfl
 have c2 := idx_run s 2 (by omega) 2 rfl
 have c3 := cut_from s 3 (by omega) 3 rfl
 have HE : Hid (ent1 s.data.toList = if s.size < 3 + s[1].toNat + s[2].toNat \/ s[1].toNat < 1 \/ 20 < s[1].toNat \/ 30 < s[2].toNat then none else if pb = true then some (⟨true,(s.data.toList.drop 3).take s[1].toNat,(s.data.toList.drop (3 + s[1].toNat)).take s[2].toNat⟩,3 + s[1].toNat + s[2].toNat) else if s[2].toNat = 0 then some (⟨false,(s.data.toList.drop 3).take s[1].toNat,[]⟩,3 + s[1].toNat) else none) := by
  have hz : ent1 s.data.toList = if s.size < 3 + s[1].toNat + s[2].toNat \/ s[1].toNat < 1 \/ 20 < s[1].toNat \/ 30 < s[2].toNat then none else if s[0] = 112 then some (⟨true,(s.data.toList.drop 3).take s[1].toNat,(s.data.toList.drop (3 + s[1].toNat)).take s[2].toNat⟩,3 + s[1].toNat + s[2].toNat) else if s[0] = 100 /\ s[2].toNat = 0 then some (⟨false,(s.data.toList.drop 3).take s[1].toNat,[]⟩,3 + s[1].toNat) else none := ent1_zero hl (by omega)
  show _ = _
  rw [hz]
  cases pb
  ·rw [if_neg (c := s[0] = 112) hk.1,if_neg (c := false = true) (by decide)]
   by_cases hv : s[2].toNat = 0
   ·rw [if_pos (c := s[0] = 100 /\ s[2].toNat = 0) ⟨hk.2,hv⟩,if_pos (c := s[2].toNat = 0) hv]
   ·rw [if_neg (c := s[0] = 100 /\ s[2].toNat = 0) (fun h => hv h.2),if_neg (c := s[2].toNat = 0) hv]
  ·rw [if_pos (c := s[0] = 112) hk,if_pos (c := true = true) rfl]
 clear hk
 go_enter Tryz.func205,Tryz.ntmps205
 obtain ⟨r,hr⟩ : ∃ r,r = S (s.data.toList.drop 3) := ⟨_,rfl⟩
 rw [<- hr] at c3
 have hrs : r.size = s.size - 3 := by rw [hr,S_size]; simp
 have HRL : Hid (r.data.toList = s.data.toList.drop 3) := by show _ = _; rw [hr,S_data]
 clear hr
 have u1 := cut_upto r s[1].toNat (by omega) (s[1].toNat : Int) rfl
 have u2 := cut_run r s[1].toNat s[2].toNat (by omega) (s[1].toNat : Int) ((s[1].toNat : Int) + (s[2].toNat : Int)) rfl (by omega)
 have u3 := cut_from r (s[1].toNat + s[2].toNat) (by omega) ((s[1].toNat : Int) + (s[2].toNat : Int)) (by omega)
 rw [HRL.out] at u1 u2 u3
 obtain ⟨ky,hky⟩ : ∃ t,t = S ((s.data.toList.drop 3).take s[1].toNat) := ⟨_,rfl⟩
 obtain ⟨vl,hvl⟩ : ∃ t,t = S (((s.data.toList.drop 3).drop s[1].toNat).take s[2].toNat) := ⟨_,rfl⟩
 obtain ⟨rs,hrs2⟩ : ∃ t,t = S ((s.data.toList.drop 3).drop (s[1].toNat + s[2].toNat)) := ⟨_,rfl⟩
 rw [<- hky] at u1
 rw [<- hvl] at u2
 rw [<- hrs2] at u3
 have kz : ky.size = s[1].toNat := by rw [hky,S_size]; simp; omega
 have vz : vl.size = s[2].toNat := by rw [hvl,S_size]; simp; omega
 have HGO : Hid (entR s.data.toList = if (keyB ky && decide (vl.size <= 30)) = true then .tuple #[.agg #[.bool pb,.string ky,.string vl],.string rs,.bool true] else .tuple #[.agg #[.bool false,.string ⟨#[]⟩,.string ⟨#[]⟩],.string ⟨#[]⟩,.bool false]) := by
  show _ = _
  have hkb : (keyB ky && decide (vl.size <= 30)) = true ↔ (1 <= s[1].toNat /\ s[1].toNat <= 20) /\ s[2].toNat <= 30 := by
   rw [keyB,kz,vz]; simp
  by_cases hq : (1 <= s[1].toNat /\ s[1].toNat <= 20) /\ s[2].toNat <= 30
  ·rw [if_pos (hkb.2 hq)]
   have hno : ¬ (s.size < 3 + s[1].toNat + s[2].toNat \/ s[1].toNat < 1 \/ 20 < s[1].toNat \/ 30 < s[2].toNat) := by omega
   cases pb
   ·have hv : s[2].toNat = 0 := g2.resolve_left (by decide)
    rw [entR_some (show ent1 s.data.toList = some ((⟨false,(s.data.toList.drop 3).take s[1].toNat,[]⟩ : Ent),3 + s[1].toNat) by rw [HE.out,if_neg hno,if_neg (by decide),if_pos hv]),hky,hvl,hrs2,hv,Nat.add_zero,List.drop_drop]
    rfl
   ·rw [entR_some (by rw [HE.out,if_neg hno,if_pos rfl]),hky,hvl,hrs2,List.drop_drop,List.drop_drop,Nat.add_assoc]
  ·rw [if_neg (fun h => hq (hkb.1 h))]
   exact entR_none (by rw [HE.out,if_pos (by omega)])
 have m1 : IntKind.i64.wrap ((s[1].toNat : Int) + (s[2].toNat : Int)) = (s[1].toNat : Int) + (s[2].toNat : Int) := by rw [IntKind.wrap_i64]; omega
 have t4 : pb = false -> ((s[2].toNat : Int) != 0) = false := by
  intro hp
  rcases g2 with g2 | g2
  ·rw [hp] at g2; cases g2
  ·rw [bne_eq_false_iff_eq]; omega
 clear HE HRL hky hvl hrs2 kz vz g2
 obtain ⟨pq,hpq⟩ : ∃ pq,pq = pb := ⟨_,rfl⟩
 have HPQ : Hid (pq = pb) := hpq
 clear hpq
 cases pb
 all_goals
  first | have t2' := t2 rfl | skip
  first | have t4' := t4 rfl | skip
  clear t2 t4
  go_wp2_with fail
  go_quiet (fail)
  go_wp2_with fail
  have hz3 : ((w.alloc (.cells #[.bool false,.string ⟨#[]⟩,.string ⟨#[]⟩] 106)).drewN nq).heap.size = w.heap.size + 1 := by simp
  have HC3 : Hid (Keep3 w ((w.alloc (.cells #[.bool false,.string ⟨#[]⟩,.string ⟨#[]⟩] 106)).drewN nq)) := keep3_new w nq
  generalize (w.alloc (.cells #[.bool false,.string ⟨#[]⟩,.string ⟨#[]⟩] 106)).drewN nq = W3 at *
  go_cut [8] (fun c wx => c = .pointer (some ⟨w.heap.size + 1,0,none⟩) /\ (wx.cell? ⟨w.heap.size + 1,0,none⟩ = some (.bool pq) /\ wx.cell? ⟨w.heap.size + 1,1,none⟩ = some (.string ky) /\ wx.cell? ⟨w.heap.size + 1,2,none⟩ = some (.string vl)) /\ Below W3.heap.size W3 wx /\ w.heap.size + 1 < wx.heap.size)
  case first =>
   go_region_held3 (fun w' => W3.heap.size <= w'.heap.size) (first | (simp) | (simp; omega)) (first | (fail))
   all_goals
    go_wp2_with fail
    go_meet
    refine ⟨rfl,⟨?_,?_,?_⟩,?_,?_⟩
    ·rw [HPQ.out,<- hz3]; simp
    ·rw [<- hz3]; simp
    ·rw [<- hz3]; simp
    ·first | exact ((Below.refl _ _).alloc (Nat.le_refl _) _).drew | exact (((Below.refl _ _).alloc (Nat.le_refl _) _).setCell (by simp) _).drew
    ·simp; omega
  case rest =>
   obtain ⟨rfl,⟨c0',c1',c2'⟩,hb2,hzz⟩ := hcut
   have HK := HC3.out.below hb2
   clear HC3 hb2 c0 c1 c2 c3 u1 u2
   rw [HPQ.out] at c0'
   go_wp2_with fail
   refine (isRight_any _ _ _ _).mono ?_
   rintro e w2 ⟨rfl,hb3⟩
   have HK2 := HK.below hb3
   obtain ⟨⟨r0,r1,r2⟩,rf,hB,hzr⟩ := HK2
   have f0 := rf 0
   have f1 := rf 1
   have f2 := rf 2
   have d0 := (hb3.cell (p := ⟨w.heap.size + 1,0,none⟩) hzz).trans c0'
   have d1 := (hb3.cell (p := ⟨w.heap.size + 1,1,none⟩) hzz).trans c1'
   have d2 := (hb3.cell (p := ⟨w.heap.size + 1,2,none⟩) hzz).trans c2'
   have HB : Hid (Below w.heap.size w w2) := hB
   clear HK hb3 c0' c1' c2' rf hB
   generalize (keyB ky && decide (vl.size <= 30)) = q at *
   cases q
   ·have HR : Hid (entR s.data.toList = .tuple #[.agg #[.bool false,.string ⟨#[]⟩,.string ⟨#[]⟩],.string ⟨#[]⟩,.bool false]) := HGO.out
    clear HGO u3
    go_wp2
    exact bodyPost_ret (v := .tuple #[.agg #[.bool false,.string ⟨#[]⟩,.string ⟨#[]⟩],.string ⟨#[]⟩,.bool false]) (by simp [results,Tryz.results205,go_sem,r0,r1,r2]) rfl ⟨by rw [HR.out],((HB.out.setCell (Nat.le_refl _) _).setCell (Nat.le_refl _) _).setCell (Nat.le_refl _) _⟩
   ·have HR : Hid (entR s.data.toList = _) := HGO.out
    clear HGO
    go_wp2_with fail
    go_region_held3 (fun w' => w'.cell? ⟨w.heap.size + 1,0,none⟩ = w2.cell? ⟨w.heap.size + 1,0,none⟩ /\ w'.cell? ⟨w.heap.size + 1,1,none⟩ = w2.cell? ⟨w.heap.size + 1,1,none⟩ /\ w'.cell? ⟨w.heap.size + 1,2,none⟩ = w2.cell? ⟨w.heap.size + 1,2,none⟩) (first | (exact ⟨far3 _ (by omega) _ _ _ 0,far3 _ (by omega) _ _ _ 1,far3 _ (by omega) _ _ _ 2⟩) | (exact ⟨rfl,rfl,rfl⟩)) (first | (fail))
    all_goals
     go_wp2
     exact bodyPost_ret (v := .tuple #[.agg #[.bool pq,.string ky,.string vl],.string rs,.bool true]) (by rw [HPQ.out]; simp [results,Tryz.results205,go_sem,r0,r1,r2]) rfl ⟨by rw [HR.out,HPQ.out]; rfl,(((HB.out.setCell (Nat.le_refl _) _).setCell (Nat.le_refl _) _).setCell (Nat.le_refl _) _).drew⟩
theorem readEntry_any (s : ByteArray) (w : World) (hs : s.size <= 140737488351232) :
  Calls Tryz.prog 205 #[.string s] w fun e w' => e = .returned (entR s.data.toList) /\ Below w.heap.size w w' := by
 by_cases h3 : 3 <= s.size
 ·by_cases hp : s[0] = 112
  ·by_cases hb : s.size < 3 + s[1].toNat + s[2].toNat
   ·exact readEntry_bad s w hs h3 true hp (.inl hb)
   ·exact readEntry_good s w hs h3 true hp (by omega) (.inl rfl)
  ·by_cases hd : s[0] = 100
   ·by_cases hb : s.size < 3 + s[1].toNat + s[2].toNat
    ·exact readEntry_bad s w hs h3 false ⟨hp,hd⟩ (.inl hb)
    ·by_cases hv : s[2].toNat = 0
     ·exact readEntry_good s w hs h3 false ⟨hp,hd⟩ (by omega) (.inr hv)
     ·exact readEntry_bad s w hs h3 false ⟨hp,hd⟩ (.inr ⟨by omega,rfl,hv⟩)
   ·exact readEntry_early s w hs (.inr ⟨h3,hp,hd⟩)
 ·exact readEntry_early s w hs (.inl (by omega))
theorem block_bytes {blk seed bits : Nat} {bs : List (List Ent)} (h : ∀ e ∈ bs,BlkOk blk e) {m : Nat} (hm : m < bs.length) :
  ∃ y1 y2 : Nat,y1 < 256 /\ y2 < 256 /\ 7 + y1 + 256 * y2 = (blockB bs[m]).length /\ 14 + (blocksB (bs.take m)).length + (blockB bs[m]).length <= (headL blk seed bits ++ blocksB bs).length /\
   (headL blk seed bits ++ blocksB bs)[14 + (blocksB (bs.take m)).length + 1]? = some (UInt8.ofNat y1) /\ (headL blk seed bits ++ blocksB bs)[14 + (blocksB (bs.take m)).length + 2]? = some (UInt8.ofNat y2) := by
 have hl := headL_length blk seed bits
 have hb := h bs[m] (List.getElem_mem _)
 have hsz : (entsB bs[m]).length < 65536 := by
  have h5 := entsB_le hb.ok
  have h6 := hb.most
  omega
 have hbl := blockB_length bs[m]
 have e : headL blk seed bits ++ blocksB bs = (headL blk seed bits ++ blocksB (bs.take m)) ++ (blockB bs[m] ++ blocksB (bs.drop (m + 1))) := by
  have h1 : bs = bs.take m ++ (bs[m] :: bs.drop (m + 1)) := by rw [<- List.drop_eq_getElem_cons hm,List.take_append_drop]
  have e0 : blocksB (bs.take m ++ (bs[m] :: bs.drop (m + 1))) = blocksB (bs.take m) ++ (blockB bs[m] ++ blocksB (bs.drop (m + 1))) := by unfold blocksB; rw [List.flatMap_append,List.flatMap_cons]
  rw [<- h1] at e0
  rw [e0,List.append_assoc]
 have ep : (headL blk seed bits ++ blocksB (bs.take m)).length = 14 + (blocksB (bs.take m)).length := by rw [List.length_append,hl]
 have eb : blockB bs[m] = lowL bs[m].length 1 ++ lowL (entsB bs[m]).length 2 ++ (entsB bs[m] ++ lowL (crcN (lowL bs[m].length 1 ++ lowL (entsB bs[m]).length 2 ++ entsB bs[m])) 4) := by simp [blockB,sealL]
 refine ⟨(entsB bs[m]).length % 256,(entsB bs[m]).length / 256,by omega,by omega,by omega,?_,?_,?_⟩
 ·rw [e,List.length_append,ep,List.length_append]
  omega
 ·rw [e,List.getElem?_append_right (by omega),ep,show 14 + (blocksB (bs.take m)).length + 1 - (14 + (blocksB (bs.take m)).length) = 1 by omega,List.getElem?_append_left (by omega),eb]
  simp [lowL]
 ·rw [e,List.getElem?_append_right (by omega),ep,show 14 + (blocksB (bs.take m)).length + 2 - (14 + (blocksB (bs.take m)).length) = 2 by omega,List.getElem?_append_left (by omega),eb]
  simp [lowL]
  rw [Nat.mod_eq_of_lt (by omega)]
theorem blocks_count {blk : Nat} {bs : List (List Ent)} (h : ∀ e ∈ bs,BlkOk blk e) : bs.length <= (blocksB bs).length := by
 induction bs with
 | nil => simp
 | cons es bs ih =>
  have := ih (fun x hx => h x (by simp [hx]))
  rw [blocksB_cons,List.length_append,blockB_length,List.length_cons]
  omega
end Go.Proofs.YtdhgebdbiehchaaGreatDoor
