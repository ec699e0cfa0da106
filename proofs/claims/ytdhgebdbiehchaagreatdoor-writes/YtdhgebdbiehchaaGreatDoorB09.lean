/- The contracts of record.IsConfig and record.ReadHead. The contracts of record.IsValue and record.readEntry: the entry that bytes begin with. The contract of record.readEntry where the entry's bytes are all there; and of record.Entry.IsRight. The contract of record.readEntries: so many entries, which must have all bytes. The contract of record.ReadBlock. -/
import Derived.Test.YtdhgebdbiehchaaGreatDoorB03
import Derived.Deep.DeepCutAuto
import Derived.Test.YtdhgebdbiehchaaGreatDoorB07
namespace Go.Proofs.YtdhgebdbiehchaaGreatDoor
open Go.RowKit
set_option linter.unusedSimpArgs false
set_option linter.unusedVariables false

set_option maxHeartbeats 800000 in
theorem isConfig_any (blk seed bits : Int) (w : World) :
    Calls Tryz.prog 68 #[.agg #[.int .i64 blk, .int .i64 seed, .int .i64 bits]] w fun e w' => e = .returned (.bool (wellB blk seed bits)) ∧ Below w.heap.size w w' := by
  rcases (show blk < 1 ∨ (1 ≤ blk ∧ 400 < blk) ∨ ((1 ≤ blk ∧ blk ≤ 400) ∧ seedB seed = false) ∨ ((1 ≤ blk ∧ blk ≤ 400) ∧ seedB seed = true) from by cases seedB seed <;> simp <;> omega) with h1 | ⟨h1, h2⟩ | ⟨⟨h1, h2⟩, h3⟩ | ⟨⟨h1, h2⟩, h3⟩
  all_goals
    go_enter Tryz.func68, Tryz.ntmps68
    go_wp2_with (first | (go_at_call 126; refine (isSeed_any _ _).mono ?_; rintro e w' ⟨rfl, rfl⟩) | (go_at_call 127; refine (isBits_any _ _).mono ?_; rintro e w' ⟨rfl, rfl⟩))
    go_ret
    refine ⟨ret_bool ?_, (Below.refl _ _).alloc (Nat.le_refl _) _⟩
  · rw [Bool.eq_iff_iff]; unfold wellB; simp; omega
  · rw [Bool.eq_iff_iff]; unfold wellB; simp; omega
  · rw [Bool.eq_iff_iff]; unfold wellB; simp [seedB] at h3 ⊢; omega
  · rw [Bool.eq_iff_iff]; unfold wellB bitsB; simp [seedB] at h3 ⊢; omega

set_option maxHeartbeats 800000 in
theorem readHead_no (s : ByteArray) (w : World) (hs : s.size ≤ 140737488351232) (hH : HalvesAt w) (h : s.size < 14 ∨ (14 ≤ s.size ∧ (s.data.toList.take 2 == [76, 71]) = false) ∨ (14 ≤ s.size ∧ (s.data.toList.take 2 == [76, 71]) = true ∧ sealedB (s.data.toList.take 14) = false)) :
    Calls Tryz.prog 87 #[.string s] w fun e w' => e = .returned (.tuple #[.agg #[.int .i64 0, .int .i64 0, .int .i64 0], .bool false]) ∧ Below w.heap.size w w' := by
  have E2 : Hid ((s.extract 0 2).toList = s.data.toList.take 2) := by show _ = _; rw [ByteArray.toList_eq, cut_list, List.drop_zero]
  have E14 : Hid ((s.extract 0 14).data.toList = s.data.toList.take 14) := by show _ = _; rw [cut_list, List.drop_zero]
  have HH : Hid (HalvesAt w) := hH
  clear hH
  rcases h with h1 | ⟨h1, h2⟩ | ⟨h1, h2, h3⟩
  · go_enter Tryz.func87, Tryz.ntmps87
    go_wp2
    exact bodyPost_ret (v := .tuple #[.agg #[.int .i64 0, .int .i64 0, .int .i64 0], .bool false]) (by simp [results, Tryz.results87, go_sem]) rfl ⟨rfl, (Below.refl _ _).alloc (Nat.le_refl _) _⟩
  · have t1 : ((s.extract 0 2).toList == [76, 71]) = false := by rw [E2.out]; exact h2
    have t2 : ((s.extract 0 2).toList != [76, 71]) = true := by rw [bne, t1]; rfl
    clear h2
    go_enter Tryz.func87, Tryz.ntmps87
    go_wp2
    exact bodyPost_ret (v := .tuple #[.agg #[.int .i64 0, .int .i64 0, .int .i64 0], .bool false]) (by simp [results, Tryz.results87, go_sem]) rfl ⟨rfl, (Below.refl _ _).alloc (Nat.le_refl _) _⟩
  · have t1 : ((s.extract 0 2).toList == [76, 71]) = true := by rw [E2.out]; exact h2
    have t2 : ((s.extract 0 2).toList != [76, 71]) = false := by rw [bne, t1]; rfl
    have H3 : Hid (sealedB (s.data.toList.take 14) = false) := h3
    clear h2 h3
    go_enter Tryz.func87, Tryz.ntmps87
    go_wp2_with fail
    refine (holds_any _ _ ?_ ?_).mono ?_
    · simp; omega
    · exact HH.out.below ((Below.refl w.heap.size w).alloc (Nat.le_refl _) _) HH.out.1
    rintro e w1 ⟨rfl, hb1⟩
    rw [E14.out, H3.out]
    have hz1 : w.heap.size < w1.heap.size := by have := hb1.size; simp at this; omega
    have r0 : w1.cell? ⟨w.heap.size, 0, none⟩ = some (.int .i64 0) := by rw [hb1.cell (p := ⟨w.heap.size, 0, none⟩) (by simp)]; simp
    have r1 : w1.cell? ⟨w.heap.size, 1, none⟩ = some (.int .i64 0) := by rw [hb1.cell (p := ⟨w.heap.size, 1, none⟩) (by simp)]; simp
    have r2 : w1.cell? ⟨w.heap.size, 2, none⟩ = some (.int .i64 0) := by rw [hb1.cell (p := ⟨w.heap.size, 2, none⟩) (by simp)]; simp
    have f0 : w1.frozen? ⟨w.heap.size, 0, none⟩ = false := by rw [hb1.frozen (p := ⟨w.heap.size, 0, none⟩) (by simp)]; simp
    have f1 : w1.frozen? ⟨w.heap.size, 1, none⟩ = false := by rw [hb1.frozen (p := ⟨w.heap.size, 1, none⟩) (by simp)]; simp
    have f2 : w1.frozen? ⟨w.heap.size, 2, none⟩ = false := by rw [hb1.frozen (p := ⟨w.heap.size, 2, none⟩) (by simp)]; simp
    have hB : Below w.heap.size w w1 := ((Below.refl _ _).alloc (Nat.le_refl _) _).trans (hb1.mono (by simp))
    go_wp2
    exact bodyPost_ret (v := .tuple #[.agg #[.int .i64 0, .int .i64 0, .int .i64 0], .bool false]) (by simp [results, Tryz.results87, go_sem, r0, r1, r2]) rfl ⟨rfl, ((hB.setCell (Nat.le_refl _) _).setCell (Nat.le_refl _) _).setCell (Nat.le_refl _) _⟩
set_option maxRecDepth 100000 in
set_option maxHeartbeats 1600000 in
theorem readHead_go (s : ByteArray) (w : World) (hs : s.size ≤ 140737488351232) (hH : HalvesAt w) (h1 : 14 ≤ s.size) (h2 : (s.data.toList.take 2 == [76, 71]) = true) (h3 : sealedB (s.data.toList.take 14) = true) (b : Bool) (hwell : wellB (hdBlk s.data.toList) (hdSeed s.data.toList) (hdBits s.data.toList) = b) :
    Calls Tryz.prog 87 #[.string s] w fun e w' => e = .returned (.tuple #[if b then .agg #[.int .i64 (hdBlk s.data.toList), .int .i64 (hdSeed s.data.toList), .int .i64 (hdBits s.data.toList)] else .agg #[.int .i64 0, .int .i64 0, .int .i64 0], .bool b]) ∧ Below w.heap.size w w' := by
  have E2 : Hid ((s.extract 0 2).toList = s.data.toList.take 2) := by show _ = _; rw [ByteArray.toList_eq, cut_list, List.drop_zero]
  have E14 : Hid ((s.extract 0 14).data.toList = s.data.toList.take 14) := by show _ = _; rw [cut_list, List.drop_zero]
  have HH : Hid (HalvesAt w) := hH
  have t1 : ((s.extract 0 2).toList == [76, 71]) = true := by rw [E2.out]; exact h2
  have t2 : ((s.extract 0 2).toList != [76, 71]) = false := by rw [bne, t1]; rfl
  have H3 : Hid (sealedB (s.data.toList.take 14) = true) := h3
  have HW : Hid (wellB (hdBlk s.data.toList) (hdSeed s.data.toList) (hdBits s.data.toList) = b) := hwell
  clear hH h2 h3 hwell
  go_enter Tryz.func87, Tryz.ntmps87
  go_wp2_with fail
  refine (holds_any _ _ ?_ ?_).mono ?_
  · simp; omega
  · exact HH.out.below ((Below.refl w.heap.size w).alloc (Nat.le_refl _) _) HH.out.1
  rintro e w1 ⟨rfl, hb1⟩
  rw [E14.out, H3.out]
  have hz1 : w.heap.size < w1.heap.size := by have := hb1.size; simp at this; omega
  have HB1 : Hid (Below w.heap.size w w1) := ((Below.refl _ _).alloc (Nat.le_refl _) _).trans (hb1.mono (by simp))
  have HR : Hid ((w1.cell? ⟨w.heap.size, 0, none⟩ = some (.int .i64 0) ∧ w1.cell? ⟨w.heap.size, 1, none⟩ = some (.int .i64 0) ∧ w1.cell? ⟨w.heap.size, 2, none⟩ = some (.int .i64 0)) ∧ ∀ i, w1.frozen? ⟨w.heap.size, i, none⟩ = false) := by
    refine ⟨⟨?_, ?_, ?_⟩, fun i => ?_⟩
    · rw [hb1.cell (p := ⟨w.heap.size, 0, none⟩) (by simp)]; simp
    · rw [hb1.cell (p := ⟨w.heap.size, 1, none⟩) (by simp)]; simp
    · rw [hb1.cell (p := ⟨w.heap.size, 2, none⟩) (by simp)]; simp
    · rw [hb1.frozen (p := ⟨w.heap.size, i, none⟩) (by simp)]; simp
  have E1 : Hid ((s.extract 2 4).data.toList = (s.data.toList.drop 2).take 2) := cut_list s 2 4
  have E4 : Hid ((s.extract 4 8).data.toList = (s.data.toList.drop 4).take 4) := cut_list s 4 8
  have E8 : Hid ((s.extract 8 10).data.toList = (s.data.toList.drop 8).take 2) := cut_list s 8 10
  have z1 : (s.extract 2 4).size = 2 := by simp; omega
  have z2 : (s.extract 4 8).size = 4 := by simp; omega
  have z3 : (s.extract 8 10).size = 2 := by simp; omega
  have i1 : (4 : Int) ≤ (s.size : Int) := by omega
  have i2 : (8 : Int) ≤ (s.size : Int) := by omega
  have i3 : (10 : Int) ≤ (s.size : Int) := by omega
  clear hb1 t1 t2 E2 E14 H3 HH
  go_wp2_with fail
  go_cut [4] (fun c wx => c = .pointer (some ⟨w1.heap.size, 0, none⟩) ∧ wx.cell? ⟨w1.heap.size, 0, none⟩ = some (.int .i64 (hdBlk s.data.toList)) ∧ wx.cell? ⟨w1.heap.size, 1, none⟩ = some (.int .i64 (hdSeed s.data.toList)) ∧ wx.cell? ⟨w1.heap.size, 2, none⟩ = some (.int .i64 (hdBits s.data.toList)) ∧ Below w1.heap.size w1 wx ∧ w1.heap.size < wx.heap.size)
  case first =>
    go_region_held3 (fun w' => w1.heap.size ≤ w'.heap.size) (first | (simp) | (simp; omega)) (first | (go_at_call_of 145 (Value.string (s.extract 2 4)); refine (lowRead_any _ _ (by omega)).mono ?_; rintro e w' ⟨rfl, rfl⟩) | (go_at_call_of 145 (Value.string (s.extract 4 8)); refine (lowRead_any _ _ (by omega)).mono ?_; rintro e w' ⟨rfl, rfl⟩) | (go_at_call_of 145 (Value.string (s.extract 8 10)); refine (lowRead_any _ _ (by omega)).mono ?_; rintro e w' ⟨rfl, rfl⟩))
    all_goals
      go_wp2_with fail
      go_meet
      refine ⟨rfl, ?_, ?_, ?_, ?_, ?_⟩
      · rw [hdBlk, ← E1.out]; simp
      · rw [hdSeed, ← E4.out]; simp
      · rw [hdBits, ← E8.out]; simp
      · first | exact ((Below.refl _ _).alloc (Nat.le_refl _) _).drew | exact (((Below.refl _ _).alloc (Nat.le_refl _) _).setCell (by simp) _).drew
      · simp
  case rest =>
    obtain ⟨rfl, c0, c1, c2, hb2, hz2⟩ := hcut
    clear z1 z2 z3 i1 i2 i3 E1 E4 E8
    go_wp2_with fail
    refine (isConfig_any _ _ _ _).mono ?_
    rintro e w2 ⟨rfl, hb3⟩
    rw [HW.out]
    have d0 := (hb3.cell (p := ⟨w1.heap.size, 0, none⟩) hz2).trans c0
    have d1 := (hb3.cell (p := ⟨w1.heap.size, 1, none⟩) hz2).trans c1
    have d2 := (hb3.cell (p := ⟨w1.heap.size, 2, none⟩) hz2).trans c2
    obtain ⟨⟨r0, r1, r2⟩, rf⟩ := HR.out
    have hbx : Below w1.heap.size w1 w2 := hb2.trans (hb3.mono (Nat.le_of_lt hz2))
    replace r0 := (hbx.cell (p := ⟨w.heap.size, 0, none⟩) hz1).trans r0
    replace r1 := (hbx.cell (p := ⟨w.heap.size, 1, none⟩) hz1).trans r1
    replace r2 := (hbx.cell (p := ⟨w.heap.size, 2, none⟩) hz1).trans r2
    have f0 : w2.frozen? ⟨w.heap.size, 0, none⟩ = false := (hbx.frozen (p := ⟨w.heap.size, 0, none⟩) hz1).trans (rf 0)
    have f1 : w2.frozen? ⟨w.heap.size, 1, none⟩ = false := (hbx.frozen (p := ⟨w.heap.size, 1, none⟩) hz1).trans (rf 1)
    have f2 : w2.frozen? ⟨w.heap.size, 2, none⟩ = false := (hbx.frozen (p := ⟨w.heap.size, 2, none⟩) hz1).trans (rf 2)
    have HW2 : Hid (Below w.heap.size w w2) := HB1.out.trans (hbx.mono (Nat.le_of_lt hz1))
    clear rf c0 c1 c2 HR hb3 hb2 hbx HW
    cases b
    · go_wp2
      exact bodyPost_ret (v := .tuple #[.agg #[.int .i64 0, .int .i64 0, .int .i64 0], .bool false]) (by simp [results, Tryz.results87, go_sem, r0, r1, r2]) rfl ⟨rfl, ((HW2.out.setCell (Nat.le_refl _) _).setCell (Nat.le_refl _) _).setCell (Nat.le_refl _) _⟩
    · go_wp2
      exact bodyPost_ret (v := .tuple #[.agg #[.int .i64 (hdBlk s.data.toList), .int .i64 (hdSeed s.data.toList), .int .i64 (hdBits s.data.toList)], .bool true]) (by simp [results, Tryz.results87, go_sem, r0, r1, r2]) rfl ⟨rfl, ((HW2.out.setCell (Nat.le_refl _) _).setCell (Nat.le_refl _) _).setCell (Nat.le_refl _) _⟩

theorem headB_parts (l : List UInt8) : headB l = (decide (14 ≤ l.length) && (l.take 2 == [76, 71]) && sealedB (l.take 14) && wellB (hdBlk l) (hdSeed l) (hdBits l)) := by
  unfold headB
  cases decide (14 ≤ l.length) <;> cases sealedB (l.take 14) <;> cases wellB (hdBlk l) (hdSeed l) (hdBits l) <;> cases (l.take 2 == [76, 71]) <;> rfl

/-- What ReadHead answers: the head's three numbers where it is one, else noughts. -/
def headV (l : List UInt8) : Value := if headB l = true then .agg #[.int .i64 (hdBlk l), .int .i64 (hdSeed l), .int .i64 (hdBits l)] else .agg #[.int .i64 0, .int .i64 0, .int .i64 0]
theorem readHead_any (s : ByteArray) (w : World) (hs : s.size ≤ 140737488351232) (hH : HalvesAt w) :
    Calls Tryz.prog 87 #[.string s] w fun e w' => e = .returned (.tuple #[headV s.data.toList, .bool (headB s.data.toList)]) ∧ Below w.heap.size w w' := by
  have hl : s.data.toList.length = s.size := by simp
  have hp := headB_parts s.data.toList
  rw [hl] at hp
  by_cases h1 : 14 ≤ s.size
  · cases h2 : (s.data.toList.take 2 == [76, 71])
    · have hf : headB s.data.toList = false := by rw [hp, h2]; simp
      unfold headV
      rw [hf]
      exact readHead_no s w hs hH (.inr (.inl ⟨h1, h2⟩))
    · cases h3 : sealedB (s.data.toList.take 14)
      · have hf : headB s.data.toList = false := by rw [hp, h3]; simp
        unfold headV
        rw [hf]
        exact readHead_no s w hs hH (.inr (.inr ⟨h1, h2, h3⟩))
      · have hf : headB s.data.toList = wellB (hdBlk s.data.toList) (hdSeed s.data.toList) (hdBits s.data.toList) := by rw [hp, h2, h3]; simp [h1]
        unfold headV
        rw [hf]
        exact readHead_go s w hs hH h1 h2 h3 _ rfl
  · have hf : headB s.data.toList = false := by rw [hp]; simp; omega
    unfold headV
    rw [hf]
    exact readHead_no s w hs hH (.inl (by omega))

end Go.Proofs.YtdhgebdbiehchaaGreatDoor
namespace Go.Proofs.YtdhgebdbiehchaaGreatDoor
open Go.RowKit
set_option linter.unusedSimpArgs false
set_option linter.unusedVariables false

set_option maxHeartbeats 400000 in
theorem isValue_any (s : ByteArray) (w : World) :
    Calls Tryz.prog 154 #[.string s] w fun e w' => e = .returned (.bool (decide (s.size ≤ 30))) ∧ w' = w := by
  go_enter Tryz.func154, Tryz.ntmps154
  go_wp2
  go_ret
  refine ⟨ret_bool ?_, rfl⟩
  rw [Bool.eq_iff_iff]; simp; omega

def noEnt : Value := .agg #[.bool false, .string ⟨#[]⟩, .string ⟨#[]⟩]
/-- What readEntry answers. -/
def entR (l : List UInt8) : Value := match ent1 l with
  | none => .tuple #[noEnt, .string ⟨#[]⟩, .bool false]
  | some (e, n) => .tuple #[.agg #[.bool e.put, .string (S e.key), .string (S e.val)], .string (S (l.drop n)), .bool true]
theorem entR_none {l : List UInt8} (h : ent1 l = none) : entR l = .tuple #[.agg #[.bool false, .string ⟨#[]⟩, .string ⟨#[]⟩], .string ⟨#[]⟩, .bool false] := by
  unfold entR; rw [h]; rfl
theorem entR_some {l : List UInt8} {e : Ent} {n : Nat} (h : ent1 l = some (e, n)) : entR l = .tuple #[.agg #[.bool e.put, .string (S e.key), .string (S e.val)], .string (S (l.drop n)), .bool true] := by
  unfold entR; rw [h]

theorem ent1_zero {l : List UInt8} {n : Nat} (hn : l.length = n) (h : 3 ≤ l.length) : ent1 l = if n < 3 + l[1].toNat + l[2].toNat ∨ l[1].toNat < 1 ∨ 20 < l[1].toNat ∨ 30 < l[2].toNat then none else if l[0] = 112 then some (⟨true, (l.drop 3).take l[1].toNat, (l.drop (3 + l[1].toNat)).take l[2].toNat⟩, 3 + l[1].toNat + l[2].toNat) else if l[0] = 100 ∧ l[2].toNat = 0 then some (⟨false, (l.drop 3).take l[1].toNat, []⟩, 3 + l[1].toNat) else none := by
  match l, h with
  | a :: b :: c :: r, _ =>
    show (if r.length < b.toNat + c.toNat ∨ b.toNat < 1 ∨ 20 < b.toNat ∨ 30 < c.toNat then none else if a = 112 then some ((⟨true, r.take b.toNat, (r.drop b.toNat).take c.toNat⟩ : Ent), 3 + b.toNat + c.toNat) else if a = 100 ∧ c.toNat = 0 then some ((⟨false, r.take b.toNat, []⟩ : Ent), 3 + b.toNat) else none) = if n < 3 + b.toNat + c.toNat ∨ b.toNat < 1 ∨ 20 < b.toNat ∨ 30 < c.toNat then none else if a = 112 then some ((⟨true, r.take b.toNat, ((a :: b :: c :: r).drop (3 + b.toNat)).take c.toNat⟩ : Ent), 3 + b.toNat + c.toNat) else if a = 100 ∧ c.toNat = 0 then some ((⟨false, r.take b.toNat, []⟩ : Ent), 3 + b.toNat) else none
    have e : (a :: b :: c :: r).drop (3 + b.toNat) = r.drop b.toNat := by rw [← List.drop_drop]; rfl
    rw [e]
    have hr : r.length + 3 = n := by simpa using hn
    by_cases hb : r.length < b.toNat + c.toNat ∨ b.toNat < 1 ∨ 20 < b.toNat ∨ 30 < c.toNat
    · rw [if_pos hb, if_pos (by omega)]
    · rw [if_neg hb, if_neg (c := n < 3 + b.toNat + c.toNat ∨ b.toNat < 1 ∨ 20 < b.toNat ∨ 30 < c.toNat) (by omega)]

set_option maxRecDepth 100000 in
set_option maxHeartbeats 1600000 in
theorem readEntry_early (s : ByteArray) (w : World) (hs : s.size ≤ 140737488351232) (h : s.size < 3 ∨ ∃ h3 : 3 ≤ s.size, s[0] ≠ 112 ∧ s[0] ≠ 100) :
    Calls Tryz.prog 205 #[.string s] w fun e w' => e = .returned (entR s.data.toList) ∧ Below w.heap.size w w' := by
  have hl : s.data.toList.length = s.size := by simp
  rcases h with h1 | ⟨h3, h1, h2⟩
  · have HR : Hid (entR s.data.toList = _) := entR_none (ent1_short (by omega))
    go_enter Tryz.func205, Tryz.ntmps205
    go_wp2
    exact bodyPost_ret (v := .tuple #[.agg #[.bool false, .string ⟨#[]⟩, .string ⟨#[]⟩], .string ⟨#[]⟩, .bool false]) (by simp [results, Tryz.results205, go_sem]) rfl ⟨by rw [HR.out], (Below.refl _ _).alloc (Nat.le_refl _) _⟩
  · have HR : Hid (entR s.data.toList = _) := entR_none (by
      have e : ent1 (s.data.toList.drop 0) = none := by
        by_cases hb : s.data.toList.length < 0 + 3 + s.data.toList[1].toNat + s.data.toList[2].toNat ∨ s.data.toList[1].toNat < 1 ∨ 20 < s.data.toList[1].toNat ∨ 30 < s.data.toList[2].toNat
        · exact ent1_bad (by omega) hb
        · exact ent1_no (by omega) hb h1 (.inl h2)
      rwa [List.drop_zero] at e)
    have t1 : ((s[0].toNat : Int) != 112) = true := by
      rw [bne_iff_ne]; intro h; apply h1; apply UInt8.toNat_inj.1; simp; omega
    have t2 : ((s[0].toNat : Int) != 100) = true := by
      rw [bne_iff_ne]; intro h; apply h2; apply UInt8.toNat_inj.1; simp; omega
    clear h1 h2
    go_enter Tryz.func205, Tryz.ntmps205
    go_wp2
    exact bodyPost_ret (v := .tuple #[.agg #[.bool false, .string ⟨#[]⟩, .string ⟨#[]⟩], .string ⟨#[]⟩, .bool false]) (by simp [results, Tryz.results205, go_sem]) rfl ⟨by rw [HR.out], (Below.refl _ _).alloc (Nat.le_refl _) _⟩

set_option maxRecDepth 100000 in
set_option maxHeartbeats 3200000 in
theorem readEntry_bad (s : ByteArray) (w : World) (hs : s.size ≤ 140737488351232) (h3 : 3 ≤ s.size) (pb : Bool) (hk : if pb then s[0] = 112 else (s[0] ≠ 112 ∧ s[0] = 100)) (hbad : s.size < 3 + s[1].toNat + s[2].toNat ∨ (3 + s[1].toNat + s[2].toNat ≤ s.size ∧ pb = false ∧ s[2].toNat ≠ 0)) :
    Calls Tryz.prog 205 #[.string s] w fun e w' => e = .returned (entR s.data.toList) ∧ Below w.heap.size w w' := by
  have hl : s.data.toList.length = s.size := by simp
  have t1 : ((s[0].toNat : Int) != 112) = !pb := by
    cases pb
    · have : s[0] = 100 := hk.2
      rw [this]; rfl
    · have : s[0] = 112 := hk
      rw [this]; rfl
  have t2 : pb = false → ((s[0].toNat : Int) != 100) = false := by
    intro hp; subst hp
    have : s[0] = 100 := hk.2
    rw [this]; rfl
  have t3 : ((s[0].toNat : Int) == 112) = pb := by
    cases pb
    · have : s[0] = 100 := hk.2
      rw [this]; rfl
    · have : s[0] = 112 := hk
      rw [this]; rfl
  have hw1 := w64b s[1]
  have hw2 := w64b s[2]
  have hb1 := s[1].toNat_lt
  have hb2 := s[2].toNat_lt
  have c0 := idx_run s 0 (by omega) 0 rfl
  have c1 := idx_run s 1 (by omega) 1 rfl
  have c2 := idx_run s 2 (by omega) 2 rfl
  have c3 := cut_from s 3 (by omega) 3 rfl
  have HE : Hid (ent1 s.data.toList = if s.size < 3 + s[1].toNat + s[2].toNat ∨ s[1].toNat < 1 ∨ 20 < s[1].toNat ∨ 30 < s[2].toNat then none else if pb = true then some (⟨true, (s.data.toList.drop 3).take s[1].toNat, (s.data.toList.drop (3 + s[1].toNat)).take s[2].toNat⟩, 3 + s[1].toNat + s[2].toNat) else if s[2].toNat = 0 then some (⟨false, (s.data.toList.drop 3).take s[1].toNat, []⟩, 3 + s[1].toNat) else none) := by
    have hz : ent1 s.data.toList = if s.size < 3 + s[1].toNat + s[2].toNat ∨ s[1].toNat < 1 ∨ 20 < s[1].toNat ∨ 30 < s[2].toNat then none else if s[0] = 112 then some (⟨true, (s.data.toList.drop 3).take s[1].toNat, (s.data.toList.drop (3 + s[1].toNat)).take s[2].toNat⟩, 3 + s[1].toNat + s[2].toNat) else if s[0] = 100 ∧ s[2].toNat = 0 then some (⟨false, (s.data.toList.drop 3).take s[1].toNat, []⟩, 3 + s[1].toNat) else none := ent1_zero hl (by omega)
    show _ = _
    rw [hz]
    cases pb
    · rw [if_neg (c := s[0] = 112) hk.1, if_neg (c := false = true) (by decide)]
      by_cases hv : s[2].toNat = 0
      · rw [if_pos (c := s[0] = 100 ∧ s[2].toNat = 0) ⟨hk.2, hv⟩, if_pos (c := s[2].toNat = 0) hv]
      · rw [if_neg (c := s[0] = 100 ∧ s[2].toNat = 0) (fun h => hv h.2), if_neg (c := s[2].toNat = 0) hv]
    · rw [if_pos (c := s[0] = 112) hk, if_pos (c := true = true) rfl]
  clear hk
  go_enter Tryz.func205, Tryz.ntmps205
  obtain ⟨r, hr⟩ : ∃ r, r = S (s.data.toList.drop 3) := ⟨_, rfl⟩
  rw [← hr] at c3
  have hrs : r.size = s.size - 3 := by rw [hr, S_size]; simp
  have HRL : Hid (r.data.toList = s.data.toList.drop 3) := by show _ = _; rw [hr, S_data]
  clear hr
  rcases hbad with g1 | ⟨g1, g2, g3⟩
  · have HR : Hid (entR s.data.toList = _) := entR_none (by rw [HE.out, if_pos (.inl g1)])
    clear HE HRL
    cases pb
    all_goals
      go_wp2_with fail
      go_quiet (fail)
      go_wp2
      exact bodyPost_ret (v := .tuple #[.agg #[.bool false, .string ⟨#[]⟩, .string ⟨#[]⟩], .string ⟨#[]⟩, .bool false]) (by simp [results, Tryz.results205, go_sem]) rfl ⟨by rw [HR.out], (((below_drewN ((Below.refl _ _).alloc (Nat.le_refl _) _) _).setCell (Nat.le_refl _) _).setCell (Nat.le_refl _) _).setCell (Nat.le_refl _) _⟩
  · subst g2
    have HR : Hid (entR s.data.toList = _) := entR_none (by
      rw [HE.out]
      by_cases hb : s.size < 3 + s[1].toNat + s[2].toNat ∨ s[1].toNat < 1 ∨ 20 < s[1].toNat ∨ 30 < s[2].toNat
      · rw [if_pos hb]
      · rw [if_neg hb, if_neg (by decide), if_neg g3])
    have t4 : ((s[2].toNat : Int) != 0) = true := by rw [bne_iff_ne]; omega
    clear HE HRL g3
    go_wp2_with fail
    go_quiet (fail)
    go_wp2
    exact bodyPost_ret (v := .tuple #[.agg #[.bool false, .string ⟨#[]⟩, .string ⟨#[]⟩], .string ⟨#[]⟩, .bool false]) (by simp [results, Tryz.results205, go_sem]) rfl ⟨by rw [HR.out], (((below_drewN ((Below.refl _ _).alloc (Nat.le_refl _) _) _).setCell (Nat.le_refl _) _).setCell (Nat.le_refl _) _).setCell (Nat.le_refl _) _⟩

end Go.Proofs.YtdhgebdbiehchaaGreatDoor
namespace Go.Proofs.YtdhgebdbiehchaaGreatDoor
open Go.RowKit
set_option linter.unusedSimpArgs false
set_option linter.unusedVariables false

set_option maxHeartbeats 800000 in
theorem isRight_any (pb : Bool) (ky vl : ByteArray) (w : World) :
    Calls Tryz.prog 99 #[.agg #[.bool pb, .string ky, .string vl]] w fun e w' => e = .returned (.bool (keyB ky && decide (vl.size ≤ 30))) ∧ Below w.heap.size w w' := by
  cases h : keyB ky
  all_goals
    go_enter Tryz.func99, Tryz.ntmps99
    go_wp2_with (first | (go_at_call 153; refine (isKey_any _ _).mono ?_; rintro e w' ⟨rfl, rfl⟩; rw [h]) | (go_at_call 154; refine (isValue_any _ _).mono ?_; rintro e w' ⟨rfl, rfl⟩))
    go_ret
    refine ⟨ret_bool (by simp), (Below.refl _ _).alloc (Nat.le_refl _) _⟩

theorem far3 (w2 : World) {n m : Nat} (h : n ≠ m) (a b c : Value) (j : Nat) : (((w2.setCell ⟨n, 0, none⟩ a).setCell ⟨n, 1, none⟩ b).setCell ⟨n, 2, none⟩ c).drew.cell? ⟨m, j, none⟩ = w2.cell? ⟨m, j, none⟩ := by
  show (((w2.setCell ⟨n, 0, none⟩ a).setCell ⟨n, 1, none⟩ b).setCell ⟨n, 2, none⟩ c).cell? ⟨m, j, none⟩ = _
  rw [World.cell?_setCell_far _ _ _ _ h, World.cell?_setCell_far _ _ _ _ h, World.cell?_setCell_far _ _ _ _ h]
/-- The result's box: noughts. -/
def Keep3 (w W : World) : Prop := (W.cell? ⟨w.heap.size, 0, none⟩ = some (.bool false) ∧ W.cell? ⟨w.heap.size, 1, none⟩ = some (.string ⟨#[]⟩) ∧ W.cell? ⟨w.heap.size, 2, none⟩ = some (.string ⟨#[]⟩)) ∧ (∀ i, W.frozen? ⟨w.heap.size, i, none⟩ = false) ∧ Below w.heap.size w W ∧ w.heap.size < W.heap.size
theorem keep3_new (w : World) (q : Nat) : Keep3 w ((w.alloc (.cells #[.bool false, .string ⟨#[]⟩, .string ⟨#[]⟩] 106)).drewN q) :=
  ⟨⟨by simp, by simp, by simp⟩, fun i => by simp, below_drewN ((Below.refl _ _).alloc (Nat.le_refl _) _) _, by simp⟩
theorem Keep3.below {w W W' : World} (h : Keep3 w W) (hb : Below W.heap.size W W') : Keep3 w W' := by
  obtain ⟨⟨h0, h1, h2⟩, hf, hB, hz⟩ := h
  exact ⟨⟨(hb.cell (p := ⟨w.heap.size, 0, none⟩) hz).trans h0, (hb.cell (p := ⟨w.heap.size, 1, none⟩) hz).trans h1, (hb.cell (p := ⟨w.heap.size, 2, none⟩) hz).trans h2⟩, fun i => (hb.frozen (p := ⟨w.heap.size, i, none⟩) hz).trans (hf i), hB.trans (hb.mono (Nat.le_of_lt hz)), Nat.lt_of_lt_of_le hz hb.size⟩

set_option maxRecDepth 100000 in
set_option maxHeartbeats 3200000 in
theorem readEntry_good (s : ByteArray) (w : World) (hs : s.size ≤ 140737488351232) (h3 : 3 ≤ s.size) (pb : Bool) (hk : if pb then s[0] = 112 else (s[0] ≠ 112 ∧ s[0] = 100)) (g1 : 3 + s[1].toNat + s[2].toNat ≤ s.size) (g2 : pb = true ∨ s[2].toNat = 0) :
    Calls Tryz.prog 205 #[.string s] w fun e w' => e = .returned (entR s.data.toList) ∧ Below w.heap.size w w' := by
  have hl : s.data.toList.length = s.size := by simp
  have t1 : ((s[0].toNat : Int) != 112) = !pb := by
    cases pb
    · have : s[0] = 100 := hk.2
      rw [this]; rfl
    · have : s[0] = 112 := hk
      rw [this]; rfl
  have t2 : pb = false → ((s[0].toNat : Int) != 100) = false := by
    intro hp; subst hp
    have : s[0] = 100 := hk.2
    rw [this]; rfl
  have t3 : ((s[0].toNat : Int) == 112) = pb := by
    cases pb
    · have : s[0] = 100 := hk.2
      rw [this]; rfl
    · have : s[0] = 112 := hk
      rw [this]; rfl
  have hw1 := w64b s[1]
  have hw2 := w64b s[2]
  have hb1 := s[1].toNat_lt
  have hb2 := s[2].toNat_lt
  have c0 := idx_run s 0 (by omega) 0 rfl
  have c1 := idx_run s 1 (by omega) 1 rfl
  have c2 := idx_run s 2 (by omega) 2 rfl
  have c3 := cut_from s 3 (by omega) 3 rfl
  have HE : Hid (ent1 s.data.toList = if s.size < 3 + s[1].toNat + s[2].toNat ∨ s[1].toNat < 1 ∨ 20 < s[1].toNat ∨ 30 < s[2].toNat then none else if pb = true then some (⟨true, (s.data.toList.drop 3).take s[1].toNat, (s.data.toList.drop (3 + s[1].toNat)).take s[2].toNat⟩, 3 + s[1].toNat + s[2].toNat) else if s[2].toNat = 0 then some (⟨false, (s.data.toList.drop 3).take s[1].toNat, []⟩, 3 + s[1].toNat) else none) := by
    have hz : ent1 s.data.toList = if s.size < 3 + s[1].toNat + s[2].toNat ∨ s[1].toNat < 1 ∨ 20 < s[1].toNat ∨ 30 < s[2].toNat then none else if s[0] = 112 then some (⟨true, (s.data.toList.drop 3).take s[1].toNat, (s.data.toList.drop (3 + s[1].toNat)).take s[2].toNat⟩, 3 + s[1].toNat + s[2].toNat) else if s[0] = 100 ∧ s[2].toNat = 0 then some (⟨false, (s.data.toList.drop 3).take s[1].toNat, []⟩, 3 + s[1].toNat) else none := ent1_zero hl (by omega)
    show _ = _
    rw [hz]
    cases pb
    · rw [if_neg (c := s[0] = 112) hk.1, if_neg (c := false = true) (by decide)]
      by_cases hv : s[2].toNat = 0
      · rw [if_pos (c := s[0] = 100 ∧ s[2].toNat = 0) ⟨hk.2, hv⟩, if_pos (c := s[2].toNat = 0) hv]
      · rw [if_neg (c := s[0] = 100 ∧ s[2].toNat = 0) (fun h => hv h.2), if_neg (c := s[2].toNat = 0) hv]
    · rw [if_pos (c := s[0] = 112) hk, if_pos (c := true = true) rfl]
  clear hk
  go_enter Tryz.func205, Tryz.ntmps205
  obtain ⟨r, hr⟩ : ∃ r, r = S (s.data.toList.drop 3) := ⟨_, rfl⟩
  rw [← hr] at c3
  have hrs : r.size = s.size - 3 := by rw [hr, S_size]; simp
  have HRL : Hid (r.data.toList = s.data.toList.drop 3) := by show _ = _; rw [hr, S_data]
  clear hr
  have u1 := cut_upto r s[1].toNat (by omega) (s[1].toNat : Int) rfl
  have u2 := cut_run r s[1].toNat s[2].toNat (by omega) (s[1].toNat : Int) ((s[1].toNat : Int) + (s[2].toNat : Int)) rfl (by omega)
  have u3 := cut_from r (s[1].toNat + s[2].toNat) (by omega) ((s[1].toNat : Int) + (s[2].toNat : Int)) (by omega)
  rw [HRL.out] at u1 u2 u3
  obtain ⟨ky, hky⟩ : ∃ t, t = S ((s.data.toList.drop 3).take s[1].toNat) := ⟨_, rfl⟩
  obtain ⟨vl, hvl⟩ : ∃ t, t = S (((s.data.toList.drop 3).drop s[1].toNat).take s[2].toNat) := ⟨_, rfl⟩
  obtain ⟨rs, hrs2⟩ : ∃ t, t = S ((s.data.toList.drop 3).drop (s[1].toNat + s[2].toNat)) := ⟨_, rfl⟩
  rw [← hky] at u1
  rw [← hvl] at u2
  rw [← hrs2] at u3
  have kz : ky.size = s[1].toNat := by rw [hky, S_size]; simp; omega
  have vz : vl.size = s[2].toNat := by rw [hvl, S_size]; simp; omega
  have HGO : Hid (entR s.data.toList = if (keyB ky && decide (vl.size ≤ 30)) = true then .tuple #[.agg #[.bool pb, .string ky, .string vl], .string rs, .bool true] else .tuple #[.agg #[.bool false, .string ⟨#[]⟩, .string ⟨#[]⟩], .string ⟨#[]⟩, .bool false]) := by
    show _ = _
    have hkb : (keyB ky && decide (vl.size ≤ 30)) = true ↔ (1 ≤ s[1].toNat ∧ s[1].toNat ≤ 20) ∧ s[2].toNat ≤ 30 := by
      rw [keyB, kz, vz]; simp
    by_cases hq : (1 ≤ s[1].toNat ∧ s[1].toNat ≤ 20) ∧ s[2].toNat ≤ 30
    · rw [if_pos (hkb.2 hq)]
      have hno : ¬ (s.size < 3 + s[1].toNat + s[2].toNat ∨ s[1].toNat < 1 ∨ 20 < s[1].toNat ∨ 30 < s[2].toNat) := by omega
      cases pb
      · have hv : s[2].toNat = 0 := g2.resolve_left (by decide)
        rw [entR_some (show ent1 s.data.toList = some ((⟨false, (s.data.toList.drop 3).take s[1].toNat, []⟩ : Ent), 3 + s[1].toNat) by rw [HE.out, if_neg hno, if_neg (by decide), if_pos hv]), hky, hvl, hrs2, hv, Nat.add_zero, List.drop_drop]
        rfl
      · rw [entR_some (by rw [HE.out, if_neg hno, if_pos rfl]), hky, hvl, hrs2, List.drop_drop, List.drop_drop, Nat.add_assoc]
    · rw [if_neg (fun h => hq (hkb.1 h))]
      exact entR_none (by rw [HE.out, if_pos (by omega)])
  have m1 : IntKind.i64.wrap ((s[1].toNat : Int) + (s[2].toNat : Int)) = (s[1].toNat : Int) + (s[2].toNat : Int) := by rw [IntKind.wrap_i64]; omega
  have t4 : pb = false → ((s[2].toNat : Int) != 0) = false := by
    intro hp
    rcases g2 with g2 | g2
    · rw [hp] at g2; cases g2
    · rw [bne_eq_false_iff_eq]; omega
  clear HE HRL hky hvl hrs2 kz vz g2
  obtain ⟨pq, hpq⟩ : ∃ pq, pq = pb := ⟨_, rfl⟩
  have HPQ : Hid (pq = pb) := hpq
  clear hpq
  cases pb
  all_goals
    first | have t2' := t2 rfl | skip
    first | have t4' := t4 rfl | skip
    clear t2 t4
    go_wp2_with fail
    go_quiet (fail)
    go_wp2_with fail
    have hz3 : ((w.alloc (.cells #[.bool false, .string ⟨#[]⟩, .string ⟨#[]⟩] 106)).drewN nq).heap.size = w.heap.size + 1 := by simp
    have HC3 : Hid (Keep3 w ((w.alloc (.cells #[.bool false, .string ⟨#[]⟩, .string ⟨#[]⟩] 106)).drewN nq)) := keep3_new w nq
    generalize (w.alloc (.cells #[.bool false, .string ⟨#[]⟩, .string ⟨#[]⟩] 106)).drewN nq = W3 at *
    go_cut [8] (fun c wx => c = .pointer (some ⟨w.heap.size + 1, 0, none⟩) ∧ (wx.cell? ⟨w.heap.size + 1, 0, none⟩ = some (.bool pq) ∧ wx.cell? ⟨w.heap.size + 1, 1, none⟩ = some (.string ky) ∧ wx.cell? ⟨w.heap.size + 1, 2, none⟩ = some (.string vl)) ∧ Below W3.heap.size W3 wx ∧ w.heap.size + 1 < wx.heap.size)
    case first =>
      go_region_held3 (fun w' => W3.heap.size ≤ w'.heap.size) (first | (simp) | (simp; omega)) (first | (fail))
      all_goals
        go_wp2_with fail
        go_meet
        refine ⟨rfl, ⟨?_, ?_, ?_⟩, ?_, ?_⟩
        · rw [HPQ.out, ← hz3]; simp
        · rw [← hz3]; simp
        · rw [← hz3]; simp
        · first | exact ((Below.refl _ _).alloc (Nat.le_refl _) _).drew | exact (((Below.refl _ _).alloc (Nat.le_refl _) _).setCell (by simp) _).drew
        · simp; omega
    case rest =>
      obtain ⟨rfl, ⟨c0', c1', c2'⟩, hb2, hzz⟩ := hcut
      have HK := HC3.out.below hb2
      clear HC3 hb2 c0 c1 c2 c3 u1 u2
      rw [HPQ.out] at c0'
      go_wp2_with fail
      refine (isRight_any _ _ _ _).mono ?_
      rintro e w2 ⟨rfl, hb3⟩
      have HK2 := HK.below hb3
      obtain ⟨⟨r0, r1, r2⟩, rf, hB, hzr⟩ := HK2
      have f0 := rf 0
      have f1 := rf 1
      have f2 := rf 2
      have d0 := (hb3.cell (p := ⟨w.heap.size + 1, 0, none⟩) hzz).trans c0'
      have d1 := (hb3.cell (p := ⟨w.heap.size + 1, 1, none⟩) hzz).trans c1'
      have d2 := (hb3.cell (p := ⟨w.heap.size + 1, 2, none⟩) hzz).trans c2'
      have HB : Hid (Below w.heap.size w w2) := hB
      clear HK hb3 c0' c1' c2' rf hB
      generalize (keyB ky && decide (vl.size ≤ 30)) = q at *
      cases q
      · have HR : Hid (entR s.data.toList = .tuple #[.agg #[.bool false, .string ⟨#[]⟩, .string ⟨#[]⟩], .string ⟨#[]⟩, .bool false]) := HGO.out
        clear HGO u3
        go_wp2
        exact bodyPost_ret (v := .tuple #[.agg #[.bool false, .string ⟨#[]⟩, .string ⟨#[]⟩], .string ⟨#[]⟩, .bool false]) (by simp [results, Tryz.results205, go_sem, r0, r1, r2]) rfl ⟨by rw [HR.out], ((HB.out.setCell (Nat.le_refl _) _).setCell (Nat.le_refl _) _).setCell (Nat.le_refl _) _⟩
      · have HR : Hid (entR s.data.toList = _) := HGO.out
        clear HGO
        go_wp2_with fail
        go_region_held3 (fun w' => w'.cell? ⟨w.heap.size + 1, 0, none⟩ = w2.cell? ⟨w.heap.size + 1, 0, none⟩ ∧ w'.cell? ⟨w.heap.size + 1, 1, none⟩ = w2.cell? ⟨w.heap.size + 1, 1, none⟩ ∧ w'.cell? ⟨w.heap.size + 1, 2, none⟩ = w2.cell? ⟨w.heap.size + 1, 2, none⟩) (first | (exact ⟨far3 _ (by omega) _ _ _ 0, far3 _ (by omega) _ _ _ 1, far3 _ (by omega) _ _ _ 2⟩) | (exact ⟨rfl, rfl, rfl⟩)) (first | (fail))
        all_goals
          go_wp2
          exact bodyPost_ret (v := .tuple #[.agg #[.bool pq, .string ky, .string vl], .string rs, .bool true]) (by rw [HPQ.out]; simp [results, Tryz.results205, go_sem, r0, r1, r2]) rfl ⟨by rw [HR.out, HPQ.out]; rfl, (((HB.out.setCell (Nat.le_refl _) _).setCell (Nat.le_refl _) _).setCell (Nat.le_refl _) _).drew⟩

theorem readEntry_any (s : ByteArray) (w : World) (hs : s.size ≤ 140737488351232) :
    Calls Tryz.prog 205 #[.string s] w fun e w' => e = .returned (entR s.data.toList) ∧ Below w.heap.size w w' := by
  by_cases h3 : 3 ≤ s.size
  · by_cases hp : s[0] = 112
    · by_cases hb : s.size < 3 + s[1].toNat + s[2].toNat
      · exact readEntry_bad s w hs h3 true hp (.inl hb)
      · exact readEntry_good s w hs h3 true hp (by omega) (.inl rfl)
    · by_cases hd : s[0] = 100
      · by_cases hb : s.size < 3 + s[1].toNat + s[2].toNat
        · exact readEntry_bad s w hs h3 false ⟨hp, hd⟩ (.inl hb)
        · by_cases hv : s[2].toNat = 0
          · exact readEntry_good s w hs h3 false ⟨hp, hd⟩ (by omega) (.inr hv)
          · exact readEntry_bad s w hs h3 false ⟨hp, hd⟩ (.inr ⟨by omega, rfl, hv⟩)
      · exact readEntry_early s w hs (.inr ⟨h3, hp, hd⟩)
  · exact readEntry_early s w hs (.inl (by omega))

end Go.Proofs.YtdhgebdbiehchaaGreatDoor
namespace Go.Proofs.YtdhgebdbiehchaaGreatDoor
open Go.RowKit
set_option linter.unusedSimpArgs false
set_option linter.unusedVariables false

theorem info_rent : (Tryz.prog.info? 106).map (fun i => (i.zero, i.size, i.bytes)) = some (some (.agg #[.bool false, .string ⟨#[]⟩, .string ⟨#[]⟩]), 3, 40) := by kernel_rfl

/-- So many entries, and nothing behind them. -/
def entsN : Nat → List UInt8 → Option (List Ent)
  | 0, l => if l.isEmpty then some [] else none
  | n + 1, l => match ent1 l with
    | none => none
    | some (e, m) => (entsN n (l.drop m)).map (e :: ·)
theorem entsN_some {n : Nat} {l : List UInt8} {e : Ent} {m : Nat} (h : ent1 l = some (e, m)) : entsN (n + 1) l = (entsN n (l.drop m)).map (e :: ·) := by rw [entsN, h]
theorem entsN_none {n : Nat} {l : List UInt8} (h : ent1 l = none) : entsN (n + 1) l = none := by rw [entsN, h]
theorem entsN_iff (n : Nat) (l : List UInt8) (es : List Ent) : entsN n l = some es ↔ ents l = some es ∧ es.length = n := by
  induction n generalizing l es with
  | zero =>
    unfold entsN
    constructor
    · intro h
      split at h
      · rename_i he
        have : l = [] := by simpa using he
        subst this
        cases h
        exact ⟨rfl, rfl⟩
      · cases h
    · rintro ⟨h1, h2⟩
      have : es = [] := List.eq_nil_of_length_eq_zero h2
      subst this
      by_cases hl : l = []
      · subst hl; rfl
      · cases he : ent1 l with
        | none => rw [ents_none hl he] at h1; cases h1
        | some x =>
          obtain ⟨e, m⟩ := x
          rw [ents_some he] at h1
          cases hx : ents (l.drop m) with
          | none => rw [hx] at h1; cases h1
          | some y => rw [hx] at h1; cases h1
  | succ n ih =>
    cases he : ent1 l with
    | none =>
      rw [entsN_none he]
      constructor
      · intro h; cases h
      · rintro ⟨h1, h2⟩
        by_cases hl : l = []
        · subst hl
          rw [ents_nil] at h1
          cases h1
          cases h2
        · rw [ents_none hl he] at h1; cases h1
    | some x =>
      obtain ⟨e, m⟩ := x
      rw [entsN_some he, ents_some he]
      constructor
      · intro h
        cases hx : entsN n (l.drop m) with
        | none => rw [hx] at h; cases h
        | some y =>
          rw [hx] at h
          cases h
          obtain ⟨h1, h2⟩ := (ih (l.drop m) y).1 hx
          rw [h1]
          exact ⟨rfl, by simp [h2]⟩
      · rintro ⟨h1, h2⟩
        cases hx : ents (l.drop m) with
        | none => rw [hx] at h1; cases h1
        | some y =>
          rw [hx] at h1
          cases h1
          rw [(ih (l.drop m) y).2 ⟨hx, by simpa using h2⟩]
          rfl

/-- What readEntries answers. -/
def EntsNIs (w : World) (base : Nat) (v : Value) (ok : Bool) (r : Option (List Ent)) : Prop :=
  match r with
  | none => ok = false ∧ ∃ p n c, v = .slice p n c
  | some es => ok = true ∧ w.ownsRow base 106 3 v es.length (cellsE es)

theorem entR_at {l : List UInt8} : (ent1 l = none ∧ entR l = .tuple #[.agg #[.bool false, .string ⟨#[]⟩, .string ⟨#[]⟩], .string ⟨#[]⟩, .bool false]) ∨ (∃ e n, ent1 l = some (e, n) ∧ entR l = .tuple #[.agg #[.bool e.put, .string (S e.key), .string (S e.val)], .string (S (l.drop n)), .bool true]) := by
  cases h : ent1 l with
  | none => exact .inl ⟨rfl, entR_none h⟩
  | some x =>
    obtain ⟨e, n⟩ := x
    exact .inr ⟨e, n, rfl, entR_some h⟩

set_option maxRecDepth 100000 in
set_option maxHeartbeats 3200000 in
theorem readEntries_any (s : ByteArray) (count : Nat) (w : World) (hs : s.size ≤ 100000000) (hc : count ≤ 255) :
    Calls Tryz.prog 187 #[.string s, .int .i64 count] w fun e w' => ∃ v ok, e = .returned (.tuple #[v, .bool ok]) ∧ EntsNIs w' w.heap.size v ok (entsN count s.data.toList) ∧ Below w.heap.size w w' := by
  obtain ⟨i0, hi, hz0, hz1, hz2⟩ := info_parts info_rent
  go_enter Tryz.func187, Tryz.ntmps187
  go_wp2_with (at_make; refine wpList_make_own _ rfl _ (.tmp 10) 160 rfl w.heap.size 106 i0 (.agg #[.bool false, .string ⟨#[]⟩, .string ⟨#[]⟩]) 3 Tryz.underlying160 hi hz0 hz1 .i64 .i64 _ count rfl rfl rfl ?_ ?_ ?_ ?_)
  · rw [hz2]; omega
  · unfold maxLen; omega
  · omega
  · intro w1 hown hgr
    have hb1 : Below w.heap.size w w1 := (Below.refl _ _).grown hgr (Nat.le_refl _) (fun _ h => by cases h)
    clear hgr
    go_wp2
    go_loopw [0, 6, 13] (fun s' o i wr => ∃ (k : Nat) (t : ByteArray) (acc : List Ent), k ≤ count ∧ s' = .string t ∧ t.size ≤ s.size ∧ i = .int .i64 k ∧ wr.ownsRow w.heap.size 106 3 o acc.length (cellsE acc) ∧ acc.length = k ∧ Below w.heap.size w wr ∧ Hid (entsN count s.data.toList = (entsN (count - k) t.data.toList).map (acc ++ ·))) (fun _ _ i _ => count - (intOf i).toNat)
    case atStart => exact ⟨0, s, [], Nat.zero_le _, rfl, Nat.le_refl _, rfl, hown, rfl, hb1, by simp [Hid]⟩
    case round =>
      obtain ⟨k, t, acc, hk, rfl, hts, rfl, ho, hacc, hb, HE⟩ := hrel
      have hsz := hb.size
      have HACC : Hid (acc.length = k) := hacc
      have hal : acc.length ≤ 255 := by omega
      clear hacc
      by_cases hlt : k < count
      · have hck : count - k = (count - (k + 1)) + 1 := by omega
        go_wp2_with fail
        refine (readEntry_any t _ (by omega)).mono ?_
        rintro e w2 ⟨rfl, hb2⟩
        have how := own_below ho hb2 (Nat.le_refl _)
        have hbw : Below w.heap.size w w2 := hb.trans (hb2.mono hb.size)
        have hsz2 := hbw.size
        rcases entR_at (l := t.data.toList) with ⟨h1, h2⟩ | ⟨en, n, h1, h2⟩
        · have HN : Hid (entsN count s.data.toList = none) := by
            show _ = _
            rw [HE.out, hck, entsN_none h1]; rfl
          rw [h2]
          clear h1 h2 HE hck
          go_wp2
          go_ret2
          exact ⟨_, _, rfl, by rw [HN.out]; exact ⟨rfl, _, _, _, rfl⟩, hbw.alloc hsz2 _⟩
        · have hn := ent1_pos h1
          have HN : Hid (entsN count s.data.toList = (entsN (count - (k + 1)) (S (t.data.toList.drop n)).data.toList).map ((acc ++ [en]) ++ ·)) := by
            show _ = _
            rw [HE.out, hck, entsN_some h1, S_data, Option.map_map]
            congr 1
            funext x
            simp
          have hts2 : (S (t.data.toList.drop n)).size ≤ s.size := by rw [S_size]; simp; omega
          rw [h2]
          clear h1 h2 HE hck hn
          generalize S (t.data.toList.drop n) = t2 at *
          have HO : Hid (w2.ownsRow w.heap.size 106 3 u6 acc.length (cellsE acc)) := how
          have HW : Hid (Below w.heap.size w w2) := hbw
          clear ho how hb hb2 hbw
          go_wp2_with (at_builtin; refine wpList_append_own _ rfl (.tmp 23) (.tmp 25) 160 rfl w.heap.size 106 i0 (.agg #[.bool false, .string ⟨#[]⟩, .string ⟨#[]⟩]) 3 40 Tryz.underlying160 hi hz0 hz1 hz2 rfl (by decide) _ _ _ rfl ((HO.out.alloc _).alloc _) ⟨w2.heap.size + 1, 0, none⟩ 1 1 [.bool en.put, .string (S en.key), .string (S en.val)] rfl rfl ?_ (by simp [Value.oneCell']) (by unfold maxLen; omega) (by omega) (by simp; omega) ?_)
          · have h5 := cells_three_new (w2.alloc (.cells #[.bool en.put, .string (S en.key), .string (S en.val)] 106)) 106 (.bool en.put) (.string (S en.key)) (.string (S en.val))
            rwa [show (w2.alloc (.cells #[.bool en.put, .string (S en.key), .string (S en.val)] 106)).heap.size = w2.heap.size + 1 by simp] at h5
          · intro v' w4 hown' hgrow _
            go_wp2
            go_roundw
            case rel => exact ⟨k + 1, t2, acc ++ [en], by omega, rfl, hts2, by first | rfl | go_num, by rw [cellsE_snoc, List.length_append]; exact hown', by rw [List.length_append, HACC.out]; rfl, ((HW.out.alloc hsz2 _).alloc (by simp; omega) _).grown hgrow (by simp; omega) (own_ge HO.out), HN⟩
            case measure => first | (simp [intOf]; omega) | (simp [intOf])
      · have hke : k = count := by omega
        subst hke
        rw [Nat.sub_self] at HE
        obtain ⟨p, c, rfl⟩ := own_len ho
        by_cases ht : t.size = 0
        · have ht0 : t.data.toList = [] := List.eq_nil_of_length_eq_zero (by simp [ht])
          have HN : Hid (entsN k s.data.toList = some acc) := by
            show _ = _
            rw [HE.out, ht0]; simp [entsN]
          have t1 : (t.toList == []) = true := by rw [ByteArray.toList_eq, ht0]; rfl
          clear HE ht0 ht
          have HO : Hid (wr.ownsRow w.heap.size 106 3 (.slice p acc.length c) acc.length (cellsE acc)) := ho
          clear ho
          go_wp2
          go_ret2
          exact ⟨_, _, rfl, by rw [HN.out]; exact ⟨by simp, HO.out⟩, hb⟩
        · have ht0 : t.data.toList ≠ [] := by
            intro h
            apply ht
            have := congrArg List.length h
            simpa using this
          have HN : Hid (entsN k s.data.toList = none) := by
            show _ = _
            rw [HE.out, entsN, if_neg (by simpa using ht0)]; rfl
          have t1 : (t.toList == []) = false := by
            rw [ByteArray.toList_eq, beq_eq_false_iff_ne]; exact ht0
          clear HE ht0 ht ho
          go_wp2
          go_ret2
          exact ⟨_, _, rfl, by rw [HN.out]; exact ⟨by simp, _, _, _, rfl⟩, hb⟩
end Go.Proofs.YtdhgebdbiehchaaGreatDoor
namespace Go.Proofs.YtdhgebdbiehchaaGreatDoor
open Go.RowKit
set_option linter.unusedSimpArgs false
set_option linter.unusedVariables false

/-- The program's way to a block. -/
def recTail (ok : Bool) (r : Option (List Ent)) (size : Nat) : Option (List Ent × Nat) := match r with
  | none => none
  | some es => if ok = true then some (es, 7 + size) else none
theorem blockP_rec (log : List UInt8) (a : Nat) (blk : Int) (h14 : 14 ≤ a) (h3 : a + 3 ≤ log.length) : blockP log a blk = if (log.getD a 0).toNat = 0 ∨ (1 < (log.getD a 0).toNat ∧ blk < blkSize log a) ∨ log.length < a + 7 + blkSize log a then none else recTail (sealedB ((log.drop a).take (7 + blkSize log a))) (entsN (log.getD a 0).toNat ((log.drop (a + 3)).take (blkSize log a))) (blkSize log a) := by
  unfold blockP
  by_cases h1 : log.length < a + 7
  · rw [if_pos (.inr h1), if_pos (.inr (.inr (by omega)))]
  · rw [if_neg (by omega)]
    by_cases h2 : log.length < a + 7 + blkSize log a
    · rw [if_pos h2, if_pos (.inr (.inr h2))]
    · rw [if_neg h2]
      generalize (log.getD a 0).toNat = c
      generalize blkSize log a = z at *
      generalize sealedB ((log.drop a).take (7 + z)) = ok
      generalize (log.drop (a + 3)).take z = l
      by_cases hc : c = 0 ∨ (1 < c ∧ blk < z)
      · rw [if_pos (by rcases hc with h | h; exact .inl h; exact .inr (.inl h))]
        unfold blkTail
        split
        · rename_i es _
          rw [if_pos]
          by_cases he : es.length = c
          · rcases hc with h | h
            · exact .inl (by omega)
            · exact .inr (.inr (by omega))
          · exact .inr (.inl he)
        · rfl
      · rw [if_neg (by rintro (h | h | h); exact hc (.inl h); exact hc (.inr h); exact h2 h)]
        cases hN : entsN c l with
        | none =>
          unfold blkTail recTail
          split
          · rename_i es hes
            rw [if_pos]
            by_cases he : es.length = c
            · rw [(entsN_iff c l es).2 ⟨hes, he⟩] at hN; cases hN
            · exact .inr (.inl he)
          · rfl
        | some es =>
          obtain ⟨h4, h5⟩ := (entsN_iff c l es).1 hN
          rw [h4]
          unfold blkTail recTail
          cases ok
          · rfl
          · simp only [if_true]
            rw [if_neg (by omega)]

/-- What ReadBlock answers. -/
def RBlockIs (w : World) (base : Nat) (v : Value) (n : Int) (r : Option (List Ent × Nat)) : Prop :=
  match r with
  | none => v = .slice none 0 0 ∧ n = 0
  | some (es, k) => n = k ∧ w.ownsRow base 106 3 v es.length (cellsE es)

/-- The head's box and the result's. -/
def BlkBoxes (w : World) (blk : Int) (W : World) : Prop := (W.cell? ⟨w.heap.size, 0, none⟩ = some (.int .i64 blk) ∧ W.cell? ⟨w.heap.size + 1, 0, none⟩ = some (.slice none 0 0) ∧ W.cell? ⟨w.heap.size + 1, 1, none⟩ = some (.int .i64 0)) ∧ (∀ i, W.frozen? ⟨w.heap.size + 1, i, none⟩ = false) ∧ Below w.heap.size w W ∧ w.heap.size + 1 < W.heap.size
theorem BlkBoxes.below {w W W' : World} {blk : Int} (h : BlkBoxes w blk W) (hb : Below W.heap.size W W') : BlkBoxes w blk W' := by
  obtain ⟨⟨h0, h1, h2⟩, hf, hB, hz⟩ := h
  have hz0 : w.heap.size < W.heap.size := by omega
  exact ⟨⟨(hb.cell (p := ⟨w.heap.size, 0, none⟩) hz0).trans h0, (hb.cell (p := ⟨w.heap.size + 1, 0, none⟩) hz).trans h1, (hb.cell (p := ⟨w.heap.size + 1, 1, none⟩) hz).trans h2⟩, fun i => (hb.frozen (p := ⟨w.heap.size + 1, i, none⟩) hz).trans (hf i), hB.trans (hb.mono hB.size), Nat.lt_of_lt_of_le hz hb.size⟩
theorem blkBoxes_new (w : World) (blk seed bits : Int) : BlkBoxes w blk ((w.alloc (.cells #[.int .i64 blk, .int .i64 seed, .int .i64 bits] 29)).alloc (.cells #[.slice none 0 0, .int .i64 0] 162)) := by
  have hA := (Below.refl (w.heap.size + 1) (w.alloc (.cells #[.int .i64 blk, .int .i64 seed, .int .i64 bits] 29))).alloc (by simp) (.cells #[.slice none 0 0, .int .i64 0] 162)
  have hz : (w.alloc (.cells #[.int .i64 blk, .int .i64 seed, .int .i64 bits] 29)).heap.size = w.heap.size + 1 := by simp
  refine ⟨⟨?_, ?_, ?_⟩, fun i => ?_, ((Below.refl _ _).alloc (Nat.le_refl _) _).alloc (by simp) _, by simp⟩
  · rw [hA.cell (p := ⟨w.heap.size, 0, none⟩) (by simp)]; simp
  · rw [← hz]; simp
  · rw [← hz]; simp
  · rw [← hz]; simp

set_option maxRecDepth 100000 in
set_option maxHeartbeats 3200000 in
theorem readBlock_any (log : ByteArray) (a : Nat) (blk seed bits : Int) (w : World) (hlog : log.size ≤ 140737488351232) (ha : a ≤ 4294967296) (hH : HalvesAt w) :
    Calls Tryz.prog 147 #[.string log, .agg #[.int .i64 blk, .int .i64 seed, .int .i64 bits], .int .i64 a] w fun e w' => ∃ v n, e = .returned (.tuple #[.agg #[v, .int .i64 n], .bool (blockP log.data.toList a blk).isSome]) ∧ RBlockIs w' w.heap.size v n (blockP log.data.toList a blk) ∧ Below w.heap.size w w' := by
  have hl : log.data.toList.length = log.size := by simp
  have HH : Hid (HalvesAt w) := hH
  clear hH
  by_cases h1 : a < 14 ∨ log.size < a + 3
  · have HN : Hid (blockP log.data.toList a blk = none) := by
      show _ = _
      rw [blockP, if_pos (by rw [hl]; omega)]
    rcases (show a < 14 ∨ (14 ≤ a ∧ log.size < a + 3) from by omega) with h2 | ⟨h2, h3⟩
    all_goals
      clear h1
      go_enter Tryz.func147, Tryz.ntmps147
      go_wp2
      exact bodyPost_ret (v := .tuple #[.agg #[.slice none 0 0, .int .i64 0], .bool false]) (by simp [results, Tryz.results147, go_sem]) rfl ⟨_, _, by rw [HN.out]; rfl, by rw [HN.out]; exact ⟨rfl, rfl⟩, ((Below.refl _ _).alloc (Nat.le_refl _) _).alloc (by simp) _⟩
  · have h2 : 14 ≤ a ∧ a + 3 ≤ log.size := by omega
    obtain ⟨h2, h3⟩ := h2
    have HP : Hid (blockP log.data.toList a blk = _) := blockP_rec log.data.toList a blk h2 (by omega)
    have hgd : (log.data.toList.getD a 0).toNat = log[a].toNat := by
      rw [List.getD, List.getElem?_eq_getElem (by omega)]; rfl
    have HB : Hid (blkSize log.data.toList a = highL ((log.data.toList.drop (a + 1)).take 2)) := rfl
    have hbs : blkSize log.data.toList a < 65536 := by
      have := highL_lt ((log.data.toList.drop (a + 1)).take 2)
      have h4 := pow256_le (show ((log.data.toList.drop (a + 1)).take 2).length ≤ 2 by simp; omega)
      rw [← HB.out] at this
      omega
    rw [hgd, hl] at HP
    have c0 := idx_run log a (by omega) (a : Int) rfl
    have c1 := cut_run log (a + 1) 2 (by omega) ((a : Int) + 1) ((a : Int) + 3) (by omega) (by omega)
    have hw0 := w64b log[a]
    have hwl := log[a].toNat_lt
    have m1 : IntKind.i64.wrap ((a : Int) + 1) = (a : Int) + 1 := by rw [IntKind.wrap_i64]; omega
    have m3 : IntKind.i64.wrap ((a : Int) + 3) = (a : Int) + 3 := by rw [IntKind.wrap_i64]; omega
    have hwx : IntKind.i64.wrap (log[a].toNat : Int) = (log[a].toNat : Int) := by rw [IntKind.wrap_i64]; omega
    obtain ⟨sl, hsl⟩ : ∃ s, s = S ((log.data.toList.drop (a + 1)).take 2) := ⟨_, rfl⟩
    rw [← hsl] at c1
    have hsz : sl.size ≤ 7 := by rw [hsl, S_size]; simp; omega
    have HLO : Hid (∀ wx : World, Calls Tryz.prog 145 #[.string sl] wx fun e w' => e = .returned (.int .i64 (blkSize log.data.toList a : Nat)) ∧ w' = wx) := fun wx => by
      have := lowRead_any sl wx hsz
      rw [hsl, S_data, ← HB.out] at this
      rw [hsl]; exact this
    clear hsl HB hgd hsz
    generalize blkSize log.data.toList a = z at *
    go_enter Tryz.func147, Tryz.ntmps147
    go_wp2_with fail
    have hBX := blkBoxes_new w blk seed bits
    generalize (w.alloc (.cells #[.int .i64 blk, .int .i64 seed, .int .i64 bits] 29)).alloc (.cells #[.slice none 0 0, .int .i64 0] 162) = W0 at *
    have HBX : Hid (BlkBoxes w blk W0) := hBX
    clear hBX
    go_cut [8, 9] (fun c8 c9 wx => c8 = .int .i64 (log[a].toNat : Int) ∧ c9 = .int .i64 (z : Int) ∧ Below W0.heap.size W0 wx)
    case first =>
      go_region_held3 (fun w' => W0.heap.size ≤ w'.heap.size) (first | (simp; omega) | (simp)) (first | (go_at_call 145; refine (HLO.out _).mono ?_; rintro e w' ⟨rfl, rfl⟩))
      all_goals
        go_wp2_with fail
        go_meet
        refine ⟨by first | rfl | rw [hwx], rfl, ?_⟩
        first | exact (Below.refl _ _).drew | exact Below.refl _ _ | exact below_drewN (Below.refl _ _) _
    case rest =>
      obtain ⟨rfl, rfl, hbc⟩ := hcut
      have HBC : Hid (BlkBoxes w blk wc) := HBX.out.below hbc
      have HHC : Hid (HalvesAt wc) := HH.out.below HBC.out.2.2.1 HH.out.1
      have HBCz : w.heap.size + 1 < wc.heap.size := HBC.out.2.2.2
      clear c0 c1 HLO HBX hbc HH
      by_cases hbad : log[a].toNat = 0 ∨ (1 < log[a].toNat ∧ blk < z) ∨ log.size < a + 7 + z
      · have HN : Hid (blockP log.data.toList a blk = none) := by
          show _ = _
          rw [HP.out, if_pos hbad]
        clear HP
        obtain ⟨⟨d0, r0, r1⟩, rf, hB, hzz⟩ := HBC.out
        have f0 := rf 0
        have f1 := rf 1
        have HB : Hid (Below w.heap.size w wc) := hB
        clear rf hB HHC HBC
        rcases (show log[a].toNat = 0 ∨ (log[a].toNat ≠ 0 ∧ 1 < log[a].toNat ∧ blk < z) ∨ (log[a].toNat ≠ 0 ∧ 1 < log[a].toNat ∧ ¬ blk < z ∧ log.size < a + 7 + z) ∨ (log[a].toNat ≠ 0 ∧ ¬ 1 < log[a].toNat ∧ log.size < a + 7 + z) from by omega) with k1 | ⟨k1, k2, k3⟩ | ⟨k1, k2, k3, k4⟩ | ⟨k1, k2, k4⟩
        all_goals
          clear hbad
          go_wp2
          exact bodyPost_ret (v := .tuple #[.agg #[.slice none 0 0, .int .i64 0], .bool false]) (by simp [results, Tryz.results147, go_sem, r0, r1]) rfl ⟨_, _, by rw [HN.out]; rfl, by rw [HN.out]; exact ⟨rfl, rfl⟩, (HB.out.setCell (Nat.le_succ _) _).setCell (Nat.le_succ _) _⟩
      · have k0 : log[a].toNat ≠ 0 := by omega
        have k1 : ¬ (1 < log[a].toNat ∧ blk < z) := by omega
        have k2 : a + 7 + z ≤ log.size := by omega
        have HQ : Hid (blockP log.data.toList a blk = recTail (sealedB ((log.data.toList.drop a).take (7 + z))) (entsN log[a].toNat ((log.data.toList.drop (a + 3)).take z)) z) := by
          show _ = _
          rw [HP.out, if_neg hbad]
        clear HP hbad
        have c2 := cut_run log (a + 3) z (by omega) ((a : Int) + 3) ((a : Int) + 3 + (z : Int)) (by omega) (by omega)
        have c3 := cut_run log a (7 + z) (by omega) (a : Int) ((a : Int) + 3 + (z : Int) + 4) rfl (by omega)
        have hl2 : ((log.data.toList.drop (a + 3)).take z).length ≤ 100000000 := by simp; omega
        have hl3 : ((log.data.toList.drop a).take (7 + z)).length ≤ 100000000 := by simp; omega
        generalize (log.data.toList.drop (a + 3)).take z = L1 at *
        generalize (log.data.toList.drop a).take (7 + z) = L2 at *
        have hs1 : (S L1).size ≤ 100000000 := by rw [S_size]; exact hl2
        have hs2 : (S L2).size ≤ 9223372036854775807 := by rw [S_size]; omega
        have HRE : Hid (∀ wx : World, Calls Tryz.prog 187 #[.string (S L1), .int .i64 (log[a].toNat : Int)] wx fun e w' => ∃ v ok, e = .returned (.tuple #[v, .bool ok]) ∧ EntsNIs w' wx.heap.size v ok (entsN log[a].toNat L1) ∧ Below wx.heap.size wx w') := fun wx => by
          have := readEntries_any (S L1) log[a].toNat wx hs1 (by omega)
          rwa [S_data] at this
        have HHO : Hid (∀ wx : World, HalvesAt wx → Calls Tryz.prog 144 #[.string (S L2)] wx fun e w' => e = .returned (.bool (sealedB L2)) ∧ Below wx.heap.size wx w') := fun wx hx => by
          have := holds_any (S L2) wx hs2 hx
          rwa [S_data] at this
        clear hs1 hs2 hl2 hl3
        obtain ⟨⟨d0, r0, r1⟩, rf, hB, hzz⟩ := HBC.out
        have t0 : ((log[a].toNat : Int) == 0) = false := by rw [beq_eq_false_iff_ne]; omega
        have t9 : ¬ (log.size : Int) - 4 < (a : Int) + 3 + (z : Int) := by omega
        have t8 : (a : Int) + 3 + (z : Int) ≤ (log.size : Int) - 4 := by omega
        rcases (show (1 < log[a].toNat ∧ ¬ blk < (z : Int)) ∨ ¬ 1 < log[a].toNat from by omega) with ⟨k3, k4⟩ | k3
        all_goals
          clear k1
          go_wp2_with fail
          refine (HRE.out _).mono ?_
          rintro e w2 ⟨v, ok, rfl, hEI, hb2⟩
          have HB2 : Hid (BlkBoxes w blk w2) := HBC.out.below hb2
          have HH2 : Hid (HalvesAt w2) := HHC.out.below hb2 HHC.out.1
          obtain ⟨⟨d0', r0', r1'⟩, rf', hB', hzz'⟩ := HB2.out
          clear d0 r0 r1 rf hB hzz HRE HBC HHC c2
          have f0 := rf' 0
          have f1 := rf' 1
          clear rf'
          generalize entsN log[a].toNat L1 = r at *
          rcases r with _ | es
          · obtain ⟨rfl, pv, nv, cv, rfl⟩ := hEI
            have HN : Hid (blockP log.data.toList a blk = none) := HQ.out
            clear HQ HHO
            go_wp2
            exact bodyPost_ret (v := .tuple #[.agg #[.slice none 0 0, .int .i64 0], .bool false]) (by simp [results, Tryz.results147, go_sem, r0', r1']) rfl ⟨_, _, by rw [HN.out]; rfl, by rw [HN.out]; exact ⟨rfl, rfl⟩, (HB2.out.2.2.1.setCell (Nat.le_succ _) _).setCell (Nat.le_succ _) _⟩
          · obtain ⟨rfl, hrow⟩ := hEI
            obtain ⟨pv, cv, rfl⟩ := own_len hrow
            have HROW : Hid (w2.ownsRow wc.heap.size 106 3 (.slice pv es.length cv) es.length (cellsE es)) := hrow
            clear hrow
            go_wp2_with fail
            refine (HHO.out _ HH2.out).mono ?_
            rintro e w3 ⟨rfl, hb3⟩
            have HB3 : Hid (BlkBoxes w blk w3) := HB2.out.below hb3
            have HROW3 : Hid (w3.ownsRow wc.heap.size 106 3 (.slice pv es.length cv) es.length (cellsE es)) := own_below HROW.out hb3 (Nat.le_refl _)
            clear d0' r0' r1' hB' hzz' HH2 HHO c3 HROW f0 f1
            obtain ⟨⟨d0, r0, r1⟩, rf, hB, hzz⟩ := HB3.out
            have f0 := rf 0
            have f1 := rf 1
            clear rf
            generalize sealedB L2 = ok at *
            cases ok
            · have HN : Hid (blockP log.data.toList a blk = none) := HQ.out
              clear HQ
              go_wp2
              exact bodyPost_ret (v := .tuple #[.agg #[.slice none 0 0, .int .i64 0], .bool false]) (by simp [results, Tryz.results147, go_sem, r0, r1]) rfl ⟨_, _, by rw [HN.out]; rfl, by rw [HN.out]; exact ⟨rfl, rfl⟩, (HB3.out.2.2.1.setCell (Nat.le_succ _) _).setCell (Nat.le_succ _) _⟩
            · have HN : Hid (blockP log.data.toList a blk = some (es, 7 + z)) := HQ.out
              have hwr : IntKind.i64.wrap ((a : Int) + 3 + (z : Int) + 4 - (a : Int)) = 7 + (z : Int) := by rw [IntKind.wrap_i64]; omega
              have hbw : w.heap.size + 1 < wc.heap.size := HBCz
              clear HQ
              go_wp2
              exact bodyPost_ret (v := .tuple #[.agg #[.slice pv es.length cv, .int .i64 (7 + (z : Int))], .bool true]) (by simp [results, Tryz.results147, go_sem, r0, r1]; try omega) rfl ⟨_, _, by rw [HN.out]; rfl, by rw [HN.out]; exact ⟨by simp, own_lower (ownsRow_setCell_below (ownsRow_setCell_below HROW3.out (by exact hbw) _) (by exact hbw) _) (by omega)⟩, (HB3.out.2.2.1.setCell (Nat.le_succ _) _).setCell (Nat.le_succ _) _⟩
end Go.Proofs.YtdhgebdbiehchaaGreatDoor
