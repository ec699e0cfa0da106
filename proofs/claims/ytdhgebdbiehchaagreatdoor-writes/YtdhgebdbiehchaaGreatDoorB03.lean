/- The contract of the document's begins: an index's first bytes, beside a log. The contracts of sums.Low, sums.Check and sums.Holds over a string. The table of the check must read as the program's text lays it. The contracts of the statement's own functions where no disk is made: looks, reads of a Number, step, given, plays. The contract of given: what is asked ahead of each script is answered alike. The contracts of plays, where no disk is made, and of Numbers. A script that comes in, opened: each element of the slice is a step, its ten cells known. -/
import Derived.Test.YtdhgebdbiehchaaGreatDoorB02
import Derived.Laws.BitsAllLaws
import Derived.Test.YtdhgebdbiehchaaGreatDoorB01
import Derived.ProofKit
import Derived.Deep.Slices
import Derived.Deep.Strs
import Derived.SizedLaws
namespace Go.Proofs.YtdhgebdbiehchaaGreatDoor
open Go.RowKit
set_option linter.unusedSimpArgs false
set_option linter.unusedVariables false

/-- What an index's first bytes say. -/
def ixN (l : List UInt8) : Nat := highL ((l.drop 4).take 2)
def ixFar (l : List UInt8) : Nat := highL ((l.drop 6).take 2)
def ixSize (l : List UInt8) : Nat := highL ((l.drop 8).take 4)
def ixSum (l : List UInt8) : Nat := highL ((l.drop 12).take 4)
def sumI (l : List UInt8) : Int := fnv F0 l % 4294967296
/-- The error that they lead to. -/
def beginsE (log ix : List UInt8) : Int :=
  if ix.length < 20 ∨ sealedB (ix.take 20) = false ∨ (ix.take 2 == [73, 88]) = false ∨ ixN ix = 0 ∨ ix.length ≠ 20 + 10 * ixN ix + 4 then 3
  else if ixSize ix ≠ log.length ∨ (ixSum ix : Int) ≠ sumI log then 4
  else if headB log = false then 3
  else 0

/-- What begins answers. -/
def beginsR (log ix : List UInt8) : Value :=
  if beginsE log ix = 0 then .tuple #[.int .i64 (ixN ix), .int .i64 (ixFar ix), .agg #[.int .i64 (hdBlk log), .int .i64 (hdSeed log), .int .i64 (hdBits log)], .int .i64 0]
  else .tuple #[.int .i64 0, .int .i64 0, .agg #[.int .i64 0, .int .i64 0, .int .i64 0], .int .i64 (beginsE log ix)]
theorem beginsR_err {log ix : List UInt8} {n : Int} (h : beginsE log ix = n) (hn : n ≠ 0) : beginsR log ix = .tuple #[.int .i64 0, .int .i64 0, .agg #[.int .i64 0, .int .i64 0, .int .i64 0], .int .i64 n] := by
  rw [beginsR, if_neg (by rw [h]; exact hn), h]
theorem beginsR_ok {log ix : List UInt8} (h : beginsE log ix = 0) : beginsR log ix = .tuple #[.int .i64 (ixN ix), .int .i64 (ixFar ix), .agg #[.int .i64 (hdBlk log), .int .i64 (hdSeed log), .int .i64 (hdBits log)], .int .i64 0] := by
  rw [beginsR, if_pos h]

/-- Two boxes of noughts, the call's own, as begins lays them. -/
def Two (w wx : World) : Prop :=
  ((wx.cell? ⟨w.heap.size, 0, none⟩ = some (.int .i64 0) ∧ wx.cell? ⟨w.heap.size, 1, none⟩ = some (.int .i64 0) ∧ wx.cell? ⟨w.heap.size, 2, none⟩ = some (.int .i64 0)) ∧
  (wx.cell? ⟨w.heap.size + 1, 0, none⟩ = some (.int .i64 0) ∧ wx.cell? ⟨w.heap.size + 1, 1, none⟩ = some (.int .i64 0) ∧ wx.cell? ⟨w.heap.size + 1, 2, none⟩ = some (.int .i64 0)) ∧
  (wx.frozen? ⟨w.heap.size, 0, none⟩ = false ∧ wx.frozen? ⟨w.heap.size, 1, none⟩ = false ∧ wx.frozen? ⟨w.heap.size, 2, none⟩ = false)) ∧ Below w.heap.size w wx ∧ w.heap.size + 1 < wx.heap.size
theorem Two.below {w wx wy : World} (h : Two w wx) (hb : Below wx.heap.size wx wy) : Two w wy := by
  obtain ⟨⟨⟨a0, a1, a2⟩, ⟨b0, b1, b2⟩, c0, c1, c2⟩, h1, h2⟩ := h
  have f : ∀ b i v, b < wx.heap.size → wx.cell? ⟨b, i, none⟩ = some v → wy.cell? ⟨b, i, none⟩ = some v := fun b i v hl hv => (hb.cell (p := ⟨b, i, none⟩) hl).trans hv
  have g : ∀ i, wx.frozen? ⟨w.heap.size, i, none⟩ = false → wy.frozen? ⟨w.heap.size, i, none⟩ = false := fun i hv => (hb.frozen (p := ⟨w.heap.size, i, none⟩) (by show w.heap.size < _; omega)).trans hv
  exact ⟨⟨⟨f _ _ _ (by omega) a0, f _ _ _ (by omega) a1, f _ _ _ (by omega) a2⟩, ⟨f _ _ _ h2 b0, f _ _ _ h2 b1, f _ _ _ h2 b2⟩, g _ c0, g _ c1, g _ c2⟩, h1.trans (hb.mono (by omega)), Nat.lt_of_lt_of_le h2 hb.size⟩

set_option maxRecDepth 100000 in
set_option maxHeartbeats 3200000 in
theorem begins_short (log ix : ByteArray) (w : World) (h : ix.size < 20) :
    Calls Tryz.prog 168 #[.string log, .string ix] w fun e w' => e = .returned (.tuple #[.int .i64 0, .int .i64 0, .agg #[.int .i64 0, .int .i64 0, .int .i64 0], .int .i64 3]) ∧ Below w.heap.size w w' := by
  go_enter Tryz.func168, Tryz.ntmps168
  go_wp2
  go_region
  go_wp2
  refine bodyPost_ret (v := .tuple #[.int .i64 0, .int .i64 0, .agg #[.int .i64 0, .int .i64 0, .int .i64 0], .int .i64 3]) (by simp [results, Tryz.results168, go_sem]) rfl ⟨rfl, ?_⟩
  exact (((Below.refl _ _).alloc (Nat.le_refl _) _).alloc (by simp) _).drew

set_option maxRecDepth 100000 in
set_option maxHeartbeats 3200000 in
theorem begins_form (log ix : ByteArray) (w : World) (hs : ix.size ≤ 140737488351232) (h20 : 20 ≤ ix.size) (h : sealedB (ix.data.toList.take 20) = false ∨ (ix.data.toList.take 2 == [73, 88]) = false ∨ ixN ix.data.toList = 0 ∨ ix.size ≠ 20 + 10 * ixN ix.data.toList + 4) :
    Calls Tryz.prog 168 #[.string log, .string ix] w fun e w' => e = .returned (.tuple #[.int .i64 0, .int .i64 0, .agg #[.int .i64 0, .int .i64 0, .int .i64 0], .int .i64 3]) ∧ Below w.heap.size w w' := by
  have E1 : Hid ((ix.extract 4 6).data.toList = (ix.data.toList.drop 4).take 2) := cut_list ix 4 6
  have E0 : Hid ((ix.extract 0 20).data.toList = ix.data.toList.take 20) := by show _ = _; rw [cut_list, List.drop_zero]
  have E2 : Hid ((ix.extract 0 2).toList = ix.data.toList.take 2) := by show _ = _; rw [ByteArray.toList_eq, cut_list, List.drop_zero]
  have z1 : (ix.extract 4 6).size = 2 := by simp; omega
  go_enter Tryz.func168, Tryz.ntmps168
  go_wp2_with fail
  refine (refSealed_any _ _ (by simp; omega)).mono ?_
  rintro e w1 ⟨rfl, hb1⟩
  rw [E0.out]
  have hT : Two w w1 := by
    refine Two.below (wx := (w.alloc (.cells #[.int .i64 0, .int .i64 0, .int .i64 0] 29)).alloc (.cells #[.int .i64 0, .int .i64 0, .int .i64 0] 29)) ⟨⟨⟨by simp, by simp, by simp⟩, ⟨by simp, by simp, by simp⟩, by simp, by simp, by simp⟩, ((Below.refl _ _).alloc (Nat.le_refl _) _).alloc (by simp) _, by simp⟩ ?_
    exact hb1
  clear hb1
  go_wp2_with fail
  refine (high_any _ _ (by omega)).mono ?_
  rintro e w2 ⟨rfl, rfl⟩
  rw [E1.out]
  have HN : Hid (ixN ix.data.toList = highL ((ix.data.toList.drop 4).take 2)) := rfl
  rw [← HN.out]
  have hnb : ixN ix.data.toList < 65536 := by
    rw [HN.out]
    have := highL_lt ((ix.data.toList.drop 4).take 2)
    have h4 := pow256_le (show ((ix.data.toList.drop 4).take 2).length ≤ 2 by simp; omega)
    omega
  have hx2 : ((ix.extract 0 2).toList == [73, 88]) = (ix.data.toList.take 2 == [73, 88]) := by rw [E2.out]
  have hx3 : ((ix.extract 0 2).toList != [73, 88]) = !(ix.data.toList.take 2 == [73, 88]) := by rw [E2.out]; rfl
  clear z1 E0 E1 E2
  generalize sealedB (ix.data.toList.take 20) = b1 at *
  generalize (ix.data.toList.take 2 == [73, 88]) = b2 at *
  generalize ixN ix.data.toList = n at *
  clear HN
  obtain ⟨⟨⟨a0, a1, a2⟩, ⟨d0, d1, d2⟩, f0, f1, f2⟩, hB, hZ⟩ := hT
  rcases (show b1 = false ∨ (b1 = true ∧ b2 = false) ∨ (b1 = true ∧ b2 = true ∧ n = 0) ∨ (b1 = true ∧ b2 = true ∧ n ≠ 0 ∧ ix.size ≠ 20 + 10 * n + 4) from by
    cases b1 <;> cases b2 <;> simp at h ⊢
    by_cases hn : n = 0
    · exact .inl hn
    · exact .inr ⟨hn, h.resolve_left hn⟩) with h | ⟨h1, h2⟩ | ⟨h1, h2, h3⟩ | ⟨h1, h2, h3, h4⟩
  · subst h
    go_wp2
    go_region
    go_wp2
    refine bodyPost_ret (v := .tuple #[.int .i64 0, .int .i64 0, .agg #[.int .i64 0, .int .i64 0, .int .i64 0], .int .i64 3]) (by simp [results, Tryz.results168, go_sem, a0, a1, a2]) rfl ⟨rfl, ?_⟩
    exact (((hB.setCell (Nat.le_refl _) _).setCell (Nat.le_refl _) _).setCell (Nat.le_refl _) _).drew
  · subst h1 h2
    go_wp2
    go_region
    go_wp2
    refine bodyPost_ret (v := .tuple #[.int .i64 0, .int .i64 0, .agg #[.int .i64 0, .int .i64 0, .int .i64 0], .int .i64 3]) (by simp [results, Tryz.results168, go_sem, a0, a1, a2]) rfl ⟨rfl, ?_⟩
    exact (((hB.setCell (Nat.le_refl _) _).setCell (Nat.le_refl _) _).setCell (Nat.le_refl _) _).drew
  · subst h1 h2 h3
    go_wp2
    go_region
    go_wp2
    refine bodyPost_ret (v := .tuple #[.int .i64 0, .int .i64 0, .agg #[.int .i64 0, .int .i64 0, .int .i64 0], .int .i64 3]) (by simp [results, Tryz.results168, go_sem, a0, a1, a2]) rfl ⟨rfl, ?_⟩
    exact (((hB.setCell (Nat.le_refl _) _).setCell (Nat.le_refl _) _).setCell (Nat.le_refl _) _).drew
  · subst h1 h2
    have t1 : ((n : Int) == 0) = false := by rw [beq_eq_false_iff_ne]; omega
    have t2 : ((ix.size : Int) != 20 + 10 * (n : Int) + 4) = true := by rw [bne_iff_ne]; omega
    clear h3 h4 h
    go_wp2
    go_region
    go_wp2
    refine bodyPost_ret (v := .tuple #[.int .i64 0, .int .i64 0, .agg #[.int .i64 0, .int .i64 0, .int .i64 0], .int .i64 3]) (by simp [results, Tryz.results168, go_sem, a0, a1, a2]) rfl ⟨rfl, ?_⟩
    exact (((hB.setCell (Nat.le_refl _) _).setCell (Nat.le_refl _) _).setCell (Nat.le_refl _) _).drew
theorem alloc_at3 (X : World) (a b c : Value) (t : TypeId) {n : Nat} (h : n = X.heap.size) : ((X.alloc (.cells #[a, b, c] t)).drew).cell? ⟨n, 0, none⟩ = some a ∧ ((X.alloc (.cells #[a, b, c] t)).drew).cell? ⟨n, 1, none⟩ = some b ∧ ((X.alloc (.cells #[a, b, c] t)).drew).cell? ⟨n, 2, none⟩ = some c := by
  subst h
  exact ⟨by simp, by simp, by simp⟩
theorem highL4 (l : List UInt8) (h : l.length ≤ 4) : highL l < 4294967296 := by
  have := highL_lt l
  have h4 := pow256_le h
  omega

set_option maxRecDepth 100000 in
set_option maxHeartbeats 3200000 in
theorem begins_rest (log ix : ByteArray) (w : World) (hlog : log.size ≤ 140737488351232) (hs : ix.size ≤ 140737488351232) (h20 : 20 ≤ ix.size) (s1 : sealedB (ix.data.toList.take 20) = true) (s2 : (ix.data.toList.take 2 == [73, 88]) = true) (s3 : ixN ix.data.toList ≠ 0) (s4 : ix.size = 20 + 10 * ixN ix.data.toList + 4) :
    Calls Tryz.prog 168 #[.string log, .string ix] w fun e w' => e = .returned (beginsR log.data.toList ix.data.toList) ∧ Below w.heap.size w w' := by
  have E1 : Hid ((ix.extract 4 6).data.toList = (ix.data.toList.drop 4).take 2) := cut_list ix 4 6
  have E3 : Hid ((ix.extract 8 12).data.toList = (ix.data.toList.drop 8).take 4) := cut_list ix 8 12
  have E4 : Hid ((ix.extract 12 16).data.toList = (ix.data.toList.drop 12).take 4) := cut_list ix 12 16
  have E5 : Hid ((ix.extract 6 8).data.toList = (ix.data.toList.drop 6).take 2) := cut_list ix 6 8
  have E0 : Hid ((ix.extract 0 20).data.toList = ix.data.toList.take 20) := by show _ = _; rw [cut_list, List.drop_zero]
  have E2 : Hid ((ix.extract 0 2).toList = ix.data.toList.take 2) := by show _ = _; rw [ByteArray.toList_eq, cut_list, List.drop_zero]
  have z1 : (ix.extract 4 6).size = 2 := by simp; omega
  have z3 : (ix.extract 8 12).size = 4 := by simp; omega
  have z4 : (ix.extract 12 16).size = 4 := by simp; omega
  have z5 : (ix.extract 6 8).size = 2 := by simp; omega
  have S1 : Hid (sealedB (ix.data.toList.take 20) = true) := s1
  clear s1
  go_enter Tryz.func168, Tryz.ntmps168
  go_wp2_with fail
  refine (refSealed_any _ _ (by simp; omega)).mono ?_
  rintro e w1 ⟨rfl, hb1⟩
  rw [E0.out, S1.out]
  have hT : Two w w1 := by
    refine Two.below (wx := (w.alloc (.cells #[.int .i64 0, .int .i64 0, .int .i64 0] 29)).alloc (.cells #[.int .i64 0, .int .i64 0, .int .i64 0] 29)) ⟨⟨⟨by simp, by simp, by simp⟩, ⟨by simp, by simp, by simp⟩, by simp, by simp, by simp⟩, ((Below.refl _ _).alloc (Nat.le_refl _) _).alloc (by simp) _, by simp⟩ ?_
    exact hb1
  clear hb1
  go_wp2_with fail
  refine (high_any _ _ (by omega)).mono ?_
  rintro e w2 ⟨rfl, rfl⟩
  rw [E1.out]
  have HN : Hid (ixN ix.data.toList = highL ((ix.data.toList.drop 4).take 2)) := rfl
  rw [← HN.out]
  have hnb : ixN ix.data.toList < 65536 := by
    rw [HN.out]
    have := highL_lt ((ix.data.toList.drop 4).take 2)
    have h4 := pow256_le (show ((ix.data.toList.drop 4).take 2).length ≤ 2 by simp; omega)
    omega
  have hx2 : ((ix.extract 0 2).toList == [73, 88]) = true := by rw [E2.out]; exact s2
  have hx3 : ((ix.extract 0 2).toList != [73, 88]) = false := by rw [E2.out]; simp only [bne, s2]; rfl
  have t1 : ((ixN ix.data.toList : Int) == 0) = false := by rw [beq_eq_false_iff_ne]; omega
  have t2 : ((ix.size : Int) != 20 + 10 * (ixN ix.data.toList : Int) + 4) = false := by rw [bne_eq_false_iff_eq]; omega
  have HF : Hid (¬ (ix.data.toList.length < 20 ∨ sealedB (ix.data.toList.take 20) = false ∨ (ix.data.toList.take 2 == [73, 88]) = false ∨ ixN ix.data.toList = 0 ∨ ix.data.toList.length ≠ 20 + 10 * ixN ix.data.toList + 4)) := by
    have hl : ix.data.toList.length = ix.size := by simp
    rintro (h | h | h | h | h)
    · omega
    · rw [S1.out] at h; cases h
    · rw [s2] at h; cases h
    · exact s3 h
    · omega
  have hll : log.data.toList.length = log.size := by simp
  have HL : Hid (log.data.toList.length = log.size) := hll
  clear z1 E0 E1 E2 s2 s4 HN S1 s3 hll
  go_wp2_with fail
  refine (high_any _ _ (by omega)).mono ?_
  rintro e w2 ⟨rfl, rfl⟩
  rw [E3.out]
  have H3 : Hid (ixSize ix.data.toList = highL ((ix.data.toList.drop 8).take 4)) := rfl
  rw [← H3.out]
  have hsb : ixSize ix.data.toList < 4294967296 := highL4 _ (by simp; omega)
  by_cases k1 : ixSize ix.data.toList ≠ log.size
  · have t3 : ((ixSize ix.data.toList : Int) != (log.size : Int)) = true := by rw [bne_iff_ne]; omega
    have HI : Hid (beginsR log.data.toList ix.data.toList = .tuple #[.int .i64 0, .int .i64 0, .agg #[.int .i64 0, .int .i64 0, .int .i64 0], .int .i64 4]) := beginsR_err (by rw [beginsE, if_neg HF.out, if_pos (Or.inl (by rw [HL.out]; exact k1))]) (by decide)
    clear k1
    obtain ⟨⟨⟨a0, a1, a2⟩, ⟨d0, d1, d2⟩, f0, f1, f2⟩, hB, hZ⟩ := hT
    go_wp2
    go_region
    go_wp2
    refine bodyPost_ret (v := .tuple #[.int .i64 0, .int .i64 0, .agg #[.int .i64 0, .int .i64 0, .int .i64 0], .int .i64 4]) (by simp [results, Tryz.results168, go_sem, a0, a1, a2]) rfl ⟨by rw [HI.out], ?_⟩
    exact (((hB.setCell (Nat.le_refl _) _).setCell (Nat.le_refl _) _).setCell (Nat.le_refl _) _).drew
  · have k1' : ixSize ix.data.toList = log.size := by omega
    have t3 : ((ixSize ix.data.toList : Int) != (log.size : Int)) = false := by rw [bne_eq_false_iff_eq]; omega
    have HI : Hid (ixSize ix.data.toList = log.size) := k1'
    clear k1 k1' H3
    go_wp2_with fail
    refine (high_any _ _ (by omega)).mono ?_
    rintro e w2 ⟨rfl, rfl⟩
    rw [E4.out]
    have H4 : Hid (ixSum ix.data.toList = highL ((ix.data.toList.drop 12).take 4)) := rfl
    rw [← H4.out]
    have hsb' : ixSum ix.data.toList < 4294967296 := highL4 _ (by simp; omega)
    go_wp2_with fail
    refine (sum_any log _ (by omega)).mono ?_
    rintro e w2 ⟨rfl, rfl⟩
    have H5 : Hid (sumI log.data.toList = fnv F0 log.data.toList % 4294967296) := rfl
    rw [← H5.out]
    by_cases k2 : (ixSum ix.data.toList : Int) ≠ sumI log.data.toList
    · have t4 : ((ixSum ix.data.toList : Int) != sumI log.data.toList) = true := by rw [bne_iff_ne]; exact k2
      have HJ : Hid (beginsR log.data.toList ix.data.toList = .tuple #[.int .i64 0, .int .i64 0, .agg #[.int .i64 0, .int .i64 0, .int .i64 0], .int .i64 4]) := beginsR_err (by rw [beginsE, if_neg HF.out, if_pos (Or.inr k2)]) (by decide)
      clear k2
      obtain ⟨⟨⟨a0, a1, a2⟩, ⟨d0, d1, d2⟩, f0, f1, f2⟩, hB, hZ⟩ := hT
      go_wp2
      go_region
      go_wp2
      refine bodyPost_ret (v := .tuple #[.int .i64 0, .int .i64 0, .agg #[.int .i64 0, .int .i64 0, .int .i64 0], .int .i64 4]) (by simp [results, Tryz.results168, go_sem, a0, a1, a2]) rfl ⟨by rw [HJ.out], ?_⟩
      exact (((hB.setCell (Nat.le_refl _) _).setCell (Nat.le_refl _) _).setCell (Nat.le_refl _) _).drew
    · have t4 : ((ixSum ix.data.toList : Int) != sumI log.data.toList) = false := by rw [bne_eq_false_iff_eq]; exact Decidable.of_not_not k2
      have HJ : Hid (¬ (ixSize ix.data.toList ≠ log.data.toList.length ∨ (ixSum ix.data.toList : Int) ≠ sumI log.data.toList)) := by
        rintro (h | h)
        · exact h (by rw [HL.out]; exact HI.out)
        · exact k2 h
      clear k2 HI H4 H5
      by_cases hh : headB log.data.toList = true
      · have h14 : 14 ≤ log.size := by
          have : 14 ≤ log.data.toList.length := by
            simp only [headB, Bool.and_eq_true, decide_eq_true_eq] at hh
            exact hh.1.1.1
          simpa using this
        go_wp2_with fail
        refine (refhead_long log _ h14 hlog).mono ?_
        rintro e w3 ⟨rfl, hb3⟩
        rw [hh]
        have hT3 := hT.below hb3
        obtain ⟨⟨⟨a0, a1, a2⟩, ⟨d0, d1, d2⟩, f0, f1, f2⟩, hB, hZ⟩ := hT3
        have HH : Hid (beginsR log.data.toList ix.data.toList = _) := beginsR_ok (by rw [beginsE, if_neg HF.out, if_neg HJ.out, if_neg (by rw [hh]; decide)])
        clear hh hT
        have hne1 : ¬ w.heap.size = w3.heap.size := by omega
        have hlt1 : w.heap.size < w3.heap.size := by omega
        have i8 : (8 : Int) ≤ (ix.size : Int) := by omega
        go_wp2_with fail
        go_region_held3 (fun w' => w'.cell? ⟨w3.heap.size, 0, none⟩ = some (.int .i64 (hdBlk log.data.toList)) ∧ w'.cell? ⟨w3.heap.size, 1, none⟩ = some (.int .i64 (hdSeed log.data.toList)) ∧ w'.cell? ⟨w3.heap.size, 2, none⟩ = some (.int .i64 (hdBits log.data.toList))) (first | (exact alloc_at3 _ _ _ _ _ (by simp)) | (simp)) (first | (go_at_call 169; refine (high_any _ _ (by omega)).mono ?_; rintro e w' ⟨rfl, rfl⟩))
        all_goals
          go_wp2
          refine bodyPost_ret (v := .tuple #[.int .i64 (ixN ix.data.toList), .int .i64 (ixFar ix.data.toList), .agg #[.int .i64 (hdBlk log.data.toList), .int .i64 (hdSeed log.data.toList), .int .i64 (hdBits log.data.toList)], .int .i64 0]) ?_ rfl ⟨by rw [HH.out], ?_⟩
          · rw [ixFar, ← E5.out]
            simp [results, Tryz.results168, go_sem, a0, a1, a2, hne1, hlt1]
          · exact ((((hB.setCell (Nat.le_refl _) _).setCell (Nat.le_refl _) _).setCell (Nat.le_refl _) _).alloc (by simp; omega) _).drew
      · have hf : headB log.data.toList = false := by simpa using hh
        have HH : Hid (beginsR log.data.toList ix.data.toList = .tuple #[.int .i64 0, .int .i64 0, .agg #[.int .i64 0, .int .i64 0, .int .i64 0], .int .i64 3]) := beginsR_err (by rw [beginsE, if_neg HF.out, if_neg HJ.out, if_pos hf]) (by decide)
        have hcall : ∃ a b c, Calls Tryz.prog 196 #[.string log] w2 fun e w' => e = .returned (.tuple #[.agg #[.int .i64 a, .int .i64 b, .int .i64 c], .bool false]) ∧ Below w2.heap.size w2 w' := by
          by_cases h14 : 14 ≤ log.size
          · have := refhead_long log w2 h14 hlog
            rw [hf] at this
            exact ⟨_, _, _, this⟩
          · exact ⟨_, _, _, refhead_short log w2 (by omega)⟩
        obtain ⟨x0, x1, x2, hc⟩ := hcall
        have HC : Hid _ := hc
        clear hc hh hf
        go_wp2_with fail
        refine Calls.mono HC.out ?_
        rintro e w3 ⟨rfl, hb3⟩
        have hT3 := hT.below hb3
        obtain ⟨⟨⟨a0, a1, a2⟩, ⟨d0, d1, d2⟩, f0, f1, f2⟩, hB, hZ⟩ := hT3
        clear hT HC
        have hne1 : ¬ w.heap.size = w3.heap.size := by omega
        have hne2 : ¬ w.heap.size + 1 = w3.heap.size := by omega
        have hlt1 : w.heap.size < w3.heap.size := by omega
        go_wp2
        go_region
        go_wp2
        refine bodyPost_ret (v := .tuple #[.int .i64 0, .int .i64 0, .agg #[.int .i64 0, .int .i64 0, .int .i64 0], .int .i64 3]) (by simp [results, Tryz.results168, go_sem, a0, a1, a2, hne1, hlt1]) rfl ⟨by rw [HH.out], ?_⟩
        exact ((((hB.setCell (Nat.le_refl _) _).setCell (Nat.le_refl _) _).setCell (Nat.le_refl _) _).alloc (by simp; omega) _).drew
theorem begins_any (log ix : ByteArray) (w : World) (hlog : log.size ≤ 140737488351232) (hs : ix.size ≤ 140737488351232) :
    Calls Tryz.prog 168 #[.string log, .string ix] w fun e w' => e = .returned (beginsR log.data.toList ix.data.toList) ∧ Below w.heap.size w w' := by
  have hl : ix.data.toList.length = ix.size := by simp
  by_cases h20 : ix.size < 20
  · rw [beginsR_err (n := 3) (by rw [beginsE, if_pos (Or.inl (by omega))]) (by decide)]
    exact begins_short log ix w h20
  · by_cases h : sealedB (ix.data.toList.take 20) = false ∨ (ix.data.toList.take 2 == [73, 88]) = false ∨ ixN ix.data.toList = 0 ∨ ix.size ≠ 20 + 10 * ixN ix.data.toList + 4
    · rw [beginsR_err (n := 3) (by rw [beginsE, hl, if_pos (Or.inr h)]) (by decide)]
      exact begins_form log ix w hs (by omega) h
    · simp only [not_or] at h
      obtain ⟨h1, h2, h3, h4⟩ := h
      exact begins_rest log ix w hlog hs (by omega) (by simpa using h1) (by simpa using h2) h3 (by omega)

end Go.Proofs.YtdhgebdbiehchaaGreatDoor
namespace Go.Proofs.YtdhgebdbiehchaaGreatDoor
open Go.RowKit
set_option linter.unusedSimpArgs false
set_option linter.unusedVariables false

/-- The table, where it lies. -/
def HalvesAt (w : World) : Prop := 6 < w.heap.size ∧ ∀ i, i < 16 → w.cell? ⟨6, i, none⟩ = some (.int .u32 (halvesL.getD i 0 : Nat))
theorem HalvesAt.below {w w' : World} {n : Nat} (h : HalvesAt w) (hb : Below n w w') (hn : 6 < n) : HalvesAt w' :=
  ⟨Nat.lt_of_lt_of_le h.1 hb.size, fun i hi => (hb.cell (p := ⟨6, i, none⟩) hn).trans (h.2 i hi)⟩

theorem or_shift (x j : Nat) (b : Nat) (hx : x < 256 ^ j) : x ||| b * 2 ^ (8 * j) = x + b * 256 ^ j := by
  have e : (256 : Nat) ^ j = 2 ^ (8 * j) := by rw [Nat.pow_mul]
  rw [e] at hx ⊢
  have := Nat.two_pow_add_eq_or_of_lt hx b
  rw [Nat.or_comm, Nat.mul_comm b, ← this, Nat.add_comm]
theorem i64_or_nat (a b : Nat) (ha : a < 9223372036854775808) (hb : b < 9223372036854775808) : bits .or .i64 (a : Int) (b : Int) = ((a ||| b : Nat) : Int) := by
  have hx : a ||| b < 2 ^ 63 := Nat.or_lt_two_pow (by omega) (by omega)
  show IntKind.i64.wrap ((BitVec.ofInt 64 (a : Int) ||| BitVec.ofInt 64 (b : Int)).toNat : Int) = _
  rw [BitVec.toNat_or, ofInt_64 a ha, ofInt_64 b hb, IntKind.wrap_i64]
  omega
theorem highL_snoc (l : List UInt8) (b : UInt8) : highL (l ++ [b]) = highL l + b.toNat * 256 ^ l.length := by
  induction l with
  | nil => simp [highL]
  | cons c l ih =>
    show c.toNat + 256 * highL (l ++ [b]) = c.toNat + 256 * highL l + b.toNat * 256 ^ (l.length + 1)
    rw [ih, Nat.mul_add, Nat.pow_succ, ← Nat.add_assoc]
    congr 1
    rw [← Nat.mul_assoc, Nat.mul_comm 256, Nat.mul_assoc, Nat.mul_comm 256]

set_option maxHeartbeats 800000 in
theorem lowRead_any (s : ByteArray) (w : World) (hs : s.size ≤ 7) :
    Calls Tryz.prog 145 #[.string s] w fun e w' => e = .returned (.int .i64 (highL s.data.toList : Nat)) ∧ w' = w := by
  have hl : s.data.toList.length = s.size := by simp
  go_enter Tryz.func145, Tryz.ntmps145
  go_wp2
  go_loop [3, 7] (fun n i => ∃ (k : Nat), k ≤ s.size ∧ i = .int .i64 k ∧ n = .int .i64 (highL (s.data.toList.take k) : Nat)) (fun _ i => s.size - (intOf i).toNat)
  case atStart => exact ⟨0, Nat.zero_le _, rfl, rfl⟩
  case round =>
    obtain ⟨k, hk, rfl, rfl⟩ := hrel
    by_cases hlt : k < s.size
    · have hlk : (s.data.toList.take k).length = k := by simp; omega
      have HS : Hid (highL (s.data.toList.take (k + 1)) = highL (s.data.toList.take k) ||| s[k].toNat * 2 ^ (8 * k)) := by
        show _ = _
        rw [take_snocS s k hlt, highL_snoc, hlk, or_shift _ _ _ (by have := highL_lt (s.data.toList.take k); rw [hlk] at this; exact this)]
      have hb : highL (s.data.toList.take k) < 281474976710656 := by
        refine Nat.lt_of_lt_of_le (highL_lt _) ?_
        have := pow256_le (show (s.data.toList.take k).length ≤ 6 by omega)
        omega
      have hp : 2 ^ (8 * k) ≤ 281474976710656 := by
        have : 2 ^ (8 * k) ≤ 2 ^ 48 := Nat.pow_le_pow_right (by omega) (by omega)
        omega
      have hc := s[k].toNat_lt
      have hmul : s[k].toNat * 2 ^ (8 * k) ≤ 255 * 281474976710656 := Nat.mul_le_mul (by omega) hp
      have ho := i64_or_nat (highL (s.data.toList.take k)) (s[k].toNat * 2 ^ (8 * k)) (by omega) (by omega)
      have hw := w64b s[k]
      have h8 : (0 : Int) ≤ 8 * (k : Int) := by omega
      have h9 : 8 * (k : Int) ≤ 64 := by omega
      generalize highL (s.data.toList.take k) = x at *
      have hm : wrap64 ((s[k].toNat : Int) * 2 ^ (8 * k)) = ((s[k].toNat * 2 ^ (8 * k) : Nat) : Int) := by
        have : ((s[k].toNat * 2 ^ (8 * k) : Nat) : Int) = (s[k].toNat : Int) * 2 ^ (8 * k) := by simp
        rw [← this]
        simp only [wrap64]; omega
      have HM : Hid _ := hm
      have HO : Hid _ := ho
      clear hm ho hmul hp
      go_wp2
      go_round
      case rel => exact ⟨k + 1, by omega, by go_num, by rw [HM.out, HO.out, HS.out]⟩
      case measure => simp [intOf]; omega
    · have HS : Hid (highL (s.data.toList.take k) = highL s.data.toList) := by
        show _ = _
        rw [List.take_of_length_le (by omega)]
      generalize highL (s.data.toList.take k) = x at *
      go_wp2
      go_ret
      exact ⟨ret_int (by rw [HS.out]), rfl⟩

theorem and_15 {y : Nat} (h : y < 4294967296) : bits .and .u32 (y : Int) 15 = ((y % 16 : Nat) : Int) := by
  have := u32_and_nat y 15 h (by omega)
  rw [show ((15 : Nat) : Int) = 15 from rfl] at this
  rw [this]
  congr 1
  exact Nat.and_two_pow_sub_one_eq_mod y 4
theorem nib_xor {y : Nat} (h : y < 4294967296) : bits .xor .u32 ((y : Int) / 16) (halvesL.getD (y % 16) 0 : Nat) = (nibStep y : Nat) := by
  have e : (y : Int) / 16 = ((y / 16 : Nat) : Int) := by omega
  rw [e, u32_xor_nat _ _ (by omega) (halves_lt _ (by omega))]
  rfl

set_option maxRecDepth 100000 in
set_option maxHeartbeats 1600000 in
theorem check_any (s : ByteArray) (w : World) (hs : s.size ≤ 9223372036854775807) (hH : HalvesAt w) :
    Calls Tryz.prog 186 #[.string s] w fun e w' => e = .returned (.int .u32 (crcN s.data.toList : Nat)) ∧ w' = w := by
  have HH : Hid (HalvesAt w) := hH
  clear hH
  go_enter Tryz.func186, Tryz.ntmps186
  go_wp2
  go_loop [3, 7] (fun c i => ∃ (k : Nat), k ≤ s.size ∧ i = .int .i64 k ∧ c = .int .u32 (crcRun (s.data.toList.take k) : Nat)) (fun _ i => s.size - (intOf i).toNat)
  case atStart => exact ⟨0, Nat.zero_le _, rfl, rfl⟩
  case round =>
    obtain ⟨k, hk, rfl, rfl⟩ := hrel
    have hr := crcRun_lt (s.data.toList.take k)
    by_cases hlt : k < s.size
    · have HS : Hid (crcRun (s.data.toList.take (k + 1)) = nibStep (nibStep (crcRun (s.data.toList.take k) ^^^ s[k].toNat))) := by
        show _ = _
        rw [crcRun_snocS s k hlt, nib_byte]
      have hc := s[k].toNat_lt
      have hx := u32_xor_nat (crcRun (s.data.toList.take k)) s[k].toNat (by omega) (by omega)
      generalize crcRun (s.data.toList.take k) = x at *
      have hy : x ^^^ s[k].toNat < 4294967296 := Nat.xor_lt_two_pow (n := 32) (by omega) (by omega)
      generalize x ^^^ s[k].toNat = y at *
      have hz := nibStep_lt hy
      have a1 := and_15 hy
      have a2 := and_15 hz
      have b1 : (((y % 16 : Nat) : Int)) < 16 := by omega
      have b2 : (((nibStep y % 16 : Nat) : Int)) < 16 := by omega
      have c1 := HH.out.2 (y % 16) (by omega)
      have c2 := HH.out.2 (nibStep y % 16) (by omega)
      have x1 := nib_xor hy
      have x2 := nib_xor hz
      have HY : Hid (y % 16 < 16) := Nat.mod_lt _ (by omega)
      generalize halvesL.getD (y % 16) 0 = t1 at *
      generalize halvesL.getD (nibStep y % 16) 0 = t2 at *
      generalize nibStep (nibStep y) = u at *
      generalize nibStep y = z at *
      generalize hq1 : y % 16 = q1 at *
      generalize hq2 : z % 16 = q2 at *
      clear hq1 hq2
      go_wp2
      go_round
      case rel => exact ⟨k + 1, by omega, by go_num, by rw [HS.out]⟩
      case measure => simp [intOf]; omega
    · have HS : Hid (crcRun (s.data.toList.take k) = crcRun s.data.toList) := by
        show _ = _
        rw [List.take_of_length_le (by simp; omega)]
      have hx := u32_xor_nat (crcRun (s.data.toList.take k)) 4294967295 (by omega) (by omega)
      generalize crcRun (s.data.toList.take k) = x at *
      have HX : Hid (bits BinOp.xor IntKind.u32 IntKind.u32.max (x : Int) = ((x ^^^ 4294967295 : Nat) : Int)) := by
        show _ = _
        rw [show IntKind.u32.max = ((4294967295 : Nat) : Int) from rfl, u32_xor_nat _ _ (by omega) (by omega), Nat.xor_comm]
      go_wp2
      go_ret
      exact ⟨ret_int (by rw [HX.out, crcN, ← HS.out]), rfl⟩

theorem highL_lowL (n k : Nat) (h : n < 256 ^ k) : highL (lowL n k) = n := by
  induction k generalizing n with
  | zero => simp at h; subst h; rfl
  | succ k ih =>
    show (UInt8.ofNat (n % 256)).toNat + 256 * highL (lowL (n / 256) k) = n
    rw [ih (n / 256) (by rw [Nat.pow_succ] at h; exact Nat.div_lt_of_lt_mul (by omega)), UInt8.toNat_ofNat']
    omega
theorem lowL_highL (l : List UInt8) : lowL (highL l) l.length = l := by
  induction l with
  | nil => rfl
  | cons b l ih =>
    have := b.toNat_lt
    show UInt8.ofNat ((b.toNat + 256 * highL l) % 256) :: lowL ((b.toNat + 256 * highL l) / 256) l.length = b :: l
    rw [show (b.toNat + 256 * highL l) % 256 = b.toNat by omega, show (b.toNat + 256 * highL l) / 256 = highL l by omega, ih]
    congr 1
    simp
/-- The program's way to ask for a check, and the document's. -/
theorem sealed_by_number {l : List UInt8} (h : 4 ≤ l.length) : sealedB l = decide (highL (l.drop (l.length - 4)) = crcN (l.take (l.length - 4))) := by
  have hd : (l.drop (l.length - 4)).length = 4 := by simp; omega
  rw [Bool.eq_iff_iff]
  simp only [sealedB, h, decide_true, Bool.true_and, beq_iff_eq, decide_eq_true_eq]
  constructor
  · intro hs
    have h2 : lowL (crcN (l.take (l.length - 4))) 4 = l.drop (l.length - 4) := by
      have e : sealL (l.take (l.length - 4)) = l.take (l.length - 4) ++ l.drop (l.length - 4) := by rw [List.take_append_drop]; exact hs
      unfold sealL at e
      exact List.append_cancel_left e
    rw [← h2, highL_lowL _ 4 (crcN_lt _)]
  · intro hh
    unfold sealL
    rw [← hh]
    conv => lhs; rw [show (4 : Nat) = (l.drop (l.length - 4)).length from hd.symm]
    rw [hd, show lowL (highL (l.drop (l.length - 4))) 4 = l.drop (l.length - 4) from by have := lowL_highL (l.drop (l.length - 4)); rw [hd] at this; exact this, List.take_append_drop]

set_option maxRecDepth 100000 in
set_option maxHeartbeats 300000 in
theorem holds_any (s : ByteArray) (w : World) (hs : s.size ≤ 9223372036854775807) (hH : HalvesAt w) :
    Calls Tryz.prog 144 #[.string s] w fun e w' => e = .returned (.bool (sealedB s.data.toList)) ∧ Below w.heap.size w w' := by
  have hl : s.data.toList.length = s.size := by simp
  by_cases h4 : 4 ≤ s.size
  · have HR : Hid (sealedB s.data.toList = decide (highL (s.data.toList.drop (s.size - 4)) = crcN (s.data.toList.take (s.size - 4)))) := by
      show _ = _
      rw [sealed_by_number (by omega), hl]
    have HH : Hid (HalvesAt w) := hH
    clear hH
    have i1 : (4 : Int) ≤ (s.size : Int) := by omega
    have i2 : (0 : Int) ≤ (s.size : Int) - 4 := by omega
    have d1 : decide (4 ≤ (s.size : Int)) = true := by simp; omega
    go_enter Tryz.func144, Tryz.ntmps144
    have c1 := cut_from s (s.size - 4) (by omega) ((s.size : Int) - 4) (by omega)
    have c2 := cut_upto s (s.size - 4) (by omega) ((s.size : Int) - 4) (by omega)
    have hl1 : (s.data.toList.drop (s.size - 4)).length = 4 := by simp; omega
    have hl2 : (s.data.toList.take (s.size - 4)).length ≤ s.size := by simp
    have hb1 := highL4 (s.data.toList.drop (s.size - 4)) (by omega)
    have hb2 := crcN_lt (s.data.toList.take (s.size - 4))
    generalize s.data.toList.drop (s.size - 4) = l1 at *
    generalize s.data.toList.take (s.size - 4) = l2 at *
    have z1 : (S l1).size = 4 := by rw [S_size, hl1]
    have z2 : (S l2).size ≤ s.size := by rw [S_size]; exact hl2
    have m1 : IntKind.i64.wrap ((crcN l2 : Nat) : Int) = ((crcN l2 : Nat) : Int) := by rw [IntKind.wrap_i64]; omega
    have HHd : Hid (HalvesAt w.drew) := HH.out.below (Below.refl w.heap.size w).drew HH.out.1
    clear hl1 hl2 hl
    go_wp2_with fail
    go_region_held3 (fun w' => w.heap.size ≤ w'.heap.size) (first | (simp)) (first | (go_at_call 145; refine (lowRead_any _ _ (by omega)).mono ?_; rintro e w' ⟨rfl, rfl⟩; rw [S_data]) | (go_at_call 186; refine (check_any _ _ ?_ ?_).mono ?_; (omega); (exact HHd.out); rintro e w' ⟨rfl, rfl⟩; rw [S_data]))
    clear c1 c2 m1 HH HHd z1 z2 i1 i2 d1
    go_wp2
    go_ret
    refine ⟨ret_bool ?_, (Below.refl _ _).drew⟩
    rw [HR.out, Bool.eq_iff_iff]
    simp only [beq_iff_eq, decide_eq_true_eq]
    omega
  · have HR : Hid (sealedB s.data.toList = false) := by
      show _ = _
      unfold sealedB; simp; omega
    clear hH
    have i1 : ¬ (4 : Int) ≤ (s.size : Int) := by omega
    have i2 : ¬ (0 : Int) ≤ (s.size : Int) - 4 := by omega
    have d1 : decide ((4 : Int) ≤ (s.size : Int)) = false := by simp; omega
    have d2 : decide ((0 : Int) ≤ (s.size : Int) - 4) = false := by simp; omega
    go_enter Tryz.func144, Tryz.ntmps144
    go_wp2_with fail
    go_quiet (fail)
    go_wp2
    go_ret
    exact ⟨ret_bool HR.out.symm, below_drewN (Below.refl _ _) _⟩
end Go.Proofs.YtdhgebdbiehchaaGreatDoor
namespace Go.Proofs.YtdhgebdbiehchaaGreatDoor
open Go.RowKit
set_option linter.unusedSimpArgs false
set_option linter.unusedVariables false

/-- A step of a script. -/
structure OpV where
  kind : Int
  at' : Int
  x : Int
  y : Int
  s : ByteArray
  t : ByteArray
  u : ByteArray
  c0 : Int
  c1 : Int
  c2 : Int
def OpV.cells (o : OpV) : List Value := [.int .i64 o.kind, .int .i64 o.at', .int .i64 o.x, .int .i64 o.y, .string o.s, .string o.t, .string o.u, .int .i64 o.c0, .int .i64 o.c1, .int .i64 o.c2]
def OpV.val (o : OpV) : Value := .agg #[.int .i64 o.kind, .int .i64 o.at', .int .i64 o.x, .int .i64 o.y, .string o.s, .string o.t, .string o.u, .int .i64 o.c0, .int .i64 o.c1, .int .i64 o.c2]

/-- The statement's World, with no disk and no list. -/
def zeroW : List Value := [.slice none 0 0, .slice none 0 0, .slice none 0 0, .int .i64 0]
def WorldAt (w : World) (b : Nat) : Prop := b < w.heap.size ∧ w.cell? ⟨b, 0, none⟩ = some (.slice none 0 0) ∧ w.cell? ⟨b, 1, none⟩ = some (.slice none 0 0)

theorem WorldAt.below {w w' : World} {b : Nat} (h : WorldAt w b) (hb : Below w.heap.size w w') : WorldAt w' b :=
  ⟨Nat.lt_of_lt_of_le h.1 hb.size, (hb.cell (p := ⟨b, 0, none⟩) h.1).trans h.2.1, (hb.cell (p := ⟨b, 1, none⟩) h.1).trans h.2.2⟩

set_option maxHeartbeats 800000 in
theorem looks_any (b : Nat) (w : World) (h : WorldAt w b) :
    Calls Tryz.prog 34 #[.pointer (some ⟨b, 0, none⟩)] w fun e w' => e = .returned (.bool true) ∧ Below w.heap.size w w' := by
  obtain ⟨h0, h1, h2⟩ := h
  go_enter Tryz.func34, Tryz.ntmps34
  go_wp2
  refine wp_loop_rounds 1 ?_
  rw [rounds_succ]
  go_wp2
  go_ret
  exact ⟨rfl, Below.refl _ _⟩

set_option maxHeartbeats 1600000 in
theorem reads_number (o : OpV) (w : World) (hk : o.kind = 1) :
    Calls Tryz.prog 63 #[o.val] w fun e w' => e = .returned (.bool true) ∧ Below w.heap.size w w' := by
  obtain ⟨kind, at', x, y, s, t, u, c0, c1, c2⟩ := o
  dsimp only at hk
  subst hk
  unfold OpV.val
  dsimp only
  go_enter Tryz.func63, Tryz.ntmps63
  go_wp2_with fail
  refine (number_any x y s _).mono ?_
  rintro e w1 ⟨rfl, hb1⟩
  have hz1 : w.heap.size < w1.heap.size := by have := hb1.size; simp at this; omega
  have d2 : w1.cell? ⟨w.heap.size, 2, none⟩ = some (.int .i64 x) := by rw [hb1.cell (p := ⟨w.heap.size, 2, none⟩) (by simp)]; simp
  have d3 : w1.cell? ⟨w.heap.size, 3, none⟩ = some (.int .i64 y) := by rw [hb1.cell (p := ⟨w.heap.size, 3, none⟩) (by simp)]; simp
  have d4 : w1.cell? ⟨w.heap.size, 4, none⟩ = some (.string s) := by rw [hb1.cell (p := ⟨w.heap.size, 4, none⟩) (by simp)]; simp
  go_wp2_with fail
  refine (refNumber_any x y s _).mono ?_
  rintro e w2 ⟨rfl, hb2⟩
  generalize numR x y s = n
  generalize numE x y s = f
  go_wp2_with (first | (go_at_call 114; refine (num_any _ _).mono ?_; rintro e w' ⟨rfl, rfl⟩))
  go_ret
  exact ⟨by simp, (((Below.refl _ _).alloc (Nat.le_refl _) _).trans (hb1.mono (by simp))).trans (hb2.mono (by omega))⟩

/-- What is known of every step: its kind is one of those that are asked, and what it asks is answered alike. -/
def Reads (o : OpV) : Prop := ∀ w : World, HalvesAt w → Calls Tryz.prog 63 #[o.val] w fun e w' => e = .returned (.bool true) ∧ Below w.heap.size w w'

theorem Reads.val {o : OpV} (h : Reads o) : Hid (∀ w : World, HalvesAt w → Calls Tryz.prog 63 #[.agg #[.int .i64 o.kind, .int .i64 o.at', .int .i64 o.x, .int .i64 o.y, .string o.s, .string o.t, .string o.u, .int .i64 o.c0, .int .i64 o.c1, .int .i64 o.c2]] w fun e w' => e = .returned (.bool true) ∧ Below w.heap.size w w') := h

set_option maxHeartbeats 1600000 in
theorem step_reads (o : OpV) (b : Nat) (w : World) (h1 : 1 ≤ o.kind) (h4 : o.kind ≤ 4) (hr : Reads o) (hH : HalvesAt w) :
    Calls Tryz.prog 33 #[.pointer (some ⟨b, 0, none⟩), o.val] w fun e w' => e = .returned (.bool true) ∧ Below w.heap.size w w' := by
  obtain ⟨kind, at', x, y, s, t, u, c0, c1, c2⟩ := o
  dsimp only at h1 h4
  have HR := Reads.val hr
  have HH : Hid (HalvesAt w) := hH
  clear hr hH
  unfold OpV.val
  dsimp only
  go_enter Tryz.func33, Tryz.ntmps33
  go_wp2_with fail
  refine (HR.out _ (HH.out.below ((Below.refl _ _).alloc (Nat.le_refl _) _) HH.out.1)).mono ?_
  rintro e w1 ⟨rfl, hb1⟩
  go_wp2
  go_ret
  exact ⟨rfl, ((Below.refl _ _).alloc (Nat.le_refl _) _).trans (hb1.mono (by simp))⟩
end Go.Proofs.YtdhgebdbiehchaaGreatDoor
namespace Go.Proofs.YtdhgebdbiehchaaGreatDoor
open Go.RowKit
set_option linter.unusedSimpArgs false
set_option linter.unusedVariables false

def OpV.sized (o : OpV) : Prop := o.s.size ≤ 140737488351232 ∧ o.t.size ≤ 140737488351232 ∧ o.u.size ≤ 140737488351232

/-- The ten cells of a step, from an address on. -/
def OpAt (w : World) (b off : Nat) (o : OpV) : Prop :=
  w.cell? ⟨b, off, none⟩ = some (.int .i64 o.kind) ∧ w.cell? ⟨b, off + 1, none⟩ = some (.int .i64 o.at') ∧ w.cell? ⟨b, off + 2, none⟩ = some (.int .i64 o.x) ∧ w.cell? ⟨b, off + 3, none⟩ = some (.int .i64 o.y) ∧
  w.cell? ⟨b, off + 4, none⟩ = some (.string o.s) ∧ w.cell? ⟨b, off + 5, none⟩ = some (.string o.t) ∧ w.cell? ⟨b, off + 6, none⟩ = some (.string o.u) ∧
  w.cell? ⟨b, off + 7, none⟩ = some (.int .i64 o.c0) ∧ w.cell? ⟨b, off + 8, none⟩ = some (.int .i64 o.c1) ∧ w.cell? ⟨b, off + 9, none⟩ = some (.int .i64 o.c2)
theorem OpAt.below {w w' : World} {b off : Nat} {o : OpV} (h : OpAt w b off o) {n : Nat} (hb : Below n w w') (hl : b < n) : OpAt w' b off o := by
  obtain ⟨h0, h1, h2, h3, h4, h5, h6, h7, h8, h9⟩ := h
  have f : ∀ i v, w.cell? ⟨b, i, none⟩ = some v → w'.cell? ⟨b, i, none⟩ = some v := fun i v hv => (hb.cell (p := ⟨b, i, none⟩) hl).trans hv
  exact ⟨f _ _ h0, f _ _ h1, f _ _ h2, f _ _ h3, f _ _ h4, f _ _ h5, f _ _ h6, f _ _ h7, f _ _ h8, f _ _ h9⟩

/-- The ten steps that are given. -/
def givenOps (s : ByteArray) : List OpV :=
  [⟨1, 0, 0, 32, ⟨#[97]⟩, ⟨#[]⟩, ⟨#[]⟩, 0, 0, 0⟩, ⟨2, 0, 0, 0, s, ⟨#[]⟩, ⟨#[]⟩, 0, 0, 0⟩, ⟨4, 0, 0, 0, s, ⟨#[]⟩, ⟨#[97]⟩, 0, 0, 0⟩, ⟨5, 0, 5000, 0, ⟨#[]⟩, ⟨#[]⟩, ⟨#[]⟩, 0, 0, 0⟩, ⟨6, 0, 0, 0, ⟨#[]⟩, ⟨#[]⟩, ⟨#[]⟩, 40, 7, 2⟩,
   ⟨7, 0, 0, 0, ⟨#[97]⟩, ⟨#[120]⟩, ⟨#[]⟩, 0, 0, 0⟩, ⟨9, 0, 0, 0, ⟨#[]⟩, ⟨#[]⟩, ⟨#[]⟩, 0, 0, 0⟩, ⟨11, 0, 0, 0, ⟨#[]⟩, ⟨#[]⟩, ⟨#[]⟩, 0, 0, 0⟩, ⟨12, 0, 0, 0, ⟨#[97]⟩, ⟨#[]⟩, ⟨#[]⟩, 0, 0, 0⟩, ⟨13, 0, 0, 0, ⟨#[]⟩, ⟨#[]⟩, ⟨#[]⟩, 0, 0, 0⟩]
def givenCells (s : ByteArray) : Array Value := ((givenOps s).flatMap OpV.cells).toArray

theorem given_lit (w : World) (s : ByteArray) (t : TypeId) (j : Nat) (hj : j < 10) : OpAt (w.alloc (.cells (givenCells s) t)) w.heap.size (j * 10) ((givenOps s)[j]'hj) := by
  have f : ∀ i, (w.alloc (.cells (givenCells s) t)).cell? ⟨w.heap.size, i, none⟩ = (givenCells s)[i]? := fun i => World.cell?_alloc_new w _ t i
  unfold OpAt
  rw [f, f, f, f, f, f, f, f, f, f]
  match j, hj with
  | 0, _ => exact ⟨rfl, rfl, rfl, rfl, rfl, rfl, rfl, rfl, rfl, rfl⟩
  | 1, _ => exact ⟨rfl, rfl, rfl, rfl, rfl, rfl, rfl, rfl, rfl, rfl⟩
  | 2, _ => exact ⟨rfl, rfl, rfl, rfl, rfl, rfl, rfl, rfl, rfl, rfl⟩
  | 3, _ => exact ⟨rfl, rfl, rfl, rfl, rfl, rfl, rfl, rfl, rfl, rfl⟩
  | 4, _ => exact ⟨rfl, rfl, rfl, rfl, rfl, rfl, rfl, rfl, rfl, rfl⟩
  | 5, _ => exact ⟨rfl, rfl, rfl, rfl, rfl, rfl, rfl, rfl, rfl, rfl⟩
  | 6, _ => exact ⟨rfl, rfl, rfl, rfl, rfl, rfl, rfl, rfl, rfl, rfl⟩
  | 7, _ => exact ⟨rfl, rfl, rfl, rfl, rfl, rfl, rfl, rfl, rfl, rfl⟩
  | 8, _ => exact ⟨rfl, rfl, rfl, rfl, rfl, rfl, rfl, rfl, rfl, rfl⟩
  | 9, _ => exact ⟨rfl, rfl, rfl, rfl, rfl, rfl, rfl, rfl, rfl, rfl⟩
theorem given_sized {s : ByteArray} (hs : s.size ≤ 1000) : ∀ o ∈ givenOps s, o.sized := by
  have z0 : (⟨#[]⟩ : ByteArray).size = 0 := rfl
  have z1 : (⟨#[97]⟩ : ByteArray).size = 1 := rfl
  have z2 : (⟨#[120]⟩ : ByteArray).size = 1 := rfl
  intro o ho
  simp only [givenOps, List.mem_cons, List.not_mem_nil, or_false] at ho
  rcases ho with rfl | rfl | rfl | rfl | rfl | rfl | rfl | rfl | rfl | rfl
  all_goals
    unfold OpV.sized
    dsimp only
    simp only [z0, z1, z2]
    omega

/-- What is asked: all steps of the kinds up to hi are answered alike. -/
def Asks (hi : Int) : Prop := ∀ o : OpV, 1 ≤ o.kind → o.kind ≤ hi → o.sized → Reads o

set_option maxRecDepth 100000 in
set_option maxHeartbeats 1600000 in
theorem given_any (b : Nat) (hi : Int) (w : World) (h1 : 1 ≤ hi) (h4 : hi ≤ 4) (hA : Asks hi) (hw : b < w.heap.size) (hH : HalvesAt w) :
    Calls Tryz.prog 32 #[.pointer (some ⟨b, 0, none⟩), .int .i64 1, .int .i64 hi] w fun e w' => e = .returned (.bool true) ∧ Below w.heap.size w w' := by
  have HH : Hid (HalvesAt w) := hH
  clear hH
  go_enter Tryz.func32, Tryz.ntmps32
  go_wp2_with fail
  refine (head_any 100 7 32 _ (by omega) (by omega) (by omega) (by omega) (by omega) (by omega)).mono ?_
  rintro e w1 ⟨rfl, hb1⟩
  obtain ⟨hd, hhd⟩ : ∃ t, t = S (sealL ([76, 71] ++ lowL (100 : Int).toNat 2 ++ lowL (7 : Int).toNat 4 ++ lowL (32 : Int).toNat 2)) := ⟨_, rfl⟩
  have z1 : hd.size ≤ 100 := by rw [hhd, S_size, sealL_length]; simp [lowL_length]
  rw [← hhd]
  clear hhd
  go_wp2_with fail
  refine (block_any w1.heap.size 1 [(true, ⟨#[97]⟩, ⟨#[120]⟩)] _ (by simp) ?_ (by simp) ?_).mono ?_
  · intro i hi
    match i, hi with
    | 0, _ => simp
  · intro e he
    simp at he
    subst he
    exact ⟨by decide, by decide⟩
  rintro e w2 ⟨rfl, hb2⟩
  obtain ⟨bl, hbl⟩ : ∃ t, t = S (blockL [(true, ⟨#[97]⟩, ⟨#[120]⟩)]) := ⟨_, rfl⟩
  have z2 : bl.size ≤ 100 := by
    rw [hbl, S_size]; decide +kernel
  rw [← hbl]
  clear hbl
  have hb12 : Below w.heap.size w w2 := hb1.trans ((((Below.refl w1.heap.size w1).alloc (Nat.le_refl _) _).trans (hb2.mono (by simp))).mono hb1.size)
  clear hb1 hb2
  have q1 : ¬ 9223372036854775807 < hd.size + bl.size := by omega
  have hbz := hb12.size
  go_wp2
  go_loopw [9] (fun i wr => ∃ (k : Nat), k ≤ 10 ∧ i = .int .i64 k ∧ (∀ j (hj : j < 10), OpAt wr w2.heap.size (j * 10) ((givenOps (hd ++ bl))[j]'hj)) ∧ w2.heap.size < wr.heap.size ∧ Below w.heap.size w wr) (fun i _ => 10 - (intOf i).toNat)
  case atStart => exact ⟨0, by omega, rfl, given_lit w2 (hd ++ bl) _, by simp, hb12.alloc hbz _⟩
  case round =>
    obtain ⟨k, hk, rfl, hops, hz2, hb⟩ := hrel
    by_cases hlt : k < 10
    · have hop := hops k hlt
      have hsz : ((givenOps (hd ++ bl))[k]'hlt).sized := given_sized (by simp; omega) _ (List.getElem_mem _)
      have hrd := hA ((givenOps (hd ++ bl))[k]'hlt)
      have HO : Hid (∀ j (hj : j < 10), OpAt wr w2.heap.size (j * 10) ((givenOps (hd ++ bl))[j]'hj)) := hops
      clear hops
      generalize (givenOps (hd ++ bl))[k]'hlt = o at *
      obtain ⟨kind, at', x, y, s, t, u, c0, c1, c2⟩ := o
      obtain ⟨h0, h1', h2, h3, h4', h5, h6, h7, h8, h9⟩ := hop
      dsimp only at *
      by_cases hk1 : 1 ≤ kind ∧ kind ≤ hi
      · obtain ⟨hka, hkb⟩ := hk1
        have hrd' : Reads _ := hrd hka hkb hsz
        go_wp2_with fail
        refine (step_reads ⟨kind, at', x, y, s, t, u, c0, c1, c2⟩ b _ hka (by dsimp only; omega) hrd' (HH.out.below hb HH.out.1)).mono ?_
        rintro e w3 ⟨rfl, hb3⟩
        clear h0 h1' h2 h3 h4' h5 h6 h7 h8 h9
        go_wp2
        go_roundw
        case rel => exact ⟨k + 1, by omega, by go_num, fun j hj => (HO.out j hj).below hb3 hz2, Nat.lt_of_lt_of_le hz2 hb3.size, hb.trans (hb3.mono hb.size)⟩
        case measure => simp [intOf]; omega
      · clear hrd
        rcases (show kind < 1 ∨ (1 ≤ kind ∧ hi < kind) from by omega) with hka | ⟨hka, hkb⟩
        all_goals
          clear hk1
          go_wp2
          go_roundw
          case rel => exact ⟨k + 1, by omega, by go_num, HO.out, hz2, hb⟩
          case measure => simp [intOf]; omega
    · go_wp2
      go_ret
      exact ⟨rfl, hb⟩
end Go.Proofs.YtdhgebdbiehchaaGreatDoor
namespace Go.Proofs.YtdhgebdbiehchaaGreatDoor
open Go.RowKit
set_option linter.unusedSimpArgs false
set_option linter.unusedVariables false

/-- A script lies in memory: a slice, nil or not, whose elements are these steps. -/
def ScriptAt (w : World) (a : Option Addr) (L : List OpV) : Prop :=
  L = [] ∨ ∃ b off, a = some ⟨b, off, none⟩ ∧ b < w.heap.size ∧ ∀ (k : Nat) (h : k < L.length), OpAt w b (off + k * 10) L[k]

set_option maxRecDepth 100000 in
set_option maxHeartbeats 1600000 in
theorem plays_any (a : Option Addr) (L : List OpV) (cap : Nat) (hi : Int) (w : World) (h1 : 1 ≤ hi) (h4 : hi ≤ 4) (hA : Asks hi) (hS : ScriptAt w a L) (hL : ∀ o ∈ L, o.sized) (hn : L.length ≤ 140737488351232) (hH : HalvesAt w) :
    Calls Tryz.prog 12 #[.slice a L.length cap, .int .i64 1, .int .i64 hi] w fun e w' => e = .returned (.bool true) ∧ Below w.heap.size w w' := by
  have HH : Hid (HalvesAt w) := hH
  clear hH
  go_enter Tryz.func12, Tryz.ntmps12
  go_wp2_with fail
  refine (given_any w.heap.size hi _ h1 h4 hA (by simp) (HH.out.below ((Below.refl _ _).alloc (Nat.le_refl _) _) HH.out.1)).mono ?_
  rintro e w1 ⟨rfl, hb1⟩
  have hz1 : w.heap.size < w1.heap.size := by have := hb1.size; simp at this; omega
  have hb01 : Below w.heap.size w w1 := ((Below.refl _ _).alloc (Nat.le_refl _) _).trans (hb1.mono (by simp))
  have hW1 : WorldAt w1 w.heap.size := by
    refine ⟨hz1, ?_, ?_⟩
    · rw [hb1.cell (p := ⟨w.heap.size, 0, none⟩) (by simp)]; simp
    · rw [hb1.cell (p := ⟨w.heap.size, 1, none⟩) (by simp)]; simp
  clear hb1
  go_wp2
  go_loopw [9] (fun i wr => ∃ (k : Nat), k ≤ L.length ∧ i = .int .i64 k ∧ WorldAt wr w.heap.size ∧ Below w.heap.size w wr) (fun i _ => L.length - (intOf i).toNat)
  case atStart => exact ⟨0, by omega, rfl, hW1, hb01⟩
  case round =>
    obtain ⟨k, hk, rfl, hW, hb⟩ := hrel
    by_cases hlt : k < L.length
    · rcases hS with hS | ⟨b, off, rfl, hbw, hops⟩
      · subst hS; simp at hlt
      have hop := (hops k hlt).below hb hbw
      have hsz := hL L[k] (List.getElem_mem _)
      have hrd := hA L[k]
      have HW : Hid (WorldAt wr w.heap.size) := hW
      clear hops hW
      generalize L[k] = o at *
      obtain ⟨kind, at', x, y, s, t, u, c0, c1, c2⟩ := o
      obtain ⟨g0, g1, g2, g3, g4, g5, g6, g7, g8, g9⟩ := hop
      dsimp only at *
      by_cases hk1 : 1 ≤ kind ∧ kind ≤ hi
      · obtain ⟨hka, hkb⟩ := hk1
        have hrd' : Reads _ := hrd hka hkb hsz
        go_wp2_with fail
        refine (step_reads ⟨kind, at', x, y, s, t, u, c0, c1, c2⟩ _ _ hka (by dsimp only; omega) hrd' (HH.out.below hb HH.out.1)).mono ?_
        rintro e w3 ⟨rfl, hb3⟩
        clear g0 g1 g2 g3 g4 g5 g6 g7 g8 g9
        go_wp2
        go_roundw
        case rel => exact ⟨k + 1, by omega, by go_num, HW.out.below hb3, hb.trans (hb3.mono hb.size)⟩
        case measure => simp [intOf]; omega
      · clear hrd
        rcases (show kind < 1 ∨ (1 ≤ kind ∧ hi < kind) from by omega) with hka | ⟨hka, hkb⟩
        all_goals
          clear hk1
          go_wp2
          go_roundw
          case rel => exact ⟨k + 1, by omega, by go_num, HW.out, hb⟩
          case measure => simp [intOf]; omega
    · have hW' := hW
      obtain ⟨hwz, hw0, hw1⟩ := hW'
      have HW : Hid (WorldAt wr w.heap.size) := hW
      clear hW hS
      go_wp2
      refine wp_loop_rounds 1 ?_
      rw [rounds_succ]
      go_wp2_with fail
      refine (looks_any _ _ HW.out).mono ?_
      rintro e w3 ⟨rfl, hb3⟩
      go_wp2
      go_ret
      exact ⟨rfl, hb.trans (hb3.mono hb.size)⟩

theorem asks_one : Asks 1 := fun o h1 h2 _ w _ => reads_number o w (by omega)

set_option maxHeartbeats 400000 in
theorem numbers_any (a : Option Addr) (L : List OpV) (cap : Nat) (w : World) (hS : ScriptAt w a L) (hL : ∀ o ∈ L, o.sized) (hn : L.length ≤ 140737488351232) (hH : HalvesAt w) :
    Calls Tryz.prog 3 #[.slice a L.length cap] w fun e w' => e = .returned (.bool true) ∧ Below w.heap.size w w' := by
  go_enter Tryz.func3, Tryz.ntmps3
  go_wp2_with fail
  refine (plays_any a L cap 1 _ (by omega) (by omega) asks_one hS hL hn hH).mono ?_
  rintro e w1 ⟨rfl, hb1⟩
  go_wp2
  go_ret
  exact ⟨rfl, hb1⟩
end Go.Proofs.YtdhgebdbiehchaaGreatDoor
namespace Go.Proofs.YtdhgebdbiehchaaGreatDoor
open Go.ChangeShapes Go.WideShapes Go.ChangeAt Go.WideMaps Go.WideElems Go.RowKit Go.Deep
set_option linter.unusedSimpArgs false
set_option linter.unusedVariables false

theorem cells_op : Tryz.prog.cellsOf 68 = 10 := by kernel_rfl
theorem cells_int : Tryz.prog.cellsOf 3 = 1 := by kernel_rfl
theorem cells_str : Tryz.prog.cellsOf 9 = 1 := by kernel_rfl
theorem cells_cfg : Tryz.prog.cellsOf 29 = 3 := by kernel_rfl
theorem bytes_op : Tryz.prog.bytesOf 68 = 104 := by kernel_rfl

theorem ten {α : Type} {l : List α} (h : l.length = 10) : ∃ a b c d e f g i j k, l = [a, b, c, d, e, f, g, i, j, k] := by
  match l, h with
  | [a, b, c, d, e, f, g, i, j, k], _ => exact ⟨a, b, c, d, e, f, g, i, j, k, rfl⟩
theorem eight {α : Type} {l : List α} (h : l.length = 8) : ∃ a b c d e f g i, l = [a, b, c, d, e, f, g, i] := by
  match l, h with
  | [a, b, c, d, e, f, g, i], _ => exact ⟨a, b, c, d, e, f, g, i, rfl⟩

section
variable {H : Type} {enc : TypeId × Value → H} {w : World} {base : Nat} {spare : Nat → Bool} {held : Bool}
def OpV.data (o : OpV) : DataW H := .agg [.lit (.int .i64 o.kind), .lit (.int .i64 o.at'), .lit (.int .i64 o.x), .lit (.int .i64 o.y), .lit (.string o.s.data.toList), .lit (.string o.t.data.toList), .lit (.string o.u.data.toList), .agg [.lit (.int .i64 o.c0), .lit (.int .i64 o.c1), .lit (.int .i64 o.c2)]]

theorem trod_str {fuel : Nat} {cs : List Value} {x : DataW H × List MemPlace} (h : DataW.trod enc Tryz.prog w base spare held fuel 9 cs = some x) : ∃ s : ByteArray, cs = [.string s] ∧ x = (.lit (.string s.data.toList), []) := by
  obtain ⟨s, h1, h2, _⟩ := DataW.trod_string Tryz.underlying9 h
  exact ⟨s, h1, h2⟩

theorem open_op {fuel : Nat} {cs : List Value} {x : DataW H × List MemPlace} (h : DataW.trod enc Tryz.prog w base spare held fuel 68 cs = some x) : ∃ o : OpV, cs = o.cells ∧ x.1 = o.data := by
  obtain ⟨xs, n, _, rfl, hl, hlen, hf⟩ := DataW.trod_struct Tryz.underlying68 h
  rw [cells_op] at hl
  obtain ⟨a, b, c, d, e, f, g, i, j, k, rfl⟩ := ten hl
  obtain ⟨y0, y1, y2, y3, y4, y5, y6, y7, rfl⟩ := eight (show xs.length = 8 by simpa using hlen)
  have f0 : DataW.trod enc Tryz.prog w base spare held n 3 [a] = some y0 := by
    have := hf 0 _ rfl
    change DataW.trod enc Tryz.prog w base spare held n 3 (List.take (Tryz.prog.cellsOf 3) (List.drop 0 [a, b, c, d, e, f, g, i, j, k])) = some y0 at this
    rw [cells_int] at this
    exact this
  have f1 : DataW.trod enc Tryz.prog w base spare held n 3 [b] = some y1 := by
    have := hf 1 _ rfl
    change DataW.trod enc Tryz.prog w base spare held n 3 (List.take (Tryz.prog.cellsOf 3) (List.drop 1 [a, b, c, d, e, f, g, i, j, k])) = some y1 at this
    rw [cells_int] at this
    exact this
  have f2 : DataW.trod enc Tryz.prog w base spare held n 3 [c] = some y2 := by
    have := hf 2 _ rfl
    change DataW.trod enc Tryz.prog w base spare held n 3 (List.take (Tryz.prog.cellsOf 3) (List.drop 2 [a, b, c, d, e, f, g, i, j, k])) = some y2 at this
    rw [cells_int] at this
    exact this
  have f3 : DataW.trod enc Tryz.prog w base spare held n 3 [d] = some y3 := by
    have := hf 3 _ rfl
    change DataW.trod enc Tryz.prog w base spare held n 3 (List.take (Tryz.prog.cellsOf 3) (List.drop 3 [a, b, c, d, e, f, g, i, j, k])) = some y3 at this
    rw [cells_int] at this
    exact this
  have f4 : DataW.trod enc Tryz.prog w base spare held n 9 [e] = some y4 := by
    have := hf 4 _ rfl
    change DataW.trod enc Tryz.prog w base spare held n 9 (List.take (Tryz.prog.cellsOf 9) (List.drop 4 [a, b, c, d, e, f, g, i, j, k])) = some y4 at this
    rw [cells_str] at this
    exact this
  have f5 : DataW.trod enc Tryz.prog w base spare held n 9 [f] = some y5 := by
    have := hf 5 _ rfl
    change DataW.trod enc Tryz.prog w base spare held n 9 (List.take (Tryz.prog.cellsOf 9) (List.drop 5 [a, b, c, d, e, f, g, i, j, k])) = some y5 at this
    rw [cells_str] at this
    exact this
  have f6 : DataW.trod enc Tryz.prog w base spare held n 9 [g] = some y6 := by
    have := hf 6 _ rfl
    change DataW.trod enc Tryz.prog w base spare held n 9 (List.take (Tryz.prog.cellsOf 9) (List.drop 6 [a, b, c, d, e, f, g, i, j, k])) = some y6 at this
    rw [cells_str] at this
    exact this
  have f7 : DataW.trod enc Tryz.prog w base spare held n 29 [i, j, k] = some y7 := by
    have := hf 7 _ rfl
    change DataW.trod enc Tryz.prog w base spare held n 29 (List.take (Tryz.prog.cellsOf 29) (List.drop 7 [a, b, c, d, e, f, g, i, j, k])) = some y7 at this
    rw [cells_cfg] at this
    exact this
  obtain ⟨z0, z1, z2, m, rfl, _, g0, g1, g2⟩ := trod_struct3 Tryz.underlying29 f7
  simp only [cells_int] at g0 g1 g2
  obtain ⟨v0, e0, rfl, _⟩ := DataW.trod_int Tryz.underlying3 f0
  obtain ⟨v1, e1, rfl, _⟩ := DataW.trod_int Tryz.underlying3 f1
  obtain ⟨v2, e2, rfl, _⟩ := DataW.trod_int Tryz.underlying3 f2
  obtain ⟨v3, e3, rfl, _⟩ := DataW.trod_int Tryz.underlying3 f3
  obtain ⟨v4, e4, rfl⟩ := trod_str f4
  obtain ⟨v5, e5, rfl⟩ := trod_str f5
  obtain ⟨v6, e6, rfl⟩ := trod_str f6
  obtain ⟨u0, d0, rfl, _⟩ := DataW.trod_int Tryz.underlying3 (show DataW.trod enc Tryz.prog w base spare held m 3 [i] = some z0 from g0)
  obtain ⟨u1, d1, rfl, _⟩ := DataW.trod_int Tryz.underlying3 (show DataW.trod enc Tryz.prog w base spare held m 3 [j] = some z1 from g1)
  obtain ⟨u2, d2, rfl, _⟩ := DataW.trod_int Tryz.underlying3 (show DataW.trod enc Tryz.prog w base spare held m 3 [k] = some z2 from g2)
  simp only [List.cons.injEq, and_true] at e0 e1 e2 e3 e4 e5 e6 d0 d1 d2
  subst e0 e1 e2 e3 e4 e5 e6 d0 d1 d2
  exact ⟨⟨v0, v1, v2, v3, v4, v5, v6, u0, u1, u2⟩, rfl, rfl⟩
theorem add_off (b off i : Nat) : (⟨b, off, none⟩ : Addr).add i = ⟨b, off + i, none⟩ := by unfold Addr.add; split <;> simp_all

theorem open_script {fuel : Nat} {a0 : Option Addr} {len cap : Nat} {x : DataW H × List MemPlace} (h : DataW.trod enc Tryz.prog w 0 (fun _ => true) held fuel 22 [.slice a0 len cap] = some x) (hlt : ∀ p ∈ x.2, p.block < w.heap.size) :
    ∃ L : List OpV, L.length = len ∧ ScriptAt w a0 L ∧ ((x.1 = .nil ∧ L = []) ∨ ∃ sp, x.1 = .slice (L.map OpV.data) sp) := by
  rcases open_slice Tryz.underlying22 h with ⟨hcs, rfl⟩ | ⟨a, len', cap', m, n, D, Pl, hcs, _, hl, _, hm, rfl, hel⟩
  · simp at hcs
    obtain ⟨rfl, rfl, rfl⟩ := hcs
    exact ⟨[], rfl, .inl rfl, .inl ⟨rfl, rfl⟩⟩
  · simp at hcs
    obtain ⟨rfl, rfl, rfl⟩ := hcs
    simp only [if_true] at hm
    subst hm
    rw [cells_op] at hel hlt
    have hel' : ∀ i, i < len → ∃ o : OpV, w.cells? 0 (a.add (i * 10)) 10 = some o.cells ∧ D i = o.data := by
      intro i hi
      obtain ⟨cs', h1, h2⟩ := hel i (by omega)
      obtain ⟨o, rfl, ho⟩ := open_op h2
      exact ⟨o, h1, ho⟩
    haveI : Inhabited OpV := ⟨⟨0, 0, 0, 0, ⟨#[]⟩, ⟨#[]⟩, ⟨#[]⟩, 0, 0, 0⟩⟩
    obtain ⟨f, hf⟩ := choose_lt (α := OpV) hel'
    refine ⟨(List.range len).map f, by simp, ?_, .inr ⟨(List.range (m - len)).map fun j => D (len + j), ?_⟩⟩
    · by_cases h0 : len = 0
      · subst h0; exact .inl rfl
      right
      obtain ⟨b, off, spot⟩ := a
      have hspot : spot = none := by
        obtain ⟨h1, _⟩ := hf 0 (by omega)
        obtain ⟨_, _, h2⟩ := World.cells?_some h1
        have := World.cell?_spot (show w.cell? (((⟨b, off, spot⟩ : Addr).add (0 * 10)).add 0) = some (.int .i64 (f 0).kind) from h2 0 (by omega))
        simpa [Addr.add] using this
      subst hspot
      refine ⟨b, off, rfl, hlt (.cell b off) (by simp only [List.mem_append]; exact .inl (MemPlace.mem_row.2 ⟨0, by omega, by simp⟩)), ?_⟩
      intro k hk
      simp only [List.length_map, List.length_range] at hk
      simp only [List.getElem_map, List.getElem_range]
      obtain ⟨h1, _⟩ := hf k hk
      obtain ⟨_, _, h2⟩ := World.cells?_some h1
      simp only [add_off] at h2
      exact ⟨h2 0 (by omega), h2 1 (by omega), h2 2 (by omega), h2 3 (by omega), h2 4 (by omega), h2 5 (by omega), h2 6 (by omega), h2 7 (by omega), h2 8 (by omega), h2 9 (by omega)⟩
    · show DataW.slice _ _ = _
      congr 1
      rw [List.map_map]
      refine List.map_congr_left fun i hi => (hf i (by simpa using hi)).2

theorem mem_weightsAll {P : Program} {e : TypeId} {d : DataW H} {x : Nat} (hx : x ∈ d.weights P e) : ∀ (l : List (DataW H)), d ∈ l → x ∈ DataW.weightsAll P e l
  | [], h => by simp at h
  | c :: l, h => by
    simp only [DataW.weightsAll, List.mem_append]
    rcases List.mem_cons.1 h with rfl | h
    · exact .inl hx
    · exact .inr (mem_weightsAll hx l h)

theorem op_weights (o : OpV) : o.s.size ∈ DataW.weights Tryz.prog 68 (OpV.data (H := H) o) ∧ o.t.size ∈ DataW.weights Tryz.prog 68 (OpV.data (H := H) o) ∧ o.u.size ∈ DataW.weights Tryz.prog 68 (OpV.data (H := H) o) := by
  simp [OpV.data, DataW.weights, DataW.weightsEach, Tryz.underlying68]

theorem script_sized {L : List OpV} {sp : List (DataW H)} (h : (DataW.weightsEach Tryz.prog [22] [DataW.slice (L.map OpV.data) sp]).all (· ≤ reachBytes) = true) : (∀ o ∈ L, o.sized) ∧ L.length ≤ 140737488351232 := by
  have h' : ∀ x ∈ DataW.weights Tryz.prog 22 (DataW.slice (L.map OpV.data) sp), x ≤ 140737488351232 := by
    intro x hx
    have := List.all_eq_true.1 h x (by simp only [DataW.weightsEach, List.append_nil]; exact hx)
    exact of_decide_eq_true this
  simp only [DataW.weights, Tryz.underlying22, List.mem_cons, List.mem_append] at h'
  constructor
  · intro o ho
    have hw := op_weights (H := H) o
    have hm : ∀ x ∈ DataW.weights Tryz.prog 68 (OpV.data (H := H) o), x ≤ 140737488351232 := fun x hx => h' x (.inr (.inl (mem_weightsAll hx _ (List.mem_map.2 ⟨o, ho, rfl⟩))))
    exact ⟨hm _ hw.1, hm _ hw.2.1, hm _ hw.2.2⟩
  · have := h' _ (.inl rfl)
    rw [bytes_op, List.length_map] at this
    omega
end
end Go.Proofs.YtdhgebdbiehchaaGreatDoor
