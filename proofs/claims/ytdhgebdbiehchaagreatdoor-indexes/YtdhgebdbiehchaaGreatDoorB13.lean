/- The contract of table.Open: an index beside a log, by its first bytes. The contract of table.View.slot: the ten bytes of a slot, read. The contract of record.ReadAt: the item that is put at a place of a log. The contract of strings.Clone: the shelf's, of internal/stringslite.Clone, laid at this program. The contract of table.View.Look. The contract of the program's Look: it answers what the document's does. The statement's questions to Index and Look: both sides answer alike. -/
import Derived.Test.YtdhgebdbiehchaaGreatDoorB10
import Derived.Test.YtdhgebdbiehchaaGreatDoorB06
import Derived.Test.YtdhgebdbiehchaaGreatDoorB08
import Derived.Test.YtdhgebdbiehchaaGreatDoorB01
import Derived.Shelf.Strconv.Clone
import Derived.Ground.NamesProg
import Derived.Test.YtdhgebdbiehchaaGreatDoorB03
import Derived.Test.YtdhgebdbiehchaaGreatDoorB12
import Derived.Test.YtdhgebdbiehchaaGreatDoorB07
namespace Go.Proofs.YtdhgebdbiehchaaGreatDoor
open Go.RowKit
set_option linter.unusedSimpArgs false
set_option linter.unusedVariables false

theorem beginsE_ix (log ix : List UInt8) : beginsE log ix = if ixOK ix = false then 3 else if (decide (ixSize ix = log.length) && decide ((ixSum ix : Int) = sumI log)) = false then 4 else if headB log = false then 3 else 0 := by
  unfold beginsE
  have e1 : (ix.length < 20 ∨ sealedB (ix.take 20) = false ∨ (ix.take 2 == [73, 88]) = false ∨ ixN ix = 0 ∨ ix.length ≠ 20 + 10 * ixN ix + 4) ↔ ixOK ix = false := by
    unfold ixOK
    cases hA : sealedB (ix.take 20) <;> cases hB : (ix.take 2 == [73, 88]) <;> simp <;> omega
  have e2 : (ixSize ix ≠ log.length ∨ (ixSum ix : Int) ≠ sumI log) ↔ (decide (ixSize ix = log.length) && decide ((ixSum ix : Int) = sumI log)) = false := by
    simp only [Bool.and_eq_false_iff, decide_eq_false_iff_not]
  by_cases h1 : ixOK ix = false
  · rw [if_pos (e1.2 h1), if_pos h1]
  · rw [if_neg (fun h => h1 (e1.1 h)), if_neg h1]
    by_cases h2 : (decide (ixSize ix = log.length) && decide ((ixSum ix : Int) = sumI log)) = false
    · rw [if_pos (e2.2 h2), if_pos h2]
    · rw [if_neg (fun h => h2 (e2.1 h)), if_neg h2]

/-- A view's cells: the log, its head, the front, the slots' bytes. -/
def viewV (log : ByteArray) (bk sd bt xl xn xf xs xm : Nat) (body : ByteArray) : Value := .agg #[.string log, .int .i64 bk, .int .i64 sd, .int .i64 bt, .int .i64 xl, .int .i64 xn, .int .i64 xf, .int .i64 xs, .int .i64 xm, .string body]
/-- What Open answers. -/
def openV (log ix : ByteArray) : Value := if beginsE log.data.toList ix.data.toList = 0 then .tuple #[viewV log (hdBlk log.data.toList) (hdSeed log.data.toList) (hdBits log.data.toList) (ixLive ix.data.toList) (ixN ix.data.toList) (ixFar ix.data.toList) (ixSize ix.data.toList) (ixSum ix.data.toList) (S ((ix.data.toList.drop 20).take (10 * ixN ix.data.toList))), .int .i64 0] else .tuple #[.agg #[.string ⟨#[]⟩, .int .i64 0, .int .i64 0, .int .i64 0, .int .i64 0, .int .i64 0, .int .i64 0, .int .i64 0, .int .i64 0, .string ⟨#[]⟩], .int .i64 (beginsE log.data.toList ix.data.toList)]
theorem openV_err {log ix : ByteArray} {n : Int} (h : beginsE log.data.toList ix.data.toList = n) (hn : n ≠ 0) : openV log ix = .tuple #[.agg #[.string ⟨#[]⟩, .int .i64 0, .int .i64 0, .int .i64 0, .int .i64 0, .int .i64 0, .int .i64 0, .int .i64 0, .int .i64 0, .string ⟨#[]⟩], .int .i64 n] := by
  unfold openV
  rw [h, if_neg hn]

/-- The result's box of ten cells. -/
def Box10 (w W : World) : Prop := (W.cell? ⟨w.heap.size, 0, none⟩ = some (.string ⟨#[]⟩) ∧ W.cell? ⟨w.heap.size, 1, none⟩ = some (.int .i64 0) ∧ W.cell? ⟨w.heap.size, 2, none⟩ = some (.int .i64 0) ∧ W.cell? ⟨w.heap.size, 3, none⟩ = some (.int .i64 0) ∧ W.cell? ⟨w.heap.size, 4, none⟩ = some (.int .i64 0) ∧ W.cell? ⟨w.heap.size, 5, none⟩ = some (.int .i64 0) ∧ W.cell? ⟨w.heap.size, 6, none⟩ = some (.int .i64 0) ∧ W.cell? ⟨w.heap.size, 7, none⟩ = some (.int .i64 0) ∧ W.cell? ⟨w.heap.size, 8, none⟩ = some (.int .i64 0) ∧ W.cell? ⟨w.heap.size, 9, none⟩ = some (.string ⟨#[]⟩)) ∧ (∀ i, W.frozen? ⟨w.heap.size, i, none⟩ = false) ∧ Below w.heap.size w W ∧ w.heap.size < W.heap.size
theorem Box10.below {w W W' : World} (h : Box10 w W) (hb : Below W.heap.size W W') : Box10 w W' := by
  obtain ⟨⟨h0, h1, h2, h3, h4, h5, h6, h7, h8, h9⟩, hf, hB, hz⟩ := h
  exact ⟨⟨(hb.cell (p := ⟨w.heap.size, 0, none⟩) hz).trans h0, (hb.cell (p := ⟨w.heap.size, 1, none⟩) hz).trans h1, (hb.cell (p := ⟨w.heap.size, 2, none⟩) hz).trans h2, (hb.cell (p := ⟨w.heap.size, 3, none⟩) hz).trans h3, (hb.cell (p := ⟨w.heap.size, 4, none⟩) hz).trans h4, (hb.cell (p := ⟨w.heap.size, 5, none⟩) hz).trans h5, (hb.cell (p := ⟨w.heap.size, 6, none⟩) hz).trans h6, (hb.cell (p := ⟨w.heap.size, 7, none⟩) hz).trans h7, (hb.cell (p := ⟨w.heap.size, 8, none⟩) hz).trans h8, (hb.cell (p := ⟨w.heap.size, 9, none⟩) hz).trans h9⟩, fun i => (hb.frozen (p := ⟨w.heap.size, i, none⟩) hz).trans (hf i), hB.trans (hb.mono (Nat.le_of_lt hz)), Nat.lt_of_lt_of_le hz hb.size⟩
theorem box10_new (w : World) (t : TypeId) : Box10 w (w.alloc (.cells #[.string ⟨#[]⟩, .int .i64 0, .int .i64 0, .int .i64 0, .int .i64 0, .int .i64 0, .int .i64 0, .int .i64 0, .int .i64 0, .string ⟨#[]⟩] t)) :=
  ⟨⟨by simp, by simp, by simp, by simp, by simp, by simp, by simp, by simp, by simp, by simp⟩, fun i => by simp, (Below.refl _ _).alloc (Nat.le_refl _) _, by simp⟩

set_option maxRecDepth 100000 in
set_option maxHeartbeats 3200000 in
theorem open_any (log ix : ByteArray) (w : World) (hlog : log.size ≤ 140737488351232) (hix : ix.size ≤ 140737488351232) (hH : HalvesAt w) :
    Calls Tryz.prog 81 #[.string log, .string ix] w fun e w' => e = .returned (openV log ix) ∧ Below w.heap.size w w' := by
  have hl : log.data.toList.length = log.size := by simp
  have HBE : Hid (beginsE log.data.toList ix.data.toList = _) := beginsE_ix log.data.toList ix.data.toList
  have hB0 := box10_new w 141
  have hH0 := hH.below hB0.2.2.1 hH.1
  have HRF : Hid _ := readFront_any ix _ hix hH0
  have HHW : Hid (HalvesAt w) := hH
  clear hH0 hH
  go_enter Tryz.func81, Tryz.ntmps81
  go_wp2_with fail
  refine Calls.mono HRF.out ?_
  rintro e w1 ⟨rfl, hb1⟩
  have hB1 := hB0.below hb1
  clear hB0 hb1 HRF
  rw [frontV]
  cases hok : ixOK ix.data.toList
  · rw [if_neg (by decide)]
    have HV : Hid (openV log ix = _) := openV_err (by rw [HBE.out, if_pos hok]) (by decide)
    obtain ⟨⟨r0, r1, r2, r3, r4, r5, r6, r7, r8, r9⟩, rf, hB, hz⟩ := hB1
    have HB : Hid (Below w.heap.size w w1) := hB
    have f0 := rf 0
    have f1 := rf 1
    have f2 := rf 2
    have f3 := rf 3
    have f4 := rf 4
    have f5 := rf 5
    have f6 := rf 6
    have f7 := rf 7
    have f8 := rf 8
    have f9 := rf 9
    have hne : w.heap.size ≠ w1.heap.size := by omega
    have hne2 : w1.heap.size ≠ w.heap.size := by omega
    clear rf hB HBE hok
    go_wp2
    exact bodyPost_ret (v := .tuple #[.agg #[.string ⟨#[]⟩, .int .i64 0, .int .i64 0, .int .i64 0, .int .i64 0, .int .i64 0, .int .i64 0, .int .i64 0, .int .i64 0, .string ⟨#[]⟩], .int .i64 3]) (by simp [results, Tryz.results81, go_sem, r0, r1, r2, r3, r4, r5, r6, r7, r8, r9, hz]) rfl ⟨by rw [HV.out], ((((((((((HB.out.setCell (Nat.le_refl _) _).setCell (Nat.le_refl _) _).setCell (Nat.le_refl _) _).setCell (Nat.le_refl _) _).setCell (Nat.le_refl _) _).setCell (Nat.le_refl _) _).setCell (Nat.le_refl _) _).setCell (Nat.le_refl _) _).setCell (Nat.le_refl _) _).setCell (Nat.le_refl _) _).alloc (by simp; omega) _⟩
  · rw [if_pos rfl]
    have HBE2 : Hid (beginsE log.data.toList ix.data.toList = if (decide (ixSize ix.data.toList = log.size) && decide ((ixSum ix.data.toList : Int) = sumI log.data.toList)) = false then 4 else if headB log.data.toList = false then 3 else 0) := by
      show _ = _
      rw [HBE.out, if_neg (by rw [hok]; decide), hl]
    have HOV : Hid (beginsE log.data.toList ix.data.toList = 0 → openV log ix = .tuple #[viewV log (hdBlk log.data.toList) (hdSeed log.data.toList) (hdBits log.data.toList) (ixLive ix.data.toList) (ixN ix.data.toList) (ixFar ix.data.toList) (ixSize ix.data.toList) (ixSum ix.data.toList) (S ((ix.data.toList.drop 20).take (10 * ixN ix.data.toList))), .int .i64 0]) := fun h => by rw [openV, if_pos h]
    clear HBE hok
    generalize ixLive ix.data.toList = xl at *
    generalize ixFar ix.data.toList = xf at *
    generalize ixSize ix.data.toList = xs at *
    generalize ixSum ix.data.toList = xm at *
    generalize S ((ix.data.toList.drop 20).take (10 * ixN ix.data.toList)) = body at *
    generalize ixN ix.data.toList = xn at *
    have HIS : Hid _ := isOf_any xl xn xf xs xm log
    have hA := (Below.refl w1.heap.size w1).alloc (Nat.le_refl _) (.cells #[.int .i64 (xl : Int), .int .i64 (xn : Int), .int .i64 (xf : Int), .int .i64 (xs : Int), .int .i64 (xm : Int)] 139)
    have hBA := hB1.below hA
    have hzA : (w1.alloc (.cells #[.int .i64 (xl : Int), .int .i64 (xn : Int), .int .i64 (xf : Int), .int .i64 (xs : Int), .int .i64 (xm : Int)] 139)).heap.size = w1.heap.size + 1 := by simp
    go_wp2_with fail
    refine (HIS.out _ (by omega)).mono ?_
    rintro e w2 ⟨rfl, hb2⟩
    have hB2 := hBA.below hb2
    have hz12 : w1.heap.size < w2.heap.size := by have := hb2.size; omega
    have d0 : w2.cell? ⟨w1.heap.size, 0, none⟩ = some (.int .i64 xl) := by rw [hb2.cell (p := ⟨w1.heap.size, 0, none⟩) (by simp)]; simp
    have d1 : w2.cell? ⟨w1.heap.size, 1, none⟩ = some (.int .i64 xn) := by rw [hb2.cell (p := ⟨w1.heap.size, 1, none⟩) (by simp)]; simp
    have d2 : w2.cell? ⟨w1.heap.size, 2, none⟩ = some (.int .i64 xf) := by rw [hb2.cell (p := ⟨w1.heap.size, 2, none⟩) (by simp)]; simp
    have d3 : w2.cell? ⟨w1.heap.size, 3, none⟩ = some (.int .i64 xs) := by rw [hb2.cell (p := ⟨w1.heap.size, 3, none⟩) (by simp)]; simp
    have d4 : w2.cell? ⟨w1.heap.size, 4, none⟩ = some (.int .i64 xm) := by rw [hb2.cell (p := ⟨w1.heap.size, 4, none⟩) (by simp)]; simp
    have hz01 : w.heap.size < w1.heap.size := hB1.2.2.2
    clear hBA hA hb2 HIS hB1 hzA
    cases hof : (decide (xs = log.size) && decide ((xm : Int) = sumI log.data.toList))
    · have HV : Hid (openV log ix = _) := openV_err (by rw [HBE2.out, if_pos hof]) (by decide)
      clear HBE2 HOV hof
      obtain ⟨⟨r0, r1, r2, r3, r4, r5, r6, r7, r8, r9⟩, rf, hB, hz⟩ := hB2
      have HB : Hid (Below w.heap.size w w2) := hB
      have f0 := rf 0
      have f1 := rf 1
      have f2 := rf 2
      have f3 := rf 3
      have f4 := rf 4
      have f5 := rf 5
      have f6 := rf 6
      have f7 := rf 7
      have f8 := rf 8
      have f9 := rf 9
      have hne : w.heap.size ≠ w2.heap.size := by omega
      have hne2 : w2.heap.size ≠ w.heap.size := by omega
      clear rf hB
      go_wp2
      exact bodyPost_ret (v := .tuple #[.agg #[.string ⟨#[]⟩, .int .i64 0, .int .i64 0, .int .i64 0, .int .i64 0, .int .i64 0, .int .i64 0, .int .i64 0, .int .i64 0, .string ⟨#[]⟩], .int .i64 4]) (by simp [results, Tryz.results81, go_sem, r0, r1, r2, r3, r4, r5, r6, r7, r8, r9, hz]) rfl ⟨by rw [HV.out], ((((((((((HB.out.setCell (Nat.le_refl _) _).setCell (Nat.le_refl _) _).setCell (Nat.le_refl _) _).setCell (Nat.le_refl _) _).setCell (Nat.le_refl _) _).setCell (Nat.le_refl _) _).setCell (Nat.le_refl _) _).setCell (Nat.le_refl _) _).setCell (Nat.le_refl _) _).setCell (Nat.le_refl _) _)⟩
    · have HBE3 : Hid (beginsE log.data.toList ix.data.toList = if headB log.data.toList = false then 3 else 0) := by
        show _ = _
        rw [HBE2.out, if_neg (by rw [hof]; decide)]
      have hH2 := HHW.out.below hB2.2.2.1 HHW.out.1
      have HRH : Hid _ := readHead_any log w2 hlog hH2
      clear HBE2 hof hH2
      go_wp2_with fail
      refine Calls.mono HRH.out ?_
      rintro e w3 ⟨rfl, hb3⟩
      have hB3 := hB2.below hb3
      have hz13 : w1.heap.size < w3.heap.size := Nat.lt_of_lt_of_le hz12 hb3.size
      replace d0 := (hb3.cell (p := ⟨w1.heap.size, 0, none⟩) hz12).trans d0
      replace d1 := (hb3.cell (p := ⟨w1.heap.size, 1, none⟩) hz12).trans d1
      replace d2 := (hb3.cell (p := ⟨w1.heap.size, 2, none⟩) hz12).trans d2
      replace d3 := (hb3.cell (p := ⟨w1.heap.size, 3, none⟩) hz12).trans d3
      replace d4 := (hb3.cell (p := ⟨w1.heap.size, 4, none⟩) hz12).trans d4
      clear HRH hb3 hB2 hz12
      unfold headV
      cases hh : headB log.data.toList
      · have HV : Hid (openV log ix = _) := openV_err (by rw [HBE3.out, if_pos hh]) (by decide)
        rw [if_neg (by decide)]
        clear HBE3 HOV hh
        obtain ⟨⟨r0, r1, r2, r3, r4, r5, r6, r7, r8, r9⟩, rf, hB, hz⟩ := hB3
        have HB : Hid (Below w.heap.size w w3) := hB
        have f0 := rf 0
        have f1 := rf 1
        have f2 := rf 2
        have f3 := rf 3
        have f4 := rf 4
        have f5 := rf 5
        have f6 := rf 6
        have f7 := rf 7
        have f8 := rf 8
        have f9 := rf 9
        have hne : w.heap.size ≠ w3.heap.size := by omega
        have hne2 : w3.heap.size ≠ w.heap.size := by omega
        clear rf hB
        go_wp2
        exact bodyPost_ret (v := .tuple #[.agg #[.string ⟨#[]⟩, .int .i64 0, .int .i64 0, .int .i64 0, .int .i64 0, .int .i64 0, .int .i64 0, .int .i64 0, .int .i64 0, .string ⟨#[]⟩], .int .i64 3]) (by simp [results, Tryz.results81, go_sem, r0, r1, r2, r3, r4, r5, r6, r7, r8, r9, hz]) rfl ⟨by rw [HV.out], ((((((((((HB.out.setCell (Nat.le_refl _) _).setCell (Nat.le_refl _) _).setCell (Nat.le_refl _) _).setCell (Nat.le_refl _) _).setCell (Nat.le_refl _) _).setCell (Nat.le_refl _) _).setCell (Nat.le_refl _) _).setCell (Nat.le_refl _) _).setCell (Nat.le_refl _) _).setCell (Nat.le_refl _) _).alloc (by simp; omega) _⟩
      · have HV : Hid (openV log ix = _) := HOV.out (by rw [HBE3.out, if_neg (by rw [hh]; decide)])
        rw [if_pos rfl]
        clear HBE3 HOV hh
        generalize hdBlk log.data.toList = bk at *
        generalize hdSeed log.data.toList = sdn at *
        generalize hdBits log.data.toList = btn at *
        obtain ⟨⟨r0, r1, r2, r3, r4, r5, r6, r7, r8, r9⟩, rf, hB, hz⟩ := hB3
        have HB : Hid (Below w.heap.size w w3) := hB
        have f0 := rf 0
        have f1 := rf 1
        have f2 := rf 2
        have f3 := rf 3
        have f4 := rf 4
        have f5 := rf 5
        have f6 := rf 6
        have f7 := rf 7
        have f8 := rf 8
        have f9 := rf 9
        have n1 : w.heap.size ≠ w3.heap.size := by omega
        have n2 : w3.heap.size ≠ w.heap.size := by omega
        have n3 : w1.heap.size ≠ w3.heap.size := by omega
        have n4 : w3.heap.size ≠ w1.heap.size := by omega
        have n5 : w.heap.size ≠ w1.heap.size := by omega
        have n6 : w1.heap.size ≠ w.heap.size := by omega
        clear rf hB
        go_wp2
        exact bodyPost_ret (v := .tuple #[viewV log bk sdn btn xl xn xf xs xm body, .int .i64 0]) (by simp [results, Tryz.results81, go_sem, r0, r1, r2, r3, r4, r5, r6, r7, r8, r9, hz, viewV]) rfl ⟨by rw [HV.out], ((((((((((HB.out.setCell (Nat.le_refl _) _).setCell (Nat.le_refl _) _).setCell (Nat.le_refl _) _).setCell (Nat.le_refl _) _).setCell (Nat.le_refl _) _).setCell (Nat.le_refl _) _).setCell (Nat.le_refl _) _).setCell (Nat.le_refl _) _).setCell (Nat.le_refl _) _).setCell (Nat.le_refl _) _).alloc (by simp; omega) _⟩
end Go.Proofs.YtdhgebdbiehchaaGreatDoor
namespace Go.Proofs.YtdhgebdbiehchaaGreatDoor
open Go.RowKit
set_option linter.unusedSimpArgs false
set_option linter.unusedVariables false

def slotV (l : List UInt8) : Value := .agg #[.int .u8 ((l.getD 0 0).toNat : Int), .int .i64 (highL ((l.drop 1).take 4) : Nat), .int .i64 (highL ((l.drop 5).take 4) : Nat), .int .i64 ((l.getD 9 0).toNat : Int)]

set_option maxRecDepth 100000 in
set_option maxHeartbeats 3200000 in
theorem slot_any (log body : ByteArray) (bk sd bt xl n xf xs xm a : Nat) (w : World) (hn : 0 < n) (hn2 : n ≤ 65536) (hbody : body.size = 10 * n) (ha : a ≤ 8589934592) :
    Calls Tryz.prog 141 #[viewV log bk sd bt xl n xf xs xm body, .int .i64 a] w fun e w' => e = .returned (slotV ((body.data.toList.drop (10 * (a % n))).take 10)) ∧ Below w.heap.size w w' := by
  have hqn : a % n < n := Nat.mod_lt _ hn
  have hmod : (a : Int) % (n : Int) = ((a % n : Nat) : Int) := by simp
  have htm : (a : Int).tmod (n : Int) = ((a % n : Nat) : Int) := rfl
  have hne : ¬ n = 0 := by omega
  generalize a % n = q at *
  have hx := cut_run body (10 * q) 10 (by omega) ((q : Int) * 10) ((q : Int) * 10 + 10) (by omega) (by omega)
  obtain ⟨s, hs⟩ : ∃ s, s = S ((body.data.toList.drop (10 * q)).take 10) := ⟨_, rfl⟩
  rw [← hs] at hx
  have hsz : s.size = 10 := by rw [hs, S_size]; simp; omega
  have HL : Hid ((body.data.toList.drop (10 * q)).take 10 = s.data.toList) := by show _ = _; rw [hs, S_data]
  clear hs hbody
  have z0 : s.data.toList.getD 0 0 = s[0] := by
    rw [List.getD, List.getElem?_eq_getElem (by simp; omega)]; rfl
  have z9 : s.data.toList.getD 9 0 = s[9] := by
    rw [List.getD, List.getElem?_eq_getElem (by simp; omega)]; rfl
  have HV : Hid (slotV s.data.toList = .agg #[.int .u8 (s[0].toNat : Int), .int .i64 (highL ((s.data.toList.drop 1).take 4) : Nat), .int .i64 (highL ((s.data.toList.drop 5).take 4) : Nat), .int .i64 (s[9].toNat : Int)]) := by
    show _ = _
    rw [slotV, z0, z9]
  clear z0 z9
  have c15 := cut_run s 1 4 (by omega) 1 5 rfl rfl
  have c59 := cut_run s 5 4 (by omega) 5 9 rfl rfl
  have x0 := idx_run s 0 (by omega) 0 rfl
  have x9 := idx_run s 9 (by omega) 9 rfl
  have hw9 : IntKind.i64.wrap (s[9].toNat : Int) = (s[9].toNat : Int) := by
    have := s[9].toNat_lt
    rw [IntKind.wrap_i64]; omega
  have hb0 := s[0].toNat_lt
  have hb9 := s[9].toNat_lt
  obtain ⟨s1, hs1⟩ : ∃ t, t = S ((s.data.toList.drop 1).take 4) := ⟨_, rfl⟩
  obtain ⟨s5, hs5⟩ : ∃ t, t = S ((s.data.toList.drop 5).take 4) := ⟨_, rfl⟩
  rw [← hs1] at c15
  rw [← hs5] at c59
  have L1 : Hid (∀ wx : World, Calls Tryz.prog 145 #[.string s1] wx fun e w' => e = .returned (.int .i64 (highL ((s.data.toList.drop 1).take 4) : Nat)) ∧ w' = wx) := fun wx => by
    have := lowRead_any s1 wx (by rw [hs1, S_size]; simp; omega)
    rw [hs1, S_data] at this
    rw [hs1]; exact this
  have L5 : Hid (∀ wx : World, Calls Tryz.prog 145 #[.string s5] wx fun e w' => e = .returned (.int .i64 (highL ((s.data.toList.drop 5).take 4) : Nat)) ∧ w' = wx) := fun wx => by
    have := lowRead_any s5 wx (by rw [hs5, S_size]; simp; omega)
    rw [hs5, S_data] at this
    rw [hs5]; exact this
  clear hs1 hs5
  generalize highL ((s.data.toList.drop 1).take 4) = v1 at *
  generalize highL ((s.data.toList.drop 5).take 4) = v5 at *
  unfold viewV
  go_enter Tryz.func141, Tryz.ntmps141
  go_wp2_with fail
  go_region_held3 (fun w' => w.heap.size ≤ w'.heap.size) (first | (simp; done) | (simp; omega)) (first | (go_at_call_of 145 (Value.string s1); refine (L1.out _).mono ?_; rintro e w' ⟨rfl, rfl⟩) | (go_at_call_of 145 (Value.string s5); refine (L5.out _).mono ?_; rintro e w' ⟨rfl, rfl⟩))
  all_goals
    go_wp2
    exact bodyPost_ret (v := .agg #[.int .u8 (s[0].toNat : Int), .int .i64 (v1 : Int), .int .i64 (v5 : Int), .int .i64 (s[9].toNat : Int)]) (by simp [results, Tryz.results141, go_sem, hw9]) rfl ⟨by rw [HL.out, HV.out], (((Below.refl _ _).alloc (Nat.le_refl _) _).alloc (by simp) _).drew⟩
end Go.Proofs.YtdhgebdbiehchaaGreatDoor
namespace Go.Proofs.YtdhgebdbiehchaaGreatDoor
open Go.RowKit
set_option linter.unusedSimpArgs false
set_option linter.unusedVariables false

/-- The item that a block has at a number, if that is a put. -/
def itemAt (r : Option (List Ent × Nat)) (no : Nat) : Option Ent := match r with
  | none => none
  | some (es, _) => match es[no]? with
    | none => none
    | some e => if e.put = true then some e else none
def itemV (r : Option Ent) : Value := match r with
  | none => .tuple #[.agg #[.string ⟨#[]⟩, .string ⟨#[]⟩], .bool false]
  | some e => .tuple #[.agg #[.string (S e.key), .string (S e.val)], .bool true]

/-- The result's box and the place's. -/
def AtBoxes (w : World) (no : Nat) (W : World) : Prop := (W.cell? ⟨w.heap.size + 1, 1, none⟩ = some (.int .i64 no) ∧ W.cell? ⟨w.heap.size + 1 + 1, 0, none⟩ = some (.string ⟨#[]⟩) ∧ W.cell? ⟨w.heap.size + 1 + 1, 1, none⟩ = some (.string ⟨#[]⟩)) ∧ (∀ i, W.frozen? ⟨w.heap.size + 1 + 1, i, none⟩ = false) ∧ Below w.heap.size w W ∧ w.heap.size + 1 + 1 < W.heap.size
theorem AtBoxes.below {w W W' : World} {no : Nat} (h : AtBoxes w no W) (hb : Below W.heap.size W W') : AtBoxes w no W' := by
  obtain ⟨⟨h0, h1, h2⟩, hf, hB, hz⟩ := h
  have hz0 : w.heap.size + 1 < W.heap.size := by omega
  exact ⟨⟨(hb.cell (p := ⟨w.heap.size + 1, 1, none⟩) hz0).trans h0, (hb.cell (p := ⟨w.heap.size + 1 + 1, 0, none⟩) hz).trans h1, (hb.cell (p := ⟨w.heap.size + 1 + 1, 1, none⟩) hz).trans h2⟩, fun i => (hb.frozen (p := ⟨w.heap.size + 1 + 1, i, none⟩) hz).trans (hf i), hB.trans (hb.mono hB.size), Nat.lt_of_lt_of_le hz hb.size⟩
theorem atBoxes_new (w : World) (blk seed bits : Int) (a no : Nat) : AtBoxes w no (((w.alloc (.cells #[.int .i64 blk, .int .i64 seed, .int .i64 bits] 29)).alloc (.cells #[.int .i64 a, .int .i64 no] 165)).alloc (.cells #[.string ⟨#[]⟩, .string ⟨#[]⟩] 54)) := by
  have z1 : (w.alloc (.cells #[.int .i64 blk, .int .i64 seed, .int .i64 bits] 29)).heap.size = w.heap.size + 1 := by simp
  have z2 : ((w.alloc (.cells #[.int .i64 blk, .int .i64 seed, .int .i64 bits] 29)).alloc (.cells #[.int .i64 (a : Int), .int .i64 (no : Int)] 165)).heap.size = w.heap.size + 1 + 1 := by simp
  have c1 : ((w.alloc (.cells #[.int .i64 blk, .int .i64 seed, .int .i64 bits] 29)).alloc (.cells #[.int .i64 (a : Int), .int .i64 (no : Int)] 165)).cell? ⟨w.heap.size + 1, 1, none⟩ = some (.int .i64 no) := by
    generalize w.alloc (.cells #[.int .i64 blk, .int .i64 seed, .int .i64 bits] 29) = X at z1
    rw [← z1]; simp
  have hBl : Below w.heap.size w ((w.alloc (.cells #[.int .i64 blk, .int .i64 seed, .int .i64 bits] 29)).alloc (.cells #[.int .i64 (a : Int), .int .i64 (no : Int)] 165)) := ((Below.refl _ _).alloc (Nat.le_refl _) _).alloc (by simp) _
  generalize (w.alloc (.cells #[.int .i64 blk, .int .i64 seed, .int .i64 bits] 29)).alloc (.cells #[.int .i64 (a : Int), .int .i64 (no : Int)] 165) = Y at *
  have hA := (Below.refl Y.heap.size Y).alloc (Nat.le_refl _) (.cells #[.string ⟨#[]⟩, .string ⟨#[]⟩] 54)
  refine ⟨⟨?_, ?_, ?_⟩, fun i => ?_, hBl.alloc (by omega) _, by simp; omega⟩
  · exact (hA.cell (p := ⟨w.heap.size + 1, 1, none⟩) (by show w.heap.size + 1 < _; omega)).trans c1
  · rw [← z2]; simp
  · rw [← z2]; simp
  · rw [← z2]; simp

set_option maxRecDepth 100000 in
set_option maxHeartbeats 3200000 in
theorem readAt_any (log : ByteArray) (a no : Nat) (blk seed bits : Int) (w : World) (hlog : log.size ≤ 140737488351232) (ha : a ≤ 4294967296) (hno : no ≤ 255) (hH : HalvesAt w) :
    Calls Tryz.prog 142 #[.string log, .agg #[.int .i64 blk, .int .i64 seed, .int .i64 bits], .agg #[.int .i64 a, .int .i64 no]] w fun e w' => e = .returned (itemV (itemAt (blockP log.data.toList a blk) no)) ∧ Below w.heap.size w w' := by
  have hBX := atBoxes_new w blk seed bits a no
  have hHX : HalvesAt (((w.alloc (.cells #[.int .i64 blk, .int .i64 seed, .int .i64 bits] 29)).alloc (.cells #[.int .i64 (a : Int), .int .i64 (no : Int)] 165)).alloc (.cells #[.string ⟨#[]⟩, .string ⟨#[]⟩] 54)) := hH.below hBX.2.2.1 hH.1
  have HRB : Hid _ := readBlock_any log a blk seed bits _ hlog ha hHX
  clear hHX hH
  go_enter Tryz.func142, Tryz.ntmps142
  go_wp2_with fail
  refine Calls.mono HRB.out ?_
  rintro e w1 ⟨v, n, rfl, hBI, hb1⟩
  have hB1 := hBX.below hb1
  have hbk : ∀ es k, blockP log.data.toList a blk = some (es, k) → 1 ≤ es.length ∧ es.length ≤ 255 := fun es k h => ⟨(blockP_some h).2.2.1, (blockP_some h).2.2.2.1⟩
  clear hBX hb1 HRB
  generalize hr : blockP log.data.toList a blk = r at *
  have HR : Hid (blockP log.data.toList a blk = r) := hr
  clear hr
  obtain ⟨⟨e1, r0, r1⟩, rf, hB, hzz⟩ := hB1
  have f0 := rf 0
  have f1 := rf 1
  have HB : Hid (Below w.heap.size w w1) := hB
  have hn1 : w.heap.size + 1 + 1 ≠ w1.heap.size := by omega
  have hn2 : w1.heap.size ≠ w.heap.size + 1 + 1 := by omega
  have hlt1 : w.heap.size + 1 < w1.heap.size := by omega
  clear rf hB
  rcases r with _ | ⟨es, k⟩
  · obtain ⟨rfl, rfl⟩ := hBI
    clear hbk
    go_wp2
    exact bodyPost_ret (v := .tuple #[.agg #[.string ⟨#[]⟩, .string ⟨#[]⟩], .bool false]) (by simp [results, Tryz.results142, go_sem, r0, r1, hn1, hn2, hzz]) rfl ⟨by rw [HR.out]; rfl, ((HB.out.setCell (by show w.heap.size ≤ w.heap.size + 1 + 1; omega) _).setCell (by show w.heap.size ≤ w.heap.size + 1 + 1; omega) _).alloc (by simp; omega) _⟩
  · obtain ⟨rfl, hrow⟩ := hBI
    obtain ⟨k3, k4⟩ := hbk es k rfl
    obtain ⟨g, cap, rfl, hg0, hg1, hgc⟩ := own_cellsN hrow (by omega)
    clear hbk hrow
    by_cases hlt : no < es.length
    · have hce := cellsE_get hlt
      have y0 := (hgc (no * 3) (by omega)).trans hce.1
      have y1 := (hgc (no * 3 + 1) (by omega)).trans hce.2.1
      have y2 := (hgc (no * 3 + 2) (by omega)).trans hce.2.2
      have HI : Hid (itemAt (blockP log.data.toList a blk) no = if es[no].put = true then some es[no] else none) := by
        show _ = _
        rw [HR.out]
        simp only [itemAt, List.getElem?_eq_getElem hlt]
      clear hce hgc HR
      generalize es[no] = en at *
      obtain ⟨put, ky, vl⟩ := en
      dsimp only at *
      have hgn : g ≠ w1.heap.size := by omega
      have hgn2 : w1.heap.size ≠ g := by omega
      cases put
      · go_wp2
        exact bodyPost_ret (v := .tuple #[.agg #[.string ⟨#[]⟩, .string ⟨#[]⟩], .bool false]) (by simp [results, Tryz.results142, go_sem, r0, r1, hn1, hn2, hzz]) rfl ⟨by rw [HI.out]; rfl, ((HB.out.setCell (by show w.heap.size ≤ w.heap.size + 1 + 1; omega) _).setCell (by show w.heap.size ≤ w.heap.size + 1 + 1; omega) _).alloc (by simp; omega) _⟩
      · go_wp2
        exact bodyPost_ret (v := .tuple #[.agg #[.string (S ky), .string (S vl)], .bool true]) (by simp [results, Tryz.results142, go_sem, r0, r1, hn1, hn2, hzz]) rfl ⟨by rw [HI.out]; rfl, ((HB.out.setCell (by show w.heap.size ≤ w.heap.size + 1 + 1; omega) _).setCell (by show w.heap.size ≤ w.heap.size + 1 + 1; omega) _).alloc (by simp; omega) _⟩
    · have HI : Hid (itemAt (blockP log.data.toList a blk) no = none) := by
        show _ = _
        rw [HR.out]
        simp only [itemAt, List.getElem?_eq_none (Nat.le_of_not_lt hlt)]
      clear hgc HR
      go_wp2
      exact bodyPost_ret (v := .tuple #[.agg #[.string ⟨#[]⟩, .string ⟨#[]⟩], .bool false]) (by simp [results, Tryz.results142, go_sem, r0, r1, hn1, hn2, hzz]) rfl ⟨by rw [HI.out]; rfl, ((HB.out.setCell (by show w.heap.size ≤ w.heap.size + 1 + 1; omega) _).setCell (by show w.heap.size ≤ w.heap.size + 1 + 1; omega) _).alloc (by simp; omega) _⟩
end Go.Proofs.YtdhgebdbiehchaaGreatDoor
namespace Go.Proofs.YtdhgebdbiehchaaGreatDoor
open Go.RowKit
open Go.Shelf
set_option linter.unusedSimpArgs false
set_option linter.unusedVariables false

def Tryz.laysM316_ren : Go.Shelf.Ren := ⟨fun | 316 => 185 | n => n, fun | 9 => 9 | 3 => 3 | 4 => 4 | 37 => 43 | 0 => 0 | 127 => 310 | 5 => 5 | n => n, fun | n => n⟩
theorem Tryz.laysM316 : Go.Proofs.LaysM.n316 Tryz.prog Tryz.laysM316_ren := {
  mixed := by kernel_rfl,
  f316 := Tryz.func185.trans (congrArg some (by kernel_rfl)),
  t0 := Tryz.underlying0,
  a0 := Tryz.isAgg0,
  z0 := Tryz.sizeOf0,
  v0 := Tryz.zeroValue0,
  t3 := Tryz.underlying3,
  a3 := Tryz.isAgg3,
  z3 := Tryz.sizeOf3,
  v3 := Tryz.zeroValue3,
  t4 := Tryz.underlying4,
  a4 := Tryz.isAgg4,
  z4 := Tryz.sizeOf4,
  v4 := Tryz.zeroValue4,
  t9 := Tryz.underlying9,
  a9 := Tryz.isAgg9,
  z9 := Tryz.sizeOf9,
  v9 := Tryz.zeroValue9,
  t37 := Tryz.underlying43,
  a37 := Tryz.isAgg43,
  z37 := Tryz.sizeOf43,
  v37 := Tryz.zeroValue43,
  t127 := Tryz.underlying310,
  a127 := Tryz.isAgg310,
  z127 := Tryz.sizeOf310,
  v127 := Tryz.zeroValue310,
  t5 := Tryz.underlying5,
  a5 := Tryz.isAgg5,
  z5 := Tryz.sizeOf5,
  v5 := Tryz.zeroValue5,
  i0 := by kernel_rfl,
  i3 := by kernel_rfl,
  i4 := by kernel_rfl,
  i5 := by kernel_rfl,
  i9 := by kernel_rfl,
  i37 := by kernel_rfl,
  i127 := by kernel_rfl }

theorem cloneLite_any (s : ByteArray) (w : World) (hs : s.size ≤ 281474976710656) :
    Calls Tryz.prog 185 #[.string s] w fun e w' => e = .returned (.string s) ∧ Below w.heap.size w w' := Any.stringslite_Clone Tryz.laysM316 s w hs

set_option maxHeartbeats 400000 in
theorem clone_any (s : ByteArray) (w : World) (hs : s.size ≤ 281474976710656) :
    Calls Tryz.prog 143 #[.string s] w fun e w' => e = .returned (.string s) ∧ Below w.heap.size w w' := by
  go_enter Tryz.func143, Tryz.ntmps143
  go_wp2_with fail
  refine (cloneLite_any s _ hs).mono ?_
  rintro e w1 ⟨rfl, hb⟩
  go_wp2
  go_ret
  exact ⟨rfl, hb⟩
end Go.Proofs.YtdhgebdbiehchaaGreatDoor
namespace Go.Proofs.YtdhgebdbiehchaaGreatDoor
open Go.RowKit
set_option linter.unusedSimpArgs false
set_option linter.unusedVariables false

theorem ent1_val {l : List UInt8} {e : Ent} {n : Nat} (h : ent1 l = some (e, n)) : e.val.length ≤ 30 := by
  unfold ent1 at h
  split at h
  · rename_i kd k v r
    split at h
    · cases h
    · rename_i hc
      split at h
      · simp at h; obtain ⟨rfl, _⟩ := h; simp; omega
      · split at h
        · simp at h; obtain ⟨rfl, _⟩ := h; simp
        · cases h
  · cases h
theorem entsF_vals (n : Nat) (l : List UInt8) (es : List Ent) (h : entsF n l = some es) : ∀ e ∈ es, e.val.length ≤ 30 := by
  induction n generalizing l es with
  | zero =>
    rw [entsF] at h
    split at h
    · cases h; simp
    · cases h
  | succ n ih =>
    rw [entsF] at h
    split at h
    · cases h; simp
    · cases he : ent1 l with
      | none => rw [he] at h; cases h
      | some x =>
        obtain ⟨e, m⟩ := x
        rw [he] at h
        simp only at h
        cases hx : entsF n (l.drop m) with
        | none => rw [hx] at h; cases h
        | some y =>
          rw [hx] at h
          cases h
          intro z hz
          rcases List.mem_cons.1 hz with rfl | hz
          · exact ent1_val he
          · exact ih _ _ hx z hz
theorem blockP_vals {log : List UInt8} {a : Nat} {blk : Int} {es : List Ent} {k : Nat} (h : blockP log a blk = some (es, k)) : ∀ e ∈ es, e.val.length ≤ 30 := by
  unfold blockP at h
  split at h
  · cases h
  · split at h
    · cases h
    · unfold blkTail at h
      split at h
      · rename_i es' hes
        split at h
        · cases h
        · simp only [Option.some.injEq, Prod.mk.injEq] at h
          obtain ⟨rfl, _⟩ := h
          exact entsF_vals _ _ _ hes
      · cases h
theorem itemAt_val {log : List UInt8} {a no : Nat} {blk : Int} {e : Ent} (h : itemAt (blockP log a blk) no = some e) : e.val.length ≤ 30 := by
  cases hb : blockP log a blk with
  | none => rw [hb] at h; cases h
  | some x =>
    obtain ⟨es, k⟩ := x
    rw [hb] at h
    simp only [itemAt] at h
    cases hn : es[no]? with
    | none => rw [hn] at h; cases h
    | some e' =>
      rw [hn] at h
      simp only at h
      split at h
      · cases h
        exact blockP_vals hb _ (List.mem_of_getElem? hn)
      · cases h
theorem entStep_item (key : List UInt8) (k : Nat) (r : Option (List Ent × Nat)) (no : Nat) : entStep key k r no = match itemAt r no with
    | none => some ⟨[], 0, 3⟩
    | some e => if e.key = key then some ⟨e.val, k + 1, 0⟩ else none := by
  unfold entStep itemAt
  rcases r with _ | ⟨es, m⟩
  · rfl
  · simp only
    cases es[no]? with
    | none => rfl
    | some e =>
      simp only
      cases hp : e.put <;> simp
theorem body_slot {ix : List UInt8} {n q : Nat} (hq : q < n) : (((ix.drop 20).take (10 * n)).drop (10 * q)).take 10 = slotL ix q := by
  unfold slotL
  rw [List.drop_take, List.drop_drop, List.take_take]
  congr 1
  omega

/-- The view, in its box. -/
def ViewAt (w W : World) (log : ByteArray) (bk sd bt xl n xf xs xm : Nat) (body : ByteArray) : Prop := (W.cell? ⟨w.heap.size, 0, none⟩ = some (.string log) ∧ W.cell? ⟨w.heap.size, 1, none⟩ = some (.int .i64 bk) ∧ W.cell? ⟨w.heap.size, 2, none⟩ = some (.int .i64 sd) ∧ W.cell? ⟨w.heap.size, 3, none⟩ = some (.int .i64 bt) ∧ W.cell? ⟨w.heap.size, 4, none⟩ = some (.int .i64 xl) ∧ W.cell? ⟨w.heap.size, 5, none⟩ = some (.int .i64 n) ∧ W.cell? ⟨w.heap.size, 6, none⟩ = some (.int .i64 xf) ∧ W.cell? ⟨w.heap.size, 7, none⟩ = some (.int .i64 xs) ∧ W.cell? ⟨w.heap.size, 8, none⟩ = some (.int .i64 xm) ∧ W.cell? ⟨w.heap.size, 9, none⟩ = some (.string body)) ∧ Below w.heap.size w W ∧ w.heap.size < W.heap.size
theorem ViewAt.below {w W W' : World} {log : ByteArray} {bk sd bt xl n xf xs xm : Nat} {body : ByteArray} (h : ViewAt w W log bk sd bt xl n xf xs xm body) (hb : Below W.heap.size W W') : ViewAt w W' log bk sd bt xl n xf xs xm body := by
  obtain ⟨⟨h0, h1, h2, h3, h4, h5, h6, h7, h8, h9⟩, hB, hz⟩ := h
  exact ⟨⟨(hb.cell (p := ⟨w.heap.size, 0, none⟩) hz).trans h0, (hb.cell (p := ⟨w.heap.size, 1, none⟩) hz).trans h1, (hb.cell (p := ⟨w.heap.size, 2, none⟩) hz).trans h2, (hb.cell (p := ⟨w.heap.size, 3, none⟩) hz).trans h3, (hb.cell (p := ⟨w.heap.size, 4, none⟩) hz).trans h4, (hb.cell (p := ⟨w.heap.size, 5, none⟩) hz).trans h5, (hb.cell (p := ⟨w.heap.size, 6, none⟩) hz).trans h6, (hb.cell (p := ⟨w.heap.size, 7, none⟩) hz).trans h7, (hb.cell (p := ⟨w.heap.size, 8, none⟩) hz).trans h8, (hb.cell (p := ⟨w.heap.size, 9, none⟩) hz).trans h9⟩, hB.trans (hb.mono (Nat.le_of_lt hz)), Nat.lt_of_lt_of_le hz hb.size⟩
theorem viewAt_new (w : World) (t : TypeId) (log : ByteArray) (bk sd bt xl n xf xs xm : Nat) (body : ByteArray) : ViewAt w (w.alloc (.cells #[.string log, .int .i64 bk, .int .i64 sd, .int .i64 bt, .int .i64 xl, .int .i64 n, .int .i64 xf, .int .i64 xs, .int .i64 xm, .string body] t)) log bk sd bt xl n xf xs xm body :=
  ⟨⟨by simp, by simp, by simp, by simp, by simp, by simp, by simp, by simp, by simp, by simp⟩, (Below.refl _ _).alloc (Nat.le_refl _) _, by simp⟩

set_option maxRecDepth 100000 in
set_option maxHeartbeats 3200000 in
theorem viewLook_any (log ix key : ByteArray) (w : World) (hlog : log.size ≤ 140737488351232) (hix : ix.size ≤ 140737488351232) (hkey : key.size ≤ 140737488351232) (hH : HalvesAt w) (he : beginsE log.data.toList ix.data.toList = 0) :
    Calls Tryz.prog 82 #[viewV log (hdBlk log.data.toList) (hdSeed log.data.toList) (hdBits log.data.toList) (ixLive ix.data.toList) (ixN ix.data.toList) (ixFar ix.data.toList) (ixSize ix.data.toList) (ixSum ix.data.toList) (S ((ix.data.toList.drop 20).take (10 * ixN ix.data.toList))), .string key] w fun e w' => e = .returned (ansV (lookS log.data.toList ix.data.toList key.data.toList)) ∧ Below w.heap.size w w' := by
  have hlen : ix.data.toList.length = ix.size := by simp
  obtain ⟨g1, g2, g3⟩ := begins_zero he
  obtain ⟨⟨v0, v1⟩, v2, v3⟩ := head_well g3
  have hfar : ixFar ix.data.toList < 65536 := by
    have := highL_lt ((ix.data.toList.drop 6).take 2)
    have h4 := pow256_le (show ((ix.data.toList.drop 6).take 2).length ≤ 2 by simp; omega)
    unfold ixFar; omega
  have hnn : ixN ix.data.toList < 65536 := by
    have := highL_lt ((ix.data.toList.drop 4).take 2)
    have h4 := pow256_le (show ((ix.data.toList.drop 4).take 2).length ≤ 2 by simp; omega)
    unfold ixN; omega
  obtain ⟨r0, r1⟩ := numberI_range (hdSeed log.data.toList) (hdBits log.data.toList) key.data.toList (by omega) v3
  have HL : Hid (lookS log.data.toList ix.data.toList key.data.toList = lookGo log.data.toList ix.data.toList key.data.toList (numberI (hdSeed log.data.toList) (hdBits log.data.toList) key.data.toList).toNat (ixN ix.data.toList) (hdBlk log.data.toList) (ixFar ix.data.toList + 1) 0) := by
    show _ = _
    rw [lookS, if_pos he]
  have hnum := recNumber_any (hdBlk log.data.toList) (hdSeed log.data.toList) (hdBits log.data.toList) key
  obtain ⟨W, hW⟩ := Int.eq_ofNat_of_zero_le r0
  rw [hW] at hnum r0 r1 HL
  rw [Int.toNat_natCast] at HL
  have HNUM : Hid _ := hnum
  have hbz : (S ((ix.data.toList.drop 20).take (10 * ixN ix.data.toList))).size = 10 * ixN ix.data.toList := by
    rw [S_size]; simp; omega
  have HBS : Hid (∀ q, q < ixN ix.data.toList → ((S ((ix.data.toList.drop 20).take (10 * ixN ix.data.toList))).data.toList.drop (10 * q)).take 10 = slotL ix.data.toList q) := fun q hq => by
    rw [S_data]; exact body_slot hq
  have HH : Hid (HalvesAt w) := hH
  clear he g3 hnum hW g1 hlen hH
  generalize S ((ix.data.toList.drop 20).take (10 * ixN ix.data.toList)) = body at *
  generalize hdBlk log.data.toList = B at *
  generalize hdSeed log.data.toList = sd at *
  generalize hdBits log.data.toList = bt at *
  generalize ixFar ix.data.toList = far at *
  generalize ixN ix.data.toList = n at *
  generalize ixLive ix.data.toList = xl at *
  generalize ixSize ix.data.toList = xs at *
  generalize ixSum ix.data.toList = xm at *
  have hV0 := viewAt_new w 141 log B sd bt xl n far xs xm body
  have HSLOT : Hid (∀ (k : Nat) (wx : World), k ≤ 65536 → Calls Tryz.prog 141 #[viewV log B sd bt xl n far xs xm body, .int .i64 ((W : Int) + (k : Int))] wx fun e w' => e = .returned (slotV (slotL ix.data.toList ((W + k) % n))) ∧ Below wx.heap.size wx w') := fun k wx hk => by
    have := slot_any log body B sd bt xl n far xs xm (W + k) wx (by omega) (by omega) hbz (by omega)
    rw [HBS.out _ (Nat.mod_lt _ (by omega))] at this
    exact this
  unfold viewV
  go_enter Tryz.func82, Tryz.ntmps82
  go_wp2_with fail
  refine (HNUM.out _ (by omega) (by omega) (by omega) (by omega) (by omega)).mono ?_
  rintro e w1 ⟨rfl, hb1⟩
  have hV1 := hV0.below hb1
  clear hV0 hb1 HNUM HBS
  have HV1 : Hid (ViewAt w w1 log B sd bt xl n far xs xm body) := hV1
  have c6 := hV1.1.2.2.2.2.2.2.1
  clear hV1
  go_wp2
  go_loopw [22] (fun i wr => ∃ (k : Nat), k ≤ far + 1 ∧ i = .int .i64 k ∧ ViewAt w wr log B sd bt xl n far xs xm body ∧ Hid (lookS log.data.toList ix.data.toList key.data.toList = lookGo log.data.toList ix.data.toList key.data.toList W n B (far + 1 - k) k)) (fun i _ => far + 1 - (intOf i).toNat)
  case atStart => exact ⟨0, by omega, rfl, HV1.out, HL⟩
  case round =>
    obtain ⟨k, hk, rfl, hV, HK⟩ := hrel
    obtain ⟨W1, rfl⟩ : ∃ W1, W1 = wr := ⟨_, rfl⟩
    clear HL HV1 c6
    have hB0 := hV.2.1
    by_cases hlt : k < far + 1
    · have hkk : far + 1 - k = (far - k) + 1 := by omega
      have HK2 : Hid (∀ a, slotStep log.data.toList key.data.toList W B k (slotL ix.data.toList ((W + k) % n)) = some a → lookS log.data.toList ix.data.toList key.data.toList = a) := fun a h => by rw [HK.out, hkk, lookGo_some h]
      have HK3 : Hid (slotStep log.data.toList key.data.toList W B k (slotL ix.data.toList ((W + k) % n)) = none → lookS log.data.toList ix.data.toList key.data.toList = lookGo log.data.toList ix.data.toList key.data.toList W n B (far + 1 - (k + 1)) (k + 1)) := fun h => by rw [HK.out, hkk, lookGo_none h, show far + 1 - (k + 1) = far - k by omega]
      have HC : Hid _ := HSLOT.out k W1 (by omega)
      obtain ⟨⟨h0, h1, h2, h3, h4, h5, h6, h7, h8, h9⟩, hB, hz⟩ := hV
      have HV : Hid (ViewAt w W1 log B sd bt xl n far xs xm body) := ⟨⟨h0, h1, h2, h3, h4, h5, h6, h7, h8, h9⟩, hB, hz⟩
      have hWk : W + k ≤ 4295032833 := by omega
      have hk6 : k ≤ 65536 := by omega
      have HLG : Hid (log.size ≤ 140737488351232) := hlog
      clear HK HSLOT hkk hB0 hB v0 v1 v2 v3 g2 r0 r1 hfar hnn hix hkey hk hbz hlog
      go_wp2_with fail
      refine Calls.mono HC.out ?_
      rintro e w2 ⟨rfl, hb2⟩
      have HV2 : Hid (ViewAt w w2 log B sd bt xl n far xs xm body) := HV.out.below hb2
      have HB2 : Hid (Below w.heap.size w w2) := HV2.out.2.1
      clear h0 h1 h2 h3 h4 h5 h6 h7 h8 h9 hz hb2 HC HV
      generalize slotL ix.data.toList ((W + k) % n) = L at *
      have HST : Hid (slotStep log.data.toList key.data.toList W B k L = if (L.getD 0 0).toNat = 0 then some ⟨[], k + 1, 2⟩ else if (L.getD 0 0).toNat ≠ 1 ∨ highL ((L.drop 1).take 4) ≠ W then none else entStep key.data.toList k (blockP log.data.toList (highL ((L.drop 5).take 4)) B) (L.getD 9 0).toNat) := rfl
      have hp4 : highL ((L.drop 5).take 4) < 4294967296 := highL4 _ (by simp; omega)
      have hn4 : highL ((L.drop 1).take 4) < 4294967296 := highL4 _ (by simp; omega)
      have hd1 := (L.getD 0 0).toNat_lt
      have hd9 := (L.getD 9 0).toNat_lt
      unfold slotV
      generalize (L.getD 0 0).toNat = kd at *
      generalize (L.getD 9 0).toNat = no at *
      generalize highL ((L.drop 1).take 4) = nm at *
      generalize highL ((L.drop 5).take 4) = pl at *
      obtain ⟨⟨h0, h1, h2, h3, h4, h5, h6, h7, h8, h9⟩, hB, hz⟩ := HV2.out
      have hn1 : w.heap.size ≠ w2.heap.size := by omega
      have hn2 : w2.heap.size ≠ w.heap.size := by omega
      clear hB
      by_cases e0 : kd = 0
      · have t0 : ((kd : Int) == 0) = true := by rw [beq_iff_eq]; omega
        have HR : Hid (lookS log.data.toList ix.data.toList key.data.toList = ⟨[], k + 1, 2⟩) := HK2.out _ (by rw [HST.out, if_pos e0])
        clear HK2 HK3 HST e0
        go_wp2
        go_ret3
        exact ⟨by rw [HR.out]; rfl, HB2.out.alloc (by omega) _⟩
      · have t0 : ((kd : Int) == 0) = false := by rw [beq_eq_false_iff_ne]; omega
        by_cases e1 : kd ≠ 1 ∨ nm ≠ W
        · have HR : Hid (lookS log.data.toList ix.data.toList key.data.toList = lookGo log.data.toList ix.data.toList key.data.toList W n B (far + 1 - (k + 1)) (k + 1)) := HK3.out (by rw [HST.out, if_neg e0, if_pos e1])
          clear HK2 HK3 HST e0
          rcases (show kd ≠ 1 ∨ (kd = 1 ∧ nm ≠ W) from by omega) with e2 | ⟨e2, e3⟩
          · have t1 : ((kd : Int) != 1) = true := by rw [bne_iff_ne]; omega
            clear e1 e2
            go_wp2
            go_roundw
            case rel => exact ⟨k + 1, by omega, by first | rfl | go_num, HV2.out.below ((Below.refl _ _).alloc (Nat.le_refl _) _), HR⟩
            case measure => first | (simp [intOf]; omega) | (simp [intOf])
          · have t1 : ((kd : Int) != 1) = false := by rw [bne_eq_false_iff_eq]; omega
            have t2 : ((nm : Int) != (W : Int)) = true := by rw [bne_iff_ne]; omega
            clear e1 e2 e3
            go_wp2
            go_roundw
            case rel => exact ⟨k + 1, by omega, by first | rfl | go_num, HV2.out.below ((Below.refl _ _).alloc (Nat.le_refl _) _), HR⟩
            case measure => first | (simp [intOf]; omega) | (simp [intOf])
        · have t1 : ((kd : Int) != 1) = false := by rw [bne_eq_false_iff_eq]; omega
          have t2 : ((nm : Int) != (W : Int)) = false := by rw [bne_eq_false_iff_eq]; omega
          have HST2 : Hid (slotStep log.data.toList key.data.toList W B k L = match itemAt (blockP log.data.toList pl B) no with
            | none => some ⟨[], 0, 3⟩
            | some e => if e.key = key.data.toList then some ⟨e.val, k + 1, 0⟩ else none) := by
            show _ = _
            rw [HST.out, if_neg e0, if_neg e1, entStep_item]
          have hval : ∀ e, itemAt (blockP log.data.toList pl B) no = some e → e.val.length ≤ 30 := fun e h => itemAt_val h
          have hVX := HV2.out.below ((Below.refl w2.heap.size w2).alloc (Nat.le_refl _) (.cells #[.int .u8 (kd : Int), .int .i64 (nm : Int), .int .i64 (pl : Int), .int .i64 (no : Int)] 175))
          have HRA : Hid _ := readAt_any log pl no B sd bt _ HLG.out (by omega) (by omega) (HH.out.below hVX.2.1 HH.out.1)
          clear HST e0 e1
          go_wp2_with fail
          refine Calls.mono HRA.out ?_
          rintro e w3 ⟨rfl, hb3⟩
          have hV3 := hVX.below hb3
          have HV3 : Hid (ViewAt w w3 log B sd bt xl n far xs xm body) := hV3
          clear hVX hb3 HRA
          have hz3 := hV3.2.2
          clear hV3 h0 h1 h2 h3 h4 h5 h6 h7 h8 h9
          generalize itemAt (blockP log.data.toList pl B) no = it at *
          rcases it with _ | en
          · have HR : Hid (lookS log.data.toList ix.data.toList key.data.toList = ⟨[], 0, 3⟩) := HK2.out _ HST2.out
            clear HK2 HK3 HST2 hval
            unfold itemV
            go_wp2
            go_ret3
            exact ⟨by rw [HR.out]; rfl, HV3.out.2.1.alloc (by omega) _⟩
          · have hvl := hval en rfl
            obtain ⟨put, ky, vl⟩ := en
            dsimp only at hvl
            unfold itemV
            have hvs : (S vl).size ≤ 281474976710656 := by rw [S_size]; omega
            clear hval hvl
            dsimp only
            by_cases e5 : ky = key.data.toList
            · have t5 : ((S ky).toList == key.toList) = true := by rw [ByteArray.toList_eq, ByteArray.toList_eq, S_data, e5]; simp
              have HR : Hid (lookS log.data.toList ix.data.toList key.data.toList = ⟨vl, k + 1, 0⟩) := HK2.out _ (by rw [HST2.out]; exact if_pos e5)
              clear HK2 HK3 HST2 e5
              go_wp2_with fail
              refine (clone_any (S vl) _ hvs).mono ?_
              rintro e w4 ⟨rfl, hb4⟩
              go_wp2
              go_ret3
              exact ⟨by rw [HR.out]; rfl, (HV3.out.2.1.alloc (by omega) _).trans (hb4.mono (by simp; omega))⟩
            · have t5 : ((S ky).toList == key.toList) = false := by rw [ByteArray.toList_eq, ByteArray.toList_eq, S_data, beq_eq_false_iff_ne]; exact e5
              have HR : Hid (lookS log.data.toList ix.data.toList key.data.toList = lookGo log.data.toList ix.data.toList key.data.toList W n B (far + 1 - (k + 1)) (k + 1)) := HK3.out (by rw [HST2.out]; exact if_neg e5)
              clear HK2 HK3 HST2 e5
              go_wp2
              go_roundw
              case rel => exact ⟨k + 1, by omega, by first | rfl | go_num, HV3.out.below ((Below.refl _ _).alloc (Nat.le_refl _) _), HR⟩
              case measure => first | (simp [intOf]; omega) | (simp [intOf])
    · have hke : k = far + 1 := by omega
      subst hke
      have HR : Hid (lookS log.data.toList ix.data.toList key.data.toList = ⟨[], far + 1, 2⟩) := by
        show _ = _
        rw [HK.out, Nat.sub_self]; rfl
      clear HK
      go_wp2
      go_ret3
      exact ⟨by rw [HR.out]; rfl, hB0⟩
end Go.Proofs.YtdhgebdbiehchaaGreatDoor
namespace Go.Proofs.YtdhgebdbiehchaaGreatDoor
open Go.RowKit
set_option linter.unusedSimpArgs false
set_option linter.unusedVariables false

set_option maxRecDepth 100000 in
set_option maxHeartbeats 1600000 in
theorem progLook_any (log ix key : ByteArray) (w : World) (hlog : log.size ≤ 140737488351232) (hix : ix.size ≤ 140737488351232) (hkey : key.size ≤ 140737488351232) (hH : HalvesAt w) :
    Calls Tryz.prog 47 #[.string log, .string ix, .string key] w fun e w' => e = .returned (ansV (lookS log.data.toList ix.data.toList key.data.toList)) ∧ Below w.heap.size w w' := by
  have HO : Hid _ := open_any log ix w hlog hix hH
  have HHW : Hid (HalvesAt w) := hH
  by_cases he : beginsE log.data.toList ix.data.toList = 0
  · have hov : openV log ix = .tuple #[viewV log (hdBlk log.data.toList) (hdSeed log.data.toList) (hdBits log.data.toList) (ixLive ix.data.toList) (ixN ix.data.toList) (ixFar ix.data.toList) (ixSize ix.data.toList) (ixSum ix.data.toList) (S ((ix.data.toList.drop 20).take (10 * ixN ix.data.toList))), .int .i64 0] := by rw [openV, if_pos he]
    have HLK : Hid (∀ wx : World, HalvesAt wx → _) := fun wx hx => viewLook_any log ix key wx hlog hix hkey hx he
    rw [hov] at HO
    clear hH he hov
    generalize S ((ix.data.toList.drop 20).take (10 * ixN ix.data.toList)) = body at *
    generalize hdBlk log.data.toList = B at *
    generalize hdSeed log.data.toList = sd at *
    generalize hdBits log.data.toList = bt at *
    generalize ixFar ix.data.toList = far at *
    generalize ixN ix.data.toList = n at *
    generalize ixLive ix.data.toList = xl at *
    generalize ixSize ix.data.toList = xs at *
    generalize ixSum ix.data.toList = xm at *
    generalize lookS log.data.toList ix.data.toList key.data.toList = an at *
    unfold viewV at HO HLK
    go_enter Tryz.func47, Tryz.ntmps47
    go_wp2_with fail
    refine Calls.mono HO.out ?_
    rintro e w1 ⟨rfl, hb1⟩
    go_wp2_with fail
    refine Calls.mono (HLK.out _ (HHW.out.below (hb1.alloc hb1.size _) HHW.out.1)) ?_
    rintro e w2 ⟨rfl, hb2⟩
    unfold ansV
    go_wp2
    go_ret3
    exact ⟨rfl, (hb1.alloc hb1.size _).trans (hb2.mono (by have := hb1.size; simp; omega))⟩
  · have hov := openV_err (log := log) (ix := ix) rfl he
    have HL : Hid (lookS log.data.toList ix.data.toList key.data.toList = ⟨[], 0, beginsE log.data.toList ix.data.toList⟩) := by
      show _ = _
      rw [lookS, if_neg he]
    rw [hov] at HO
    have ht : (beginsE log.data.toList ix.data.toList != 0) = true := by rw [bne_iff_ne]; exact he
    clear hH he hov
    generalize beginsE log.data.toList ix.data.toList = er at *
    go_enter Tryz.func47, Tryz.ntmps47
    go_wp2_with fail
    refine Calls.mono HO.out ?_
    rintro e w1 ⟨rfl, hb1⟩
    go_wp2
    go_ret3
    exact ⟨by rw [HL.out]; rfl, hb1.alloc hb1.size _⟩
end Go.Proofs.YtdhgebdbiehchaaGreatDoor
namespace Go.Proofs.YtdhgebdbiehchaaGreatDoor
open Go.RowKit
set_option linter.unusedSimpArgs false
set_option linter.unusedVariables false

theorem refLook_any (log ix key : ByteArray) (w : World) (hlog : log.size ≤ 140737488351232) (hix : ix.size ≤ 140737488351232) (hkey : key.size ≤ 140737488351232) :
    Calls Tryz.prog 116 #[.string log, .string ix, .string key] w fun e w' => e = .returned (ansV (lookS log.data.toList ix.data.toList key.data.toList)) ∧ Below w.heap.size w w' := by
  by_cases he : beginsE log.data.toList ix.data.toList = 0
  · exact refLook_ok log ix key w hlog hix hkey he
  · exact refLook_err log ix key w hlog hix he
theorem indexV_parts (r : Option (List UInt8)) : ∃ (s : List UInt8) (e : Int), indexV r = .tuple #[.string (S s), .int .i64 e] ∧ ∀ l, r = some l → s = l := by
  cases r with
  | none => exact ⟨[], 3, rfl, fun l h => by cases h⟩
  | some l => exact ⟨l, 0, rfl, fun l' h => by cases h; rfl⟩
theorem indexS_short {log l : List UInt8} (h : indexS log = some l) : l.length ≤ 60000 := by
  unfold indexS at h
  split at h
  · cases h
  split at h
  · cases h
  split at h
  · cases h
  split at h
  · cases h
  rename_i h4
  have h := Option.some.inj h
  subst h
  unfold indexB
  have := sizeL_bound (n := (liveL (readL log (hdBlk log) 14).1).length) (by omega)
  rw [List.length_append, sealL_length, sealL_length, frontB_length, tabB_length, show (tableOf (hdSeed log) (hdBits log) (liveL (readL log (hdBlk log) 14).1)).length = sizeL (liveL (readL log (hdBlk log) 14).1).length from fillL_length _ _]
  omega

set_option maxRecDepth 100000 in
set_option maxHeartbeats 1600000 in
theorem reads_index (o : OpV) (w : World) (hk : o.kind = 2) (hz : o.s.size ≤ 140737488351232) (hH : HalvesAt w) :
    Calls Tryz.prog 63 #[o.val] w fun e w' => e = .returned (.bool true) ∧ Below w.heap.size w w' := by
  obtain ⟨kind, at', x, y, s, t, u, c0, c1, c2⟩ := o
  dsimp only at hk hz
  subst hk
  have HP : Hid (∀ wx, HalvesAt wx → _) := fun wx hx => progIndex_any s wx hz hx
  have HR : Hid (∀ wx, _) := fun wx => refIndex_any s wx hz
  have HH : Hid (HalvesAt w) := hH
  obtain ⟨r, e0, hr, _⟩ := indexV_parts (indexS s.data.toList)
  rw [hr] at HP HR
  clear hH hr
  unfold OpV.val
  dsimp only
  go_enter Tryz.func63, Tryz.ntmps63
  go_wp2_with fail
  refine Calls.mono (HP.out _ (HH.out.below ((Below.refl _ _).alloc (Nat.le_refl _) _) HH.out.1)) ?_
  rintro e w1 ⟨rfl, hb1⟩
  have hz1 : w.heap.size < w1.heap.size := by have := hb1.size; simp at this; omega
  have d4 : w1.cell? ⟨w.heap.size, 4, none⟩ = some (.string s) := by rw [hb1.cell (p := ⟨w.heap.size, 4, none⟩) (by simp)]; simp
  clear HP
  go_wp2_with fail
  refine Calls.mono (HR.out _) ?_
  rintro e w2 ⟨rfl, hb2⟩
  clear HR
  go_wp2_with (first | (go_at_call 114; refine (num_any _ _).mono ?_; rintro e w' ⟨rfl, rfl⟩))
  go_ret
  exact ⟨by simp, (((Below.refl _ _).alloc (Nat.le_refl _) _).trans (hb1.mono (by simp))).trans (hb2.mono (by omega))⟩

set_option maxRecDepth 100000 in
set_option maxHeartbeats 1600000 in
theorem reads_look (o : OpV) (w : World) (hk : o.kind = 3) (hs : o.s.size ≤ 140737488351232) (ht : o.t.size ≤ 140737488351232) (hu : o.u.size ≤ 140737488351232) (hH : HalvesAt w) :
    Calls Tryz.prog 63 #[o.val] w fun e w' => e = .returned (.bool true) ∧ Below w.heap.size w w' := by
  obtain ⟨kind, at', x, y, s, t, u, c0, c1, c2⟩ := o
  dsimp only at hk hs ht hu
  subst hk
  have HP : Hid (∀ wx, HalvesAt wx → _) := fun wx hx => progLook_any s t u wx hs ht hu hx
  have HR : Hid (∀ wx, _) := fun wx => refLook_any s t u wx hs ht hu
  have HH : Hid (HalvesAt w) := hH
  generalize lookS s.data.toList t.data.toList u.data.toList = a at *
  obtain ⟨av, an, ae⟩ := a
  unfold ansV at HP HR
  dsimp only at HP HR
  clear hH
  unfold OpV.val
  dsimp only
  go_enter Tryz.func63, Tryz.ntmps63
  go_wp2_with fail
  refine Calls.mono (HP.out _ (HH.out.below ((Below.refl _ _).alloc (Nat.le_refl _) _) HH.out.1)) ?_
  rintro e w1 ⟨rfl, hb1⟩
  have hz1 : w.heap.size < w1.heap.size := by have := hb1.size; simp at this; omega
  have d4 : w1.cell? ⟨w.heap.size, 4, none⟩ = some (.string s) := by rw [hb1.cell (p := ⟨w.heap.size, 4, none⟩) (by simp)]; simp
  have d6 : w1.cell? ⟨w.heap.size, 6, none⟩ = some (.string u) := by rw [hb1.cell (p := ⟨w.heap.size, 6, none⟩) (by simp)]; simp
  clear HP
  go_wp2_with fail
  refine Calls.mono (HR.out _) ?_
  rintro e w2 ⟨rfl, hb2⟩
  clear HR
  go_wp2_with (first | (go_at_call 114; refine (num_any _ _).mono ?_; rintro e w' ⟨rfl, rfl⟩))
  go_ret
  exact ⟨by simp, (((Below.refl _ _).alloc (Nat.le_refl _) _).trans (hb1.mono (by simp))).trans (hb2.mono (by omega))⟩

set_option maxRecDepth 100000 in
set_option maxHeartbeats 1600000 in
theorem reads_self (o : OpV) (w : World) (hk : o.kind = 4) (hs : o.s.size ≤ 140737488351232) (hu : o.u.size ≤ 140737488351232) (hH : HalvesAt w) :
    Calls Tryz.prog 63 #[o.val] w fun e w' => e = .returned (.bool true) ∧ Below w.heap.size w w' := by
  obtain ⟨kind, at', x, y, s, t, u, c0, c1, c2⟩ := o
  dsimp only at hk hs hu
  subst hk
  have HI : Hid (∀ wx, _) := fun wx => refIndex_any s wx hs
  have hsh : ∀ l, indexS s.data.toList = some l → l.length ≤ 60000 := fun l h => indexS_short h
  obtain ⟨r, e0, hr, hr2⟩ := indexV_parts (indexS s.data.toList)
  have hrl : (S r).size ≤ 140737488351232 := by
    rw [S_size]
    cases hq : indexS s.data.toList with
    | none => rw [hq] at hr; unfold indexV at hr; simp at hr; have : r = [] := by have := congrArg (fun b : ByteArray => b.data.toList) hr.1.symm; rw [S_data] at this; exact this
              subst this; simp
    | some l => rw [hr2 l hq]; have := hsh l hq; omega
  rw [hr] at HI
  have HP : Hid (∀ wx, HalvesAt wx → _) := fun wx hx => progLook_any s (S r) u wx hs hrl hu hx
  have HR : Hid (∀ wx, _) := fun wx => refLook_any s (S r) u wx hs hrl hu
  have HH : Hid (HalvesAt w) := hH
  generalize lookS s.data.toList (S r).data.toList u.data.toList = a at *
  obtain ⟨av, an, ae⟩ := a
  unfold ansV at HP HR
  dsimp only at HP HR
  clear hH hr hr2 hsh
  unfold OpV.val
  dsimp only
  go_enter Tryz.func63, Tryz.ntmps63
  go_wp2_with fail
  refine Calls.mono (HI.out _) ?_
  rintro e w0 ⟨rfl, hb0⟩
  have hz0 : w.heap.size < w0.heap.size := by have := hb0.size; simp at this; omega
  have g4 : w0.cell? ⟨w.heap.size, 4, none⟩ = some (.string s) := by rw [hb0.cell (p := ⟨w.heap.size, 4, none⟩) (by simp)]; simp
  have g6 : w0.cell? ⟨w.heap.size, 6, none⟩ = some (.string u) := by rw [hb0.cell (p := ⟨w.heap.size, 6, none⟩) (by simp)]; simp
  have hB0 : Below w.heap.size w w0 := ((Below.refl _ _).alloc (Nat.le_refl _) _).trans (hb0.mono (by simp))
  clear HI hb0
  go_wp2_with fail
  refine Calls.mono (HP.out _ (HH.out.below hB0 HH.out.1)) ?_
  rintro e w1 ⟨rfl, hb1⟩
  have hz1 : w.heap.size < w1.heap.size := by have := hb1.size; omega
  have d4 : w1.cell? ⟨w.heap.size, 4, none⟩ = some (.string s) := (hb1.cell (p := ⟨w.heap.size, 4, none⟩) hz0).trans g4
  have d6 : w1.cell? ⟨w.heap.size, 6, none⟩ = some (.string u) := (hb1.cell (p := ⟨w.heap.size, 6, none⟩) hz0).trans g6
  clear HP g4 g6
  go_wp2_with fail
  refine Calls.mono (HR.out _) ?_
  rintro e w2 ⟨rfl, hb2⟩
  clear HR
  go_wp2_with (first | (go_at_call 114; refine (num_any _ _).mono ?_; rintro e w' ⟨rfl, rfl⟩))
  go_ret
  exact ⟨by simp, (hB0.trans (hb1.mono (by omega))).trans (hb2.mono (by omega))⟩
end Go.Proofs.YtdhgebdbiehchaaGreatDoor
