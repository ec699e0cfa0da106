/- What a log's bytes are, as plain functions on lists of bytes: a number out of bytes, a check, a head, an entry, a block. Nothing of the program is named here. The check four bits at a time is the check bit by bit. Nothing of the program is named here. The contracts of the document's high, sealed, Well and head. The contract of the document's entries: the entries of a text, or none. The contract of the document's block: the block that begins at a byte of a log. -/
import Derived.Test.YtdhgebdbiehchaaGreatDoorB01
import Derived.Lib.Strings
import Derived.Deep.DeepCutAuto
import Derived.Deep.DeepMust
namespace Go.Proofs.YtdhgebdbiehchaaGreatDoor
open Go.RowKit
set_option linter.unusedSimpArgs false
set_option linter.unusedVariables false

/-- The number whose bytes these are, the lowest first. -/
def highL : List UInt8 → Nat
  | [] => 0
  | b :: l => b.toNat + 256 * highL l
theorem highL_lt (l : List UInt8) : highL l < 256 ^ l.length := by
  induction l with
  | nil => simp [highL]
  | cons b l ih =>
    have := b.toNat_lt
    simp only [highL, List.length_cons, Nat.pow_succ]
    omega
theorem highL_drop {l : List UInt8} {k : Nat} (h : k < l.length) : highL (l.drop k) = l[k].toNat + 256 * highL (l.drop (k + 1)) := by
  rw [List.drop_eq_getElem_cons h, highL]
theorem pow256_le {n m : Nat} (h : n ≤ m) : 256 ^ n ≤ 256 ^ m := Nat.pow_le_pow_right (by omega) h

/-- Do bytes end with the check of what is ahead of it? -/
def sealedB (l : List UInt8) : Bool := decide (4 ≤ l.length) && (sealL (l.take (l.length - 4)) == l)

def wellB (blk seed bits : Int) : Bool := decide (1 ≤ blk) && decide (blk ≤ 400) && decide (0 ≤ seed) && decide (seed ≤ 4294967295) && decide (0 ≤ bits) && decide (bits ≤ 32)

/-- The three numbers of a head; is it one? -/
def hdBlk (l : List UInt8) : Nat := highL ((l.drop 2).take 2)
def hdSeed (l : List UInt8) : Nat := highL ((l.drop 4).take 4)
def hdBits (l : List UInt8) : Nat := highL ((l.drop 8).take 2)
def headB (l : List UInt8) : Bool := decide (14 ≤ l.length) && sealedB (l.take 14) && wellB (hdBlk l) (hdSeed l) (hdBits l) && (l.take 2 == [76, 71])

/-- An entry: put or delete, its key, its value. -/
structure Ent where
  put : Bool
  key : List UInt8
  val : List UInt8

/-- The entry that bytes begin with, and how many bytes it has. -/
def ent1 : List UInt8 → Option (Ent × Nat)
  | kd :: k :: v :: r =>
    if r.length < k.toNat + v.toNat ∨ k.toNat < 1 ∨ 20 < k.toNat ∨ 30 < v.toNat then none
    else if kd = 112 then some (⟨true, r.take k.toNat, (r.drop k.toNat).take v.toNat⟩, 3 + k.toNat + v.toNat)
    else if kd = 100 ∧ v.toNat = 0 then some (⟨false, r.take k.toNat, []⟩, 3 + k.toNat)
    else none
  | _ => none
theorem ent1_pos {l : List UInt8} {e : Ent} {n : Nat} (h : ent1 l = some (e, n)) : 4 ≤ n ∧ n ≤ l.length := by
  unfold ent1 at h
  split at h
  · rename_i kd k v r
    split at h
    · cases h
    · rename_i hc
      split at h
      · simp at h; simp; omega
      · split at h
        · simp at h; simp; omega
        · cases h
  · cases h

def entsF : Nat → List UInt8 → Option (List Ent)
  | 0, l => if l.isEmpty then some [] else none
  | n + 1, l => if l.isEmpty then some [] else match ent1 l with
    | none => none
    | some (e, m) => (entsF n (l.drop m)).map (e :: ·)
def ents (l : List UInt8) : Option (List Ent) := entsF l.length l
theorem entsF_fuel (n m : Nat) (l : List UInt8) (hn : l.length ≤ n) (hm : l.length ≤ m) : entsF n l = entsF m l := by
  induction n generalizing m l with
  | zero =>
    have : l = [] := List.eq_nil_of_length_eq_zero (by omega)
    subst this
    cases m <;> simp [entsF]
  | succ n ih =>
    cases m with
    | zero =>
      have : l = [] := List.eq_nil_of_length_eq_zero (by omega)
      subst this
      simp [entsF]
    | succ m =>
      unfold entsF
      split
      · rfl
      · cases he : ent1 l with
        | none => rfl
        | some x =>
          obtain ⟨e, k⟩ := x
          have := ent1_pos he
          simp only
          rw [ih m (l.drop k) (by simp; omega) (by simp; omega)]
theorem ents_nil : ents [] = some [] := rfl
theorem ents_none {l : List UInt8} (hl : l ≠ []) (h : ent1 l = none) : ents l = none := by
  unfold ents
  cases l with
  | nil => exact absurd rfl hl
  | cons b l => simp [entsF, h]
theorem ents_some {l : List UInt8} {e : Ent} {n : Nat} (h : ent1 l = some (e, n)) : ents l = (ents (l.drop n)).map (e :: ·) := by
  have hp := ent1_pos h
  unfold ents
  cases l with
  | nil => simp at hp; omega
  | cons b l =>
    show entsF (l.length + 1) (b :: l) = _
    rw [entsF, if_neg (by simp), h]
    simp only
    rw [entsF_fuel l.length ((b :: l).drop n).length ((b :: l).drop n) (by simp at *; omega) (Nat.le_refl _)]

/-- An entry at a place of bytes, by its parts. -/
theorem drop3 {l : List UInt8} {a : Nat} (h : a + 3 ≤ l.length) : l.drop a = l[a] :: l[a + 1] :: l[a + 2] :: l.drop (a + 3) := by
  rw [List.drop_eq_getElem_cons (by omega), List.drop_eq_getElem_cons (i := a + 1) (by omega), List.drop_eq_getElem_cons (i := a + 2) (by omega)]
theorem ent1_short {l : List UInt8} (h : l.length < 3) : ent1 l = none := by
  match l, h with
  | [], _ => rfl
  | [_], _ => rfl
  | [_, _], _ => rfl
theorem ent1_bad {l : List UInt8} {a : Nat} (h : a + 3 ≤ l.length) (hb : l.length < a + 3 + l[a + 1].toNat + l[a + 2].toNat ∨ l[a + 1].toNat < 1 ∨ 20 < l[a + 1].toNat ∨ 30 < l[a + 2].toNat) : ent1 (l.drop a) = none := by
  rw [drop3 h, ent1, if_pos]
  rw [List.length_drop]; omega
theorem ent1_put {l : List UInt8} {a : Nat} (h : a + 3 ≤ l.length) (hb : ¬ (l.length < a + 3 + l[a + 1].toNat + l[a + 2].toNat ∨ l[a + 1].toNat < 1 ∨ 20 < l[a + 1].toNat ∨ 30 < l[a + 2].toNat)) (hp : l[a] = 112) :
    ent1 (l.drop a) = some (⟨true, (l.drop (a + 3)).take l[a + 1].toNat, (l.drop (a + 3 + l[a + 1].toNat)).take l[a + 2].toNat⟩, 3 + l[a + 1].toNat + l[a + 2].toNat) := by
  rw [drop3 h, ent1, if_neg (by rw [List.length_drop]; omega), if_pos hp, List.drop_drop]
theorem ent1_del {l : List UInt8} {a : Nat} (h : a + 3 ≤ l.length) (hb : ¬ (l.length < a + 3 + l[a + 1].toNat + l[a + 2].toNat ∨ l[a + 1].toNat < 1 ∨ 20 < l[a + 1].toNat ∨ 30 < l[a + 2].toNat)) (hp : l[a] ≠ 112) (hd : l[a] = 100) (hv : l[a + 2].toNat = 0) :
    ent1 (l.drop a) = some (⟨false, (l.drop (a + 3)).take l[a + 1].toNat, []⟩, 3 + l[a + 1].toNat) := by
  rw [drop3 h, ent1, if_neg (by rw [List.length_drop]; omega), if_neg hp, if_pos ⟨hd, hv⟩]
theorem ent1_no {l : List UInt8} {a : Nat} (h : a + 3 ≤ l.length) (hb : ¬ (l.length < a + 3 + l[a + 1].toNat + l[a + 2].toNat ∨ l[a + 1].toNat < 1 ∨ 20 < l[a + 1].toNat ∨ 30 < l[a + 2].toNat)) (hp : l[a] ≠ 112) (hd : l[a] ≠ 100 ∨ l[a + 2].toNat ≠ 0) : ent1 (l.drop a) = none := by
  rw [drop3 h, ent1, if_neg (by rw [List.length_drop]; omega), if_neg hp, if_neg (by intro hx; rcases hd with h | h <;> simp_all)]

/-- Entries as the cells of a row. -/
def cellsE (es : List Ent) : List Value := es.flatMap fun e => [.bool e.put, .string (S e.key), .string (S e.val)]
theorem cellsE_length (es : List Ent) : (cellsE es).length = es.length * 3 := by
  induction es with
  | nil => rfl
  | cons e es ih => simp [cellsE] at *; omega
theorem cellsE_snoc (es : List Ent) (e : Ent) : cellsE (es ++ [e]) = cellsE es ++ [.bool e.put, .string (S e.key), .string (S e.val)] := by simp [cellsE]
theorem cut_S (s : ByteArray) (a b : Nat) : s.extract a b = S ((s.data.toList.drop a).take (b - a)) := by
  rw [← S_of (s.extract a b)]
  congr 1
  rw [Lib.extract_data]

/-- The block that begins at a byte of a log: its entries, and how many bytes it has. -/
def blkSize (log : List UInt8) (at' : Nat) : Nat := highL ((log.drop (at' + 1)).take 2)
def blkTail (ok : Bool) (r : Option (List Ent)) (count : Nat) (blk : Int) (size : Nat) : Option (List Ent × Nat) :=
  match ok, r with
  | true, some es => if es.length = 0 ∨ es.length ≠ count ∨ (1 < es.length ∧ blk < size) then none else some (es, 7 + size)
  | _, _ => none
def blockP (log : List UInt8) (at' : Nat) (blk : Int) : Option (List Ent × Nat) :=
  if at' < 14 ∨ log.length < at' + 7 then none
  else if log.length < at' + 7 + blkSize log at' then none
  else blkTail (sealedB ((log.drop at').take (7 + blkSize log at'))) (ents ((log.drop (at' + 3)).take (blkSize log at'))) (log.getD at' 0).toNat blk (blkSize log at')

theorem blockP_some {log : List UInt8} {a : Nat} {blk : Int} {es : List Ent} {k : Nat} (h : blockP log a blk = some (es, k)) : 7 ≤ k ∧ k < 65543 ∧ 1 ≤ es.length ∧ es.length ≤ 255 ∧ 14 ≤ a ∧ a + k ≤ log.length := by
  have hs : blkSize log a < 65536 := by
    have := highL_lt ((log.drop (a + 1)).take 2)
    have h4 := pow256_le (show ((log.drop (a + 1)).take 2).length ≤ 2 by simp; omega)
    unfold blkSize; omega
  unfold blockP at h
  split at h
  · cases h
  · split at h
    · cases h
    · unfold blkTail at h
      split at h
      · split at h
        · cases h
        · rename_i h1 h2 _ es' _ h3
          simp only [Option.some.injEq, Prod.mk.injEq] at h
          obtain ⟨rfl, rfl⟩ := h
          have := (log.getD a 0).toNat_lt
          simp only [not_or] at h3 h1
          omega
      · cases h

end Go.Proofs.YtdhgebdbiehchaaGreatDoor
namespace Go.Proofs.YtdhgebdbiehchaaGreatDoor
open Go.RowKit
set_option linter.unusedSimpArgs false
set_option linter.unusedVariables false

theorem crcBit_shift (c : Nat) : crcBit c = (c >>> 1) ^^^ (if c.testBit 0 then 3988292384 else 0) := by
  unfold crcBit
  rw [Nat.shiftRight_eq_div_pow, Nat.pow_one]
  have : c.testBit 0 = decide (c % 2 = 1) := by simp [Nat.testBit_zero]
  rw [this]
  by_cases h : c % 2 = 1 <;> simp [h]
theorem crcBit_xor (a b : Nat) : crcBit (a ^^^ b) = crcBit a ^^^ crcBit b := by
  rw [crcBit_shift, crcBit_shift, crcBit_shift, Nat.shiftRight_xor_distrib, Nat.testBit_xor]
  cases a.testBit 0 <;> cases b.testBit 0
  · simp
  · simp [Nat.xor_assoc]
  · simp only [Bool.true_xor, Bool.not_false, if_true, Bool.false_eq_true, if_false, Nat.xor_zero]
    rw [Nat.xor_assoc, Nat.xor_comm (b >>> 1), ← Nat.xor_assoc]
  · simp only [Bool.true_xor, Bool.not_true, Bool.false_eq_true, if_false, if_true, Nat.xor_zero]
    rw [Nat.xor_assoc (a >>> 1), ← Nat.xor_assoc 3988292384, Nat.xor_comm 3988292384 (b >>> 1), Nat.xor_assoc (b >>> 1), Nat.xor_self, Nat.xor_zero]
theorem crcBits_xor (n a b : Nat) : crcBits n (a ^^^ b) = crcBits n a ^^^ crcBits n b := by
  induction n with
  | zero => rfl
  | succ n ih => simp only [crcBits]; rw [ih, crcBit_xor]
theorem crcBits_add (n m c : Nat) : crcBits (n + m) c = crcBits n (crcBits m c) := by
  induction n with
  | zero => simp [crcBits]
  | succ n ih => rw [Nat.succ_add]; simp only [crcBits]; rw [ih]
theorem crcBit_even (c : Nat) : crcBit (2 * c) = c := by unfold crcBit; rw [if_neg (by omega)]; omega
theorem crcBits_16 (c : Nat) : crcBits 4 (16 * c) = c := by
  have h : crcBits 4 (16 * c) = crcBit (crcBit (crcBit (crcBit (16 * c)))) := rfl
  rw [h, show 16 * c = 2 * (8 * c) by omega, crcBit_even, show 8 * c = 2 * (4 * c) by omega, crcBit_even, show 4 * c = 2 * (2 * c) by omega, crcBit_even, crcBit_even]

/-- The table of the program. -/
def halvesL : List Nat := [0, 498536548, 997073096, 651767980, 1994146192, 1802195444, 1303535960, 1342533948, 3988292384, 4027552580, 3604390888, 3412177804, 2607071920, 2262029012, 2685067896, 3183342108]
theorem halves_at : ∀ i, i < 16 → crcBits 4 i = halvesL.getD i 0 := by decide +kernel
theorem nib (c : Nat) : crcBits 4 c = (c / 16) ^^^ halvesL.getD (c % 16) 0 := by
  have e : c = 16 * (c / 16) ^^^ c % 16 := by
    have h1 : 16 * (c / 16) ^^^ c % 16 = 16 * (c / 16) + c % 16 := by
      have := Nat.two_pow_add_eq_or_of_lt (i := 4) (b := c % 16) (by omega) (c / 16)
      have h2 : 2 ^ 4 * (c / 16) ||| c % 16 = 2 ^ 4 * (c / 16) ^^^ c % 16 := by
        apply Nat.eq_of_testBit_eq
        intro j
        rw [Nat.testBit_or, Nat.testBit_xor]
        by_cases hj : j < 4
        · have : (2 ^ 4 * (c / 16)).testBit j = false := by
            rw [Nat.testBit_two_pow_mul]; simp; omega
          rw [this]; simp
        · have : (c % 16).testBit j = false := by
            apply Nat.testBit_lt_two_pow
            exact Nat.lt_of_lt_of_le (show c % 16 < 2 ^ 4 by omega) (Nat.pow_le_pow_right (by omega) (by omega))
          rw [this]; simp
      rw [show (16 : Nat) = 2 ^ 4 from rfl] at *
      rw [← h2, ← this]
    rw [h1]; omega
  conv => lhs; rw [e]
  rw [crcBits_xor, crcBits_16, halves_at _ (by omega)]
/-- Two steps of four bits are a byte's. -/
def nibStep (c : Nat) : Nat := (c / 16) ^^^ halvesL.getD (c % 16) 0
theorem nib_byte (c : Nat) (b : UInt8) : crcByte c b = nibStep (nibStep (c ^^^ b.toNat)) := by
  unfold crcByte nibStep
  rw [← nib, ← nib, ← crcBits_add]
theorem nibStep_lt {c : Nat} (h : c < 4294967296) : nibStep c < 4294967296 := by
  unfold nibStep; rw [← nib]; exact crcBits_lt h
theorem halves_lt : ∀ i, i < 16 → halvesL.getD i 0 < 4294967296 := by decide +kernel
end Go.Proofs.YtdhgebdbiehchaaGreatDoor
namespace Go.Proofs.YtdhgebdbiehchaaGreatDoor
open Go.RowKit
set_option linter.unusedSimpArgs false
set_option linter.unusedVariables false

set_option maxHeartbeats 800000 in
theorem high_any (s : ByteArray) (w : World) (hs : s.size ≤ 7) :
    Calls Tryz.prog 169 #[.string s] w fun e w' => e = .returned (.int .i64 (highL s.data.toList : Nat)) ∧ w' = w := by
  have hl : s.data.toList.length = s.size := by simp
  go_enter Tryz.func169, Tryz.ntmps169
  go_wp2
  go_loop [3, 4] (fun n i => ∃ (k : Nat), k ≤ s.size ∧ i = .int .i64 ((k : Int) - 1) ∧ n = .int .i64 (highL (s.data.toList.drop k) : Nat)) (fun _ i => (intOf i + 1).toNat)
  case atStart => exact ⟨s.size, Nat.le_refl _, rfl, by rw [List.drop_of_length_le (by omega)]; rfl⟩
  case round =>
    obtain ⟨k, hk, rfl, rfl⟩ := hrel
    by_cases hlt : 0 < k
    · obtain ⟨j, rfl⟩ : ∃ j, k = j + 1 := ⟨k - 1, by omega⟩
      have hj : j < s.size := by omega
      have HS : Hid (highL (s.data.toList.drop j) = s[j].toNat + 256 * highL (s.data.toList.drop (j + 1))) := highL_drop (by omega)
      have hb : highL (s.data.toList.drop (j + 1)) < 281474976710656 := by
        refine Nat.lt_of_lt_of_le (highL_lt _) ?_
        have := pow256_le (show (s.data.toList.drop (j + 1)).length ≤ 6 by rw [List.length_drop, hl]; omega)
        omega
      have hc := s[j].toNat_lt
      have hw := w64b s[j]
      generalize highL (s.data.toList.drop (j + 1)) = x at *
      go_wp2
      go_round
      case rel => exact ⟨j, by omega, rfl, by rw [HS.out]; congr 1; omega⟩
      case measure => simp [intOf]
    · have hk0 : k = 0 := by omega
      subst hk0
      go_wp2
      go_ret
      exact ⟨rfl, rfl⟩

set_option maxHeartbeats 800000 in
theorem refSealed_any (s : ByteArray) (w : World) (hs : s.size ≤ 140737488351232) :
    Calls Tryz.prog 197 #[.string s] w fun e w' => e = .returned (.bool (sealedB s.data.toList)) ∧ Below w.heap.size w w' := by
  by_cases h4 : 4 ≤ s.size
  · go_enter Tryz.func197, Tryz.ntmps197
    go_wp2_with fail
    refine (sealed_any _ _ (by simp; omega)).mono ?_
    rintro e w1 ⟨rfl, hb1⟩
    rw [Lib.extract_data, List.drop_zero, Nat.sub_zero]
    go_wp2
    go_ret
    refine ⟨ret_bool ?_, hb1⟩
    rw [ByteArray.toList_eq, ByteArray.toList_eq, S_data, sealedB]
    simp [h4]
  · go_enter Tryz.func197, Tryz.ntmps197
    go_wp2
    go_ret
    exact ⟨ret_bool (by simp [sealedB]; omega), Below.refl _ _⟩

/-- A piece of a string, as the walk cuts it, whatever the world. -/
theorem cut_run (s : ByteArray) (a n : Nat) (h2 : a + n ≤ s.size) (i j : Int) (hi : i = a) (hj : j = ((a + n : Nat) : Int)) : ∀ wx : World, (Instr.slice 9 (.string s) (some (.int .i64 i)) (some (.int .i64 j)) none).run Tryz.prog wx = .ok (.string (S ((s.data.toList.drop a).take n))) wx := by
  intro wx
  subst hi hj
  rw [run_slice_string wx 9 s .i64 .i64 a ((a + n : Nat) : Int) Tryz.underlying9 (by omega) (by omega) (by omega), cut_S, Int.toNat_natCast, Int.toNat_natCast, Nat.add_sub_cancel_left]
theorem cut_from (s : ByteArray) (a : Nat) (h : a ≤ s.size) (i : Int) (hi : i = a) : ∀ wx : World, (Instr.slice 9 (.string s) (some (.int .i64 i)) none none).run Tryz.prog wx = .ok (.string (S (s.data.toList.drop a))) wx := by
  intro wx
  subst hi
  rw [run_slice_string_from_if wx 9 s .i64 a Tryz.underlying9, if_pos ⟨by omega, by omega⟩, cut_S, Int.toNat_natCast, List.take_of_length_le (by simp)]
theorem cut_upto (s : ByteArray) (a : Nat) (h : a ≤ s.size) (i : Int) (hi : i = a) : ∀ wx : World, (Instr.slice 9 (.string s) none (some (.int .i64 i)) none).run Tryz.prog wx = .ok (.string (S (s.data.toList.take a))) wx := by
  intro wx
  subst hi
  rw [run_slice_string_to_if wx 9 s .i64 a Tryz.underlying9, if_pos ⟨by omega, by omega⟩, cut_S, Int.toNat_natCast, List.drop_zero, Nat.sub_zero]
theorem idx_run (s : ByteArray) (a : Nat) (h : a < s.size) (i : Int) (hi : i = a) : ∀ wx : World, (Instr.index 9 (.string s) (.int .i64 i)).run Tryz.prog wx = .ok (.int .u8 (s[a].toNat : Int)) wx := by
  intro wx
  subst hi
  rw [run_index_string wx 9 s .i64 a Tryz.underlying9, dif_pos ⟨by omega, by omega⟩]
  simp

/-- A head's bytes as the walk cuts them. -/
theorem cut_list (s : ByteArray) (a b : Nat) : (s.extract a b).data.toList = (s.data.toList.drop a).take (b - a) := Lib.extract_data s a b

set_option maxHeartbeats 800000 in
theorem well_any (blk seed bits : Int) (w : World) :
    Calls Tryz.prog 171 #[.agg #[.int .i64 blk, .int .i64 seed, .int .i64 bits]] w fun e w' => e = .returned (.bool (wellB blk seed bits)) ∧ Below w.heap.size w w' := by
  go_enter Tryz.func171, Tryz.ntmps171
  go_wp2
  all_goals
    go_ret
    refine ⟨ret_bool ?_, (Below.refl _ _).alloc (Nat.le_refl _) _⟩
    rw [Bool.eq_iff_iff]; unfold wellB; simp; omega
def cfgV (blk seed bits : Int) : Value := .agg #[.int .i64 blk, .int .i64 seed, .int .i64 bits]

set_option maxHeartbeats 1600000 in
theorem refhead_short (s : ByteArray) (w : World) (hs : s.size < 14) :
    Calls Tryz.prog 196 #[.string s] w fun e w' => e = .returned (.tuple #[.agg #[.int .i64 0, .int .i64 0, .int .i64 0], .bool false]) ∧ Below w.heap.size w w' := by
  go_enter Tryz.func196, Tryz.ntmps196
  go_wp2
  exact bodyPost_ret (v := .tuple #[.agg #[.int .i64 0, .int .i64 0, .int .i64 0], .bool false]) (by simp [results, Tryz.results196, go_sem]) rfl ⟨rfl, (Below.refl _ _).alloc (Nat.le_refl _) _⟩

set_option maxHeartbeats 1600000 in
theorem refhead_long (s : ByteArray) (w : World) (hs : 14 ≤ s.size) (hs' : s.size ≤ 140737488351232) :
    Calls Tryz.prog 196 #[.string s] w fun e w' => e = .returned (.tuple #[.agg #[.int .i64 (hdBlk s.data.toList), .int .i64 (hdSeed s.data.toList), .int .i64 (hdBits s.data.toList)], .bool (headB s.data.toList)]) ∧ Below w.heap.size w w' := by
  go_enter Tryz.func196, Tryz.ntmps196
  go_wp2_with fail
  refine (refSealed_any _ _ (by simp; omega)).mono ?_
  rintro e w1 ⟨rfl, hb1⟩
  rw [cut_list, List.drop_zero, Nat.sub_zero]
  have hz1 : w.heap.size < w1.heap.size := by have := hb1.size; simp at this; omega
  have HB1 : Hid (Below w.heap.size w w1) := ((Below.refl _ _).alloc (Nat.le_refl _) _).trans (hb1.mono (by simp))
  have e1 : ((s.extract 2 4).data.toList) = (s.data.toList.drop 2).take 2 := cut_list s 2 4
  have e2 : ((s.extract 4 8).data.toList) = (s.data.toList.drop 4).take 4 := cut_list s 4 8
  have e3 : ((s.extract 8 10).data.toList) = (s.data.toList.drop 8).take 2 := cut_list s 8 10
  have z1 : (s.extract 2 4).size = 2 := by simp; omega
  have z2 : (s.extract 4 8).size = 4 := by simp; omega
  have z3 : (s.extract 8 10).size = 2 := by simp; omega
  have r0 : w1.cell? ⟨w.heap.size, 0, none⟩ = some (.int .i64 0) := by rw [hb1.cell (p := ⟨w.heap.size, 0, none⟩) (by simp)]; simp
  have r1 : w1.cell? ⟨w.heap.size, 1, none⟩ = some (.int .i64 0) := by rw [hb1.cell (p := ⟨w.heap.size, 1, none⟩) (by simp)]; simp
  have r2 : w1.cell? ⟨w.heap.size, 2, none⟩ = some (.int .i64 0) := by rw [hb1.cell (p := ⟨w.heap.size, 2, none⟩) (by simp)]; simp
  have rf : ∀ i, w1.frozen? ⟨w.heap.size, i, none⟩ = false := fun i => by rw [hb1.frozen (p := ⟨w.heap.size, i, none⟩) (by simp)]; simp
  have HR : Hid ((w1.cell? ⟨w.heap.size, 0, none⟩ = some (.int .i64 0) ∧ w1.cell? ⟨w.heap.size, 1, none⟩ = some (.int .i64 0) ∧ w1.cell? ⟨w.heap.size, 2, none⟩ = some (.int .i64 0)) ∧ ∀ i, w1.frozen? ⟨w.heap.size, i, none⟩ = false) := ⟨⟨r0, r1, r2⟩, rf⟩
  clear r0 r1 r2 rf
  have E1 : Hid _ := e1
  have E2 : Hid _ := e2
  have E3 : Hid _ := e3
  clear e1 e2 e3 hb1
  have i1 : (4 : Int) ≤ (s.size : Int) := by omega
  have i2 : (8 : Int) ≤ (s.size : Int) := by omega
  have i3 : (10 : Int) ≤ (s.size : Int) := by omega
  have i4 : 4 ≤ s.size := by omega
  have i5 : 8 ≤ s.size := by omega
  have i6 : 10 ≤ s.size := by omega
  go_wp2_with fail
  go_cut [5] (fun c wx => c = .pointer (some ⟨w1.heap.size, 0, none⟩) ∧ wx.cell? ⟨w1.heap.size, 0, none⟩ = some (.int .i64 (hdBlk s.data.toList)) ∧ wx.cell? ⟨w1.heap.size, 1, none⟩ = some (.int .i64 (hdSeed s.data.toList)) ∧ wx.cell? ⟨w1.heap.size, 2, none⟩ = some (.int .i64 (hdBits s.data.toList)) ∧ Below w1.heap.size w1 wx ∧ w1.heap.size < wx.heap.size)
  case first =>
    go_region_held3 (fun w' => w1.heap.size ≤ w'.heap.size) (first | (simp) | (simp; omega)) (first | (go_at_call_of 169 (Value.string (s.extract 2 4)); refine (high_any _ _ (by omega)).mono ?_; rintro e w' ⟨rfl, rfl⟩) | (go_at_call_of 169 (Value.string (s.extract 4 8)); refine (high_any _ _ (by omega)).mono ?_; rintro e w' ⟨rfl, rfl⟩) | (go_at_call_of 169 (Value.string (s.extract 8 10)); refine (high_any _ _ (by omega)).mono ?_; rintro e w' ⟨rfl, rfl⟩))
    all_goals
      go_wp2_with fail
      go_meet
      refine ⟨rfl, ?_, ?_, ?_, ?_, ?_⟩
      · rw [hdBlk, ← E1.out]; simp
      · rw [hdSeed, ← E2.out]; simp
      · rw [hdBits, ← E3.out]; simp
      · first | exact ((Below.refl _ _).alloc (Nat.le_refl _) _).drew | exact (((Below.refl _ _).alloc (Nat.le_refl _) _).setCell (by simp) _).drew
      · simp
  case rest =>
    obtain ⟨rfl, c0, c1, c2, hb2, hz2⟩ := hcut
    clear z1 z2 z3 i1 i2 i3 i5 i6
    go_wp2_with fail
    refine (well_any _ _ _ _).mono ?_
    rintro e w2 ⟨rfl, hb3⟩
    have d0 := (hb3.cell (p := ⟨w1.heap.size, 0, none⟩) hz2).trans c0
    have d1 := (hb3.cell (p := ⟨w1.heap.size, 1, none⟩) hz2).trans c1
    have d2 := (hb3.cell (p := ⟨w1.heap.size, 2, none⟩) hz2).trans c2
    obtain ⟨⟨r0, r1, r2⟩, rf⟩ := HR.out
    have hbx : Below w1.heap.size w1 w2 := hb2.trans (hb3.mono (Nat.le_of_lt hz2))
    replace r0 := (hbx.cell (p := ⟨w.heap.size, 0, none⟩) hz1).trans r0
    replace r1 := (hbx.cell (p := ⟨w.heap.size, 1, none⟩) hz1).trans r1
    replace r2 := (hbx.cell (p := ⟨w.heap.size, 2, none⟩) hz1).trans r2
    have f0 : w2.frozen? ⟨w.heap.size, 0, none⟩ = false := (hbx.frozen (p := ⟨w.heap.size, 0, none⟩) hz1).trans (rf 0)
    have f1 : w2.frozen? ⟨w.heap.size, 1, none⟩ = false := (hbx.frozen (p := ⟨w.heap.size, 1, none⟩) hz1).trans (rf 1)
    have f2 : w2.frozen? ⟨w.heap.size, 2, none⟩ = false := (hbx.frozen (p := ⟨w.heap.size, 2, none⟩) hz1).trans (rf 2)
    have HB : Hid (headB s.data.toList = (sealedB (s.data.toList.take 14) && wellB (hdBlk s.data.toList) (hdSeed s.data.toList) (hdBits s.data.toList) && (s.data.toList.take 2 == [76, 71]))) := by
      show _ = _
      simp [headB, hs]
    have HX : Hid ((s.extract 0 2).toList = s.data.toList.take 2) := by
      show _ = _
      rw [ByteArray.toList_eq, cut_list, List.drop_zero]
    have HW2 : Hid (Below w.heap.size w w2) := HB1.out.trans (hbx.mono (Nat.le_of_lt hz1))
    clear rf c0 c1 c2 HR hb3 hb2 hbx
    have i2' : (2 : Int) ≤ (s.size : Int) := by omega
    have hne : ¬ w.heap.size = w1.heap.size := by omega
    generalize sealedB (s.data.toList.take 14) = b1 at *
    generalize wellB (hdBlk s.data.toList) (hdSeed s.data.toList) (hdBits s.data.toList) = b2 at *
    cases b1 <;> cases b2
    all_goals
      go_wp2_with fail
      go_region
      go_wp2
      refine bodyPost_ret (v := .tuple #[.agg #[.int .i64 (hdBlk s.data.toList), .int .i64 (hdSeed s.data.toList), .int .i64 (hdBits s.data.toList)], .bool (headB s.data.toList)]) ?_ rfl ⟨rfl, (((HW2.out.setCell (Nat.le_refl _) _).setCell (Nat.le_refl _) _).setCell (Nat.le_refl _) _).drew⟩
      rw [HB.out]
      simp [results, Tryz.results196, go_sem, r0, r1, r2, HX.out]
end Go.Proofs.YtdhgebdbiehchaaGreatDoor
namespace Go.Proofs.YtdhgebdbiehchaaGreatDoor
open Go.RowKit
set_option linter.unusedSimpArgs false
set_option linter.unusedVariables false

theorem info_ent : (Tryz.prog.info? 114).map (fun i => (i.zero, i.size, i.bytes)) = some (some (.agg #[.bool false, .string ⟨#[]⟩, .string ⟨#[]⟩]), 3, 40) := by kernel_rfl

/-- What a slice of entries is, that tells what was read. -/
def EntsAre (w : World) (base : Nat) (v : Value) (r : Option (List Ent)) : Prop :=
  match r with
  | none => v = .slice none 0 0
  | some es => w.ownsRow base 114 3 v es.length (cellsE es)

theorem own_below {w w' : World} {base e size n m : Nat} {v : Value} {xs : List Value} (h : w.ownsRow base e size v n xs) (hb : Below m w w') (hm : w.heap.size ≤ m) : w'.ownsRow base e size v n xs := by
  obtain ⟨h1, h2⟩ := h
  refine ⟨h1, ?_⟩
  rcases h2 with h2 | ⟨g, cap, cur, hv, hg, hh, r⟩
  · exact .inl h2
  · have hl : g < w.heap.size := (Array.getElem?_eq_some_iff.1 hh).1
    exact .inr ⟨g, cap, cur, hv, hg, (hb.block g (by omega)).trans hh, r⟩
theorem cells_three_new (w : World) (t : TypeId) (a b c : Value) : ∀ j u, [a, b, c][j]? = some u → (w.alloc (.cells #[a, b, c] t)).cell? ((⟨w.heap.size, 0, none⟩ : Addr).add j) = some u := by
  intro j u hj
  match j, hj with
  | 0, hj => simp at hj; subst hj; simp [Addr.add]
  | 1, hj => simp at hj; subst hj; simp [Addr.add]
  | 2, hj => simp at hj; subst hj; simp [Addr.add]
theorem ents_go {l : List UInt8} {k n m : Nat} {e : Ent} {acc : List Ent} (h : ent1 (l.drop k) = some (e, n)) (hm : m = k + n) : (ents (l.drop k)).map (acc ++ ·) = (ents (l.drop m)).map ((acc ++ [e]) ++ ·) := by
  subst hm
  rw [ents_some h, List.drop_drop, Option.map_map]
  congr 1
  funext x
  simp

set_option maxRecDepth 100000 in
set_option maxHeartbeats 3200000 in
theorem entries_any (s : ByteArray) (w : World) (hs : s.size ≤ 1000000) :
    Calls Tryz.prog 198 #[.string s] w fun e w' => ∃ v, e = .returned (.tuple #[v, .bool (ents s.data.toList).isSome]) ∧ EntsAre w' w.heap.size v (ents s.data.toList) ∧ Below w.heap.size w w' := by
  obtain ⟨i0, hi, hz0, hz1, hz2⟩ := info_parts info_ent
  have hl : s.data.toList.length = s.size := by simp
  go_enter Tryz.func198, Tryz.ntmps198
  go_wp2
  go_loopw [4, 5] (fun v i wr => ∃ (k : Nat) (acc : List Ent), k ≤ s.size ∧ i = .int .i64 k ∧ wr.ownsRow w.heap.size 114 3 v acc.length (cellsE acc) ∧ acc.length ≤ k ∧ Below w.heap.size w wr ∧ Hid (ents s.data.toList = (ents (s.data.toList.drop k)).map (acc ++ ·))) (fun _ i _ => s.size - (intOf i).toNat)
  case atStart => exact ⟨0, [], Nat.zero_le _, rfl, World.ownsRow_nil _ _ _ _, Nat.le_refl _, Below.refl _ _, by simp [Hid]⟩
  case round =>
    obtain ⟨k, acc, hk, rfl, ho, hac, hb, HE⟩ := hrel
    by_cases hlt : k < s.size
    · have hne : s.data.toList.drop k ≠ [] := by
        intro h
        have := congrArg List.length h
        simp at this; omega
      by_cases h3 : k + 3 ≤ s.size
      · have g0 : s.data.toList[k] = s[k] := rfl
        have g1 : s.data.toList[k + 1] = s[k + 1] := rfl
        have g2 : s.data.toList[k + 2] = s[k + 2] := rfl
        have hw0 := w64b s[k]
        have hw1 := w64b s[k + 1]
        have hw2 := w64b s[k + 2]
        have hl1 := s[k + 1].toNat_lt
        have hl2 := s[k + 2].toNat_lt
        by_cases hbad : s.size < k + 3 + s[k + 1].toNat + s[k + 2].toNat ∨ s[k + 1].toNat < 1 ∨ 20 < s[k + 1].toNat ∨ 30 < s[k + 2].toNat
        · have HN : Hid (ents s.data.toList = none) := by
            show _ = _
            rw [HE.out, ents_none hne (ent1_bad (by omega) (hbad.imp (fun h => Nat.lt_of_le_of_lt (Nat.le_of_eq hl) h) id))]; rfl
          clear HE g0 g1 g2
          rcases (show (s.size < k + 3 + s[k + 1].toNat + s[k + 2].toNat) ∨ (k + 3 + s[k + 1].toNat + s[k + 2].toNat ≤ s.size ∧ s[k + 1].toNat < 1) ∨ (k + 3 + s[k + 1].toNat + s[k + 2].toNat ≤ s.size ∧ 1 ≤ s[k + 1].toNat ∧ 20 < s[k + 1].toNat) ∨ (k + 3 + s[k + 1].toNat + s[k + 2].toNat ≤ s.size ∧ 1 ≤ s[k + 1].toNat ∧ s[k + 1].toNat ≤ 20 ∧ 30 < s[k + 2].toNat) from by omega) with h1 | ⟨h1, h2⟩ | ⟨h1, h2, h5⟩ | ⟨h1, h2, h5, h6⟩
          all_goals
            clear hbad
            go_wp2
            go_ret2
            exact ⟨_, by rw [HN.out]; rfl, by rw [HN.out]; rfl, hb⟩
        · have hgood : k + 3 + s[k + 1].toNat + s[k + 2].toNat ≤ s.size ∧ 1 ≤ s[k + 1].toNat ∧ s[k + 1].toNat ≤ 20 ∧ s[k + 2].toNat ≤ 30 := by omega
          obtain ⟨q1, q2, q3, q4⟩ := hgood
          have hng : ¬ (s[k + 1].toNat < 1 ∨ 20 < s[k + 1].toNat ∨ 30 < s[k + 2].toNat) := by omega
          clear g0 g1 g2 hbad
          have c1 := cut_run s (k + 3) s[k + 1].toNat (by omega) ((k : Int) + 3) ((k : Int) + 3 + (s[k + 1].toNat : Int)) (by omega) (by omega)
          have c2 := cut_run s (k + 3 + s[k + 1].toNat) s[k + 2].toNat (by omega) ((k : Int) + 3 + (s[k + 1].toNat : Int)) ((k : Int) + 3 + (s[k + 1].toNat : Int) + (s[k + 2].toNat : Int)) (by omega) (by omega)
          have m1 : IntKind.i64.wrap ((k : Int) + 3) = (k : Int) + 3 := by rw [IntKind.wrap_i64]; omega
          have m2 : IntKind.i64.wrap ((k : Int) + 3 + (s[k + 1].toNat : Int)) = (k : Int) + 3 + (s[k + 1].toNat : Int) := by rw [IntKind.wrap_i64]; omega
          have m3 : IntKind.i64.wrap ((k : Int) + 3 + (s[k + 1].toNat : Int) + (s[k + 2].toNat : Int)) = (k : Int) + 3 + (s[k + 1].toNat : Int) + (s[k + 2].toNat : Int) := by rw [IntKind.wrap_i64]; omega
          obtain ⟨pb, hpb⟩ : ∃ pb : Bool, ((s[k].toNat : Int) == 112) = pb := ⟨_, rfl⟩
          go_wp2_with fail
          go_cut [8] (fun e8 wx => e8 = .pointer (some ⟨wr.heap.size, 0, none⟩) ∧ wx.cell? ⟨wr.heap.size, 0, none⟩ = some (.bool pb) ∧ wx.cell? ⟨wr.heap.size, 1, none⟩ = some (.string (S ((s.data.toList.drop (k + 3)).take s[k + 1].toNat))) ∧ wx.cell? ⟨wr.heap.size, 2, none⟩ = some (.string (S ((s.data.toList.drop (k + 3 + s[k + 1].toNat)).take s[k + 2].toNat))) ∧ Below wr.heap.size wr wx ∧ wr.heap.size < wx.heap.size)
          case first =>
            go_region_held3 (fun w' => wr.heap.size ≤ w'.heap.size) (first | (simp) | (simp; omega)) (first | (fail))
            all_goals
              go_wp2_with fail
              go_meet
              refine ⟨rfl, by simp, by simp, by simp, ?_, by simp⟩
              first | exact ((Below.refl _ _).alloc (Nat.le_refl _) _).drew | exact (((Below.refl _ _).alloc (Nat.le_refl _) _).setCell (by simp) _).drew
          case rest =>
            obtain ⟨rfl, c0', c1', c2', hb2, hzz⟩ := hcut
            have hbw : Below w.heap.size w wc := hb.trans (hb2.mono hb.size)
            have how := own_below ho hb2 (Nat.le_refl _)
            by_cases hput : pb = true
            · subst hput
              have hp : s[k] = 112 := by
                apply UInt8.toNat_inj.1
                have := beq_iff_eq.1 hpb
                simp at this ⊢; omega
              have HN : Hid (ents s.data.toList = (ents (s.data.toList.drop (k + 3 + s[k + 1].toNat + s[k + 2].toNat))).map ((acc ++ [⟨true, (s.data.toList.drop (k + 3)).take s[k + 1].toNat, (s.data.toList.drop (k + 3 + s[k + 1].toNat)).take s[k + 2].toNat⟩]) ++ ·)) := by
                show _ = _
                rw [HE.out]
                exact ents_go (ent1_put (by omega) (fun hx => by rcases hx with h | h; exact absurd (Nat.lt_of_le_of_lt (Nat.le_of_eq hl.symm) h) (Nat.not_lt.2 q1); exact hng h) hp) (by rw [← Nat.add_assoc, ← Nat.add_assoc]; rfl)
              clear HE
              go_wp2_with (at_builtin; refine wpList_append_own _ rfl (.tmp 87) (.tmp 89) 115 rfl w.heap.size 114 i0 (.agg #[.bool false, .string ⟨#[]⟩, .string ⟨#[]⟩]) 3 40 Tryz.underlying115 hi hz0 hz1 hz2 rfl (by decide) _ _ _ rfl (how.alloc _) ⟨wc.heap.size, 0, none⟩ 1 1 [.bool true, .string (S ((s.data.toList.drop (k + 3)).take s[k + 1].toNat)), .string (S ((s.data.toList.drop (k + 3 + s[k + 1].toNat)).take s[k + 2].toNat))] rfl rfl (cells_three_new _ _ _ _ _) (by simp [Value.oneCell']) (by unfold maxLen; omega) (by omega) (by have := hbw.size; simp; omega) ?_)
              intro v' w1 hown' hgrow _
              clear how c0' c1' c2'
              go_wp2
              go_roundw
              case rel => exact ⟨k + 3 + s[k + 1].toNat + s[k + 2].toNat, acc ++ [⟨true, (s.data.toList.drop (k + 3)).take s[k + 1].toNat, (s.data.toList.drop (k + 3 + s[k + 1].toNat)).take s[k + 2].toNat⟩], by omega, by congr 1, by rw [cellsE_snoc, List.length_append]; exact hown', by simp; omega, (hbw.alloc (by have := hbw.size; omega) _).grown hgrow (by have := hbw.size; simp; omega) (own_ge ho), HN⟩
              case measure => simp [intOf]; omega
            · have hpf : pb = false := by simpa using hput
              subst hpf
              have hp : s[k] ≠ 112 := by
                intro h
                rw [h] at hpb
                exact absurd hpb (by decide)
              by_cases hdv : s[k] = 100 ∧ s[k + 2].toNat = 0
              · obtain ⟨hd, hv0⟩ := hdv
                have hd1 : ((s[k].toNat : Int) != 100) = false := by rw [hd]; rfl
                have hv1 : ¬ (0 : Int) < (s[k + 2].toNat : Int) := by omega
                have HV : Hid (s[k + 2].toNat = 0) := hv0
                have HN : Hid (ents s.data.toList = (ents (s.data.toList.drop (k + 3 + s[k + 1].toNat + s[k + 2].toNat))).map ((acc ++ [⟨false, (s.data.toList.drop (k + 3)).take s[k + 1].toNat, (s.data.toList.drop (k + 3 + s[k + 1].toNat)).take s[k + 2].toNat⟩]) ++ ·)) := by
                  show _ = _
                  rw [HE.out]
                  have ht : ((s.data.toList.drop (k + 3 + s[k + 1].toNat)).take s[k + 2].toNat) = [] := by rw [hv0]; rfl
                  rw [ht]
                  exact ents_go (ent1_del (by omega) (fun hx => by rcases hx with h | h; exact absurd (Nat.lt_of_le_of_lt (Nat.le_of_eq hl.symm) h) (Nat.not_lt.2 q1); exact hng h) hp hd hv0) (by rw [← Nat.add_assoc, hv0]; rfl)
                clear HE
                clear hv0
                go_wp2_with (at_builtin; refine wpList_append_own _ rfl (.tmp 87) (.tmp 89) 115 rfl w.heap.size 114 i0 (.agg #[.bool false, .string ⟨#[]⟩, .string ⟨#[]⟩]) 3 40 Tryz.underlying115 hi hz0 hz1 hz2 rfl (by decide) _ _ _ rfl (how.alloc _) ⟨wc.heap.size, 0, none⟩ 1 1 [.bool false, .string (S ((s.data.toList.drop (k + 3)).take s[k + 1].toNat)), .string (S ((s.data.toList.drop (k + 3 + s[k + 1].toNat)).take s[k + 2].toNat))] rfl rfl (cells_three_new _ _ _ _ _) (by simp [Value.oneCell']) (by unfold maxLen; omega) (by omega) (by have := hbw.size; simp; omega) ?_)
                intro v' w1 hown' hgrow _
                clear how c0' c1' c2'
                go_wp2
                go_roundw
                case rel => exact ⟨k + 3 + s[k + 1].toNat + s[k + 2].toNat, acc ++ [⟨false, (s.data.toList.drop (k + 3)).take s[k + 1].toNat, (s.data.toList.drop (k + 3 + s[k + 1].toNat)).take s[k + 2].toNat⟩], by omega, by congr 1, by rw [cellsE_snoc, List.length_append]; exact hown', by simp; omega, (hbw.alloc (by have := hbw.size; omega) _).grown hgrow (by have := hbw.size; simp; omega) (own_ge ho), HN⟩
                case measure => simp [intOf]; omega
              · have HN : Hid (ents s.data.toList = none) := by
                  show _ = _
                  rw [HE.out, ents_none hne (ent1_no (by omega) (fun hx => by rcases hx with h | h; exact absurd (Nat.lt_of_le_of_lt (Nat.le_of_eq hl.symm) h) (Nat.not_lt.2 q1); exact hng h) hp (by by_cases h1 : s[k] = 100; exact .inr (fun h2 => hdv ⟨h1, h2⟩); exact .inl h1))]; rfl
                clear HE
                by_cases hd : s[k] = 100
                · have hd1 : ((s[k].toNat : Int) != 100) = false := by rw [hd]; rfl
                  have hv1 : (0 : Int) < (s[k + 2].toNat : Int) := by
                    have : s[k + 2].toNat ≠ 0 := fun h2 => hdv ⟨hd, h2⟩
                    omega
                  clear hdv hd
                  go_wp2
                  go_ret2
                  exact ⟨_, by rw [HN.out]; rfl, by rw [HN.out]; rfl, hbw⟩
                · have hd1 : ((s[k].toNat : Int) != 100) = true := by
                    rw [bne_iff_ne]
                    intro h
                    apply hd
                    apply UInt8.toNat_inj.1
                    simp; omega
                  clear hdv hd
                  go_wp2
                  go_ret2
                  exact ⟨_, by rw [HN.out]; rfl, by rw [HN.out]; rfl, hbw⟩
      · have HN : Hid (ents s.data.toList = none) := by
          show _ = _
          rw [HE.out, ents_none hne (ent1_short (by simp; omega))]; rfl
        clear HE
        go_wp2
        go_ret2
        exact ⟨_, by rw [HN.out]; rfl, by rw [HN.out]; rfl, hb⟩
    · have hke : k = s.size := by omega
      subst hke
      have HN : Hid (ents s.data.toList = some acc) := by
        show _ = _
        rw [HE.out, List.drop_of_length_le (by omega), ents_nil]; simp
      clear HE
      go_wp2
      go_ret2
      exact ⟨_, by rw [HN.out]; rfl, by rw [HN.out]; exact ho, hb⟩
end Go.Proofs.YtdhgebdbiehchaaGreatDoor
namespace Go.Proofs.YtdhgebdbiehchaaGreatDoor
open Go.RowKit
set_option linter.unusedSimpArgs false
set_option linter.unusedVariables false

/-- What block answers: the entries in memory of its own, and how many bytes; or nil and 0. -/
def BlockIs (w : World) (base : Nat) (v : Value) (n : Int) (r : Option (List Ent × Nat)) : Prop :=
  match r with
  | none => v = .slice none 0 0 ∧ n = 0
  | some (es, k) => n = k ∧ w.ownsRow base 114 3 v es.length (cellsE es)

theorem own_len {w : World} {base e size n : Nat} {v : Value} {xs : List Value} (h : w.ownsRow base e size v n xs) : ∃ p c, v = .slice p n c := by
  rcases h.2 with ⟨rfl, rfl⟩ | ⟨g, cap, cur, rfl, _⟩
  · exact ⟨none, 0, rfl⟩
  · exact ⟨_, _, rfl⟩
theorem own_lower {w : World} {base base' e size n : Nat} {v : Value} {xs : List Value} (h : w.ownsRow base e size v n xs) (hb : base' ≤ base) : w.ownsRow base' e size v n xs := by
  obtain ⟨h1, h2⟩ := h
  refine ⟨h1, ?_⟩
  rcases h2 with h2 | ⟨g, cap, cur, hv, hg, r⟩
  · exact .inl h2
  · exact .inr ⟨g, cap, cur, hv, Nat.le_trans hb hg, r⟩

set_option maxRecDepth 100000 in
set_option maxHeartbeats 3200000 in
theorem refblock_any (log : ByteArray) (a : Nat) (blk seed bits : Int) (w : World) (hlog : log.size ≤ 140737488351232) (ha : a ≤ 4294967296) :
    Calls Tryz.prog 170 #[.string log, .int .i64 a, .agg #[.int .i64 blk, .int .i64 seed, .int .i64 bits]] w fun e w' => ∃ v n, e = .returned (.tuple #[v, .int .i64 n]) ∧ BlockIs w' w.heap.size v n (blockP log.data.toList a blk) ∧ Below w.heap.size w w' := by
  have hl : log.data.toList.length = log.size := by simp
  by_cases h1 : a < 14 ∨ log.size < a + 7
  · have HN : Hid (blockP log.data.toList a blk = none) := by
      show _ = _
      rw [blockP, if_pos (by rw [hl]; exact h1)]
    rcases (show a < 14 ∨ (14 ≤ a ∧ log.size < a + 7) from by omega) with h2 | ⟨h2, h3⟩
    all_goals
      clear h1
      go_enter Tryz.func170, Tryz.ntmps170
      go_wp2
      go_ret2
      exact ⟨_, _, rfl, by rw [HN.out]; exact ⟨rfl, rfl⟩, (Below.refl _ _).alloc (Nat.le_refl _) _⟩
  · have h2 : 14 ≤ a ∧ a + 7 ≤ log.size := by omega
    obtain ⟨h2, h3⟩ := h2
    have HB : Hid (blkSize log.data.toList a = highL ((log.data.toList.drop (a + 1)).take 2)) := rfl
    have hbs : blkSize log.data.toList a < 65536 := by
      have := highL_lt ((log.data.toList.drop (a + 1)).take 2)
      have h4 := pow256_le (show ((log.data.toList.drop (a + 1)).take 2).length ≤ 2 by simp; omega)
      rw [← HB.out] at this
      omega
    have c1 := cut_run log (a + 1) 2 (by omega) ((a : Int) + 1) ((a : Int) + 3) (by omega) (by omega)
    go_enter Tryz.func170, Tryz.ntmps170
    go_wp2_with fail
    refine (high_any _ _ (by rw [S_size]; simp; omega)).mono ?_
    rintro e w1 ⟨rfl, rfl⟩
    rw [S_data, ← HB.out]
    have HP : Hid (blockP log.data.toList a blk = _) := blockP.eq_1 log.data.toList a blk
    have hgd : (log.data.toList.getD a 0).toNat = log[a].toNat := by
      rw [List.getD, List.getElem?_eq_getElem (by omega)]; rfl
    obtain ⟨z, hz⟩ : ∃ z, z = blkSize log.data.toList a := ⟨_, rfl⟩
    rw [← hz] at hbs ⊢
    have HZ : Hid (z = blkSize log.data.toList a) := hz
    clear hz c1
    by_cases h4 : log.size < a + 7 + z
    · have HN : Hid (blockP log.data.toList a blk = none) := by
        show _ = _
        rw [HP.out, ← HZ.out, hl, if_neg h1, if_pos h4]
      clear HP
      go_wp2
      go_ret2
      exact ⟨_, _, rfl, by rw [HN.out]; exact ⟨rfl, rfl⟩, (Below.refl _ _).alloc (Nat.le_refl _) _⟩
    · have c2 := cut_run log a (7 + z) (by omega) (a : Int) ((a : Int) + 7 + (z : Int)) rfl (by omega)
      have c3 := cut_run log (a + 3) z (by omega) ((a : Int) + 3) ((a : Int) + 3 + (z : Int)) (by omega) (by omega)
      go_wp2_with fail
      refine (refSealed_any _ _ (by rw [S_size]; simp; omega)).mono ?_
      rintro e w2 ⟨rfl, hb2⟩
      rw [S_data]
      go_wp2_with fail
      refine (entries_any _ _ (by rw [S_size]; simp; omega)).mono ?_
      rintro e w3 ⟨v, rfl, hv, hb3⟩
      rw [S_data] at hv ⊢
      have hz2 : w.heap.size < w2.heap.size := by have := hb2.size; simp at this; omega
      have hb03 : Below w.heap.size w w3 := ((Below.refl _ _).alloc (Nat.le_refl _) _).trans ((hb2.mono (by simp)).trans (hb3.mono (by omega)))
      have d0 : w3.cell? ⟨w.heap.size, 0, none⟩ = some (.int .i64 blk) := by
        rw [hb3.cell (p := ⟨w.heap.size, 0, none⟩) hz2, hb2.cell (p := ⟨w.heap.size, 0, none⟩) (by simp)]; simp
      have hx0 := idx_run log a (by omega) a rfl
      have hw0 := w64b log[a]
      have hwl := log[a].toNat_lt
      clear c2 c3
      have HQ : Hid (blockP log.data.toList a blk = blkTail (sealedB ((log.data.toList.drop a).take (7 + z))) (ents ((log.data.toList.drop (a + 3)).take z)) log[a].toNat blk z) := by
        show _ = _
        rw [HP.out, ← HZ.out, hl, if_neg h1, if_neg h4, hgd]
      clear HP hgd
      generalize sealedB ((log.data.toList.drop a).take (7 + z)) = b1 at *
      generalize ents ((log.data.toList.drop (a + 3)).take z) = r at *
      cases b1
      · go_wp2
        go_ret2
        exact ⟨_, _, rfl, by rw [HQ.out]; exact ⟨rfl, rfl⟩, hb03⟩
      · cases r with
        | none =>
          go_wp2
          go_ret2
          exact ⟨_, _, rfl, by rw [HQ.out]; exact ⟨rfl, rfl⟩, hb03⟩
        | some es =>
          have hv' : w3.ownsRow w2.heap.size 114 3 v es.length (cellsE es) := hv
          obtain ⟨pv, cv, hpv⟩ := own_len hv'
          have HV : Hid (w3.ownsRow w.heap.size 114 3 v es.length (cellsE es)) := own_lower hv' (by omega)
          clear hv hv'
          subst hpv
          rcases (show es.length = 0 ∨ (es.length ≠ 0 ∧ es.length ≠ log[a].toNat) ∨ (es.length ≠ 0 ∧ es.length = log[a].toNat ∧ es.length ≤ 1) ∨ (es.length ≠ 0 ∧ es.length = log[a].toNat ∧ 1 < es.length ∧ blk < z) ∨ (es.length ≠ 0 ∧ es.length = log[a].toNat ∧ 1 < es.length ∧ (z : Int) ≤ blk) from by omega) with k1 | ⟨k1, k2⟩ | ⟨k1, k2, k3⟩ | ⟨k1, k2, k3, k4⟩ | ⟨k1, k2, k3, k4⟩
          · have HN : Hid (blockP log.data.toList a blk = none) := by
              show _ = _
              rw [HQ.out, blkTail, if_pos (.inl k1)]
            have t1 : ((es.length : Int) == 0) = true := by rw [beq_iff_eq]; omega
            clear k1
            go_wp2
            go_ret2
            exact ⟨_, _, rfl, by rw [HN.out]; exact ⟨rfl, rfl⟩, hb03⟩
          · have HN : Hid (blockP log.data.toList a blk = none) := by
              show _ = _
              rw [HQ.out, blkTail, if_pos (.inr (.inl k2))]
            have t1 : ((es.length : Int) == 0) = false := by rw [beq_eq_false_iff_ne]; omega
            have t2 : ((es.length : Int) != (log[a].toNat : Int)) = true := by rw [bne_iff_ne]; omega
            clear k1 k2
            go_wp2
            go_ret2
            exact ⟨_, _, rfl, by rw [HN.out]; exact ⟨rfl, rfl⟩, hb03⟩
          · have HN : Hid (blockP log.data.toList a blk = some (es, 7 + z)) := by
              show _ = _
              rw [HQ.out, blkTail, if_neg (by omega)]
            have t1 : ((es.length : Int) == 0) = false := by rw [beq_eq_false_iff_ne]; omega
            have t2 : ((es.length : Int) != (log[a].toNat : Int)) = false := by rw [bne_eq_false_iff_eq]; omega
            have t3 : ¬ (1 : Int) < (es.length : Int) := by omega
            clear k1 k2
            go_wp2
            go_ret2
            exact ⟨_, _, rfl, by rw [HN.out]; exact ⟨by simp, HV.out⟩, hb03⟩
          · have HN : Hid (blockP log.data.toList a blk = none) := by
              show _ = _
              rw [HQ.out, blkTail, if_pos (.inr (.inr ⟨k3, k4⟩))]
            have t1 : ((es.length : Int) == 0) = false := by rw [beq_eq_false_iff_ne]; omega
            have t2 : ((es.length : Int) != (log[a].toNat : Int)) = false := by rw [bne_eq_false_iff_eq]; omega
            have t3 : (1 : Int) < (es.length : Int) := by omega
            clear k1 k2
            go_wp2
            go_ret2
            exact ⟨_, _, rfl, by rw [HN.out]; exact ⟨rfl, rfl⟩, hb03⟩
          · have HN : Hid (blockP log.data.toList a blk = some (es, 7 + z)) := by
              show _ = _
              rw [HQ.out, blkTail, if_neg (by omega)]
            have t1 : ((es.length : Int) == 0) = false := by rw [beq_eq_false_iff_ne]; omega
            have t2 : ((es.length : Int) != (log[a].toNat : Int)) = false := by rw [bne_eq_false_iff_eq]; omega
            have t3 : (1 : Int) < (es.length : Int) := by omega
            have t4 : ¬ blk < (z : Int) := by omega
            clear k1 k2
            go_wp2
            go_ret2
            exact ⟨_, _, rfl, by rw [HN.out]; exact ⟨by simp, HV.out⟩, hb03⟩
end Go.Proofs.YtdhgebdbiehchaaGreatDoor
