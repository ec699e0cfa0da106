/- On the way: Spec, Nib. -/
import Derived.Test.YtdhgebdbiehchaaGreatDoorB05
import Derived.Lib.Strings
namespace Go.Proofs.YtdhgebdbiehchaaGreatDoor
open Go.RowKit
set_option linter.unusedSimpArgs false
set_option linter.unusedVariables false
def highL : List UInt8 -> Nat
 | [] => 0
 | b :: l => b.toNat + 256 * highL l
theorem highL_lt (l : List UInt8) : highL l < 256 ^ l.length := by
 induction l with
 | nil => simp [highL]
 | cons b l ih =>
  have := b.toNat_lt
  simp only [highL,List.length_cons,Nat.pow_succ]
  omega
theorem pow256_le {n m : Nat} (h : n <= m) : 256 ^ n <= 256 ^ m := Nat.pow_le_pow_right (by omega) h
def sealedB (l : List UInt8) : Bool := decide (4 <= l.length) && (sealL (l.take (l.length - 4)) == l)
def wellB (blk seed bits : Int) : Bool := decide (1 <= blk) && decide (blk <= 400) && decide (0 <= seed) && decide (seed <= 4294967295) && decide (0 <= bits) && decide (bits <= 32)
def hdBlk (l : List UInt8) : Nat := highL ((l.drop 2).take 2)
def hdSeed (l : List UInt8) : Nat := highL ((l.drop 4).take 4)
def hdBits (l : List UInt8) : Nat := highL ((l.drop 8).take 2)
def headB (l : List UInt8) : Bool := decide (14 <= l.length) && sealedB (l.take 14) && wellB (hdBlk l) (hdSeed l) (hdBits l) && (l.take 2 == [76,71])
structure Ent where
 put : Bool
 key : List UInt8
 val : List UInt8
def ent1 : List UInt8 -> Option (Ent × Nat)
 | kd :: k :: v :: r =>
  if r.length < k.toNat + v.toNat \/ k.toNat < 1 \/ 20 < k.toNat \/ 30 < v.toNat then none
  else if kd = 112 then some (⟨true,r.take k.toNat,(r.drop k.toNat).take v.toNat⟩,3 + k.toNat + v.toNat)
  else if kd = 100 /\ v.toNat = 0 then some (⟨false,r.take k.toNat,[]⟩,3 + k.toNat)
  else none
 | _ => none
theorem ent1_pos {l : List UInt8} {e : Ent} {n : Nat} (h : ent1 l = some (e,n)) : 4 <= n /\ n <= l.length := by
 unfold ent1 at h
 split at h
 ·rename_i kd k v r
  split at h
  ·cases h
  ·rename_i hc
   split at h
   ·simp at h; simp; omega
   ·split at h
    ·simp at h; simp; omega
    ·cases h
 ·cases h
def entsF : Nat -> List UInt8 -> Option (List Ent)
 | 0,l => if l.isEmpty then some [] else none
 | n + 1,l => if l.isEmpty then some [] else match ent1 l with
  | none => none
  | some (e,m) => (entsF n (l.drop m)).map (e :: ·)
def ents (l : List UInt8) : Option (List Ent) := entsF l.length l
theorem entsF_fuel (n m : Nat) (l : List UInt8) (hn : l.length <= n) (hm : l.length <= m) : entsF n l = entsF m l := by
 induction n generalizing m l with
 | zero =>
  have : l = [] := List.eq_nil_of_length_eq_zero (by omega)
  subst this
  cases m <;> simp [entsF]
 | succ n ih =>
  cases m with
  | zero =>
   have : l = [] := List.eq_nil_of_length_eq_zero (by omega)
   subst this
   simp [entsF]
  | succ m =>
   unfold entsF
   split
   ·rfl
   ·cases he : ent1 l with
    | none => rfl
    | some x =>
     obtain ⟨e,k⟩ := x
     have := ent1_pos he
     simp only
     rw [ih m (l.drop k) (by simp; omega) (by simp; omega)]
theorem ents_nil : ents [] = some [] := rfl
theorem ents_none {l : List UInt8} (hl : l ≠ []) (h : ent1 l = none) : ents l = none := by
 unfold ents
 cases l with
 | nil => exact absurd rfl hl
 | cons b l => simp [entsF,h]
theorem ents_some {l : List UInt8} {e : Ent} {n : Nat} (h : ent1 l = some (e,n)) : ents l = (ents (l.drop n)).map (e :: ·) := by
 have hp := ent1_pos h
 unfold ents
 cases l with
 | nil => simp at hp; omega
 | cons b l =>
  show entsF (l.length + 1) (b :: l) = _
  rw [entsF,if_neg (by simp),h]
  simp only
  rw [entsF_fuel l.length ((b :: l).drop n).length ((b :: l).drop n) (by simp at *; omega) (Nat.le_refl _)]
theorem drop3 {l : List UInt8} {a : Nat} (h : a + 3 <= l.length) : l.drop a = l[a] :: l[a + 1] :: l[a + 2] :: l.drop (a + 3) := by
 rw [List.drop_eq_getElem_cons (by omega),List.drop_eq_getElem_cons (i := a + 1) (by omega),List.drop_eq_getElem_cons (i := a + 2) (by omega)]
theorem ent1_short {l : List UInt8} (h : l.length < 3) : ent1 l = none := by
 match l,h with
 | [],_ => rfl
 | [_],_ => rfl
 | [_,_],_ => rfl
theorem ent1_bad {l : List UInt8} {a : Nat} (h : a + 3 <= l.length) (hb : l.length < a + 3 + l[a + 1].toNat + l[a + 2].toNat \/ l[a + 1].toNat < 1 \/ 20 < l[a + 1].toNat \/ 30 < l[a + 2].toNat) : ent1 (l.drop a) = none := by
 rw [drop3 h,ent1,if_pos]
 rw [List.length_drop]; omega
theorem ent1_no {l : List UInt8} {a : Nat} (h : a + 3 <= l.length) (hb : ¬ (l.length < a + 3 + l[a + 1].toNat + l[a + 2].toNat \/ l[a + 1].toNat < 1 \/ 20 < l[a + 1].toNat \/ 30 < l[a + 2].toNat)) (hp : l[a] ≠ 112) (hd : l[a] ≠ 100 \/ l[a + 2].toNat ≠ 0) : ent1 (l.drop a) = none := by
 rw [drop3 h,ent1,if_neg (by rw [List.length_drop]; omega),if_neg hp,if_neg (by intro hx; rcases hd with h | h <;> simp_all)]
def cellsE (es : List Ent) : List Value := es.flatMap fun e => [.bool e.put,.string (S e.key),.string (S e.val)]
theorem cellsE_snoc (es : List Ent) (e : Ent) : cellsE (es ++ [e]) = cellsE es ++ [.bool e.put,.string (S e.key),.string (S e.val)] := by simp [cellsE]
theorem cut_S (s : ByteArray) (a b : Nat) : s.extract a b = S ((s.data.toList.drop a).take (b - a)) := by
 rw [<- S_of (s.extract a b)]
 congr 1
 rw [Lib.extract_data]
def blkSize (log : List UInt8) (at' : Nat) : Nat := highL ((log.drop (at' + 1)).take 2)
def blkTail (ok : Bool) (r : Option (List Ent)) (count : Nat) (blk : Int) (size : Nat) : Option (List Ent × Nat) :=
 match ok,r with
 | true,some es => if es.length = 0 \/ es.length ≠ count \/ (1 < es.length /\ blk < size) then none else some (es,7 + size)
 | _,_ => none
def blockP (log : List UInt8) (at' : Nat) (blk : Int) : Option (List Ent × Nat) :=
 if at' < 14 \/ log.length < at' + 7 then none
 else if log.length < at' + 7 + blkSize log at' then none
 else blkTail (sealedB ((log.drop at').take (7 + blkSize log at'))) (ents ((log.drop (at' + 3)).take (blkSize log at'))) (log.getD at' 0).toNat blk (blkSize log at')
theorem blockP_some {log : List UInt8} {a : Nat} {blk : Int} {es : List Ent} {k : Nat} (h : blockP log a blk = some (es,k)) : 7 <= k /\ k < 65543 /\ 1 <= es.length /\ es.length <= 255 /\ 14 <= a /\ a + k <= log.length := by
 have hs : blkSize log a < 65536 := by
  have := highL_lt ((log.drop (a + 1)).take 2)
  have h4 := pow256_le (show ((log.drop (a + 1)).take 2).length <= 2 by simp; omega)
  unfold blkSize; omega
 unfold blockP at h
 split at h
 ·cases h
 ·split at h
  ·cases h
  ·unfold blkTail at h
   split at h
   ·split at h
    ·cases h
    ·rename_i h1 h2 _ es' _ h3
     simp only [Option.some.injEq,Prod.mk.injEq] at h
     obtain ⟨rfl,rfl⟩ := h
     have := (log.getD a 0).toNat_lt
     simp only [not_or] at h3 h1
     omega
   ·cases h
theorem crcBit_shift (c : Nat) : crcBit c = (c >>> 1) ^^^ (if c.testBit 0 then 3988292384 else 0) := by
 unfold crcBit
 rw [Nat.shiftRight_eq_div_pow,Nat.pow_one]
 have : c.testBit 0 = decide (c % 2 = 1) := by simp [Nat.testBit_zero]
 rw [this]
 by_cases h : c % 2 = 1 <;> simp [h]
theorem crcBit_xor (a b : Nat) : crcBit (a ^^^ b) = crcBit a ^^^ crcBit b := by
 rw [crcBit_shift,crcBit_shift,crcBit_shift,Nat.shiftRight_xor_distrib,Nat.testBit_xor]
 cases a.testBit 0 <;> cases b.testBit 0
 ·simp
 ·simp [Nat.xor_assoc]
 ·simp only [Bool.true_xor,Bool.not_false,if_true,Bool.false_eq_true,if_false,Nat.xor_zero]
  rw [Nat.xor_assoc,Nat.xor_comm (b >>> 1),<- Nat.xor_assoc]
 ·simp only [Bool.true_xor,Bool.not_true,Bool.false_eq_true,if_false,if_true,Nat.xor_zero]
  rw [Nat.xor_assoc (a >>> 1),<- Nat.xor_assoc 3988292384,Nat.xor_comm 3988292384 (b >>> 1),Nat.xor_assoc (b >>> 1),Nat.xor_self,Nat.xor_zero]
theorem crcBits_xor (n a b : Nat) : crcBits n (a ^^^ b) = crcBits n a ^^^ crcBits n b := by
 induction n with
 | zero => rfl
 | succ n ih => simp only [crcBits]; rw [ih,crcBit_xor]
theorem crcBits_add (n m c : Nat) : crcBits (n + m) c = crcBits n (crcBits m c) := by
 induction n with
 | zero => simp [crcBits]
 | succ n ih => rw [Nat.succ_add]; simp only [crcBits]; rw [ih]
theorem crcBit_even (c : Nat) : crcBit (2 * c) = c := by unfold crcBit; rw [if_neg (by omega)]; omega
theorem crcBits_16 (c : Nat) : crcBits 4 (16 * c) = c := by
 have h : crcBits 4 (16 * c) = crcBit (crcBit (crcBit (crcBit (16 * c)))) := rfl
 rw [h,show 16 * c = 2 * (8 * c) by omega,crcBit_even,show 8 * c = 2 * (4 * c) by omega,crcBit_even,show 4 * c = 2 * (2 * c) by omega,crcBit_even,crcBit_even]
def halvesL : List Nat := [0,498536548,997073096,651767980,1994146192,1802195444,1303535960,1342533948,3988292384,4027552580,3604390888,3412177804,2607071920,2262029012,2685067896,3183342108]
theorem halves_at : ∀ i,i < 16 -> crcBits 4 i = halvesL.getD i 0 := by decide +kernel
theorem nib (c : Nat) : crcBits 4 c = (c / 16) ^^^ halvesL.getD (c % 16) 0 := by
 have e : c = 16 * (c / 16) ^^^ c % 16 := by
  have h1 : 16 * (c / 16) ^^^ c % 16 = 16 * (c / 16) + c % 16 := by
   have := Nat.two_pow_add_eq_or_of_lt (i := 4) (b := c % 16) (by omega) (c / 16)
   have h2 : 2 ^ 4 * (c / 16) ||| c % 16 = 2 ^ 4 * (c / 16) ^^^ c % 16 := by
    apply Nat.eq_of_testBit_eq
    intro j
    rw [Nat.testBit_or,Nat.testBit_xor]
    by_cases hj : j < 4
    ·have : (2 ^ 4 * (c / 16)).testBit j = false := by
      rw [Nat.testBit_two_pow_mul]; simp; omega
     rw [this]; simp
    ·have : (c % 16).testBit j = false := by
      apply Nat.testBit_lt_two_pow
      exact Nat.lt_of_lt_of_le (show c % 16 < 2 ^ 4 by omega) (Nat.pow_le_pow_right (by omega) (by omega))
     rw [this]; simp
   rw [show (16 : Nat) = 2 ^ 4 from rfl] at *
   rw [<- h2,<- this]
  rw [h1]; omega
 conv => lhs; rw [e]
 rw [crcBits_xor,crcBits_16,halves_at _ (by omega)]
def nibStep (c : Nat) : Nat := (c / 16) ^^^ halvesL.getD (c % 16) 0
theorem nib_byte (c : Nat) (b : UInt8) : crcByte c b = nibStep (nibStep (c ^^^ b.toNat)) := by
 unfold crcByte nibStep
 rw [<- nib,<- nib,<- crcBits_add]
theorem nibStep_lt {c : Nat} (h : c < 4294967296) : nibStep c < 4294967296 := by
 unfold nibStep; rw [<- nib]; exact crcBits_lt h
theorem halves_lt : ∀ i,i < 16 -> halvesL.getD i 0 < 4294967296 := by decide +kernel
end Go.Proofs.YtdhgebdbiehchaaGreatDoor
