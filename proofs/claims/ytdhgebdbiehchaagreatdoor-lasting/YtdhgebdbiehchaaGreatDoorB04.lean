/- On the way: Crc. -/
import Derived.Test.YtdhgebdbiehchaaGreatDoorB02
import Derived.Laws.BitsAllLaws
namespace Go.Proofs.YtdhgebdbiehchaaGreatDoor
open Go.RowKit
set_option linter.unusedSimpArgs false
set_option linter.unusedVariables false
theorem ofInt_64 (a : Nat) (h : a < 9223372036854775808) : (BitVec.ofInt 64 (a : Int)).toNat = a := by
 rw [BitVec.toNat_ofInt]; omega
theorem w64b (b : UInt8) : wrap64 (b.toNat : Int) = b.toNat := by
 have := b.toNat_lt
 simp only [wrap64]; omega
def crcBit (c : Nat) : Nat := if c % 2 = 1 then (c / 2) ^^^ 3988292384 else c / 2
def crcBits : Nat -> Nat -> Nat
 | 0,c => c
 | n + 1,c => crcBit (crcBits n c)
def crcByte (c : Nat) (b : UInt8) : Nat := crcBits 8 (c ^^^ b.toNat)
def crcRun (l : List UInt8) : Nat := l.foldl crcByte 4294967295
def crcN (l : List UInt8) : Nat := crcRun l ^^^ 4294967295
theorem crcBit_lt {c : Nat} (h : c < 4294967296) : crcBit c < 4294967296 := by
 unfold crcBit
 split
 ·exact Nat.xor_lt_two_pow (n := 32) (by omega) (by omega)
 ·omega
theorem crcBits_lt {n c : Nat} (h : c < 4294967296) : crcBits n c < 4294967296 := by
 induction n with
 | zero => exact h
 | succ n ih => exact crcBit_lt ih
theorem crcByte_lt {c : Nat} (b : UInt8) (h : c < 4294967296) : crcByte c b < 4294967296 := by
 have := b.toNat_lt
 exact crcBits_lt (Nat.xor_lt_two_pow (n := 32) (by omega) (by omega))
theorem crcRun_snoc (l : List UInt8) (c : UInt8) : crcRun (l ++ [c]) = crcByte (crcRun l) c := by simp [crcRun]
theorem foldl_crc_lt (l : List UInt8) (c : Nat) (h : c < 4294967296) : l.foldl crcByte c < 4294967296 := by
 induction l generalizing c with
 | nil => exact h
 | cons b l ih => exact ih _ (crcByte_lt b h)
theorem crcRun_lt (l : List UInt8) : crcRun l < 4294967296 := foldl_crc_lt l _ (by omega)
theorem crcN_lt (l : List UInt8) : crcN l < 4294967296 := Nat.xor_lt_two_pow (n := 32) (crcRun_lt l) (by omega)
theorem crcRun_snocS (s : ByteArray) (k : Nat) (h : k < s.size) : crcRun (s.data.toList.take (k + 1)) = crcByte (crcRun (s.data.toList.take k)) s[k] := by
 rw [take_snocS s k h,crcRun_snoc]
end Go.Proofs.YtdhgebdbiehchaaGreatDoor
