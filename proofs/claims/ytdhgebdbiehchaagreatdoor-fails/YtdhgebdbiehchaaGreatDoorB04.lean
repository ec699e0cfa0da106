/- On the way: Crc. -/
import Derived.Test.YtdhgebdbiehchaaGreatDoorB02
import Derived.Laws.BitsAllLaws
namespace Go.Proofs.YtdhgebdbiehchaaGreatDoor
open Go.RowKit
set_option linter.unusedSimpArgs false
set_option linter.unusedVariables false
set_option maxRecDepth 100000
set_option maxHeartbeats 800000
theorem ofInt_64 (a : Nat) (h : a < 9223372036854775808) : (BitVec.ofInt 64 (a : Int)).toNat = a := by
 rw [BitVec.toNat_ofInt]; omega
theorem i64_xor_nat (a b : Nat) (ha : a < 9223372036854775808) (hb : b < 9223372036854775808) : bits .xor .i64 (a : Int) (b : Int) = ((a ^^^ b : Nat) : Int) := by
 have hx : a ^^^ b < 2 ^ 63 := Nat.xor_lt_two_pow (by omega) (by omega)
 show IntKind.i64.wrap ((BitVec.ofInt 64 (a : Int) ^^^ BitVec.ofInt 64 (b : Int)).toNat : Int) = _
 rw [BitVec.toNat_xor,ofInt_64 a ha,ofInt_64 b hb,IntKind.wrap_i64]
 omega
theorem w64b (b : UInt8) : wrap64 (b.toNat : Int) = b.toNat := by
 have := b.toNat_lt
 simp only [wrap64]; omega
def crcBit (c : Nat) : Nat := if c % 2 = 1 then (c / 2) ^^^ 3988292384 else c / 2
def crcBits : Nat -> Nat -> Nat
 | 0,c => c
 | n + 1,c => crcBit (crcBits n c)
def crcByte (c : Nat) (b : UInt8) : Nat := crcBits 8 (c ^^^ b.toNat)
def crcRun (l : List UInt8) : Nat := l.foldl crcByte 4294967295
def crcN (l : List UInt8) : Nat := crcRun l ^^^ 4294967295
theorem crcBit_lt {c : Nat} (h : c < 4294967296) : crcBit c < 4294967296 := by
 unfold crcBit
 split
 ·exact Nat.xor_lt_two_pow (n := 32) (by omega) (by omega)
 ·omega
theorem crcBits_lt {n c : Nat} (h : c < 4294967296) : crcBits n c < 4294967296 := by
 induction n with
 | zero => exact h
 | succ n ih => exact crcBit_lt ih
theorem crcByte_lt {c : Nat} (b : UInt8) (h : c < 4294967296) : crcByte c b < 4294967296 := by
 have := b.toNat_lt
 exact crcBits_lt (Nat.xor_lt_two_pow (n := 32) (by omega) (by omega))
theorem crcRun_snoc (l : List UInt8) (c : UInt8) : crcRun (l ++ [c]) = crcByte (crcRun l) c := by simp [crcRun]
theorem foldl_crc_lt (l : List UInt8) (c : Nat) (h : c < 4294967296) : l.foldl crcByte c < 4294967296 := by
 induction l generalizing c with
 | nil => exact h
 | cons b l ih => exact ih _ (crcByte_lt b h)
theorem crcRun_lt (l : List UInt8) : crcRun l < 4294967296 := foldl_crc_lt l _ (by omega)
theorem crcN_lt (l : List UInt8) : crcN l < 4294967296 := Nat.xor_lt_two_pow (n := 32) (crcRun_lt l) (by omega)
theorem crcRun_snocS (s : ByteArray) (k : Nat) (h : k < s.size) : crcRun (s.data.toList.take (k + 1)) = crcByte (crcRun (s.data.toList.take k)) s[k] := by
 rw [take_snocS s k h,crcRun_snoc]
theorem crc_any (s : ByteArray) (w : World) (hs : s.size <= 9223372036854775807) :
  Calls Tryz.prog 160 #[.string s] w fun e w' => e = .returned (.int .i64 (crcN s.data.toList : Nat)) /\ w' = w := by
 go_enter Tryz.func160,Tryz.ntmps160
 go_wp2
 go_loop [3,4] (fun c i => ∃ (k : Nat),k <= s.size /\ i = .int .i64 k /\ c = .int .i64 (crcRun (s.data.toList.take k) : Nat)) (fun _ i => s.size - (intOf i).toNat)
 case atStart => exact ⟨0,Nat.zero_le _,rfl,rfl⟩
 case round =>
  obtain ⟨k,hk,rfl,rfl⟩ := hrel
  have hr := crcRun_lt (s.data.toList.take k)
  by_cases hlt : k < s.size
  ·have HS : Hid (crcRun (s.data.toList.take (k + 1)) = crcByte (crcRun (s.data.toList.take k)) s[k]) := crcRun_snocS s k hlt
   have hx := i64_xor_nat (crcRun (s.data.toList.take k)) s[k].toNat (by omega) (by have := s[k].toNat_lt; omega)
   have HB : Hid ((crcRun (s.data.toList.take k)) ^^^ s[k].toNat < 4294967296) := Nat.xor_lt_two_pow (n := 32) (by omega) (by have := s[k].toNat_lt; omega)
   have HD : Hid (crcByte (crcRun (s.data.toList.take k)) s[k] = crcBits 8 (crcRun (s.data.toList.take k) ^^^ s[k].toNat)) := rfl
   generalize crcRun (s.data.toList.take k) = x at *
   go_wp2
   generalize x ^^^ s[k].toNat = y at *
   go_loop [3,5,6] (fun c i _ => ∃ (j : Nat),j <= 8 /\ i = .int .i64 j /\ c = .int .i64 (crcBits j y : Nat)) (fun _ i _ => 8 - (intOf i).toNat)
   case atStart => exact ⟨0,by omega,rfl,by rw [w64b,hx]; rfl⟩
   case round =>
    obtain ⟨j,hj,rfl,rfl⟩ := hrel
    have hlt2 : crcBits j y < 4294967296 := crcBits_lt HB.out
    have HC : Hid (crcBits (j + 1) y = crcBit (crcBits j y)) := rfl
    by_cases hj8 : j < 8
    ·have hxx := i64_xor_nat (crcBits j y / 2) 3988292384 (by omega) (by omega)
     generalize crcBits j y = z at *
     by_cases hodd : z % 2 = 1
     ·have hb : ((z : Int) % 2 == 1) = true := by simp; omega
      go_wp2
      go_round
      case rel => exact ⟨j + 1,by omega,by go_num,by rw [HC.out,crcBit,if_pos hodd,<- hxx]; simp⟩
      case measure => simp [intOf]; omega
     ·have hb : ((z : Int) % 2 == 1) = false := by simp; omega
      go_wp2
      go_round
      case rel => exact ⟨j + 1,by omega,by go_num,by rw [HC.out,crcBit,if_neg hodd]; simp⟩
      case measure => simp [intOf]; omega
    ·have hj9 : j = 8 := by omega
     subst hj9
     go_wp2
     go_round
     case rel => exact ⟨k + 1,by omega,by go_num,by rw [HS.out,HD.out]⟩
     case measure => simp [intOf]; omega
  ·have HS : Hid (crcRun (s.data.toList.take k) = crcRun s.data.toList) := by
    show _ = _
    rw [List.take_of_length_le (by simp; omega)]
   have hx := i64_xor_nat (crcRun (s.data.toList.take k)) 4294967295 (by omega) (by omega)
   generalize crcRun (s.data.toList.take k) = x at *
   go_wp2
   go_ret
   exact ⟨ret_int (by rw [crcN,<- HS.out,<- hx]; rfl),rfl⟩
end Go.Proofs.YtdhgebdbiehchaaGreatDoor
