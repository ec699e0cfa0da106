/- On the way: RefHead, KpNum. -/
import Derived.Test.YtdhgebdbiehchaaGreatDoorB06
import Derived.Lib.Strings
import Derived.Deep.DeepCutAuto
import Derived.Test.YtdhgebdbiehchaaGreatDoorB02
import Derived.Test.YtdhgebdbiehchaaGreatDoorB03
namespace Go.Proofs.YtdhgebdbiehchaaGreatDoor
open Go.RowKit
set_option linter.unusedSimpArgs false
set_option linter.unusedVariables false
set_option maxRecDepth 100000
set_option maxHeartbeats 1600000
theorem cut_run (s : ByteArray) (a n : Nat) (h2 : a + n <= s.size) (i j : Int) (hi : i = a) (hj : j = ((a + n : Nat) : Int)) : ∀ wx : World,(Instr.slice 9 (.string s) (some (.int .i64 i)) (some (.int .i64 j)) none).run Tryz.prog wx = .ok (.string (S ((s.data.toList.drop a).take n))) wx := by
 intro wx
 subst hi hj
 rw [run_slice_string wx 9 s .i64 .i64 a ((a + n : Nat) : Int) Tryz.underlying9 (by omega) (by omega) (by omega),cut_S,Int.toNat_natCast,Int.toNat_natCast,Nat.add_sub_cancel_left]
theorem cut_from (s : ByteArray) (a : Nat) (h : a <= s.size) (i : Int) (hi : i = a) : ∀ wx : World,(Instr.slice 9 (.string s) (some (.int .i64 i)) none none).run Tryz.prog wx = .ok (.string (S (s.data.toList.drop a))) wx := by
 intro wx
 subst hi
 rw [run_slice_string_from_if wx 9 s .i64 a Tryz.underlying9,if_pos ⟨by omega,by omega⟩,cut_S,Int.toNat_natCast,List.take_of_length_le (by simp)]
theorem cut_upto (s : ByteArray) (a : Nat) (h : a <= s.size) (i : Int) (hi : i = a) : ∀ wx : World,(Instr.slice 9 (.string s) none (some (.int .i64 i)) none).run Tryz.prog wx = .ok (.string (S (s.data.toList.take a))) wx := by
 intro wx
 subst hi
 rw [run_slice_string_to_if wx 9 s .i64 a Tryz.underlying9,if_pos ⟨by omega,by omega⟩,cut_S,Int.toNat_natCast,List.drop_zero,Nat.sub_zero]
theorem idx_run (s : ByteArray) (a : Nat) (h : a < s.size) (i : Int) (hi : i = a) : ∀ wx : World,(Instr.index 9 (.string s) (.int .i64 i)).run Tryz.prog wx = .ok (.int .u8 (s[a].toNat : Int)) wx := by
 intro wx
 subst hi
 rw [run_index_string wx 9 s .i64 a Tryz.underlying9,dif_pos ⟨by omega,by omega⟩]
 simp
theorem cut_list (s : ByteArray) (a b : Nat) : (s.extract a b).data.toList = (s.data.toList.drop a).take (b - a) := Lib.extract_data s a b
def pickK (c n : Int) : Int := (if c < 0 then -(c + 1) else c) % n
theorem pickK_range {c n : Int} (hn : 0 < n) : 0 <= pickK c n /\ pickK c n < n := ⟨Int.emod_nonneg _ (by omega),Int.emod_lt_of_pos _ hn⟩
def IntR (c : Int) : Prop := -9223372036854775808 <= c /\ c <= 9223372036854775807
theorem kpick_any (c n : Int) (w : World) (hn : 0 < n) (hc : IntR c) (h3 : n <= 9223372036854775807) :
  Calls Tryz.prog 16 #[.int .i64 c,.int .i64 n] w fun e w' => e = .returned (.int .i64 (pickK c n)) /\ w' = w := by
 obtain ⟨h1,h2⟩ := hc
 by_cases h0 : c < 0
 ·have e : pickK c n = -((c + 1).tmod n) := by unfold pickK; rw [if_pos h0,<- Int.neg_tmod,Int.tmod_eq_emod_of_nonneg (by omega)]
  rw [e]
  go_enter Tryz.func16,Tryz.ntmps16
  go_wp2
  go_ret
  exact ⟨rfl,rfl⟩
 ·have e : pickK c n = c % n := by unfold pickK; rw [if_neg h0]
  rw [e]
  go_enter Tryz.func16,Tryz.ntmps16
  go_wp2
  go_ret
  exact ⟨rfl,rfl⟩
def IntsAt (w : World) (a : Option Addr) (l : List Int) : Prop := l = [] \/ ∃ b off,a = some ⟨b,off,none⟩ /\ b < w.heap.size /\ ∀ i (hi : i < l.length),w.cell? ⟨b,off + i,none⟩ = some (.int .i64 l[i])
theorem IntsAt.below {w w' : World} {a : Option Addr} {l : List Int} (h : IntsAt w a l) (hb : Below w.heap.size w w') : IntsAt w' a l := by
 rcases h with rfl | ⟨b,off,rfl,hl,hc⟩
 ·exact .inl rfl
 ·exact .inr ⟨b,off,rfl,Nat.lt_of_lt_of_le hl hb.size,fun i hi => (hb.cell (p := ⟨b,off + i,none⟩) hl).trans (hc i hi)⟩
def rawK (l : List Int) (i : Nat) : Int := l.getD (i % l.length) 0
theorem kraw_any (a : Option Addr) (l : List Int) (cap i : Nat) (w : World) (h : IntsAt w a l) (hi : i <= 1000) (hl : l.length <= 9223372036854775807) :
  Calls Tryz.prog 37 #[.slice a l.length cap,.int .i64 (i : Int)] w fun e w' => e = .returned (.int .i64 (rawK l i)) /\ w' = w := by
 rcases h with rfl | ⟨b,off,rfl,hlt,hc⟩
 ·have e : rawK [] i = 0 := by simp [rawK]
  rw [e]
  go_enter Tryz.func37,Tryz.ntmps37
  go_wp2
  go_ret
  exact ⟨rfl,rfl⟩
 ·by_cases h0 : l.length = 0
  ·have e : l = [] := List.length_eq_zero_iff.1 h0
   subst e
   have e : rawK [] i = 0 := by simp [rawK]
   rw [e]
   go_enter Tryz.func37,Tryz.ntmps37
   go_wp2
   go_ret
   exact ⟨rfl,rfl⟩
  ·have hm : i % l.length < l.length := Nat.mod_lt _ (by omega)
   have c := hc (i % l.length) hm
   have e : rawK l i = l[i % l.length] := by unfold rawK; rw [List.getD_eq_getElem?_getD,List.getElem?_eq_getElem hm]; rfl
   rw [e]
   generalize l[i % l.length] = v at *
   have e1 : (i : Int) % (l.length : Int) = ((i % l.length : Nat) : Int) := by omega
   clear hc e
   generalize i % l.length = k at *
   generalize l.length = n at *
   go_enter Tryz.func37,Tryz.ntmps37
   go_wp2
   go_ret
   exact ⟨rfl,rfl⟩
def digitsK (n : Nat) : List UInt8 := if n < 10 then [UInt8.ofNat (48 + n)] else [UInt8.ofNat (48 + n / 10),UInt8.ofNat (48 + n % 10)]
theorem dig_cut (n : Nat) (h : n < 10) (x y : Int) (hx : x = n) (hy : y = n + 1) : ∀ wx : World,(Instr.slice 9 (.string ⟨#[48,49,50,51,52,53,54,55,56,57]⟩) (some (.int .i64 x)) (some (.int .i64 y)) none).run Tryz.prog wx = .ok (.string (S [UInt8.ofNat (48 + n)])) wx := by
 intro wx
 have e : [UInt8.ofNat (48 + n)] = (List.drop n [48,49,50,51,52,53,54,55,56,57]).take 1 := by
  match n,h with
  | 0,_ | 1,_ | 2,_ | 3,_ | 4,_ | 5,_ | 6,_ | 7,_ | 8,_ | 9,_ => decide
 rw [e,hx,hy]
 exact cut_run (S [48,49,50,51,52,53,54,55,56,57]) n 1 (by rw [S_size]; simp; omega) _ _ rfl (by omega) wx
theorem digits_one (n : Nat) (w : World) (h : n < 10) :
  Calls Tryz.prog 44 #[.int .i64 (n : Int)] w fun e w' => e = .returned (.string (S [UInt8.ofNat (48 + n)])) /\ w' = w := by
 have HC := dig_cut n h n (n + 1) rfl rfl
 generalize S [UInt8.ofNat (48 + n)] = D at *
 go_enter Tryz.func44,Tryz.ntmps44
 go_wp2
 go_ret
 exact ⟨rfl,rfl⟩
theorem digits_any (n : Nat) (w : World) (h : n < 100) :
  Calls Tryz.prog 44 #[.int .i64 (n : Int)] w fun e w' => e = .returned (.string (S (digitsK n))) /\ Below w.heap.size w w' := by
 by_cases h1 : n < 10
 ·have := digits_one n w h1
  unfold digitsK
  rw [if_pos h1]
  exact this.mono fun e w' ⟨a1,a2⟩ => ⟨a1,by rw [a2]; exact Below.refl _ _⟩
 ·have e : digitsK n = [UInt8.ofNat (48 + n / 10)] ++ [UInt8.ofNat (48 + n % 10)] := by unfold digitsK; rw [if_neg h1]; rfl
  rw [e,<- S_append]
  have H1 : Hid (∀ wx : World,Calls Tryz.prog 44 #[.int .i64 ((n / 10 : Nat) : Int)] wx fun e w' => e = .returned (.string (S [UInt8.ofNat (48 + n / 10)])) /\ w' = wx) := fun wx => digits_one (n / 10) wx (by omega)
  have HC := dig_cut (n % 10) (by omega) ((n % 10 : Nat) : Int) ((n % 10 : Nat) + 1) rfl rfl
  have z1 : (S [UInt8.ofNat (48 + n / 10)]).size = 1 := S_size _
  have z2 : (S [UInt8.ofNat (48 + n % 10)]).size = 1 := S_size _
  generalize S [UInt8.ofNat (48 + n / 10)] = D at *
  generalize S [UInt8.ofNat (48 + n % 10)] = F at *
  have htd : (n : Int).tdiv 10 = ((n / 10 : Nat) : Int) := rfl
  have htm : (n : Int).tmod 10 = ((n % 10 : Nat) : Int) := rfl
  have ha : n / 10 < 10 := by omega
  have hb : n % 10 < 10 := by omega
  clear e
  generalize n / 10 = a at *
  generalize n % 10 = c at *
  have ha1 : (0 : Int) <= (a : Int) := by omega
  have ha2 : (a : Int) < 10 := by omega
  have hc1 : (0 : Int) <= (c : Int) := by omega
  have hc2 : (c : Int) < 10 := by omega
  have hc3 : (c : Int) + 1 <= 10 := by omega
  have hwa : IntKind.i64.wrap (a : Int) = (a : Int) := by rw [IntKind.wrap_i64]; omega
  have hc4 : IntKind.i64.wrap ((c : Int) + 1) = (c : Int) + 1 := by rw [IntKind.wrap_i64]; omega
  have n1 : (0 : Int) <= (n : Int) := by omega
  have n2 : (10 : Int) <= (n : Int) := by omega
  have n3 : (n : Int) < 100 := by omega
  go_enter Tryz.func44,Tryz.ntmps44
  go_wp2_with fail
  go_region_held3 (fun _ => True) (exact trivial) (first | (go_at_call 44; refine (H1.out _).mono ?_; rintro e w2 ⟨rfl,rfl⟩))
  all_goals
   go_wp2
   go_ret
   exact ⟨rfl,(Below.refl _ _).drew⟩
def keyK (n : Nat) : List UInt8 := 107 :: digitsK n
theorem digitsK_len (n : Nat) : 1 <= (digitsK n).length /\ (digitsK n).length <= 2 := by unfold digitsK; split <;> simp
theorem kkey_any (c : Int) (w : World) (hc : IntR c) :
  Calls Tryz.prog 22 #[.int .i64 c] w fun e w' => e = .returned (.string (S (keyK (pickK c 60).toNat))) /\ Below w.heap.size w w' := by
 have hr := pickK_range (c := c) (n := 60) (by omega)
 have HP : Hid (∀ wx : World,Calls Tryz.prog 16 #[.int .i64 c,.int .i64 60] wx fun e w' => e = .returned (.int .i64 (((pickK c 60).toNat : Nat) : Int)) /\ w' = wx) := fun wx => by
  have := kpick_any c 60 wx (by omega) hc (by omega)
  rw [show (((pickK c 60).toNat : Nat) : Int) = pickK c 60 by omega]
  exact this
 generalize hn : (pickK c 60).toNat = n at *
 have hn2 : n < 100 := by omega
 have HD : Hid (∀ wx : World,Calls Tryz.prog 44 #[.int .i64 (n : Int)] wx fun e w' => e = .returned (.string (S (digitsK n))) /\ Below wx.heap.size wx w') := fun wx => digits_any n wx hn2
 have hz := (digitsK_len n).2
 have zz : (S (digitsK n)).size = (digitsK n).length := S_size _
 have e : S (keyK n) = ⟨#[107]⟩ ++ S (digitsK n) := by rw [show (⟨#[107]⟩ : ByteArray) = S [107] from rfl,S_append]; rfl
 rw [e]
 generalize S (digitsK n) = D at *
 clear hr hn e
 go_enter Tryz.func22,Tryz.ntmps22
 go_wp2_with (first | (go_at_call 16; refine (HP.out _).mono ?_; rintro e w ⟨rfl,rfl⟩) | (go_at_call 44; refine (HD.out _).mono ?_; rintro e w1 ⟨rfl,hb⟩))
 go_ret
 exact ⟨rfl,hb⟩
end Go.Proofs.YtdhgebdbiehchaaGreatDoor
