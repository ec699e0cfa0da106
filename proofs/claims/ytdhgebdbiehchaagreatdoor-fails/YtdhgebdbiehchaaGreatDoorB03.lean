/- On the way: Num. -/
import Derived.Test.YtdhgebdbiehchaaGreatDoorB02
import Derived.Deep.RegionWith
import Derived.Deep.RegionHeld3
import Derived.Deep.QuietTactic
import Derived.BigQuiet
namespace Go.Proofs.YtdhgebdbiehchaaGreatDoor
open Go.RowKit
set_option linter.unusedSimpArgs false
set_option linter.unusedVariables false
set_option maxRecDepth 100000
set_option maxHeartbeats 800000
theorem refnumber_any (seed bits : Int) (key : ByteArray) (w : World) (h0 : 0 <= seed) (h1 : seed <= 4294967295) (hb0 : 0 <= bits) (hb1 : bits <= 32) (hs : key.size <= 140737488351232) :
  Calls Tryz.prog 162 #[.int .i64 seed,.int .i64 bits,.string key] w fun e w' => e = .returned (.int .i64 (numberI seed bits key.data.toList)) /\ Below w.heap.size w w' := by
 go_enter Tryz.func162,Tryz.ntmps162
 go_wp2_with fail
 refine (low_any seed 4 _ h0 (by omega) (by omega)).mono ?_
 rintro e w1 ⟨rfl,hb⟩
 have hsz : (S (lowL seed.toNat 4)).size = 4 := by rw [S_size,lowL_length]
 go_wp2_with fail
 refine (sum_any _ _ (by rw [append_S_size,lowL_length]; omega)).mono ?_
 rintro e w2 ⟨rfl,rfl⟩
 rw [append_S_data]
 have HN : Hid (numberI seed bits key.data.toList = fnv F0 (lowL seed.toNat 4 ++ key.data.toList) % 2 ^ bits.toNat) := rfl
 generalize fnv F0 (lowL seed.toNat 4 ++ key.data.toList) = H at *
 obtain ⟨bt,rfl⟩ := Int.eq_ofNat_of_zero_le hb0
 go_wp2
 go_loop [7,8] (fun m i => ∃ (j : Nat),bt <= j /\ j <= 32 /\ i = .int .i64 j /\ m = .int .i64 (H % 2 ^ j)) (fun _ i => (intOf i).toNat - bt)
 case atStart => exact ⟨32,by omega,by omega,rfl,rfl⟩
 case round =>
  obtain ⟨j,hj1,hj2,rfl,rfl⟩ := hrel
  have hm0 : 0 <= H % 2 ^ j := Int.emod_nonneg H (Int.ne_of_gt (Int.pow_pos (by omega)))
  have hm1 : H % 2 ^ j < 4294967296 := by
   have := Int.emod_lt_of_pos H (show (0 : Int) < 2 ^ j from Int.pow_pos (by omega))
   by_cases e : j = 32
   ·subst e; omega
   ·have := pow_le_31 (show j <= 31 by omega); omega
  by_cases hlt : bt < j
  ·have hp := pow_le_31 (show j - 1 <= 31 by omega)
   obtain ⟨hp0,hp1⟩ := hp
   have hy0 : (0 : Int) <= (j : Int) - 1 := by omega
   have hy1 : (j : Int) - 1 <= 64 := by omega
   have hyn : ((j : Int) - 1).toNat = j - 1 := by omega
   go_wp2
   ·have hge : (2 : Int) ^ (j - 1) <= H % 2 ^ j := by assumption
    go_round
    case rel => exact ⟨j - 1,by omega,by omega,by congr 1; omega,by rw [mod_top (by omega) hge]⟩
    case measure => simp [intOf]; omega
   ·have hge : H % 2 ^ j < (2 : Int) ^ (j - 1) := by assumption
    go_round
    case rel => exact ⟨j - 1,by omega,by omega,by congr 1; omega,by rw [<- mod_low (by omega) (by omega)]⟩
    case measure => simp [intOf]; omega
  ·have hjb : j = bt := by omega
   subst hjb
   go_wp2
   go_ret
   exact ⟨ret_int (by rw [HN.out]; simp),hb⟩
theorem recNumber_any (blk seed bits : Int) (key : ByteArray) (w : World) (h0 : 0 <= seed) (h1 : seed <= 4294967295) (hb0 : 0 <= bits) (hb1 : bits <= 32) (hs : key.size <= 140737488351232) :
  Calls Tryz.prog 93 #[.agg #[.int .i64 blk,.int .i64 seed,.int .i64 bits],.string key] w fun e w' => e = .returned (.int .i64 (numberI seed bits key.data.toList)) /\ Below w.heap.size w w' := by
 go_enter Tryz.func93,Tryz.ntmps93
 go_wp2_with fail
 refine (appendLow_any _ [] seed 4 _ (w.heap.size + 1) h0 (by omega) (by omega) (World.ownsRow_nil _ _ _ _) (by simp) (by simp)).mono ?_
 rintro e w1 ⟨v,rfl,hown,hb⟩
 obtain ⟨g,cap,hv,hg0,hg1,hgc⟩ := own_shape hown (by simp)
 subst hv
 have hstr : strOfNums ((lowL seed.toNat 4).map fun b => (b.toNat : Int)) = S (lowL seed.toNat 4) := by unfold strOfNums S; rw [bytes_back]
 have hcv : ∀ (wx : World) (hx : ∀ j,wx.cell? ⟨g,j,none⟩ = w1.cell? ⟨g,j,none⟩),(convert 43 9 (.slice (some ⟨g,0,none⟩) 4 cap)).run Tryz.prog wx = .ok (.string (S (lowL seed.toNat 4))) wx := fun wx hx => hstr ▸ run_convert_bytes_arg (P := Tryz.prog) wx 43 5 Tryz.underlying43 Tryz.underlying5 g 0 4 cap ((lowL seed.toNat 4).map fun b => (b.toNat : Int)) (by simp [lowL_length]) (fun i hi => by
  rw [Nat.zero_add,hx,hgc i (by simpa using hi)]
  simp [cellsB,lowL_length,hi]) 9 Tryz.underlying9
 have hcv1 := hcv w1.drew (fun _ => rfl)
 clear hstr
 have hc0 : w1.cell? ⟨w.heap.size,2,none⟩ = some (.int .i64 bits) := by
  rw [hb.cell (p := ⟨w.heap.size,2,none⟩) (by simp)]
  simp
 have hz : w.heap.size + 1 <= w1.heap.size := by have := hb.size; simpa using this
 go_wp2_with fail
 have hz' : w.heap.size < w1.heap.size := by omega
 have hne : ¬ w.heap.size = w1.heap.size := by omega
 have hz4 : (S (lowL seed.toNat 4)).size = 4 := by rw [S_size,lowL_length]
 obtain ⟨bt,rfl⟩ := Int.eq_ofNat_of_zero_le hb0
 have hy1 : (bt : Int) <= 64 := by omega
 go_region_held3 (fun w' => w'.cell? ⟨w.heap.size,2,none⟩ = some (.int .i64 (bt : Int)) /\ (convert 43 9 (.slice (some ⟨g,0,none⟩) 4 cap)).run Tryz.prog w' = .ok (.string (S (lowL seed.toNat 4))) w') (first | (exact ⟨by simpa using hc0,hcv1⟩) | (exact ⟨(past_drew _ _ hz').trans hc0,hcv _ (fun j => past_drew _ _ hg1)⟩)) (first | (go_at_call 152; refine (hash2_any _ _ (S (lowL seed.toNat 4)) key _ ?_ ?_ ?_ ?_).mono ?_; (simp); (simp); (omega); (omega); rintro e w' ⟨H,rfl,hH0,hH1,hH,rfl⟩))
 go_wp2
 go_ret
 refine ⟨ret_int ?_,?_⟩
 ·rw [number_mask hH0 hH1 (by omega),hH.out,S_data]; simp [numberI]
 ·exact ((((Below.refl _ _).alloc (Nat.le_refl _) _).trans (hb.mono (by omega))).alloc (by have := hb.size; simp at this; omega) _).drew
def goodB (seed bits : Int) (key : ByteArray) : Bool := seedB seed && bitsB bits && keyB key
theorem number_yes (seed bits : Int) (key : ByteArray) (w : World) (hg : goodB seed bits key = true) :
  Calls Tryz.prog 112 #[.int .i64 seed,.int .i64 bits,.string key] w fun e w' => e = .returned (.tuple #[.int .i64 (numberI seed bits key.data.toList),.int .i64 0]) /\ Below w.heap.size w w' := by
 simp only [goodB,Bool.and_eq_true] at hg
 obtain ⟨⟨h1,h2⟩,h3⟩ := hg
 have a1 : 0 <= seed /\ seed <= 4294967295 := by simpa [seedB] using h1
 have a2 : 0 <= bits /\ bits <= 32 := by simpa [bitsB] using h2
 have a3 : 1 <= key.size /\ key.size <= 20 := by simpa [keyB] using h3
 go_enter Tryz.func112,Tryz.ntmps112
 go_wp2_with (first | (go_at_call 126; refine (isSeed_any _ _).mono ?_; rintro e w' ⟨rfl,rfl⟩) | (go_at_call 127; refine (isBits_any _ _).mono ?_; rintro e w' ⟨rfl,rfl⟩) | (go_at_call 153; refine (isKey_any _ _).mono ?_; rintro e w' ⟨rfl,rfl⟩) | (go_at_call 93; refine (recNumber_any _ _ _ _ _ a1.1 a1.2 a2.1 a2.2 (by omega)).mono ?_; rintro e w' ⟨rfl,hb⟩))
 go_ret2
 exact ⟨rfl,by assumption⟩
theorem number_no (seed bits : Int) (key : ByteArray) (w : World) (hg : goodB seed bits key = false) :
  Calls Tryz.prog 112 #[.int .i64 seed,.int .i64 bits,.string key] w fun e w' => e = .returned (.tuple #[.int .i64 0,.int .i64 1]) /\ Below w.heap.size w w' := by
 have hx : seedB seed = false \/ (seedB seed = true /\ bitsB bits = false) \/ (seedB seed = true /\ bitsB bits = true /\ keyB key = false) := by
  unfold goodB at hg
  revert hg
  cases seedB seed <;> cases bitsB bits <;> cases keyB key <;> simp
 clear hg
 rcases hx with h1 | ⟨h1,h2⟩ | ⟨h1,h2,h3⟩
 all_goals
  go_enter Tryz.func112,Tryz.ntmps112
  go_wp2_with (first | (go_at_call 126; refine (isSeed_any _ _).mono ?_; rintro e w' ⟨rfl,rfl⟩) | (go_at_call 127; refine (isBits_any _ _).mono ?_; rintro e w' ⟨rfl,rfl⟩) | (go_at_call 153; refine (isKey_any _ _).mono ?_; rintro e w' ⟨rfl,rfl⟩))
  go_ret2
  exact ⟨rfl,Below.refl _ _⟩
theorem refNumber_yes (seed bits : Int) (key : ByteArray) (w : World) (hg : goodB seed bits key = true) :
  Calls Tryz.prog 113 #[.int .i64 seed,.int .i64 bits,.string key] w fun e w' => e = .returned (.tuple #[.int .i64 (numberI seed bits key.data.toList),.int .i64 0]) /\ Below w.heap.size w w' := by
 simp only [goodB,Bool.and_eq_true] at hg
 obtain ⟨⟨h1,h2⟩,h3⟩ := hg
 have a1 : 0 <= seed /\ seed <= 4294967295 := by simpa [seedB] using h1
 have a2 : 0 <= bits /\ bits <= 32 := by simpa [bitsB] using h2
 have a3 : 1 <= key.size /\ key.size <= 20 := by simpa [keyB] using h3
 obtain ⟨a11,a12⟩ := a1
 obtain ⟨a21,a22⟩ := a2
 go_enter Tryz.func113,Tryz.ntmps113
 go_wp2_with (first | (go_at_call 161; refine (key_any _ _).mono ?_; rintro e w' ⟨rfl,rfl⟩) | (go_at_call 162; refine (refnumber_any _ _ _ _ a11 a12 a21 a22 (by omega)).mono ?_; rintro e w' ⟨rfl,hb⟩))
 go_ret2
 exact ⟨rfl,by assumption⟩
theorem refNumber_no (seed bits : Int) (key : ByteArray) (w : World) (hg : goodB seed bits key = false) :
  Calls Tryz.prog 113 #[.int .i64 seed,.int .i64 bits,.string key] w fun e w' => e = .returned (.tuple #[.int .i64 0,.int .i64 1]) /\ Below w.heap.size w w' := by
 have hx : seed < 0 \/ (0 <= seed /\ 4294967295 < seed) \/ ((0 <= seed /\ seed <= 4294967295) /\ bits < 0) \/ ((0 <= seed /\ seed <= 4294967295) /\ 0 <= bits /\ 32 < bits) \/ ((0 <= seed /\ seed <= 4294967295) /\ (0 <= bits /\ bits <= 32) /\ keyB key = false) := by
  cases hk : keyB key
  ·simp only [and_true]; omega
  ·have : ¬ ((0 <= seed /\ seed <= 4294967295) /\ (0 <= bits /\ bits <= 32)) := by
    rintro ⟨h1,h2⟩
    simp [goodB,seedB,bitsB,hk,h1,h2] at hg
   omega
 clear hg
 rcases hx with h1 | ⟨h1,h2⟩ | ⟨⟨h1,h2⟩,h3⟩ | ⟨⟨h1,h2⟩,h3,h4⟩ | ⟨⟨h1,h2⟩,⟨h3,h4⟩,h5⟩
 all_goals
  go_enter Tryz.func113,Tryz.ntmps113
  go_wp2_with (first | (go_at_call 161; refine (key_any _ _).mono ?_; rintro e w' ⟨rfl,rfl⟩))
  go_ret2
  exact ⟨rfl,Below.refl _ _⟩
def numR (seed bits : Int) (key : ByteArray) : Int := if goodB seed bits key = true then numberI seed bits key.data.toList else 0
def numE (seed bits : Int) (key : ByteArray) : Int := if goodB seed bits key = true then 0 else 1
theorem number_any (seed bits : Int) (key : ByteArray) (w : World) :
  Calls Tryz.prog 112 #[.int .i64 seed,.int .i64 bits,.string key] w fun e w' => e = .returned (.tuple #[.int .i64 (numR seed bits key),.int .i64 (numE seed bits key)]) /\ Below w.heap.size w w' := by
 unfold numR numE
 cases hg : goodB seed bits key
 ·exact number_no seed bits key w hg
 ·exact number_yes seed bits key w hg
theorem refNumber_any (seed bits : Int) (key : ByteArray) (w : World) :
  Calls Tryz.prog 113 #[.int .i64 seed,.int .i64 bits,.string key] w fun e w' => e = .returned (.tuple #[.int .i64 (numR seed bits key),.int .i64 (numE seed bits key)]) /\ Below w.heap.size w w' := by
 unfold numR numE
 cases hg : goodB seed bits key
 ·exact refNumber_no seed bits key w hg
 ·exact refNumber_yes seed bits key w hg
end Go.Proofs.YtdhgebdbiehchaaGreatDoor
