/- On the way: Blk. -/
import Derived.Test.YtdhgebdbiehchaaGreatDoorB04
import Derived.Deep.RegionWith
import Derived.Deep.RegionHeld3
import Derived.Deep.QuietTactic
import Derived.BigQuiet
namespace Go.Proofs.YtdhgebdbiehchaaGreatDoor
open Go.RowKit
set_option linter.unusedSimpArgs false
set_option linter.unusedVariables false
set_option maxHeartbeats 1600000
def sealL (l : List UInt8) : List UInt8 := l ++ lowL (crcN l) 4
theorem sealL_length (l : List UInt8) : (sealL l).length = l.length + 4 := by simp [sealL,lowL_length]
theorem append_S' (s : ByteArray) (l : List UInt8) : s ++ S l = S (s.data.toList ++ l) := by
 conv => lhs; rw [<- S_of s]
 rw [S_append]
theorem sealed_any (s : ByteArray) (w : World) (hs : s.size <= 9223372036854775000) :
  Calls Tryz.prog 109 #[.string s] w fun e w' => e = .returned (.string (S (sealL s.data.toList))) /\ Below w.heap.size w w' := by
 have hl := crcN_lt s.data.toList
 go_enter Tryz.func109,Tryz.ntmps109
 go_wp2_with fail
 refine (crc_any _ _ (by omega)).mono ?_
 rintro e w1 ⟨rfl,rfl⟩
 go_wp2_with fail
 refine (low_any _ 4 _ (by omega) (by omega) (by omega)).mono ?_
 rintro e w2 ⟨rfl,hb⟩
 rw [Int.toNat_natCast]
 have hsz : (S (lowL (crcN s.data.toList) 4)).size = 4 := by rw [S_size,lowL_length]
 go_wp2
 go_ret
 exact ⟨ret_str (by rw [append_S']; rfl),hb⟩
theorem keep3 {n : Nat} {w wx w' : World} {a b c : Option Value} (h : (wx.cell? ⟨n,0,none⟩ = a /\ wx.cell? ⟨n,1,none⟩ = b /\ wx.cell? ⟨n,2,none⟩ = c) /\ Below n w wx /\ n < wx.heap.size) (hb : Below wx.heap.size wx w') :
  (w'.cell? ⟨n,0,none⟩ = a /\ w'.cell? ⟨n,1,none⟩ = b /\ w'.cell? ⟨n,2,none⟩ = c) /\ Below n w w' /\ n < w'.heap.size := by
 obtain ⟨⟨h0,h1,h2⟩,h3,h4⟩ := h
 exact ⟨⟨(hb.cell (p := ⟨n,0,none⟩) h4).trans h0,(hb.cell (p := ⟨n,1,none⟩) h4).trans h1,(hb.cell (p := ⟨n,2,none⟩) h4).trans h2⟩,h3.trans (hb.mono (Nat.le_of_lt h4)),Nat.lt_of_lt_of_le h4 hb.size⟩
theorem keep2 {n i j : Nat} {w wx w' : World} {b c : Option Value} (h : (wx.cell? ⟨n,i,none⟩ = b /\ wx.cell? ⟨n,j,none⟩ = c) /\ Below n w wx /\ n < wx.heap.size) (hb : Below wx.heap.size wx w') :
  (w'.cell? ⟨n,i,none⟩ = b /\ w'.cell? ⟨n,j,none⟩ = c) /\ Below n w w' /\ n < w'.heap.size := by
 obtain ⟨⟨h1,h2⟩,h3,h4⟩ := h
 exact ⟨⟨(hb.cell (p := ⟨n,i,none⟩) h4).trans h1,(hb.cell (p := ⟨n,j,none⟩) h4).trans h2⟩,h3.trans (hb.mono (Nat.le_of_lt h4)),Nat.lt_of_lt_of_le h4 hb.size⟩
theorem low_sz (n k : Nat) : (S (lowL n k)).size = k := by rw [S_size,lowL_length]
theorem head_any (blk seed bits : Int) (w : World) (h0 : 0 <= blk) (h1 : blk <= 9223372036854775807) (h2 : 0 <= seed) (h3 : seed <= 9223372036854775807) (h4 : 0 <= bits) (h5 : bits <= 9223372036854775807) :
  Calls Tryz.prog 61 #[.agg #[.int .i64 blk,.int .i64 seed,.int .i64 bits]] w fun e w' => e = .returned (.string (S (sealL ([76,71] ++ lowL blk.toNat 2 ++ lowL seed.toNat 4 ++ lowL bits.toNat 2)))) /\ Below w.heap.size w w' := by
 go_enter Tryz.func61,Tryz.ntmps61
 have z1 := low_sz blk.toNat 2
 have z2 := low_sz seed.toNat 4
 have z3 := low_sz bits.toNat 2
 go_wp2_with fail
 go_region_held3 (fun w' => (w'.cell? ⟨w.heap.size,0,none⟩ = some (.int .i64 blk) /\ w'.cell? ⟨w.heap.size,1,none⟩ = some (.int .i64 seed) /\ w'.cell? ⟨w.heap.size,2,none⟩ = some (.int .i64 bits)) /\ Below w.heap.size w w' /\ w.heap.size < w'.heap.size) (first | (exact ⟨⟨by simp,by simp,by simp⟩,((Below.refl _ _).alloc (Nat.le_refl _) _).drew,by simp⟩) | (exact keep3 (by assumption) (by assumption))) (first | (go_at_call_of 110 (Value.int .i64 blk); refine (low_any _ 2 _ h0 h1 (by omega)).mono ?_; rintro e w' ⟨rfl,hb1⟩) | (go_at_call_of 110 (Value.int .i64 seed); refine (low_any _ 4 _ h2 h3 (by omega)).mono ?_; rintro e w' ⟨rfl,hb2⟩) | (go_at_call_of 110 (Value.int .i64 bits); refine (low_any _ 2 _ h4 h5 (by omega)).mono ?_; rintro e w' ⟨rfl,hb3⟩) | (go_at_call 109; refine (sealed_any _ _ ?_).mono ?_; (simp [z1,z2,z3]; decide); rintro e w' ⟨rfl,hb4⟩))
 go_wp2
 go_ret
 refine ⟨ret_str ?_,?_⟩
 ·congr 2
 ·have hx := ‹(_ /\ _) /\ Below _ _ _ /\ _›
  exact hx.2.1
def entryL (put : Bool) (key val : List UInt8) : List UInt8 := (if put then [112] else [100]) ++ lowL key.length 1 ++ lowL val.length 1 ++ key ++ val
theorem bytes_any (put : Bool) (key val : ByteArray) (w : World) (h0 : key.size <= 140737488351232) (h1 : val.size <= 140737488351232) :
  Calls Tryz.prog 111 #[.agg #[.bool put,.string key,.string val]] w fun e w' => e = .returned (.string (S (entryL put key.data.toList val.data.toList))) /\ Below w.heap.size w w' := by
 have z1 := low_sz key.size 1
 have z2 := low_sz val.size 1
 have z3 : (⟨#[100]⟩ : ByteArray).size = 1 := rfl
 have z4 : (⟨#[112]⟩ : ByteArray).size = 1 := rfl
 have q1 : ¬ 9223372036854775807 < 3 + key.size := by omega
 have q2 : ¬ 9223372036854775807 < 3 + key.size + val.size := by omega
 have q3 : 3 + key.size <= 9223372036854775807 := by omega
 have q4 : 3 + key.size + val.size <= 9223372036854775807 := by omega
 cases put
 all_goals
  go_enter Tryz.func111,Tryz.ntmps111
  go_wp2_with fail
  go_region_held3 (fun w' => (w'.cell? ⟨w.heap.size,1,none⟩ = some (.string key) /\ w'.cell? ⟨w.heap.size,2,none⟩ = some (.string val)) /\ Below w.heap.size w w' /\ w.heap.size < w'.heap.size) (first | (exact ⟨⟨by simp,by simp⟩,((Below.refl _ _).alloc (Nat.le_refl _) _).drew,by simp⟩) | (exact keep2 (by assumption) (by assumption))) (first | (go_at_call_of 110 (Value.int .i64 (key.size : Int)); refine (low_any _ 1 _ (by omega) (by omega) (by omega)).mono ?_; rintro e w' ⟨rfl,hb1⟩) | (go_at_call_of 110 (Value.int .i64 (val.size : Int)); refine (low_any _ 1 _ (by omega) (by omega) (by omega)).mono ?_; rintro e w' ⟨rfl,hb2⟩))
  have hx := ‹(_ /\ _) /\ Below _ _ _ /\ _›
  go_wp2
  go_ret
  refine ⟨ret_str ?_,hx.2.1⟩
  first
   | rw [show (⟨#[100]⟩ : ByteArray) = S [100] from rfl,S_append,S_append,append_S,append_S]; rfl
   | rw [show (⟨#[112]⟩ : ByteArray) = S [112] from rfl,S_append,S_append,append_S,append_S]; rfl
def entsL (es : List (Bool × ByteArray × ByteArray)) : List UInt8 := (es.map fun e => entryL e.1 e.2.1.data.toList e.2.2.data.toList).flatten
def blockL (es : List (Bool × ByteArray × ByteArray)) : List UInt8 := sealL (lowL es.length 1 ++ lowL (entsL es).length 2 ++ entsL es)
theorem entsL_snoc (es : List (Bool × ByteArray × ByteArray)) (e : Bool × ByteArray × ByteArray) : entsL (es ++ [e]) = entsL es ++ entryL e.1 e.2.1.data.toList e.2.2.data.toList := by simp [entsL]
theorem entsL_take {es : List (Bool × ByteArray × ByteArray)} {k : Nat} (h : k < es.length) : entsL (es.take (k + 1)) = entsL (es.take k) ++ entryL es[k].1 es[k].2.1.data.toList es[k].2.2.data.toList := by
 rw [List.take_succ_eq_append_getElem h,entsL_snoc]
theorem entryL_length (put : Bool) (k v : List UInt8) : (entryL put k v).length = 3 + k.length + v.length := by
 cases put <;> simp [entryL,lowL_length] <;> omega
theorem entsL_le {es : List (Bool × ByteArray × ByteArray)} (hs : ∀ e ∈ es,e.2.1.size <= 100 /\ e.2.2.size <= 100) (k : Nat) : (entsL (es.take k)).length <= 203 * k := by
 induction k with
 | zero => simp [entsL]
 | succ k ih =>
  by_cases h : k < es.length
  ·rw [entsL_take h,List.length_append,entryL_length]
   have := hs es[k] (List.getElem_mem h)
   simp at *; omega
  ·rw [List.take_of_length_le (by omega)] at ih ⊢
   omega
theorem block_any (b cap : Nat) (es : List (Bool × ByteArray × ByteArray)) (w : World) (hbw : b < w.heap.size)
  (hc : ∀ (i : Nat) (h : i < es.length),w.cell? ⟨b,i * 3,none⟩ = some (.bool es[i].1) /\ w.cell? ⟨b,i * 3 + 1,none⟩ = some (.string es[i].2.1) /\ w.cell? ⟨b,i * 3 + 2,none⟩ = some (.string es[i].2.2))
  (hl : es.length <= 1000) (hs : ∀ e ∈ es,e.2.1.size <= 100 /\ e.2.2.size <= 100) :
  Calls Tryz.prog 62 #[.slice (some ⟨b,0,none⟩) es.length cap] w fun e w' => e = .returned (.string (S (blockL es))) /\ Below w.heap.size w w' := by
 go_enter Tryz.func62,Tryz.ntmps62
 go_wp2
 go_loopw [3,4] (fun s i wr => ∃ (k : Nat),k <= es.length /\ i = .int .i64 k /\ s = .string (S (entsL (es.take k))) /\ Below w.heap.size w wr) (fun _ i _ => es.length - (intOf i).toNat)
 case atStart => exact ⟨0,Nat.zero_le _,rfl,rfl,Below.refl _ _⟩
 case round =>
  obtain ⟨k,hk,rfl,rfl,hb⟩ := hrel
  have hle := entsL_le hs k
  have hsz : (S (entsL (es.take k))).size = (entsL (es.take k)).length := S_size _
  by_cases hlt : k < es.length
  ·obtain ⟨c0,c1,c2⟩ := hc k hlt
   have d0 := (hb.cell (p := ⟨b,k * 3,none⟩) hbw).trans c0
   have d1 := (hb.cell (p := ⟨b,k * 3 + 1,none⟩) hbw).trans c1
   have d2 := (hb.cell (p := ⟨b,k * 3 + 2,none⟩) hbw).trans c2
   have hsk := hs es[k] (List.getElem_mem hlt)
   have HN : Hid (entsL (es.take (k + 1)) = entsL (es.take k) ++ entryL es[k].1 es[k].2.1.data.toList es[k].2.2.data.toList) := entsL_take hlt
   clear c0 c1 c2 hc
   generalize es[k] = e at *
   obtain ⟨put,key,val⟩ := e
   dsimp only at *
   have hel := entryL_length put key.data.toList val.data.toList
   have hes : (S (entryL put key.data.toList val.data.toList)).size = (entryL put key.data.toList val.data.toList).length := S_size _
   go_wp2_with fail
   refine (bytes_any put key val _ (by omega) (by omega)).mono ?_
   rintro e w1 ⟨rfl,hb1⟩
   have hkl : key.data.toList.length = key.size := by simp
   have hvl : val.data.toList.length = val.size := by simp
   have q1 : ¬ 9223372036854775807 < (entsL (es.take k)).length + (entryL put key.data.toList val.data.toList).length := by omega
   clear hel hle hkl hvl
   go_wp2
   go_roundw
   case rel => exact ⟨k + 1,by omega,by go_num,by rw [HN.out,S_append],hb.trans (hb1.mono hb.size)⟩
   case measure => simp [intOf]; omega
  ·have HN : Hid (entsL (es.take k) = entsL es) := by
    show _ = _
    rw [List.take_of_length_le (by omega)]
   have HB : Hid (blockL es = sealL (lowL es.length 1 ++ lowL (entsL (es.take k)).length 2 ++ entsL (es.take k))) := by
    show _ = _
    rw [HN.out]; rfl
   clear HN hc
   generalize entsL (es.take k) = t at *
   have z1 := low_sz es.length 1
   have z2 := low_sz t.length 2
   have q1 : ¬ 9223372036854775807 < 3 + t.length := by omega
   go_wp2_with fail
   refine (low_any (es.length : Int) 1 _ (by omega) (by omega) (by omega)).mono ?_
   rintro e w1 ⟨rfl,hb1⟩
   rw [Int.toNat_natCast]
   go_wp2_with fail
   refine (low_any (t.length : Int) 2 _ (by omega) (by omega) (by omega)).mono ?_
   rintro e w2 ⟨rfl,hb2⟩
   rw [Int.toNat_natCast]
   go_wp2_with fail
   refine (sealed_any _ _ ?_).mono ?_
   ·simp [z1,z2,hsz]; omega
   rintro e w3 ⟨rfl,hb3⟩
   go_wp2
   go_ret
   refine ⟨ret_str ?_,hb.trans ((hb1.mono hb.size).trans ((hb2.mono (Nat.le_trans hb.size hb1.size)).trans (hb3.mono (Nat.le_trans hb.size (Nat.le_trans hb1.size hb2.size)))))⟩
   rw [HB.out,S_data,S_data,S_data,List.append_assoc]
end Go.Proofs.YtdhgebdbiehchaaGreatDoor
