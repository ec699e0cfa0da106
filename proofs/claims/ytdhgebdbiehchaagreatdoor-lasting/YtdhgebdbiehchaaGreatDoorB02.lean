/- On the way: Leaf, Hash. -/
import Derived.Test.YtdhgebdbiehchaaGreatDoorProg
import Derived.Test.YtdhgebdbiehchaaGreatDoorB01
import Derived.WalkKit
import Derived.WalkSpells
import Derived.WalkLawsBesides
import Derived.Laws.BytesArg
namespace Go.Proofs.YtdhgebdbiehchaaGreatDoor
open Go.RowKit
set_option maxHeartbeats 400000
theorem info_u8 : (Tryz.prog.info? 5).map (fun i => (i.zero,i.size,i.bytes)) = some (some (.int .u8 0),1,1) := by kernel_rfl
def seedB (a : Int) : Bool := decide (0 <= a) && decide (a <= 4294967295)
def bitsB (a : Int) : Bool := decide (0 <= a) && decide (a <= 32)
def keyB (s : ByteArray) : Bool := decide (1 <= s.size) && decide (s.size <= 20)
theorem ret_bool {a b : Bool} (h : a = b) : Ending.returned (.bool a) = .returned (.bool b) := by rw [h]
theorem ret_int {k : IntKind} {a b : Int} (h : a = b) : Ending.returned (.int k a) = .returned (.int k b) := by rw [h]
theorem isSeed_any (a : Int) (w : World) :
  Calls Tryz.prog 126 #[.int .i64 a] w fun e w' => e = .returned (.bool (seedB a)) /\ w' = w := by
 go_enter Tryz.func126,Tryz.ntmps126
 go_wp2
 all_goals
  go_ret
  exact ⟨ret_bool (by unfold seedB; simp; omega),rfl⟩
theorem isBits_any (a : Int) (w : World) :
  Calls Tryz.prog 127 #[.int .i64 a] w fun e w' => e = .returned (.bool (bitsB a)) /\ w' = w := by
 go_enter Tryz.func127,Tryz.ntmps127
 go_wp2
 all_goals
  go_ret
  exact ⟨ret_bool (by unfold bitsB; simp; omega),rfl⟩
theorem isKey_any (s : ByteArray) (w : World) :
  Calls Tryz.prog 153 #[.string s] w fun e w' => e = .returned (.bool (keyB s)) /\ w' = w := by
 go_enter Tryz.func153,Tryz.ntmps153
 go_wp2
 all_goals
  go_ret
  refine ⟨ret_bool ?_,rfl⟩
  rw [Bool.eq_iff_iff]; unfold keyB; simp; omega
end Go.Proofs.YtdhgebdbiehchaaGreatDoor
namespace Go.Proofs.YtdhgebdbiehchaaGreatDoor
open Go.RowKit
set_option linter.unusedSimpArgs false
set_option linter.unusedVariables false
set_option maxHeartbeats 800000
theorem appendLow_any (v : Value) (l : List UInt8) (n : Int) (k : Nat) (w : World) (base : Nat) (hn : 0 <= n) (hn' : n <= 9223372036854775807) (hk : k <= 8)
  (hown : w.ownsRow base 5 1 v l.length (cellsB l)) (hbase : base <= w.heap.size) (hl : l.length <= 1000000000) :
  Calls Tryz.prog 129 #[v,.int .i64 n,.int .i64 k] w fun e w' => ∃ v',e = .returned v' /\ w'.ownsRow base 5 1 v' (l.length + k) (cellsB (l ++ lowL n.toNat k)) /\ Below base w w' := by
 obtain ⟨i0,hi,hz0,hz1,hz2⟩ := info_parts info_u8
 go_enter Tryz.func129,Tryz.ntmps129
 go_wp2
 go_loopw [0,9] (fun m i wr => ∃ (j : Nat),j <= k /\ i = .int .i64 j /\ wr.ownsRow base 5 1 m (l.length + j) (cellsB (l ++ lowL n.toNat j)) /\ Below base w wr) (fun _ i _ => k - (intOf i).toNat)
 case atStart => exact ⟨0,Nat.zero_le _,rfl,by simpa [lowL] using hown,Below.refl _ _⟩
 case round =>
  obtain ⟨j,hj,rfl,ho,hb⟩ := hrel
  by_cases hlt : j < k
  ·have h8 : (0 : Int) <= 8 * (j : Int) := by omega
   have h9 : 8 * (j : Int) <= 64 := by omega
   go_wp2_with (at_builtin; refine wpList_append_own _ rfl (.tmp 12) (.tmp 18) 43 rfl base 5 i0 (.int .u8 0) 1 1 Tryz.underlying43 hi hz0 hz1 hz2 rfl (by decide) _ _ _ rfl (ho.alloc _) ⟨wr.heap.size,0,none⟩ 1 1 [.int .u8 (IntKind.u8.wrap (n / 2 ^ (8 * (j : Int)).toNat))] rfl rfl ?c1 ?c2 ?c3 ?c4 ?c5 ?_)
   case c1 => exact cell_one_new _ _ _
   case c2 => intro u hu; simp at hu; subst hu; rfl
   case c3 => unfold maxLen; omega
   case c4 => omega
   case c5 => have := hb.size; simp; omega
   intro v' w1 hown' hgrow _
   clear h8 h9
   go_wp2
   go_roundw
   case rel =>
    refine ⟨j + 1,by omega,by go_num,?_,?_⟩
    ·rw [<- cells_snoc hn]; exact hown'
    ·exact (hb.alloc (by have := hb.size; omega) _).grown hgrow (by have := hb.size; simp; omega) (own_ge ho)
   case measure => simp [intOf]; omega
  ·have hjk : j = k := by omega
   subst hjk
   go_wp2
   go_ret
   exact ⟨_,rfl,ho,hb⟩
theorem hash_any (b cap : Nat) (ps : List ByteArray) (w : World) (hc : ∀ (i : Nat) (h : i < ps.length),w.cell? ⟨b,i,none⟩ = some (.string ps[i])) (hl : ps.length <= 100) (hs : ∀ p ∈ ps,p.size <= 9223372036854775807) :
  Calls Tryz.prog 152 #[.slice (some ⟨b,0,none⟩) ps.length cap] w fun e w' => e = .returned (.int .u64 (fnv F0 (ps.map fun p => p.data.toList).flatten)) /\ w' = w := by
 go_enter Tryz.func152,Tryz.ntmps152
 go_wp2
 go_loop [3,9] (fun h i => ∃ (k : Nat),k <= ps.length /\ i = .int .i64 k /\ h = .int .u64 (fnv F0 ((ps.take k).map fun p => p.data.toList).flatten)) (fun _ i => ps.length - (intOf i).toNat)
 case atStart => exact ⟨0,Nat.zero_le _,rfl,rfl⟩
 case round =>
  obtain ⟨k,hk,rfl,rfl⟩ := hrel
  by_cases hlt : k < ps.length
  ·have hck := hc k hlt
   have hsk := hs ps[k] (List.getElem_mem hlt)
   have HN : Hid (((ps.take (k + 1)).map fun p => p.data.toList).flatten = ((ps.take k).map fun p => p.data.toList).flatten ++ ps[k].data.toList) := by
    show _ = _
    rw [List.take_succ_eq_append_getElem hlt]; simp only [List.map_append,List.map_cons,List.map_nil,List.flatten_append,List.flatten_cons,List.flatten_nil,List.append_nil]
   generalize ps[k] = p at *
   generalize ((ps.take k).map fun p => p.data.toList).flatten = pre at *
   clear hc hs
   go_wp2
   go_loop [3,15] (fun h i => ∃ (j : Nat),j <= p.size /\ i = .int .i64 j /\ h = .int .u64 (fnv F0 (pre ++ p.data.toList.take j))) (fun _ i => p.size - (intOf i).toNat)
   case atStart => exact ⟨0,Nat.zero_le _,rfl,by simp⟩
   case round =>
    obtain ⟨j,hj,rfl,rfl⟩ := hrel
    by_cases hjl : j < p.size
    ·have HS : Hid (fnv F0 (pre ++ p.data.toList.take (j + 1)) = fnvStep (fnv F0 (pre ++ p.data.toList.take j)) p[j]) := by
      show _ = _
      rw [take_snocS p j hjl,<- List.append_assoc,fnv_snoc]
     generalize fnv F0 (pre ++ p.data.toList.take j) = x at *
     go_wp2
     go_round
     case rel => exact ⟨j + 1,by omega,by go_num,by rw [HS.out]; rfl⟩
     case measure => simp [intOf]; omega
    ·have HS : Hid (fnv F0 (pre ++ p.data.toList.take j) = fnv F0 (pre ++ p.data.toList)) := by
      show _ = _
      rw [List.take_of_length_le (by simp; omega)]
     generalize fnv F0 (pre ++ p.data.toList.take j) = x at *
     go_wp2
     go_round
     case rel => exact ⟨k + 1,by omega,by go_num,by rw [HN.out,HS.out]⟩
     case measure => simp [intOf]; omega
  ·have HS : Hid (fnv F0 ((ps.take k).map fun p => p.data.toList).flatten = fnv F0 (ps.map fun p => p.data.toList).flatten) := by
    show _ = _
    rw [List.take_of_length_le (by omega)]
   generalize fnv F0 ((ps.take k).map fun p => p.data.toList).flatten = x at *
   clear hc hs
   go_wp2
   go_ret
   exact ⟨ret_int HS.out,rfl⟩
theorem hash2_any (b cap : Nat) (p q : ByteArray) (w : World) (h0 : w.cell? ⟨b,0,none⟩ = some (.string p)) (h1 : w.cell? ⟨b,1,none⟩ = some (.string q)) (hp : p.size <= 9223372036854775807) (hq : q.size <= 9223372036854775807) :
  Calls Tryz.prog 152 #[.slice (some ⟨b,0,none⟩) 2 cap] w fun e w' => ∃ H,e = .returned (.int .u64 H) /\ 0 <= H /\ H <= 18446744073709551615 /\ Hid (H = fnv F0 (p.data.toList ++ q.data.toList)) /\ w' = w := by
 refine (hash_any b cap [p,q] w ?_ (by simp) ?_).mono ?_
 ·intro i hi
  match i,hi with
  | 0,_ => exact h0
  | 1,_ => exact h1
 ·intro x hx
  simp at hx
  rcases hx with rfl | rfl
  ·exact hp
  ·exact hq
 ·rintro e w' ⟨rfl,rfl⟩
  have := F0_range (p.data.toList ++ q.data.toList)
  exact ⟨_,rfl,by simpa using this.1,by simpa using this.2,by simp [Hid],rfl⟩
theorem hash1_any (b cap : Nat) (p : ByteArray) (w : World) (h0 : w.cell? ⟨b,0,none⟩ = some (.string p)) (hp : p.size <= 9223372036854775807) :
  Calls Tryz.prog 152 #[.slice (some ⟨b,0,none⟩) 1 cap] w fun e w' => ∃ H,e = .returned (.int .u64 H) /\ 0 <= H /\ H <= 18446744073709551615 /\ Hid (H = fnv F0 p.data.toList) /\ w' = w := by
 refine (hash_any b cap [p] w ?_ (by simp) ?_).mono ?_
 ·intro i hi
  match i,hi with
  | 0,_ => exact h0
 ·intro x hx
  simp at hx
  subst hx
  exact hp
 ·rintro e w' ⟨rfl,rfl⟩
  have := F0_range p.data.toList
  exact ⟨_,rfl,by simpa using this.1,by simpa using this.2,by simp [Hid],rfl⟩
end Go.Proofs.YtdhgebdbiehchaaGreatDoor
