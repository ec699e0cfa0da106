/- On the way: Lit. -/
import Derived.Test.YtdhgebdbiehchaaGreatDoorB02
import Derived.ArgAppend
import Derived.Lib.SmallJoins
namespace Go.Proofs.YtdhgebdbiehchaaGreatDoor
open Go.RowKit
set_option linter.unusedSimpArgs false
set_option linter.unusedVariables false
set_option maxHeartbeats 1600000
theorem appendLow_lit (g : Nat) (l : List UInt8) (n : Int) (k : Nat) (w : World) (base : Nat) (hn : 0 <= n) (hn' : n <= 9223372036854775807) (hk : k <= 8) (hk1 : 1 <= k)
  (hc : ∀ j u,(cellsB l)[j]? = some u -> w.cell? ⟨g,j,none⟩ = some u) (hg : g < w.heap.size) (hbase : base <= w.heap.size) (hl : l.length <= 1000) :
  Calls Tryz.prog 129 #[.slice (some ⟨g,0,none⟩) l.length l.length,.int .i64 n,.int .i64 k] w fun e w' => ∃ v',e = .returned v' /\ w'.ownsRow base 5 1 v' (l.length + k) (cellsB (l ++ lowL n.toNat k)) /\ Below base w w' := by
 obtain ⟨i0,hi,hz0,hz1,hz2⟩ := info_parts info_u8
 have HC : Hid (∀ j u,(cellsB l)[j]? = some u -> w.cell? ⟨g,j,none⟩ = some u) := hc
 clear hc
 go_enter Tryz.func129,Tryz.ntmps129
 go_wp2
 go_loopw [0,9] (fun m i wr => ∃ (j : Nat),j <= k /\ i = .int .i64 j /\ ((j = 0 /\ m = .slice (some ⟨g,0,none⟩) l.length l.length /\ wr = w) \/ (1 <= j /\ wr.ownsRow base 5 1 m (l.length + j) (cellsB (l ++ lowL n.toNat j)))) /\ Below base w wr) (fun _ i _ => k - (intOf i).toNat)
 case atStart => exact ⟨0,Nat.zero_le _,rfl,.inl ⟨rfl,rfl,rfl⟩,Below.refl _ _⟩
 case round =>
  obtain ⟨j,hj,rfl,ho,hb⟩ := hrel
  rcases ho with ⟨rfl,rfl,rfl⟩ | ⟨hj1,ho⟩
  ·have hlt : 0 < k := hk1
   go_wp2_with (at_builtin; refine wpList_append_grows _ rfl (.tmp 12) (.tmp 18) 43 rfl 5 i0 (.int .u8 0) 1 1 Tryz.underlying43 hi hz0 hz1 hz2 rfl (by decide) (some ⟨g,0,none⟩) l.length l.length (cellsB l) rfl (by intro h; cases h) ?c0 ?c6 ⟨wr.heap.size,0,none⟩ 1 1 [.int .u8 (n % 256)] rfl rfl ?c1 ?c2 (Nat.lt_succ_self _) ?c3 ?c4 ?_)
   case c0 => simp [cellsB]
   case c6 =>
    intro b hb j u hu
    cases hb
    have := HC.out j u hu
    rw [Addr.add_lit]
    simp only [Nat.zero_add]
    exact (World.cell?_of_block (w := wr) (Below.heap_alloc wr _ g hg)).trans this
   case c1 => exact cell_one_new _ _ _
   case c2 => intro u hu; simp at hu; subst hu; rfl
   case c3 => unfold maxLen; omega
   case c4 => omega
   intro v' w1 hown' hgrow
   go_wp2
   go_roundw
   case rel =>
    refine ⟨1,by omega,by go_num,.inr ⟨Nat.le_refl _,?_⟩,?_⟩
    ·have e0 : IntKind.u8.wrap (n / 2 ^ (8 * ((0 : Nat) : Int)).toNat) = n % 256 := by rw [IntKind.wrap_u8]; simp
     have e1 := cells_snoc hn l 0
     rw [e0] at e1
     rw [<- e1]
     have h3 := Joins.ownsRow_le (base' := base) hown' (by omega)
     simpa [lowL] using h3
    ·exact (hb.alloc (by omega) _).grown hgrow (by simp; omega) (fun k e => by cases e)
   case measure => simp [intOf]; omega
  ·by_cases hlt : j < k
   ·have h8 : (0 : Int) <= 8 * (j : Int) := by omega
    have h9 : 8 * (j : Int) <= 64 := by omega
    go_wp2_with (at_builtin; refine wpList_append_own _ rfl (.tmp 12) (.tmp 18) 43 rfl base 5 i0 (.int .u8 0) 1 1 Tryz.underlying43 hi hz0 hz1 hz2 rfl (by decide) _ _ _ rfl (ho.alloc _) ⟨wr.heap.size,0,none⟩ 1 1 [.int .u8 (IntKind.u8.wrap (n / 2 ^ (8 * (j : Int)).toNat))] rfl rfl ?c1 ?c2 ?c3 ?c4 ?c5 ?_)
    case c1 => exact cell_one_new _ _ _
    case c2 => intro u hu; simp at hu; subst hu; rfl
    case c3 => unfold maxLen; omega
    case c4 => omega
    case c5 => have := hb.size; simp; omega
    intro v' w1 hown' hgrow _
    clear h8 h9
    go_wp2
    go_roundw
    case rel =>
     refine ⟨j + 1,by omega,by go_num,.inr ⟨by omega,?_⟩,?_⟩
     ·rw [<- cells_snoc hn]; exact hown'
     ·exact (hb.alloc (by have := hb.size; omega) _).grown hgrow (by have := hb.size; simp; omega) (own_ge ho)
    case measure => simp [intOf]; omega
   ·have hjk : j = k := by omega
    subst hjk
    go_wp2
    go_ret
    exact ⟨_,rfl,ho,hb⟩
end Go.Proofs.YtdhgebdbiehchaaGreatDoor
