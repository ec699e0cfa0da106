/- On the way: RecBlocks. -/
import Derived.Test.YtdhgebdbiehchaaGreatDoorB13
import Derived.Test.YtdhgebdbiehchaaGreatDoorB16
import Derived.Test.YtdhgebdbiehchaaGreatDoorB15
import Derived.Shelf.Abstract
import Derived.Shelf.RegionOpen
import Derived.WalkKit
import Derived.OwnWalkIn
import Derived.TacticsInMore
import Derived.LoopNIn
import Derived.LoopIn
import Derived.Lib.SmallJoins
namespace Go.Proofs.YtdhgebdbiehchaaGreatDoor
open Go.RowKit Go.Shelf
set_option linter.unusedSimpArgs false
set_option linter.unusedVariables false
set_option maxRecDepth 100000
set_option maxHeartbeats 3200000
structure CellsBut (b : Nat) (W W' : World) : Prop where
 size : W.heap.size <= W'.heap.size
 same : ∀ (k : Nat) (o : Obj),k ≠ b -> W.heap[k]? = some o -> o.isCells = true -> W'.heap[k]? = some o
theorem CellsBut.refl (b : Nat) (W : World) : CellsBut b W W := ⟨Nat.le_refl _,fun _ _ _ h _ => h⟩
theorem CellsBut.trans {b : Nat} {X Y Z : World} (h : CellsBut b X Y) (k : CellsBut b Y Z) : CellsBut b X Z := ⟨Nat.le_trans h.size k.size,fun i o hb hi ho => k.same i o hb (h.same i o hb hi ho) ho⟩
theorem CellsBut.putObj {b : Nat} {W : World} {l : Nat} {o : Obj} (o' : Obj) (h : W.heap[l]? = some o) (ho : o.isCells = false) : CellsBut b W (W.putObj l o') :=
 ⟨by simp,fun k u hb hk hu => by
  by_cases e : k = l
  ·subst e; rw [h] at hk; cases hk; rw [ho] at hu; cases hu
  ·exact (World.putObj_heap_other e).trans hk⟩
theorem CellsBut.of_below {b : Nat} {W W' : World} (h : Below W.heap.size W W') : CellsBut b W W' := ⟨h.size,fun k o _ hk _ => (h.block k (Array.getElem?_eq_some_iff.1 hk).1).trans hk⟩
theorem CellsBut.setCell (b : Nat) (W : World) (j : Nat) (u : Value) : CellsBut b W (W.setCell ⟨b,j,none⟩ u) :=
 ⟨by simp [World.setCell],fun k o hb hk _ => (Below.heap_setCell W ⟨b,j,none⟩ u k hb).trans hk⟩
theorem cells_of_cell {W : World} {p : Addr} {u : Value} (h : W.cell? p = some u) : ∃ o : Obj,W.heap[p.block]? = some o /\ o.isCells = true := by
 unfold World.cell? at h
 cases ho : W.heap[p.block]? with
 | none => simp [ho] at h
 | some o => exact ⟨o,rfl,by cases o <;> simp_all [Obj.isCells]⟩
theorem CellsBut.cell {b : Nat} {W W' : World} (h : CellsBut b W W') {p : Addr} {u : Value} (hp : p.block ≠ b) (hc : W.cell? p = some u) : W'.cell? p = some u := by
 obtain ⟨o,ho,hi⟩ := cells_of_cell hc
 exact (World.cell?_of_block (w := W) ((h.same p.block o hp ho hi).trans ho.symm)).trans hc
theorem CellsBut.halves {b : Nat} {W W' : World} (h : CellsBut b W W') (hb : 6 ≠ b) (hH : HalvesAt W) : HalvesAt W' :=
 ⟨Nat.lt_of_lt_of_le hH.1 h.size,fun i hi => h.cell (p := ⟨6,i,none⟩) hb (hH.2 i hi)⟩
theorem grown_of_below {W W' : World} (h : Below W.heap.size W W') : W.grownBy W' none := ⟨h.os,h.tape,h.output,h.size,fun k hk _ => h.block k hk⟩
def encT (x : Tb) : Array Value := #[.int .i64 x.a,.agg #[x.v,.int .i64 x.k]]
def Told (log : List UInt8) (blk : Int) (base : Nat) (pre : List Tb) (x : Tb) (W : World) : Prop :=
 (∃ e,chain log blk 14 pre e /\ x.a = e /\ blockP log e blk = some (x.es,x.k)) /\ W.ownsRow base 106 3 x.v x.es.length (cellsE x.es)
def Through (log : List UInt8) (blk : Int) (xs : List Tb) : Prop := ∃ e,chain log blk 14 xs e /\ blockP log e blk = none
theorem blocks_in (n : Nat) (log : ByteArray) (blk seed bits : Int) (w : World) :
  CallsIn Fence.wide n Tryz.prog 88 #[.string log,.agg #[.int .i64 blk,.int .i64 seed,.int .i64 bits]] w fun e w' => e = .returned (.func (.func 146) #[] #[.pointer (some ⟨w.heap.size,0,none⟩),.pointer (some ⟨w.heap.size + 1,0,none⟩)]) /\ w' = (w.alloc (.cells #[.string log] 9)).alloc (.cells #[.int .i64 blk,.int .i64 seed,.int .i64 bits] 29) := by
 refine callsIn_of_wp Tryz.func88 rfl trivial ?_ rfl
 simp only [Tryz.ntmps88,List.size_toArray,List.length_cons,List.length_nil,Nat.reduceAdd,Nat.reduceSub,Array.replicate_succ,Array.replicate_zero,List.push_toArray,List.append_toArray,List.nil_append,List.cons_append]
 gi_wp2
 go_ret
 exact ⟨rfl,rfl⟩
theorem blocks_tells (n : Nat) (hn : 2 <= n) (log : ByteArray) (blk seed bits : Int) (hlog : log.size <= 100000) (Bl Bc b0 : Nat) (w : World) (hl : w.cell? ⟨Bl,0,none⟩ = some (.string log)) (hc0 : w.cell? ⟨Bc,0,none⟩ = some (.int .i64 blk)) (hc1 : w.cell? ⟨Bc,1,none⟩ = some (.int .i64 seed)) (hc2 : w.cell? ⟨Bc,2,none⟩ = some (.int .i64 bits))
  (hBl : Bl ≠ b0) (hBc : Bc ≠ b0) (hb0 : b0 < w.heap.size) (hzl : Bl < w.heap.size) (hzc : Bc < w.heap.size) (hG : 6 ≠ b0) (hH : HalvesAt w) :
  SeqTells Fence.wide n Tryz.prog 146 #[.pointer (some ⟨Bl,0,none⟩),.pointer (some ⟨Bc,0,none⟩)] encT (Told log.data.toList blk w.heap.size) (CellsBut b0) (Through log.data.toList blk) w := by
 intro l J W hW hJ hY h0
 have hlen : log.data.toList.length = log.size := by simp
 have h1 : 1 <= n := by omega
 have h2 : 1 <= n - 1 := by omega
 replace hl := (hW.cell (p := ⟨Bl,0,none⟩) hzl).trans hl
 replace hc0 := (hW.cell (p := ⟨Bc,0,none⟩) hzc).trans hc0
 replace hc1 := (hW.cell (p := ⟨Bc,1,none⟩) hzc).trans hc1
 replace hc2 := (hW.cell (p := ⟨Bc,2,none⟩) hzc).trans hc2
 replace hH := hH.below hW hH.1
 have hws := hW.size
 change CallsIn Fence.wide n Tryz.prog 146 #[.func (.yield l) #[] #[],.pointer (some ⟨Bl,0,none⟩),.pointer (some ⟨Bc,0,none⟩)] W _
 refine callsIn_of_wp Tryz.func146 rfl trivial ?_ rfl
 simp only [Tryz.ntmps146,List.size_toArray,List.length_cons,List.length_nil,Nat.reduceAdd,Nat.reduceSub,Array.replicate_succ,Array.replicate_zero,List.push_toArray,List.append_toArray,List.nil_append,List.cons_append]
 gi_wp2
 gi_loopw [4] (fun p wr => ∃ (pre : List Tb) (e : Nat),p = .int .i64 e /\ (e <= 100000 /\ (chain log.data.toList blk 14 pre e) /\ J pre wr) /\ (wr.cell? ⟨Bl,0,none⟩ = some (.string log) /\ wr.cell? ⟨Bc,0,none⟩ = some (.int .i64 blk) /\ wr.cell? ⟨Bc,1,none⟩ = some (.int .i64 seed) /\ wr.cell? ⟨Bc,2,none⟩ = some (.int .i64 bits)) /\ HalvesAt wr /\ W.heap.size <= wr.heap.size)
  (fun p _ => 100001 - (intOf p).toNat)
 case atStart =>
  exact ⟨[],14,rfl,⟨by omega,rfl,h0⟩,⟨hl,hc0,hc1,hc2⟩,hH,Nat.le_refl _⟩
 case round =>
  obtain ⟨pre,e,rfl,⟨he,hch,hJs⟩,⟨hl,hc0,hc1,hc2⟩,hH,hzr⟩ := hrel
  have hfn : Fence.wide.fn 147 := trivial
  have HRB : Hid _ := readBlock_any log e blk seed bits wr (by omega) (by omega) hH
  gi_wp2_with fail
  refine (callsIn_wide.2 HRB.out).mono ?_
  rintro e' w1 ⟨v,k,rfl,hBI,hb1⟩
  have hJ1 : J pre w1 := hJ pre wr w1 none hJs (grown_of_below hb1) (fun r e => by cases e)
  replace hl := (CellsBut.of_below (b := b0) hb1).cell (p := ⟨Bl,0,none⟩) hBl hl
  replace hc0 := (CellsBut.of_below (b := b0) hb1).cell (p := ⟨Bc,0,none⟩) hBc hc0
  replace hc1 := (CellsBut.of_below (b := b0) hb1).cell (p := ⟨Bc,1,none⟩) hBc hc1
  replace hc2 := (CellsBut.of_below (b := b0) hb1).cell (p := ⟨Bc,2,none⟩) hBc hc2
  replace hH := (CellsBut.of_below (b := b0) hb1).halves hG hH
  have hz1 := hb1.size
  clear HRB hfn
  cases hr : blockP log.data.toList e blk with
  | none =>
   rw [hr] at hBI
   obtain ⟨rfl,rfl⟩ := hBI
   gi_wp2
   refine ⟨fun _ h => (by cases h),?_⟩
   gi_wp2
   refine bodyPost_ret (results_none rfl _ _ _) rfl ?_
   exact ⟨⟨_,rfl⟩,pre,⟨e,hch,hr⟩,hJ pre w1 _ none hJ1 (World.grownBy_alloc w1 _ none) (fun r e => by cases e)⟩
  | some r =>
   obtain ⟨es,kk⟩ := r
   rw [hr] at hBI
   obtain ⟨rfl,hrow⟩ := hBI
   have hbs := blockP_some hr
   obtain ⟨g,cap,rfl⟩ := Joins.ownsRow_form hrow (by omega)
   have hJ2 : J pre (w1.alloc (.cells #[.slice (some ⟨g,0,none⟩) es.length cap,.int .i64 kk] 162)) := hJ pre w1 _ none hJ1 (World.grownBy_alloc w1 _ none) (fun r e => by cases e)
   obtain ⟨fn,tmps,assign,body,hy,hR⟩ := hY pre ⟨e,.slice (some ⟨g,0,none⟩) es.length cap,es,kk⟩ _ hJ2 ⟨⟨e,hch,rfl,hr⟩,Joins.ownsRow_le (hrow.alloc _) (by omega)⟩
   dsimp only [encT] at hy
   gi_wp2
   refine hR.mono ?_
   rintro e' W3 ⟨rfl,hJ3,hk3⟩
   have hk2 : CellsBut b0 w1 W3 := (CellsBut.of_below ((Below.refl _ w1).alloc (Nat.le_refl _) _)).trans hk3
   have hbx : W3.cell? ⟨w1.heap.size,1,none⟩ = some (.int .i64 kk) := hk3.cell (p := ⟨w1.heap.size,1,none⟩) (by show w1.heap.size ≠ b0; omega) (by simp)
   replace hl := hk2.cell (p := ⟨Bl,0,none⟩) hBl hl
   replace hc0 := hk2.cell (p := ⟨Bc,0,none⟩) hBc hc0
   replace hc1 := hk2.cell (p := ⟨Bc,1,none⟩) hBc hc1
   replace hc2 := hk2.cell (p := ⟨Bc,2,none⟩) hBc hc2
   replace hH := hk2.halves hG hH
   have hz2 := hk2.size
   have hk9 : (kk : Int) <= 100000 := by omega
   have hk8 : (e : Int) + (kk : Int) <= 100000 := by omega
   have he0 : (0 : Int) <= (e : Int) + (kk : Int) := by omega
   gi_wp2
   go_roundw
   case rel => exact ⟨_,e + kk,by go_num,⟨by omega,chain_snoc hch rfl hr,hJ3⟩,⟨hl,hc0,hc1,hc2⟩,hH,by omega⟩
   case measure => simp [intOf]; omega
end Go.Proofs.YtdhgebdbiehchaaGreatDoor
