/- The contracts of record.blocks and of the iterator that it tells. The program's two maps in memory; places as keys. The contract of record.Said.take: by one entry more. The contract of record.Read. A row of bytes as a string. -/
import Derived.Test.YtdhgebdbiehchaaGreatDoorB06
import Derived.Test.YtdhgebdbiehchaaGreatDoorB08
import Derived.Test.YtdhgebdbiehchaaGreatDoorB09
import Derived.Shelf.Abstract
import Derived.Shelf.RegionOpen
import Derived.WalkKit
import Derived.OwnWalkIn
import Derived.TacticsInMore
import Derived.LoopNIn
import Derived.LoopIn
import Derived.Lib.SmallJoins
import Derived.RangeFuncBox
import Derived.Test.YtdhgebdbiehchaaGreatDoorB01
namespace Go.Proofs.YtdhgebdbiehchaaGreatDoor
open Go.RowKit Go.Shelf
set_option linter.unusedSimpArgs false
set_option linter.unusedVariables false

/-- All blocks of cells but one lie as they lay. -/
structure CellsBut (b : Nat) (W W' : World) : Prop where
  size : W.heap.size ≤ W'.heap.size
  same : ∀ (k : Nat) (o : Obj), k ≠ b → W.heap[k]? = some o → o.isCells = true → W'.heap[k]? = some o
theorem CellsBut.refl (b : Nat) (W : World) : CellsBut b W W := ⟨Nat.le_refl _, fun _ _ _ h _ => h⟩
theorem CellsBut.trans {b : Nat} {X Y Z : World} (h : CellsBut b X Y) (k : CellsBut b Y Z) : CellsBut b X Z := ⟨Nat.le_trans h.size k.size, fun i o hb hi ho => k.same i o hb (h.same i o hb hi ho) ho⟩
theorem CellsBut.putObj {b : Nat} {W : World} {l : Nat} {o : Obj} (o' : Obj) (h : W.heap[l]? = some o) (ho : o.isCells = false) : CellsBut b W (W.putObj l o') :=
  ⟨by simp, fun k u hb hk hu => by
    by_cases e : k = l
    · subst e; rw [h] at hk; cases hk; rw [ho] at hu; cases hu
    · exact (World.putObj_heap_other e).trans hk⟩
theorem CellsBut.of_below {b : Nat} {W W' : World} (h : Below W.heap.size W W') : CellsBut b W W' := ⟨h.size, fun k o _ hk _ => (h.block k (Array.getElem?_eq_some_iff.1 hk).1).trans hk⟩
theorem CellsBut.setCell (b : Nat) (W : World) (j : Nat) (u : Value) : CellsBut b W (W.setCell ⟨b, j, none⟩ u) :=
  ⟨by simp [World.setCell], fun k o hb hk _ => (Below.heap_setCell W ⟨b, j, none⟩ u k hb).trans hk⟩
theorem cells_of_cell {W : World} {p : Addr} {u : Value} (h : W.cell? p = some u) : ∃ o : Obj, W.heap[p.block]? = some o ∧ o.isCells = true := by
  unfold World.cell? at h
  cases ho : W.heap[p.block]? with
  | none => simp [ho] at h
  | some o => exact ⟨o, rfl, by cases o <;> simp_all [Obj.isCells]⟩
theorem CellsBut.cell {b : Nat} {W W' : World} (h : CellsBut b W W') {p : Addr} {u : Value} (hp : p.block ≠ b) (hc : W.cell? p = some u) : W'.cell? p = some u := by
  obtain ⟨o, ho, hi⟩ := cells_of_cell hc
  exact (World.cell?_of_block (w := W) ((h.same p.block o hp ho hi).trans ho.symm)).trans hc
theorem CellsBut.halves {b : Nat} {W W' : World} (h : CellsBut b W W') (hb : 6 ≠ b) (hH : HalvesAt W) : HalvesAt W' :=
  ⟨Nat.lt_of_lt_of_le hH.1 h.size, fun i hi => h.cell (p := ⟨6, i, none⟩) hb (hH.2 i hi)⟩
theorem grown_of_below {W W' : World} (h : Below W.heap.size W W') : W.grownBy W' none := ⟨h.os, h.tape, h.output, h.size, fun k hk _ => h.block k hk⟩

def encT (x : Tb) : Array Value := #[.int .i64 x.a, .agg #[x.v, .int .i64 x.k]]
/-- What a round is told follows what was told, and its entries lie in memory. -/
def Told (log : List UInt8) (blk : Int) (base : Nat) (pre : List Tb) (x : Tb) (W : World) : Prop :=
  (∃ e, chain log blk 14 pre e ∧ x.a = e ∧ blockP log e blk = some (x.es, x.k)) ∧ W.ownsRow base 106 3 x.v x.es.length (cellsE x.es)
def Through (log : List UInt8) (blk : Int) (xs : List Tb) : Prop := ∃ e, chain log blk 14 xs e ∧ blockP log e blk = none

set_option maxHeartbeats 1600000 in
theorem blocks_in (n : Nat) (log : ByteArray) (blk seed bits : Int) (w : World) :
    CallsIn Fence.wide n Tryz.prog 88 #[.string log, .agg #[.int .i64 blk, .int .i64 seed, .int .i64 bits]] w fun e w' => e = .returned (.func (.func 146) #[] #[.pointer (some ⟨w.heap.size, 0, none⟩), .pointer (some ⟨w.heap.size + 1, 0, none⟩)]) ∧ w' = (w.alloc (.cells #[.string log] 9)).alloc (.cells #[.int .i64 blk, .int .i64 seed, .int .i64 bits] 29) := by
  refine callsIn_of_wp Tryz.func88 rfl trivial ?_ rfl
  simp only [Tryz.ntmps88, List.size_toArray, List.length_cons, List.length_nil, Nat.reduceAdd, Nat.reduceSub, Array.replicate_succ, Array.replicate_zero, List.push_toArray, List.append_toArray, List.nil_append, List.cons_append]
  gi_wp2
  go_ret
  exact ⟨rfl, rfl⟩

set_option maxRecDepth 100000 in
set_option maxHeartbeats 3200000 in
theorem blocks_tells (n : Nat) (hn : 2 ≤ n) (log : ByteArray) (blk seed bits : Int) (hlog : log.size ≤ 100000) (Bl Bc b0 : Nat) (w : World) (hl : w.cell? ⟨Bl, 0, none⟩ = some (.string log)) (hc0 : w.cell? ⟨Bc, 0, none⟩ = some (.int .i64 blk)) (hc1 : w.cell? ⟨Bc, 1, none⟩ = some (.int .i64 seed)) (hc2 : w.cell? ⟨Bc, 2, none⟩ = some (.int .i64 bits))
    (hBl : Bl ≠ b0) (hBc : Bc ≠ b0) (hb0 : b0 < w.heap.size) (hzl : Bl < w.heap.size) (hzc : Bc < w.heap.size) (hG : 6 ≠ b0) (hH : HalvesAt w) :
    SeqTells Fence.wide n Tryz.prog 146 #[.pointer (some ⟨Bl, 0, none⟩), .pointer (some ⟨Bc, 0, none⟩)] encT (Told log.data.toList blk w.heap.size) (CellsBut b0) (Through log.data.toList blk) w := by
  intro l J W hW hJ hY h0
  have hlen : log.data.toList.length = log.size := by simp
  have h1 : 1 ≤ n := by omega
  have h2 : 1 ≤ n - 1 := by omega
  replace hl := (hW.cell (p := ⟨Bl, 0, none⟩) hzl).trans hl
  replace hc0 := (hW.cell (p := ⟨Bc, 0, none⟩) hzc).trans hc0
  replace hc1 := (hW.cell (p := ⟨Bc, 1, none⟩) hzc).trans hc1
  replace hc2 := (hW.cell (p := ⟨Bc, 2, none⟩) hzc).trans hc2
  replace hH := hH.below hW hH.1
  have hws := hW.size
  change CallsIn Fence.wide n Tryz.prog 146 #[.func (.yield l) #[] #[], .pointer (some ⟨Bl, 0, none⟩), .pointer (some ⟨Bc, 0, none⟩)] W _
  refine callsIn_of_wp Tryz.func146 rfl trivial ?_ rfl
  simp only [Tryz.ntmps146, List.size_toArray, List.length_cons, List.length_nil, Nat.reduceAdd, Nat.reduceSub, Array.replicate_succ, Array.replicate_zero, List.push_toArray, List.append_toArray, List.nil_append, List.cons_append]
  gi_wp2
  gi_loopw [4] (fun p wr => ∃ (pre : List Tb) (e : Nat), p = .int .i64 e ∧ (e ≤ 100000 ∧ (chain log.data.toList blk 14 pre e) ∧ J pre wr) ∧ (wr.cell? ⟨Bl, 0, none⟩ = some (.string log) ∧ wr.cell? ⟨Bc, 0, none⟩ = some (.int .i64 blk) ∧ wr.cell? ⟨Bc, 1, none⟩ = some (.int .i64 seed) ∧ wr.cell? ⟨Bc, 2, none⟩ = some (.int .i64 bits)) ∧ HalvesAt wr ∧ W.heap.size ≤ wr.heap.size)
    (fun p _ => 100001 - (intOf p).toNat)
  case atStart =>
    exact ⟨[], 14, rfl, ⟨by omega, rfl, h0⟩, ⟨hl, hc0, hc1, hc2⟩, hH, Nat.le_refl _⟩
  case round =>
    obtain ⟨pre, e, rfl, ⟨he, hch, hJs⟩, ⟨hl, hc0, hc1, hc2⟩, hH, hzr⟩ := hrel
    have hfn : Fence.wide.fn 147 := trivial
    have HRB : Hid _ := readBlock_any log e blk seed bits wr (by omega) (by omega) hH
    gi_wp2_with fail
    refine (callsIn_wide.2 HRB.out).mono ?_
    rintro e' w1 ⟨v, k, rfl, hBI, hb1⟩
    have hJ1 : J pre w1 := hJ pre wr w1 none hJs (grown_of_below hb1) (fun r e => by cases e)
    replace hl := (CellsBut.of_below (b := b0) hb1).cell (p := ⟨Bl, 0, none⟩) hBl hl
    replace hc0 := (CellsBut.of_below (b := b0) hb1).cell (p := ⟨Bc, 0, none⟩) hBc hc0
    replace hc1 := (CellsBut.of_below (b := b0) hb1).cell (p := ⟨Bc, 1, none⟩) hBc hc1
    replace hc2 := (CellsBut.of_below (b := b0) hb1).cell (p := ⟨Bc, 2, none⟩) hBc hc2
    replace hH := (CellsBut.of_below (b := b0) hb1).halves hG hH
    have hz1 := hb1.size
    clear HRB hfn
    cases hr : blockP log.data.toList e blk with
    | none =>
      rw [hr] at hBI
      obtain ⟨rfl, rfl⟩ := hBI
      gi_wp2
      refine ⟨fun _ h => (by cases h), ?_⟩
      gi_wp2
      refine bodyPost_ret (results_none rfl _ _ _) rfl ?_
      exact ⟨⟨_, rfl⟩, pre, ⟨e, hch, hr⟩, hJ pre w1 _ none hJ1 (World.grownBy_alloc w1 _ none) (fun r e => by cases e)⟩
    | some r =>
      obtain ⟨es, kk⟩ := r
      rw [hr] at hBI
      obtain ⟨rfl, hrow⟩ := hBI
      have hbs := blockP_some hr
      obtain ⟨g, cap, rfl⟩ := Joins.ownsRow_form hrow (by omega)
      have hJ2 : J pre (w1.alloc (.cells #[.slice (some ⟨g, 0, none⟩) es.length cap, .int .i64 kk] 162)) := hJ pre w1 _ none hJ1 (World.grownBy_alloc w1 _ none) (fun r e => by cases e)
      obtain ⟨fn, tmps, assign, body, hy, hR⟩ := hY pre ⟨e, .slice (some ⟨g, 0, none⟩) es.length cap, es, kk⟩ _ hJ2 ⟨⟨e, hch, rfl, hr⟩, Joins.ownsRow_le (hrow.alloc _) (by omega)⟩
      dsimp only [encT] at hy
      gi_wp2
      refine hR.mono ?_
      rintro e' W3 ⟨rfl, hJ3, hk3⟩
      have hk2 : CellsBut b0 w1 W3 := (CellsBut.of_below ((Below.refl _ w1).alloc (Nat.le_refl _) _)).trans hk3
      have hbx : W3.cell? ⟨w1.heap.size, 1, none⟩ = some (.int .i64 kk) := hk3.cell (p := ⟨w1.heap.size, 1, none⟩) (by show w1.heap.size ≠ b0; omega) (by simp)
      replace hl := hk2.cell (p := ⟨Bl, 0, none⟩) hBl hl
      replace hc0 := hk2.cell (p := ⟨Bc, 0, none⟩) hBc hc0
      replace hc1 := hk2.cell (p := ⟨Bc, 1, none⟩) hBc hc1
      replace hc2 := hk2.cell (p := ⟨Bc, 2, none⟩) hBc hc2
      replace hH := hk2.halves hG hH
      have hz2 := hk2.size
      have hk9 : (kk : Int) ≤ 100000 := by omega
      have hk8 : (e : Int) + (kk : Int) ≤ 100000 := by omega
      have he0 : (0 : Int) ≤ (e : Int) + (kk : Int) := by omega
      gi_wp2
      go_roundw
      case rel => exact ⟨_, e + kk, by go_num, ⟨by omega, chain_snoc hch rfl hr, hJ3⟩, ⟨hl, hc0, hc1, hc2⟩, hH, by omega⟩
      case measure => simp [intOf]; omega
end Go.Proofs.YtdhgebdbiehchaaGreatDoor
namespace Go.Proofs.YtdhgebdbiehchaaGreatDoor
open Go.RowKit Go.Maps
set_option linter.unusedSimpArgs false
set_option linter.unusedVariables false

theorem laidOut : laidOutB Tryz.prog = true := by kernel_rfl
theorem rowPl : (165 : TypeId) < Tryz.prog.types.size := of_decide_eq_true (by kernel_rfl)
theorem widePl : (match Tryz.prog.underlying 165 with | some (.array _ _) | some (.struct _) => true | _ => false) = true := by kernel_rfl
theorem keyTypePl : Tryz.prog.keyType 165 = true := by kernel_rfl
set_option maxRecDepth 100000 in
theorem lawPl : WideMaps.KeyLaw Tryz.prog 165 := deep_law_laid laidOut (m := 2) (by omega) rowPl (by kernel_rfl) widePl
theorem keyedPl : Keyed Tryz.prog 165 := Keyed.of_law lawPl
theorem keyedStr : Keyed Tryz.prog 9 := string_keyed Tryz.underlying9
theorem cellsPl : Tryz.prog.cellsOf 165 = 2 := by kernel_rfl
theorem cellsInt : Tryz.prog.cellsOf 3 = 1 := by kernel_rfl
theorem succ_of_lt {n m : Nat} (h : n < m) : ∃ k, m = k + 1 := ⟨m - 1, by omega⟩
theorem sizePl : ∃ m, Tryz.prog.types.size = m + 1 := succ_of_lt rowPl

theorem keyOf_pl {a b : Int} (ha : (Lit.int .i64 a).wf = true) (hb : (Lit.int .i64 b).wf = true) : keyOf Tryz.prog 165 (.agg #[.int .i64 a, .int .i64 b]) = some (.string (keyBytes [.int .i64 a, .int .i64 b])) := by
  obtain ⟨m, hm⟩ := sizePl
  unfold keyOf
  simp only [Tryz.underlying165]
  rw [if_pos (by rw [keyTypePl]; simp [Value.formed, Tryz.underlying165, cellsPl]), hm]
  unfold Program.keyLits
  simp only [Tryz.underlying165, Value.cells]
  rw [if_pos (by rw [cellsPl]; exact ⟨rfl, by simp⟩)]
  simp [cellsInt, Program.keyLits, Tryz.underlying3, ha, hb]
theorem wfNat {a : Nat} (h : a < 4294967296) : (Lit.int .i64 (a : Int)).wf = true := WalkArith.wf_i64 (by omega)
theorem keyOf_pk {a b : Nat} (ha : a < 4294967296) (hb : b < 4294967296) : keyOf Tryz.prog 165 (.agg #[.int .i64 a, .int .i64 b]) = some (pk a b) := keyOf_pl (wfNat ha) (wfNat hb)
theorem pkInj : PkInj := by
  intro a b c d ha hb hc hd e
  have h1 := keyOf_pk ha hb
  have h2 := keyOf_pk hc hd
  rw [e] at h1
  have := keyedPl.inj h1 h2
  simp at this
  omega

/-- The two maps hold what these live entries say. -/
def Maps2 (W : World) (bi bp n : Nat) (L : List Sd) : Prop :=
  ∃ DI DP : DataW Unit, (W.ownsMap Tryz.prog 165 rIt bi n DI ∧ View DI (fI L) ∧ Maps.size DI = L.length) ∧ W.ownsMap Tryz.prog 9 rPl bp n DP ∧ View DP (fP L)
/-- Nothing has turned but the two. -/
structure Turn2 (bi bp : Nat) (w w' : World) : Prop where
  os : w'.os = w.os
  tape : w'.tape = w.tape
  output : w'.output = w.output
  size : w.heap.size ≤ w'.heap.size
  block : ∀ k, k < w.heap.size → k ≠ bi → k ≠ bp → w'.heap[k]? = w.heap[k]?
theorem Turn2.refl (bi bp : Nat) (w : World) : Turn2 bi bp w w := ⟨rfl, rfl, rfl, Nat.le_refl _, fun _ _ _ _ => rfl⟩
theorem Turn2.trans {bi bp : Nat} {a b c : World} (h : Turn2 bi bp a b) (k : Turn2 bi bp b c) : Turn2 bi bp a c :=
  ⟨k.os.trans h.os, k.tape.trans h.tape, k.output.trans h.output, Nat.le_trans h.size k.size, fun i hi h1 h2 => (k.block i (Nat.lt_of_lt_of_le hi h.size) h1 h2).trans (h.block i hi h1 h2)⟩
theorem Turn2.alloc {bi bp : Nat} {a b : World} (h : Turn2 bi bp a b) (o : Obj) : Turn2 bi bp a (b.alloc o) := h.trans ⟨rfl, rfl, rfl, by simp, fun k hk _ _ => Below.heap_alloc _ _ _ hk⟩
theorem Turn2.grown {bi bp : Nat} {a b c : World} {row : Option Nat} (h : Turn2 bi bp a b) (hg : b.grownBy c row) (hr : ∀ k, row = some k → k = bi ∨ k = bp) : Turn2 bi bp a c :=
  h.trans ⟨hg.os, hg.tape, hg.output, hg.size, fun k hk h1 h2 => hg.block k hk (fun e => by rcases hr k e.symm with h | h; exact h1 h; exact h2 h)⟩
theorem Turn2.cell {bi bp : Nat} {w w' : World} (h : Turn2 bi bp w w') {p : Addr} (hp : p.block < w.heap.size) (h1 : p.block ≠ bi) (h2 : p.block ≠ bp) : w'.cell? p = w.cell? p := World.cell?_of_block (w := w) (h.block p.block hp h1 h2)
theorem Turn2.frozen {bi bp : Nat} {w w' : World} (h : Turn2 bi bp w w') {p : Addr} (hp : p.block < w.heap.size) (h1 : p.block ≠ bi) (h2 : p.block ≠ bp) : w'.frozen? p = w.frozen? p := World.frozen?_of_block (w := w) (h.block p.block hp h1 h2)
theorem Turn2.of_below {bi bp : Nat} {w w' : World} (h : Below w.heap.size w w') : Turn2 bi bp w w' := ⟨h.os, h.tape, h.output, h.size, fun k hk _ _ => h.block k hk⟩
theorem Turn2.below {bi bp n : Nat} {w w' : World} (h : Turn2 bi bp w w') (hn : n ≤ w.heap.size) (h1 : n ≤ bi) (h2 : n ≤ bp) : Below n w w' := ⟨h.os, h.tape, h.output, h.size, fun k hk => h.block k (by omega) (by omega) (by omega)⟩
theorem Maps2.alloc {W : World} {bi bp n : Nat} {L : List Sd} (h : Maps2 W bi bp n L) (o : Obj) : Maps2 (W.alloc o) bi bp n L := by
  obtain ⟨DI, DP, ⟨h1, h2, h3⟩, h4, h5⟩ := h
  exact ⟨DI, DP, ⟨h1.alloc o, h2, h3⟩, h4.alloc o, h5⟩
theorem Maps2.kept {W W' : World} {bi bp n : Nat} {L : List Sd} (h : Maps2 W bi bp n L) {row : Option Nat} (hg : W.grownBy W' row) (h1 : some bi ≠ row) (h2 : some bp ≠ row) : Maps2 W' bi bp n L := by
  obtain ⟨DI, DP, ⟨h3, h4, h5⟩, h6, h7⟩ := h
  exact ⟨DI, DP, ⟨h3.kept hg h1, h4, h5⟩, h6.kept hg h2, h7⟩
theorem Maps2.lt {W : World} {bi bp n : Nat} {L : List Sd} (h : Maps2 W bi bp n L) : bi < W.heap.size ∧ bp < W.heap.size := by
  obtain ⟨DI, DP, ⟨h3, h4, h5⟩, h6, h7⟩ := h
  exact ⟨h3.lt, h6.lt⟩
theorem Maps2.mono {W : World} {bi bp n m : Nat} {L : List Sd} (h : Maps2 W bi bp n L) (hn : n ≤ m) : Maps2 W bi bp m L := by
  obtain ⟨DI, DP, ⟨h3, h4, h5⟩, h6, h7⟩ := h
  exact ⟨DI, DP, ⟨h3.mono hn, h4, h5⟩, h6.mono hn, h7⟩
theorem maps2_new (w : World) : Maps2 ((w.alloc (.map #[] 0)).alloc (.map #[] 0)) w.heap.size (w.heap.size + 1) 0 [] := by
  refine ⟨.map [], .map [], ⟨(World.ownsMap_made w _ _ _).alloc _, view_empty, rfl⟩, ?_, view_empty⟩
  have := World.ownsMap_made (w.alloc (.map #[] 0)) Tryz.prog 9 rPl
  rwa [World.size_alloc] at this
end Go.Proofs.YtdhgebdbiehchaaGreatDoor
namespace Go.Proofs.YtdhgebdbiehchaaGreatDoor
open Go.RowKit Go.Maps
set_option linter.unusedSimpArgs false
set_option linter.unusedVariables false

/-- What goes, as the maps are read. -/
theorem view_less {DI DP : DataW Unit} {L : List Sd} (hL : Lives L) (hI : View DI (fI L)) (hz : Maps.size DI = L.length) (hP : View DP (fP L)) {y : Sd} (hy : y ∈ L) :
    (View (DI.del (pk y.blk y.no)) (fI (less L y.key)) ∧ Maps.size (DI.del (pk y.blk y.no)) = (less L y.key).length) ∧ View (DP.del (.string y.key)) (fP (less L y.key)) := by
  refine ⟨⟨(hI.del _).congr (fI_less pkInj hL hy), ?_⟩, (hP.del _).congr (fP_less L y.key)⟩
  have h1 := size_del (k := pk y.blk y.no) hI.1
  rw [(hI.2 (pk y.blk y.no)).2, fI_mem pkInj hL hy] at h1
  have h2 := less_length hL hy
  simp at h1
  omega
/-- What comes. -/
theorem view_more {DI DP : DataW Unit} {L : List Sd} (hL : Lives L) (hI : View DI (fI L)) (hz : Maps.size DI = L.length) (hP : View DP (fP L)) {x : Sd} (hs : x.blk < 4294967296 ∧ x.no < 4294967296) (hlt : ∀ y ∈ L, placeLt y x) (hk : ∀ y ∈ L, y.key ≠ x.key) :
    (View (DI.put (pk x.blk x.no) (itemD x)) (fI (L ++ [x])) ∧ Maps.size (DI.put (pk x.blk x.no) (itemD x)) = (L ++ [x]).length) ∧ View (DP.put (.string x.key) (placeD x)) (fP (L ++ [x])) := by
  have hno : Maps.has DI (pk x.blk x.no) = false := by
    rw [(hI.2 _).2]
    cases h : (fI L (pk x.blk x.no)).isSome
    · rfl
    · obtain ⟨y, hy, e⟩ := fI_isSome h
      have s1 := hL.small y hy
      obtain ⟨e1, e2⟩ := pkInj _ _ _ _ s1.1 s1.2 hs.1 hs.2 e
      have := hlt y hy
      unfold placeLt at this
      omega
  refine ⟨⟨(hI.put (by trivial) _).congr (fI_snoc pkInj hL hs hlt), ?_⟩, (hP.put (by trivial) _).congr (fP_snoc hk)⟩
  rw [size_put hI.1, hno]
  simp [hz]

/-- The four boxes of the call. -/
structure TkB (w : World) (bi bp : Nat) (x : Sd) (ob on : Nat) (W : World) : Prop where
  c3 : W.cell? ⟨w.heap.size, 3, none⟩ = some (.map (some bi))
  c4 : W.cell? ⟨w.heap.size, 4, none⟩ = some (.map (some bp))
  e0 : W.cell? ⟨w.heap.size + 1, 0, none⟩ = some (.bool x.put)
  e1 : W.cell? ⟨w.heap.size + 1, 1, none⟩ = some (.string (S x.key))
  e2 : W.cell? ⟨w.heap.size + 1, 2, none⟩ = some (.string (S x.val))
  a0 : W.cell? ⟨w.heap.size + 1 + 1, 0, none⟩ = some (.int .i64 x.blk)
  a1 : W.cell? ⟨w.heap.size + 1 + 1, 1, none⟩ = some (.int .i64 x.no)
  o0 : W.cell? ⟨w.heap.size + 1 + 1 + 1, 0, none⟩ = some (.int .i64 ob)
  o1 : W.cell? ⟨w.heap.size + 1 + 1 + 1, 1, none⟩ = some (.int .i64 on)
  two : Turn2 bi bp w W
  size : w.heap.size + 1 + 1 + 1 < W.heap.size
theorem TkB.turn {w W W' : World} {bi bp ob on : Nat} {x : Sd} (h : TkB w bi bp x ob on W) (hi : bi < w.heap.size) (hp : bp < w.heap.size) {row : Option Nat} (hg : W.grownBy W' row) (hr : ∀ k, row = some k → k = bi ∨ k = bp) : TkB w bi bp x ob on W' := by
  have hb : ∀ b j, w.heap.size ≤ b → b < W.heap.size → W'.cell? ⟨b, j, none⟩ = W.cell? ⟨b, j, none⟩ := fun b j h1 h2 =>
    World.cell?_of_block (w := W) (hg.block b h2 (fun e => by rcases hr b e.symm with h | h <;> omega))
  have hz := h.size
  exact ⟨(hb _ _ (by omega) (by omega)).trans h.c3, (hb _ _ (by omega) (by omega)).trans h.c4, (hb _ _ (by omega) (by omega)).trans h.e0, (hb _ _ (by omega) (by omega)).trans h.e1, (hb _ _ (by omega) (by omega)).trans h.e2,
    (hb _ _ (by omega) (by omega)).trans h.a0, (hb _ _ (by omega) (by omega)).trans h.a1, (hb _ _ (by omega) (by omega)).trans h.o0, (hb _ _ (by omega) (by omega)).trans h.o1, h.two.grown hg hr, Nat.lt_of_lt_of_le hz hg.size⟩
theorem cell_new0 {w : World} {b : Nat} (C : Array Value) (t : TypeId) (hb : b = w.heap.size) {j : Nat} {u : Value} (h : C[j]? = some u) : (w.alloc (.cells C t)).cell? ⟨b, j, none⟩ = some u := by
  subst hb
  exact (cell_of_row _ _ _ C t _ (MapKept.heap_alloc w _).1).trans h
theorem cell_old0 {w : World} {b j : Nat} {u : Value} (o : Obj) (h : w.cell? ⟨b, j, none⟩ = some u) (hb : b < w.heap.size) : (w.alloc o).cell? ⟨b, j, none⟩ = some u :=
  (World.cell?_of_block (w := w) (Below.heap_alloc w o b hb)).trans h

theorem tkB_new (w : World) (h0 h1 h2 : Int) (bi bp : Nat) (x : Sd) (ob on : Nat) : TkB w bi bp x ob on ((((w.alloc (.cells #[.int .i64 h0, .int .i64 h1, .int .i64 h2, .map (some bi), .map (some bp)] 100)).alloc (.cells #[.bool x.put, .string (S x.key), .string (S x.val)] 106)).alloc (.cells #[.int .i64 x.blk, .int .i64 x.no] 165)).alloc (.cells #[.int .i64 ob, .int .i64 on] 165)) := by
  have z1 : (w.alloc (.cells #[.int .i64 h0, .int .i64 h1, .int .i64 h2, .map (some bi), .map (some bp)] 100)).heap.size = w.heap.size + 1 := World.size_alloc _ _
  have t1 : Turn2 bi bp w (w.alloc (.cells #[.int .i64 h0, .int .i64 h1, .int .i64 h2, .map (some bi), .map (some bp)] 100)) := (Turn2.refl _ _ _).alloc _
  have c3 := cell_new0 (w := w) #[.int .i64 h0, .int .i64 h1, .int .i64 h2, .map (some bi), .map (some bp)] 100 rfl (j := 3) (u := .map (some bi)) rfl
  have c4 := cell_new0 (w := w) #[.int .i64 h0, .int .i64 h1, .int .i64 h2, .map (some bi), .map (some bp)] 100 rfl (j := 4) (u := .map (some bp)) rfl
  generalize w.alloc (.cells #[.int .i64 h0, .int .i64 h1, .int .i64 h2, .map (some bi), .map (some bp)] 100) = w1 at *
  have z2 : (w1.alloc (.cells #[.bool x.put, .string (S x.key), .string (S x.val)] 106)).heap.size = w.heap.size + 1 + 1 := by rw [World.size_alloc, z1]
  replace t1 := t1.alloc (.cells #[.bool x.put, .string (S x.key), .string (S x.val)] 106)
  have e0 := cell_new0 (w := w1) #[.bool x.put, .string (S x.key), .string (S x.val)] 106 z1.symm (j := 0) rfl
  have e1 := cell_new0 (w := w1) #[.bool x.put, .string (S x.key), .string (S x.val)] 106 z1.symm (j := 1) rfl
  have e2 := cell_new0 (w := w1) #[.bool x.put, .string (S x.key), .string (S x.val)] 106 z1.symm (j := 2) rfl
  replace c3 := cell_old0 (.cells #[.bool x.put, .string (S x.key), .string (S x.val)] 106) c3 (by omega)
  replace c4 := cell_old0 (.cells #[.bool x.put, .string (S x.key), .string (S x.val)] 106) c4 (by omega)
  generalize w1.alloc (.cells #[.bool x.put, .string (S x.key), .string (S x.val)] 106) = w2 at *
  have z3 : (w2.alloc (.cells #[.int .i64 (x.blk : Int), .int .i64 (x.no : Int)] 165)).heap.size = w.heap.size + 1 + 1 + 1 := by rw [World.size_alloc, z2]
  replace t1 := t1.alloc (.cells #[.int .i64 (x.blk : Int), .int .i64 (x.no : Int)] 165)
  have a0 := cell_new0 (w := w2) #[.int .i64 (x.blk : Int), .int .i64 (x.no : Int)] 165 z2.symm (j := 0) rfl
  have a1 := cell_new0 (w := w2) #[.int .i64 (x.blk : Int), .int .i64 (x.no : Int)] 165 z2.symm (j := 1) rfl
  replace c3 := cell_old0 (.cells #[.int .i64 (x.blk : Int), .int .i64 (x.no : Int)] 165) c3 (by omega)
  replace c4 := cell_old0 (.cells #[.int .i64 (x.blk : Int), .int .i64 (x.no : Int)] 165) c4 (by omega)
  replace e0 := cell_old0 (.cells #[.int .i64 (x.blk : Int), .int .i64 (x.no : Int)] 165) e0 (by omega)
  replace e1 := cell_old0 (.cells #[.int .i64 (x.blk : Int), .int .i64 (x.no : Int)] 165) e1 (by omega)
  replace e2 := cell_old0 (.cells #[.int .i64 (x.blk : Int), .int .i64 (x.no : Int)] 165) e2 (by omega)
  generalize w2.alloc (.cells #[.int .i64 (x.blk : Int), .int .i64 (x.no : Int)] 165) = w3 at *
  exact ⟨cell_old0 _ c3 (by omega), cell_old0 _ c4 (by omega), cell_old0 _ e0 (by omega), cell_old0 _ e1 (by omega), cell_old0 _ e2 (by omega), cell_old0 _ a0 (by omega), cell_old0 _ a1 (by omega),
    cell_new0 _ _ z3.symm rfl, cell_new0 _ _ z3.symm rfl, t1.alloc _, by rw [World.size_alloc, z3]; omega⟩

theorem zeroPl (w : World) : (zeroValue 165).run Tryz.prog w = .ok (.agg #[.int .i64 0, .int .i64 0]) w := by first | exact Tryz.zeroValue165 w | kernel_rfl

set_option maxRecDepth 100000 in
set_option maxHeartbeats 3200000 in
/-- The key was not there. -/
theorem take_new (h0 h1 h2 : Int) (bi bp n : Nat) (x : Sd) (L : List Sd) (w : World) (hm : Maps2 w bi bp n L) (hL : Lives L) (hs : x.blk < 4294967296 ∧ x.no < 4294967296) (hlt : ∀ y ∈ L, placeLt y x) (hkey : x.key.length ≤ 20) (hn : n < 1000000000) (hne : bi ≠ bp) (hno : fP L (.string x.key) = none) :
    Calls Tryz.prog 89 #[.agg #[.int .i64 h0, .int .i64 h1, .int .i64 h2, .map (some bi), .map (some bp)], .agg #[.bool x.put, .string (S x.key), .string (S x.val)], .agg #[.int .i64 x.blk, .int .i64 x.no]] w fun e w' => e = .returned (.tuple #[]) ∧ Maps2 w' bi bp (n + 1) (step L x) ∧ Turn2 bi bp w w' := by
  obtain ⟨hbi, hbp⟩ := hm.lt
  obtain ⟨DI, DP, ⟨hI, vI, zI⟩, hP, vP⟩ := hm
  have hB := tkB_new w h0 h1 h2 bi bp x 0 0
  have hkl : keyOf Tryz.prog 9 (.string (S x.key)) = some (.string x.key) := by
    rw [WideMaps.keyOf_string_mk Tryz.underlying9 (by rw [S_size]; unfold maxLen; omega), S_data]
  have hpk := keyOf_pk hs.1 hs.2
  have hat : DP.atKey (.string x.key) (.agg [.lit (.int .i64 0), .lit (.int .i64 0)]) = .agg [.lit (.int .i64 0), .lit (.int .i64 0)] := by rw [(vP.2 _).1, hno]; rfl
  have hhas : Maps.has DP (.string x.key) = false := by rw [(vP.2 _).2, hno]; rfl
  obtain ⟨put, ky, vl, blk, no⟩ := x
  dsimp only at *
  cases put
  · go_enter Tryz.func89, Tryz.ntmps89
    go_wp2_with (first | (at_lookup; refine wpList_lookup_own_ok _ rfl _ _ 98 rfl 9 165 keyedStr Tryz.underlying98 rPl (zeroPl _) _ [] (rPl_mk 0 0) bp n DP rfl (((hP.alloc _).alloc _).alloc _) _ _ rfl hkl ?_; intro v ps hv; rw [hat] at hv; obtain rfl := rPl_inv hv; rw [hhas]))
    refine bodyPost_end (v := .tuple #[]) ?_ rfl ⟨rfl, ?_, hB.two⟩
    · simp [results, Tryz.results89, go_sem]
    · have e1 : step L ⟨false, ky, vl, blk, no⟩ = L := by
        show less L ky ++ [] = L
        rw [List.append_nil, less_same (fP_none hno)]
      rw [e1]
      exact ⟨DI, DP, ⟨((((hI.alloc _).alloc _).alloc _).alloc _).mono (Nat.le_succ _), vI, zI⟩, ((((hP.alloc _).alloc _).alloc _).alloc _).mono (Nat.le_succ _), vP⟩
  · have hV := view_more hL vI zI vP (x := ⟨true, ky, vl, blk, no⟩) hs hlt (fP_none hno)
    have HV : Hid _ := hV
    clear hV
    go_enter Tryz.func89, Tryz.ntmps89
    go_wp2_with (first
      | (at_lookup; refine wpList_lookup_own_ok _ rfl _ _ 98 rfl 9 165 keyedStr Tryz.underlying98 rPl (zeroPl _) _ [] (rPl_mk 0 0) bp n DP rfl (((hP.alloc _).alloc _).alloc _) _ _ rfl hkl ?_; intro v ps hv; rw [hat] at hv; obtain rfl := rPl_inv hv; rw [hhas])
      | (at_mapUpdate; refine wpList_mapUpdate_own _ rfl _ _ _ 97 rfl 165 54 keyedPl Tryz.underlying97 rIt bi n DI rfl ((((hI.alloc _).alloc _).alloc _).alloc _) (by unfold maxLen; omega) _ _ _ rfl rfl hpk _ [] (rIt_mk _ _) ?_; intro w1 hI1 hg1; have hP1 := ((((hP.alloc _).alloc _).alloc _).alloc _).kept hg1 (by simp; omega); have hB1 := hB.turn hbi hbp hg1 (fun k e => by cases e; exact .inl rfl); clear hB; obtain ⟨c3, c4, e0, e1, e2, a0, a1, o0, o1, hT, hZ⟩ := hB1)
      | (at_mapUpdate; refine wpList_mapUpdate_own _ rfl _ _ _ 98 rfl 9 165 keyedStr Tryz.underlying98 rPl bp n DP rfl hP1 (by unfold maxLen; omega) _ _ _ rfl rfl hkl _ [] (rPl_mk _ _) ?_; intro w2 hP2 hg2))
    refine bodyPost_end (v := .tuple #[]) ?_ rfl ⟨rfl, ?_, hT.grown hg2 (fun k e => by cases e; exact .inr rfl)⟩
    · simp [results, Tryz.results89, go_sem]
    · have e1 : step L ⟨true, ky, vl, blk, no⟩ = L ++ [⟨true, ky, vl, blk, no⟩] := by
        show less L ky ++ [_] = _
        rw [less_same (fP_none hno)]
      obtain ⟨⟨v1, v2⟩, v3⟩ := HV.out
      rw [e1]
      simp only [S_data] at hI1 hP2
      exact ⟨_, _, ⟨hI1.kept hg2 (by simp; omega), v1, v2⟩, hP2, v3⟩

set_option maxRecDepth 100000 in
set_option maxHeartbeats 3200000 in
/-- The key was there. -/
theorem take_old (h0 h1 h2 : Int) (bi bp n : Nat) (x : Sd) (L : List Sd) (w : World) (hm : Maps2 w bi bp n L) (hL : Lives L) (hs : x.blk < 4294967296 ∧ x.no < 4294967296) (hlt : ∀ y ∈ L, placeLt y x) (hkey : x.key.length ≤ 20) (hn : n < 1000000000) (hne : bi ≠ bp) (y : Sd) (hy : y ∈ L) (hyk : y.key = x.key) :
    Calls Tryz.prog 89 #[.agg #[.int .i64 h0, .int .i64 h1, .int .i64 h2, .map (some bi), .map (some bp)], .agg #[.bool x.put, .string (S x.key), .string (S x.val)], .agg #[.int .i64 x.blk, .int .i64 x.no]] w fun e w' => e = .returned (.tuple #[]) ∧ Maps2 w' bi bp (n + 1) (step L x) ∧ Turn2 bi bp w w' := by
  obtain ⟨hbi, hbp⟩ := hm.lt
  obtain ⟨DI, DP, ⟨hI, vI, zI⟩, hP, vP⟩ := hm
  have hB := tkB_new w h0 h1 h2 bi bp x y.blk y.no
  have hkl : keyOf Tryz.prog 9 (.string (S x.key)) = some (.string x.key) := by
    rw [WideMaps.keyOf_string_mk Tryz.underlying9 (by rw [S_size]; unfold maxLen; omega), S_data]
  have hpk := keyOf_pk hs.1 hs.2
  have hys := hL.small y hy
  have hpky := keyOf_pk hys.1 hys.2
  have hf : fP L (.string x.key) = some (placeD y) := by
    cases h : fP L (.string x.key) with
    | none => exact absurd hyk (fP_none h y hy)
    | some d =>
      obtain ⟨z, hz, hzk, rfl⟩ := fP_some h
      rw [hL.key_eq hz hy (hzk.trans hyk.symm)]
  have hat : DP.atKey (.string x.key) (.agg [.lit (.int .i64 0), .lit (.int .i64 0)]) = .agg [.lit (.int .i64 y.blk), .lit (.int .i64 y.no)] := by rw [(vP.2 _).1, hf]; rfl
  have hhas : Maps.has DP (.string x.key) = true := by rw [(vP.2 _).2, hf]; rfl
  obtain ⟨⟨u1, u2⟩, u3⟩ := view_less hL vI zI vP hy
  rw [hyk] at u1 u2 u3
  clear hf vI zI vP
  have hL' : Lives (less L x.key) := hL.filter _
  have hkk : ∀ z ∈ less L x.key, z.key ≠ x.key := fun z hz => by simpa using (List.mem_filter.1 hz).2
  have hlt' : ∀ z ∈ less L x.key, placeLt z x := fun z hz => hlt z (List.mem_filter.1 hz).1
  have HV : Hid _ := view_more hL' u1 u2 u3 hs hlt' hkk
  have HU : Hid _ := And.intro u1 (And.intro u2 u3)
  clear hL' hkk hlt' u1 u2 u3 hL hlt hyk hy
  obtain ⟨put, ky, vl, blk, no⟩ := x
  obtain ⟨yput, yky, yvl, yblk, yno⟩ := y
  dsimp only at *
  cases put
  · go_enter Tryz.func89, Tryz.ntmps89
    go_wp2_with (first
      | (at_lookup; refine wpList_lookup_own_ok _ rfl _ _ 98 rfl 9 165 keyedStr Tryz.underlying98 rPl (zeroPl _) _ [] (rPl_mk 0 0) bp n DP rfl (((hP.alloc _).alloc _).alloc _) _ _ rfl hkl ?_; intro v ps hv; rw [hat] at hv; obtain rfl := rPl_inv hv; rw [hhas])
      | (at_delete; refine wpList_delete_own _ rfl _ _ 97 165 rfl 54 keyedPl Tryz.underlying97 rIt bi n DI rfl ((((hI.alloc _).alloc _).alloc _).alloc _) _ _ rfl hpky ?_; intro w1 hI1 ht1; have hP1 := ((((hP.alloc _).alloc _).alloc _).alloc _).kept ht1.grown (by simp; omega); have hB1 := hB.turn hbi hbp ht1.grown (fun k e => by cases e; exact .inl rfl); clear hB ht1; have HB1 : Hid _ := hB1; obtain ⟨c3, c4, e0, e1, e2, a0, a1, o0, o1, hT, hZ⟩ := hB1)
      | (at_delete; refine wpList_delete_own _ rfl _ _ 98 9 rfl 165 keyedStr Tryz.underlying98 rPl bp n DP rfl hP1 _ _ rfl hkl ?_; clear c3 c4 e0 e1 e2 a0 a1 o0 o1 hT hZ; intro w2 hP2 ht2; have hI2 := hI1.kept ht2.grown (by simp; omega); have hB2 := HB1.out.turn hbi hbp ht2.grown (fun k e => by cases e; exact .inr rfl); clear HB1 ht2; have HB2 : Hid _ := hB2; obtain ⟨c3, c4, e0, e1, e2, a0, a1, o0, o1, hT, hZ⟩ := hB2))
    refine bodyPost_end (v := .tuple #[]) ?_ rfl ⟨rfl, ?_, hT⟩
    · simp [results, Tryz.results89, go_sem]
    · have e1 : step L ⟨false, ky, vl, blk, no⟩ = less L ky := by
        show less L ky ++ [] = _
        rw [List.append_nil]
      rw [e1]
      exact ⟨_, _, ⟨hI2.mono (Nat.le_succ _), HU.out.1, HU.out.2.1⟩, hP2.mono (Nat.le_succ _), HU.out.2.2⟩
  · go_enter Tryz.func89, Tryz.ntmps89
    go_wp2_with (first
      | (at_lookup; refine wpList_lookup_own_ok _ rfl _ _ 98 rfl 9 165 keyedStr Tryz.underlying98 rPl (zeroPl _) _ [] (rPl_mk 0 0) bp n DP rfl (((hP.alloc _).alloc _).alloc _) _ _ rfl hkl ?_; intro v ps hv; rw [hat] at hv; obtain rfl := rPl_inv hv; rw [hhas])
      | (at_delete; refine wpList_delete_own _ rfl _ _ 97 165 rfl 54 keyedPl Tryz.underlying97 rIt bi n DI rfl ((((hI.alloc _).alloc _).alloc _).alloc _) _ _ rfl hpky ?_; intro w1 hI1 ht1; have hP1 := ((((hP.alloc _).alloc _).alloc _).alloc _).kept ht1.grown (by simp; omega); have hB1 := hB.turn hbi hbp ht1.grown (fun k e => by cases e; exact .inl rfl); clear hB ht1; have HB1 : Hid _ := hB1; obtain ⟨c3, c4, e0, e1, e2, a0, a1, o0, o1, hT, hZ⟩ := hB1)
      | (at_delete; refine wpList_delete_own _ rfl _ _ 98 9 rfl 165 keyedStr Tryz.underlying98 rPl bp n DP rfl hP1 _ _ rfl hkl ?_; clear c3 c4 e0 e1 e2 a0 a1 o0 o1 hT hZ; intro w2 hP2 ht2; have hI2 := hI1.kept ht2.grown (by simp; omega); have hB2 := HB1.out.turn hbi hbp ht2.grown (fun k e => by cases e; exact .inr rfl); clear HB1 ht2; have HB2 : Hid _ := hB2; obtain ⟨c3, c4, e0, e1, e2, a0, a1, o0, o1, hT, hZ⟩ := hB2)
      | (at_mapUpdate; refine wpList_mapUpdate_own _ rfl _ _ _ 97 rfl 165 54 keyedPl Tryz.underlying97 rIt bi n _ rfl hI2 (by unfold maxLen; omega) _ _ _ rfl rfl hpk _ [] (rIt_mk _ _) ?_; clear c3 c4 e0 e1 e2 a0 a1 o0 o1 hT hZ; intro w3 hI3 hg3; have hP3 := hP2.kept hg3 (by simp; omega); have hB3 := HB2.out.turn hbi hbp hg3 (fun k e => by cases e; exact .inl rfl); clear HB2; obtain ⟨c3, c4, e0, e1, e2, a0, a1, o0, o1, hT, hZ⟩ := hB3)
      | (at_mapUpdate; refine wpList_mapUpdate_own _ rfl _ _ _ 98 rfl 9 165 keyedStr Tryz.underlying98 rPl bp n _ rfl hP3 (by unfold maxLen; omega) _ _ _ rfl rfl hkl _ [] (rPl_mk _ _) ?_; intro w4 hP4 hg4))
    refine bodyPost_end (v := .tuple #[]) ?_ rfl ⟨rfl, ?_, hT.grown hg4 (fun k e => by cases e; exact .inr rfl)⟩
    · simp [results, Tryz.results89, go_sem]
    · have e1 : step L ⟨true, ky, vl, blk, no⟩ = less L ky ++ [⟨true, ky, vl, blk, no⟩] := rfl
      obtain ⟨⟨v1, v2⟩, v3⟩ := HV.out
      rw [e1]
      simp only [S_data] at hI3 hP4
      exact ⟨_, _, ⟨hI3.kept hg4 (by simp; omega), v1, v2⟩, hP4, v3⟩

theorem take_any (h0 h1 h2 : Int) (bi bp n : Nat) (x : Sd) (L : List Sd) (w : World) (hm : Maps2 w bi bp n L) (hL : Lives L) (hs : x.blk < 4294967296 ∧ x.no < 4294967296) (hlt : ∀ y ∈ L, placeLt y x) (hkey : x.key.length ≤ 20) (hn : n < 1000000000) (hne : bi ≠ bp) :
    Calls Tryz.prog 89 #[.agg #[.int .i64 h0, .int .i64 h1, .int .i64 h2, .map (some bi), .map (some bp)], .agg #[.bool x.put, .string (S x.key), .string (S x.val)], .agg #[.int .i64 x.blk, .int .i64 x.no]] w fun e w' => e = .returned (.tuple #[]) ∧ Maps2 w' bi bp (n + 1) (step L x) ∧ Turn2 bi bp w w' := by
  cases h : fP L (.string x.key) with
  | none => exact take_new h0 h1 h2 bi bp n x L w hm hL hs hlt hkey hn hne h
  | some d =>
    obtain ⟨y, hy, hyk, _⟩ := fP_some h
    exact take_old h0 h1 h2 bi bp n x L w hm hL hs hlt hkey hn hne y hy hyk
end Go.Proofs.YtdhgebdbiehchaaGreatDoor
namespace Go.Proofs.YtdhgebdbiehchaaGreatDoor
open Go.RowKit Go.Shelf Go.Maps
set_option linter.unusedSimpArgs false
set_option linter.unusedVariables false
attribute [local go_sem] Oper.semAt_some

/-- A box, whole. -/
def Bx (W : World) (b : Nat) (cs : Array Value) (t : TypeId) : Prop := W.heap[b]? = some (.cells cs t (0, 0))
theorem Bx.cell {W : World} {b : Nat} {cs : Array Value} {t : TypeId} (h : Bx W b cs t) {j : Nat} {u : Value} (hu : cs[j]? = some u) : W.cell? ⟨b, j, none⟩ = some u := (cell_of_row W b j cs t _ h).trans hu
theorem Bx.frozen {W : World} {b : Nat} {cs : Array Value} {t : TypeId} (h : Bx W b cs t) (j : Nat) : W.frozen? ⟨b, j, none⟩ = false := by
  have h' : W.heap[b]? = some (.cells cs t (0, 0)) := h
  simp [World.frozen?, h']
theorem Bx.lt {W : World} {b : Nat} {cs : Array Value} {t : TypeId} (h : Bx W b cs t) : b < W.heap.size := (Array.getElem?_eq_some_iff.1 h).1
theorem Bx.alloc {W : World} {b : Nat} {cs : Array Value} {t : TypeId} (h : Bx W b cs t) (o : Obj) : Bx (W.alloc o) b cs t := (Below.heap_alloc W o b h.lt).trans h
theorem Bx.below {W W' : World} {b n : Nat} {cs : Array Value} {t : TypeId} (h : Bx W b cs t) (hb : Below n W W') (hn : b < n) : Bx W' b cs t := (hb.block b hn).trans h
theorem Bx.turn {W W' : World} {b bi bp : Nat} {cs : Array Value} {t : TypeId} (h : Bx W b cs t) (ht : Turn2 bi bp W W') (h1 : b ≠ bi) (h2 : b ≠ bp) : Bx W' b cs t := (ht.block b h.lt h1 h2).trans h
theorem bx_new (W : World) (cs : Array Value) (t : TypeId) {b : Nat} (hb : b = W.heap.size) : Bx (W.alloc (.cells cs t)) b cs t := by subst hb; exact (MapKept.heap_alloc W _).1
theorem Bx.kept {W W' : World} {b : Nat} {cs : Array Value} {t : TypeId} (h : Bx W b cs t) {row : Option Nat} (hg : W.grownBy W' row) (hr : ∀ r, row = some r → ∃ o : Obj, W.heap[r]? = some o ∧ o.isCells = false) : Bx W' b cs t :=
  (hg.block b h.lt (fun e => by obtain ⟨o, ho, hc⟩ := hr b e.symm; rw [show W.heap[b]? = _ from h] at ho; cases ho; cases hc)).trans h
theorem Bx.other {W : World} {b b' j : Nat} {cs : Array Value} {t : TypeId} (h : Bx W b cs t) (hne : b ≠ b') (u : Value) : Bx (W.setCell ⟨b', j, none⟩ u) b cs t := (Below.heap_setCell W ⟨b', j, none⟩ u b hne).trans h
theorem Bx.set1 {W : World} {b : Nat} {v : Value} {t : TypeId} (h : Bx W b #[v] t) (u : Value) : Bx (W.setCell ⟨b, 0, none⟩ u) b #[u] t := by
  obtain ⟨hlt, hk⟩ := Array.getElem?_eq_some_iff.1 h
  show (W.heap.modify b _)[b]? = _
  rw [Array.getElem?_eq_getElem (by rw [Array.size_modify]; exact hlt), Array.getElem_modify_self, hk]
  rfl

theorem Bx.setj {W : World} {b : Nat} {cs : Array Value} {t : TypeId} (h : Bx W b cs t) (j : Nat) (u : Value) : Bx (W.setCell ⟨b, j, none⟩ u) b (cs.setIfInBounds j u) t := by
  obtain ⟨hlt, hk⟩ := Array.getElem?_eq_some_iff.1 h
  show (W.heap.modify b _)[b]? = _
  rw [Array.getElem?_eq_getElem (by rw [Array.size_modify]; exact hlt), Array.getElem_modify_self, hk]
  try rfl
theorem Bx.set5 {W : World} {b : Nat} {a0 a1 a2 a3 a4 : Value} {t : TypeId} (h : Bx W b #[a0, a1, a2, a3, a4] t) (v0 v1 v2 v3 v4 : Value) :
    Bx (((((W.setCell ⟨b, 0, none⟩ v0).setCell ⟨b, 1, none⟩ v1).setCell ⟨b, 2, none⟩ v2).setCell ⟨b, 3, none⟩ v3).setCell ⟨b, 4, none⟩ v4) b #[v0, v1, v2, v3, v4] t :=
  ((((h.setj 0 v0).setj 1 v1).setj 2 v2).setj 3 v3).setj 4 v4
theorem grown_setB (W : World) (b j : Nat) (v : Value) : W.grownBy (W.setCell ⟨b, j, none⟩ v) (some b) :=
  ⟨rfl, rfl, rfl, by simp [World.setCell], fun k _ hk => Below.heap_setCell _ _ _ k (fun e => hk (by rw [e]))⟩
theorem grown_trans {X Y Z : World} {b : Option Nat} (h : X.grownBy Y b) (k : Y.grownBy Z b) : X.grownBy Z b :=
  ⟨k.os.trans h.os, k.tape.trans h.tape, k.output.trans h.output, Nat.le_trans h.size k.size, fun i hi hb => (k.block i (Nat.lt_of_lt_of_le hi h.size) hb).trans (h.block i hi hb)⟩
theorem grown_set5 (W : World) (b : Nat) (v0 v1 v2 v3 v4 : Value) : W.grownBy (((((W.setCell ⟨b, 0, none⟩ v0).setCell ⟨b, 1, none⟩ v1).setCell ⟨b, 2, none⟩ v2).setCell ⟨b, 3, none⟩ v3).setCell ⟨b, 4, none⟩ v4) (some b) :=
  grown_trans (grown_trans (grown_trans (grown_trans (grown_setB W b 0 v0) (grown_setB _ b 1 v1)) (grown_setB _ b 2 v2)) (grown_setB _ b 3 v3)) (grown_setB _ b 4 v4)

theorem Maps2.isMap {W : World} {bi bp n : Nat} {L : List Sd} (h : Maps2 W bi bp n L) : (∀ o, W.heap[bi]? = some o → o.isCells = false) ∧ (∀ o, W.heap[bp]? = some o → o.isCells = false) := by
  obtain ⟨DI, DP, ⟨h1, _⟩, h4, _⟩ := h
  obtain ⟨es, ck, hb, _⟩ := h1
  obtain ⟨es', ck', hb', _⟩ := h4
  exact ⟨fun o ho => by rw [hb] at ho; cases ho; rfl, fun o ho => by rw [hb'] at ho; cases ho; rfl⟩
theorem Turn2.cellsBut {W W' : World} {bi bp n b : Nat} {L : List Sd} (h : Turn2 bi bp W W') (hm : Maps2 W bi bp n L) : CellsBut b W W' :=
  ⟨h.size, fun k o _ hk ho => (h.block k (Array.getElem?_eq_some_iff.1 hk).1 (fun e => by subst e; rw [hm.isMap.1 o hk] at ho; cases ho) (fun e => by subst e; rw [hm.isMap.2 o hk] at ho; cases ho)).trans hk⟩
theorem Turn2.keepsFrom {W W' : World} {bi bp B : Nat} (h : Turn2 bi bp W W') (h1 : bi < B) (h2 : bp < B) : KeepsFrom B W W' :=
  ⟨h.size, fun k o hB hk _ => (h.block k (Array.getElem?_eq_some_iff.1 hk).1 (by omega) (by omega)).trans hk⟩

theorem chain_fun {log : List UInt8} {blk : Int} {xs : List Tb} : ∀ {a e e' : Nat}, chain log blk a xs e → chain log blk a xs e' → e = e' := by
  induction xs with
  | nil => intro a e e' h h'; exact (show e = a from h).trans (show e' = a from h').symm
  | cons x xs ih => intro a e e' h h'; exact ih h.2.2 h'.2.2
theorem saids_take_eq (a i : Nat) (es : List Ent) (j : Nat) : saids a i (es.take j) = (saids a i es).take j := by
  induction es generalizing i j with
  | nil => simp [saids]
  | cons e es ih =>
    cases j with
    | zero => simp [saids]
    | succ j => simp [saids, ih]
/-- What is said up to some entry of a block. -/
def upto (pre : List Tb) (a : Nat) (es : List Ent) (j : Nat) : List Sd := sds pre ++ saids a 0 (es.take j)
theorem upto_zero (pre : List Tb) (a : Nat) (es : List Ent) : upto pre a es 0 = sds pre := by simp [upto, saids]
theorem upto_all (pre : List Tb) (a : Nat) (v : Value) (es : List Ent) (k : Nat) : upto pre a es es.length = sds (pre ++ [⟨a, v, es, k⟩]) := by
  rw [upto, List.take_length, sds_snoc]; rfl
theorem upto_succ {pre : List Tb} {a : Nat} {es : List Ent} {j : Nat} (h : j < es.length) : upto pre a es (j + 1) = upto pre a es j ++ [⟨es[j].put, es[j].key, es[j].val, a, j⟩] := by
  rw [upto, saids_take h, upto, List.append_assoc]
theorem upto_length {pre : List Tb} {a : Nat} {es : List Ent} {j : Nat} (h : j ≤ es.length) : (upto pre a es j).length = (sds pre).length + j := by
  rw [upto, List.length_append, saids_length, List.length_take, Nat.min_eq_left h]
theorem upto_fine {log : List UInt8} {blk : Int} {pre : List Tb} {a e : Nat} {es : List Ent} {k : Nat} (hl : log.length ≤ 100000) (h : chain log blk 14 pre e) (ha : a = e) (hb : blockP log e blk = some (es, k)) (j : Nat) :
    (upto pre a es j).Pairwise placeLt ∧ ∀ y ∈ upto pre a es j, (y.blk < 4294967296 ∧ y.no < 4294967296) ∧ y.key.length ≤ 20 := by
  have hc := chain_snoc (x := ⟨a, .bool true, es, k⟩) h ha hb
  obtain ⟨c1, c2, c3, c4, c5⟩ := chain_rise hc
  have hbs := blockP_some hb
  have hsub : (upto pre a es j).Sublist (sds (pre ++ [⟨a, .bool true, es, k⟩])) := by
    rw [sds_snoc, upto, saids_take_eq]
    exact (List.Sublist.refl _).append (List.take_sublist _ _)
  refine ⟨c1.sublist hsub, fun y hy => ?_⟩
  have := c2 y (hsub.subset hy)
  have : e + k ≤ log.length := hbs.2.2.2.2.2
  refine ⟨⟨?_, ?_⟩, by omega⟩ <;> simp at * <;> omega

/-- What a log says, or nothing. -/
def saidS (log : List UInt8) : Option (List Sd) :=
  if 100000 < log.length then none
  else if headB log = false then none
  else if (readL log (hdBlk log) 14).2 < log.length then none
  else if 2000 < (liveL (readL log (hdBlk log) 14).1).length then none
  else some (liveL (readL log (hdBlk log) 14).1)
theorem indexS_said (log : List UInt8) : indexS log = (saidS log).map (indexB log (hdSeed log) (hdBits log)) := by
  unfold indexS saidS
  split
  · rfl
  · split
    · rfl
    · split
      · rfl
      · split <;> rfl
def SaidIs (w w' : World) (log : List UInt8) (v : Value) : Prop :=
  match saidS log with
  | none => v = .tuple #[.agg #[.int .i64 0, .int .i64 0, .int .i64 0, .map none, .map none], .bool false]
  | some L => ∃ bi bp n, v = .tuple #[.agg #[.int .i64 (hdBlk log), .int .i64 (hdSeed log), .int .i64 (hdBits log), .map (some bi), .map (some bp)], .bool true] ∧ Maps2 w' bi bp n L ∧ w.heap.size ≤ bi

theorem headV_ok {l : List UInt8} (h : headB l = true) : headV l = .agg #[.int .i64 (hdBlk l), .int .i64 (hdSeed l), .int .i64 (hdBits l)] := by rw [headV, if_pos h]

/-- The world in which the loop begins, and what lies there. -/
def rdWorld (w1 : World) (log : ByteArray) (blk seed bits : Nat) : World :=
  ((((((w1.alloc (.cells #[.int .i64 blk, .int .i64 seed, .int .i64 bits] 29)).alloc (.map #[] 0)).alloc (.map #[] 0)).alloc (.cells #[.int .i64 blk, .int .i64 seed, .int .i64 bits, .map (some (w1.heap.size + 1)), .map (some (w1.heap.size + 1 + 1))] 100)).alloc (.cells #[.int .i64 14] 3)).alloc (.cells #[.string log] 9)).alloc (.cells #[.int .i64 blk, .int .i64 seed, .int .i64 bits] 29)
structure RdW (w : World) (z : Nat) (log : ByteArray) (blk seed bits : Nat) (W : World) : Prop where
  r : Bx W w.heap.size #[.int .i64 0, .int .i64 0, .int .i64 0, .map none, .map none] 100
  s : Bx W (z + 1 + 1 + 1) #[.int .i64 blk, .int .i64 seed, .int .i64 bits, .map (some (z + 1)), .map (some (z + 1 + 1))] 100
  e : Bx W (z + 1 + 1 + 1 + 1) #[.int .i64 14] 3
  l : Bx W (z + 1 + 1 + 1 + 1 + 1) #[.string log] 9
  c : Bx W (z + 1 + 1 + 1 + 1 + 1 + 1) #[.int .i64 blk, .int .i64 seed, .int .i64 bits] 29
  m : Maps2 W (z + 1) (z + 1 + 1) 0 []
  b : Below w.heap.size w W
  h : HalvesAt W
  size : W.heap.size = z + 7
theorem rdW_new (w w1 : World) (log : ByteArray) (blk seed bits : Nat) (r0 : Bx w1 w.heap.size #[.int .i64 0, .int .i64 0, .int .i64 0, .map none, .map none] 100) (hB : Below w.heap.size w w1) (hH : HalvesAt w1) (hz : w.heap.size < w1.heap.size) : RdW w w1.heap.size log blk seed bits (rdWorld w1 log blk seed bits) := by
  unfold rdWorld
  obtain ⟨z, hzz⟩ : ∃ z, w1.heap.size = z := ⟨_, rfl⟩
  rw [hzz]
  have m2 : Maps2 (((w1.alloc (.cells #[.int .i64 blk, .int .i64 seed, .int .i64 bits] 29)).alloc (.map #[] 0)).alloc (.map #[] 0)) (z + 1) (z + 1 + 1) 0 [] := by
    have := maps2_new (w1.alloc (.cells #[.int .i64 blk, .int .i64 seed, .int .i64 bits] 29))
    rwa [World.size_alloc, hzz] at this
  have r1 := ((r0.alloc (.cells #[.int .i64 blk, .int .i64 seed, .int .i64 bits] 29)).alloc (.map #[] 0)).alloc (.map #[] 0)
  have b1 : Below w.heap.size w (((w1.alloc (.cells #[.int .i64 blk, .int .i64 seed, .int .i64 bits] 29)).alloc (.map #[] 0)).alloc (.map #[] 0)) := ((hB.alloc (by omega) _).alloc (by rw [World.size_alloc]; omega) _).alloc (by rw [World.size_alloc, World.size_alloc]; omega) _
  have h1 : HalvesAt (((w1.alloc (.cells #[.int .i64 blk, .int .i64 seed, .int .i64 bits] 29)).alloc (.map #[] 0)).alloc (.map #[] 0)) := by
    refine hH.below ((((Below.refl w1.heap.size w1).alloc (Nat.le_refl _) _).alloc ?_ _).alloc ?_ _) hH.1
    · rw [World.size_alloc]; omega
    · rw [World.size_alloc, World.size_alloc]; omega
  have z1 : (((w1.alloc (.cells #[.int .i64 blk, .int .i64 seed, .int .i64 bits] 29)).alloc (.map #[] 0)).alloc (.map #[] 0)).heap.size = z + 1 + 1 + 1 := by rw [World.size_alloc, World.size_alloc, World.size_alloc, hzz]
  generalize ((w1.alloc (.cells #[.int .i64 (blk : Int), .int .i64 (seed : Int), .int .i64 (bits : Int)] 29)).alloc (.map #[] 0)).alloc (.map #[] 0) = X at *
  have s1 := bx_new X #[.int .i64 (blk : Int), .int .i64 (seed : Int), .int .i64 (bits : Int), .map (some (z + 1)), .map (some (z + 1 + 1))] 100 z1.symm
  have z2 : (X.alloc (.cells #[.int .i64 (blk : Int), .int .i64 (seed : Int), .int .i64 (bits : Int), .map (some (z + 1)), .map (some (z + 1 + 1))] 100)).heap.size = z + 1 + 1 + 1 + 1 := by rw [World.size_alloc, z1]
  have b2 := b1.alloc (by omega) (.cells #[.int .i64 (blk : Int), .int .i64 (seed : Int), .int .i64 (bits : Int), .map (some (z + 1)), .map (some (z + 1 + 1))] 100)
  have h2 : HalvesAt (X.alloc (.cells #[.int .i64 (blk : Int), .int .i64 (seed : Int), .int .i64 (bits : Int), .map (some (z + 1)), .map (some (z + 1 + 1))] 100)) := h1.below ((Below.refl _ X).alloc (Nat.le_refl _) _) h1.1
  have r2 := r1.alloc (.cells #[.int .i64 (blk : Int), .int .i64 (seed : Int), .int .i64 (bits : Int), .map (some (z + 1)), .map (some (z + 1 + 1))] 100)
  have m3 := m2.alloc (.cells #[.int .i64 (blk : Int), .int .i64 (seed : Int), .int .i64 (bits : Int), .map (some (z + 1)), .map (some (z + 1 + 1))] 100)
  generalize X.alloc (.cells #[.int .i64 (blk : Int), .int .i64 (seed : Int), .int .i64 (bits : Int), .map (some (z + 1)), .map (some (z + 1 + 1))] 100) = Y at *
  have e1 := bx_new Y #[.int .i64 14] 3 z2.symm
  have z3 : (Y.alloc (.cells #[.int .i64 14] 3)).heap.size = z + 1 + 1 + 1 + 1 + 1 := by rw [World.size_alloc, z2]
  have l1 := bx_new (Y.alloc (.cells #[.int .i64 14] 3)) #[.string log] 9 z3.symm
  have z4 : ((Y.alloc (.cells #[.int .i64 14] 3)).alloc (.cells #[.string log] 9)).heap.size = z + 1 + 1 + 1 + 1 + 1 + 1 := by rw [World.size_alloc, z3]
  refine ⟨((r2.alloc _).alloc _).alloc _, ((s1.alloc _).alloc _).alloc _, (e1.alloc _).alloc _, l1.alloc _, bx_new _ _ _ z4.symm, ((m3.alloc _).alloc _).alloc _, ((b2.alloc (by omega) _).alloc (by omega) _).alloc (by omega) _, ?_, by rw [World.size_alloc, z4]⟩
  exact h2.below ((((Below.refl Y.heap.size Y).alloc (Nat.le_refl _) _).alloc (by omega) _).alloc (by omega) _) h2.1
end Go.Proofs.YtdhgebdbiehchaaGreatDoor
namespace Go.Proofs.YtdhgebdbiehchaaGreatDoor
open Go.RowKit
set_option linter.unusedSimpArgs false
set_option linter.unusedVariables false

theorem conv_own {w : World} {base n : Nat} {v : Value} {l : List UInt8} (h : w.ownsRow base 5 1 v n (cellsB l)) : (convert 43 9 v).run Tryz.prog w = .ok (.string (S l)) w := by
  have hn : l.length = n := by have := h.1; rw [cellsB_length] at this; omega
  subst hn
  rcases h.2 with ⟨rfl, h0⟩ | ⟨g, cap, cur, rfl, hb, hg, h1, h2, h3, h4⟩
  · have : l = [] := List.length_eq_zero_iff.1 h0
    subst this
    rw [run_convert_bytes_nil w 43 5 Tryz.underlying43 Tryz.underlying5 0 0 9 Tryz.underlying9]
    rfl
  · have hstr : strOfNums (l.map fun b => (b.toNat : Int)) = S l := by unfold strOfNums S; rw [bytes_back]
    rw [← hstr]
    refine run_convert_bytes_arg (P := Tryz.prog) w 43 5 Tryz.underlying43 Tryz.underlying5 g 0 l.length cap (l.map fun b => (b.toNat : Int)) (by simp) (fun i hi => ?_) 9 Tryz.underlying9
    rw [Nat.zero_add, World.ownsRow.cellAt (w := w) ⟨h.1, .inr ⟨g, cap, cur, rfl, hb, hg, h1, h2, h3, h4⟩⟩ i (by omega)]
    simp [cellsB, hi]
end Go.Proofs.YtdhgebdbiehchaaGreatDoor
