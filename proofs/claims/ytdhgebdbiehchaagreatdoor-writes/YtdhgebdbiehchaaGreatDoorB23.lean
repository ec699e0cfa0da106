/- The contract of record.Read. -/
import Derived.Test.YtdhgebdbiehchaaGreatDoorB22
import Derived.Test.YtdhgebdbiehchaaGreatDoorB15
import Derived.RangeFuncBox
namespace Go.Proofs.YtdhgebdbiehchaaGreatDoor
open Go.RowKit Go.Shelf Go.Maps
set_option linter.unusedSimpArgs false
set_option linter.unusedVariables false
attribute [local go_sem] Oper.semAt_some

/-- A box, whole. -/
def Bx (W : World) (b : Nat) (cs : Array Value) (t : TypeId) : Prop := W.heap[b]? = some (.cells cs t (0, 0))
theorem Bx.cell {W : World} {b : Nat} {cs : Array Value} {t : TypeId} (h : Bx W b cs t) {j : Nat} {u : Value} (hu : cs[j]? = some u) : W.cell? ⟨b, j, none⟩ = some u := (cell_of_row W b j cs t _ h).trans hu
theorem Bx.frozen {W : World} {b : Nat} {cs : Array Value} {t : TypeId} (h : Bx W b cs t) (j : Nat) : W.frozen? ⟨b, j, none⟩ = false := by
  have h' : W.heap[b]? = some (.cells cs t (0, 0)) := h
  simp [World.frozen?, h']
theorem Bx.lt {W : World} {b : Nat} {cs : Array Value} {t : TypeId} (h : Bx W b cs t) : b < W.heap.size := (Array.getElem?_eq_some_iff.1 h).1
theorem Bx.alloc {W : World} {b : Nat} {cs : Array Value} {t : TypeId} (h : Bx W b cs t) (o : Obj) : Bx (W.alloc o) b cs t := (Below.heap_alloc W o b h.lt).trans h
theorem Bx.below {W W' : World} {b n : Nat} {cs : Array Value} {t : TypeId} (h : Bx W b cs t) (hb : Below n W W') (hn : b < n) : Bx W' b cs t := (hb.block b hn).trans h
theorem Bx.turn {W W' : World} {b bi bp : Nat} {cs : Array Value} {t : TypeId} (h : Bx W b cs t) (ht : Turn2 bi bp W W') (h1 : b ≠ bi) (h2 : b ≠ bp) : Bx W' b cs t := (ht.block b h.lt h1 h2).trans h
theorem bx_new (W : World) (cs : Array Value) (t : TypeId) {b : Nat} (hb : b = W.heap.size) : Bx (W.alloc (.cells cs t)) b cs t := by subst hb; exact (MapKept.heap_alloc W _).1
theorem Bx.kept {W W' : World} {b : Nat} {cs : Array Value} {t : TypeId} (h : Bx W b cs t) {row : Option Nat} (hg : W.grownBy W' row) (hr : ∀ r, row = some r → ∃ o : Obj, W.heap[r]? = some o ∧ o.isCells = false) : Bx W' b cs t :=
  (hg.block b h.lt (fun e => by obtain ⟨o, ho, hc⟩ := hr b e.symm; rw [show W.heap[b]? = _ from h] at ho; cases ho; cases hc)).trans h
theorem Bx.other {W : World} {b b' j : Nat} {cs : Array Value} {t : TypeId} (h : Bx W b cs t) (hne : b ≠ b') (u : Value) : Bx (W.setCell ⟨b', j, none⟩ u) b cs t := (Below.heap_setCell W ⟨b', j, none⟩ u b hne).trans h
theorem Bx.set1 {W : World} {b : Nat} {v : Value} {t : TypeId} (h : Bx W b #[v] t) (u : Value) : Bx (W.setCell ⟨b, 0, none⟩ u) b #[u] t := by
  obtain ⟨hlt, hk⟩ := Array.getElem?_eq_some_iff.1 h
  show (W.heap.modify b _)[b]? = _
  rw [Array.getElem?_eq_getElem (by rw [Array.size_modify]; exact hlt), Array.getElem_modify_self, hk]
  rfl

theorem Bx.setj {W : World} {b : Nat} {cs : Array Value} {t : TypeId} (h : Bx W b cs t) (j : Nat) (u : Value) : Bx (W.setCell ⟨b, j, none⟩ u) b (cs.setIfInBounds j u) t := by
  obtain ⟨hlt, hk⟩ := Array.getElem?_eq_some_iff.1 h
  show (W.heap.modify b _)[b]? = _
  rw [Array.getElem?_eq_getElem (by rw [Array.size_modify]; exact hlt), Array.getElem_modify_self, hk]
  try rfl
theorem Bx.set5 {W : World} {b : Nat} {a0 a1 a2 a3 a4 : Value} {t : TypeId} (h : Bx W b #[a0, a1, a2, a3, a4] t) (v0 v1 v2 v3 v4 : Value) :
    Bx (((((W.setCell ⟨b, 0, none⟩ v0).setCell ⟨b, 1, none⟩ v1).setCell ⟨b, 2, none⟩ v2).setCell ⟨b, 3, none⟩ v3).setCell ⟨b, 4, none⟩ v4) b #[v0, v1, v2, v3, v4] t :=
  ((((h.setj 0 v0).setj 1 v1).setj 2 v2).setj 3 v3).setj 4 v4
theorem grown_setB (W : World) (b j : Nat) (v : Value) : W.grownBy (W.setCell ⟨b, j, none⟩ v) (some b) :=
  ⟨rfl, rfl, rfl, by simp [World.setCell], fun k _ hk => Below.heap_setCell _ _ _ k (fun e => hk (by rw [e]))⟩
theorem grown_trans {X Y Z : World} {b : Option Nat} (h : X.grownBy Y b) (k : Y.grownBy Z b) : X.grownBy Z b :=
  ⟨k.os.trans h.os, k.tape.trans h.tape, k.output.trans h.output, Nat.le_trans h.size k.size, fun i hi hb => (k.block i (Nat.lt_of_lt_of_le hi h.size) hb).trans (h.block i hi hb)⟩
theorem grown_set5 (W : World) (b : Nat) (v0 v1 v2 v3 v4 : Value) : W.grownBy (((((W.setCell ⟨b, 0, none⟩ v0).setCell ⟨b, 1, none⟩ v1).setCell ⟨b, 2, none⟩ v2).setCell ⟨b, 3, none⟩ v3).setCell ⟨b, 4, none⟩ v4) (some b) :=
  grown_trans (grown_trans (grown_trans (grown_trans (grown_setB W b 0 v0) (grown_setB _ b 1 v1)) (grown_setB _ b 2 v2)) (grown_setB _ b 3 v3)) (grown_setB _ b 4 v4)

theorem Maps2.isMap {W : World} {bi bp n : Nat} {L : List Sd} (h : Maps2 W bi bp n L) : (∀ o, W.heap[bi]? = some o → o.isCells = false) ∧ (∀ o, W.heap[bp]? = some o → o.isCells = false) := by
  obtain ⟨DI, DP, ⟨h1, _⟩, h4, _⟩ := h
  obtain ⟨es, ck, hb, _⟩ := h1
  obtain ⟨es', ck', hb', _⟩ := h4
  exact ⟨fun o ho => by rw [hb] at ho; cases ho; rfl, fun o ho => by rw [hb'] at ho; cases ho; rfl⟩
theorem Turn2.cellsBut {W W' : World} {bi bp n b : Nat} {L : List Sd} (h : Turn2 bi bp W W') (hm : Maps2 W bi bp n L) : CellsBut b W W' :=
  ⟨h.size, fun k o _ hk ho => (h.block k (Array.getElem?_eq_some_iff.1 hk).1 (fun e => by subst e; rw [hm.isMap.1 o hk] at ho; cases ho) (fun e => by subst e; rw [hm.isMap.2 o hk] at ho; cases ho)).trans hk⟩
theorem Turn2.keepsFrom {W W' : World} {bi bp B : Nat} (h : Turn2 bi bp W W') (h1 : bi < B) (h2 : bp < B) : KeepsFrom B W W' :=
  ⟨h.size, fun k o hB hk _ => (h.block k (Array.getElem?_eq_some_iff.1 hk).1 (by omega) (by omega)).trans hk⟩

theorem chain_fun {log : List UInt8} {blk : Int} {xs : List Tb} : ∀ {a e e' : Nat}, chain log blk a xs e → chain log blk a xs e' → e = e' := by
  induction xs with
  | nil => intro a e e' h h'; exact (show e = a from h).trans (show e' = a from h').symm
  | cons x xs ih => intro a e e' h h'; exact ih h.2.2 h'.2.2
theorem saids_take_eq (a i : Nat) (es : List Ent) (j : Nat) : saids a i (es.take j) = (saids a i es).take j := by
  induction es generalizing i j with
  | nil => simp [saids]
  | cons e es ih =>
    cases j with
    | zero => simp [saids]
    | succ j => simp [saids, ih]
/-- What is said up to some entry of a block. -/
def upto (pre : List Tb) (a : Nat) (es : List Ent) (j : Nat) : List Sd := sds pre ++ saids a 0 (es.take j)
theorem upto_zero (pre : List Tb) (a : Nat) (es : List Ent) : upto pre a es 0 = sds pre := by simp [upto, saids]
theorem upto_all (pre : List Tb) (a : Nat) (v : Value) (es : List Ent) (k : Nat) : upto pre a es es.length = sds (pre ++ [⟨a, v, es, k⟩]) := by
  rw [upto, List.take_length, sds_snoc]; rfl
theorem upto_succ {pre : List Tb} {a : Nat} {es : List Ent} {j : Nat} (h : j < es.length) : upto pre a es (j + 1) = upto pre a es j ++ [⟨es[j].put, es[j].key, es[j].val, a, j⟩] := by
  rw [upto, saids_take h, upto, List.append_assoc]
theorem upto_length {pre : List Tb} {a : Nat} {es : List Ent} {j : Nat} (h : j ≤ es.length) : (upto pre a es j).length = (sds pre).length + j := by
  rw [upto, List.length_append, saids_length, List.length_take, Nat.min_eq_left h]
theorem upto_fine {log : List UInt8} {blk : Int} {pre : List Tb} {a e : Nat} {es : List Ent} {k : Nat} (hl : log.length ≤ 100000) (h : chain log blk 14 pre e) (ha : a = e) (hb : blockP log e blk = some (es, k)) (j : Nat) :
    (upto pre a es j).Pairwise placeLt ∧ ∀ y ∈ upto pre a es j, (y.blk < 4294967296 ∧ y.no < 4294967296) ∧ y.key.length ≤ 20 := by
  have hc := chain_snoc (x := ⟨a, .bool true, es, k⟩) h ha hb
  obtain ⟨c1, c2, c3, c4, c5⟩ := chain_rise hc
  have hbs := blockP_some hb
  have hsub : (upto pre a es j).Sublist (sds (pre ++ [⟨a, .bool true, es, k⟩])) := by
    rw [sds_snoc, upto, saids_take_eq]
    exact (List.Sublist.refl _).append (List.take_sublist _ _)
  refine ⟨c1.sublist hsub, fun y hy => ?_⟩
  have := c2 y (hsub.subset hy)
  have : e + k ≤ log.length := hbs.2.2.2.2.2
  refine ⟨⟨?_, ?_⟩, by omega⟩ <;> simp at * <;> omega

/-- What a log says, or nothing. -/
def saidS (log : List UInt8) : Option (List Sd) :=
  if 100000 < log.length then none
  else if headB log = false then none
  else if (readL log (hdBlk log) 14).2 < log.length then none
  else if 2000 < (liveL (readL log (hdBlk log) 14).1).length then none
  else some (liveL (readL log (hdBlk log) 14).1)
theorem indexS_said (log : List UInt8) : indexS log = (saidS log).map (indexB log (hdSeed log) (hdBits log)) := by
  unfold indexS saidS
  split
  · rfl
  · split
    · rfl
    · split
      · rfl
      · split <;> rfl
def SaidIs (w w' : World) (log : List UInt8) (v : Value) : Prop :=
  match saidS log with
  | none => v = .tuple #[.agg #[.int .i64 0, .int .i64 0, .int .i64 0, .map none, .map none], .bool false]
  | some L => ∃ bi bp n, v = .tuple #[.agg #[.int .i64 (hdBlk log), .int .i64 (hdSeed log), .int .i64 (hdBits log), .map (some bi), .map (some bp)], .bool true] ∧ Maps2 w' bi bp n L ∧ w.heap.size ≤ bi

theorem headV_ok {l : List UInt8} (h : headB l = true) : headV l = .agg #[.int .i64 (hdBlk l), .int .i64 (hdSeed l), .int .i64 (hdBits l)] := by rw [headV, if_pos h]

/-- The world in which the loop begins, and what lies there. -/
def rdWorld (w1 : World) (log : ByteArray) (blk seed bits : Nat) : World :=
  ((((((w1.alloc (.cells #[.int .i64 blk, .int .i64 seed, .int .i64 bits] 29)).alloc (.map #[] 0)).alloc (.map #[] 0)).alloc (.cells #[.int .i64 blk, .int .i64 seed, .int .i64 bits, .map (some (w1.heap.size + 1)), .map (some (w1.heap.size + 1 + 1))] 100)).alloc (.cells #[.int .i64 14] 3)).alloc (.cells #[.string log] 9)).alloc (.cells #[.int .i64 blk, .int .i64 seed, .int .i64 bits] 29)
structure RdW (w : World) (z : Nat) (log : ByteArray) (blk seed bits : Nat) (W : World) : Prop where
  r : Bx W w.heap.size #[.int .i64 0, .int .i64 0, .int .i64 0, .map none, .map none] 100
  s : Bx W (z + 1 + 1 + 1) #[.int .i64 blk, .int .i64 seed, .int .i64 bits, .map (some (z + 1)), .map (some (z + 1 + 1))] 100
  e : Bx W (z + 1 + 1 + 1 + 1) #[.int .i64 14] 3
  l : Bx W (z + 1 + 1 + 1 + 1 + 1) #[.string log] 9
  c : Bx W (z + 1 + 1 + 1 + 1 + 1 + 1) #[.int .i64 blk, .int .i64 seed, .int .i64 bits] 29
  m : Maps2 W (z + 1) (z + 1 + 1) 0 []
  b : Below w.heap.size w W
  h : HalvesAt W
  size : W.heap.size = z + 7
theorem rdW_new (w w1 : World) (log : ByteArray) (blk seed bits : Nat) (r0 : Bx w1 w.heap.size #[.int .i64 0, .int .i64 0, .int .i64 0, .map none, .map none] 100) (hB : Below w.heap.size w w1) (hH : HalvesAt w1) (hz : w.heap.size < w1.heap.size) : RdW w w1.heap.size log blk seed bits (rdWorld w1 log blk seed bits) := by
  unfold rdWorld
  obtain ⟨z, hzz⟩ : ∃ z, w1.heap.size = z := ⟨_, rfl⟩
  rw [hzz]
  have m2 : Maps2 (((w1.alloc (.cells #[.int .i64 blk, .int .i64 seed, .int .i64 bits] 29)).alloc (.map #[] 0)).alloc (.map #[] 0)) (z + 1) (z + 1 + 1) 0 [] := by
    have := maps2_new (w1.alloc (.cells #[.int .i64 blk, .int .i64 seed, .int .i64 bits] 29))
    rwa [World.size_alloc, hzz] at this
  have r1 := ((r0.alloc (.cells #[.int .i64 blk, .int .i64 seed, .int .i64 bits] 29)).alloc (.map #[] 0)).alloc (.map #[] 0)
  have b1 : Below w.heap.size w (((w1.alloc (.cells #[.int .i64 blk, .int .i64 seed, .int .i64 bits] 29)).alloc (.map #[] 0)).alloc (.map #[] 0)) := ((hB.alloc (by omega) _).alloc (by rw [World.size_alloc]; omega) _).alloc (by rw [World.size_alloc, World.size_alloc]; omega) _
  have h1 : HalvesAt (((w1.alloc (.cells #[.int .i64 blk, .int .i64 seed, .int .i64 bits] 29)).alloc (.map #[] 0)).alloc (.map #[] 0)) := by
    refine hH.below ((((Below.refl w1.heap.size w1).alloc (Nat.le_refl _) _).alloc ?_ _).alloc ?_ _) hH.1
    · rw [World.size_alloc]; omega
    · rw [World.size_alloc, World.size_alloc]; omega
  have z1 : (((w1.alloc (.cells #[.int .i64 blk, .int .i64 seed, .int .i64 bits] 29)).alloc (.map #[] 0)).alloc (.map #[] 0)).heap.size = z + 1 + 1 + 1 := by rw [World.size_alloc, World.size_alloc, World.size_alloc, hzz]
  generalize ((w1.alloc (.cells #[.int .i64 (blk : Int), .int .i64 (seed : Int), .int .i64 (bits : Int)] 29)).alloc (.map #[] 0)).alloc (.map #[] 0) = X at *
  have s1 := bx_new X #[.int .i64 (blk : Int), .int .i64 (seed : Int), .int .i64 (bits : Int), .map (some (z + 1)), .map (some (z + 1 + 1))] 100 z1.symm
  have z2 : (X.alloc (.cells #[.int .i64 (blk : Int), .int .i64 (seed : Int), .int .i64 (bits : Int), .map (some (z + 1)), .map (some (z + 1 + 1))] 100)).heap.size = z + 1 + 1 + 1 + 1 := by rw [World.size_alloc, z1]
  have b2 := b1.alloc (by omega) (.cells #[.int .i64 (blk : Int), .int .i64 (seed : Int), .int .i64 (bits : Int), .map (some (z + 1)), .map (some (z + 1 + 1))] 100)
  have h2 : HalvesAt (X.alloc (.cells #[.int .i64 (blk : Int), .int .i64 (seed : Int), .int .i64 (bits : Int), .map (some (z + 1)), .map (some (z + 1 + 1))] 100)) := h1.below ((Below.refl _ X).alloc (Nat.le_refl _) _) h1.1
  have r2 := r1.alloc (.cells #[.int .i64 (blk : Int), .int .i64 (seed : Int), .int .i64 (bits : Int), .map (some (z + 1)), .map (some (z + 1 + 1))] 100)
  have m3 := m2.alloc (.cells #[.int .i64 (blk : Int), .int .i64 (seed : Int), .int .i64 (bits : Int), .map (some (z + 1)), .map (some (z + 1 + 1))] 100)
  generalize X.alloc (.cells #[.int .i64 (blk : Int), .int .i64 (seed : Int), .int .i64 (bits : Int), .map (some (z + 1)), .map (some (z + 1 + 1))] 100) = Y at *
  have e1 := bx_new Y #[.int .i64 14] 3 z2.symm
  have z3 : (Y.alloc (.cells #[.int .i64 14] 3)).heap.size = z + 1 + 1 + 1 + 1 + 1 := by rw [World.size_alloc, z2]
  have l1 := bx_new (Y.alloc (.cells #[.int .i64 14] 3)) #[.string log] 9 z3.symm
  have z4 : ((Y.alloc (.cells #[.int .i64 14] 3)).alloc (.cells #[.string log] 9)).heap.size = z + 1 + 1 + 1 + 1 + 1 + 1 := by rw [World.size_alloc, z3]
  refine ⟨((r2.alloc _).alloc _).alloc _, ((s1.alloc _).alloc _).alloc _, (e1.alloc _).alloc _, l1.alloc _, bx_new _ _ _ z4.symm, ((m3.alloc _).alloc _).alloc _, ((b2.alloc (by omega) _).alloc (by omega) _).alloc (by omega) _, ?_, by rw [World.size_alloc, z4]⟩
  exact h2.below ((((Below.refl Y.heap.size Y).alloc (Nat.le_refl _) _).alloc (by omega) _).alloc (by omega) _) h2.1
end Go.Proofs.YtdhgebdbiehchaaGreatDoor
