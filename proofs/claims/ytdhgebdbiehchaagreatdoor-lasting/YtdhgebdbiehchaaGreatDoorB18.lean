/- On the way: RecRead, RecRead2, RecWhole. -/
import Derived.Test.YtdhgebdbiehchaaGreatDoorB17
import Derived.Test.YtdhgebdbiehchaaGreatDoorB14
import Derived.RangeFuncBox
namespace Go.Proofs.YtdhgebdbiehchaaGreatDoor
open Go.RowKit Go.Shelf Go.Maps
set_option linter.unusedSimpArgs false
set_option linter.unusedVariables false
set_option maxRecDepth 100000
set_option maxHeartbeats 3200000
attribute [local go_sem] Oper.semAt_some
def Bx (W : World) (b : Nat) (cs : Array Value) (t : TypeId) : Prop := W.heap[b]? = some (.cells cs t (0,0))
theorem Bx.cell {W : World} {b : Nat} {cs : Array Value} {t : TypeId} (h : Bx W b cs t) {j : Nat} {u : Value} (hu : cs[j]? = some u) : W.cell? ⟨b,j,none⟩ = some u := (cell_of_row W b j cs t _ h).trans hu
theorem Bx.frozen {W : World} {b : Nat} {cs : Array Value} {t : TypeId} (h : Bx W b cs t) (j : Nat) : W.frozen? ⟨b,j,none⟩ = false := by
 have h' : W.heap[b]? = some (.cells cs t (0,0)) := h
 simp [World.frozen?,h']
theorem Bx.lt {W : World} {b : Nat} {cs : Array Value} {t : TypeId} (h : Bx W b cs t) : b < W.heap.size := (Array.getElem?_eq_some_iff.1 h).1
theorem Bx.alloc {W : World} {b : Nat} {cs : Array Value} {t : TypeId} (h : Bx W b cs t) (o : Obj) : Bx (W.alloc o) b cs t := (Below.heap_alloc W o b h.lt).trans h
theorem Bx.below {W W' : World} {b n : Nat} {cs : Array Value} {t : TypeId} (h : Bx W b cs t) (hb : Below n W W') (hn : b < n) : Bx W' b cs t := (hb.block b hn).trans h
theorem Bx.turn {W W' : World} {b bi bp : Nat} {cs : Array Value} {t : TypeId} (h : Bx W b cs t) (ht : Turn2 bi bp W W') (h1 : b ≠ bi) (h2 : b ≠ bp) : Bx W' b cs t := (ht.block b h.lt h1 h2).trans h
theorem bx_new (W : World) (cs : Array Value) (t : TypeId) {b : Nat} (hb : b = W.heap.size) : Bx (W.alloc (.cells cs t)) b cs t := by subst hb; exact (MapKept.heap_alloc W _).1
theorem Bx.kept {W W' : World} {b : Nat} {cs : Array Value} {t : TypeId} (h : Bx W b cs t) {row : Option Nat} (hg : W.grownBy W' row) (hr : ∀ r,row = some r -> ∃ o : Obj,W.heap[r]? = some o /\ o.isCells = false) : Bx W' b cs t :=
 (hg.block b h.lt (fun e => by obtain ⟨o,ho,hc⟩ := hr b e.symm; rw [show W.heap[b]? = _ from h] at ho; cases ho; cases hc)).trans h
theorem Bx.other {W : World} {b b' j : Nat} {cs : Array Value} {t : TypeId} (h : Bx W b cs t) (hne : b ≠ b') (u : Value) : Bx (W.setCell ⟨b',j,none⟩ u) b cs t := (Below.heap_setCell W ⟨b',j,none⟩ u b hne).trans h
theorem Bx.set1 {W : World} {b : Nat} {v : Value} {t : TypeId} (h : Bx W b #[v] t) (u : Value) : Bx (W.setCell ⟨b,0,none⟩ u) b #[u] t := by
 obtain ⟨hlt,hk⟩ := Array.getElem?_eq_some_iff.1 h
 show (W.heap.modify b _)[b]? = _
 rw [Array.getElem?_eq_getElem (by rw [Array.size_modify]; exact hlt),Array.getElem_modify_self,hk]
 rfl
theorem Bx.setj {W : World} {b : Nat} {cs : Array Value} {t : TypeId} (h : Bx W b cs t) (j : Nat) (u : Value) : Bx (W.setCell ⟨b,j,none⟩ u) b (cs.setIfInBounds j u) t := by
 obtain ⟨hlt,hk⟩ := Array.getElem?_eq_some_iff.1 h
 show (W.heap.modify b _)[b]? = _
 rw [Array.getElem?_eq_getElem (by rw [Array.size_modify]; exact hlt),Array.getElem_modify_self,hk]
 try rfl
theorem Bx.set5 {W : World} {b : Nat} {a0 a1 a2 a3 a4 : Value} {t : TypeId} (h : Bx W b #[a0,a1,a2,a3,a4] t) (v0 v1 v2 v3 v4 : Value) :
  Bx (((((W.setCell ⟨b,0,none⟩ v0).setCell ⟨b,1,none⟩ v1).setCell ⟨b,2,none⟩ v2).setCell ⟨b,3,none⟩ v3).setCell ⟨b,4,none⟩ v4) b #[v0,v1,v2,v3,v4] t :=
 ((((h.setj 0 v0).setj 1 v1).setj 2 v2).setj 3 v3).setj 4 v4
theorem grown_setB (W : World) (b j : Nat) (v : Value) : W.grownBy (W.setCell ⟨b,j,none⟩ v) (some b) :=
 ⟨rfl,rfl,rfl,by simp [World.setCell],fun k _ hk => Below.heap_setCell _ _ _ k (fun e => hk (by rw [e]))⟩
theorem grown_trans {X Y Z : World} {b : Option Nat} (h : X.grownBy Y b) (k : Y.grownBy Z b) : X.grownBy Z b :=
 ⟨k.os.trans h.os,k.tape.trans h.tape,k.output.trans h.output,Nat.le_trans h.size k.size,fun i hi hb => (k.block i (Nat.lt_of_lt_of_le hi h.size) hb).trans (h.block i hi hb)⟩
theorem grown_set5 (W : World) (b : Nat) (v0 v1 v2 v3 v4 : Value) : W.grownBy (((((W.setCell ⟨b,0,none⟩ v0).setCell ⟨b,1,none⟩ v1).setCell ⟨b,2,none⟩ v2).setCell ⟨b,3,none⟩ v3).setCell ⟨b,4,none⟩ v4) (some b) :=
 grown_trans (grown_trans (grown_trans (grown_trans (grown_setB W b 0 v0) (grown_setB _ b 1 v1)) (grown_setB _ b 2 v2)) (grown_setB _ b 3 v3)) (grown_setB _ b 4 v4)
theorem Maps2.isMap {W : World} {bi bp n : Nat} {L : List Sd} (h : Maps2 W bi bp n L) : (∀ o,W.heap[bi]? = some o -> o.isCells = false) /\ (∀ o,W.heap[bp]? = some o -> o.isCells = false) := by
 obtain ⟨DI,DP,⟨h1,_⟩,h4,_⟩ := h
 obtain ⟨es,ck,hb,_⟩ := h1
 obtain ⟨es',ck',hb',_⟩ := h4
 exact ⟨fun o ho => by rw [hb] at ho; cases ho; rfl,fun o ho => by rw [hb'] at ho; cases ho; rfl⟩
theorem Turn2.cellsBut {W W' : World} {bi bp n b : Nat} {L : List Sd} (h : Turn2 bi bp W W') (hm : Maps2 W bi bp n L) : CellsBut b W W' :=
 ⟨h.size,fun k o _ hk ho => (h.block k (Array.getElem?_eq_some_iff.1 hk).1 (fun e => by subst e; rw [hm.isMap.1 o hk] at ho; cases ho) (fun e => by subst e; rw [hm.isMap.2 o hk] at ho; cases ho)).trans hk⟩
theorem Turn2.keepsFrom {W W' : World} {bi bp B : Nat} (h : Turn2 bi bp W W') (h1 : bi < B) (h2 : bp < B) : KeepsFrom B W W' :=
 ⟨h.size,fun k o hB hk _ => (h.block k (Array.getElem?_eq_some_iff.1 hk).1 (by omega) (by omega)).trans hk⟩
theorem chain_fun {log : List UInt8} {blk : Int} {xs : List Tb} : ∀ {a e e' : Nat},chain log blk a xs e -> chain log blk a xs e' -> e = e' := by
 induction xs with
 | nil => intro a e e' h h'; exact (show e = a from h).trans (show e' = a from h').symm
 | cons x xs ih => intro a e e' h h'; exact ih h.2.2 h'.2.2
theorem saids_take_eq (a i : Nat) (es : List Ent) (j : Nat) : saids a i (es.take j) = (saids a i es).take j := by
 induction es generalizing i j with
 | nil => simp [saids]
 | cons e es ih =>
  cases j with
  | zero => simp [saids]
  | succ j => simp [saids,ih]
def upto (pre : List Tb) (a : Nat) (es : List Ent) (j : Nat) : List Sd := sds pre ++ saids a 0 (es.take j)
theorem upto_zero (pre : List Tb) (a : Nat) (es : List Ent) : upto pre a es 0 = sds pre := by simp [upto,saids]
theorem upto_all (pre : List Tb) (a : Nat) (v : Value) (es : List Ent) (k : Nat) : upto pre a es es.length = sds (pre ++ [⟨a,v,es,k⟩]) := by
 rw [upto,List.take_length,sds_snoc]; rfl
theorem upto_succ {pre : List Tb} {a : Nat} {es : List Ent} {j : Nat} (h : j < es.length) : upto pre a es (j + 1) = upto pre a es j ++ [⟨es[j].put,es[j].key,es[j].val,a,j⟩] := by
 rw [upto,saids_take h,upto,List.append_assoc]
theorem upto_length {pre : List Tb} {a : Nat} {es : List Ent} {j : Nat} (h : j <= es.length) : (upto pre a es j).length = (sds pre).length + j := by
 rw [upto,List.length_append,saids_length,List.length_take,Nat.min_eq_left h]
theorem upto_fine {log : List UInt8} {blk : Int} {pre : List Tb} {a e : Nat} {es : List Ent} {k : Nat} (hl : log.length <= 100000) (h : chain log blk 14 pre e) (ha : a = e) (hb : blockP log e blk = some (es,k)) (j : Nat) :
  (upto pre a es j).Pairwise placeLt /\ ∀ y ∈ upto pre a es j,(y.blk < 4294967296 /\ y.no < 4294967296) /\ y.key.length <= 20 := by
 have hc := chain_snoc (x := ⟨a,.bool true,es,k⟩) h ha hb
 obtain ⟨c1,c2,c3,c4,c5⟩ := chain_rise hc
 have hbs := blockP_some hb
 have hsub : (upto pre a es j).Sublist (sds (pre ++ [⟨a,.bool true,es,k⟩])) := by
  rw [sds_snoc,upto,saids_take_eq]
  exact (List.Sublist.refl _).append (List.take_sublist _ _)
 refine ⟨c1.sublist hsub,fun y hy => ?_⟩
 have := c2 y (hsub.subset hy)
 have : e + k <= log.length := hbs.2.2.2.2.2
 refine ⟨⟨?_,?_⟩,by omega⟩ <;> simp at * <;> omega
def saidS (log : List UInt8) : Option (List Sd) :=
 if 100000 < log.length then none
 else if headB log = false then none
 else if (readL log (hdBlk log) 14).2 < log.length then none
 else if 2000 < (liveL (readL log (hdBlk log) 14).1).length then none
 else some (liveL (readL log (hdBlk log) 14).1)
theorem indexS_said (log : List UInt8) : indexS log = (saidS log).map (indexB log (hdSeed log) (hdBits log)) := by
 unfold indexS saidS
 split
 ·rfl
 ·split
  ·rfl
  ·split
   ·rfl
   ·split <;> rfl
def SaidIs (w w' : World) (log : List UInt8) (v : Value) : Prop :=
 match saidS log with
 | none => v = .tuple #[.agg #[.int .i64 0,.int .i64 0,.int .i64 0,.map none,.map none],.bool false]
 | some L => ∃ bi bp n,v = .tuple #[.agg #[.int .i64 (hdBlk log),.int .i64 (hdSeed log),.int .i64 (hdBits log),.map (some bi),.map (some bp)],.bool true] /\ Maps2 w' bi bp n L /\ w.heap.size <= bi
theorem headV_ok {l : List UInt8} (h : headB l = true) : headV l = .agg #[.int .i64 (hdBlk l),.int .i64 (hdSeed l),.int .i64 (hdBits l)] := by rw [headV,if_pos h]
def rdWorld (w1 : World) (log : ByteArray) (blk seed bits : Nat) : World :=
 ((((((w1.alloc (.cells #[.int .i64 blk,.int .i64 seed,.int .i64 bits] 29)).alloc (.map #[] 0)).alloc (.map #[] 0)).alloc (.cells #[.int .i64 blk,.int .i64 seed,.int .i64 bits,.map (some (w1.heap.size + 1)),.map (some (w1.heap.size + 1 + 1))] 100)).alloc (.cells #[.int .i64 14] 3)).alloc (.cells #[.string log] 9)).alloc (.cells #[.int .i64 blk,.int .i64 seed,.int .i64 bits] 29)
structure RdW (w : World) (z : Nat) (log : ByteArray) (blk seed bits : Nat) (W : World) : Prop where
 r : Bx W w.heap.size #[.int .i64 0,.int .i64 0,.int .i64 0,.map none,.map none] 100
 s : Bx W (z + 1 + 1 + 1) #[.int .i64 blk,.int .i64 seed,.int .i64 bits,.map (some (z + 1)),.map (some (z + 1 + 1))] 100
 e : Bx W (z + 1 + 1 + 1 + 1) #[.int .i64 14] 3
 l : Bx W (z + 1 + 1 + 1 + 1 + 1) #[.string log] 9
 c : Bx W (z + 1 + 1 + 1 + 1 + 1 + 1) #[.int .i64 blk,.int .i64 seed,.int .i64 bits] 29
 m : Maps2 W (z + 1) (z + 1 + 1) 0 []
 b : Below w.heap.size w W
 h : HalvesAt W
 size : W.heap.size = z + 7
theorem rdW_new (w w1 : World) (log : ByteArray) (blk seed bits : Nat) (r0 : Bx w1 w.heap.size #[.int .i64 0,.int .i64 0,.int .i64 0,.map none,.map none] 100) (hB : Below w.heap.size w w1) (hH : HalvesAt w1) (hz : w.heap.size < w1.heap.size) : RdW w w1.heap.size log blk seed bits (rdWorld w1 log blk seed bits) := by
 unfold rdWorld
 obtain ⟨z,hzz⟩ : ∃ z,w1.heap.size = z := ⟨_,rfl⟩
 rw [hzz]
 have m2 : Maps2 (((w1.alloc (.cells #[.int .i64 blk,.int .i64 seed,.int .i64 bits] 29)).alloc (.map #[] 0)).alloc (.map #[] 0)) (z + 1) (z + 1 + 1) 0 [] := by
  have := maps2_new (w1.alloc (.cells #[.int .i64 blk,.int .i64 seed,.int .i64 bits] 29))
  rwa [World.size_alloc,hzz] at this
 have r1 := ((r0.alloc (.cells #[.int .i64 blk,.int .i64 seed,.int .i64 bits] 29)).alloc (.map #[] 0)).alloc (.map #[] 0)
 have b1 : Below w.heap.size w (((w1.alloc (.cells #[.int .i64 blk,.int .i64 seed,.int .i64 bits] 29)).alloc (.map #[] 0)).alloc (.map #[] 0)) := ((hB.alloc (by omega) _).alloc (by rw [World.size_alloc]; omega) _).alloc (by rw [World.size_alloc,World.size_alloc]; omega) _
 have h1 : HalvesAt (((w1.alloc (.cells #[.int .i64 blk,.int .i64 seed,.int .i64 bits] 29)).alloc (.map #[] 0)).alloc (.map #[] 0)) := by
  refine hH.below ((((Below.refl w1.heap.size w1).alloc (Nat.le_refl _) _).alloc ?_ _).alloc ?_ _) hH.1
  ·rw [World.size_alloc]; omega
  ·rw [World.size_alloc,World.size_alloc]; omega
 have z1 : (((w1.alloc (.cells #[.int .i64 blk,.int .i64 seed,.int .i64 bits] 29)).alloc (.map #[] 0)).alloc (.map #[] 0)).heap.size = z + 1 + 1 + 1 := by rw [World.size_alloc,World.size_alloc,World.size_alloc,hzz]
 generalize ((w1.alloc (.cells #[.int .i64 (blk : Int),.int .i64 (seed : Int),.int .i64 (bits : Int)] 29)).alloc (.map #[] 0)).alloc (.map #[] 0) = X at *
 have s1 := bx_new X #[.int .i64 (blk : Int),.int .i64 (seed : Int),.int .i64 (bits : Int),.map (some (z + 1)),.map (some (z + 1 + 1))] 100 z1.symm
 have z2 : (X.alloc (.cells #[.int .i64 (blk : Int),.int .i64 (seed : Int),.int .i64 (bits : Int),.map (some (z + 1)),.map (some (z + 1 + 1))] 100)).heap.size = z + 1 + 1 + 1 + 1 := by rw [World.size_alloc,z1]
 have b2 := b1.alloc (by omega) (.cells #[.int .i64 (blk : Int),.int .i64 (seed : Int),.int .i64 (bits : Int),.map (some (z + 1)),.map (some (z + 1 + 1))] 100)
 have h2 : HalvesAt (X.alloc (.cells #[.int .i64 (blk : Int),.int .i64 (seed : Int),.int .i64 (bits : Int),.map (some (z + 1)),.map (some (z + 1 + 1))] 100)) := h1.below ((Below.refl _ X).alloc (Nat.le_refl _) _) h1.1
 have r2 := r1.alloc (.cells #[.int .i64 (blk : Int),.int .i64 (seed : Int),.int .i64 (bits : Int),.map (some (z + 1)),.map (some (z + 1 + 1))] 100)
 have m3 := m2.alloc (.cells #[.int .i64 (blk : Int),.int .i64 (seed : Int),.int .i64 (bits : Int),.map (some (z + 1)),.map (some (z + 1 + 1))] 100)
 generalize X.alloc (.cells #[.int .i64 (blk : Int),.int .i64 (seed : Int),.int .i64 (bits : Int),.map (some (z + 1)),.map (some (z + 1 + 1))] 100) = Y at *
 have e1 := bx_new Y #[.int .i64 14] 3 z2.symm
 have z3 : (Y.alloc (.cells #[.int .i64 14] 3)).heap.size = z + 1 + 1 + 1 + 1 + 1 := by rw [World.size_alloc,z2]
 have l1 := bx_new (Y.alloc (.cells #[.int .i64 14] 3)) #[.string log] 9 z3.symm
 have z4 : ((Y.alloc (.cells #[.int .i64 14] 3)).alloc (.cells #[.string log] 9)).heap.size = z + 1 + 1 + 1 + 1 + 1 + 1 := by rw [World.size_alloc,z3]
 refine ⟨((r2.alloc _).alloc _).alloc _,((s1.alloc _).alloc _).alloc _,(e1.alloc _).alloc _,l1.alloc _,bx_new _ _ _ z4.symm,((m3.alloc _).alloc _).alloc _,((b2.alloc (by omega) _).alloc (by omega) _).alloc (by omega) _,?_,by rw [World.size_alloc,z4]⟩
 exact h2.below ((((Below.refl Y.heap.size Y).alloc (Nat.le_refl _) _).alloc (by omega) _).alloc (by omega) _) h2.1
attribute [local go_sem] Oper.semAt_some
def RdI (w : World) (z : Nat) (log : List UInt8) (blk seed bits : Nat) (pre : List Tb) (W : World) : Prop :=
 Bx W w.heap.size #[.int .i64 0,.int .i64 0,.int .i64 0,.map none,.map none] 100 /\
 Bx W (z + 1 + 1 + 1) #[.int .i64 blk,.int .i64 seed,.int .i64 bits,.map (some (z + 1)),.map (some (z + 1 + 1))] 100 /\
 (∃ e,chain log blk 14 pre e /\ Bx W (z + 1 + 1 + 1 + 1) #[.int .i64 (e : Nat)] 3) /\
 Maps2 W (z + 1) (z + 1 + 1) (sds pre).length (liveL (sds pre)) /\ Below w.heap.size w W /\ z + 7 <= W.heap.size
theorem rdI_own (w : World) (z : Nat) (log : List UInt8) (blk seed bits : Nat) (B : Nat) (hz : w.heap.size <= z) (hB : z + 7 <= B) : OwnFrom B (RdI w z log blk seed bits) := by
 rintro s X Y row ⟨h1,h2,⟨e,h3,h4⟩,h5,h6,h7⟩ hg hr
 have hr' := fun r e => (hr r e).2
 refine ⟨h1.kept hg hr',h2.kept hg hr',⟨e,h3,h4.kept hg hr'⟩,h5.kept hg ?_ ?_,h6.grown hg h6.size (fun k e => ?_),Nat.le_trans h7 hg.size⟩
 ·intro e; have := (hr _ e.symm).1; omega
 ·intro e; have := (hr _ e.symm).1; omega
 ·have := (hr k e).1; omega
theorem told_own (log : List UInt8) (blk : Int) (base B : Nat) (pre : List Tb) (x : Tb) : OwnFrom B (fun (_ : Unit) W => Told log blk base pre x W) := by
 rintro _ X Y row ⟨h1,h2⟩ hg hr
 refine ⟨h1,h2.kept hg ?_⟩
 rcases h2.2 with ⟨e,_⟩ | ⟨g,cap,cur,e,_,hgb,_⟩
 ·exact .inl (by rw [e]; rfl)
 ·refine .inr fun e' => ?_
  rw [e] at e'
  obtain ⟨_,o,ho,hc⟩ := hr g (by simpa [Value.ownBlock] using e'.symm)
  rw [hgb] at ho; cases ho; cases hc
def rdAct (log : ByteArray) (blk seed bits zr z a bx : Nat) (v : Value) (k : Nat) : Act :=
 { tmps := #[.string log,undef,.pointer (some ⟨zr,0,none⟩),.bool false,.pointer (some ⟨z,0,none⟩),.bool true,.pointer (some ⟨z + 1 + 1 + 1,0,none⟩),.pointer (some ⟨z + 1 + 1 + 1 + 1,0,none⟩),.int .i64 a,.pointer (some ⟨bx,0,none⟩),undef,undef,
   .string log,.int .i64 log.size,.bool (decide (100000 < (log.size : Int))),undef,.tuple #[.agg #[.int .i64 blk,.int .i64 seed,.int .i64 bits],.bool true],.string log,.tuple #[.agg #[.int .i64 blk,.int .i64 seed,.int .i64 bits],.bool true],.agg #[.int .i64 blk,.int .i64 seed,.int .i64 bits],.bool true,.bool true,.bool false,undef,.agg #[.int .i64 blk,.int .i64 seed,.int .i64 bits],
   .map (some (z + 1)),.map (some (z + 1 + 1)),.agg #[.int .i64 blk,.int .i64 seed,.int .i64 bits,.map (some (z + 1)),.map (some (z + 1 + 1))],.string log,.agg #[.int .i64 blk,.int .i64 seed,.int .i64 bits],.func (.func 146) #[] #[.pointer (some ⟨z + 1 + 1 + 1 + 1 + 1,0,none⟩),.pointer (some ⟨z + 1 + 1 + 1 + 1 + 1 + 1,0,none⟩)],.int .i64 a,.agg #[v,.int .i64 k],
   undef,undef,undef,undef,undef,undef,undef,undef,undef,undef,undef,undef,undef,undef,undef,undef,undef,undef,undef,undef,undef,undef,undef,undef,undef,undef,undef,undef,undef,undef,undef],defers := [] }
theorem read_in (n : Nat) (hn : 6 <= n) (log : ByteArray) (hlog : log.size <= 100000) (w : World) (hH : HalvesAt w) (hhead : headB log.data.toList = true) :
  CallsIn Fence.wide n Tryz.prog 51 #[.string log] w fun e w' => ∃ v,e = .returned v /\ SaidIs w w' log.data.toList v /\ Below w.heap.size w w' := by
 have h1 : 1 <= n := by omega
 have hlen : log.data.toList.length = log.size := by simp
 have hmm := @run_makeMap Tryz.prog
 have f1 : Fence.wide.fn 87 := trivial
 have f2 : Fence.wide.fn 88 := trivial
 have hHX : HalvesAt (w.alloc (.cells #[.int .i64 0,.int .i64 0,.int .i64 0,.map none,.map none] 100)) := hH.below ((Below.refl _ w).alloc (Nat.le_refl _) _) hH.1
 have HRH : Hid _ := readHead_any log _ (by omega) hHX
 have HH : Hid (HalvesAt w) := hH
 have HS : Hid (∀ W' v,SaidIs w W' log.data.toList v = SaidIs w W' log.data.toList v) := fun _ _ => rfl
 clear hH hHX
 refine callsIn_of_wp_marks Tryz.func51 rfl trivial ?_ rfl
 simp only [Tryz.ntmps51,List.size_toArray,List.length_cons,List.length_nil,Nat.reduceAdd,Nat.reduceSub,Array.replicate_succ,Array.replicate_zero,List.push_toArray,List.append_toArray,List.nil_append,List.cons_append]
 gi_wp2_with fail
 refine (callsIn_wide.2 HRH.out).mono ?_
 rintro e w1 ⟨rfl,hb1⟩
 rw [hhead,headV_ok hhead]
 have z1 : w.heap.size < w1.heap.size := by have := hb1.size; rw [World.size_alloc] at this; omega
 have r0 : Bx w1 w.heap.size #[.int .i64 0,.int .i64 0,.int .i64 0,.map none,.map none] 100 := (bx_new w _ _ rfl).below hb1 (by rw [World.size_alloc]; omega)
 have hB1 : Below w.heap.size w w1 := ((Below.refl _ w).alloc (Nat.le_refl _) _).trans (hb1.mono (by rw [World.size_alloc]; omega))
 have hH1 : HalvesAt w1 := HH.out.below hB1 HH.out.1
 have hG : 6 < w1.heap.size := hH1.1
 have HRW : Hid _ := rdW_new w w1 log (hdBlk log.data.toList) (hdSeed log.data.toList) (hdBits log.data.toList) r0 hB1 hH1 z1
 generalize hblk : hdBlk log.data.toList = blk at *
 generalize hseed : hdSeed log.data.toList = seed at *
 generalize hbits : hdBits log.data.toList = bits at *
 have HBLK : Hid _ := hblk
 have HSEED : Hid _ := hseed
 have HBITS : Hid _ := hbits
 clear HRH HH hb1 r0 hB1 hH1 HS hblk hseed hbits
 gi_wp2_with (gi_at_call 88; refine (blocks_in _ _ _ _ _ _).mono ?_; rintro e w' ⟨rfl,rfl⟩)
 change Code.wpIn Fence.wide n Tryz.prog _ _ _ (rdWorld w1 log blk seed bits)
 generalize rdWorld w1 log blk seed bits = V at *
 obtain ⟨r,s,eb,lb,cb,m,b,h,hsz⟩ := HRW.out
 generalize w1.heap.size = z at *
 refine wpIn_rangeTells rfl h1 (gf := 146) (lb := #[.pointer (some ⟨z + 1 + 1 + 1 + 1 + 1,0,none⟩),.pointer (some ⟨z + 1 + 1 + 1 + 1 + 1 + 1,0,none⟩)]) rfl trivial (enters_of Tryz.func146 (by kernel_rfl) rfl)
  (blocks_tells (n - 1) (by omega) log blk seed bits hlog (z + 1 + 1 + 1 + 1 + 1) (z + 1 + 1 + 1 + 1 + 1 + 1) (z + 1 + 1 + 1 + 1) V (lb.cell rfl) (cb.cell rfl) (cb.cell rfl) (cb.cell rfl) (by omega) (by omega) (by omega) (by omega) (by omega) (by omega) h)
  CellsBut.trans (fun W l o o' _ ho hc _ => CellsBut.putObj o' ho hc) (Below.refl _ _) (fun _ => rfl)
  (RdI w z log.data.toList blk seed bits) (rdI_own w z _ _ _ _ _ (by omega) (by omega)) ⟨r,s,⟨14,rfl,eb⟩,m,b,by omega⟩
  (fun pre x a' W => Told log.data.toList blk V.heap.size pre x W /\ ∃ bx,V.heap.size <= bx /\ Bx W bx #[x.v,.int .i64 x.k] 162 /\ a' = rdAct log blk seed bits w.heap.size z x.a bx x.v x.k) ?hAx ?assign ?body ?done
 case hAx =>
  rintro pre x a' _ X Y row ⟨h1,bx,h2,h3,h4⟩ hg hr
  exact ⟨told_own _ _ _ _ _ _ () X Y row h1 hg hr,bx,h2,h3.kept hg (fun r e => (hr r e).2),h4⟩
 case assign =>
  rintro l pre ⟨a,v,es,k⟩ W K hI hP hK
  have hP' := hP
  obtain ⟨⟨e,hch,rfl,hbk⟩,hrow⟩ := hP
  dsimp only at *
  have hbs := blockP_some hbk
  obtain ⟨g,cap,rfl⟩ := Joins.ownsRow_form hrow (by omega)
  simp only [encT]
  gi_wp2
  exact hK _ _ ((KeepsOthers.alloc _ _).from _) (CellsBut.of_below ((Below.refl _ W).alloc (Nat.le_refl _) _)) ((rdI_own w z _ _ _ _ _ (by omega) (by omega) : OwnFrom V.heap.size _).alloc _ hI)
   ⟨⟨hP'.1,hrow.alloc _⟩,W.heap.size,by have := hI.2.2.2.2.2; omega,bx_new W _ _ rfl,rfl⟩
 case body =>
  rintro l pre ⟨a,v,es,k⟩ a' W ⟨bR,bS,⟨e0,hch0,bE⟩,hM,hB,hZ⟩ ⟨⟨⟨e,hch,rfl,hbk⟩,hrow⟩,bx,hbx,bB,rfl⟩
  have hee := chain_fun hch0 hch
  dsimp only at *
  subst hee
  have hbs := blockP_some hbk
  have hfine := upto_fine (by omega) hch rfl hbk
  have hlS := (chain_rise hch).2.2.2.2
  obtain ⟨g,cap,rfl,hg0,hg1,hgc⟩ := own_cellsN hrow (by omega)
  have HGC : Hid _ := hgc
  have x0 := bB.cell (j := 0) rfl
  have x1 := bB.cell (j := 1) rfl
  have h3 : 1 <= n - 1 - 1 := by omega
  clear hgc
  unfold rdAct
  gi_wp2
  gi_loopw [36] (fun i wr => ∃ (j : Nat),j <= es.length /\ i = .int .i64 j /\ Hid (Maps2 wr (z + 1) (z + 1 + 1) ((sds pre).length + j) (liveL (upto pre e0 es j))) /\ Hid (Turn2 (z + 1) (z + 1 + 1) W wr)) (fun i _ => es.length - (intOf i).toNat)
  case atStart => exact ⟨0,Nat.zero_le _,rfl,by show Maps2 _ _ _ _ _; rw [upto_zero]; exact hM,Turn2.refl _ _ _⟩
  case round =>
   obtain ⟨j,hj,rfl,HM,HT⟩ := hrel
   have bS' := bS.turn HT.out (by omega) (by omega)
   have bB' := bB.turn HT.out (by omega) (by omega)
   have s0 := bS'.cell (j := 0) rfl
   have s1 := bS'.cell (j := 1) rfl
   have s2 := bS'.cell (j := 2) rfl
   have s3 := bS'.cell (j := 3) rfl
   have s4 := bS'.cell (j := 4) rfl
   have q1 := bB'.cell (j := 1) rfl
   have zr := HT.out.size
   have n1 : z + 1 + 1 + 1 ≠ wr.heap.size := by omega
   have n2 : wr.heap.size ≠ z + 1 + 1 + 1 := by omega
   have n3 : z + 1 + 1 + 1 < wr.heap.size := by omega
   clear bS' bB'
   by_cases hlt : j < es.length
   ·have hce := cellsE_get hlt
    have gW : g < W.heap.size := hg1
    have y0 := (HT.out.cell (p := ⟨g,j * 3,none⟩) gW (by show g ≠ _; omega) (by show g ≠ _; omega)).trans ((HGC.out (j * 3) (by omega)).trans hce.1)
    have y1 := (HT.out.cell (p := ⟨g,j * 3 + 1,none⟩) gW (by show g ≠ _; omega) (by show g ≠ _; omega)).trans ((HGC.out (j * 3 + 1) (by omega)).trans hce.2.1)
    have y2 := (HT.out.cell (p := ⟨g,j * 3 + 2,none⟩) gW (by show g ≠ _; omega) (by show g ≠ _; omega)).trans ((HGC.out (j * 3 + 2) (by omega)).trans hce.2.2)
    have HU : Hid (upto pre e0 es (j + 1) = upto pre e0 es j ++ [⟨es[j].put,es[j].key,es[j].val,e0,j⟩]) := upto_succ hlt
    have hF := hfine (j + 1)
    rw [HU.out] at hF
    generalize es[j] = en at *
    obtain ⟨put,ky,vl⟩ := en
    dsimp only at *
    have hF0 := (hfine j)
    have hx := hF.2 ⟨put,ky,vl,e0,j⟩ (by simp)
    have hplt : ∀ y ∈ liveL (upto pre e0 es j),placeLt y ⟨put,ky,vl,e0,j⟩ := fun y hy => (List.pairwise_append.1 hF.1).2.2 y (liveL_mem hy).1 _ (by simp)
    have HTK : Hid _ := take_any blk seed bits (z + 1) (z + 1 + 1) ((sds pre).length + j) ⟨put,ky,vl,e0,j⟩ (liveL (upto pre e0 es j)) _ (HM.out.alloc (.cells #[.bool put,.string (S ky),.string (S vl)] 106)) (lives_of hF0.1 (fun y hy => (hF0.2 y hy).1)) hx.1 hplt hx.2 (by omega) (by omega)
    have f3 : (Fence.wide.inRound l).fn 89 := trivial
    clear hF hF0 hx hplt hce
    gi_wp2_with fail
    refine ⟨trivial,(CallsIn.inRound l (callsIn_wide.2 HTK.out)).mono ?_⟩
    rintro e' w2 ⟨rfl,hm2,ht2⟩
    have HM2 : Hid (Maps2 w2 (z + 1) (z + 1 + 1) ((sds pre).length + (j + 1)) (liveL (upto pre e0 es (j + 1)))) := by
     show Maps2 _ _ _ _ _
     rw [HU.out,<- step_live]; exact hm2
    have HT2 : Hid (Turn2 (z + 1) (z + 1 + 1) W w2) := (HT.out.alloc _).trans ht2
    clear HTK hm2 ht2 HU HM HT s0 s1 s2 s3 s4 y0 y1 y2 q1
    gi_wp2
    go_roundw
    case rel => exact ⟨j + 1,by omega,by go_num,HM2,HT2⟩
    case measure => simp [intOf]; omega
   ·have hje : j = es.length := by omega
    subst hje
    have bE' := bE.turn HT.out (by omega) (by omega)
    have t0 := bE'.cell (j := 0) rfl
    have t1 := bE'.frozen 0
    have hk9 : (e0 : Int) + (k : Int) <= 100000 := by omega
    have he0 : (0 : Int) <= (e0 : Int) + (k : Int) := by omega
    gi_wp2
    have hM2 := HM.out
    rw [upto_all pre e0 (.slice (some ⟨g,0,none⟩) es.length cap) es k] at hM2
    have hz4 : (sds pre).length + es.length = (sds (pre ++ [⟨e0,.slice (some ⟨g,0,none⟩) es.length cap,es,k⟩])).length := by
     rw [<- upto_all,upto_length (Nat.le_refl _)]
    rw [hz4] at hM2
    have hgs := grownBy_setCell' wr (z + 1 + 1 + 1 + 1) (.int .i64 ((e0 : Int) + (k : Int)))
    refine ⟨(HT.out.keepsFrom (by omega) (by omega)).trans ((KeepsOthers.setCell _ _ _).from _),(HT.out.cellsBut hM).trans (CellsBut.setCell _ _ _ _),?_⟩
    refine ⟨(bR.turn HT.out (by omega) (by omega)).other (by omega) _,(bS.turn HT.out (by omega) (by omega)).other (by omega) _,⟨e0 + k,chain_snoc hch rfl hbk,?_⟩,hM2.kept hgs (by simp) (by simp),?_,?_⟩
    ·have ec : ((e0 + k : Nat) : Int) = (e0 : Int) + (k : Int) := by omega
     rw [ec]
     exact bE'.set1 _
    ·exact (hB.trans (HT.out.below (by omega) (by omega) (by omega))).setCell (p := ⟨z + 1 + 1 + 1 + 1,0,none⟩) (by show w.heap.size <= z + 1 + 1 + 1 + 1; omega) _
    ·have := hgs.size
     omega
 case done =>
  rintro D xs W hD ⟨e,hch,hnone⟩ ⟨bR,bS,⟨e0,hch0,bE⟩,hM,hB,hZ⟩ hK
  have hee := chain_fun hch0 hch
  subst hee
  have hr := chain_read hch hnone
  have h14 : 14 <= log.data.toList.length := by
   have := hhead
   unfold headB at this
   simp at this
   rw [hlen]
   omega
  have hle := (chain_rise hch).2.2.2.1 h14
  have HSA : Hid (saidS log.data.toList = if e0 < log.size then none else if 2000 < (liveL (sds xs)).length then none else some (liveL (sds xs))) := by
   show _ = _
   unfold saidS
   rw [if_neg (by omega),if_neg (by rw [hhead]; simp),HBLK.out,hr,hlen]
  rw [hlen] at hle
  have t0 := bE.cell (j := 0) rfl
  have s0 := bS.cell (j := 0) rfl
  have s1 := bS.cell (j := 1) rfl
  have s2 := bS.cell (j := 2) rfl
  have s3 := bS.cell (j := 3) rfl
  have s4 := bS.cell (j := 4) rfl
  have q0 := bR.cell (j := 0) rfl
  have q1 := bR.cell (j := 1) rfl
  have q2 := bR.cell (j := 2) rfl
  have q3 := bR.cell (j := 3) rfl
  have q4 := bR.cell (j := 4) rfl
  have p0 := bR.frozen 0
  have p1 := bR.frozen 1
  have p2 := bR.frozen 2
  have p3 := bR.frozen 3
  have p4 := bR.frozen 4
  obtain ⟨DI,DP,⟨hI,vI,zI⟩,hP,vP⟩ := hM
  have hlenI := hI.len Tryz.underlying97 3
  rw [zI] at hlenI
  by_cases hlt : e0 < log.size
  ·have hne : (e0 : Int) ≠ (log.size : Int) := by omega
   rw [if_pos hlt] at HSA
   gi_wp2
   have hX := grown_set5 W w.heap.size (.int .i64 0) (.int .i64 0) (.int .i64 0) (.map none) (.map none)
   have bX := bR.set5 (.int .i64 0) (.int .i64 0) (.int .i64 0) (.map none) (.map none)
   generalize ((((W.setCell ⟨w.heap.size,0,none⟩ (.int .i64 0)).setCell ⟨w.heap.size,1,none⟩ (.int .i64 0)).setCell ⟨w.heap.size,2,none⟩ (.int .i64 0)).setCell ⟨w.heap.size,3,none⟩ (.map none)).setCell ⟨w.heap.size,4,none⟩ (.map none) = X at *
   have hK' : X.heap[D]? = some (.deferred (some [])) := (hX.block D (Array.getElem?_eq_some_iff.1 hK).1 (by simp; omega)).trans hK
   refine ⟨by simp,.inl ⟨_,_,rfl,run_takeDeferred hK',?_⟩⟩
   have bY : Bx (X.putObj D (.deferred none)) w.heap.size #[.int .i64 0,.int .i64 0,.int .i64 0,.map none,.map none] 100 := (World.putObj_heap_other (by omega)).trans bX
   have hBX : Below w.heap.size w X := hB.grown hX hB.size (fun k e => by cases e; exact Nat.le_refl _)
   have hBY := hBX.grown (grownBy_putObj' X D (.deferred none)) hBX.size (fun k e => by cases e; omega)
   refine ⟨.tuple #[.agg #[.int .i64 0,.int .i64 0,.int .i64 0,.map none,.map none],.bool false],?_,_,rfl,?_,hBY⟩
   ·have y0 := bY.cell (j := 0) rfl
    have y1 := bY.cell (j := 1) rfl
    have y2 := bY.cell (j := 2) rfl
    have y3 := bY.cell (j := 3) rfl
    have y4 := bY.cell (j := 4) rfl
    simp [results,Tryz.results51,go_sem,y0,y1,y2,y3,y4]
   ·unfold SaidIs
    rw [HSA.out]
  ·have heq : e0 = log.size := by omega
   subst heq
   rw [if_neg hlt] at HSA
   by_cases h2k : 2000 < (liveL (sds xs)).length
   ·rw [if_pos h2k] at HSA
    have h2k' : (2000 : Int) < ((liveL (sds xs)).length : Int) := by omega
    gi_wp2
    have hX := grown_set5 W w.heap.size (.int .i64 0) (.int .i64 0) (.int .i64 0) (.map none) (.map none)
    have bX := bR.set5 (.int .i64 0) (.int .i64 0) (.int .i64 0) (.map none) (.map none)
    generalize ((((W.setCell ⟨w.heap.size,0,none⟩ (.int .i64 0)).setCell ⟨w.heap.size,1,none⟩ (.int .i64 0)).setCell ⟨w.heap.size,2,none⟩ (.int .i64 0)).setCell ⟨w.heap.size,3,none⟩ (.map none)).setCell ⟨w.heap.size,4,none⟩ (.map none) = X at *
    have hK' : X.heap[D]? = some (.deferred (some [])) := (hX.block D (Array.getElem?_eq_some_iff.1 hK).1 (by simp; omega)).trans hK
    refine ⟨by simp,.inl ⟨_,_,rfl,run_takeDeferred hK',?_⟩⟩
    have bY : Bx (X.putObj D (.deferred none)) w.heap.size #[.int .i64 0,.int .i64 0,.int .i64 0,.map none,.map none] 100 := (World.putObj_heap_other (by omega)).trans bX
    have hBX : Below w.heap.size w X := hB.grown hX hB.size (fun k e => by cases e; exact Nat.le_refl _)
    have hBY := hBX.grown (grownBy_putObj' X D (.deferred none)) hBX.size (fun k e => by cases e; omega)
    refine ⟨.tuple #[.agg #[.int .i64 0,.int .i64 0,.int .i64 0,.map none,.map none],.bool false],?_,_,rfl,?_,hBY⟩
    ·have y0 := bY.cell (j := 0) rfl
     have y1 := bY.cell (j := 1) rfl
     have y2 := bY.cell (j := 2) rfl
     have y3 := bY.cell (j := 3) rfl
     have y4 := bY.cell (j := 4) rfl
     simp [results,Tryz.results51,go_sem,y0,y1,y2,y3,y4]
    ·unfold SaidIs
     rw [HSA.out]
   ·rw [if_neg h2k] at HSA
    have h2k' : ¬ (2000 : Int) < ((liveL (sds xs)).length : Int) := by omega
    gi_wp2
    have hX := grown_set5 W w.heap.size (.int .i64 blk) (.int .i64 seed) (.int .i64 bits) (.map (some (z + 1))) (.map (some (z + 1 + 1)))
    have bX := bR.set5 (.int .i64 blk) (.int .i64 seed) (.int .i64 bits) (.map (some (z + 1))) (.map (some (z + 1 + 1)))
    generalize ((((W.setCell ⟨w.heap.size,0,none⟩ (.int .i64 (blk : Int))).setCell ⟨w.heap.size,1,none⟩ (.int .i64 (seed : Int))).setCell ⟨w.heap.size,2,none⟩ (.int .i64 (bits : Int))).setCell ⟨w.heap.size,3,none⟩ (.map (some (z + 1)))).setCell ⟨w.heap.size,4,none⟩ (.map (some (z + 1 + 1))) = X at *
    have hK' : X.heap[D]? = some (.deferred (some [])) := (hX.block D (Array.getElem?_eq_some_iff.1 hK).1 (by simp; omega)).trans hK
    refine ⟨by simp,.inl ⟨_,_,rfl,run_takeDeferred hK',?_⟩⟩
    have bY : Bx (X.putObj D (.deferred none)) w.heap.size #[.int .i64 blk,.int .i64 seed,.int .i64 bits,.map (some (z + 1)),.map (some (z + 1 + 1))] 100 := (World.putObj_heap_other (by omega)).trans bX
    have hBX : Below w.heap.size w X := hB.grown hX hB.size (fun k e => by cases e; exact Nat.le_refl _)
    have hBY := hBX.grown (grownBy_putObj' X D (.deferred none)) hBX.size (fun k e => by cases e; omega)
    refine ⟨.tuple #[.agg #[.int .i64 blk,.int .i64 seed,.int .i64 bits,.map (some (z + 1)),.map (some (z + 1 + 1))],.bool true],?_,_,rfl,?_,hBY⟩
    ·have y0 := bY.cell (j := 0) rfl
     have y1 := bY.cell (j := 1) rfl
     have y2 := bY.cell (j := 2) rfl
     have y3 := bY.cell (j := 3) rfl
     have y4 := bY.cell (j := 4) rfl
     simp [results,Tryz.results51,go_sem,y0,y1,y2,y3,y4]
    ·unfold SaidIs
     rw [HSA.out]
     have hM : Maps2 W (z + 1) (z + 1 + 1) (sds xs).length (liveL (sds xs)) := ⟨DI,DP,⟨hI,vI,zI⟩,hP,vP⟩
     refine ⟨z + 1,z + 1 + 1,(sds xs).length,?_,(hM.kept hX (by simp; omega) (by simp; omega)).kept (grownBy_putObj' X D (.deferred none)) (by simp; omega) (by simp; omega),by omega⟩
     rw [HBLK.out,HSEED.out,HBITS.out]
attribute [local go_sem] Oper.semAt_some
def whWorld (w : World) (log : ByteArray) (blk seed bits : Nat) : World :=
 (((w.alloc (.cells #[.int .i64 blk,.int .i64 seed,.int .i64 bits] 29)).alloc (.cells #[.int .i64 14] 3)).alloc (.cells #[.string log] 9)).alloc (.cells #[.int .i64 blk,.int .i64 seed,.int .i64 bits] 29)
structure WhW (w : World) (log : ByteArray) (blk seed bits : Nat) (W : World) : Prop where
 e : Bx W (w.heap.size + 1) #[.int .i64 14] 3
 l : Bx W (w.heap.size + 1 + 1) #[.string log] 9
 c : Bx W (w.heap.size + 1 + 1 + 1) #[.int .i64 blk,.int .i64 seed,.int .i64 bits] 29
 b : Below w.heap.size w W
 size : W.heap.size = w.heap.size + 4
theorem whW_new (w : World) (log : ByteArray) (blk seed bits : Nat) : WhW w log blk seed bits (whWorld w log blk seed bits) := by
 unfold whWorld
 have z1 : (w.alloc (.cells #[.int .i64 (blk : Int),.int .i64 (seed : Int),.int .i64 (bits : Int)] 29)).heap.size = w.heap.size + 1 := World.size_alloc _ _
 have b1 : Below w.heap.size w (w.alloc (.cells #[.int .i64 (blk : Int),.int .i64 (seed : Int),.int .i64 (bits : Int)] 29)) := (Below.refl _ w).alloc (Nat.le_refl _) _
 generalize w.alloc (.cells #[.int .i64 (blk : Int),.int .i64 (seed : Int),.int .i64 (bits : Int)] 29) = Y at *
 have e1 := bx_new Y #[.int .i64 14] 3 z1.symm
 have z3 : (Y.alloc (.cells #[.int .i64 14] 3)).heap.size = w.heap.size + 1 + 1 := by rw [World.size_alloc,z1]
 have l1 := bx_new (Y.alloc (.cells #[.int .i64 14] 3)) #[.string log] 9 z3.symm
 have z4 : ((Y.alloc (.cells #[.int .i64 14] 3)).alloc (.cells #[.string log] 9)).heap.size = w.heap.size + 1 + 1 + 1 := by rw [World.size_alloc,z3]
 exact ⟨(e1.alloc _).alloc _,l1.alloc _,bx_new _ _ _ z4.symm,((b1.alloc (by omega) _).alloc (by omega) _).alloc (by omega) _,by rw [World.size_alloc,z4]⟩
def WhI (w : World) (log : List UInt8) (blk : Nat) (pre : List Tb) (W : World) : Prop :=
 (∃ e,chain log blk 14 pre e /\ Bx W (w.heap.size + 1) #[.int .i64 (e : Nat)] 3) /\ Below w.heap.size w W /\ w.heap.size + 4 <= W.heap.size
theorem whI_own (w : World) (log : List UInt8) (blk : Nat) (B : Nat) (hB : w.heap.size + 4 <= B) : OwnFrom B (WhI w log blk) := by
 rintro s X Y row ⟨⟨e,h3,h4⟩,h6,h7⟩ hg hr
 have hr' := fun r e => (hr r e).2
 refine ⟨⟨e,h3,h4.kept hg hr'⟩,h6.grown hg h6.size (fun k e => ?_),Nat.le_trans h7 hg.size⟩
 have := (hr k e).1; omega
def whAct (log : ByteArray) (blk seed bits z a bx : Nat) (v : Value) (k : Nat) : Act :=
 { tmps := #[.string log,.agg #[.int .i64 blk,.int .i64 seed,.int .i64 bits],undef,.pointer (some ⟨z,0,none⟩),.string ⟨#[]⟩,.pointer (some ⟨z + 1,0,none⟩),.int .i64 a,.pointer (some ⟨bx,0,none⟩),.string log,.agg #[.int .i64 blk,.int .i64 seed,.int .i64 bits],.func (.func 146) #[] #[.pointer (some ⟨z + 1 + 1,0,none⟩),.pointer (some ⟨z + 1 + 1 + 1,0,none⟩)],.int .i64 a,.agg #[v,.int .i64 k],
   undef,undef,undef,undef,undef,undef,undef],defers := [] }
theorem whole_in (n : Nat) (hn : 6 <= n) (log : ByteArray) (hlog : log.size <= 100000) (blk seed bits : Nat) (w : World) (hH : HalvesAt w) (h14 : 14 <= log.size) :
  CallsIn Fence.wide n Tryz.prog 108 #[.string log,.agg #[.int .i64 blk,.int .i64 seed,.int .i64 bits]] w fun e w' => e = .returned (.string (S (log.data.toList.take (readL log.data.toList blk 14).2))) /\ Below w.heap.size w w' := by
 have h1 : 1 <= n := by omega
 have hlen : log.data.toList.length = log.size := by simp
 have f2 : Fence.wide.fn 88 := trivial
 have HRW : Hid _ := whW_new w log blk seed bits
 have HH : Hid (HalvesAt w) := hH
 have hG := hH.1
 clear hH
 refine callsIn_of_wp_marks Tryz.func108 rfl trivial ?_ rfl
 simp only [Tryz.ntmps108,List.size_toArray,List.length_cons,List.length_nil,Nat.reduceAdd,Nat.reduceSub,Array.replicate_succ,Array.replicate_zero,List.push_toArray,List.append_toArray,List.nil_append,List.cons_append]
 gi_wp2_with (gi_at_call 88; refine (blocks_in _ _ _ _ _ _).mono ?_; rintro e w' ⟨rfl,rfl⟩)
 change Code.wpIn Fence.wide n Tryz.prog _ _ _ (whWorld w log blk seed bits)
 generalize whWorld w log blk seed bits = V at *
 obtain ⟨eb,lb,cb,b,hsz⟩ := HRW.out
 have h := HH.out.below b HH.out.1
 obtain ⟨z,hz⟩ : ∃ z,w.heap.size = z := ⟨_,rfl⟩
 rw [hz] at eb lb cb hsz
 refine wpIn_rangeTells rfl h1 (gf := 146) (lb := #[.pointer (some ⟨z + 1 + 1,0,none⟩),.pointer (some ⟨z + 1 + 1 + 1,0,none⟩)]) (by rw [hz]; rfl) trivial (enters_of Tryz.func146 (by kernel_rfl) rfl)
  (blocks_tells (n - 1) (by omega) log blk seed bits hlog (z + 1 + 1) (z + 1 + 1 + 1) (z + 1) V (lb.cell rfl) (cb.cell rfl) (cb.cell rfl) (cb.cell rfl) (by omega) (by omega) (by omega) (by omega) (by omega) (by omega) h)
  CellsBut.trans (fun W l o o' _ ho hc _ => CellsBut.putObj o' ho hc) (Below.refl _ _) (fun _ => rfl)
  (WhI w log.data.toList blk) (whI_own w _ _ _ (by omega)) ⟨⟨14,rfl,by rw [hz]; exact eb⟩,b,by omega⟩
  (fun pre x a' W => Told log.data.toList blk V.heap.size pre x W /\ ∃ bx,V.heap.size <= bx /\ Bx W bx #[x.v,.int .i64 x.k] 162 /\ a' = whAct log blk seed bits z x.a bx x.v x.k) ?hAx ?assign ?body ?done
 case hAx =>
  rintro pre x a' _ X Y row ⟨h1,bx,h2,h3,h4⟩ hg hr
  exact ⟨told_own _ _ _ _ _ _ () X Y row h1 hg hr,bx,h2,h3.kept hg (fun r e => (hr r e).2),h4⟩
 case assign =>
  rintro l pre ⟨a,v,es,k⟩ W K hI hP hK
  have hP' := hP
  obtain ⟨⟨e,hch,rfl,hbk⟩,hrow⟩ := hP
  dsimp only at *
  have hbs := blockP_some hbk
  obtain ⟨g,cap,rfl⟩ := Joins.ownsRow_form hrow (by omega)
  simp only [encT]
  gi_wp2
  exact hK _ _ ((KeepsOthers.alloc _ _).from _) (CellsBut.of_below ((Below.refl _ W).alloc (Nat.le_refl _) _)) ((whI_own w _ _ _ (by omega) : OwnFrom V.heap.size _).alloc _ hI)
   ⟨⟨hP'.1,hrow.alloc _⟩,W.heap.size,by have := hI.2.2; omega,bx_new W _ _ rfl,rfl⟩
 case body =>
  rintro l pre ⟨a,v,es,k⟩ a' W ⟨⟨e0,hch0,bE⟩,hB,hZ⟩ ⟨⟨⟨e,hch,rfl,hbk⟩,hrow⟩,bx,hbx,bB,rfl⟩
  have hee := chain_fun hch0 hch
  dsimp only at *
  subst hee
  have hbs := blockP_some hbk
  rw [hz] at bE
  have x1 := bB.cell (j := 1) rfl
  have t0 := bE.cell (j := 0) rfl
  have t1 := bE.frozen 0
  have hk9 : (e0 : Int) + (k : Int) <= 100000 := by omega
  have he0 : (0 : Int) <= (e0 : Int) + (k : Int) := by omega
  unfold whAct
  gi_wp2
  refine ⟨(KeepsOthers.setCell _ _ _).from _,CellsBut.setCell _ _ _ _,⟨e0 + k,chain_snoc hch rfl hbk,?_⟩,?_,?_⟩
  ·have ec : ((e0 + k : Nat) : Int) = (e0 : Int) + (k : Int) := by omega
   rw [ec,hz]
   exact bE.set1 _
  ·exact hB.setCell (p := ⟨z + 1,0,none⟩) (by show w.heap.size <= z + 1; omega) _
  ·have := (grownBy_setCell' W (z + 1) (.int .i64 ((e0 : Int) + (k : Int)))).size
   omega
 case done =>
  rintro D xs W hD ⟨e,hch,hnone⟩ ⟨⟨e0,hch0,bE⟩,hB,hZ⟩ hK
  have hee := chain_fun hch0 hch
  subst hee
  have hr := chain_read hch hnone
  have hle := (chain_rise hch).2.2.2.1 (by omega)
  rw [hz] at bE
  have t0 := bE.cell (j := 0) rfl
  have HR : Hid (readL log.data.toList blk 14 = (sds xs,e0)) := hr
  clear hr
  have HX : Hid (log.extract 0 e0 = S (log.data.toList.take e0)) := by
   show _ = _
   apply ByteArray.ext
   apply Array.toList_inj.1
   rw [cut_list,List.drop_zero,S_data]
   rfl
  gi_wp2
  refine ⟨by simp,.inl ⟨_,_,rfl,run_takeDeferred hK,?_⟩⟩
  have hBY := hB.grown (grownBy_putObj' W D (.deferred none)) hB.size (fun k e => by cases e; omega)
  refine ⟨.string (log.extract 0 e0),?_,by rw [HR.out,HX.out],hBY⟩
  simp [results,Tryz.results108,go_sem]
theorem whole_any (log : ByteArray) (hlog : log.size <= 100000) (blk seed bits : Nat) (w : World) (hH : HalvesAt w) (h14 : 14 <= log.size) :
  Calls Tryz.prog 108 #[.string log,.agg #[.int .i64 blk,.int .i64 seed,.int .i64 bits]] w fun e w' => e = .returned (.string (S (log.data.toList.take (readL log.data.toList blk 14).2))) /\ Below w.heap.size w w' :=
 callsIn_wide.1 (whole_in 6 (by omega) log hlog blk seed bits w hH h14)
end Go.Proofs.YtdhgebdbiehchaaGreatDoor
