/- On the way: MapV, RecMap, RecTake, RecAtM. -/
import Derived.Test.YtdhgebdbiehchaaGreatDoorB08
import Derived.Maps.OwnIn
import Derived.Maps.OwnSet
import Derived.DeepKeys4
namespace Go.Proofs.YtdhgebdbiehchaaGreatDoor
open Go.RowKit Go.Maps
set_option linter.unusedSimpArgs false
set_option linter.unusedVariables false
set_option maxRecDepth 100000
set_option maxHeartbeats 3200000
noncomputable instance litEq : DecidableEq Lit := fun a b => Classical.propDecidable (a = b)
def View (D : DataW Unit) (f : Lit -> Option (DataW Unit)) : Prop := Tidy D /\ ∀ k,(∀ z,D.atKey k z = (f k).getD z) /\ Maps.has D k = (f k).isSome
theorem view_empty : View (.map []) (fun _ => none) := ⟨tidy_empty,fun k => ⟨fun z => rfl,rfl⟩⟩
theorem View.put {D : DataW Unit} {f : Lit -> Option (DataW Unit)} (h : View D f) {k : Lit} (hk : WideAt.IsKeyLit k) (d : DataW Unit) : View (D.put k d) (fun j => if j = k then some d else f j) := by
 refine ⟨h.1.put hk d,fun j => ?_⟩
 by_cases e : j = k
 ·subst e
  exact ⟨fun z => by rw [atKey_put_same h.1.isMap hk]; simp,by rw [has_put_same h.1.isMap hk]; simp⟩
 ·exact ⟨fun z => by rw [atKey_put_other e,(h.2 j).1 z]; simp [e],by rw [has_put_other e,(h.2 j).2]; simp [e]⟩
theorem View.del {D : DataW Unit} {f : Lit -> Option (DataW Unit)} (h : View D f) (k : Lit) : View (D.del k) (fun j => if j = k then none else f j) := by
 refine ⟨h.1.del k,fun j => ?_⟩
 by_cases e : j = k
 ·subst e
  exact ⟨fun z => by rw [atKey_del_same]; simp,by rw [has_del_same]; simp⟩
 ·exact ⟨fun z => by rw [atKey_del_other e,(h.2 j).1 z]; simp [e],by rw [has_del_other e,(h.2 j).2]; simp [e]⟩
theorem View.congr {D : DataW Unit} {f g : Lit -> Option (DataW Unit)} (h : View D f) (e : ∀ k,f k = g k) : View D g := by
 have : f = g := funext e
 rw [<- this]; exact h
def pk (a b : Nat) : Lit := .string (keyBytes [.int .i64 a,.int .i64 b])
def placeD (x : Sd) : DataW Unit := .agg [.lit (.int .i64 x.blk),.lit (.int .i64 x.no)]
def itemD (x : Sd) : DataW Unit := .agg [.lit (.string x.key),.lit (.string x.val)]
noncomputable def fI (L : List Sd) (k : Lit) : Option (DataW Unit) := (L.find? (fun x => decide (pk x.blk x.no = k))).map itemD
noncomputable def fP (L : List Sd) (k : Lit) : Option (DataW Unit) := (L.find? (fun x => decide (Lit.string x.key = k))).map placeD
theorem find_filter_sub {α : Type} {p q : α -> Bool} {L : List α} (h : ∀ x ∈ L,p x = true -> q x = true) : (L.filter q).find? p = L.find? p := by
 induction L with
 | nil => rfl
 | cons x L ih =>
  have ih' := ih (fun y hy => h y (by simp [hy]))
  by_cases hq : q x = true
  ·rw [List.filter_cons_of_pos hq,List.find?_cons,List.find?_cons,ih']
  ·rw [List.filter_cons_of_neg hq,ih',List.find?_cons]
   cases hp : p x
   ·rfl
   ·exact absurd (h x (by simp) hp) hq
theorem find_filter_out {α : Type} {p q : α -> Bool} {L : List α} (h : ∀ x ∈ L,p x = true -> q x = false) : (L.filter q).find? p = none := by
 rw [List.find?_eq_none]
 intro x hx
 obtain ⟨h1,h2⟩ := List.mem_filter.1 hx
 intro hp
 rw [h x h1 hp] at h2
 cases h2
structure Lives (L : List Sd) : Prop where
 keys : L.Pairwise (fun x y => x.key ≠ y.key)
 rise : L.Pairwise placeLt
 small : ∀ x ∈ L,x.blk < 4294967296 /\ x.no < 4294967296
theorem pairwise_eq {α : Type} {R : α -> α -> Prop} {L : List α} (h : L.Pairwise R) {x y : α} (hx : x ∈ L) (hy : y ∈ L) (h1 : ¬ R x y) (h2 : ¬ R y x) : x = y := by
 induction L with
 | nil => cases hx
 | cons z L ih =>
  obtain ⟨ha,hb⟩ := List.pairwise_cons.1 h
  rcases List.mem_cons.1 hx with e1 | hx'
  ·subst e1
   rcases List.mem_cons.1 hy with e2 | hy'
   ·exact e2.symm
   ·exact absurd (ha y hy') h1
  ·rcases List.mem_cons.1 hy with e2 | hy'
   ·subst e2
    exact absurd (ha x hx') h2
   ·exact ih hb hx' hy'
theorem Lives.key_eq {L : List Sd} (h : Lives L) {x y : Sd} (hx : x ∈ L) (hy : y ∈ L) (e : x.key = y.key) : x = y := pairwise_eq h.keys hx hy (fun n => n e) (fun n => n e.symm)
theorem Lives.place_eq {L : List Sd} (h : Lives L) {x y : Sd} (hx : x ∈ L) (hy : y ∈ L) (e : x.blk = y.blk) (e2 : x.no = y.no) : x = y := by
 refine pairwise_eq h.rise hx hy ?_ ?_
 ·unfold placeLt; omega
 ·unfold placeLt; omega
theorem Lives.filter {L : List Sd} (h : Lives L) (q : Sd -> Bool) : Lives (L.filter q) := ⟨h.keys.filter _,h.rise.filter _,fun x hx => h.small x (List.mem_filter.1 hx).1⟩
def less (L : List Sd) (key : List UInt8) : List Sd := L.filter (fun y => decide (y.key ≠ key))
def step (L : List Sd) (x : Sd) : List Sd := less L x.key ++ (if x.put = true then [x] else [])
def PkInj : Prop := ∀ a b c d : Nat,a < 4294967296 -> b < 4294967296 -> c < 4294967296 -> d < 4294967296 -> pk a b = pk c d -> a = c /\ b = d
theorem less_same {L : List Sd} {key : List UInt8} (h : ∀ x ∈ L,x.key ≠ key) : less L key = L := List.filter_eq_self.2 (fun x hx => by simpa using h x hx)
theorem less_length {L : List Sd} (hL : Lives L) {y : Sd} (hy : y ∈ L) : (less L y.key).length + 1 = L.length := by
 have hk := hL.keys
 clear hL
 unfold less
 induction L with
 | nil => cases hy
 | cons z L ih =>
  obtain ⟨ha,hb⟩ := List.pairwise_cons.1 hk
  rcases List.mem_cons.1 hy with rfl | hy
  ·rw [List.filter_cons_of_neg (by simp),List.filter_eq_self.2 (fun x hx => by simpa using (ha x hx).symm)]
   rfl
  ·rw [List.filter_cons_of_pos (by simpa using ha y hy),List.length_cons,ih hy hb,List.length_cons]
theorem fP_less (L : List Sd) (key : List UInt8) (k : Lit) : (if k = .string key then none else fP L k) = fP (less L key) k := by
 unfold fP less
 by_cases e : k = .string key
 ·rw [if_pos e,find_filter_out]
  ·rfl
  ·intro x _ hp
   simp only [decide_eq_true_eq] at hp
   rw [e] at hp
   simp at hp
   simp [hp]
 ·rw [if_neg e,find_filter_sub]
  intro x _ hp
  simp only [decide_eq_true_eq] at hp
  simp only [decide_eq_true_eq]
  intro h
  exact e (by rw [<- hp,h])
theorem fI_less (hp : PkInj) {L : List Sd} (hL : Lives L) {y : Sd} (hy : y ∈ L) (k : Lit) : (if k = pk y.blk y.no then none else fI L k) = fI (less L y.key) k := by
 unfold fI less
 have hs := hL.small y hy
 by_cases e : k = pk y.blk y.no
 ·rw [if_pos e,find_filter_out]
  ·rfl
  ·intro x hx h
   simp only [decide_eq_true_eq] at h
   rw [e] at h
   have hs' := hL.small x hx
   obtain ⟨e1,e2⟩ := hp _ _ _ _ hs'.1 hs'.2 hs.1 hs.2 h
   rw [hL.place_eq hx hy e1 e2]
   simp
 ·rw [if_neg e,find_filter_sub]
  intro x hx h
  simp only [decide_eq_true_eq] at h
  simp only [decide_eq_true_eq]
  intro h2
  rw [hL.key_eq hx hy h2] at h
  exact e h.symm
theorem fP_snoc {L : List Sd} {x : Sd} (h : ∀ y ∈ L,y.key ≠ x.key) (k : Lit) : (if k = .string x.key then some (placeD x) else fP L k) = fP (L ++ [x]) k := by
 unfold fP
 rw [List.find?_append]
 by_cases e : k = .string x.key
 ·have : L.find? (fun x => decide (Lit.string x.key = k)) = none := List.find?_eq_none.2 (fun y hy => by simpa [e] using h y hy)
  rw [if_pos e,this]
  simp [e]
 ·rw [if_neg e]
  have : [x].find? (fun x => decide (Lit.string x.key = k)) = none := by simp [List.find?_cons,Ne.symm e]
  rw [this]; simp
theorem fI_snoc (hp : PkInj) {L : List Sd} (hL : Lives L) {x : Sd} (hs : x.blk < 4294967296 /\ x.no < 4294967296) (h : ∀ y ∈ L,placeLt y x) (k : Lit) : (if k = pk x.blk x.no then some (itemD x) else fI L k) = fI (L ++ [x]) k := by
 unfold fI
 rw [List.find?_append]
 by_cases e : k = pk x.blk x.no
 ·have : L.find? (fun x => decide (pk x.blk x.no = k)) = none := List.find?_eq_none.2 (fun y hy => by
   simp only [decide_eq_true_eq]
   intro e2
   rw [e] at e2
   have hs' := hL.small y hy
   obtain ⟨e1,e3⟩ := hp _ _ _ _ hs'.1 hs'.2 hs.1 hs.2 e2
   have := h y hy
   unfold placeLt at this
   omega)
  rw [if_pos e,this]
  simp [e]
 ·rw [if_neg e]
  have : [x].find? (fun x => decide (pk x.blk x.no = k)) = none := by simp [List.find?_cons,Ne.symm e]
  rw [this]; simp
theorem fP_none {L : List Sd} {key : List UInt8} (h : fP L (.string key) = none) : ∀ x ∈ L,x.key ≠ key := by
 intro x hx e
 unfold fP at h
 rw [Option.map_eq_none_iff,List.find?_eq_none] at h
 exact h x hx (by simp [e])
theorem fP_some {L : List Sd} {key : List UInt8} {d : DataW Unit} (h : fP L (.string key) = some d) : ∃ x ∈ L,x.key = key /\ d = placeD x := by
 unfold fP at h
 rw [Option.map_eq_some_iff] at h
 obtain ⟨x,hx,rfl⟩ := h
 have := List.find?_some hx
 simp at this
 exact ⟨x,List.mem_of_find?_eq_some hx,this,rfl⟩
theorem fI_mem (hp : PkInj) {L : List Sd} (hL : Lives L) {x : Sd} (hx : x ∈ L) : fI L (pk x.blk x.no) = some (itemD x) := by
 unfold fI
 cases h : L.find? (fun y => decide (pk y.blk y.no = pk x.blk x.no)) with
 | none =>
  rw [List.find?_eq_none] at h
  exact absurd (by simp) (h x hx)
 | some y =>
  have hy := List.mem_of_find?_eq_some h
  have e := List.find?_some h
  simp only [decide_eq_true_eq] at e
  have s1 := hL.small y hy
  have s2 := hL.small x hx
  obtain ⟨e1,e2⟩ := hp _ _ _ _ s1.1 s1.2 s2.1 s2.2 e
  rw [hL.place_eq hy hx e1 e2]
  rfl
theorem fI_isSome {L : List Sd} {k : Lit} (h : (fI L k).isSome = true) : ∃ x ∈ L,pk x.blk x.no = k := by
 unfold fI at h
 rw [Option.isSome_map,List.find?_isSome] at h
 obtain ⟨x,hx,e⟩ := h
 exact ⟨x,hx,by simpa using e⟩
theorem Lives.step {L : List Sd} (hL : Lives L) {x : Sd} (hs : x.blk < 4294967296 /\ x.no < 4294967296) (h : ∀ y ∈ L,placeLt y x) : Lives (step L x) := by
 unfold YtdhgebdbiehchaaGreatDoor.step less
 cases x.put
 ·simpa using hL.filter _
 ·have hF := hL.filter (fun y => decide (y.key ≠ x.key))
  refine ⟨?_,?_,?_⟩
  ·rw [if_pos rfl,List.pairwise_append]
   exact ⟨hF.keys,by simp,fun y hy z hz => by simp at hz; subst hz; simpa using (List.mem_filter.1 hy).2⟩
  ·rw [if_pos rfl,List.pairwise_append]
   exact ⟨hF.rise,by simp,fun y hy z hz => by simp at hz; subst hz; exact h y (List.mem_filter.1 hy).1⟩
  ·intro y hy
   rcases List.mem_append.1 hy with hy | hy
   ·exact hF.small y hy
   ·simp at hy; subst hy; exact hs
def rPl : Value -> Option (DataW Unit × List MemPlace)
 | .agg cs => match cs.toList with
  | [.int .i64 a,.int .i64 b] => some (.agg [.lit (.int .i64 a),.lit (.int .i64 b)],[])
  | _ => none
 | _ => none
def rIt : Value -> Option (DataW Unit × List MemPlace)
 | .agg cs => match cs.toList with
  | [.string a,.string b] => some (.agg [.lit (.string a.data.toList),.lit (.string b.data.toList)],[])
  | _ => none
 | _ => none
theorem rPl_mk (a b : Int) : rPl (.agg #[.int .i64 a,.int .i64 b]) = some (.agg [.lit (.int .i64 a),.lit (.int .i64 b)],[]) := rfl
theorem rIt_mk (a b : ByteArray) : rIt (.agg #[.string a,.string b]) = some (.agg [.lit (.string a.data.toList),.lit (.string b.data.toList)],[]) := rfl
theorem rPl_inv {v : Value} {a b : Int} {ps : List MemPlace} (h : rPl v = some (.agg [.lit (.int .i64 a),.lit (.int .i64 b)],ps)) : v = .agg #[.int .i64 a,.int .i64 b] := by
 unfold rPl at h
 split at h
 ·rename_i cs
  split at h
  ·rename_i a' b' e
   simp at h
   obtain ⟨⟨rfl,rfl⟩,rfl⟩ := h
   have : cs = #[.int .i64 a',.int .i64 b'] := by rw [<- Array.toList_inj,e]
   rw [this]
  ·cases h
 ·cases h
theorem rIt_inv {v : Value} {a b : List UInt8} {ps : List MemPlace} (h : rIt v = some (.agg [.lit (.string a),.lit (.string b)],ps)) : ∃ a' b' : ByteArray,v = .agg #[.string a',.string b'] /\ a'.data.toList = a /\ b'.data.toList = b := by
 unfold rIt at h
 split at h
 ·rename_i cs
  split at h
  ·rename_i a' b' e
   simp at h
   obtain ⟨⟨h1,h2⟩,rfl⟩ := h
   have : cs = #[.string a',.string b'] := by rw [<- Array.toList_inj,e]
   exact ⟨a',b',by rw [this],h1,h2⟩
  ·cases h
 ·cases h
theorem step_live (ss : List Sd) (x : Sd) : step (liveL ss) x = liveL (ss ++ [x]) := (liveL_snoc ss x).symm
theorem laidOut : laidOutB Tryz.prog = true := by kernel_rfl
theorem rowPl : (165 : TypeId) < Tryz.prog.types.size := of_decide_eq_true (by kernel_rfl)
theorem widePl : (match Tryz.prog.underlying 165 with | some (.array _ _) | some (.struct _) => true | _ => false) = true := by kernel_rfl
theorem keyTypePl : Tryz.prog.keyType 165 = true := by kernel_rfl
theorem lawPl : WideMaps.KeyLaw Tryz.prog 165 := deep_law_laid laidOut (m := 2) (by omega) rowPl (by kernel_rfl) widePl
theorem keyedPl : Keyed Tryz.prog 165 := Keyed.of_law lawPl
theorem keyedStr : Keyed Tryz.prog 9 := string_keyed Tryz.underlying9
theorem cellsPl : Tryz.prog.cellsOf 165 = 2 := by kernel_rfl
theorem cellsInt : Tryz.prog.cellsOf 3 = 1 := by kernel_rfl
theorem succ_of_lt {n m : Nat} (h : n < m) : ∃ k,m = k + 1 := ⟨m - 1,by omega⟩
theorem sizePl : ∃ m,Tryz.prog.types.size = m + 1 := succ_of_lt rowPl
theorem keyOf_pl {a b : Int} (ha : (Lit.int .i64 a).wf = true) (hb : (Lit.int .i64 b).wf = true) : keyOf Tryz.prog 165 (.agg #[.int .i64 a,.int .i64 b]) = some (.string (keyBytes [.int .i64 a,.int .i64 b])) := by
 obtain ⟨m,hm⟩ := sizePl
 unfold keyOf
 simp only [Tryz.underlying165]
 rw [if_pos (by rw [keyTypePl]; simp [Value.formed,Tryz.underlying165,cellsPl]),hm]
 unfold Program.keyLits
 simp only [Tryz.underlying165,Value.cells]
 rw [if_pos (by rw [cellsPl]; exact ⟨rfl,by simp⟩)]
 simp [cellsInt,Program.keyLits,Tryz.underlying3,ha,hb]
theorem wfNat {a : Nat} (h : a < 4294967296) : (Lit.int .i64 (a : Int)).wf = true := WalkArith.wf_i64 (by omega)
theorem keyOf_pk {a b : Nat} (ha : a < 4294967296) (hb : b < 4294967296) : keyOf Tryz.prog 165 (.agg #[.int .i64 a,.int .i64 b]) = some (pk a b) := keyOf_pl (wfNat ha) (wfNat hb)
theorem pkInj : PkInj := by
 intro a b c d ha hb hc hd e
 have h1 := keyOf_pk ha hb
 have h2 := keyOf_pk hc hd
 rw [e] at h1
 have := keyedPl.inj h1 h2
 simp at this
 omega
def Maps2 (W : World) (bi bp n : Nat) (L : List Sd) : Prop :=
 ∃ DI DP : DataW Unit,(W.ownsMap Tryz.prog 165 rIt bi n DI /\ View DI (fI L) /\ Maps.size DI = L.length) /\ W.ownsMap Tryz.prog 9 rPl bp n DP /\ View DP (fP L)
structure Turn2 (bi bp : Nat) (w w' : World) : Prop where
 os : w'.os = w.os
 tape : w'.tape = w.tape
 output : w'.output = w.output
 size : w.heap.size <= w'.heap.size
 block : ∀ k,k < w.heap.size -> k ≠ bi -> k ≠ bp -> w'.heap[k]? = w.heap[k]?
theorem Turn2.refl (bi bp : Nat) (w : World) : Turn2 bi bp w w := ⟨rfl,rfl,rfl,Nat.le_refl _,fun _ _ _ _ => rfl⟩
theorem Turn2.trans {bi bp : Nat} {a b c : World} (h : Turn2 bi bp a b) (k : Turn2 bi bp b c) : Turn2 bi bp a c :=
 ⟨k.os.trans h.os,k.tape.trans h.tape,k.output.trans h.output,Nat.le_trans h.size k.size,fun i hi h1 h2 => (k.block i (Nat.lt_of_lt_of_le hi h.size) h1 h2).trans (h.block i hi h1 h2)⟩
theorem Turn2.alloc {bi bp : Nat} {a b : World} (h : Turn2 bi bp a b) (o : Obj) : Turn2 bi bp a (b.alloc o) := h.trans ⟨rfl,rfl,rfl,by simp,fun k hk _ _ => Below.heap_alloc _ _ _ hk⟩
theorem Turn2.grown {bi bp : Nat} {a b c : World} {row : Option Nat} (h : Turn2 bi bp a b) (hg : b.grownBy c row) (hr : ∀ k,row = some k -> k = bi \/ k = bp) : Turn2 bi bp a c :=
 h.trans ⟨hg.os,hg.tape,hg.output,hg.size,fun k hk h1 h2 => hg.block k hk (fun e => by rcases hr k e.symm with h | h; exact h1 h; exact h2 h)⟩
theorem Turn2.cell {bi bp : Nat} {w w' : World} (h : Turn2 bi bp w w') {p : Addr} (hp : p.block < w.heap.size) (h1 : p.block ≠ bi) (h2 : p.block ≠ bp) : w'.cell? p = w.cell? p := World.cell?_of_block (w := w) (h.block p.block hp h1 h2)
theorem Turn2.frozen {bi bp : Nat} {w w' : World} (h : Turn2 bi bp w w') {p : Addr} (hp : p.block < w.heap.size) (h1 : p.block ≠ bi) (h2 : p.block ≠ bp) : w'.frozen? p = w.frozen? p := World.frozen?_of_block (w := w) (h.block p.block hp h1 h2)
theorem Turn2.of_below {bi bp : Nat} {w w' : World} (h : Below w.heap.size w w') : Turn2 bi bp w w' := ⟨h.os,h.tape,h.output,h.size,fun k hk _ _ => h.block k hk⟩
theorem Turn2.below {bi bp n : Nat} {w w' : World} (h : Turn2 bi bp w w') (hn : n <= w.heap.size) (h1 : n <= bi) (h2 : n <= bp) : Below n w w' := ⟨h.os,h.tape,h.output,h.size,fun k hk => h.block k (by omega) (by omega) (by omega)⟩
theorem Maps2.alloc {W : World} {bi bp n : Nat} {L : List Sd} (h : Maps2 W bi bp n L) (o : Obj) : Maps2 (W.alloc o) bi bp n L := by
 obtain ⟨DI,DP,⟨h1,h2,h3⟩,h4,h5⟩ := h
 exact ⟨DI,DP,⟨h1.alloc o,h2,h3⟩,h4.alloc o,h5⟩
theorem Maps2.kept {W W' : World} {bi bp n : Nat} {L : List Sd} (h : Maps2 W bi bp n L) {row : Option Nat} (hg : W.grownBy W' row) (h1 : some bi ≠ row) (h2 : some bp ≠ row) : Maps2 W' bi bp n L := by
 obtain ⟨DI,DP,⟨h3,h4,h5⟩,h6,h7⟩ := h
 exact ⟨DI,DP,⟨h3.kept hg h1,h4,h5⟩,h6.kept hg h2,h7⟩
theorem Maps2.lt {W : World} {bi bp n : Nat} {L : List Sd} (h : Maps2 W bi bp n L) : bi < W.heap.size /\ bp < W.heap.size := by
 obtain ⟨DI,DP,⟨h3,h4,h5⟩,h6,h7⟩ := h
 exact ⟨h3.lt,h6.lt⟩
theorem Maps2.mono {W : World} {bi bp n m : Nat} {L : List Sd} (h : Maps2 W bi bp n L) (hn : n <= m) : Maps2 W bi bp m L := by
 obtain ⟨DI,DP,⟨h3,h4,h5⟩,h6,h7⟩ := h
 exact ⟨DI,DP,⟨h3.mono hn,h4,h5⟩,h6.mono hn,h7⟩
theorem maps2_new (w : World) : Maps2 ((w.alloc (.map #[] 0)).alloc (.map #[] 0)) w.heap.size (w.heap.size + 1) 0 [] := by
 refine ⟨.map [],.map [],⟨(World.ownsMap_made w _ _ _).alloc _,view_empty,rfl⟩,?_,view_empty⟩
 have := World.ownsMap_made (w.alloc (.map #[] 0)) Tryz.prog 9 rPl
 rwa [World.size_alloc] at this
theorem view_less {DI DP : DataW Unit} {L : List Sd} (hL : Lives L) (hI : View DI (fI L)) (hz : Maps.size DI = L.length) (hP : View DP (fP L)) {y : Sd} (hy : y ∈ L) :
  (View (DI.del (pk y.blk y.no)) (fI (less L y.key)) /\ Maps.size (DI.del (pk y.blk y.no)) = (less L y.key).length) /\ View (DP.del (.string y.key)) (fP (less L y.key)) := by
 refine ⟨⟨(hI.del _).congr (fI_less pkInj hL hy),?_⟩,(hP.del _).congr (fP_less L y.key)⟩
 have h1 := size_del (k := pk y.blk y.no) hI.1
 rw [(hI.2 (pk y.blk y.no)).2,fI_mem pkInj hL hy] at h1
 have h2 := less_length hL hy
 simp at h1
 omega
theorem view_more {DI DP : DataW Unit} {L : List Sd} (hL : Lives L) (hI : View DI (fI L)) (hz : Maps.size DI = L.length) (hP : View DP (fP L)) {x : Sd} (hs : x.blk < 4294967296 /\ x.no < 4294967296) (hlt : ∀ y ∈ L,placeLt y x) (hk : ∀ y ∈ L,y.key ≠ x.key) :
  (View (DI.put (pk x.blk x.no) (itemD x)) (fI (L ++ [x])) /\ Maps.size (DI.put (pk x.blk x.no) (itemD x)) = (L ++ [x]).length) /\ View (DP.put (.string x.key) (placeD x)) (fP (L ++ [x])) := by
 have hno : Maps.has DI (pk x.blk x.no) = false := by
  rw [(hI.2 _).2]
  cases h : (fI L (pk x.blk x.no)).isSome
  ·rfl
  ·obtain ⟨y,hy,e⟩ := fI_isSome h
   have s1 := hL.small y hy
   obtain ⟨e1,e2⟩ := pkInj _ _ _ _ s1.1 s1.2 hs.1 hs.2 e
   have := hlt y hy
   unfold placeLt at this
   omega
 refine ⟨⟨(hI.put (by trivial) _).congr (fI_snoc pkInj hL hs hlt),?_⟩,(hP.put (by trivial) _).congr (fP_snoc hk)⟩
 rw [size_put hI.1,hno]
 simp [hz]
structure TkB (w : World) (bi bp : Nat) (x : Sd) (ob on : Nat) (W : World) : Prop where
 c3 : W.cell? ⟨w.heap.size,3,none⟩ = some (.map (some bi))
 c4 : W.cell? ⟨w.heap.size,4,none⟩ = some (.map (some bp))
 e0 : W.cell? ⟨w.heap.size + 1,0,none⟩ = some (.bool x.put)
 e1 : W.cell? ⟨w.heap.size + 1,1,none⟩ = some (.string (S x.key))
 e2 : W.cell? ⟨w.heap.size + 1,2,none⟩ = some (.string (S x.val))
 a0 : W.cell? ⟨w.heap.size + 1 + 1,0,none⟩ = some (.int .i64 x.blk)
 a1 : W.cell? ⟨w.heap.size + 1 + 1,1,none⟩ = some (.int .i64 x.no)
 o0 : W.cell? ⟨w.heap.size + 1 + 1 + 1,0,none⟩ = some (.int .i64 ob)
 o1 : W.cell? ⟨w.heap.size + 1 + 1 + 1,1,none⟩ = some (.int .i64 on)
 two : Turn2 bi bp w W
 size : w.heap.size + 1 + 1 + 1 < W.heap.size
theorem TkB.turn {w W W' : World} {bi bp ob on : Nat} {x : Sd} (h : TkB w bi bp x ob on W) (hi : bi < w.heap.size) (hp : bp < w.heap.size) {row : Option Nat} (hg : W.grownBy W' row) (hr : ∀ k,row = some k -> k = bi \/ k = bp) : TkB w bi bp x ob on W' := by
 have hb : ∀ b j,w.heap.size <= b -> b < W.heap.size -> W'.cell? ⟨b,j,none⟩ = W.cell? ⟨b,j,none⟩ := fun b j h1 h2 =>
  World.cell?_of_block (w := W) (hg.block b h2 (fun e => by rcases hr b e.symm with h | h <;> omega))
 have hz := h.size
 exact ⟨(hb _ _ (by omega) (by omega)).trans h.c3,(hb _ _ (by omega) (by omega)).trans h.c4,(hb _ _ (by omega) (by omega)).trans h.e0,(hb _ _ (by omega) (by omega)).trans h.e1,(hb _ _ (by omega) (by omega)).trans h.e2,
  (hb _ _ (by omega) (by omega)).trans h.a0,(hb _ _ (by omega) (by omega)).trans h.a1,(hb _ _ (by omega) (by omega)).trans h.o0,(hb _ _ (by omega) (by omega)).trans h.o1,h.two.grown hg hr,Nat.lt_of_lt_of_le hz hg.size⟩
theorem cell_new0 {w : World} {b : Nat} (C : Array Value) (t : TypeId) (hb : b = w.heap.size) {j : Nat} {u : Value} (h : C[j]? = some u) : (w.alloc (.cells C t)).cell? ⟨b,j,none⟩ = some u := by
 subst hb
 exact (cell_of_row _ _ _ C t _ (MapKept.heap_alloc w _).1).trans h
theorem cell_old0 {w : World} {b j : Nat} {u : Value} (o : Obj) (h : w.cell? ⟨b,j,none⟩ = some u) (hb : b < w.heap.size) : (w.alloc o).cell? ⟨b,j,none⟩ = some u :=
 (World.cell?_of_block (w := w) (Below.heap_alloc w o b hb)).trans h
theorem tkB_new (w : World) (h0 h1 h2 : Int) (bi bp : Nat) (x : Sd) (ob on : Nat) : TkB w bi bp x ob on ((((w.alloc (.cells #[.int .i64 h0,.int .i64 h1,.int .i64 h2,.map (some bi),.map (some bp)] 100)).alloc (.cells #[.bool x.put,.string (S x.key),.string (S x.val)] 106)).alloc (.cells #[.int .i64 x.blk,.int .i64 x.no] 165)).alloc (.cells #[.int .i64 ob,.int .i64 on] 165)) := by
 have z1 : (w.alloc (.cells #[.int .i64 h0,.int .i64 h1,.int .i64 h2,.map (some bi),.map (some bp)] 100)).heap.size = w.heap.size + 1 := World.size_alloc _ _
 have t1 : Turn2 bi bp w (w.alloc (.cells #[.int .i64 h0,.int .i64 h1,.int .i64 h2,.map (some bi),.map (some bp)] 100)) := (Turn2.refl _ _ _).alloc _
 have c3 := cell_new0 (w := w) #[.int .i64 h0,.int .i64 h1,.int .i64 h2,.map (some bi),.map (some bp)] 100 rfl (j := 3) (u := .map (some bi)) rfl
 have c4 := cell_new0 (w := w) #[.int .i64 h0,.int .i64 h1,.int .i64 h2,.map (some bi),.map (some bp)] 100 rfl (j := 4) (u := .map (some bp)) rfl
 generalize w.alloc (.cells #[.int .i64 h0,.int .i64 h1,.int .i64 h2,.map (some bi),.map (some bp)] 100) = w1 at *
 have z2 : (w1.alloc (.cells #[.bool x.put,.string (S x.key),.string (S x.val)] 106)).heap.size = w.heap.size + 1 + 1 := by rw [World.size_alloc,z1]
 replace t1 := t1.alloc (.cells #[.bool x.put,.string (S x.key),.string (S x.val)] 106)
 have e0 := cell_new0 (w := w1) #[.bool x.put,.string (S x.key),.string (S x.val)] 106 z1.symm (j := 0) rfl
 have e1 := cell_new0 (w := w1) #[.bool x.put,.string (S x.key),.string (S x.val)] 106 z1.symm (j := 1) rfl
 have e2 := cell_new0 (w := w1) #[.bool x.put,.string (S x.key),.string (S x.val)] 106 z1.symm (j := 2) rfl
 replace c3 := cell_old0 (.cells #[.bool x.put,.string (S x.key),.string (S x.val)] 106) c3 (by omega)
 replace c4 := cell_old0 (.cells #[.bool x.put,.string (S x.key),.string (S x.val)] 106) c4 (by omega)
 generalize w1.alloc (.cells #[.bool x.put,.string (S x.key),.string (S x.val)] 106) = w2 at *
 have z3 : (w2.alloc (.cells #[.int .i64 (x.blk : Int),.int .i64 (x.no : Int)] 165)).heap.size = w.heap.size + 1 + 1 + 1 := by rw [World.size_alloc,z2]
 replace t1 := t1.alloc (.cells #[.int .i64 (x.blk : Int),.int .i64 (x.no : Int)] 165)
 have a0 := cell_new0 (w := w2) #[.int .i64 (x.blk : Int),.int .i64 (x.no : Int)] 165 z2.symm (j := 0) rfl
 have a1 := cell_new0 (w := w2) #[.int .i64 (x.blk : Int),.int .i64 (x.no : Int)] 165 z2.symm (j := 1) rfl
 replace c3 := cell_old0 (.cells #[.int .i64 (x.blk : Int),.int .i64 (x.no : Int)] 165) c3 (by omega)
 replace c4 := cell_old0 (.cells #[.int .i64 (x.blk : Int),.int .i64 (x.no : Int)] 165) c4 (by omega)
 replace e0 := cell_old0 (.cells #[.int .i64 (x.blk : Int),.int .i64 (x.no : Int)] 165) e0 (by omega)
 replace e1 := cell_old0 (.cells #[.int .i64 (x.blk : Int),.int .i64 (x.no : Int)] 165) e1 (by omega)
 replace e2 := cell_old0 (.cells #[.int .i64 (x.blk : Int),.int .i64 (x.no : Int)] 165) e2 (by omega)
 generalize w2.alloc (.cells #[.int .i64 (x.blk : Int),.int .i64 (x.no : Int)] 165) = w3 at *
 exact ⟨cell_old0 _ c3 (by omega),cell_old0 _ c4 (by omega),cell_old0 _ e0 (by omega),cell_old0 _ e1 (by omega),cell_old0 _ e2 (by omega),cell_old0 _ a0 (by omega),cell_old0 _ a1 (by omega),
  cell_new0 _ _ z3.symm rfl,cell_new0 _ _ z3.symm rfl,t1.alloc _,by rw [World.size_alloc,z3]; omega⟩
theorem zeroPl (w : World) : (zeroValue 165).run Tryz.prog w = .ok (.agg #[.int .i64 0,.int .i64 0]) w := by first | exact Tryz.zeroValue165 w | kernel_rfl
theorem take_new (h0 h1 h2 : Int) (bi bp n : Nat) (x : Sd) (L : List Sd) (w : World) (hm : Maps2 w bi bp n L) (hL : Lives L) (hs : x.blk < 4294967296 /\ x.no < 4294967296) (hlt : ∀ y ∈ L,placeLt y x) (hkey : x.key.length <= 20) (hn : n < 1000000000) (hne : bi ≠ bp) (hno : fP L (.string x.key) = none) :
  Calls Tryz.prog 89 #[.agg #[.int .i64 h0,.int .i64 h1,.int .i64 h2,.map (some bi),.map (some bp)],.agg #[.bool x.put,.string (S x.key),.string (S x.val)],.agg #[.int .i64 x.blk,.int .i64 x.no]] w fun e w' => e = .returned (.tuple #[]) /\ Maps2 w' bi bp (n + 1) (step L x) /\ Turn2 bi bp w w' := by
 obtain ⟨hbi,hbp⟩ := hm.lt
 obtain ⟨DI,DP,⟨hI,vI,zI⟩,hP,vP⟩ := hm
 have hB := tkB_new w h0 h1 h2 bi bp x 0 0
 have hkl : keyOf Tryz.prog 9 (.string (S x.key)) = some (.string x.key) := by
  rw [WideMaps.keyOf_string_mk Tryz.underlying9 (by rw [S_size]; unfold maxLen; omega),S_data]
 have hpk := keyOf_pk hs.1 hs.2
 have hat : DP.atKey (.string x.key) (.agg [.lit (.int .i64 0),.lit (.int .i64 0)]) = .agg [.lit (.int .i64 0),.lit (.int .i64 0)] := by rw [(vP.2 _).1,hno]; rfl
 have hhas : Maps.has DP (.string x.key) = false := by rw [(vP.2 _).2,hno]; rfl
 obtain ⟨put,ky,vl,blk,no⟩ := x
 dsimp only at *
 cases put
 ·go_enter Tryz.func89,Tryz.ntmps89
  go_wp2_with (first | (at_lookup; refine wpList_lookup_own_ok _ rfl _ _ 98 rfl 9 165 keyedStr Tryz.underlying98 rPl (zeroPl _) _ [] (rPl_mk 0 0) bp n DP rfl (((hP.alloc _).alloc _).alloc _) _ _ rfl hkl ?_; intro v ps hv; rw [hat] at hv; obtain rfl := rPl_inv hv; rw [hhas]))
  refine bodyPost_end (v := .tuple #[]) ?_ rfl ⟨rfl,?_,hB.two⟩
  ·simp [results,Tryz.results89,go_sem]
  ·have e1 : step L ⟨false,ky,vl,blk,no⟩ = L := by
    show less L ky ++ [] = L
    rw [List.append_nil,less_same (fP_none hno)]
   rw [e1]
   exact ⟨DI,DP,⟨((((hI.alloc _).alloc _).alloc _).alloc _).mono (Nat.le_succ _),vI,zI⟩,((((hP.alloc _).alloc _).alloc _).alloc _).mono (Nat.le_succ _),vP⟩
 ·have hV := view_more hL vI zI vP (x := ⟨true,ky,vl,blk,no⟩) hs hlt (fP_none hno)
  have HV : Hid _ := hV
  clear hV
  go_enter Tryz.func89,Tryz.ntmps89
  go_wp2_with (first
   | (at_lookup; refine wpList_lookup_own_ok _ rfl _ _ 98 rfl 9 165 keyedStr Tryz.underlying98 rPl (zeroPl _) _ [] (rPl_mk 0 0) bp n DP rfl (((hP.alloc _).alloc _).alloc _) _ _ rfl hkl ?_; intro v ps hv; rw [hat] at hv; obtain rfl := rPl_inv hv; rw [hhas])
   | (at_mapUpdate; refine wpList_mapUpdate_own _ rfl _ _ _ 97 rfl 165 54 keyedPl Tryz.underlying97 rIt bi n DI rfl ((((hI.alloc _).alloc _).alloc _).alloc _) (by unfold maxLen; omega) _ _ _ rfl rfl hpk _ [] (rIt_mk _ _) ?_; intro w1 hI1 hg1; have hP1 := ((((hP.alloc _).alloc _).alloc _).alloc _).kept hg1 (by simp; omega); have hB1 := hB.turn hbi hbp hg1 (fun k e => by cases e; exact .inl rfl); clear hB; obtain ⟨c3,c4,e0,e1,e2,a0,a1,o0,o1,hT,hZ⟩ := hB1)
   | (at_mapUpdate; refine wpList_mapUpdate_own _ rfl _ _ _ 98 rfl 9 165 keyedStr Tryz.underlying98 rPl bp n DP rfl hP1 (by unfold maxLen; omega) _ _ _ rfl rfl hkl _ [] (rPl_mk _ _) ?_; intro w2 hP2 hg2))
  refine bodyPost_end (v := .tuple #[]) ?_ rfl ⟨rfl,?_,hT.grown hg2 (fun k e => by cases e; exact .inr rfl)⟩
  ·simp [results,Tryz.results89,go_sem]
  ·have e1 : step L ⟨true,ky,vl,blk,no⟩ = L ++ [⟨true,ky,vl,blk,no⟩] := by
    show less L ky ++ [_] = _
    rw [less_same (fP_none hno)]
   obtain ⟨⟨v1,v2⟩,v3⟩ := HV.out
   rw [e1]
   simp only [S_data] at hI1 hP2
   exact ⟨_,_,⟨hI1.kept hg2 (by simp; omega),v1,v2⟩,hP2,v3⟩
theorem take_old (h0 h1 h2 : Int) (bi bp n : Nat) (x : Sd) (L : List Sd) (w : World) (hm : Maps2 w bi bp n L) (hL : Lives L) (hs : x.blk < 4294967296 /\ x.no < 4294967296) (hlt : ∀ y ∈ L,placeLt y x) (hkey : x.key.length <= 20) (hn : n < 1000000000) (hne : bi ≠ bp) (y : Sd) (hy : y ∈ L) (hyk : y.key = x.key) :
  Calls Tryz.prog 89 #[.agg #[.int .i64 h0,.int .i64 h1,.int .i64 h2,.map (some bi),.map (some bp)],.agg #[.bool x.put,.string (S x.key),.string (S x.val)],.agg #[.int .i64 x.blk,.int .i64 x.no]] w fun e w' => e = .returned (.tuple #[]) /\ Maps2 w' bi bp (n + 1) (step L x) /\ Turn2 bi bp w w' := by
 obtain ⟨hbi,hbp⟩ := hm.lt
 obtain ⟨DI,DP,⟨hI,vI,zI⟩,hP,vP⟩ := hm
 have hB := tkB_new w h0 h1 h2 bi bp x y.blk y.no
 have hkl : keyOf Tryz.prog 9 (.string (S x.key)) = some (.string x.key) := by
  rw [WideMaps.keyOf_string_mk Tryz.underlying9 (by rw [S_size]; unfold maxLen; omega),S_data]
 have hpk := keyOf_pk hs.1 hs.2
 have hys := hL.small y hy
 have hpky := keyOf_pk hys.1 hys.2
 have hf : fP L (.string x.key) = some (placeD y) := by
  cases h : fP L (.string x.key) with
  | none => exact absurd hyk (fP_none h y hy)
  | some d =>
   obtain ⟨z,hz,hzk,rfl⟩ := fP_some h
   rw [hL.key_eq hz hy (hzk.trans hyk.symm)]
 have hat : DP.atKey (.string x.key) (.agg [.lit (.int .i64 0),.lit (.int .i64 0)]) = .agg [.lit (.int .i64 y.blk),.lit (.int .i64 y.no)] := by rw [(vP.2 _).1,hf]; rfl
 have hhas : Maps.has DP (.string x.key) = true := by rw [(vP.2 _).2,hf]; rfl
 obtain ⟨⟨u1,u2⟩,u3⟩ := view_less hL vI zI vP hy
 rw [hyk] at u1 u2 u3
 clear hf vI zI vP
 have hL' : Lives (less L x.key) := hL.filter _
 have hkk : ∀ z ∈ less L x.key,z.key ≠ x.key := fun z hz => by simpa using (List.mem_filter.1 hz).2
 have hlt' : ∀ z ∈ less L x.key,placeLt z x := fun z hz => hlt z (List.mem_filter.1 hz).1
 have HV : Hid _ := view_more hL' u1 u2 u3 hs hlt' hkk
 have HU : Hid _ := And.intro u1 (And.intro u2 u3)
 clear hL' hkk hlt' u1 u2 u3 hL hlt hyk hy
 obtain ⟨put,ky,vl,blk,no⟩ := x
 obtain ⟨yput,yky,yvl,yblk,yno⟩ := y
 dsimp only at *
 cases put
 ·go_enter Tryz.func89,Tryz.ntmps89
  go_wp2_with (first
   | (at_lookup; refine wpList_lookup_own_ok _ rfl _ _ 98 rfl 9 165 keyedStr Tryz.underlying98 rPl (zeroPl _) _ [] (rPl_mk 0 0) bp n DP rfl (((hP.alloc _).alloc _).alloc _) _ _ rfl hkl ?_; intro v ps hv; rw [hat] at hv; obtain rfl := rPl_inv hv; rw [hhas])
   | (at_delete; refine wpList_delete_own _ rfl _ _ 97 165 rfl 54 keyedPl Tryz.underlying97 rIt bi n DI rfl ((((hI.alloc _).alloc _).alloc _).alloc _) _ _ rfl hpky ?_; intro w1 hI1 ht1; have hP1 := ((((hP.alloc _).alloc _).alloc _).alloc _).kept ht1.grown (by simp; omega); have hB1 := hB.turn hbi hbp ht1.grown (fun k e => by cases e; exact .inl rfl); clear hB ht1; have HB1 : Hid _ := hB1; obtain ⟨c3,c4,e0,e1,e2,a0,a1,o0,o1,hT,hZ⟩ := hB1)
   | (at_delete; refine wpList_delete_own _ rfl _ _ 98 9 rfl 165 keyedStr Tryz.underlying98 rPl bp n DP rfl hP1 _ _ rfl hkl ?_; clear c3 c4 e0 e1 e2 a0 a1 o0 o1 hT hZ; intro w2 hP2 ht2; have hI2 := hI1.kept ht2.grown (by simp; omega); have hB2 := HB1.out.turn hbi hbp ht2.grown (fun k e => by cases e; exact .inr rfl); clear HB1 ht2; have HB2 : Hid _ := hB2; obtain ⟨c3,c4,e0,e1,e2,a0,a1,o0,o1,hT,hZ⟩ := hB2))
  refine bodyPost_end (v := .tuple #[]) ?_ rfl ⟨rfl,?_,hT⟩
  ·simp [results,Tryz.results89,go_sem]
  ·have e1 : step L ⟨false,ky,vl,blk,no⟩ = less L ky := by
    show less L ky ++ [] = _
    rw [List.append_nil]
   rw [e1]
   exact ⟨_,_,⟨hI2.mono (Nat.le_succ _),HU.out.1,HU.out.2.1⟩,hP2.mono (Nat.le_succ _),HU.out.2.2⟩
 ·go_enter Tryz.func89,Tryz.ntmps89
  go_wp2_with (first
   | (at_lookup; refine wpList_lookup_own_ok _ rfl _ _ 98 rfl 9 165 keyedStr Tryz.underlying98 rPl (zeroPl _) _ [] (rPl_mk 0 0) bp n DP rfl (((hP.alloc _).alloc _).alloc _) _ _ rfl hkl ?_; intro v ps hv; rw [hat] at hv; obtain rfl := rPl_inv hv; rw [hhas])
   | (at_delete; refine wpList_delete_own _ rfl _ _ 97 165 rfl 54 keyedPl Tryz.underlying97 rIt bi n DI rfl ((((hI.alloc _).alloc _).alloc _).alloc _) _ _ rfl hpky ?_; intro w1 hI1 ht1; have hP1 := ((((hP.alloc _).alloc _).alloc _).alloc _).kept ht1.grown (by simp; omega); have hB1 := hB.turn hbi hbp ht1.grown (fun k e => by cases e; exact .inl rfl); clear hB ht1; have HB1 : Hid _ := hB1; obtain ⟨c3,c4,e0,e1,e2,a0,a1,o0,o1,hT,hZ⟩ := hB1)
   | (at_delete; refine wpList_delete_own _ rfl _ _ 98 9 rfl 165 keyedStr Tryz.underlying98 rPl bp n DP rfl hP1 _ _ rfl hkl ?_; clear c3 c4 e0 e1 e2 a0 a1 o0 o1 hT hZ; intro w2 hP2 ht2; have hI2 := hI1.kept ht2.grown (by simp; omega); have hB2 := HB1.out.turn hbi hbp ht2.grown (fun k e => by cases e; exact .inr rfl); clear HB1 ht2; have HB2 : Hid _ := hB2; obtain ⟨c3,c4,e0,e1,e2,a0,a1,o0,o1,hT,hZ⟩ := hB2)
   | (at_mapUpdate; refine wpList_mapUpdate_own _ rfl _ _ _ 97 rfl 165 54 keyedPl Tryz.underlying97 rIt bi n _ rfl hI2 (by unfold maxLen; omega) _ _ _ rfl rfl hpk _ [] (rIt_mk _ _) ?_; clear c3 c4 e0 e1 e2 a0 a1 o0 o1 hT hZ; intro w3 hI3 hg3; have hP3 := hP2.kept hg3 (by simp; omega); have hB3 := HB2.out.turn hbi hbp hg3 (fun k e => by cases e; exact .inl rfl); clear HB2; obtain ⟨c3,c4,e0,e1,e2,a0,a1,o0,o1,hT,hZ⟩ := hB3)
   | (at_mapUpdate; refine wpList_mapUpdate_own _ rfl _ _ _ 98 rfl 9 165 keyedStr Tryz.underlying98 rPl bp n _ rfl hP3 (by unfold maxLen; omega) _ _ _ rfl rfl hkl _ [] (rPl_mk _ _) ?_; intro w4 hP4 hg4))
  refine bodyPost_end (v := .tuple #[]) ?_ rfl ⟨rfl,?_,hT.grown hg4 (fun k e => by cases e; exact .inr rfl)⟩
  ·simp [results,Tryz.results89,go_sem]
  ·have e1 : step L ⟨true,ky,vl,blk,no⟩ = less L ky ++ [⟨true,ky,vl,blk,no⟩] := rfl
   obtain ⟨⟨v1,v2⟩,v3⟩ := HV.out
   rw [e1]
   simp only [S_data] at hI3 hP4
   exact ⟨_,_,⟨hI3.kept hg4 (by simp; omega),v1,v2⟩,hP4,v3⟩
theorem take_any (h0 h1 h2 : Int) (bi bp n : Nat) (x : Sd) (L : List Sd) (w : World) (hm : Maps2 w bi bp n L) (hL : Lives L) (hs : x.blk < 4294967296 /\ x.no < 4294967296) (hlt : ∀ y ∈ L,placeLt y x) (hkey : x.key.length <= 20) (hn : n < 1000000000) (hne : bi ≠ bp) :
  Calls Tryz.prog 89 #[.agg #[.int .i64 h0,.int .i64 h1,.int .i64 h2,.map (some bi),.map (some bp)],.agg #[.bool x.put,.string (S x.key),.string (S x.val)],.agg #[.int .i64 x.blk,.int .i64 x.no]] w fun e w' => e = .returned (.tuple #[]) /\ Maps2 w' bi bp (n + 1) (step L x) /\ Turn2 bi bp w w' := by
 cases h : fP L (.string x.key) with
 | none => exact take_new h0 h1 h2 bi bp n x L w hm hL hs hlt hkey hn hne h
 | some d =>
  obtain ⟨y,hy,hyk,_⟩ := fP_some h
  exact take_old h0 h1 h2 bi bp n x L w hm hL hs hlt hkey hn hne y hy hyk
theorem zeroIt (w : World) : (zeroValue 54).run Tryz.prog w = .ok (.agg #[.string ⟨#[]⟩,.string ⟨#[]⟩]) w := by first | exact Tryz.zeroValue54 w | kernel_rfl
theorem at_any (h0 h1 h2 : Int) (bi bp n : Nat) (L : List Sd) (x : Sd) (w : World) (hm : Maps2 w bi bp n L) (hL : Lives L) (hx : x ∈ L) :
  Calls Tryz.prog 94 #[.agg #[.int .i64 h0,.int .i64 h1,.int .i64 h2,.map (some bi),.map (some bp)],.agg #[.int .i64 x.blk,.int .i64 x.no]] w fun e w' => e = .returned (.agg #[.string (S x.key),.string (S x.val)]) /\ Below w.heap.size w w' := by
 obtain ⟨hbi,hbp⟩ := hm.lt
 obtain ⟨DI,DP,⟨hI,vI,zI⟩,hP,vP⟩ := hm
 have hs := hL.small x hx
 have hpk := keyOf_pk hs.1 hs.2
 have hat : DI.atKey (pk x.blk x.no) (.agg [.lit (.string []),.lit (.string [])]) = itemD x := by rw [(vI.2 _).1,fI_mem pkInj hL hx]; rfl
 have hI3 := ((hI.alloc (.cells #[.int .i64 h0,.int .i64 h1,.int .i64 h2,.map (some bi),.map (some bp)] 100)).alloc (.cells #[.int .i64 (x.blk : Int),.int .i64 (x.no : Int)] 165)).alloc (.cells #[.string ⟨#[]⟩,.string ⟨#[]⟩] 54)
 obtain ⟨v,ps,hrun,hv⟩ := hI3.lookup keyedPl Tryz.underlying97 (zeroIt _) (zd := .agg [.lit (.string []),.lit (.string [])]) (zp := []) (rIt_mk _ _) hpk
 rw [hat] at hv
 obtain ⟨a',b',rfl,ea,eb⟩ := rIt_inv hv
 have ea' : a' = S x.key := by rw [<- ea,S_of]
 have eb' : b' = S x.val := by rw [<- eb,S_of]
 subst ea' eb'
 clear hat hv ea eb vI vP zI hI hP hI3
 go_enter Tryz.func94,Tryz.ntmps94
 go_wp2
 refine bodyPost_ret (v := .agg #[.string (S x.key),.string (S x.val)]) ?_ rfl ⟨rfl,?_⟩
 ·simp [results,Tryz.results94,go_sem]
 ·exact (((Below.refl _ _).alloc (Nat.le_refl _) _).alloc (by simp) _).alloc (by simp; omega) _
end Go.Proofs.YtdhgebdbiehchaaGreatDoor
