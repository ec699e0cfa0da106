/- On the way: TabB, TabC, RecOpen, RecSlot, RecAt. -/
import Derived.Test.YtdhgebdbiehchaaGreatDoorB16
import Derived.Test.YtdhgebdbiehchaaGreatDoorB12
namespace Go.Proofs.YtdhgebdbiehchaaGreatDoor
open Go.RowKit
set_option linter.unusedSimpArgs false
set_option linter.unusedVariables false
set_option maxRecDepth 100000
set_option maxHeartbeats 3200000
def sltP : Option Slt -> List Value
 | none => [.int .u8 0,.int .i64 0,.int .i64 0,.int .i64 0]
 | some x => [.int .u8 1,.int .i64 x.num,.int .i64 x.blk,.int .i64 x.no]
theorem sltP_length (x : Option Slt) : (sltP x).length = 4 := by cases x <;> rfl
def cellsP (t : List (Option Slt)) : List Value := t.flatMap sltP
theorem cellsP_length (t : List (Option Slt)) : (cellsP t).length = t.length * 4 := by
 induction t with
 | nil => rfl
 | cons x t ih =>
  show (sltP x ++ cellsP t).length = _
  rw [List.length_append,ih,sltP_length,List.length_cons]; omega
theorem cellsP_at {t : List (Option Slt)} {i : Nat} {x : Option Slt} (h : t[i]? = some x) (j : Nat) (hj : j < 4) : (cellsP t)[i * 4 + j]? = (sltP x)[j]? := by
 induction t generalizing i with
 | nil => simp at h
 | cons y t ih =>
  cases i with
  | zero =>
   simp at h; subst h
   show (sltP y ++ cellsP t)[0 * 4 + j]? = _
   rw [List.getElem?_append_left (by rw [sltP_length]; omega)]
   congr 1; omega
  | succ i =>
   show (sltP y ++ cellsP t)[(i + 1) * 4 + j]? = _
   rw [List.getElem?_append_right (by rw [sltP_length]; omega),sltP_length,show (i + 1) * 4 + j - 4 = i * 4 + j by omega]
   exact ih (by simpa using h)
theorem set4 {α : Type} (l r : List α) (x0 x1 x2 x3 y0 y1 y2 y3 : α) (k : Nat) (h : l.length = k) : ((((l ++ x0 :: x1 :: x2 :: x3 :: r).set k y0).set (k + 1) y1).set (k + 2) y2).set (k + 3) y3 = l ++ y0 :: y1 :: y2 :: y3 :: r := by
 subst h
 induction l with
 | nil => rfl
 | cons a l ih => simp
theorem cellsP_set {t : List (Option Slt)} {i : Nat} (h : i < t.length) (x : Slt) : (((((cellsP t).set (i * 4) (.int .u8 1)).set (i * 4 + 1) (.int .i64 x.num)).set (i * 4 + 2) (.int .i64 x.blk)).set (i * 4 + 3) (.int .i64 x.no)) = cellsP (t.set i (some x)) := by
 have e : t = t.take i ++ t[i] :: t.drop (i + 1) := by rw [List.getElem_cons_drop,List.take_append_drop]
 have hl : (t.take i).length = i := by simp; omega
 have e2 : t.set i (some x) = t.take i ++ some x :: t.drop (i + 1) := by
  conv => lhs; rw [e]
  rw [List.set_append_right _ _ (by omega),hl,Nat.sub_self]; rfl
 have c1 : ∀ (l r : List (Option Slt)) (y : Option Slt),cellsP (l ++ y :: r) = cellsP l ++ (sltP y ++ cellsP r) := fun l r y => by simp [cellsP]
 rw [e2,c1]
 conv => lhs; rw [e,c1]
 cases t[i] with
 | none => exact set4 _ _ _ _ _ _ _ _ _ _ _ (by rw [cellsP_length,hl])
 | some y => exact set4 _ _ _ _ _ _ _ _ _ _ _ (by rw [cellsP_length,hl])
theorem made4 (n : Nat) : (madeCells #[.int .u8 0,.int .i64 0,.int .i64 0,.int .i64 0] (n * 4)).toList = cellsP (List.replicate n none) := by
 apply List.ext_getElem?
 intro j
 by_cases hj : j < n * 4
 ·have h4 : j % 4 < 4 := Nat.mod_lt _ (by omega)
  have hd : j / 4 < n := by omega
  have hr : (cellsP (List.replicate n none))[j]? = (sltP none)[j % 4]? := by
   have := cellsP_at (t := List.replicate n none) (i := j / 4) (x := none) (by rw [List.getElem?_replicate,if_pos hd]) (j % 4) h4
   rwa [show j / 4 * 4 + j % 4 = j by omega] at this
  rw [hr]
  simp [madeCells,hj]
  generalize j % 4 = q at *
  match q,h4 with
  | 0,_ => rfl
  | 1,_ => rfl
  | 2,_ => rfl
  | 3,_ => rfl
 ·have h1 : (cellsP (List.replicate n none))[j]? = none := List.getElem?_eq_none (by rw [cellsP_length]; simp; omega)
  rw [h1]
  simp [madeCells,hj]
theorem pslot_at {w : World} {base g cap n : Nat} {t : List (Option Slt)} {a : Nat} {x : Option Slt} (h : w.ownsRow base 175 4 (.slice (some ⟨g,0,none⟩) n cap) n (cellsP t)) (hx : t[a]? = some x) (ha : a < n) : w.cell? ⟨g,a * 4,none⟩ = (sltP x)[0]? /\ w.cell? ⟨g,a * 4 + 1,none⟩ = (sltP x)[1]? /\ w.cell? ⟨g,a * 4 + 2,none⟩ = (sltP x)[2]? /\ w.cell? ⟨g,a * 4 + 3,none⟩ = (sltP x)[3]? :=
 ⟨(h.cellAt (a * 4) (by omega)).trans (cellsP_at hx 0 (by omega)),(h.cellAt (a * 4 + 1) (by omega)).trans (cellsP_at hx 1 (by omega)),(h.cellAt (a * 4 + 2) (by omega)).trans (cellsP_at hx 2 (by omega)),(h.cellAt (a * 4 + 3) (by omega)).trans (cellsP_at hx 3 (by omega))⟩
theorem farthest_any (g n cap base : Nat) (t : List (Option Slt)) (w : World) (hown : w.ownsRow base 175 4 (.slice (some ⟨g,0,none⟩) n cap) n (cellsP t)) (htl : t.length = n) (hn0 : 0 < n) (hn : n <= 5000) (hnum : ∀ y : Slt,some y ∈ t -> y.num < 4294967296) :
  Calls Tryz.prog 95 #[.slice (some ⟨g,0,none⟩) n cap] w fun e w' => e = .returned (.int .i64 (farP n t n : Nat)) /\ Below w.heap.size w w' := by
 go_enter Tryz.func95,Tryz.ntmps95
 go_wp2
 go_loopw [3,8] (fun fr i wr => ∃ (k : Nat),k <= n /\ i = .int .i64 k /\ fr = .int .i64 (farP n t k : Nat) /\ wr.ownsRow base 175 4 (.slice (some ⟨g,0,none⟩) n cap) n (cellsP t) /\ Below w.heap.size w wr) (fun _ i _ => n - (intOf i).toNat)
 case atStart => exact ⟨0,Nat.zero_le _,rfl,rfl,hown,Below.refl _ _⟩
 case round =>
  obtain ⟨k,hk,rfl,rfl,hrow,hb⟩ := hrel
  clear hown
  have hfar := farP_lt (n := n) hn0 t k
  by_cases hkn : k < n
  ·have hta : t[k]? = some t[k] := List.getElem?_eq_getElem (by omega)
   obtain ⟨z0,z1,z2,z3⟩ := pslot_at hrow hta hkn
   have HROW : Hid (wr.ownsRow base 175 4 (.slice (some ⟨g,0,none⟩) n cap) n (cellsP t)) := hrow
   have HB : Hid (Below w.heap.size w wr) := hb
   have hbs := hb.size
   clear hrow hb
   cases hy : t[k] with
   | none =>
    rw [hy] at hta z0 z1 z2 z3
    simp only [sltP,List.getElem?_cons_zero,List.getElem?_cons_succ] at z0 z1 z2 z3
    have HFP : Hid (farP n t (k + 1) = farP n t k) := farP_none hta
    clear hy hta hnum
    generalize farP n t k = fk at *
    go_wp2
    go_roundw
    case rel => exact ⟨k + 1,by omega,by first | rfl | go_num,by rw [HFP.out],HROW.out.alloc _,HB.out.alloc hbs _⟩
    case measure => first | (simp [intOf]; omega) | (simp [intOf])
   | some y =>
    have hym : some y ∈ t := List.mem_of_getElem? (by rw [hta,hy])
    rw [hy] at hta z0 z1 z2 z3
    simp only [sltP,List.getElem?_cons_zero,List.getElem?_cons_succ] at z0 z1 z2 z3
    have hyn := hnum y hym
    have HFP : Hid (farP n t (k + 1) = max (farP n t k) (awayN n y k)) := farP_some hta
    have hawl := awayN_lt hn0 y k
    have HAY := awayP_any (some ⟨g,0,none⟩) n cap 1 y k
    clear hy hta hnum hym
    generalize awayN n y k = d at *
    generalize farP n t k = fk at *
    go_wp2_with fail
    refine (HAY _ hkn hn hyn).mono ?_
    rintro e w4 ⟨rfl,hb4⟩
    have HR4 : Hid (w4.ownsRow base 175 4 (.slice (some ⟨g,0,none⟩) n cap) n (cellsP t)) := own_below (HROW.out.alloc _) hb4 (Nat.le_refl _)
    have HB4 : Hid (Below w.heap.size w w4) := (HB.out.alloc hbs _).trans (hb4.mono (by simp; omega))
    clear HAY hb4 z0 z1 z2 z3
    by_cases hdf : fk < d
    ·have HFX : Hid (farP n t (k + 1) = d) := by show _ = _; rw [HFP.out]; omega
     go_wp2
     go_roundw
     case rel => exact ⟨k + 1,by omega,by first | rfl | go_num,by rw [HFX.out],HR4.out,HB4.out⟩
     case measure => first | (simp [intOf]; omega) | (simp [intOf])
    ·have HFX : Hid (farP n t (k + 1) = fk) := by show _ = _; rw [HFP.out]; omega
     go_wp2
     go_roundw
     case rel => exact ⟨k + 1,by omega,by first | rfl | go_num,by rw [HFX.out],HR4.out,HB4.out⟩
     case measure => first | (simp [intOf]; omega) | (simp [intOf])
  ·have hke : k = n := by omega
   subst hke
   obtain ⟨fk,hfk⟩ : ∃ fk,fk = farP k t k := ⟨_,rfl⟩
   have HFK : Hid (fk = farP k t k) := hfk
   rw [<- hfk]
   clear hfk
   go_wp2
   go_ret
   exact ⟨ret_int (by rw [HFK.out]),hb⟩
theorem own_not {w : World} {base e size n b f : Nat} {v : Value} {xs : List Value} {cur : Array Value} (h : w.ownsRow base e size v n xs) (hb : w.heap[b]? = some (.cells cur f (0,0))) (hne : e ≠ f) : some b ≠ v.ownBlock := by
 rcases h.2 with ⟨rfl,_⟩ | ⟨g,cap,cur',rfl,_,hg,_⟩
 ·simp [Value.ownBlock]
 ·intro h
  simp [Value.ownBlock] at h
  subst h
  rw [hg] at hb
  simp at hb
  exact hne hb.2
theorem box_alloc {w : World} {b f : Nat} {cur : Array Value} (hb : w.heap[b]? = some (.cells cur f (0,0))) (o : Obj) : (w.alloc o).heap[b]? = some (.cells cur f (0,0)) :=
 (Below.heap_alloc w o b (Array.getElem?_eq_some_iff.1 hb).1).trans hb
theorem box_grown {w w' : World} {base e size n b f : Nat} {v : Value} {xs : List Value} {cur : Array Value} (hb : w.heap[b]? = some (.cells cur f (0,0))) (h : w.ownsRow base e size v n xs) (hne : e ≠ f) (hg : w.grownBy w' v.ownBlock) : w'.heap[b]? = some (.cells cur f (0,0)) :=
 (hg.block b (Array.getElem?_eq_some_iff.1 hb).1 (own_not h hb hne)).trans hb
theorem appendLow_box (v : Value) (l : List UInt8) (n : Int) (k : Nat) (w : World) (base : Nat) (hn : 0 <= n) (hn' : n <= 9223372036854775807) (hk : k <= 8)
  (hown : w.ownsRow base 5 1 v l.length (cellsB l)) (hbase : base <= w.heap.size) (hl : l.length <= 1000000000) (b f : Nat) (cur : Array Value) (hbx : w.heap[b]? = some (.cells cur f (0,0))) (hf : 5 ≠ f) :
  Calls Tryz.prog 129 #[v,.int .i64 n,.int .i64 k] w fun e w' => ∃ v',e = .returned v' /\ w'.ownsRow base 5 1 v' (l.length + k) (cellsB (l ++ lowL n.toNat k)) /\ Below base w w' /\ w'.heap[b]? = some (.cells cur f (0,0)) := by
 obtain ⟨i0,hi,hz0,hz1,hz2⟩ := info_parts info_u8
 have HBX : Hid (w.heap[b]? = some (.cells cur f (0,0))) := hbx
 clear hbx
 go_enter Tryz.func129,Tryz.ntmps129
 go_wp2
 go_loopw [0,9] (fun m i wr => ∃ (j : Nat),j <= k /\ i = .int .i64 j /\ wr.ownsRow base 5 1 m (l.length + j) (cellsB (l ++ lowL n.toNat j)) /\ Below base w wr /\ Hid (wr.heap[b]? = some (.cells cur f (0,0)))) (fun _ i _ => k - (intOf i).toNat)
 case atStart => exact ⟨0,Nat.zero_le _,rfl,by simpa [lowL] using hown,Below.refl _ _,HBX⟩
 case round =>
  obtain ⟨j,hj,rfl,ho,hb,HB⟩ := hrel
  by_cases hlt : j < k
  ·have h8 : (0 : Int) <= 8 * (j : Int) := by omega
   have h9 : 8 * (j : Int) <= 64 := by omega
   go_wp2_with (at_builtin; refine wpList_append_own _ rfl (.tmp 12) (.tmp 18) 43 rfl base 5 i0 (.int .u8 0) 1 1 Tryz.underlying43 hi hz0 hz1 hz2 rfl (by decide) _ _ _ rfl (ho.alloc _) ⟨wr.heap.size,0,none⟩ 1 1 [.int .u8 (IntKind.u8.wrap (n / 2 ^ (8 * (j : Int)).toNat))] rfl rfl ?c1 ?c2 ?c3 ?c4 ?c5 ?_)
   case c1 => exact cell_one_new _ _ _
   case c2 => intro u hu; simp at hu; subst hu; rfl
   case c3 => unfold maxLen; omega
   case c4 => omega
   case c5 => have := hb.size; simp; omega
   intro v' w1 hown' hgrow _
   have HB1 : Hid (w1.heap[b]? = some (.cells cur f (0,0))) := box_grown (box_alloc HB.out _) (ho.alloc _) hf hgrow
   clear h8 h9
   go_wp2
   go_roundw
   case rel =>
    refine ⟨j + 1,by omega,by go_num,?_,?_,HB1⟩
    ·rw [<- cells_snoc hn]; exact hown'
    ·exact (hb.alloc (by have := hb.size; omega) _).grown hgrow (by have := hb.size; simp; omega) (own_ge ho)
   case measure => simp [intOf]; omega
  ·have hjk : j = k := by omega
   subst hjk
   go_wp2
   go_ret
   exact ⟨_,rfl,ho,hb,HB.out⟩
theorem slot_parts (x : Option Slt) (hx : ∀ y,x = some y -> y.num < 4294967296 /\ y.blk <= 100000 /\ y.no <= 255) : ∃ kd nm bl no : Nat,(sltP x = [.int .u8 (kd : Int),.int .i64 (nm : Int),.int .i64 (bl : Int),.int .i64 (no : Int)] /\ sltB x = (([UInt8.ofNat kd] ++ lowL nm 4) ++ lowL bl 4) ++ lowL no 1) /\ kd <= 1 /\ nm < 4294967296 /\ bl <= 100000 /\ no <= 255 := by
 cases x with
 | none => exact ⟨0,0,0,0,⟨rfl,rfl⟩,by omega,by omega,by omega,by omega⟩
 | some y =>
  have := hx y rfl
  exact ⟨1,y.num,y.blk,y.no,⟨rfl,rfl⟩,by omega,by omega,by omega,by omega⟩
theorem cellsB_one (l : List UInt8) {kd : Nat} (h : kd <= 1) : cellsB l ++ [.int .u8 (kd : Int)] = cellsB (l ++ [UInt8.ofNat kd]) := by
 rw [cellsB_append]
 congr 1
 simp [cellsB]
 omega
theorem box_cells {w : World} {b f : Nat} {x0 x1 x2 x3 : Value} (h : w.heap[b]? = some (.cells #[x0,x1,x2,x3] f (0,0))) : w.cell? ⟨b,0,none⟩ = some x0 /\ w.cell? ⟨b,1,none⟩ = some x1 /\ w.cell? ⟨b,2,none⟩ = some x2 /\ w.cell? ⟨b,3,none⟩ = some x3 :=
 ⟨cell_of_row w b 0 _ f _ h,cell_of_row w b 1 _ f _ h,cell_of_row w b 2 _ f _ h,cell_of_row w b 3 _ f _ h⟩
theorem tableBytes_any (g n cap base : Nat) (t : List (Option Slt)) (w : World) (hown : w.ownsRow base 175 4 (.slice (some ⟨g,0,none⟩) n cap) n (cellsP t)) (htl : t.length = n) (hn0 : 0 < n) (hn : n <= 5000) (hslt : ∀ y : Slt,some y ∈ t -> y.num < 4294967296 /\ y.blk <= 100000 /\ y.no <= 255) (hH : HalvesAt w) :
  Calls Tryz.prog 98 #[.slice (some ⟨g,0,none⟩) n cap] w fun e w' => ∃ v',e = .returned v' /\ w'.ownsRow w.heap.size 5 1 v' (sealL (tabB t)).length (cellsB (sealL (tabB t))) /\ Below w.heap.size w w' := by
 obtain ⟨i0,hi,hz0,hz1,hz2⟩ := info_parts info_u8
 have HH : Hid (HalvesAt w) := hH
 have HOWN : Hid (w.ownsRow base 175 4 (.slice (some ⟨g,0,none⟩) n cap) n (cellsP t)) := hown
 have hgw : g < w.heap.size := by
  obtain ⟨g',c',he,_,hgw',_⟩ := own_cellsN hown hn0
  simp at he; omega
 clear hH hown
 go_enter Tryz.func98,Tryz.ntmps98
 go_wp2
 go_loopw [3,8] (fun bv i wr => ∃ (k : Nat),k <= n /\ i = .int .i64 k /\ wr.ownsRow w.heap.size 5 1 bv (tabB (t.take k)).length (cellsB (tabB (t.take k))) /\ Below w.heap.size w wr) (fun _ i _ => n - (intOf i).toNat)
 case atStart => exact ⟨0,Nat.zero_le _,rfl,World.ownsRow_nil _ _ _ _,Below.refl _ _⟩
 case round =>
  obtain ⟨k,hk,rfl,hrow,hb⟩ := hrel
  obtain ⟨W1,rfl⟩ : ∃ W1,W1 = wr := ⟨_,rfl⟩
  have hbs := hb.size
  have hll : (tabB (t.take k)).length <= 60000 := by rw [tabB_length]; simp; omega
  by_cases hkn : k < n
  ·have hta : t[k]? = some t[k] := List.getElem?_eq_getElem (by omega)
   obtain ⟨kd,nm,bl,no,⟨hP,hS⟩,l1,l2,l3,l4⟩ := slot_parts t[k] (fun y hy => hslt y (List.mem_of_getElem? (by rw [hta,hy])))
   obtain ⟨z0,z1,z2,z3⟩ := pslot_at HOWN.out hta hkn
   rw [hP] at z0 z1 z2 z3
   simp only [List.getElem?_cons_zero,List.getElem?_cons_succ] at z0 z1 z2 z3
   replace z0 := (hb.cell (p := ⟨g,k * 4,none⟩) hgw).trans z0
   replace z1 := (hb.cell (p := ⟨g,k * 4 + 1,none⟩) hgw).trans z1
   replace z2 := (hb.cell (p := ⟨g,k * 4 + 2,none⟩) hgw).trans z2
   replace z3 := (hb.cell (p := ⟨g,k * 4 + 3,none⟩) hgw).trans z3
   have HTK : Hid (tabB (t.take (k + 1)) = tabB (t.take k) ++ ((([UInt8.ofNat kd] ++ lowL nm 4) ++ lowL bl 4) ++ lowL no 1)) := by
    show _ = _
    rw [List.take_succ_eq_append_getElem (by omega),tabB_snoc,hS]
   have hbox : (W1.alloc (.cells #[.int .u8 (kd : Int),.int .i64 (nm : Int),.int .i64 (bl : Int),.int .i64 (no : Int)] 175)).heap[W1.heap.size]? = some (.cells #[.int .u8 (kd : Int),.int .i64 (nm : Int),.int .i64 (bl : Int),.int .i64 (no : Int)] 175 (0,0)) := heap_alloc_new W1 _
   have HBOX : Hid _ := hbox
   have HROW : Hid (W1.ownsRow w.heap.size 5 1 u3 (tabB (t.take k)).length (cellsB (tabB (t.take k)))) := hrow
   have HB : Hid (Below w.heap.size w W1) := hb
   clear hta hP hS hrow hb hbox hslt
   generalize tabB (t.take k) = l at *
   go_wp2_with (at_builtin; refine wpList_append_own _ rfl (.tmp 12) (.tmp 15) 43 rfl w.heap.size 5 i0 (.int .u8 0) 1 1 Tryz.underlying43 hi hz0 hz1 hz2 rfl (by decide) _ _ _ rfl ((HROW.out.alloc _).alloc _) ⟨W1.heap.size + 1,0,none⟩ 1 1 [.int .u8 (kd : Int)] rfl rfl ?c1 ?c2 ?c3 ?c4 ?c5 ?_)
   case c1 =>
    have h5 := cell_one_new (W1.alloc (.cells #[.int .u8 (kd : Int),.int .i64 (nm : Int),.int .i64 (bl : Int),.int .i64 (no : Int)] 175)) (.int .u8 (kd : Int)) 5
    rwa [show (W1.alloc (.cells #[.int .u8 (kd : Int),.int .i64 (nm : Int),.int .i64 (bl : Int),.int .i64 (no : Int)] 175)).heap.size = W1.heap.size + 1 by simp] at h5
   case c2 => intro u hu; simp at hu; subst hu; rfl
   case c3 => unfold maxLen; omega
   case c4 => omega
   case c5 => simp; omega
   intro v1 w1 hown1 hg1 _
   have hrow1 : w1.ownsRow w.heap.size 5 1 v1 (l ++ [UInt8.ofNat kd]).length (cellsB (l ++ [UInt8.ofNat kd])) := by
    rw [<- cellsB_one l l1,List.length_append]; exact hown1
   have hbx1 := box_grown (box_alloc HBOX.out (.cells #[.int .u8 (kd : Int)] 5)) ((HROW.out.alloc _).alloc _) (by decide) hg1
   have hB1 : Below w.heap.size w w1 := ((HB.out.alloc hbs _).alloc (by simp; omega) _).grown hg1 (by simp; omega) (own_ge HROW.out)
   have HBX1 : Hid _ := hbx1
   have HB1 : Hid (Below w.heap.size w w1) := hB1
   have HROW1 : Hid (w1.ownsRow w.heap.size 5 1 v1 (l ++ [UInt8.ofNat kd]).length (cellsB (l ++ [UInt8.ofNat kd]))) := hrow1
   obtain ⟨_,x1,_,_⟩ := box_cells hbx1
   have hs1 := hB1.size
   have HA1 : Hid _ := appendLow_box v1 (l ++ [UInt8.ofNat kd]) (nm : Int) 4 w1 w.heap.size (by omega) (by omega) (by omega) hrow1 hs1 (by simp; omega) W1.heap.size 175 _ hbx1 (by decide)
   clear hown1 hg1 hrow1 hbx1 hB1 z0 z1 z2 z3 HROW HBOX HB
   go_wp2_with fail
   refine Calls.mono HA1.out ?_
   rintro e w2 ⟨v2,rfl,hrow2,hb2,hbx2⟩
   have hB2 : Below w.heap.size w w2 := HB1.out.trans hb2
   have hl2 : (l ++ [UInt8.ofNat kd]).length + 4 = ((l ++ [UInt8.ofNat kd]) ++ lowL nm 4).length := by simp [lowL_length]
   rw [Int.toNat_natCast,hl2] at hrow2
   obtain ⟨_,_,x2,_⟩ := box_cells hbx2
   have HA2 : Hid _ := appendLow_box v2 ((l ++ [UInt8.ofNat kd]) ++ lowL nm 4) (bl : Int) 4 w2 w.heap.size (by omega) (by omega) (by omega) hrow2 hB2.size (by simp [lowL_length]; omega) W1.heap.size 175 _ hbx2 (by decide)
   have HB2 : Hid (Below w.heap.size w w2) := hB2
   clear x1 HA1 HB1 hrow2 hb2 hbx2 hB2 hl2 HBX1 HROW1
   go_wp2_with fail
   refine Calls.mono HA2.out ?_
   rintro e w3 ⟨v3,rfl,hrow3,hb3,hbx3⟩
   have hB3 : Below w.heap.size w w3 := HB2.out.trans hb3
   have hl3 : ((l ++ [UInt8.ofNat kd]) ++ lowL nm 4).length + 4 = (((l ++ [UInt8.ofNat kd]) ++ lowL nm 4) ++ lowL bl 4).length := by simp [lowL_length]
   rw [Int.toNat_natCast,hl3] at hrow3
   obtain ⟨_,_,_,x3⟩ := box_cells hbx3
   have HA3 : Hid _ := appendLow_box v3 (((l ++ [UInt8.ofNat kd]) ++ lowL nm 4) ++ lowL bl 4) (no : Int) 1 w3 w.heap.size (by omega) (by omega) (by omega) hrow3 hB3.size (by simp [lowL_length]; omega) W1.heap.size 175 _ hbx3 (by decide)
   have HB3 : Hid (Below w.heap.size w w3) := hB3
   clear x2 HA2 HB2 hrow3 hb3 hbx3 hB3 hl3
   go_wp2_with fail
   refine Calls.mono HA3.out ?_
   rintro e w4 ⟨v4,rfl,hrow4,hb4,_⟩
   have HB4 : Hid (Below w.heap.size w w4) := HB3.out.trans hb4
   have hl4 : (((l ++ [UInt8.ofNat kd]) ++ lowL nm 4) ++ lowL bl 4).length + 1 = ((((l ++ [UInt8.ofNat kd]) ++ lowL nm 4) ++ lowL bl 4) ++ lowL no 1).length := by simp [lowL_length]
   have he4 : (((l ++ [UInt8.ofNat kd]) ++ lowL nm 4) ++ lowL bl 4) ++ lowL no 1 = tabB (t.take (k + 1)) := by rw [HTK.out]; simp [List.append_assoc]
   rw [Int.toNat_natCast,hl4,he4] at hrow4
   have HROW4 : Hid (w4.ownsRow w.heap.size 5 1 v4 (tabB (t.take (k + 1))).length (cellsB (tabB (t.take (k + 1))))) := hrow4
   clear x3 HA3 HB3 hrow4 hb4 hl4 he4
   go_wp2
   go_roundw
   case rel => exact ⟨k + 1,by omega,by first | rfl | go_num,HROW4.out,HB4.out⟩
   case measure => first | (simp [intOf]; omega) | (simp [intOf])
  ·have hke : k = n := by omega
   subst hke
   rw [show t.take k = t from List.take_of_length_le (by omega)] at hrow hll
   have HSE : Hid _ := seal_any _ (tabB t) w.heap.size W1 hrow hbs (by omega) (HH.out.below hb HH.out.1)
   clear hrow
   go_wp2_with fail
   refine Calls.mono HSE.out ?_
   rintro e w2 ⟨v2,rfl,hrow2,hb2⟩
   have HROW2 : Hid (w2.ownsRow w.heap.size 5 1 v2 (sealL (tabB t)).length (cellsB (sealL (tabB t)))) := hrow2
   clear hrow2
   go_wp2
   go_ret
   exact ⟨_,rfl,HROW2.out,hb.trans hb2⟩
theorem beginsE_ix (log ix : List UInt8) : beginsE log ix = if ixOK ix = false then 3 else if (decide (ixSize ix = log.length) && decide ((ixSum ix : Int) = sumI log)) = false then 4 else if headB log = false then 3 else 0 := by
 unfold beginsE
 have e1 : (ix.length < 20 \/ sealedB (ix.take 20) = false \/ (ix.take 2 == [73,88]) = false \/ ixN ix = 0 \/ ix.length ≠ 20 + 10 * ixN ix + 4) ↔ ixOK ix = false := by
  unfold ixOK
  cases hA : sealedB (ix.take 20) <;> cases hB : (ix.take 2 == [73,88]) <;> simp <;> omega
 have e2 : (ixSize ix ≠ log.length \/ (ixSum ix : Int) ≠ sumI log) ↔ (decide (ixSize ix = log.length) && decide ((ixSum ix : Int) = sumI log)) = false := by
  simp only [Bool.and_eq_false_iff,decide_eq_false_iff_not]
 by_cases h1 : ixOK ix = false
 ·rw [if_pos (e1.2 h1),if_pos h1]
 ·rw [if_neg (fun h => h1 (e1.1 h)),if_neg h1]
  by_cases h2 : (decide (ixSize ix = log.length) && decide ((ixSum ix : Int) = sumI log)) = false
  ·rw [if_pos (e2.2 h2),if_pos h2]
  ·rw [if_neg (fun h => h2 (e2.1 h)),if_neg h2]
def viewV (log : ByteArray) (bk sd bt xl xn xf xs xm : Nat) (body : ByteArray) : Value := .agg #[.string log,.int .i64 bk,.int .i64 sd,.int .i64 bt,.int .i64 xl,.int .i64 xn,.int .i64 xf,.int .i64 xs,.int .i64 xm,.string body]
def openV (log ix : ByteArray) : Value := if beginsE log.data.toList ix.data.toList = 0 then .tuple #[viewV log (hdBlk log.data.toList) (hdSeed log.data.toList) (hdBits log.data.toList) (ixLive ix.data.toList) (ixN ix.data.toList) (ixFar ix.data.toList) (ixSize ix.data.toList) (ixSum ix.data.toList) (S ((ix.data.toList.drop 20).take (10 * ixN ix.data.toList))),.int .i64 0] else .tuple #[.agg #[.string ⟨#[]⟩,.int .i64 0,.int .i64 0,.int .i64 0,.int .i64 0,.int .i64 0,.int .i64 0,.int .i64 0,.int .i64 0,.string ⟨#[]⟩],.int .i64 (beginsE log.data.toList ix.data.toList)]
theorem openV_err {log ix : ByteArray} {n : Int} (h : beginsE log.data.toList ix.data.toList = n) (hn : n ≠ 0) : openV log ix = .tuple #[.agg #[.string ⟨#[]⟩,.int .i64 0,.int .i64 0,.int .i64 0,.int .i64 0,.int .i64 0,.int .i64 0,.int .i64 0,.int .i64 0,.string ⟨#[]⟩],.int .i64 n] := by
 unfold openV
 rw [h,if_neg hn]
def Box10 (w W : World) : Prop := (W.cell? ⟨w.heap.size,0,none⟩ = some (.string ⟨#[]⟩) /\ W.cell? ⟨w.heap.size,1,none⟩ = some (.int .i64 0) /\ W.cell? ⟨w.heap.size,2,none⟩ = some (.int .i64 0) /\ W.cell? ⟨w.heap.size,3,none⟩ = some (.int .i64 0) /\ W.cell? ⟨w.heap.size,4,none⟩ = some (.int .i64 0) /\ W.cell? ⟨w.heap.size,5,none⟩ = some (.int .i64 0) /\ W.cell? ⟨w.heap.size,6,none⟩ = some (.int .i64 0) /\ W.cell? ⟨w.heap.size,7,none⟩ = some (.int .i64 0) /\ W.cell? ⟨w.heap.size,8,none⟩ = some (.int .i64 0) /\ W.cell? ⟨w.heap.size,9,none⟩ = some (.string ⟨#[]⟩)) /\ (∀ i,W.frozen? ⟨w.heap.size,i,none⟩ = false) /\ Below w.heap.size w W /\ w.heap.size < W.heap.size
theorem Box10.below {w W W' : World} (h : Box10 w W) (hb : Below W.heap.size W W') : Box10 w W' := by
 obtain ⟨⟨h0,h1,h2,h3,h4,h5,h6,h7,h8,h9⟩,hf,hB,hz⟩ := h
 exact ⟨⟨(hb.cell (p := ⟨w.heap.size,0,none⟩) hz).trans h0,(hb.cell (p := ⟨w.heap.size,1,none⟩) hz).trans h1,(hb.cell (p := ⟨w.heap.size,2,none⟩) hz).trans h2,(hb.cell (p := ⟨w.heap.size,3,none⟩) hz).trans h3,(hb.cell (p := ⟨w.heap.size,4,none⟩) hz).trans h4,(hb.cell (p := ⟨w.heap.size,5,none⟩) hz).trans h5,(hb.cell (p := ⟨w.heap.size,6,none⟩) hz).trans h6,(hb.cell (p := ⟨w.heap.size,7,none⟩) hz).trans h7,(hb.cell (p := ⟨w.heap.size,8,none⟩) hz).trans h8,(hb.cell (p := ⟨w.heap.size,9,none⟩) hz).trans h9⟩,fun i => (hb.frozen (p := ⟨w.heap.size,i,none⟩) hz).trans (hf i),hB.trans (hb.mono (Nat.le_of_lt hz)),Nat.lt_of_lt_of_le hz hb.size⟩
theorem box10_new (w : World) (t : TypeId) : Box10 w (w.alloc (.cells #[.string ⟨#[]⟩,.int .i64 0,.int .i64 0,.int .i64 0,.int .i64 0,.int .i64 0,.int .i64 0,.int .i64 0,.int .i64 0,.string ⟨#[]⟩] t)) :=
 ⟨⟨by simp,by simp,by simp,by simp,by simp,by simp,by simp,by simp,by simp,by simp⟩,fun i => by simp,(Below.refl _ _).alloc (Nat.le_refl _) _,by simp⟩
theorem open_any (log ix : ByteArray) (w : World) (hlog : log.size <= 140737488351232) (hix : ix.size <= 140737488351232) (hH : HalvesAt w) :
  Calls Tryz.prog 81 #[.string log,.string ix] w fun e w' => e = .returned (openV log ix) /\ Below w.heap.size w w' := by
 have hl : log.data.toList.length = log.size := by simp
 have HBE : Hid (beginsE log.data.toList ix.data.toList = _) := beginsE_ix log.data.toList ix.data.toList
 have hB0 := box10_new w 141
 have hH0 := hH.below hB0.2.2.1 hH.1
 have HRF : Hid _ := readFront_any ix _ hix hH0
 have HHW : Hid (HalvesAt w) := hH
 clear hH0 hH
 go_enter Tryz.func81,Tryz.ntmps81
 go_wp2_with fail
 refine Calls.mono HRF.out ?_
 rintro e w1 ⟨rfl,hb1⟩
 have hB1 := hB0.below hb1
 clear hB0 hb1 HRF
 rw [frontV]
 cases hok : ixOK ix.data.toList
 ·rw [if_neg (by decide)]
  have HV : Hid (openV log ix = _) := openV_err (by rw [HBE.out,if_pos hok]) (by decide)
  obtain ⟨⟨r0,r1,r2,r3,r4,r5,r6,r7,r8,r9⟩,rf,hB,hz⟩ := hB1
  have HB : Hid (Below w.heap.size w w1) := hB
  have f0 := rf 0
  have f1 := rf 1
  have f2 := rf 2
  have f3 := rf 3
  have f4 := rf 4
  have f5 := rf 5
  have f6 := rf 6
  have f7 := rf 7
  have f8 := rf 8
  have f9 := rf 9
  have hne : w.heap.size ≠ w1.heap.size := by omega
  have hne2 : w1.heap.size ≠ w.heap.size := by omega
  clear rf hB HBE hok
  go_wp2
  exact bodyPost_ret (v := .tuple #[.agg #[.string ⟨#[]⟩,.int .i64 0,.int .i64 0,.int .i64 0,.int .i64 0,.int .i64 0,.int .i64 0,.int .i64 0,.int .i64 0,.string ⟨#[]⟩],.int .i64 3]) (by simp [results,Tryz.results81,go_sem,r0,r1,r2,r3,r4,r5,r6,r7,r8,r9,hz]) rfl ⟨by rw [HV.out],((((((((((HB.out.setCell (Nat.le_refl _) _).setCell (Nat.le_refl _) _).setCell (Nat.le_refl _) _).setCell (Nat.le_refl _) _).setCell (Nat.le_refl _) _).setCell (Nat.le_refl _) _).setCell (Nat.le_refl _) _).setCell (Nat.le_refl _) _).setCell (Nat.le_refl _) _).setCell (Nat.le_refl _) _).alloc (by simp; omega) _⟩
 ·rw [if_pos rfl]
  have HBE2 : Hid (beginsE log.data.toList ix.data.toList = if (decide (ixSize ix.data.toList = log.size) && decide ((ixSum ix.data.toList : Int) = sumI log.data.toList)) = false then 4 else if headB log.data.toList = false then 3 else 0) := by
   show _ = _
   rw [HBE.out,if_neg (by rw [hok]; decide),hl]
  have HOV : Hid (beginsE log.data.toList ix.data.toList = 0 -> openV log ix = .tuple #[viewV log (hdBlk log.data.toList) (hdSeed log.data.toList) (hdBits log.data.toList) (ixLive ix.data.toList) (ixN ix.data.toList) (ixFar ix.data.toList) (ixSize ix.data.toList) (ixSum ix.data.toList) (S ((ix.data.toList.drop 20).take (10 * ixN ix.data.toList))),.int .i64 0]) := fun h => by rw [openV,if_pos h]
  clear HBE hok
  generalize ixLive ix.data.toList = xl at *
  generalize ixFar ix.data.toList = xf at *
  generalize ixSize ix.data.toList = xs at *
  generalize ixSum ix.data.toList = xm at *
  generalize S ((ix.data.toList.drop 20).take (10 * ixN ix.data.toList)) = body at *
  generalize ixN ix.data.toList = xn at *
  have HIS : Hid _ := isOf_any xl xn xf xs xm log
  have hA := (Below.refl w1.heap.size w1).alloc (Nat.le_refl _) (.cells #[.int .i64 (xl : Int),.int .i64 (xn : Int),.int .i64 (xf : Int),.int .i64 (xs : Int),.int .i64 (xm : Int)] 139)
  have hBA := hB1.below hA
  have hzA : (w1.alloc (.cells #[.int .i64 (xl : Int),.int .i64 (xn : Int),.int .i64 (xf : Int),.int .i64 (xs : Int),.int .i64 (xm : Int)] 139)).heap.size = w1.heap.size + 1 := by simp
  go_wp2_with fail
  refine (HIS.out _ (by omega)).mono ?_
  rintro e w2 ⟨rfl,hb2⟩
  have hB2 := hBA.below hb2
  have hz12 : w1.heap.size < w2.heap.size := by have := hb2.size; omega
  have d0 : w2.cell? ⟨w1.heap.size,0,none⟩ = some (.int .i64 xl) := by rw [hb2.cell (p := ⟨w1.heap.size,0,none⟩) (by simp)]; simp
  have d1 : w2.cell? ⟨w1.heap.size,1,none⟩ = some (.int .i64 xn) := by rw [hb2.cell (p := ⟨w1.heap.size,1,none⟩) (by simp)]; simp
  have d2 : w2.cell? ⟨w1.heap.size,2,none⟩ = some (.int .i64 xf) := by rw [hb2.cell (p := ⟨w1.heap.size,2,none⟩) (by simp)]; simp
  have d3 : w2.cell? ⟨w1.heap.size,3,none⟩ = some (.int .i64 xs) := by rw [hb2.cell (p := ⟨w1.heap.size,3,none⟩) (by simp)]; simp
  have d4 : w2.cell? ⟨w1.heap.size,4,none⟩ = some (.int .i64 xm) := by rw [hb2.cell (p := ⟨w1.heap.size,4,none⟩) (by simp)]; simp
  have hz01 : w.heap.size < w1.heap.size := hB1.2.2.2
  clear hBA hA hb2 HIS hB1 hzA
  cases hof : (decide (xs = log.size) && decide ((xm : Int) = sumI log.data.toList))
  ·have HV : Hid (openV log ix = _) := openV_err (by rw [HBE2.out,if_pos hof]) (by decide)
   clear HBE2 HOV hof
   obtain ⟨⟨r0,r1,r2,r3,r4,r5,r6,r7,r8,r9⟩,rf,hB,hz⟩ := hB2
   have HB : Hid (Below w.heap.size w w2) := hB
   have f0 := rf 0
   have f1 := rf 1
   have f2 := rf 2
   have f3 := rf 3
   have f4 := rf 4
   have f5 := rf 5
   have f6 := rf 6
   have f7 := rf 7
   have f8 := rf 8
   have f9 := rf 9
   have hne : w.heap.size ≠ w2.heap.size := by omega
   have hne2 : w2.heap.size ≠ w.heap.size := by omega
   clear rf hB
   go_wp2
   exact bodyPost_ret (v := .tuple #[.agg #[.string ⟨#[]⟩,.int .i64 0,.int .i64 0,.int .i64 0,.int .i64 0,.int .i64 0,.int .i64 0,.int .i64 0,.int .i64 0,.string ⟨#[]⟩],.int .i64 4]) (by simp [results,Tryz.results81,go_sem,r0,r1,r2,r3,r4,r5,r6,r7,r8,r9,hz]) rfl ⟨by rw [HV.out],((((((((((HB.out.setCell (Nat.le_refl _) _).setCell (Nat.le_refl _) _).setCell (Nat.le_refl _) _).setCell (Nat.le_refl _) _).setCell (Nat.le_refl _) _).setCell (Nat.le_refl _) _).setCell (Nat.le_refl _) _).setCell (Nat.le_refl _) _).setCell (Nat.le_refl _) _).setCell (Nat.le_refl _) _)⟩
  ·have HBE3 : Hid (beginsE log.data.toList ix.data.toList = if headB log.data.toList = false then 3 else 0) := by
    show _ = _
    rw [HBE2.out,if_neg (by rw [hof]; decide)]
   have hH2 := HHW.out.below hB2.2.2.1 HHW.out.1
   have HRH : Hid _ := readHead_any log w2 hlog hH2
   clear HBE2 hof hH2
   go_wp2_with fail
   refine Calls.mono HRH.out ?_
   rintro e w3 ⟨rfl,hb3⟩
   have hB3 := hB2.below hb3
   have hz13 : w1.heap.size < w3.heap.size := Nat.lt_of_lt_of_le hz12 hb3.size
   replace d0 := (hb3.cell (p := ⟨w1.heap.size,0,none⟩) hz12).trans d0
   replace d1 := (hb3.cell (p := ⟨w1.heap.size,1,none⟩) hz12).trans d1
   replace d2 := (hb3.cell (p := ⟨w1.heap.size,2,none⟩) hz12).trans d2
   replace d3 := (hb3.cell (p := ⟨w1.heap.size,3,none⟩) hz12).trans d3
   replace d4 := (hb3.cell (p := ⟨w1.heap.size,4,none⟩) hz12).trans d4
   clear HRH hb3 hB2 hz12
   unfold headV
   cases hh : headB log.data.toList
   ·have HV : Hid (openV log ix = _) := openV_err (by rw [HBE3.out,if_pos hh]) (by decide)
    rw [if_neg (by decide)]
    clear HBE3 HOV hh
    obtain ⟨⟨r0,r1,r2,r3,r4,r5,r6,r7,r8,r9⟩,rf,hB,hz⟩ := hB3
    have HB : Hid (Below w.heap.size w w3) := hB
    have f0 := rf 0
    have f1 := rf 1
    have f2 := rf 2
    have f3 := rf 3
    have f4 := rf 4
    have f5 := rf 5
    have f6 := rf 6
    have f7 := rf 7
    have f8 := rf 8
    have f9 := rf 9
    have hne : w.heap.size ≠ w3.heap.size := by omega
    have hne2 : w3.heap.size ≠ w.heap.size := by omega
    clear rf hB
    go_wp2
    exact bodyPost_ret (v := .tuple #[.agg #[.string ⟨#[]⟩,.int .i64 0,.int .i64 0,.int .i64 0,.int .i64 0,.int .i64 0,.int .i64 0,.int .i64 0,.int .i64 0,.string ⟨#[]⟩],.int .i64 3]) (by simp [results,Tryz.results81,go_sem,r0,r1,r2,r3,r4,r5,r6,r7,r8,r9,hz]) rfl ⟨by rw [HV.out],((((((((((HB.out.setCell (Nat.le_refl _) _).setCell (Nat.le_refl _) _).setCell (Nat.le_refl _) _).setCell (Nat.le_refl _) _).setCell (Nat.le_refl _) _).setCell (Nat.le_refl _) _).setCell (Nat.le_refl _) _).setCell (Nat.le_refl _) _).setCell (Nat.le_refl _) _).setCell (Nat.le_refl _) _).alloc (by simp; omega) _⟩
   ·have HV : Hid (openV log ix = _) := HOV.out (by rw [HBE3.out,if_neg (by rw [hh]; decide)])
    rw [if_pos rfl]
    clear HBE3 HOV hh
    generalize hdBlk log.data.toList = bk at *
    generalize hdSeed log.data.toList = sdn at *
    generalize hdBits log.data.toList = btn at *
    obtain ⟨⟨r0,r1,r2,r3,r4,r5,r6,r7,r8,r9⟩,rf,hB,hz⟩ := hB3
    have HB : Hid (Below w.heap.size w w3) := hB
    have f0 := rf 0
    have f1 := rf 1
    have f2 := rf 2
    have f3 := rf 3
    have f4 := rf 4
    have f5 := rf 5
    have f6 := rf 6
    have f7 := rf 7
    have f8 := rf 8
    have f9 := rf 9
    have n1 : w.heap.size ≠ w3.heap.size := by omega
    have n2 : w3.heap.size ≠ w.heap.size := by omega
    have n3 : w1.heap.size ≠ w3.heap.size := by omega
    have n4 : w3.heap.size ≠ w1.heap.size := by omega
    have n5 : w.heap.size ≠ w1.heap.size := by omega
    have n6 : w1.heap.size ≠ w.heap.size := by omega
    clear rf hB
    go_wp2
    exact bodyPost_ret (v := .tuple #[viewV log bk sdn btn xl xn xf xs xm body,.int .i64 0]) (by simp [results,Tryz.results81,go_sem,r0,r1,r2,r3,r4,r5,r6,r7,r8,r9,hz,viewV]) rfl ⟨by rw [HV.out],((((((((((HB.out.setCell (Nat.le_refl _) _).setCell (Nat.le_refl _) _).setCell (Nat.le_refl _) _).setCell (Nat.le_refl _) _).setCell (Nat.le_refl _) _).setCell (Nat.le_refl _) _).setCell (Nat.le_refl _) _).setCell (Nat.le_refl _) _).setCell (Nat.le_refl _) _).setCell (Nat.le_refl _) _).alloc (by simp; omega) _⟩
def slotV (l : List UInt8) : Value := .agg #[.int .u8 ((l.getD 0 0).toNat : Int),.int .i64 (highL ((l.drop 1).take 4) : Nat),.int .i64 (highL ((l.drop 5).take 4) : Nat),.int .i64 ((l.getD 9 0).toNat : Int)]
theorem slot_any (log body : ByteArray) (bk sd bt xl n xf xs xm a : Nat) (w : World) (hn : 0 < n) (hn2 : n <= 65536) (hbody : body.size = 10 * n) (ha : a <= 8589934592) :
  Calls Tryz.prog 141 #[viewV log bk sd bt xl n xf xs xm body,.int .i64 a] w fun e w' => e = .returned (slotV ((body.data.toList.drop (10 * (a % n))).take 10)) /\ Below w.heap.size w w' := by
 have hqn : a % n < n := Nat.mod_lt _ hn
 have hmod : (a : Int) % (n : Int) = ((a % n : Nat) : Int) := by simp
 have htm : (a : Int).tmod (n : Int) = ((a % n : Nat) : Int) := rfl
 have hne : ¬ n = 0 := by omega
 generalize a % n = q at *
 have hx := cut_run body (10 * q) 10 (by omega) ((q : Int) * 10) ((q : Int) * 10 + 10) (by omega) (by omega)
 obtain ⟨s,hs⟩ : ∃ s,s = S ((body.data.toList.drop (10 * q)).take 10) := ⟨_,rfl⟩
 rw [<- hs] at hx
 have hsz : s.size = 10 := by rw [hs,S_size]; simp; omega
 have HL : Hid ((body.data.toList.drop (10 * q)).take 10 = s.data.toList) := by show _ = _; rw [hs,S_data]
 clear hs hbody
 have z0 : s.data.toList.getD 0 0 = s[0] := by
  rw [List.getD,List.getElem?_eq_getElem (by simp; omega)]; rfl
 have z9 : s.data.toList.getD 9 0 = s[9] := by
  rw [List.getD,List.getElem?_eq_getElem (by simp; omega)]; rfl
 have HV : Hid (slotV s.data.toList = .agg #[.int .u8 (s[0].toNat : Int),.int .i64 (highL ((s.data.toList.drop 1).take 4) : Nat),.int .i64 (highL ((s.data.toList.drop 5).take 4) : Nat),.int .i64 (s[9].toNat : Int)]) := by
  show _ = _
  rw [slotV,z0,z9]
 clear z0 z9
 have c15 := cut_run s 1 4 (by omega) 1 5 rfl rfl
 have c59 := cut_run s 5 4 (by omega) 5 9 rfl rfl
 have x0 := idx_run s 0 (by omega) 0 rfl
 have x9 := idx_run s 9 (by omega) 9 rfl
 have hw9 : IntKind.i64.wrap (s[9].toNat : Int) = (s[9].toNat : Int) := by
  have := s[9].toNat_lt
  rw [IntKind.wrap_i64]; omega
 have hb0 := s[0].toNat_lt
 have hb9 := s[9].toNat_lt
 obtain ⟨s1,hs1⟩ : ∃ t,t = S ((s.data.toList.drop 1).take 4) := ⟨_,rfl⟩
 obtain ⟨s5,hs5⟩ : ∃ t,t = S ((s.data.toList.drop 5).take 4) := ⟨_,rfl⟩
 rw [<- hs1] at c15
 rw [<- hs5] at c59
 have L1 : Hid (∀ wx : World,Calls Tryz.prog 145 #[.string s1] wx fun e w' => e = .returned (.int .i64 (highL ((s.data.toList.drop 1).take 4) : Nat)) /\ w' = wx) := fun wx => by
  have := lowRead_any s1 wx (by rw [hs1,S_size]; simp; omega)
  rw [hs1,S_data] at this
  rw [hs1]; exact this
 have L5 : Hid (∀ wx : World,Calls Tryz.prog 145 #[.string s5] wx fun e w' => e = .returned (.int .i64 (highL ((s.data.toList.drop 5).take 4) : Nat)) /\ w' = wx) := fun wx => by
  have := lowRead_any s5 wx (by rw [hs5,S_size]; simp; omega)
  rw [hs5,S_data] at this
  rw [hs5]; exact this
 clear hs1 hs5
 generalize highL ((s.data.toList.drop 1).take 4) = v1 at *
 generalize highL ((s.data.toList.drop 5).take 4) = v5 at *
 unfold viewV
 go_enter Tryz.func141,Tryz.ntmps141
 go_wp2_with fail
 go_region_held3 (fun w' => w.heap.size <= w'.heap.size) (first | (simp; done) | (simp; omega)) (first | (go_at_call_of 145 (Value.string s1); refine (L1.out _).mono ?_; rintro e w' ⟨rfl,rfl⟩) | (go_at_call_of 145 (Value.string s5); refine (L5.out _).mono ?_; rintro e w' ⟨rfl,rfl⟩))
 all_goals
  go_wp2
  exact bodyPost_ret (v := .agg #[.int .u8 (s[0].toNat : Int),.int .i64 (v1 : Int),.int .i64 (v5 : Int),.int .i64 (s[9].toNat : Int)]) (by simp [results,Tryz.results141,go_sem,hw9]) rfl ⟨by rw [HL.out,HV.out],(((Below.refl _ _).alloc (Nat.le_refl _) _).alloc (by simp) _).drew⟩
def itemAt (r : Option (List Ent × Nat)) (no : Nat) : Option Ent := match r with
 | none => none
 | some (es,_) => match es[no]? with
  | none => none
  | some e => if e.put = true then some e else none
def itemV (r : Option Ent) : Value := match r with
 | none => .tuple #[.agg #[.string ⟨#[]⟩,.string ⟨#[]⟩],.bool false]
 | some e => .tuple #[.agg #[.string (S e.key),.string (S e.val)],.bool true]
def AtBoxes (w : World) (no : Nat) (W : World) : Prop := (W.cell? ⟨w.heap.size + 1,1,none⟩ = some (.int .i64 no) /\ W.cell? ⟨w.heap.size + 1 + 1,0,none⟩ = some (.string ⟨#[]⟩) /\ W.cell? ⟨w.heap.size + 1 + 1,1,none⟩ = some (.string ⟨#[]⟩)) /\ (∀ i,W.frozen? ⟨w.heap.size + 1 + 1,i,none⟩ = false) /\ Below w.heap.size w W /\ w.heap.size + 1 + 1 < W.heap.size
theorem AtBoxes.below {w W W' : World} {no : Nat} (h : AtBoxes w no W) (hb : Below W.heap.size W W') : AtBoxes w no W' := by
 obtain ⟨⟨h0,h1,h2⟩,hf,hB,hz⟩ := h
 have hz0 : w.heap.size + 1 < W.heap.size := by omega
 exact ⟨⟨(hb.cell (p := ⟨w.heap.size + 1,1,none⟩) hz0).trans h0,(hb.cell (p := ⟨w.heap.size + 1 + 1,0,none⟩) hz).trans h1,(hb.cell (p := ⟨w.heap.size + 1 + 1,1,none⟩) hz).trans h2⟩,fun i => (hb.frozen (p := ⟨w.heap.size + 1 + 1,i,none⟩) hz).trans (hf i),hB.trans (hb.mono hB.size),Nat.lt_of_lt_of_le hz hb.size⟩
theorem atBoxes_new (w : World) (blk seed bits : Int) (a no : Nat) : AtBoxes w no (((w.alloc (.cells #[.int .i64 blk,.int .i64 seed,.int .i64 bits] 29)).alloc (.cells #[.int .i64 a,.int .i64 no] 165)).alloc (.cells #[.string ⟨#[]⟩,.string ⟨#[]⟩] 54)) := by
 have z1 : (w.alloc (.cells #[.int .i64 blk,.int .i64 seed,.int .i64 bits] 29)).heap.size = w.heap.size + 1 := by simp
 have z2 : ((w.alloc (.cells #[.int .i64 blk,.int .i64 seed,.int .i64 bits] 29)).alloc (.cells #[.int .i64 (a : Int),.int .i64 (no : Int)] 165)).heap.size = w.heap.size + 1 + 1 := by simp
 have c1 : ((w.alloc (.cells #[.int .i64 blk,.int .i64 seed,.int .i64 bits] 29)).alloc (.cells #[.int .i64 (a : Int),.int .i64 (no : Int)] 165)).cell? ⟨w.heap.size + 1,1,none⟩ = some (.int .i64 no) := by
  generalize w.alloc (.cells #[.int .i64 blk,.int .i64 seed,.int .i64 bits] 29) = X at z1
  rw [<- z1]; simp
 have hBl : Below w.heap.size w ((w.alloc (.cells #[.int .i64 blk,.int .i64 seed,.int .i64 bits] 29)).alloc (.cells #[.int .i64 (a : Int),.int .i64 (no : Int)] 165)) := ((Below.refl _ _).alloc (Nat.le_refl _) _).alloc (by simp) _
 generalize (w.alloc (.cells #[.int .i64 blk,.int .i64 seed,.int .i64 bits] 29)).alloc (.cells #[.int .i64 (a : Int),.int .i64 (no : Int)] 165) = Y at *
 have hA := (Below.refl Y.heap.size Y).alloc (Nat.le_refl _) (.cells #[.string ⟨#[]⟩,.string ⟨#[]⟩] 54)
 refine ⟨⟨?_,?_,?_⟩,fun i => ?_,hBl.alloc (by omega) _,by simp; omega⟩
 ·exact (hA.cell (p := ⟨w.heap.size + 1,1,none⟩) (by show w.heap.size + 1 < _; omega)).trans c1
 ·rw [<- z2]; simp
 ·rw [<- z2]; simp
 ·rw [<- z2]; simp
theorem readAt_any (log : ByteArray) (a no : Nat) (blk seed bits : Int) (w : World) (hlog : log.size <= 140737488351232) (ha : a <= 4294967296) (hno : no <= 255) (hH : HalvesAt w) :
  Calls Tryz.prog 142 #[.string log,.agg #[.int .i64 blk,.int .i64 seed,.int .i64 bits],.agg #[.int .i64 a,.int .i64 no]] w fun e w' => e = .returned (itemV (itemAt (blockP log.data.toList a blk) no)) /\ Below w.heap.size w w' := by
 have hBX := atBoxes_new w blk seed bits a no
 have hHX : HalvesAt (((w.alloc (.cells #[.int .i64 blk,.int .i64 seed,.int .i64 bits] 29)).alloc (.cells #[.int .i64 (a : Int),.int .i64 (no : Int)] 165)).alloc (.cells #[.string ⟨#[]⟩,.string ⟨#[]⟩] 54)) := hH.below hBX.2.2.1 hH.1
 have HRB : Hid _ := readBlock_any log a blk seed bits _ hlog ha hHX
 clear hHX hH
 go_enter Tryz.func142,Tryz.ntmps142
 go_wp2_with fail
 refine Calls.mono HRB.out ?_
 rintro e w1 ⟨v,n,rfl,hBI,hb1⟩
 have hB1 := hBX.below hb1
 have hbk : ∀ es k,blockP log.data.toList a blk = some (es,k) -> 1 <= es.length /\ es.length <= 255 := fun es k h => ⟨(blockP_some h).2.2.1,(blockP_some h).2.2.2.1⟩
 clear hBX hb1 HRB
 generalize hr : blockP log.data.toList a blk = r at *
 have HR : Hid (blockP log.data.toList a blk = r) := hr
 clear hr
 obtain ⟨⟨e1,r0,r1⟩,rf,hB,hzz⟩ := hB1
 have f0 := rf 0
 have f1 := rf 1
 have HB : Hid (Below w.heap.size w w1) := hB
 have hn1 : w.heap.size + 1 + 1 ≠ w1.heap.size := by omega
 have hn2 : w1.heap.size ≠ w.heap.size + 1 + 1 := by omega
 have hlt1 : w.heap.size + 1 < w1.heap.size := by omega
 clear rf hB
 rcases r with _ | ⟨es,k⟩
 ·obtain ⟨rfl,rfl⟩ := hBI
  clear hbk
  go_wp2
  exact bodyPost_ret (v := .tuple #[.agg #[.string ⟨#[]⟩,.string ⟨#[]⟩],.bool false]) (by simp [results,Tryz.results142,go_sem,r0,r1,hn1,hn2,hzz]) rfl ⟨by rw [HR.out]; rfl,((HB.out.setCell (by show w.heap.size <= w.heap.size + 1 + 1; omega) _).setCell (by show w.heap.size <= w.heap.size + 1 + 1; omega) _).alloc (by simp; omega) _⟩
 ·obtain ⟨rfl,hrow⟩ := hBI
  obtain ⟨k3,k4⟩ := hbk es k rfl
  obtain ⟨g,cap,rfl,hg0,hg1,hgc⟩ := own_cellsN hrow (by omega)
  clear hbk hrow
  by_cases hlt : no < es.length
  ·have hce := cellsE_get hlt
   have y0 := (hgc (no * 3) (by omega)).trans hce.1
   have y1 := (hgc (no * 3 + 1) (by omega)).trans hce.2.1
   have y2 := (hgc (no * 3 + 2) (by omega)).trans hce.2.2
   have HI : Hid (itemAt (blockP log.data.toList a blk) no = if es[no].put = true then some es[no] else none) := by
    show _ = _
    rw [HR.out]
    simp only [itemAt,List.getElem?_eq_getElem hlt]
   clear hce hgc HR
   generalize es[no] = en at *
   obtain ⟨put,ky,vl⟩ := en
   dsimp only at *
   have hgn : g ≠ w1.heap.size := by omega
   have hgn2 : w1.heap.size ≠ g := by omega
   cases put
   ·go_wp2
    exact bodyPost_ret (v := .tuple #[.agg #[.string ⟨#[]⟩,.string ⟨#[]⟩],.bool false]) (by simp [results,Tryz.results142,go_sem,r0,r1,hn1,hn2,hzz]) rfl ⟨by rw [HI.out]; rfl,((HB.out.setCell (by show w.heap.size <= w.heap.size + 1 + 1; omega) _).setCell (by show w.heap.size <= w.heap.size + 1 + 1; omega) _).alloc (by simp; omega) _⟩
   ·go_wp2
    exact bodyPost_ret (v := .tuple #[.agg #[.string (S ky),.string (S vl)],.bool true]) (by simp [results,Tryz.results142,go_sem,r0,r1,hn1,hn2,hzz]) rfl ⟨by rw [HI.out]; rfl,((HB.out.setCell (by show w.heap.size <= w.heap.size + 1 + 1; omega) _).setCell (by show w.heap.size <= w.heap.size + 1 + 1; omega) _).alloc (by simp; omega) _⟩
  ·have HI : Hid (itemAt (blockP log.data.toList a blk) no = none) := by
    show _ = _
    rw [HR.out]
    simp only [itemAt,List.getElem?_eq_none (Nat.le_of_not_lt hlt)]
   clear hgc HR
   go_wp2
   exact bodyPost_ret (v := .tuple #[.agg #[.string ⟨#[]⟩,.string ⟨#[]⟩],.bool false]) (by simp [results,Tryz.results142,go_sem,r0,r1,hn1,hn2,hzz]) rfl ⟨by rw [HI.out]; rfl,((HB.out.setCell (by show w.heap.size <= w.heap.size + 1 + 1; omega) _).setCell (by show w.heap.size <= w.heap.size + 1 + 1; omega) _).alloc (by simp; omega) _⟩
end Go.Proofs.YtdhgebdbiehchaaGreatDoor
