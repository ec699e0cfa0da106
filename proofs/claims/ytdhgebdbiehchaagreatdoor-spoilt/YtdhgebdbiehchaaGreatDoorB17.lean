/- On the way: TabC, RecOpen, RecSlot, RecAt. -/
import Derived.Test.YtdhgebdbiehchaaGreatDoorB16
import Derived.Test.YtdhgebdbiehchaaGreatDoorB10
namespace Go.Proofs.YtdhgebdbiehchaaGreatDoor
open Go.RowKit
set_option linter.unusedSimpArgs false
set_option linter.unusedVariables false
set_option maxRecDepth 100000
set_option maxHeartbeats 3200000
theorem own_not {w : World} {base e size n b f : Nat} {v : Value} {xs : List Value} {cur : Array Value} (h : w.ownsRow base e size v n xs) (hb : w.heap[b]? = some (.cells cur f (0,0))) (hne : e ≠ f) : some b ≠ v.ownBlock := by
 rcases h.2 with ⟨rfl,_⟩ | ⟨g,cap,cur',rfl,_,hg,_⟩
 ·simp [Value.ownBlock]
 ·intro h
  simp [Value.ownBlock] at h
  subst h
  rw [hg] at hb
  simp at hb
  exact hne hb.2
theorem box_alloc {w : World} {b f : Nat} {cur : Array Value} (hb : w.heap[b]? = some (.cells cur f (0,0))) (o : Obj) : (w.alloc o).heap[b]? = some (.cells cur f (0,0)) :=
 (Below.heap_alloc w o b (Array.getElem?_eq_some_iff.1 hb).1).trans hb
theorem box_grown {w w' : World} {base e size n b f : Nat} {v : Value} {xs : List Value} {cur : Array Value} (hb : w.heap[b]? = some (.cells cur f (0,0))) (h : w.ownsRow base e size v n xs) (hne : e ≠ f) (hg : w.grownBy w' v.ownBlock) : w'.heap[b]? = some (.cells cur f (0,0)) :=
 (hg.block b (Array.getElem?_eq_some_iff.1 hb).1 (own_not h hb hne)).trans hb
theorem appendLow_box (v : Value) (l : List UInt8) (n : Int) (k : Nat) (w : World) (base : Nat) (hn : 0 <= n) (hn' : n <= 9223372036854775807) (hk : k <= 8)
  (hown : w.ownsRow base 5 1 v l.length (cellsB l)) (hbase : base <= w.heap.size) (hl : l.length <= 1000000000) (b f : Nat) (cur : Array Value) (hbx : w.heap[b]? = some (.cells cur f (0,0))) (hf : 5 ≠ f) :
  Calls Tryz.prog 129 #[v,.int .i64 n,.int .i64 k] w fun e w' => ∃ v',e = .returned v' /\ w'.ownsRow base 5 1 v' (l.length + k) (cellsB (l ++ lowL n.toNat k)) /\ Below base w w' /\ w'.heap[b]? = some (.cells cur f (0,0)) := by
 obtain ⟨i0,hi,hz0,hz1,hz2⟩ := info_parts info_u8
 have HBX : Hid (w.heap[b]? = some (.cells cur f (0,0))) := hbx
 clear hbx
 go_enter Tryz.func129,Tryz.ntmps129
 go_wp2
 go_loopw [0,9] (fun m i wr => ∃ (j : Nat),j <= k /\ i = .int .i64 j /\ wr.ownsRow base 5 1 m (l.length + j) (cellsB (l ++ lowL n.toNat j)) /\ Below base w wr /\ Hid (wr.heap[b]? = some (.cells cur f (0,0)))) (fun _ i _ => k - (intOf i).toNat)
 case atStart => exact ⟨0,Nat.zero_le _,rfl,by simpa [lowL] using hown,Below.refl _ _,HBX⟩
 case round =>
  obtain ⟨j,hj,rfl,ho,hb,HB⟩ := hrel
  by_cases hlt : j < k
  ·have h8 : (0 : Int) <= 8 * (j : Int) := by omega
   have h9 : 8 * (j : Int) <= 64 := by omega
   go_wp2_with (at_builtin; refine wpList_append_own _ rfl (.tmp 12) (.tmp 18) 43 rfl base 5 i0 (.int .u8 0) 1 1 Tryz.underlying43 hi hz0 hz1 hz2 rfl (by decide) _ _ _ rfl (ho.alloc _) ⟨wr.heap.size,0,none⟩ 1 1 [.int .u8 (IntKind.u8.wrap (n / 2 ^ (8 * (j : Int)).toNat))] rfl rfl ?c1 ?c2 ?c3 ?c4 ?c5 ?_)
   case c1 => exact cell_one_new _ _ _
   case c2 => intro u hu; simp at hu; subst hu; rfl
   case c3 => unfold maxLen; omega
   case c4 => omega
   case c5 => have := hb.size; simp; omega
   intro v' w1 hown' hgrow _
   have HB1 : Hid (w1.heap[b]? = some (.cells cur f (0,0))) := box_grown (box_alloc HB.out _) (ho.alloc _) hf hgrow
   clear h8 h9
   go_wp2
   go_roundw
   case rel =>
    refine ⟨j + 1,by omega,by go_num,?_,?_,HB1⟩
    ·rw [<- cells_snoc hn]; exact hown'
    ·exact (hb.alloc (by have := hb.size; omega) _).grown hgrow (by have := hb.size; simp; omega) (own_ge ho)
   case measure => simp [intOf]; omega
  ·have hjk : j = k := by omega
   subst hjk
   go_wp2
   go_ret
   exact ⟨_,rfl,ho,hb,HB.out⟩
theorem slot_parts (x : Option Slt) (hx : ∀ y,x = some y -> y.num < 4294967296 /\ y.blk <= 100000 /\ y.no <= 255) : ∃ kd nm bl no : Nat,(sltP x = [.int .u8 (kd : Int),.int .i64 (nm : Int),.int .i64 (bl : Int),.int .i64 (no : Int)] /\ sltB x = (([UInt8.ofNat kd] ++ lowL nm 4) ++ lowL bl 4) ++ lowL no 1) /\ kd <= 1 /\ nm < 4294967296 /\ bl <= 100000 /\ no <= 255 := by
 cases x with
 | none => exact ⟨0,0,0,0,⟨rfl,rfl⟩,by omega,by omega,by omega,by omega⟩
 | some y =>
  have := hx y rfl
  exact ⟨1,y.num,y.blk,y.no,⟨rfl,rfl⟩,by omega,by omega,by omega,by omega⟩
theorem cellsB_one (l : List UInt8) {kd : Nat} (h : kd <= 1) : cellsB l ++ [.int .u8 (kd : Int)] = cellsB (l ++ [UInt8.ofNat kd]) := by
 rw [cellsB_append]
 congr 1
 simp [cellsB]
 omega
theorem box_cells {w : World} {b f : Nat} {x0 x1 x2 x3 : Value} (h : w.heap[b]? = some (.cells #[x0,x1,x2,x3] f (0,0))) : w.cell? ⟨b,0,none⟩ = some x0 /\ w.cell? ⟨b,1,none⟩ = some x1 /\ w.cell? ⟨b,2,none⟩ = some x2 /\ w.cell? ⟨b,3,none⟩ = some x3 :=
 ⟨cell_of_row w b 0 _ f _ h,cell_of_row w b 1 _ f _ h,cell_of_row w b 2 _ f _ h,cell_of_row w b 3 _ f _ h⟩
theorem tableBytes_any (g n cap base : Nat) (t : List (Option Slt)) (w : World) (hown : w.ownsRow base 175 4 (.slice (some ⟨g,0,none⟩) n cap) n (cellsP t)) (htl : t.length = n) (hn0 : 0 < n) (hn : n <= 5000) (hslt : ∀ y : Slt,some y ∈ t -> y.num < 4294967296 /\ y.blk <= 100000 /\ y.no <= 255) (hH : HalvesAt w) :
  Calls Tryz.prog 98 #[.slice (some ⟨g,0,none⟩) n cap] w fun e w' => ∃ v',e = .returned v' /\ w'.ownsRow w.heap.size 5 1 v' (sealL (tabB t)).length (cellsB (sealL (tabB t))) /\ Below w.heap.size w w' := by
 obtain ⟨i0,hi,hz0,hz1,hz2⟩ := info_parts info_u8
 have HH : Hid (HalvesAt w) := hH
 have HOWN : Hid (w.ownsRow base 175 4 (.slice (some ⟨g,0,none⟩) n cap) n (cellsP t)) := hown
 have hgw : g < w.heap.size := by
  obtain ⟨g',c',he,_,hgw',_⟩ := own_cellsN hown hn0
  simp at he; omega
 clear hH hown
 go_enter Tryz.func98,Tryz.ntmps98
 go_wp2
 go_loopw [3,8] (fun bv i wr => ∃ (k : Nat),k <= n /\ i = .int .i64 k /\ wr.ownsRow w.heap.size 5 1 bv (tabB (t.take k)).length (cellsB (tabB (t.take k))) /\ Below w.heap.size w wr) (fun _ i _ => n - (intOf i).toNat)
 case atStart => exact ⟨0,Nat.zero_le _,rfl,World.ownsRow_nil _ _ _ _,Below.refl _ _⟩
 case round =>
  obtain ⟨k,hk,rfl,hrow,hb⟩ := hrel
  obtain ⟨W1,rfl⟩ : ∃ W1,W1 = wr := ⟨_,rfl⟩
  have hbs := hb.size
  have hll : (tabB (t.take k)).length <= 60000 := by rw [tabB_length]; simp; omega
  by_cases hkn : k < n
  ·have hta : t[k]? = some t[k] := List.getElem?_eq_getElem (by omega)
   obtain ⟨kd,nm,bl,no,⟨hP,hS⟩,l1,l2,l3,l4⟩ := slot_parts t[k] (fun y hy => hslt y (List.mem_of_getElem? (by rw [hta,hy])))
   obtain ⟨z0,z1,z2,z3⟩ := pslot_at HOWN.out hta hkn
   rw [hP] at z0 z1 z2 z3
   simp only [List.getElem?_cons_zero,List.getElem?_cons_succ] at z0 z1 z2 z3
   replace z0 := (hb.cell (p := ⟨g,k * 4,none⟩) hgw).trans z0
   replace z1 := (hb.cell (p := ⟨g,k * 4 + 1,none⟩) hgw).trans z1
   replace z2 := (hb.cell (p := ⟨g,k * 4 + 2,none⟩) hgw).trans z2
   replace z3 := (hb.cell (p := ⟨g,k * 4 + 3,none⟩) hgw).trans z3
   have HTK : Hid (tabB (t.take (k + 1)) = tabB (t.take k) ++ ((([UInt8.ofNat kd] ++ lowL nm 4) ++ lowL bl 4) ++ lowL no 1)) := by
    show _ = _
    rw [List.take_succ_eq_append_getElem (by omega),tabB_snoc,hS]
   have hbox : (W1.alloc (.cells #[.int .u8 (kd : Int),.int .i64 (nm : Int),.int .i64 (bl : Int),.int .i64 (no : Int)] 175)).heap[W1.heap.size]? = some (.cells #[.int .u8 (kd : Int),.int .i64 (nm : Int),.int .i64 (bl : Int),.int .i64 (no : Int)] 175 (0,0)) := heap_alloc_new W1 _
   have HBOX : Hid _ := hbox
   have HROW : Hid (W1.ownsRow w.heap.size 5 1 u3 (tabB (t.take k)).length (cellsB (tabB (t.take k)))) := hrow
   have HB : Hid (Below w.heap.size w W1) := hb
   clear hta hP hS hrow hb hbox hslt
   generalize tabB (t.take k) = l at *
   go_wp2_with (at_builtin; refine wpList_append_own _ rfl (.tmp 12) (.tmp 15) 43 rfl w.heap.size 5 i0 (.int .u8 0) 1 1 Tryz.underlying43 hi hz0 hz1 hz2 rfl (by decide) _ _ _ rfl ((HROW.out.alloc _).alloc _) ⟨W1.heap.size + 1,0,none⟩ 1 1 [.int .u8 (kd : Int)] rfl rfl ?c1 ?c2 ?c3 ?c4 ?c5 ?_)
   case c1 =>
    have h5 := cell_one_new (W1.alloc (.cells #[.int .u8 (kd : Int),.int .i64 (nm : Int),.int .i64 (bl : Int),.int .i64 (no : Int)] 175)) (.int .u8 (kd : Int)) 5
    rwa [show (W1.alloc (.cells #[.int .u8 (kd : Int),.int .i64 (nm : Int),.int .i64 (bl : Int),.int .i64 (no : Int)] 175)).heap.size = W1.heap.size + 1 by simp] at h5
   case c2 => intro u hu; simp at hu; subst hu; rfl
   case c3 => unfold maxLen; omega
   case c4 => omega
   case c5 => simp; omega
   intro v1 w1 hown1 hg1 _
   have hrow1 : w1.ownsRow w.heap.size 5 1 v1 (l ++ [UInt8.ofNat kd]).length (cellsB (l ++ [UInt8.ofNat kd])) := by
    rw [<- cellsB_one l l1,List.length_append]; exact hown1
   have hbx1 := box_grown (box_alloc HBOX.out (.cells #[.int .u8 (kd : Int)] 5)) ((HROW.out.alloc _).alloc _) (by decide) hg1
   have hB1 : Below w.heap.size w w1 := ((HB.out.alloc hbs _).alloc (by simp; omega) _).grown hg1 (by simp; omega) (own_ge HROW.out)
   have HBX1 : Hid _ := hbx1
   have HB1 : Hid (Below w.heap.size w w1) := hB1
   have HROW1 : Hid (w1.ownsRow w.heap.size 5 1 v1 (l ++ [UInt8.ofNat kd]).length (cellsB (l ++ [UInt8.ofNat kd]))) := hrow1
   obtain ⟨_,x1,_,_⟩ := box_cells hbx1
   have hs1 := hB1.size
   have HA1 : Hid _ := appendLow_box v1 (l ++ [UInt8.ofNat kd]) (nm : Int) 4 w1 w.heap.size (by omega) (by omega) (by omega) hrow1 hs1 (by simp; omega) W1.heap.size 175 _ hbx1 (by decide)
   clear hown1 hg1 hrow1 hbx1 hB1 z0 z1 z2 z3 HROW HBOX HB
   go_wp2_with fail
   refine Calls.mono HA1.out ?_
   rintro e w2 ⟨v2,rfl,hrow2,hb2,hbx2⟩
   have hB2 : Below w.heap.size w w2 := HB1.out.trans hb2
   have hl2 : (l ++ [UInt8.ofNat kd]).length + 4 = ((l ++ [UInt8.ofNat kd]) ++ lowL nm 4).length := by simp [lowL_length]
   rw [Int.toNat_natCast,hl2] at hrow2
   obtain ⟨_,_,x2,_⟩ := box_cells hbx2
   have HA2 : Hid _ := appendLow_box v2 ((l ++ [UInt8.ofNat kd]) ++ lowL nm 4) (bl : Int) 4 w2 w.heap.size (by omega) (by omega) (by omega) hrow2 hB2.size (by simp [lowL_length]; omega) W1.heap.size 175 _ hbx2 (by decide)
   have HB2 : Hid (Below w.heap.size w w2) := hB2
   clear x1 HA1 HB1 hrow2 hb2 hbx2 hB2 hl2 HBX1 HROW1
   go_wp2_with fail
   refine Calls.mono HA2.out ?_
   rintro e w3 ⟨v3,rfl,hrow3,hb3,hbx3⟩
   have hB3 : Below w.heap.size w w3 := HB2.out.trans hb3
   have hl3 : ((l ++ [UInt8.ofNat kd]) ++ lowL nm 4).length + 4 = (((l ++ [UInt8.ofNat kd]) ++ lowL nm 4) ++ lowL bl 4).length := by simp [lowL_length]
   rw [Int.toNat_natCast,hl3] at hrow3
   obtain ⟨_,_,_,x3⟩ := box_cells hbx3
   have HA3 : Hid _ := appendLow_box v3 (((l ++ [UInt8.ofNat kd]) ++ lowL nm 4) ++ lowL bl 4) (no : Int) 1 w3 w.heap.size (by omega) (by omega) (by omega) hrow3 hB3.size (by simp [lowL_length]; omega) W1.heap.size 175 _ hbx3 (by decide)
   have HB3 : Hid (Below w.heap.size w w3) := hB3
   clear x2 HA2 HB2 hrow3 hb3 hbx3 hB3 hl3
   go_wp2_with fail
   refine Calls.mono HA3.out ?_
   rintro e w4 ⟨v4,rfl,hrow4,hb4,_⟩
   have HB4 : Hid (Below w.heap.size w w4) := HB3.out.trans hb4
   have hl4 : (((l ++ [UInt8.ofNat kd]) ++ lowL nm 4) ++ lowL bl 4).length + 1 = ((((l ++ [UInt8.ofNat kd]) ++ lowL nm 4) ++ lowL bl 4) ++ lowL no 1).length := by simp [lowL_length]
   have he4 : (((l ++ [UInt8.ofNat kd]) ++ lowL nm 4) ++ lowL bl 4) ++ lowL no 1 = tabB (t.take (k + 1)) := by rw [HTK.out]; simp [List.append_assoc]
   rw [Int.toNat_natCast,hl4,he4] at hrow4
   have HROW4 : Hid (w4.ownsRow w.heap.size 5 1 v4 (tabB (t.take (k + 1))).length (cellsB (tabB (t.take (k + 1))))) := hrow4
   clear x3 HA3 HB3 hrow4 hb4 hl4 he4
   go_wp2
   go_roundw
   case rel => exact ⟨k + 1,by omega,by first | rfl | go_num,HROW4.out,HB4.out⟩
   case measure => first | (simp [intOf]; omega) | (simp [intOf])
  ·have hke : k = n := by omega
   subst hke
   rw [show t.take k = t from List.take_of_length_le (by omega)] at hrow hll
   have HSE : Hid _ := seal_any _ (tabB t) w.heap.size W1 hrow hbs (by omega) (HH.out.below hb HH.out.1)
   clear hrow
   go_wp2_with fail
   refine Calls.mono HSE.out ?_
   rintro e w2 ⟨v2,rfl,hrow2,hb2⟩
   have HROW2 : Hid (w2.ownsRow w.heap.size 5 1 v2 (sealL (tabB t)).length (cellsB (sealL (tabB t)))) := hrow2
   clear hrow2
   go_wp2
   go_ret
   exact ⟨_,rfl,HROW2.out,hb.trans hb2⟩
def Box10 (w W : World) : Prop := (W.cell? ⟨w.heap.size,0,none⟩ = some (.string ⟨#[]⟩) /\ W.cell? ⟨w.heap.size,1,none⟩ = some (.int .i64 0) /\ W.cell? ⟨w.heap.size,2,none⟩ = some (.int .i64 0) /\ W.cell? ⟨w.heap.size,3,none⟩ = some (.int .i64 0) /\ W.cell? ⟨w.heap.size,4,none⟩ = some (.int .i64 0) /\ W.cell? ⟨w.heap.size,5,none⟩ = some (.int .i64 0) /\ W.cell? ⟨w.heap.size,6,none⟩ = some (.int .i64 0) /\ W.cell? ⟨w.heap.size,7,none⟩ = some (.int .i64 0) /\ W.cell? ⟨w.heap.size,8,none⟩ = some (.int .i64 0) /\ W.cell? ⟨w.heap.size,9,none⟩ = some (.string ⟨#[]⟩)) /\ (∀ i,W.frozen? ⟨w.heap.size,i,none⟩ = false) /\ Below w.heap.size w W /\ w.heap.size < W.heap.size
theorem Box10.below {w W W' : World} (h : Box10 w W) (hb : Below W.heap.size W W') : Box10 w W' := by
 obtain ⟨⟨h0,h1,h2,h3,h4,h5,h6,h7,h8,h9⟩,hf,hB,hz⟩ := h
 exact ⟨⟨(hb.cell (p := ⟨w.heap.size,0,none⟩) hz).trans h0,(hb.cell (p := ⟨w.heap.size,1,none⟩) hz).trans h1,(hb.cell (p := ⟨w.heap.size,2,none⟩) hz).trans h2,(hb.cell (p := ⟨w.heap.size,3,none⟩) hz).trans h3,(hb.cell (p := ⟨w.heap.size,4,none⟩) hz).trans h4,(hb.cell (p := ⟨w.heap.size,5,none⟩) hz).trans h5,(hb.cell (p := ⟨w.heap.size,6,none⟩) hz).trans h6,(hb.cell (p := ⟨w.heap.size,7,none⟩) hz).trans h7,(hb.cell (p := ⟨w.heap.size,8,none⟩) hz).trans h8,(hb.cell (p := ⟨w.heap.size,9,none⟩) hz).trans h9⟩,fun i => (hb.frozen (p := ⟨w.heap.size,i,none⟩) hz).trans (hf i),hB.trans (hb.mono (Nat.le_of_lt hz)),Nat.lt_of_lt_of_le hz hb.size⟩

def AtBoxes (w : World) (no : Nat) (W : World) : Prop := (W.cell? ⟨w.heap.size + 1,1,none⟩ = some (.int .i64 no) /\ W.cell? ⟨w.heap.size + 1 + 1,0,none⟩ = some (.string ⟨#[]⟩) /\ W.cell? ⟨w.heap.size + 1 + 1,1,none⟩ = some (.string ⟨#[]⟩)) /\ (∀ i,W.frozen? ⟨w.heap.size + 1 + 1,i,none⟩ = false) /\ Below w.heap.size w W /\ w.heap.size + 1 + 1 < W.heap.size
theorem AtBoxes.below {w W W' : World} {no : Nat} (h : AtBoxes w no W) (hb : Below W.heap.size W W') : AtBoxes w no W' := by
 obtain ⟨⟨h0,h1,h2⟩,hf,hB,hz⟩ := h
 have hz0 : w.heap.size + 1 < W.heap.size := by omega
 exact ⟨⟨(hb.cell (p := ⟨w.heap.size + 1,1,none⟩) hz0).trans h0,(hb.cell (p := ⟨w.heap.size + 1 + 1,0,none⟩) hz).trans h1,(hb.cell (p := ⟨w.heap.size + 1 + 1,1,none⟩) hz).trans h2⟩,fun i => (hb.frozen (p := ⟨w.heap.size + 1 + 1,i,none⟩) hz).trans (hf i),hB.trans (hb.mono hB.size),Nat.lt_of_lt_of_le hz hb.size⟩
end Go.Proofs.YtdhgebdbiehchaaGreatDoor
