/- On the way: RecSlot, RecAt. -/
import Derived.Test.YtdhgebdbiehchaaGreatDoorB15
namespace Go.Proofs.YtdhgebdbiehchaaGreatDoor
open Go.RowKit
set_option linter.unusedSimpArgs false
set_option linter.unusedVariables false
set_option maxRecDepth 100000
set_option maxHeartbeats 3200000
def slotV (l : List UInt8) : Value := .agg #[.int .u8 ((l.getD 0 0).toNat : Int),.int .i64 (highL ((l.drop 1).take 4) : Nat),.int .i64 (highL ((l.drop 5).take 4) : Nat),.int .i64 ((l.getD 9 0).toNat : Int)]
theorem slot_any (log body : ByteArray) (bk sd bt xl n xf xs xm a : Nat) (w : World) (hn : 0 < n) (hn2 : n <= 65536) (hbody : body.size = 10 * n) (ha : a <= 8589934592) :
  Calls Tryz.prog 141 #[viewV log bk sd bt xl n xf xs xm body,.int .i64 a] w fun e w' => e = .returned (slotV ((body.data.toList.drop (10 * (a % n))).take 10)) /\ Below w.heap.size w w' := by
 have hqn : a % n < n := Nat.mod_lt _ hn
 have hmod : (a : Int) % (n : Int) = ((a % n : Nat) : Int) := by simp
 have htm : (a : Int).tmod (n : Int) = ((a % n : Nat) : Int) := rfl
 have hne : ¬ n = 0 := by omega
 generalize a % n = q at *
 have hx := cut_run body (10 * q) 10 (by omega) ((q : Int) * 10) ((q : Int) * 10 + 10) (by omega) (by omega)
 obtain ⟨s,hs⟩ : ∃ s,s = S ((body.data.toList.drop (10 * q)).take 10) := ⟨_,rfl⟩
 rw [<- hs] at hx
 have hsz : s.size = 10 := by rw [hs,S_size]; simp; omega
 have HL : Hid ((body.data.toList.drop (10 * q)).take 10 = s.data.toList) := by show _ = _; rw [hs,S_data]
 clear hs hbody
 have z0 : s.data.toList.getD 0 0 = s[0] := by
  rw [List.getD,List.getElem?_eq_getElem (by simp; omega)]; rfl
 have z9 : s.data.toList.getD 9 0 = s[9] := by
  rw [List.getD,List.getElem?_eq_getElem (by simp; omega)]; rfl
 have HV : Hid (slotV s.data.toList = .agg #[.int .u8 (s[0].toNat : Int),.int .i64 (highL ((s.data.toList.drop 1).take 4) : Nat),.int .i64 (highL ((s.data.toList.drop 5).take 4) : Nat),.int .i64 (s[9].toNat : Int)]) := by
  show _ = _
  rw [slotV,z0,z9]
 clear z0 z9
 have c15 := cut_run s 1 4 (by omega) 1 5 rfl rfl
 have c59 := cut_run s 5 4 (by omega) 5 9 rfl rfl
 have x0 := idx_run s 0 (by omega) 0 rfl
 have x9 := idx_run s 9 (by omega) 9 rfl
 have hw9 : IntKind.i64.wrap (s[9].toNat : Int) = (s[9].toNat : Int) := by
  have := s[9].toNat_lt
  rw [IntKind.wrap_i64]; omega
 have hb0 := s[0].toNat_lt
 have hb9 := s[9].toNat_lt
 obtain ⟨s1,hs1⟩ : ∃ t,t = S ((s.data.toList.drop 1).take 4) := ⟨_,rfl⟩
 obtain ⟨s5,hs5⟩ : ∃ t,t = S ((s.data.toList.drop 5).take 4) := ⟨_,rfl⟩
 rw [<- hs1] at c15
 rw [<- hs5] at c59
 have L1 : Hid (∀ wx : World,Calls Tryz.prog 145 #[.string s1] wx fun e w' => e = .returned (.int .i64 (highL ((s.data.toList.drop 1).take 4) : Nat)) /\ w' = wx) := fun wx => by
  have := lowRead_any s1 wx (by rw [hs1,S_size]; simp; omega)
  rw [hs1,S_data] at this
  rw [hs1]; exact this
 have L5 : Hid (∀ wx : World,Calls Tryz.prog 145 #[.string s5] wx fun e w' => e = .returned (.int .i64 (highL ((s.data.toList.drop 5).take 4) : Nat)) /\ w' = wx) := fun wx => by
  have := lowRead_any s5 wx (by rw [hs5,S_size]; simp; omega)
  rw [hs5,S_data] at this
  rw [hs5]; exact this
 clear hs1 hs5
 generalize highL ((s.data.toList.drop 1).take 4) = v1 at *
 generalize highL ((s.data.toList.drop 5).take 4) = v5 at *
 unfold viewV
 go_enter Tryz.func141,Tryz.ntmps141
 go_wp2_with fail
 go_region_held3 (fun w' => w.heap.size <= w'.heap.size) (first | (simp; done) | (simp; omega)) (first | (go_at_call_of 145 (Value.string s1); refine (L1.out _).mono ?_; rintro e w' ⟨rfl,rfl⟩) | (go_at_call_of 145 (Value.string s5); refine (L5.out _).mono ?_; rintro e w' ⟨rfl,rfl⟩))
 all_goals
  go_wp2
  exact bodyPost_ret (v := .agg #[.int .u8 (s[0].toNat : Int),.int .i64 (v1 : Int),.int .i64 (v5 : Int),.int .i64 (s[9].toNat : Int)]) (by simp [results,Tryz.results141,go_sem,hw9]) rfl ⟨by rw [HL.out,HV.out],(((Below.refl _ _).alloc (Nat.le_refl _) _).alloc (by simp) _).drew⟩
def itemAt (r : Option (List Ent × Nat)) (no : Nat) : Option Ent := match r with
 | none => none
 | some (es,_) => match es[no]? with
  | none => none
  | some e => if e.put = true then some e else none
def itemV (r : Option Ent) : Value := match r with
 | none => .tuple #[.agg #[.string ⟨#[]⟩,.string ⟨#[]⟩],.bool false]
 | some e => .tuple #[.agg #[.string (S e.key),.string (S e.val)],.bool true]
def AtBoxes (w : World) (no : Nat) (W : World) : Prop := (W.cell? ⟨w.heap.size + 1,1,none⟩ = some (.int .i64 no) /\ W.cell? ⟨w.heap.size + 1 + 1,0,none⟩ = some (.string ⟨#[]⟩) /\ W.cell? ⟨w.heap.size + 1 + 1,1,none⟩ = some (.string ⟨#[]⟩)) /\ (∀ i,W.frozen? ⟨w.heap.size + 1 + 1,i,none⟩ = false) /\ Below w.heap.size w W /\ w.heap.size + 1 + 1 < W.heap.size
theorem AtBoxes.below {w W W' : World} {no : Nat} (h : AtBoxes w no W) (hb : Below W.heap.size W W') : AtBoxes w no W' := by
 obtain ⟨⟨h0,h1,h2⟩,hf,hB,hz⟩ := h
 have hz0 : w.heap.size + 1 < W.heap.size := by omega
 exact ⟨⟨(hb.cell (p := ⟨w.heap.size + 1,1,none⟩) hz0).trans h0,(hb.cell (p := ⟨w.heap.size + 1 + 1,0,none⟩) hz).trans h1,(hb.cell (p := ⟨w.heap.size + 1 + 1,1,none⟩) hz).trans h2⟩,fun i => (hb.frozen (p := ⟨w.heap.size + 1 + 1,i,none⟩) hz).trans (hf i),hB.trans (hb.mono hB.size),Nat.lt_of_lt_of_le hz hb.size⟩
theorem atBoxes_new (w : World) (blk seed bits : Int) (a no : Nat) : AtBoxes w no (((w.alloc (.cells #[.int .i64 blk,.int .i64 seed,.int .i64 bits] 29)).alloc (.cells #[.int .i64 a,.int .i64 no] 165)).alloc (.cells #[.string ⟨#[]⟩,.string ⟨#[]⟩] 54)) := by
 have z1 : (w.alloc (.cells #[.int .i64 blk,.int .i64 seed,.int .i64 bits] 29)).heap.size = w.heap.size + 1 := by simp
 have z2 : ((w.alloc (.cells #[.int .i64 blk,.int .i64 seed,.int .i64 bits] 29)).alloc (.cells #[.int .i64 (a : Int),.int .i64 (no : Int)] 165)).heap.size = w.heap.size + 1 + 1 := by simp
 have c1 : ((w.alloc (.cells #[.int .i64 blk,.int .i64 seed,.int .i64 bits] 29)).alloc (.cells #[.int .i64 (a : Int),.int .i64 (no : Int)] 165)).cell? ⟨w.heap.size + 1,1,none⟩ = some (.int .i64 no) := by
  generalize w.alloc (.cells #[.int .i64 blk,.int .i64 seed,.int .i64 bits] 29) = X at z1
  rw [<- z1]; simp
 have hBl : Below w.heap.size w ((w.alloc (.cells #[.int .i64 blk,.int .i64 seed,.int .i64 bits] 29)).alloc (.cells #[.int .i64 (a : Int),.int .i64 (no : Int)] 165)) := ((Below.refl _ _).alloc (Nat.le_refl _) _).alloc (by simp) _
 generalize (w.alloc (.cells #[.int .i64 blk,.int .i64 seed,.int .i64 bits] 29)).alloc (.cells #[.int .i64 (a : Int),.int .i64 (no : Int)] 165) = Y at *
 have hA := (Below.refl Y.heap.size Y).alloc (Nat.le_refl _) (.cells #[.string ⟨#[]⟩,.string ⟨#[]⟩] 54)
 refine ⟨⟨?_,?_,?_⟩,fun i => ?_,hBl.alloc (by omega) _,by simp; omega⟩
 ·exact (hA.cell (p := ⟨w.heap.size + 1,1,none⟩) (by show w.heap.size + 1 < _; omega)).trans c1
 ·rw [<- z2]; simp
 ·rw [<- z2]; simp
 ·rw [<- z2]; simp
theorem readAt_any (log : ByteArray) (a no : Nat) (blk seed bits : Int) (w : World) (hlog : log.size <= 140737488351232) (ha : a <= 4294967296) (hno : no <= 255) (hH : HalvesAt w) :
  Calls Tryz.prog 142 #[.string log,.agg #[.int .i64 blk,.int .i64 seed,.int .i64 bits],.agg #[.int .i64 a,.int .i64 no]] w fun e w' => e = .returned (itemV (itemAt (blockP log.data.toList a blk) no)) /\ Below w.heap.size w w' := by
 have hBX := atBoxes_new w blk seed bits a no
 have hHX : HalvesAt (((w.alloc (.cells #[.int .i64 blk,.int .i64 seed,.int .i64 bits] 29)).alloc (.cells #[.int .i64 (a : Int),.int .i64 (no : Int)] 165)).alloc (.cells #[.string ⟨#[]⟩,.string ⟨#[]⟩] 54)) := hH.below hBX.2.2.1 hH.1
 have HRB : Hid _ := readBlock_any log a blk seed bits _ hlog ha hHX
 clear hHX hH
 go_enter Tryz.func142,Tryz.ntmps142
 go_wp2_with fail
 refine Calls.mono HRB.out ?_
 rintro e w1 ⟨v,n,rfl,hBI,hb1⟩
 have hB1 := hBX.below hb1
 have hbk : ∀ es k,blockP log.data.toList a blk = some (es,k) -> 1 <= es.length /\ es.length <= 255 := fun es k h => ⟨(blockP_some h).2.2.1,(blockP_some h).2.2.2.1⟩
 clear hBX hb1 HRB
 generalize hr : blockP log.data.toList a blk = r at *
 have HR : Hid (blockP log.data.toList a blk = r) := hr
 clear hr
 obtain ⟨⟨e1,r0,r1⟩,rf,hB,hzz⟩ := hB1
 have f0 := rf 0
 have f1 := rf 1
 have HB : Hid (Below w.heap.size w w1) := hB
 have hn1 : w.heap.size + 1 + 1 ≠ w1.heap.size := by omega
 have hn2 : w1.heap.size ≠ w.heap.size + 1 + 1 := by omega
 have hlt1 : w.heap.size + 1 < w1.heap.size := by omega
 clear rf hB
 rcases r with _ | ⟨es,k⟩
 ·obtain ⟨rfl,rfl⟩ := hBI
  clear hbk
  go_wp2
  exact bodyPost_ret (v := .tuple #[.agg #[.string ⟨#[]⟩,.string ⟨#[]⟩],.bool false]) (by simp [results,Tryz.results142,go_sem,r0,r1,hn1,hn2,hzz]) rfl ⟨by rw [HR.out]; rfl,((HB.out.setCell (by show w.heap.size <= w.heap.size + 1 + 1; omega) _).setCell (by show w.heap.size <= w.heap.size + 1 + 1; omega) _).alloc (by simp; omega) _⟩
 ·obtain ⟨rfl,hrow⟩ := hBI
  obtain ⟨k3,k4⟩ := hbk es k rfl
  obtain ⟨g,cap,rfl,hg0,hg1,hgc⟩ := own_cellsN hrow (by omega)
  clear hbk hrow
  by_cases hlt : no < es.length
  ·have hce := cellsE_get hlt
   have y0 := (hgc (no * 3) (by omega)).trans hce.1
   have y1 := (hgc (no * 3 + 1) (by omega)).trans hce.2.1
   have y2 := (hgc (no * 3 + 2) (by omega)).trans hce.2.2
   have HI : Hid (itemAt (blockP log.data.toList a blk) no = if es[no].put = true then some es[no] else none) := by
    show _ = _
    rw [HR.out]
    simp only [itemAt,List.getElem?_eq_getElem hlt]
   clear hce hgc HR
   generalize es[no] = en at *
   obtain ⟨put,ky,vl⟩ := en
   dsimp only at *
   have hgn : g ≠ w1.heap.size := by omega
   have hgn2 : w1.heap.size ≠ g := by omega
   cases put
   ·go_wp2
    exact bodyPost_ret (v := .tuple #[.agg #[.string ⟨#[]⟩,.string ⟨#[]⟩],.bool false]) (by simp [results,Tryz.results142,go_sem,r0,r1,hn1,hn2,hzz]) rfl ⟨by rw [HI.out]; rfl,((HB.out.setCell (by show w.heap.size <= w.heap.size + 1 + 1; omega) _).setCell (by show w.heap.size <= w.heap.size + 1 + 1; omega) _).alloc (by simp; omega) _⟩
   ·go_wp2
    exact bodyPost_ret (v := .tuple #[.agg #[.string (S ky),.string (S vl)],.bool true]) (by simp [results,Tryz.results142,go_sem,r0,r1,hn1,hn2,hzz]) rfl ⟨by rw [HI.out]; rfl,((HB.out.setCell (by show w.heap.size <= w.heap.size + 1 + 1; omega) _).setCell (by show w.heap.size <= w.heap.size + 1 + 1; omega) _).alloc (by simp; omega) _⟩
  ·have HI : Hid (itemAt (blockP log.data.toList a blk) no = none) := by
    show _ = _
    rw [HR.out]
    simp only [itemAt,List.getElem?_eq_none (Nat.le_of_not_lt hlt)]
   clear hgc HR
   go_wp2
   exact bodyPost_ret (v := .tuple #[.agg #[.string ⟨#[]⟩,.string ⟨#[]⟩],.bool false]) (by simp [results,Tryz.results142,go_sem,r0,r1,hn1,hn2,hzz]) rfl ⟨by rw [HI.out]; rfl,((HB.out.setCell (by show w.heap.size <= w.heap.size + 1 + 1; omega) _).setCell (by show w.heap.size <= w.heap.size + 1 + 1; omega) _).alloc (by simp; omega) _⟩
end Go.Proofs.YtdhgebdbiehchaaGreatDoor
