/- On the way: StopW, StopW2, PLive, PAll, RfAll, KpHeld, KpAt, KpEntry, KpEntry2. -/
import Derived.Test.YtdhgebdbiehchaaGreatDoorB42
import Derived.Conc.LoneCalls
import Derived.Conc.LoneSelect
import Derived.Defers
import Derived.Laws.LoneSync
import Derived.RegionCalls
import Derived.Test.YtdhgebdbiehchaaGreatDoorB07
import Derived.Test.YtdhgebdbiehchaaGreatDoorB38
import Derived.Test.YtdhgebdbiehchaaGreatDoorB43
import Derived.Test.YtdhgebdbiehchaaGreatDoorB44
import Derived.Test.YtdhgebdbiehchaaGreatDoorB34
namespace Go.Proofs.YtdhgebdbiehchaaGreatDoor
open Go.RowKit Go.Maps Go.Conc
set_option linter.unusedSimpArgs false
set_option linter.unusedVariables false
set_option maxRecDepth 100000
set_option maxHeartbeats 1600000
def StopAt (w : World) (b c : Nat) (called : Bool) : Prop := ∃ (dn sm : Int) (s r : Nat),Bx w b #[.int .u32 dn,.int .i32 0,.int .u32 sm,.chan (some c)] 238 /\ w.heap[c]? = some (.chan 0 #[] called s r false) /\ (called = false -> dn = 0) /\ (called = true -> dn = 1)
theorem wasCalled_nil (w : World) : Calls Tryz.prog 85 #[.pointer none] w fun e w' => e = .returned (.bool false) /\ w' = w := by
 go_enter Tryz.func85,Tryz.ntmps85
 go_wp2
 go_ret
 exact ⟨rfl,rfl⟩
theorem wasCalled_open (b c s r : Nat) (w : World) (h3 : w.cell? ⟨b,3,none⟩ = some (.chan (some c))) (hc : w.heap[c]? = some (.chan 0 #[] false s r false)) :
  Calls Tryz.prog 85 #[.pointer (some ⟨b,0,none⟩)] w fun e w' => e = .returned (.bool false) /\ w' = w := by
 refine calls_of_loneTo fun cs => ?_
 have e : Frame.enter Tryz.prog 85 #[.pointer (some ⟨b,0,none⟩)] .normal = (base 85).at ⟨#[.pointer (some ⟨b,0,none⟩),undef,undef,undef,undef,undef,undef,undef,undef,undef,undef,undef],[]⟩ [.code (Tryz.f85.body.getD .skip)] := by
  simp [Frame.enter,Frame.at,Tryz.func85,base,Tryz.f85]
 rw [e]
 refine LoneTo.goes (n := 40) ?_
 simp only [Tryz.f85,Option.getD_some]
 s_c stepG_seq
 s_reg
 s_op
 s_c stepG_region_end
 s_c stepG_seq
 s_c stepG_seq
 s_reg
 s_op
 s_op
 s_c stepG_region_end
 s_cond false
 s_c stepG_skip
 s_c stepG_seq
 s_reg
 s_op
 s_op
 s_op
 s_op
 s_c stepG_region_end
 s_c stepG_seq
 s_reg
 s_stop
 refine LoneTo.step (step_lone_select_default (c := c) (z := .agg #[]) (cap := 0) (s := s) (r := r) (tm := false) (stepG_comm (cases := #[rcase c (.agg #[])]) (blocking := false) (shape := .select) (w' := w) rfl rfl (by decide) (by simp [go_sem,execOp,rcase,Act.eval])) hc) ?_
 rw [Frame.finish_at]
 walk_nrm
 refine LoneTo.goes (n := 20) ?_
 s_op
 s_op
 s_c stepG_region_end
 s_c stepG_block
 s_cond false
 s_c stepG_seq
 s_reg
 s_op
 s_c stepG_region_end
 s_c stepG_ret'
 s_stop
 exact LoneTo.done ⟨.returned (.bool false),_,rfl,⟨rfl,rfl⟩,rfl,rfl,rfl,rfl,_,Tryz.func85,by simp [results,Tryz.f85,Frame.at]⟩
theorem wasCalled_shut (b c s r : Nat) (w : World) (h3 : w.cell? ⟨b,3,none⟩ = some (.chan (some c))) (hc : w.heap[c]? = some (.chan 0 #[] true s r false)) :
  Calls Tryz.prog 85 #[.pointer (some ⟨b,0,none⟩)] w fun e w' => e = .returned (.bool true) /\ w' = w := by
 refine calls_of_loneTo fun cs => ?_
 have e : Frame.enter Tryz.prog 85 #[.pointer (some ⟨b,0,none⟩)] .normal = (base 85).at ⟨#[.pointer (some ⟨b,0,none⟩),undef,undef,undef,undef,undef,undef,undef,undef,undef,undef,undef],[]⟩ [.code (Tryz.f85.body.getD .skip)] := by
  simp [Frame.enter,Frame.at,Tryz.func85,base,Tryz.f85]
 rw [e]
 refine LoneTo.goes (n := 40) ?_
 simp only [Tryz.f85,Option.getD_some]
 s_c stepG_seq
 s_reg
 s_op
 s_c stepG_region_end
 s_c stepG_seq
 s_c stepG_seq
 s_reg
 s_op
 s_op
 s_c stepG_region_end
 s_cond false
 s_c stepG_skip
 s_c stepG_seq
 s_reg
 s_op
 s_op
 s_op
 s_op
 s_c stepG_region_end
 s_c stepG_seq
 s_reg
 s_stop
 refine LoneTo.step (step_lone_select_recv_shut (c := c) (z := .agg #[]) (cap := 0) (s := s) (r := r) (tm := false) (stepG_comm (cases := #[rcase c (.agg #[])]) (blocking := false) (shape := .select) (w' := w) rfl rfl (by decide) (by simp [go_sem,execOp,rcase,Act.eval])) hc) ?_
 rw [Frame.finish_at]
 walk_nrm
 refine LoneTo.goes (n := 20) ?_
 s_op
 s_op
 s_c stepG_region_end
 s_c stepG_block
 s_cond true
 s_c stepG_seq
 s_reg
 s_op
 s_c stepG_region_end
 s_c stepG_ret'
 s_stop
 exact LoneTo.done ⟨.returned (.bool true),_,rfl,⟨rfl,rfl⟩,rfl,rfl,rfl,rfl,_,Tryz.func85,by simp [results,Tryz.f85,Frame.at]⟩
theorem wasCalled_any (b c : Nat) (called : Bool) (w : World) (h : StopAt w b c called) :
  Calls Tryz.prog 85 #[.pointer (some ⟨b,0,none⟩)] w fun e w' => e = .returned (.bool called) /\ w' = w := by
 obtain ⟨dn,sm,s,r,hb,hc,_,_⟩ := h
 cases called with
 | false => exact wasCalled_open b c s r w (hb.cell (j := 3) rfl) hc
 | true => exact wasCalled_shut b c s r w (hb.cell (j := 3) rfl) hc

end Go.Proofs.YtdhgebdbiehchaaGreatDoor
namespace Go.Proofs.YtdhgebdbiehchaaGreatDoor
open Go.RowKit Go.Maps
set_option linter.unusedSimpArgs false
set_option linter.unusedVariables false
set_option maxRecDepth 100000
set_option maxHeartbeats 3200000
def StopIs (w : World) (sp : Value) (called : Bool) : Prop := (sp = .pointer none /\ called = false) \/ ∃ b c,sp = .pointer (some ⟨b,0,none⟩) /\ StopAt w b c called
theorem StopIs.below {w w' : World} {sp : Value} {called : Bool} (h : StopIs w sp called) (hb : Below w.heap.size w w') : StopIs w' sp called := by
 rcases h with h | ⟨b,c,h1,dn,sm,s,r,h2,h3,h4,h5⟩
 ·exact .inl h
 ·exact .inr ⟨b,c,h1,dn,sm,s,r,h2.below hb h2.lt,(hb.block c (Array.getElem?_eq_some_iff.1 h3).1).trans h3,h4,h5⟩
theorem wasCalled_is {w : World} {sp : Value} {called : Bool} (h : StopIs w sp called) : Calls Tryz.prog 85 #[sp] w fun e w' => e = .returned (.bool called) /\ w' = w := by
 rcases h with ⟨rfl,rfl⟩ | ⟨b,c,rfl,h⟩
 ·exact wasCalled_nil w
 ·exact wasCalled_any b c called w h
def cellsI (l : List Sd) : List Value := l.flatMap fun x => [.string (S x.key),.string (S x.val)]
theorem cellsI_snoc (l : List Sd) (x : Sd) : cellsI (l ++ [x]) = cellsI l ++ [.string (S x.key),.string (S x.val)] := by simp [cellsI]
theorem info_item : (Tryz.prog.info? 54).map (fun i => (i.zero,i.size,i.bytes)) = some (some (.agg #[.string ⟨#[]⟩,.string ⟨#[]⟩]),2,32) := by kernel_rfl
theorem cells_two_new (w : World) (t : TypeId) (a b : Value) : ∀ j u,[a,b][j]? = some u -> (w.alloc (.cells #[a,b] t)).cell? ((⟨w.heap.size,0,none⟩ : Addr).add j) = some u := by
 intro j u hu
 match j,hu with
 | 0,hu => cases hu; exact World.cell?_alloc_new w #[a,b] t 0
 | 1,hu => cases hu; exact World.cell?_alloc_new w #[a,b] t 1
 | j + 2,hu => simp at hu
theorem liveItems_any (h0 h1 h2 : Int) (bi bp n : Nat) (L R : List Sd) (sp : Value) (called : Bool) (w : World) (hm : Maps2 w bi bp n L) (hL : Lives L) (hlen : L.length <= 2000) (hblk : ∀ x ∈ L,14 <= x.blk) (hst : StopIs w sp called) (hR : R = if called = true then [] else L) :
  Calls Tryz.prog 84 #[.agg #[.int .i64 h0,.int .i64 h1,.int .i64 h2,.map (some bi),.map (some bp)],.func (.func 85) #[sp] #[]] w fun e w' => ∃ v,e = .returned v /\ w'.ownsRow w.heap.size 54 2 v R.length (cellsI R) /\ Below w.heap.size w w' := by
 obtain ⟨i0,hi,hz0,hz1,hz2⟩ := info_parts info_item
 obtain ⟨W,hW⟩ : ∃ W : World,W = w.alloc (.cells #[.int .i64 h0,.int .i64 h1,.int .i64 h2,.map (some bi),.map (some bp)] 100) := ⟨_,rfl⟩
 have hzW : W.heap.size = w.heap.size + 1 := by rw [hW]; simp
 have hBW : Below w.heap.size w W := by rw [hW]; exact (Below.refl _ _).alloc (Nat.le_refl _) _
 have hxW : Bx W w.heap.size #[.int .i64 h0,.int .i64 h1,.int .i64 h2,.map (some bi),.map (some bp)] 100 := by rw [hW]; exact bx_new _ _ _ rfl
 have HBB : Hid (∀ w1 : World,Below W.heap.size W w1 -> Below w.heap.size w w1) := fun w1 hb => hBW.trans (hb.mono (by omega))
 have HXB : Hid (∀ w1 : World,Below W.heap.size W w1 -> Bx w1 w.heap.size #[.int .i64 h0,.int .i64 h1,.int .i64 h2,.map (some bi),.map (some bp)] 100) := fun w1 hb => hxW.below hb (by omega)
 have HMB : Hid (∀ w1 : World,Below W.heap.size W w1 -> Maps2 w1 bi bp n L) := fun w1 hb => hm.below (HBB.out w1 hb) hm.lt.1 hm.lt.2
 have HSB : Hid (∀ w1 : World,Below W.heap.size W w1 -> Calls Tryz.prog 85 #[sp] w1 fun e w' => e = .returned (.bool called) /\ w' = w1) := fun w1 hb => wasCalled_is (hst.below (HBB.out w1 hb))
 have HPL : Calls Tryz.prog 90 #[.agg #[.int .i64 h0,.int .i64 h1,.int .i64 h2,.map (some bi),.map (some bp)]] W fun e w' => ∃ a cap,e = .returned (.slice a L.length cap) /\ w'.ownsRow W.heap.size 165 2 (.slice a L.length cap) L.length (cellsQ L) /\ Below W.heap.size W w' := places_any h0 h1 h2 bi bp n L W (HMB.out W (Below.refl _ _)) hL (by omega)
 have HAT : Hid (∀ (w1 : World) (x : Sd),Below W.heap.size W w1 -> x ∈ L -> Calls Tryz.prog 94 #[.agg #[.int .i64 h0,.int .i64 h1,.int .i64 h2,.map (some bi),.map (some bp)],.agg #[.int .i64 x.blk,.int .i64 x.no]] w1 fun e w' => e = .returned (.agg #[.string (S x.key),.string (S x.val)]) /\ Below w1.heap.size w1 w') := fun w1 x hb hx => at_any h0 h1 h2 bi bp n L x w1 (HMB.out w1 hb) hL hx
 have x0 : W.cell? ⟨w.heap.size,0,none⟩ = some (.int .i64 h0) := hxW.cell (j := 0) rfl
 have x1 : W.cell? ⟨w.heap.size,1,none⟩ = some (.int .i64 h1) := hxW.cell (j := 1) rfl
 have x2 : W.cell? ⟨w.heap.size,2,none⟩ = some (.int .i64 h2) := hxW.cell (j := 2) rfl
 have x3 : W.cell? ⟨w.heap.size,3,none⟩ = some (.map (some bi)) := hxW.cell (j := 3) rfl
 have x4 : W.cell? ⟨w.heap.size,4,none⟩ = some (.map (some bp)) := hxW.cell (j := 4) rfl
 clear hm hL hst hBW hxW
 go_enter Tryz.func84,Tryz.ntmps84
 go_wp2_with fail
 have hW' : w.alloc (.cells #[.int .i64 h0,.int .i64 h1,.int .i64 h2,.map (some bi),.map (some bp)] 100) = W := hW.symm
 rw [hW']
 clear hW hW'
 refine HPL.mono ?_
 rintro e w1 ⟨a,cap,rfl,hrow,hb1⟩
 have HB1 : Hid (Below W.heap.size W w1) := hb1
 have HROW : Hid (w1.ownsRow W.heap.size 165 2 (.slice a L.length cap) L.length (cellsQ L)) := hrow
 clear hb1 hrow x0 x1 x2 x3 x4 HPL
 go_wp2
 go_loopw [5,6,12] (fun v blk i wr => ∃ (k : Nat) (pb : Int),k <= L.length /\ i = .int .i64 k /\ blk = .int .i64 pb /\ (k = 0 -> pb = 0) /\ (called = true -> k = 0) /\ wr.ownsRow w1.heap.size 54 2 v k (cellsI (L.take k)) /\ Below w1.heap.size w1 wr) (fun _ _ i _ => L.length - (intOf i).toNat)
 case atStart => exact ⟨0,0,by omega,rfl,rfl,fun _ => rfl,fun _ => rfl,World.ownsRow_nil _ _ _ _,Below.refl _ _⟩
 case round =>
  obtain ⟨k,pb,hk,rfl,rfl,hpb0,hck,ho,hb⟩ := hrel
  have HB : Hid (Below w1.heap.size w1 wr) := hb
  have HBW : Hid (Below W.heap.size W wr) := HB1.out.trans (hb.mono HB1.out.size)
  by_cases hlt : k < L.length
  ·obtain ⟨g,cap',hv,_,hgl,hgc⟩ := own_cellsN HROW.out (by omega)
   obtain ⟨b0,b1⟩ := cellsQ_get hlt
   have g0 : wr.cell? ⟨g,k * 2,none⟩ = some (.int .i64 L[k].blk) := (hb.cell (p := ⟨g,k * 2,none⟩) hgl).trans ((hgc (k * 2) (by omega)).trans b0)
   have g1 : wr.cell? ⟨g,k * 2 + 1,none⟩ = some (.int .i64 L[k].no) := (hb.cell (p := ⟨g,k * 2 + 1,none⟩) hgl).trans ((hgc (k * 2 + 1) (by omega)).trans b1)
   have ea : a = some ⟨g,0,none⟩ := by injection hv
   subst ea
   have hmem : L[k] ∈ L := List.getElem_mem hlt
   have hb14 := hblk _ hmem
   have HTK : Hid (cellsI (L.take (k + 1)) = cellsI (L.take k) ++ [.string (S L[k].key),.string (S L[k].val)]) := by show _ = _; rw [List.take_succ_eq_append_getElem hlt,cellsI_snoc]
   have HATk : Hid (∀ w1 : World,Below W.heap.size W w1 -> Calls Tryz.prog 94 #[.agg #[.int .i64 h0,.int .i64 h1,.int .i64 h2,.map (some bi),.map (some bp)],.agg #[.int .i64 L[k].blk,.int .i64 L[k].no]] w1 fun e w' => e = .returned (.agg #[.string (S L[k].key),.string (S L[k].val)]) /\ Below w1.heap.size w1 w') := fun w1 hb => HAT.out w1 _ hb hmem
   have HO : Hid (wr.ownsRow w1.heap.size 54 2 u5 k (cellsI (L.take k))) := ho
   have hzr : w.heap.size < wr.heap.size := by have := HBW.out.size; omega
   have hsz1 : w.heap.size <= w1.heap.size := by have := HB1.out.size; omega
   clear b0 b1 hgc hb ho hv hmem
   generalize L[k] = x at *
   cases called with
   | true =>
    have e0 := hck rfl
    subst e0
    have e1 := hpb0 rfl
    subst e1
    have hne : ((x.blk : Int) != 0) = true := by simp; omega
    rw [if_pos rfl] at hR
    subst hR
    have HNIL : Hid (wr.ownsRow w.heap.size 54 2 u5 0 (cellsI [])) := own_lower HO.out hsz1
    go_wp2_with (first | (go_at_call 85; refine (HSB.out _ ?_).mono ?_; exact HBW.out.alloc (by have := HBW.out.size; omega) _; rintro e w' ⟨rfl,rfl⟩))
    go_ret
    exact ⟨_,rfl,HNIL.out.alloc _,HBB.out _ (HBW.out.alloc (by have := HBW.out.size; omega) _)⟩
   | false =>
    have hxr := HXB.out wr HBW.out
    have s0 : wr.cell? ⟨w.heap.size,0,none⟩ = some (.int .i64 h0) := hxr.cell (j := 0) rfl
    have s1 : wr.cell? ⟨w.heap.size,1,none⟩ = some (.int .i64 h1) := hxr.cell (j := 1) rfl
    have s2 : wr.cell? ⟨w.heap.size,2,none⟩ = some (.int .i64 h2) := hxr.cell (j := 2) rfl
    have s3 : wr.cell? ⟨w.heap.size,3,none⟩ = some (.map (some bi)) := hxr.cell (j := 3) rfl
    have s4 : wr.cell? ⟨w.heap.size,4,none⟩ = some (.map (some bp)) := hxr.cell (j := 4) rfl
    clear hxr
    have hge := own_ge HO.out
    have hzw := HB.out.size
    by_cases hbe : (x.blk : Int) = pb
    ·subst hbe
     go_wp2_with (first | (go_at_call 85; refine (HSB.out _ ?_).mono ?_; exact HBW.out.alloc (by have := HBW.out.size; omega) _; rintro e w' ⟨rfl,rfl⟩) | (go_at_call 94; refine (HATk.out _ ?_).mono ?_; exact HBW.out.alloc (by have := HBW.out.size; omega) _; rintro e w3 ⟨rfl,hb3⟩; have how := own_below (HO.out.alloc _) hb3 (Nat.le_refl _); have HB3 : Hid (Below w1.heap.size w1 w3) := (HB.out.alloc (by have := HB.out.size; omega) _).trans (hb3.mono (by have := HB.out.size; simp; omega)); have hz3 : w.heap.size <= w3.heap.size := (by have := hb3.size; simp at this; omega); have hz4 : w1.heap.size <= w3.heap.size := HB3.out.size; clear hb3) | (at_builtin; refine wpList_append_own _ rfl (.tmp 27) (.tmp 31) 32 rfl w1.heap.size 54 i0 (.agg #[.string ⟨#[]⟩,.string ⟨#[]⟩]) 2 32 Tryz.underlying32 hi hz0 hz1 hz2 rfl (by decide) _ _ _ rfl (how.alloc _) ⟨w3.heap.size,0,none⟩ 1 1 [.string (S x.key),.string (S x.val)] rfl rfl (cells_two_new _ _ _ _) (by simp [Value.oneCell']) (by unfold maxLen; omega) (by omega) (by simp; omega) ?_; intro v' w4 hown' hgrow _))
     go_roundw
     case rel => exact ⟨k + 1,x.blk,by omega,by go_num,rfl,fun e => absurd e (by omega),fun e => (by cases e),by rw [HTK.out]; exact hown',(HB3.out.alloc (by omega) _).grown hgrow (by simp; omega) hge⟩
     case measure => simp [intOf]; omega
    ·have hne : ((x.blk : Int) != pb) = true := by simp [hbe]
     go_wp2_with (first | (go_at_call 85; refine (HSB.out _ ?_).mono ?_; exact HBW.out.alloc (by have := HBW.out.size; omega) _; rintro e w' ⟨rfl,rfl⟩) | (go_at_call 94; refine (HATk.out _ ?_).mono ?_; exact HBW.out.alloc (by have := HBW.out.size; omega) _; rintro e w3 ⟨rfl,hb3⟩; have how := own_below (HO.out.alloc _) hb3 (Nat.le_refl _); have HB3 : Hid (Below w1.heap.size w1 w3) := (HB.out.alloc (by have := HB.out.size; omega) _).trans (hb3.mono (by have := HB.out.size; simp; omega)); have hz3 : w.heap.size <= w3.heap.size := (by have := hb3.size; simp at this; omega); have hz4 : w1.heap.size <= w3.heap.size := HB3.out.size; clear hb3) | (at_builtin; refine wpList_append_own _ rfl (.tmp 27) (.tmp 31) 32 rfl w1.heap.size 54 i0 (.agg #[.string ⟨#[]⟩,.string ⟨#[]⟩]) 2 32 Tryz.underlying32 hi hz0 hz1 hz2 rfl (by decide) _ _ _ rfl (how.alloc _) ⟨w3.heap.size,0,none⟩ 1 1 [.string (S x.key),.string (S x.val)] rfl rfl (cells_two_new _ _ _ _) (by simp [Value.oneCell']) (by unfold maxLen; omega) (by omega) (by simp; omega) ?_; intro v' w4 hown' hgrow _))
     go_roundw
     case rel => exact ⟨k + 1,x.blk,by omega,by go_num,rfl,fun e => absurd e (by omega),fun e => (by cases e),by rw [HTK.out]; exact hown',(HB3.out.alloc (by omega) _).grown hgrow (by simp; omega) hge⟩
     case measure => simp [intOf]; omega
  ·have hkn : k = L.length := by omega
   subst hkn
   rw [List.take_length] at ho
   have ho := own_lower ho (show w.heap.size <= w1.heap.size by have := HB1.out.size; omega)
   have HO : Hid (wr.ownsRow w.heap.size 54 2 u5 R.length (cellsI R)) := by
    show wr.ownsRow _ _ _ _ _ _
    cases called with
    | true =>
     have e0 : L.length = 0 := hck rfl
     have e1 : L = [] := List.length_eq_zero_iff.1 e0
     rw [if_pos rfl] at hR
     rw [hR]
     rw [e1] at ho
     exact ho
    | false => rw [if_neg (by simp)] at hR; rw [hR]; exact ho
   clear ho hb
   go_wp2
   go_ret
   exact ⟨_,rfl,HO.out,HBB.out _ HBW.out⟩
theorem saidS_live {log : List UInt8} {L : List Sd} (h : saidS log = some L) : L = liveL (readL log (hdBlk log) 14).1 /\ ∀ x ∈ L,14 <= x.blk := by
 unfold saidS at h
 split at h
 ·cases h
 split at h
 ·cases h
 split at h
 ·cases h
 split at h
 ·cases h
 cases h
 refine ⟨rfl,fun x hx => ?_⟩
 have h1 := (liveL_mem hx).1
 exact ((readF_rise log (hdBlk log) _ 14).2.1 x h1).1
theorem all_down {d : Dk} {called : Bool} (h : d.down = true) : d.all called = ([],7) := by unfold Dk.all; rw [if_pos h]
theorem all_none {d : Dk} {called : Bool} (h : d.down = false) (hb : d.both = none) : d.all called = ([],2) := by unfold Dk.all; rw [if_neg (by simp [h]),hb]
theorem all_bad {d : Dk} {called : Bool} {l i : List UInt8} (h : d.down = false) (hb : d.both = some (l,i)) (hs : saidE l i ≠ 0) : d.all called = ([],saidE l i) := by unfold Dk.all; rw [if_neg (by simp [h]),hb]; simp only; rw [if_neg hs]
theorem all_good {d : Dk} {called : Bool} {l i : List UInt8} (h : d.down = false) (hb : d.both = some (l,i)) (hs : saidE l i = 0) : d.all called = (if called = true then [] else liveL (readL l (hdBlk l) 14).1,0) := by unfold Dk.all; rw [if_neg (by simp [h]),hb]; simp only; rw [if_pos hs]
theorem all_any (E : Sent) (n : Nat) (G : Nat -> Prop) (bs : Nat) (d : Dk) (q : StP) (sp : Value) (called : Bool) (w : World) (hE : Env0 n w E) (hS : StoreAt w G bs d q) (hok : DkOk d) (hst : StopIs w sp called) :
  Calls Tryz.prog 48 #[.pointer (some ⟨bs,0,none⟩),sp] w fun e w' => ∃ v,e = .returned (.tuple #[v,.int .i64 (d.all called).2]) /\ w'.ownsRow w.heap.size 54 2 v (d.all called).1.length (cellsI (d.all called).1) /\ Below w.heap.size w w' := by
 have HRD := readS_any E n G bs d q w hE hS
 have HEV : Hid (∀ w1 : World,Below w.heap.size w w1 -> Env w1 E) := fun w1 hb => hE.env.below hb
 have hmf := hmf_any
 have HNL : Hid (∀ w1 : World,w1.ownsRow w.heap.size 54 2 (.slice none 0 0) ([] : List Sd).length (cellsI [])) := fun w1 => World.ownsRow_nil _ _ _ _
 cases hd : d.down with
 | true =>
  have hr : d.readS = ([],[],7) := by unfold Dk.readS; rw [if_pos hd]
  rw [all_down hd]
  rw [hr] at HRD
  clear hE hS hr hok hst
  go_enter Tryz.func48,Tryz.ntmps48
  go_wp2_with (first | (go_at_call 80; refine HRD.mono ?_; rintro e w1 ⟨ev,rfl,hf,hb⟩; obtain ⟨b,rfl⟩ := fault_some hf (by decide); have HFA : Hid (FaultIs w1 E 7 (.iface 128 (.pointer (some ⟨b,0,none⟩)))) := hf; have HB : Hid (Below w.heap.size w w1) := hb; clear hf hb) | (go_at_call 41; refine (answer_any E 7 _ w1 (HEV.out w1 HB.out) HFA.out (by decide)).mono ?_; rintro e w2 ⟨rfl,hb2⟩; have HB2 : Hid (Below w.heap.size w w2) := HB.out.trans (hb2.mono HB.out.size); clear hb2))
  go_ret2
  exact ⟨_,rfl,HNL.out _,HB2.out⟩
 | false =>
  cases hb : d.both with
  | none =>
   have hr : d.readS = ([],[],2) := by unfold Dk.readS; rw [if_neg (by simp [hd]),hb]
   rw [all_none hd hb]
   rw [hr] at HRD
   clear hE hS hr hok hst hb
   go_enter Tryz.func48,Tryz.ntmps48
   go_wp2_with (first | (go_at_call 80; refine HRD.mono ?_; rintro e w1 ⟨ev,rfl,hf,hb⟩; obtain ⟨b,rfl⟩ := fault_some hf (by decide); have HFA : Hid (FaultIs w1 E 2 (.iface 128 (.pointer (some ⟨b,0,none⟩)))) := hf; have HB : Hid (Below w.heap.size w w1) := hb; clear hf hb) | (go_at_call 41; refine (answer_any E 2 _ w1 (HEV.out w1 HB.out) HFA.out (by decide)).mono ?_; rintro e w2 ⟨rfl,hb2⟩; have HB2 : Hid (Below w.heap.size w w2) := HB.out.trans (hb2.mono HB.out.size); clear hb2))
   go_ret2
   exact ⟨_,rfl,HNL.out _,HB2.out⟩
  | some p =>
   obtain ⟨l,i⟩ := p
   obtain ⟨z1,z2⟩ := both_le hok hb
   have hr : d.readS = (l,i,0) := by unfold Dk.readS; rw [if_neg (by simp [hd]),hb]
   rw [hr] at HRD
   by_cases hbe : beginsE l i = 0
   ·have HSD : Hid (∀ w1 : World,Below w.heap.size w w1 -> _) := fun w1 hb1 => said_goes (S l) (S i) w1 (by rw [S_size]; omega) (by rw [S_size]; omega) (HEV.out w1 hb1).halves hbe
    simp only [S_data] at HSD
    by_cases hix : indexS l = some i
    ·have hs : saidE l i = 0 := by unfold saidE; rw [if_neg (by simp [hbe]),if_pos hix]
     rw [all_good hd hb hs]
     have HSY : Hid (∀ w1 : World,Below w.heap.size w w1 -> Calls Tryz.prog 83 #[.string (S l),.string (S i)] w1 fun e w' => ∃ L bi bp n,saidS l = some L /\ e = .returned (.tuple #[saidV l bi bp,.int .i64 0]) /\ Maps2 w' bi bp n L /\ Below w1.heap.size w1 w') := fun w1 hb1 => (HSD.out w1 hb1).mono fun e w' ⟨a1,a2⟩ => by
      rcases a1 with ⟨a1,_⟩ | ⟨L,bi,bp,n,a3,a4,a5,a6⟩
      ·exact absurd hix a1
      ·exact ⟨L,bi,bp,n,a3,a5,a6,a2⟩
     have HLI : Hid (∀ (w1 : World) (L : List Sd) (bi bp n : Nat),Below w.heap.size w w1 -> saidS l = some L -> Maps2 w1 bi bp n L -> Calls Tryz.prog 84 #[.agg #[.int .i64 (hdBlk l : Int),.int .i64 (hdSeed l : Int),.int .i64 (hdBits l : Int),.map (some bi),.map (some bp)],.func (.func 85) #[sp] #[]] w1 fun e w' => ∃ v,e = .returned v /\ w'.ownsRow w.heap.size 54 2 v (if called = true then [] else liveL (readL l (hdBlk l) 14).1).length (cellsI (if called = true then [] else liveL (readL l (hdBlk l) 14).1)) /\ Below w1.heap.size w1 w') := fun w1 L bi bp n hb1 hL hM => by
      obtain ⟨e1,e2⟩ := saidS_live hL
      obtain ⟨g1,g2,g3,g4,g5,g6,g7⟩ := said_facts hL
      refine (liveItems_any _ _ _ bi bp n L (if called = true then [] else liveL (readL l (hdBlk l) 14).1) sp called w1 hM g1 g2 e2 (hst.below hb1) (by rw [e1])).mono fun e w' ⟨v,a1,a2,a3⟩ => ⟨v,a1,own_lower a2 hb1.size,a3⟩
     unfold saidV at HSY
     generalize (if called = true then [] else liveL (readL l (hdBlk l) 14).1) = R at *
     generalize hdBlk l = k1 at *
     generalize hdSeed l = k2 at *
     generalize hdBits l = k3 at *
     clear hE hS hr hok hst hb HSD hbe hix hs z1 z2 HNL
     go_enter Tryz.func48,Tryz.ntmps48
     go_wp2_with (first | (go_at_call 80; refine HRD.mono ?_; rintro e w1 ⟨ev,rfl,hf,hb⟩; obtain rfl := fault_nil hf; have HB : Hid (Below w.heap.size w w1) := hb; clear hf hb) | (go_at_call 83; refine (HSY.out w1 HB.out).mono ?_; rintro e w2 ⟨L,bi,bp,nn,hL,rfl,hM,hb2⟩; have HB2 : Hid (Below w.heap.size w w2) := HB.out.trans (hb2.mono HB.out.size); have HM : Hid (Maps2 w2 bi bp nn L) := hM; have HL : Hid (saidS l = some L) := hL; have hz2 : w.heap.size <= w2.heap.size := HB2.out.size; clear hb2 hM hL) | (go_at_call 84; refine (HLI.out _ L bi bp nn ?_ HL.out ?_).mono ?_; exact HB2.out.alloc hz2 _; exact HM.out.alloc _; rintro e w3 ⟨v,rfl,ho,hb3⟩; have HO : Hid (w3.ownsRow w.heap.size 54 2 v R.length (cellsI R)) := ho; have HB3 : Hid (Below w.heap.size w w3) := (HB2.out.alloc hz2 _).trans (hb3.mono (by simp; omega)); clear ho hb3))
     go_ret2
     exact ⟨_,rfl,HO.out,HB3.out⟩
    ·have hs : saidE l i = 3 := by unfold saidE; rw [if_neg (by simp [hbe]),if_neg hix]
     rw [all_bad hd hb (by rw [hs]; decide),hs]
     have HSN : Hid (∀ w1 : World,Below w.heap.size w w1 -> Calls Tryz.prog 83 #[.string (S l),.string (S i)] w1 fun e w' => e = .returned (.tuple #[said0,.int .i64 3]) /\ Below w1.heap.size w1 w') := fun w1 hb1 => (HSD.out w1 hb1).mono fun e w' ⟨a1,a2⟩ => by
      rcases a1 with ⟨_,a1⟩ | ⟨L,bi,bp,n,a3,a4,_⟩
      ·exact ⟨a1,a2⟩
      ·exact absurd a4 hix
     unfold said0 at HSN
     clear hE hS hr hok hst hb HSD hbe hix hs z1 z2
     go_enter Tryz.func48,Tryz.ntmps48
     go_wp2_with (first | (go_at_call 80; refine HRD.mono ?_; rintro e w1 ⟨ev,rfl,hf,hb⟩; obtain rfl := fault_nil hf; have HB : Hid (Below w.heap.size w w1) := hb; clear hf hb) | (go_at_call 83; refine (HSN.out w1 HB.out).mono ?_; rintro e w2 ⟨rfl,hb2⟩; have HB2 : Hid (Below w.heap.size w w2) := HB.out.trans (hb2.mono HB.out.size); clear hb2))
     go_ret2
     exact ⟨_,rfl,HNL.out _,HB2.out.alloc HB2.out.size _⟩
   ·have hs : saidE l i = beginsE l i := by unfold saidE; rw [if_pos hbe]
    rw [all_bad hd hb (by rw [hs]; exact hbe),hs]
    have HSN : Hid (∀ w1 : World,Below w.heap.size w w1 -> Calls Tryz.prog 83 #[.string (S l),.string (S i)] w1 fun e w' => e = .returned (.tuple #[said0,.int .i64 (beginsE l i)]) /\ Below w1.heap.size w1 w') := fun w1 hb1 => said_begins (S l) (S i) w1 (by rw [S_size]; omega) (by rw [S_size]; omega) (HEV.out w1 hb1).halves hbe
    unfold said0 at HSN
    generalize beginsE l i = code at *
    clear hE hS hr hok hst hb hs z1 z2
    go_enter Tryz.func48,Tryz.ntmps48
    go_wp2_with (first | (go_at_call 80; refine HRD.mono ?_; rintro e w1 ⟨ev,rfl,hf,hb⟩; obtain rfl := fault_nil hf; have HB : Hid (Below w.heap.size w w1) := hb; clear hf hb) | (go_at_call 83; refine (HSN.out w1 HB.out).mono ?_; rintro e w2 ⟨rfl,hb2⟩; have HB2 : Hid (Below w.heap.size w w2) := HB.out.trans (hb2.mono HB.out.size); clear hb2))
    go_ret2
    exact ⟨_,rfl,HNL.out _,HB2.out.alloc HB2.out.size _⟩
theorem app_item {W : World} {base : Nat} {v : Value} {l : List Sd} {x : Sd} {g0 : Nat} (h1 : W.ownsRow base 54 2 v l.length (cellsI l)) (hg : ∀ j u,[Value.string (S x.key),.string (S x.val)][j]? = some u -> W.cell? ((⟨g0,0,none⟩ : Addr).add j) = some u) (hl : l.length <= 1000000) (hbase : base <= W.heap.size) :
  ∃ g cap w',(Builtin.append_ #[32,32] 32 #[v,.slice (some ⟨g0,0,none⟩) 1 1]).run Tryz.prog W = .ok (.slice (some ⟨g,0,none⟩) (l.length + 1) cap) w' /\
   w'.ownsRow base 54 2 (.slice (some ⟨g,0,none⟩) (l.length + 1) cap) (l.length + 1) (cellsI (l ++ [x])) /\ W.grownBy w' v.ownBlock := by
 obtain ⟨i0,hi,hz0,hz1,hz2⟩ := info_parts info_item
 obtain ⟨g,cap,w',a1,a2,a3,a4,a5⟩ := run_append_lies (P := Tryz.prog) W 32 32 base 54 i0 (.agg #[.string ⟨#[]⟩,.string ⟨#[]⟩]) 2 32 Tryz.underlying32 hi hz0 hz1 hz2 rfl (by decide) v l.length (cellsI l) h1 ⟨g0,0,none⟩ 1 1 [.string (S x.key),.string (S x.val)] rfl hg (by simp [Value.oneCell']) (by omega) (by unfold maxLen; omega) (by omega) hbase _ rfl
 rw [<- cellsI_snoc] at a2
 exact ⟨g,cap,w',a1,a2,a3⟩
def butK (k : List UInt8) (L : List Sd) : List Sd := L.filter fun x => decide (x.key ≠ k)
theorem butK_snoc (k : List UInt8) (M : List Sd) (x : Sd) : butK k (M ++ [x]) = if x.key = k then butK k M else butK k M ++ [x] := by
 unfold butK
 rw [List.filter_append]
 by_cases h : x.key = k <;> simp [h]
structure HeldAt (w : World) (base bh : Nat) (L : List Sd) (v : Value) : Prop where
 box : Bx w bh #[v] 34
 row : w.ownsRow base 54 2 v L.length (cellsI L)
theorem item_at {w : World} {g : Nat} {L : List Sd} (hgc : ∀ j,j < L.length * 2 -> w.cell? ⟨g,j,none⟩ = (cellsI L)[j]?) {i : Nat} (hi : i < L.length) :
  w.cell? ⟨g,i * 2,none⟩ = some (.string (S L[i].key)) /\ w.cell? ⟨g,i * 2 + 1,none⟩ = some (.string (S L[i].val)) := by
 have e : ∀ (l : List Sd) (i : Nat) (h : i < l.length),(cellsI l)[i * 2]? = some (.string (S l[i].key)) /\ (cellsI l)[i * 2 + 1]? = some (.string (S l[i].val)) := by
  intro l
  induction l with
  | nil => intro i h; simp at h
  | cons x l ih =>
   intro i h
   cases i with
   | zero => exact ⟨rfl,rfl⟩
   | succ i =>
    have := ih i (by simpa using h)
    rw [show (i + 1) * 2 = i * 2 + 1 + 1 by omega]
    exact this
 obtain ⟨h1,h2⟩ := e L i hi
 exact ⟨(hgc _ (by omega)).trans h1,(hgc _ (by omega)).trans h2⟩
theorem ktakes_any (base bh : Nat) (v : Value) (L : List Sd) (k : List UInt8) (w : World) (hh : HeldAt w base bh L v) (hv : v.ownBlock ≠ some bh) (hL : L.length <= 1000) (hk : k.length <= 100) :
  Calls Tryz.prog 23 #[.pointer (some ⟨bh,0,none⟩),.string (S k)] w fun e w' => e = .returned (.tuple #[]) /\ (∃ v',HeldAt w' w.heap.size bh (butK k L) v') /\ Chg (fun j => j = bh) w w' := by
 obtain ⟨hbox,hrow⟩ := hh
 have c0 : w.cell? ⟨bh,0,none⟩ = some v := hbox.cell (j := 0) rfl
 have hbl := hbox.lt
 have f0 := hbox.frozen 0
 obtain ⟨av,acp,hve⟩ := own_len hrow
 subst hve
 have HBX : Hid (∀ w1 : World,Below w.heap.size w w1 -> Bx w1 bh #[.slice av L.length acp] 34) := fun w1 hb => hbox.below hb hbl
 have HRW : Hid (w.ownsRow base 54 2 (.slice av L.length acp) L.length (cellsI L)) := hrow
 clear hbox hrow
 go_enter Tryz.func23,Tryz.ntmps23
 go_wp2
 go_loopw [4,5] (fun u i wr => ∃ j : Nat,j <= L.length /\ i = .int .i64 j /\ wr.ownsRow w.heap.size 54 2 u (butK k (L.take j)).length (cellsI (butK k (L.take j))) /\ Below w.heap.size w wr) (fun _ i _ => L.length - (intOf i).toNat)
 case atStart => exact ⟨0,by omega,rfl,World.ownsRow_nil _ _ _ _,Below.refl _ _⟩
 case round =>
  obtain ⟨j,hj,rfl,ho,hb⟩ := hrel
  have HB : Hid (Below w.heap.size w wr) := hb
  have hbz := hb.size
  have c0r : wr.cell? ⟨bh,0,none⟩ = some (.slice av L.length acp) := (HBX.out wr hb).cell (j := 0) rfl
  clear c0
  by_cases hlt : j < L.length
  ·obtain ⟨g,cap',hv2,_,hgl,hgc⟩ := own_cellsN HRW.out (by omega)
   have ea : av = some ⟨g,0,none⟩ := by injection hv2
   subst ea
   obtain ⟨b0,b1⟩ := item_at hgc hlt
   have g0 := (hb.cell (p := ⟨g,j * 2,none⟩) hgl).trans b0
   have g1 := (hb.cell (p := ⟨g,j * 2 + 1,none⟩) hgl).trans b1
   by_cases hke : L[j].key = k
   ·have hcmp : ((S L[j].key).toList == (S k).toList) = true := by rw [hke]; simp
    have HN : Hid (butK k (L.take (j + 1)) = butK k (L.take j)) := by
     show _ = _
     rw [List.take_succ_eq_append_getElem hlt,butK_snoc,if_pos hke]
    have HO : Hid (wr.ownsRow w.heap.size 54 2 u4 (butK k (L.take j)).length (cellsI (butK k (L.take j)))) := ho
    clear b0 b1 hgc hv2 ho hb
    generalize L[j] = x at *
    go_wp2
    go_roundw
    case rel => exact ⟨j + 1,by omega,by go_num,by rw [HN.out]; exact HO.out,HB.out⟩
    case measure => simp [intOf]; omega
   ·have hcmp : ((S L[j].key).toList == (S k).toList) = false := by
     rw [ByteArray.toList_eq,ByteArray.toList_eq,S_data,S_data,beq_eq_false_iff_ne]; exact hke
    have HN : Hid (butK k (L.take (j + 1)) = butK k (L.take j) ++ [L[j]]) := by
     show _ = _
     rw [List.take_succ_eq_append_getElem hlt,butK_snoc,if_neg hke]
    have hml : (butK k (L.take j)).length <= j := by unfold butK; exact Nat.le_trans (List.length_filter_le _ _) (by simp; omega)
    generalize butK k (L.take j) = M at *
    have ho' : (wr.alloc (.cells #[.string (S L[j].key),.string (S L[j].val)] 54)).ownsRow w.heap.size 54 2 u4 M.length (cellsI M) := ho.alloc _
    obtain ⟨g',cp',X,hrun,hown,hgrow⟩ := app_item (x := L[j]) (g0 := wr.heap.size) ho' (fun j u hu => cells_two_new wr _ _ _ j u hu) (by omega) (by simp; omega)
    have HOWN : Hid (X.ownsRow w.heap.size 54 2 (.slice (some ⟨g',0,none⟩) (M.length + 1) cp') (M.length + 1) (cellsI (M ++ [L[j]]))) := hown
    have HX : Hid (Below w.heap.size w X) := (hb.alloc hbz _).grown hgrow (by simp; omega) (own_ge ho)
    have HRUN : Hid _ := hrun
    obtain ⟨a4,c4x,hu4⟩ := own_len ho
    subst hu4
    clear b0 b1 hgc hv2 ho ho' hrun hown hgrow hb
    generalize L[j] = x at *
    go_wp2_with (first | (at_builtin; refine wp_append_run rfl (.tmp 25) (.tmp 33) 32 32 rfl rfl rfl HRUN.out ?_))
    go_roundw
    case rel => exact ⟨j + 1,by omega,by go_num,by rw [HN.out,List.length_append]; exact HOWN.out,HX.out⟩
    case measure => simp [intOf]; omega
  ·have e : j = L.length := by omega
   subst e
   rw [List.take_length] at ho
   have HO : Hid (wr.ownsRow w.heap.size 54 2 u4 (butK k L).length (cellsI (butK k L))) := ho
   have fr : wr.frozen? ⟨bh,0,none⟩ = false := (HBX.out wr hb).frozen 0
   have HN : Hid (Bx (wr.setCell ⟨bh,0,none⟩ u4) bh #[u4] 34) := (HBX.out wr hb).setj 0 u4
   obtain ⟨a4,c4x,hu4⟩ := own_len ho
   subst hu4
   clear ho hb
   go_wp2
   refine bodyPost_end (v := .tuple #[]) ?_ rfl ⟨rfl,⟨_,HN.out,?_⟩,?_⟩
   ·simp [results,Tryz.results23,go_sem]
   ·refine own_chg HO.out (chg_one (F := fun j => j = bh) (grown_setB _ _ _ _) rfl) (fun g e h => ?_)
    have := own_ge HO.out g e
    omega
   ·exact (Chg.of_below HB.out).set bh 0 _ (.inl rfl)
theorem findK_drop {k : List UInt8} {L : List Sd} {j : Nat} (hj : j < L.length) : findKv k (L.drop j) = if L[j].key = k then some L[j].val else findKv k (L.drop (j + 1)) := by
 rw [List.drop_eq_getElem_cons hj]; rfl
theorem kfind_any (base bh : Nat) (v : Value) (L : List Sd) (k : List UInt8) (w : World) (hh : HeldAt w base bh L v) (hL : L.length <= 1000) :
  Calls Tryz.prog 45 #[.pointer (some ⟨bh,0,none⟩),.string (S k)] w fun e w' => e = .returned (.tuple #[.string (S ((findKv k L).getD [])),.bool (findKv k L).isSome]) /\ w' = w := by
 obtain ⟨hbox,hrow⟩ := hh
 have c0 : w.cell? ⟨bh,0,none⟩ = some v := hbox.cell (j := 0) rfl
 obtain ⟨av,acp,hve⟩ := own_len hrow
 subst hve
 have HRW : Hid (w.ownsRow base 54 2 (.slice av L.length acp) L.length (cellsI L)) := hrow
 clear hbox hrow
 go_enter Tryz.func45,Tryz.ntmps45
 go_wp2
 go_loopw [6] (fun i wr => ∃ j : Nat,j <= L.length /\ i = .int .i64 j /\ findKv k (L.drop j) = findKv k L /\ wr = w) (fun i _ => L.length - (intOf i).toNat)
 case atStart => exact ⟨0,by omega,rfl,rfl,rfl⟩
 case round =>
  obtain ⟨j,hj,rfl,hf,rfl⟩ := hrel
  by_cases hlt : j < L.length
  ·obtain ⟨g,cap',hv2,_,hgl,hgc⟩ := own_cellsN HRW.out (by omega)
   have ea : av = some ⟨g,0,none⟩ := by injection hv2
   subst ea
   obtain ⟨g0,g1⟩ := item_at hgc hlt
   rw [findK_drop hlt] at hf
   by_cases hke : L[j].key = k
   ·have hcmp : ((S L[j].key).toList == (S k).toList) = true := by rw [hke]; simp
    rw [if_pos hke] at hf
    have HF : Hid (findKv k L = some L[j].val) := hf.symm
    clear hgc hv2 hf
    generalize L[j] = x at *
    go_wp2
    go_ret2
    exact ⟨by rw [HF.out]; rfl,rfl⟩
   ·have hcmp : ((S L[j].key).toList == (S k).toList) = false := by
     rw [ByteArray.toList_eq,ByteArray.toList_eq,S_data,S_data,beq_eq_false_iff_ne]; exact hke
    rw [if_neg hke] at hf
    have HF : Hid (findKv k (L.drop (j + 1)) = findKv k L) := hf
    clear hgc hv2 hf
    generalize L[j] = x at *
    go_wp2
    go_roundw
    case rel => exact ⟨j + 1,by omega,by go_num,by simpa using HF.out⟩
    case measure => simp [intOf]; omega
  ·have e : j = L.length := by omega
   subst e
   have E2 : Hid (findKv k L = none) := by show _ = _; rw [<- hf,List.drop_length]; rfl
   clear hf
   go_wp2
   go_ret2
   exact ⟨by rw [E2.out]; rfl,rfl⟩
def sameK (A B : List Sd) : Prop := A.map kv = B.map kv
theorem ksame_any (b1 b2 : Nat) (v1 v2 : Value) (A B : List Sd) (w : World) (h1 : w.ownsRow b1 54 2 v1 A.length (cellsI A)) (h2 : w.ownsRow b2 54 2 v2 B.length (cellsI B)) (hA : A.length <= 100000) (hB : B.length <= 100000) (hs : sameK A B) :
  Calls Tryz.prog 49 #[v1,v2] w fun e w' => e = .returned (.bool true) /\ Below w.heap.size w w' := by
 have hl : A.length = B.length := by have := congrArg List.length hs; simpa using this
 obtain ⟨a1,c1,e1⟩ := own_len h1
 obtain ⟨a2,c2,e2⟩ := own_len h2
 subst e1
 subst e2
 have H1 : Hid (w.ownsRow b1 54 2 (.slice a1 A.length c1) A.length (cellsI A)) := h1
 have H2 : Hid (w.ownsRow b2 54 2 (.slice a2 B.length c2) B.length (cellsI B)) := h2
 clear h1 h2
 go_enter Tryz.func49,Tryz.ntmps49
 go_wp2
 go_loopw [5] (fun i wr => ∃ j : Nat,j <= A.length /\ i = .int .i64 j /\ Below w.heap.size w wr) (fun i _ => A.length - (intOf i).toNat)
 case atStart => exact ⟨0,by omega,rfl,Below.refl _ _⟩
 case round =>
  obtain ⟨j,hj,rfl,hb⟩ := hrel
  by_cases hlt : j < A.length
  ·obtain ⟨g,cap',hv2,_,hgl,hgc⟩ := own_cellsN H1.out (by omega)
   have ea : a1 = some ⟨g,0,none⟩ := by injection hv2
   subst ea
   obtain ⟨g',cap2,hv3,_,hgl2,hgc2⟩ := own_cellsN H2.out (by omega)
   have ea : a2 = some ⟨g',0,none⟩ := by injection hv3
   subst ea
   obtain ⟨p0,p1⟩ := item_at hgc hlt
   obtain ⟨q0,q1⟩ := item_at hgc2 (show j < B.length by omega)
   have he : (A[j].key,A[j].val) = (B[j].key,B[j].val) := by
    have := congrArg (fun l => l[j]?) hs
    simp [hlt,show j < B.length by omega,kv] at this
    simp [this]
   injection he with he1 he2
   rw [<- he1] at q0
   rw [<- he2] at q1
   have p0' := (hb.cell (p := ⟨g,j * 2,none⟩) hgl).trans p0
   have p1' := (hb.cell (p := ⟨g,j * 2 + 1,none⟩) hgl).trans p1
   have q0' := (hb.cell (p := ⟨g',j * 2,none⟩) hgl2).trans q0
   have q1' := (hb.cell (p := ⟨g',j * 2 + 1,none⟩) hgl2).trans q1
   have hc1 : ((S A[j].key).toList == (S A[j].key).toList) = true := by simp
   have hc2 : ((S A[j].val).toList == (S A[j].val).toList) = true := by simp
   have hjB : j < B.length := by omega
   clear hgc hgc2 hv2 hv3 hs he1 he2 p0 p1 q0 q1
   generalize A[j] = x at *
   go_wp2_with fail
   go_region
   all_goals
    go_wp2
    go_roundw
    case rel => exact ⟨j + 1,by omega,by go_num,hb.drew⟩
    case measure => simp [intOf]; omega
  ·go_wp2
   go_ret
   exact ⟨rfl,hb⟩
structure KAt (E : Sent) (n : Nat) (G : Nat -> Prop) (bx bh : Nat) (d : Dk) (L : List Sd) (w : World) : Prop where
 env : Env0 n w E
 gs : ∀ k,G k -> n <= k /\ k < w.heap.size
 st : ∃ q,StoreAt w G bx d q
 held : ∃ v,HeldAt w n bh L v /\ v.ownBlock ≠ some bh /\ ∀ g,v.ownBlock = some g -> ¬ G g
 nb : n <= bh
 gb : ¬ G bh
theorem HeldAt.chg {w w' : World} {base bh : Nat} {L : List Sd} {v : Value} {F : Nat -> Prop} (h : HeldAt w base bh L v) (hc : Chg F w w') (hb : ¬ F bh) (hv : ∀ g,v.ownBlock = some g -> ¬ F g) : HeldAt w' base bh L v :=
 ⟨h.box.chg hc hb,own_chg h.row hc hv⟩
theorem KAt.below {E : Sent} {n : Nat} {G : Nat -> Prop} {bx bh : Nat} {d : Dk} {L : List Sd} {w w' : World} (h : KAt E n G bx bh d L w) (hb : Below w.heap.size w w') : KAt E n G bx bh d L w' := by
 obtain ⟨q,hq⟩ := h.st
 obtain ⟨v,h1,h2,h3⟩ := h.held
 exact ⟨h.env.below (hb.mono h.env.le),fun k hk => ⟨(h.gs k hk).1,Nat.lt_of_lt_of_le (h.gs k hk).2 hb.size⟩,⟨q,hq.below hb⟩,⟨v,h1.chg (Chg.of_below (F := fun _ => False) hb) (fun h => h) (fun _ _ h => h),h2,h3⟩,h.nb,h.gb⟩
theorem KAt.store {E : Sent} {n : Nat} {G : Nat -> Prop} {bx bh : Nat} {d d' : Dk} {L : List Sd} {w w' : World} (h : KAt E n G bx bh d L w) (hd : Done E G bx w d' w') : KAt E n (Fx G w w') bx bh d' L w' /\ Below n w w' := by
 obtain ⟨⟨q,hq⟩,hc⟩ := hd
 obtain ⟨v,h1,h2,h3⟩ := h.held
 have hb : Below n w w' := hc.below h.env.le (fun k hk => (h.gs k hk).1)
 refine ⟨⟨h.env.below hb,?_,⟨q,hq⟩,⟨v,h1.chg hc h.gb h3,h2,?_⟩,h.nb,?_⟩,hb⟩
 ·rintro k (hk | hk)
  ·exact ⟨(h.gs k hk).1,Nat.lt_of_lt_of_le (h.gs k hk).2 hc.size⟩
  ·exact ⟨Nat.le_trans h.env.le hk.1,hk.2⟩
 ·rintro g hg (hk | hk)
  ·exact h3 g hg hk
  ·exact absurd (own_lt h1.row g hg) (by omega)
 ·rintro (hk | hk)
  ·exact h.gb hk
  ·exact absurd h1.box.lt (by omega)
theorem KAt.hold {E : Sent} {n : Nat} {G : Nat -> Prop} {bx bh : Nat} {d : Dk} {L L' : List Sd} {w w' : World} {v' : Value} (h : KAt E n G bx bh d L w) (hh : HeldAt w' w.heap.size bh L' v') (hc : Chg (fun j => j = bh) w w') : KAt E n G bx bh d L' w' /\ Below n w w' := by
 obtain ⟨q,hq⟩ := h.st
 obtain ⟨v,h1,h2,h3⟩ := h.held
 have hb : Below n w w' := hc.below h.env.le (fun k hk => by rw [hk]; exact h.nb)
 refine ⟨⟨h.env.below hb,fun k hk => ⟨(h.gs k hk).1,Nat.lt_of_lt_of_le (h.gs k hk).2 hc.size⟩,⟨q,hq.keep hc (fun k hk e => h.gb (by rw [<- e]; exact hk))⟩,⟨v',⟨hh.box,own_lower hh.row h.env.le⟩,?_,?_⟩,h.nb,h.gb⟩,hb⟩
 ·intro e
  have := own_ge hh.row bh e
  exact absurd h1.box.lt (by omega)
 ·intro g hg hk
  have := own_ge hh.row g hg
  exact absurd (h.gs g hk).2 (by omega)
theorem KAt.push {E : Sent} {n : Nat} {G : Nat -> Prop} {bx bh : Nat} {d : Dk} {M : List Sd} {w : World} {v : Value} (h : KAt E n G bx bh d M w) (hh : HeldAt w n bh M v) (hv : v.ownBlock ≠ some bh) (hg : ∀ g,v.ownBlock = some g -> ¬ G g) (x : Sd) (hM : M.length <= 1000) :
  ∃ g cp X,(Builtin.append_ #[32,32] 32 #[v,.slice (some ⟨w.heap.size,0,none⟩) 1 1]).run Tryz.prog (w.alloc (.cells #[.string (S x.key),.string (S x.val)] 54)) = .ok (.slice (some ⟨g,0,none⟩) (M.length + 1) cp) X /\
   X.cell? ⟨bh,0,none⟩ = some v /\ X.frozen? ⟨bh,0,none⟩ = false /\ KAt E n G bx bh d (M ++ [x]) (X.setCell ⟨bh,0,none⟩ (.slice (some ⟨g,0,none⟩) (M.length + 1) cp)) /\ Below n w (X.setCell ⟨bh,0,none⟩ (.slice (some ⟨g,0,none⟩) (M.length + 1) cp)) := by
 obtain ⟨i0,hi,hz0,hz1,hz2⟩ := info_parts info_item
 have hb0 := hh.box.lt
 have hn := h.env.le
 obtain ⟨g,cap,X,a1,a2,a3,a4,a5⟩ := run_append_lies (P := Tryz.prog) (w.alloc (.cells #[.string (S x.key),.string (S x.val)] 54)) 32 32 n 54 i0 (.agg #[.string ⟨#[]⟩,.string ⟨#[]⟩]) 2 32 Tryz.underlying32 hi hz0 hz1 hz2 rfl (by decide) v M.length (cellsI M) (hh.row.alloc _) ⟨w.heap.size,0,none⟩ 1 1 [.string (S x.key),.string (S x.val)] rfl (fun j u hu => cells_two_new w _ _ _ j u hu) (by simp [Value.oneCell']) (by omega) (by unfold maxLen; omega) (by omega) (by simp; omega) _ rfl
 rw [<- cellsI_snoc] at a2
 have hgw : (v.ownBlock = some g \/ w.heap.size <= g) := by
  rcases a4 with a4 | a4
  ·exact .inl a4
  ·right; rw [a4]; simp
 have hgb : g ≠ bh := by
  rcases hgw with e | e
  ·intro h; rw [h] at e; exact hv e
  ·omega
 have hbW : Bx (w.alloc (.cells #[.string (S x.key),.string (S x.val)] 54)) bh #[v] 34 := hh.box.alloc _
 have hcX : Chg (fun j => v.ownBlock = some j) (w.alloc (.cells #[.string (S x.key),.string (S x.val)] 54)) X := (Chg.refl _ _).grown a3 (fun k e => .inl e)
 have hbX : Bx X bh #[v] 34 := hbW.chg hcX hv
 have hC : Chg (fun j => j = bh \/ v.ownBlock = some j) w (X.setCell ⟨bh,0,none⟩ (.slice (some ⟨g,0,none⟩) (M.length + 1) cap)) :=
  (((Chg.refl _ _).alloc _).grown a3 (fun k e => .inl (.inr e))).set bh 0 _ (.inl (.inl rfl))
 have hK : ∀ k,(k = bh \/ v.ownBlock = some k) -> n <= k := by
  rintro k (hk | hk)
  ·rw [hk]; exact h.nb
  ·exact own_ge hh.row k hk
 have hB : Below n w (X.setCell ⟨bh,0,none⟩ (.slice (some ⟨g,0,none⟩) (M.length + 1) cap)) := hC.below hn hK
 obtain ⟨q,hq⟩ := h.st
 refine ⟨g,cap,X,a1,hbX.cell (j := 0) rfl,hbX.frozen 0,⟨h.env.below hB,fun k hk => ⟨(h.gs k hk).1,Nat.lt_of_lt_of_le (h.gs k hk).2 hC.size⟩,⟨q,hq.keep hC ?_⟩,⟨_,⟨hbX.setj 0 _,?_⟩,?_,?_⟩,h.nb,h.gb⟩,hB⟩
 ·rintro k hk (e | e)
  ·exact h.gb (by rw [<- e]; exact hk)
  ·exact hg k e hk
 ·rw [List.length_append]
  refine own_chg a2 (chg_one (F := fun j => j = bh) (grown_setB _ _ _ _) rfl) (fun g' e h' => ?_)
  have e' : g = g' := by simpa [Value.ownBlock] using e
  exact hgb (e'.trans h')
 ·intro e
  have e' : g = bh := by simpa [Value.ownBlock] using e
  exact hgb e'
 ·intro g' e hk
  have e' : g = g' := by simpa [Value.ownBlock] using e
  subst e'
  rcases hgw with e2 | e2
  ·exact hg g e2 hk
  ·exact absurd (h.gs g hk).2 (by omega)
def keyR (a : Int) : List UInt8 := keyK (pickK a 60).toNat
def entK (a b : Int) : Ent := if pickK b 4 = 0 then ⟨false,keyR a,[]⟩ else ⟨true,keyR a,valueK (b.tdiv 4)⟩
theorem keyR_len (a : Int) : 2 <= (keyR a).length /\ (keyR a).length <= 3 := by
 have := digitsK_len (pickK a 60).toNat
 unfold keyR keyK
 simp
 omega
theorem entK_ok (a b : Int) : EntOk (entK a b) := by
 have h1 := keyR_len a
 have h2 := valueK_len (b.tdiv 4)
 unfold entK
 split
 ·exact ⟨by show 1 <= (keyR a).length; omega,by show (keyR a).length <= 20; omega,by simp,fun _ => rfl⟩
 ·exact ⟨by show 1 <= (keyR a).length; omega,by show (keyR a).length <= 20; omega,h2,fun h => by cases h⟩
theorem tdiv_range {b : Int} (h : IntR b) : IntR (b.tdiv 4) := by
 obtain ⟨h1,h2⟩ := h
 by_cases h0 : 0 <= b
 ·rw [Int.tdiv_eq_ediv_of_nonneg h0]
  constructor <;> omega
 ·obtain ⟨c,rfl⟩ : ∃ c : Int,b = -c := ⟨-b,by omega⟩
  rw [Int.neg_tdiv,Int.tdiv_eq_ediv_of_nonneg (by omega)]
  constructor <;> omega
theorem kentry_del (E : Sent) (n : Nat) (G : Nat -> Prop) (bx bh : Nat) (d : Dk) (L : List Sd) (a b : Int) (w : World) (h : KAt E n G bx bh d L w) (hok : DkOk d) (hL : L.length <= 1000) (ha : IntR a) (hb : IntR b) (hp : pickK b 4 = 0) (hadd : (d.add ⟨false,keyR a,[]⟩).1 = 0) :
  Calls Tryz.prog 15 #[.pointer (some ⟨bx,0,none⟩),.pointer (some ⟨bh,0,none⟩),.int .i64 a,.int .i64 b] w fun e w' => e = .returned (.bool true) /\ ∃ G',KAt E n G' bx bh (d.add ⟨false,keyR a,[]⟩).2 (butK (keyR a) L) w' /\ Below n w w' := by
 have HK : Hid (∀ w1 : World,Calls Tryz.prog 22 #[.int .i64 a] w1 fun e w' => e = .returned (.string (S (keyR a))) /\ Below w1.heap.size w1 w') := fun w1 => kkey_any a w1 ha
 have HP : Hid (∀ w1 : World,Calls Tryz.prog 16 #[.int .i64 b,.int .i64 4] w1 fun e w' => e = .returned (.int .i64 0) /\ w' = w1) := fun w1 => by
  have := kpick_any b 4 w1 (by omega) hb (by omega)
  rw [hp] at this
  exact this
 have hkl := keyR_len a
 have HT : Hid (∀ w1 : World,KAt E n G bx bh d L w1 -> Calls Tryz.prog 23 #[.pointer (some ⟨bh,0,none⟩),.string (S (keyR a))] w1 fun e w' => e = .returned (.tuple #[]) /\ KAt E n G bx bh d (butK (keyR a) L) w' /\ Below n w1 w') := fun w1 hk => by
  obtain ⟨v,k1,k2,k3⟩ := hk.held
  refine (ktakes_any n bh v L (keyR a) w1 k1 k2 hL (by omega)).mono ?_
  rintro e w' ⟨rfl,⟨v',hv'⟩,hc⟩
  exact ⟨rfl,hk.hold hv' hc⟩
 have HD : Hid (∀ w1 : World,KAt E n G bx bh d (butK (keyR a) L) w1 -> Calls Tryz.prog 24 #[.pointer (some ⟨bx,0,none⟩),.string (S (keyR a))] w1 fun e w' => e = .returned (.int .i64 0) /\ (∃ G',KAt E n G' bx bh (d.add ⟨false,keyR a,[]⟩).2 (butK (keyR a) L) w') /\ Below n w1 w') := fun w1 hk => by
  obtain ⟨q,hq⟩ := hk.st
  refine (delS_any E n G bx d q (keyR a) w1 hk.env hk.gs hq hok).mono ?_
  rintro e w' ⟨rfl,hd⟩
  rw [hadd]
  obtain ⟨k1,k2⟩ := hk.store hd
  exact ⟨rfl,⟨_,k1⟩,k2⟩
 have HW : Hid (KAt E n G bx bh d L w) := h
 have HN : Hid (n <= w.heap.size) := h.env.le
 clear h hok hadd hp ha hb
 generalize (d.add ⟨false,keyR a,[]⟩).2 = d' at *
 generalize butK (keyR a) L = L' at *
 generalize keyR a = ky at *
 go_enter Tryz.func15,Tryz.ntmps15
 go_wp2_with (first | (go_at_call 22; refine (HK.out _).mono ?_; rintro e w1 ⟨rfl,hb1⟩; have HB1 : Hid (Below w.heap.size w w1) := hb1; clear hb1) | (go_at_call 23; refine (HT.out w1 (HW.out.below HB1.out)).mono ?_; rintro e w2 ⟨rfl,hk2,hb2⟩; have HK2 : Hid (KAt E n G bx bh d L' w2) := hk2; have HB2 : Hid (Below n w1 w2) := hb2; clear hk2 hb2) | (go_at_call 16; refine (HP.out _).mono ?_; rintro e w2 ⟨rfl,rfl⟩) | (go_at_call 24; refine (HD.out w2 HK2.out).mono ?_; rintro e w3 ⟨rfl,⟨G',hk3⟩,hb3⟩; have HK3 : Hid (KAt E n G' bx bh d' L' w3) := hk3; have HB3 : Hid (Below n w2 w3) := hb3; clear hk3 hb3))
 go_ret
 exact ⟨rfl,G',HK3.out,(HB1.out.mono HN.out).trans (HB2.out.trans HB3.out)⟩
theorem kentry_put (E : Sent) (n : Nat) (G : Nat -> Prop) (bx bh : Nat) (d : Dk) (L : List Sd) (a b : Int) (w : World) (h : KAt E n G bx bh d L w) (hok : DkOk d) (hL : L.length <= 1000) (ha : IntR a) (hb : IntR b) (hp : pickK b 4 ≠ 0) (hadd : (d.add ⟨true,keyR a,valueK (b.tdiv 4)⟩).1 = 0) :
  Calls Tryz.prog 15 #[.pointer (some ⟨bx,0,none⟩),.pointer (some ⟨bh,0,none⟩),.int .i64 a,.int .i64 b] w fun e w' => e = .returned (.bool true) /\ ∃ G',KAt E n G' bx bh (d.add ⟨true,keyR a,valueK (b.tdiv 4)⟩).2 (butK (keyR a) L ++ [⟨true,keyR a,valueK (b.tdiv 4),0,0⟩]) w' /\ Below n w w' := by
 have HK : Hid (∀ w1 : World,Calls Tryz.prog 22 #[.int .i64 a] w1 fun e w' => e = .returned (.string (S (keyR a))) /\ Below w1.heap.size w1 w') := fun w1 => kkey_any a w1 ha
 have HV : Hid (∀ w1 : World,Calls Tryz.prog 25 #[.int .i64 (b.tdiv 4)] w1 fun e w' => e = .returned (.string (S (valueK (b.tdiv 4)))) /\ Below w1.heap.size w1 w') := fun w1 => kvalue_any _ w1 (tdiv_range hb)
 have HP : Hid (∀ w1 : World,Calls Tryz.prog 16 #[.int .i64 b,.int .i64 4] w1 fun e w' => e = .returned (.int .i64 (pickK b 4)) /\ w' = w1) := fun w1 => kpick_any b 4 w1 (by omega) hb (by omega)
 have hwr : IntKind.i64.wrap (b.tdiv 4) = b.tdiv 4 := by
  have := tdiv_range hb
  unfold IntR at this
  rw [IntKind.wrap_i64]
  omega
 have hkl := keyR_len a
 have HT : Hid (∀ w1 : World,KAt E n G bx bh d L w1 -> Calls Tryz.prog 23 #[.pointer (some ⟨bh,0,none⟩),.string (S (keyR a))] w1 fun e w' => e = .returned (.tuple #[]) /\ KAt E n G bx bh d (butK (keyR a) L) w' /\ Below n w1 w') := fun w1 hk => by
  obtain ⟨v,k1,k2,k3⟩ := hk.held
  refine (ktakes_any n bh v L (keyR a) w1 k1 k2 hL (by omega)).mono ?_
  rintro e w' ⟨rfl,⟨v',hv'⟩,hc⟩
  exact ⟨rfl,hk.hold hv' hc⟩
 have hML : (butK (keyR a) L).length <= 1000 := by unfold butK; exact Nat.le_trans (List.length_filter_le _ _) hL
 have HD : Hid (∀ w1 : World,KAt E n G bx bh d (butK (keyR a) L ++ [⟨true,keyR a,valueK (b.tdiv 4),0,0⟩]) w1 -> Calls Tryz.prog 26 #[.pointer (some ⟨bx,0,none⟩),.string (S (keyR a)),.string (S (valueK (b.tdiv 4)))] w1 fun e w' => e = .returned (.int .i64 0) /\ (∃ G',KAt E n G' bx bh (d.add ⟨true,keyR a,valueK (b.tdiv 4)⟩).2 (butK (keyR a) L ++ [⟨true,keyR a,valueK (b.tdiv 4),0,0⟩]) w') /\ Below n w1 w') := fun w1 hk => by
  obtain ⟨q,hq⟩ := hk.st
  refine (putS_any E n G bx d q (keyR a) (valueK (b.tdiv 4)) w1 hk.env hk.gs hq hok).mono ?_
  rintro e w' ⟨rfl,hd⟩
  rw [hadd]
  obtain ⟨k1,k2⟩ := hk.store hd
  exact ⟨rfl,⟨_,k1⟩,k2⟩
 have HW : Hid (KAt E n G bx bh d L w) := h
 have HN : Hid (n <= w.heap.size) := h.env.le
 clear h hok hadd ha hb hL
 generalize (d.add ⟨true,keyR a,valueK (b.tdiv 4)⟩).2 = d' at *
 generalize butK (keyR a) L = M at *
 generalize keyR a = ky at *
 generalize valueK (b.tdiv 4) = vl at *
 generalize hq : b.tdiv 4 = b4 at *
 generalize pickK b 4 = pb at *
 go_enter Tryz.func15,Tryz.ntmps15
 go_wp2_with (first | (go_at_call 22; refine (HK.out _).mono ?_; rintro e w1 ⟨rfl,hb1⟩; have HB1 : Hid (Below w.heap.size w w1) := hb1; clear hb1) | (go_at_call 23; refine (HT.out w1 (HW.out.below HB1.out)).mono ?_; rintro e w2 ⟨rfl,hk2,hb2⟩; have HK2 : Hid (KAt E n G bx bh d M w2) := hk2; have HB2 : Hid (Below n w1 w2) := hb2; clear hk2 hb2) | (go_at_call 16; refine (HP.out _).mono ?_; rintro e w2 ⟨rfl,rfl⟩))
 obtain ⟨v,hh2,hv2,hg2⟩ := HK2.out.held
 have c2 : w2.cell? ⟨bh,0,none⟩ = some v := hh2.box.cell (j := 0) rfl
 have f2 := hh2.box.frozen 0
 have HPU : Hid (∀ w3 : World,Below w2.heap.size w2 w3 -> w3.cell? ⟨bh,0,none⟩ = some v /\ ∃ g cp X,(Builtin.append_ #[32,32] 32 #[v,.slice (some ⟨w3.heap.size,0,none⟩) 1 1]).run Tryz.prog (w3.alloc (.cells #[.string (S ky),.string (S vl)] 54)) = .ok (.slice (some ⟨g,0,none⟩) (M.length + 1) cp) X /\
   X.cell? ⟨bh,0,none⟩ = some v /\ X.frozen? ⟨bh,0,none⟩ = false /\ KAt E n G bx bh d (M ++ [⟨true,ky,vl,0,0⟩]) (X.setCell ⟨bh,0,none⟩ (.slice (some ⟨g,0,none⟩) (M.length + 1) cp)) /\ Below n w2 (X.setCell ⟨bh,0,none⟩ (.slice (some ⟨g,0,none⟩) (M.length + 1) cp))) := fun w3 hb => by
  have hk3 := HK2.out.below hb
  have hh3 : HeldAt w3 n bh M v := hh2.chg (Chg.of_below (F := fun _ => False) hb) (fun h => h) (fun _ _ h => h)
  obtain ⟨g,cp,X,a1,a2,a3,a4,a5⟩ := hk3.push hh3 hv2 hg2 ⟨true,ky,vl,0,0⟩ hML
  exact ⟨hh3.box.cell (j := 0) rfl,g,cp,X,a1,a2,a3,a4,(hb.mono HK2.out.env.le).trans a5⟩
 obtain ⟨av,acp,hve⟩ := own_len hh2.row
 subst hve
 have hbl : bh < w2.heap.size := hh2.box.lt
 clear hh2 hv2 hg2
 go_region_law (first | (refine step_append_run rfl (.tmp 29) (.tmp 35) 32 rfl (by simp [Act.eval,Act.put]) (by simp [Act.eval,Act.put]) HRUN.out ?_) | (refine step_call_run rfl 25 (.tmp 32) 3 rfl (by simp [Act.eval,Act.put]) (by rfl) (HV.out _) ?_; rintro e w3 ⟨rfl,hb3⟩; refine ⟨_,rfl,?_⟩; have hb3' : Below w2.heap.size w2 w3 := ⟨hb3.os,hb3.tape,hb3.output,hb3.size,hb3.block⟩; have hz3 : bh < w3.heap.size := Nat.lt_of_lt_of_le hbl hb3'.size; have hn1 : bh ≠ w3.heap.size := (by omega); have hn2 : w3.heap.size ≠ bh := (by omega); obtain ⟨c3,g,cp,X,hrun,cX,fX,hkX,hbX⟩ := HPU.out w3 hb3'; have HRUN : Hid _ := hrun; have HKX : Hid (KAt E n G bx bh d (M ++ [⟨true,ky,vl,0,0⟩]) (X.setCell ⟨bh,0,none⟩ (.slice (some ⟨g,0,none⟩) (M.length + 1) cp))) := hkX; have HBX : Hid (Below n w2 (X.setCell ⟨bh,0,none⟩ (.slice (some ⟨g,0,none⟩) (M.length + 1) cp))) := hbX; clear hrun hkX hbX hb3 hb3'))
 all_goals
  go_wp2_with (first | (go_at_call 25; refine (HV.out _).mono ?_; rintro e w4 ⟨rfl,hb4⟩; have hk4 := HKX.out.below hb4; have HB4 : Hid (Below n w2 w4) := HBX.out.trans (hb4.mono (HKX.out.env.le)); have HK4 : Hid (KAt E n G bx bh d (M ++ [⟨true,ky,vl,0,0⟩]) w4) := hk4; clear hk4 hb4) | (go_at_call 26; refine (HD.out w4 HK4.out).mono ?_; rintro e w5 ⟨rfl,⟨G',hk5⟩,hb5⟩; have HK5 : Hid (KAt E n G' bx bh d' (M ++ [⟨true,ky,vl,0,0⟩]) w5) := hk5; have HB5 : Hid (Below n w4 w5) := hb5; clear hk5 hb5))
  go_ret
  exact ⟨rfl,G',HK5.out,(HB1.out.mono HN.out).trans (HB2.out.trans (HB4.out.trans HB5.out))⟩
end Go.Proofs.YtdhgebdbiehchaaGreatDoor
