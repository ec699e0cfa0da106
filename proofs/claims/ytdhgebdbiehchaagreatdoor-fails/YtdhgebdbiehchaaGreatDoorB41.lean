/- On the way: StopW, StopW2, PLive, PAll, RfAll, LwOwn, LwOwn3, LwOwn4. -/
import Derived.Test.YtdhgebdbiehchaaGreatDoorB40
import Derived.Conc.LoneCalls
import Derived.Conc.LoneSelect
import Derived.Defers
import Derived.Laws.LoneSync
import Derived.RegionCalls
import Derived.Test.YtdhgebdbiehchaaGreatDoorB39
namespace Go.Proofs.YtdhgebdbiehchaaGreatDoor
open Go.RowKit Go.Maps Go.Conc
set_option linter.unusedSimpArgs false
set_option linter.unusedVariables false
set_option maxRecDepth 100000
set_option maxHeartbeats 1600000
def StopAt (w : World) (b c : Nat) (called : Bool) : Prop := ∃ (dn sm : Int) (s r : Nat),Bx w b #[.int .u32 dn,.int .i32 0,.int .u32 sm,.chan (some c)] 238 /\ w.heap[c]? = some (.chan 0 #[] called s r false) /\ (called = false -> dn = 0) /\ (called = true -> dn = 1)
theorem wasCalled_nil (w : World) : Calls Tryz.prog 85 #[.pointer none] w fun e w' => e = .returned (.bool false) /\ w' = w := by
 go_enter Tryz.func85,Tryz.ntmps85
 go_wp2
 go_ret
 exact ⟨rfl,rfl⟩
theorem wasCalled_open (b c s r : Nat) (w : World) (h3 : w.cell? ⟨b,3,none⟩ = some (.chan (some c))) (hc : w.heap[c]? = some (.chan 0 #[] false s r false)) :
  Calls Tryz.prog 85 #[.pointer (some ⟨b,0,none⟩)] w fun e w' => e = .returned (.bool false) /\ w' = w := by
 refine calls_of_loneTo fun cs => ?_
 have e : Frame.enter Tryz.prog 85 #[.pointer (some ⟨b,0,none⟩)] .normal = (base 85).at ⟨#[.pointer (some ⟨b,0,none⟩),undef,undef,undef,undef,undef,undef,undef,undef,undef,undef,undef],[]⟩ [.code (Tryz.f85.body.getD .skip)] := by
  simp [Frame.enter,Frame.at,Tryz.func85,base,Tryz.f85]
 rw [e]
 refine LoneTo.goes (n := 40) ?_
 simp only [Tryz.f85,Option.getD_some]
 s_c stepG_seq
 s_reg
 s_op
 s_c stepG_region_end
 s_c stepG_seq
 s_c stepG_seq
 s_reg
 s_op
 s_op
 s_c stepG_region_end
 s_cond false
 s_c stepG_skip
 s_c stepG_seq
 s_reg
 s_op
 s_op
 s_op
 s_op
 s_c stepG_region_end
 s_c stepG_seq
 s_reg
 s_stop
 refine LoneTo.step (step_lone_select_default (c := c) (z := .agg #[]) (cap := 0) (s := s) (r := r) (tm := false) (stepG_comm (cases := #[rcase c (.agg #[])]) (blocking := false) (shape := .select) (w' := w) rfl rfl (by decide) (by simp [go_sem,execOp,rcase,Act.eval])) hc) ?_
 rw [Frame.finish_at]
 walk_nrm
 refine LoneTo.goes (n := 20) ?_
 s_op
 s_op
 s_c stepG_region_end
 s_c stepG_block
 s_cond false
 s_c stepG_seq
 s_reg
 s_op
 s_c stepG_region_end
 s_c stepG_ret'
 s_stop
 exact LoneTo.done ⟨.returned (.bool false),_,rfl,⟨rfl,rfl⟩,rfl,rfl,rfl,rfl,_,Tryz.func85,by simp [results,Tryz.f85,Frame.at]⟩
theorem wasCalled_shut (b c s r : Nat) (w : World) (h3 : w.cell? ⟨b,3,none⟩ = some (.chan (some c))) (hc : w.heap[c]? = some (.chan 0 #[] true s r false)) :
  Calls Tryz.prog 85 #[.pointer (some ⟨b,0,none⟩)] w fun e w' => e = .returned (.bool true) /\ w' = w := by
 refine calls_of_loneTo fun cs => ?_
 have e : Frame.enter Tryz.prog 85 #[.pointer (some ⟨b,0,none⟩)] .normal = (base 85).at ⟨#[.pointer (some ⟨b,0,none⟩),undef,undef,undef,undef,undef,undef,undef,undef,undef,undef,undef],[]⟩ [.code (Tryz.f85.body.getD .skip)] := by
  simp [Frame.enter,Frame.at,Tryz.func85,base,Tryz.f85]
 rw [e]
 refine LoneTo.goes (n := 40) ?_
 simp only [Tryz.f85,Option.getD_some]
 s_c stepG_seq
 s_reg
 s_op
 s_c stepG_region_end
 s_c stepG_seq
 s_c stepG_seq
 s_reg
 s_op
 s_op
 s_c stepG_region_end
 s_cond false
 s_c stepG_skip
 s_c stepG_seq
 s_reg
 s_op
 s_op
 s_op
 s_op
 s_c stepG_region_end
 s_c stepG_seq
 s_reg
 s_stop
 refine LoneTo.step (step_lone_select_recv_shut (c := c) (z := .agg #[]) (cap := 0) (s := s) (r := r) (tm := false) (stepG_comm (cases := #[rcase c (.agg #[])]) (blocking := false) (shape := .select) (w' := w) rfl rfl (by decide) (by simp [go_sem,execOp,rcase,Act.eval])) hc) ?_
 rw [Frame.finish_at]
 walk_nrm
 refine LoneTo.goes (n := 20) ?_
 s_op
 s_op
 s_c stepG_region_end
 s_c stepG_block
 s_cond true
 s_c stepG_seq
 s_reg
 s_op
 s_c stepG_region_end
 s_c stepG_ret'
 s_stop
 exact LoneTo.done ⟨.returned (.bool true),_,rfl,⟨rfl,rfl⟩,rfl,rfl,rfl,rfl,_,Tryz.func85,by simp [results,Tryz.f85,Frame.at]⟩
theorem wasCalled_any (b c : Nat) (called : Bool) (w : World) (h : StopAt w b c called) :
  Calls Tryz.prog 85 #[.pointer (some ⟨b,0,none⟩)] w fun e w' => e = .returned (.bool called) /\ w' = w := by
 obtain ⟨dn,sm,s,r,hb,hc,_,_⟩ := h
 cases called with
 | false => exact wasCalled_open b c s r w (hb.cell (j := 3) rfl) hc
 | true => exact wasCalled_shut b c s r w (hb.cell (j := 3) rfl) hc
theorem info_none : ∃ i,Tryz.prog.info? 224 = some i /\ i.bytes = 0 := by
 have h : (Tryz.prog.info? 224).map (·.bytes) = some 0 := by kernel_rfl
 obtain ⟨i,hi,hb⟩ := Option.map_eq_some_iff.1 h
 exact ⟨i,hi,hb⟩
theorem mk_chan (w : World) : (Instr.makeChan 236 (.int .i64 0)).run Tryz.prog w = .ok (.chan (some w.heap.size)) (w.alloc (.chan 0 #[] false 0 0 false)) := by
 obtain ⟨i,hi,hb⟩ := info_none
 simpa using run_makeChan (P := Tryz.prog) (w := w) Tryz.underlying236 hi .i64 0 (by omega) (by rw [hb]; omega)
theorem newStop_any (w : World) : Calls Tryz.prog 201 #[] w fun e w' => e = .returned (.pointer (some ⟨w.heap.size + 1,0,none⟩)) /\ StopAt w' (w.heap.size + 1) w.heap.size false /\ Below w.heap.size w w' := by
 have hmc := mk_chan
 go_enter Tryz.func201,Tryz.ntmps201
 go_wp2
 go_ret
 refine ⟨rfl,⟨0,0,0,0,bx_new _ _ _ (by simp),?_,fun _ => rfl,fun e => (by cases e)⟩,((Below.refl _ _).alloc (Nat.le_refl _) _).alloc (by simp) _⟩
 exact (Below.heap_alloc _ _ w.heap.size (by simp)).trans (heap_alloc_new w _)
theorem race_disable (w : World) : (callFunc 238 #[]).run Tryz.prog w = .ok (.value (.tuple #[])) w := run_call_mark0 Tryz.func238 (by kernel_rfl) (by kernel_rfl) (by kernel_rfl) .disable (by kernel_rfl) w
theorem race_enable (w : World) : (callFunc 240 #[]).run Tryz.prog w = .ok (.value (.tuple #[])) w := run_call_mark0 Tryz.func240 (by kernel_rfl) (by kernel_rfl) (by kernel_rfl) .enable (by kernel_rfl) w
theorem race_acquire (a : Addr) (w : World) : (callFunc 241 #[.pointer (some a)]).run Tryz.prog w = .ok (.value (.tuple #[])) w := run_call_marked Tryz.func241 (by kernel_rfl) (by kernel_rfl) (by kernel_rfl) .acquire (by kernel_rfl) a w
theorem race_release (a : Addr) (w : World) : (callFunc 243 #[.pointer (some a)]).run Tryz.prog w = .ok (.value (.tuple #[])) w := run_call_marked Tryz.func243 (by kernel_rfl) (by kernel_rfl) (by kernel_rfl) .releaseMerge (by kernel_rfl) a w
theorem store_deferred (a : Addr) (x : Value) (u : FrameMode) (w : World) (hc : w.cell? a = some x) (hz : w.frozen? a = false) :
  CallsD Tryz.prog 232 #[.pointer (some a),.bool true] u w fun e u' w' => u' = u /\ (e = .returned (.tuple #[]) /\ w' = w.drew.setCell a (.int .u32 1)) := by
 have hc' : w.drew.cell? a = some x := by go_simp
 have hz' : w.drew.frozen? a = false := by go_simp
 have hst := run_call_store (P := Tryz.prog) Tryz.func236 (by kernel_rfl) (by kernel_rfl) (by kernel_rfl) (by kernel_rfl) (k := .u32) (y := 1) hc' hz'
 go_enter_d Tryz.func232,Tryz.ntmps232
 go_wp2
 go_region_calls
 all_goals (go_end0; exact ⟨rfl,rfl⟩)
theorem unlock_deferred (a : Addr) (u : FrameMode) (w : World) (hc : w.cell? a = some (.int .i32 1)) (hz : w.frozen? a = false) :
  CallsD Tryz.prog 231 #[.pointer (some a)] u w fun e u' w' => u' = u /\ (e = .returned (.tuple #[]) /\ w' = w.setCell a (.int .i32 0)) := by
 have hd := race_disable
 have he := race_enable
 have hr := race_release
 have hadd := run_call_add (P := Tryz.prog) Tryz.func244 (by kernel_rfl) (by kernel_rfl) (by kernel_rfl) .i32 (by kernel_rfl) (y := -1) (s := 0) hc hz (by simp [go_sem]; rfl)
 have hcv := run_convert_to_unsafe (P := Tryz.prog) (src := 344) (dst := 203) Tryz.underlying344 Tryz.underlying203 (by kernel_rfl) hc
 go_enter_d Tryz.func231,Tryz.ntmps231
 go_wp2
 go_end0
 go_wp2
 go_end0
 exact ⟨rfl,rfl⟩
theorem lock_free (a : Addr) (w : World) (hc : w.cell? a = some (.int .i32 0)) (hz : w.frozen? a = false) :
  Calls Tryz.prog 230 #[.pointer (some a)] w fun e w' => e = .returned (.tuple #[]) /\ w' = w.setCell a (.int .i32 1) := by
 have hd := race_disable
 have he := race_enable
 have ha := race_acquire
 have hcas := run_call_cas_hit (P := Tryz.prog) Tryz.func239 (by kernel_rfl) (by kernel_rfl) (by kernel_rfl) .i32 (by kernel_rfl) (y := 1) hc hz
 have hc' : (w.setCell a (.int .i32 1)).cell? a = some (.int .i32 1) := World.cell?_setCell_same w a _ hc
 have hcv := run_convert_to_unsafe (P := Tryz.prog) (src := 344) (dst := 203) Tryz.underlying344 Tryz.underlying203 (by kernel_rfl) hc'
 go_enter Tryz.func230,Tryz.ntmps230
 go_wp2
 first | go_end0 | (simp only [Exit.inBlock,Exit.then]; refine bodyPost_ret (results_none rfl _ _ _) rfl ?_) | refine bodyPost_ret (results_none rfl _ _ _) rfl ?_
 go_wp2
 go_end0
 exact ⟨rfl,rfl⟩
theorem cell_chan (w : World) (c cap : Nat) (buf : Array Value) (cl : Bool) (s r : Nat) (tm : Bool) (b j : Nat) (h : b ≠ c) : (w.setChan c cap buf cl s r tm).cell? ⟨b,j,none⟩ = w.cell? ⟨b,j,none⟩ := by
 unfold World.cell? World.setChan
 simp only
 rw [Array.getElem?_setIfInBounds_ne (by omega)]
theorem frozen_chan (w : World) (c cap : Nat) (buf : Array Value) (cl : Bool) (s r : Nat) (tm : Bool) (b j : Nat) (h : b ≠ c) : (w.setChan c cap buf cl s r tm).frozen? ⟨b,j,none⟩ = w.frozen? ⟨b,j,none⟩ := by
 unfold World.frozen? World.setChan
 simp only
 rw [Array.getElem?_setIfInBounds_ne (by omega)]
theorem slow_any (b c s r : Nat) (pl : Addr) (hpb : ¬ b = pl.block) (hbc : b ≠ c) (w : World) (hp : w.cell? pl = some (.pointer (some ⟨b,0,none⟩)))
  (h0 : w.cell? ⟨b,0,none⟩ = some (.int .u32 0)) (h1 : w.cell? ⟨b,1,none⟩ = some (.int .i32 0)) (h3 : w.cell? ⟨b,3,none⟩ = some (.chan (some c))) (hc : w.heap[c]? = some (.chan 0 #[] false s r false))
  (f0 : w.frozen? ⟨b,0,none⟩ = false) (f1 : w.frozen? ⟨b,1,none⟩ = false) :
  Calls Tryz.prog 223 #[.pointer (some ⟨b,0,none⟩),.func (.func 211) #[] #[.pointer (some pl)]] w fun e w' => e = .returned (.tuple #[]) /\
   w' = (((w.setCell ⟨b,1,none⟩ (.int .i32 1)).setChan c 0 #[] true s r false).drew.setCell ⟨b,0,none⟩ (.int .u32 1)).setCell ⟨b,1,none⟩ (.int .i32 0) := by
 have hl := run_call_load (P := Tryz.prog) Tryz.func229 (by kernel_rfl) (by kernel_rfl) (by kernel_rfl) .u32 (by kernel_rfl) (w := w.setCell ⟨b,1,none⟩ (.int .i32 1)) (a := ⟨b,0,none⟩) (x := 0) ((World.cell?_setCell_other _ ⟨b,1,none⟩ ⟨b,0,none⟩ _ (by simp)).trans h0)
 have hp1 : (w.setCell ⟨b,1,none⟩ (.int .i32 1)).cell? pl = some (.pointer (some ⟨b,0,none⟩)) := (World.cell?_setCell_other _ ⟨b,1,none⟩ pl _ (fun h => hpb (by rw [<- h]))).trans hp
 have h31 : (w.setCell ⟨b,1,none⟩ (.int .i32 1)).cell? ⟨b,3,none⟩ = some (.chan (some c)) := (World.cell?_setCell_other _ ⟨b,1,none⟩ ⟨b,3,none⟩ _ (by simp)).trans h3
 have hc1 : (w.setCell ⟨b,1,none⟩ (.int .i32 1)).heap[c]? = some (.chan 0 #[] false s r false) := (Below.heap_setCell w ⟨b,1,none⟩ (.int .i32 1) c (by simp; omega)).trans hc
 have hnot : ∀ (x : Bool) (w : World),(Op.unary .not (.bool x)).run Tryz.prog w = .ok (.bool (!x)) w := fun _ _ => rfl
 have hcl : ∀ ats ty,(Builtin.close_ ats ty #[.chan (some c)]).run Tryz.prog (w.setCell ⟨b,1,none⟩ (.int .i32 1)) = .ok (.tuple #[]) ((w.setCell ⟨b,1,none⟩ (.int .i32 1)).setChan c 0 #[] true s r false) := fun ats ty => run_close_open (P := Tryz.prog) ats ty hc1
 go_enter_defers Tryz.func223,Tryz.ntmps223
 go_wp2_with (go_at_call 230; refine (lock_free ⟨b,1,none⟩ _ (by go_simp) (by go_simp)).mono ?_; rintro e w' ⟨rfl,rfl⟩)
 go_wp2
 go_end0
 go_wp2
 refine leaves_cons (f := 232) (args := #[.pointer (some ⟨b,0,none⟩),.bool true]) (by simp) (by simp [go_sem]) ?_
 refine (store_deferred ⟨b,0,none⟩ (.int .u32 0) .returning _ ?_ ?_).mono ?_
 ·rw [cell_chan _ _ _ _ _ _ _ _ _ _ hbc]
  exact (World.cell?_setCell_other _ ⟨b,1,none⟩ ⟨b,0,none⟩ _ (by simp)).trans h0
 ·rw [frozen_chan _ _ _ _ _ _ _ _ _ _ hbc]
  simp [f0]
 rintro e u' w'' ⟨rfl,rfl,rfl⟩
 refine leaves_cons (f := 231) (args := #[.pointer (some ⟨b,1,none⟩)]) (by simp [settle]) (by simp [go_sem]) ?_
 refine (unlock_deferred ⟨b,1,none⟩ _ _ ?_ ?_).mono ?_
 ·refine (World.cell?_setCell_other _ ⟨b,0,none⟩ ⟨b,1,none⟩ _ (by simp)).trans ?_
  rw [World.cell?_drew,cell_chan _ _ _ _ _ _ _ _ _ _ hbc]
  exact World.cell?_setCell_same w _ _ h1
 ·rw [World.frozen?_setCell,World.frozen?_drew,frozen_chan _ _ _ _ _ _ _ _ _ _ hbc]
  simp [f1]
 rintro e u' w'' ⟨rfl,rfl,rfl⟩
 simp [Leaves,settle,results,Tryz.results223]
theorem do_first (b c s r : Nat) (pl : Addr) (hpb : ¬ b = pl.block) (hbc : b ≠ c) (w : World) (hp : w.cell? pl = some (.pointer (some ⟨b,0,none⟩)))
  (h0 : w.cell? ⟨b,0,none⟩ = some (.int .u32 0)) (h1 : w.cell? ⟨b,1,none⟩ = some (.int .i32 0)) (h3 : w.cell? ⟨b,3,none⟩ = some (.chan (some c))) (hc : w.heap[c]? = some (.chan 0 #[] false s r false))
  (f0 : w.frozen? ⟨b,0,none⟩ = false) (f1 : w.frozen? ⟨b,1,none⟩ = false) :
  Calls Tryz.prog 210 #[.pointer (some ⟨b,0,none⟩),.func (.func 211) #[] #[.pointer (some pl)]] w fun e w' => e = .returned (.tuple #[]) /\ w' = (((w.setCell ⟨b,1,none⟩ (.int .i32 1)).setChan c 0 #[] true s r false).drew.setCell ⟨b,0,none⟩ (.int .u32 1)).setCell ⟨b,1,none⟩ (.int .i32 0) := by
 have hl := run_call_load (P := Tryz.prog) Tryz.func229 (by kernel_rfl) (by kernel_rfl) (by kernel_rfl) .u32 (by kernel_rfl) h0
 have hnot : ∀ (x : Bool) (w : World),(Op.unary .not (.bool x)).run Tryz.prog w = .ok (.bool (!x)) w := fun _ _ => rfl
 go_enter Tryz.func210,Tryz.ntmps210
 go_wp2_with (first | (go_at_call 223; refine (slow_any b c s r pl hpb hbc _ hp h0 h1 h3 hc f0 f1).mono ?_; rintro e w' ⟨rfl,rfl⟩) | (go_at_call 222; go_in))
 go_end0
 exact ⟨rfl,rfl⟩
theorem do_done (a : Addr) (fv : Value) (w : World) (h0 : w.cell? a = some (.int .u32 1)) :
  Calls Tryz.prog 210 #[.pointer (some a),fv] w fun e w' => e = .returned (.tuple #[]) /\ w' = w := by
 have hl := run_call_load (P := Tryz.prog) Tryz.func229 (by kernel_rfl) (by kernel_rfl) (by kernel_rfl) .u32 (by kernel_rfl) h0
 have hnot : ∀ (x : Bool) (w : World),(Op.unary .not (.bool x)).run Tryz.prog w = .ok (.bool (!x)) w := fun _ _ => rfl
 have hd' : ((1 : Int) != 0) = true := by decide
 go_enter Tryz.func210,Tryz.ntmps210
 go_wp2
 go_end0
 exact ⟨rfl,rfl⟩
theorem stop_any (b c : Nat) (called : Bool) (w : World) (h : StopAt w b c called) :
  Calls Tryz.prog 202 #[.pointer (some ⟨b,0,none⟩)] w fun e w' => e = .returned (.tuple #[]) /\ StopAt w' b c true /\ Chg (fun k => k = b \/ k = c) w w' := by
 obtain ⟨dn,sm,s,r,hb,hc,hd0,hd1⟩ := h
 have hmf := hmf_any
 have hlt := hb.lt
 have hlc : c < w.heap.size := (Array.getElem?_eq_some_iff.1 hc).1
 have hbc : b ≠ c := by
  intro e
  subst e
  rw [show w.heap[b]? = _ from hb] at hc
  simp at hc
 obtain ⟨W,hW⟩ : ∃ W : World,W = w.alloc (.cells #[.pointer (some ⟨b,0,none⟩)] 145) := ⟨_,rfl⟩
 have hbW : Bx W b #[.int .u32 dn,.int .i32 0,.int .u32 sm,.chan (some c)] 238 := by rw [hW]; exact hb.alloc _
 have hcW : W.heap[c]? = some (.chan 0 #[] called s r false) := by rw [hW]; exact (Below.heap_alloc w _ c hlc).trans hc
 have hp : W.cell? ⟨w.heap.size,0,none⟩ = some (.pointer (some ⟨b,0,none⟩)) := by rw [hW]; exact (bx_new w _ _ rfl).cell (j := 0) rfl
 have cW : Chg (fun k => k = b \/ k = c) w W := by rw [hW]; exact (Chg.refl _ w).alloc _
 have k0 : W.cell? ⟨b,0,none⟩ = some (.int .u32 dn) := hbW.cell (j := 0) rfl
 cases called with
 | true =>
  have e1 := hd1 rfl
  subst e1
  have HDO := do_done ⟨b,0,none⟩ (.func (.func 211) #[] #[.pointer (some ⟨w.heap.size,0,none⟩)]) W k0
  have HEND : Hid (StopAt W b c true /\ Chg (fun k => k = b \/ k = c) w W) := ⟨⟨1,sm,s,r,hbW,hcW,fun e => (by cases e),fun _ => rfl⟩,cW⟩
  have HDQ : Calls Tryz.prog 210 #[.pointer (some ⟨b,0,none⟩),.func (.func 211) #[] #[.pointer (some ⟨w.heap.size,0,none⟩)]] W fun e w' => e = .returned (.tuple #[]) /\ Hid (StopAt w' b c true /\ Chg (fun k => k = b \/ k = c) w w') := HDO.mono fun e w' ⟨a1,a2⟩ => ⟨a1,by rw [a2]; exact HEND⟩
  clear HEND HDO
  subst hW
  clear hbW hcW cW hb hc hd0 hd1
  go_enter Tryz.func202,Tryz.ntmps202
  go_wp2_with (first | (go_at_call 210; refine HDQ.mono ?_; rintro e w' ⟨rfl,hq⟩))
  refine bodyPost_end (v := .tuple #[]) ?_ rfl ⟨rfl,hq.out⟩
  simp [results,Tryz.results202,go_sem]
 | false =>
  have e0 := hd0 rfl
  subst e0
  have HDO := do_first b c s r ⟨w.heap.size,0,none⟩ (by simp; omega) hbc W hp k0 (hbW.cell (j := 1) rfl) (hbW.cell (j := 3) rfl) hcW (hbW.frozen 0) (hbW.frozen 1)
  have HEND : Hid (StopAt ((((W.setCell ⟨b,1,none⟩ (.int .i32 1)).setChan c 0 #[] true s r false).drew.setCell ⟨b,0,none⟩ (.int .u32 1)).setCell ⟨b,1,none⟩ (.int .i32 0)) b c true /\ Chg (fun k => k = b \/ k = c) w ((((W.setCell ⟨b,1,none⟩ (.int .i32 1)).setChan c 0 #[] true s r false).drew.setCell ⟨b,0,none⟩ (.int .u32 1)).setCell ⟨b,1,none⟩ (.int .i32 0))) := by
   have x1 := hbW.setj 1 (.int .i32 1)
   have x2 : Bx ((W.setCell ⟨b,1,none⟩ (.int .i32 1)).setChan c 0 #[] true s r false).drew b #[.int .u32 0,.int .i32 1,.int .u32 sm,.chan (some c)] 238 := (show ((W.setCell ⟨b,1,none⟩ (.int .i32 1)).setChan c 0 #[] true s r false).heap[b]? = _ from by
    unfold World.setChan
    simp only
    rw [Array.getElem?_setIfInBounds_ne (by omega)]
    exact x1)
   have x3 := (x2.setj 0 (.int .u32 1)).setj 1 (.int .i32 0)
   have hcs : c < (W.setCell ⟨b,1,none⟩ (.int .i32 1)).heap.size := by simp [hW]; omega
   refine ⟨⟨1,sm,s,r,x3,?_,fun e => (by cases e),fun _ => rfl⟩,?_⟩
   ·refine (Below.heap_setCell _ ⟨b,1,none⟩ _ c (by simp; omega)).trans ((Below.heap_setCell _ ⟨b,0,none⟩ _ c (by simp; omega)).trans ?_)
    exact heap_setChan _ c 0 #[] true s r false hcs
   ·have c1 : Chg (fun k => k = b \/ k = c) w (W.setCell ⟨b,1,none⟩ (.int .i32 1)) := cW.set b 1 _ (.inl (.inl rfl))
    have c2 : Chg (fun k => k = b \/ k = c) w ((W.setCell ⟨b,1,none⟩ (.int .i32 1)).setChan c 0 #[] true s r false) := ⟨c1.os,c1.tape,c1.output,by rw [size_setChan]; exact c1.size,fun k hk hn => by
     unfold World.setChan
     simp only
     rw [Array.getElem?_setIfInBounds_ne (by intro e; exact hn (.inr e.symm))]
     exact c1.keep k hk hn⟩
    exact (c2.drew.set b 0 _ (.inl (.inl rfl))).set b 1 _ (.inl (.inl rfl))
  have HDQ : Calls Tryz.prog 210 #[.pointer (some ⟨b,0,none⟩),.func (.func 211) #[] #[.pointer (some ⟨w.heap.size,0,none⟩)]] W fun e w' => e = .returned (.tuple #[]) /\ Hid (StopAt w' b c true /\ Chg (fun k => k = b \/ k = c) w w') := HDO.mono fun e w' ⟨a1,a2⟩ => ⟨a1,by rw [a2]; exact HEND⟩
  clear HEND HDO
  subst hW
  clear hbW hcW cW hb hc hd0 hd1
  go_enter Tryz.func202,Tryz.ntmps202
  go_wp2_with (first | (go_at_call 210; refine HDQ.mono ?_; rintro e w' ⟨rfl,hq⟩))
  refine bodyPost_end (v := .tuple #[]) ?_ rfl ⟨rfl,hq.out⟩
  simp [results,Tryz.results202,go_sem]
end Go.Proofs.YtdhgebdbiehchaaGreatDoor
namespace Go.Proofs.YtdhgebdbiehchaaGreatDoor
open Go.RowKit Go.Maps
set_option linter.unusedSimpArgs false
set_option linter.unusedVariables false
set_option maxRecDepth 100000
set_option maxHeartbeats 3200000
def StopIs (w : World) (sp : Value) (called : Bool) : Prop := (sp = .pointer none /\ called = false) \/ ∃ b c,sp = .pointer (some ⟨b,0,none⟩) /\ StopAt w b c called
theorem StopIs.below {w w' : World} {sp : Value} {called : Bool} (h : StopIs w sp called) (hb : Below w.heap.size w w') : StopIs w' sp called := by
 rcases h with h | ⟨b,c,h1,dn,sm,s,r,h2,h3,h4,h5⟩
 ·exact .inl h
 ·exact .inr ⟨b,c,h1,dn,sm,s,r,h2.below hb h2.lt,(hb.block c (Array.getElem?_eq_some_iff.1 h3).1).trans h3,h4,h5⟩
theorem wasCalled_is {w : World} {sp : Value} {called : Bool} (h : StopIs w sp called) : Calls Tryz.prog 85 #[sp] w fun e w' => e = .returned (.bool called) /\ w' = w := by
 rcases h with ⟨rfl,rfl⟩ | ⟨b,c,rfl,h⟩
 ·exact wasCalled_nil w
 ·exact wasCalled_any b c called w h
def cellsI (l : List Sd) : List Value := l.flatMap fun x => [.string (S x.key),.string (S x.val)]
theorem cellsI_snoc (l : List Sd) (x : Sd) : cellsI (l ++ [x]) = cellsI l ++ [.string (S x.key),.string (S x.val)] := by simp [cellsI]
theorem info_item : (Tryz.prog.info? 54).map (fun i => (i.zero,i.size,i.bytes)) = some (some (.agg #[.string ⟨#[]⟩,.string ⟨#[]⟩]),2,32) := by kernel_rfl
theorem cells_two_new (w : World) (t : TypeId) (a b : Value) : ∀ j u,[a,b][j]? = some u -> (w.alloc (.cells #[a,b] t)).cell? ((⟨w.heap.size,0,none⟩ : Addr).add j) = some u := by
 intro j u hu
 match j,hu with
 | 0,hu => cases hu; exact World.cell?_alloc_new w #[a,b] t 0
 | 1,hu => cases hu; exact World.cell?_alloc_new w #[a,b] t 1
 | j + 2,hu => simp at hu
theorem liveItems_any (h0 h1 h2 : Int) (bi bp n : Nat) (L R : List Sd) (sp : Value) (called : Bool) (w : World) (hm : Maps2 w bi bp n L) (hL : Lives L) (hlen : L.length <= 2000) (hblk : ∀ x ∈ L,14 <= x.blk) (hst : StopIs w sp called) (hR : R = if called = true then [] else L) :
  Calls Tryz.prog 84 #[.agg #[.int .i64 h0,.int .i64 h1,.int .i64 h2,.map (some bi),.map (some bp)],.func (.func 85) #[sp] #[]] w fun e w' => ∃ v,e = .returned v /\ w'.ownsRow w.heap.size 54 2 v R.length (cellsI R) /\ Below w.heap.size w w' := by
 obtain ⟨i0,hi,hz0,hz1,hz2⟩ := info_parts info_item
 obtain ⟨W,hW⟩ : ∃ W : World,W = w.alloc (.cells #[.int .i64 h0,.int .i64 h1,.int .i64 h2,.map (some bi),.map (some bp)] 100) := ⟨_,rfl⟩
 have hzW : W.heap.size = w.heap.size + 1 := by rw [hW]; simp
 have hBW : Below w.heap.size w W := by rw [hW]; exact (Below.refl _ _).alloc (Nat.le_refl _) _
 have hxW : Bx W w.heap.size #[.int .i64 h0,.int .i64 h1,.int .i64 h2,.map (some bi),.map (some bp)] 100 := by rw [hW]; exact bx_new _ _ _ rfl
 have HBB : Hid (∀ w1 : World,Below W.heap.size W w1 -> Below w.heap.size w w1) := fun w1 hb => hBW.trans (hb.mono (by omega))
 have HXB : Hid (∀ w1 : World,Below W.heap.size W w1 -> Bx w1 w.heap.size #[.int .i64 h0,.int .i64 h1,.int .i64 h2,.map (some bi),.map (some bp)] 100) := fun w1 hb => hxW.below hb (by omega)
 have HMB : Hid (∀ w1 : World,Below W.heap.size W w1 -> Maps2 w1 bi bp n L) := fun w1 hb => hm.below (HBB.out w1 hb) hm.lt.1 hm.lt.2
 have HSB : Hid (∀ w1 : World,Below W.heap.size W w1 -> Calls Tryz.prog 85 #[sp] w1 fun e w' => e = .returned (.bool called) /\ w' = w1) := fun w1 hb => wasCalled_is (hst.below (HBB.out w1 hb))
 have HPL : Calls Tryz.prog 90 #[.agg #[.int .i64 h0,.int .i64 h1,.int .i64 h2,.map (some bi),.map (some bp)]] W fun e w' => ∃ a cap,e = .returned (.slice a L.length cap) /\ w'.ownsRow W.heap.size 165 2 (.slice a L.length cap) L.length (cellsQ L) /\ Below W.heap.size W w' := places_any h0 h1 h2 bi bp n L W (HMB.out W (Below.refl _ _)) hL (by omega)
 have HAT : Hid (∀ (w1 : World) (x : Sd),Below W.heap.size W w1 -> x ∈ L -> Calls Tryz.prog 94 #[.agg #[.int .i64 h0,.int .i64 h1,.int .i64 h2,.map (some bi),.map (some bp)],.agg #[.int .i64 x.blk,.int .i64 x.no]] w1 fun e w' => e = .returned (.agg #[.string (S x.key),.string (S x.val)]) /\ Below w1.heap.size w1 w') := fun w1 x hb hx => at_any h0 h1 h2 bi bp n L x w1 (HMB.out w1 hb) hL hx
 have x0 : W.cell? ⟨w.heap.size,0,none⟩ = some (.int .i64 h0) := hxW.cell (j := 0) rfl
 have x1 : W.cell? ⟨w.heap.size,1,none⟩ = some (.int .i64 h1) := hxW.cell (j := 1) rfl
 have x2 : W.cell? ⟨w.heap.size,2,none⟩ = some (.int .i64 h2) := hxW.cell (j := 2) rfl
 have x3 : W.cell? ⟨w.heap.size,3,none⟩ = some (.map (some bi)) := hxW.cell (j := 3) rfl
 have x4 : W.cell? ⟨w.heap.size,4,none⟩ = some (.map (some bp)) := hxW.cell (j := 4) rfl
 clear hm hL hst hBW hxW
 go_enter Tryz.func84,Tryz.ntmps84
 go_wp2_with fail
 have hW' : w.alloc (.cells #[.int .i64 h0,.int .i64 h1,.int .i64 h2,.map (some bi),.map (some bp)] 100) = W := hW.symm
 rw [hW']
 clear hW hW'
 refine HPL.mono ?_
 rintro e w1 ⟨a,cap,rfl,hrow,hb1⟩
 have HB1 : Hid (Below W.heap.size W w1) := hb1
 have HROW : Hid (w1.ownsRow W.heap.size 165 2 (.slice a L.length cap) L.length (cellsQ L)) := hrow
 clear hb1 hrow x0 x1 x2 x3 x4 HPL
 go_wp2
 go_loopw [5,6,12] (fun v blk i wr => ∃ (k : Nat) (pb : Int),k <= L.length /\ i = .int .i64 k /\ blk = .int .i64 pb /\ (k = 0 -> pb = 0) /\ (called = true -> k = 0) /\ wr.ownsRow w1.heap.size 54 2 v k (cellsI (L.take k)) /\ Below w1.heap.size w1 wr) (fun _ _ i _ => L.length - (intOf i).toNat)
 case atStart => exact ⟨0,0,by omega,rfl,rfl,fun _ => rfl,fun _ => rfl,World.ownsRow_nil _ _ _ _,Below.refl _ _⟩
 case round =>
  obtain ⟨k,pb,hk,rfl,rfl,hpb0,hck,ho,hb⟩ := hrel
  have HB : Hid (Below w1.heap.size w1 wr) := hb
  have HBW : Hid (Below W.heap.size W wr) := HB1.out.trans (hb.mono HB1.out.size)
  by_cases hlt : k < L.length
  ·obtain ⟨g,cap',hv,_,hgl,hgc⟩ := own_cellsN HROW.out (by omega)
   obtain ⟨b0,b1⟩ := cellsQ_get hlt
   have g0 : wr.cell? ⟨g,k * 2,none⟩ = some (.int .i64 L[k].blk) := (hb.cell (p := ⟨g,k * 2,none⟩) hgl).trans ((hgc (k * 2) (by omega)).trans b0)
   have g1 : wr.cell? ⟨g,k * 2 + 1,none⟩ = some (.int .i64 L[k].no) := (hb.cell (p := ⟨g,k * 2 + 1,none⟩) hgl).trans ((hgc (k * 2 + 1) (by omega)).trans b1)
   have ea : a = some ⟨g,0,none⟩ := by injection hv
   subst ea
   have hmem : L[k] ∈ L := List.getElem_mem hlt
   have hb14 := hblk _ hmem
   have HTK : Hid (cellsI (L.take (k + 1)) = cellsI (L.take k) ++ [.string (S L[k].key),.string (S L[k].val)]) := by show _ = _; rw [List.take_succ_eq_append_getElem hlt,cellsI_snoc]
   have HATk : Hid (∀ w1 : World,Below W.heap.size W w1 -> Calls Tryz.prog 94 #[.agg #[.int .i64 h0,.int .i64 h1,.int .i64 h2,.map (some bi),.map (some bp)],.agg #[.int .i64 L[k].blk,.int .i64 L[k].no]] w1 fun e w' => e = .returned (.agg #[.string (S L[k].key),.string (S L[k].val)]) /\ Below w1.heap.size w1 w') := fun w1 hb => HAT.out w1 _ hb hmem
   have HO : Hid (wr.ownsRow w1.heap.size 54 2 u5 k (cellsI (L.take k))) := ho
   have hzr : w.heap.size < wr.heap.size := by have := HBW.out.size; omega
   have hsz1 : w.heap.size <= w1.heap.size := by have := HB1.out.size; omega
   clear b0 b1 hgc hb ho hv hmem
   generalize L[k] = x at *
   cases called with
   | true =>
    have e0 := hck rfl
    subst e0
    have e1 := hpb0 rfl
    subst e1
    have hne : ((x.blk : Int) != 0) = true := by simp; omega
    rw [if_pos rfl] at hR
    subst hR
    have HNIL : Hid (wr.ownsRow w.heap.size 54 2 u5 0 (cellsI [])) := own_lower HO.out hsz1
    go_wp2_with (first | (go_at_call 85; refine (HSB.out _ ?_).mono ?_; exact HBW.out.alloc (by have := HBW.out.size; omega) _; rintro e w' ⟨rfl,rfl⟩))
    go_ret
    exact ⟨_,rfl,HNIL.out.alloc _,HBB.out _ (HBW.out.alloc (by have := HBW.out.size; omega) _)⟩
   | false =>
    have hxr := HXB.out wr HBW.out
    have s0 : wr.cell? ⟨w.heap.size,0,none⟩ = some (.int .i64 h0) := hxr.cell (j := 0) rfl
    have s1 : wr.cell? ⟨w.heap.size,1,none⟩ = some (.int .i64 h1) := hxr.cell (j := 1) rfl
    have s2 : wr.cell? ⟨w.heap.size,2,none⟩ = some (.int .i64 h2) := hxr.cell (j := 2) rfl
    have s3 : wr.cell? ⟨w.heap.size,3,none⟩ = some (.map (some bi)) := hxr.cell (j := 3) rfl
    have s4 : wr.cell? ⟨w.heap.size,4,none⟩ = some (.map (some bp)) := hxr.cell (j := 4) rfl
    clear hxr
    have hge := own_ge HO.out
    have hzw := HB.out.size
    by_cases hbe : (x.blk : Int) = pb
    ·subst hbe
     go_wp2_with (first | (go_at_call 85; refine (HSB.out _ ?_).mono ?_; exact HBW.out.alloc (by have := HBW.out.size; omega) _; rintro e w' ⟨rfl,rfl⟩) | (go_at_call 94; refine (HATk.out _ ?_).mono ?_; exact HBW.out.alloc (by have := HBW.out.size; omega) _; rintro e w3 ⟨rfl,hb3⟩; have how := own_below (HO.out.alloc _) hb3 (Nat.le_refl _); have HB3 : Hid (Below w1.heap.size w1 w3) := (HB.out.alloc (by have := HB.out.size; omega) _).trans (hb3.mono (by have := HB.out.size; simp; omega)); have hz3 : w.heap.size <= w3.heap.size := (by have := hb3.size; simp at this; omega); have hz4 : w1.heap.size <= w3.heap.size := HB3.out.size; clear hb3) | (at_builtin; refine wpList_append_own _ rfl (.tmp 27) (.tmp 31) 32 rfl w1.heap.size 54 i0 (.agg #[.string ⟨#[]⟩,.string ⟨#[]⟩]) 2 32 Tryz.underlying32 hi hz0 hz1 hz2 rfl (by decide) _ _ _ rfl (how.alloc _) ⟨w3.heap.size,0,none⟩ 1 1 [.string (S x.key),.string (S x.val)] rfl rfl (cells_two_new _ _ _ _) (by simp [Value.oneCell']) (by unfold maxLen; omega) (by omega) (by simp; omega) ?_; intro v' w4 hown' hgrow _))
     go_roundw
     case rel => exact ⟨k + 1,x.blk,by omega,by go_num,rfl,fun e => absurd e (by omega),fun e => (by cases e),by rw [HTK.out]; exact hown',(HB3.out.alloc (by omega) _).grown hgrow (by simp; omega) hge⟩
     case measure => simp [intOf]; omega
    ·have hne : ((x.blk : Int) != pb) = true := by simp [hbe]
     go_wp2_with (first | (go_at_call 85; refine (HSB.out _ ?_).mono ?_; exact HBW.out.alloc (by have := HBW.out.size; omega) _; rintro e w' ⟨rfl,rfl⟩) | (go_at_call 94; refine (HATk.out _ ?_).mono ?_; exact HBW.out.alloc (by have := HBW.out.size; omega) _; rintro e w3 ⟨rfl,hb3⟩; have how := own_below (HO.out.alloc _) hb3 (Nat.le_refl _); have HB3 : Hid (Below w1.heap.size w1 w3) := (HB.out.alloc (by have := HB.out.size; omega) _).trans (hb3.mono (by have := HB.out.size; simp; omega)); have hz3 : w.heap.size <= w3.heap.size := (by have := hb3.size; simp at this; omega); have hz4 : w1.heap.size <= w3.heap.size := HB3.out.size; clear hb3) | (at_builtin; refine wpList_append_own _ rfl (.tmp 27) (.tmp 31) 32 rfl w1.heap.size 54 i0 (.agg #[.string ⟨#[]⟩,.string ⟨#[]⟩]) 2 32 Tryz.underlying32 hi hz0 hz1 hz2 rfl (by decide) _ _ _ rfl (how.alloc _) ⟨w3.heap.size,0,none⟩ 1 1 [.string (S x.key),.string (S x.val)] rfl rfl (cells_two_new _ _ _ _) (by simp [Value.oneCell']) (by unfold maxLen; omega) (by omega) (by simp; omega) ?_; intro v' w4 hown' hgrow _))
     go_roundw
     case rel => exact ⟨k + 1,x.blk,by omega,by go_num,rfl,fun e => absurd e (by omega),fun e => (by cases e),by rw [HTK.out]; exact hown',(HB3.out.alloc (by omega) _).grown hgrow (by simp; omega) hge⟩
     case measure => simp [intOf]; omega
  ·have hkn : k = L.length := by omega
   subst hkn
   rw [List.take_length] at ho
   have ho := own_lower ho (show w.heap.size <= w1.heap.size by have := HB1.out.size; omega)
   have HO : Hid (wr.ownsRow w.heap.size 54 2 u5 R.length (cellsI R)) := by
    show wr.ownsRow _ _ _ _ _ _
    cases called with
    | true =>
     have e0 : L.length = 0 := hck rfl
     have e1 : L = [] := List.length_eq_zero_iff.1 e0
     rw [if_pos rfl] at hR
     rw [hR]
     rw [e1] at ho
     exact ho
    | false => rw [if_neg (by simp)] at hR; rw [hR]; exact ho
   clear ho hb
   go_wp2
   go_ret
   exact ⟨_,rfl,HO.out,HBB.out _ HBW.out⟩
theorem saidS_live {log : List UInt8} {L : List Sd} (h : saidS log = some L) : L = liveL (readL log (hdBlk log) 14).1 /\ ∀ x ∈ L,14 <= x.blk := by
 unfold saidS at h
 split at h
 ·cases h
 split at h
 ·cases h
 split at h
 ·cases h
 split at h
 ·cases h
 cases h
 refine ⟨rfl,fun x hx => ?_⟩
 have h1 := (liveL_mem hx).1
 exact ((readF_rise log (hdBlk log) _ 14).2.1 x h1).1
theorem all_down {d : Dk} {called : Bool} (h : d.down = true) : d.all called = ([],7) := by unfold Dk.all; rw [if_pos h]
theorem all_none {d : Dk} {called : Bool} (h : d.down = false) (hb : d.both = none) : d.all called = ([],2) := by unfold Dk.all; rw [if_neg (by simp [h]),hb]
theorem all_bad {d : Dk} {called : Bool} {l i : List UInt8} (h : d.down = false) (hb : d.both = some (l,i)) (hs : saidE l i ≠ 0) : d.all called = ([],saidE l i) := by unfold Dk.all; rw [if_neg (by simp [h]),hb]; simp only; rw [if_neg hs]
theorem all_good {d : Dk} {called : Bool} {l i : List UInt8} (h : d.down = false) (hb : d.both = some (l,i)) (hs : saidE l i = 0) : d.all called = (if called = true then [] else liveL (readL l (hdBlk l) 14).1,0) := by unfold Dk.all; rw [if_neg (by simp [h]),hb]; simp only; rw [if_pos hs]
theorem all_any (E : Sent) (n : Nat) (G : Nat -> Prop) (bs : Nat) (d : Dk) (q : StP) (sp : Value) (called : Bool) (w : World) (hE : Env0 n w E) (hS : StoreAt w G bs d q) (hok : DkOk d) (hst : StopIs w sp called) :
  Calls Tryz.prog 48 #[.pointer (some ⟨bs,0,none⟩),sp] w fun e w' => ∃ v,e = .returned (.tuple #[v,.int .i64 (d.all called).2]) /\ w'.ownsRow w.heap.size 54 2 v (d.all called).1.length (cellsI (d.all called).1) /\ Below w.heap.size w w' := by
 have HRD := readS_any E n G bs d q w hE hS
 have HEV : Hid (∀ w1 : World,Below w.heap.size w w1 -> Env w1 E) := fun w1 hb => hE.env.below hb
 have hmf := hmf_any
 have HNL : Hid (∀ w1 : World,w1.ownsRow w.heap.size 54 2 (.slice none 0 0) ([] : List Sd).length (cellsI [])) := fun w1 => World.ownsRow_nil _ _ _ _
 cases hd : d.down with
 | true =>
  have hr : d.readS = ([],[],7) := by unfold Dk.readS; rw [if_pos hd]
  rw [all_down hd]
  rw [hr] at HRD
  clear hE hS hr hok hst
  go_enter Tryz.func48,Tryz.ntmps48
  go_wp2_with (first | (go_at_call 80; refine HRD.mono ?_; rintro e w1 ⟨ev,rfl,hf,hb⟩; obtain ⟨b,rfl⟩ := fault_some hf (by decide); have HFA : Hid (FaultIs w1 E 7 (.iface 128 (.pointer (some ⟨b,0,none⟩)))) := hf; have HB : Hid (Below w.heap.size w w1) := hb; clear hf hb) | (go_at_call 41; refine (answer_any E 7 _ w1 (HEV.out w1 HB.out) HFA.out (by decide)).mono ?_; rintro e w2 ⟨rfl,hb2⟩; have HB2 : Hid (Below w.heap.size w w2) := HB.out.trans (hb2.mono HB.out.size); clear hb2))
  go_ret2
  exact ⟨_,rfl,HNL.out _,HB2.out⟩
 | false =>
  cases hb : d.both with
  | none =>
   have hr : d.readS = ([],[],2) := by unfold Dk.readS; rw [if_neg (by simp [hd]),hb]
   rw [all_none hd hb]
   rw [hr] at HRD
   clear hE hS hr hok hst hb
   go_enter Tryz.func48,Tryz.ntmps48
   go_wp2_with (first | (go_at_call 80; refine HRD.mono ?_; rintro e w1 ⟨ev,rfl,hf,hb⟩; obtain ⟨b,rfl⟩ := fault_some hf (by decide); have HFA : Hid (FaultIs w1 E 2 (.iface 128 (.pointer (some ⟨b,0,none⟩)))) := hf; have HB : Hid (Below w.heap.size w w1) := hb; clear hf hb) | (go_at_call 41; refine (answer_any E 2 _ w1 (HEV.out w1 HB.out) HFA.out (by decide)).mono ?_; rintro e w2 ⟨rfl,hb2⟩; have HB2 : Hid (Below w.heap.size w w2) := HB.out.trans (hb2.mono HB.out.size); clear hb2))
   go_ret2
   exact ⟨_,rfl,HNL.out _,HB2.out⟩
  | some p =>
   obtain ⟨l,i⟩ := p
   obtain ⟨z1,z2⟩ := both_le hok hb
   have hr : d.readS = (l,i,0) := by unfold Dk.readS; rw [if_neg (by simp [hd]),hb]
   rw [hr] at HRD
   by_cases hbe : beginsE l i = 0
   ·have HSD : Hid (∀ w1 : World,Below w.heap.size w w1 -> _) := fun w1 hb1 => said_goes (S l) (S i) w1 (by rw [S_size]; omega) (by rw [S_size]; omega) (HEV.out w1 hb1).halves hbe
    simp only [S_data] at HSD
    by_cases hix : indexS l = some i
    ·have hs : saidE l i = 0 := by unfold saidE; rw [if_neg (by simp [hbe]),if_pos hix]
     rw [all_good hd hb hs]
     have HSY : Hid (∀ w1 : World,Below w.heap.size w w1 -> Calls Tryz.prog 83 #[.string (S l),.string (S i)] w1 fun e w' => ∃ L bi bp n,saidS l = some L /\ e = .returned (.tuple #[saidV l bi bp,.int .i64 0]) /\ Maps2 w' bi bp n L /\ Below w1.heap.size w1 w') := fun w1 hb1 => (HSD.out w1 hb1).mono fun e w' ⟨a1,a2⟩ => by
      rcases a1 with ⟨a1,_⟩ | ⟨L,bi,bp,n,a3,a4,a5,a6⟩
      ·exact absurd hix a1
      ·exact ⟨L,bi,bp,n,a3,a5,a6,a2⟩
     have HLI : Hid (∀ (w1 : World) (L : List Sd) (bi bp n : Nat),Below w.heap.size w w1 -> saidS l = some L -> Maps2 w1 bi bp n L -> Calls Tryz.prog 84 #[.agg #[.int .i64 (hdBlk l : Int),.int .i64 (hdSeed l : Int),.int .i64 (hdBits l : Int),.map (some bi),.map (some bp)],.func (.func 85) #[sp] #[]] w1 fun e w' => ∃ v,e = .returned v /\ w'.ownsRow w.heap.size 54 2 v (if called = true then [] else liveL (readL l (hdBlk l) 14).1).length (cellsI (if called = true then [] else liveL (readL l (hdBlk l) 14).1)) /\ Below w1.heap.size w1 w') := fun w1 L bi bp n hb1 hL hM => by
      obtain ⟨e1,e2⟩ := saidS_live hL
      obtain ⟨g1,g2,g3,g4,g5,g6,g7⟩ := said_facts hL
      refine (liveItems_any _ _ _ bi bp n L (if called = true then [] else liveL (readL l (hdBlk l) 14).1) sp called w1 hM g1 g2 e2 (hst.below hb1) (by rw [e1])).mono fun e w' ⟨v,a1,a2,a3⟩ => ⟨v,a1,own_lower a2 hb1.size,a3⟩
     unfold saidV at HSY
     generalize (if called = true then [] else liveL (readL l (hdBlk l) 14).1) = R at *
     generalize hdBlk l = k1 at *
     generalize hdSeed l = k2 at *
     generalize hdBits l = k3 at *
     clear hE hS hr hok hst hb HSD hbe hix hs z1 z2 HNL
     go_enter Tryz.func48,Tryz.ntmps48
     go_wp2_with (first | (go_at_call 80; refine HRD.mono ?_; rintro e w1 ⟨ev,rfl,hf,hb⟩; obtain rfl := fault_nil hf; have HB : Hid (Below w.heap.size w w1) := hb; clear hf hb) | (go_at_call 83; refine (HSY.out w1 HB.out).mono ?_; rintro e w2 ⟨L,bi,bp,nn,hL,rfl,hM,hb2⟩; have HB2 : Hid (Below w.heap.size w w2) := HB.out.trans (hb2.mono HB.out.size); have HM : Hid (Maps2 w2 bi bp nn L) := hM; have HL : Hid (saidS l = some L) := hL; have hz2 : w.heap.size <= w2.heap.size := HB2.out.size; clear hb2 hM hL) | (go_at_call 84; refine (HLI.out _ L bi bp nn ?_ HL.out ?_).mono ?_; exact HB2.out.alloc hz2 _; exact HM.out.alloc _; rintro e w3 ⟨v,rfl,ho,hb3⟩; have HO : Hid (w3.ownsRow w.heap.size 54 2 v R.length (cellsI R)) := ho; have HB3 : Hid (Below w.heap.size w w3) := (HB2.out.alloc hz2 _).trans (hb3.mono (by simp; omega)); clear ho hb3))
     go_ret2
     exact ⟨_,rfl,HO.out,HB3.out⟩
    ·have hs : saidE l i = 3 := by unfold saidE; rw [if_neg (by simp [hbe]),if_neg hix]
     rw [all_bad hd hb (by rw [hs]; decide),hs]
     have HSN : Hid (∀ w1 : World,Below w.heap.size w w1 -> Calls Tryz.prog 83 #[.string (S l),.string (S i)] w1 fun e w' => e = .returned (.tuple #[said0,.int .i64 3]) /\ Below w1.heap.size w1 w') := fun w1 hb1 => (HSD.out w1 hb1).mono fun e w' ⟨a1,a2⟩ => by
      rcases a1 with ⟨_,a1⟩ | ⟨L,bi,bp,n,a3,a4,_⟩
      ·exact ⟨a1,a2⟩
      ·exact absurd a4 hix
     unfold said0 at HSN
     clear hE hS hr hok hst hb HSD hbe hix hs z1 z2
     go_enter Tryz.func48,Tryz.ntmps48
     go_wp2_with (first | (go_at_call 80; refine HRD.mono ?_; rintro e w1 ⟨ev,rfl,hf,hb⟩; obtain rfl := fault_nil hf; have HB : Hid (Below w.heap.size w w1) := hb; clear hf hb) | (go_at_call 83; refine (HSN.out w1 HB.out).mono ?_; rintro e w2 ⟨rfl,hb2⟩; have HB2 : Hid (Below w.heap.size w w2) := HB.out.trans (hb2.mono HB.out.size); clear hb2))
     go_ret2
     exact ⟨_,rfl,HNL.out _,HB2.out.alloc HB2.out.size _⟩
   ·have hs : saidE l i = beginsE l i := by unfold saidE; rw [if_pos hbe]
    rw [all_bad hd hb (by rw [hs]; exact hbe),hs]
    have HSN : Hid (∀ w1 : World,Below w.heap.size w w1 -> Calls Tryz.prog 83 #[.string (S l),.string (S i)] w1 fun e w' => e = .returned (.tuple #[said0,.int .i64 (beginsE l i)]) /\ Below w1.heap.size w1 w') := fun w1 hb1 => said_begins (S l) (S i) w1 (by rw [S_size]; omega) (by rw [S_size]; omega) (HEV.out w1 hb1).halves hbe
    unfold said0 at HSN
    generalize beginsE l i = code at *
    clear hE hS hr hok hst hb hs z1 z2
    go_enter Tryz.func48,Tryz.ntmps48
    go_wp2_with (first | (go_at_call 80; refine HRD.mono ?_; rintro e w1 ⟨ev,rfl,hf,hb⟩; obtain rfl := fault_nil hf; have HB : Hid (Below w.heap.size w w1) := hb; clear hf hb) | (go_at_call 83; refine (HSN.out w1 HB.out).mono ?_; rintro e w2 ⟨rfl,hb2⟩; have HB2 : Hid (Below w.heap.size w w2) := HB.out.trans (hb2.mono HB.out.size); clear hb2))
    go_ret2
    exact ⟨_,rfl,HNL.out _,HB2.out.alloc HB2.out.size _⟩
theorem app_item {W : World} {base : Nat} {v : Value} {l : List Sd} {x : Sd} {g0 : Nat} (h1 : W.ownsRow base 54 2 v l.length (cellsI l)) (hg : ∀ j u,[Value.string (S x.key),.string (S x.val)][j]? = some u -> W.cell? ((⟨g0,0,none⟩ : Addr).add j) = some u) (hl : l.length <= 1000000) (hbase : base <= W.heap.size) :
  ∃ g cap w',(Builtin.append_ #[32,32] 32 #[v,.slice (some ⟨g0,0,none⟩) 1 1]).run Tryz.prog W = .ok (.slice (some ⟨g,0,none⟩) (l.length + 1) cap) w' /\
   w'.ownsRow base 54 2 (.slice (some ⟨g,0,none⟩) (l.length + 1) cap) (l.length + 1) (cellsI (l ++ [x])) /\ W.grownBy w' v.ownBlock := by
 obtain ⟨i0,hi,hz0,hz1,hz2⟩ := info_parts info_item
 obtain ⟨g,cap,w',a1,a2,a3,a4,a5⟩ := run_append_lies (P := Tryz.prog) W 32 32 base 54 i0 (.agg #[.string ⟨#[]⟩,.string ⟨#[]⟩]) 2 32 Tryz.underlying32 hi hz0 hz1 hz2 rfl (by decide) v l.length (cellsI l) h1 ⟨g0,0,none⟩ 1 1 [.string (S x.key),.string (S x.val)] rfl hg (by simp [Value.oneCell']) (by omega) (by unfold maxLen; omega) (by omega) hbase _ rfl
 rw [<- cellsI_snoc] at a2
 exact ⟨g,cap,w',a1,a2,a3⟩
theorem indexS_live {l I : List UInt8} (h : indexS l = some I) : (liveL (readL l (hdBlk l) 14).1).length <= 2000 := by
 unfold indexS at h
 split at h
 ·cases h
 split at h
 ·cases h
 split at h
 ·cases h
 split at h
 ·cases h
 omega
theorem all_refused {d : Dk} {called : Bool} (h : d.readS.2.2 ≠ 0) : d.all called = ([],d.readS.2.2) := by
 unfold Dk.readS at h ⊢
 unfold Dk.all
 split at h
 ·rename_i hd; rw [if_pos hd,if_pos hd]
 ·rename_i hd
  rw [if_neg hd,if_neg hd]
  cases hb : d.both with
  | none => rfl
  | some p => rw [hb] at h; exact absurd rfl h
theorem rall_any (G : Nat -> Prop) (b : Nat) (d : Dk) (q : RfP) (called : Bool) (w : World) (hR : RefAt w G b d q) (hok : DkOk d) :
  Calls Tryz.prog 203 #[.pointer (some ⟨b,0,none⟩),.bool called] w fun e w' => ∃ v,e = .returned (.tuple #[v,.int .i64 (d.all called).2]) /\ w'.ownsRow w.heap.size 54 2 v (d.all called).1.length (cellsI (d.all called).1) /\ Below w.heap.size w w' := by
 have HBO := rboth_any G b d q w hR
 have HNL : Hid (∀ w1 : World,w1.ownsRow w.heap.size 54 2 (.slice none 0 0) ([] : List Sd).length (cellsI [])) := fun w1 => World.ownsRow_nil _ _ _ _
 by_cases h0 : d.readS.2.2 = 0
 ·rw [h0] at HBO
  have hdn : d.down = false := by
   cases hd : d.down with
   | false => rfl
   | true => unfold Dk.readS at h0; rw [if_pos hd] at h0; cases h0
  obtain ⟨f,g,e0,e2⟩ : ∃ f g,d.f0 = some f /\ d.f2 = some g := by
   unfold Dk.readS Dk.both at h0
   rw [if_neg (by simp [hdn])] at h0
   split at h0
   ·cases h0
   ·rename_i h
    split at h
    ·rename_i f g h1 h2; exact ⟨f,g,h1,h2⟩
    ·cases h
  have hbo : d.both = some (f.text,g.text) := by unfold Dk.both; rw [e0,e2]
  have z1 : f.text.length <= 100000 := by have := txt_le hok 0; rw [file_0,e0] at this; exact this
  have z2 : g.text.length <= 100000 := by have := txt_le hok 2; rw [file_2,e2] at this; exact this
  have c3 : w.cell? ⟨b,3,none⟩ = some (.string (S (txtO d.f0))) := hR.box.cell (j := 3) rfl
  have c9 : w.cell? ⟨b,9,none⟩ = some (.string (S (txtO d.f2))) := hR.box.cell (j := 9) rfl
  rw [e0] at c3
  rw [e2] at c9
  have c3' : w.cell? ⟨b,3,none⟩ = some (.string (S f.text)) := c3
  have c9' : w.cell? ⟨b,9,none⟩ = some (.string (S g.text)) := c9
  have hlt := hR.box.lt
  clear c3 c9 hR hok h0 e0 e2
  generalize f.text = l at *
  generalize g.text = i at *
  have HKP : Hid (∀ w1 : World,Below w.heap.size w w1 -> w1.cell? ⟨b,3,none⟩ = some (.string (S l)) /\ w1.cell? ⟨b,9,none⟩ = some (.string (S i))) := fun w1 hb => ⟨(hb.cell (p := ⟨b,3,none⟩) hlt).trans c3',(hb.cell (p := ⟨b,9,none⟩) hlt).trans c9'⟩
  have HBG : Hid (∀ w1 : World,Calls Tryz.prog 168 #[.string (S l),.string (S i)] w1 fun e w' => e = .returned (beginsR l i) /\ Below w1.heap.size w1 w') := fun w1 => begins_any (S l) (S i) w1 (by rw [S_size]; omega) (by rw [S_size]; omega)
  have HIX : Hid (∀ w1 : World,Calls Tryz.prog 115 #[.string (S l)] w1 fun e w' => e = .returned (indexV (indexS l)) /\ Below w1.heap.size w1 w') := fun w1 => refIndex_any (S l) w1 (by rw [S_size]; omega)
  by_cases hbe : beginsE l i = 0
  ·rw [beginsR_ok hbe] at HBG
   generalize ixN i = q1 at HBG
   generalize ixFar i = q2 at HBG
   generalize hdBlk l = q3 at HBG
   generalize hdSeed l = q4 at HBG
   generalize hdBits l = q5 at HBG
   cases hix : indexS l with
   | none =>
    have hs : saidE l i = 3 := by unfold saidE; rw [if_neg (by simp [hbe]),if_neg (by rw [hix]; simp)]
    rw [all_bad hdn hbo (by rw [hs]; decide),hs]
    rw [hix] at HIX
    unfold indexV at HIX
    dsimp only at HIX
    clear hbe hix hs hbo hdn z1 z2
    go_enter Tryz.func203,Tryz.ntmps203
    go_wp2_with (first | (go_at_call 200; refine HBO.mono ?_; rintro e w ⟨rfl,rfl⟩))
    go_region_held3 (fun w' => w'.cell? ⟨b,3,none⟩ = some (.string (S l)) /\ w'.cell? ⟨b,9,none⟩ = some (.string (S i))) (first | (exact ⟨c3',c9'⟩) | (assumption)) (first | (go_at_call 168; refine (HBG.out _).mono ?_; rintro e w1 ⟨rfl,hb1⟩; have hb1' : Below w.heap.size w w1 := ⟨hb1.os,hb1.tape,hb1.output,hb1.size,hb1.block⟩; have hS1 := HKP.out w1 hb1'; have HB1 : Hid (Below w.heap.size w w1) := hb1'; clear hb1 hb1'))
    all_goals
     obtain ⟨k3,k9⟩ := hS1
     go_wp2_with (first | (go_at_call 115; refine (HIX.out _).mono ?_; rintro e w2 ⟨rfl,hb2⟩; have HB2 : Hid (Below w.heap.size w w2) := HB1.out.trans (hb2.mono HB1.out.size); clear hb2))
     go_ret2
     exact ⟨_,rfl,HNL.out _,HB2.out⟩
   | some I =>
    rw [hix] at HIX
    unfold indexV at HIX
    dsimp only at HIX
    by_cases heq : I = i
    ·subst heq
     have hs : saidE l I = 0 := by unfold saidE; rw [if_neg (by simp [hbe]),if_pos hix]
     rw [all_good hdn hbo hs]
     have hcmp : ((S I).toList == (S I).toList) = true := by simp
     have hhd := (begins_zero hbe).2.2
     have hR2 := indexS_live hix
     have HRDx : Hid (∀ w1 : World,Calls Tryz.prog 163 #[.string (S l)] w1 fun e w' => ∃ v rest p1 p2 p3 p4,e = .returned (.tuple #[v,.int .i64 rest,.agg #[.int .i64 p1,.int .i64 p2,.int .i64 p3],.bool p4]) /\ (w'.ownsRow w1.heap.size 302 5 v (readL l (hdBlk l) 14).1.length (cellsS (readL l (hdBlk l) 14).1) /\ (readL l (hdBlk l) 14).1.length <= 100000000) /\ Below w1.heap.size w1 w') := fun w1 => by
      refine (refRead_any (S l) w1 (by rw [S_size]; omega)).mono ?_
      rintro e w' ⟨v,rest,p1,p2,p3,rfl,h2,h3⟩
      obtain ⟨_,_,_,_,h4,h5⟩ := h2.1 hhd
      exact ⟨v,rest,p1,p2,p3,_,rfl,⟨h4,h5⟩,h3⟩
     have HLV : Hid (∀ (w1 : World) (v : Value) (base : Nat),w1.ownsRow base 302 5 v (readL l (hdBlk l) 14).1.length (cellsS (readL l (hdBlk l) 14).1) -> (readL l (hdBlk l) 14).1.length <= 100000000 -> Calls Tryz.prog 164 #[v] w1 fun e w' => ∃ v',e = .returned v' /\ w'.ownsRow w1.heap.size 302 5 v' (liveL (readL l (hdBlk l) 14).1).length (cellsS (liveL (readL l (hdBlk l) 14).1)) /\ Below w1.heap.size w1 w') := fun w1 v base h1 h2 => refLive_any v _ w1 base h1 h2
     obtain ⟨Q,hQ⟩ : ∃ Q,Q = (if called = true then [] else liveL (readL l (hdBlk l) 14).1) := ⟨_,rfl⟩
     rw [<- hQ]
     generalize liveL (readL l (hdBlk l) 14).1 = R at *
     generalize (readL l (hdBlk l) 14).1 = M at *
     clear hbe hix hs hbo hdn z1 z2 hhd HNL
     go_enter Tryz.func203,Tryz.ntmps203
     go_wp2_with (first | (go_at_call 200; refine HBO.mono ?_; rintro e w ⟨rfl,rfl⟩))
     go_region_held3 (fun w' => w'.cell? ⟨b,3,none⟩ = some (.string (S l)) /\ w'.cell? ⟨b,9,none⟩ = some (.string (S I))) (first | (exact ⟨c3',c9'⟩) | (assumption)) (first | (go_at_call 168; refine (HBG.out _).mono ?_; rintro e w1 ⟨rfl,hb1⟩; have hb1' : Below w.heap.size w w1 := ⟨hb1.os,hb1.tape,hb1.output,hb1.size,hb1.block⟩; have hS1 := HKP.out w1 hb1'; have HB1 : Hid (Below w.heap.size w w1) := hb1'; clear hb1 hb1'))
     all_goals
      obtain ⟨k3,k9⟩ := hS1
      go_wp2_with (first | (go_at_call 115; refine (HIX.out _).mono ?_; rintro e w2 ⟨rfl,hb2⟩; have HB2 : Hid (Below w.heap.size w w2) := HB1.out.trans (hb2.mono HB1.out.size); obtain ⟨m3,m9⟩ := HKP.out w2 HB2.out; clear hb2) | (go_at_call 163; refine (HRDx.out _).mono ?_; rintro e w3 ⟨vr,rest,p1,p2,p3,p4,rfl,⟨hr1,hr2⟩,hb3⟩; have HB3 : Hid (Below w.heap.size w w3) := HB2.out.trans (hb3.mono HB2.out.size); have HRW : Hid (w3.ownsRow w2.heap.size 302 5 vr M.length (cellsS M) /\ M.length <= 100000000) := ⟨hr1,hr2⟩; clear hb3 hr1 hr2) | (go_at_call 164; refine (HLV.out _ vr w2.heap.size ?_ HRW.out.2).mono ?_; exact HRW.out.1.alloc _; rintro e w4 ⟨vl,rfl,hrow,hb4⟩; have HROW : Hid (∃ base,w4.ownsRow base 302 5 vl R.length (cellsS R)) := ⟨_,hrow⟩; have HB4 : Hid (Below w.heap.size w w4) := (HB3.out.alloc HB3.out.size _).trans (hb4.mono (by have := HB3.out.size; simp; omega)); clear hrow hb4))
      obtain ⟨base4,hrow4⟩ := HROW.out
      obtain ⟨av,acp,hvl⟩ := own_len hrow4
      subst hvl
      clear k3 k9 m3 m9
      go_loopw [9,15] (fun v i wr => ∃ k : Nat,k <= R.length /\ i = .int .i64 k /\ (called = true -> k = 0) /\ wr.ownsRow w4.heap.size 54 2 v k (cellsI (R.take k)) /\ Below w4.heap.size w4 wr) (fun _ i _ => R.length - (intOf i).toNat)
      case atStart => exact ⟨0,by omega,rfl,fun _ => rfl,World.ownsRow_nil _ _ _ _,Below.refl _ _⟩
      case round =>
       obtain ⟨k,hk,rfl,hck,ho,hb⟩ := hrel
       have HB : Hid (Below w4.heap.size w4 wr) := hb
       have hzr := hb.size
       have hz4 := HB4.out.size
       by_cases hlt : k < R.length
       ·cases called with
        | true =>
         have e0 := hck rfl
         subst e0
         rw [if_pos rfl] at hQ
         subst hQ
         have HO : Hid (wr.ownsRow w.heap.size 54 2 u9 ([] : List Sd).length (cellsI [])) := own_lower ho hz4
         clear ho hb
         go_wp2
         go_ret2
         exact ⟨_,rfl,HO.out,HB4.out.trans (HB.out.mono hz4)⟩
        | false =>
         obtain ⟨g,cap',hv,_,hgl,hgc⟩ := own_cellsN hrow4 (by omega)
         have ea : av = some ⟨g,0,none⟩ := by injection hv
         subst ea
         obtain ⟨b0,b1,b2,b3,b4⟩ := said_at (w := w4) (base := 0) (n := 0) (cap := 0) hgc hlt
         have g1 := (hb.cell (p := ⟨g,k * 5 + 1,none⟩) hgl).trans b1
         have g2 := (hb.cell (p := ⟨g,k * 5 + 2,none⟩) hgl).trans b2
         have hgr : g < wr.heap.size := by omega
         have ne1 : g ≠ wr.heap.size := by omega
         have ne2 : wr.heap.size ≠ g := by omega
         have htk : (R.take k).length = k := by simp; omega
         have ho' : (wr.alloc (.cells #[.string (S R[k].key),.string (S R[k].val)] 54)).drew.ownsRow w4.heap.size 54 2 u9 (R.take k).length (cellsI (R.take k)) := by rw [htk]; exact ho.alloc _
         obtain ⟨g',cp',X,hrun,hown,hgrow⟩ := app_item (x := R[k]) (g0 := wr.heap.size) ho' (fun j u hu => cells_two_new wr _ _ _ j u hu) (by omega) (by show w4.heap.size <= (wr.alloc _).heap.size; simp; omega)
         rw [htk] at hrun hown
         have HTK : Hid (cellsI (R.take (k + 1)) = cellsI (R.take k ++ [R[k]])) := by show _ = _; rw [List.take_succ_eq_append_getElem hlt]
         have HOWN : Hid (X.ownsRow w4.heap.size 54 2 (.slice (some ⟨g',0,none⟩) (k + 1) cp') (k + 1) (cellsI (R.take k ++ [R[k]]))) := hown
         have HX : Hid (Below w4.heap.size w4 X) := ((HB.out.alloc (by omega) _).drew).grown hgrow (by simp; omega) (own_ge ho)
         have HRUN : Hid _ := hrun
         obtain ⟨a9,c9x,hu9⟩ := own_len ho
         subst hu9
         clear b0 b1 b2 b3 b4 hgc hv ho ho' hrun hown hgrow hb
         generalize R[k] = x at *
         go_wp2_with fail
         go_region_law (refine step_append_run rfl (.tmp 88) (.tmp 102) 32 rfl (by simp [Act.eval,Act.put]) (by simp [Act.eval,Act.put]) HRUN.out ?_)
         all_goals
          go_wp2
          go_roundw
          case rel => exact ⟨k + 1,by omega,by go_num,fun e => (by cases e),by rw [HTK.out]; exact HOWN.out,HX.out⟩
          case measure => simp [intOf]; omega
       ·have hkn : k = R.length := by omega
        subst hkn
        rw [List.take_length] at ho
        have HO : Hid (wr.ownsRow w.heap.size 54 2 u9 Q.length (cellsI Q)) := by
         have ho := own_lower ho hz4
         show wr.ownsRow _ _ _ _ _ _
         cases called with
         | true =>
          have e1 : R = [] := List.length_eq_zero_iff.1 (hck rfl)
          rw [if_pos rfl] at hQ
          rw [hQ]
          rw [e1] at ho
          exact ho
         | false => rw [if_neg (by simp)] at hQ; rw [hQ]; exact ho
        clear ho hb
        go_wp2
        go_ret2
        exact ⟨_,rfl,HO.out,HB4.out.trans (HB.out.mono hz4)⟩
    ·have hs : saidE l i = 3 := by unfold saidE; rw [if_neg (by simp [hbe]),if_neg (by rw [hix]; intro e; exact heq (Option.some.inj e))]
     rw [all_bad hdn hbo (by rw [hs]; decide),hs]
     have hcmp : ((S I).toList == (S i).toList) = false := by
      rw [ByteArray.toList_eq,ByteArray.toList_eq,S_data,S_data,beq_eq_false_iff_ne]; exact heq
     clear hbe hix hs hbo hdn z1 z2 heq
     go_enter Tryz.func203,Tryz.ntmps203
     go_wp2_with (first | (go_at_call 200; refine HBO.mono ?_; rintro e w ⟨rfl,rfl⟩))
     go_region_held3 (fun w' => w'.cell? ⟨b,3,none⟩ = some (.string (S l)) /\ w'.cell? ⟨b,9,none⟩ = some (.string (S i))) (first | (exact ⟨c3',c9'⟩) | (assumption)) (first | (go_at_call 168; refine (HBG.out _).mono ?_; rintro e w1 ⟨rfl,hb1⟩; have hb1' : Below w.heap.size w w1 := ⟨hb1.os,hb1.tape,hb1.output,hb1.size,hb1.block⟩; have hS1 := HKP.out w1 hb1'; have HB1 : Hid (Below w.heap.size w w1) := hb1'; clear hb1 hb1'))
     all_goals
      obtain ⟨k3,k9⟩ := hS1
      go_wp2_with (first | (go_at_call 115; refine (HIX.out _).mono ?_; rintro e w2 ⟨rfl,hb2⟩; have HB2 : Hid (Below w.heap.size w w2) := HB1.out.trans (hb2.mono HB1.out.size); obtain ⟨m3,m9⟩ := HKP.out w2 HB2.out; clear hb2))
      go_ret2
      exact ⟨_,rfl,HNL.out _,HB2.out⟩
  ·have hs : saidE l i = beginsE l i := by unfold saidE; rw [if_pos hbe]
   rw [all_bad hdn hbo (by rw [hs]; exact hbe),hs]
   rw [beginsR_err rfl hbe] at HBG
   generalize beginsE l i = code at *
   clear hs hbo hdn z1 z2
   go_enter Tryz.func203,Tryz.ntmps203
   go_wp2_with (first | (go_at_call 200; refine HBO.mono ?_; rintro e w ⟨rfl,rfl⟩))
   go_region_held3 (fun w' => w'.cell? ⟨b,3,none⟩ = some (.string (S l)) /\ w'.cell? ⟨b,9,none⟩ = some (.string (S i))) (first | (exact ⟨c3',c9'⟩) | (assumption)) (first | (go_at_call 168; refine (HBG.out _).mono ?_; rintro e w1 ⟨rfl,hb1⟩; have hb1' : Below w.heap.size w w1 := ⟨hb1.os,hb1.tape,hb1.output,hb1.size,hb1.block⟩; have hS1 := HKP.out w1 hb1'; have HB1 : Hid (Below w.heap.size w w1) := hb1'; clear hb1 hb1'))
   all_goals
    clear hS1
    go_wp2
    go_ret2
    exact ⟨_,rfl,HNL.out _,HB1.out⟩
 ·rw [all_refused h0]
  clear hR hok
  generalize d.readS.2.2 = code at *
  go_enter Tryz.func203,Tryz.ntmps203
  go_wp2_with (first | (go_at_call 200; refine HBO.mono ?_; rintro e w ⟨rfl,rfl⟩))
  go_ret2
  exact ⟨_,rfl,HNL.out _,Below.refl _ _⟩
theorem append_keeps {W : World} {t e : TypeId} {i : TypeInfo} {z : Value} {size bytes : Nat} (ht : Tryz.prog.underlying t = some (.slice e)) (hi : Tryz.prog.info? e = some i) (hz : i.zero = some z) (hsize : i.size = size) (hby : i.bytes = bytes) (hzs : z.cells.size = size) (hsz : 0 < size)
  {v : Value} {n : Nat} {xs : List Value} (hown : W.ownsRow 0 e size v n xs) (a : Addr) (m c : Nat) (news : List Value) (hl : news.length = m * size) (hnews : ∀ j u,news[j]? = some u -> W.cell? (a.add j) = some u) (h1 : ∀ u ∈ news,u.oneCell' = true) (hm : 0 < m) (h63 : n + m <= maxLen) (hbytes : (n + m) * bytes <= 140737488355328) :
  ∃ g cap w',(Builtin.append_ #[t,t] t #[v,.slice (some a) m c]).run Tryz.prog W = .ok (.slice (some ⟨g,0,none⟩) (n + m) cap) w' /\ w'.ownsRow 0 e size (.slice (some ⟨g,0,none⟩) (n + m) cap) (n + m) (xs ++ news) /\ w'.ownsRow 0 e size v n xs /\ W.grownBy w' v.ownBlock /\ (v.ownBlock = some g \/ (g = W.heap.size /\ Below W.heap.size W w')) := by
 subst hsize
 subst hby
 obtain ⟨g,cap,w',a1,a2,a3,a4,a5⟩ := run_append_lies (P := Tryz.prog) W t t 0 e i z i.size i.bytes ht hi hz rfl rfl hzs hsz v n xs hown a m c news hl hnews h1 hm h63 hbytes (Nat.zero_le _) _ rfl
 have hsmall : n + m <= 9223372036854775807 := by simp only [maxLen] at h63; omega
 rcases hown.2 with ⟨rfl,rfl⟩ | ⟨g0,cap0,cur,rfl,hbg,hg,hnc,hcm,hcs,htake⟩
 ·refine ⟨g,cap,w',a1,a2,⟨hown.1,.inl ⟨rfl,rfl⟩⟩,a3,.inr ?_⟩
  rcases a4 with h5 | h5
  ·cases h5
  ·refine ⟨h5,a3.os,a3.tape,a3.output,a3.size,fun k hk => a3.block k hk (fun e => by cases e)⟩
 ·by_cases hroom : n + m <= cap0
  ·have hfit : n * i.size + news.length <= cur.size := by rw [hl,hcs,<- Nat.add_mul]; exact Nat.mul_le_mul_right _ hroom
   have hr := run_append_room (P := Tryz.prog) W t t e i ht hi g0 n cap0 cur hg a m c news hl hnews h1 hroom hfit
   rw [a1] at hr
   injection hr with e1 e2
   injection e1 with e3 e4 e5
   have e3' : g = g0 := by simpa using e3
   subst e3'
   subst e5
   refine ⟨g,cap,w',a1,a2,?_,a3,.inl rfl⟩
   rcases a2.2 with ⟨e6,_⟩ | ⟨g1,cap1,cur1,e6,b1,b2,b3,b4,b5,b6⟩
   ·cases e6
   ·cases e6
    refine ⟨hown.1,.inr ⟨g,cap,cur1,rfl,Nat.zero_le _,b2,by omega,hcm,b5,?_⟩⟩
    have : (cur1.toList.take ((n + m) * i.size)).take (n * i.size) = (xs ++ news).take (n * i.size) := by rw [b6]
    rw [List.take_take,Nat.min_eq_left (Nat.mul_le_mul_right _ (by omega)),<- hown.1,List.take_left] at this
    rw [<- hown.1]
    exact this
  ·have holds : ∀ j u,xs[j]? = some u -> W.cell? ((⟨g0,0,none⟩ : Addr).add j) = some u := hown.cells (g := g0) rfl
   have hr := run_append_grow (P := Tryz.prog) W t t e i z ht hi hz ⟨g0,0,none⟩ n cap0 xs hown.1 holds a m c news hl hnews (by omega) (by omega) (growslice_fits (by omega) hbytes)
   rw [a1] at hr
   injection hr with e1 e2
   injection e1 with e3 e4 e5
   have e3' : g = W.heap.size := by simpa using e3
   have hB : Below W.heap.size W w' := by rw [e2]; exact ⟨rfl,rfl,rfl,by simp,fun k hk => Below.heap_alloc W.drew _ k hk⟩
   exact ⟨g,cap,w',a1,a2,own_below hown hB (Nat.le_refl _),a3,.inr ⟨e3',hB⟩⟩
theorem markC_length (s : ByteArray) (n : Nat) : (markC s n).length = n * 2 := by
 induction n with
 | zero => rfl
 | succ n ih => simp [markC,ih]; omega
theorem markC_add (s : ByteArray) (n m : Nat) : markC s (n + m) = markC s n ++ markC s m := by
 induction n with
 | zero => simp [markC]
 | succ n ih => rw [Nat.succ_add]; simp [markC,ih]
theorem markC_one (s : ByteArray) (n : Nat) : ∀ u ∈ markC s n,u.oneCell' = true := by
 induction n with
 | zero => intro u hu; cases hu
 | succ n ih =>
  intro u hu
  simp [markC] at hu
  rcases hu with rfl | rfl | hu
  ·rfl
  ·rfl
  ·exact ih u hu
def Row (X : World) (g : Nat) (s : ByteArray) (N : Nat) : Prop := ∃ cur : Array Value,X.heap[g]? = some (.cells cur 54 (0,0)) /\ ∀ (j : Nat) (u : Value),(markC s N)[j]? = some u -> cur[j]? = some u
theorem Row.lt {X : World} {g N : Nat} {s : ByteArray} (h : Row X g s N) : g < X.heap.size := by
 obtain ⟨cur,h1,_⟩ := h
 exact (Array.getElem?_eq_some_iff.1 h1).1
theorem Row.mono {X : World} {g N N' : Nat} {s : ByteArray} (h : Row X g s N) (hn : N' <= N) : Row X g s N' := by
 obtain ⟨cur,h1,h2⟩ := h
 refine ⟨cur,h1,fun j u hu => h2 j u ?_⟩
 have : markC s N = markC s N' ++ markC s (N - N') := by rw [<- markC_add]; congr 1; omega
 rw [this,List.getElem?_append_left (List.getElem?_eq_some_iff.1 hu).1]
 exact hu
theorem Row.keep {X Y : World} {g N : Nat} {s : ByteArray} (h : Row X g s N) (hk : Y.heap[g]? = X.heap[g]?) : Row Y g s N := by
 obtain ⟨cur,h1,h2⟩ := h
 exact ⟨cur,hk.trans h1,h2⟩
theorem Row.own {X : World} {g N c : Nat} {s : ByteArray} (h : X.ownsRow 0 54 2 (.slice (some ⟨g,0,none⟩) N c) N (markC s N)) : Row X g s N := by
 rcases h.2 with ⟨e,_⟩ | ⟨g',cap,cur,e,_,hg,hnc,hcm,hcs,htake⟩
 ·cases e
 ·cases e
  refine ⟨cur,hg,fun j u hu => ?_⟩
  rw [<- htake,List.getElem?_take] at hu
  split at hu
  ·simpa using hu
  ·cases hu
theorem Row.next {X A Y : World} {v : Value} {g g' N N' : Nat} {s : ByteArray} (h : Row X g s N) (hA : Below X.heap.size X A) (hat : v.ownBlock = some g' \/ (g' = A.heap.size /\ Below A.heap.size A Y)) (ho : Row Y g' s N') (hg : A.grownBy Y v.ownBlock) (hN : N <= N') : Row Y g s N := by
 have hl := h.lt
 have hAg : A.heap[g]? = X.heap[g]? := hA.block g hl
 have hlA : g < A.heap.size := Nat.lt_of_lt_of_le hl hA.size
 rcases hat with h5 | ⟨_,h5⟩
 ·by_cases e : g = g'
  ·subst e; exact ho.mono hN
  ·exact h.keep ((hg.block g hlA (by rw [h5]; intro e'; exact e (Option.some.inj e').symm.symm)).trans hAg)
 ·exact h.keep ((h5.block g hlA).trans hAg)
theorem own_step {X : World} {v : Value} {len m : Nat} {s : ByteArray} {cs : Array Value} (hv : X.ownsRow 0 54 2 v len (markC s len)) (hlen : len <= 2000) (hm : 0 < m) (hm3 : m <= 3) (hcs : cs.toList = markC s m) :
  ∃ g c Y,(Builtin.append_ #[32,32] 32 #[v,.slice (some ⟨X.heap.size,0,none⟩) m m]).run Tryz.prog (X.alloc (.cells cs 54)) = .ok (.slice (some ⟨g,0,none⟩) (len + m) c) Y /\ Row Y g s (len + m) /\ Y.ownsRow 0 54 2 v len (markC s len) /\ Chg (fun k => v.ownBlock = some k) X Y /\ (v.ownBlock = some g \/ X.heap.size <= g) /\ (∀ g0 N,Row X g0 s N -> N <= len + m -> Row Y g0 s N) := by
 obtain ⟨i0,hi,hz0,hz1,hz2⟩ := info_parts info_item
 have hA : Below X.heap.size X (X.alloc (.cells cs 54)) := (Below.refl _ _).alloc (Nat.le_refl _) _
 obtain ⟨g,c,Y,a1,a2,a3,a4,a5⟩ := append_keeps (W := X.alloc (.cells cs 54)) (t := 32) Tryz.underlying32 hi hz0 hz1 hz2 rfl (by decide) (hv.alloc _) ⟨X.heap.size,0,none⟩ m m (markC s m) (markC_length s m) (fun j u hu => by
  have hadd : (⟨X.heap.size,0,none⟩ : Addr).add j = ⟨X.heap.size,j,none⟩ := by
   unfold Addr.add
   split
   ·rename_i h; rw [h]
   ·simp
  rw [hadd]
  refine (World.cell?_alloc_new X cs _ j).trans ?_
  rw [<- hcs] at hu
  simpa using hu) (markC_one s m) hm (by unfold maxLen; omega) (by omega)
 rw [<- markC_add] at a2
 have hrow := Row.own a2
 refine ⟨g,c,Y,a1,hrow,a3,?_,a5.imp id (fun h => by rw [h.1]; simp),fun g0 N h0 hN => h0.next hA a5 hrow a4 hN⟩
 exact ((Chg.refl _ X).alloc _).grown a4 (fun k e => .inl e)
theorem own_chain {X : World} {v : Value} {len : Nat} {s : ByteArray} (hv : X.ownsRow 0 54 2 v len (markC s len)) (hlen : len <= 2000) :
    ∃ g1 c1 X1 g2 c2 X2 g3 c3 X3,
      ((Builtin.append_ #[32,32] 32 #[v,.slice (some ⟨X.heap.size,0,none⟩) 1 1]).run Tryz.prog (X.alloc (.cells #[.string s,.string ⟨#[]⟩] 54)) = .ok (.slice (some ⟨g1,0,none⟩) (len + 1) c1) X1 /\
       (Builtin.append_ #[32,32] 32 #[v,.slice (some ⟨X1.heap.size,0,none⟩) 2 2]).run Tryz.prog (X1.alloc (.cells #[.string s,.string ⟨#[]⟩,.string s,.string ⟨#[]⟩] 54)) = .ok (.slice (some ⟨g2,0,none⟩) (len + 2) c2) X2 /\
       (Builtin.append_ #[32,32] 32 #[v,.slice (some ⟨X2.heap.size,0,none⟩) 3 3]).run Tryz.prog (X2.alloc (.cells #[.string s,.string ⟨#[]⟩,.string s,.string ⟨#[]⟩,.string s,.string ⟨#[]⟩] 54)) = .ok (.slice (some ⟨g3,0,none⟩) (len + 3) c3) X3) /\
      (Chg (fun k => v.ownBlock = some k) X X1 /\ Chg (fun k => v.ownBlock = some k) X1 X2 /\ Chg (fun k => v.ownBlock = some k) X2 X3) /\
      (Row X3 g1 s (len + 1) /\ Row X3 g2 s (len + 2) /\ Row X3 g3 s (len + 3) /\ X3.ownsRow 0 54 2 v len (markC s len)) /\
      ((v.ownBlock = some g1 \/ X.heap.size <= g1) /\ (v.ownBlock = some g2 \/ X.heap.size <= g2) /\ (v.ownBlock = some g3 \/ X.heap.size <= g3)) := by
  obtain ⟨g1,c1,X1,r1,w1,k1,h1,a1,n1⟩ := own_step (m := 1) (cs := #[.string s,.string ⟨#[]⟩]) hv hlen (by omega) (by omega) rfl
  obtain ⟨g2,c2,X2,r2,w2,k2,h2,a2,n2⟩ := own_step (m := 2) (cs := #[.string s,.string ⟨#[]⟩,.string s,.string ⟨#[]⟩]) k1 hlen (by omega) (by omega) rfl
  obtain ⟨g3,c3,X3,r3,w3,k3,h3,a3,n3⟩ := own_step (m := 3) (cs := #[.string s,.string ⟨#[]⟩,.string s,.string ⟨#[]⟩,.string s,.string ⟨#[]⟩]) k2 hlen (by omega) (by omega) rfl
  have z1 := h1.size
  have z2 := h2.size
  exact ⟨g1,c1,X1,g2,c2,X2,g3,c3,X3,⟨r1,r2,r3⟩,⟨h1,h2,h3⟩,⟨n3 _ _ (n2 _ _ w1 (by omega)) (by omega),n3 _ _ w2 (by omega),w3,k3⟩,⟨a1,a2.imp id (fun h => by omega),a3.imp id (fun h => by omega)⟩⟩
theorem info_items : (Tryz.prog.info? 32).map (fun i => (i.zero,i.size,i.bytes)) = some (some (.slice none 0 0),1,24) := by kernel_rfl
theorem info_strs : (Tryz.prog.info? 9).map (fun i => (i.zero,i.size,i.bytes)) = some (some (.string ⟨#[]⟩),1,16) := by kernel_rfl
theorem app_four {W : World} {t e : TypeId} {z : Value} {bytes : Nat} (ht : Tryz.prog.underlying t = some (.slice e)) (hin : (Tryz.prog.info? e).map (fun i => (i.zero,i.size,i.bytes)) = some (some z,1,bytes)) (hz : z.cells.size = 1) (hb : bytes <= 24) {v : Value} {xs : List Value} (h1 : W.ownsRow 0 e 1 v xs.length xs) {a b c d : Value} (h4 : ∀ u ∈ [a,b,c,d],u.oneCell' = true) (hl : xs.length <= 4 * 1353245081000) :
  ∃ g cap Y,(Builtin.append_ #[t,t] t #[v,.slice (some ⟨W.heap.size,0,none⟩) 4 4]).run Tryz.prog (W.alloc (.cells #[a,b,c,d] e)) = .ok (.slice (some ⟨g,0,none⟩) (xs.length + 4) cap) Y /\ Y.ownsRow 0 e 1 (.slice (some ⟨g,0,none⟩) (xs.length + 4) cap) (xs.length + 4) (xs ++ [a,b,c,d]) /\ Chg (fun k => v.ownBlock = some k) W Y /\ (v.ownBlock = some g \/ W.heap.size <= g) /\ g < Y.heap.size := by
 obtain ⟨i0,hi,hz0,hz1,hz2⟩ := info_parts hin
 have hbb : (xs.length + 4) * bytes <= (xs.length + 4) * 24 := Nat.mul_le_mul_left _ hb
 obtain ⟨g,cap,Y,a1,a2,a3,a4,a5⟩ := run_append_lies (P := Tryz.prog) (W.alloc (.cells #[a,b,c,d] e)) t t 0 e i0 z 1 bytes ht hi hz0 hz1 hz2 hz (by decide) v xs.length xs (h1.alloc _) ⟨W.heap.size,0,none⟩ 4 4 [a,b,c,d] rfl (fun j u hu => by
  have hadd : (⟨W.heap.size,0,none⟩ : Addr).add j = ⟨W.heap.size,j,none⟩ := by
   unfold Addr.add
   split
   ·rename_i h; rw [h]
   ·simp
  rw [hadd]
  refine (World.cell?_alloc_new W #[a,b,c,d] _ j).trans ?_
  simpa using hu) h4 (by omega) (by unfold maxLen; omega) (by omega) (Nat.zero_le _) _ rfl
 exact ⟨g,cap,Y,a1,a2,((Chg.refl _ W).alloc _).grown a3 (fun k e => .inl e),a4.imp id (fun h => by rw [h]; simp),a5⟩
theorem Row.mark {X : World} {κ : Nat -> Nat} {n g N c : Nat} {s : ByteArray} (h : Row X g s N) (hr : Rg κ n X 0 g) (hN : N <= 1000000) : MarkAt X κ n ⟨.slice (some ⟨g,0,none⟩) N c,s,N⟩ := by
 obtain ⟨cur,h1,h2⟩ := h
 exact ⟨_,_,rfl,hN,fun _ => ⟨g,cur,rfl,h1,h2,hr⟩⟩
theorem own_mark {X : World} {κ : Nat -> Nat} {n N c : Nat} {p : Option Addr} {s : ByteArray} (h : X.ownsRow 0 54 2 (.slice p N c) N (markC s N)) (hr : ∀ g,p = some ⟨g,0,none⟩ -> Rg κ n X 0 g) (hb : N <= 1000000) : MarkAt X κ n ⟨.slice p N c,s,N⟩ := by
 refine ⟨_,_,rfl,hb,fun hN => ?_⟩
 obtain ⟨g,cap,hv,_,_,_⟩ := own_cellsN h hN
 have ep : p = some ⟨g,0,none⟩ := by injection hv
 subst ep
 obtain ⟨cur,h1,h2⟩ := Row.own h
 exact ⟨g,cur,rfl,h1,h2,hr g rfl⟩
theorem LawAt.owned {w X : World} {κ : Nat -> Nat} {n bw : Nat} {ds : List (Dk × Dk)} {P : LawP} {ls : List Mark} {pv : Option Addr} {len cv g1 c1 g2 c2 g3 c3 : Nat} {s : ByteArray} {xs : List Value} {is' im' : Value} (h : LawAt w κ n bw ds P ls) (hn : n <= w.heap.size) (hlen : len <= 2000) (hv : w.ownsRow 0 54 2 (.slice pv len cv) len xs) (hvn : ∀ g,pv = some ⟨g,0,none⟩ -> κ g = 1 /\ n <= g)
  (hc : Chg (fun k => k = bw \/ (Value.slice pv len cv).ownBlock = some k \/ P.isv.ownBlock = some k \/ P.imv.ownBlock = some k) w X) (hbx : Bx X bw #[P.pv,is',im',.int .i64 (P.next + 1)] 65)
  (his : X.ownsRow 0 32 1 is' (ls.length + 4) (ls.map (·.v) ++ [.slice pv len cv,.slice (some ⟨g1,0,none⟩) (len + 1) c1,.slice (some ⟨g2,0,none⟩) (len + 2) c2,.slice (some ⟨g3,0,none⟩) (len + 3) c3])) (him : X.ownsRow 0 9 1 im' (ls.length + 4) ((ls.map fun m => Value.string m.s) ++ [.string s,.string s,.string s,.string s]))
  (ais : ∀ g,is'.ownBlock = some g -> P.isv.ownBlock = some g \/ w.heap.size <= g) (aim : ∀ g,im'.ownBlock = some g -> P.imv.ownBlock = some g \/ w.heap.size <= g)
  (r1 : Row X g1 s (len + 1)) (r2 : Row X g2 s (len + 2)) (r3 : Row X g3 s (len + 3)) (r0 : X.ownsRow 0 54 2 (.slice pv len cv) len (markC s len))
  (a1 : (Value.slice pv len cv).ownBlock = some g1 \/ w.heap.size <= g1) (a2 : (Value.slice pv len cv).ownBlock = some g2 \/ w.heap.size <= g2) (a3 : (Value.slice pv len cv).ownBlock = some g3 \/ w.heap.size <= g3) :
  ∃ κ',LawAt X κ' n bw ds ⟨P.pv,P.ps,is',im',P.next + 1⟩ (ls ++ [⟨.slice pv len cv,s,len⟩,⟨.slice (some ⟨g1,0,none⟩) (len + 1) c1,s,len + 1⟩,⟨.slice (some ⟨g2,0,none⟩) (len + 2) c2,s,len + 2⟩,⟨.slice (some ⟨g3,0,none⟩) (len + 3) c3,s,len + 3⟩]) /\ ∀ k,κ k = 1 -> (Value.slice pv len cv).ownBlock ≠ some k -> k < w.heap.size -> κ' k = 1 := by
 have hs := hc.size
 have hm := h.marks
 have vlt := own_lt hv
 have vcol : ∀ k,(Value.slice pv len cv).ownBlock = some k -> κ k = 1 /\ n <= k := fun k hk => by
  rcases hv.2 with ⟨e,_⟩ | ⟨g,cap,cur,e,_⟩
  ·rw [e] at hk; cases hk
  ·injection e with e1 e2 e3
   rw [e1] at hk
   have : g = k := by simpa [Value.ownBlock] using hk
   subst this
   exact hvn g e1
 obtain ⟨κ',hκ'⟩ : ∃ κ' : Nat -> Nat,κ' = fun k => if (Value.slice pv len cv).ownBlock = some k then 0 else if k < w.heap.size then κ k else if k < X.heap.size then 0 else κ k := ⟨_,rfl⟩
 have kold : ∀ k,k < w.heap.size -> (Value.slice pv len cv).ownBlock ≠ some k -> κ' k = κ k := fun k hk hne => by rw [hκ']; simp only; rw [if_neg hne,if_pos hk]
 have kv : ∀ k,(Value.slice pv len cv).ownBlock = some k -> κ' k = 0 := fun k hk => by rw [hκ']; simp only; rw [if_pos hk]
 have knew : ∀ k,w.heap.size <= k -> k < X.heap.size -> κ' k = 0 := fun k hk hk2 => by
  have hne : (Value.slice pv len cv).ownBlock ≠ some k := fun e => by have := vlt k e; omega
  rw [hκ']; simp only; rw [if_neg hne,if_neg (by omega),if_pos hk2]
 have nv : ∀ {c k},Rg κ n w c k -> c ≠ 1 -> (Value.slice pv len cv).ownBlock ≠ some k := fun {c k} hk hc1 e => hc1 (hk.1.symm.trans (vcol k e).1)
 have hr : ∀ c k,c ≠ 1 -> Rg κ n w c k -> Rg κ' n X c k := fun c k hc1 hk => ⟨(kold k hk.2.2 (nv hk hc1)).trans hk.1,hk.2.1,Nat.lt_of_lt_of_le hk.2.2 hs⟩
 have hloc : ∀ g,(Value.slice pv len cv).ownBlock = some g \/ w.heap.size <= g -> g < X.heap.size -> Rg κ' n X 0 g := fun g hg hl => by
  rcases hg with e | e
  ·exact ⟨kv g e,(vcol g e).2,hl⟩
  ·exact ⟨knew g e hl,by omega,hl⟩
 have nK : ∀ {k},Rg κ n w 0 k -> k ≠ bw -> P.isv.ownBlock ≠ some k -> P.imv.ownBlock ≠ some k -> ¬ (k = bw \/ (Value.slice pv len cv).ownBlock = some k \/ P.isv.ownBlock = some k \/ P.imv.ownBlock = some k) := fun {k} hk h1 h2 h3 => by
  rintro (e | e | e | e)
  ·exact h1 e
  ·exact nv hk (by decide) e
  ·exact h2 e
  ·exact h3 e
 have nC : ∀ {c k},Rg κ n w c k -> 2 <= c -> ¬ (k = bw \/ (Value.slice pv len cv).ownBlock = some k \/ P.isv.ownBlock = some k \/ P.imv.ownBlock = some k) := fun {c k} hk hc2 => by
  rintro (e | e | e | e)
  ·subst e; have := h.col.1; have := hk.1; omega
  ·exact nv hk (by omega) e
  ·have := (hm.cis k e).1; have := hk.1; omega
  ·have := (hm.cim k e).1; have := hk.1; omega
 have eis : ls.length = (ls.map (·.v)).length := by simp
 refine ⟨κ',⟨hbx,hr _ _ (by decide) h.col,?_,h.len,fun g e => hr _ _ (by decide) (h.crow g e),?_,⟨?_,?_,?_,?_,?_⟩,?_⟩,?_⟩
 ·refine own_chg h.row hc (fun g e => nK (h.crow g e) (fun e' => own_bx h.box h.row (by decide) (by rw [<- e']; exact e)) (fun e' => own_rw h.row hm.is (by decide) g e e') (fun e' => own_rw h.row hm.im (by decide) g e e'))
 ·intro j d1 p1 hd1 hp1
  have hpr := h.pairs j d1 p1 hd1 hp1
  refine ⟨hpr.box.chg hc (nK hpr.col ?_ (own_bx hpr.box hm.is (by decide)) (own_bx hpr.box hm.im (by decide))),hr _ _ (by decide) hpr.col,?_,?_⟩
  ·intro e
   have a := hpr.box
   rw [e] at a
   have b := h.box
   rw [Bx,a] at b
   injection b with b
   injection b with b1 b2
   have := congrArg Array.size b1
   simp at this
  ·obtain ⟨q1,hq1⟩ := hpr.px
   exact ⟨q1,(hq1.keep hc (fun k hk => nC hk (by omega))).mono (fun k hk => hr _ k (by omega) hk)⟩
  ·obtain ⟨q1,hq1⟩ := hpr.py
   exact ⟨q1,(hq1.kept hc (fun k hk => nC hk (by omega))).mono (fun k hk => hr _ k (by omega) hk)⟩
 ·simp only [List.length_append,List.map_append]; exact his
 ·simp only [List.length_append,List.map_append]; exact him
 ·intro g e
  have hl := own_lt his g e
  rcases ais g e with h5 | h5
  ·exact hr _ _ (by decide) (hm.cis g h5)
  ·exact ⟨knew g h5 hl,by omega,hl⟩
 ·intro g e
  have hl := own_lt him g e
  rcases aim g e with h5 | h5
  ·exact hr _ _ (by decide) (hm.cim g h5)
  ·exact ⟨knew g h5 hl,by omega,hl⟩
 ·intro mk hmk
  simp only [List.mem_append,List.mem_cons,List.not_mem_nil,or_false] at hmk
  rcases hmk with hmk | rfl | rfl | rfl | rfl
  ·refine (hm.each mk hmk).kept (fun g hg ⟨cur,hcur⟩ => hc.keep g hg.2.2 (nK hg ?_ (fun e => own_ty hm.is e hcur (by decide)) (fun e => own_ty hm.im e hcur (by decide)))) (fun g hg => hr _ _ (by decide) hg)
   intro e
   rw [e,show w.heap[bw]? = _ from h.box] at hcur
   simp at hcur
  ·exact own_mark r0 (fun g e => hloc g (.inl (by rw [e]; rfl)) (by have := vlt g (by rw [e]; rfl); omega)) (by omega)
  ·exact r1.mark (hloc g1 a1 r1.lt) (by omega)
  ·exact r2.mark (hloc g2 a2 r2.lt) (by omega)
  ·exact r3.mark (hloc g3 a3 r3.lt) (by omega)
 ·intro k hk
  have hne : (Value.slice pv len cv).ownBlock ≠ some k := fun e => by have := vlt k e; omega
  rw [hκ']; simp only; rw [if_neg hne,if_neg (by omega),if_neg (by omega)]
  exact h.out k (by omega)
 ·intro k hk hne hlt
  exact (kold k hlt hne).trans hk
end Go.Proofs.YtdhgebdbiehchaaGreatDoor
