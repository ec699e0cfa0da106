/- On the way: FaLift. -/
import Derived.Test.YtdhgebdbiehchaaGreatDoorB50
import Derived.Test.YtdhgebdbiehchaaGreatDoorB47
import Derived.Test.YtdhgebdbiehchaaGreatDoorTie
import Derived.Test.YtdhgebdbiehchaaGreatDoorCards
import Derived.Test.YtdhgebdbiehchaaGreatDoorB49
import Derived.LaidMore
import Derived.OpenShut
import Derived.Stop.Joined
import Derived.SevenTiedAt
namespace Go.Proofs.YtdhgebdbiehchaaGreatDoor
open Go.ChangeShapes Go.WideShapes Go.ChangeAt Go.WideMaps Go.WideElems Go.RowKit Go.Deep
set_option linter.unusedSimpArgs false
set_option linter.unusedVariables false
set_option maxRecDepth 100000
set_option maxHeartbeats 400000
theorem ownKnob_fa : ownKnob Tryz.prog.godebug = none := by kernel_rfl
section
variable {H : Type}
theorem script_len {L : List OpV} {sp : List (DataW H)} (h : (DataW.weightsEach Tryz.prog [22] [DataW.slice (L.map OpV.data) sp]).all (· <= reachBytes) = true) : L.length <= 1353245080300 := by
 have h' : ∀ x ∈ DataW.weights Tryz.prog 22 (DataW.slice (L.map OpV.data) sp),x <= 140737488351232 := by
  intro x hx
  have := List.all_eq_true.1 h x (by simp only [DataW.weightsEach,List.append_nil]; exact hx)
  exact of_decide_eq_true this
 simp only [DataW.weights,Tryz.underlying22,List.mem_cons,List.mem_append] at h'
 have := h' _ (.inl rfl)
 rw [bytes_op,List.length_map] at this
 omega
end
theorem env_fails {W : World} (h : laidMetH Tryz.prog Rows.failsRow.laid W) : ∃ E,Env W E := by
 have h' : laidMet Tryz.prog laidSix W /\ handlesMet Tryz.prog [("errors.errorType",Rows.laid_errors_errorType)] W := h
 exact env_of_parts h'.1 h'.2
theorem fails_any (a : Option Addr) (L : List OpV) (cap : Nat) (w : World) (hS : ScriptAt w a L) (hL : ∀ o ∈ L,o.sized) (hn : L.length <= 1353245080300) (hE : ∃ E,Env w E) :
  Calls Tryz.prog 9 #[.slice a L.length cap] w fun e w' => e = .returned (.bool true) /\ Below w.heap.size w w' := by
 obtain ⟨E,hE⟩ := hE
 go_enter Tryz.func9,Tryz.ntmps9
 go_wp2_with fail
 refine (plays_all true E a L cap 5 16 _ (by omega) (by omega) (fun o => steps_fails o) looks_true hS hL hn hE.halves hE).mono ?_
 rintro e w1 ⟨rfl,hb1⟩
 go_wp2
 go_ret
 exact ⟨rfl,hb1⟩
theorem door_fa (os : Os) (args : Array Value) : laidMetH Tryz.prog Rows.failsRow.laid ((World.doorLaid Tryz.prog 400 os).forCall (fun _ _ => 0) ⟨#[],args,[]⟩).memory :=
 laidMetH_of_parts3 (fuel := 8) (laidMet_of_run' 8 (by kernel_rfl) (by kernel_rfl)) (by kernel_rfl) (by kernel_rfl)
theorem fails_lifted (os : Os) (started : os.Started) (H : Type) (enc : TypeId × Value -> H) :
  ReturnsInHanded {} Tryz.checked os 9 .any (fun w args => (Rows.failsSpec.pre enc Tryz.prog Tryz.f9 [] false w args /\ laidMetH Tryz.prog Rows.failsRow.laid w) /\ sizedMet enc Tryz.prog Tryz.f9 (OpenSpec.ofChange Rows.failsSpec) false w args)
   (Rows.failsSpec.post enc Tryz.prog Tryz.f9 false true false false) := by
 refine returnsInHanded_of_change_and (C := Tryz.checked) (X := fun w _ => laidMetH Tryz.prog Rows.failsRow.laid w) (fun _ _ _ hh h => h.of_heap hh) ownKnob_fa started (by kernel_rfl) Tryz.func9
  (ChangeSpec.witness_shaped (enc := enc) (C := Tryz.checked) (os := os) (X := fun w _ => laidMetH Tryz.prog Rows.failsRow.laid w) false (World.doorLaid Tryz.prog 400 os) #[.slice none 0 0] 8 rfl (World.shaped_of_RefB (by kernel_rfl) (by kernel_rfl)) (by kernel_rfl) (by kernel_rfl) (by kernel_rfl) (door_fa os _)) ?_
 intro W base args ds gs before hval0 hW _ hsz0 hL _
 have hval : ∀ (j : Nat) t v,Tryz.f9.params[j]? = some t -> args[j]? = some v -> Value.okWide Tryz.prog W .any base t v := hval0
 have hsz : (DataW.weightsEach Tryz.prog (Tryz.f9.params.toList ++ Rows.failsSpec.plain.varTypes Tryz.prog) (ds ++ gs)).all (· <= reachBytes) = true := hsz0
 have hW' := hW
 obtain ⟨p,q,hA0,hV,rfl,_,_⟩ := hW
 have hA : DataW.TrodAll enc Tryz.prog W 0 (fun _ => true) true Tryz.f9.params.toList args.toList ds p := hA0
 rw [Tryz.params9] at hA hval hsz
 obtain ⟨v0,d0,rfl,rfl,h0⟩ := trodAll_one hA
 obtain ⟨rfl,rfl⟩ := trodVars_none hV
 obtain ⟨a0,len,cap,rfl⟩ := okWide_slice Tryz.underlying22 (hval 0 22 v0 rfl rfl)
 have h0k := h0
 obtain ⟨fuel,hf⟩ := h0
 clear hA0 hval0
 simp only [List.append_nil] at hW'
 have hlt : ∀ x ∈ p,x.block < W.heap.size := fun x hx => by simpa using hW'.lt x hx
 have hargs : ∀ (W' : World),Below W.heap.size W W' -> DataW.Trod enc Tryz.prog W' 0 (fun b => decide (b < W.heap.size)) true 22 (.slice a0 len cap) d0 p :=
  fun W' hn => Below.trod laidOut (by kernel_rfl) (of_decide_eq_true (by kernel_rfl)) h0k hn hlt
 obtain ⟨L,hlen,hS,hd,hrg⟩ := open_script hf hlt
 have hsized : (∀ o ∈ L,o.sized) /\ L.length <= 1353245080300 := by
  rcases hd with ⟨_,rfl⟩ | ⟨sp,hd⟩
  ·exact ⟨fun o ho => by simp at ho,by simp⟩
  ·have hd' : d0 = _ := hd
   rw [hd'] at hsz
   exact ⟨(script_sized hsz hrg).1,script_len hsz⟩
 subst hlen
 refine (fails_any a0 L cap W hS hsized.1 hsized.2 (env_fails hL)).mono fun e W' ⟨he,hnx⟩ => ?_
 subst he
 refine ⟨_,rfl,_,_,_,[],p,[],hW',trodAll_mk1 (shut_bool Tryz.underlying4 _),trodAll_mk1 (hargs _ hnx),rfl,hnx.frame _,fun h => by cases h⟩
end Go.Proofs.YtdhgebdbiehchaaGreatDoor
