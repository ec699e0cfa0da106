/- On the way: LaLift. -/
import Derived.Test.YtdhgebdbiehchaaGreatDoorB48
import Derived.Test.YtdhgebdbiehchaaGreatDoorB47
import Derived.Test.YtdhgebdbiehchaaGreatDoorTie
import Derived.Test.YtdhgebdbiehchaaGreatDoorCards
import Derived.Test.YtdhgebdbiehchaaGreatDoorB50
import Derived.LaidMore
import Derived.OpenShut
import Derived.Stop.Joined
import Derived.SevenTiedAt
namespace Go.Proofs.YtdhgebdbiehchaaGreatDoor
open Go.ChangeShapes Go.WideShapes Go.ChangeAt Go.WideMaps Go.WideElems Go.RowKit Go.Deep
set_option linter.unusedSimpArgs false
set_option linter.unusedVariables false
set_option maxRecDepth 100000
theorem ownKnob_la : ownKnob Tryz.prog.godebug = none := by kernel_rfl
theorem env_lasting {W : World} (h : laidMetH Tryz.prog Rows.lastingRow.laid W) : ∃ E,Env W E := by
 have h' : laidMet Tryz.prog laidSix W /\ handlesMet Tryz.prog [("errors.errorType",Rows.laid_errors_errorType)] W := h
 exact env_of_parts h'.1 h'.2
theorem door_la (os : Os) (args : Array Value) : laidMetH Tryz.prog Rows.lastingRow.laid ((World.doorLaid Tryz.prog 400 os).forCall (fun _ _ => 0) ⟨#[],args,[]⟩).memory :=
 laidMetH_of_parts3 (fuel := 8) (laidMet_of_run' 8 (by kernel_rfl) (by kernel_rfl)) (by kernel_rfl) (by kernel_rfl)
theorem lasting_lifted (os : Os) (started : os.Started) (H : Type) (enc : TypeId × Value -> H) :
  ReturnsInHanded {} Tryz.checked os 10 .any (fun w args => (Rows.lastingSpec.pre enc Tryz.prog Tryz.f10 [] false w args /\ laidMetH Tryz.prog Rows.lastingRow.laid w) /\ sizedMet enc Tryz.prog Tryz.f10 (OpenSpec.ofChange Rows.lastingSpec) false w args)
   (Rows.lastingSpec.post enc Tryz.prog Tryz.f10 false true false false) := by
 refine returnsInHanded_of_change_and (C := Tryz.checked) (X := fun w _ => laidMetH Tryz.prog Rows.lastingRow.laid w) (fun _ _ _ hh h => h.of_heap hh) ownKnob_la started (by kernel_rfl) Tryz.func10
  (ChangeSpec.witness_shaped (enc := enc) (C := Tryz.checked) (os := os) (X := fun w _ => laidMetH Tryz.prog Rows.lastingRow.laid w) false (World.doorLaid Tryz.prog 400 os) #[.slice none 0 0,.slice none 0 0] 8 rfl (World.shaped_of_RefB (by kernel_rfl) (by kernel_rfl)) (by kernel_rfl) (by kernel_rfl) (by kernel_rfl) (door_la os _)) ?_
 intro W base args ds gs before hval0 hW _ hsz0 hL _
 have hval : ∀ (j : Nat) t v,Tryz.f10.params[j]? = some t -> args[j]? = some v -> Value.okWide Tryz.prog W .any base t v := hval0
 have hsz : (DataW.weightsEach Tryz.prog (Tryz.f10.params.toList ++ Rows.lastingSpec.plain.varTypes Tryz.prog) (ds ++ gs)).all (· <= reachBytes) = true := hsz0
 have hW' := hW
 obtain ⟨p,q,hA0,hV,rfl,_,_⟩ := hW
 have hA : DataW.TrodAll enc Tryz.prog W 0 (fun _ => true) true Tryz.f10.params.toList args.toList ds p := hA0
 rw [Tryz.params10] at hA hval hsz
 obtain ⟨v0,v1,d0,d1,p0,p1,rfl,rfl,rfl,h0,h1⟩ := trodAll_two hA
 obtain ⟨rfl,rfl⟩ := trodVars_none hV
 obtain ⟨a0,len0,cap0,rfl⟩ := okWide_slice Tryz.underlying25 (hval 0 25 v0 rfl rfl)
 obtain ⟨a1,len1,cap1,rfl⟩ := okWide_slice Tryz.underlying45 (hval 1 45 v1 rfl rfl)
 have h0k := h0
 have h1k := h1
 obtain ⟨fuel0,hf0⟩ := h0
 obtain ⟨fuel1,hf1⟩ := h1
 clear hA0 hval0
 simp only [List.append_nil] at hW'
 have hlt : ∀ x ∈ p0 ++ p1,x.block < W.heap.size := fun x hx => by simpa using hW'.lt x hx
 have hlt0 : ∀ x ∈ p0,x.block < W.heap.size := fun x hx => hlt x (List.mem_append.2 (.inl hx))
 have hlt1 : ∀ x ∈ p1,x.block < W.heap.size := fun x hx => hlt x (List.mem_append.2 (.inr hx))
 have hargs0 : ∀ (W' : World),Below W.heap.size W W' -> DataW.Trod enc Tryz.prog W' 0 (fun b => decide (b < W.heap.size)) true 25 (.slice a0 len0 cap0) d0 p0 :=
  fun W' hn => Below.trod laidOut (by kernel_rfl) (of_decide_eq_true (by kernel_rfl)) h0k hn hlt0
 have hargs1 : ∀ (W' : World),Below W.heap.size W W' -> DataW.Trod enc Tryz.prog W' 0 (fun b => decide (b < W.heap.size)) true 45 (.slice a1 len1 cap1) d1 p1 :=
  fun W' hn => Below.trod laidOut (by kernel_rfl) (of_decide_eq_true (by kernel_rfl)) h1k hn hlt1
 obtain ⟨L0,e0,hS0,hr0,hn0⟩ := open_ints hf0 hlt0
 obtain ⟨L1,e1,hS1,hr1,hn1⟩ := open_acts hf1 hlt1
 subst e0
 subst e1
 obtain ⟨E,hE⟩ := env_lasting hL
 refine (lasting_any E a0 a1 L0 L1 cap0 cap1 W hE hS0 hS1 hr0 hr1 hn0 hn1).mono fun e W' ⟨he,hnx⟩ => ?_
 subst he
 refine ⟨_,rfl,_,_,_,[],p0 ++ p1,[],hW',trodAll_mk1 (shut_bool Tryz.underlying4 _),trodAll_mk2 (hargs0 _ hnx) (hargs1 _ hnx),rfl,hnx.frame _,fun h => by cases h⟩
end Go.Proofs.YtdhgebdbiehchaaGreatDoor
