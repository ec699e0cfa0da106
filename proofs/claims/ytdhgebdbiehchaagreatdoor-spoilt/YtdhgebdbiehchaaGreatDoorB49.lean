/- On the way: SpLift. -/
import Derived.Test.YtdhgebdbiehchaaGreatDoorB09
import Derived.Test.YtdhgebdbiehchaaGreatDoorB46
import Derived.Test.YtdhgebdbiehchaaGreatDoorTie
import Derived.Test.YtdhgebdbiehchaaGreatDoorCards
import Derived.Test.YtdhgebdbiehchaaGreatDoorB48
import Derived.LaidMore
import Derived.OpenShut
import Derived.Stop.Joined
import Derived.SevenTiedAt
namespace Go.Proofs.YtdhgebdbiehchaaGreatDoor
open Go.ChangeShapes Go.WideShapes Go.ChangeAt Go.WideMaps Go.WideElems Go.RowKit Go.Deep
set_option linter.unusedSimpArgs false
set_option linter.unusedVariables false
set_option maxRecDepth 100000
theorem ownKnob_sp : ownKnob Tryz.prog.godebug = none := by kernel_rfl
theorem env_spoilt {W : World} (h : laidMetH Tryz.prog Rows.spoiltRow.laid W) : ∃ E,Env W E := by
 have h' : laidMet Tryz.prog laidSix W /\ handlesMet Tryz.prog [("errors.errorType",Rows.laid_errors_errorType)] W := h
 exact env_of_parts h'.1 h'.2
theorem door_sp (os : Os) (args : Array Value) : laidMetH Tryz.prog Rows.spoiltRow.laid ((World.doorLaid Tryz.prog 400 os).forCall (fun _ _ => 0) ⟨#[],args,[]⟩).memory :=
 laidMetH_of_parts3 (fuel := 8) (laidMet_of_run' 8 (by kernel_rfl) (by kernel_rfl)) (by kernel_rfl) (by kernel_rfl)
section
variable {H : Type} {enc : TypeId × Value -> H} {P : Program} {w : World} {base : Nat} {spare : Nat -> Bool} {held : Bool}
theorem trodAll_five {t0 t1 t2 t3 t4 : TypeId} {args : Array Value} {ds : List (DataW H)} {ps : List MemPlace} (h : DataW.TrodAll enc P w base spare held [t0,t1,t2,t3,t4] args.toList ds ps) :
  ∃ v0 v1 v2 v3 v4 d0 d1 d2 d3 d4 p0 p1 p2 p3 p4,args = #[v0,v1,v2,v3,v4] /\ ds = [d0,d1,d2,d3,d4] /\ ps = p0 ++ (p1 ++ (p2 ++ (p3 ++ p4))) /\ DataW.Trod enc P w base spare held t0 v0 d0 p0 /\ DataW.Trod enc P w base spare held t1 v1 d1 p1 /\ DataW.Trod enc P w base spare held t2 v2 d2 p2 /\ DataW.Trod enc P w base spare held t3 v3 d3 p3 /\ DataW.Trod enc P w base spare held t4 v4 d4 p4 := by
 obtain ⟨v0,vs0,d0,ds0,p0,q0,hargs,rfl,rfl,h0,r0⟩ := trodAll_cons h
 obtain ⟨v1,vs1,d1,ds1,p1,q1,rfl,rfl,rfl,h1,r1⟩ := trodAll_cons r0
 obtain ⟨v2,vs2,d2,ds2,p2,q2,rfl,rfl,rfl,h2,r2⟩ := trodAll_cons r1
 obtain ⟨v3,vs3,d3,ds3,p3,q3,rfl,rfl,rfl,h3,r3⟩ := trodAll_cons r2
 obtain ⟨v4,vs4,d4,ds4,p4,q4,rfl,rfl,rfl,h4,r4⟩ := trodAll_cons r3
 obtain ⟨rfl,rfl,rfl⟩ := trodAll_nil r4
 exact ⟨v0,v1,v2,v3,v4,d0,d1,d2,d3,d4,p0,p1,p2,p3,p4,by cases args; simp_all,rfl,by simp,h0,h1,h2,h3,h4⟩
end
theorem spoilt_lifted (os : Os) (started : os.Started) (H : Type) (enc : TypeId × Value -> H) :
  ReturnsInHanded {} Tryz.checked os 8 .any (fun w args => (Rows.spoiltSpec.pre enc Tryz.prog Tryz.f8 [] false w args /\ laidMetH Tryz.prog Rows.spoiltRow.laid w) /\ sizedMet enc Tryz.prog Tryz.f8 (OpenSpec.ofChange Rows.spoiltSpec) false w args)
   (Rows.spoiltSpec.post enc Tryz.prog Tryz.f8 false true false false) := by
 refine returnsInHanded_of_change_and (C := Tryz.checked) (X := fun w _ => laidMetH Tryz.prog Rows.spoiltRow.laid w) (fun _ _ _ hh h => h.of_heap hh) ownKnob_sp started (by kernel_rfl) Tryz.func8
  (ChangeSpec.witness_shaped (enc := enc) (C := Tryz.checked) (os := os) (X := fun w _ => laidMetH Tryz.prog Rows.spoiltRow.laid w) false (World.doorLaid Tryz.prog 400 os) #[.slice none 0 0,.slice none 0 0,.int .i64 0,.int .i64 0,.int .i64 0] 8 rfl (World.shaped_of_RefB (by kernel_rfl) (by kernel_rfl)) (by kernel_rfl) (by kernel_rfl) (by kernel_rfl) (door_sp os _)) ?_
 intro W base args ds gs before hval0 hW _ hsz0 hL _
 have hval : ∀ (j : Nat) t v,Tryz.f8.params[j]? = some t -> args[j]? = some v -> Value.okWide Tryz.prog W .any base t v := hval0
 have hsz : (DataW.weightsEach Tryz.prog (Tryz.f8.params.toList ++ Rows.spoiltSpec.plain.varTypes Tryz.prog) (ds ++ gs)).all (· <= reachBytes) = true := hsz0
 have hW' := hW
 obtain ⟨p,q,hA0,hV,rfl,_,_⟩ := hW
 have hA : DataW.TrodAll enc Tryz.prog W 0 (fun _ => true) true Tryz.f8.params.toList args.toList ds p := hA0
 rw [Tryz.params8] at hA hval hsz
 obtain ⟨v0,v1,v2,v3,v4,d0,d1,d2,d3,d4,p0,p1,p2,p3,p4,rfl,rfl,rfl,h0,h1,h2,h3,h4⟩ := trodAll_five hA
 obtain ⟨rfl,rfl⟩ := trodVars_none hV
 obtain ⟨a0,len0,cap0,rfl⟩ := okWide_slice Tryz.underlying25 (hval 0 25 v0 rfl rfl)
 obtain ⟨a1,len1,cap1,rfl⟩ := okWide_slice Tryz.underlying25 (hval 1 25 v1 rfl rfl)
 obtain ⟨z2,rfl⟩ := okWide_int Tryz.underlying3 (hval 2 3 v2 rfl rfl)
 obtain ⟨z3,rfl⟩ := okWide_int Tryz.underlying3 (hval 3 3 v3 rfl rfl)
 obtain ⟨z4,rfl⟩ := okWide_int Tryz.underlying3 (hval 4 3 v4 rfl rfl)
 have h0k := h0
 have h1k := h1
 have h2k := h2
 have h3k := h3
 have h4k := h4
 obtain ⟨fuel0,hf0⟩ := h0
 obtain ⟨fuel1,hf1⟩ := h1
 obtain ⟨fuel2,hf2⟩ := h2
 obtain ⟨fuel3,hf3⟩ := h3
 obtain ⟨fuel4,hf4⟩ := h4
 clear hA0 hval0
 have hrg : ∀ {fuel : Nat} {z : Int} {x : DataW H × List MemPlace},DataW.trod enc Tryz.prog W 0 (fun _ => true) true fuel 3 [.int .i64 z] = some x -> IntR z := fun {fuel z x} h => by
  obtain ⟨z',e1,_,r⟩ := DataW.trod_int Tryz.underlying3 h
  simp [Lit.wf,IntKind.min,IntKind.max,IntKind.signed,IntKind.bits] at r
  simp only [List.cons.injEq,and_true,Value.int.injEq,true_and] at e1
  rw [e1]
  unfold IntR
  omega
 have r2 : IntR z2 := hrg hf2
 have r3 : IntR z3 := hrg hf3
 have r4 : IntR z4 := hrg hf4
 simp only [List.append_nil] at hW'
 have hlt : ∀ x ∈ p0 ++ (p1 ++ (p2 ++ (p3 ++ p4))),x.block < W.heap.size := fun x hx => hW'.lt x (by simpa using hx)
 have hlt0 : ∀ x ∈ p0,x.block < W.heap.size := fun x hx => hlt x (by simp [hx])
 have hlt1 : ∀ x ∈ p1,x.block < W.heap.size := fun x hx => hlt x (by simp [hx])
 have hlt2 : ∀ x ∈ p2,x.block < W.heap.size := fun x hx => hlt x (by simp [hx])
 have hlt3 : ∀ x ∈ p3,x.block < W.heap.size := fun x hx => hlt x (by simp [hx])
 have hlt4 : ∀ x ∈ p4,x.block < W.heap.size := fun x hx => hlt x (by simp [hx])
 have hargs0 : ∀ (W' : World),Below W.heap.size W W' -> DataW.Trod enc Tryz.prog W' 0 (fun b => decide (b < W.heap.size)) true 25 (.slice a0 len0 cap0) d0 p0 :=
  fun W' hn => Below.trod laidOut (by kernel_rfl) (of_decide_eq_true (by kernel_rfl)) h0k hn hlt0
 have hargs1 : ∀ (W' : World),Below W.heap.size W W' -> DataW.Trod enc Tryz.prog W' 0 (fun b => decide (b < W.heap.size)) true 25 (.slice a1 len1 cap1) d1 p1 :=
  fun W' hn => Below.trod laidOut (by kernel_rfl) (of_decide_eq_true (by kernel_rfl)) h1k hn hlt1
 have hargs2 : ∀ (W' : World),Below W.heap.size W W' -> DataW.Trod enc Tryz.prog W' 0 (fun b => decide (b < W.heap.size)) true 3 (.int .i64 z2) d2 p2 :=
  fun W' hn => Below.trod laidOut (by kernel_rfl) (of_decide_eq_true (by kernel_rfl)) h2k hn hlt2
 have hargs3 : ∀ (W' : World),Below W.heap.size W W' -> DataW.Trod enc Tryz.prog W' 0 (fun b => decide (b < W.heap.size)) true 3 (.int .i64 z3) d3 p3 :=
  fun W' hn => Below.trod laidOut (by kernel_rfl) (of_decide_eq_true (by kernel_rfl)) h3k hn hlt3
 have hargs4 : ∀ (W' : World),Below W.heap.size W W' -> DataW.Trod enc Tryz.prog W' 0 (fun b => decide (b < W.heap.size)) true 3 (.int .i64 z4) d4 p4 :=
  fun W' hn => Below.trod laidOut (by kernel_rfl) (of_decide_eq_true (by kernel_rfl)) h4k hn hlt4
 obtain ⟨L0,e0,hS0,hr0,hn0⟩ := open_ints hf0 hlt0
 obtain ⟨L1,e1,hS1,hr1,hn1⟩ := open_ints hf1 hlt1
 subst e0
 subst e1
 obtain ⟨E,hE⟩ := env_spoilt hL
 refine (spoilt_any E a0 a1 L0 L1 cap0 cap1 z2 z3 z4 W hE hS0 hS1 hr0 hr1 hn0 hn1 r2 r3 r4).mono fun e W' ⟨he,hnx⟩ => ?_
 subst he
 refine ⟨_,rfl,_,_,_,[],p0 ++ (p1 ++ (p2 ++ (p3 ++ p4))),[],hW',trodAll_mk1 (shut_bool Tryz.underlying4 _),trodAll_cons_mk (hargs0 _ hnx) (trodAll_cons_mk (hargs1 _ hnx) (trodAll_mk3 (hargs2 _ hnx) (hargs3 _ hnx) (hargs4 _ hnx))),rfl,hnx.frame _,fun h => by cases h⟩
end Go.Proofs.YtdhgebdbiehchaaGreatDoor
