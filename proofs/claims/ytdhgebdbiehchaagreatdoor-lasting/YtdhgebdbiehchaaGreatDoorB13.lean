/- On the way: Tells. -/
import Derived.RangeFuncNested
import Derived.RangeFuncLeaves
namespace Go.Proofs.YtdhgebdbiehchaaGreatDoor
open Go Go.RowKit
set_option linter.unusedVariables false
def SeqTells {α : Type} (F : Fence) (n : Nat) (P : Program) (g : Nat) (lb : Array Value) (encs : α -> Array Value) (Px : List α -> α -> World -> Prop) (Kp : World -> World -> Prop) (S : List α -> Prop) (w : World) : Prop :=
 ∀ (l : Nat) (J : List α -> World -> Prop) (W : World),Below w.heap.size w W -> AbidesFrom W.heap.size J ->
  (∀ pre x W1,J pre W1 -> Px pre x W1 -> YieldAt F (n - 1) P l (encs x) W1 fun e W' => e = .returned (.bool true) /\ J (pre ++ [x]) W' /\ Kp W1 W') ->
  J [] W ->
  CallsIn F n P g (#[.func (.yield l) #[] #[]] ++ lb) W fun e W' => (∃ v,e = .returned v) /\ ∃ xs,S xs /\ J xs W'
def tellPost {α : Type} (B : Nat) (Kp : World -> World -> Prop) (I : List α -> World -> Prop) (xs : List α) (W : World) : Exit -> Act -> World -> Prop
 | .normal,_,W' => KeepsFrom B W W' /\ Kp W W' /\ I xs W'
 | _,_,_ => False
variable {F : Fence} {n : Nat} {P : Program}
theorem wpIn_rangeTells {α : Type} {g : Operand} {ps : Array Tmp} {assign body : Code} {Q : Exit -> Act -> World -> Prop} {a : Act} {w : World}
  (hro : F.round = none) (h1 : 1 <= n) {gf : Nat} {lb : Array Value} (hg : a.eval g = .func (.func gf) #[] lb) (hFg : F.fn gf) (eg : ∀ args w,(callFunc gf args).run P w = .ok (.enter gf args) w)
  {encs : α -> Array Value} {Px : List α -> α -> World -> Prop} {Kp : World -> World -> Prop} {S : List α -> Prop} {w0 : World} (hseq : SeqTells F (n - 1) P gf lb encs Px Kp S w0)
  (hKt : ∀ {A B C : World},Kp A B -> Kp B C -> Kp A C) (hKb : ∀ (W : World) (l : Nat) (o o' : Obj),w.heap.size <= l -> W.heap[l]? = some o -> o.isCells = false -> o.isWalk = false -> Kp W (W.putObj l o')) (hb0 : Below w0.heap.size w0 w) (hps : ∀ x,(encs x).size = ps.size)
  (I : List α -> World -> Prop) (hI : OwnFrom w.heap.size I) (h0 : I [] w) (Ax : List α -> α -> Act -> World -> Prop) (hAx : ∀ pre x a',OwnFrom w.heap.size (fun (_ : Unit) W => Ax pre x a' W))
  (hassign : ∀ (l : Nat) (pre : List α) (x : α) (W : World) (K : Act -> World -> Prop),I pre W -> Px pre x W -> (∀ a' W',KeepsFrom w.heap.size W W' -> Kp W W' -> I pre W' -> Ax pre x a' W' -> K a' W') ->
   assign.wpIn (F.inRound l) (n - 1 - 1) P (Exit.then K (fun _ _ _ => False)) { tmps := (ps.zip (encs x)).foldl (fun t (p,v) => t.setIfInBounds p v) a.tmps,defers := [] } W)
  (hbody : ∀ (l : Nat) (pre : List α) (x : α) (a' : Act) (W : World),I pre W -> Ax pre x a' W -> body.wpIn (F.inRound l) (n - 1 - 1) P (tellPost w.heap.size Kp I (pre ++ [x]) W) a' W)
  (hdone : ∀ (D : Nat) (xs : List α) (W : World),w.heap.size <= D -> S xs -> I xs W -> W.heap[D]? = some (.deferred (some [])) -> Q .normal { a with defers := { target := .collected D,args := #[] } :: a.defers } W) :
  (Code.rangeFunc g ps assign body).wpIn F n P Q a w := by
 refine wpIn_rangeFunc fun fn hfn => ?_
 rw [hro]
 let D := w.heap.size
 let l := w.heap.size + 1
 let rec0 : LoopState -> Loop := fun st => { state := st,pending := none,fn,tmps := a.tmps,params := ps,assign,body,defers := D }
 obtain ⟨V,hV⟩ : ∃ V,(w.alloc (.deferred (some []))).alloc (.loop (rec0 .ready)) = V := ⟨_,rfl⟩
 have vl : V.heap[l]? = some (.loop (rec0 .ready)) := by
  rw [<- hV]
  have := World.alloc_heap_new (w.alloc (.deferred (some []))) (.loop (rec0 .ready))
  rwa [World.size_alloc] at this
 have vD : V.heap[D]? = some (.deferred (some [])) := by
  rw [<- hV]
  exact (Below.heap_alloc _ _ _ (by simp [D])).trans (World.alloc_heap_new w _)
 have vI : I [] V := by rw [<- hV]; exact hI.alloc _ (hI.alloc _ h0)
 have vB : Below w0.heap.size w0 V := by
  rw [<- hV]
  exact hb0.trans ((((Below.refl _ w).alloc (Nat.le_refl _) _).alloc (by simp) _).mono hb0.size)
 have vz : w.heap.size <= V.heap.size := by rw [<- hV]; simp; omega
 refine ⟨l,[{ target := .collected D,args := #[] }],V,{ target := .fn (.func gf) lb,args := #[.func (.yield l) #[] #[]] },V,gf,#[.func (.yield l) #[] #[]] ++ lb,V,?_,?_,?_,?_,fun _ => h1,?_⟩
 ·rw [<- hV]; exact run_enterLoop_outer _ _ _ _ _
 ·simp only [resolve,hg]
  simp [go_sem]
 ·intro f' hf'
  simp [Target.leads] at hf'
  subst hf'
  exact hFg
 ·simp [invoke,go_sem,eg]
 ·let J : List α -> World -> Prop := fun pre W => I pre W /\ W.heap[l]? = some (.loop (rec0 .ready)) /\ W.heap[D]? = some (.deferred (some []))
  have hJ : AbidesFrom V.heap.size J := by
   intro s A B row hs hgr hr
   have hw : ∀ r,row = some r -> ∃ o : Obj,A.heap[r]? = some o /\ o.isWalk = true := fun r e => (hr r e).2
   refine ⟨hI s A B row hs.1 hgr (fun r e => ?_),(grownBy_keeps hgr hw hs.2.1 rfl).trans hs.2.1,(grownBy_keeps hgr hw hs.2.2 rfl).trans hs.2.2⟩
   obtain ⟨hB,o,ho,hk⟩ := hr r e
   exact ⟨Nat.le_trans vz hB,o,ho,Obj.not_cells_of_walk hk⟩
  refine (hseq l J V vB hJ ?_ ⟨vI,vl,vD⟩).mono ?_
  ·rintro pre x W ⟨hi,hl,hk⟩ hp
   refine ⟨fn,_,assign,body,run_yield (P := P) (args := encs x) hl (hps x),roundIn_of_wpIn hfn (hassign l pre x W _ hi hp ?_)⟩
   intro a' A hka hkp hia hax
   have al := hka.same l _ (by simp [l]) hl rfl
   have aD := hka.same D _ (Nat.le_refl _) hk rfl
   refine ⟨_,run_beginRound al rfl,?_⟩
   have hlt : l < A.heap.size := (Array.getElem?_eq_some_iff.1 al).1
   obtain ⟨X,hX⟩ : ∃ X,A.putObj l (.loop { rec0 .ready with state := .busy }) = X := ⟨_,rfl⟩
   have xl : X.heap[l]? = some (.loop { rec0 .ready with state := .busy }) := by rw [<- hX]; exact World.putObj_heap_same hlt
   have xD : X.heap[D]? = some (.deferred (some [])) := by rw [<- hX]; exact (World.putObj_heap_other (by simp [D,l])).trans aD
   have xI : I pre X := by rw [<- hX]; exact hI.putObj _ hia (by simp [l]) al rfl
   have xA : Ax pre x a' X := by rw [<- hX]; exact (hAx pre x a').putObj (s := ()) _ hax (by simp [l]) al rfl
   have xK : Kp W X := by rw [<- hX]; exact hKt hkp (hKb _ _ _ _ (by simp [l]) al rfl rfl)
   subst hX
   refine wpIn_mono (hbody l pre x a' _ xI xA) ?_
   rintro e a3 Y hpost
   cases e with
   | normal =>
    obtain ⟨hk3,hkp3,hi3⟩ := hpost
    have yl := hk3.same l _ (by simp [l]) xl rfl
    have yD := hk3.same D _ (Nat.le_refl _) xD rfl
    refine ⟨_,_,run_endRound (P := P) none yl,rfl,⟨hI.putObj _ hi3 (by simp [l]) yl rfl,World.putObj_heap_same (Array.getElem?_eq_some_iff.1 yl).1,(World.putObj_heap_other (by simp [D,l])).trans yD⟩,hKt (hKt xK hkp3) (hKb _ _ _ _ (by simp [l]) yl rfl rfl)⟩
   | _ => exact hpost.elim
  ·rintro e W2 ⟨⟨v,rfl⟩,xs,hS,hi,hl,hk⟩
   exact ⟨none,_,run_endLoop (P := P) hl (by simp [rec0]),hdone D xs _ (Nat.le_refl _) hS (hI.putObj _ hi (by simp [l]) hl rfl) ((World.putObj_heap_other (by simp [D,l])).trans hk)⟩
end Go.Proofs.YtdhgebdbiehchaaGreatDoor
