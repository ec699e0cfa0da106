/- On the way: RecSort. -/
import Derived.Test.YtdhgebdbiehchaaGreatDoorB21
import Derived.Test.YtdhgebdbiehchaaGreatDoorB18
import Derived.Test.YtdhgebdbiehchaaGreatDoorB22
import Derived.Test.YtdhgebdbiehchaaGreatDoorB15
namespace Go.Proofs.YtdhgebdbiehchaaGreatDoor
open Go.RowKit Go.Shelf Go.Maps
set_option linter.unusedSimpArgs false
set_option linter.unusedVariables false
set_option maxRecDepth 100000
set_option maxHeartbeats 3200000
attribute [local go_sem] Oper.semAt_some
def cellsQ (ss : List Sd) : List Value := ss.flatMap fun x => [.int .i64 x.blk,.int .i64 x.no]
theorem cellsQ_snoc (ss : List Sd) (x : Sd) : cellsQ (ss ++ [x]) = cellsQ ss ++ [.int .i64 x.blk,.int .i64 x.no] := by simp [cellsQ]
theorem cellsQ_length (ss : List Sd) : (cellsQ ss).length = ss.length * 2 := by
 induction ss with
 | nil => rfl
 | cons x ss ih =>
  have : cellsQ (x :: ss) = [.int .i64 x.blk,.int .i64 x.no] ++ cellsQ ss := rfl
  rw [this,List.length_append,ih]; simp; omega
theorem info_Pl : ∃ i,Tryz.prog.info? 165 = some i /\ i.zero = some (.agg #[.int .i64 0,.int .i64 0]) /\ i.size = 2 /\ i.bytes = 16 := by
 have h : ((Tryz.prog.info? 165).bind fun i => if i.size = 2 /\ i.bytes = 16 then i.zero else none) = some (.agg #[.int .i64 0,.int .i64 0]) := by kernel_rfl
 cases hi : Tryz.prog.info? 165 with
 | none => rw [hi] at h; cases h
 | some i =>
  rw [hi] at h
  simp only [Option.bind_some] at h
  split at h
  ·rename_i hc; exact ⟨i,rfl,h,hc.1,hc.2⟩
  ·cases h
def AsI (w : World) (ss : List Sd) (W : World) : Prop :=
 ∃ v,Bx W w.heap.size #[v] 166 /\ W.ownsRow (w.heap.size + 1) 165 2 v ss.length (cellsQ ss) /\ Below w.heap.size w W /\ w.heap.size < W.heap.size
theorem own_kept {W W' : World} {base e size n : Nat} {v : Value} {xs : List Value} (h : W.ownsRow base e size v n xs) {row : Option Nat} (hg : W.grownBy W' row) (hr : ∀ r,row = some r -> ∃ o : Obj,W.heap[r]? = some o /\ o.isCells = false) : W'.ownsRow base e size v n xs := by
 refine h.kept hg ?_
 rcases h.2 with ⟨e,_⟩ | ⟨g,cap,cur,e,_,hgb,_⟩
 ·exact .inl (by rw [e]; rfl)
 ·refine .inr fun e' => ?_
  rw [e] at e'
  obtain ⟨o,ho,hc⟩ := hr g (by simpa [Value.ownBlock] using e'.symm)
  rw [hgb] at ho; cases ho; cases hc
theorem asI_own (w : World) (B : Nat) (hB : w.heap.size <= B) : OwnFrom B (AsI w) := by
 rintro s X Y row ⟨v,h1,h2,h3,h4⟩ hg hr
 have hr' := fun r e => (hr r e).2
 refine ⟨v,h1.kept hg hr',own_kept h2 hg hr',h3.grown hg h3.size (fun k e => ?_),Nat.lt_of_lt_of_le h4 hg.size⟩
 have := (hr k e).1; omega
theorem two_new (W : World) (a b : Value) (t : TypeId) : ∀ j u,[a,b][j]? = some u -> (W.alloc (.cells #[a,b] t)).cell? ((⟨W.heap.size,0,none⟩ : Addr).add j) = some u := by
 intro j u hu
 rw [Addr.add_lit,Nat.zero_add,World.cell?_alloc_at _ _ _ _ rfl]
 simpa using hu
theorem app_box {W w3 : World} {b base e f size n : Nat} {v u : Value} {xs : List Value} {o : Obj} (hb : Bx W b #[u] f) (hrow : W.ownsRow base e size v n xs) (hne : e ≠ f) (hg : (W.alloc o).grownBy w3 v.ownBlock) : Bx w3 b #[u] f :=
 box_grown (hb.alloc o) (hrow.alloc o) hne hg
theorem own_isCells {W : World} {base e size n : Nat} {v : Value} {xs : List Value} (h : W.ownsRow base e size v n xs) : ∀ (j : Nat) (o : Obj),v.ownBlock = some j -> W.heap[j]? = some o -> o.isCells = true := by
 intro j o hj ho
 rcases h.2 with ⟨rfl,_⟩ | ⟨g,cap,cur,rfl,_,hgb,_⟩
 ·simp [Value.ownBlock] at hj
 ·have : g = j := by simpa [Value.ownBlock] using hj
  subst this; rw [hgb] at ho; cases ho; rfl
def asAct (z Bm bx : Nat) (x : Sd) : Act :=
 { tmps := #[.slice none 0 0,.func (.func 190) #[] #[.pointer (some ⟨Bm,0,none⟩)],.pointer (some ⟨z,0,none⟩),undef,.slice none 0 0,.pointer (some ⟨bx,0,none⟩),.func (.func 190) #[] #[.pointer (some ⟨Bm,0,none⟩)],.agg #[.int .i64 x.blk,.int .i64 x.no],undef,undef,undef,undef,undef],defers := [] }
theorem appendSeq_in (n : Nat) (hn : 6 <= n) (Bm b nn : Nat) (L : List Sd) (D : DataW Unit) (w : World) (hz : Bm < w.heap.size) (hm : w.cell? ⟨Bm,0,none⟩ = some (.map (some b))) (hown : w.ownsMap Tryz.prog 165 rIt b nn D) (hv : View D (fI L)) (hsz : Maps.size D = L.length) (hL : Lives L) (hlen : L.length <= 100000000) :
  CallsIn Fence.wide n Tryz.prog 206 #[.slice none 0 0,.func (.func 190) #[] #[.pointer (some ⟨Bm,0,none⟩)]] w fun e w' => ∃ v ss,e = .returned v /\ ss.Perm L /\ w'.ownsRow w.heap.size 165 2 v ss.length (cellsQ ss) /\ Below w.heap.size w w' := by
 have h1 : 1 <= n := by omega
 obtain ⟨i0,hi,hz0,hz1,hz2⟩ := info_Pl
 refine callsIn_of_wp_marks Tryz.func206 rfl trivial ?_ rfl
 simp only [Tryz.ntmps206,List.size_toArray,List.length_cons,List.length_nil,Nat.reduceAdd,Nat.reduceSub,Array.replicate_succ,Array.replicate_zero,List.push_toArray,List.append_toArray,List.nil_append,List.cons_append]
 gi_wp2_with fail
 have hbx := bx_new w #[.slice none 0 0] 166 rfl
 have hBw := (Below.refl w.heap.size w).alloc (Nat.le_refl _) (.cells #[.slice none 0 0] 166)
 have hown' : (w.alloc (.cells #[.slice none 0 0] 166)).ownsMap Tryz.prog 165 rIt b nn D := hown.alloc _
 have hm' : (w.alloc (.cells #[.slice none 0 0] 166)).cell? ⟨Bm,0,none⟩ = some (.map (some b)) := (hBw.cell (p := ⟨Bm,0,none⟩) hz).trans hm
 have hzV : (w.alloc (.cells #[.slice none 0 0] 166)).heap.size = w.heap.size + 1 := World.size_alloc _ _
 generalize w.alloc (.cells #[.slice none 0 0] 166) = V at *
 refine wpIn_rangeTells rfl h1 (gf := 190) (lb := #[.pointer (some ⟨Bm,0,none⟩)]) rfl trivial (enters_of Tryz.func190 (by kernel_rfl) rfl)
  (keys_tells (n - 1) (by omega) Bm b nn L D V (by omega) hm' hown' hv hsz hL)
  KeepsWalks.trans (fun W l o o' _ ho _ hw => KeepsWalks.putObj _ ho hw) (Below.refl _ _) (fun _ => rfl)
  (AsI w) (asI_own w _ (by omega)) ⟨_,hbx,World.ownsRow_nil _ _ _ _,hBw,by omega⟩
  (fun pre x a' W => (x ∈ L /\ pre.length < L.length) /\ ∃ bx,w.heap.size + 1 <= bx /\ Bx W bx #[.int .i64 x.blk,.int .i64 x.no] 165 /\ a' = asAct w.heap.size Bm bx x) ?hAx ?assign ?body ?done
 case hAx =>
  rintro pre x a' _ X Y row ⟨h1,bx,h2,h3,h4⟩ hg hr
  exact ⟨h1,bx,h2,h3.kept hg (fun r e => (hr r e).2),h4⟩
 case assign =>
  rintro l pre x W K hI hP hK
  simp only [plV]
  gi_wp2
  exact hK _ _ ((KeepsOthers.alloc _ _).from _) (KeepsWalks.alloc _ _) ((asI_own w _ (by omega) : OwnFrom V.heap.size _).alloc _ hI)
   ⟨hP,W.heap.size,by obtain ⟨_,_,_,_,h⟩ := hI; omega,bx_new W _ _ rfl,rfl⟩
 case body =>
  rintro l pre x a' W ⟨v,bS,hrow,hB,hZ⟩ ⟨hP,bx,hbx2,bB,rfl⟩
  have x0 := bB.cell (j := 0) rfl
  have x1 := bB.cell (j := 1) rfl
  have s0 := bS.cell (j := 0) rfl
  have s1 := bS.frozen 0
  have hbl := bB.lt
  have hZW : W.heap.size <= (W.alloc (.cells #[.int .i64 (x.blk : Int),.int .i64 (x.no : Int)] 165)).heap.size := by simp
  unfold asAct
  gi_wp2_with (first
   | (gi_at_builtin; refine wpListIn_append_own _ rfl _ _ 166 rfl (w.heap.size + 1) 165 i0 (.agg #[.int .i64 0,.int .i64 0]) 2 16 Tryz.underlying166 hi hz0 hz1 hz2 rfl (by decide) _ _ _ rfl (hrow.alloc _) ⟨W.heap.size,0,none⟩ 1 1 [.int .i64 (x.blk : Int),.int .i64 (x.no : Int)] rfl rfl (two_new _ _ _ _) (by simp [Value.oneCell']) (by unfold maxLen; omega) (by omega) (by simp; omega) ?_; intro v' w3 hown' hgrow _; have bS3 := app_box bS hrow (by decide) hgrow; have t0 := bS3.cell (j := 0) rfl; have t1 := bS3.frozen 0; obtain ⟨g',cap',rfl⟩ := Joins.ownsRow_form hown' (by omega); go_frame)
   | gi_in)
  have hko : KeepsOthers W (w3.setCell ⟨w.heap.size,0,none⟩ (.slice (some ⟨g',0,none⟩) (pre.length + 1) cap')) := ((KeepsOthers.alloc W _).trans (KeepsOthers.of_grownBy hgrow (own_isCells (hrow.alloc _)))).trans (KeepsOthers.setCell _ _ _)
  have hgb := own_ge hown' g' rfl
  have hgs := grownBy_setCell' w3 w.heap.size (.slice (some ⟨g',0,none⟩) (pre.length + 1) cap')
  have hB3 : Below w.heap.size w w3 := (hB.alloc (by omega) _).grown hgrow (by simp; omega) (fun k e => by have := own_ge hrow k e; omega)
  refine ⟨hko.from _,hko.walks,_,bS3.set1 _,?_,hB3.setCell (Nat.le_refl _) _,?_⟩
  ·rw [cellsQ_snoc,List.length_append]
   exact hown'.kept hgs (.inr (fun e => by simp [Value.ownBlock] at e; omega))
  ·have := hgs.size
   have := hgrow.size
   simp at *
   omega
 case done =>
  rintro Dd xs W hD hperm ⟨v,bS,hrow,hB,hZ⟩ hK
  have s0 := bS.cell (j := 0) rfl
  gi_wp2_with fail
  refine ⟨by simp,.inl ⟨_,_,rfl,run_takeDeferred hK,?_⟩⟩
  refine ⟨v,?_,v,xs,rfl,hperm,?_,?_⟩
  ·simp [results,Tryz.results206,go_sem]
  ·exact Joins.ownsRow_le (own_kept hrow (grownBy_putObj' W Dd (.deferred none)) (fun r e => by cases e; exact ⟨_,hK,rfl⟩)) (by omega)
  ·exact hB.grown (grownBy_putObj' W Dd (.deferred none)) hB.size (fun k e => by cases e; omega)
theorem collect_in (n : Nat) (hn : 7 <= n) (Bm b nn : Nat) (L : List Sd) (D : DataW Unit) (w : World) (hz : Bm < w.heap.size) (hm : w.cell? ⟨Bm,0,none⟩ = some (.map (some b))) (hown : w.ownsMap Tryz.prog 165 rIt b nn D) (hv : View D (fI L)) (hsz : Maps.size D = L.length) (hL : Lives L) (hlen : L.length <= 100000000) :
  Calls Tryz.prog 188 #[.func (.func 190) #[] #[.pointer (some ⟨Bm,0,none⟩)]] w fun e w' => ∃ v ss,e = .returned v /\ ss.Perm L /\ w'.ownsRow w.heap.size 165 2 v ss.length (cellsQ ss) /\ Below w.heap.size w w' := by
 have HA : Hid _ := callsIn_wide.1 (appendSeq_in 6 (by omega) Bm b nn L D w hz hm hown hv hsz hL hlen)
 clear hm hown hv hsz hL
 go_enter Tryz.func188,Tryz.ntmps188
 go_wp2_with fail
 refine Calls.mono HA.out ?_
 rintro e w1 ⟨v,ss,rfl,hp,hr,hb⟩
 go_wp2
 go_ret
 exact ⟨v,ss,rfl,hp,hr,hb⟩
end Go.Proofs.YtdhgebdbiehchaaGreatDoor
