/- On the way: RecSorted, RecPlaces. -/
import Derived.Test.YtdhgebdbiehchaaGreatDoorB23
import Derived.Test.YtdhgebdbiehchaaGreatDoorB24
import Derived.Sort.OwnSorted
import Derived.Shelf.SlSortCmp.NoneTotal
namespace Go.Proofs.YtdhgebdbiehchaaGreatDoor
open Go.RowKit Go.Shelf Go.Maps
set_option linter.unusedSimpArgs false
set_option linter.unusedVariables false
set_option maxHeartbeats 1600000
def plI (x : Sd) : Int × Int := ((x.blk : Int),(x.no : Int))
theorem cellsQ_at (ss : List Sd) (j : Nat) (h : j < ss.length * 2) : (cellsQ ss)[j]? = some ((encP (plI (ss[j / 2]'(by omega))))[j % 2]!) := by
 induction ss generalizing j with
 | nil => simp at h
 | cons x ss ih =>
  have e : cellsQ (x :: ss) = [.int .i64 x.blk,.int .i64 x.no] ++ cellsQ ss := rfl
  rw [e]
  match j,h with
  | 0,_ => rfl
  | 1,_ => rfl
  | j + 2,h =>
   have h' : j < ss.length * 2 := by simp at h; omega
   rw [List.getElem?_append_right (by simp)]
   have := ih j h'
   simp only [List.length_cons,List.length_nil,Nat.add_sub_cancel]
   rw [this]
   congr 2
   ·have e1 : (j + 2) / 2 = j / 2 + 1 := by omega
    simp [e1]
   ·omega
theorem flat_cells (ss : List Sd) : (Sort.flatK encP 2 (ss.map plI).toArray).toList = cellsQ ss := by
 apply List.ext_getElem?
 intro j
 by_cases h : j < ss.length * 2
 ·rw [cellsQ_at ss j h,Array.getElem?_toList]
  have h2 : j < (Sort.flatK encP 2 (ss.map plI).toArray).size := by simp; omega
  rw [Array.getElem?_eq_getElem h2]
  have h3 := Sort.get_flatK encP 2 (ss.map plI).toArray j (by simpa using h)
  rw [getElem!_pos (Sort.flatK encP 2 (ss.map plI).toArray) j h2] at h3
  rw [h3]
  have h4 : j / 2 < (ss.map plI).toArray.size := by simp; omega
  rw [getElem!_pos (ss.map plI).toArray (j / 2) h4]
  simp
 ·rw [List.getElem?_eq_none (by simp; omega),List.getElem?_eq_none (by rw [cellsQ_length]; omega)]
theorem take_put (cur F : Array Value) (h : F.size <= cur.size) : (Sort.putCells id 0 F cur).toList.take F.size = F.toList := by
 apply List.ext_getElem?
 intro j
 by_cases hj : j < F.size
 ·rw [List.getElem?_take_of_lt hj,Array.getElem?_toList]
  simp [Sort.putCells,hj,show j < cur.size by omega]
 ·rw [List.getElem?_take_eq_none (by omega),List.getElem?_eq_none (by simp; omega)]
theorem holds_of_own {w : World} {base g cap : Nat} {ss : List Sd} (h : w.ownsRow base 165 2 (.slice (some ⟨g,0,none⟩) ss.length cap) ss.length (cellsQ ss)) : Sort.HoldsK encP 2 w g 0 (ss.map plI).toArray := by
 have h' := h
 rcases h.2 with ⟨e,_⟩ | ⟨g',cap',cur,e,hb,hg,_⟩
 ·cases e
 ·cases e
  intro j hj
  have hj' : j < ss.length * 2 := by simpa using hj
  refine ⟨?_,by simp [World.frozen?,hg]⟩
  have h1 := h'.cellAt j hj'
  rw [Nat.zero_add,h1,<- flat_cells,Array.getElem?_toList,Array.getElem?_eq_getElem hj,getElem!_pos (Sort.flatK encP 2 (ss.map plI).toArray) j hj]
  rfl
theorem heap_sortedK {w : World} {g n : Nat} {os : Array Obj} {cur : Array Value} {e : TypeId} {fr : Nat × Nat} (d : Array (Int × Int)) (hb : w.heap[g]? = some (.cells cur e fr)) :
  (sortWorldK encP 2 w g 0 n d os).heap[g]? = some (.cells (Sort.putCells id 0 (Sort.flatK encP 2 d) cur) e fr) := by
 have hg : g < w.heap.size := (Array.getElem?_eq_some_iff.1 hb).1
 unfold sortWorldK Sort.putRowK
 rw [Sort.heap_grow_old _ _ (by simpa using hg)]
 simp [Sort.putRow,Sort.mapBlock,Sort.ahead,Array.getElem?_modify,hb,Sort.onCells]
theorem grown_sortedK {w : World} {g n : Nat} {os : Array Obj} (d : Array (Int × Int)) : w.grownBy (sortWorldK encP 2 w g 0 n d os) (some g) := by
 unfold sortWorldK Sort.putRowK
 refine ⟨rfl,rfl,rfl,by simp,fun k hk hne => ?_⟩
 rw [Sort.heap_grow_old _ _ (by simpa using hk)]
 have : g ≠ k := fun e => hne (by rw [e])
 simp [Sort.putRow,Sort.mapBlock,Sort.ahead,Array.getElem?_modify,this]
theorem own_sortedK {w : World} {base g cap n : Nat} {os : Array Obj} {ss ts : List Sd} (hl : ts.length = ss.length) (h : w.ownsRow base 165 2 (.slice (some ⟨g,0,none⟩) ss.length cap) ss.length (cellsQ ss)) :
  (sortWorldK encP 2 w g 0 n (ts.map plI).toArray os).ownsRow base 165 2 (.slice (some ⟨g,0,none⟩) ss.length cap) ss.length (cellsQ ts) := by
 rcases h.2 with ⟨e,_⟩ | ⟨g',cap',cur,e,hb,hg,h1,h2,h3,h4⟩
 ·cases e
 ·cases e
  refine ⟨by rw [cellsQ_length]; omega,.inr ⟨g,cap,_,rfl,hb,heap_sortedK _ hg,h1,h2,by simp [Sort.putCells,h3],?_⟩⟩
  have := take_put cur (Sort.flatK encP 2 (ts.map plI).toArray) (by simp; omega)
  rw [flat_cells] at this
  rw [<- this]
  congr 1
  simp [hl]
theorem sorted_lives {L ss : List Sd} {d' : Array (Int × Int)} (hL : Lives L) (hp : ss.Perm L) (h1 : Sort.PermIn 0 (ss.map plI).toArray.size (ss.map plI).toArray d') (h2 : Sort.SortedIn (ltOf cmpP) 0 (ss.map plI).toArray.size d') : d' = (L.map plI).toArray := by
 have hsz : d'.size = ss.length := by have := h1.1; simpa using this
 have hlen : L.length = ss.length := hp.length_eq.symm
 have hperm : d'.toList.Perm (L.map plI) := by
  have := h1.2.2
  have e1 : (d'.extract 0 (ss.map plI).toArray.size).toList = d'.toList := by simp [<- hsz]
  have e2 : ((ss.map plI).toArray.extract 0 (ss.map plI).toArray.size).toList = ss.map plI := by simp [List.take_of_length_le]
  rw [e1,e2] at this
  exact this.trans (hp.map plI)
 have hsL : (L.map plI).Pairwise (fun x y => ltOf cmpP x y = true) := by
  rw [List.pairwise_map]
  refine hL.rise.imp ?_
  intro x y h
  rw [ltP]
  unfold placeLt at h
  simp [plI]
  omega
 have hsd : d'.toList.Pairwise (fun x y => ltOf cmpP y x = false) := by
  rw [List.pairwise_iff_getElem]
  intro i j hi hj hij
  have hi' : i < d'.size := by simpa using hi
  have hj' : j < d'.size := by simpa using hj
  have := h2 i j (Nat.zero_le _) hij (by simp; omega)
  rw [getElem!_pos d' j hj',getElem!_pos d' i hi'] at this
  simpa using this
 have hsL2 : (L.map plI).Pairwise (fun x y => ltOf cmpP y x = false) := hsL.imp (fun {x y} h => by
  rw [ltP] at h ⊢
  simp at h ⊢
  omega)
 have heq : d'.toList = L.map plI := hperm.eq_of_pairwise (fun x y _ _ a b => by
  rw [ltP] at a b
  simp at a b
  have : x.1 = y.1 /\ x.2 = y.2 := by omega
  exact Prod.ext this.1 this.2) hsd hsL2
 rw [<- heq]
theorem sortedFunc_any (Bm b nn : Nat) (L : List Sd) (D : DataW Unit) (w : World) (hz : Bm < w.heap.size) (hm : w.cell? ⟨Bm,0,none⟩ = some (.map (some b))) (hown : w.ownsMap Tryz.prog 165 rIt b nn D) (hv : View D (fI L)) (hsz : Maps.size D = L.length) (hL : Lives L) (hlen : L.length <= 100000000) :
  Calls Tryz.prog 148 #[.func (.func 190) #[] #[.pointer (some ⟨Bm,0,none⟩)],.func (.func 150) #[] #[]] w fun e w' => ∃ a cap,e = .returned (.slice a L.length cap) /\ w'.ownsRow w.heap.size 165 2 (.slice a L.length cap) L.length (cellsQ L) /\ Below w.heap.size w w' := by
 have HC : Hid _ := collect_in 7 (by omega) Bm b nn L D w hz hm hown hv hsz hL hlen
 have HL : Hid (Lives L) := hL
 clear hm hown hv hsz hL
 go_enter Tryz.func148,Tryz.ntmps148
 go_wp2_with fail
 refine Calls.mono HC.out ?_
 rintro e w1 ⟨v,ss,rfl,hp,hr,hb⟩
 have hll : ss.length = L.length := hp.length_eq
 rcases hr.2 with ⟨hnil,h0⟩ | ⟨g,cap,cur,rfl,hbase,hg,h1,h2,h3,h4⟩
 ·subst hnil
  have hL0 : L = [] := List.length_eq_zero_iff.1 (by omega)
  subst hL0
  have hss : ss = [] := List.length_eq_zero_iff.1 (by simpa using hll)
  subst hss
  have HN : Hid (∀ wx,Calls Tryz.prog 189 #[.slice none 0 0,.func (.func 150) #[] #[]] wx fun e w' => e = .returned (.tuple #[]) /\ w' = wx) := fun wx => AnyF.slices_SortFunc_none Tryz.sortPl none 0 _ wx
  clear HC hp hll
  go_wp2_with fail
  refine (HN.out _).mono ?_
  rintro e w2 ⟨rfl,rfl⟩
  go_wp2
  go_ret
  exact ⟨none,0,rfl,hr,hb⟩
 ·have HS : Hid _ := sortFunc_any g cap (ss.map plI).toArray w1 (holds_of_own hr) (Array.getElem?_eq_some_iff.1 hg).1 (by simp; omega)
  have HP : Hid (ss.Perm L) := hp
  have HR : Hid (w1.ownsRow w.heap.size 165 2 (.slice (some ⟨g,0,none⟩) ss.length cap) ss.length (cellsQ ss)) := hr
  have hsz2 : (ss.map plI).toArray.size = ss.length := by simp
  rw [hsz2] at HS
  have HLL : Hid (ss.length = L.length) := hll
  clear HC hp hr hg h1 h2 h3 h4 hsz2 hll
  go_wp2_with fail
  refine Calls.mono HS.out ?_
  rintro e w2 ⟨rfl,d',n,os,q1,q2,rfl⟩
  have hd : d' = (L.map plI).toArray := sorted_lives HL.out HP.out (by rw [show (ss.map plI).toArray.size = ss.length by simp]; exact q1) (by rw [show (ss.map plI).toArray.size = ss.length by simp]; exact q2)
  subst hd
  have hr2 := own_sortedK (n := n) (os := os) (ts := L) HLL.out.symm HR.out
  have hb2 : Below w.heap.size w (sortWorldK encP 2 w1 g 0 n (L.map plI).toArray os) := hb.grown (grown_sortedK _) hb.size (fun k e => by cases e; exact hbase)
  rw [HLL.out] at hr2
  generalize sortWorldK encP 2 w1 g 0 n (L.map plI).toArray os = w2 at *
  have HR2 : Hid _ := hr2
  clear q1 q2 HS HR hr2
  go_wp2
  go_ret
  exact ⟨some ⟨g,0,none⟩,cap,by rw [<- HLL.out]; rfl,HR2.out,hb2⟩
theorem places_any (h0 h1 h2 : Int) (bi bp n : Nat) (L : List Sd) (w : World) (hm : Maps2 w bi bp n L) (hL : Lives L) (hlen : L.length <= 100000000) :
  Calls Tryz.prog 90 #[.agg #[.int .i64 h0,.int .i64 h1,.int .i64 h2,.map (some bi),.map (some bp)]] w fun e w' => ∃ a cap,e = .returned (.slice a L.length cap) /\ w'.ownsRow w.heap.size 165 2 (.slice a L.length cap) L.length (cellsQ L) /\ Below w.heap.size w w' := by
 obtain ⟨hbi,hbp⟩ := hm.lt
 obtain ⟨DI,DP,⟨hI,vI,zI⟩,hP,vP⟩ := hm
 have HK : Hid (∀ wx mb,_) := fun wx mb => callsIn_wide.1 (keys_in 1 mb wx)
 have HI : Hid (w.ownsMap Tryz.prog 165 rIt bi n DI) := hI
 have HV : Hid (View DI (fI L)) := vI
 have HL : Hid (Lives L) := hL
 have HZ : Hid (Maps.size DI = L.length) := zI
 clear hI hP vP vI hL zI
 go_enter Tryz.func90,Tryz.ntmps90
 go_wp2_with fail
 refine Calls.mono (HK.out _ _) ?_
 rintro e w1 ⟨rfl,rfl⟩
 obtain ⟨W1,hW1⟩ : ∃ W1,W1 = (w.alloc (.cells #[.int .i64 h0,.int .i64 h1,.int .i64 h2,.map (some bi),.map (some bp)] 100)).alloc (.cells #[.map (some bi)] 97) := ⟨_,rfl⟩
 have hB : Below w.heap.size w W1 := by rw [hW1]; exact ((Below.refl _ _).alloc (Nat.le_refl _) _).alloc (by simp) _
 have hz : W1.heap.size = w.heap.size + 1 + 1 := by rw [hW1]; simp
 have hc : W1.cell? ⟨w.heap.size + 1,0,none⟩ = some (.map (some bi)) := by rw [hW1,World.cell?_alloc_at _ _ _ _ (by simp)]; rfl
 have hI : W1.ownsMap Tryz.prog 165 rIt bi n DI := by rw [hW1]; exact (HI.out.alloc _).alloc _
 have HS : Hid _ := sortedFunc_any (w.heap.size + 1) bi n L DI W1 (by omega) hc hI HV.out HZ.out HL.out hlen
 have hsize : (w.alloc (.cells #[.int .i64 h0,.int .i64 h1,.int .i64 h2,.map (some bi),.map (some bp)] 100)).heap.size = w.heap.size + 1 := by simp
 rw [hsize]
 rw [<- hW1]
 clear hc hI hsize HK hW1
 go_wp2_with fail
 refine Calls.mono HS.out ?_
 rintro e w2 ⟨a,cap,rfl,hr,hb⟩
 have HR : Hid (w2.ownsRow w.heap.size 165 2 (.slice a L.length cap) L.length (cellsQ L)) := Joins.ownsRow_le hr (by omega)
 clear HS hr
 go_wp2
 go_ret
 exact ⟨a,cap,rfl,HR.out,hB.trans (hb.mono (by omega))⟩
end Go.Proofs.YtdhgebdbiehchaaGreatDoor
