/- The contract of record.Said.take: by one entry more. The contract of record.Read. The contract of record.Read: the walk. The contracts of maps.Keys over the items' map and of the iterator that it tells; of slices.AppendSeq and slices.Collect over it. -/
import Derived.Test.YtdhgebdbiehchaaGreatDoorB08
import Derived.RangeFuncBox
import Derived.Test.YtdhgebdbiehchaaGreatDoorB04
import Derived.Sort.MapsRangeIn
import Derived.Shelf.Abstract
import Derived.WalkKit
import Derived.OwnWalkIn
import Derived.TacticsInMore
import Derived.RegionIn
import Derived.LoopNIn
import Derived.LoopIn
import Derived.Maps.AppendAt
namespace Go.Proofs.YtdhgebdbiehchaaGreatDoor
open Go.RowKit Go.Maps
set_option linter.unusedSimpArgs false
set_option linter.unusedVariables false

/-- What goes, as the maps are read. -/
theorem view_less {DI DP : DataW Unit} {L : List Sd} (hL : Lives L) (hI : View DI (fI L)) (hz : Maps.size DI = L.length) (hP : View DP (fP L)) {y : Sd} (hy : y ∈ L) :
    (View (DI.del (pk y.blk y.no)) (fI (less L y.key)) ∧ Maps.size (DI.del (pk y.blk y.no)) = (less L y.key).length) ∧ View (DP.del (.string y.key)) (fP (less L y.key)) := by
  refine ⟨⟨(hI.del _).congr (fI_less pkInj hL hy), ?_⟩, (hP.del _).congr (fP_less L y.key)⟩
  have h1 := size_del (k := pk y.blk y.no) hI.1
  rw [(hI.2 (pk y.blk y.no)).2, fI_mem pkInj hL hy] at h1
  have h2 := less_length hL hy
  simp at h1
  omega
/-- What comes. -/
theorem view_more {DI DP : DataW Unit} {L : List Sd} (hL : Lives L) (hI : View DI (fI L)) (hz : Maps.size DI = L.length) (hP : View DP (fP L)) {x : Sd} (hs : x.blk < 4294967296 ∧ x.no < 4294967296) (hlt : ∀ y ∈ L, placeLt y x) (hk : ∀ y ∈ L, y.key ≠ x.key) :
    (View (DI.put (pk x.blk x.no) (itemD x)) (fI (L ++ [x])) ∧ Maps.size (DI.put (pk x.blk x.no) (itemD x)) = (L ++ [x]).length) ∧ View (DP.put (.string x.key) (placeD x)) (fP (L ++ [x])) := by
  have hno : Maps.has DI (pk x.blk x.no) = false := by
    rw [(hI.2 _).2]
    cases h : (fI L (pk x.blk x.no)).isSome
    · rfl
    · obtain ⟨y, hy, e⟩ := fI_isSome h
      have s1 := hL.small y hy
      obtain ⟨e1, e2⟩ := pkInj _ _ _ _ s1.1 s1.2 hs.1 hs.2 e
      have := hlt y hy
      unfold placeLt at this
      omega
  refine ⟨⟨(hI.put (by trivial) _).congr (fI_snoc pkInj hL hs hlt), ?_⟩, (hP.put (by trivial) _).congr (fP_snoc hk)⟩
  rw [size_put hI.1, hno]
  simp [hz]

/-- The four boxes of the call. -/
structure TkB (w : World) (bi bp : Nat) (x : Sd) (ob on : Nat) (W : World) : Prop where
  c3 : W.cell? ⟨w.heap.size, 3, none⟩ = some (.map (some bi))
  c4 : W.cell? ⟨w.heap.size, 4, none⟩ = some (.map (some bp))
  e0 : W.cell? ⟨w.heap.size + 1, 0, none⟩ = some (.bool x.put)
  e1 : W.cell? ⟨w.heap.size + 1, 1, none⟩ = some (.string (S x.key))
  e2 : W.cell? ⟨w.heap.size + 1, 2, none⟩ = some (.string (S x.val))
  a0 : W.cell? ⟨w.heap.size + 1 + 1, 0, none⟩ = some (.int .i64 x.blk)
  a1 : W.cell? ⟨w.heap.size + 1 + 1, 1, none⟩ = some (.int .i64 x.no)
  o0 : W.cell? ⟨w.heap.size + 1 + 1 + 1, 0, none⟩ = some (.int .i64 ob)
  o1 : W.cell? ⟨w.heap.size + 1 + 1 + 1, 1, none⟩ = some (.int .i64 on)
  two : Turn2 bi bp w W
  size : w.heap.size + 1 + 1 + 1 < W.heap.size
theorem TkB.turn {w W W' : World} {bi bp ob on : Nat} {x : Sd} (h : TkB w bi bp x ob on W) (hi : bi < w.heap.size) (hp : bp < w.heap.size) {row : Option Nat} (hg : W.grownBy W' row) (hr : ∀ k, row = some k → k = bi ∨ k = bp) : TkB w bi bp x ob on W' := by
  have hb : ∀ b j, w.heap.size ≤ b → b < W.heap.size → W'.cell? ⟨b, j, none⟩ = W.cell? ⟨b, j, none⟩ := fun b j h1 h2 =>
    World.cell?_of_block (w := W) (hg.block b h2 (fun e => by rcases hr b e.symm with h | h <;> omega))
  have hz := h.size
  exact ⟨(hb _ _ (by omega) (by omega)).trans h.c3, (hb _ _ (by omega) (by omega)).trans h.c4, (hb _ _ (by omega) (by omega)).trans h.e0, (hb _ _ (by omega) (by omega)).trans h.e1, (hb _ _ (by omega) (by omega)).trans h.e2,
    (hb _ _ (by omega) (by omega)).trans h.a0, (hb _ _ (by omega) (by omega)).trans h.a1, (hb _ _ (by omega) (by omega)).trans h.o0, (hb _ _ (by omega) (by omega)).trans h.o1, h.two.grown hg hr, Nat.lt_of_lt_of_le hz hg.size⟩
theorem cell_new0 {w : World} {b : Nat} (C : Array Value) (t : TypeId) (hb : b = w.heap.size) {j : Nat} {u : Value} (h : C[j]? = some u) : (w.alloc (.cells C t)).cell? ⟨b, j, none⟩ = some u := by
  subst hb
  exact (cell_of_row _ _ _ C t _ (MapKept.heap_alloc w _).1).trans h
theorem cell_old0 {w : World} {b j : Nat} {u : Value} (o : Obj) (h : w.cell? ⟨b, j, none⟩ = some u) (hb : b < w.heap.size) : (w.alloc o).cell? ⟨b, j, none⟩ = some u :=
  (World.cell?_of_block (w := w) (Below.heap_alloc w o b hb)).trans h

theorem tkB_new (w : World) (h0 h1 h2 : Int) (bi bp : Nat) (x : Sd) (ob on : Nat) : TkB w bi bp x ob on ((((w.alloc (.cells #[.int .i64 h0, .int .i64 h1, .int .i64 h2, .map (some bi), .map (some bp)] 100)).alloc (.cells #[.bool x.put, .string (S x.key), .string (S x.val)] 106)).alloc (.cells #[.int .i64 x.blk, .int .i64 x.no] 165)).alloc (.cells #[.int .i64 ob, .int .i64 on] 165)) := by
  have z1 : (w.alloc (.cells #[.int .i64 h0, .int .i64 h1, .int .i64 h2, .map (some bi), .map (some bp)] 100)).heap.size = w.heap.size + 1 := World.size_alloc _ _
  have t1 : Turn2 bi bp w (w.alloc (.cells #[.int .i64 h0, .int .i64 h1, .int .i64 h2, .map (some bi), .map (some bp)] 100)) := (Turn2.refl _ _ _).alloc _
  have c3 := cell_new0 (w := w) #[.int .i64 h0, .int .i64 h1, .int .i64 h2, .map (some bi), .map (some bp)] 100 rfl (j := 3) (u := .map (some bi)) rfl
  have c4 := cell_new0 (w := w) #[.int .i64 h0, .int .i64 h1, .int .i64 h2, .map (some bi), .map (some bp)] 100 rfl (j := 4) (u := .map (some bp)) rfl
  generalize w.alloc (.cells #[.int .i64 h0, .int .i64 h1, .int .i64 h2, .map (some bi), .map (some bp)] 100) = w1 at *
  have z2 : (w1.alloc (.cells #[.bool x.put, .string (S x.key), .string (S x.val)] 106)).heap.size = w.heap.size + 1 + 1 := by rw [World.size_alloc, z1]
  replace t1 := t1.alloc (.cells #[.bool x.put, .string (S x.key), .string (S x.val)] 106)
  have e0 := cell_new0 (w := w1) #[.bool x.put, .string (S x.key), .string (S x.val)] 106 z1.symm (j := 0) rfl
  have e1 := cell_new0 (w := w1) #[.bool x.put, .string (S x.key), .string (S x.val)] 106 z1.symm (j := 1) rfl
  have e2 := cell_new0 (w := w1) #[.bool x.put, .string (S x.key), .string (S x.val)] 106 z1.symm (j := 2) rfl
  replace c3 := cell_old0 (.cells #[.bool x.put, .string (S x.key), .string (S x.val)] 106) c3 (by omega)
  replace c4 := cell_old0 (.cells #[.bool x.put, .string (S x.key), .string (S x.val)] 106) c4 (by omega)
  generalize w1.alloc (.cells #[.bool x.put, .string (S x.key), .string (S x.val)] 106) = w2 at *
  have z3 : (w2.alloc (.cells #[.int .i64 (x.blk : Int), .int .i64 (x.no : Int)] 165)).heap.size = w.heap.size + 1 + 1 + 1 := by rw [World.size_alloc, z2]
  replace t1 := t1.alloc (.cells #[.int .i64 (x.blk : Int), .int .i64 (x.no : Int)] 165)
  have a0 := cell_new0 (w := w2) #[.int .i64 (x.blk : Int), .int .i64 (x.no : Int)] 165 z2.symm (j := 0) rfl
  have a1 := cell_new0 (w := w2) #[.int .i64 (x.blk : Int), .int .i64 (x.no : Int)] 165 z2.symm (j := 1) rfl
  replace c3 := cell_old0 (.cells #[.int .i64 (x.blk : Int), .int .i64 (x.no : Int)] 165) c3 (by omega)
  replace c4 := cell_old0 (.cells #[.int .i64 (x.blk : Int), .int .i64 (x.no : Int)] 165) c4 (by omega)
  replace e0 := cell_old0 (.cells #[.int .i64 (x.blk : Int), .int .i64 (x.no : Int)] 165) e0 (by omega)
  replace e1 := cell_old0 (.cells #[.int .i64 (x.blk : Int), .int .i64 (x.no : Int)] 165) e1 (by omega)
  replace e2 := cell_old0 (.cells #[.int .i64 (x.blk : Int), .int .i64 (x.no : Int)] 165) e2 (by omega)
  generalize w2.alloc (.cells #[.int .i64 (x.blk : Int), .int .i64 (x.no : Int)] 165) = w3 at *
  exact ⟨cell_old0 _ c3 (by omega), cell_old0 _ c4 (by omega), cell_old0 _ e0 (by omega), cell_old0 _ e1 (by omega), cell_old0 _ e2 (by omega), cell_old0 _ a0 (by omega), cell_old0 _ a1 (by omega),
    cell_new0 _ _ z3.symm rfl, cell_new0 _ _ z3.symm rfl, t1.alloc _, by rw [World.size_alloc, z3]; omega⟩

theorem zeroPl (w : World) : (zeroValue 165).run Tryz.prog w = .ok (.agg #[.int .i64 0, .int .i64 0]) w := by first | exact Tryz.zeroValue165 w | kernel_rfl

set_option maxRecDepth 100000 in
set_option maxHeartbeats 3200000 in
/-- The key was not there. -/
theorem take_new (h0 h1 h2 : Int) (bi bp n : Nat) (x : Sd) (L : List Sd) (w : World) (hm : Maps2 w bi bp n L) (hL : Lives L) (hs : x.blk < 4294967296 ∧ x.no < 4294967296) (hlt : ∀ y ∈ L, placeLt y x) (hkey : x.key.length ≤ 20) (hn : n < 1000000000) (hne : bi ≠ bp) (hno : fP L (.string x.key) = none) :
    Calls Tryz.prog 89 #[.agg #[.int .i64 h0, .int .i64 h1, .int .i64 h2, .map (some bi), .map (some bp)], .agg #[.bool x.put, .string (S x.key), .string (S x.val)], .agg #[.int .i64 x.blk, .int .i64 x.no]] w fun e w' => e = .returned (.tuple #[]) ∧ Maps2 w' bi bp (n + 1) (step L x) ∧ Turn2 bi bp w w' := by
  obtain ⟨hbi, hbp⟩ := hm.lt
  obtain ⟨DI, DP, ⟨hI, vI, zI⟩, hP, vP⟩ := hm
  have hB := tkB_new w h0 h1 h2 bi bp x 0 0
  have hkl : keyOf Tryz.prog 9 (.string (S x.key)) = some (.string x.key) := by
    rw [WideMaps.keyOf_string_mk Tryz.underlying9 (by rw [S_size]; unfold maxLen; omega), S_data]
  have hpk := keyOf_pk hs.1 hs.2
  have hat : DP.atKey (.string x.key) (.agg [.lit (.int .i64 0), .lit (.int .i64 0)]) = .agg [.lit (.int .i64 0), .lit (.int .i64 0)] := by rw [(vP.2 _).1, hno]; rfl
  have hhas : Maps.has DP (.string x.key) = false := by rw [(vP.2 _).2, hno]; rfl
  obtain ⟨put, ky, vl, blk, no⟩ := x
  dsimp only at *
  cases put
  · go_enter Tryz.func89, Tryz.ntmps89
    go_wp2_with (first | (at_lookup; refine wpList_lookup_own_ok _ rfl _ _ 98 rfl 9 165 keyedStr Tryz.underlying98 rPl (zeroPl _) _ [] (rPl_mk 0 0) bp n DP rfl (((hP.alloc _).alloc _).alloc _) _ _ rfl hkl ?_; intro v ps hv; rw [hat] at hv; obtain rfl := rPl_inv hv; rw [hhas]))
    refine bodyPost_end (v := .tuple #[]) ?_ rfl ⟨rfl, ?_, hB.two⟩
    · simp [results, Tryz.results89, go_sem]
    · have e1 : step L ⟨false, ky, vl, blk, no⟩ = L := by
        show less L ky ++ [] = L
        rw [List.append_nil, less_same (fP_none hno)]
      rw [e1]
      exact ⟨DI, DP, ⟨((((hI.alloc _).alloc _).alloc _).alloc _).mono (Nat.le_succ _), vI, zI⟩, ((((hP.alloc _).alloc _).alloc _).alloc _).mono (Nat.le_succ _), vP⟩
  · have hV := view_more hL vI zI vP (x := ⟨true, ky, vl, blk, no⟩) hs hlt (fP_none hno)
    have HV : Hid _ := hV
    clear hV
    go_enter Tryz.func89, Tryz.ntmps89
    go_wp2_with (first
      | (at_lookup; refine wpList_lookup_own_ok _ rfl _ _ 98 rfl 9 165 keyedStr Tryz.underlying98 rPl (zeroPl _) _ [] (rPl_mk 0 0) bp n DP rfl (((hP.alloc _).alloc _).alloc _) _ _ rfl hkl ?_; intro v ps hv; rw [hat] at hv; obtain rfl := rPl_inv hv; rw [hhas])
      | (at_mapUpdate; refine wpList_mapUpdate_own _ rfl _ _ _ 97 rfl 165 54 keyedPl Tryz.underlying97 rIt bi n DI rfl ((((hI.alloc _).alloc _).alloc _).alloc _) (by unfold maxLen; omega) _ _ _ rfl rfl hpk _ [] (rIt_mk _ _) ?_; intro w1 hI1 hg1; have hP1 := ((((hP.alloc _).alloc _).alloc _).alloc _).kept hg1 (by simp; omega); have hB1 := hB.turn hbi hbp hg1 (fun k e => by cases e; exact .inl rfl); clear hB; obtain ⟨c3, c4, e0, e1, e2, a0, a1, o0, o1, hT, hZ⟩ := hB1)
      | (at_mapUpdate; refine wpList_mapUpdate_own _ rfl _ _ _ 98 rfl 9 165 keyedStr Tryz.underlying98 rPl bp n DP rfl hP1 (by unfold maxLen; omega) _ _ _ rfl rfl hkl _ [] (rPl_mk _ _) ?_; intro w2 hP2 hg2))
    refine bodyPost_end (v := .tuple #[]) ?_ rfl ⟨rfl, ?_, hT.grown hg2 (fun k e => by cases e; exact .inr rfl)⟩
    · simp [results, Tryz.results89, go_sem]
    · have e1 : step L ⟨true, ky, vl, blk, no⟩ = L ++ [⟨true, ky, vl, blk, no⟩] := by
        show less L ky ++ [_] = _
        rw [less_same (fP_none hno)]
      obtain ⟨⟨v1, v2⟩, v3⟩ := HV.out
      rw [e1]
      simp only [S_data] at hI1 hP2
      exact ⟨_, _, ⟨hI1.kept hg2 (by simp; omega), v1, v2⟩, hP2, v3⟩

set_option maxRecDepth 100000 in
set_option maxHeartbeats 3200000 in
/-- The key was there. -/
theorem take_old (h0 h1 h2 : Int) (bi bp n : Nat) (x : Sd) (L : List Sd) (w : World) (hm : Maps2 w bi bp n L) (hL : Lives L) (hs : x.blk < 4294967296 ∧ x.no < 4294967296) (hlt : ∀ y ∈ L, placeLt y x) (hkey : x.key.length ≤ 20) (hn : n < 1000000000) (hne : bi ≠ bp) (y : Sd) (hy : y ∈ L) (hyk : y.key = x.key) :
    Calls Tryz.prog 89 #[.agg #[.int .i64 h0, .int .i64 h1, .int .i64 h2, .map (some bi), .map (some bp)], .agg #[.bool x.put, .string (S x.key), .string (S x.val)], .agg #[.int .i64 x.blk, .int .i64 x.no]] w fun e w' => e = .returned (.tuple #[]) ∧ Maps2 w' bi bp (n + 1) (step L x) ∧ Turn2 bi bp w w' := by
  obtain ⟨hbi, hbp⟩ := hm.lt
  obtain ⟨DI, DP, ⟨hI, vI, zI⟩, hP, vP⟩ := hm
  have hB := tkB_new w h0 h1 h2 bi bp x y.blk y.no
  have hkl : keyOf Tryz.prog 9 (.string (S x.key)) = some (.string x.key) := by
    rw [WideMaps.keyOf_string_mk Tryz.underlying9 (by rw [S_size]; unfold maxLen; omega), S_data]
  have hpk := keyOf_pk hs.1 hs.2
  have hys := hL.small y hy
  have hpky := keyOf_pk hys.1 hys.2
  have hf : fP L (.string x.key) = some (placeD y) := by
    cases h : fP L (.string x.key) with
    | none => exact absurd hyk (fP_none h y hy)
    | some d =>
      obtain ⟨z, hz, hzk, rfl⟩ := fP_some h
      rw [hL.key_eq hz hy (hzk.trans hyk.symm)]
  have hat : DP.atKey (.string x.key) (.agg [.lit (.int .i64 0), .lit (.int .i64 0)]) = .agg [.lit (.int .i64 y.blk), .lit (.int .i64 y.no)] := by rw [(vP.2 _).1, hf]; rfl
  have hhas : Maps.has DP (.string x.key) = true := by rw [(vP.2 _).2, hf]; rfl
  obtain ⟨⟨u1, u2⟩, u3⟩ := view_less hL vI zI vP hy
  rw [hyk] at u1 u2 u3
  clear hf vI zI vP
  have hL' : Lives (less L x.key) := hL.filter _
  have hkk : ∀ z ∈ less L x.key, z.key ≠ x.key := fun z hz => by simpa using (List.mem_filter.1 hz).2
  have hlt' : ∀ z ∈ less L x.key, placeLt z x := fun z hz => hlt z (List.mem_filter.1 hz).1
  have HV : Hid _ := view_more hL' u1 u2 u3 hs hlt' hkk
  have HU : Hid _ := And.intro u1 (And.intro u2 u3)
  clear hL' hkk hlt' u1 u2 u3 hL hlt hyk hy
  obtain ⟨put, ky, vl, blk, no⟩ := x
  obtain ⟨yput, yky, yvl, yblk, yno⟩ := y
  dsimp only at *
  cases put
  · go_enter Tryz.func89, Tryz.ntmps89
    go_wp2_with (first
      | (at_lookup; refine wpList_lookup_own_ok _ rfl _ _ 98 rfl 9 165 keyedStr Tryz.underlying98 rPl (zeroPl _) _ [] (rPl_mk 0 0) bp n DP rfl (((hP.alloc _).alloc _).alloc _) _ _ rfl hkl ?_; intro v ps hv; rw [hat] at hv; obtain rfl := rPl_inv hv; rw [hhas])
      | (at_delete; refine wpList_delete_own _ rfl _ _ 97 165 rfl 54 keyedPl Tryz.underlying97 rIt bi n DI rfl ((((hI.alloc _).alloc _).alloc _).alloc _) _ _ rfl hpky ?_; intro w1 hI1 ht1; have hP1 := ((((hP.alloc _).alloc _).alloc _).alloc _).kept ht1.grown (by simp; omega); have hB1 := hB.turn hbi hbp ht1.grown (fun k e => by cases e; exact .inl rfl); clear hB ht1; have HB1 : Hid _ := hB1; obtain ⟨c3, c4, e0, e1, e2, a0, a1, o0, o1, hT, hZ⟩ := hB1)
      | (at_delete; refine wpList_delete_own _ rfl _ _ 98 9 rfl 165 keyedStr Tryz.underlying98 rPl bp n DP rfl hP1 _ _ rfl hkl ?_; clear c3 c4 e0 e1 e2 a0 a1 o0 o1 hT hZ; intro w2 hP2 ht2; have hI2 := hI1.kept ht2.grown (by simp; omega); have hB2 := HB1.out.turn hbi hbp ht2.grown (fun k e => by cases e; exact .inr rfl); clear HB1 ht2; have HB2 : Hid _ := hB2; obtain ⟨c3, c4, e0, e1, e2, a0, a1, o0, o1, hT, hZ⟩ := hB2))
    refine bodyPost_end (v := .tuple #[]) ?_ rfl ⟨rfl, ?_, hT⟩
    · simp [results, Tryz.results89, go_sem]
    · have e1 : step L ⟨false, ky, vl, blk, no⟩ = less L ky := by
        show less L ky ++ [] = _
        rw [List.append_nil]
      rw [e1]
      exact ⟨_, _, ⟨hI2.mono (Nat.le_succ _), HU.out.1, HU.out.2.1⟩, hP2.mono (Nat.le_succ _), HU.out.2.2⟩
  · go_enter Tryz.func89, Tryz.ntmps89
    go_wp2_with (first
      | (at_lookup; refine wpList_lookup_own_ok _ rfl _ _ 98 rfl 9 165 keyedStr Tryz.underlying98 rPl (zeroPl _) _ [] (rPl_mk 0 0) bp n DP rfl (((hP.alloc _).alloc _).alloc _) _ _ rfl hkl ?_; intro v ps hv; rw [hat] at hv; obtain rfl := rPl_inv hv; rw [hhas])
      | (at_delete; refine wpList_delete_own _ rfl _ _ 97 165 rfl 54 keyedPl Tryz.underlying97 rIt bi n DI rfl ((((hI.alloc _).alloc _).alloc _).alloc _) _ _ rfl hpky ?_; intro w1 hI1 ht1; have hP1 := ((((hP.alloc _).alloc _).alloc _).alloc _).kept ht1.grown (by simp; omega); have hB1 := hB.turn hbi hbp ht1.grown (fun k e => by cases e; exact .inl rfl); clear hB ht1; have HB1 : Hid _ := hB1; obtain ⟨c3, c4, e0, e1, e2, a0, a1, o0, o1, hT, hZ⟩ := hB1)
      | (at_delete; refine wpList_delete_own _ rfl _ _ 98 9 rfl 165 keyedStr Tryz.underlying98 rPl bp n DP rfl hP1 _ _ rfl hkl ?_; clear c3 c4 e0 e1 e2 a0 a1 o0 o1 hT hZ; intro w2 hP2 ht2; have hI2 := hI1.kept ht2.grown (by simp; omega); have hB2 := HB1.out.turn hbi hbp ht2.grown (fun k e => by cases e; exact .inr rfl); clear HB1 ht2; have HB2 : Hid _ := hB2; obtain ⟨c3, c4, e0, e1, e2, a0, a1, o0, o1, hT, hZ⟩ := hB2)
      | (at_mapUpdate; refine wpList_mapUpdate_own _ rfl _ _ _ 97 rfl 165 54 keyedPl Tryz.underlying97 rIt bi n _ rfl hI2 (by unfold maxLen; omega) _ _ _ rfl rfl hpk _ [] (rIt_mk _ _) ?_; clear c3 c4 e0 e1 e2 a0 a1 o0 o1 hT hZ; intro w3 hI3 hg3; have hP3 := hP2.kept hg3 (by simp; omega); have hB3 := HB2.out.turn hbi hbp hg3 (fun k e => by cases e; exact .inl rfl); clear HB2; obtain ⟨c3, c4, e0, e1, e2, a0, a1, o0, o1, hT, hZ⟩ := hB3)
      | (at_mapUpdate; refine wpList_mapUpdate_own _ rfl _ _ _ 98 rfl 9 165 keyedStr Tryz.underlying98 rPl bp n _ rfl hP3 (by unfold maxLen; omega) _ _ _ rfl rfl hkl _ [] (rPl_mk _ _) ?_; intro w4 hP4 hg4))
    refine bodyPost_end (v := .tuple #[]) ?_ rfl ⟨rfl, ?_, hT.grown hg4 (fun k e => by cases e; exact .inr rfl)⟩
    · simp [results, Tryz.results89, go_sem]
    · have e1 : step L ⟨true, ky, vl, blk, no⟩ = less L ky ++ [⟨true, ky, vl, blk, no⟩] := rfl
      obtain ⟨⟨v1, v2⟩, v3⟩ := HV.out
      rw [e1]
      simp only [S_data] at hI3 hP4
      exact ⟨_, _, ⟨hI3.kept hg4 (by simp; omega), v1, v2⟩, hP4, v3⟩

theorem take_any (h0 h1 h2 : Int) (bi bp n : Nat) (x : Sd) (L : List Sd) (w : World) (hm : Maps2 w bi bp n L) (hL : Lives L) (hs : x.blk < 4294967296 ∧ x.no < 4294967296) (hlt : ∀ y ∈ L, placeLt y x) (hkey : x.key.length ≤ 20) (hn : n < 1000000000) (hne : bi ≠ bp) :
    Calls Tryz.prog 89 #[.agg #[.int .i64 h0, .int .i64 h1, .int .i64 h2, .map (some bi), .map (some bp)], .agg #[.bool x.put, .string (S x.key), .string (S x.val)], .agg #[.int .i64 x.blk, .int .i64 x.no]] w fun e w' => e = .returned (.tuple #[]) ∧ Maps2 w' bi bp (n + 1) (step L x) ∧ Turn2 bi bp w w' := by
  cases h : fP L (.string x.key) with
  | none => exact take_new h0 h1 h2 bi bp n x L w hm hL hs hlt hkey hn hne h
  | some d =>
    obtain ⟨y, hy, hyk, _⟩ := fP_some h
    exact take_old h0 h1 h2 bi bp n x L w hm hL hs hlt hkey hn hne y hy hyk
end Go.Proofs.YtdhgebdbiehchaaGreatDoor
namespace Go.Proofs.YtdhgebdbiehchaaGreatDoor
open Go.RowKit Go.Shelf Go.Maps
set_option linter.unusedSimpArgs false
set_option linter.unusedVariables false
attribute [local go_sem] Oper.semAt_some

/-- A box, whole. -/
def Bx (W : World) (b : Nat) (cs : Array Value) (t : TypeId) : Prop := W.heap[b]? = some (.cells cs t (0, 0))
theorem Bx.cell {W : World} {b : Nat} {cs : Array Value} {t : TypeId} (h : Bx W b cs t) {j : Nat} {u : Value} (hu : cs[j]? = some u) : W.cell? ⟨b, j, none⟩ = some u := (cell_of_row W b j cs t _ h).trans hu
theorem Bx.frozen {W : World} {b : Nat} {cs : Array Value} {t : TypeId} (h : Bx W b cs t) (j : Nat) : W.frozen? ⟨b, j, none⟩ = false := by
  have h' : W.heap[b]? = some (.cells cs t (0, 0)) := h
  simp [World.frozen?, h']
theorem Bx.lt {W : World} {b : Nat} {cs : Array Value} {t : TypeId} (h : Bx W b cs t) : b < W.heap.size := (Array.getElem?_eq_some_iff.1 h).1
theorem Bx.alloc {W : World} {b : Nat} {cs : Array Value} {t : TypeId} (h : Bx W b cs t) (o : Obj) : Bx (W.alloc o) b cs t := (Below.heap_alloc W o b h.lt).trans h
theorem Bx.below {W W' : World} {b n : Nat} {cs : Array Value} {t : TypeId} (h : Bx W b cs t) (hb : Below n W W') (hn : b < n) : Bx W' b cs t := (hb.block b hn).trans h
theorem Bx.turn {W W' : World} {b bi bp : Nat} {cs : Array Value} {t : TypeId} (h : Bx W b cs t) (ht : Turn2 bi bp W W') (h1 : b ≠ bi) (h2 : b ≠ bp) : Bx W' b cs t := (ht.block b h.lt h1 h2).trans h
theorem bx_new (W : World) (cs : Array Value) (t : TypeId) {b : Nat} (hb : b = W.heap.size) : Bx (W.alloc (.cells cs t)) b cs t := by subst hb; exact (MapKept.heap_alloc W _).1
theorem Bx.kept {W W' : World} {b : Nat} {cs : Array Value} {t : TypeId} (h : Bx W b cs t) {row : Option Nat} (hg : W.grownBy W' row) (hr : ∀ r, row = some r → ∃ o : Obj, W.heap[r]? = some o ∧ o.isCells = false) : Bx W' b cs t :=
  (hg.block b h.lt (fun e => by obtain ⟨o, ho, hc⟩ := hr b e.symm; rw [show W.heap[b]? = _ from h] at ho; cases ho; cases hc)).trans h
theorem Bx.other {W : World} {b b' j : Nat} {cs : Array Value} {t : TypeId} (h : Bx W b cs t) (hne : b ≠ b') (u : Value) : Bx (W.setCell ⟨b', j, none⟩ u) b cs t := (Below.heap_setCell W ⟨b', j, none⟩ u b hne).trans h
theorem Bx.set1 {W : World} {b : Nat} {v : Value} {t : TypeId} (h : Bx W b #[v] t) (u : Value) : Bx (W.setCell ⟨b, 0, none⟩ u) b #[u] t := by
  obtain ⟨hlt, hk⟩ := Array.getElem?_eq_some_iff.1 h
  show (W.heap.modify b _)[b]? = _
  rw [Array.getElem?_eq_getElem (by rw [Array.size_modify]; exact hlt), Array.getElem_modify_self, hk]
  rfl

theorem Bx.setj {W : World} {b : Nat} {cs : Array Value} {t : TypeId} (h : Bx W b cs t) (j : Nat) (u : Value) : Bx (W.setCell ⟨b, j, none⟩ u) b (cs.setIfInBounds j u) t := by
  obtain ⟨hlt, hk⟩ := Array.getElem?_eq_some_iff.1 h
  show (W.heap.modify b _)[b]? = _
  rw [Array.getElem?_eq_getElem (by rw [Array.size_modify]; exact hlt), Array.getElem_modify_self, hk]
  try rfl
theorem Bx.set5 {W : World} {b : Nat} {a0 a1 a2 a3 a4 : Value} {t : TypeId} (h : Bx W b #[a0, a1, a2, a3, a4] t) (v0 v1 v2 v3 v4 : Value) :
    Bx (((((W.setCell ⟨b, 0, none⟩ v0).setCell ⟨b, 1, none⟩ v1).setCell ⟨b, 2, none⟩ v2).setCell ⟨b, 3, none⟩ v3).setCell ⟨b, 4, none⟩ v4) b #[v0, v1, v2, v3, v4] t :=
  ((((h.setj 0 v0).setj 1 v1).setj 2 v2).setj 3 v3).setj 4 v4
theorem grown_setB (W : World) (b j : Nat) (v : Value) : W.grownBy (W.setCell ⟨b, j, none⟩ v) (some b) :=
  ⟨rfl, rfl, rfl, by simp [World.setCell], fun k _ hk => Below.heap_setCell _ _ _ k (fun e => hk (by rw [e]))⟩
theorem grown_trans {X Y Z : World} {b : Option Nat} (h : X.grownBy Y b) (k : Y.grownBy Z b) : X.grownBy Z b :=
  ⟨k.os.trans h.os, k.tape.trans h.tape, k.output.trans h.output, Nat.le_trans h.size k.size, fun i hi hb => (k.block i (Nat.lt_of_lt_of_le hi h.size) hb).trans (h.block i hi hb)⟩
theorem grown_set5 (W : World) (b : Nat) (v0 v1 v2 v3 v4 : Value) : W.grownBy (((((W.setCell ⟨b, 0, none⟩ v0).setCell ⟨b, 1, none⟩ v1).setCell ⟨b, 2, none⟩ v2).setCell ⟨b, 3, none⟩ v3).setCell ⟨b, 4, none⟩ v4) (some b) :=
  grown_trans (grown_trans (grown_trans (grown_trans (grown_setB W b 0 v0) (grown_setB _ b 1 v1)) (grown_setB _ b 2 v2)) (grown_setB _ b 3 v3)) (grown_setB _ b 4 v4)

theorem Maps2.isMap {W : World} {bi bp n : Nat} {L : List Sd} (h : Maps2 W bi bp n L) : (∀ o, W.heap[bi]? = some o → o.isCells = false) ∧ (∀ o, W.heap[bp]? = some o → o.isCells = false) := by
  obtain ⟨DI, DP, ⟨h1, _⟩, h4, _⟩ := h
  obtain ⟨es, ck, hb, _⟩ := h1
  obtain ⟨es', ck', hb', _⟩ := h4
  exact ⟨fun o ho => by rw [hb] at ho; cases ho; rfl, fun o ho => by rw [hb'] at ho; cases ho; rfl⟩
theorem Turn2.cellsBut {W W' : World} {bi bp n b : Nat} {L : List Sd} (h : Turn2 bi bp W W') (hm : Maps2 W bi bp n L) : CellsBut b W W' :=
  ⟨h.size, fun k o _ hk ho => (h.block k (Array.getElem?_eq_some_iff.1 hk).1 (fun e => by subst e; rw [hm.isMap.1 o hk] at ho; cases ho) (fun e => by subst e; rw [hm.isMap.2 o hk] at ho; cases ho)).trans hk⟩
theorem Turn2.keepsFrom {W W' : World} {bi bp B : Nat} (h : Turn2 bi bp W W') (h1 : bi < B) (h2 : bp < B) : KeepsFrom B W W' :=
  ⟨h.size, fun k o hB hk _ => (h.block k (Array.getElem?_eq_some_iff.1 hk).1 (by omega) (by omega)).trans hk⟩

theorem chain_fun {log : List UInt8} {blk : Int} {xs : List Tb} : ∀ {a e e' : Nat}, chain log blk a xs e → chain log blk a xs e' → e = e' := by
  induction xs with
  | nil => intro a e e' h h'; exact (show e = a from h).trans (show e' = a from h').symm
  | cons x xs ih => intro a e e' h h'; exact ih h.2.2 h'.2.2
theorem saids_take_eq (a i : Nat) (es : List Ent) (j : Nat) : saids a i (es.take j) = (saids a i es).take j := by
  induction es generalizing i j with
  | nil => simp [saids]
  | cons e es ih =>
    cases j with
    | zero => simp [saids]
    | succ j => simp [saids, ih]
/-- What is said up to some entry of a block. -/
def upto (pre : List Tb) (a : Nat) (es : List Ent) (j : Nat) : List Sd := sds pre ++ saids a 0 (es.take j)
theorem upto_zero (pre : List Tb) (a : Nat) (es : List Ent) : upto pre a es 0 = sds pre := by simp [upto, saids]
theorem upto_all (pre : List Tb) (a : Nat) (v : Value) (es : List Ent) (k : Nat) : upto pre a es es.length = sds (pre ++ [⟨a, v, es, k⟩]) := by
  rw [upto, List.take_length, sds_snoc]; rfl
theorem upto_succ {pre : List Tb} {a : Nat} {es : List Ent} {j : Nat} (h : j < es.length) : upto pre a es (j + 1) = upto pre a es j ++ [⟨es[j].put, es[j].key, es[j].val, a, j⟩] := by
  rw [upto, saids_take h, upto, List.append_assoc]
theorem upto_length {pre : List Tb} {a : Nat} {es : List Ent} {j : Nat} (h : j ≤ es.length) : (upto pre a es j).length = (sds pre).length + j := by
  rw [upto, List.length_append, saids_length, List.length_take, Nat.min_eq_left h]
theorem upto_fine {log : List UInt8} {blk : Int} {pre : List Tb} {a e : Nat} {es : List Ent} {k : Nat} (hl : log.length ≤ 100000) (h : chain log blk 14 pre e) (ha : a = e) (hb : blockP log e blk = some (es, k)) (j : Nat) :
    (upto pre a es j).Pairwise placeLt ∧ ∀ y ∈ upto pre a es j, (y.blk < 4294967296 ∧ y.no < 4294967296) ∧ y.key.length ≤ 20 := by
  have hc := chain_snoc (x := ⟨a, .bool true, es, k⟩) h ha hb
  obtain ⟨c1, c2, c3, c4, c5⟩ := chain_rise hc
  have hbs := blockP_some hb
  have hsub : (upto pre a es j).Sublist (sds (pre ++ [⟨a, .bool true, es, k⟩])) := by
    rw [sds_snoc, upto, saids_take_eq]
    exact (List.Sublist.refl _).append (List.take_sublist _ _)
  refine ⟨c1.sublist hsub, fun y hy => ?_⟩
  have := c2 y (hsub.subset hy)
  have : e + k ≤ log.length := hbs.2.2.2.2.2
  refine ⟨⟨?_, ?_⟩, by omega⟩ <;> simp at * <;> omega

/-- What a log says, or nothing. -/
def saidS (log : List UInt8) : Option (List Sd) :=
  if 100000 < log.length then none
  else if headB log = false then none
  else if (readL log (hdBlk log) 14).2 < log.length then none
  else if 2000 < (liveL (readL log (hdBlk log) 14).1).length then none
  else some (liveL (readL log (hdBlk log) 14).1)
theorem indexS_said (log : List UInt8) : indexS log = (saidS log).map (indexB log (hdSeed log) (hdBits log)) := by
  unfold indexS saidS
  split
  · rfl
  · split
    · rfl
    · split
      · rfl
      · split <;> rfl
def SaidIs (w w' : World) (log : List UInt8) (v : Value) : Prop :=
  match saidS log with
  | none => v = .tuple #[.agg #[.int .i64 0, .int .i64 0, .int .i64 0, .map none, .map none], .bool false]
  | some L => ∃ bi bp n, v = .tuple #[.agg #[.int .i64 (hdBlk log), .int .i64 (hdSeed log), .int .i64 (hdBits log), .map (some bi), .map (some bp)], .bool true] ∧ Maps2 w' bi bp n L ∧ w.heap.size ≤ bi

theorem headV_ok {l : List UInt8} (h : headB l = true) : headV l = .agg #[.int .i64 (hdBlk l), .int .i64 (hdSeed l), .int .i64 (hdBits l)] := by rw [headV, if_pos h]

/-- The world in which the loop begins, and what lies there. -/
def rdWorld (w1 : World) (log : ByteArray) (blk seed bits : Nat) : World :=
  ((((((w1.alloc (.cells #[.int .i64 blk, .int .i64 seed, .int .i64 bits] 29)).alloc (.map #[] 0)).alloc (.map #[] 0)).alloc (.cells #[.int .i64 blk, .int .i64 seed, .int .i64 bits, .map (some (w1.heap.size + 1)), .map (some (w1.heap.size + 1 + 1))] 100)).alloc (.cells #[.int .i64 14] 3)).alloc (.cells #[.string log] 9)).alloc (.cells #[.int .i64 blk, .int .i64 seed, .int .i64 bits] 29)
structure RdW (w : World) (z : Nat) (log : ByteArray) (blk seed bits : Nat) (W : World) : Prop where
  r : Bx W w.heap.size #[.int .i64 0, .int .i64 0, .int .i64 0, .map none, .map none] 100
  s : Bx W (z + 1 + 1 + 1) #[.int .i64 blk, .int .i64 seed, .int .i64 bits, .map (some (z + 1)), .map (some (z + 1 + 1))] 100
  e : Bx W (z + 1 + 1 + 1 + 1) #[.int .i64 14] 3
  l : Bx W (z + 1 + 1 + 1 + 1 + 1) #[.string log] 9
  c : Bx W (z + 1 + 1 + 1 + 1 + 1 + 1) #[.int .i64 blk, .int .i64 seed, .int .i64 bits] 29
  m : Maps2 W (z + 1) (z + 1 + 1) 0 []
  b : Below w.heap.size w W
  h : HalvesAt W
  size : W.heap.size = z + 7
theorem rdW_new (w w1 : World) (log : ByteArray) (blk seed bits : Nat) (r0 : Bx w1 w.heap.size #[.int .i64 0, .int .i64 0, .int .i64 0, .map none, .map none] 100) (hB : Below w.heap.size w w1) (hH : HalvesAt w1) (hz : w.heap.size < w1.heap.size) : RdW w w1.heap.size log blk seed bits (rdWorld w1 log blk seed bits) := by
  unfold rdWorld
  obtain ⟨z, hzz⟩ : ∃ z, w1.heap.size = z := ⟨_, rfl⟩
  rw [hzz]
  have m2 : Maps2 (((w1.alloc (.cells #[.int .i64 blk, .int .i64 seed, .int .i64 bits] 29)).alloc (.map #[] 0)).alloc (.map #[] 0)) (z + 1) (z + 1 + 1) 0 [] := by
    have := maps2_new (w1.alloc (.cells #[.int .i64 blk, .int .i64 seed, .int .i64 bits] 29))
    rwa [World.size_alloc, hzz] at this
  have r1 := ((r0.alloc (.cells #[.int .i64 blk, .int .i64 seed, .int .i64 bits] 29)).alloc (.map #[] 0)).alloc (.map #[] 0)
  have b1 : Below w.heap.size w (((w1.alloc (.cells #[.int .i64 blk, .int .i64 seed, .int .i64 bits] 29)).alloc (.map #[] 0)).alloc (.map #[] 0)) := ((hB.alloc (by omega) _).alloc (by rw [World.size_alloc]; omega) _).alloc (by rw [World.size_alloc, World.size_alloc]; omega) _
  have h1 : HalvesAt (((w1.alloc (.cells #[.int .i64 blk, .int .i64 seed, .int .i64 bits] 29)).alloc (.map #[] 0)).alloc (.map #[] 0)) := by
    refine hH.below ((((Below.refl w1.heap.size w1).alloc (Nat.le_refl _) _).alloc ?_ _).alloc ?_ _) hH.1
    · rw [World.size_alloc]; omega
    · rw [World.size_alloc, World.size_alloc]; omega
  have z1 : (((w1.alloc (.cells #[.int .i64 blk, .int .i64 seed, .int .i64 bits] 29)).alloc (.map #[] 0)).alloc (.map #[] 0)).heap.size = z + 1 + 1 + 1 := by rw [World.size_alloc, World.size_alloc, World.size_alloc, hzz]
  generalize ((w1.alloc (.cells #[.int .i64 (blk : Int), .int .i64 (seed : Int), .int .i64 (bits : Int)] 29)).alloc (.map #[] 0)).alloc (.map #[] 0) = X at *
  have s1 := bx_new X #[.int .i64 (blk : Int), .int .i64 (seed : Int), .int .i64 (bits : Int), .map (some (z + 1)), .map (some (z + 1 + 1))] 100 z1.symm
  have z2 : (X.alloc (.cells #[.int .i64 (blk : Int), .int .i64 (seed : Int), .int .i64 (bits : Int), .map (some (z + 1)), .map (some (z + 1 + 1))] 100)).heap.size = z + 1 + 1 + 1 + 1 := by rw [World.size_alloc, z1]
  have b2 := b1.alloc (by omega) (.cells #[.int .i64 (blk : Int), .int .i64 (seed : Int), .int .i64 (bits : Int), .map (some (z + 1)), .map (some (z + 1 + 1))] 100)
  have h2 : HalvesAt (X.alloc (.cells #[.int .i64 (blk : Int), .int .i64 (seed : Int), .int .i64 (bits : Int), .map (some (z + 1)), .map (some (z + 1 + 1))] 100)) := h1.below ((Below.refl _ X).alloc (Nat.le_refl _) _) h1.1
  have r2 := r1.alloc (.cells #[.int .i64 (blk : Int), .int .i64 (seed : Int), .int .i64 (bits : Int), .map (some (z + 1)), .map (some (z + 1 + 1))] 100)
  have m3 := m2.alloc (.cells #[.int .i64 (blk : Int), .int .i64 (seed : Int), .int .i64 (bits : Int), .map (some (z + 1)), .map (some (z + 1 + 1))] 100)
  generalize X.alloc (.cells #[.int .i64 (blk : Int), .int .i64 (seed : Int), .int .i64 (bits : Int), .map (some (z + 1)), .map (some (z + 1 + 1))] 100) = Y at *
  have e1 := bx_new Y #[.int .i64 14] 3 z2.symm
  have z3 : (Y.alloc (.cells #[.int .i64 14] 3)).heap.size = z + 1 + 1 + 1 + 1 + 1 := by rw [World.size_alloc, z2]
  have l1 := bx_new (Y.alloc (.cells #[.int .i64 14] 3)) #[.string log] 9 z3.symm
  have z4 : ((Y.alloc (.cells #[.int .i64 14] 3)).alloc (.cells #[.string log] 9)).heap.size = z + 1 + 1 + 1 + 1 + 1 + 1 := by rw [World.size_alloc, z3]
  refine ⟨((r2.alloc _).alloc _).alloc _, ((s1.alloc _).alloc _).alloc _, (e1.alloc _).alloc _, l1.alloc _, bx_new _ _ _ z4.symm, ((m3.alloc _).alloc _).alloc _, ((b2.alloc (by omega) _).alloc (by omega) _).alloc (by omega) _, ?_, by rw [World.size_alloc, z4]⟩
  exact h2.below ((((Below.refl Y.heap.size Y).alloc (Nat.le_refl _) _).alloc (by omega) _).alloc (by omega) _) h2.1
end Go.Proofs.YtdhgebdbiehchaaGreatDoor
namespace Go.Proofs.YtdhgebdbiehchaaGreatDoor
open Go.RowKit Go.Shelf Go.Maps
set_option linter.unusedSimpArgs false
set_option linter.unusedVariables false
attribute [local go_sem] Oper.semAt_some

/-- Between two rounds. -/
def RdI (w : World) (z : Nat) (log : List UInt8) (blk seed bits : Nat) (pre : List Tb) (W : World) : Prop :=
  Bx W w.heap.size #[.int .i64 0, .int .i64 0, .int .i64 0, .map none, .map none] 100 ∧
  Bx W (z + 1 + 1 + 1) #[.int .i64 blk, .int .i64 seed, .int .i64 bits, .map (some (z + 1)), .map (some (z + 1 + 1))] 100 ∧
  (∃ e, chain log blk 14 pre e ∧ Bx W (z + 1 + 1 + 1 + 1) #[.int .i64 (e : Nat)] 3) ∧
  Maps2 W (z + 1) (z + 1 + 1) (sds pre).length (liveL (sds pre)) ∧ Below w.heap.size w W ∧ z + 7 ≤ W.heap.size
theorem rdI_own (w : World) (z : Nat) (log : List UInt8) (blk seed bits : Nat) (B : Nat) (hz : w.heap.size ≤ z) (hB : z + 7 ≤ B) : OwnFrom B (RdI w z log blk seed bits) := by
  rintro s X Y row ⟨h1, h2, ⟨e, h3, h4⟩, h5, h6, h7⟩ hg hr
  have hr' := fun r e => (hr r e).2
  refine ⟨h1.kept hg hr', h2.kept hg hr', ⟨e, h3, h4.kept hg hr'⟩, h5.kept hg ?_ ?_, h6.grown hg h6.size (fun k e => ?_), Nat.le_trans h7 hg.size⟩
  · intro e; have := (hr _ e.symm).1; omega
  · intro e; have := (hr _ e.symm).1; omega
  · have := (hr k e).1; omega
theorem told_own (log : List UInt8) (blk : Int) (base B : Nat) (pre : List Tb) (x : Tb) : OwnFrom B (fun (_ : Unit) W => Told log blk base pre x W) := by
  rintro _ X Y row ⟨h1, h2⟩ hg hr
  refine ⟨h1, h2.kept hg ?_⟩
  rcases h2.2 with ⟨e, _⟩ | ⟨g, cap, cur, e, _, hgb, _⟩
  · exact .inl (by rw [e]; rfl)
  · refine .inr fun e' => ?_
    rw [e] at e'
    obtain ⟨_, o, ho, hc⟩ := hr g (by simpa [Value.ownBlock] using e'.symm)
    rw [hgb] at ho; cases ho; cases hc

/-- The activation in a round. -/
def rdAct (log : ByteArray) (blk seed bits zr z a bx : Nat) (v : Value) (k : Nat) : Act :=
  { tmps := #[.string log, undef, .pointer (some ⟨zr, 0, none⟩), .bool false, .pointer (some ⟨z, 0, none⟩), .bool true, .pointer (some ⟨z + 1 + 1 + 1, 0, none⟩), .pointer (some ⟨z + 1 + 1 + 1 + 1, 0, none⟩), .int .i64 a, .pointer (some ⟨bx, 0, none⟩), undef, undef,
      .string log, .int .i64 log.size, .bool (decide (100000 < (log.size : Int))), undef, .tuple #[.agg #[.int .i64 blk, .int .i64 seed, .int .i64 bits], .bool true], .string log, .tuple #[.agg #[.int .i64 blk, .int .i64 seed, .int .i64 bits], .bool true], .agg #[.int .i64 blk, .int .i64 seed, .int .i64 bits], .bool true, .bool true, .bool false, undef, .agg #[.int .i64 blk, .int .i64 seed, .int .i64 bits],
      .map (some (z + 1)), .map (some (z + 1 + 1)), .agg #[.int .i64 blk, .int .i64 seed, .int .i64 bits, .map (some (z + 1)), .map (some (z + 1 + 1))], .string log, .agg #[.int .i64 blk, .int .i64 seed, .int .i64 bits], .func (.func 146) #[] #[.pointer (some ⟨z + 1 + 1 + 1 + 1 + 1, 0, none⟩), .pointer (some ⟨z + 1 + 1 + 1 + 1 + 1 + 1, 0, none⟩)], .int .i64 a, .agg #[v, .int .i64 k],
      undef, undef, undef, undef, undef, undef, undef, undef, undef, undef, undef, undef, undef, undef, undef, undef, undef, undef, undef, undef, undef, undef, undef, undef, undef, undef, undef, undef, undef, undef, undef], defers := [] }

set_option maxRecDepth 100000 in
set_option maxHeartbeats 3200000 in
theorem read_in (n : Nat) (hn : 6 ≤ n) (log : ByteArray) (hlog : log.size ≤ 100000) (w : World) (hH : HalvesAt w) (hhead : headB log.data.toList = true) :
    CallsIn Fence.wide n Tryz.prog 51 #[.string log] w fun e w' => ∃ v, e = .returned v ∧ SaidIs w w' log.data.toList v ∧ Below w.heap.size w w' := by
  have h1 : 1 ≤ n := by omega
  have hlen : log.data.toList.length = log.size := by simp
  have hmm := @run_makeMap Tryz.prog
  have f1 : Fence.wide.fn 87 := trivial
  have f2 : Fence.wide.fn 88 := trivial
  have hHX : HalvesAt (w.alloc (.cells #[.int .i64 0, .int .i64 0, .int .i64 0, .map none, .map none] 100)) := hH.below ((Below.refl _ w).alloc (Nat.le_refl _) _) hH.1
  have HRH : Hid _ := readHead_any log _ (by omega) hHX
  have HH : Hid (HalvesAt w) := hH
  have HS : Hid (∀ W' v, SaidIs w W' log.data.toList v = SaidIs w W' log.data.toList v) := fun _ _ => rfl
  clear hH hHX
  refine callsIn_of_wp_marks Tryz.func51 rfl trivial ?_ rfl
  simp only [Tryz.ntmps51, List.size_toArray, List.length_cons, List.length_nil, Nat.reduceAdd, Nat.reduceSub, Array.replicate_succ, Array.replicate_zero, List.push_toArray, List.append_toArray, List.nil_append, List.cons_append]
  gi_wp2_with fail
  refine (callsIn_wide.2 HRH.out).mono ?_
  rintro e w1 ⟨rfl, hb1⟩
  rw [hhead, headV_ok hhead]
  have z1 : w.heap.size < w1.heap.size := by have := hb1.size; rw [World.size_alloc] at this; omega
  have r0 : Bx w1 w.heap.size #[.int .i64 0, .int .i64 0, .int .i64 0, .map none, .map none] 100 := (bx_new w _ _ rfl).below hb1 (by rw [World.size_alloc]; omega)
  have hB1 : Below w.heap.size w w1 := ((Below.refl _ w).alloc (Nat.le_refl _) _).trans (hb1.mono (by rw [World.size_alloc]; omega))
  have hH1 : HalvesAt w1 := HH.out.below hB1 HH.out.1
  have hG : 6 < w1.heap.size := hH1.1
  have HRW : Hid _ := rdW_new w w1 log (hdBlk log.data.toList) (hdSeed log.data.toList) (hdBits log.data.toList) r0 hB1 hH1 z1
  generalize hblk : hdBlk log.data.toList = blk at *
  generalize hseed : hdSeed log.data.toList = seed at *
  generalize hbits : hdBits log.data.toList = bits at *
  have HBLK : Hid _ := hblk
  have HSEED : Hid _ := hseed
  have HBITS : Hid _ := hbits
  clear HRH HH hb1 r0 hB1 hH1 HS hblk hseed hbits
  gi_wp2_with (gi_at_call 88; refine (blocks_in _ _ _ _ _ _).mono ?_; rintro e w' ⟨rfl, rfl⟩)
  change Code.wpIn Fence.wide n Tryz.prog _ _ _ (rdWorld w1 log blk seed bits)
  generalize rdWorld w1 log blk seed bits = V at *
  obtain ⟨r, s, eb, lb, cb, m, b, h, hsz⟩ := HRW.out
  generalize w1.heap.size = z at *
  refine wpIn_rangeTells rfl h1 (gf := 146) (lb := #[.pointer (some ⟨z + 1 + 1 + 1 + 1 + 1, 0, none⟩), .pointer (some ⟨z + 1 + 1 + 1 + 1 + 1 + 1, 0, none⟩)]) rfl trivial (enters_of Tryz.func146 (by kernel_rfl) rfl)
    (blocks_tells (n - 1) (by omega) log blk seed bits hlog (z + 1 + 1 + 1 + 1 + 1) (z + 1 + 1 + 1 + 1 + 1 + 1) (z + 1 + 1 + 1 + 1) V (lb.cell rfl) (cb.cell rfl) (cb.cell rfl) (cb.cell rfl) (by omega) (by omega) (by omega) (by omega) (by omega) (by omega) h)
    CellsBut.trans (fun W l o o' _ ho hc _ => CellsBut.putObj o' ho hc) (Below.refl _ _) (fun _ => rfl)
    (RdI w z log.data.toList blk seed bits) (rdI_own w z _ _ _ _ _ (by omega) (by omega)) ⟨r, s, ⟨14, rfl, eb⟩, m, b, by omega⟩
    (fun pre x a' W => Told log.data.toList blk V.heap.size pre x W ∧ ∃ bx, V.heap.size ≤ bx ∧ Bx W bx #[x.v, .int .i64 x.k] 162 ∧ a' = rdAct log blk seed bits w.heap.size z x.a bx x.v x.k) ?hAx ?assign ?body ?done
  case hAx =>
    rintro pre x a' _ X Y row ⟨h1, bx, h2, h3, h4⟩ hg hr
    exact ⟨told_own _ _ _ _ _ _ () X Y row h1 hg hr, bx, h2, h3.kept hg (fun r e => (hr r e).2), h4⟩
  case assign =>
    rintro l pre ⟨a, v, es, k⟩ W K hI hP hK
    have hP' := hP
    obtain ⟨⟨e, hch, rfl, hbk⟩, hrow⟩ := hP
    dsimp only at *
    have hbs := blockP_some hbk
    obtain ⟨g, cap, rfl⟩ := Joins.ownsRow_form hrow (by omega)
    simp only [encT]
    gi_wp2
    exact hK _ _ ((KeepsOthers.alloc _ _).from _) (CellsBut.of_below ((Below.refl _ W).alloc (Nat.le_refl _) _)) ((rdI_own w z _ _ _ _ _ (by omega) (by omega) : OwnFrom V.heap.size _).alloc _ hI)
      ⟨⟨hP'.1, hrow.alloc _⟩, W.heap.size, by have := hI.2.2.2.2.2; omega, bx_new W _ _ rfl, rfl⟩
  case body =>
    rintro l pre ⟨a, v, es, k⟩ a' W ⟨bR, bS, ⟨e0, hch0, bE⟩, hM, hB, hZ⟩ ⟨⟨⟨e, hch, rfl, hbk⟩, hrow⟩, bx, hbx, bB, rfl⟩
    have hee := chain_fun hch0 hch
    dsimp only at *
    subst hee
    have hbs := blockP_some hbk
    have hfine := upto_fine (by omega) hch rfl hbk
    have hlS := (chain_rise hch).2.2.2.2
    obtain ⟨g, cap, rfl, hg0, hg1, hgc⟩ := own_cellsN hrow (by omega)
    have HGC : Hid _ := hgc
    have x0 := bB.cell (j := 0) rfl
    have x1 := bB.cell (j := 1) rfl
    have h3 : 1 ≤ n - 1 - 1 := by omega
    clear hgc
    unfold rdAct
    gi_wp2
    gi_loopw [36] (fun i wr => ∃ (j : Nat), j ≤ es.length ∧ i = .int .i64 j ∧ Hid (Maps2 wr (z + 1) (z + 1 + 1) ((sds pre).length + j) (liveL (upto pre e0 es j))) ∧ Hid (Turn2 (z + 1) (z + 1 + 1) W wr)) (fun i _ => es.length - (intOf i).toNat)
    case atStart => exact ⟨0, Nat.zero_le _, rfl, by show Maps2 _ _ _ _ _; rw [upto_zero]; exact hM, Turn2.refl _ _ _⟩
    case round =>
      obtain ⟨j, hj, rfl, HM, HT⟩ := hrel
      have bS' := bS.turn HT.out (by omega) (by omega)
      have bB' := bB.turn HT.out (by omega) (by omega)
      have s0 := bS'.cell (j := 0) rfl
      have s1 := bS'.cell (j := 1) rfl
      have s2 := bS'.cell (j := 2) rfl
      have s3 := bS'.cell (j := 3) rfl
      have s4 := bS'.cell (j := 4) rfl
      have q1 := bB'.cell (j := 1) rfl
      have zr := HT.out.size
      have n1 : z + 1 + 1 + 1 ≠ wr.heap.size := by omega
      have n2 : wr.heap.size ≠ z + 1 + 1 + 1 := by omega
      have n3 : z + 1 + 1 + 1 < wr.heap.size := by omega
      clear bS' bB'
      by_cases hlt : j < es.length
      · have hce := cellsE_get hlt
        have gW : g < W.heap.size := hg1
        have y0 := (HT.out.cell (p := ⟨g, j * 3, none⟩) gW (by show g ≠ _; omega) (by show g ≠ _; omega)).trans ((HGC.out (j * 3) (by omega)).trans hce.1)
        have y1 := (HT.out.cell (p := ⟨g, j * 3 + 1, none⟩) gW (by show g ≠ _; omega) (by show g ≠ _; omega)).trans ((HGC.out (j * 3 + 1) (by omega)).trans hce.2.1)
        have y2 := (HT.out.cell (p := ⟨g, j * 3 + 2, none⟩) gW (by show g ≠ _; omega) (by show g ≠ _; omega)).trans ((HGC.out (j * 3 + 2) (by omega)).trans hce.2.2)
        have HU : Hid (upto pre e0 es (j + 1) = upto pre e0 es j ++ [⟨es[j].put, es[j].key, es[j].val, e0, j⟩]) := upto_succ hlt
        have hF := hfine (j + 1)
        rw [HU.out] at hF
        generalize es[j] = en at *
        obtain ⟨put, ky, vl⟩ := en
        dsimp only at *
        have hF0 := (hfine j)
        have hx := hF.2 ⟨put, ky, vl, e0, j⟩ (by simp)
        have hplt : ∀ y ∈ liveL (upto pre e0 es j), placeLt y ⟨put, ky, vl, e0, j⟩ := fun y hy => (List.pairwise_append.1 hF.1).2.2 y (liveL_mem hy).1 _ (by simp)
        have HTK : Hid _ := take_any blk seed bits (z + 1) (z + 1 + 1) ((sds pre).length + j) ⟨put, ky, vl, e0, j⟩ (liveL (upto pre e0 es j)) _ (HM.out.alloc (.cells #[.bool put, .string (S ky), .string (S vl)] 106)) (lives_of hF0.1 (fun y hy => (hF0.2 y hy).1)) hx.1 hplt hx.2 (by omega) (by omega)
        have f3 : (Fence.wide.inRound l).fn 89 := trivial
        clear hF hF0 hx hplt hce
        gi_wp2_with fail
        refine ⟨trivial, (CallsIn.inRound l (callsIn_wide.2 HTK.out)).mono ?_⟩
        rintro e' w2 ⟨rfl, hm2, ht2⟩
        have HM2 : Hid (Maps2 w2 (z + 1) (z + 1 + 1) ((sds pre).length + (j + 1)) (liveL (upto pre e0 es (j + 1)))) := by
          show Maps2 _ _ _ _ _
          rw [HU.out, ← step_live]; exact hm2
        have HT2 : Hid (Turn2 (z + 1) (z + 1 + 1) W w2) := (HT.out.alloc _).trans ht2
        clear HTK hm2 ht2 HU HM HT s0 s1 s2 s3 s4 y0 y1 y2 q1
        gi_wp2
        go_roundw
        case rel => exact ⟨j + 1, by omega, by go_num, HM2, HT2⟩
        case measure => simp [intOf]; omega
      · have hje : j = es.length := by omega
        subst hje
        have bE' := bE.turn HT.out (by omega) (by omega)
        have t0 := bE'.cell (j := 0) rfl
        have t1 := bE'.frozen 0
        have hk9 : (e0 : Int) + (k : Int) ≤ 100000 := by omega
        have he0 : (0 : Int) ≤ (e0 : Int) + (k : Int) := by omega
        gi_wp2
        have hM2 := HM.out
        rw [upto_all pre e0 (.slice (some ⟨g, 0, none⟩) es.length cap) es k] at hM2
        have hz4 : (sds pre).length + es.length = (sds (pre ++ [⟨e0, .slice (some ⟨g, 0, none⟩) es.length cap, es, k⟩])).length := by
          rw [← upto_all, upto_length (Nat.le_refl _)]
        rw [hz4] at hM2
        have hgs := grownBy_setCell' wr (z + 1 + 1 + 1 + 1) (.int .i64 ((e0 : Int) + (k : Int)))
        refine ⟨(HT.out.keepsFrom (by omega) (by omega)).trans ((KeepsOthers.setCell _ _ _).from _), (HT.out.cellsBut hM).trans (CellsBut.setCell _ _ _ _), ?_⟩
        refine ⟨(bR.turn HT.out (by omega) (by omega)).other (by omega) _, (bS.turn HT.out (by omega) (by omega)).other (by omega) _, ⟨e0 + k, chain_snoc hch rfl hbk, ?_⟩, hM2.kept hgs (by simp) (by simp), ?_, ?_⟩
        · have ec : ((e0 + k : Nat) : Int) = (e0 : Int) + (k : Int) := by omega
          rw [ec]
          exact bE'.set1 _
        · exact (hB.trans (HT.out.below (by omega) (by omega) (by omega))).setCell (p := ⟨z + 1 + 1 + 1 + 1, 0, none⟩) (by show w.heap.size ≤ z + 1 + 1 + 1 + 1; omega) _
        · have := hgs.size
          omega
  case done =>
    rintro D xs W hD ⟨e, hch, hnone⟩ ⟨bR, bS, ⟨e0, hch0, bE⟩, hM, hB, hZ⟩ hK
    have hee := chain_fun hch0 hch
    subst hee
    have hr := chain_read hch hnone
    have h14 : 14 ≤ log.data.toList.length := by
      have := hhead
      unfold headB at this
      simp at this
      rw [hlen]
      omega
    have hle := (chain_rise hch).2.2.2.1 h14
    have HSA : Hid (saidS log.data.toList = if e0 < log.size then none else if 2000 < (liveL (sds xs)).length then none else some (liveL (sds xs))) := by
      show _ = _
      unfold saidS
      rw [if_neg (by omega), if_neg (by rw [hhead]; simp), HBLK.out, hr, hlen]
    rw [hlen] at hle
    have t0 := bE.cell (j := 0) rfl
    have s0 := bS.cell (j := 0) rfl
    have s1 := bS.cell (j := 1) rfl
    have s2 := bS.cell (j := 2) rfl
    have s3 := bS.cell (j := 3) rfl
    have s4 := bS.cell (j := 4) rfl
    have q0 := bR.cell (j := 0) rfl
    have q1 := bR.cell (j := 1) rfl
    have q2 := bR.cell (j := 2) rfl
    have q3 := bR.cell (j := 3) rfl
    have q4 := bR.cell (j := 4) rfl
    have p0 := bR.frozen 0
    have p1 := bR.frozen 1
    have p2 := bR.frozen 2
    have p3 := bR.frozen 3
    have p4 := bR.frozen 4
    obtain ⟨DI, DP, ⟨hI, vI, zI⟩, hP, vP⟩ := hM
    have hlenI := hI.len Tryz.underlying97 3
    rw [zI] at hlenI
    by_cases hlt : e0 < log.size
    · have hne : (e0 : Int) ≠ (log.size : Int) := by omega
      rw [if_pos hlt] at HSA
      gi_wp2
      have hX := grown_set5 W w.heap.size (.int .i64 0) (.int .i64 0) (.int .i64 0) (.map none) (.map none)
      have bX := bR.set5 (.int .i64 0) (.int .i64 0) (.int .i64 0) (.map none) (.map none)
      generalize ((((W.setCell ⟨w.heap.size, 0, none⟩ (.int .i64 0)).setCell ⟨w.heap.size, 1, none⟩ (.int .i64 0)).setCell ⟨w.heap.size, 2, none⟩ (.int .i64 0)).setCell ⟨w.heap.size, 3, none⟩ (.map none)).setCell ⟨w.heap.size, 4, none⟩ (.map none) = X at *
      have hK' : X.heap[D]? = some (.deferred (some [])) := (hX.block D (Array.getElem?_eq_some_iff.1 hK).1 (by simp; omega)).trans hK
      refine ⟨by simp, .inl ⟨_, _, rfl, run_takeDeferred hK', ?_⟩⟩
      have bY : Bx (X.putObj D (.deferred none)) w.heap.size #[.int .i64 0, .int .i64 0, .int .i64 0, .map none, .map none] 100 := (World.putObj_heap_other (by omega)).trans bX
      have hBX : Below w.heap.size w X := hB.grown hX hB.size (fun k e => by cases e; exact Nat.le_refl _)
      have hBY := hBX.grown (grownBy_putObj' X D (.deferred none)) hBX.size (fun k e => by cases e; omega)
      refine ⟨.tuple #[.agg #[.int .i64 0, .int .i64 0, .int .i64 0, .map none, .map none], .bool false], ?_, _, rfl, ?_, hBY⟩
      · have y0 := bY.cell (j := 0) rfl
        have y1 := bY.cell (j := 1) rfl
        have y2 := bY.cell (j := 2) rfl
        have y3 := bY.cell (j := 3) rfl
        have y4 := bY.cell (j := 4) rfl
        simp [results, Tryz.results51, go_sem, y0, y1, y2, y3, y4]
      · unfold SaidIs
        rw [HSA.out]
    · have heq : e0 = log.size := by omega
      subst heq
      rw [if_neg hlt] at HSA
      by_cases h2k : 2000 < (liveL (sds xs)).length
      · rw [if_pos h2k] at HSA
        have h2k' : (2000 : Int) < ((liveL (sds xs)).length : Int) := by omega
        gi_wp2
        have hX := grown_set5 W w.heap.size (.int .i64 0) (.int .i64 0) (.int .i64 0) (.map none) (.map none)
        have bX := bR.set5 (.int .i64 0) (.int .i64 0) (.int .i64 0) (.map none) (.map none)
        generalize ((((W.setCell ⟨w.heap.size, 0, none⟩ (.int .i64 0)).setCell ⟨w.heap.size, 1, none⟩ (.int .i64 0)).setCell ⟨w.heap.size, 2, none⟩ (.int .i64 0)).setCell ⟨w.heap.size, 3, none⟩ (.map none)).setCell ⟨w.heap.size, 4, none⟩ (.map none) = X at *
        have hK' : X.heap[D]? = some (.deferred (some [])) := (hX.block D (Array.getElem?_eq_some_iff.1 hK).1 (by simp; omega)).trans hK
        refine ⟨by simp, .inl ⟨_, _, rfl, run_takeDeferred hK', ?_⟩⟩
        have bY : Bx (X.putObj D (.deferred none)) w.heap.size #[.int .i64 0, .int .i64 0, .int .i64 0, .map none, .map none] 100 := (World.putObj_heap_other (by omega)).trans bX
        have hBX : Below w.heap.size w X := hB.grown hX hB.size (fun k e => by cases e; exact Nat.le_refl _)
        have hBY := hBX.grown (grownBy_putObj' X D (.deferred none)) hBX.size (fun k e => by cases e; omega)
        refine ⟨.tuple #[.agg #[.int .i64 0, .int .i64 0, .int .i64 0, .map none, .map none], .bool false], ?_, _, rfl, ?_, hBY⟩
        · have y0 := bY.cell (j := 0) rfl
          have y1 := bY.cell (j := 1) rfl
          have y2 := bY.cell (j := 2) rfl
          have y3 := bY.cell (j := 3) rfl
          have y4 := bY.cell (j := 4) rfl
          simp [results, Tryz.results51, go_sem, y0, y1, y2, y3, y4]
        · unfold SaidIs
          rw [HSA.out]
      · rw [if_neg h2k] at HSA
        have h2k' : ¬ (2000 : Int) < ((liveL (sds xs)).length : Int) := by omega
        gi_wp2
        have hX := grown_set5 W w.heap.size (.int .i64 blk) (.int .i64 seed) (.int .i64 bits) (.map (some (z + 1))) (.map (some (z + 1 + 1)))
        have bX := bR.set5 (.int .i64 blk) (.int .i64 seed) (.int .i64 bits) (.map (some (z + 1))) (.map (some (z + 1 + 1)))
        generalize ((((W.setCell ⟨w.heap.size, 0, none⟩ (.int .i64 (blk : Int))).setCell ⟨w.heap.size, 1, none⟩ (.int .i64 (seed : Int))).setCell ⟨w.heap.size, 2, none⟩ (.int .i64 (bits : Int))).setCell ⟨w.heap.size, 3, none⟩ (.map (some (z + 1)))).setCell ⟨w.heap.size, 4, none⟩ (.map (some (z + 1 + 1))) = X at *
        have hK' : X.heap[D]? = some (.deferred (some [])) := (hX.block D (Array.getElem?_eq_some_iff.1 hK).1 (by simp; omega)).trans hK
        refine ⟨by simp, .inl ⟨_, _, rfl, run_takeDeferred hK', ?_⟩⟩
        have bY : Bx (X.putObj D (.deferred none)) w.heap.size #[.int .i64 blk, .int .i64 seed, .int .i64 bits, .map (some (z + 1)), .map (some (z + 1 + 1))] 100 := (World.putObj_heap_other (by omega)).trans bX
        have hBX : Below w.heap.size w X := hB.grown hX hB.size (fun k e => by cases e; exact Nat.le_refl _)
        have hBY := hBX.grown (grownBy_putObj' X D (.deferred none)) hBX.size (fun k e => by cases e; omega)
        refine ⟨.tuple #[.agg #[.int .i64 blk, .int .i64 seed, .int .i64 bits, .map (some (z + 1)), .map (some (z + 1 + 1))], .bool true], ?_, _, rfl, ?_, hBY⟩
        · have y0 := bY.cell (j := 0) rfl
          have y1 := bY.cell (j := 1) rfl
          have y2 := bY.cell (j := 2) rfl
          have y3 := bY.cell (j := 3) rfl
          have y4 := bY.cell (j := 4) rfl
          simp [results, Tryz.results51, go_sem, y0, y1, y2, y3, y4]
        · unfold SaidIs
          rw [HSA.out]
          have hM : Maps2 W (z + 1) (z + 1 + 1) (sds xs).length (liveL (sds xs)) := ⟨DI, DP, ⟨hI, vI, zI⟩, hP, vP⟩
          refine ⟨z + 1, z + 1 + 1, (sds xs).length, ?_, (hM.kept hX (by simp; omega) (by simp; omega)).kept (grownBy_putObj' X D (.deferred none)) (by simp; omega) (by simp; omega), by omega⟩
          rw [HBLK.out, HSEED.out, HBITS.out]
end Go.Proofs.YtdhgebdbiehchaaGreatDoor
namespace Go.Proofs.YtdhgebdbiehchaaGreatDoor
open Go.RowKit Go.Shelf Go.Maps
set_option linter.unusedSimpArgs false
set_option linter.unusedVariables false

def plV (x : Sd) : Value := .agg #[.int .i64 x.blk, .int .i64 x.no]
/-- Those that have come: each once, and just those whose keys are no longer to come. -/
def Come (L : List Sd) (left : Lit → Bool) (ss : List Sd) : Prop := ss.Nodup ∧ (∀ x ∈ ss, x ∈ L) ∧ ∀ x ∈ L, (x ∈ ss ↔ left (pk x.blk x.no) = false)
theorem come_start {L : List Sd} {D : DataW Unit} (hL : Lives L) (v : View D (fI L)) : Come L (Maps.has D) [] :=
  ⟨List.nodup_nil, by simp, fun x hx => by rw [(v.2 _).2, fI_mem pkInj hL hx]; simp⟩
theorem come_step {L : List Sd} {left : Lit → Bool} {ss : List Sd} (hL : Lives L) (h : Come L left ss) {x : Sd} (hx : x ∈ L) (hl : left (pk x.blk x.no) = true) : Come L (fun z => left z && !z.sameKey (pk x.blk x.no)) (ss ++ [x]) := by
  have hnew : x ∉ ss := fun hx' => by have := (h.2.2 x hx).1 hx'; rw [hl] at this; cases this
  refine ⟨List.nodup_append.2 ⟨h.1, by simp, fun a ha b hb => by simp at hb; subst hb; exact fun e => hnew (e ▸ ha)⟩, fun y hy => ?_, fun y hy => ?_⟩
  · rcases List.mem_append.1 hy with hy | hy
    · exact h.2.1 y hy
    · simp at hy; subst hy; exact hx
  · by_cases e : pk y.blk y.no = pk x.blk x.no
    · have s1 := hL.small y hy
      have s2 := hL.small x hx
      obtain ⟨e1, e2⟩ := pkInj _ _ _ _ s1.1 s1.2 s2.1 s2.2 e
      have := hL.place_eq hy hx e1 e2
      subst this
      show _ ↔ (left _ && !(pk y.blk y.no).sameKey (pk y.blk y.no)) = false
      rw [WideAt.sameKey_self (a := pk y.blk y.no) (by trivial)]
      simp
    · show _ ↔ (left _ && !(pk y.blk y.no).sameKey (pk x.blk x.no)) = false
      rw [sameKey_ne e]
      have : y ≠ x := fun h => e (by rw [h])
      simp [h.2.2 y hy, this]
theorem lives_nodup {L : List Sd} (hL : Lives L) : L.Nodup := hL.keys.imp (fun h e => h (by rw [e]))
theorem come_end {L : List Sd} {left : Lit → Bool} {ss : List Sd} (hL : Lives L) (h : Come L left ss) (hl : ∀ k, left k = false) : ss.Perm L :=
  (List.perm_ext_iff_of_nodup h.1 (lives_nodup hL)).2 (fun x => ⟨h.2.1 x, fun hx => (h.2.2 x hx).2 (hl _)⟩)

set_option maxRecDepth 100000 in
set_option maxHeartbeats 1600000 in
theorem keys_tells (n : Nat) (hn : 2 ≤ n) (Bm b nn : Nat) (L : List Sd) (D : DataW Unit) (w : World) (hz : Bm < w.heap.size) (hm : w.cell? ⟨Bm, 0, none⟩ = some (.map (some b))) (hown : w.ownsMap Tryz.prog 165 rIt b nn D) (hv : View D (fI L)) (hsz : Maps.size D = L.length) (hL : Lives L) :
    SeqTells Fence.wide n Tryz.prog 190 #[.pointer (some ⟨Bm, 0, none⟩)] (fun x : Sd => #[plV x]) (fun pre x _ => x ∈ L ∧ pre.length < L.length) KeepsWalks (fun ss => ss.Perm L) w := by
  intro l J W hW hJ hY h0
  have h1 : 1 ≤ n := by omega
  replace hm := (hW.cell (p := ⟨Bm, 0, none⟩) hz).trans hm
  have hown' : W.ownsMap Tryz.prog 165 rIt b nn D := by
    have hbl := hown.lt
    obtain ⟨es, clock, hb, r⟩ := hown
    exact ⟨es, clock, (hW.block b hbl).trans hb, r⟩
  clear hown
  change CallsIn Fence.wide n Tryz.prog 190 #[.func (.yield l) #[] #[], .pointer (some ⟨Bm, 0, none⟩)] W _
  refine callsIn_of_wp Tryz.func190 rfl trivial ?_ rfl
  simp only [Tryz.ntmps190, List.size_toArray, List.length_cons, List.length_nil, Nat.reduceAdd, Nat.reduceSub, Array.replicate_succ, Array.replicate_zero, List.push_toArray, List.append_toArray, List.nil_append, List.cons_append]
  gi_wp2_with (first
    | (gi_at_range; refine wpListIn_range_own _ rfl _ 97 rfl 165 54 keyedPl Tryz.underlying97 _ b nn _ rfl hown' ?_; intro w0 hrg0 hg0 hs0)
    | gi_in)
  try go_frame
  gi_loopw [6] (fun _ wr => ∃ (left : Lit → Bool) (cnt : Nat) (ss : List Sd), wr.ranges Tryz.prog 165 rIt b W.heap.size nn D left cnt ∧ ss.length + cnt ≤ L.length ∧ Come L left ss ∧ J ss wr)
    (fun _ wr => wr.rangeLeft b W.heap.size)
  case atStart =>
    exact ⟨_, _, [], hrg0, by simp [hsz], come_start hL hv, hJ [] W w0 none h0 hg0 (fun r e => by cases e)⟩
  case round =>
    obtain ⟨left, cnt, ss, hrg, hcs, hC, hJs⟩ := hrel
    gi_wp2_with (first
      | (gi_at_next; refine wpListIn_next_ranges _ rfl _ rfl 165 keyedPl rIt id id (fun key _ _ => ⟨key, rfl⟩) (fun v _ _ => ⟨v, rfl⟩) b W.heap.size nn _ _ _ rfl hrg ?_ ?_)
      | gi_in)
    · intro hc0 hl0
      gi_wp2
      go_end0
      exact ⟨⟨_, rfl⟩, ss, come_end hL hC hl0, hJs⟩
    · intro x c kl yd yp w2 cnt2 hkey hlk hvv hat hrg2 hlt hg2 hs2 hen
      have hhas : Maps.has D kl = true := has_true_of_atKey hat
      rw [(hv.2 kl).2] at hhas
      obtain ⟨z, hzL, rfl⟩ := fI_isSome hhas
      have s1 := hL.small z hzL
      have ez := keyedPl.inj hkey (keyOf_pk s1.1 s1.2)
      try simp only [id] at ez hen
      subst ez
      have hJ2 : J ss w2 := hJ ss wr w2 (some W.heap.size) hJs hg2 (fun r e => by cases e; exact ⟨Nat.le_refl _, hrg.iter_walk⟩)
      have hJ3 : J ss (w2.alloc (.cells #[.int .i64 z.blk, .int .i64 z.no] 165)) := hJ ss w2 _ none hJ2 (World.grownBy_alloc w2 _ none) (fun r e => by cases e)
      obtain ⟨fn, tmps, assign, body, hy, hR⟩ := hY ss z _ hJ3 ⟨hzL, by omega⟩
      have hrg3 := hrg2.of_walks (KeepsWalks.alloc w2 (.cells #[.int .i64 (z.blk : Int), .int .i64 (z.no : Int)] 165))
      clear hs2
      dsimp only [plV] at hy
      gi_wp2
      refine hR.mono ?_
      rintro e W3 ⟨rfl, hJ4, hk3⟩
      gi_wp2
      have hrg4 := hrg3.of_walks hk3
      go_roundw
      case rel => exact ⟨_, cnt2, ss ++ [z], hrg4, by simp; omega, come_step hL hC hzL hlk, hJ4⟩
      case measure => rw [hrg4.left_eq, hrg.left_eq]; exact hlt

set_option maxHeartbeats 800000 in
theorem keys_in (n : Nat) (mb : Option Nat) (w : World) :
    CallsIn Fence.wide n Tryz.prog 149 #[.map mb] w fun e w' => e = .returned (.func (.func 190) #[] #[.pointer (some ⟨w.heap.size, 0, none⟩)]) ∧ w' = w.alloc (.cells #[.map mb] 97) := by
  refine callsIn_of_wp Tryz.func149 rfl trivial ?_ rfl
  simp only [Tryz.ntmps149, List.size_toArray, List.length_cons, List.length_nil, Nat.reduceAdd, Nat.reduceSub, Array.replicate_succ, Array.replicate_zero, List.push_toArray, List.append_toArray, List.nil_append, List.cons_append]
  gi_wp2
  go_ret
  exact ⟨rfl, rfl⟩
end Go.Proofs.YtdhgebdbiehchaaGreatDoor
