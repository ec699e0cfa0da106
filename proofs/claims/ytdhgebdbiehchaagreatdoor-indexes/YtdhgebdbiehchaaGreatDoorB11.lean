/- The contracts of slices.AppendSeq and slices.Collect over the keys of the items' map. slices.SortFunc of places: the shelf's contract, laid at this program. The contracts of slices.SortedFunc over the places, and of record.Said.Places: the live places, rising. The contracts of slices.SortedFunc over the places, and of record.Said.Places: the live places, rising. The contract of record.Said.At: the live item that stands at a place. The contract of table.slots.put: one is put in, what is nearer to its home gives way. sums.AppendLow onto the slice of a literal: it has no room, so it grows at once. The contract of table.front.bytes. -/
import Derived.Test.YtdhgebdbiehchaaGreatDoorB09
import Derived.Test.YtdhgebdbiehchaaGreatDoorB10
import Derived.Shelf.SlSortCmp.WholeK
import Derived.Ground.SlsfProg
import Derived.Sort.OwnSorted
import Derived.Shelf.SlSortCmp.NoneTotal
import Derived.Test.YtdhgebdbiehchaaGreatDoorB08
import Derived.Test.YtdhgebdbiehchaaGreatDoorB01
import Derived.ArgAppend
import Derived.Lib.SmallJoins
namespace Go.Proofs.YtdhgebdbiehchaaGreatDoor
open Go.RowKit Go.Shelf Go.Maps
set_option linter.unusedSimpArgs false
set_option linter.unusedVariables false
attribute [local go_sem] Oper.semAt_some

def cellsQ (ss : List Sd) : List Value := ss.flatMap fun x => [.int .i64 x.blk, .int .i64 x.no]
theorem cellsQ_snoc (ss : List Sd) (x : Sd) : cellsQ (ss ++ [x]) = cellsQ ss ++ [.int .i64 x.blk, .int .i64 x.no] := by simp [cellsQ]
theorem cellsQ_length (ss : List Sd) : (cellsQ ss).length = ss.length * 2 := by
  induction ss with
  | nil => rfl
  | cons x ss ih =>
    have : cellsQ (x :: ss) = [.int .i64 x.blk, .int .i64 x.no] ++ cellsQ ss := rfl
    rw [this, List.length_append, ih]; simp; omega
theorem info_Pl : ∃ i, Tryz.prog.info? 165 = some i ∧ i.zero = some (.agg #[.int .i64 0, .int .i64 0]) ∧ i.size = 2 ∧ i.bytes = 16 := by
  have h : ((Tryz.prog.info? 165).bind fun i => if i.size = 2 ∧ i.bytes = 16 then i.zero else none) = some (.agg #[.int .i64 0, .int .i64 0]) := by kernel_rfl
  cases hi : Tryz.prog.info? 165 with
  | none => rw [hi] at h; cases h
  | some i =>
    rw [hi] at h
    simp only [Option.bind_some] at h
    split at h
    · rename_i hc; exact ⟨i, rfl, h, hc.1, hc.2⟩
    · cases h

/-- Between two rounds: the slice's box, and the row. -/
def AsI (w : World) (ss : List Sd) (W : World) : Prop :=
  ∃ v, Bx W w.heap.size #[v] 166 ∧ W.ownsRow (w.heap.size + 1) 165 2 v ss.length (cellsQ ss) ∧ Below w.heap.size w W ∧ w.heap.size < W.heap.size
theorem own_kept {W W' : World} {base e size n : Nat} {v : Value} {xs : List Value} (h : W.ownsRow base e size v n xs) {row : Option Nat} (hg : W.grownBy W' row) (hr : ∀ r, row = some r → ∃ o : Obj, W.heap[r]? = some o ∧ o.isCells = false) : W'.ownsRow base e size v n xs := by
  refine h.kept hg ?_
  rcases h.2 with ⟨e, _⟩ | ⟨g, cap, cur, e, _, hgb, _⟩
  · exact .inl (by rw [e]; rfl)
  · refine .inr fun e' => ?_
    rw [e] at e'
    obtain ⟨o, ho, hc⟩ := hr g (by simpa [Value.ownBlock] using e'.symm)
    rw [hgb] at ho; cases ho; cases hc
theorem asI_own (w : World) (B : Nat) (hB : w.heap.size ≤ B) : OwnFrom B (AsI w) := by
  rintro s X Y row ⟨v, h1, h2, h3, h4⟩ hg hr
  have hr' := fun r e => (hr r e).2
  refine ⟨v, h1.kept hg hr', own_kept h2 hg hr', h3.grown hg h3.size (fun k e => ?_), Nat.lt_of_lt_of_le h4 hg.size⟩
  have := (hr k e).1; omega

theorem two_new (W : World) (a b : Value) (t : TypeId) : ∀ j u, [a, b][j]? = some u → (W.alloc (.cells #[a, b] t)).cell? ((⟨W.heap.size, 0, none⟩ : Addr).add j) = some u := by
  intro j u hu
  rw [Addr.add_lit, Nat.zero_add, World.cell?_alloc_at _ _ _ _ rfl]
  simpa using hu
theorem app_box {W w3 : World} {b base e f size n : Nat} {v u : Value} {xs : List Value} {o : Obj} (hb : Bx W b #[u] f) (hrow : W.ownsRow base e size v n xs) (hne : e ≠ f) (hg : (W.alloc o).grownBy w3 v.ownBlock) : Bx w3 b #[u] f :=
  box_grown (hb.alloc o) (hrow.alloc o) hne hg

theorem own_isCells {W : World} {base e size n : Nat} {v : Value} {xs : List Value} (h : W.ownsRow base e size v n xs) : ∀ (j : Nat) (o : Obj), v.ownBlock = some j → W.heap[j]? = some o → o.isCells = true := by
  intro j o hj ho
  rcases h.2 with ⟨rfl, _⟩ | ⟨g, cap, cur, rfl, _, hgb, _⟩
  · simp [Value.ownBlock] at hj
  · have : g = j := by simpa [Value.ownBlock] using hj
    subst this; rw [hgb] at ho; cases ho; rfl

def asAct (z Bm bx : Nat) (x : Sd) : Act :=
  { tmps := #[.slice none 0 0, .func (.func 190) #[] #[.pointer (some ⟨Bm, 0, none⟩)], .pointer (some ⟨z, 0, none⟩), undef, .slice none 0 0, .pointer (some ⟨bx, 0, none⟩), .func (.func 190) #[] #[.pointer (some ⟨Bm, 0, none⟩)], .agg #[.int .i64 x.blk, .int .i64 x.no], undef, undef, undef, undef, undef], defers := [] }

set_option maxRecDepth 100000 in
set_option maxHeartbeats 3200000 in
theorem appendSeq_in (n : Nat) (hn : 6 ≤ n) (Bm b nn : Nat) (L : List Sd) (D : DataW Unit) (w : World) (hz : Bm < w.heap.size) (hm : w.cell? ⟨Bm, 0, none⟩ = some (.map (some b))) (hown : w.ownsMap Tryz.prog 165 rIt b nn D) (hv : View D (fI L)) (hsz : Maps.size D = L.length) (hL : Lives L) (hlen : L.length ≤ 100000000) :
    CallsIn Fence.wide n Tryz.prog 206 #[.slice none 0 0, .func (.func 190) #[] #[.pointer (some ⟨Bm, 0, none⟩)]] w fun e w' => ∃ v ss, e = .returned v ∧ ss.Perm L ∧ w'.ownsRow w.heap.size 165 2 v ss.length (cellsQ ss) ∧ Below w.heap.size w w' := by
  have h1 : 1 ≤ n := by omega
  obtain ⟨i0, hi, hz0, hz1, hz2⟩ := info_Pl
  refine callsIn_of_wp_marks Tryz.func206 rfl trivial ?_ rfl
  simp only [Tryz.ntmps206, List.size_toArray, List.length_cons, List.length_nil, Nat.reduceAdd, Nat.reduceSub, Array.replicate_succ, Array.replicate_zero, List.push_toArray, List.append_toArray, List.nil_append, List.cons_append]
  gi_wp2_with fail
  have hbx := bx_new w #[.slice none 0 0] 166 rfl
  have hBw := (Below.refl w.heap.size w).alloc (Nat.le_refl _) (.cells #[.slice none 0 0] 166)
  have hown' : (w.alloc (.cells #[.slice none 0 0] 166)).ownsMap Tryz.prog 165 rIt b nn D := hown.alloc _
  have hm' : (w.alloc (.cells #[.slice none 0 0] 166)).cell? ⟨Bm, 0, none⟩ = some (.map (some b)) := (hBw.cell (p := ⟨Bm, 0, none⟩) hz).trans hm
  have hzV : (w.alloc (.cells #[.slice none 0 0] 166)).heap.size = w.heap.size + 1 := World.size_alloc _ _
  generalize w.alloc (.cells #[.slice none 0 0] 166) = V at *
  refine wpIn_rangeTells rfl h1 (gf := 190) (lb := #[.pointer (some ⟨Bm, 0, none⟩)]) rfl trivial (enters_of Tryz.func190 (by kernel_rfl) rfl)
    (keys_tells (n - 1) (by omega) Bm b nn L D V (by omega) hm' hown' hv hsz hL)
    KeepsWalks.trans (fun W l o o' _ ho _ hw => KeepsWalks.putObj _ ho hw) (Below.refl _ _) (fun _ => rfl)
    (AsI w) (asI_own w _ (by omega)) ⟨_, hbx, World.ownsRow_nil _ _ _ _, hBw, by omega⟩
    (fun pre x a' W => (x ∈ L ∧ pre.length < L.length) ∧ ∃ bx, w.heap.size + 1 ≤ bx ∧ Bx W bx #[.int .i64 x.blk, .int .i64 x.no] 165 ∧ a' = asAct w.heap.size Bm bx x) ?hAx ?assign ?body ?done
  case hAx =>
    rintro pre x a' _ X Y row ⟨h1, bx, h2, h3, h4⟩ hg hr
    exact ⟨h1, bx, h2, h3.kept hg (fun r e => (hr r e).2), h4⟩
  case assign =>
    rintro l pre x W K hI hP hK
    simp only [plV]
    gi_wp2
    exact hK _ _ ((KeepsOthers.alloc _ _).from _) (KeepsWalks.alloc _ _) ((asI_own w _ (by omega) : OwnFrom V.heap.size _).alloc _ hI)
      ⟨hP, W.heap.size, by obtain ⟨_, _, _, _, h⟩ := hI; omega, bx_new W _ _ rfl, rfl⟩
  case body =>
    rintro l pre x a' W ⟨v, bS, hrow, hB, hZ⟩ ⟨hP, bx, hbx2, bB, rfl⟩
    have x0 := bB.cell (j := 0) rfl
    have x1 := bB.cell (j := 1) rfl
    have s0 := bS.cell (j := 0) rfl
    have s1 := bS.frozen 0
    have hbl := bB.lt
    have hZW : W.heap.size ≤ (W.alloc (.cells #[.int .i64 (x.blk : Int), .int .i64 (x.no : Int)] 165)).heap.size := by simp
    unfold asAct
    gi_wp2_with (first
      | (gi_at_builtin; refine wpListIn_append_own _ rfl _ _ 166 rfl (w.heap.size + 1) 165 i0 (.agg #[.int .i64 0, .int .i64 0]) 2 16 Tryz.underlying166 hi hz0 hz1 hz2 rfl (by decide) _ _ _ rfl (hrow.alloc _) ⟨W.heap.size, 0, none⟩ 1 1 [.int .i64 (x.blk : Int), .int .i64 (x.no : Int)] rfl rfl (two_new _ _ _ _) (by simp [Value.oneCell']) (by unfold maxLen; omega) (by omega) (by simp; omega) ?_; intro v' w3 hown' hgrow _; have bS3 := app_box bS hrow (by decide) hgrow; have t0 := bS3.cell (j := 0) rfl; have t1 := bS3.frozen 0; obtain ⟨g', cap', rfl⟩ := Joins.ownsRow_form hown' (by omega); go_frame)
      | gi_in)
    have hko : KeepsOthers W (w3.setCell ⟨w.heap.size, 0, none⟩ (.slice (some ⟨g', 0, none⟩) (pre.length + 1) cap')) := ((KeepsOthers.alloc W _).trans (KeepsOthers.of_grownBy hgrow (own_isCells (hrow.alloc _)))).trans (KeepsOthers.setCell _ _ _)
    have hgb := own_ge hown' g' rfl
    have hgs := grownBy_setCell' w3 w.heap.size (.slice (some ⟨g', 0, none⟩) (pre.length + 1) cap')
    have hB3 : Below w.heap.size w w3 := (hB.alloc (by omega) _).grown hgrow (by simp; omega) (fun k e => by have := own_ge hrow k e; omega)
    refine ⟨hko.from _, hko.walks, _, bS3.set1 _, ?_, hB3.setCell (Nat.le_refl _) _, ?_⟩
    · rw [cellsQ_snoc, List.length_append]
      exact hown'.kept hgs (.inr (fun e => by simp [Value.ownBlock] at e; omega))
    · have := hgs.size
      have := hgrow.size
      simp at *
      omega
  case done =>
    rintro Dd xs W hD hperm ⟨v, bS, hrow, hB, hZ⟩ hK
    have s0 := bS.cell (j := 0) rfl
    gi_wp2_with fail
    refine ⟨by simp, .inl ⟨_, _, rfl, run_takeDeferred hK, ?_⟩⟩
    refine ⟨v, ?_, v, xs, rfl, hperm, ?_, ?_⟩
    · simp [results, Tryz.results206, go_sem]
    · exact Joins.ownsRow_le (own_kept hrow (grownBy_putObj' W Dd (.deferred none)) (fun r e => by cases e; exact ⟨_, hK, rfl⟩)) (by omega)
    · exact hB.grown (grownBy_putObj' W Dd (.deferred none)) hB.size (fun k e => by cases e; omega)

set_option maxHeartbeats 800000 in
theorem collect_in (n : Nat) (hn : 7 ≤ n) (Bm b nn : Nat) (L : List Sd) (D : DataW Unit) (w : World) (hz : Bm < w.heap.size) (hm : w.cell? ⟨Bm, 0, none⟩ = some (.map (some b))) (hown : w.ownsMap Tryz.prog 165 rIt b nn D) (hv : View D (fI L)) (hsz : Maps.size D = L.length) (hL : Lives L) (hlen : L.length ≤ 100000000) :
    Calls Tryz.prog 188 #[.func (.func 190) #[] #[.pointer (some ⟨Bm, 0, none⟩)]] w fun e w' => ∃ v ss, e = .returned v ∧ ss.Perm L ∧ w'.ownsRow w.heap.size 165 2 v ss.length (cellsQ ss) ∧ Below w.heap.size w w' := by
  have HA : Hid _ := callsIn_wide.1 (appendSeq_in 6 (by omega) Bm b nn L D w hz hm hown hv hsz hL hlen)
  clear hm hown hv hsz hL
  go_enter Tryz.func188, Tryz.ntmps188
  go_wp2_with fail
  refine Calls.mono HA.out ?_
  rintro e w1 ⟨v, ss, rfl, hp, hr, hb⟩
  go_wp2
  go_ret
  exact ⟨v, ss, rfl, hp, hr, hb⟩
end Go.Proofs.YtdhgebdbiehchaaGreatDoor
namespace Go.Proofs.YtdhgebdbiehchaaGreatDoor
open Go.RowKit
open Go.Shelf
set_option linter.unusedSimpArgs false
set_option linter.unusedVariables false

def Tryz.sortPl_ren : Go.Shelf.Ren := ⟨fun | 6 => 189 | 15 => 208 | 14 => 207 | 28 => 220 | 29 => 221 | 20 => 212 | 21 => 213 | 22 => 214 | 23 => 215 | 24 => 216 | 25 => 217 | 26 => 218 | 27 => 219 | 46 => 224 | 47 => 225 | 48 => 226 | 49 => 227 | 50 => 228 | 57 => 233 | n => n, fun | 22 => 166 | 24 => 165 | 25 => 248 | 3 => 3 | 39 => 308 | 0 => 0 | 53 => 227 | 55 => 251 | 4 => 4 | 46 => 319 | 45 => 318 | 50 => 323 | 5 => 5 | 9 => 9 | 66 => 328 | 70 => 332 | 76 => 338 | 77 => 339 | n => n, fun | n => n⟩
theorem Tryz.sortPl : Go.Proofs.SlLaysF0.n6 Tryz.prog Tryz.sortPl_ren := {
  mixed := by kernel_rfl,
  f6 := ⟨Tryz.f189.name, by decide, Tryz.func189.trans (congrArg some (by kernel_rfl))⟩,
  f14 := ⟨Tryz.f207.name, by decide, Tryz.func207.trans (congrArg some (by kernel_rfl))⟩,
  f15 := Tryz.func208.trans (congrArg some (by kernel_rfl)),
  f20 := ⟨Tryz.f212.name, by decide, Tryz.func212.trans (congrArg some (by kernel_rfl))⟩,
  f21 := ⟨Tryz.f213.name, by decide, Tryz.func213.trans (congrArg some (by kernel_rfl))⟩,
  f22 := ⟨Tryz.f214.name, by decide, Tryz.func214.trans (congrArg some (by kernel_rfl))⟩,
  f23 := ⟨Tryz.f215.name, by decide, Tryz.func215.trans (congrArg some (by kernel_rfl))⟩,
  f24 := ⟨Tryz.f216.name, by decide, Tryz.func216.trans (congrArg some (by kernel_rfl))⟩,
  f25 := ⟨Tryz.f217.name, by decide, Tryz.func217.trans (congrArg some (by kernel_rfl))⟩,
  f26 := ⟨Tryz.f218.name, by decide, Tryz.func218.trans (congrArg some (by kernel_rfl))⟩,
  f27 := ⟨Tryz.f219.name, by decide, Tryz.func219.trans (congrArg some (by kernel_rfl))⟩,
  f28 := Tryz.func220.trans (congrArg some (by kernel_rfl)),
  f29 := Tryz.func221.trans (congrArg some (by kernel_rfl)),
  f46 := ⟨Tryz.f224.name, by decide, Tryz.func224.trans (congrArg some (by kernel_rfl))⟩,
  f47 := Tryz.func225.trans (congrArg some (by kernel_rfl)),
  f48 := Tryz.func226.trans (congrArg some (by kernel_rfl)),
  f49 := ⟨Tryz.f227.name, by decide, Tryz.func227.trans (congrArg some (by kernel_rfl))⟩,
  f50 := ⟨Tryz.f228.name, by decide, Tryz.func228.trans (congrArg some (by kernel_rfl))⟩,
  f57 := ⟨Tryz.f233.name, by decide, Tryz.func233.trans (congrArg some (by kernel_rfl))⟩,
  t0 := Tryz.underlying0,
  a0 := Tryz.isAgg0,
  z0 := Tryz.sizeOf0,
  v0 := Tryz.zeroValue0,
  t3 := Tryz.underlying3,
  a3 := Tryz.isAgg3,
  z3 := Tryz.sizeOf3,
  v3 := Tryz.zeroValue3,
  t4 := Tryz.underlying4,
  a4 := Tryz.isAgg4,
  z4 := Tryz.sizeOf4,
  v4 := Tryz.zeroValue4,
  t5 := Tryz.underlying5,
  a5 := Tryz.isAgg5,
  z5 := Tryz.sizeOf5,
  v5 := Tryz.zeroValue5,
  t9 := Tryz.underlying9,
  a9 := Tryz.isAgg9,
  z9 := Tryz.sizeOf9,
  v9 := Tryz.zeroValue9,
  t22 := Tryz.underlying166,
  a22 := Tryz.isAgg166,
  z22 := Tryz.sizeOf166,
  v22 := Tryz.zeroValue166,
  t25 := Tryz.underlying248,
  a25 := Tryz.isAgg248,
  z25 := Tryz.sizeOf248,
  v25 := Tryz.zeroValue248,
  t39 := Tryz.underlying308,
  a39 := Tryz.isAgg308,
  z39 := Tryz.sizeOf308,
  v39 := Tryz.zeroValue308,
  t45 := Tryz.underlying318,
  a45 := Tryz.isAgg318,
  z45 := Tryz.sizeOf318,
  v45 := Tryz.zeroValue318,
  t46 := Tryz.underlying319,
  a46 := Tryz.isAgg319,
  z46 := Tryz.sizeOf319,
  v46 := Tryz.zeroValue319,
  t50 := Tryz.underlying323,
  a50 := Tryz.isAgg323,
  z50 := Tryz.sizeOf323,
  v50 := Tryz.zeroValue323,
  t53 := Tryz.underlying227,
  a53 := Tryz.isAgg227,
  z53 := Tryz.sizeOf227,
  v53 := Tryz.zeroValue227,
  t55 := Tryz.underlying251,
  a55 := Tryz.isAgg251,
  z55 := Tryz.sizeOf251,
  v55 := Tryz.zeroValue251,
  t66 := Tryz.underlying328,
  a66 := Tryz.isAgg328,
  z66 := Tryz.sizeOf328,
  v66 := Tryz.zeroValue328,
  t70 := Tryz.underlying332,
  a70 := Tryz.isAgg332,
  z70 := Tryz.sizeOf332,
  v70 := Tryz.zeroValue332,
  t76 := Tryz.underlying338,
  a76 := Tryz.isAgg338,
  z76 := Tryz.sizeOf338,
  v76 := Tryz.zeroValue338,
  t77 := Tryz.underlying339,
  a77 := Tryz.isAgg339,
  z77 := Tryz.sizeOf339,
  v77 := Tryz.zeroValue339 }

/-- A place's two cells. -/
def encP (x : Int × Int) : List Value := [.int .i64 x.1, .int .i64 x.2]
def cmpP (x y : Int × Int) : Int := orI (cmpI x.1 y.1) (cmpI x.2 y.2)
theorem ltP (x y : Int × Int) : ltOf cmpP x y = decide (x.1 < y.1 ∨ (x.1 = y.1 ∧ x.2 < y.2)) := by
  unfold ltOf cmpP orI cmpI
  by_cases h1 : x.1 < y.1
  · simp [h1]
  · by_cases h2 : y.1 < x.1
    · have : x.1 ≠ y.1 := by omega
      simp [h1, h2, this]
    · have : x.1 = y.1 := by omega
      by_cases h3 : x.2 < y.2
      · simp [this, h3]
      · by_cases h4 : y.2 < x.2 <;> simp [this, h3, h4]
theorem swoP : Sort.SWO (ltOf cmpP) where
  irrefl x := by rw [ltP]; simp
  trans x y z h1 h2 := by rw [ltP] at *; simp at *; omega
  ntrans x y z h1 h2 := by rw [ltP] at *; simp at *; omega
theorem cmpLaysP (blk off size : Nat) (w : World) : CmpLays Tryz.prog 150 #[] encP 2 cmpP blk off size w :=
  fun _ _ _ _ x y => placeCmp_any x.1 x.2 y.1 y.2 _

theorem sortFunc_any (blk cap : Nat) (d : Array (Int × Int)) (w : World) (hH : Sort.HoldsK encP 2 w blk 0 d) (hblk : blk < w.heap.size) (hsz : d.size < 4611686018427387904) :
    Calls Tryz.prog 189 #[.slice (some ⟨blk, 0, none⟩) d.size cap, .func (.func 150) #[] #[]] w fun e w' => e = .returned (.tuple #[]) ∧ ∃ d' n os, Sort.PermIn 0 d.size d d' ∧ Sort.SortedIn (ltOf cmpP) 0 d.size d' ∧ w' = sortWorldK encP 2 w blk 0 n d' os :=
  AnyQ.slices_SortFunc Tryz.sortPl 2 Tryz.isAgg165 Tryz.sizeOf165 encP (fun _ => rfl) (fun x v hv => by simp [encP] at hv; rcases hv with rfl | rfl <;> rfl) cmpP swoP 150 #[] blk 0 cap d w
    (enters_of Tryz.func150 (by kernel_rfl) rfl) (cmpLaysP blk 0 d.size w) hH hblk hsz
end Go.Proofs.YtdhgebdbiehchaaGreatDoor
namespace Go.Proofs.YtdhgebdbiehchaaGreatDoor
open Go.RowKit Go.Shelf Go.Maps
set_option linter.unusedSimpArgs false
set_option linter.unusedVariables false

def plI (x : Sd) : Int × Int := ((x.blk : Int), (x.no : Int))
theorem cellsQ_at (ss : List Sd) (j : Nat) (h : j < ss.length * 2) : (cellsQ ss)[j]? = some ((encP (plI (ss[j / 2]'(by omega))))[j % 2]!) := by
  induction ss generalizing j with
  | nil => simp at h
  | cons x ss ih =>
    have e : cellsQ (x :: ss) = [.int .i64 x.blk, .int .i64 x.no] ++ cellsQ ss := rfl
    rw [e]
    match j, h with
    | 0, _ => rfl
    | 1, _ => rfl
    | j + 2, h =>
      have h' : j < ss.length * 2 := by simp at h; omega
      rw [List.getElem?_append_right (by simp)]
      have := ih j h'
      simp only [List.length_cons, List.length_nil, Nat.add_sub_cancel]
      rw [this]
      congr 2
      · have e1 : (j + 2) / 2 = j / 2 + 1 := by omega
        simp [e1]
      · omega
theorem flat_cells (ss : List Sd) : (Sort.flatK encP 2 (ss.map plI).toArray).toList = cellsQ ss := by
  apply List.ext_getElem?
  intro j
  by_cases h : j < ss.length * 2
  · rw [cellsQ_at ss j h, Array.getElem?_toList]
    have h2 : j < (Sort.flatK encP 2 (ss.map plI).toArray).size := by simp; omega
    rw [Array.getElem?_eq_getElem h2]
    have h3 := Sort.get_flatK encP 2 (ss.map plI).toArray j (by simpa using h)
    rw [getElem!_pos (Sort.flatK encP 2 (ss.map plI).toArray) j h2] at h3
    rw [h3]
    have h4 : j / 2 < (ss.map plI).toArray.size := by simp; omega
    rw [getElem!_pos (ss.map plI).toArray (j / 2) h4]
    simp
  · rw [List.getElem?_eq_none (by simp; omega), List.getElem?_eq_none (by rw [cellsQ_length]; omega)]
theorem take_put (cur F : Array Value) (h : F.size ≤ cur.size) : (Sort.putCells id 0 F cur).toList.take F.size = F.toList := by
  apply List.ext_getElem?
  intro j
  by_cases hj : j < F.size
  · rw [List.getElem?_take_of_lt hj, Array.getElem?_toList]
    simp [Sort.putCells, hj, show j < cur.size by omega]
  · rw [List.getElem?_take_eq_none (by omega), List.getElem?_eq_none (by simp; omega)]

/-- A row of places as the sort asks for it; and behind the sort. -/
theorem holds_of_own {w : World} {base g cap : Nat} {ss : List Sd} (h : w.ownsRow base 165 2 (.slice (some ⟨g, 0, none⟩) ss.length cap) ss.length (cellsQ ss)) : Sort.HoldsK encP 2 w g 0 (ss.map plI).toArray := by
  have h' := h
  rcases h.2 with ⟨e, _⟩ | ⟨g', cap', cur, e, hb, hg, _⟩
  · cases e
  · cases e
    intro j hj
    have hj' : j < ss.length * 2 := by simpa using hj
    refine ⟨?_, by simp [World.frozen?, hg]⟩
    have h1 := h'.cellAt j hj'
    rw [Nat.zero_add, h1, ← flat_cells, Array.getElem?_toList, Array.getElem?_eq_getElem hj, getElem!_pos (Sort.flatK encP 2 (ss.map plI).toArray) j hj]
    rfl
theorem heap_sortedK {w : World} {g n : Nat} {os : Array Obj} {cur : Array Value} {e : TypeId} {fr : Nat × Nat} (d : Array (Int × Int)) (hb : w.heap[g]? = some (.cells cur e fr)) :
    (sortWorldK encP 2 w g 0 n d os).heap[g]? = some (.cells (Sort.putCells id 0 (Sort.flatK encP 2 d) cur) e fr) := by
  have hg : g < w.heap.size := (Array.getElem?_eq_some_iff.1 hb).1
  unfold sortWorldK Sort.putRowK
  rw [Sort.heap_grow_old _ _ (by simpa using hg)]
  simp [Sort.putRow, Sort.mapBlock, Sort.ahead, Array.getElem?_modify, hb, Sort.onCells]
theorem grown_sortedK {w : World} {g n : Nat} {os : Array Obj} (d : Array (Int × Int)) : w.grownBy (sortWorldK encP 2 w g 0 n d os) (some g) := by
  unfold sortWorldK Sort.putRowK
  refine ⟨rfl, rfl, rfl, by simp, fun k hk hne => ?_⟩
  rw [Sort.heap_grow_old _ _ (by simpa using hk)]
  have : g ≠ k := fun e => hne (by rw [e])
  simp [Sort.putRow, Sort.mapBlock, Sort.ahead, Array.getElem?_modify, this]
theorem own_sortedK {w : World} {base g cap n : Nat} {os : Array Obj} {ss ts : List Sd} (hl : ts.length = ss.length) (h : w.ownsRow base 165 2 (.slice (some ⟨g, 0, none⟩) ss.length cap) ss.length (cellsQ ss)) :
    (sortWorldK encP 2 w g 0 n (ts.map plI).toArray os).ownsRow base 165 2 (.slice (some ⟨g, 0, none⟩) ss.length cap) ss.length (cellsQ ts) := by
  rcases h.2 with ⟨e, _⟩ | ⟨g', cap', cur, e, hb, hg, h1, h2, h3, h4⟩
  · cases e
  · cases e
    refine ⟨by rw [cellsQ_length]; omega, .inr ⟨g, cap, _, rfl, hb, heap_sortedK _ hg, h1, h2, by simp [Sort.putCells, h3], ?_⟩⟩
    have := take_put cur (Sort.flatK encP 2 (ts.map plI).toArray) (by simp; omega)
    rw [flat_cells] at this
    rw [← this]
    congr 1
    simp [hl]

/-- What is sorted, of those that live. -/
theorem sorted_lives {L ss : List Sd} {d' : Array (Int × Int)} (hL : Lives L) (hp : ss.Perm L) (h1 : Sort.PermIn 0 (ss.map plI).toArray.size (ss.map plI).toArray d') (h2 : Sort.SortedIn (ltOf cmpP) 0 (ss.map plI).toArray.size d') : d' = (L.map plI).toArray := by
  have hsz : d'.size = ss.length := by have := h1.1; simpa using this
  have hlen : L.length = ss.length := hp.length_eq.symm
  have hperm : d'.toList.Perm (L.map plI) := by
    have := h1.2.2
    have e1 : (d'.extract 0 (ss.map plI).toArray.size).toList = d'.toList := by simp [← hsz]
    have e2 : ((ss.map plI).toArray.extract 0 (ss.map plI).toArray.size).toList = ss.map plI := by simp [List.take_of_length_le]
    rw [e1, e2] at this
    exact this.trans (hp.map plI)
  have hsL : (L.map plI).Pairwise (fun x y => ltOf cmpP x y = true) := by
    rw [List.pairwise_map]
    refine hL.rise.imp ?_
    intro x y h
    rw [ltP]
    unfold placeLt at h
    simp [plI]
    omega
  have hsd : d'.toList.Pairwise (fun x y => ltOf cmpP y x = false) := by
    rw [List.pairwise_iff_getElem]
    intro i j hi hj hij
    have hi' : i < d'.size := by simpa using hi
    have hj' : j < d'.size := by simpa using hj
    have := h2 i j (Nat.zero_le _) hij (by simp; omega)
    rw [getElem!_pos d' j hj', getElem!_pos d' i hi'] at this
    simpa using this
  have hsL2 : (L.map plI).Pairwise (fun x y => ltOf cmpP y x = false) := hsL.imp (fun {x y} h => by
    rw [ltP] at h ⊢
    simp at h ⊢
    omega)
  have heq : d'.toList = L.map plI := hperm.eq_of_pairwise (fun x y _ _ a b => by
    rw [ltP] at a b
    simp at a b
    have : x.1 = y.1 ∧ x.2 = y.2 := by omega
    exact Prod.ext this.1 this.2) hsd hsL2
  rw [← heq]
end Go.Proofs.YtdhgebdbiehchaaGreatDoor
namespace Go.Proofs.YtdhgebdbiehchaaGreatDoor
open Go.RowKit Go.Shelf Go.Maps
set_option linter.unusedSimpArgs false
set_option linter.unusedVariables false

set_option maxHeartbeats 1600000 in
theorem sortedFunc_any (Bm b nn : Nat) (L : List Sd) (D : DataW Unit) (w : World) (hz : Bm < w.heap.size) (hm : w.cell? ⟨Bm, 0, none⟩ = some (.map (some b))) (hown : w.ownsMap Tryz.prog 165 rIt b nn D) (hv : View D (fI L)) (hsz : Maps.size D = L.length) (hL : Lives L) (hlen : L.length ≤ 100000000) :
    Calls Tryz.prog 148 #[.func (.func 190) #[] #[.pointer (some ⟨Bm, 0, none⟩)], .func (.func 150) #[] #[]] w fun e w' => ∃ a cap, e = .returned (.slice a L.length cap) ∧ w'.ownsRow w.heap.size 165 2 (.slice a L.length cap) L.length (cellsQ L) ∧ Below w.heap.size w w' := by
  have HC : Hid _ := collect_in 7 (by omega) Bm b nn L D w hz hm hown hv hsz hL hlen
  have HL : Hid (Lives L) := hL
  clear hm hown hv hsz hL
  go_enter Tryz.func148, Tryz.ntmps148
  go_wp2_with fail
  refine Calls.mono HC.out ?_
  rintro e w1 ⟨v, ss, rfl, hp, hr, hb⟩
  have hll : ss.length = L.length := hp.length_eq
  rcases hr.2 with ⟨hnil, h0⟩ | ⟨g, cap, cur, rfl, hbase, hg, h1, h2, h3, h4⟩
  · subst hnil
    have hL0 : L = [] := List.length_eq_zero_iff.1 (by omega)
    subst hL0
    have hss : ss = [] := List.length_eq_zero_iff.1 (by simpa using hll)
    subst hss
    have HN : Hid (∀ wx, Calls Tryz.prog 189 #[.slice none 0 0, .func (.func 150) #[] #[]] wx fun e w' => e = .returned (.tuple #[]) ∧ w' = wx) := fun wx => AnyF.slices_SortFunc_none Tryz.sortPl none 0 _ wx
    clear HC hp hll
    go_wp2_with fail
    refine (HN.out _).mono ?_
    rintro e w2 ⟨rfl, rfl⟩
    go_wp2
    go_ret
    exact ⟨none, 0, rfl, hr, hb⟩
  · have HS : Hid _ := sortFunc_any g cap (ss.map plI).toArray w1 (holds_of_own hr) (Array.getElem?_eq_some_iff.1 hg).1 (by simp; omega)
    have HP : Hid (ss.Perm L) := hp
    have HR : Hid (w1.ownsRow w.heap.size 165 2 (.slice (some ⟨g, 0, none⟩) ss.length cap) ss.length (cellsQ ss)) := hr
    have hsz2 : (ss.map plI).toArray.size = ss.length := by simp
    rw [hsz2] at HS
    have HLL : Hid (ss.length = L.length) := hll
    clear HC hp hr hg h1 h2 h3 h4 hsz2 hll
    go_wp2_with fail
    refine Calls.mono HS.out ?_
    rintro e w2 ⟨rfl, d', n, os, q1, q2, rfl⟩
    have hd : d' = (L.map plI).toArray := sorted_lives HL.out HP.out (by rw [show (ss.map plI).toArray.size = ss.length by simp]; exact q1) (by rw [show (ss.map plI).toArray.size = ss.length by simp]; exact q2)
    subst hd
    have hr2 := own_sortedK (n := n) (os := os) (ts := L) HLL.out.symm HR.out
    have hb2 : Below w.heap.size w (sortWorldK encP 2 w1 g 0 n (L.map plI).toArray os) := hb.grown (grown_sortedK _) hb.size (fun k e => by cases e; exact hbase)
    rw [HLL.out] at hr2
    generalize sortWorldK encP 2 w1 g 0 n (L.map plI).toArray os = w2 at *
    have HR2 : Hid _ := hr2
    clear q1 q2 HS HR hr2
    go_wp2
    go_ret
    exact ⟨some ⟨g, 0, none⟩, cap, by rw [← HLL.out]; rfl, HR2.out, hb2⟩

set_option maxHeartbeats 1600000 in
theorem places_any (h0 h1 h2 : Int) (bi bp n : Nat) (L : List Sd) (w : World) (hm : Maps2 w bi bp n L) (hL : Lives L) (hlen : L.length ≤ 100000000) :
    Calls Tryz.prog 90 #[.agg #[.int .i64 h0, .int .i64 h1, .int .i64 h2, .map (some bi), .map (some bp)]] w fun e w' => ∃ a cap, e = .returned (.slice a L.length cap) ∧ w'.ownsRow w.heap.size 165 2 (.slice a L.length cap) L.length (cellsQ L) ∧ Below w.heap.size w w' := by
  obtain ⟨hbi, hbp⟩ := hm.lt
  obtain ⟨DI, DP, ⟨hI, vI, zI⟩, hP, vP⟩ := hm
  have HK : Hid (∀ wx mb, _) := fun wx mb => callsIn_wide.1 (keys_in 1 mb wx)
  have HI : Hid (w.ownsMap Tryz.prog 165 rIt bi n DI) := hI
  have HV : Hid (View DI (fI L)) := vI
  have HL : Hid (Lives L) := hL
  have HZ : Hid (Maps.size DI = L.length) := zI
  clear hI hP vP vI hL zI
  go_enter Tryz.func90, Tryz.ntmps90
  go_wp2_with fail
  refine Calls.mono (HK.out _ _) ?_
  rintro e w1 ⟨rfl, rfl⟩
  obtain ⟨W1, hW1⟩ : ∃ W1, W1 = (w.alloc (.cells #[.int .i64 h0, .int .i64 h1, .int .i64 h2, .map (some bi), .map (some bp)] 100)).alloc (.cells #[.map (some bi)] 97) := ⟨_, rfl⟩
  have hB : Below w.heap.size w W1 := by rw [hW1]; exact ((Below.refl _ _).alloc (Nat.le_refl _) _).alloc (by simp) _
  have hz : W1.heap.size = w.heap.size + 1 + 1 := by rw [hW1]; simp
  have hc : W1.cell? ⟨w.heap.size + 1, 0, none⟩ = some (.map (some bi)) := by rw [hW1, World.cell?_alloc_at _ _ _ _ (by simp)]; rfl
  have hI : W1.ownsMap Tryz.prog 165 rIt bi n DI := by rw [hW1]; exact (HI.out.alloc _).alloc _
  have HS : Hid _ := sortedFunc_any (w.heap.size + 1) bi n L DI W1 (by omega) hc hI HV.out HZ.out HL.out hlen
  have hsize : (w.alloc (.cells #[.int .i64 h0, .int .i64 h1, .int .i64 h2, .map (some bi), .map (some bp)] 100)).heap.size = w.heap.size + 1 := by simp
  rw [hsize]
  rw [← hW1]
  clear hc hI hsize HK hW1
  go_wp2_with fail
  refine Calls.mono HS.out ?_
  rintro e w2 ⟨a, cap, rfl, hr, hb⟩
  have HR : Hid (w2.ownsRow w.heap.size 165 2 (.slice a L.length cap) L.length (cellsQ L)) := Joins.ownsRow_le hr (by omega)
  clear HS hr
  go_wp2
  go_ret
  exact ⟨a, cap, rfl, HR.out, hB.trans (hb.mono (by omega))⟩
end Go.Proofs.YtdhgebdbiehchaaGreatDoor
namespace Go.Proofs.YtdhgebdbiehchaaGreatDoor
open Go.RowKit Go.Maps
set_option linter.unusedSimpArgs false
set_option linter.unusedVariables false

theorem zeroIt (w : World) : (zeroValue 54).run Tryz.prog w = .ok (.agg #[.string ⟨#[]⟩, .string ⟨#[]⟩]) w := by first | exact Tryz.zeroValue54 w | kernel_rfl

set_option maxRecDepth 100000 in
set_option maxHeartbeats 1600000 in
theorem at_any (h0 h1 h2 : Int) (bi bp n : Nat) (L : List Sd) (x : Sd) (w : World) (hm : Maps2 w bi bp n L) (hL : Lives L) (hx : x ∈ L) :
    Calls Tryz.prog 94 #[.agg #[.int .i64 h0, .int .i64 h1, .int .i64 h2, .map (some bi), .map (some bp)], .agg #[.int .i64 x.blk, .int .i64 x.no]] w fun e w' => e = .returned (.agg #[.string (S x.key), .string (S x.val)]) ∧ Below w.heap.size w w' := by
  obtain ⟨hbi, hbp⟩ := hm.lt
  obtain ⟨DI, DP, ⟨hI, vI, zI⟩, hP, vP⟩ := hm
  have hs := hL.small x hx
  have hpk := keyOf_pk hs.1 hs.2
  have hat : DI.atKey (pk x.blk x.no) (.agg [.lit (.string []), .lit (.string [])]) = itemD x := by rw [(vI.2 _).1, fI_mem pkInj hL hx]; rfl
  have hI3 := ((hI.alloc (.cells #[.int .i64 h0, .int .i64 h1, .int .i64 h2, .map (some bi), .map (some bp)] 100)).alloc (.cells #[.int .i64 (x.blk : Int), .int .i64 (x.no : Int)] 165)).alloc (.cells #[.string ⟨#[]⟩, .string ⟨#[]⟩] 54)
  obtain ⟨v, ps, hrun, hv⟩ := hI3.lookup keyedPl Tryz.underlying97 (zeroIt _) (zd := .agg [.lit (.string []), .lit (.string [])]) (zp := []) (rIt_mk _ _) hpk
  rw [hat] at hv
  obtain ⟨a', b', rfl, ea, eb⟩ := rIt_inv hv
  have ea' : a' = S x.key := by rw [← ea, S_of]
  have eb' : b' = S x.val := by rw [← eb, S_of]
  subst ea' eb'
  clear hat hv ea eb vI vP zI hI hP hI3
  go_enter Tryz.func94, Tryz.ntmps94
  go_wp2
  refine bodyPost_ret (v := .agg #[.string (S x.key), .string (S x.val)]) ?_ rfl ⟨rfl, ?_⟩
  · simp [results, Tryz.results94, go_sem]
  · exact (((Below.refl _ _).alloc (Nat.le_refl _) _).alloc (by simp) _).alloc (by simp; omega) _
end Go.Proofs.YtdhgebdbiehchaaGreatDoor
namespace Go.Proofs.YtdhgebdbiehchaaGreatDoor
open Go.RowKit
set_option linter.unusedSimpArgs false
set_option linter.unusedVariables false

/-- Four stores into one block. -/
def put4 (w : World) (g k : Nat) (a b c d : Value) : World := (((w.setCell ⟨g, k, none⟩ a).setCell ⟨g, k + 1, none⟩ b).setCell ⟨g, k + 2, none⟩ c).setCell ⟨g, k + 3, none⟩ d
theorem put4_far (w : World) {g m : Nat} (h : g ≠ m) (k : Nat) (a b c d : Value) (j : Nat) : (put4 w g k a b c d).cell? ⟨m, j, none⟩ = w.cell? ⟨m, j, none⟩ := by
  unfold put4
  rw [World.cell?_setCell_far _ _ _ _ h, World.cell?_setCell_far _ _ _ _ h, World.cell?_setCell_far _ _ _ _ h, World.cell?_setCell_far _ _ _ _ h]
theorem put4_below {w w0 : World} {g n : Nat} (h : Below n w0 w) (hg : n ≤ g) (k : Nat) (a b c d : Value) : Below n w0 (put4 w g k a b c d) :=
  (((h.setCell hg _).setCell hg _).setCell hg _).setCell hg _
theorem put4_size (w : World) (g k : Nat) (a b c d : Value) : (put4 w g k a b c d).heap.size = w.heap.size := by simp [put4]
theorem own_store4 {w : World} {base g cap n : Nat} {t : List (Option Slt)} {a : Nat} (x : Slt) (h : w.ownsRow base 175 4 (.slice (some ⟨g, 0, none⟩) n cap) n (cellsP t)) (hl : t.length = n) (ha : a < n) :
    (put4 w g (a * 4) (.int .u8 1) (.int .i64 x.num) (.int .i64 x.blk) (.int .i64 x.no)).ownsRow base 175 4 (.slice (some ⟨g, 0, none⟩) n cap) n (cellsP (t.set a (some x))) := by
  rw [← cellsP_set (by omega) x]
  exact ((((h.stored _ _).1.stored _ _).1.stored _ _).1.stored _ _).1
theorem own_put4_other {w : World} {base e size g cap n : Nat} {xs : List Value} (h : w.ownsRow base e size (.slice (some ⟨g, 0, none⟩) n cap) n xs) {b : Nat} (hb : g ≠ b) (k : Nat) (v0 v1 v2 v3 : Value) : (put4 w b k v0 v1 v2 v3).ownsRow base e size (.slice (some ⟨g, 0, none⟩) n cap) n xs :=
  own_set_other (own_set_other (own_set_other (own_set_other h hb _ _) hb _ _) hb _ _) hb _ _
/-- A slot of the program's in a box of its own. -/
def PBox (w : World) (g : Nat) (x : Slt) : Prop := (w.cell? ⟨g, 0, none⟩ = some (.int .u8 1) ∧ w.cell? ⟨g, 1, none⟩ = some (.int .i64 x.num) ∧ w.cell? ⟨g, 2, none⟩ = some (.int .i64 x.blk) ∧ w.cell? ⟨g, 3, none⟩ = some (.int .i64 x.no)) ∧ ∀ i, w.frozen? ⟨g, i, none⟩ = false
theorem PBox.below {w w' : World} {g m : Nat} {x : Slt} (h : PBox w g x) (hb : Below m w w') (hg : g < m) : PBox w' g x :=
  ⟨⟨(hb.cell (p := ⟨g, 0, none⟩) hg).trans h.1.1, (hb.cell (p := ⟨g, 1, none⟩) hg).trans h.1.2.1, (hb.cell (p := ⟨g, 2, none⟩) hg).trans h.1.2.2.1, (hb.cell (p := ⟨g, 3, none⟩) hg).trans h.1.2.2.2⟩, fun i => (hb.frozen (p := ⟨g, i, none⟩) hg).trans (h.2 i)⟩
theorem pbox_put4 {w : World} {b : Nat} {x : Slt} (h : PBox w b x) (y : Slt) : PBox (put4 w b 0 (.int .u8 1) (.int .i64 y.num) (.int .i64 y.blk) (.int .i64 y.no)) b y := by
  obtain ⟨⟨h0, h1, h2, h3⟩, hf⟩ := h
  unfold put4
  simp only [Nat.zero_add]
  refine ⟨⟨?_, ?_, ?_, ?_⟩, fun i => by simp [hf i]⟩
  · rw [off_ne (by decide), off_ne (by decide), off_ne (by decide), World.cell?_setCell_same _ _ _ h0]
  · rw [off_ne (by decide), off_ne (by decide), World.cell?_setCell_same _ _ _ (by rw [off_ne (by decide)]; exact h1)]
  · rw [off_ne (by decide), World.cell?_setCell_same _ _ _ (by rw [off_ne (by decide), off_ne (by decide)]; exact h2)]
  · rw [World.cell?_setCell_same _ _ _ (by rw [off_ne (by decide), off_ne (by decide), off_ne (by decide)]; exact h3)]
theorem pbox_put4_other {w : World} {b g : Nat} {x : Slt} (h : PBox w b x) (hg : g ≠ b) (k : Nat) (v0 v1 v2 v3 : Value) : PBox (put4 w g k v0 v1 v2 v3) b x := by
  obtain ⟨⟨h0, h1, h2, h3⟩, hf⟩ := h
  exact ⟨⟨(put4_far w hg _ _ _ _ _ _).trans h0, (put4_far w hg _ _ _ _ _ _).trans h1, (put4_far w hg _ _ _ _ _ _).trans h2, (put4_far w hg _ _ _ _ _ _).trans h3⟩, fun i => by simp [put4, hf i]⟩

/-- All below a bound is as it was, and all that was there but one block. -/
def BelowG (base g : Nat) (w w' : World) : Prop := Below base w w' ∧ Turn2 g g w w'
theorem BelowG.set {base g b : Nat} {w w' : World} (h : BelowG base g w w') (hb : b = g ∨ w.heap.size ≤ b) (hbb : base ≤ b) (j : Nat) (v : Value) : BelowG base g w (w'.setCell ⟨b, j, none⟩ v) :=
  ⟨h.1.setCell hbb _, ⟨h.2.os, h.2.tape, h.2.output, by simpa [World.setCell] using h.2.size, fun k hk h1 h2 => (Below.heap_setCell w' ⟨b, j, none⟩ v k (by show k ≠ b; omega)).trans (h.2.block k hk h1 h2)⟩⟩
theorem BelowG.put4 {base g b : Nat} {w w' : World} (h : BelowG base g w w') (hb : b = g ∨ w.heap.size ≤ b) (hbb : base ≤ b) (k : Nat) (v0 v1 v2 v3 : Value) : BelowG base g w (put4 w' b k v0 v1 v2 v3) :=
  (((h.set hb hbb _ _).set hb hbb _ _).set hb hbb _ _).set hb hbb _ _
theorem BelowG.drew {base g : Nat} {w w' : World} (h : BelowG base g w w') : BelowG base g w w'.drew := ⟨h.1.drew, h.2.os, h.2.tape, h.2.output, h.2.size, h.2.block⟩

/-- All that is kept behind the exchange. -/
theorem swap4_all {w wd : World} {base g b n cap a : Nat} {t : List (Option Slt)} {x y : Slt} (hot : wd.ownsRow base 175 4 (.slice (some ⟨g, 0, none⟩) n cap) n (cellsP t)) (htl : t.length = n) (ha : a < n) (hbx : PBox wd b x) (hgb : g ≠ b) (hbg : base ≤ g) (hbb : base ≤ b) (hz : b < wd.heap.size) (hB : BelowG base g w wd) (hbw : w.heap.size ≤ b) (W : World)
    (hW : W = ((((((((wd.setCell ⟨g, a * 4, none⟩ (.int .u8 1)).setCell ⟨g, a * 4 + 1, none⟩ (.int .i64 x.num)).setCell ⟨g, a * 4 + 2, none⟩ (.int .i64 x.blk)).setCell ⟨g, a * 4 + 3, none⟩ (.int .i64 x.no)).setCell ⟨b, 0, none⟩ (.int .u8 1)).setCell ⟨b, 1, none⟩ (.int .i64 y.num)).setCell ⟨b, 2, none⟩ (.int .i64 y.blk)).setCell ⟨b, 3, none⟩ (.int .i64 y.no)).drew) :
    W.ownsRow base 175 4 (.slice (some ⟨g, 0, none⟩) n cap) n (cellsP (t.set a (some x))) ∧ PBox W b y ∧ BelowG base g w W ∧ b < W.heap.size := by
  obtain ⟨Z, hZ⟩ : ∃ Z, Z = put4 (put4 wd g (a * 4) (.int .u8 1) (.int .i64 x.num) (.int .i64 x.blk) (.int .i64 x.no)) b 0 (.int .u8 1) (.int .i64 y.num) (.int .i64 y.blk) (.int .i64 y.no) := ⟨_, rfl⟩
  have e : W = Z.drew := by
    rw [hW, hZ]
    simp only [put4, Nat.zero_add]
  have hP : PBox Z b y := by
    rw [hZ]
    exact pbox_put4 (x := x) (pbox_put4_other hbx hgb (a * 4) (.int .u8 1) (.int .i64 x.num) (.int .i64 x.blk) (.int .i64 x.no)) y
  have hz2 : b < Z.heap.size := by
    rw [hZ, put4_size, put4_size]; exact hz
  have hO : Z.ownsRow base 175 4 (.slice (some ⟨g, 0, none⟩) n cap) n (cellsP (t.set a (some x))) := by
    rw [hZ]
    exact own_put4_other (own_store4 x hot htl ha) hgb 0 (.int .u8 1) (.int .i64 y.num) (.int .i64 y.blk) (.int .i64 y.no)
  have hD : BelowG base g w Z := by
    rw [hZ]
    exact (hB.put4 (.inl rfl) hbg (a * 4) (.int .u8 1) (.int .i64 x.num) (.int .i64 x.blk) (.int .i64 x.no)).put4 (.inr hbw) hbb 0 (.int .u8 1) (.int .i64 y.num) (.int .i64 y.blk) (.int .i64 y.no)
  clear hZ hW
  subst e
  exact ⟨hO.drew, hP.below (Below.refl (b + 1) Z).drew (Nat.lt_succ_self b), hD.drew, hz2⟩
theorem pslots_next {W wx w' : World} {g k b : Nat} {y0 y1 y2 y3 x0 x1 x2 x3 : Option Value} (h : ((wx.cell? ⟨g, k, none⟩ = y0 ∧ wx.cell? ⟨g, k + 1, none⟩ = y1 ∧ wx.cell? ⟨g, k + 2, none⟩ = y2 ∧ wx.cell? ⟨g, k + 3, none⟩ = y3) ∧ (wx.cell? ⟨b, 0, none⟩ = x0 ∧ wx.cell? ⟨b, 1, none⟩ = x1 ∧ wx.cell? ⟨b, 2, none⟩ = x2 ∧ wx.cell? ⟨b, 3, none⟩ = x3)) ∧ Below W.heap.size W wx) (hb : Below wx.heap.size wx w') (hg : g < W.heap.size) (hbb : b < W.heap.size) : ((w'.cell? ⟨g, k, none⟩ = y0 ∧ w'.cell? ⟨g, k + 1, none⟩ = y1 ∧ w'.cell? ⟨g, k + 2, none⟩ = y2 ∧ w'.cell? ⟨g, k + 3, none⟩ = y3) ∧ (w'.cell? ⟨b, 0, none⟩ = x0 ∧ w'.cell? ⟨b, 1, none⟩ = x1 ∧ w'.cell? ⟨b, 2, none⟩ = x2 ∧ w'.cell? ⟨b, 3, none⟩ = x3)) ∧ Below W.heap.size W w' := by
  obtain ⟨⟨⟨h0, h1, h2, h3⟩, g0, g1, g2, g3⟩, hB⟩ := h
  have hg' : g < wx.heap.size := Nat.lt_of_lt_of_le hg hB.size
  have hb' : b < wx.heap.size := Nat.lt_of_lt_of_le hbb hB.size
  exact ⟨⟨⟨(hb.cell (p := ⟨g, k, none⟩) hg').trans h0, (hb.cell (p := ⟨g, k + 1, none⟩) hg').trans h1, (hb.cell (p := ⟨g, k + 2, none⟩) hg').trans h2, (hb.cell (p := ⟨g, k + 3, none⟩) hg').trans h3⟩, (hb.cell (p := ⟨b, 0, none⟩) hb').trans g0, (hb.cell (p := ⟨b, 1, none⟩) hb').trans g1, (hb.cell (p := ⟨b, 2, none⟩) hb').trans g2, (hb.cell (p := ⟨b, 3, none⟩) hb').trans g3⟩, hB.trans (hb.mono hB.size)⟩

set_option maxRecDepth 100000 in
set_option maxHeartbeats 3200000 in
theorem put_any (g n cap base e : Nat) (t : List (Option Slt)) (x0 : Slt) (w : World) (hown : w.ownsRow base 175 4 (.slice (some ⟨g, 0, none⟩) n cap) n (cellsP t)) (hbg : base ≤ g) (hgw : g < w.heap.size) (htl0 : t.length = n) (hn : n ≤ 5000) (hef : e < n) (hfree : t[e]? = some none) (hnum : ∀ y : Slt, some y ∈ t → y.num < 4294967296) (hx0 : x0.num < 4294967296) :
    Calls Tryz.prog 92 #[.slice (some ⟨g, 0, none⟩) n cap, .agg #[.int .u8 1, .int .i64 x0.num, .int .i64 x0.blk, .int .i64 x0.no]] w fun e w' => e = .returned (.tuple #[]) ∧ w'.ownsRow base 175 4 (.slice (some ⟨g, 0, none⟩) n cap) n (cellsP (putL t x0)) ∧ BelowG base g w w' := by
  have hmod : (x0.num : Int) % (n : Int) = ((x0.num % n : Nat) : Int) := by simp
  have htm : (x0.num : Int).tmod (n : Int) = ((x0.num % n : Nat) : Int) := rfl
  have hNs : x0.num % n < n := Nat.mod_lt _ (by omega)
  have hsne : ¬ n = 0 := by omega
  have HPL : Hid (putL t x0 = putF n t x0 (x0.num % n)) := by show _ = _; rw [putL, htl0]
  have HFREE : Hid (t[e]? = some none) := hfree
  have HBX : Hid (PBox (w.alloc (.cells #[.int .u8 1, .int .i64 (x0.num : Int), .int .i64 (x0.blk : Int), .int .i64 (x0.no : Int)] 175)) w.heap.size x0) := ⟨⟨by simp, by simp, by simp, by simp⟩, fun i => by simp⟩
  generalize x0.num % n = q at *
  clear hfree
  go_enter Tryz.func92, Tryz.ntmps92
  go_wp2
  go_loopw [4] (fun ai wx => ∃ (a f : Nat) (t' : List (Option Slt)) (x : Slt), ai = .int .i64 a ∧ (a < n ∧ t'.length = n ∧ gap n e a < f) ∧ (x.num < 4294967296 ∧ ∀ y : Slt, some y ∈ t' → y.num < 4294967296) ∧ Hid (t'[e]? = some none) ∧ Hid (putL t x0 = putF f t' x a) ∧ wx.ownsRow base 175 4 (.slice (some ⟨g, 0, none⟩) n cap) n (cellsP t') ∧ PBox wx w.heap.size x ∧ BelowG base g w wx ∧ w.heap.size < wx.heap.size) (fun ai _ => gap n e (intOf ai).toNat)
  case atStart => exact ⟨q, n, t, x0, rfl, ⟨hNs, htl0, gap_lt (by omega)⟩, ⟨hx0, hnum⟩, HFREE, HPL, hown.alloc _, HBX.out, ⟨(Below.refl _ _).alloc (by omega) _, (Turn2.refl _ _ _).alloc _⟩, by simp⟩
  case round =>
    obtain ⟨a, f, t', x, rfl, ⟨ha, htl, hgp⟩, ⟨hxn, hyn⟩, HE, HT, hot, hbx, hBx, hzx⟩ := hrel
    obtain ⟨wx, rfl⟩ : ∃ wx, wx = wr := ⟨_, rfl⟩
    obtain ⟨f', rfl⟩ : ∃ f', f = f' + 1 := ⟨f - 1, by omega⟩
    clear HFREE HPL HBX hown hnum
    have hta : t'[a]? = some t'[a] := List.getElem?_eq_getElem (by omega)
    obtain ⟨⟨b0, b1, b2, b3⟩, bf⟩ := hbx
    have HBOX : Hid (PBox wx w.heap.size x) := ⟨⟨b0, b1, b2, b3⟩, bf⟩
    obtain ⟨z0, z1, z2, z3⟩ := pslot_at hot hta ha
    have g0 := hot.frozenAt (a * 4)
    have g1 := hot.frozenAt (a * 4 + 1)
    have g2 := hot.frozenAt (a * 4 + 2)
    have g3 := hot.frozenAt (a * 4 + 3)
    have n1 : g ≠ w.heap.size := by omega
    have n2 : w.heap.size ≠ g := by omega
    have HOT : Hid (wx.ownsRow base 175 4 (.slice (some ⟨g, 0, none⟩) n cap) n (cellsP t')) := hot
    clear hot
    cases hy : t'[a] with
    | none =>
      rw [hy] at hta z0 z1 z2 z3
      simp only [sltP, List.getElem?_cons_zero, List.getElem?_cons_succ] at z0 z1 z2 z3
      have HT2 : Hid (putL t x0 = t'.set a (some x)) := by
        show _ = _
        rw [HT.out, putF, hta]
      clear HT HE hta hy hyn
      go_wp2
      refine bodyPost_end (v := .tuple #[]) ?_ rfl ⟨rfl, by rw [HT2.out]; exact own_store4 x HOT.out htl ha, hBx.put4 (.inl rfl) hbg (a * 4) _ _ _ _⟩
      simp [results, Tryz.results92, go_sem]
    | some y =>
      have hym : y.num < 4294967296 := hyn y (List.mem_of_getElem? (by rw [hta, hy]))
      rw [hy] at hta z0 z1 z2 z3
      simp only [sltP, List.getElem?_cons_zero, List.getElem?_cons_succ] at z0 z1 z2 z3
      have hne : a ≠ e := by
        intro h
        subst h
        rw [HE.out] at hta
        cases hta
      have hstep := gap_step ha hef hne
      have hax : (a + 1) % n < n := Nat.mod_lt _ (by omega)
      have HT2 : Hid (putL t x0 = if awayN n y a < awayN n x a then putF f' (t'.set a (some x)) y ((a + 1) % n) else putF f' t' x ((a + 1) % n)) := by
        show _ = _
        rw [HT.out, putF, hta]
        simp only [htl]
      have HE2 : Hid ((t'.set a (some x))[e]? = some none) := by
        show _ = _
        rw [List.getElem?_set_ne hne]; exact HE.out
      have hmod2 : ((a : Int) + 1) % (n : Int) = (((a + 1) % n : Nat) : Int) := by simp
      have htm2 : ((a : Int) + 1).tmod (n : Int) = (((a + 1) % n : Nat) : Int) := rfl
      have HGP : Hid (gap n e ((a + 1) % n) < f') := by show _ < _; omega
      have HGM : Hid (gap n e ((a + 1) % n) < gap n e a) := by show _ < _; omega
      have HYN : Hid (∀ z : Slt, some z ∈ t'.set a (some x) → z.num < 4294967296) := fun z hz => by
        rcases List.mem_or_eq_of_mem_set hz with h | h
        · exact hyn z h
        · cases h; exact hxn
      have HYN0 : Hid (∀ z : Slt, some z ∈ t' → z.num < 4294967296) := hyn
      generalize (a + 1) % n = q2 at *
      have HAY : Hid _ := awayP_any (some ⟨g, 0, none⟩) n cap 1 y a
      have HAX : Hid _ := awayP_any (some ⟨g, 0, none⟩) n cap 1 x a
      clear hstep hgp HT hy hyn hta hmod htm hNs
      generalize awayN n y a = ay at *
      generalize awayN n x a = ax at *
      have hgx : g < wx.heap.size := by omega
      go_wp2_with fail
      go_cut [27] (fun c wd => c = .bool (decide (ay < ax)) ∧ Below wx.heap.size wx wd)
      case first =>
        go_region_held3 (fun w' => ((w'.cell? ⟨g, a * 4, none⟩ = some (.int .u8 1) ∧ w'.cell? ⟨g, a * 4 + 1, none⟩ = some (.int .i64 y.num) ∧ w'.cell? ⟨g, a * 4 + 2, none⟩ = some (.int .i64 y.blk) ∧ w'.cell? ⟨g, a * 4 + 3, none⟩ = some (.int .i64 y.no)) ∧ (w'.cell? ⟨w.heap.size, 0, none⟩ = some (.int .u8 1) ∧ w'.cell? ⟨w.heap.size, 1, none⟩ = some (.int .i64 x.num) ∧ w'.cell? ⟨w.heap.size, 2, none⟩ = some (.int .i64 x.blk) ∧ w'.cell? ⟨w.heap.size, 3, none⟩ = some (.int .i64 x.no))) ∧ Below wx.heap.size wx w') (first | (exact ⟨⟨⟨z0, z1, z2, z3⟩, b0, b1, b2, b3⟩, (Below.refl _ _).drew⟩) | (assumption) | (exact pslots_next (by assumption) (by assumption) hgx hzx)) (first | (go_at_call_of 151 (Value.agg #[.int .u8 1, .int .i64 y.num, .int .i64 y.blk, .int .i64 y.no]); refine (HAY.out _ ha hn hym).mono ?_; rintro e w' ⟨rfl, hb4y⟩) | (go_at_call_of 151 (Value.agg #[.int .u8 1, .int .i64 x.num, .int .i64 x.blk, .int .i64 x.no]); refine (HAX.out _ ha hn hxn).mono ?_; rintro e w' ⟨rfl, hb4x⟩))
        all_goals
          go_wp2_with fail
          go_meet
          refine ⟨rfl, ?_⟩
          first | exact ((Below.refl _ _).drew.trans hb4y).trans (hb4x.mono hb4y.size) | exact ((Below.refl _ _).drew.trans hb4x).trans (hb4y.mono hb4x.size)
      case rest =>
        obtain ⟨rfl, hbd⟩ := hcut
        obtain ⟨wd, rfl⟩ : ∃ wd, wd = wc := ⟨_, rfl⟩
        have hszd := hbd.size
        have HOTD : Hid (wd.ownsRow base 175 4 (.slice (some ⟨g, 0, none⟩) n cap) n (cellsP t')) := own_below HOT.out hbd (Nat.le_refl _)
        have HBD : Hid (PBox wd w.heap.size x) := HBOX.out.below hbd hzx
        have HBB : Hid (BelowG base g w wd) := ⟨hBx.1.trans (hbd.mono (by omega)), hBx.2.trans (Turn2.of_below hbd)⟩
        replace z0 := (hbd.cell (p := ⟨g, a * 4, none⟩) hgx).trans z0
        replace z1 := (hbd.cell (p := ⟨g, a * 4 + 1, none⟩) hgx).trans z1
        replace z2 := (hbd.cell (p := ⟨g, a * 4 + 2, none⟩) hgx).trans z2
        replace z3 := (hbd.cell (p := ⟨g, a * 4 + 3, none⟩) hgx).trans z3
        replace g0 := (hbd.frozen (p := ⟨g, a * 4, none⟩) hgx).trans g0
        replace g1 := (hbd.frozen (p := ⟨g, a * 4 + 1, none⟩) hgx).trans g1
        replace g2 := (hbd.frozen (p := ⟨g, a * 4 + 2, none⟩) hgx).trans g2
        replace g3 := (hbd.frozen (p := ⟨g, a * 4 + 3, none⟩) hgx).trans g3
        clear b0 b1 b2 b3 bf HAY HAX HOT HBOX hBx
        obtain ⟨⟨b0, b1, b2, b3⟩, bf⟩ := HBD.out
        have v0 := bf 0
        have v1 := bf 1
        have v2 := bf 2
        have v3 := bf 3
        have hzd : w.heap.size < wd.heap.size := by omega
        clear bf hbd
        by_cases hlt : ay < ax
        · have hd : decide (ay < ax) = true := by simp; omega
          have HT3 : Hid (putL t x0 = putF f' (t'.set a (some x)) y q2) := by
            show _ = _
            rw [HT2.out, if_pos hlt]
          rw [hd]
          clear hd HT2 HE
          go_wp2_with fail
          go_region
          all_goals
            go_wp2
            go_roundw
            case rel =>
              exact ⟨q2, f', t'.set a (some x), y, by first | rfl | go_num, ⟨hax, by simp [htl], HGP.out⟩, ⟨hym, HYN.out⟩, HE2, HT3, swap4_all HOTD.out htl ha HBD.out n1 hbg (by omega) hzd HBB.out (Nat.le_refl _) _ rfl⟩
            case measure => simp [intOf]; exact HGM.out
        · have hd : decide (ay < ax) = false := by simp; omega
          have HT3 : Hid (putL t x0 = putF f' t' x q2) := by
            show _ = _
            rw [HT2.out, if_neg hlt]
          rw [hd]
          clear hd HT2 HE2
          go_wp2
          go_roundw
          case rel => exact ⟨q2, f', t', x, by first | rfl | go_num, ⟨hax, htl, HGP.out⟩, ⟨hxn, HYN0.out⟩, HE, HT3, HOTD.out, HBD.out, HBB.out, hzd⟩
          case measure => simp [intOf]; exact HGM.out
end Go.Proofs.YtdhgebdbiehchaaGreatDoor
namespace Go.Proofs.YtdhgebdbiehchaaGreatDoor
open Go.RowKit
set_option linter.unusedSimpArgs false
set_option linter.unusedVariables false

set_option maxHeartbeats 1600000 in
theorem appendLow_lit (g : Nat) (l : List UInt8) (n : Int) (k : Nat) (w : World) (base : Nat) (hn : 0 ≤ n) (hn' : n ≤ 9223372036854775807) (hk : k ≤ 8) (hk1 : 1 ≤ k)
    (hc : ∀ j u, (cellsB l)[j]? = some u → w.cell? ⟨g, j, none⟩ = some u) (hg : g < w.heap.size) (hbase : base ≤ w.heap.size) (hl : l.length ≤ 1000) :
    Calls Tryz.prog 129 #[.slice (some ⟨g, 0, none⟩) l.length l.length, .int .i64 n, .int .i64 k] w fun e w' => ∃ v', e = .returned v' ∧ w'.ownsRow base 5 1 v' (l.length + k) (cellsB (l ++ lowL n.toNat k)) ∧ Below base w w' := by
  obtain ⟨i0, hi, hz0, hz1, hz2⟩ := info_parts info_u8
  have HC : Hid (∀ j u, (cellsB l)[j]? = some u → w.cell? ⟨g, j, none⟩ = some u) := hc
  clear hc
  go_enter Tryz.func129, Tryz.ntmps129
  go_wp2
  go_loopw [0, 9] (fun m i wr => ∃ (j : Nat), j ≤ k ∧ i = .int .i64 j ∧ ((j = 0 ∧ m = .slice (some ⟨g, 0, none⟩) l.length l.length ∧ wr = w) ∨ (1 ≤ j ∧ wr.ownsRow base 5 1 m (l.length + j) (cellsB (l ++ lowL n.toNat j)))) ∧ Below base w wr) (fun _ i _ => k - (intOf i).toNat)
  case atStart => exact ⟨0, Nat.zero_le _, rfl, .inl ⟨rfl, rfl, rfl⟩, Below.refl _ _⟩
  case round =>
    obtain ⟨j, hj, rfl, ho, hb⟩ := hrel
    rcases ho with ⟨rfl, rfl, rfl⟩ | ⟨hj1, ho⟩
    · have hlt : 0 < k := hk1
      go_wp2_with (at_builtin; refine wpList_append_grows _ rfl (.tmp 12) (.tmp 18) 43 rfl 5 i0 (.int .u8 0) 1 1 Tryz.underlying43 hi hz0 hz1 hz2 rfl (by decide) (some ⟨g, 0, none⟩) l.length l.length (cellsB l) rfl (by intro h; cases h) ?c0 ?c6 ⟨wr.heap.size, 0, none⟩ 1 1 [.int .u8 (n % 256)] rfl rfl ?c1 ?c2 (Nat.lt_succ_self _) ?c3 ?c4 ?_)
      case c0 => simp [cellsB]
      case c6 =>
        intro b hb j u hu
        cases hb
        have := HC.out j u hu
        rw [Addr.add_lit]
        simp only [Nat.zero_add]
        exact (World.cell?_of_block (w := wr) (Below.heap_alloc wr _ g hg)).trans this
      case c1 => exact cell_one_new _ _ _
      case c2 => intro u hu; simp at hu; subst hu; rfl
      case c3 => unfold maxLen; omega
      case c4 => omega
      intro v' w1 hown' hgrow
      go_wp2
      go_roundw
      case rel =>
        refine ⟨1, by omega, by go_num, .inr ⟨Nat.le_refl _, ?_⟩, ?_⟩
        · have e0 : IntKind.u8.wrap (n / 2 ^ (8 * ((0 : Nat) : Int)).toNat) = n % 256 := by rw [IntKind.wrap_u8]; simp
          have e1 := cells_snoc hn l 0
          rw [e0] at e1
          rw [← e1]
          have h3 := Joins.ownsRow_le (base' := base) hown' (by omega)
          simpa [lowL] using h3
        · exact (hb.alloc (by omega) _).grown hgrow (by simp; omega) (fun k e => by cases e)
      case measure => simp [intOf]; omega
    · by_cases hlt : j < k
      · have h8 : (0 : Int) ≤ 8 * (j : Int) := by omega
        have h9 : 8 * (j : Int) ≤ 64 := by omega
        go_wp2_with (at_builtin; refine wpList_append_own _ rfl (.tmp 12) (.tmp 18) 43 rfl base 5 i0 (.int .u8 0) 1 1 Tryz.underlying43 hi hz0 hz1 hz2 rfl (by decide) _ _ _ rfl (ho.alloc _) ⟨wr.heap.size, 0, none⟩ 1 1 [.int .u8 (IntKind.u8.wrap (n / 2 ^ (8 * (j : Int)).toNat))] rfl rfl ?c1 ?c2 ?c3 ?c4 ?c5 ?_)
        case c1 => exact cell_one_new _ _ _
        case c2 => intro u hu; simp at hu; subst hu; rfl
        case c3 => unfold maxLen; omega
        case c4 => omega
        case c5 => have := hb.size; simp; omega
        intro v' w1 hown' hgrow _
        clear h8 h9
        go_wp2
        go_roundw
        case rel =>
          refine ⟨j + 1, by omega, by go_num, .inr ⟨by omega, ?_⟩, ?_⟩
          · rw [← cells_snoc hn]; exact hown'
          · exact (hb.alloc (by have := hb.size; omega) _).grown hgrow (by have := hb.size; simp; omega) (own_ge ho)
        case measure => simp [intOf]; omega
      · have hjk : j = k := by omega
        subst hjk
        go_wp2
        go_ret
        exact ⟨_, rfl, ho, hb⟩
end Go.Proofs.YtdhgebdbiehchaaGreatDoor
namespace Go.Proofs.YtdhgebdbiehchaaGreatDoor
open Go.RowKit
set_option linter.unusedSimpArgs false
set_option linter.unusedVariables false

/-- The five cells of a box. -/
def Cells5 (w : World) (b : Nat) (a1 a2 a3 a4 a5 : Nat) : Prop := w.cell? ⟨b, 0, none⟩ = some (.int .i64 a1) ∧ w.cell? ⟨b, 1, none⟩ = some (.int .i64 a2) ∧ w.cell? ⟨b, 2, none⟩ = some (.int .i64 a3) ∧ w.cell? ⟨b, 3, none⟩ = some (.int .i64 a4) ∧ w.cell? ⟨b, 4, none⟩ = some (.int .i64 a5)
theorem Cells5.below {w w' : World} {b n a1 a2 a3 a4 a5 : Nat} (h : Cells5 w b a1 a2 a3 a4 a5) (hb : Below n w w') (hn : b < n) : Cells5 w' b a1 a2 a3 a4 a5 :=
  ⟨(hb.cell (p := ⟨b, 0, none⟩) hn).trans h.1, (hb.cell (p := ⟨b, 1, none⟩) hn).trans h.2.1, (hb.cell (p := ⟨b, 2, none⟩) hn).trans h.2.2.1, (hb.cell (p := ⟨b, 3, none⟩) hn).trans h.2.2.2.1, (hb.cell (p := ⟨b, 4, none⟩) hn).trans h.2.2.2.2⟩

set_option maxRecDepth 100000 in
set_option maxHeartbeats 1600000 in
theorem frontBytes_any (a1 a2 a3 a4 a5 : Nat) (w : World) (h1 : a1 < 4294967296) (h2 : a2 < 4294967296) (h3 : a3 < 4294967296) (h4 : a4 < 4294967296) (h5 : a5 < 4294967296) (hH : HalvesAt w) :
    Calls Tryz.prog 97 #[.agg #[.int .i64 a1, .int .i64 a2, .int .i64 a3, .int .i64 a4, .int .i64 a5]] w fun e w' => ∃ v', e = .returned v' ∧ w'.ownsRow w.heap.size 5 1 v' (sealL (frontB a1 a2 a3 a4 a5)).length (cellsB (sealL (frontB a1 a2 a3 a4 a5))) ∧ Below w.heap.size w w' := by
  have HH : Hid (HalvesAt w) := hH
  clear hH
  have hcv := Joins.run_convert_bytes_const_at (P := Tryz.prog) (w.alloc (.cells #[.int .i64 (a1 : Int), .int .i64 (a2 : Int), .int .i64 (a3 : Int), .int .i64 (a4 : Int), .int .i64 (a5 : Int)] 139)) 43 5 #[.int .u8 73, .int .u8 88] 2 2 (w.heap.size + 1) (by simp) Tryz.underlying43 Tryz.underlying5
  go_enter Tryz.func97, Tryz.ntmps97
  go_wp2_with fail
  clear hcv
  obtain ⟨W, hW⟩ : ∃ W, W = (w.alloc (.cells #[.int .i64 (a1 : Int), .int .i64 (a2 : Int), .int .i64 (a3 : Int), .int .i64 (a4 : Int), .int .i64 (a5 : Int)] 139)).alloc (.cells #[.int .u8 73, .int .u8 88] 5 (2, 3)) := ⟨_, rfl⟩
  have hc : Cells5 W w.heap.size a1 a2 a3 a4 a5 := by rw [hW]; exact ⟨by simp, by simp, by simp, by simp, by simp⟩
  have hz : W.heap.size = w.heap.size + 1 + 1 := by rw [hW]; simp
  have hl : ∀ j u, (cellsB [73, 88])[j]? = some u → W.cell? ⟨w.heap.size + 1, j, none⟩ = some u := by
    intro j u hu
    rw [hW, Joins.cell_alloc_mark_at _ _ _ _ _ _ (by simp)]
    have e : cellsB [73, 88] = [.int .u8 73, .int .u8 88] := rfl
    rw [e] at hu
    simpa using hu
  have hB : Below w.heap.size w W := by rw [hW]; exact ((Below.refl _ _).alloc (Nat.le_refl _) _).alloc (by simp) _
  rw [← hW]
  have HA : Hid _ := appendLow_lit (w.heap.size + 1) [73, 88] (a1 : Int) 2 W (w.heap.size + 1 + 1) (by omega) (by omega) (by omega) (by omega) hl (by omega) (by omega) (by simp)
  clear hW hl
  refine Calls.mono HA.out ?_
  rintro e w1 ⟨v1, rfl, r1, b1⟩
  rw [Int.toNat_natCast, show ([73, 88] : List UInt8).length + 2 = ([73, 88] ++ lowL a1 2).length by simp [lowL_length]] at r1
  have hB1 : Below w.heap.size w w1 := hB.trans (b1.mono (by omega))
  have c1 := hc.below b1 (by omega)
  have z1 := b1.size
  obtain ⟨_, k1, _, _, _⟩ := c1
  have HA1 : Hid _ := appendLow_any v1 _ (a2 : Int) 2 w1 (w.heap.size + 1 + 1) (by omega) (by omega) (by omega) r1 (by omega) (by simp [lowL_length])
  clear HA r1
  go_wp2_with fail
  refine Calls.mono HA1.out ?_
  rintro e w2 ⟨v2, rfl, r2, b2⟩
  rw [Int.toNat_natCast, show ([73, 88] ++ lowL a1 2 : List UInt8).length + 2 = ([73, 88] ++ lowL a1 2 ++ lowL a2 2).length by simp [lowL_length]] at r2
  have hB2 : Below w.heap.size w w2 := hB1.trans (b2.mono (by omega))
  have c2 := (hc.below b1 (by omega)).below b2 (by omega)
  have z2 := b2.size
  obtain ⟨_, _, k2, _, _⟩ := c2
  have HA2 : Hid _ := appendLow_any v2 _ (a3 : Int) 2 w2 (w.heap.size + 1 + 1) (by omega) (by omega) (by omega) r2 (by omega) (by simp [lowL_length])
  clear HA1 r2 k1
  go_wp2_with fail
  refine Calls.mono HA2.out ?_
  rintro e w3 ⟨v3, rfl, r3, b3⟩
  rw [Int.toNat_natCast, show ([73, 88] ++ lowL a1 2 ++ lowL a2 2 : List UInt8).length + 2 = ([73, 88] ++ lowL a1 2 ++ lowL a2 2 ++ lowL a3 2).length by simp [lowL_length]] at r3
  have hB3 : Below w.heap.size w w3 := hB2.trans (b3.mono (by omega))
  have c3 := ((hc.below b1 (by omega)).below b2 (by omega)).below b3 (by omega)
  have z3 := b3.size
  obtain ⟨_, _, _, k3, _⟩ := c3
  have HA3 : Hid _ := appendLow_any v3 _ (a4 : Int) 4 w3 (w.heap.size + 1 + 1) (by omega) (by omega) (by omega) r3 (by omega) (by simp [lowL_length])
  clear HA2 r3 k2
  go_wp2_with fail
  refine Calls.mono HA3.out ?_
  rintro e w4 ⟨v4, rfl, r4, b4⟩
  rw [Int.toNat_natCast, show ([73, 88] ++ lowL a1 2 ++ lowL a2 2 ++ lowL a3 2 : List UInt8).length + 4 = ([73, 88] ++ lowL a1 2 ++ lowL a2 2 ++ lowL a3 2 ++ lowL a4 4).length by simp [lowL_length]] at r4
  have hB4 : Below w.heap.size w w4 := hB3.trans (b4.mono (by omega))
  have c4 := (((hc.below b1 (by omega)).below b2 (by omega)).below b3 (by omega)).below b4 (by omega)
  have z4 := b4.size
  obtain ⟨_, _, _, _, k4⟩ := c4
  have HA4 : Hid _ := appendLow_any v4 _ (a5 : Int) 4 w4 (w.heap.size + 1 + 1) (by omega) (by omega) (by omega) r4 (by omega) (by simp [lowL_length])
  clear HA3 r4 k3
  go_wp2_with fail
  refine Calls.mono HA4.out ?_
  rintro e w5 ⟨v5, rfl, r5, b5⟩
  rw [Int.toNat_natCast, show ([73, 88] ++ lowL a1 2 ++ lowL a2 2 ++ lowL a3 2 ++ lowL a4 4 : List UInt8).length + 4 = (frontB a1 a2 a3 a4 a5).length by simp [lowL_length, frontB]] at r5
  have hB5 : Below w.heap.size w w5 := hB4.trans (b5.mono (by omega))
  have z5 := b5.size
  have HS : Hid _ := seal_any v5 (frontB a1 a2 a3 a4 a5) (w.heap.size + 1 + 1) w5 r5 (by omega) (by rw [frontB_length]; omega) (HH.out.below hB5 HH.out.1)
  clear HA4 r5 k4
  go_wp2_with fail
  refine Calls.mono HS.out ?_
  rintro e w6 ⟨v6, rfl, r6, b6⟩
  have HR6 : Hid (w6.ownsRow (w.heap.size + 1 + 1) 5 1 v6 (sealL (frontB a1 a2 a3 a4 a5)).length (cellsB (sealL (frontB a1 a2 a3 a4 a5)))) := r6
  clear r6 HS
  go_wp2
  go_ret
  exact ⟨_, rfl, Joins.ownsRow_le HR6.out (by omega), hB5.trans (b6.mono (by omega))⟩
end Go.Proofs.YtdhgebdbiehchaaGreatDoor
