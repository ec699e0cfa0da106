/- The cells of the program's table; the contract of table.slots.farthest. sums.AppendLow beside a box of another type, which it leaves alone; the contract of table.slots.bytes. The contracts of slices.AppendSeq and slices.Collect over the keys of the items' map. slices.SortFunc of places: the shelf's contract, laid at this program. The contracts of slices.SortedFunc over the places, and of record.Said.Places: the live places, rising. The contracts of slices.SortedFunc over the places, and of record.Said.Places: the live places, rising. The contract of record.Said.At: the live item that stands at a place. -/
import Derived.Test.YtdhgebdbiehchaaGreatDoorB11
import Derived.Test.YtdhgebdbiehchaaGreatDoorB10
import Derived.Shelf.SlSortCmp.WholeK
import Derived.Ground.SlsfProg
import Derived.Sort.OwnSorted
import Derived.Shelf.SlSortCmp.NoneTotal
namespace Go.Proofs.YtdhgebdbiehchaaGreatDoor
open Go.RowKit
set_option linter.unusedSimpArgs false
set_option linter.unusedVariables false

/-- The cells of a slot of the program's table. -/
def sltP : Option Slt → List Value
  | none => [.int .u8 0, .int .i64 0, .int .i64 0, .int .i64 0]
  | some x => [.int .u8 1, .int .i64 x.num, .int .i64 x.blk, .int .i64 x.no]
theorem sltP_length (x : Option Slt) : (sltP x).length = 4 := by cases x <;> rfl
def cellsP (t : List (Option Slt)) : List Value := t.flatMap sltP
theorem cellsP_length (t : List (Option Slt)) : (cellsP t).length = t.length * 4 := by
  induction t with
  | nil => rfl
  | cons x t ih =>
    show (sltP x ++ cellsP t).length = _
    rw [List.length_append, ih, sltP_length, List.length_cons]; omega
theorem cellsP_at {t : List (Option Slt)} {i : Nat} {x : Option Slt} (h : t[i]? = some x) (j : Nat) (hj : j < 4) : (cellsP t)[i * 4 + j]? = (sltP x)[j]? := by
  induction t generalizing i with
  | nil => simp at h
  | cons y t ih =>
    cases i with
    | zero =>
      simp at h; subst h
      show (sltP y ++ cellsP t)[0 * 4 + j]? = _
      rw [List.getElem?_append_left (by rw [sltP_length]; omega)]
      congr 1; omega
    | succ i =>
      show (sltP y ++ cellsP t)[(i + 1) * 4 + j]? = _
      rw [List.getElem?_append_right (by rw [sltP_length]; omega), sltP_length, show (i + 1) * 4 + j - 4 = i * 4 + j by omega]
      exact ih (by simpa using h)
theorem set4 {α : Type} (l r : List α) (x0 x1 x2 x3 y0 y1 y2 y3 : α) (k : Nat) (h : l.length = k) : ((((l ++ x0 :: x1 :: x2 :: x3 :: r).set k y0).set (k + 1) y1).set (k + 2) y2).set (k + 3) y3 = l ++ y0 :: y1 :: y2 :: y3 :: r := by
  subst h
  induction l with
  | nil => rfl
  | cons a l ih => simp
theorem cellsP_set {t : List (Option Slt)} {i : Nat} (h : i < t.length) (x : Slt) : (((((cellsP t).set (i * 4) (.int .u8 1)).set (i * 4 + 1) (.int .i64 x.num)).set (i * 4 + 2) (.int .i64 x.blk)).set (i * 4 + 3) (.int .i64 x.no)) = cellsP (t.set i (some x)) := by
  have e : t = t.take i ++ t[i] :: t.drop (i + 1) := by rw [List.getElem_cons_drop, List.take_append_drop]
  have hl : (t.take i).length = i := by simp; omega
  have e2 : t.set i (some x) = t.take i ++ some x :: t.drop (i + 1) := by
    conv => lhs; rw [e]
    rw [List.set_append_right _ _ (by omega), hl, Nat.sub_self]; rfl
  have c1 : ∀ (l r : List (Option Slt)) (y : Option Slt), cellsP (l ++ y :: r) = cellsP l ++ (sltP y ++ cellsP r) := fun l r y => by simp [cellsP]
  rw [e2, c1]
  conv => lhs; rw [e, c1]
  cases t[i] with
  | none => exact set4 _ _ _ _ _ _ _ _ _ _ _ (by rw [cellsP_length, hl])
  | some y => exact set4 _ _ _ _ _ _ _ _ _ _ _ (by rw [cellsP_length, hl])
theorem made4 (n : Nat) : (madeCells #[.int .u8 0, .int .i64 0, .int .i64 0, .int .i64 0] (n * 4)).toList = cellsP (List.replicate n none) := by
  apply List.ext_getElem?
  intro j
  by_cases hj : j < n * 4
  · have h4 : j % 4 < 4 := Nat.mod_lt _ (by omega)
    have hd : j / 4 < n := by omega
    have hr : (cellsP (List.replicate n none))[j]? = (sltP none)[j % 4]? := by
      have := cellsP_at (t := List.replicate n none) (i := j / 4) (x := none) (by rw [List.getElem?_replicate, if_pos hd]) (j % 4) h4
      rwa [show j / 4 * 4 + j % 4 = j by omega] at this
    rw [hr]
    simp [madeCells, hj]
    generalize j % 4 = q at *
    match q, h4 with
    | 0, _ => rfl
    | 1, _ => rfl
    | 2, _ => rfl
    | 3, _ => rfl
  · have h1 : (cellsP (List.replicate n none))[j]? = none := List.getElem?_eq_none (by rw [cellsP_length]; simp; omega)
    rw [h1]
    simp [madeCells, hj]
theorem pslot_at {w : World} {base g cap n : Nat} {t : List (Option Slt)} {a : Nat} {x : Option Slt} (h : w.ownsRow base 175 4 (.slice (some ⟨g, 0, none⟩) n cap) n (cellsP t)) (hx : t[a]? = some x) (ha : a < n) : w.cell? ⟨g, a * 4, none⟩ = (sltP x)[0]? ∧ w.cell? ⟨g, a * 4 + 1, none⟩ = (sltP x)[1]? ∧ w.cell? ⟨g, a * 4 + 2, none⟩ = (sltP x)[2]? ∧ w.cell? ⟨g, a * 4 + 3, none⟩ = (sltP x)[3]? :=
  ⟨(h.cellAt (a * 4) (by omega)).trans (cellsP_at hx 0 (by omega)), (h.cellAt (a * 4 + 1) (by omega)).trans (cellsP_at hx 1 (by omega)), (h.cellAt (a * 4 + 2) (by omega)).trans (cellsP_at hx 2 (by omega)), (h.cellAt (a * 4 + 3) (by omega)).trans (cellsP_at hx 3 (by omega))⟩

set_option maxRecDepth 100000 in
set_option maxHeartbeats 1600000 in
theorem farthest_any (g n cap base : Nat) (t : List (Option Slt)) (w : World) (hown : w.ownsRow base 175 4 (.slice (some ⟨g, 0, none⟩) n cap) n (cellsP t)) (htl : t.length = n) (hn0 : 0 < n) (hn : n ≤ 5000) (hnum : ∀ y : Slt, some y ∈ t → y.num < 4294967296) :
    Calls Tryz.prog 95 #[.slice (some ⟨g, 0, none⟩) n cap] w fun e w' => e = .returned (.int .i64 (farP n t n : Nat)) ∧ Below w.heap.size w w' := by
  go_enter Tryz.func95, Tryz.ntmps95
  go_wp2
  go_loopw [3, 8] (fun fr i wr => ∃ (k : Nat), k ≤ n ∧ i = .int .i64 k ∧ fr = .int .i64 (farP n t k : Nat) ∧ wr.ownsRow base 175 4 (.slice (some ⟨g, 0, none⟩) n cap) n (cellsP t) ∧ Below w.heap.size w wr) (fun _ i _ => n - (intOf i).toNat)
  case atStart => exact ⟨0, Nat.zero_le _, rfl, rfl, hown, Below.refl _ _⟩
  case round =>
    obtain ⟨k, hk, rfl, rfl, hrow, hb⟩ := hrel
    clear hown
    have hfar := farP_lt (n := n) hn0 t k
    by_cases hkn : k < n
    · have hta : t[k]? = some t[k] := List.getElem?_eq_getElem (by omega)
      obtain ⟨z0, z1, z2, z3⟩ := pslot_at hrow hta hkn
      have HROW : Hid (wr.ownsRow base 175 4 (.slice (some ⟨g, 0, none⟩) n cap) n (cellsP t)) := hrow
      have HB : Hid (Below w.heap.size w wr) := hb
      have hbs := hb.size
      clear hrow hb
      cases hy : t[k] with
      | none =>
        rw [hy] at hta z0 z1 z2 z3
        simp only [sltP, List.getElem?_cons_zero, List.getElem?_cons_succ] at z0 z1 z2 z3
        have HFP : Hid (farP n t (k + 1) = farP n t k) := farP_none hta
        clear hy hta hnum
        generalize farP n t k = fk at *
        go_wp2
        go_roundw
        case rel => exact ⟨k + 1, by omega, by first | rfl | go_num, by rw [HFP.out], HROW.out.alloc _, HB.out.alloc hbs _⟩
        case measure => first | (simp [intOf]; omega) | (simp [intOf])
      | some y =>
        have hym : some y ∈ t := List.mem_of_getElem? (by rw [hta, hy])
        rw [hy] at hta z0 z1 z2 z3
        simp only [sltP, List.getElem?_cons_zero, List.getElem?_cons_succ] at z0 z1 z2 z3
        have hyn := hnum y hym
        have HFP : Hid (farP n t (k + 1) = max (farP n t k) (awayN n y k)) := farP_some hta
        have hawl := awayN_lt hn0 y k
        have HAY := awayP_any (some ⟨g, 0, none⟩) n cap 1 y k
        clear hy hta hnum hym
        generalize awayN n y k = d at *
        generalize farP n t k = fk at *
        go_wp2_with fail
        refine (HAY _ hkn hn hyn).mono ?_
        rintro e w4 ⟨rfl, hb4⟩
        have HR4 : Hid (w4.ownsRow base 175 4 (.slice (some ⟨g, 0, none⟩) n cap) n (cellsP t)) := own_below (HROW.out.alloc _) hb4 (Nat.le_refl _)
        have HB4 : Hid (Below w.heap.size w w4) := (HB.out.alloc hbs _).trans (hb4.mono (by simp; omega))
        clear HAY hb4 z0 z1 z2 z3
        by_cases hdf : fk < d
        · have HFX : Hid (farP n t (k + 1) = d) := by show _ = _; rw [HFP.out]; omega
          go_wp2
          go_roundw
          case rel => exact ⟨k + 1, by omega, by first | rfl | go_num, by rw [HFX.out], HR4.out, HB4.out⟩
          case measure => first | (simp [intOf]; omega) | (simp [intOf])
        · have HFX : Hid (farP n t (k + 1) = fk) := by show _ = _; rw [HFP.out]; omega
          go_wp2
          go_roundw
          case rel => exact ⟨k + 1, by omega, by first | rfl | go_num, by rw [HFX.out], HR4.out, HB4.out⟩
          case measure => first | (simp [intOf]; omega) | (simp [intOf])
    · have hke : k = n := by omega
      subst hke
      obtain ⟨fk, hfk⟩ : ∃ fk, fk = farP k t k := ⟨_, rfl⟩
      have HFK : Hid (fk = farP k t k) := hfk
      rw [← hfk]
      clear hfk
      go_wp2
      go_ret
      exact ⟨ret_int (by rw [HFK.out]), hb⟩
end Go.Proofs.YtdhgebdbiehchaaGreatDoor
namespace Go.Proofs.YtdhgebdbiehchaaGreatDoor
open Go.RowKit
set_option linter.unusedSimpArgs false
set_option linter.unusedVariables false

/-- A block of another type than a row's is not the row's. -/
theorem own_not {w : World} {base e size n b f : Nat} {v : Value} {xs : List Value} {cur : Array Value} (h : w.ownsRow base e size v n xs) (hb : w.heap[b]? = some (.cells cur f (0, 0))) (hne : e ≠ f) : some b ≠ v.ownBlock := by
  rcases h.2 with ⟨rfl, _⟩ | ⟨g, cap, cur', rfl, _, hg, _⟩
  · simp [Value.ownBlock]
  · intro h
    simp [Value.ownBlock] at h
    subst h
    rw [hg] at hb
    simp at hb
    exact hne hb.2
theorem box_alloc {w : World} {b f : Nat} {cur : Array Value} (hb : w.heap[b]? = some (.cells cur f (0, 0))) (o : Obj) : (w.alloc o).heap[b]? = some (.cells cur f (0, 0)) :=
  (Below.heap_alloc w o b (Array.getElem?_eq_some_iff.1 hb).1).trans hb
theorem box_grown {w w' : World} {base e size n b f : Nat} {v : Value} {xs : List Value} {cur : Array Value} (hb : w.heap[b]? = some (.cells cur f (0, 0))) (h : w.ownsRow base e size v n xs) (hne : e ≠ f) (hg : w.grownBy w' v.ownBlock) : w'.heap[b]? = some (.cells cur f (0, 0)) :=
  (hg.block b (Array.getElem?_eq_some_iff.1 hb).1 (own_not h hb hne)).trans hb

set_option maxHeartbeats 800000 in
theorem appendLow_box (v : Value) (l : List UInt8) (n : Int) (k : Nat) (w : World) (base : Nat) (hn : 0 ≤ n) (hn' : n ≤ 9223372036854775807) (hk : k ≤ 8)
    (hown : w.ownsRow base 5 1 v l.length (cellsB l)) (hbase : base ≤ w.heap.size) (hl : l.length ≤ 1000000000) (b f : Nat) (cur : Array Value) (hbx : w.heap[b]? = some (.cells cur f (0, 0))) (hf : 5 ≠ f) :
    Calls Tryz.prog 129 #[v, .int .i64 n, .int .i64 k] w fun e w' => ∃ v', e = .returned v' ∧ w'.ownsRow base 5 1 v' (l.length + k) (cellsB (l ++ lowL n.toNat k)) ∧ Below base w w' ∧ w'.heap[b]? = some (.cells cur f (0, 0)) := by
  obtain ⟨i0, hi, hz0, hz1, hz2⟩ := info_parts info_u8
  have HBX : Hid (w.heap[b]? = some (.cells cur f (0, 0))) := hbx
  clear hbx
  go_enter Tryz.func129, Tryz.ntmps129
  go_wp2
  go_loopw [0, 9] (fun m i wr => ∃ (j : Nat), j ≤ k ∧ i = .int .i64 j ∧ wr.ownsRow base 5 1 m (l.length + j) (cellsB (l ++ lowL n.toNat j)) ∧ Below base w wr ∧ Hid (wr.heap[b]? = some (.cells cur f (0, 0)))) (fun _ i _ => k - (intOf i).toNat)
  case atStart => exact ⟨0, Nat.zero_le _, rfl, by simpa [lowL] using hown, Below.refl _ _, HBX⟩
  case round =>
    obtain ⟨j, hj, rfl, ho, hb, HB⟩ := hrel
    by_cases hlt : j < k
    · have h8 : (0 : Int) ≤ 8 * (j : Int) := by omega
      have h9 : 8 * (j : Int) ≤ 64 := by omega
      go_wp2_with (at_builtin; refine wpList_append_own _ rfl (.tmp 12) (.tmp 18) 43 rfl base 5 i0 (.int .u8 0) 1 1 Tryz.underlying43 hi hz0 hz1 hz2 rfl (by decide) _ _ _ rfl (ho.alloc _) ⟨wr.heap.size, 0, none⟩ 1 1 [.int .u8 (IntKind.u8.wrap (n / 2 ^ (8 * (j : Int)).toNat))] rfl rfl ?c1 ?c2 ?c3 ?c4 ?c5 ?_)
      case c1 => exact cell_one_new _ _ _
      case c2 => intro u hu; simp at hu; subst hu; rfl
      case c3 => unfold maxLen; omega
      case c4 => omega
      case c5 => have := hb.size; simp; omega
      intro v' w1 hown' hgrow _
      have HB1 : Hid (w1.heap[b]? = some (.cells cur f (0, 0))) := box_grown (box_alloc HB.out _) (ho.alloc _) hf hgrow
      clear h8 h9
      go_wp2
      go_roundw
      case rel =>
        refine ⟨j + 1, by omega, by go_num, ?_, ?_, HB1⟩
        · rw [← cells_snoc hn]; exact hown'
        · exact (hb.alloc (by have := hb.size; omega) _).grown hgrow (by have := hb.size; simp; omega) (own_ge ho)
      case measure => simp [intOf]; omega
    · have hjk : j = k := by omega
      subst hjk
      go_wp2
      go_ret
      exact ⟨_, rfl, ho, hb, HB.out⟩

theorem slot_parts (x : Option Slt) (hx : ∀ y, x = some y → y.num < 4294967296 ∧ y.blk ≤ 100000 ∧ y.no ≤ 255) : ∃ kd nm bl no : Nat, (sltP x = [.int .u8 (kd : Int), .int .i64 (nm : Int), .int .i64 (bl : Int), .int .i64 (no : Int)] ∧ sltB x = (([UInt8.ofNat kd] ++ lowL nm 4) ++ lowL bl 4) ++ lowL no 1) ∧ kd ≤ 1 ∧ nm < 4294967296 ∧ bl ≤ 100000 ∧ no ≤ 255 := by
  cases x with
  | none => exact ⟨0, 0, 0, 0, ⟨rfl, rfl⟩, by omega, by omega, by omega, by omega⟩
  | some y =>
    have := hx y rfl
    exact ⟨1, y.num, y.blk, y.no, ⟨rfl, rfl⟩, by omega, by omega, by omega, by omega⟩
theorem cellsB_one (l : List UInt8) {kd : Nat} (h : kd ≤ 1) : cellsB l ++ [.int .u8 (kd : Int)] = cellsB (l ++ [UInt8.ofNat kd]) := by
  rw [cellsB_append]
  congr 1
  simp [cellsB]
  omega
theorem box_cells {w : World} {b f : Nat} {x0 x1 x2 x3 : Value} (h : w.heap[b]? = some (.cells #[x0, x1, x2, x3] f (0, 0))) : w.cell? ⟨b, 0, none⟩ = some x0 ∧ w.cell? ⟨b, 1, none⟩ = some x1 ∧ w.cell? ⟨b, 2, none⟩ = some x2 ∧ w.cell? ⟨b, 3, none⟩ = some x3 :=
  ⟨cell_of_row w b 0 _ f _ h, cell_of_row w b 1 _ f _ h, cell_of_row w b 2 _ f _ h, cell_of_row w b 3 _ f _ h⟩

set_option maxRecDepth 100000 in
set_option maxHeartbeats 3200000 in
theorem tableBytes_any (g n cap base : Nat) (t : List (Option Slt)) (w : World) (hown : w.ownsRow base 175 4 (.slice (some ⟨g, 0, none⟩) n cap) n (cellsP t)) (htl : t.length = n) (hn0 : 0 < n) (hn : n ≤ 5000) (hslt : ∀ y : Slt, some y ∈ t → y.num < 4294967296 ∧ y.blk ≤ 100000 ∧ y.no ≤ 255) (hH : HalvesAt w) :
    Calls Tryz.prog 98 #[.slice (some ⟨g, 0, none⟩) n cap] w fun e w' => ∃ v', e = .returned v' ∧ w'.ownsRow w.heap.size 5 1 v' (sealL (tabB t)).length (cellsB (sealL (tabB t))) ∧ Below w.heap.size w w' := by
  obtain ⟨i0, hi, hz0, hz1, hz2⟩ := info_parts info_u8
  have HH : Hid (HalvesAt w) := hH
  have HOWN : Hid (w.ownsRow base 175 4 (.slice (some ⟨g, 0, none⟩) n cap) n (cellsP t)) := hown
  have hgw : g < w.heap.size := by
    obtain ⟨g', c', he, _, hgw', _⟩ := own_cellsN hown hn0
    simp at he; omega
  clear hH hown
  go_enter Tryz.func98, Tryz.ntmps98
  go_wp2
  go_loopw [3, 8] (fun bv i wr => ∃ (k : Nat), k ≤ n ∧ i = .int .i64 k ∧ wr.ownsRow w.heap.size 5 1 bv (tabB (t.take k)).length (cellsB (tabB (t.take k))) ∧ Below w.heap.size w wr) (fun _ i _ => n - (intOf i).toNat)
  case atStart => exact ⟨0, Nat.zero_le _, rfl, World.ownsRow_nil _ _ _ _, Below.refl _ _⟩
  case round =>
    obtain ⟨k, hk, rfl, hrow, hb⟩ := hrel
    obtain ⟨W1, rfl⟩ : ∃ W1, W1 = wr := ⟨_, rfl⟩
    have hbs := hb.size
    have hll : (tabB (t.take k)).length ≤ 60000 := by rw [tabB_length]; simp; omega
    by_cases hkn : k < n
    · have hta : t[k]? = some t[k] := List.getElem?_eq_getElem (by omega)
      obtain ⟨kd, nm, bl, no, ⟨hP, hS⟩, l1, l2, l3, l4⟩ := slot_parts t[k] (fun y hy => hslt y (List.mem_of_getElem? (by rw [hta, hy])))
      obtain ⟨z0, z1, z2, z3⟩ := pslot_at HOWN.out hta hkn
      rw [hP] at z0 z1 z2 z3
      simp only [List.getElem?_cons_zero, List.getElem?_cons_succ] at z0 z1 z2 z3
      replace z0 := (hb.cell (p := ⟨g, k * 4, none⟩) hgw).trans z0
      replace z1 := (hb.cell (p := ⟨g, k * 4 + 1, none⟩) hgw).trans z1
      replace z2 := (hb.cell (p := ⟨g, k * 4 + 2, none⟩) hgw).trans z2
      replace z3 := (hb.cell (p := ⟨g, k * 4 + 3, none⟩) hgw).trans z3
      have HTK : Hid (tabB (t.take (k + 1)) = tabB (t.take k) ++ ((([UInt8.ofNat kd] ++ lowL nm 4) ++ lowL bl 4) ++ lowL no 1)) := by
        show _ = _
        rw [List.take_succ_eq_append_getElem (by omega), tabB_snoc, hS]
      have hbox : (W1.alloc (.cells #[.int .u8 (kd : Int), .int .i64 (nm : Int), .int .i64 (bl : Int), .int .i64 (no : Int)] 175)).heap[W1.heap.size]? = some (.cells #[.int .u8 (kd : Int), .int .i64 (nm : Int), .int .i64 (bl : Int), .int .i64 (no : Int)] 175 (0, 0)) := heap_alloc_new W1 _
      have HBOX : Hid _ := hbox
      have HROW : Hid (W1.ownsRow w.heap.size 5 1 u3 (tabB (t.take k)).length (cellsB (tabB (t.take k)))) := hrow
      have HB : Hid (Below w.heap.size w W1) := hb
      clear hta hP hS hrow hb hbox hslt
      generalize tabB (t.take k) = l at *
      go_wp2_with (at_builtin; refine wpList_append_own _ rfl (.tmp 12) (.tmp 15) 43 rfl w.heap.size 5 i0 (.int .u8 0) 1 1 Tryz.underlying43 hi hz0 hz1 hz2 rfl (by decide) _ _ _ rfl ((HROW.out.alloc _).alloc _) ⟨W1.heap.size + 1, 0, none⟩ 1 1 [.int .u8 (kd : Int)] rfl rfl ?c1 ?c2 ?c3 ?c4 ?c5 ?_)
      case c1 =>
        have h5 := cell_one_new (W1.alloc (.cells #[.int .u8 (kd : Int), .int .i64 (nm : Int), .int .i64 (bl : Int), .int .i64 (no : Int)] 175)) (.int .u8 (kd : Int)) 5
        rwa [show (W1.alloc (.cells #[.int .u8 (kd : Int), .int .i64 (nm : Int), .int .i64 (bl : Int), .int .i64 (no : Int)] 175)).heap.size = W1.heap.size + 1 by simp] at h5
      case c2 => intro u hu; simp at hu; subst hu; rfl
      case c3 => unfold maxLen; omega
      case c4 => omega
      case c5 => simp; omega
      intro v1 w1 hown1 hg1 _
      have hrow1 : w1.ownsRow w.heap.size 5 1 v1 (l ++ [UInt8.ofNat kd]).length (cellsB (l ++ [UInt8.ofNat kd])) := by
        rw [← cellsB_one l l1, List.length_append]; exact hown1
      have hbx1 := box_grown (box_alloc HBOX.out (.cells #[.int .u8 (kd : Int)] 5)) ((HROW.out.alloc _).alloc _) (by decide) hg1
      have hB1 : Below w.heap.size w w1 := ((HB.out.alloc hbs _).alloc (by simp; omega) _).grown hg1 (by simp; omega) (own_ge HROW.out)
      have HBX1 : Hid _ := hbx1
      have HB1 : Hid (Below w.heap.size w w1) := hB1
      have HROW1 : Hid (w1.ownsRow w.heap.size 5 1 v1 (l ++ [UInt8.ofNat kd]).length (cellsB (l ++ [UInt8.ofNat kd]))) := hrow1
      obtain ⟨_, x1, _, _⟩ := box_cells hbx1
      have hs1 := hB1.size
      have HA1 : Hid _ := appendLow_box v1 (l ++ [UInt8.ofNat kd]) (nm : Int) 4 w1 w.heap.size (by omega) (by omega) (by omega) hrow1 hs1 (by simp; omega) W1.heap.size 175 _ hbx1 (by decide)
      clear hown1 hg1 hrow1 hbx1 hB1 z0 z1 z2 z3 HROW HBOX HB
      go_wp2_with fail
      refine Calls.mono HA1.out ?_
      rintro e w2 ⟨v2, rfl, hrow2, hb2, hbx2⟩
      have hB2 : Below w.heap.size w w2 := HB1.out.trans hb2
      have hl2 : (l ++ [UInt8.ofNat kd]).length + 4 = ((l ++ [UInt8.ofNat kd]) ++ lowL nm 4).length := by simp [lowL_length]
      rw [Int.toNat_natCast, hl2] at hrow2
      obtain ⟨_, _, x2, _⟩ := box_cells hbx2
      have HA2 : Hid _ := appendLow_box v2 ((l ++ [UInt8.ofNat kd]) ++ lowL nm 4) (bl : Int) 4 w2 w.heap.size (by omega) (by omega) (by omega) hrow2 hB2.size (by simp [lowL_length]; omega) W1.heap.size 175 _ hbx2 (by decide)
      have HB2 : Hid (Below w.heap.size w w2) := hB2
      clear x1 HA1 HB1 hrow2 hb2 hbx2 hB2 hl2 HBX1 HROW1
      go_wp2_with fail
      refine Calls.mono HA2.out ?_
      rintro e w3 ⟨v3, rfl, hrow3, hb3, hbx3⟩
      have hB3 : Below w.heap.size w w3 := HB2.out.trans hb3
      have hl3 : ((l ++ [UInt8.ofNat kd]) ++ lowL nm 4).length + 4 = (((l ++ [UInt8.ofNat kd]) ++ lowL nm 4) ++ lowL bl 4).length := by simp [lowL_length]
      rw [Int.toNat_natCast, hl3] at hrow3
      obtain ⟨_, _, _, x3⟩ := box_cells hbx3
      have HA3 : Hid _ := appendLow_box v3 (((l ++ [UInt8.ofNat kd]) ++ lowL nm 4) ++ lowL bl 4) (no : Int) 1 w3 w.heap.size (by omega) (by omega) (by omega) hrow3 hB3.size (by simp [lowL_length]; omega) W1.heap.size 175 _ hbx3 (by decide)
      have HB3 : Hid (Below w.heap.size w w3) := hB3
      clear x2 HA2 HB2 hrow3 hb3 hbx3 hB3 hl3
      go_wp2_with fail
      refine Calls.mono HA3.out ?_
      rintro e w4 ⟨v4, rfl, hrow4, hb4, _⟩
      have HB4 : Hid (Below w.heap.size w w4) := HB3.out.trans hb4
      have hl4 : (((l ++ [UInt8.ofNat kd]) ++ lowL nm 4) ++ lowL bl 4).length + 1 = ((((l ++ [UInt8.ofNat kd]) ++ lowL nm 4) ++ lowL bl 4) ++ lowL no 1).length := by simp [lowL_length]
      have he4 : (((l ++ [UInt8.ofNat kd]) ++ lowL nm 4) ++ lowL bl 4) ++ lowL no 1 = tabB (t.take (k + 1)) := by rw [HTK.out]; simp [List.append_assoc]
      rw [Int.toNat_natCast, hl4, he4] at hrow4
      have HROW4 : Hid (w4.ownsRow w.heap.size 5 1 v4 (tabB (t.take (k + 1))).length (cellsB (tabB (t.take (k + 1))))) := hrow4
      clear x3 HA3 HB3 hrow4 hb4 hl4 he4
      go_wp2
      go_roundw
      case rel => exact ⟨k + 1, by omega, by first | rfl | go_num, HROW4.out, HB4.out⟩
      case measure => first | (simp [intOf]; omega) | (simp [intOf])
    · have hke : k = n := by omega
      subst hke
      rw [show t.take k = t from List.take_of_length_le (by omega)] at hrow hll
      have HSE : Hid _ := seal_any _ (tabB t) w.heap.size W1 hrow hbs (by omega) (HH.out.below hb HH.out.1)
      clear hrow
      go_wp2_with fail
      refine Calls.mono HSE.out ?_
      rintro e w2 ⟨v2, rfl, hrow2, hb2⟩
      have HROW2 : Hid (w2.ownsRow w.heap.size 5 1 v2 (sealL (tabB t)).length (cellsB (sealL (tabB t)))) := hrow2
      clear hrow2
      go_wp2
      go_ret
      exact ⟨_, rfl, HROW2.out, hb.trans hb2⟩
end Go.Proofs.YtdhgebdbiehchaaGreatDoor
namespace Go.Proofs.YtdhgebdbiehchaaGreatDoor
open Go.RowKit Go.Shelf Go.Maps
set_option linter.unusedSimpArgs false
set_option linter.unusedVariables false
attribute [local go_sem] Oper.semAt_some

def cellsQ (ss : List Sd) : List Value := ss.flatMap fun x => [.int .i64 x.blk, .int .i64 x.no]
theorem cellsQ_snoc (ss : List Sd) (x : Sd) : cellsQ (ss ++ [x]) = cellsQ ss ++ [.int .i64 x.blk, .int .i64 x.no] := by simp [cellsQ]
theorem cellsQ_length (ss : List Sd) : (cellsQ ss).length = ss.length * 2 := by
  induction ss with
  | nil => rfl
  | cons x ss ih =>
    have : cellsQ (x :: ss) = [.int .i64 x.blk, .int .i64 x.no] ++ cellsQ ss := rfl
    rw [this, List.length_append, ih]; simp; omega
theorem info_Pl : ∃ i, Tryz.prog.info? 165 = some i ∧ i.zero = some (.agg #[.int .i64 0, .int .i64 0]) ∧ i.size = 2 ∧ i.bytes = 16 := by
  have h : ((Tryz.prog.info? 165).bind fun i => if i.size = 2 ∧ i.bytes = 16 then i.zero else none) = some (.agg #[.int .i64 0, .int .i64 0]) := by kernel_rfl
  cases hi : Tryz.prog.info? 165 with
  | none => rw [hi] at h; cases h
  | some i =>
    rw [hi] at h
    simp only [Option.bind_some] at h
    split at h
    · rename_i hc; exact ⟨i, rfl, h, hc.1, hc.2⟩
    · cases h

/-- Between two rounds: the slice's box, and the row. -/
def AsI (w : World) (ss : List Sd) (W : World) : Prop :=
  ∃ v, Bx W w.heap.size #[v] 166 ∧ W.ownsRow (w.heap.size + 1) 165 2 v ss.length (cellsQ ss) ∧ Below w.heap.size w W ∧ w.heap.size < W.heap.size
theorem own_kept {W W' : World} {base e size n : Nat} {v : Value} {xs : List Value} (h : W.ownsRow base e size v n xs) {row : Option Nat} (hg : W.grownBy W' row) (hr : ∀ r, row = some r → ∃ o : Obj, W.heap[r]? = some o ∧ o.isCells = false) : W'.ownsRow base e size v n xs := by
  refine h.kept hg ?_
  rcases h.2 with ⟨e, _⟩ | ⟨g, cap, cur, e, _, hgb, _⟩
  · exact .inl (by rw [e]; rfl)
  · refine .inr fun e' => ?_
    rw [e] at e'
    obtain ⟨o, ho, hc⟩ := hr g (by simpa [Value.ownBlock] using e'.symm)
    rw [hgb] at ho; cases ho; cases hc
theorem asI_own (w : World) (B : Nat) (hB : w.heap.size ≤ B) : OwnFrom B (AsI w) := by
  rintro s X Y row ⟨v, h1, h2, h3, h4⟩ hg hr
  have hr' := fun r e => (hr r e).2
  refine ⟨v, h1.kept hg hr', own_kept h2 hg hr', h3.grown hg h3.size (fun k e => ?_), Nat.lt_of_lt_of_le h4 hg.size⟩
  have := (hr k e).1; omega

theorem two_new (W : World) (a b : Value) (t : TypeId) : ∀ j u, [a, b][j]? = some u → (W.alloc (.cells #[a, b] t)).cell? ((⟨W.heap.size, 0, none⟩ : Addr).add j) = some u := by
  intro j u hu
  rw [Addr.add_lit, Nat.zero_add, World.cell?_alloc_at _ _ _ _ rfl]
  simpa using hu
theorem app_box {W w3 : World} {b base e f size n : Nat} {v u : Value} {xs : List Value} {o : Obj} (hb : Bx W b #[u] f) (hrow : W.ownsRow base e size v n xs) (hne : e ≠ f) (hg : (W.alloc o).grownBy w3 v.ownBlock) : Bx w3 b #[u] f :=
  box_grown (hb.alloc o) (hrow.alloc o) hne hg

theorem own_isCells {W : World} {base e size n : Nat} {v : Value} {xs : List Value} (h : W.ownsRow base e size v n xs) : ∀ (j : Nat) (o : Obj), v.ownBlock = some j → W.heap[j]? = some o → o.isCells = true := by
  intro j o hj ho
  rcases h.2 with ⟨rfl, _⟩ | ⟨g, cap, cur, rfl, _, hgb, _⟩
  · simp [Value.ownBlock] at hj
  · have : g = j := by simpa [Value.ownBlock] using hj
    subst this; rw [hgb] at ho; cases ho; rfl

def asAct (z Bm bx : Nat) (x : Sd) : Act :=
  { tmps := #[.slice none 0 0, .func (.func 190) #[] #[.pointer (some ⟨Bm, 0, none⟩)], .pointer (some ⟨z, 0, none⟩), undef, .slice none 0 0, .pointer (some ⟨bx, 0, none⟩), .func (.func 190) #[] #[.pointer (some ⟨Bm, 0, none⟩)], .agg #[.int .i64 x.blk, .int .i64 x.no], undef, undef, undef, undef, undef], defers := [] }

set_option maxRecDepth 100000 in
set_option maxHeartbeats 3200000 in
theorem appendSeq_in (n : Nat) (hn : 6 ≤ n) (Bm b nn : Nat) (L : List Sd) (D : DataW Unit) (w : World) (hz : Bm < w.heap.size) (hm : w.cell? ⟨Bm, 0, none⟩ = some (.map (some b))) (hown : w.ownsMap Tryz.prog 165 rIt b nn D) (hv : View D (fI L)) (hsz : Maps.size D = L.length) (hL : Lives L) (hlen : L.length ≤ 100000000) :
    CallsIn Fence.wide n Tryz.prog 206 #[.slice none 0 0, .func (.func 190) #[] #[.pointer (some ⟨Bm, 0, none⟩)]] w fun e w' => ∃ v ss, e = .returned v ∧ ss.Perm L ∧ w'.ownsRow w.heap.size 165 2 v ss.length (cellsQ ss) ∧ Below w.heap.size w w' := by
  have h1 : 1 ≤ n := by omega
  obtain ⟨i0, hi, hz0, hz1, hz2⟩ := info_Pl
  refine callsIn_of_wp_marks Tryz.func206 rfl trivial ?_ rfl
  simp only [Tryz.ntmps206, List.size_toArray, List.length_cons, List.length_nil, Nat.reduceAdd, Nat.reduceSub, Array.replicate_succ, Array.replicate_zero, List.push_toArray, List.append_toArray, List.nil_append, List.cons_append]
  gi_wp2_with fail
  have hbx := bx_new w #[.slice none 0 0] 166 rfl
  have hBw := (Below.refl w.heap.size w).alloc (Nat.le_refl _) (.cells #[.slice none 0 0] 166)
  have hown' : (w.alloc (.cells #[.slice none 0 0] 166)).ownsMap Tryz.prog 165 rIt b nn D := hown.alloc _
  have hm' : (w.alloc (.cells #[.slice none 0 0] 166)).cell? ⟨Bm, 0, none⟩ = some (.map (some b)) := (hBw.cell (p := ⟨Bm, 0, none⟩) hz).trans hm
  have hzV : (w.alloc (.cells #[.slice none 0 0] 166)).heap.size = w.heap.size + 1 := World.size_alloc _ _
  generalize w.alloc (.cells #[.slice none 0 0] 166) = V at *
  refine wpIn_rangeTells rfl h1 (gf := 190) (lb := #[.pointer (some ⟨Bm, 0, none⟩)]) rfl trivial (enters_of Tryz.func190 (by kernel_rfl) rfl)
    (keys_tells (n - 1) (by omega) Bm b nn L D V (by omega) hm' hown' hv hsz hL)
    KeepsWalks.trans (fun W l o o' _ ho _ hw => KeepsWalks.putObj _ ho hw) (Below.refl _ _) (fun _ => rfl)
    (AsI w) (asI_own w _ (by omega)) ⟨_, hbx, World.ownsRow_nil _ _ _ _, hBw, by omega⟩
    (fun pre x a' W => (x ∈ L ∧ pre.length < L.length) ∧ ∃ bx, w.heap.size + 1 ≤ bx ∧ Bx W bx #[.int .i64 x.blk, .int .i64 x.no] 165 ∧ a' = asAct w.heap.size Bm bx x) ?hAx ?assign ?body ?done
  case hAx =>
    rintro pre x a' _ X Y row ⟨h1, bx, h2, h3, h4⟩ hg hr
    exact ⟨h1, bx, h2, h3.kept hg (fun r e => (hr r e).2), h4⟩
  case assign =>
    rintro l pre x W K hI hP hK
    simp only [plV]
    gi_wp2
    exact hK _ _ ((KeepsOthers.alloc _ _).from _) (KeepsWalks.alloc _ _) ((asI_own w _ (by omega) : OwnFrom V.heap.size _).alloc _ hI)
      ⟨hP, W.heap.size, by obtain ⟨_, _, _, _, h⟩ := hI; omega, bx_new W _ _ rfl, rfl⟩
  case body =>
    rintro l pre x a' W ⟨v, bS, hrow, hB, hZ⟩ ⟨hP, bx, hbx2, bB, rfl⟩
    have x0 := bB.cell (j := 0) rfl
    have x1 := bB.cell (j := 1) rfl
    have s0 := bS.cell (j := 0) rfl
    have s1 := bS.frozen 0
    have hbl := bB.lt
    have hZW : W.heap.size ≤ (W.alloc (.cells #[.int .i64 (x.blk : Int), .int .i64 (x.no : Int)] 165)).heap.size := by simp
    unfold asAct
    gi_wp2_with (first
      | (gi_at_builtin; refine wpListIn_append_own _ rfl _ _ 166 rfl (w.heap.size + 1) 165 i0 (.agg #[.int .i64 0, .int .i64 0]) 2 16 Tryz.underlying166 hi hz0 hz1 hz2 rfl (by decide) _ _ _ rfl (hrow.alloc _) ⟨W.heap.size, 0, none⟩ 1 1 [.int .i64 (x.blk : Int), .int .i64 (x.no : Int)] rfl rfl (two_new _ _ _ _) (by simp [Value.oneCell']) (by unfold maxLen; omega) (by omega) (by simp; omega) ?_; intro v' w3 hown' hgrow _; have bS3 := app_box bS hrow (by decide) hgrow; have t0 := bS3.cell (j := 0) rfl; have t1 := bS3.frozen 0; obtain ⟨g', cap', rfl⟩ := Joins.ownsRow_form hown' (by omega); go_frame)
      | gi_in)
    have hko : KeepsOthers W (w3.setCell ⟨w.heap.size, 0, none⟩ (.slice (some ⟨g', 0, none⟩) (pre.length + 1) cap')) := ((KeepsOthers.alloc W _).trans (KeepsOthers.of_grownBy hgrow (own_isCells (hrow.alloc _)))).trans (KeepsOthers.setCell _ _ _)
    have hgb := own_ge hown' g' rfl
    have hgs := grownBy_setCell' w3 w.heap.size (.slice (some ⟨g', 0, none⟩) (pre.length + 1) cap')
    have hB3 : Below w.heap.size w w3 := (hB.alloc (by omega) _).grown hgrow (by simp; omega) (fun k e => by have := own_ge hrow k e; omega)
    refine ⟨hko.from _, hko.walks, _, bS3.set1 _, ?_, hB3.setCell (Nat.le_refl _) _, ?_⟩
    · rw [cellsQ_snoc, List.length_append]
      exact hown'.kept hgs (.inr (fun e => by simp [Value.ownBlock] at e; omega))
    · have := hgs.size
      have := hgrow.size
      simp at *
      omega
  case done =>
    rintro Dd xs W hD hperm ⟨v, bS, hrow, hB, hZ⟩ hK
    have s0 := bS.cell (j := 0) rfl
    gi_wp2_with fail
    refine ⟨by simp, .inl ⟨_, _, rfl, run_takeDeferred hK, ?_⟩⟩
    refine ⟨v, ?_, v, xs, rfl, hperm, ?_, ?_⟩
    · simp [results, Tryz.results206, go_sem]
    · exact Joins.ownsRow_le (own_kept hrow (grownBy_putObj' W Dd (.deferred none)) (fun r e => by cases e; exact ⟨_, hK, rfl⟩)) (by omega)
    · exact hB.grown (grownBy_putObj' W Dd (.deferred none)) hB.size (fun k e => by cases e; omega)

set_option maxHeartbeats 800000 in
theorem collect_in (n : Nat) (hn : 7 ≤ n) (Bm b nn : Nat) (L : List Sd) (D : DataW Unit) (w : World) (hz : Bm < w.heap.size) (hm : w.cell? ⟨Bm, 0, none⟩ = some (.map (some b))) (hown : w.ownsMap Tryz.prog 165 rIt b nn D) (hv : View D (fI L)) (hsz : Maps.size D = L.length) (hL : Lives L) (hlen : L.length ≤ 100000000) :
    Calls Tryz.prog 188 #[.func (.func 190) #[] #[.pointer (some ⟨Bm, 0, none⟩)]] w fun e w' => ∃ v ss, e = .returned v ∧ ss.Perm L ∧ w'.ownsRow w.heap.size 165 2 v ss.length (cellsQ ss) ∧ Below w.heap.size w w' := by
  have HA : Hid _ := callsIn_wide.1 (appendSeq_in 6 (by omega) Bm b nn L D w hz hm hown hv hsz hL hlen)
  clear hm hown hv hsz hL
  go_enter Tryz.func188, Tryz.ntmps188
  go_wp2_with fail
  refine Calls.mono HA.out ?_
  rintro e w1 ⟨v, ss, rfl, hp, hr, hb⟩
  go_wp2
  go_ret
  exact ⟨v, ss, rfl, hp, hr, hb⟩
end Go.Proofs.YtdhgebdbiehchaaGreatDoor
namespace Go.Proofs.YtdhgebdbiehchaaGreatDoor
open Go.RowKit
open Go.Shelf
set_option linter.unusedSimpArgs false
set_option linter.unusedVariables false

def Tryz.sortPl_ren : Go.Shelf.Ren := ⟨fun | 6 => 189 | 15 => 208 | 14 => 207 | 28 => 220 | 29 => 221 | 20 => 212 | 21 => 213 | 22 => 214 | 23 => 215 | 24 => 216 | 25 => 217 | 26 => 218 | 27 => 219 | 46 => 224 | 47 => 225 | 48 => 226 | 49 => 227 | 50 => 228 | 57 => 233 | n => n, fun | 22 => 166 | 24 => 165 | 25 => 248 | 3 => 3 | 39 => 308 | 0 => 0 | 53 => 227 | 55 => 251 | 4 => 4 | 46 => 319 | 45 => 318 | 50 => 323 | 5 => 5 | 9 => 9 | 66 => 328 | 70 => 332 | 76 => 338 | 77 => 339 | n => n, fun | n => n⟩
theorem Tryz.sortPl : Go.Proofs.SlLaysF0.n6 Tryz.prog Tryz.sortPl_ren := {
  mixed := by kernel_rfl,
  f6 := ⟨Tryz.f189.name, by decide, Tryz.func189.trans (congrArg some (by kernel_rfl))⟩,
  f14 := ⟨Tryz.f207.name, by decide, Tryz.func207.trans (congrArg some (by kernel_rfl))⟩,
  f15 := Tryz.func208.trans (congrArg some (by kernel_rfl)),
  f20 := ⟨Tryz.f212.name, by decide, Tryz.func212.trans (congrArg some (by kernel_rfl))⟩,
  f21 := ⟨Tryz.f213.name, by decide, Tryz.func213.trans (congrArg some (by kernel_rfl))⟩,
  f22 := ⟨Tryz.f214.name, by decide, Tryz.func214.trans (congrArg some (by kernel_rfl))⟩,
  f23 := ⟨Tryz.f215.name, by decide, Tryz.func215.trans (congrArg some (by kernel_rfl))⟩,
  f24 := ⟨Tryz.f216.name, by decide, Tryz.func216.trans (congrArg some (by kernel_rfl))⟩,
  f25 := ⟨Tryz.f217.name, by decide, Tryz.func217.trans (congrArg some (by kernel_rfl))⟩,
  f26 := ⟨Tryz.f218.name, by decide, Tryz.func218.trans (congrArg some (by kernel_rfl))⟩,
  f27 := ⟨Tryz.f219.name, by decide, Tryz.func219.trans (congrArg some (by kernel_rfl))⟩,
  f28 := Tryz.func220.trans (congrArg some (by kernel_rfl)),
  f29 := Tryz.func221.trans (congrArg some (by kernel_rfl)),
  f46 := ⟨Tryz.f224.name, by decide, Tryz.func224.trans (congrArg some (by kernel_rfl))⟩,
  f47 := Tryz.func225.trans (congrArg some (by kernel_rfl)),
  f48 := Tryz.func226.trans (congrArg some (by kernel_rfl)),
  f49 := ⟨Tryz.f227.name, by decide, Tryz.func227.trans (congrArg some (by kernel_rfl))⟩,
  f50 := ⟨Tryz.f228.name, by decide, Tryz.func228.trans (congrArg some (by kernel_rfl))⟩,
  f57 := ⟨Tryz.f233.name, by decide, Tryz.func233.trans (congrArg some (by kernel_rfl))⟩,
  t0 := Tryz.underlying0,
  a0 := Tryz.isAgg0,
  z0 := Tryz.sizeOf0,
  v0 := Tryz.zeroValue0,
  t3 := Tryz.underlying3,
  a3 := Tryz.isAgg3,
  z3 := Tryz.sizeOf3,
  v3 := Tryz.zeroValue3,
  t4 := Tryz.underlying4,
  a4 := Tryz.isAgg4,
  z4 := Tryz.sizeOf4,
  v4 := Tryz.zeroValue4,
  t5 := Tryz.underlying5,
  a5 := Tryz.isAgg5,
  z5 := Tryz.sizeOf5,
  v5 := Tryz.zeroValue5,
  t9 := Tryz.underlying9,
  a9 := Tryz.isAgg9,
  z9 := Tryz.sizeOf9,
  v9 := Tryz.zeroValue9,
  t22 := Tryz.underlying166,
  a22 := Tryz.isAgg166,
  z22 := Tryz.sizeOf166,
  v22 := Tryz.zeroValue166,
  t25 := Tryz.underlying248,
  a25 := Tryz.isAgg248,
  z25 := Tryz.sizeOf248,
  v25 := Tryz.zeroValue248,
  t39 := Tryz.underlying308,
  a39 := Tryz.isAgg308,
  z39 := Tryz.sizeOf308,
  v39 := Tryz.zeroValue308,
  t45 := Tryz.underlying318,
  a45 := Tryz.isAgg318,
  z45 := Tryz.sizeOf318,
  v45 := Tryz.zeroValue318,
  t46 := Tryz.underlying319,
  a46 := Tryz.isAgg319,
  z46 := Tryz.sizeOf319,
  v46 := Tryz.zeroValue319,
  t50 := Tryz.underlying323,
  a50 := Tryz.isAgg323,
  z50 := Tryz.sizeOf323,
  v50 := Tryz.zeroValue323,
  t53 := Tryz.underlying227,
  a53 := Tryz.isAgg227,
  z53 := Tryz.sizeOf227,
  v53 := Tryz.zeroValue227,
  t55 := Tryz.underlying251,
  a55 := Tryz.isAgg251,
  z55 := Tryz.sizeOf251,
  v55 := Tryz.zeroValue251,
  t66 := Tryz.underlying328,
  a66 := Tryz.isAgg328,
  z66 := Tryz.sizeOf328,
  v66 := Tryz.zeroValue328,
  t70 := Tryz.underlying332,
  a70 := Tryz.isAgg332,
  z70 := Tryz.sizeOf332,
  v70 := Tryz.zeroValue332,
  t76 := Tryz.underlying338,
  a76 := Tryz.isAgg338,
  z76 := Tryz.sizeOf338,
  v76 := Tryz.zeroValue338,
  t77 := Tryz.underlying339,
  a77 := Tryz.isAgg339,
  z77 := Tryz.sizeOf339,
  v77 := Tryz.zeroValue339 }

/-- A place's two cells. -/
def encP (x : Int × Int) : List Value := [.int .i64 x.1, .int .i64 x.2]
def cmpP (x y : Int × Int) : Int := orI (cmpI x.1 y.1) (cmpI x.2 y.2)
theorem ltP (x y : Int × Int) : ltOf cmpP x y = decide (x.1 < y.1 ∨ (x.1 = y.1 ∧ x.2 < y.2)) := by
  unfold ltOf cmpP orI cmpI
  by_cases h1 : x.1 < y.1
  · simp [h1]
  · by_cases h2 : y.1 < x.1
    · have : x.1 ≠ y.1 := by omega
      simp [h1, h2, this]
    · have : x.1 = y.1 := by omega
      by_cases h3 : x.2 < y.2
      · simp [this, h3]
      · by_cases h4 : y.2 < x.2 <;> simp [this, h3, h4]
theorem swoP : Sort.SWO (ltOf cmpP) where
  irrefl x := by rw [ltP]; simp
  trans x y z h1 h2 := by rw [ltP] at *; simp at *; omega
  ntrans x y z h1 h2 := by rw [ltP] at *; simp at *; omega
theorem cmpLaysP (blk off size : Nat) (w : World) : CmpLays Tryz.prog 150 #[] encP 2 cmpP blk off size w :=
  fun _ _ _ _ x y => placeCmp_any x.1 x.2 y.1 y.2 _

theorem sortFunc_any (blk cap : Nat) (d : Array (Int × Int)) (w : World) (hH : Sort.HoldsK encP 2 w blk 0 d) (hblk : blk < w.heap.size) (hsz : d.size < 4611686018427387904) :
    Calls Tryz.prog 189 #[.slice (some ⟨blk, 0, none⟩) d.size cap, .func (.func 150) #[] #[]] w fun e w' => e = .returned (.tuple #[]) ∧ ∃ d' n os, Sort.PermIn 0 d.size d d' ∧ Sort.SortedIn (ltOf cmpP) 0 d.size d' ∧ w' = sortWorldK encP 2 w blk 0 n d' os :=
  AnyQ.slices_SortFunc Tryz.sortPl 2 Tryz.isAgg165 Tryz.sizeOf165 encP (fun _ => rfl) (fun x v hv => by simp [encP] at hv; rcases hv with rfl | rfl <;> rfl) cmpP swoP 150 #[] blk 0 cap d w
    (enters_of Tryz.func150 (by kernel_rfl) rfl) (cmpLaysP blk 0 d.size w) hH hblk hsz
end Go.Proofs.YtdhgebdbiehchaaGreatDoor
namespace Go.Proofs.YtdhgebdbiehchaaGreatDoor
open Go.RowKit Go.Shelf Go.Maps
set_option linter.unusedSimpArgs false
set_option linter.unusedVariables false

def plI (x : Sd) : Int × Int := ((x.blk : Int), (x.no : Int))
theorem cellsQ_at (ss : List Sd) (j : Nat) (h : j < ss.length * 2) : (cellsQ ss)[j]? = some ((encP (plI (ss[j / 2]'(by omega))))[j % 2]!) := by
  induction ss generalizing j with
  | nil => simp at h
  | cons x ss ih =>
    have e : cellsQ (x :: ss) = [.int .i64 x.blk, .int .i64 x.no] ++ cellsQ ss := rfl
    rw [e]
    match j, h with
    | 0, _ => rfl
    | 1, _ => rfl
    | j + 2, h =>
      have h' : j < ss.length * 2 := by simp at h; omega
      rw [List.getElem?_append_right (by simp)]
      have := ih j h'
      simp only [List.length_cons, List.length_nil, Nat.add_sub_cancel]
      rw [this]
      congr 2
      · have e1 : (j + 2) / 2 = j / 2 + 1 := by omega
        simp [e1]
      · omega
theorem flat_cells (ss : List Sd) : (Sort.flatK encP 2 (ss.map plI).toArray).toList = cellsQ ss := by
  apply List.ext_getElem?
  intro j
  by_cases h : j < ss.length * 2
  · rw [cellsQ_at ss j h, Array.getElem?_toList]
    have h2 : j < (Sort.flatK encP 2 (ss.map plI).toArray).size := by simp; omega
    rw [Array.getElem?_eq_getElem h2]
    have h3 := Sort.get_flatK encP 2 (ss.map plI).toArray j (by simpa using h)
    rw [getElem!_pos (Sort.flatK encP 2 (ss.map plI).toArray) j h2] at h3
    rw [h3]
    have h4 : j / 2 < (ss.map plI).toArray.size := by simp; omega
    rw [getElem!_pos (ss.map plI).toArray (j / 2) h4]
    simp
  · rw [List.getElem?_eq_none (by simp; omega), List.getElem?_eq_none (by rw [cellsQ_length]; omega)]
theorem take_put (cur F : Array Value) (h : F.size ≤ cur.size) : (Sort.putCells id 0 F cur).toList.take F.size = F.toList := by
  apply List.ext_getElem?
  intro j
  by_cases hj : j < F.size
  · rw [List.getElem?_take_of_lt hj, Array.getElem?_toList]
    simp [Sort.putCells, hj, show j < cur.size by omega]
  · rw [List.getElem?_take_eq_none (by omega), List.getElem?_eq_none (by simp; omega)]

/-- A row of places as the sort asks for it; and behind the sort. -/
theorem holds_of_own {w : World} {base g cap : Nat} {ss : List Sd} (h : w.ownsRow base 165 2 (.slice (some ⟨g, 0, none⟩) ss.length cap) ss.length (cellsQ ss)) : Sort.HoldsK encP 2 w g 0 (ss.map plI).toArray := by
  have h' := h
  rcases h.2 with ⟨e, _⟩ | ⟨g', cap', cur, e, hb, hg, _⟩
  · cases e
  · cases e
    intro j hj
    have hj' : j < ss.length * 2 := by simpa using hj
    refine ⟨?_, by simp [World.frozen?, hg]⟩
    have h1 := h'.cellAt j hj'
    rw [Nat.zero_add, h1, ← flat_cells, Array.getElem?_toList, Array.getElem?_eq_getElem hj, getElem!_pos (Sort.flatK encP 2 (ss.map plI).toArray) j hj]
    rfl
theorem heap_sortedK {w : World} {g n : Nat} {os : Array Obj} {cur : Array Value} {e : TypeId} {fr : Nat × Nat} (d : Array (Int × Int)) (hb : w.heap[g]? = some (.cells cur e fr)) :
    (sortWorldK encP 2 w g 0 n d os).heap[g]? = some (.cells (Sort.putCells id 0 (Sort.flatK encP 2 d) cur) e fr) := by
  have hg : g < w.heap.size := (Array.getElem?_eq_some_iff.1 hb).1
  unfold sortWorldK Sort.putRowK
  rw [Sort.heap_grow_old _ _ (by simpa using hg)]
  simp [Sort.putRow, Sort.mapBlock, Sort.ahead, Array.getElem?_modify, hb, Sort.onCells]
theorem grown_sortedK {w : World} {g n : Nat} {os : Array Obj} (d : Array (Int × Int)) : w.grownBy (sortWorldK encP 2 w g 0 n d os) (some g) := by
  unfold sortWorldK Sort.putRowK
  refine ⟨rfl, rfl, rfl, by simp, fun k hk hne => ?_⟩
  rw [Sort.heap_grow_old _ _ (by simpa using hk)]
  have : g ≠ k := fun e => hne (by rw [e])
  simp [Sort.putRow, Sort.mapBlock, Sort.ahead, Array.getElem?_modify, this]
theorem own_sortedK {w : World} {base g cap n : Nat} {os : Array Obj} {ss ts : List Sd} (hl : ts.length = ss.length) (h : w.ownsRow base 165 2 (.slice (some ⟨g, 0, none⟩) ss.length cap) ss.length (cellsQ ss)) :
    (sortWorldK encP 2 w g 0 n (ts.map plI).toArray os).ownsRow base 165 2 (.slice (some ⟨g, 0, none⟩) ss.length cap) ss.length (cellsQ ts) := by
  rcases h.2 with ⟨e, _⟩ | ⟨g', cap', cur, e, hb, hg, h1, h2, h3, h4⟩
  · cases e
  · cases e
    refine ⟨by rw [cellsQ_length]; omega, .inr ⟨g, cap, _, rfl, hb, heap_sortedK _ hg, h1, h2, by simp [Sort.putCells, h3], ?_⟩⟩
    have := take_put cur (Sort.flatK encP 2 (ts.map plI).toArray) (by simp; omega)
    rw [flat_cells] at this
    rw [← this]
    congr 1
    simp [hl]

/-- What is sorted, of those that live. -/
theorem sorted_lives {L ss : List Sd} {d' : Array (Int × Int)} (hL : Lives L) (hp : ss.Perm L) (h1 : Sort.PermIn 0 (ss.map plI).toArray.size (ss.map plI).toArray d') (h2 : Sort.SortedIn (ltOf cmpP) 0 (ss.map plI).toArray.size d') : d' = (L.map plI).toArray := by
  have hsz : d'.size = ss.length := by have := h1.1; simpa using this
  have hlen : L.length = ss.length := hp.length_eq.symm
  have hperm : d'.toList.Perm (L.map plI) := by
    have := h1.2.2
    have e1 : (d'.extract 0 (ss.map plI).toArray.size).toList = d'.toList := by simp [← hsz]
    have e2 : ((ss.map plI).toArray.extract 0 (ss.map plI).toArray.size).toList = ss.map plI := by simp [List.take_of_length_le]
    rw [e1, e2] at this
    exact this.trans (hp.map plI)
  have hsL : (L.map plI).Pairwise (fun x y => ltOf cmpP x y = true) := by
    rw [List.pairwise_map]
    refine hL.rise.imp ?_
    intro x y h
    rw [ltP]
    unfold placeLt at h
    simp [plI]
    omega
  have hsd : d'.toList.Pairwise (fun x y => ltOf cmpP y x = false) := by
    rw [List.pairwise_iff_getElem]
    intro i j hi hj hij
    have hi' : i < d'.size := by simpa using hi
    have hj' : j < d'.size := by simpa using hj
    have := h2 i j (Nat.zero_le _) hij (by simp; omega)
    rw [getElem!_pos d' j hj', getElem!_pos d' i hi'] at this
    simpa using this
  have hsL2 : (L.map plI).Pairwise (fun x y => ltOf cmpP y x = false) := hsL.imp (fun {x y} h => by
    rw [ltP] at h ⊢
    simp at h ⊢
    omega)
  have heq : d'.toList = L.map plI := hperm.eq_of_pairwise (fun x y _ _ a b => by
    rw [ltP] at a b
    simp at a b
    have : x.1 = y.1 ∧ x.2 = y.2 := by omega
    exact Prod.ext this.1 this.2) hsd hsL2
  rw [← heq]
end Go.Proofs.YtdhgebdbiehchaaGreatDoor
namespace Go.Proofs.YtdhgebdbiehchaaGreatDoor
open Go.RowKit Go.Shelf Go.Maps
set_option linter.unusedSimpArgs false
set_option linter.unusedVariables false

set_option maxHeartbeats 1600000 in
theorem sortedFunc_any (Bm b nn : Nat) (L : List Sd) (D : DataW Unit) (w : World) (hz : Bm < w.heap.size) (hm : w.cell? ⟨Bm, 0, none⟩ = some (.map (some b))) (hown : w.ownsMap Tryz.prog 165 rIt b nn D) (hv : View D (fI L)) (hsz : Maps.size D = L.length) (hL : Lives L) (hlen : L.length ≤ 100000000) :
    Calls Tryz.prog 148 #[.func (.func 190) #[] #[.pointer (some ⟨Bm, 0, none⟩)], .func (.func 150) #[] #[]] w fun e w' => ∃ a cap, e = .returned (.slice a L.length cap) ∧ w'.ownsRow w.heap.size 165 2 (.slice a L.length cap) L.length (cellsQ L) ∧ Below w.heap.size w w' := by
  have HC : Hid _ := collect_in 7 (by omega) Bm b nn L D w hz hm hown hv hsz hL hlen
  have HL : Hid (Lives L) := hL
  clear hm hown hv hsz hL
  go_enter Tryz.func148, Tryz.ntmps148
  go_wp2_with fail
  refine Calls.mono HC.out ?_
  rintro e w1 ⟨v, ss, rfl, hp, hr, hb⟩
  have hll : ss.length = L.length := hp.length_eq
  rcases hr.2 with ⟨hnil, h0⟩ | ⟨g, cap, cur, rfl, hbase, hg, h1, h2, h3, h4⟩
  · subst hnil
    have hL0 : L = [] := List.length_eq_zero_iff.1 (by omega)
    subst hL0
    have hss : ss = [] := List.length_eq_zero_iff.1 (by simpa using hll)
    subst hss
    have HN : Hid (∀ wx, Calls Tryz.prog 189 #[.slice none 0 0, .func (.func 150) #[] #[]] wx fun e w' => e = .returned (.tuple #[]) ∧ w' = wx) := fun wx => AnyF.slices_SortFunc_none Tryz.sortPl none 0 _ wx
    clear HC hp hll
    go_wp2_with fail
    refine (HN.out _).mono ?_
    rintro e w2 ⟨rfl, rfl⟩
    go_wp2
    go_ret
    exact ⟨none, 0, rfl, hr, hb⟩
  · have HS : Hid _ := sortFunc_any g cap (ss.map plI).toArray w1 (holds_of_own hr) (Array.getElem?_eq_some_iff.1 hg).1 (by simp; omega)
    have HP : Hid (ss.Perm L) := hp
    have HR : Hid (w1.ownsRow w.heap.size 165 2 (.slice (some ⟨g, 0, none⟩) ss.length cap) ss.length (cellsQ ss)) := hr
    have hsz2 : (ss.map plI).toArray.size = ss.length := by simp
    rw [hsz2] at HS
    have HLL : Hid (ss.length = L.length) := hll
    clear HC hp hr hg h1 h2 h3 h4 hsz2 hll
    go_wp2_with fail
    refine Calls.mono HS.out ?_
    rintro e w2 ⟨rfl, d', n, os, q1, q2, rfl⟩
    have hd : d' = (L.map plI).toArray := sorted_lives HL.out HP.out (by rw [show (ss.map plI).toArray.size = ss.length by simp]; exact q1) (by rw [show (ss.map plI).toArray.size = ss.length by simp]; exact q2)
    subst hd
    have hr2 := own_sortedK (n := n) (os := os) (ts := L) HLL.out.symm HR.out
    have hb2 : Below w.heap.size w (sortWorldK encP 2 w1 g 0 n (L.map plI).toArray os) := hb.grown (grown_sortedK _) hb.size (fun k e => by cases e; exact hbase)
    rw [HLL.out] at hr2
    generalize sortWorldK encP 2 w1 g 0 n (L.map plI).toArray os = w2 at *
    have HR2 : Hid _ := hr2
    clear q1 q2 HS HR hr2
    go_wp2
    go_ret
    exact ⟨some ⟨g, 0, none⟩, cap, by rw [← HLL.out]; rfl, HR2.out, hb2⟩

set_option maxHeartbeats 1600000 in
theorem places_any (h0 h1 h2 : Int) (bi bp n : Nat) (L : List Sd) (w : World) (hm : Maps2 w bi bp n L) (hL : Lives L) (hlen : L.length ≤ 100000000) :
    Calls Tryz.prog 90 #[.agg #[.int .i64 h0, .int .i64 h1, .int .i64 h2, .map (some bi), .map (some bp)]] w fun e w' => ∃ a cap, e = .returned (.slice a L.length cap) ∧ w'.ownsRow w.heap.size 165 2 (.slice a L.length cap) L.length (cellsQ L) ∧ Below w.heap.size w w' := by
  obtain ⟨hbi, hbp⟩ := hm.lt
  obtain ⟨DI, DP, ⟨hI, vI, zI⟩, hP, vP⟩ := hm
  have HK : Hid (∀ wx mb, _) := fun wx mb => callsIn_wide.1 (keys_in 1 mb wx)
  have HI : Hid (w.ownsMap Tryz.prog 165 rIt bi n DI) := hI
  have HV : Hid (View DI (fI L)) := vI
  have HL : Hid (Lives L) := hL
  have HZ : Hid (Maps.size DI = L.length) := zI
  clear hI hP vP vI hL zI
  go_enter Tryz.func90, Tryz.ntmps90
  go_wp2_with fail
  refine Calls.mono (HK.out _ _) ?_
  rintro e w1 ⟨rfl, rfl⟩
  obtain ⟨W1, hW1⟩ : ∃ W1, W1 = (w.alloc (.cells #[.int .i64 h0, .int .i64 h1, .int .i64 h2, .map (some bi), .map (some bp)] 100)).alloc (.cells #[.map (some bi)] 97) := ⟨_, rfl⟩
  have hB : Below w.heap.size w W1 := by rw [hW1]; exact ((Below.refl _ _).alloc (Nat.le_refl _) _).alloc (by simp) _
  have hz : W1.heap.size = w.heap.size + 1 + 1 := by rw [hW1]; simp
  have hc : W1.cell? ⟨w.heap.size + 1, 0, none⟩ = some (.map (some bi)) := by rw [hW1, World.cell?_alloc_at _ _ _ _ (by simp)]; rfl
  have hI : W1.ownsMap Tryz.prog 165 rIt bi n DI := by rw [hW1]; exact (HI.out.alloc _).alloc _
  have HS : Hid _ := sortedFunc_any (w.heap.size + 1) bi n L DI W1 (by omega) hc hI HV.out HZ.out HL.out hlen
  have hsize : (w.alloc (.cells #[.int .i64 h0, .int .i64 h1, .int .i64 h2, .map (some bi), .map (some bp)] 100)).heap.size = w.heap.size + 1 := by simp
  rw [hsize]
  rw [← hW1]
  clear hc hI hsize HK hW1
  go_wp2_with fail
  refine Calls.mono HS.out ?_
  rintro e w2 ⟨a, cap, rfl, hr, hb⟩
  have HR : Hid (w2.ownsRow w.heap.size 165 2 (.slice a L.length cap) L.length (cellsQ L)) := Joins.ownsRow_le hr (by omega)
  clear HS hr
  go_wp2
  go_ret
  exact ⟨a, cap, rfl, HR.out, hB.trans (hb.mono (by omega))⟩
end Go.Proofs.YtdhgebdbiehchaaGreatDoor
namespace Go.Proofs.YtdhgebdbiehchaaGreatDoor
open Go.RowKit Go.Maps
set_option linter.unusedSimpArgs false
set_option linter.unusedVariables false

theorem zeroIt (w : World) : (zeroValue 54).run Tryz.prog w = .ok (.agg #[.string ⟨#[]⟩, .string ⟨#[]⟩]) w := by first | exact Tryz.zeroValue54 w | kernel_rfl

set_option maxRecDepth 100000 in
set_option maxHeartbeats 1600000 in
theorem at_any (h0 h1 h2 : Int) (bi bp n : Nat) (L : List Sd) (x : Sd) (w : World) (hm : Maps2 w bi bp n L) (hL : Lives L) (hx : x ∈ L) :
    Calls Tryz.prog 94 #[.agg #[.int .i64 h0, .int .i64 h1, .int .i64 h2, .map (some bi), .map (some bp)], .agg #[.int .i64 x.blk, .int .i64 x.no]] w fun e w' => e = .returned (.agg #[.string (S x.key), .string (S x.val)]) ∧ Below w.heap.size w w' := by
  obtain ⟨hbi, hbp⟩ := hm.lt
  obtain ⟨DI, DP, ⟨hI, vI, zI⟩, hP, vP⟩ := hm
  have hs := hL.small x hx
  have hpk := keyOf_pk hs.1 hs.2
  have hat : DI.atKey (pk x.blk x.no) (.agg [.lit (.string []), .lit (.string [])]) = itemD x := by rw [(vI.2 _).1, fI_mem pkInj hL hx]; rfl
  have hI3 := ((hI.alloc (.cells #[.int .i64 h0, .int .i64 h1, .int .i64 h2, .map (some bi), .map (some bp)] 100)).alloc (.cells #[.int .i64 (x.blk : Int), .int .i64 (x.no : Int)] 165)).alloc (.cells #[.string ⟨#[]⟩, .string ⟨#[]⟩] 54)
  obtain ⟨v, ps, hrun, hv⟩ := hI3.lookup keyedPl Tryz.underlying97 (zeroIt _) (zd := .agg [.lit (.string []), .lit (.string [])]) (zp := []) (rIt_mk _ _) hpk
  rw [hat] at hv
  obtain ⟨a', b', rfl, ea, eb⟩ := rIt_inv hv
  have ea' : a' = S x.key := by rw [← ea, S_of]
  have eb' : b' = S x.val := by rw [← eb, S_of]
  subst ea' eb'
  clear hat hv ea eb vI vP zI hI hP hI3
  go_enter Tryz.func94, Tryz.ntmps94
  go_wp2
  refine bodyPost_ret (v := .agg #[.string (S x.key), .string (S x.val)]) ?_ rfl ⟨rfl, ?_⟩
  · simp [results, Tryz.results94, go_sem]
  · exact (((Below.refl _ _).alloc (Nat.le_refl _) _).alloc (by simp) _).alloc (by simp; omega) _
end Go.Proofs.YtdhgebdbiehchaaGreatDoor
